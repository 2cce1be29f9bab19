import PyProof.Rows.All
import Wide.All
import OpenK.AllK
import Wide.FinOn
import Lean
import PyProof.EqAt
import PyProof.EqKinds
import PyProof.TupleCall
import PyProof.Rows.CatFin
import PyProof.StrLawsIn
import KE.IntTextLaws
import KE.IntTextText
import PyProof.SumAny
import PyProof.SeqI3
import PyProof.WalkInts
import PyProof.NeKinds
import KE.KDictLaws
import PyProof.DictIter
import PyProof.DictWalks
import PyProof.Rows.DictUnroll
import KE.KSortTup
import PyProof.StrLawsTight
import PyProof.StrLawsChain
import PyProof.Rows.StrLawsPart
import PyProof.Rows.StrFirst
import PyProof.Rows.ReprOcc
import PyProof.Rows.StrItems
import PySem.Challenge.RW_jumpfield_k50_refused_jumps
set_option Elab.async false
set_option linter.all false
set_option maxRecDepth 100000
set_option maxHeartbeats 8000000
namespace L2
open PySem PySem.Spec PyProof.Rows
abbrev Key := Sum Int Str
def keyIs : Key -> Value -> Bool
 | .inl k, v => Value.isInt k v
 | .inr x, v => Value.isStrOf x v
def keyH (w : World) : Key -> Int
 | .inl k => hashInt k
 | .inr x => hashStr w x
theorem keyIs_shape : ∀ {k : Key} {v : Value}, keyIs k v = true -> (∃ i t, k = Sum.inl i /\ v = Value.int i t) \/ (∃ x t, k = Sum.inr x /\ v = Value.str x t)
 | .inl i, v, h => by
  obtain ⟨t, e⟩ := Value.isInt_shape (k := i) (v := v) h
  exact .inl ⟨i, t, rfl, e⟩
 | .inr x, v, h => by
  obtain ⟨t, e⟩ := Value.isStrOf_shape (x := x) (v := v) h
  exact .inr ⟨x, t, rfl, e⟩
theorem keyIs_int (i : Int) (t : Tok) : keyIs (.inl i) (.int i t) = true := by simp [keyIs, Value.isInt]
theorem keyIs_str (x : Str) (t : Tok) : keyIs (.inr x) (.str x t) = true := by simp [keyIs, Value.isStrOf]
theorem key_ll (a b : Int) : decide ((Sum.inl a : Key) = Sum.inl b) = (a == b) := by
 by_cases e : a = b
 ·subst e; simp
 ·have h : ¬ (Sum.inl a : Key) = Sum.inl b := fun q => e (Sum.inl.inj q)
  rw [decide_eq_false h]
  exact (beq_eq_false_iff_ne.mpr e).symm
theorem key_rr (a b : Str) : decide ((Sum.inr a : Key) = Sum.inr b) = decide (a = b) := by
 by_cases e : a = b
 ·subst e; simp
 ·have h : ¬ (Sum.inr a : Key) = Sum.inr b := fun q => e (Sum.inr.inj q)
  rw [decide_eq_false h, decide_eq_false e]
theorem key_lr (a : Int) (b : Str) : decide ((Sum.inl a : Key) = Sum.inr b) = false := decide_eq_false (fun q => nomatch q)
theorem key_rl (a : Str) (b : Int) : decide ((Sum.inr a : Key) = Sum.inl b) = false := decide_eq_false (fun q => nomatch q)
def mixKind (prog : Program) (w : World) : PySem.KeyKind prog w Key where
 is := keyIs
 hash := keyH w
 inj := fun v a b ha hb => by
  rcases keyIs_shape ha with ⟨i, t, rfl, rfl⟩ | ⟨x, t, rfl, rfl⟩
  ·rcases keyIs_shape hb with ⟨j, u, rfl, e⟩ | ⟨y, u, rfl, e⟩
   ·injection e with e1 _; rw [e1]
   ·exact nomatch e
  ·rcases keyIs_shape hb with ⟨j, u, rfl, e⟩ | ⟨y, u, rfl, e⟩
   ·exact nomatch e
   ·injection e with e1 _; rw [e1]
 byValue := fun k v h => by
  rcases keyIs_shape h with ⟨i, t, rfl, rfl⟩ | ⟨x, t, rfl, rfl⟩ <;> rfl
 pyHash := fun hv h => by
  rcases keyIs_shape hv with ⟨i, t, rfl, rfl⟩ | ⟨x, t, rfl, rfl⟩
  ·exact wpAny_pyHash_int h
  ·exact wpAny_pyHash_str h
 eqBool := fun hu hv h => by
  rcases keyIs_shape hu with ⟨i, t, rfl, rfl⟩ | ⟨x, t, rfl, rfl⟩
  ·rcases keyIs_shape hv with ⟨j, u, rfl, rfl⟩ | ⟨y, u, rfl, rfl⟩
   ·rw [key_ll] at h; exact wpAny_eqBool_int h
   ·rw [key_lr] at h; exact SeqAt.EqAt.int_str i t y u _ _ _ _ h
  ·rcases keyIs_shape hv with ⟨j, u, rfl, rfl⟩ | ⟨y, u, rfl, rfl⟩
   ·rw [key_rl] at h; exact SeqAt.EqAt.str_int x t j u _ _ _ _ h
   ·rw [key_rr] at h; exact wpAny_eqBool_str h
 «strs» := fun k x t v h => by
  rcases keyIs_shape h with ⟨i, u, rfl, e⟩ | ⟨y, u, rfl, e⟩
  ·exact nomatch e
  ·injection e with e1 _
   subst e1
   cases v <;> rfl
theorem mixKind_int (prog : Program) (w : World) (i : Int) (t : Tok) : (mixKind prog w).is (.inl i) (.int i t) = true := keyIs_int i t
theorem mixKind_str (prog : Program) (w : World) (x : Str) (t : Tok) : (mixKind prog w).is (.inr x) (.str x t) = true := keyIs_str x t
end L2
namespace L2
open PySem PySem.Spec PyProof.Rows
inductive V where
 | non | bl (b : Bool) | int (i : Int) | str (x : Str) | byt (b : Array UInt8) | flt (b : UInt64) | ref (a : Addr) | ty (n : String)
 deriving DecidableEq
def RelV : V -> Value -> Prop
 | .non, u => u = Value.none
 | .bl b, u => u = Value.bool b
 | .int i, u => ∃ t, u = Value.int i t
 | .str x, u => ∃ t, u = Value.str x t
 | .byt b, u => ∃ t, u = Value.bytes b t
 | .flt b, u => ∃ t, u = Value.float b t
 | .ref a, u => u = Value.ref a
 | .ty n, u => u = Value.type n
abbrev Vals : List V -> List Value -> Prop := Paired RelV
theorem Vals.length {xs : List V} {us : List Value} (r : Vals xs us) : xs.length = us.length := Paired.length r
theorem Vals.get : ∀ {xs : List V} {us : List Value} {i : Nat} {x : V}, Vals xs us -> xs[i]? = some x -> ∃ u, us[i]? = some u /\ RelV x u
 | _, _, _, _, .nil, e => by simp at e
 | _, _, 0, _, .cons r _, e => by simp at e; subst e; exact ⟨_, rfl, r⟩
 | _, _, i + 1, x, .cons _ t, e => by
  obtain ⟨u, h1, h2⟩ := Vals.get (i := i) (x := x) t (by simpa using e)
  exact ⟨u, by simpa using h1, h2⟩
theorem Vals.append : ∀ {xs ys : List V} {us ws : List Value}, Vals xs us -> Vals ys ws -> Vals (xs ++ ys) (us ++ ws)
 | _, _, _, _, .nil, s => s
 | _, _, _, _, .cons r t, s => .cons r (Vals.append t s)
theorem Vals.take : ∀ {xs : List V} {us : List Value} (n : Nat), Vals xs us -> Vals (xs.take n) (us.take n)
 | _, _, 0, _ => .nil
 | _, _, _ + 1, .nil => .nil
 | _, _, n + 1, .cons r t => .cons r (Vals.take n t)
theorem Vals.drop : ∀ {xs : List V} {us : List Value} (n : Nat), Vals xs us -> Vals (xs.drop n) (us.drop n)
 | _, _, 0, r => r
 | _, _, _ + 1, .nil => .nil
 | _, _, n + 1, .cons _ t => Vals.drop n t
theorem Vals.none_of : ∀ {xs : List V} {us : List Value} {i : Nat}, Vals xs us -> xs[i]? = none -> us[i]? = none := fun {xs us i} r e => by
 have h1 := r.length
 have h2 : xs.length <= i := List.getElem?_eq_none_iff.mp e
 exact List.getElem?_eq_none_iff.mpr (by lia)
def RelO : Option V -> Option Value -> Prop
 | some v, some u => RelV v u
 | none, none => True
 | _, _ => False
def KV {κ : Type} : List (κ × V) -> List (κ × Value) -> Prop := Paired fun (p : κ × V) (q : κ × Value) => p.1 = q.1 /\ RelV p.2 q.2
def kV : Key -> V
 | .inl i => .int i
 | .inr x => .str x
inductive HO where
 /-- a list -/
 | lst (xs : List V)
 /-- a tuple (never changes) -/
 | tup (xs : List V)
 /-- a dict whose keys are ints and texts; one whose keys are tuples of ints and texts (the empty one is both) -/
 | dK (kvs : List (Key × V)) | dT (kvs : List (List Key × V))
 /-- a set of ints: its members, its size -/
 | set (S : Int -> Bool) (n : Nat)
 /-- an instance of the class at C, its dict at dx, its attributes -/
 | ins (C dx : Addr) (fs : List (Str × V))
 /-- the dict of the instance at x -/
 | own (x : Addr)
 /-- the dict of an exception -/
 | xd (fs : List (Str × V))
 /-- a bound method, f of x -/
 | met (f x : Addr)
 /-- a range object lo, lo + 1, .. below hi -/
 | rng (lo hi : Int)
 /-- a thing that is known to the object (the script; a dict while a loop walks it): read, never written while it is so -/
 | frz (o : Obj) (u : HO)
 /-- a code object's table -/
 | tbl (ps : Array Value)
 /-- any other thing, by what is true of its one object (a def of one's own: SetO a S n := HO.ext fun h => ..) -/
 | ext (φ : Heap -> Prop)
abbrev Hp := Addr -> Option HO
def upd (H : Hp) (a : Addr) (o : HO) : Hp := fun b => if b = a then some o else H b
theorem upd_same {H : Hp} {a : Addr} {o : HO} : upd H a o a = some o := by unfold upd; rw [if_pos rfl]
theorem upd_ne {H : Hp} {a b : Addr} {o : HO} (h : b ≠ a) : upd H a o b = H b := by unfold upd; rw [if_neg h]
theorem upd_upd {H : Hp} {a : Addr} {o u : HO} : upd (upd H a o) a u = upd H a u := by
 funext b; unfold upd; split <;> rfl
theorem ne_of {H : Hp} {a b : Addr} {o u : HO} (h : H a = some o) (h' : H b = some u) (d : o ≠ u) : a ≠ b := by
 intro e; subst e; rw [h] at h'; exact d (Option.some.inj h')
theorem ne_of_none {H : Hp} {a b : Addr} {o : HO} (h : H a = some o) (h' : H b = none) : a ≠ b := by
 intro e; subst e; rw [h] at h'; cases h'
section
variable (P : Program) (w : World)
def ObjOk (H : Hp) (h : Heap) (a : Addr) : HO -> Prop
 | .lst xs => xs.length <= sizeLine /\ ∃ (its : List Value) (n : Nat), Vals xs its /\ h.get? a = some { cls := .type "list", data := .seq its.toArray n }
 | .tup xs => xs.length <= sizeLine /\ ∃ its : List Value, Vals xs its /\ IsTup h a its.toArray
 | .dK kvs => kvs.length <= sizeLine /\ (a == sysModules) = false /\ ∃ vs, KV kvs vs /\ h.DictOf (mixKind P w) a vs
 | .dT kvs => kvs.length <= sizeLine /\ (a == sysModules) = false /\ ∃ xs : List (List Key × Addr × Value),
   Paired (fun (p : List Key × V) (q : List Key × Addr × Value) => p.1 = q.1 /\ H q.2.1 = some (.tup (p.1.map kV)) /\ RelV p.2 q.2.2) kvs xs /\
   ∃ o es ep, h.get? a = some o /\ o.ExactDict /\ o.data = .dict es ep /\ es.toList = xs.map (entryOfKey (tupleKind (mixKind P w))) /\ (xs.map (·.1)).Nodup
 | .set S n => h.SetOf (intKind P w) a S n
 | .ins C dx fs => H dx = some (.own a) /\ fs.length <= 1000 /\ dx ≠ a /\ h.get? a = some (PySem.W.instObj C dx) /\
   ∃ mA, h.Ns1 dx mA /\ (∀ f, RelO (fs.lookup f) (mA f)) /\ PySem.Within mA (fs.map (·.1))
 | .own _ => ∃ o, h.get? a = some o
 | .xd fs => ∃ mA, h.Ns1 a mA /\ ∀ f, RelO (fs.lookup f) (mA f)
 | .rng lo hi => ∃ t u v, h.get? a = some { cls := .type "range", data := .fields #[.int lo t, .int hi u, .int 1 v] }
 | .frz o u => h.get? a = some o /\ ObjOk H h a u
 | .tbl ps => h.get? a = some { cls := .none, data := .fields ps }
 | .met f x => h.get? a = some (PySem.W.methodObj (.ref f) (.ref x))
 | .ext φ => φ h /\ (∃ o, h.get? a = some o) /\ ∀ h1 h2 : Heap, φ h1 -> (∀ o, h1.get? a = some o -> h2.get? a = some o) -> φ h2
def HOk (H : Hp) (h : Heap) : Prop := ∀ a o, H a = some o -> ObjOk P w H h a o
end
section
variable {P : Program} {w : World} {H H' : Hp} {h h' : Heap} {a : Addr} {o : HO}
theorem ObjOk.lt (x : ObjOk P w H h a o) : a < h.objs.size := by
 cases o with
 | lst xs => obtain ⟨_, _, _, _, e⟩ := x; exact Heap.lt_size e
 | tup xs => obtain ⟨_, _, _, p⟩ := x; exact p.lt
 | dK kvs => obtain ⟨_, _, _, _, o, _, _, e, _⟩ := x; exact Heap.lt_size e
 | dT kvs => obtain ⟨_, _, _, _, o, _, _, e, _⟩ := x; exact Heap.lt_size e
 | set S n => obtain ⟨o, _, _, _, e, _⟩ := x; exact Heap.lt_size e
 | ins C dx fs => obtain ⟨_, _, _, e, _⟩ := x; exact Heap.lt_size e
 | own y => obtain ⟨_, e⟩ := x; exact Heap.lt_size e
 | xd fs => obtain ⟨_, ⟨_, _, _, e, _⟩, _⟩ := x; exact Heap.lt_size e
 | rng lo hi => obtain ⟨_, _, _, e⟩ := x; exact Heap.lt_size e
 | frz ob u => obtain ⟨e, _⟩ := x; exact Heap.lt_size e
 | tbl ps => exact Heap.lt_size (show h.get? a = some _ from x)
 | met f y => exact Heap.lt_size (show h.get? a = some _ from x)
 | ext φ => obtain ⟨_, ⟨_, e⟩, _⟩ := x; exact Heap.lt_size e
theorem Paired.mapP {α β : Type} {F G : α -> β -> Prop} : ∀ {l₁ : List α} {l₂ : List β}, Paired F l₁ l₂ -> (∀ a b, F a b -> G a b) -> Paired G l₁ l₂
 | _, _, .nil, _ => .nil
 | _, _, .cons r t, f => .cons (f _ _ r) (Paired.mapP t f)
theorem ObjOk.stay (x : ObjOk P w H h a o) (k : ∀ b u, (b = a \/ H b = some (.own a)) -> h.get? b = some u -> h'.get? b = some u)
  (ho : ∀ b, H b = some (.own a) -> H' b = some (.own a)) (ht : ∀ b xs, H b = some (.tup xs) -> H' b = some (.tup xs)) : ObjOk P w H' h' a o := by
 induction o with
 | lst xs => obtain ⟨z, its, n, r, e⟩ := x; exact ⟨z, its, n, r, k _ _ (.inl rfl) e⟩
 | tup xs => obtain ⟨z, its, r, ob, e, c⟩ := x; exact ⟨z, its, r, ob, k _ _ (.inl rfl) e, c⟩
 | dK kvs => obtain ⟨z, y, vs, r, ob, es, ep, e, c⟩ := x; exact ⟨z, y, vs, r, ob, es, ep, k _ _ (.inl rfl) e, c⟩
 | dT kvs =>
  obtain ⟨z, y, xs, r, ob, es, ep, e, c⟩ := x
  exact ⟨z, y, xs, Paired.mapP r fun p q z => ⟨z.1, ht _ _ z.2.1, z.2.2⟩, ob, es, ep, k _ _ (.inl rfl) e, c⟩
 | set S n => obtain ⟨ob, es, ep, t, e, c⟩ := x; exact ⟨ob, es, ep, t, k _ _ (.inl rfl) e, c⟩
 | ins C dx fs =>
  obtain ⟨d, z, ne, e, mA, ⟨od, es, ep, e2, c⟩, r⟩ := x
  exact ⟨ho _ d, z, ne, k _ _ (.inl rfl) e, mA, ⟨od, es, ep, k _ _ (.inr d) e2, c⟩, r⟩
 | own y => obtain ⟨ob, e⟩ := x; exact ⟨ob, k _ _ (.inl rfl) e⟩
 | xd fs => obtain ⟨mA, ⟨od, es, ep, e, c⟩, r⟩ := x; exact ⟨mA, ⟨od, es, ep, k _ _ (.inl rfl) e, c⟩, r⟩
 | rng lo hi => obtain ⟨t, u, v, e⟩ := x; exact ⟨t, u, v, k _ _ (.inl rfl) e⟩
 | frz ob u ih => obtain ⟨e, q⟩ := x; exact ⟨k _ _ (.inl rfl) e, ih q⟩
 | tbl ps =>
  have e : h.get? a = some { cls := .none, data := .fields ps } := x
  show h'.get? a = some { cls := .none, data := .fields ps }
  exact k a _ (.inl rfl) e
 | met f y =>
  have e : h.get? a = some (PySem.W.methodObj (.ref f) (.ref y)) := x
  show h'.get? a = some (PySem.W.methodObj (.ref f) (.ref y))
  exact k a _ (.inl rfl) e
 | ext φ => obtain ⟨p, ⟨o, e⟩, st⟩ := x; exact ⟨st _ _ p fun o q => k _ _ (.inl rfl) q, ⟨o, k _ _ (.inl rfl) e⟩, st⟩
theorem HOk.lt (x : HOk P w H h) (e : H a = some o) : a < h.objs.size := (x a o e).lt
theorem HOk.fresh (x : HOk P w H h) (e : h.objs.size <= a) : H a = none := by
 cases q : H a with
 | none => rfl
 | some u => exact absurd (Nat.lt_of_lt_of_le (x.lt q) e) (Nat.lt_irrefl _)
theorem HOk.kept (x : HOk P w H h) (k : ∀ b u, h.get? b = some u -> h'.get? b = some u) : HOk P w H h' := fun a o e =>
 (x a o e).stay (fun b u _ q => k b u q) (fun _ q => q) fun _ _ q => q
theorem HOk.laid (x : HOk P w H h) (k : ∀ b u, h.get? b = some u -> h'.get? b = some u) (hp : h.objs.size <= a) (new : ObjOk P w (upd H a o) h' a o) : HOk P w (upd H a o) h' := fun b u e => by
 have hn := x.fresh hp
 by_cases hb : b = a
 ·subst hb; rw [upd_same] at e; cases e; exact new
 ·rw [upd_ne hb] at e
  exact (x b u e).stay (fun c v _ q => k c v q) (fun c q => by rw [upd_ne (ne_of_none q hn)]; exact q) fun c xs q => by rw [upd_ne (ne_of_none q hn)]; exact q
end
def Rd (H : Hp) (a : Addr) (u : HO) : Prop := H a = some u \/ ∃ o, H a = some (.frz o u)
theorem Rd.ok {P : Program} {w : World} {H : Hp} {h : Heap} {a : Addr} {u : HO} (r : Rd H a u) (x : HOk P w H h) : ObjOk P w H h a u := by
 rcases r with r | ⟨o, r⟩
 ·exact x a u r
 ·obtain ⟨_, q⟩ := x a _ r
  exact q
def Mut : Option HO -> Prop
 | some (.lst _) => True
 | some (.dK _) => True
 | some (.dT _) => True
 | some (.set _ _) => True
 | some (.ins _ _ _) => True
 | some (.ext _) => True
 | _ => False
section
variable {P : Program} {w : World} {H : Hp} {h h' : Heap} {x e : Addr} {o' : HO}
theorem HOk.write (ok : HOk P w H h) (mu : Mut (H x)) (he : e = x \/ H e = some (.own x)) (k : ∀ b u, b ≠ e -> h.get? b = some u -> h'.get? b = some u) (heo : ∃ u, h'.get? e = some u)
  (new : ObjOk P w (upd H x o') h' x o') : HOk P w (upd H x o') h' := fun b u q => by
 have nown : ∀ c y, H c = some (.own y) -> c ≠ x := fun c y r z => by subst z; rw [r] at mu; exact mu
 have ntup : ∀ c xs, H c = some (.tup xs) -> c ≠ x := fun c xs r z => by subst z; rw [r] at mu; exact mu
 by_cases hb : b = x
 ·subst hb; rw [upd_same] at q; cases q; exact new
 ·rw [upd_ne hb] at q
  by_cases hbe : b = e
  ·have q' : H b = some (.own x) := by
    rcases he with z | z
    ·exact absurd (hbe.trans z) hb
    ·rw [hbe]; exact z
   rw [q] at q'; cases q'
   obtain ⟨v, hv⟩ := heo
   exact ⟨v, by rw [hbe]; exact hv⟩
  ·refine (ok b u q).stay (fun c v hc r => k c v ?_ r) (fun c r => by rw [upd_ne (nown c b r)]; exact r) fun c xs r => by rw [upd_ne (ntup c xs r)]; exact r
   rcases hc with rfl | hc
   ·exact hbe
   ·rintro rfl
    rcases he with z | z
    ·exact nown c b hc z
    ·rw [hc] at z; cases z; exact hb rfl
end
structure Un (fs ex : List Addr) (H H' : Hp) (h h' : Heap) : Prop where
 keep : ∀ b o, h.get? b = some o -> H b = none -> b ∉ fs -> b ∉ ex -> h'.get? b = some o
 slot : ∀ b o, h.get? b = some o -> H b = none -> b ∈ fs -> b ∉ ex -> ∃ sl, h'.get? b = some { o with slots := sl }
 free : ∀ b o, h.get? b = some o -> H b = none -> b ∉ ex -> H' b = none
 there : ∀ b o, h.get? b = some o -> b ∉ ex -> ∃ o', h'.get? b = some o'
 tups : ∀ b xs, H b = some (.tup xs) -> H' b = some (.tup xs)
 frzs : ∀ b o u, H b = some (.frz o u) -> H' b = some (.frz o u)
 tbls : ∀ b ps, H b = some (.tbl ps) -> ∃ more, H' b = some (.tbl (ps ++ more))
section
variable {fs fs' ex ex' : List Addr} {H H1 H2 : Hp} {h h1 h2 h' : Heap} {a x e : Addr} {o : HO}
theorem Un.any (u : Un fs ex H H1 h h1) {b : Addr} {ob : Obj} (q : h.get? b = some ob) (n : H b = none) (hx : b ∉ ex) : ∃ sl, h1.get? b = some { ob with slots := sl } := by
 by_cases hb : b ∈ fs
 ·exact u.slot b ob q n hb hx
 ·exact ⟨ob.slots, u.keep b ob q n hb hx⟩
theorem Un.kept (k : ∀ b u, h.get? b = some u -> h'.get? b = some u) : Un fs ex H H h h' :=
 ⟨fun b ob q _ _ _ => k b ob q, fun b ob q _ _ _ => ⟨ob.slots, k b ob q⟩, fun _ _ _ n _ => n, fun b ob q _ => ⟨ob, k b ob q⟩, fun _ _ q => q, fun _ _ _ q => q, fun _ ps q => ⟨#[], by rw [q]; simp⟩⟩
theorem Un.refl : Un fs ex H H h h := Un.kept fun _ _ q => q
theorem Un.laid (k : ∀ b u, h.get? b = some u -> h'.get? b = some u) (hp : h.objs.size <= a) (hn : H a = none) : Un fs ex H (upd H a o) h h' where
 keep := fun b u q _ _ _ => k b u q
 slot := fun b u q _ _ _ => ⟨u.slots, k b u q⟩
 free := fun b u q n _ => by rw [upd_ne (Nat.ne_of_lt (Nat.lt_of_lt_of_le (Heap.lt_size q) hp))]; exact n
 there := fun b u q _ => ⟨u, k b u q⟩
 tups := fun b xs q => by rw [upd_ne (ne_of_none q hn)]; exact q
 frzs := fun b u xs q => by rw [upd_ne (ne_of_none q hn)]; exact q
 tbls := fun b ps q => ⟨#[], by rw [upd_ne (ne_of_none q hn), q]; simp⟩
theorem Un.write (mu : Mut (H x)) (he : e = x \/ H e = some (.own x)) (k : ∀ b u, b ≠ e -> h.get? b = some u -> h'.get? b = some u) (heo : ∃ u, h'.get? e = some u) : Un fs ex H (upd H x o) h h' := by
 have hx : ∀ b, H b = none -> b ≠ x := fun b n z => by subst z; rw [n] at mu; exact mu
 have hb : ∀ b, H b = none -> b ≠ e := fun b n z => by
  subst z
  rcases he with r | r
  ·exact hx b n r
  ·rw [n] at r; cases r
 have hm : ∀ b u, H b = some u -> ¬ Mut (some u) -> b ≠ x := fun b u q nm z => by subst z; rw [q] at mu; exact nm mu
 refine ⟨fun b u q n _ _ => k b u (hb b n) q, fun b u q n _ _ => ⟨u.slots, k b u (hb b n) q⟩, fun b u q n _ => by rw [upd_ne (hx b n)]; exact n, fun b u q _ => ?_,
  fun b xs q => by rw [upd_ne (hm b _ q fun z => z)]; exact q, fun b u xs q => by rw [upd_ne (hm b _ q fun z => z)]; exact q, fun b ps q => ⟨#[], by rw [upd_ne (hm b _ q fun z => z), q]; simp⟩⟩
 by_cases hbe : b = e
 ·subst hbe; exact heo
 ·exact ⟨u, k b u hbe q⟩
end
def trk (h : Heap) (H : Hp) : List Addr := (List.range h.objs.size).filter fun a => (H a).isSome
def hidT (h : Heap) (H : Hp) : Heap := PySem.W.hideAll h (trk h H)
theorem hidT_size (h : Heap) (H : Hp) : (hidT h H).objs.size = h.objs.size := PySem.W.hideAll_size _ _
theorem hidT_get {h : Heap} {H : Hp} {b : Addr} {o : Obj} (e : h.get? b = some o) (n : H b = none) : (hidT h H).get? b = some o :=
 PySem.W.hideAll_get _ e fun hm => by
  have q : (H b).isSome = true := (List.mem_filter.mp hm).2
  rw [n] at q; simp at q
theorem of_hidT {h : Heap} {H : Hp} {b : Addr} {o : Obj} (e : (hidT h H).get? b = some o) : h.get? b = some o /\ H b = none := by
 have e' : h.get? b = some o := PySem.W.of_hideAll (trk h H) e
 refine ⟨e', ?_⟩
 cases q : H b with
 | none => rfl
 | some x =>
  have hm : b ∈ trk h H := List.mem_filter.mpr ⟨List.mem_range.mpr (Heap.lt_size e'), by simp [q]⟩
  have z : (hidT h H).get? b = none := PySem.W.hideAll_none (trk h H) hm
  rw [z] at e; cases e
end L2
namespace L2
open PySem PySem.Spec PyProof.Rows
structure Mod (K : PySem.W.Frag) (mg : Str -> Option Value) (base : Heap) : Prop where
 kin : K.In base
 glob : base.Ns mainGlobals mg
 blt : ∃ mb, base.Ns builtinsNs mb /\ ∀ x : Str, x ≠ "__name__" -> mb x = bootBuiltins x
 nolimit : base.NoLimit
/-- the context: a def's body (or a comprehension's block) running. base: fixed through the whole law; s₀, H₀: the entry; outer: the frames whose slots others may change (a def's callers); stack: all frames that run;
 ex: iterators that were made ahead of the entry and are walked here (a comprehension's); fn: the names whose cells were made at the entry (a def: all; a comprehension's block: its own); calm: not within an except suite; pn: pins that every state bears; xe: what is wanted of an exception that leaves the code -/
structure Cx where
 prog : Program
 w : World
 K : PySem.W.Frag
 mg : Str -> Option Value
 base : Heap
 A : Around
 N : List Str
 s₀ : Shared
 H₀ : Hp
 env : Env
 outer : List Env
 stack : List Env
 ex : List Addr
 fn : Str -> Bool
 calm : Bool
 pn : List (Addr × Obj)
 xe : Value -> Shared -> Prop
def frs (l : List Env) : List Addr := l.filterMap (·.frame)
abbrev Cx.fs (X : Cx) : List Addr := frs X.outer
def Vis (sc : Scope) (x : Str) : Prop := sc.names.lookup x = some .local \/ sc.names.lookup x = some .cell \/ sc.names.lookup x = some .free
def Loc (sc : Scope) (x : Str) : Prop := sc.names.lookup x = some .local \/ sc.names.lookup x = some .cell
def Look (env : Env) (h : Heap) (m : Str -> Option Value) (x : Str) (u : Value) : Prop :=
 (env.kindOf x = some .local /\ m x = some u) \/ ((env.kindOf x = some .cell \/ env.kindOf x = some .free) /\ ∃ c, env.cells.lookup x = some c /\ h.IsCell c (some u))
structure Cx.Ok (X : Cx) : Prop where
 mod : Mod X.K X.mg X.base
 kind : X.env.scope.kind = .function
 glob : X.env.globals = mainGlobals
 blt : X.env.builtins = builtinsNs
 above : X.s₀.heap.objs.size <= X.env.locals
 inj : ∀ x y c, X.env.cells.lookup x = some c -> X.env.cells.lookup y = some c -> x = y
 has : ∀ x, (X.env.kindOf x = some .cell \/ X.env.kindOf x = some .free) -> ∃ c, X.env.cells.lookup x = some c
 cab : ∀ x c, X.fn x = true -> X.env.cells.lookup x = some c -> X.s₀.heap.objs.size <= c
 hd : X.calm = true -> X.A.handled = none
 frames : X.A.frames = some X.stack
 stk : X.stack = X.outer \/ (X.stack = X.env :: X.outer /\ X.env.frame = some X.env.locals)
 exf : ∀ b ∈ X.ex, b ≠ X.env.locals /\ ∀ x c, X.env.cells.lookup x = some c -> c ≠ b
 bs : ∀ b o, X.base.get? b = some o -> X.s₀.heap.get? b = some o /\ X.H₀ b = none
 bsz : X.base.objs.size <= X.s₀.heap.objs.size
 noex : ∀ b o, X.base.get? b = some o -> b ∉ X.ex
 exfs : ∀ b ∈ X.ex, b ∉ X.fs
 funs : X.s₀.heap.FunFrames X.base X.outer
 frf : ∀ b ∈ X.fs, X.H₀ b = none
structure Inv (X : Cx) (pins : List (Addr × Obj)) (σ : List (Option V)) (H : Hp) (s : Shared) : Prop where
 ok : X.Ok
 os : s.os = X.s₀.os
 bare : AllBare s.gens
 base : Un X.fs X.ex X.H₀ H X.s₀.heap s.heap
 loc : ∃ m, s.heap.Ns X.env.locals m /\ ∀ (i : Nat) (x : Str) (v : V), X.N[i]? = some x -> σ[i]? = some (some v) -> Vis X.env.scope x -> ∃ u, RelV v u /\ Look X.env s.heap m x u
 cell : ∀ x c, X.env.cells.lookup x = some c -> ∃ v, s.heap.IsCell c v
 free : H X.env.locals = none
 freeC : ∀ x c, X.env.cells.lookup x = some c -> H c = none
 pin : ∀ p ∈ X.pn ++ pins, s.heap.get? p.1 = some p.2 /\ H p.1 = none /\ p.1 ≠ X.env.locals /\ p.1 ∉ X.fs /\ ∀ v, p.2.data ≠ .cell v
 hok : HOk X.prog X.w H s.heap
 len : σ.length = X.N.length
section
variable {X : Cx} {pins : List (Addr × Obj)} {σ : List (Option V)} {H H' : Hp} {s : Shared} {h' : Heap}
theorem Cx.Ok.nofr (ok : X.Ok) {b : Addr} {o : Obj} (e : X.base.get? b = some o) : b ∉ X.fs := fun hb => by
 have := (ok.funs.mem hb).1
 rw [e] at this; cases this
theorem Inv.bs (I : Inv X pins σ H s) : ∀ b o, X.base.get? b = some o -> s.heap.get? b = some o /\ H b = none := fun b o e =>
 ⟨I.base.keep b o (I.ok.bs b o e).1 (I.ok.bs b o e).2 (I.ok.nofr e) (I.ok.noex b o e), I.base.free b o (I.ok.bs b o e).1 (I.ok.bs b o e).2 (I.ok.noex b o e)⟩
theorem Inv.bk (I : Inv X pins σ H s) : ∀ b o, X.base.get? b = some o -> s.heap.get? b = some o := fun b o e => (I.bs b o e).1
theorem Inv.mod (I : Inv X pins σ H s) : Mod X.K X.mg X.base := I.ok.mod
theorem Inv.kIn (I : Inv X pins σ H s) : X.K.In s.heap := I.ok.mod.kin.keeps I.bk
theorem Inv.lt (I : Inv X pins σ H s) : X.env.locals < s.heap.objs.size := let ⟨_, hn, _⟩ := I.loc; hn.lt
theorem Inv.sz (I : Inv X pins σ H s) : X.s₀.heap.objs.size <= s.heap.objs.size := Nat.le_trans I.ok.above (Nat.le_of_lt I.lt)
theorem Inv.nofs (I : Inv X pins σ H s) {a : Addr} (h : s.heap.objs.size <= a) : a ∉ X.fs := fun hb => by
 obtain ⟨_, o, ho, _⟩ := I.ok.funs.mem hb
 exact absurd (Nat.lt_of_lt_of_le (Heap.lt_size ho) (Nat.le_trans I.sz h)) (Nat.lt_irrefl _)
theorem Inv.cne (I : Inv X pins σ H s) : ∀ x c, X.env.cells.lookup x = some c -> c ≠ X.env.locals := fun x c e z => by
 obtain ⟨v, o, ho, hd⟩ := I.cell x c e
 obtain ⟨m, ⟨o', es, ep, ho', hd', _⟩, _⟩ := I.loc
 rw [z, ho'] at ho; cases ho; rw [hd'] at hd; cases hd
theorem Inv.funs (I : Inv X pins σ H s) : s.heap.FunFrames X.base X.outer := by
 have all : ∀ (l : List Env), (∀ b ∈ frs l, b ∈ X.fs) -> X.s₀.heap.FunFrames X.base l -> s.heap.FunFrames X.base l := by
  intro l
  induction l with
  | nil => intro _ _; trivial
  | cons env r ih =>
   intro hs hl
   obtain ⟨hk, ⟨L, o, hf, hn, ho, hd⟩, hr⟩ := hl
   have hL : L ∈ X.fs := hs L (by unfold frs; rw [List.filterMap_cons, hf]; exact List.mem_cons_self)
   obtain ⟨sl, e⟩ := I.base.slot L o ho (I.ok.frf L hL) hL fun z => I.ok.exfs L z hL
   exact ⟨hk, ⟨L, _, hf, hn, e, hd⟩, ih (fun b hb => hs b (by unfold frs; rw [List.filterMap_cons, hf]; exact List.mem_cons_of_mem _ hb)) hr⟩
 exact all X.outer (fun _ hb => hb) I.ok.funs
theorem Inv.stack (I : Inv X pins σ H s) : s.heap.FunFrames X.base X.stack := by
 rcases I.ok.stk with e | ⟨e, hf⟩
 ·rw [e]; exact I.funs
 ·rw [e]
  obtain ⟨m, hn, _⟩ := I.loc
  refine .cons (by rw [I.ok.kind]; decide) hf hn ?_ I.funs
  exact Heap.get?_none_of_le (Nat.le_trans I.ok.bsz I.ok.above)
theorem Inv.stkSub (I : Inv X pins σ H s) : ∀ b ∈ frs X.stack, b ∈ X.env.locals :: X.fs := fun b hb => by
 rcases I.ok.stk with e | ⟨e, hf⟩
 ·rw [e] at hb; exact List.mem_cons_of_mem _ hb
 ·rw [e] at hb
  unfold frs at hb
  rw [List.filterMap_cons, hf] at hb
  exact hb
theorem Inv.stkFree (I : Inv X pins σ H s) : ∀ b ∈ frs X.stack, H b = none := fun b hb => by
 rcases List.mem_cons.mp (I.stkSub b hb) with e | hb
 ·rw [e]; exact I.free
 ·obtain ⟨_, o, ho, _⟩ := I.ok.funs.mem hb
  exact I.base.free b o ho (I.ok.frf b hb) fun z => I.ok.exfs b z hb
theorem Inv.step {g' : Array GenState} {t' : Nat} {d' : Drawn} {ch : List Addr} (I : Inv X pins σ H s)
  (hch : ∀ b ∈ ch, (b ∈ X.ex \/ X.s₀.heap.objs.size <= b) /\ b ≠ X.env.locals /\ (∀ x c, X.env.cells.lookup x = some c -> c ≠ b) /\ ∀ p ∈ X.pn ++ pins, p.1 ≠ b)
  (keep : ∀ b o, b ≠ X.env.locals -> b ∉ X.fs -> b ∉ ch -> s.heap.get? b = some o -> H b = none -> h'.get? b = some o)
  (slot : ∀ b o, b ≠ X.env.locals -> b ∈ X.fs -> b ∉ ch -> s.heap.get? b = some o -> H b = none -> ∃ sl, h'.get? b = some { o with slots := sl }) (free : ∀ b o, b ∉ ch -> s.heap.get? b = some o -> H b = none -> H' b = none)
  (there : ∀ b o, b ∉ ch -> s.heap.get? b = some o -> ∃ o', h'.get? b = some o')
  (tups : ∀ b xs, H b = some (.tup xs) -> H' b = some (.tup xs)) (frzs : ∀ b o u, H b = some (.frz o u) -> H' b = some (.frz o u)) (tbls : ∀ b ps, H b = some (.tbl ps) -> ∃ more, H' b = some (.tbl (ps ++ more)))
  (ns : ∀ m, s.heap.Ns X.env.locals m -> h'.Ns X.env.locals m) (hok : HOk X.prog X.w H' h') (hg : AllBare g') :
  Inv X pins σ H' { s with heap := h', gens := g', drawn := d', toks := t' } := by
 have neL : ∀ b o, X.s₀.heap.get? b = some o -> b ≠ X.env.locals := fun b o e => Nat.ne_of_lt (Nat.lt_of_lt_of_le (Heap.lt_size e) I.ok.above)
 have neC : ∀ b o, X.s₀.heap.get? b = some o -> b ∉ X.ex -> b ∉ ch := fun b o e hx hb => by
  rcases (hch b hb).1 with z | z
  ·exact hx z
  ·exact absurd (Nat.lt_of_lt_of_le (Heap.lt_size e) z) (Nat.lt_irrefl _)
 have cellK : ∀ x c, X.env.cells.lookup x = some c -> ∀ v, s.heap.IsCell c v -> h'.IsCell c v := fun x c e v ⟨o, ho, hd⟩ => by
  have nch : c ∉ ch := fun z => (hch c z).2.2.1 x c e rfl
  by_cases hc : c ∈ X.fs
  ·obtain ⟨sl, q⟩ := slot c o (I.cne x c e) hc nch ho (I.freeC x c e)
   exact ⟨_, q, hd⟩
  ·exact ⟨o, keep c o (I.cne x c e) hc nch ho (I.freeC x c e), hd⟩
 refine ⟨I.ok, I.os, hg, ⟨fun b o e n hb hx => ?_, fun b o e n hb hx => ?_, fun b o e n hx => ?_, fun b o e hx => ?_, fun b xs e => tups b xs (I.base.tups b xs e), fun b o xs e => frzs b o xs (I.base.frzs b o xs e), fun b ps e => ?_⟩, ?_, fun x c e => ?_, ?_, fun x c e => ?_, fun p hp => ?_, hok, I.len⟩
 ·exact keep b o (neL b o e) hb (neC b o e hx) (I.base.keep b o e n hb hx) (I.base.free b o e n hx)
 ·obtain ⟨sl, e1⟩ := I.base.slot b o e n hb hx
  obtain ⟨sl', e2⟩ := slot b _ (neL b o e) hb (neC b o e hx) e1 (I.base.free b o e n hx)
  exact ⟨sl', e2⟩
 ·obtain ⟨o', e1⟩ := I.base.there b o e hx
  exact free b o' (neC b o e hx) e1 (I.base.free b o e n hx)
 ·obtain ⟨o', e1⟩ := I.base.there b o e hx
  exact there b o' (neC b o e hx) e1
 ·obtain ⟨m1, e1⟩ := I.base.tbls b ps e
  obtain ⟨m2, e2⟩ := tbls b _ e1
  exact ⟨m1 ++ m2, by rw [e2, Array.append_assoc]⟩
 ·obtain ⟨m, hn, hl⟩ := I.loc
  refine ⟨m, ns m hn, fun i x v e1 e2 e3 => ?_⟩
  obtain ⟨u, r, l⟩ := hl i x v e1 e2 e3
  refine ⟨u, r, ?_⟩
  rcases l with l | ⟨k, c, e, z⟩
  ·exact .inl l
  ·exact .inr ⟨k, c, e, cellK x c e _ z⟩
 ·obtain ⟨v, z⟩ := I.cell x c e
  exact ⟨v, cellK x c e v z⟩
 ·obtain ⟨m, ⟨o, _, _, ho, _⟩, _⟩ := I.loc
  exact free _ o (fun z => (hch _ z).2.1 rfl) ho I.free
 ·obtain ⟨v, o, ho, hd⟩ := I.cell x c e
  exact free c o (fun z => (hch c z).2.2.1 x c e rfl) ho (I.freeC x c e)
 ·obtain ⟨e, n, ne, nf, d⟩ := I.pin p hp
  have nch : p.1 ∉ ch := fun z => (hch p.1 z).2.2.2 p hp rfl
  exact ⟨keep p.1 p.2 ne nf nch e n, free p.1 p.2 nch e n, ne, nf, d⟩
theorem Inv.un {t' : Nat} (I : Inv X pins σ H s) (u : Un X.fs [] H H' s.heap h') (hok : HOk X.prog X.w H' h') : Inv X pins σ H' { s with heap := h', toks := t' } := by
 obtain ⟨m, ⟨o, es, ep, ho, r⟩, _⟩ := id I.loc
 obtain ⟨sl, hL⟩ := u.any ho I.free (by simp)
 exact I.step (g' := s.gens) (d' := s.drawn) (ch := []) (fun _ z => nomatch z) (fun b o _ hb _ e n => u.keep b o e n hb (by simp)) (fun b o _ hb _ e n => u.slot b o e n hb (by simp)) (fun b o _ e n => u.free b o e n (by simp)) (fun b o _ e => u.there b o e (by simp)) u.tups u.frzs u.tbls (fun m' hm => by
  obtain ⟨o', es', ep', ho', r'⟩ := hm
  rw [ho] at ho'; cases ho'
  exact ⟨_, es', ep', hL, r'⟩) hok I.bare
theorem Inv.call {g' : Array GenState} {t' : Nat} {d' : Drawn} {ch : List Addr} (I : Inv X pins σ H s) (u : Un (frs X.stack) ch H H' s.heap h') (hok : HOk X.prog X.w H' h') (hg : AllBare g')
  (hch : ∀ b ∈ ch, (b ∈ X.ex \/ X.s₀.heap.objs.size <= b) /\ b ≠ X.env.locals /\ (∀ x c, X.env.cells.lookup x = some c -> c ≠ b) /\ ∀ p ∈ X.pn ++ pins, p.1 ≠ b) :
  Inv X pins σ H' { s with heap := h', gens := g', drawn := d', toks := t' } := by
 obtain ⟨m, ⟨o, es, ep, ho, r⟩, _⟩ := id I.loc
 obtain ⟨sl, hL⟩ := u.any ho I.free fun z => (hch _ z).2.1 rfl
 exact I.step (ch := ch) hch (fun b o hL hb hc e n => u.keep b o e n (fun z => (List.mem_cons.mp (I.stkSub b z)).elim hL hb) hc) (fun b o _ _ hc e n => u.any e n hc) (fun b o hc e n => u.free b o e n hc) (fun b o hc e => u.there b o e hc) u.tups u.frzs u.tbls (fun m' hm => by
  obtain ⟨o', es', ep', ho', r'⟩ := hm
  rw [ho] at ho'; cases ho'
  exact ⟨_, es', ep', hL, r'⟩) hok hg
theorem Inv.turned {t' : Nat} {it : Addr} (I : Inv X pins σ H s) (k : ∀ b o, b ≠ it -> s.heap.get? b = some o -> h'.get? b = some o) (hn : H it = none) (hL : it ≠ X.env.locals)
  (h1 : it ∈ X.ex \/ X.s₀.heap.objs.size <= it) (h2 : ∀ x c, X.env.cells.lookup x = some c -> c ≠ it) (h3 : ∀ p ∈ X.pn ++ pins, p.1 ≠ it) : Inv X pins σ H { s with heap := h', toks := t' } := by
 have nit : ∀ b u, H b = some u -> b ≠ it := fun b u e z => by rw [z, hn] at e; cases e
 refine I.step (g' := s.gens) (d' := s.drawn) (ch := [it]) (fun b hb => ?_) (fun b o _ _ hc e _ => k b o (fun z => hc (by simp [z])) e) (fun b o _ _ hc e _ => ⟨o.slots, k b o (fun z => hc (by simp [z])) e⟩) (fun _ _ _ _ n => n)
  (fun b o hc e => ⟨o, k b o (fun z => hc (by simp [z])) e⟩) (fun _ _ e => e) (fun _ _ _ e => e) (fun b ps e => ⟨#[], by rw [e]; simp⟩) (fun m hm => ?_) (fun b u e => ?_) I.bare
 ·have e : b = it := by simpa using hb
  subst e
  exact ⟨h1, hL, h2, h3⟩
 ·obtain ⟨o, es, ep, ho, r⟩ := hm
  exact ⟨o, es, ep, k _ o (Ne.symm hL) ho, r⟩
 ·refine (I.hok b u e).stay (fun c v hc q => k c v ?_ q) (fun _ q => q) fun _ _ q => q
  rcases hc with z | z
  ·rw [z]; exact nit b u e
  ·exact nit c _ z
theorem Inv.tok (I : Inv X pins σ H s) (t : Nat) : Inv X pins σ H { s with toks := t } := I.un (h' := s.heap) (t' := t) Un.refl I.hok
theorem Inv.kept {t' : Nat} (I : Inv X pins σ H s) (k : ∀ b u, s.heap.get? b = some u -> h'.get? b = some u) : Inv X pins σ H { s with heap := h', toks := t' } := I.un (Un.kept k) (I.hok.kept k)
theorem Inv.laid {a : Addr} {o : HO} {t' : Nat} (I : Inv X pins σ H s) (k : ∀ b u, s.heap.get? b = some u -> h'.get? b = some u) (hp : s.heap.objs.size <= a) (new : ObjOk X.prog X.w (upd H a o) h' a o) :
  Inv X pins σ (upd H a o) { s with heap := h', toks := t' } := I.un (Un.laid k hp (I.hok.fresh hp)) (I.hok.laid k hp new)
theorem Inv.write {x e : Addr} {o : HO} {t' : Nat} (I : Inv X pins σ H s) (mu : Mut (H x)) (he : e = x \/ H e = some (.own x)) (k : ∀ b u, b ≠ e -> s.heap.get? b = some u -> h'.get? b = some u) (heo : ∃ u, h'.get? e = some u)
  (new : ObjOk X.prog X.w (upd H x o) h' x o) : Inv X pins σ (upd H x o) { s with heap := h', toks := t' } := I.un (Un.write mu he k heo) (I.hok.write mu he k heo new)
theorem Inv.weak {σ' : List (Option V)} (I : Inv X pins σ H s) (hl : σ'.length = σ.length) (w : ∀ (i : Nat) v, σ'[i]? = some (some v) -> σ[i]? = some (some v)) : Inv X pins σ' H s :=
 ⟨I.ok, I.os, I.bare, I.base, let ⟨m, hn, hl'⟩ := I.loc; ⟨m, hn, fun i x v e1 e2 e3 => hl' i x v e1 (w i v e2) e3⟩, I.cell, I.free, I.freeC, I.pin, I.hok, hl.trans I.len⟩
theorem Inv.pins_of {pins' : List (Addr × Obj)} (I : Inv X pins σ H s) (h : ∀ p ∈ pins', s.heap.get? p.1 = some p.2 /\ H p.1 = none /\ p.1 ≠ X.env.locals /\ p.1 ∉ X.fs /\ ∀ v, p.2.data ≠ .cell v) : Inv X pins' σ H s :=
 ⟨I.ok, I.os, I.bare, I.base, I.loc, I.cell, I.free, I.freeC, fun p hp => (List.mem_append.mp hp).elim (fun z => I.pin p (List.mem_append_left _ z)) (h p), I.hok, I.len⟩
theorem nodup_ix {N : List Str} (hN : N.Nodup) {i j : Nat} {x : Str} (a : N[i]? = some x) (b : N[j]? = some x) : i = j := by
 obtain ⟨h1, e1⟩ := List.getElem?_eq_some_iff.mp a
 obtain ⟨h2, e2⟩ := List.getElem?_eq_some_iff.mp b
 exact (List.getElem_inj hN).mp (e1.trans e2.symm)
theorem store_ok2 {M : Model} {A : Around} {E : Value -> Shared -> Prop} {i : Nat} {x : Str} {v : V} {u : Value} {Q : Unit -> Shared -> Prop} (I : Inv X pins σ H s) (hN : X.N.Nodup) (hi : X.N[i]? = some x) (hx : Loc X.env.scope x) (r : RelV v u)
  (h : ∀ s', Inv X pins (σ.set i (some v)) H s' -> (∃ a, Heap.SameBut a s.heap s'.heap /\ (a = X.env.locals \/ X.env.cells.lookup x = some a)) -> Q () s') (hf : X.fn x = true \/ X.env.scope.names.lookup x = some .local := by first | exact .inl rfl | exact .inr rfl | assumption) : wpAny M A (storeName X.env x u) Q E s := by
 obtain ⟨m, hn, hl⟩ := id I.loc
 have hcls : (X.env.scope.kind == .class || (X.env.scope.kind == .module && X.env.locals != X.env.globals)) = false := by rw [I.ok.kind]; rfl
 have hiσ : i < σ.length := by rw [I.len]; exact (List.getElem?_eq_some_iff.mp hi).1
 have cne := I.cne
 have tracked : ∀ {a : Addr} {h' : Heap}, (∃ o, s.heap.get? a = some o /\ H a = none) -> Heap.SameBut a s.heap h' -> HOk X.prog X.w H h' := fun {a h'} ha hs b ob e => by
  obtain ⟨_, _, hfree⟩ := ha
  refine (I.hok b ob e).stay (fun c w' hc q => (hs.2 c ?_).trans q) (fun _ q => q) fun _ _ q => q
  rintro rfl
  rcases hc with rfl | hc
  ·rw [hfree] at e; cases e
  ·rw [hfree] at hc; cases hc
 rcases hx with hk | hk
 ·refine wpAny_storeName_local hk hn (fun h' hn' hs => ?_) hcls
  obtain ⟨oL, _, _, hoL, _⟩ := id hn
  refine h _ ⟨I.ok, I.os, I.bare, ⟨fun b o e n hb hx => ?_, fun b o e n hb hx => ?_, I.base.free, fun b o e hx => ?_, I.base.tups, I.base.frzs, I.base.tbls⟩, ⟨_, hn', fun j y v' e1 e2 e3 => ?_⟩, fun y c e => ?_, I.free, I.freeC, fun p hp => ?_, tracked ⟨oL, hoL, I.free⟩ hs, by simpa using I.len⟩ ⟨_, hs, .inl rfl⟩
  ·exact (hs.2 b (Nat.ne_of_lt (Nat.lt_of_lt_of_le (Heap.lt_size e) I.ok.above))).trans (I.base.keep b o e n hb hx)
  ·obtain ⟨sl, e1⟩ := I.base.slot b o e n hb hx
   exact ⟨sl, (hs.2 b (Nat.ne_of_lt (Nat.lt_of_lt_of_le (Heap.lt_size e) I.ok.above))).trans e1⟩
  ·obtain ⟨o', e1⟩ := I.base.there b o e hx
   exact ⟨o', (hs.2 b (Nat.ne_of_lt (Nat.lt_of_lt_of_le (Heap.lt_size e) I.ok.above))).trans e1⟩
  ·by_cases hj : j = i
   ·subst hj
    rw [hi] at e1; cases e1
    rw [List.getElem?_set_self hiσ] at e2
    cases e2
    exact ⟨u, r, .inl ⟨hk, by simp⟩⟩
   ·rw [List.getElem?_set_ne (Ne.symm hj)] at e2
    obtain ⟨u', r', q⟩ := hl j y v' e1 e2 e3
    refine ⟨u', r', ?_⟩
    rcases q with ⟨k, e⟩ | ⟨k, c, e, z⟩
    ·refine .inl ⟨k, ?_⟩
     have : y ≠ x := fun e => hj (nodup_ix hN e1 (e ▸ hi))
     simp [this, e]
    ·exact .inr ⟨k, c, e, z.sameBut hs (cne y c e)⟩
  ·obtain ⟨w', z⟩ := I.cell y c e
   exact ⟨w', z.sameBut hs (cne y c e)⟩
  ·obtain ⟨e, n, ne, nf, d⟩ := I.pin p hp
   exact ⟨(hs.2 p.1 ne).trans e, n, ne, nf, d⟩
 ·have hfn : X.fn x = true := by
   rcases hf with z | z
   ·exact z
   ·rw [z] at hk; cases hk
  obtain ⟨c, hc⟩ := I.ok.has x (.inl hk)
  obtain ⟨w', z⟩ := I.cell x c hc
  refine wpAny_storeName_cell I.ok.kind hk hc z (fun h' hc' hs => ?_)
  obtain ⟨oc, hoc, hocd⟩ := id z
  refine h { s with heap := h' } ⟨I.ok, I.os, I.bare, ⟨fun b o e n hb hx => ?_, fun b o e n hb hx => ?_, I.base.free, fun b o e hx => ?_, I.base.tups, I.base.frzs, I.base.tbls⟩, ⟨m, hn.sameBut hs (Ne.symm (cne x c hc)), fun j y v' e1 e2 e3 => ?_⟩, fun y c' e => ?_, I.free, I.freeC, fun p hp => ?_, tracked ⟨oc, hoc, I.freeC x c hc⟩ hs, by simpa using I.len⟩ ⟨c, hs, .inr hc⟩
  ·exact (hs.2 b (Nat.ne_of_lt (Nat.lt_of_lt_of_le (Heap.lt_size e) (I.ok.cab x c hfn hc)))).trans (I.base.keep b o e n hb hx)
  ·obtain ⟨sl, e1⟩ := I.base.slot b o e n hb hx
   exact ⟨sl, (hs.2 b (Nat.ne_of_lt (Nat.lt_of_lt_of_le (Heap.lt_size e) (I.ok.cab x c hfn hc)))).trans e1⟩
  ·obtain ⟨o', e1⟩ := I.base.there b o e hx
   exact ⟨o', (hs.2 b (Nat.ne_of_lt (Nat.lt_of_lt_of_le (Heap.lt_size e) (I.ok.cab x c hfn hc)))).trans e1⟩
  ·by_cases hj : j = i
   ·subst hj
    rw [hi] at e1; cases e1
    rw [List.getElem?_set_self hiσ] at e2
    cases e2
    exact ⟨u, r, .inr ⟨.inl hk, c, hc, hc'⟩⟩
   ·rw [List.getElem?_set_ne (Ne.symm hj)] at e2
    obtain ⟨u', r', q⟩ := hl j y v' e1 e2 e3
    refine ⟨u', r', ?_⟩
    rcases q with q | ⟨k, c', e, z'⟩
    ·exact .inl q
    ·refine .inr ⟨k, c', e, z'.sameBut hs ?_⟩
     rintro rfl
     exact hj (nodup_ix hN e1 (I.ok.inj _ _ _ e hc ▸ hi))
  ·by_cases hcc : c' = c
   ·subst hcc; exact ⟨_, hc'⟩
   ·obtain ⟨w2, z2⟩ := I.cell y c' e
    exact ⟨w2, z2.sameBut hs hcc⟩
  ·obtain ⟨e, n, ne, nf, d⟩ := I.pin p hp
   refine ⟨(hs.2 p.1 ?_).trans e, n, ne, nf, d⟩
   intro q
   rw [q, hoc] at e
   have q' : oc = p.2 := Option.some.inj e
   exact d w' (by rw [<- q']; exact hocd)
theorem store_ok {M : Model} {A : Around} {E : Value -> Shared -> Prop} {i : Nat} {x : Str} {v : V} {u : Value} {Q : Unit -> Shared -> Prop} (I : Inv X pins σ H s) (hN : X.N.Nodup) (hi : X.N[i]? = some x) (hx : Loc X.env.scope x) (r : RelV v u)
  (h : ∀ s', Inv X pins (σ.set i (some v)) H s' -> Q () s') (hf : X.fn x = true \/ X.env.scope.names.lookup x = some .local := by first | exact .inl rfl | exact .inr rfl | assumption) : wpAny M A (storeName X.env x u) Q E s :=
 store_ok2 I hN hi hx r (fun s' I' _ => h s' I') hf
theorem Inv.call' {s' : Shared} {ch : List Addr} (I : Inv X pins σ H s) (ho : s'.os = s.os) (u : Un (frs X.stack) ch H H' s.heap s'.heap) (hok : HOk X.prog X.w H' s'.heap) (hg : AllBare s'.gens)
  (hch : ∀ b ∈ ch, (b ∈ X.ex \/ X.s₀.heap.objs.size <= b) /\ b ≠ X.env.locals /\ (∀ x c, X.env.cells.lookup x = some c -> c ≠ b) /\ ∀ p ∈ X.pn ++ pins, p.1 ≠ b) : Inv X pins σ H' s' := by
 obtain ⟨h', g', d', t', o'⟩ := s'
 have e : o' = s.os := ho
 subst e
 exact I.call (g' := g') (t' := t') (d' := d') u hok hg hch
end
abbrev XK := Value -> Option Addr -> Hp -> Prop
abbrev St := List (Option V)
abbrev VK := V -> Hp -> Prop
abbrev TE := St -> Hp -> VK -> Prop
abbrev TT := St -> Hp -> (Bool -> Hp -> Prop) -> Prop
abbrev TA := St -> Hp -> (List V -> Hp -> Prop) -> Prop
structure Ends where
 nx : St -> Hp -> Prop
 rt : VK
 bk : St -> Hp -> Prop := fun _ _ => False
 ct : St -> Hp -> Prop := fun _ _ => False
abbrev TS := Ends -> St -> Hp -> Prop
def EP (X : Cx) (pins : List (Addr × Obj)) (σ : St) (Q : VK) (u : Value) (s' : Shared) : Prop := ∃ v H', Inv X pins σ H' s' /\ RelV v u /\ Q v H'
def TP (X : Cx) (pins : List (Addr × Obj)) (σ : St) (Q : Bool -> Hp -> Prop) (b : Bool) (s' : Shared) : Prop := ∃ H', Inv X pins σ H' s' /\ Q b H'
def AP (X : Cx) (pins : List (Addr × Obj)) (σ : St) (Q : List V -> Hp -> Prop) (us : List Value) (s' : Shared) : Prop := ∃ vs H', Inv X pins σ H' s' /\ Vals vs us /\ Q vs H'
def SP (X : Cx) (pins : List (Addr × Obj)) (D : Ends) (f : Flow) (s' : Shared) : Prop :=
 match f with
 | .next => ∃ σ' H', Inv X pins σ' H' s' /\ D.nx σ' H'
 | .brk => ∃ σ' H', Inv X pins σ' H' s' /\ D.bk σ' H'
 | .cont => ∃ σ' H', Inv X pins σ' H' s' /\ D.ct σ' H'
 | .ret u => ∃ v σ' H', Inv X pins σ' H' s' /\ RelV v u /\ D.rt v H'
def PE (X : Cx) (e : Expr) (t : TE) : Prop :=
 ∀ (pins : List (Addr × Obj)) (s : Shared) (σ : St) (H : Hp) (Q : VK), Inv X pins σ H s -> t σ H Q -> wpAny (model X.prog X.w) X.A (eval e X.env) (EP X pins σ Q) X.xe s
def PT (X : Cx) (e : Expr) (t : TT) : Prop :=
 ∀ (pins : List (Addr × Obj)) (s : Shared) (σ : St) (H : Hp) (Q : Bool -> Hp -> Prop), Inv X pins σ H s -> t σ H Q -> wpAny (model X.prog X.w) X.A (isTrue e X.env (eval e X.env)) (TP X pins σ Q) X.xe s
def PW (X : Cx) (e : Expr) (t : TT) : Prop :=
 ∀ (whole : Sem Value) (pins : List (Addr × Obj)) (s : Shared) (σ : St) (H : Hp) (Q : Bool -> Hp -> Prop), Inv X pins σ H s -> t σ H Q -> wpAny (model X.prog X.w) X.A (isTrue e X.env whole) (TP X pins σ Q) X.xe s
theorem PW.pt {X : Cx} {e : Expr} {t : TT} (h : PW X e t) : PT X e t := h _
def PA (X : Cx) (es : List Expr) (t : TA) : Prop :=
 ∀ (pos : Pos) (pins : List (Addr × Obj)) (s : Shared) (σ : St) (H : Hp) (Q : List V -> Hp -> Prop), Inv X pins σ H s -> t σ H Q -> wpAny (model X.prog X.w) X.A (spliced (backTo pos (starEach es X.env))) (AP X pins σ Q) X.xe s
def PS (X : Cx) (st : Stmt) (t : TS) : Prop :=
 ∀ (pins : List (Addr × Obj)) (s : Shared) (σ : St) (H : Hp) (D : Ends), Inv X pins σ H s -> t D σ H -> wpAny (model X.prog X.w) X.A (exec st X.env) (SP X pins D) X.xe s
def PSs (X : Cx) (st : List Stmt) (t : TS) : Prop :=
 ∀ (pins : List (Addr × Obj)) (s : Shared) (σ : St) (H : Hp) (D : Ends), Inv X pins σ H s -> t D σ H -> wpAny (model X.prog X.w) X.A (execs st X.env) (SP X pins D) X.xe s
theorem thn {α : Type} {t : Sem α} {Q Q' : α -> Shared -> Prop} {M : Model} {A : Around} {E : Value -> Shared -> Prop} {s : Shared} (h : wpAny M A t Q E s) (hQ : ∀ a s, Q a s -> Q' a s) : wpAny M A t Q' E s := wpAny_mono h hQ fun _ _ x => x
end L2
namespace L2
open PySem PySem.Spec PyProof.Rows
section
variable {X : Cx}
def tVar (i : Nat) : TE := fun σ H Q => ∃ v, σ[i]? = some (some v) /\ Q v H
def tC (v : V) : TE := fun _ H Q => Q v H
theorem pe_var {i : Nat} {x : Str} {pos : Pos} (hN : X.N[i]? = some x) (hv : Vis X.env.scope x) (hd : (x == ("__debug__" : Str)) = false := by decide) (hcd : (x == ("__classdict__" : Str)) = false := by decide) : PE X (.Name x pos) (tVar i) := by
 intro pins s σ H Q I h
 obtain ⟨v, e, h⟩ := h
 obtain ⟨m, hn, hl⟩ := I.loc
 obtain ⟨u, r, l⟩ := hl i x v hN e hv
 have fin : EP X pins σ Q u s := ⟨v, H, I, r, h⟩
 rcases l with ⟨hk, hm⟩ | ⟨hk, c, hc, hcell⟩
 ·exact wpAny_Name (wpAny_loadName_local I.ok.kind hk hn hm fin) hd
 ·rcases hk with hk | hk
  ·exact wpAny_Name (wpAny_loadName_cell I.ok.kind hk hc hcell fin) hd
  ·exact wpAny_Name (wpAny_loadName_free I.ok.kind hk hc hcell fin hcd) hd
theorem pe_int {i j pos} : PE X (.Constant (.int i) j pos) (tC (.int i)) := fun _ _ _ H _ I h => wpAny_Constant_int ⟨.int i, H, I.tok _, ⟨_, rfl⟩, h⟩
theorem pe_bl {b j pos} : PE X (.Constant (.bool b) j pos) (tC (.bl b)) := fun _ _ _ H _ I h => Constant_bool ⟨.bl b, H, I, rfl, h⟩
theorem pe_non {j pos} : PE X (.Constant .none j pos) (tC .non) := fun _ _ _ H _ I h => Constant_none ⟨.non, H, I, rfl, h⟩
theorem pe_str {x j pos} : PE X (.Constant (.str x) j pos) (tC (.str x)) := fun _ _ _ H _ I h => Calls.Constant_str ⟨.str x, H, I.tok _, ⟨_, rfl⟩, h⟩
def Gl (X : Cx) (x : Str) : Prop := X.env.kindOf x = some .globalImplicit
theorem ld_glob {E : Value -> Shared -> Prop} {pins : List (Addr × Obj)} {s : Shared} {σ : St} {H : Hp} {x : Str} {u : Value} {pos : Pos} {Q : Value -> Shared -> Prop} (I : Inv X pins σ H s) (hg : Gl X x) (hm : X.mg x = some u) (h : Q u s)
  (hd : (x == ("__debug__" : Str)) = false := by decide) : wpAny (model X.prog X.w) X.A (eval (.Name x pos) X.env) Q E s :=
 Calls.Name_function_global I.ok.kind hg (Calls.loadGlobal_global (by rw [I.ok.glob]; exact I.mod.glob.keeps I.bk) hm h) hd
theorem ld_blt {E : Value -> Shared -> Prop} {pins : List (Addr × Obj)} {s : Shared} {σ : St} {H : Hp} {x : Str} {u : Value} {pos : Pos} {Q : Value -> Shared -> Prop} (I : Inv X pins σ H s) (hg : Gl X x) (hm : X.mg x = none) (hv : bootBuiltins x = some u) (h : Q u s)
  (hn : x ≠ "__name__" := by decide) (hd : (x == ("__debug__" : Str)) = false := by decide) : wpAny (model X.prog X.w) X.A (eval (.Name x pos) X.env) Q E s := by
 obtain ⟨mb, h1, h2⟩ := I.mod.blt
 exact Calls.Name_function_global I.ok.kind hg (Calls.loadGlobal_builtin (by rw [I.ok.glob]; exact I.mod.glob.keeps I.bk) hm (by rw [I.ok.blt]; exact h1.keeps I.bk) ((h2 x hn).trans hv) h) hd
theorem pe_glob {x : Str} {v : V} {u : Value} {pos : Pos} (hg : Gl X x) (hm : X.mg x = some u) (r : RelV v u) (hd : (x == ("__debug__" : Str)) = false := by decide) : PE X (.Name x pos) (tC v) :=
 fun _ _ _ H _ I h => ld_glob I hg hm ⟨v, H, I, r, h⟩ hd
theorem pe_bltn {x : Str} {v : V} {u : Value} {pos : Pos} (hg : Gl X x) (hm : X.mg x = none) (hv : bootBuiltins x = some u) (r : RelV v u) (hn : x ≠ "__name__" := by decide) (hd : (x == ("__debug__" : Str)) = false := by decide) : PE X (.Name x pos) (tC v) :=
 fun _ _ _ H _ I h => ld_blt I hg hm hv ⟨v, H, I, r, h⟩ hn hd
variable {a b : Expr} {ta tb : TE} {pos : Pos}
def PC (X : Cx) (op : CmpOp) (a b : Expr) (t : TE) : Prop :=
 ∀ (pins : List (Addr × Obj)) (s : Shared) (σ : St) (H : Hp) (Q : VK), Inv X pins σ H s -> t σ H Q ->
  wpAny (model X.prog X.w) X.A (eval a X.env) (fun v s₁ => wpAny (model X.prog X.w) X.A (eval b X.env) (fun u s₂ => wpAny (model X.prog X.w) X.A (compareOp op v u) (EP X pins σ Q) X.xe s₂) X.xe s₁) X.xe s
def tB (t : TE) : TT := fun σ H Q => t σ H fun x H1 => ∃ c, x = .bl c /\ Q c H1
theorem pt_cmp {op : CmpOp} {t : TE} (h : PC X op a b t) (h1 : behindInMarks op b = false := by first | exact nobehind _ (by decide) (by decide) | rfl) : PT X (.Compare a [op] [b] pos) (tB t) := by
 intro pins s σ H Q I hw
 refine wpAny_isTrue_Compare1 (thn (h pins s σ H _ I hw) fun v s1 h1 => thn h1 fun u s2 h2 => thn h2 fun c s3 ⟨x, H1, I1, r1, q1⟩ => ?_) h1
 obtain ⟨d, rfl, q⟩ := q1
 cases r1
 exact wpAny_truthy_bool ⟨H1, I1, q⟩
theorem pt_val {e : Expr} {t : TE} (h : PE X e t) (he : ∀ whole, isTrue e X.env whole = (do let v <- whole; standAt e.pos; holding [v] (truthy v)) := by intro _; rfl) : PT X e (tB t) := by
 intro pins s σ H Q I hw
 refine isTrue_plain (thn (h pins s σ H _ I hw) fun v s1 ⟨x, H1, I1, r1, q1⟩ => ?_) (he _)
 obtain ⟨d, rfl, q⟩ := q1
 cases r1
 exact wpAny_truthy_bool ⟨H1, I1, q⟩
variable {tA tB' : TT} {rest : List Expr}
def tAnd (t u : TT) : TT := fun σ H Q => t σ H fun c H1 => if c = true then u σ H1 Q else Q false H1
def tOr (t u : TT) : TT := fun σ H Q => t σ H fun c H1 => if c = true then Q true H1 else u σ H1 Q
def tNot (t : TT) : TT := fun σ H Q => t σ H fun c H1 => Q (!c) H1
theorem pw_and1 (ha : PT X a tA) : PW X (.BoolOp .And [a] pos) tA := by
 intro wh pins s σ H Q I h
 refine isTrue_and (thn (ha pins s σ H Q I h) fun c s1 e => ?_)
 cases c with
 | true => exact isTrue_and_nil e
 | false => exact e
theorem pw_or1 (ha : PT X a tA) : PW X (.BoolOp .Or [a] pos) tA := by
 intro wh pins s σ H Q I h
 refine isTrue_or (thn (ha pins s σ H Q I h) fun c s1 e => ?_)
 cases c with
 | false => exact isTrue_or_nil e
 | true => exact e
theorem pw_and (ha : PT X a tA) (hb : PW X (.BoolOp .And (b :: rest) pos) tB') : PW X (.BoolOp .And (a :: b :: rest) pos) (tAnd tA tB') := by
 intro wh pins s σ H Q I h
 refine isTrue_and (thn (ha pins s σ H _ I h) fun c s1 ⟨H1, I1, q1⟩ => ?_)
 cases c with
 | true => exact hb wh pins s1 σ H1 Q I1 q1
 | false => exact ⟨H1, I1, q1⟩
theorem pw_or (ha : PT X a tA) (hb : PW X (.BoolOp .Or (b :: rest) pos) tB') : PW X (.BoolOp .Or (a :: b :: rest) pos) (tOr tA tB') := by
 intro wh pins s σ H Q I h
 refine isTrue_or (thn (ha pins s σ H _ I h) fun c s1 ⟨H1, I1, q1⟩ => ?_)
 cases c with
 | true => exact ⟨H1, I1, q1⟩
 | false => exact hb wh pins s1 σ H1 Q I1 q1
theorem pt_not (ha : PT X a tA) : PT X (.UnaryOp .Not a pos) (tNot tA) := by
 intro pins s σ H Q I h
 exact isTrue_not (ha pins s σ H (fun c H1 => Q (!c) H1) I h)
def tAndV (ta tb : TE) : TE := fun σ H Q => ta σ H fun x H1 => ∃ c, x = .bl c /\ if c = true then tb σ H1 Q else Q (.bl false) H1
def tOrV (ta tb : TE) : TE := fun σ H Q => ta σ H fun x H1 => ∃ c, x = .bl c /\ if c = true then Q (.bl true) H1 else tb σ H1 Q
def tNotV (ta : TE) : TE := fun σ H Q => ta σ H fun x H1 => ∃ c, x = .bl c /\ Q (.bl (!c)) H1
theorem pe_one {op} {t : TE} (h : PE X a t) : PE X (.BoolOp op [a] pos) t := fun pins s σ H Q I hw => BoolOp_one (h pins s σ H Q I hw)
theorem pe_and (ha : PE X a ta) (hb : PE X (.BoolOp .And (b :: rest) pos) tb) : PE X (.BoolOp .And (a :: b :: rest) pos) (tAndV ta tb) := by
 intro pins s σ H Q I h
 refine BoolOp_and (thn (ha pins s σ H _ I h) fun v s1 ⟨x, H1, I1, r1, q1⟩ => ?_)
 obtain ⟨c, rfl, q1⟩ := q1
 cases r1
 refine wpAny_truthy_bool ?_
 cases c with
 | true => exact hb pins s1 σ H1 Q I1 q1
 | false => exact ⟨.bl false, H1, I1, rfl, q1⟩
theorem pe_or (ha : PE X a ta) (hb : PE X (.BoolOp .Or (b :: rest) pos) tb) : PE X (.BoolOp .Or (a :: b :: rest) pos) (tOrV ta tb) := by
 intro pins s σ H Q I h
 refine BoolOp_or (thn (ha pins s σ H _ I h) fun v s1 ⟨x, H1, I1, r1, q1⟩ => ?_)
 obtain ⟨c, rfl, q1⟩ := q1
 cases r1
 refine wpAny_truthy_bool ?_
 cases c with
 | false => exact hb pins s1 σ H1 Q I1 q1
 | true => exact ⟨.bl true, H1, I1, rfl, q1⟩
theorem pe_not (ha : PE X a ta) : PE X (.UnaryOp .Not a pos) (tNotV ta) := by
 intro pins s σ H Q I h
 refine UnaryOp_ (thn (ha pins s σ H _ I h) fun v s1 ⟨x, H1, I1, r1, q1⟩ => ?_)
 obtain ⟨c, rfl, q1⟩ := q1
 cases r1
 exact not_of (wpAny_truthy_bool ⟨.bl (!c), H1, I1, rfl, q1⟩)
end
end L2
namespace L2
open PySem PySem.Spec PyProof.Rows
def SqL (K : PySem.W.Frag) (H : Hp) (a : Addr) (xs : List V) : Prop :=
 Rd H a (.lst xs) \/
  ∃ (o : Obj) (its : Array Value) (n : Nat), K.lookup a = some o /\ o.cls = .type "list" /\ o.dict = none /\ o.data = .seq its n /\ its.size <= sizeLine /\ Vals xs its.toList
def SqT (K : PySem.W.Frag) (H : Hp) (a : Addr) (xs : List V) : Prop :=
 Rd H a (.tup xs) \/
  ∃ (o : Obj) (its : Array Value) (n : Nat), K.lookup a = some o /\ o.cls = .type "tuple" /\ o.data = .seq its n /\ its.size <= sizeLine /\ Vals xs its.toList
def absV : Value -> Option V
 | .none => some .non
 | .bool b => some (.bl b)
 | .int i _ => some (.int i)
 | .str x _ => some (.str x)
 | .bytes b _ => some (.byt b)
 | .float b _ => some (.flt b)
 | .ref a => some (.ref a)
 | .type n => some (.ty n)
 | _ => none
theorem RelV.abs {x : V} {u : Value} (r : RelV x u) : absV u = some x := by
 cases x with
 | non => cases r; rfl
 | bl _ => cases r; rfl
 | int _ => obtain ⟨t, rfl⟩ := r; rfl
 | str _ => obtain ⟨t, rfl⟩ := r; rfl
 | byt _ => obtain ⟨t, rfl⟩ := r; rfl
 | flt _ => obtain ⟨t, rfl⟩ := r; rfl
 | ref _ => cases r; rfl
 | ty _ => cases r; rfl
theorem RelV.inj {x y : V} {u : Value} (r : RelV x u) (q : RelV y u) : x = y := Option.some.inj (r.abs.symm.trans q.abs)
theorem Vals.inj : ∀ {xs ys : List V} {us : List Value}, Vals xs us -> Vals ys us -> xs = ys
 | _, _, _, .nil, .nil => rfl
 | _, _, _, .cons r t, .cons r' t' => by rw [r.inj r', Vals.inj t t']
section
variable {X : Cx} {pins : List (Addr × Obj)} {σ : St} {H : Hp} {s : Shared} {a : Addr} {xs ys : List V}
theorem SqL.of {K : PySem.W.Frag} (h : H a = some (.lst xs)) : SqL K H a xs := .inl (.inl h)
theorem SqT.of {K : PySem.W.Frag} (h : H a = some (.tup xs)) : SqT K H a xs := .inl (.inl h)
theorem Inv.list (I : Inv X pins σ H s) (h : SqL X.K H a xs) : ∃ its : List Value, Vals xs its /\ PlainL s.heap a its.toArray /\ xs.length <= sizeLine := by
 rcases h with h | ⟨o, its, n, hk, hc, hd, hs, hz, r⟩
 ·obtain ⟨z, its, n, r, e⟩ := h.ok I.hok
  exact ⟨its, r, ⟨_, n, e, rfl, rfl, rfl⟩, z⟩
 ·refine ⟨its.toList, r, ⟨o, n, I.kIn a o hk, hc, hd, by simpa using hs⟩, ?_⟩
  have e := r.length
  simp only [Array.length_toList] at e
  lia
theorem Inv.tuple (I : Inv X pins σ H s) (h : SqT X.K H a xs) : ∃ its : List Value, Vals xs its /\ IsTup s.heap a its.toArray /\ xs.length <= sizeLine := by
 rcases h with h | ⟨o, its, n, hk, hc, hs, hz, r⟩
 ·obtain ⟨z, its, r, p⟩ := h.ok I.hok
  exact ⟨its, r, p, z⟩
 ·refine ⟨its.toList, r, ⟨o, I.kIn a o hk, hc, n, by simpa using hs⟩, ?_⟩
  have e := r.length
  simp only [Array.length_toList] at e
  lia
theorem Inv.list_inj (I : Inv X pins σ H s) (h : SqL X.K H a xs) (h' : SqL X.K H a ys) : xs = ys := by
 obtain ⟨its, r, ⟨o, n, e, _, _, d⟩, _⟩ := I.list h
 obtain ⟨its', r', ⟨o', n', e', _, _, d'⟩, _⟩ := I.list h'
 rw [e] at e'; cases e'
 rw [d] at d'
 injection d' with d1 _
 have : its = its' := by simpa using congrArg Array.toList d1
 subst this
 exact r.inj r'
theorem Inv.tuple_inj (I : Inv X pins σ H s) (h : SqT X.K H a xs) (h' : SqT X.K H a ys) : xs = ys := by
 obtain ⟨its, r, ⟨o, e, _, n, d⟩, _⟩ := I.tuple h
 obtain ⟨its', r', ⟨o', e', _, n', d'⟩, _⟩ := I.tuple h'
 rw [e] at e'; cases e'
 rw [d] at d'
 injection d' with d1 _
 have : its = its' := by simpa using congrArg Array.toList d1
 subst this
 exact r.inj r'
end
abbrev Cx.wish (X : Cx) (E : Value -> Shared -> Prop) : Cx := { X with xe := E }
abbrev Cx.nox (X : Cx) : Cx := X.wish fun _ _ => False
theorem Cx.Ok.wish {X : Cx} (ok : X.Ok) (E : Value -> Shared -> Prop) : (X.wish E).Ok :=
 ⟨ok.mod, ok.kind, ok.glob, ok.blt, ok.above, ok.inj, ok.has, ok.cab, ok.hd, ok.frames, ok.stk, ok.exf, ok.bs, ok.bsz, ok.noex, ok.exfs, ok.funs, ok.frf⟩
theorem Cx.Ok.unwish {X : Cx} {E : Value -> Shared -> Prop} (ok : (X.wish E).Ok) : X.Ok :=
 ⟨ok.mod, ok.kind, ok.glob, ok.blt, ok.above, ok.inj, ok.has, ok.cab, ok.hd, ok.frames, ok.stk, ok.exf, ok.bs, ok.bsz, ok.noex, ok.exfs, ok.funs, ok.frf⟩
section
variable {X : Cx} {pins : List (Addr × Obj)} {σ : St} {H : Hp} {s : Shared} {E : Value -> Shared -> Prop}
theorem Inv.wish (I : Inv X pins σ H s) (E : Value -> Shared -> Prop) : Inv (X.wish E) pins σ H s := ⟨I.ok.wish E, I.os, I.bare, I.base, I.loc, I.cell, I.free, I.freeC, I.pin, I.hok, I.len⟩
theorem Inv.unwish (I : Inv (X.wish E) pins σ H s) : Inv X pins σ H s := ⟨I.ok.unwish, I.os, I.bare, I.base, I.loc, I.cell, I.free, I.freeC, I.pin, I.hok, I.len⟩
theorem SP.unwish {D : Ends} {f : Flow} {s' : Shared} (h : SP (X.wish E) pins D f s') : SP X pins D f s' := by
 cases f with
 | next => obtain ⟨σ', H', I, q⟩ := h; exact ⟨σ', H', I.unwish, q⟩
 | brk => obtain ⟨σ', H', I, q⟩ := h; exact ⟨σ', H', I.unwish, q⟩
 | cont => obtain ⟨σ', H', I, q⟩ := h; exact ⟨σ', H', I.unwish, q⟩
 | ret u => obtain ⟨v, σ', H', I, r, q⟩ := h; exact ⟨v, σ', H', I.unwish, r, q⟩
theorem PSs.nox {st : List Stmt} {t : TS} (h : PSs X.nox st t) : PSs X st t := fun pins s σ H D I hw =>
 wpAny_mono (h pins s σ H D (I.wish _) hw) (fun _ _ q => q.unwish) fun _ _ z => False.elim z
end
section
variable {X : Cx} {st : Stmt} {rest : List Stmt} {t u : TS} {e : Expr} {te : TE} {pos : Pos}
def tNext : TS := fun D σ H => D.nx σ H
def tSeq (t u : TS) : TS := fun D σ H => t { D with nx := u D } σ H
theorem pss_nil : PSs X [] tNext := fun _ _ σ H _ I h => wpAny_execs_nil ⟨σ, H, I, h⟩
theorem pss_cons (h1 : PS X st t) (h2 : PSs X rest u) : PSs X (st :: rest) (tSeq t u) := by
 intro pins s σ H D I h
 refine wpAny_execs_cons (thn (h1 pins s σ H { D with nx := u D } I h) fun f s1 q => ?_)
 cases f with
 | next =>
  obtain ⟨σ', H', I', q⟩ := q
  exact h2 pins s1 σ' H' D I' q
 | ret v => exact q
 | brk => exact q
 | cont => exact q
theorem pss_one (h1 : PS X st t) : PSs X [st] t := by
 intro pins s σ H D I h
 refine wpAny_execs_cons (thn (h1 pins s σ H D I h) fun f s1 q => ?_)
 cases f with
 | next => exact wpAny_execs_nil q
 | ret v => exact q
 | brk => exact q
 | cont => exact q
theorem Inv.quiet {pins : List (Addr × Obj)} {σ : St} {H : Hp} {s : Shared} (I : Inv X pins σ H s) : interactive X.env = false := by simp [interactive, I.ok.kind]
def tDrop (te : TE) : TS := fun D σ H => te σ H fun _ H1 => D.nx σ H1
theorem ps_expr (he : PE X e te) (hs : swapsWith e none pos.line X.env = pure false := by rfl) : PS X (.Expr e pos) (tDrop te) := by
 intro pins s σ H D I h
 exact wpAny_Expr_any (thn (he pins s σ H _ I h) fun v s1 ⟨x, H1, I1, r1, q1⟩ => ⟨σ, H1, I1, q1⟩) I.quiet hs
def tRet (te : TE) : TS := fun D σ H => te σ H D.rt
theorem ps_ret (he : PE X e te) : PS X (.Return (some e) pos) (tRet te) := by
 intro pins s σ H D I h
 exact wpAny_Return_some (thn (he pins s σ H _ I h) fun v s1 ⟨x, H1, I1, r1, q1⟩ => ⟨x, σ, H1, I1, r1, q1⟩)
def tIfS (c : TT) (t u : TS) : TS := fun D σ H => c σ H fun b H1 => if b = true then t D σ H1 else u D σ H1
theorem ps_if {c : Expr} {a b : List Stmt} {tc : TT} (hc : PT X c tc) (ha : PSs X a t) (hb : PSs X b u) : PS X (.If c a b pos) (tIfS tc t u) := by
 intro pins s σ H D I h
 refine wpAny_If (thn (hc pins s σ H _ I h) fun d s1 ⟨H1, I1, q1⟩ => ?_)
 cases d with
 | true => exact ha pins s1 σ H1 D I1 q1
 | false => exact hb pins s1 σ H1 D I1 q1
def tNever : TS := fun _ _ _ => False
theorem ps_never : PS X st tNever := fun _ _ _ _ _ _ h => h.elim
end
abbrev TG := V -> St -> Hp -> (St -> Hp -> Prop) -> Prop
abbrev TGs := List V -> St -> Hp -> (St -> Hp -> Prop) -> Prop
def PG (X : Cx) (target : Expr) (t : TG) : Prop :=
 ∀ (pins : List (Addr × Obj)) (s : Shared) (σ : St) (H : Hp) (v : V) (u : Value) (Q : St -> Hp -> Prop), Inv X pins σ H s -> RelV v u -> t v σ H Q ->
  wpAny (model X.prog X.w) X.A (assign target X.env u) (fun _ s' => ∃ σ' H', Inv X pins σ' H' s' /\ Q σ' H') X.xe s
def PGs (X : Cx) (ts : List Expr) (t : TGs) : Prop :=
 ∀ (pins : List (Addr × Obj)) (s : Shared) (σ : St) (H : Hp) (vs : List V) (us : List Value) (Q : St -> Hp -> Prop), Inv X pins σ H s -> Vals vs us -> t vs σ H Q ->
  wpAny (model X.prog X.w) X.A (assignInOrder ((assignEach ts X.env).map (·.2)) us) (fun _ s' => ∃ σ' H', Inv X pins σ' H' s' /\ Q σ' H') X.xe s
section
variable {X : Cx} {pos : Pos}
def gName (i : Nat) : TG := fun v σ H Q => Q (σ.set i (some v)) H
theorem pg_name {i : Nat} {x : Str} (hN : X.N.Nodup) (hi : X.N[i]? = some x) (hx : Loc X.env.scope x) (hf : X.fn x = true \/ X.env.scope.names.lookup x = some .local := by first | exact .inl rfl | exact .inr rfl | assumption) : PG X (.Name x pos) (gName i) := by
 intro pins s σ H v u Q I r h
 exact wpAny_assign_Name (store_ok I hN hi hx r (fun s' I' => ⟨_, H, I', h⟩) hf)
def gNil : TGs := fun vs σ H Q => vs = [] /\ Q σ H
def gCons (t : TG) (u : TGs) : TGs := fun vs σ H Q => ∃ v r, vs = v :: r /\ t v σ H fun σ' H' => u r σ' H' Q
theorem pgs_nil : PGs X [] gNil := by
 intro pins s σ H vs us Q I r h
 obtain ⟨e, h⟩ := h
 subst e
 cases r
 exact assignInOrder_nil ⟨σ, H, I, h⟩
theorem pgs_cons {e : Expr} {es : List Expr} {t : TG} {u : TGs} (h1 : PG X e t) (h2 : PGs X es u)
  (hs : (assignEach (e :: es) X.env).map (·.2) = assign e X.env :: (assignEach es X.env).map (·.2) := by rfl) : PGs X (e :: es) (gCons t u) := by
 intro pins s σ H vs us Q I r h
 obtain ⟨v, vr, e1, h⟩ := h
 subst e1
 cases r with
 | cons r rr =>
  rw [hs]
  refine assignInOrder_cons (thn (h1 pins s σ H _ _ _ I r h) fun _ s1 ⟨σ1, H1, I1, q1⟩ => ?_)
  exact h2 pins s1 σ1 H1 _ _ Q I1 rr q1
def gTup (K : PySem.W.Frag) (n : Nat) (t : TGs) : TG := fun v σ H Q => ∃ a xs, v = .ref a /\ SqT K H a xs /\ xs.length = n /\ t xs σ H Q
theorem pg_tup {es : List Expr} {k : Nat} {t : TGs} {n : Nat} (hc : X.calm = true) (h : PGs X es t)
  (hn : (assignEach es X.env).length = n := by rfl) (hst : (assignEach es X.env).findIdx? (·.1) = none := by rfl) : PG X (.Tuple es k pos) (gTup X.K n t) := by
 intro pins s σ H v u Q I r hw
 obtain ⟨a, xs, e1, hq, hl, hw⟩ := hw
 subst e1
 cases r
 obtain ⟨its, rv, ht, hz⟩ := I.tuple hq
 refine assign_Tuple_tuple (I.ok.hd hc) ht (by simp [hn, <- hl, rv.length]) hst fun h' hx => ?_
 have I1 : Inv X pins σ H { s with heap := h' } := I.kept (t' := s.toks) fun b o e => hx b o (Nat.ne_of_lt (Heap.lt_size e)) e
 exact h pins _ σ H xs _ Q I1 (by simpa using rv) hw
def tAsg (te : TE) (g : TG) : TS := fun D σ H => te σ H fun x H1 => g x σ H1 D.nx
theorem ps_set {i : Nat} {x : Str} {e : Expr} {te : TE} {pos' : Pos} (hN : X.N.Nodup) (hi : X.N[i]? = some x) (hx : Loc X.env.scope x) (he : PE X e te) (hs : swapsWith e (some (.Name x pos')) pos.line X.env = pure false := by rfl) (hf : X.fn x = true \/ X.env.scope.names.lookup x = some .local := by first | exact .inl rfl | exact .inr rfl | assumption) :
  PS X (.Assign [.Name x pos'] e pos) (tAsg te (gName i)) := by
 intro pins s σ H D I h
 refine wpAny_Assign_Name (thn (he pins s σ H _ I h) fun v s1 ⟨y, H1, I1, r1, q1⟩ => ?_) hs
 exact store_ok I1 hN hi hx r1 (fun s2 I2 => ⟨_, H1, I2, q1⟩) hf
end
section
variable {X : Cx} {pos : Pos}
end
structure It where
 go : Nat -> Hp -> Prop
 yld : Nat -> Hp -> V -> Hp -> Prop
 stop : Nat -> Hp -> Prop
def FpOk (X : Cx) (pins : List (Addr × Obj)) (H : Hp) (b : Addr) : Prop :=
 H b = none /\ b ≠ X.env.locals /\ b ∉ X.fs /\ (b ∈ X.ex \/ X.s₀.heap.objs.size <= b) /\ (∀ x c, X.env.cells.lookup x = some c -> c ≠ b) /\ ∀ p ∈ X.pn ++ pins, p.1 ≠ b
theorem Inv.fpOk {X : Cx} {pins : List (Addr × Obj)} {σ : St} {H H' : Hp} {s : Shared} {b : Addr} (I : Inv X pins σ H s) (hb : s.heap.objs.size <= b) (hn : H' b = none) : FpOk X pins H' b := by
 refine ⟨hn, Nat.ne_of_gt (Nat.lt_of_lt_of_le I.lt hb), I.nofs hb, .inr (Nat.le_trans I.sz hb), fun x c e z => ?_, fun p hp z => ?_⟩
 ·obtain ⟨v, q⟩ := I.cell x c e
  exact absurd (Nat.lt_of_lt_of_le q.lt (by rw [z]; exact hb)) (Nat.lt_irrefl _)
 ·exact absurd (Nat.lt_of_lt_of_le (Heap.lt_size (I.pin p hp).1) (by rw [z]; exact hb)) (Nat.lt_irrefl _)
structure Turn (P : Program) (w : World) (K : PySem.W.Frag) (tg : Expr) (J : It) (fp : List Addr) (it : Addr) (tn : Nat -> Heap -> Prop) : Prop where
 mem : it ∈ fp
 obj : ∀ i h, tn i h -> ∀ b ∈ fp, ∃ o, h.get? b = some o /\ ∀ v, o.data ≠ .cell v
 keep : ∀ i h h', tn i h -> (∀ b ∈ fp, ∀ o, h.get? b = some o -> h'.get? b = some o) -> tn i h'
 item : ∀ (X : Cx), X.prog = P -> X.w = w -> X.K = K -> X.calm = true -> ∀ (i : Nat) (pins : List (Addr × Obj)) (s : Shared) (σ : St) (H : Hp) (E : Value -> Shared -> Prop), Inv X pins σ H s -> (∀ b ∈ fp, FpOk X pins H b) -> tn i s.heap -> J.go i H ->
  wpAny (model P w) X.A (pyNext (.ref it)) (fun r s1 => ∃ u, r = some u /\
   wpAny (model P w) X.A (letOwnedTupleGo tg (.ref it) u) (fun _ s2 => ∃ x H', Inv X pins σ H' s2 /\ RelV x u /\ J.yld i H x H' /\ tn (i + 1) s2.heap /\ ∀ b ∈ fp, H' b = none) E s1) E s
 done : ∀ (X : Cx), X.prog = P -> X.w = w -> X.K = K -> X.calm = true -> ∀ (i : Nat) (pins : List (Addr × Obj)) (s : Shared) (σ : St) (H : Hp) (E : Value -> Shared -> Prop), Inv X pins σ H s -> (∀ b ∈ fp, FpOk X pins H b) -> tn i s.heap -> J.stop i H ->
  wpAny (model P w) X.A (pyNext (.ref it)) (fun r s1 => r = none /\ Inv X pins σ H s1) E s
 self : ∀ (A : Around) (i : Nat) (s : Shared) (Q : Value -> Shared -> Prop) (E : Value -> Shared -> Prop), tn i s.heap -> Q (.ref it) s -> wpAny (model P w) A (pyIter (.ref it)) Q E s
abbrev TI := St -> Hp -> (It -> Hp -> Prop) -> Prop
def PIE (X : Cx) (pins : List (Addr × Obj)) (σ : St) (tg : Expr) (R : It -> Hp -> Prop) (itv : Value) (s2 : Shared) : Prop :=
 ∃ (it : Addr) (fp : List Addr) (tn : Nat -> Heap -> Prop) (J : It) (H' : Hp), itv = .ref it /\ Inv X pins σ H' s2 /\ Turn X.prog X.w X.K tg J fp it tn /\ tn 0 s2.heap /\ (∀ b ∈ fp, FpOk X pins H' b) /\ R J H'
def PI (X : Cx) (tg iter : Expr) (wi : TI) : Prop :=
 ∀ (pins : List (Addr × Obj)) (s : Shared) (σ : St) (H : Hp) (R : It -> Hp -> Prop), Inv X pins σ H s -> wi σ H R ->
  wpAny (model X.prog X.w) X.A (eval iter X.env) (fun v s1 => wpAny (model X.prog X.w) X.A (pyIter v) (PIE X pins σ tg R) X.xe s1) X.xe s
theorem go_of {M : Model} {A : Around} {E : Value -> Shared -> Prop} {s : Shared} {tg : Expr} {it : Addr} {u : Value} {o : Obj} {n : String} {vs : Array Value} {Q : Unit -> Shared -> Prop} (ho : s.heap.get? it = some o) (hc : o.cls = .type n) (hd : o.data = .fields vs)
    (hn : ["enumerate", "zip", "dict_itemiterator", "dict_reverseitemiterator", "odict_iterator", "itertools.zip_longest", "itertools.pairwise"].contains n = false) (hQ : Q () s) : wpAny M A (letOwnedTupleGo tg (.ref it) u) Q E s := by
  unfold letOwnedTupleGo
  cases tg <;> first
    | exact wpAny_pure hQ
    | (cases u <;> first
        | exact wpAny_pure hQ
        | (refine wpAny_bind (wpAny_load ho ?_)
           rw [hc, hd]
           show wpAny M A (if (["enumerate", "zip", "dict_itemiterator", "dict_reverseitemiterator", "odict_iterator", "itertools.zip_longest", "itertools.pairwise"].contains n && vs[0]? == some (rawInt _)) = true then _ else _) Q E s
           rw [if_neg (by intro h; rw [hn, Bool.false_and] at h; cases h)]
           exact wpAny_pure hQ))
def Itl (K : PySem.W.Frag) (a : Addr) : It :=
 ⟨fun i H => ∃ xs x, SqL K H a xs /\ xs[i]? = some x, fun i H x H' => H' = H /\ ∀ xs, SqL K H a xs -> xs[i]? = some x, fun i H => ∃ xs, SqL K H a xs /\ xs.length <= i⟩
def Itt (K : PySem.W.Frag) (a : Addr) : It :=
 ⟨fun i H => ∃ xs x, SqT K H a xs /\ xs[i]? = some x, fun i H x H' => H' = H /\ ∀ xs, SqT K H a xs -> xs[i]? = some x, fun i H => ∃ xs, SqT K H a xs /\ xs.length <= i⟩
def Itr (lo : Int) (n : Nat) : It := ⟨fun i _ => i < n, fun i H x H' => H' = H /\ x = .int (lo + i), fun i _ => n <= i⟩
theorem turn_list {P : Program} {w : World} {K : PySem.W.Frag} {tg : Expr} (a it : Addr) : Turn P w K tg (Itl K a) [it] it (fun i h => h.IsListIter it a i) where
 mem := by simp
 obj := fun i h st b hb => by
  have e : b = it := by simpa using hb
  subst e
  obtain ⟨o, e, c, d⟩ := st
  exact ⟨o, e, fun v z => by rw [d] at z; cases z⟩
 keep := fun i h h' st k => st.at fun o e => k it (by simp) o e
 item := by
  intro X hP hw hK hc i pins s σ H E I hf st hg
  subst hP hw hK
  obtain ⟨xs, x, hq, hx⟩ := hg
  obtain ⟨its, rv, p, hz⟩ := I.list hq
  obtain ⟨u, hu, ru⟩ := rv.get hx
  obtain ⟨f0, f1, f2, f3, f4, f5⟩ := hf it (by simp)
  refine wpAny_pyNext_list_item st p.isList (x := u) (by simpa using hu) fun h' st' sb => ?_
  have I1 : Inv X pins σ H { s with heap := h' } := I.turned (t' := s.toks) (fun b o hb e => (sb.2 b hb).trans e) f0 f1 f3 f4 f5
  obtain ⟨o, e, c, d⟩ := id st'
  exact ⟨u, rfl, go_of (s := { s with heap := h' }) e c d (by decide) ⟨x, H, I1, ru, ⟨rfl, fun ys hy => by rw [I.list_inj hy hq]; exact hx⟩, st', fun b hb => (hf b hb).1⟩⟩
 done := by
  intro X hP hw hK hc i pins s σ H E I hf st hg
  subst hP hw hK
  obtain ⟨xs, hq, hx⟩ := hg
  obtain ⟨its, rv, p, hz⟩ := I.list hq
  obtain ⟨f0, f1, f2, f3, f4, f5⟩ := hf it (by simp)
  have hl := rv.length
  exact wpAny_pyNext_list_end (I.ok.hd hc) st p.isList (by simp; lia) fun h' eb => ⟨rfl, I.turned (t' := s.toks) (fun b o hb e => eb b o hb e) f0 f1 f3 f4 f5⟩
 self := fun _ _ _ _ _ st h => wpAny_pyIter_listiter st h
theorem turn_tuple {P : Program} {w : World} {K : PySem.W.Frag} {tg : Expr} (a it : Addr) : Turn P w K tg (Itt K a) [it] it (fun i h => h.IsTupleIter it a i) where
 mem := by simp
 obj := fun i h st b hb => by
  have e : b = it := by simpa using hb
  subst e
  obtain ⟨o, e, c, d⟩ := st
  exact ⟨o, e, fun v z => by rw [d] at z; cases z⟩
 keep := fun i h h' st k => st.at fun o e => k it (by simp) o e
 item := by
  intro X hP hw hK hc i pins s σ H E I hf st hg
  subst hP hw hK
  obtain ⟨xs, x, hq, hx⟩ := hg
  obtain ⟨its, rv, p, hz⟩ := I.tuple hq
  obtain ⟨u, hu, ru⟩ := rv.get hx
  obtain ⟨f0, f1, f2, f3, f4, f5⟩ := hf it (by simp)
  refine wpAny_pyNext_tuple_item st (show s.heap.IsTuple a its.toArray from p) (x := u) (by simpa using hu) fun h' st' sb => ?_
  have I1 : Inv X pins σ H { s with heap := h' } := I.turned (t' := s.toks) (fun b o hb e => (sb.2 b hb).trans e) f0 f1 f3 f4 f5
  obtain ⟨o, e, c, d⟩ := id st'
  exact ⟨u, rfl, go_of (s := { s with heap := h' }) e c d (by decide) ⟨x, H, I1, ru, ⟨rfl, fun ys hy => by rw [I.tuple_inj hy hq]; exact hx⟩, st', fun b hb => (hf b hb).1⟩⟩
 done := by
  intro X hP hw hK hc i pins s σ H E I hf st hg
  subst hP hw hK
  obtain ⟨xs, hq, hx⟩ := hg
  obtain ⟨its, rv, p, hz⟩ := I.tuple hq
  obtain ⟨f0, f1, f2, f3, f4, f5⟩ := hf it (by simp)
  have hl := rv.length
  exact wpAny_pyNext_tuple_end (I.ok.hd hc) st (show s.heap.IsTuple a its.toArray from p) (by simp; lia) fun h' eb => ⟨rfl, I.turned (t' := s.toks) (fun b o hb e => eb b o hb e) f0 f1 f3 f4 f5⟩
 self := fun _ _ _ _ _ st h => wpAny_pyIter_tupleiter st h
theorem turn_range {P : Program} {w : World} {K : PySem.W.Frag} {tg : Expr} (it : Addr) (lo : Int) (n : Nat) : Turn P w K tg (Itr lo n) [it] it (fun i h => IsRangeIter h it (lo + (i : Nat) * 1) ((n : Int) - (i : Nat)) 1) where
 mem := by simp
 obj := fun i h st b hb => by
  have e : b = it := by simpa using hb
  subst e
  exact ⟨_, st, fun v z => by
   have z' : Data.fields _ = Data.cell v := z
   cases z'⟩
 keep := fun i h h' st k => k it (by simp) _ st
 item := by
  intro X hP hw hK hc i pins s σ H E I hf st hg
  subst hP hw hK
  obtain ⟨f0, f1, f2, f3, f4, f5⟩ := hf it (by simp)
  have W := Walks.range (prog := X.prog) (w := X.w) (I.ok.hd hc) it lo 1 n
  refine W.item i s _ _ hg st fun v h' tk hv st' kk => ?_
  obtain ⟨t, rfl⟩ := hv
  have I1 : Inv X pins σ H { s with heap := h', toks := tk } := I.turned (fun b o hb e => kk b o (by simpa using hb) e) f0 f1 f3 f4 f5
  refine ⟨_, rfl, go_of (s := { s with heap := h', toks := tk }) (n := "range_iterator") st' rfl rfl (by decide) ⟨.int (lo + i), H, I1, ⟨t, ?_⟩, ⟨rfl, rfl⟩, st', fun b hb => (hf b hb).1⟩⟩
  rw [Int.mul_one]
 done := by
  intro X hP hw hK hc i pins s σ H E I hf st hg
  subst hP hw hK
  obtain ⟨f0, f1, f2, f3, f4, f5⟩ := hf it (by simp)
  exact wpAny_pyNext_range_end (I.ok.hd hc) st (by have : n <= i := hg; lia) fun h' eb => ⟨rfl, I.turned (t' := s.toks) (fun b o hb e => eb b o hb e) f0 f1 f3 f4 f5⟩
 self := fun _ _ _ _ _ st h => wpAny_pyIter_rangeiter st h
end L2
namespace L2
open PySem PySem.Spec PyProof.Rows
section
variable {X : Cx} {tg : Expr}
def iList (K : PySem.W.Frag) (tl : TE) : TI := fun σ H R => tl σ H fun x H1 => ∃ a, x = .ref a /\ (∃ xs, SqL K H1 a xs) /\ R (Itl K a) H1
def iTup (K : PySem.W.Frag) (tl : TE) : TI := fun σ H R => tl σ H fun x H1 => ∃ a, x = .ref a /\ (∃ xs, SqT K H1 a xs) /\ R (Itt K a) H1
theorem pi_list {l : Expr} {tl : TE} (hl : PE X l tl) : PI X tg l (iList X.K tl) := by
 intro pins s σ H R I h
 refine thn (hl pins s σ H _ I h) fun v s1 ⟨x, H1, I1, r1, q1⟩ => ?_
 obtain ⟨a, e, ⟨xs, hq⟩, q⟩ := q1
 subst e
 cases r1
 obtain ⟨its, rv, p, hz⟩ := I1.list hq
 refine wpAny_pyIter_list p.isList ?_
 refine ⟨s1.heap.objs.size, [s1.heap.objs.size], _, _, H1, rfl, I1.kept (t' := s1.toks) fun b o e => Heap.get?_push_of_some _ e, turn_list a _, ⟨_, Heap.get?_push_size _ rfl, rfl, rfl⟩, fun b hb => ?_, q⟩
 have e : b = s1.heap.objs.size := by simpa using hb
 subst e
 exact I1.fpOk (Nat.le_refl _) (I1.hok.fresh (Nat.le_refl _))
theorem pi_tup {l : Expr} {tl : TE} (hl : PE X l tl) : PI X tg l (iTup X.K tl) := by
 intro pins s σ H R I h
 refine thn (hl pins s σ H _ I h) fun v s1 ⟨x, H1, I1, r1, q1⟩ => ?_
 obtain ⟨a, e, ⟨xs, hq⟩, q⟩ := q1
 subst e
 cases r1
 obtain ⟨its, rv, p, hz⟩ := I1.tuple hq
 refine wpAny_pyIter_tuple (show s1.heap.IsTuple a its.toArray from p) ?_
 refine ⟨s1.heap.objs.size, [s1.heap.objs.size], _, _, H1, rfl, I1.kept (t' := s1.toks) fun b o e => Heap.get?_push_of_some _ e, turn_tuple a _, ⟨_, Heap.get?_push_size _ rfl, rfl, rfl⟩, fun b hb => ?_, q⟩
 have e : b = s1.heap.objs.size := by simpa using hb
 subst e
 exact I1.fpOk (Nat.le_refl _) (I1.hok.fresh (Nat.le_refl _))
theorem range_it {pins : List (Addr × Obj)} {σ : St} {H : Hp} {s : Shared} {R : It -> Hp -> Prop} {E : Value -> Shared -> Prop} {lo hi : Int} {t u v : Tok} {tk : Nat} (I : Inv X pins σ H s) (h1 : -(2 ^ 62) <= lo) (h2 : lo < 2 ^ 62) (h3 : -(2 ^ 62) <= hi) (h4 : hi < 2 ^ 62)
  (q : R (Itr lo (hi - lo).toNat) H) : wpAny (model X.prog X.w) X.A (pyIter (.ref s.heap.objs.size)) (PIE X pins σ tg R) E { s with heap := s.heap.push { cls := .type "range", data := .fields #[.int lo t, .int hi u, .int 1 v] }, toks := tk } := by
 refine wpAny_pyIter_range (IsRange.new ..) (small_one h1 h2 h3 h4) ?_
 have I1 : Inv X pins σ H { s with heap := s.heap.push { cls := .type "range", data := .fields #[.int lo t, .int hi u, .int 1 v] }, toks := tk } := I.kept fun b o e => Heap.get?_push_of_some _ e
 refine ⟨(s.heap.push { cls := .type "range", data := .fields #[.int lo t, .int hi u, .int 1 v] }).objs.size, [(s.heap.push { cls := .type "range", data := .fields #[.int lo t, .int hi u, .int 1 v] }).objs.size], _, _, H, rfl,
  I1.kept (t' := tk) fun b o e => Heap.get?_push_of_some _ e, turn_range _ lo (hi - lo).toNat, ?_, fun b hb => ?_, q⟩
 ·have e1 : lo + ((0 : Nat) : Int) * 1 = lo := by simp
  have e2 : (((hi - lo).toNat : Nat) : Int) - ((0 : Nat) : Int) = Builtin.Range.rangeSize lo hi 1 := by rw [rangeSize_one]; split <;> lia
  show IsRangeIter _ _ (lo + ((0 : Nat) : Int) * 1) ((((hi - lo).toNat : Nat) : Int) - ((0 : Nat) : Int)) 1
  rw [e1, e2]
  exact Heap.get?_push_size _ rfl
 ·have e : b = (s.heap.push { cls := .type "range", data := .fields #[.int lo t, .int hi u, .int 1 v] }).objs.size := by simpa using hb
  subst e
  exact I1.fpOk (Nat.le_refl _) (I1.hok.fresh (Nat.le_refl _))
def iRng1 (ta : TA) : TI := fun σ H R => ta σ H fun vs H1 => ∃ j : Int, vs = [.int j] /\ -(2 ^ 62) <= j /\ j < 2 ^ 62 /\ R (Itr 0 j.toNat) H1
def iRng2 (ta : TA) : TI := fun σ H R => ta σ H fun vs H1 => ∃ i j : Int, vs = [.int i, .int j] /\ (-(2 ^ 62) <= i /\ i < 2 ^ 62 /\ -(2 ^ 62) <= j /\ j < 2 ^ 62) /\ R (Itr i (j - i).toNat) H1
theorem pi_range1 {a : Expr} {ta : TA} {p pos : Pos} (hg : Gl X "range") (hm : X.mg "range" = none) (ha : PA X [a] ta) (hs : starEach [a] X.env = [(false, eval a X.env)] := by rfl) : PI X tg (.Call (.Name "range" p) [a] [] pos) (iRng1 ta) := by
 intro pins s σ H R I h
 refine Call_ (ld_blt I hg hm boot_range (PyProof.Rows.callWith_type1 (thn (ha pos pins s σ H _ I h) fun us s1 ⟨vs, H1, I1, r1, q1⟩ => ?_) hs rfl))
 obtain ⟨j, e, q1, q2, q⟩ := q1
 subst e
 cases r1 with
 | cons r rr =>
  cases rr
  obtain ⟨t, rfl⟩ := r
  exact call_range_1 (range_it I1 (by lia) (by lia) q1 q2 (by simpa using q))
theorem pi_range2 {a b : Expr} {ta : TA} {p pos : Pos} (hg : Gl X "range") (hm : X.mg "range" = none) (ha : PA X [a, b] ta) (hs : starEach [a, b] X.env = [(false, eval a X.env), (false, eval b X.env)] := by rfl) (hs2 : starEach [b] X.env = [(false, eval b X.env)] := by rfl) :
  PI X tg (.Call (.Name "range" p) [a, b] [] pos) (iRng2 ta) := by
 intro pins s σ H R I h
 refine Call_ (ld_blt I hg hm boot_range (PyProof.Rows.callWith_type1 (thn (ha pos pins s σ H _ I h) fun us s1 ⟨vs, H1, I1, r1, q1⟩ => ?_) (by rw [hs, hs2]) (by rw [hs2]; rfl)))
 obtain ⟨i, j, e, ⟨q1, q2, q3, q4⟩, q⟩ := q1
 subst e
 cases r1 with
 | cons r rr =>
  cases rr with
  | cons r' rr =>
   cases rr
   obtain ⟨t, rfl⟩ := r
   obtain ⟨t', rfl⟩ := r'
   exact call_range_2 (range_it I1 q1 q2 q3 q4 q)
def tFor (wi : TI) (g : TG) (tb : TS) : TS := fun D σ H => wi σ H fun J H1 => ∃ W : Nat -> Nat -> St -> Hp -> Prop, (∃ m, W 0 m σ H1) /\ ∀ i m σ H, W i m σ H ->
 (J.stop i H /\ D.nx σ H) \/ (J.go i H /\ ∃ N : St -> Hp -> Prop, (∀ σ' H', N σ' H' -> ∃ m', m' < m /\ W (i + 1) m' σ' H') /\ ∀ x H', J.yld i H x H' -> g x σ H' fun σ2 H2 => tb { D with nx := N, ct := N, bk := D.nx } σ2 H2)
def pinsAt (fp : List Addr) (h : Heap) : List (Addr × Obj) := fp.filterMap fun b => (h.get? b).map fun o => (b, o)
theorem mem_pinsAt {fp : List Addr} {h : Heap} {b : Addr} {o : Obj} (hb : b ∈ fp) (e : h.get? b = some o) : (b, o) ∈ pinsAt fp h := List.mem_filterMap.mpr ⟨b, hb, by rw [e]; rfl⟩
theorem of_pinsAt {fp : List Addr} {h : Heap} {p : Addr × Obj} (hp : p ∈ pinsAt fp h) : p.1 ∈ fp /\ h.get? p.1 = some p.2 := by
 obtain ⟨b, hb, e⟩ := List.mem_filterMap.mp hp
 cases q : h.get? b with
 | none => rw [q] at e; cases e
 | some o =>
  rw [q] at e
  have e' : (b, o) = p := Option.some.inj e
  subst e'
  exact ⟨hb, q⟩
theorem Inv.pinned {pins : List (Addr × Obj)} {σ : St} {H : Hp} {s : Shared} {fp : List Addr} (I : Inv X pins σ H s) (hf : ∀ b ∈ fp, FpOk X pins H b) (ho : ∀ b ∈ fp, ∃ o, s.heap.get? b = some o /\ ∀ v, o.data ≠ .cell v) : Inv X (pins ++ pinsAt fp s.heap) σ H s :=
 I.pins_of fun p hp => (List.mem_append.mp hp).elim (fun z => I.pin p (List.mem_append_right _ z)) fun z => by
  obtain ⟨hb, e⟩ := of_pinsAt z
  obtain ⟨f0, f1, f2, _⟩ := hf p.1 hb
  obtain ⟨o, e', d⟩ := ho p.1 hb
  rw [e] at e'; cases e'
  exact ⟨e, f0, f1, f2, d⟩
theorem Inv.unpinned {pins pl : List (Addr × Obj)} {σ : St} {H : Hp} {s : Shared} (I : Inv X (pins ++ pl) σ H s) : Inv X pins σ H s := I.pins_of fun p hp => I.pin p (List.mem_append_right _ (List.mem_append_left _ hp))
theorem ps_for {iter : Expr} {body : List Stmt} {wi : TI} {g : TG} {tb : TS} {pos : Pos} (hp : PassesOwn (model X.prog X.w) X.A X.env X.xe) (hc : X.calm = true) (hi : PI X tg iter wi) (hg : PG X tg g) (hb : PSs X body tb)
  (hs : ∀ x, foldedSetIterable iter X.env x = pure x := by intro _; rfl) : PS X (.For tg iter body [] pos) (tFor wi g tb) := by
 intro pins s σ H D I h
 refine wpAny_For (thn (hi pins s σ H _ I h) fun v s1 h1 => thn h1 fun itv s2 h2 => ?_) hs
 obtain ⟨it, fp, tn, J, H2, e, I2, T, st2, f2, W, ⟨m0, w0⟩, turn⟩ := h2
 subst e
 have stat : ∀ {H' : Hp}, (∀ b ∈ fp, H' b = none) -> ∀ b ∈ fp, FpOk X pins H' b := fun hn b hb => ⟨hn b hb, (f2 b hb).2⟩
 refine codeAny_forLoop_any (fun n s' => ∃ i σ' H', Inv X pins σ' H' s' /\ tn i s'.heap /\ (∀ b ∈ fp, H' b = none) /\ W i n σ' H') ?_ m0 ⟨0, σ, H2, I2, st2, fun b hb => (f2 b hb).1, w0⟩
 rintro n s3 ⟨i, σ3, H3, I3, st3, fr3, w3⟩
 rcases turn i n σ3 H3 w3 with ⟨stop, qn⟩ | ⟨go, N, hN, step⟩
 ·refine wpAny_passesOwn hp (thn (T.done X rfl rfl rfl hc i pins s3 σ3 H3 X.xe I3 (stat fr3) st3 stop) fun r s4 ⟨hr, I4⟩ => ?_)
  subst hr
  exact wpAny_execs_nil ⟨σ3, H3, I4, qn⟩
 ·refine wpAny_passesOwn hp (thn (T.item X rfl rfl rfl hc i pins s3 σ3 H3 X.xe I3 (stat fr3) st3 go) fun r s4 ⟨u, hr, h4⟩ => ?_)
  subst hr
  refine wpAny_passesOwn hp (thn h4 fun _ s5 ⟨x, H5, I5, r5, y5, st5, fr5⟩ => ?_)
  have I5' := I5.pinned (stat fr5) (T.obj _ _ st5)
  refine wpAny_passesOwn hp (thn (hg _ s5 σ3 H5 x u _ I5' r5 (step x H5 y5)) fun _ s6 ⟨σ6, H6, I6, q6⟩ => ?_)
  refine wpAny_passesOwn hp (thn (hb _ s6 σ6 H6 _ I6 q6) fun f s7 q7 => ?_)
  have again : ∀ {σ7 : St} {H7 : Hp}, Inv X (pins ++ pinsAt fp s5.heap) σ7 H7 s7 -> N σ7 H7 -> ∃ m, m < n /\ ∃ i σ' H', Inv X pins σ' H' s7 /\ tn i s7.heap /\ (∀ b ∈ fp, H' b = none) /\ W i m σ' H' := fun {σ7 H7} I7 n7 => by
   obtain ⟨m', hm, w7⟩ := hN σ7 H7 n7
   refine ⟨m', hm, i + 1, σ7, H7, I7.unpinned, T.keep _ _ _ st5 fun b hb o e => (I7.pin (b, o) (List.mem_append_right _ (List.mem_append_right _ (mem_pinsAt hb e)))).1, fun b hb => ?_, w7⟩
   obtain ⟨o, e, d⟩ := T.obj _ _ st5 b hb
   exact (I7.pin (b, o) (List.mem_append_right _ (List.mem_append_right _ (mem_pinsAt hb e)))).2.1
  cases f with
  | next => obtain ⟨σ7, H7, I7, n7⟩ := q7; exact again I7 n7
  | cont => obtain ⟨σ7, H7, I7, n7⟩ := q7; exact again I7 n7
  | brk => obtain ⟨σ7, H7, I7, q7⟩ := q7; exact ⟨σ7, H7, I7.unpinned, q7⟩
  | ret v => obtain ⟨x7, σ7, H7, I7, r7, q7⟩ := q7; exact ⟨x7, σ7, H7, I7.unpinned, r7, q7⟩
end
theorem for_list {K : PySem.W.Frag} {a : Addr} {xs : List V} {g : TG} {tb : TS} {D : Ends} {σ : St} {H : Hp} (Pv : Nat -> St -> Hp -> Prop) (h0 : Pv 0 σ H) (hl : ∀ i σ H, i <= xs.length -> Pv i σ H -> SqL K H a xs)
  (hs : ∀ i x σ H, xs[i]? = some x -> Pv i σ H -> g x σ H fun σ2 H2 => tb { D with nx := Pv (i + 1), ct := Pv (i + 1), bk := D.nx } σ2 H2) (hd : ∀ σ H, Pv xs.length σ H -> D.nx σ H) :
  ∃ W : Nat -> Nat -> St -> Hp -> Prop, (∃ m, W 0 m σ H) /\ ∀ i m σ H, W i m σ H ->
   ((Itl K a).stop i H /\ D.nx σ H) \/ ((Itl K a).go i H /\ ∃ N : St -> Hp -> Prop, (∀ σ' H', N σ' H' -> ∃ m', m' < m /\ W (i + 1) m' σ' H') /\ ∀ x H', (Itl K a).yld i H x H' -> g x σ H' fun σ2 H2 => tb { D with nx := N, ct := N, bk := D.nx } σ2 H2) := by
 refine ⟨fun i m σ H => m = xs.length - i /\ i <= xs.length /\ Pv i σ H, ⟨xs.length, by simp, Nat.zero_le _, h0⟩, ?_⟩
 rintro i m σ H ⟨rfl, hi, p⟩
 have q := hl i σ H hi p
 by_cases hlt : i < xs.length
 ·refine .inr ⟨⟨xs, xs[i], q, by simp [hlt]⟩, Pv (i + 1), fun σ' H' p' => ⟨xs.length - (i + 1), by lia, rfl, hlt, p'⟩, fun x H' y => ?_⟩
  obtain ⟨e, y⟩ := y
  subst e
  exact hs i x σ _ (y xs q) p
 ·have e : i = xs.length := by lia
  subst e
  exact .inl ⟨⟨xs, q, Nat.le_refl _⟩, hd σ H p⟩
theorem for_range {lo : Int} {n : Nat} {g : TG} {tb : TS} {D : Ends} {σ : St} {H : Hp} (Pv : Nat -> St -> Hp -> Prop) (h0 : Pv 0 σ H)
  (hs : ∀ i σ H, i < n -> Pv i σ H -> g (.int (lo + i)) σ H fun σ2 H2 => tb { D with nx := Pv (i + 1), ct := Pv (i + 1), bk := D.nx } σ2 H2) (hd : ∀ σ H, Pv n σ H -> D.nx σ H) :
  ∃ W : Nat -> Nat -> St -> Hp -> Prop, (∃ m, W 0 m σ H) /\ ∀ i m σ H, W i m σ H ->
   ((Itr lo n).stop i H /\ D.nx σ H) \/ ((Itr lo n).go i H /\ ∃ N : St -> Hp -> Prop, (∀ σ' H', N σ' H' -> ∃ m', m' < m /\ W (i + 1) m' σ' H') /\ ∀ x H', (Itr lo n).yld i H x H' -> g x σ H' fun σ2 H2 => tb { D with nx := N, ct := N, bk := D.nx } σ2 H2) := by
 refine ⟨fun i m σ H => m = n - i /\ i <= n /\ Pv i σ H, ⟨n, by simp, Nat.zero_le _, h0⟩, ?_⟩
 rintro i m σ H ⟨rfl, hi, p⟩
 by_cases hlt : i < n
 ·refine .inr ⟨hlt, Pv (i + 1), fun σ' H' p' => ⟨n - (i + 1), by lia, rfl, hlt, p'⟩, fun x H' y => ?_⟩
  obtain ⟨e, y⟩ := y
  subst e y
  exact hs i σ _ hlt p
 ·have e : i = n := by lia
  subst e
  exact .inl ⟨Nat.le_refl _, hd σ H p⟩
end L2
namespace L2
open PySem PySem.Spec PyProof.Rows
abbrev R2 := V -> V -> Hp -> VK -> Prop
def OpR (X : Cx) (f : Value -> Value -> Sem Value) (r : R2) : Prop :=
 ∀ (pins : List (Addr × Obj)) (s : Shared) (σ : St) (H : Hp) (x y : V) (v u : Value) (Q : VK), Inv X pins σ H s -> RelV x v -> RelV y u -> r x y H Q ->
  wpAny (model X.prog X.w) X.A (f v u) (EP X pins σ Q) X.xe s
def UnR (X : Cx) (f : Value -> Sem Value) (r : V -> Hp -> VK -> Prop) : Prop :=
 ∀ (pins : List (Addr × Obj)) (s : Shared) (σ : St) (H : Hp) (x : V) (v : Value) (Q : VK), Inv X pins σ H s -> RelV x v -> r x H Q ->
  wpAny (model X.prog X.w) X.A (f v) (EP X pins σ Q) X.xe s
def CallR (X : Cx) (f : Value) (r : List V -> Hp -> VK -> Prop) : Prop :=
 ∀ (pins : List (Addr × Obj)) (s : Shared) (σ : St) (H : Hp) (xs : List V) (us : List Value) (Q : VK), Inv X pins σ H s -> Vals xs us -> r xs H Q ->
  wpAny (model X.prog X.w) X.A (call f us) (EP X pins σ Q) X.xe s
def tOp (r : R2) (ta tb : TE) : TE := fun σ H Q => ta σ H fun x H1 => tb σ H1 fun y H2 => r x y H2 Q
def tUn (r : V -> Hp -> VK -> Prop) (ta : TE) : TE := fun σ H Q => ta σ H fun x H1 => r x H1 Q
def rI (C : Int -> Int -> Prop) (g : Int -> Int -> V) : R2 := fun x y H Q => ∃ i j, x = .int i /\ y = .int j /\ C i j /\ Q (g i j) H
def rI0 (g : Int -> Int -> V) : R2 := fun x y H Q => ∃ i j, x = .int i /\ y = .int j /\ Q (g i j) H
def rU (g : Int -> V) : V -> Hp -> VK -> Prop := fun x H Q => ∃ i, x = .int i /\ Q (g i) H
section
variable {X : Cx} {a b c : Expr} {ta tb tc : TE} {pos : Pos}
theorem binT (ha : PE X a ta) (hb : PE X b tb) {pins : List (Addr × Obj)} {s : Shared} {σ : St} {H : Hp} {R : V -> V -> Hp -> Prop} (I : Inv X pins σ H s)
  (h : ta σ H fun x H1 => tb σ H1 fun y H2 => R x y H2) {Q : Value -> Shared -> Prop} {f : Value -> Value -> Sem Value}
  (hf : ∀ v u s2 x y H2, Inv X pins σ H2 s2 -> RelV x v -> RelV y u -> R x y H2 -> wpAny (model X.prog X.w) X.A (f v u) Q X.xe s2) :
  wpAny (model X.prog X.w) X.A (eval a X.env) (fun v s₁ => wpAny (model X.prog X.w) X.A (eval b X.env) (fun u s₂ => wpAny (model X.prog X.w) X.A (f v u) Q X.xe s₂) X.xe s₁) X.xe s := by
 refine thn (ha pins s σ H _ I h) fun v s1 ⟨x, H1, I1, r1, q1⟩ => ?_
 refine thn (hb pins s1 σ H1 _ I1 q1) fun u s2 ⟨y, H2, I2, r2, q2⟩ => ?_
 exact hf v u s2 x y H2 I2 r1 r2 q2
theorem pe_op {op : Operator} {r : R2} (ho : OpR X (binaryOp op) r) (ha : PE X a ta) (hb : PE X b tb) : PE X (.BinOp a op b pos) (tOp r ta tb) := by
 intro pins s σ H Q I h
 exact wpAny_BinOp (binT ha hb I h fun v u s2 x y H2 I2 rx ry q => ho pins s2 σ H2 x y v u Q I2 rx ry q)
theorem pe_un {op : UnaryOp} {r : V -> Hp -> VK -> Prop} (ho : UnR X (unaryOp op) r) (ha : PE X a ta) : PE X (.UnaryOp op a pos) (tUn r ta) := by
 intro pins s σ H Q I h
 exact UnaryOp_ (thn (ha pins s σ H _ I h) fun v s1 ⟨x, H1, I1, r1, q1⟩ => ho pins s1 σ H1 x v Q I1 r1 q1)
theorem opI {f : Value -> Value -> Sem Value} {C : Int -> Int -> Prop} {g : Int -> Int -> Int}
  (rule : ∀ (i j : Int) (t u : Tok) (s : Shared) (Q : Value -> Shared -> Prop) (E : Value -> Shared -> Prop), C i j -> Q (.int (g i j) s.toks) { s with toks := s.toks + 1 } -> wpAny (model X.prog X.w) X.A (f (.int i t) (.int j u)) Q E s) :
  OpR X f (rI C fun i j => .int (g i j)) := by
 intro pins s σ H x y v u Q I rx ry h
 obtain ⟨i, j, rfl, rfl, hc, q⟩ := h
 obtain ⟨t, rfl⟩ := rx
 obtain ⟨t', rfl⟩ := ry
 exact rule i j t t' s _ _ hc ⟨.int (g i j), H, I.tok _, ⟨_, rfl⟩, q⟩
theorem opI0 {f : Value -> Value -> Sem Value} {g : Int -> Int -> Int}
  (rule : ∀ (i j : Int) (t u : Tok) (s : Shared) (Q : Value -> Shared -> Prop) (E : Value -> Shared -> Prop), Q (.int (g i j) s.toks) { s with toks := s.toks + 1 } -> wpAny (model X.prog X.w) X.A (f (.int i t) (.int j u)) Q E s) :
  OpR X f (rI0 fun i j => .int (g i j)) := by
 intro pins s σ H x y v u Q I rx ry h
 obtain ⟨i, j, rfl, rfl, q⟩ := h
 obtain ⟨t, rfl⟩ := rx
 obtain ⟨t', rfl⟩ := ry
 exact rule i j t t' s _ _ ⟨.int (g i j), H, I.tok _, ⟨_, rfl⟩, q⟩
theorem opB0 {f : Value -> Value -> Sem Value} {g : Int -> Int -> Bool}
  (rule : ∀ (i j : Int) (t u : Tok) (s : Shared) (Q : Value -> Shared -> Prop) (E : Value -> Shared -> Prop), Q (.bool (g i j)) s -> wpAny (model X.prog X.w) X.A (f (.int i t) (.int j u)) Q E s) :
  OpR X f (rI0 fun i j => .bl (g i j)) := by
 intro pins s σ H x y v u Q I rx ry h
 obtain ⟨i, j, rfl, rfl, q⟩ := h
 obtain ⟨t, rfl⟩ := rx
 obtain ⟨t', rfl⟩ := ry
 exact rule i j t t' s _ _ ⟨.bl (g i j), H, I, rfl, q⟩
def CDiv (i j : Int) : Prop := 0 < j /\ j < 1073741824
def CPow (i j : Int) : Prop := 0 <= j /\ j <= 1000000 /\ i.natAbs < 2 ^ 64
def CMul (i j : Int) : Prop := (-(2 ^ 64) < i /\ i < 2 ^ 64) \/ (-(2 ^ 64) < j /\ j < 2 ^ 64)
theorem CMul.ok {i j : Int} (h : CMul i j) : IntMulOk i j := by
 rcases h with ⟨h1, h2⟩ | ⟨h1, h2⟩
 ·exact .of_left (intBits_le_64 h1 h2)
 ·exact .of_right (intBits_le_64 h1 h2)
theorem op_add : OpR X (binaryOp .Add) (rI0 fun i j => .int (i + j)) := opI0 fun _ _ _ _ _ _ _ q => add_int q
theorem op_sub : OpR X (binaryOp .Sub) (rI0 fun i j => .int (i - j)) := opI0 fun _ _ _ _ _ _ _ q => sub_int q
theorem op_mul : OpR X (binaryOp .Mult) (rI CMul fun i j => .int (i * j)) := opI fun _ _ _ _ _ _ _ hc q => mul_int q hc.ok
theorem op_fdiv : OpR X (binaryOp .FloorDiv) (rI CDiv fun i j => .int (i / j)) := opI fun i j _ _ _ _ _ hc q => by
 have h1 : (0 : Int) < j := hc.1
 have h2 : j < 1073741824 := hc.2
 exact floordiv_int (by lia) (by rw [Int.fdiv_eq_ediv_of_nonneg i (by lia)]; exact q) (.inl (PyProof.noPylong_small (by lia)))
theorem op_mod : OpR X (binaryOp .Mod) (rI (fun _ j => 0 < j) fun i j => .int (i % j)) := opI fun i j _ _ _ _ _ hc q => by
 have h1 : (0 : Int) < j := hc
 exact mod_int' (by lia) (by rw [Int.fmod_eq_emod_of_nonneg i (by lia)]; exact q)
theorem op_pow : OpR X (binaryOp .Pow) (rI CPow fun i j => .int (i ^ j.toNat)) := opI fun _ _ _ _ _ _ _ hc q => pow_int_small hc.1 hc.2.1 hc.2.2 q
theorem unI {f : Value -> Sem Value} {g : Int -> Int}
  (rule : ∀ (i : Int) (t : Tok) (s : Shared) (Q : Value -> Shared -> Prop) (E : Value -> Shared -> Prop), Q (.int (g i) s.toks) { s with toks := s.toks + 1 } -> wpAny (model X.prog X.w) X.A (f (.int i t)) Q E s) :
  UnR X f (rU fun i => .int (g i)) := by
 intro pins s σ H x v Q I rx h
 obtain ⟨i, rfl, q⟩ := h
 obtain ⟨t, rfl⟩ := rx
 exact rule i t s _ _ ⟨.int (g i), H, I.tok _, ⟨_, rfl⟩, q⟩
theorem un_neg : UnR X (unaryOp .USub) (rU fun i => .int (-i)) := unI fun _ _ _ _ _ q => neg_int q
end
def scal : V -> V -> Bool
 | .non, .non => true | .non, .int _ => true | .int _, .non => true | .non, .bl _ => true | .bl _, .non => true | .non, .str _ => true | .str _, .non => true
 | .int _, .int _ => true | .bl _, .bl _ => true | .str _, .str _ => true | .byt _, .byt _ => true
 | .int _, .str _ => true | .str _, .int _ => true | .bl _, .str _ => true | .str _, .bl _ => true
 | _, _ => false
def rEq : R2 := fun x y H Q => scal x y = true /\ Q (.bl (decide (x = y))) H
def rNe : R2 := fun x y H Q => scal x y = true /\ Q (.bl (!decide (x = y))) H
theorem dec_int {i j : Int} : decide (V.int i = V.int j) = (i == j) := by
 rw [Bool.eq_iff_iff]
 simp
theorem dec_bl {i j : Bool} : decide (V.bl i = V.bl j) = (i == j) := by
 rw [Bool.eq_iff_iff]
 simp
theorem dec_str {i j : Str} : decide (V.str i = V.str j) = (i == j) := by
 rw [Bool.eq_iff_iff]
 simp
theorem dec_byt {i j : Array UInt8} : decide (V.byt i = V.byt j) = (i.toList == j.toList) := by
 rw [Bool.eq_iff_iff]
 cases i
 cases j
 simp
section
variable {X : Cx} {a b c : Expr} {ta tb tc : TE} {pos : Pos}
theorem fin_bl {pins : List (Addr × Obj)} {σ : St} {H : Hp} {s : Shared} {Q : VK} {k k' : Bool} (I : Inv X pins σ H s) (q : Q (.bl k) H) (e : k = k') : EP X pins σ Q (.bool k') s := by
 subst e
 exact ⟨.bl k, H, I, rfl, q⟩
theorem op_eq : OpR X (compareOp .Eq) rEq := by
 intro pins s σ H x y v u Q I rx ry h
 obtain ⟨hs, q⟩ := h
 cases x with
 | non =>
  cases rx
  cases y with
  | non => cases ry; exact PySem.EqNone.eq_none_none (fin_bl I q (by simp))
  | bl j => cases ry; exact PySem.EqNone.eq_none_bool (fin_bl I q (by simp))
  | int j => obtain ⟨t', rfl⟩ := ry; exact PySem.EqNone.eq_none_int (fin_bl I q (by simp))
  | str j => obtain ⟨t', rfl⟩ := ry; exact PySem.EqNone.eq_none_str (fin_bl I q (by simp))
  | _ => exact absurd (show false = true from hs) Bool.false_ne_true
 | bl i =>
  cases rx
  cases y with
  | non => cases ry; exact PySem.EqNone.eq_bool_none (fin_bl I q (by simp))
  | bl j => cases ry; exact eq_bool (fin_bl I q dec_bl)
  | str j => obtain ⟨t', rfl⟩ := ry; exact PySem.EqMixed.eq_bool_str (fin_bl I q (by simp))
  | _ => exact absurd (show false = true from hs) Bool.false_ne_true
 | int i =>
  obtain ⟨t, rfl⟩ := rx
  cases y with
  | non => cases ry; exact PySem.EqNone.eq_int_none (fin_bl I q (by simp))
  | int j => obtain ⟨t', rfl⟩ := ry; exact eq_int (fin_bl I q dec_int)
  | str j => obtain ⟨t', rfl⟩ := ry; exact PySem.EqMixed.eq_int_str (fin_bl I q (by simp))
  | _ => exact absurd (show false = true from hs) Bool.false_ne_true
 | str i =>
  obtain ⟨t, rfl⟩ := rx
  cases y with
  | non => cases ry; exact PySem.EqNone.eq_str_none (fin_bl I q (by simp))
  | bl j => cases ry; exact PySem.EqMixed.eq_str_bool (fin_bl I q (by simp))
  | int j => obtain ⟨t', rfl⟩ := ry; exact PySem.EqMixed.eq_str_int (fin_bl I q (by simp))
  | str j => obtain ⟨t', rfl⟩ := ry; exact eq_str (fin_bl I q dec_str)
  | _ => exact absurd (show false = true from hs) Bool.false_ne_true
 | byt i =>
  obtain ⟨t, rfl⟩ := rx
  cases y with
  | byt j => obtain ⟨t', rfl⟩ := ry; exact PySem.W.eq_bytes (fin_bl I q dec_byt)
  | _ => exact absurd (show false = true from hs) Bool.false_ne_true
 | _ => cases y <;> exact absurd (show false = true from hs) Bool.false_ne_true
theorem op_ne : OpR X (compareOp .NotEq) rNe := by
 intro pins s σ H x y v u Q I rx ry h
 obtain ⟨hs, q⟩ := h
 cases x with
 | non =>
  cases rx
  cases y with
  | non => cases ry; exact PySem.EqNone.ne_none_none (fin_bl I q (by simp))
  | bl j => cases ry; exact PySem.EqNone.ne_none_bool (fin_bl I q (by simp))
  | int j => obtain ⟨t', rfl⟩ := ry; exact PySem.EqNone.ne_none_int (fin_bl I q (by simp))
  | str j => obtain ⟨t', rfl⟩ := ry; exact PySem.EqNone.ne_none_str (fin_bl I q (by simp))
  | _ => exact absurd (show false = true from hs) Bool.false_ne_true
 | bl i =>
  cases rx
  cases y with
  | non => cases ry; exact PySem.EqNone.ne_bool_none (fin_bl I q (by simp))
  | bl j => cases ry; exact ne_bool (fin_bl I q (congrArg not dec_bl))
  | str j => obtain ⟨t', rfl⟩ := ry; exact PySem.EqMixed.ne_bool_str (fin_bl I q (by simp))
  | _ => exact absurd (show false = true from hs) Bool.false_ne_true
 | int i =>
  obtain ⟨t, rfl⟩ := rx
  cases y with
  | non => cases ry; exact PySem.EqNone.ne_int_none (fin_bl I q (by simp))
  | int j => obtain ⟨t', rfl⟩ := ry; exact ne_int (fin_bl I q (congrArg not dec_int))
  | str j => obtain ⟨t', rfl⟩ := ry; exact PySem.EqMixed.ne_int_str (fin_bl I q (by simp))
  | _ => exact absurd (show false = true from hs) Bool.false_ne_true
 | str i =>
  obtain ⟨t, rfl⟩ := rx
  cases y with
  | non => cases ry; exact PySem.EqNone.ne_str_none (fin_bl I q (by simp))
  | bl j => cases ry; exact PySem.EqMixed.ne_str_bool (fin_bl I q (by simp))
  | int j => obtain ⟨t', rfl⟩ := ry; exact PySem.EqMixed.ne_str_int (fin_bl I q (by simp))
  | str j => obtain ⟨t', rfl⟩ := ry; exact ne_str (fin_bl I q (congrArg not dec_str))
  | _ => exact absurd (show false = true from hs) Bool.false_ne_true
 | byt i =>
  obtain ⟨t, rfl⟩ := rx
  cases y with
  | byt j => obtain ⟨t', rfl⟩ := ry; exact PySem.W.ne_bytes (fin_bl I q (congrArg not dec_byt))
  | _ => exact absurd (show false = true from hs) Bool.false_ne_true
 | _ => cases y <;> exact absurd (show false = true from hs) Bool.false_ne_true
theorem op_lt : OpR X (compareOp .Lt) (rI0 fun i j => .bl (decide (i < j))) := opB0 fun _ _ _ _ _ _ _ q => lt_int q
theorem op_le : OpR X (compareOp .LtE) (rI0 fun i j => .bl (decide (i <= j))) := opB0 fun _ _ _ _ _ _ _ q => le_int q
theorem op_gt : OpR X (compareOp .Gt) (rI0 fun i j => .bl (decide (j < i))) := opB0 fun _ _ _ _ _ _ _ q => gt_int q
theorem op_in_str : OpR X (compareOp .In) (fun x y H Q => ∃ i j, x = .str i /\ y = .str j /\ Q (.bl (!(Builtin.Str.occurrences j i 0 j.length 1).isEmpty)) H) := by
 intro pins s σ H x y v u Q I rx ry h
 obtain ⟨i, j, rfl, rfl, q⟩ := h
 obtain ⟨t, rfl⟩ := rx
 obtain ⟨t', rfl⟩ := ry
 exact in_str (fin_bl I q rfl)
theorem op_isN : OpR X (compareOp .Is) (fun x y H Q => y = .non /\ Q (.bl (decide (x = .non))) H) := by
 intro pins s σ H x y v u Q I rx ry h
 obtain ⟨rfl, q⟩ := h
 cases ry
 refine is_none_gen (fin_bl I q ?_)
 cases x <;> first
  | (cases rx; rfl)
  | (obtain ⟨t, rfl⟩ := rx; rfl)
theorem op_notin_str : OpR X (compareOp .NotIn) (fun x y H Q => ∃ i j, x = .str i /\ y = .str j /\ Q (.bl (!(!(Builtin.Str.occurrences j i 0 j.length 1).isEmpty))) H) := by
 intro pins s σ H x y v u Q I rx ry h
 obtain ⟨i, j, rfl, rfl, q⟩ := h
 obtain ⟨t, rfl⟩ := rx
 obtain ⟨t', rfl⟩ := ry
 exact notIn_str (fin_bl I q rfl)
theorem nomark (b : Expr) {op : CmpOp} (h : op ≠ .In := by decide) (h2 : op ≠ .NotIn := by decide) : behindInMarks op b = false := by
 have e1 : (op == CmpOp.In) = false := by cases op <;> first | rfl | exact absurd rfl h
 have e2 : (op == CmpOp.NotIn) = false := by cases op <;> first | rfl | exact absurd rfl h2
 cases b <;> simp [behindInMarks, e1, e2]
theorem pe_cmpR {op : CmpOp} {r : R2} (ho : OpR X (compareOp op) r) (ha : PE X a ta) (hb : PE X b tb) (hm : behindInMarks op b = false) : PE X (.Compare a [op] [b] pos) (tOp r ta tb) := by
 intro pins s σ H Q I h
 exact wpAny_Compare1 (binT ha hb I h fun v u s2 x y H2 I2 rx ry q => ho pins s2 σ H2 x y v u Q I2 rx ry q) hm
def tTest (t : TE) : TT := fun σ H Q => t σ H fun x H' => ∃ k, x = .bl k /\ Q k H'
theorem pt_cmpR {op : CmpOp} {r : R2} (ho : OpR X (compareOp op) r) (ha : PE X a ta) (hb : PE X b tb) (hm : behindInMarks op b = false) : PT X (.Compare a [op] [b] pos) (tTest (tOp r ta tb)) := by
 intro pins s σ H Q I h
 refine wpAny_isTrue_Compare1 (thn (ha pins s σ H _ I h) fun v s1 ⟨x, H1, I1, r1, q1⟩ => thn (hb pins s1 σ H1 _ I1 q1) fun u s2 ⟨y, H2, I2, r2, q2⟩ =>
  thn (ho pins s2 σ H2 x y v u _ I2 r1 r2 q2) fun c s3 ⟨z, H3, I3, r3, k, e, q3⟩ => ?_) hm
 subst e
 cases r3
 exact wpAny_truthy_bool ⟨H3, I3, q3⟩
def tChain (r r' : R2) (ta tb tc : TE) : TE := fun σ H Q => ta σ H fun x H1 => tb σ H1 fun y H2 => r x y H2 fun z H3 => ∃ k, z = .bl k /\
 (if k = true then tc σ H3 fun w' H4 => r' y w' H4 Q else Q (.bl false) H3)
theorem pe_chain {op op' : CmpOp} {r r' : R2} (ho : OpR X (compareOp op) r) (ho' : OpR X (compareOp op') r') (ha : PE X a ta) (hb : PE X b tb) (hc : PE X c tc)
  (hm : lastMarks [op, op'] [b, c] = false := by with_unfolding_all rfl) : PE X (.Compare a [op, op'] [b, c] pos) (tChain r r' ta tb tc) := by
 intro pins s σ H Q I h
 refine Compare_chain (thn (ha pins s σ H _ I h) fun v s1 ⟨x, H1, I1, r1, q1⟩ => chain_link (thn (hb pins s1 σ H1 _ I1 q1) fun u s2 ⟨y, H2, I2, r2, q2⟩ =>
  thn (ho pins s2 σ H2 x y v u _ I2 r1 r2 q2) fun d s3 ⟨z, H3, I3, r3, k, e, q3⟩ => ?_)) hm
 subst e
 cases r3
 refine wpAny_truthy_bool ?_
 cases k with
 | false => exact ite_ff ⟨.bl false, H3, I3, rfl, q3⟩
 | true => exact ite_tt (chain_last (thn (hc pins s3 σ H3 _ I3 q3) fun w' s4 ⟨z', H4, I4, r4, q4⟩ => ho' pins s4 σ H4 y z' u w' Q I4 r2 r4 q4))
theorem pt_chain {op op' : CmpOp} {r r' : R2} (ho : OpR X (compareOp op) r) (ho' : OpR X (compareOp op') r') (ha : PE X a ta) (hb : PE X b tb) (hc : PE X c tc)
  (hm : lastMarks [op, op'] [b, c] = false := by with_unfolding_all rfl) : PT X (.Compare a [op, op'] [b, c] pos) (tTest (tChain r r' ta tb tc)) := by
 intro pins s σ H Q I h
 refine isTrue_chain (thn (ha pins s σ H _ I h) fun v s1 ⟨x, H1, I1, r1, q1⟩ => test_link (thn (hb pins s1 σ H1 _ I1 q1) fun u s2 ⟨y, H2, I2, r2, q2⟩ =>
  thn (ho pins s2 σ H2 x y v u _ I2 r1 r2 q2) fun d s3 ⟨z, H3, I3, r3, k, e, q3⟩ => ?_)) hm
 subst e
 cases r3
 refine wpAny_truthy_bool ?_
 cases k with
 | false =>
  obtain ⟨k', e', q'⟩ := q3
  cases e'
  exact ite_ff ⟨H3, I3, q'⟩
 | true =>
  refine ite_tt (test_last (thn (hc pins s3 σ H3 _ I3 q3) fun w' s4 ⟨z', H4, I4, r4, q4⟩ => thn (ho' pins s4 σ H4 y z' u w' _ I4 r2 r4 q4) fun d' s5 ⟨z2, H5, I5, r5, k2, e2, q5⟩ => ?_))
  subst e2
  cases r5
  exact wpAny_truthy_bool ⟨H5, I5, q5⟩
theorem line63 : (sizeLine : Nat) < 2 ^ 63 := by rw [sizeLine_eq]; decide
theorem op_add_str : OpR X (binaryOp .Add) (fun x y H Q => ∃ i j, x = .str i /\ y = .str j /\ i.length + j.length <= sizeLine /\ Q (.str (i ++ j)) H) := by
 intro pins s σ H x y v u Q I rx ry h
 obtain ⟨i, j, rfl, rfl, hz, q⟩ := h
 obtain ⟨t, rfl⟩ := rx
 obtain ⟨t', rfl⟩ := ry
 exact add_str (fun t' tk => ⟨.str (i ++ j), H, I.tok _, ⟨_, rfl⟩, q⟩) hz
theorem vals1 {x : V} {us : List Value} (r : Vals [x] us) : ∃ u, us = [u] /\ RelV x u := by
 cases r with
 | cons r1 r2 => cases r2; exact ⟨_, rfl, r1⟩
theorem vals2 {x y : V} {us : List Value} (r : Vals [x, y] us) : ∃ u w', us = [u, w'] /\ RelV x u /\ RelV y w' := by
 cases r with
 | cons r1 r2 =>
  cases r2 with
  | cons r3 r4 => cases r4; exact ⟨_, _, rfl, r1, r3⟩
theorem call_max2 (hc : X.calm = true) : CallR X (.builtin "max") (fun xs H Q => ∃ i j, xs = [.int i, .int j] /\ Q (.int (if j > i then j else i)) H) := by
 intro pins s σ H xs us Q I r h
 obtain ⟨i, j, rfl, q⟩ := h
 obtain ⟨u, w', rfl, ⟨t, rfl⟩, ⟨t', rfl⟩⟩ := vals2 r
 refine max_two_ints (I.ok.hd hc) fun h' tk k => ⟨_, H, I.kept k, ?_, q⟩
 by_cases hj : j > i
 ·rw [if_pos hj, if_pos hj]; exact ⟨_, rfl⟩
 ·rw [if_neg hj, if_neg hj]; exact ⟨_, rfl⟩
theorem call_min2 (hc : X.calm = true) : CallR X (.builtin "min") (fun xs H Q => ∃ i j, xs = [.int i, .int j] /\ Q (.int (if j < i then j else i)) H) := by
 intro pins s σ H xs us Q I r h
 obtain ⟨i, j, rfl, q⟩ := h
 obtain ⟨u, w', rfl, ⟨t, rfl⟩, ⟨t', rfl⟩⟩ := vals2 r
 refine min_two_ints (I.ok.hd hc) fun h' tk k => ⟨_, H, I.kept k, ?_, q⟩
 by_cases hj : j < i
 ·rw [if_pos hj, if_pos hj]; exact ⟨_, rfl⟩
 ·rw [if_neg hj, if_neg hj]; exact ⟨_, rfl⟩
theorem call_str_int : CallR X (.type "str") (fun xs H Q => ∃ i, xs = [.int i] /\ i.natAbs.log2 < 1920 /\ Q (.str (toString i)) H) := by
 intro pins s σ H xs us Q I r h
 obtain ⟨i, rfl, hz, q⟩ := h
 obtain ⟨u, rfl, t, rfl⟩ := vals1 r
 exact PySem.P.str_of_int hz ⟨.str _, H, I.tok _, ⟨_, rfl⟩, q⟩
end
end L2
namespace L2
open PySem PySem.Spec PyProof.Rows
structure ObjM (h : Heap) (x dx C : Addr) (mA : Str -> Option Value) : Prop where
 obj : h.get? x = some (PySem.W.instObj C dx)
 ns : h.Ns1 dx mA
 ne : dx ≠ x
theorem lookIn_ns {h : Heap} {dx : Addr} {mA : Str -> Option Value} (n : h.Ns1 dx mA) : ∃ od, h.get? dx = some od /\ ∀ name, PySem.W.lookIn name od = some (mA name) := by
 obtain ⟨o, es, ep, ho, hd, hk, _, hm⟩ := n
 refine ⟨o, ho, fun name => ?_⟩
 have e := hm name
 unfold nsFind findBy at e
 rw [<- Array.find?_toList] at e
 unfold PySem.W.lookIn
 rw [hd]
 dsimp only
 split
 ·rename_i y q
  rw [q] at e
  exact congrArg some e
 ·rename_i q
  rw [q] at e
  have a : es.toList.any (·.refKey) = false := by
   rw [List.any_eq_false]
   intro y hy
   obtain ⟨z, t, hkey⟩ := hk y (Array.mem_toList_iff.mp hy)
   simp [DictEntry.refKey, hkey]
  have a' : ¬ es.toList.any (·.refKey) = true := by rw [a]; exact Bool.false_ne_true
  rw [if_neg a']
  exact congrArg some e
theorem ObjM.look {h : Heap} {x dx C : Addr} {mA : Str -> Option Value} (I : ObjM h x dx C mA) : ∃ od, PySem.W.InstAt h x (PySem.W.instObj C dx) C (some od) /\ ∀ name, PySem.W.lookIn name od = some (mA name) :=
 let ⟨od, ho, hl⟩ := lookIn_ns I.ns
 ⟨od, ⟨I.obj, rfl, rfl, ho⟩, hl⟩
section
variable {prog : Program} {w : World} {A : Around} {E : Value -> Shared -> Prop} {s : Shared} {K : PySem.W.Frag} {x dx C f : Addr} {mA : Str -> Option Value} {name : Str} {v : Value}
theorem get_map {expr : Bool} {Q : Value -> Shared -> Prop} (X : K.In s.heap) (I : ObjM s.heap x dx C mA) (hg : PySem.W.plainGet K C name = true) (hh : PySem.W.hasDictIn K C = true)
  (ha : PySem.W.findIn K (.ref C) name = some none) (hv : mA name = some v) (hv' : PySem.W.handedIn v = true) (h : Q v { s with toks := s.toks + 1 }) :
  wpAny (model prog w) A (getAttr (.ref x) name expr) Q E s := by
 obtain ⟨od, J, hl⟩ := I.look
 exact PySem.W.get_value X J (PySem.W.plainGet_of hg).1 (PySem.W.findObj_own hh ha rfl (by rw [hl, hv])) hv' h
theorem get_meth {pl : Sem Bool} {Q : Value × List Value -> Shared -> Prop} (X : K.In s.heap) (I : ObjM s.heap x dx C mA) (hg : PySem.W.plainGet K C name = true)
  (hf : PySem.W.findIn K (.ref C) name = some (some (.ref f))) (ht : PySem.W.isFn K (.ref f) = true) (hv : mA name = none) (h : Q (.ref f, [.ref x]) s) :
  wpAny (model prog w) A (getMethod (.ref x) name pl) Q E s := by
 obtain ⟨od, J, hl⟩ := I.look
 exact PySem.W.method_fn X J (PySem.W.plainGet_of hg).1 (PySem.W.plainGet_of hg).2 hf (beq_iff_eq.mp ht) (by show (PySem.W.lookIn name od).map (·.isSome) = some false; rw [hl, hv]; rfl) h
theorem set_map {ns : List Str} {Q : Unit -> Shared -> Prop} (X : K.In s.heap) (I : ObjM s.heap x dx C mA)
  (hs : PySem.W.findIn K (.ref C) "__setattr__" = some (some (.builtin "object.__setattr__"))) (hp : PySem.W.plainOver K C = true) (ht : PySem.W.takerIn K C name = some none) (hh : PySem.W.hasDictIn K C = true)
  (hw : PySem.Within mA ns) (hsz : ns.length <= sizeLine)
  (h : ∀ h', ObjM h' x dx C (fun y => if y = name then some v else mA y) -> Heap.SameBut dx s.heap h' -> Q () { s with heap := h', toks := s.toks + 2 }) :
  wpAny (model prog w) A (setAttr (.ref x) name v) Q E s := by
 obtain ⟨od, J, hl⟩ := I.look
 refine PySem.W.set_plain X J hs (PySem.W.osa_open (s := { s with toks := s.toks + 1 }) (r := none) X J hp ht fun b => ?_)
 obtain ⟨cd, hc, hd'⟩ := PySem.W.any_some hh
 have hx : s.heap.get? x = some ⟨.ref C, some dx, .plain, #[]⟩ := I.obj
 refine wpAny_bind (wpAny_pure (wpAny_bind (wpAny_bind (wpAny_loadPart hx (wpAny_bind (PySem.W.Looks.here (s := { s with toks := s.toks + 1 }) (PySem.W.looks_clsIn X hc) ?_))))))
 rw [hd']
 refine wpAny_pure (a := some dx) (wpAny_bind (wpAny_pure (wpAny_bind ?_)))
 refine wpAny_nsSet1 (s := { s with toks := s.toks + 1 }) I.ns fun h' hn2 hs2 => ?_
 obtain ⟨oD, esD, epD, hoD, hdD, hcD⟩ := hn2.count (PySem.Within.cons name v hw)
 refine wpAny_bind (wpAny_lookBehind hoD (by rw [hdD]; exact pastItsLine_dict (Nat.le_trans hcD (by rw [List.length_cons]; lia))) ?_)
 exact wpAny_pure (h _ ⟨(hs2.2 _ (Ne.symm I.ne)).trans I.obj, hn2, I.ne⟩ hs2)
theorem make_map {R : Result -> Shared -> Prop} {vs : List Value} {kw : List (Str × Value)} (X : K.In s.heap) (hm : PySem.W.makesIn K C = true)
  (hi : PySem.W.findIn K (.ref C) "__init__" = some (some (.ref f))) (hf : PySem.W.typeIn K (.ref f) = some (.type "function"))
  (h : codeAny (model prog w) (A.under (.builtin "type.__call__" ⟨.ref C :: vs, kw⟩)) (.call (.ref f) ⟨.ref (s.heap.objs.size + 1) :: vs, kw⟩) (PySem.W.InitBack (s.heap.objs.size + 1) R)
   { s with heap := (s.heap.push PySem.W.emptyDict).push (PySem.W.instObj C s.heap.objs.size) }) :
  codeAny (model prog w) A (.call (.ref C) ⟨vs, kw⟩) R s := by
 obtain ⟨hh, g, d, t, os⟩ := s
 exact PySem.W.make_core (PySem.W.makes_of X hm) (PySem.W.looks_findIn X hi) (fun self => PySem.W.bind_fn X self hf) (.inl rfl) h
end
def putF (f : Str) (v : V) : List (Str × V) -> List (Str × V)
 | [] => [(f, v)]
 | (g, x) :: r => if g = f then (g, v) :: r else (g, x) :: putF f v r
theorem lookup_putF (f g : Str) (v : V) : ∀ fs : List (Str × V), (putF f v fs).lookup g = if g = f then some v else fs.lookup g
 | [] => by
  show List.lookup g [(f, v)] = _
  by_cases h : g = f
  ·have hb : (g == f) = true := beq_iff_eq.mpr h
   simp only [List.lookup, hb, if_pos h]
  ·have hb : (g == f) = false := beq_eq_false_iff_ne.mpr h
   simp only [List.lookup, hb, if_neg h]
 | (k, x) :: r => by
  have ih := lookup_putF f g v r
  rw [show putF f v ((k, x) :: r) = (if k = f then (k, v) :: r else (k, x) :: putF f v r) from rfl]
  by_cases hk : k = f
  ·rw [if_pos hk]
   by_cases h : g = k
   ·have hb : (g == k) = true := beq_iff_eq.mpr h
    simp only [List.lookup, hb, if_pos (h.trans hk)]
   ·have hb : (g == k) = false := beq_eq_false_iff_ne.mpr h
    simp only [List.lookup, hb, if_neg (fun e : g = f => h (e.trans hk.symm))]
  ·rw [if_neg hk]
   by_cases h : g = k
   ·have hb : (g == k) = true := beq_iff_eq.mpr h
    simp only [List.lookup, hb, if_neg (fun e : g = f => hk (h.symm.trans e))]
   ·have hb : (g == k) = false := beq_eq_false_iff_ne.mpr h
    simp only [List.lookup, hb]
    exact ih
theorem keys_putF (f : Str) (v : V) : ∀ fs : List (Str × V), f ∈ (putF f v fs).map (·.1) /\ ∀ g, g ∈ fs.map (·.1) -> g ∈ (putF f v fs).map (·.1)
 | [] => ⟨by simp [putF], fun g h => by simp at h⟩
 | (k, x) :: r => by
  obtain ⟨i1, i2⟩ := keys_putF f v r
  rw [show putF f v ((k, x) :: r) = (if k = f then (k, v) :: r else (k, x) :: putF f v r) from rfl]
  by_cases hk : k = f
  ·rw [if_pos hk]
   subst hk
   exact ⟨by simp, fun g h => by simpa using h⟩
  ·rw [if_neg hk]
   refine ⟨?_, fun g h => ?_⟩
   ·rw [List.map_cons]
    exact List.mem_cons_of_mem _ i1
   ·rw [List.map_cons] at h ⊢
    rcases List.mem_cons.mp h with e | e
    ·exact List.mem_cons.mpr (.inl e)
    ·exact List.mem_cons_of_mem _ (i2 g e)
theorem length_putF (f : Str) (v : V) : ∀ fs : List (Str × V), (putF f v fs).length <= fs.length + 1
 | [] => by simp [putF]
 | (k, x) :: r => by
  have ih := length_putF f v r
  rw [show putF f v ((k, x) :: r) = (if k = f then (k, v) :: r else (k, x) :: putF f v r) from rfl]
  by_cases hk : k = f
  ·rw [if_pos hk, List.length_cons, List.length_cons]; lia
  ·rw [if_neg hk, List.length_cons, List.length_cons]; lia
theorem RelO.some_of {v : V} {o : Option Value} (r : RelO (some v) o) : ∃ u, o = some u /\ RelV v u := by
 cases o with
 | none => exact (show False from r).elim
 | some u => exact ⟨u, rfl, r⟩
theorem RelO.none_of {o : Option Value} (r : RelO none o) : o = none := by
 cases o with
 | none => rfl
 | some u => exact (show False from r).elim
theorem handed_of {v : V} {u : Value} (r : RelV v u) : PySem.W.handedIn u = true := by
 cases v with
 | non => cases (show u = Value.none from r); rfl
 | bl b => cases (show u = Value.bool b from r); rfl
 | int i => obtain ⟨t, e⟩ := (show ∃ t, u = Value.int i t from r); cases e; rfl
 | str x => obtain ⟨t, e⟩ := (show ∃ t, u = Value.str x t from r); cases e; rfl
 | byt b => obtain ⟨t, e⟩ := (show ∃ t, u = Value.bytes b t from r); cases e; rfl
 | flt b => obtain ⟨t, e⟩ := (show ∃ t, u = Value.float b t from r); cases e; rfl
 | ref a => cases (show u = Value.ref a from r); rfl
 | ty n => cases (show u = Value.type n from r); rfl
section
variable {P : Program} {w : World} {H H' : Hp} {h h' : Heap} {a C dx : Addr} {fs fs' : List (Str × V)}
theorem ins_get (hok : HOk P w H h) (e : H a = some (.ins C dx fs)) : ∃ mA, ObjM h a dx C mA /\ (∀ f, RelO (fs.lookup f) (mA f)) /\ PySem.Within mA (fs.map (·.1)) /\ fs.length <= 1000 /\ H dx = some (.own a) := by
 obtain ⟨d, z, ne, ob, mA, n, r, q⟩ := (show ObjOk P w H h a (.ins C dx fs) from hok a _ e)
 exact ⟨mA, ⟨ob, n, ne⟩, r, q, z, d⟩
end
structure Cls (K : PySem.W.Frag) (C : Addr) : Prop where
 pg : PySem.W.plainGet K C Str.empty = true
 hd : PySem.W.hasDictIn K C = true
 po : PySem.W.plainOver K C = true
 sa : PySem.W.findIn K (.ref C) "__setattr__" = some (some (.builtin "object.__setattr__"))
theorem Cls.get {K : PySem.W.Frag} {C : Addr} (c : Cls K C) (f : Str) : PySem.W.plainGet K C f = true := c.pg
def NoAttr (K : PySem.W.Frag) (C : Addr) (f : Str) : Prop := PySem.W.findIn K (.ref C) f = some none
theorem NoAttr.taker {K : PySem.W.Frag} {C : Addr} {f : Str} (n : NoAttr K C f) : PySem.W.takerIn K C f = some none := by
 unfold PySem.W.takerIn
 rw [show PySem.W.findIn K (.ref C) f = some none from n]
 rfl
structure Meth (K : PySem.W.Frag) (C : Addr) (m : Str) (f : Addr) : Prop where
 at_ : PySem.W.findIn K (.ref C) m = some (some (.ref f))
 fn : PySem.W.isFn K (.ref f) = true
 kp : PySem.W.keepIn K (.ref f) = true
section
variable {X : Cx} {pins : List (Addr × Obj)} {σ : St} {H : Hp} {s : Shared} {a C dx : Addr} {fs : List (Str × V)} {f : Str} {v : V} {A : Around} {E : Value -> Shared -> Prop}
theorem getattr_ok {b : Bool} {Q : Value -> Shared -> Prop} (I : Inv X pins σ H s) (e : H a = some (.ins C dx fs)) (c : Cls X.K C) (n : NoAttr X.K C f) (l : fs.lookup f = some v)
  (h : ∀ u s', Inv X pins σ H s' -> RelV v u -> Q u s') : wpAny (model X.prog X.w) A (getAttr (.ref a) f b) Q E s := by
 obtain ⟨mA, O, r, _, _, _⟩ := ins_get I.hok e
 obtain ⟨u, hu, ru⟩ := RelO.some_of (v := v) (o := mA f) (by rw [<- l]; exact r f)
 exact get_map I.kIn O (c.get f) c.hd n hu (handed_of ru) (h u _ (I.tok _) ru)
theorem getmeth_ok {m : Str} {g : Addr} {pl : Sem Bool} {Q : Value × List Value -> Shared -> Prop} (I : Inv X pins σ H s) (e : H a = some (.ins C dx fs)) (c : Cls X.K C) (k : Meth X.K C m g) (l : fs.lookup m = none)
  (h : Q (.ref g, [.ref a]) s) : wpAny (model X.prog X.w) A (getMethod (.ref a) m pl) Q E s := by
 obtain ⟨mA, O, r, _, _, _⟩ := ins_get I.hok e
 have hn : mA m = none := RelO.none_of (by rw [<- l]; exact r m)
 exact get_meth I.kIn O (c.get m) k.at_ k.fn hn h
theorem setattr_ok {y : V} {u : Value} {Q : Unit -> Shared -> Prop} (I : Inv X pins σ H s) (e : H a = some (.ins C dx fs)) (c : Cls X.K C) (n : NoAttr X.K C f) (hl : fs.length < 1000) (ry : RelV y u)
  (h : ∀ s', Inv X pins σ (upd H a (.ins C dx (putF f y fs))) s' -> Q () s') : wpAny (model X.prog X.w) A (setAttr (.ref a) f u) Q E s := by
 obtain ⟨mA, O, r, wi, _, ho⟩ := ins_get I.hok e
 have hz : (fs.map (·.1)).length <= sizeLine := by rw [List.length_map, sizeLine_eq]; lia
 refine set_map I.kIn O c.sa c.po n.taker c.hd wi hz fun h' O' sb => h _ ?_
 have hd : ∃ o, h'.get? dx = some o := let ⟨o, _, _, e', _⟩ := O'.ns; ⟨o, e'⟩
 refine I.write (x := a) (e := dx) (by rw [e]; exact True.intro) (.inr ho) (fun b q hb z => (sb.2 b hb).trans z) hd ?_
 refine ⟨by rw [upd_ne O.ne]; exact ho, ?_, O.ne, O'.obj, _, O'.ns, fun g => ?_, fun g hg => ?_⟩
 ·have := length_putF f y fs; lia
 ·show RelO ((putF f y fs).lookup g) (if g = f then some u else mA g)
  rw [lookup_putF]
  by_cases q : g = f
  ·rw [if_pos q, if_pos q]; exact ry
  ·rw [if_neg q, if_neg q]; exact r g
 ·by_cases q : g = f
  ·rw [q]; exact (keys_putF f y fs).1
  ·refine (keys_putF f y fs).2 g (wi g fun z => hg ?_)
   show (if g = f then some u else mA g) = none
   rw [if_neg q]; exact z
theorem Inv.made (I : Inv X pins σ H s) : Inv X pins σ (upd (upd H s.heap.objs.size (.own (s.heap.objs.size + 1))) (s.heap.objs.size + 1) (.ins C s.heap.objs.size []))
  { s with heap := (s.heap.push PySem.W.emptyDict).push (PySem.W.instObj C s.heap.objs.size) } := by
 have e1 : (s.heap.push PySem.W.emptyDict).get? s.heap.objs.size = some PySem.W.emptyDict := Heap.get?_push_size s.heap rfl
 have e2 : ((s.heap.push PySem.W.emptyDict).push (PySem.W.instObj C s.heap.objs.size)).get? (s.heap.objs.size + 1) = some (PySem.W.instObj C s.heap.objs.size) := by
  have := Heap.get?_push_size (s.heap.push PySem.W.emptyDict) (o := PySem.W.instObj C s.heap.objs.size) rfl
  rwa [Heap.size_push] at this
 have e3 : (s.heap.push PySem.W.emptyDict).Ns s.heap.objs.size (fun _ => none) := ⟨PySem.W.emptyDict, #[], _, e1, rfl, (fun e he => absurd he (by simp)), fun _ => rfl⟩
 have I1 := I.laid (a := s.heap.objs.size) (o := .own (s.heap.objs.size + 1)) (h' := s.heap.push PySem.W.emptyDict) (t' := s.toks) (fun b u q => Heap.get?_push_of_some _ q) (Nat.le_refl _) ⟨_, e1⟩
 refine I1.laid (a := s.heap.objs.size + 1) (o := .ins C s.heap.objs.size []) (t' := s.toks) (fun b u q => Heap.get?_push_of_some _ q) (Nat.le_of_eq (Heap.size_push _ _)) ?_
 have ne : s.heap.objs.size ≠ s.heap.objs.size + 1 := Nat.ne_of_lt (Nat.lt_succ_self _)
 refine ⟨by rw [upd_ne ne, upd_same], Nat.zero_le _, ne, e2, fun _ => none, (Heap.Ns1.of_empty e3).at fun o q => Heap.get?_push_of_some _ q, fun _ => True.intro, fun y hy => absurd rfl hy⟩
theorem attr_of {prog : Program} {w : World} {env : Env} {e : Expr} {f : Str} {pos : Pos} {s : Shared} {Q : Value -> Shared -> Prop} (hb : attributeBase e f env (eval e env) = eval e env)
  (h : wpAny (model prog w) A (eval e env) (fun o s₁ => wpAny (model prog w) A (getAttr o f true) Q E s₁) E s) : wpAny (model prog w) A (eval (.Attribute e f pos) env) Q E s :=
 Attribute_any_ h (by rw [arm_eval_Attribute, hb])
end
def tFld (K : PySem.W.Frag) (ta : TE) (f : Str) : TE := fun σ H Q => ta σ H fun x H1 => ∃ a C dx fs v, x = .ref a /\ H1 a = some (.ins C dx fs) /\ Cls K C /\ NoAttr K C f /\ fs.lookup f = some v /\ Q v H1
def sFld (K : PySem.W.Frag) (ta tv : TE) (f : Str) : TS := fun D σ H => tv σ H fun y H1 => ta σ H1 fun x H2 => ∃ a C dx fs, x = .ref a /\ H2 a = some (.ins C dx fs) /\ Cls K C /\ NoAttr K C f /\ fs.length < 1000 /\
 D.nx σ (upd H2 a (.ins C dx (putF f y fs)))
section
variable {X : Cx} {o e value : Expr} {f : Str} {pos pos' tpos : Pos} {ta tv : TE}
theorem pe_fld (he : PE X e ta) (hb : attributeBase e f X.env (eval e X.env) = eval e X.env) : PE X (.Attribute e f pos) (tFld X.K ta f) := by
 intro pins s σ H Q I h
 refine attr_of hb (thn (he pins s σ H _ I h) fun u s1 ⟨x, H1, I1, rx, a, C, dx, fs, v, ex, ea, c, n, l, q⟩ => ?_)
 subst ex
 obtain rfl : u = Value.ref a := rx
 exact getattr_ok I1 ea c n l fun u' s2 I2 ru => ⟨v, H1, I2, ru, q⟩
theorem ps_fld (ha : PE X o ta) (hv : PE X value tv) (hs : swapsWith value (some (.Attribute o f pos')) pos.line X.env = pure false) : PS X (.Assign [.Attribute o f pos'] value pos) (sFld X.K ta tv f) := by
 intro pins s σ H D I h
 refine plainObj_wpAny_Assign_Attribute (thn (hv pins s σ H _ I h) fun u s1 ⟨y, H1, I1, ry, q⟩ => thn (ha pins s1 σ H1 _ I1 q) fun ov s2 ⟨x, H2, I2, rx, a, C, dx, fs, ex, ea, c, n, l, q2⟩ => ?_) hs
 subst ex
 obtain rfl : ov = Value.ref a := rx
 exact setattr_ok I2 ea c n l ry fun s3 I3 => ⟨σ, _, I3, q2⟩
end
section
variable {X : Cx} {pins : List (Addr × Obj)} {σ : St} {H : Hp} {s : Shared} {A : Around} {E : Value -> Shared -> Prop} {Q : Value -> Shared -> Prop} {c : Value} {b : Bool}
inductive TyOf (K : PySem.W.Frag) (H : Hp) : V -> Value -> Prop where
 | non : TyOf K H .non (.type "NoneType")
 | bl (x : Bool) : TyOf K H (.bl x) (.type "bool")
 | int (i : Int) : TyOf K H (.int i) (.type "int")
 | str (x : Str) : TyOf K H (.str x) (.type "str")
 | flt (x : UInt64) : TyOf K H (.flt x) (.type "float")
 | lst {a : Addr} {xs : List V} (e : H a = some (.lst xs)) : TyOf K H (.ref a) (.type "list")
 | frz {a : Addr} {o : Obj} {xs : List V} (e : H a = some (.frz o (.lst xs))) : TyOf K H (.ref a) (.type "list")
 | tup {a : Addr} {xs : List V} (e : H a = some (.tup xs)) : TyOf K H (.ref a) (.type "tuple")
 | dK {a : Addr} {kvs : List (Key × V)} (e : H a = some (.dK kvs)) : TyOf K H (.ref a) (.type "dict")
 | dT {a : Addr} {kvs : List (List Key × V)} (e : H a = some (.dT kvs)) : TyOf K H (.ref a) (.type "dict")
 | ins {a C dx : Addr} {fs : List (Str × V)} (e : H a = some (.ins C dx fs)) (cl : Cls K C) (ha : PySem.W.findIn K (.ref C) "__class__" = some (some (.builtin "object.__class__")))
   (hn : PySem.W.specialIn K (.builtin "object.__class__") "__get__" = some (some (.builtin "getset_descriptor.__get__"))) (htk : PySem.W.takesIn K (.builtin "object.__class__") = some true)
   (hm : PySem.W.mroIn K C (.type "object") = some true) : TyOf K H (.ref a) (.ref C)
theorem isinst_ok {x : V} {u t : Value} (I : Inv X pins σ H s) (rx : RelV x u) (ty : TyOf X.K H x t) (e : PySem.W.kitOne X.K t c = some b) (h : ∀ tk, Q (.bool b) { s with toks := tk }) :
  wpAny (model X.prog X.w) A (call (.builtin "isinstance") [u, c]) Q E s := by
 cases ty with
 | non => cases (show u = Value.none from rx); exact PySem.W.kia_one PySem.W.kitx_none I.kIn True.intro e (fun z => nomatch z) h
 | bl y => cases (show u = Value.bool y from rx); exact PySem.W.kia_one PySem.W.kitx_bool I.kIn True.intro e (fun z => nomatch z) h
 | int i => obtain ⟨t, q⟩ := (show ∃ t, u = Value.int i t from rx); cases q; exact PySem.W.kia_one PySem.W.kitx_int I.kIn True.intro e (fun z => nomatch z) h
 | str y => obtain ⟨t, q⟩ := (show ∃ t, u = Value.str y t from rx); cases q; exact PySem.W.kia_one PySem.W.kitx_str I.kIn True.intro e (fun z => nomatch z) h
 | flt y => obtain ⟨t, q⟩ := (show ∃ t, u = Value.float y t from rx); cases q; exact PySem.W.kia_one PySem.W.kitx_float I.kIn True.intro e (fun z => nomatch z) h
 | @lst a xs ea =>
  cases (show u = Value.ref a from rx)
  obtain ⟨_, _, n, _, h1⟩ := (show ObjOk X.prog X.w H s.heap a (.lst xs) from I.hok a _ ea)
  exact PySem.W.kia_one PySem.W.kitx_list I.kIn ⟨_, h1, rfl⟩ e (fun z => nomatch z) h
 | @frz a ob xs ea =>
  cases (show u = Value.ref a from rx)
  obtain ⟨_, _, _, n, _, h1⟩ := (show ObjOk X.prog X.w H s.heap a (.frz ob (.lst xs)) from I.hok a _ ea)
  exact PySem.W.kia_one PySem.W.kitx_list I.kIn ⟨_, h1, rfl⟩ e (fun z => nomatch z) h
 | @tup a xs ea =>
  cases (show u = Value.ref a from rx)
  obtain ⟨_, _, _, p⟩ := (show ObjOk X.prog X.w H s.heap a (.tup xs) from I.hok a _ ea)
  obtain ⟨o, h1, h2, _⟩ := p
  exact PySem.W.kia_one PySem.W.kitx_tuple I.kIn ⟨o, h1, h2⟩ e (fun z => nomatch z) h
 | @dK a kvs ea =>
  cases (show u = Value.ref a from rx)
  obtain ⟨_, _, vs, _, p⟩ := (show ObjOk X.prog X.w H s.heap a (.dK kvs) from I.hok a _ ea)
  obtain ⟨o, es, ep, h1, h2, _⟩ := p
  exact PySem.W.kia_one PySem.W.kitx_dict I.kIn ⟨o, h1, h2.1⟩ e (fun z => nomatch z) h
 | @dT a kvs ea =>
  cases (show u = Value.ref a from rx)
  obtain ⟨_, _, xs, _, o, es, ep, h1, h2, _⟩ := (show ObjOk X.prog X.w H s.heap a (.dT kvs) from I.hok a _ ea)
  exact PySem.W.kia_one PySem.W.kitx_dict I.kIn ⟨o, h1, h2.1⟩ e (fun z => nomatch z) h
 | @ins a C dx fs ea cl ha hn htk hm =>
  cases (show u = Value.ref a from rx)
  obtain ⟨mA, O, _⟩ := ins_get I.hok ea
  obtain ⟨od, J, _⟩ := O.look
  exact PySem.W.kia_one (PySem.W.kitx_own (cl.get _) cl.hd ha hn htk hm) I.kIn J e (fun z => nomatch z) h
end
end L2
namespace L2
open PySem PySem.Spec PyProof.Rows
structure Room (k : Nat) (A : Around) : Prop where
 hd : A.handled = none
 dp : A.depth + 3 * k + 5 < recursionLimit
 un : A.units + 16 * k + 200 < cLine
theorem Room.mono {j k : Nat} {A : Around} (r : Room k A) (h : j <= k) : Room j A := ⟨r.hd, by have := r.dp; lia, by have := r.un; lia⟩
theorem Room.deeper {k : Nat} {A : Around} (r : Room (k + 1) A) (env : Env) : Room k (A.deeper env) :=
 ⟨r.hd, by have := r.dp; show A.depth + 1 + 3 * k + 5 < _; lia, by have := r.un; show A.units + 3 + 16 * k + 200 < _; lia⟩
theorem make_depth {A : Around} {C : Addr} {us : List Value} {kw : List (Str × Value)} : (A.under (.builtin "type.__call__" ⟨.ref C :: us, kw⟩)).depth = A.depth + 1 := by
 first | rfl | simp [Around.under, Code.weight, Code.isCreation, Code.isGuard, Code.isCaller, Code.frames, Code.isFrame, guardIds]
theorem make_units {A : Around} {C : Addr} {us : List Value} {kw : List (Str × Value)} : (A.under (.builtin "type.__call__" ⟨.ref C :: us, kw⟩)).units = A.units + 1 := by
 first | rfl | simp [Around.under, Code.cUnits, Code.frames, Code.isFrame]
theorem Room.make {k : Nat} {A : Around} (r : Room (k + 1) A) (C : Addr) (us : List Value) (kw : List (Str × Value)) : Room k (A.under (.builtin "type.__call__" ⟨.ref C :: us, kw⟩)) :=
 ⟨r.hd, by have := r.dp; rw [make_depth]; lia, by have := r.un; rw [make_units]; lia⟩
theorem Room.depth {k : Nat} {A : Around} (r : Room k A) : A.depth < recursionLimit := by have := r.dp; lia
theorem Room.units {k : Nat} {A : Around} (r : Room k A) : A.units + 64 < cLine := by have := r.un; lia
def tNil : TA := fun _ H Q => Q [] H
def tCons (ta : TE) (tr : TA) : TA := fun σ H Q => ta σ H fun x H1 => tr σ H1 fun xs H2 => Q (x :: xs) H2
section
variable {X : Cx} {e : Expr} {es : List Expr} {te : TE} {t : TA} {pos : Pos}
theorem pa_nil : PA X [] tNil := fun _ _ _ _ H Q I h => Calls.spliced_nil ⟨[], H, I, .nil, h⟩
theorem pa_cons (ha : PE X e te) (hr : PA X es t) (hs : starEach (e :: es) X.env = (false, eval e X.env) :: starEach es X.env := by rfl) : PA X (e :: es) (tCons te t) := by
 intro pos pins s σ H Q I h
 rw [hs]
 show wpAny _ _ (spliced ((false, eval e X.env) :: backTo pos (starEach es X.env))) _ _ s
 refine Calls.spliced_cons (thn (ha pins s σ H _ I h) fun u s1 ⟨x, H1, I1, r1, q1⟩ => ?_)
 exact thn (hr pos pins s1 σ H1 _ I1 q1) fun us s2 ⟨xs, H2, I2, r2, q2⟩ => ⟨x :: xs, H2, I2, .cons r1 r2, q2⟩
def tTup (t : TA) : TE := fun σ H Q => t σ H fun xs H1 => xs.length <= sizeLine /\ ∀ p, H1 p = none -> Q (.ref p) (upd H1 p (.tup xs))
def tLst (t : TA) : TE := fun σ H Q => t σ H fun xs H1 => xs.length <= sizeLine /\ ∀ p, H1 p = none -> Q (.ref p) (upd H1 p (.lst xs))
theorem pe_tup {x1} (h : PA X es t) : PE X (.Tuple es x1 pos) (tTup t) := by
 intro pins s σ H Q I hq
 refine wpAny_Tuple_spliced (thn (h pos pins s σ H _ I hq) fun us s1 ⟨xs, H1, I1, r, z, q⟩ => ⟨by rw [<- r.length]; exact z, ?_⟩)
 have hf : H1 s1.heap.objs.size = none := I1.hok.fresh (Nat.le_refl _)
 refine ⟨.ref s1.heap.objs.size, upd H1 s1.heap.objs.size (.tup xs), I1.laid (t' := s1.toks) (fun b u e => Heap.get?_push_of_some _ e) (Nat.le_refl _) ?_, rfl, q _ hf⟩
 exact ⟨z, us, r, ⟨_, Heap.get?_push_size _ rfl, rfl, _, rfl⟩⟩
theorem pe_lst (h : PA X es t) : PE X (.List es pos) (tLst t) := by
 intro pins s σ H Q I hq
 refine wpAny_List_spliced (thn (h pos pins s σ H _ I hq) fun us s1 ⟨xs, H1, I1, r, z, q⟩ => ⟨by rw [<- r.length]; exact z, ?_⟩)
 have hf : H1 s1.heap.objs.size = none := I1.hok.fresh (Nat.le_refl _)
 refine ⟨.ref s1.heap.objs.size, upd H1 s1.heap.objs.size (.lst xs), I1.laid (t' := s1.toks) (fun b u e => Heap.get?_push_of_some _ e) (Nat.le_refl _) ?_, rfl, q _ hf⟩
 exact ⟨z, us, 0, r, Heap.get?_push_size _ rfl⟩
end
abbrev Sp := List V -> Hp -> VK -> XK -> Prop
abbrev CXT := List Env -> Hp -> Shared -> XK -> Value -> Shared -> Prop
structure Env0 (P : Program) (w : World) (K : PySem.W.Frag) (mg : Str -> Option Value) (base : Heap) (A : Around) (outer : List Env) (s : Shared) (H : Hp) : Prop where
 frames : A.frames = some outer
 mod : Mod K mg base
 bs : ∀ b o, base.get? b = some o -> s.heap.get? b = some o /\ H b = none
 bsz : base.objs.size <= s.heap.objs.size
 funs : s.heap.FunFrames base outer
 frf : ∀ b ∈ frs outer, H b = none
 hok : HOk P w H s.heap
 bare : AllBare s.gens
def CE (outer : List Env) (P : Program) (w : World) (H : Hp) (s : Shared) (Q : VK) (u : Value) (s' : Shared) : Prop :=
 ∃ v H', s'.os = s.os /\ AllBare s'.gens /\ Un (frs outer) [] H H' s.heap s'.heap /\ HOk P w H' s'.heap /\ RelV v u /\ Q v H'
def CR (CX : CXT) (outer : List Env) (P : Program) (w : World) (H : Hp) (s : Shared) (Q : VK) (E : XK) (r : Result) (s' : Shared) : Prop :=
 match r with
 | .ok (.ret u) => CE outer P w H s Q u s'
 | .ok _ => False
 | .error e => CX outer H s E e s'
structure FnOk (P : Program) (w : World) (K : PySem.W.Frag) (mg : Str -> Option Value) (base : Heap) (CX : CXT) (k : Nat) (f : Addr) (fd : FuncData) (ps : List Str) (sp : Sp) : Prop where
 len : ∀ vs H Q E, sp vs H Q E -> vs.length = ps.length
 run : ∀ (A : Around) (outer : List Env) (s : Shared) (H : Hp) (args : Args) (us : List Value) (vs : List V) (Q : VK) (E : XK), Room k A -> Env0 P w K mg base A outer s H -> BindsTo s fd args (ps.zip us) -> Vals vs us -> sp vs H Q E ->
  codeAny (model P w) A (.call (.ref f) args) (CR CX outer P w H s Q E) s
theorem FnOk.imp {P : Program} {w : World} {K : PySem.W.Frag} {mg : Str -> Option Value} {base : Heap} {CX : CXT} {k : Nat} {f : Addr} {fd : FuncData} {ps : List Str} {sp sp' : Sp} (F : FnOk P w K mg base CX k f fd ps sp)
  (h : ∀ vs H Q E, sp' vs H Q E -> sp vs H Q E) : FnOk P w K mg base CX k f fd ps sp' :=
 ⟨fun vs H Q E q => F.len vs H Q E (h _ _ _ _ q), fun A outer s H args us vs Q E hr he hb hv hs => F.run A outer s H args us vs Q E hr he hb hv (h _ _ _ _ hs)⟩
theorem Env0.make {P : Program} {w : World} {K : PySem.W.Frag} {mg : Str -> Option Value} {base : Heap} {A : Around} {outer : List Env} {s : Shared} {H : Hp} (e : Env0 P w K mg base A outer s H) (C : Addr) (us : List Value) (kw : List (Str × Value)) :
  Env0 P w K mg base (A.under (.builtin "type.__call__" ⟨.ref C :: us, kw⟩)) outer s H := ⟨by first | exact e.frames | (simpa [Around.under, Code.envs, Code.isFrame, pushEnvs] using e.frames), e.mod, e.bs, e.bsz, e.funs, e.frf, e.hok, e.bare⟩
section
variable {X : Cx} {pins : List (Addr × Obj)} {σ : St} {H : Hp} {s s' : Shared}
theorem Inv.env0 (I : Inv X pins σ H s) : Env0 X.prog X.w X.K X.mg X.base X.A X.stack s H :=
 ⟨I.ok.frames, I.ok.mod, I.bs, Nat.le_trans I.ok.bsz I.sz, I.stack, I.stkFree, I.hok, I.bare⟩
theorem Inv.after {Q : VK} {u : Value} (I : Inv X pins σ H s) (h : CE X.stack X.prog X.w H s Q u s') : EP X pins σ Q u s' := by
 obtain ⟨v, H', os, bare, un, hok, r, q⟩ := h
 obtain ⟨hh, g, d, t, os'⟩ := s'
 obtain rfl : os' = s.os := os
 exact ⟨v, H', I.call (h' := hh) (g' := g) (d' := d) (t' := t) (ch := []) un hok bare (fun b z => absurd z (by simp)), r, q⟩
end
def tCall (sp : Sp) (dvs : List V) (E : XK) (t : TA) : TE := fun σ H Q => t σ H fun vs H1 => sp (vs ++ dvs) H1 Q E
def tMeth (C : Addr) (m : Str) (sp : Sp) (dvs : List V) (E : XK) (ta : TE) (t : TA) : TE := fun σ H Q => ta σ H fun x H1 => ∃ a dx fs, x = .ref a /\ H1 a = some (.ins C dx fs) /\ fs.lookup m = none /\
 t σ H1 fun vs H2 => sp (x :: (vs ++ dvs)) H2 Q E
def tMake (C : Addr) (sp : Sp) (dvs : List V) (E : XK) (t : TA) : TE := fun σ H Q => t σ H fun vs H1 => ∀ x dx, H1 x = none -> H1 dx = none -> dx ≠ x ->
 sp (.ref x :: (vs ++ dvs)) (upd (upd H1 dx (.own x)) x (.ins C dx [])) (fun v H2 => v = .non /\ Q (.ref x) H2) E
def Binds (K : PySem.W.Frag) (fd : FuncData) (ps : List Str) (ds : List Value) : Prop :=
 ∀ (s : Shared) (us : List Value), K.In s.heap -> (us ++ ds).length = ps.length -> BindsTo s fd ⟨us, []⟩ (ps.zip (us ++ ds))
theorem Binds.all {K : PySem.W.Frag} {fd : FuncData} {ps : List Str} (h : ∀ us : List Value, us.length = ps.length -> bindArgs fd ⟨us, []⟩ = pure (ps.zip us)) : Binds K fd ps [] := fun s us _ hl => by
 rw [List.append_nil] at hl ⊢
 exact .of_eq (h us hl)
def Passes (CX : CXT) (X : Cx) (E : XK) : Prop := ∀ (pins : List (Addr × Obj)) (σ : St) (H : Hp) (s : Shared) (e : Value) (s' : Shared), Inv X pins σ H s -> CX X.stack H s E e s' -> X.xe e s'
section
variable {X : Cx} {CX : CXT} {k : Nat} {f C : Addr} {fd : FuncData} {ps : List Str} {sp : Sp} {dvs : List V} {ds : List Value} {E : XK} {x m : Str} {p pos apos : Pos} {e o : Expr} {es : List Expr} {ta : TE} {t : TA}
theorem run_fn {pins : List (Addr × Obj)} {σ : St} {H : Hp} {s : Shared} {Q : VK} {us : List Value} {vs : List V} (F : FnOk X.prog X.w X.K X.mg X.base CX k f fd ps sp) (hr : Room k X.A) (hb : Binds X.K fd ps ds) (hd : Vals dvs ds) (hx : Passes CX X E)
  (I : Inv X pins σ H s) (r : Vals vs us) (h : sp (vs ++ dvs) H Q E) : wpAny (model X.prog X.w) X.A (call (.ref f) us) (EP X pins σ Q) X.xe s := by
 have r2 : Vals (vs ++ dvs) (us ++ ds) := r.append hd
 have hl : (us ++ ds).length = ps.length := by rw [<- r2.length]; exact F.len _ _ _ _ h
 refine wpAny_call (codeAny_mono (F.run X.A X.stack s H ⟨us, []⟩ (us ++ ds) (vs ++ dvs) Q E hr I.env0 (hb s us I.kIn hl) r2 h) fun r s' hq => ?_)
 cases r with
 | error e => exact hx pins σ H s e s' I hq
 | ok fl =>
  cases fl with
  | ret u => exact I.after hq
  | next => exact False.elim hq
  | brk => exact False.elim hq
  | cont => exact False.elim hq
theorem pe_call (F : FnOk X.prog X.w X.K X.mg X.base CX k f fd ps sp) (hr : Room k X.A) (hg : Gl X x) (hm : X.mg x = some (.ref f)) (hk : PySem.W.keepIn X.K (.ref f) = true) (hb : Binds X.K fd ps ds) (hd : Vals dvs ds) (hx : Passes CX X E)
  (ha : PA X (e :: es) t) (hdb : (x == ("__debug__" : Str)) = false := by decide) (he : starEach (e :: es) X.env = (false, eval e X.env) :: starEach es X.env := by rfl) (hpl : (backTo pos (starEach es X.env)).any (·.1) = false := by rfl) :
  PE X (.Call (.Name x p) (e :: es) [] pos) (tCall sp dvs E t) := by
 intro pins s σ H Q I h
 refine wpAny_Call_Name_kw (ld_glob I hg hm ?_ hdb)
 refine PySem.W.callWith_K (h₀ := X.base) I.ok.mod.kin hk (thn (ha pos pins s σ H _ I h) fun us s1 ⟨vs, H1, I1, r, q⟩ => ⟨I1.kIn, ?_⟩) he hpl
 exact run_fn F hr hb hd hx I1 r q
theorem pe_meth {pl : Sem Bool} (he : PE X o ta) (c : Cls X.K C) (hm : Meth X.K C m f) (F : FnOk X.prog X.w X.K X.mg X.base CX k f fd ps sp) (hr : Room k X.A) (hb : Binds X.K fd ps ds) (hd : Vals dvs ds) (hx : Passes CX X E) (ha : PA X (e :: es) t)
  (hst : starEach (e :: es) X.env = (false, eval e X.env) :: starEach es X.env := by rfl) (hpl : (backTo pos (starEach es X.env)).any (·.1) = false := by rfl)
  (ht : eval (.Call (.Attribute o m apos) (e :: es) [] pos) X.env = (do
   let ov <- eval o X.env
   standAt apos.atName
   let (f, first) <- holding [ov] (getMethod ov m pl)
   callWith pos f first (backTo pos (starEach (e :: es) X.env)) (backToKw pos (keywordEach [] X.env))) := by rfl) :
  PE X (.Call (.Attribute o m apos) (e :: es) [] pos) (tMeth C m sp dvs E ta t) := by
 intro pins s σ H Q I h
 refine PySem.W.methodCall_KW (pl := pl) (thn (he pins s σ H _ I h) fun u s1 ⟨x, H1, I1, rx, a, dx, fs, ex, ea, l, q⟩ => ?_) ht
 subst ex
 obtain rfl : u = Value.ref a := rx
 refine getmeth_ok I1 ea c hm l ?_
 refine PySem.W.callWith_K (first := [.ref a]) (h₀ := X.base) I.ok.mod.kin hm.kp (thn (ha pos pins s1 σ H1 _ I1 q) fun us s2 ⟨vs, H2, I2, r, q2⟩ => ⟨I2.kIn, ?_⟩) hst hpl
 exact run_fn (us := .ref a :: us) (vs := .ref a :: vs) F hr hb hd hx I2 (.cons rfl r) q2
structure Mk (K : PySem.W.Frag) (C f : Addr) : Prop where
 makes : PySem.W.makesIn K C = true
 init : PySem.W.findIn K (.ref C) "__init__" = some (some (.ref f))
 fn : PySem.W.isFn K (.ref f) = true
 kp : PySem.W.keepIn K (.ref C) = true
theorem run_make {pins : List (Addr × Obj)} {σ : St} {H : Hp} {s : Shared} {Q : VK} {us : List Value} {vs : List V} (M : Mk X.K C f) (F : FnOk X.prog X.w X.K X.mg X.base CX k f fd ps sp) (hr : Room (k + 1) X.A) (hb : Binds X.K fd ps ds) (hd : Vals dvs ds)
  (hx : Passes CX X E) (I : Inv X pins σ H s) (r : Vals vs us)
  (h : ∀ x dx, H x = none -> H dx = none -> dx ≠ x -> sp (.ref x :: (vs ++ dvs)) (upd (upd H dx (.own x)) x (.ins C dx [])) (fun v H2 => v = .non /\ Q (.ref x) H2) E) :
  wpAny (model X.prog X.w) X.A (call (.ref C) us) (EP X pins σ Q) X.xe s := by
 have hq := h (s.heap.objs.size + 1) s.heap.objs.size (I.hok.fresh (Nat.le_succ _)) (I.hok.fresh (Nat.le_refl _)) (Nat.ne_of_lt (Nat.lt_succ_self _))
 have I2 := Inv.made (C := C) I
 have r2 : Vals (V.ref (s.heap.objs.size + 1) :: (vs ++ dvs)) (Value.ref (s.heap.objs.size + 1) :: (us ++ ds)) := .cons rfl (r.append hd)
 have hl : (Value.ref (s.heap.objs.size + 1) :: us ++ ds).length = ps.length := by
  have e := r2.length
  rw [F.len _ _ _ _ hq] at e
  exact e.symm
 refine wpAny_call (make_map (f := f) I.kIn M.makes M.init (beq_iff_eq.mp M.fn) (codeAny_mono (F.run _ X.stack _ _ ⟨Value.ref (s.heap.objs.size + 1) :: us, []⟩ (Value.ref (s.heap.objs.size + 1) :: (us ++ ds)) _ _ E (hr.make C us [])
  (I2.env0.make C us []) (hb _ (Value.ref (s.heap.objs.size + 1) :: us) I2.kIn hl) r2 hq) fun r s' hq' => ?_))
 cases r with
 | error e => exact hx pins σ _ _ e s' I2 hq'
 | ok fl =>
  cases fl with
  | ret u =>
   obtain ⟨v, H', I3, rv, ev, q3⟩ := I2.after hq'
   subst ev
   exact ⟨rv, ⟨V.ref (s.heap.objs.size + 1), H', I3, rfl, q3⟩⟩
  | next => exact False.elim hq'
  | brk => exact False.elim hq'
  | cont => exact False.elim hq'
theorem pe_make (M : Mk X.K C f) (F : FnOk X.prog X.w X.K X.mg X.base CX k f fd ps sp) (hr : Room (k + 1) X.A) (hg : Gl X x) (hm : X.mg x = some (.ref C)) (hb : Binds X.K fd ps ds) (hd : Vals dvs ds) (hx : Passes CX X E)
  (ha : PA X (e :: es) t) (hdb : (x == ("__debug__" : Str)) = false := by decide) (he : starEach (e :: es) X.env = (false, eval e X.env) :: starEach es X.env := by rfl) (hpl : (backTo pos (starEach es X.env)).any (·.1) = false := by rfl) :
  PE X (.Call (.Name x p) (e :: es) [] pos) (tMake C sp dvs E t) := by
 intro pins s σ H Q I h
 refine wpAny_Call_Name_kw (ld_glob I hg hm ?_ hdb)
 refine PySem.W.callWith_K (h₀ := X.base) I.ok.mod.kin M.kp (thn (ha pos pins s σ H _ I h) fun us s1 ⟨vs, H1, I1, r, q⟩ => ⟨I1.kIn, ?_⟩) he hpl
 exact run_make M F hr hb hd hx I1 r q
theorem pe_make0 (M : Mk X.K C f) (F : FnOk X.prog X.w X.K X.mg X.base CX k f fd ps sp) (hr : Room (k + 1) X.A) (hg : Gl X x) (hm : X.mg x = some (.ref C)) (hb : Binds X.K fd ps ds) (hd : Vals dvs ds) (hx : Passes CX X E)
  (hdb : (x == ("__debug__" : Str)) = false := by decide) : PE X (.Call (.Name x p) [] [] pos) (tMake C sp dvs E tNil) := by
 intro pins s σ H Q I h
 refine wpAny_Call_Name_kw (ld_glob I hg hm ?_ hdb)
 exact PySem.W.callWith_K0 I.kIn M.kp (run_make (us := []) M F hr hb hd hx I .nil h)
end
section
variable {X : Cx} {CX : CXT} {k : Nat} {f C : Addr} {fd : FuncData} {ps ks : List Str} {sp : Sp} {E : XK} {x m : Str} {p pos apos kpos : Pos} {e o : Expr} {es : List Expr} {kws : List Keyword} {te ta : TE} {t tk : TA} {nm : Option Str}
variable {g : List Value -> List Value -> List Value} {gV : List V -> List V -> List V}
end
structure FnScope (N P : List Str) (sc : Scope) : Prop where
 kind : sc.kind = .function
 co : sc.isCoroutine = false
 gen : sc.isGenerator = false
 nd : N.Nodup
 pre : N.take P.length = P
 par : ∀ x ∈ P, sc.names.lookup x = some .local \/ sc.names.lookup x = some .cell
 nofree : ∀ y ∈ sc.names, y.2 ≠ .free
theorem bindL_out {kindOf : Str -> Option NameKind} {x : Str} : ∀ {binds : List (Str × Value)} {m : Str -> Option Value}, (∀ v, (x, v) ∉ binds) -> bindL kindOf binds m x = m x
 | [], _, _ => rfl
 | (n, v) :: r, m, h => by
  unfold bindL
  rw [bindL_out fun w hw => h w (List.mem_cons_of_mem _ hw)]
  split
  ·have : x ≠ n := by rintro rfl; exact h v List.mem_cons_self
   simp [this]
  ·rfl
theorem bindC_out {kindOf : Str -> Option NameKind} {x : Str} : ∀ {binds : List (Str × Value)} {m : Str -> Option Value}, (∀ v, (x, v) ∉ binds) -> bindC kindOf binds m x = m x
 | [], _, _ => rfl
 | (n, v) :: r, m, h => by
  unfold bindC
  rw [bindC_out fun w hw => h w (List.mem_cons_of_mem _ hw)]
  split
  ·rfl
  ·have : x ≠ n := by rintro rfl; exact h v List.mem_cons_self
   simp [this]
theorem bindL_get {kindOf : Str -> Option NameKind} {x : Str} {v : Value} : ∀ {P : List Str} {vs : List Value} {i : Nat} {m : Str -> Option Value}, P.Nodup -> P[i]? = some x -> vs[i]? = some v -> kindOf x = some .local ->
  bindL kindOf (P.zip vs) m x = some v
 | [], _, _, _, _, h, _, _ => by simp at h
 | _ :: _, [], _, _, _, _, h, _ => by simp at h
 | p :: P, w :: vs, 0, m, nd, h1, h2, hk => by
  simp at h1 h2; subst h1; subst h2
  show bindL kindOf ((p, w) :: P.zip vs) m p = _
  unfold bindL
  rw [bindL_out fun v hv => (List.nodup_cons.mp nd).1 (List.of_mem_zip hv).1, if_pos hk]
  simp
 | p :: P, w :: vs, i + 1, m, nd, h1, h2, hk => by
  show bindL kindOf ((p, w) :: P.zip vs) m x = _
  unfold bindL
  exact bindL_get (i := i) (List.nodup_cons.mp nd).2 (by simpa using h1) (by simpa using h2) hk
theorem bindC_get {kindOf : Str -> Option NameKind} {x : Str} {v : Value} : ∀ {P : List Str} {vs : List Value} {i : Nat} {m : Str -> Option Value}, P.Nodup -> P[i]? = some x -> vs[i]? = some v -> kindOf x ≠ some .local ->
  bindC kindOf (P.zip vs) m x = some v
 | [], _, _, _, _, h, _, _ => by simp at h
 | _ :: _, [], _, _, _, _, h, _ => by simp at h
 | p :: P, w :: vs, 0, m, nd, h1, h2, hk => by
  simp at h1 h2; subst h1; subst h2
  show bindC kindOf ((p, w) :: P.zip vs) m p = _
  unfold bindC
  rw [bindC_out fun v hv => (List.nodup_cons.mp nd).1 (List.of_mem_zip hv).1, if_neg hk]
  simp
 | p :: P, w :: vs, i + 1, m, nd, h1, h2, hk => by
  show bindC kindOf ((p, w) :: P.zip vs) m x = _
  unfold bindC
  exact bindC_get (i := i) (List.nodup_cons.mp nd).2 (by simpa using h1) (by simpa using h2) hk
def start (N : List Str) (vs : List V) : St := vs.map some ++ List.replicate (N.length - vs.length) none
def cxOf (CX : CXT) (P : Program) (w : World) (K : PySem.W.Frag) (mg : Str -> Option Value) (base : Heap) (N : List Str) (qual : Str) (scope : Scope) (f : Addr) (cd : Value) (A : Around) (outer : List Env) (s : Shared) (H : Hp) (E : XK) : Cx where
 prog := P
 w := w
 K := K
 mg := mg
 base := base
 A := A.deeper (envOfC qual scope s.heap.objs.size f cd)
 N := N
 s₀ := s
 H₀ := H
 env := envOfC qual scope s.heap.objs.size f cd
 outer := outer
 stack := envOfC qual scope s.heap.objs.size f cd :: outer
 ex := []
 calm := true
 fn := fun _ => true
 pn := []
 xe := fun e s' => wpAny (model P w) (A.deeper (envOfC qual scope s.heap.objs.size f cd)) (leaving (envOfC qual scope s.heap.objs.size f cd) e) (fun _ s'' => CX outer H s E e s'') (fun e' s'' => CX outer H s E e' s'') s'
theorem cell_has {sc : Scope} {n : Nat} {x : Str} (h : sc.names.lookup x = some .cell) : ∃ c, (cellsFrom n sc.names []).lookup x = some c := by
 have q := PySem.W.cellsFrom_some sc.names n [] (.inl h)
 exact Option.isSome_iff_exists.mp q
theorem inv_start {CX : CXT} {P : Program} {w : World} {K : PySem.W.Frag} {mg : Str -> Option Value} {base : Heap} {N ps : List Str} {qual : Str} {scope : Scope} {f : Addr} {cd : Value} {A : Around} {outer : List Env} {s s1 : Shared} {H : Hp} {E : XK} {us : List Value} {vs : List V}
  (S : FnScope N ps scope) (hd : A.handled = none) (e0 : Env0 P w K mg base A outer s H) (hl : vs.length = ps.length) (r : Vals vs us)
  (x : InCallC s s.heap.objs.size (bindL (envOfC qual scope s.heap.objs.size f cd).kindOf (ps.zip us) fun _ => none) (cellsFrom (s.heap.objs.size + 1) scope.names []) (bindC (envOfC qual scope s.heap.objs.size f cd).kindOf (ps.zip us) fun _ => none) s1) :
  Inv (cxOf CX P w K mg base N qual scope f cd A outer s H E) [] (start N vs) H s1 := by
 have hpl : ps.length <= N.length := by have := congrArg List.length S.pre; rw [List.length_take] at this; lia
 obtain ⟨h1, tk, rfl, hk⟩ := x.done
 have noA : ∀ b : Addr, b ∉ (cxOf CX P w K mg base N qual scope f cd A outer s H E).ex := fun b z => absurd (show b ∈ ([] : List Addr) from z) (by simp)
 refine ⟨⟨e0.mod, S.kind, rfl, rfl, Nat.le_refl _, fun y z c h1 h2 => ?_, fun y hy => ?_, fun y c _ h => ?_, fun _ => hd, Around.frames_deeper e0.frames, .inr ⟨rfl, rfl⟩, fun b z => absurd z (noA b), e0.bs, e0.bsz, fun b _ _ => noA b, fun b z => absurd z (noA b), e0.funs, e0.frf⟩,
  rfl, e0.bare, Un.kept hk, ⟨_, x.toInCall.ns, fun i y v h1 h2 h3 => ?_⟩, fun y c h => ⟨_, x.cell y c h⟩, e0.hok.fresh (Nat.le_refl _), fun y c h => ?_, fun p hp => absurd (show p ∈ ([] : List (Addr × Obj)) from hp) (by simp), e0.hok.kept hk, ?_⟩
 ·exact name_of_addr x.apart (PySem.mem_of_lookup h1) (PySem.mem_of_lookup h2)
 ·have hy : scope.names.lookup y = some .cell \/ scope.names.lookup y = some .free := hy
  rcases hy with hy | hy
  ·exact cell_has hy
  ·exact absurd rfl (S.nofree _ (PySem.mem_of_lookup hy))
 ·exact Nat.le_of_lt (x.above y c (PySem.mem_of_lookup h))
 ·have hi : i < vs.length := by
   unfold start at h2
   by_cases hi : i < vs.length
   ·exact hi
   ·rw [List.getElem?_append_right (by simpa using hi)] at h2
    rw [List.getElem?_replicate] at h2
    split at h2 <;> cases h2
  have ha : vs[i]? = some v := by
   unfold start at h2
   rw [List.getElem?_append_left (by simpa using hi), List.getElem?_map] at h2
   cases e : vs[i]? with
   | none => rw [e] at h2; cases h2
   | some a => rw [e] at h2; cases h2; rfl
  obtain ⟨u, hu, rv⟩ := r.get ha
  have hp : ps[i]? = some y := by
   rw [<- S.pre, List.getElem?_take_of_lt (by lia)]; exact h1
  have ndP : ps.Nodup := by rw [<- S.pre]; exact S.nd.sublist (List.take_sublist _ _)
  refine ⟨u, rv, ?_⟩
  rcases S.par y (List.mem_of_getElem? hp) with k | k
  ·exact .inl ⟨k, bindL_get ndP hp hu k⟩
  ·obtain ⟨c, e⟩ := cell_has (n := s.heap.objs.size + 1) k
   refine .inr ⟨.inl k, c, e, ?_⟩
   have q := x.cell y c e
   rw [bindC_get ndP hp hu (by show scope.names.lookup y ≠ _; rw [k]; decide)] at q
   exact q
 ·exact e0.hok.fresh (Nat.le_of_lt (x.above y c (PySem.mem_of_lookup h)))
 ·unfold start
  show _ = N.length
  rw [List.length_append, List.length_map, List.length_replicate]
  lia
theorem fn_of {CX : CXT} {P : Program} {w : World} {K : PySem.W.Frag} {mg : Str -> Option Value} {base : Heap} {k : Nat} {f : Addr} {name qual : Str} {params : Arguments} {body : List Stmt} {scope : Scope} {dV kV doc pm cdv ct oc : Value} {an od : Option Addr}
  {osl : Array (Option Value)} {N ps : List Str} {sp : Sp} (lk : K.lookup f = some ⟨oc, od, .func (PySem.W.fnOf name qual params body scope dV kV doc pm an cdv ct), osl⟩) (hcd : PySem.W.codeIn K cdv qual = true) (S : FnScope N ps scope)
  (len : ∀ vs H Q E, sp vs H Q E -> vs.length = ps.length)
  (hbody : ∀ (A : Around) (outer : List Env) (s : Shared) (H : Hp) (vs : List V) (Q : VK) (E : XK), Room k (A.deeper (envOfC qual scope s.heap.objs.size f cdv)) -> sp vs H Q E ->
   ∃ t, PSs (cxOf CX P w K mg base N qual scope f cdv A outer s H E) body t /\ t { nx := fun _ H' => Q .non H', rt := Q } (start N vs) H) :
  FnOk P w K mg base CX (k + 1) f (PySem.W.fnOf name qual params body scope dV kV doc pm an cdv ct) ps sp := by
 refine ⟨len, fun A outer s H args us vs Q E hr e0 hb r hsp => ?_⟩
 have hl := len _ _ _ _ hsp
 have KX : K.In s.heap := e0.mod.kin.keeps fun b o e => (e0.bs b o e).1
 have lim : s.heap.NoLimit := e0.mod.nolimit.keeps fun b o e => (e0.bs b o e).1
 have hkind : ∀ y ∈ ps.zip us, scope.names.lookup y.1 = some .local \/ (scope.names.lookup y.1 = some .cell /\ ((cellsFrom (s.heap.objs.size + 1) scope.names []).lookup y.1).isSome = true) := fun ⟨n, v⟩ hy => by
  rcases S.par n (List.of_mem_zip hy).1 with q | q
  ·exact .inl q
  ·exact .inr ⟨q, PySem.W.cellsFrom_some _ _ _ (.inl q)⟩
 refine codeAny_call_function hr.depth (KX _ _ lk) rfl S.co S.gen rfl (PySem.W.codeRec_of KX hcd) (hb _ _ _ _ ?_)
 refine wpAny_newFunctionEnv_cells S.kind hkind fun env he s1 x => ?_
 subst he
 refine ⟨lim.keeps x.toInCall.keep, codeAny_func ?_⟩
 obtain ⟨t, ht, hq⟩ := hbody A outer s H vs Q E (hr.deeper _) hsp
 have I : Inv (cxOf CX P w K mg base N qual scope f cdv A outer s H E) [] (start N vs) H s1 := inv_start S hr.hd e0 hl r x
 refine wpAny_mono (ht [] s1 (start N vs) H _ I hq) (fun fl s' hs => ?_) fun e s' hs => hs
 have fin : ∀ {σ' : St} {H' : Hp} {v : V} {u : Value}, Inv (cxOf CX P w K mg base N qual scope f cdv A outer s H E) [] σ' H' s' -> RelV v u -> Q v H' -> CE outer P w H s Q u s' :=
  fun {σ' H' v u} J rv q => ⟨v, H', J.os, J.bare, J.base, J.hok, rv, q⟩
 cases fl with
 | ret u =>
  obtain ⟨v, σ', H', J, rv, q⟩ := hs
  exact fin J rv q
 | next =>
  obtain ⟨σ', H', J, q⟩ := hs
  exact fin (v := V.non) (u := Value.none) J rfl q
 | brk =>
  obtain ⟨_, _, _, q⟩ := hs
  exact False.elim q
 | cont =>
  obtain ⟨_, _, _, q⟩ := hs
  exact False.elim q
end L2
namespace L2
open PySem PySem.Spec PyProof.Rows
section
variable {X : Cx} {x : Str} {p pos : Pos} {e : Expr} {es : List Expr} {t : TA} {id T : String} {r : List V -> Hp -> VK -> Prop}
def tCB (r : List V -> Hp -> VK -> Prop) (t : TA) : TE := fun σ H Q => t σ H fun vs H1 => r vs H1 Q
theorem pe_callB (hc : CallR X (.builtin id) r) (hg : Gl X x) (hm : X.mg x = none) (hv : bootBuiltins x = some (.builtin id)) (ha : PA X (e :: es) t) (hn : x ≠ "__name__" := by decide) (hdb : (x == ("__debug__" : Str)) = false := by decide)
  (he : starEach (e :: es) X.env = (false, eval e X.env) :: starEach es X.env := by rfl) (hpl : (backTo pos (starEach es X.env)).any (·.1) = false := by rfl) : PE X (.Call (.Name x p) (e :: es) [] pos) (tCB r t) := by
 intro pins s σ H Q I h
 refine wpAny_Call_Name_kw (ld_blt I hg hm hv ?_ hn hdb)
 exact PyProof.Rows.callWith_builtin1 (thn (ha pos pins s σ H _ I h) fun us s1 ⟨vs, H1, I1, r1, q1⟩ => hc pins s1 σ H1 vs us Q I1 r1 q1) he hpl
theorem pe_callTy (hc : CallR X (.type T) r) (hg : Gl X x) (hm : X.mg x = none) (hv : bootBuiltins x = some (.type T)) (ha : PA X (e :: es) t) (hn : x ≠ "__name__" := by decide) (hdb : (x == ("__debug__" : Str)) = false := by decide)
  (he : starEach (e :: es) X.env = (false, eval e X.env) :: starEach es X.env := by rfl) (hpl : (backTo pos (starEach es X.env)).any (·.1) = false := by rfl) : PE X (.Call (.Name x p) (e :: es) [] pos) (tCB r t) := by
 intro pins s σ H Q I h
 refine wpAny_Call_Name_kw (ld_blt I hg hm hv ?_ hn hdb)
 exact PyProof.Rows.callWith_type1 (thn (ha pos pins s σ H _ I h) fun us s1 ⟨vs, H1, I1, r1, q1⟩ => hc pins s1 σ H1 vs us Q I1 r1 q1) he hpl
end
end L2
namespace HT
open PySem PyProof.Rows
section
open PySem.SeqAt
open PySem.AutoSeq1 (wpAny_loadPart')
open PySem.MeetsSeq PySem.MeetsSeq2 PySem.MeetsSeq3
end
section
variable {prog : Program} {w : World} {A : Around} {E : Value -> Shared -> Prop} {s : Shared}
def sIx (n d : Nat) : Option Int -> Nat
 | none => d
 | some v => if v < 0 then (v + (n : Int)).toNat else min v.toNat n
end
end HT
namespace L2
open PySem PySem.Spec PyProof.Rows
abbrev TO := St -> Hp -> (Option Int -> Hp -> Prop) -> Prop
def PO (X : Cx) (e : Option Expr) (t : TO) : Prop :=
 ∀ (pins : List (Addr × Obj)) (s : Shared) (σ : St) (H : Hp) (Q : Option Int -> Hp -> Prop), Inv X pins σ H s -> t σ H Q ->
  wpAny (model X.prog X.w) X.A (evalPart e X.env) (fun u s' => ∃ o H', Inv X pins σ H' s' /\ IsPart u o /\ Q o H') X.xe s
def tNoPart : TO := fun _ H Q => Q none H
def tPart (t : TE) : TO := fun σ H Q => t σ H fun x H1 => ∃ i, x = .int i /\ Q (some i) H1
section
variable {X : Cx} {e : Expr} {te : TE} {lo hi : Option Expr} {tl th : TO} {pos p2 : Pos}
theorem po_none : PO X none tNoPart := by
 intro pins s σ H Q I h
 rw [evalPart_none]
 exact wpAny_pure ⟨none, H, I, .none, h⟩
theorem po_some (h : PE X e te) : PO X (some e) (tPart te) := by
 intro pins s σ H Q I hw
 rw [evalPart_some]
 refine thn (h pins s σ H _ I hw) fun u s1 ⟨x, H1, I1, r1, q1⟩ => ?_
 obtain ⟨i, rfl, q⟩ := q1
 obtain ⟨t, rfl⟩ := r1
 exact ⟨some i, H1, I1, .int i t, q⟩
def SlR (X : Cx) (r : V -> Option Int -> Option Int -> Hp -> VK -> Prop) : Prop :=
 ∀ (pins : List (Addr × Obj)) (s : Shared) (σ : St) (H : Hp) (x : V) (v vl vu : Value) (lo hi : Option Int) (sl : Addr) (Q : VK), Inv X pins σ H s -> RelV x v -> s.heap.IsSliceOf sl vl vu .none -> IsPart vl lo -> IsPart vu hi -> r x lo hi H Q ->
  ∃ T id, typeLookup (.type T) "__getitem__" = pure (some (.builtin id)) /\ s.TypeIs v T /\ wpAny (model X.prog X.w) X.A (getItem v (.ref sl)) (EP X pins σ Q) X.xe s
def tSl (r : V -> Option Int -> Option Int -> Hp -> VK -> Prop) (te : TE) (tl th : TO) : TE := fun σ H Q => te σ H fun x H1 => tl σ H1 fun l H2 => th σ H2 fun u H3 => r x l u H3 Q
theorem pe_slice {r : V -> Option Int -> Option Int -> Hp -> VK -> Prop} (hr : SlR X r) (he : PE X e te) (hl : PO X lo tl) (hu : PO X hi th) : PE X (.Subscript e (.Slice lo hi none p2) pos) (tSl r te tl th) := by
 intro pins s σ H Q I h
 refine Subscript_ (thn (he pins s σ H _ I h) fun v s1 ⟨x, H1, I1, r1, q1⟩ => ?_)
 refine wpAny_Slice (thn (hl pins s1 σ H1 _ I1 q1) fun vl s2 ⟨l, H2, I2, pl, q2⟩ => thn (hu pins s2 σ H2 _ I2 q2) fun vu s3 ⟨u, H3, I3, pu, q3⟩ => ?_)
 rw [evalPart_none]
 refine wpAny_pure ?_
 have I4 : Inv X pins σ H3 { s3 with heap := s3.heap.push { cls := .type "slice", data := .fields #[vl, vu, .none] } } := I3.kept (t' := s3.toks) fun b ob q => Heap.get?_push_of_some _ q
 obtain ⟨T, id, hT, ht, hg⟩ := hr pins { s3 with heap := s3.heap.push { cls := .type "slice", data := .fields #[vl, vu, .none] } } σ H3 x v vl vu l u s3.heap.objs.size Q I4 r1 (Heap.IsSliceOf.new ..) pl pu q3
 show wpAny (model X.prog X.w) X.A (subscriptTail e (.Slice lo hi none p2) v (.ref s3.heap.objs.size)) (EP X pins σ Q) X.xe { s3 with heap := s3.heap.push { cls := .type "slice", data := .fields #[vl, vu, .none] } }
 exact tail_any (ops := [.ref s3.heap.objs.size, v]) ht hT hg (by with_unfolding_all rfl)
def cutV (xs : List V) (lo hi : Option Int) : List V := (xs.drop (HT.sIx xs.length 0 lo)).take (HT.sIx xs.length xs.length hi - HT.sIx xs.length 0 lo)
theorem cutV_length (xs : List V) (lo hi : Option Int) : (cutV xs lo hi).length <= xs.length := by
 unfold cutV
 rw [List.length_take, List.length_drop]
 lia
end
end L2
namespace L2
open PySem PySem.Spec PyProof.Rows
def ixN (n : Nat) (i : Int) : Option Nat := if 0 <= i then (if i < n then some i.toNat else none) else if -(n : Int) <= i then some (i + n).toNat else none
def atI {α : Type} (xs : List α) (i : Int) : Option α := (ixN xs.length i).bind fun j => xs[j]?
theorem ixN_seq {n : Nat} {i : Int} {j : Nat} (h : ixN n i = some j) : seqIndex? i n = some j /\ j < n /\ -(n : Int) <= i /\ i < n := by
 unfold ixN at h
 by_cases h0 : 0 <= i
 ·rw [if_pos h0] at h
  by_cases h1 : i < n
  ·rw [if_pos h1] at h
   have e : i.toNat = j := Option.some.inj h
   exact ⟨by rw [seqIndex_of h0 h1, e], by lia, by lia, h1⟩
  ·rw [if_neg h1] at h; cases h
 ·rw [if_neg h0] at h
  by_cases h1 : -(n : Int) <= i
  ·rw [if_pos h1] at h
   have e : (i + n).toNat = j := Option.some.inj h
   exact ⟨by rw [seqIndex_neg (by lia) h1, e], by lia, h1, by lia⟩
  ·rw [if_neg h1] at h; cases h
theorem atI_get {α : Type} {xs : List α} {i : Int} {v : α} (h : atI xs i = some v) : ∃ j, seqIndex? i xs.length = some j /\ xs[j]? = some v /\ j < xs.length /\ -(xs.length : Int) <= i /\ i < xs.length := by
 unfold atI at h
 cases e : ixN xs.length i with
 | none => rw [e] at h; cases h
 | some j =>
  rw [e] at h
  obtain ⟨h1, h2, h3, h4⟩ := ixN_seq e
  exact ⟨j, h1, h, h2, h3, h4⟩
theorem atI_nat {α : Type} {xs : List α} {j : Nat} {v : α} (h : xs[j]? = some v) : atI xs (j : Int) = some v := by
 have hj : j < xs.length := (List.getElem?_eq_some_iff.mp h).1
 have e : ixN xs.length (j : Int) = some j := by
  unfold ixN
  rw [if_pos (by lia), if_pos (by lia)]; simp
 unfold atI; rw [e]; exact h
def PlainIx (b : Expr) : Prop := ∀ o i, subscripted b false o i = operate [o, i] (getItem o i)
def IxR (X : Cx) (r : R2) : Prop :=
 ∀ (value slice : Expr) (pins : List (Addr × Obj)) (s : Shared) (σ : St) (H : Hp) (x y : V) (v u : Value) (Q : VK), Inv X pins σ H s -> RelV x v -> RelV y u -> r x y H Q ->
  subscripted slice false v u = operate [v, u] (getItem v u) -> wpAny (model X.prog X.w) X.A (subscriptTail value slice v u) (EP X pins σ Q) X.xe s
def MtR (X : Cx) (id : String) (r : V -> List V -> Hp -> VK -> Prop) : Prop :=
 ∀ (pins : List (Addr × Obj)) (s : Shared) (σ : St) (H : Hp) (x : V) (xs : List V) (v : Value) (us : List Value) (Q : VK), Inv X pins σ H s -> RelV x v -> Vals xs us -> r x xs H Q ->
  wpAny (model X.prog X.w) X.A (call (.builtin id) (v :: us)) (EP X pins σ Q) X.xe s
section
variable {X : Cx} {a b : Expr} {ta tb : TE} {pos : Pos}
theorem pe_ix {r : R2} (hr : IxR X r) (ha : PE X a ta) (hb : PE X b tb) (hs : PlainIx b) : PE X (.Subscript a b pos) (tOp r ta tb) := by
 intro pins s σ H Q I h
 exact Subscript_ (binT ha hb I h fun v u s2 x y H2 I2 rx ry q => hr a b pins s2 σ H2 x y v u Q I2 rx ry q (hs _ _))
def rIxL (K : PySem.W.Frag) : R2 := fun x y H Q => ∃ p xs i v, x = .ref p /\ y = .int i /\ SqL K H p xs /\ atI xs i = some v /\ Q v H
def rIxT (K : PySem.W.Frag) : R2 := fun x y H Q => ∃ p xs i v, x = .ref p /\ y = .int i /\ SqT K H p xs /\ atI xs i = some v /\ Q v H
theorem ix_list : IxR X (rIxL X.K) := by
 intro value slice pins s σ H x y v u Q I rx ry h hs
 obtain ⟨p, xs, i, z, rfl, rfl, hq, he, q⟩ := h
 cases rx
 obtain ⟨t, rfl⟩ := ry
 obtain ⟨its, r, pl, hz⟩ := I.list hq
 obtain ⟨j, h1, h2, h3, h4, h5⟩ := atI_get he
 obtain ⟨w, ew, rw'⟩ := r.get h2
 have hl := r.length
 have hn := line63
 have fin : EP X pins σ Q w s := ⟨z, H, I, rw', q⟩
 by_cases h0 : 0 <= i
 ·have hj : i.toNat = j := by
   rw [seqIndex_of h0 h5] at h1
   exact Option.some.inj h1
  exact item_listR pl.isList h0 (by lia) (by rw [hj]; simpa using ew) fin hs
 ·have hj : (i + (its.toArray.size : Int)).toNat = j := by
   rw [seqIndex_neg (by lia) h4] at h1
   rw [List.size_toArray, <- hl]
   exact Option.some.inj h1
  exact subscriptTail_builtinR (x := w) pl.isList.typeIs slot_list_getitem.lookup
   (wpAny_getItem_list_neg (Q := fun r s' => r = w /\ EP X pins σ Q r s') pl.isList (by lia) (by rw [List.size_toArray] <;> lia) (by lia) (by rw [hj]; simpa using ew) ⟨rfl, fin⟩) hs
theorem ix_tup : IxR X (rIxT X.K) := by
 intro value slice pins s σ H x y v u Q I rx ry h hs
 obtain ⟨p, xs, i, z, rfl, rfl, hq, he, q⟩ := h
 cases rx
 obtain ⟨t, rfl⟩ := ry
 obtain ⟨its, r, pl, hz⟩ := I.tuple hq
 obtain ⟨j, h1, h2, h3, h4, h5⟩ := atI_get he
 obtain ⟨w, ew, rw'⟩ := r.get h2
 have hl := r.length
 have hn := line63
 have fin : EP X pins σ Q w s := ⟨z, H, I, rw', q⟩
 exact subscriptTail_builtinR (x := w) pl.typeIs slot_tuple_getitem.lookup
  (getItem_tuple (j := j) (Q := fun r s' => r = w /\ EP X pins σ Q r s') pl (by lia) (by lia) (by rw [List.size_toArray, <- hl]; exact h1) (by simpa using ew) ⟨rfl, fin⟩) hs
theorem slice_bounds (lo hi : Option Int) (n : Nat) : (sliceBounds lo hi none n).1 = ((HT.sIx n 0 lo : Nat) : Int) /\ (sliceBounds lo hi none n).2.1 = ((HT.sIx n n hi : Nat) : Int) /\ (sliceBounds lo hi none n).2.2 = 1 := by
 refine ⟨?_, ?_, rfl⟩
 ·cases lo with
  | none => simp [sliceBounds, HT.sIx]
  | some i =>
   simp only [sliceBounds, HT.sIx, Option.getD_none, show (1 : Int) > 0 by decide, if_true]
   by_cases h : i < 0
   ·simp only [h, if_true] <;> lia
   ·simp only [h, if_false] <;> lia
 ·cases hi with
  | none => simp [sliceBounds, HT.sIx]
  | some i =>
   simp only [sliceBounds, HT.sIx, Option.getD_none, show (1 : Int) > 0 by decide, if_true]
   by_cases h : i < 0
   ·simp only [h, if_true] <;> lia
   ·simp only [h, if_false] <;> lia
theorem slicePick_cut (its : List Value) (lo hi : Option Int) : slicePick its.toArray lo hi none = ((its.drop (HT.sIx its.length 0 lo)).take (HT.sIx its.length its.length hi - HT.sIx its.length 0 lo)).toArray := by
 obtain ⟨h1, h2, h3⟩ := slice_bounds lo hi its.toArray.size
 unfold slicePick
 rw [h1, h2, h3]
 simp only [sliceRange_one, pick_run, List.size_toArray] <;> rfl
def rSlL (K : PySem.W.Frag) : V -> Option Int -> Option Int -> Hp -> VK -> Prop := fun x lo hi H Q => ∃ a xs, x = .ref a /\ SqL K H a xs /\ ∀ p, H p = none -> Q (.ref p) (upd H p (.lst (cutV xs lo hi)))
theorem sl_list : SlR X (rSlL X.K) := by
 intro pins s σ H x v vl vu lo hi sl Q I rx hs pl pu h
 obtain ⟨a, xs, rfl, hx, q⟩ := h
 cases rx
 obtain ⟨its, r, ht, hz⟩ := I.list hx
 have hlen := r.length
 refine ⟨"list", _, slot_list_getitem.lookup, ht.isList.typeIs, ?_⟩
 refine wpAny_getItem_list_slice ht.isList hs pl pu .none (by simp) ?_ (by rw [List.size_toArray] <;> lia)
 rw [slicePick_cut, <- hlen]
 refine ⟨.ref s.heap.objs.size, _, I.laid (t' := s.toks) (o := .lst (cutV xs lo hi)) (fun b ob q => Heap.get?_push_of_some _ q) (Nat.le_refl _) ?_, rfl, q _ (I.hok.fresh (Nat.le_refl _))⟩
 exact ⟨Nat.le_trans (cutV_length xs lo hi) hz, _, 0, (r.drop (HT.sIx xs.length 0 lo)).take (HT.sIx xs.length xs.length hi - HT.sIx xs.length 0 lo), Heap.get?_push_size _ rfl⟩
def flatV : V -> Bool
 | .non => true
 | .bl _ => true
 | .int _ => true
 | .str _ => true
 | _ => false
def eqV : V -> V -> Bool
 | .non, .non => true
 | .bl a, .bl b => a == b
 | .bl a, .int b => (if a then 1 else 0) == b
 | .int a, .bl b => a == (if b then 1 else 0)
 | .int a, .int b => a == b
 | .str a, .str b => a == b
 | _, _ => false
theorem eqAt_V {A : Around} {s : Shared} {y x : V} {u v : Value} (ry : RelV y u) (rx : RelV x v) (fy : flatV y = true) (fx : flatV x = true) : SeqAt.EqAt A s u v (eqV y x) := by
 cases y with
 | non =>
  cases ry
  cases x with
  | non => cases rx; exact SeqAt.EqAt.same _
  | bl b => cases rx; exact SeqAt.EqAt.none_bool b
  | int b => obtain ⟨t, rfl⟩ := rx; exact SeqAt.EqAt.none_int b t
  | str b => obtain ⟨t, rfl⟩ := rx; exact SeqAt.EqAt.none_str b t
  | _ => exact absurd (show false = true from fx) Bool.false_ne_true
 | bl a =>
  cases ry
  cases x with
  | non => cases rx; exact SeqAt.EqAt.bool_none a
  | bl b => cases rx; exact SeqAt.EqAt.bool_bool a b
  | int b => obtain ⟨t, rfl⟩ := rx; exact SeqAt.EqAt.bool_int a b t
  | str b => obtain ⟨t, rfl⟩ := rx; exact SeqAt.EqAt.bool_str a b t
  | _ => exact absurd (show false = true from fx) Bool.false_ne_true
 | int a =>
  obtain ⟨t', rfl⟩ := ry
  cases x with
  | non => cases rx; exact SeqAt.EqAt.int_none a t'
  | bl b => cases rx; exact SeqAt.EqAt.int_bool a t' b
  | int b => obtain ⟨t, rfl⟩ := rx; exact SeqAt.EqAt.int_int a t' b t
  | str b => obtain ⟨t, rfl⟩ := rx; exact SeqAt.EqAt.int_str a t' b t
  | _ => exact absurd (show false = true from fx) Bool.false_ne_true
 | str a =>
  obtain ⟨t', rfl⟩ := ry
  cases x with
  | non => cases rx; exact SeqAt.EqAt.str_none a t'
  | bl b => cases rx; exact SeqAt.EqAt.str_bool a t' b
  | int b => obtain ⟨t, rfl⟩ := rx; exact SeqAt.EqAt.str_int a t' b t
  | str b => obtain ⟨t, rfl⟩ := rx; exact SeqAt.EqAt.str_str a t' b t
  | _ => exact absurd (show false = true from fx) Bool.false_ne_true
 | _ => exact absurd (show false = true from fy) Bool.false_ne_true
def eqU (x : V) (u : Value) : Bool := match u with
 | .none => eqV .non x
 | .bool b => eqV (.bl b) x
 | .int i _ => eqV (.int i) x
 | .str z _ => eqV (.str z) x
 | _ => false
theorem eqU_of {x y : V} {u : Value} (r : RelV y u) (f : flatV y = true) : eqU x u = eqV y x := by
 cases y with
 | non => cases r; rfl
 | bl b => cases r; rfl
 | int i => obtain ⟨t, rfl⟩ := r; rfl
 | str z => obtain ⟨t, rfl⟩ := r; rfl
 | _ => exact absurd (show false = true from f) Bool.false_ne_true
theorem any_eqU {x : V} : ∀ {xs : List V} {us : List Value}, Vals xs us -> xs.all flatV = true -> us.any (eqU x) = xs.any fun y => eqV y x
 | _, _, .nil, _ => rfl
 | y :: xs, u :: us, .cons r t, f => by
  rw [List.all_cons, Bool.and_eq_true] at f
  rw [List.any_cons, List.any_cons, eqU_of r f.1, any_eqU t f.2]
theorem mem_eqAt {A : Around} {s : Shared} {x : V} {v : Value} (rx : RelV x v) (fx : flatV x = true) : ∀ {xs : List V} {us : List Value}, Vals xs us -> xs.all flatV = true -> ∀ u ∈ us, SeqAt.EqAt A s u v (eqU x u)
 | _, _, .nil, _ => fun u hu => by cases hu
 | y :: xs, u :: us, .cons r t, f => fun u' hu => by
  rw [List.all_cons, Bool.and_eq_true] at f
  rcases List.mem_cons.mp hu with rfl | hu
  ·rw [eqU_of r f.1]; exact eqAt_V r rx f.1 fx
  ·exact mem_eqAt rx fx t f.2 u' hu
def inV (x : V) (xs : List V) : Bool := xs.any fun y => eqV y x
def rIn (K : PySem.W.Frag) (neg : Bool) : R2 := fun x y H Q => ∃ p xs, y = .ref p /\ (SqL K H p xs \/ SqT K H p xs) /\ flatV x = true /\ xs.all flatV = true /\ Q (.bl (if neg then !inV x xs else inV x xs)) H
theorem op_in_seq : OpR X (compareOp .In) (rIn X.K false) := by
 intro pins s σ H x y v u Q I rx ry h
 obtain ⟨p, xs, rfl, hq, fx, fs, q⟩ := h
 cases ry
 rcases hq with hq | hq
 ·obtain ⟨its, r, pl, hz⟩ := I.list hq
  refine SeqAt.in_listAt (eqU x) pl.isList (fun w hw => mem_eqAt rx fx r fs w (by simpa using hw)) ⟨.bl _, H, I, rfl, ?_⟩
  rw [show its.toArray.any (eqU x) = its.any (eqU x) by simp, any_eqU r fs]
  exact q
 ·obtain ⟨its, r, pl, hz⟩ := I.tuple hq
  refine SeqAt.in_tupleAt (eqU x) pl (fun w hw => mem_eqAt rx fx r fs w (by simpa using hw)) ⟨.bl _, H, I, rfl, ?_⟩
  rw [show its.toArray.any (eqU x) = its.any (eqU x) by simp, any_eqU r fs]
  exact q
theorem call_len_seq : CallR X (.builtin "len") (fun xs H Q => ∃ p ys, xs = [.ref p] /\ (SqL X.K H p ys \/ SqT X.K H p ys) /\ Q (.int ys.length) H) := by
 intro pins s σ H xs us Q I r h
 obtain ⟨p, ys, rfl, hq, q⟩ := h
 obtain ⟨u, rfl, rx⟩ := vals1 r
 cases rx
 have hn := line63
 rcases hq with hq | hq
 ·obtain ⟨its, r', pl, hz⟩ := I.list hq
  have hlen := r'.length
  exact Calls.call_len_list pl.isList (by simp only [List.size_toArray] <;> lia) ⟨.int ys.length, H, I.tok _, ⟨s.toks + 1, by rw [List.size_toArray, hlen]⟩, q⟩
 ·obtain ⟨its, r', pl, hz⟩ := I.tuple hq
  have hlen := r'.length
  exact len_tuple pl (by simp only [List.size_toArray] <;> lia) ⟨.int ys.length, H, I.tok _, ⟨s.toks + 1, by rw [List.size_toArray, hlen]⟩, q⟩
theorem call_len_str : CallR X (.builtin "len") (fun xs H Q => ∃ z, xs = [.str z] /\ z.length <= sizeLine /\ Q (.int z.length) H) := by
 intro pins s σ H xs us Q I r h
 obtain ⟨z, rfl, hz, q⟩ := h
 obtain ⟨u, rfl, t, rfl⟩ := vals1 r
 have hn := line63
 exact len_str (by lia) ⟨.int z.length, H, I.tok _, ⟨_, rfl⟩, q⟩
theorem call_tuple_of : CallR X (.type "tuple") (fun xs H Q => ∃ p ys, xs = [.ref p] /\ ((SqL X.K H p ys /\ ∀ l, H l = none -> Q (.ref l) (upd H l (.tup ys))) \/ (SqT X.K H p ys /\ Q (.ref p) H))) := by
 intro pins s σ H xs us Q I r h
 obtain ⟨p, ys, rfl, h⟩ := h
 obtain ⟨u, rfl, rx⟩ := vals1 r
 cases rx
 rcases h with ⟨hq, q⟩ | ⟨hq, q⟩
 ·obtain ⟨its, r', pl, hz⟩ := I.list hq
  have hlen := r'.length
  refine call_tuple_list pl.isList (fun h' kp => ?_) (by simp only [List.size_toArray] <;> lia)
  have I1 : Inv X pins σ H { s with heap := h' } := I.kept (t' := s.toks) kp
  have I2 : Inv X pins σ (upd H h'.objs.size (.tup ys)) { s with heap := h'.push { cls := .type "tuple", data := .seq its.toArray } } :=
   I1.laid (t' := s.toks) (fun b o e => Heap.get?_push_of_some _ e) (Nat.le_refl _) (show ObjOk X.prog X.w _ _ _ (.tup ys) from ⟨hz, its, r', IsTup.new _ _⟩)
  exact ⟨.ref h'.objs.size, _, I2, rfl, q _ (I1.hok.fresh (Nat.le_refl _))⟩
 ·obtain ⟨its, r', pl, hz⟩ := I.tuple hq
  exact call_tuple_same pl ⟨.ref p, H, I, rfl, q⟩
def tyV (K : PySem.W.Frag) (T : String) (x : V) (H : Hp) : Prop := match x with
 | .str _ => T = "str"
 | .int _ => T = "int"
 | .ref p => (T = "list" /\ ∃ xs, SqL K H p xs) \/ (T = "tuple" /\ ∃ o, K.lookup p = some o /\ o.cls = .type "tuple" /\ o.dict = none) \/
   (T = "dict" /\ ((∃ kvs, H p = some (.dK kvs)) \/ ∃ kvs, H p = some (.dT kvs))) \/ (T = "set" /\ ∃ S n, H p = some (.set S n))
 | _ => False
theorem tyV_is {pins : List (Addr × Obj)} {σ : St} {H : Hp} {s : Shared} {T : String} {x : V} {v : Value} (I : Inv X pins σ H s) (r : RelV x v) (ty : tyV X.K T x H) :
  s.TypeIs v T /\ ∀ a, v = .ref a -> ∃ ob, s.heap.get? a = some ob /\ ob.dict = none := by
 cases x with
 | str z =>
  obtain ⟨t, rfl⟩ := r
  cases (show T = "str" from ty)
  exact ⟨typeIs_str s z t, fun _ e => nomatch e⟩
 | int i =>
  obtain ⟨t, rfl⟩ := r
  cases (show T = "int" from ty)
  exact ⟨typeIs_int s i t, fun _ e => nomatch e⟩
 | ref p =>
  cases r
  rcases ty with ⟨rfl, xs, hq⟩ | ⟨rfl, o, hk, hc, hd⟩ | ⟨rfl, hk⟩ | ⟨rfl, S, n, hk⟩
  ·obtain ⟨its, _, pl, _⟩ := I.list hq
   refine ⟨pl.isList.typeIs, fun a e => ?_⟩
   cases e
   obtain ⟨o, n, e, c, hd, _⟩ := pl
   exact ⟨o, e, hd⟩
  ·refine ⟨⟨o, I.kIn p o hk, hc⟩, fun a e => ?_⟩
   cases e
   exact ⟨o, I.kIn _ o hk, hd⟩
  ·have z : ∃ o, s.heap.get? p = some o /\ o.ExactDict := by
    rcases hk with ⟨kvs, hk⟩ | ⟨kvs, hk⟩
    ·obtain ⟨_, _, _, _, o, _, _, e, ex, _⟩ := I.hok p _ hk
     exact ⟨o, e, ex⟩
    ·obtain ⟨_, _, _, _, o, _, _, e, ex, _⟩ := I.hok p _ hk
     exact ⟨o, e, ex⟩
   obtain ⟨o, e, ex⟩ := z
   refine ⟨⟨o, e, ex.1⟩, fun a e2 => ?_⟩
   cases e2
   exact ⟨o, e, ex.2.1⟩
  ·obtain ⟨o, _, _, _, e, ex, _⟩ := I.hok p _ hk
   refine ⟨⟨o, e, ex.1⟩, fun a e2 => ?_⟩
   cases e2
   exact ⟨o, e, ex.2.1⟩
 | _ => exact False.elim ty
def tBM (K : PySem.W.Frag) (T : String) (r : V -> List V -> Hp -> VK -> Prop) (to : TE) (t : TA) : TE := fun σ H Q => to σ H fun x H1 => tyV K T x H1 /\ t σ H1 fun xs H2 => r x xs H2 Q
variable {o e : Expr} {es : List Expr} {to : TE} {t : TA} {name : Str} {apos cpos : Pos} {T id : String} {r : V -> List V -> Hp -> VK -> Prop}
theorem pe_bm (pa : PlainAttrs T) (slot : Slot T name id) (hty : typeOf (.builtin id) = pure (.type "method_descriptor")) (hm : MtR X id r) (ho : PE X o to) (ha : PA X (e :: es) t)
  (hbase : attributeBase o name X.env (eval o X.env) = eval o X.env := by rfl)
  (hfew : ((backTo cpos (starEach (e :: es) X.env)).all (fun x => !x.1) && (backToKw cpos (keywordEach [] X.env)).all (fun x => x.1.isSome)
   && decide ((e :: es).length + ([] : List Keyword).length + (if ([] : List Keyword).isEmpty then 0 else 1) < 30)) = true := by rfl)
  (hline : (apos.endLine == cpos.line) = true := by rfl) (hs : starEach (e :: es) X.env = (false, eval e X.env) :: starEach es X.env := by rfl) (hplain : (backTo cpos (starEach es X.env)).any (·.1) = false := by rfl) :
  PE X (.Call (.Attribute o name apos) (e :: es) [] cpos) (tBM X.K T r to t) := by
 intro pins s σ H Q I h
 refine wpAny_Call_method_late hbase hfew hline rfl (thn (ho pins s σ H _ I h) fun v s1 ⟨x, H1, I1, r1, ty, q1⟩ => ?_)
 obtain ⟨h1, h2⟩ := tyV_is I1 r1 ty
 refine ⟨T, id, pa, slot, hty, h1, h2, ?_⟩
 have hA := ha cpos pins s1 σ H1 _ I1 q1
 rw [hs] at hA ⊢
 refine Calls.callWith_builtin (by show (false || (backTo cpos (starEach es X.env)).any (·.1)) = false; rw [hplain] <;> rfl) (Calls.evalArgs_plain ?_)
 exact thn hA fun us s2 ⟨vs, H2, I2, r2, q2⟩ => hm pins s2 σ H2 x vs v us Q I2 r1 r2 q2
/- xs.append(e), list.index on a module's tuple .. are MtR facts of 06m -/
end
end L2
namespace L2
open PySem PySem.Spec PyProof.Rows
def MtM (X : Cx) (id : String) (r : V -> List V -> Hp -> VK -> Prop) : Prop :=
 ∀ (pins : List (Addr × Obj)) (s : Shared) (σ : St) (H : Hp) (x : V) (xs : List V) (v : Value) (us : List Value) (Q : VK), Inv X pins σ H s -> RelV x v -> Vals xs us -> r x xs H Q ->
  wpAny (model X.prog X.w) X.A (call (.builtin id) (v :: us)) (EP X pins σ Q) X.xe s
theorem Vals.one : ∀ {x : V} {us : List Value}, Vals [x] us -> ∃ u, us = [u] /\ RelV x u
 | _, _, .cons r .nil => ⟨_, rfl, r⟩
theorem Vals.two : ∀ {x y : V} {us : List Value}, Vals [x, y] us -> ∃ u v, us = [u, v] /\ RelV x u /\ RelV y v := by
 intro x y us h; cases h with
 | cons r t => cases t with
  | cons q t => cases t; exact ⟨_, _, rfl, r, q⟩
theorem Vals.rep {xs : List V} {us : List Value} (h : Vals xs us) : ∀ k : Nat, Vals (List.replicate k xs).flatten (List.replicate k us).flatten
 | 0 => .nil
 | k + 1 => by
  rw [List.replicate_succ, List.replicate_succ, List.flatten_cons, List.flatten_cons]
  exact Vals.append h (Vals.rep h k)
theorem foldl_rep (its : List Value) : ∀ (k : Nat) (acc : List Value),
  List.foldl (fun x1 x2 => x1 ++ x2) acc.toArray (List.replicate k its.toArray) = (acc ++ (List.replicate k its).flatten).toArray
 | 0, acc => by simp
 | k + 1, acc => by
  have e : acc.toArray ++ its.toArray = (acc ++ its).toArray := by simp
  have e2 : (acc ++ its) ++ (List.replicate k its).flatten = acc ++ (List.replicate (k + 1) its).flatten := by
   rw [List.replicate_succ, List.flatten_cons, List.append_assoc]
  rw [<- e2, <- foldl_rep its k (acc ++ its), <- e, List.replicate_succ, List.foldl_cons]
section
variable {X : Cx} {pins : List (Addr × Obj)} {σ : St} {H : Hp} {s : Shared} {l b : Addr} {xs ys zs : List V}
theorem Inv.lset {its its' : List Value} {n : Nat} {f : Array Value -> Array Value} {t' : Nat} (I : Inv X pins σ H s) (hH : H l = some (.lst xs))
  (e : s.heap.get? l = some { cls := .type "list", data := .seq its.toArray n }) (hf : f its.toArray = its'.toArray) (hv : Vals ys its') (hz : ys.length <= sizeLine) :
  Inv X pins σ (upd H l (.lst ys)) { s with heap := s.heap.update l (Obj.mapSeq f), toks := t' } := by
 have q := PySem.IsL.update e f
 rw [hf] at q
 refine I.write (x := l) (e := l) (by rw [hH]; exact trivial) (.inl rfl) (fun b' u hb hu => (Heap.get?_update_other s.heap (Obj.mapSeq f) (Ne.symm hb)).trans hu) ⟨_, q⟩ ?_
 exact ⟨hz, its', _, hv, q⟩
theorem Inv.lnew {its : List Value} {t' : Nat} (I : Inv X pins σ H s) (hv : Vals ys its) (hz : ys.length <= sizeLine) :
  Inv X pins σ (upd H s.heap.objs.size (.lst ys)) { s with heap := s.heap.push { cls := .type "list", data := .seq its.toArray }, toks := t' } :=
 I.laid (fun _ _ q => Heap.get?_push_of_some _ q) (Nat.le_refl _) ⟨hz, its, 0, hv, Heap.get?_push_size _ rfl⟩
theorem Inv.fresh (I : Inv X pins σ H s) : H s.heap.objs.size = none := I.hok.fresh (Nat.le_refl _)
theorem Inv.lstM (I : Inv X pins σ H s) (hH : H l = some (.lst xs)) : xs.length <= sizeLine /\ ∃ (its : List Value) (n : Nat), Vals xs its /\ xs.length = its.length /\ s.heap.get? l = some { cls := .type "list", data := .seq its.toArray n } := by
 obtain ⟨z, its, n, r, e⟩ := I.hok l _ hH
 exact ⟨z, its, n, r, r.length, e⟩
theorem notLongL {n : Nat} (h : n <= sizeLine) : Builtin.List.listTooLong n = false := by
 unfold Builtin.List.listTooLong
 exact decide_eq_false (by lia)
end
section
variable {X : Cx}
def rAppend : V -> List V -> Hp -> VK -> Prop := fun x vs H Q => ∃ l xs y, x = .ref l /\ vs = [y] /\ H l = some (.lst xs) /\ xs.length < sizeLine /\ Q .non (upd H l (.lst (xs ++ [y])))
theorem mt_append : MtM X "list.append" rAppend := by
 intro pins s σ H x vs v us Q I rx rv h
 obtain ⟨l, xs, y, rfl, rfl, hH, hz, q⟩ := h
 cases rx
 obtain ⟨u, rfl, ru⟩ := rv.one
 obtain ⟨z, its, n, r, hl, e⟩ := I.lstM hH
 refine call_meets F.slot_list_append ⟨_, e, rfl⟩ F.entry_list_append (F.args_list_append_2 _ _) (PySem.list_append l its.toArray n u (by rw [List.size_toArray]; lia)) ⟨e, ?_⟩
 refine ⟨.non, _, I.lset (its' := its ++ [u]) hH e (by simp) (r.append (.cons ru .nil)) ?_, rfl, q⟩
 rw [List.length_append, List.length_singleton]
 lia
def rRep : R2 := fun x y H Q => ∃ l k xs, x = .ref l /\ y = .int k /\ H l = some (.lst xs) /\ -(2 ^ 63) <= k /\ k < 2 ^ 63 /\ xs.length * k.toNat <= sizeLine /\
 ∀ p, H p = none -> Q (.ref p) (upd H p (.lst (List.replicate k.toNat xs).flatten))
theorem len_rep {α : Type} (xs : List α) (k : Nat) : (List.replicate k xs).flatten.length = k * xs.length := by
 induction k with
 | zero => simp
 | succ k ih => rw [List.replicate_succ, List.flatten_cons, List.length_append, ih, Nat.succ_mul, Nat.add_comm]
theorem op_rep : OpR X (binaryOp .Mult) rRep := by
 intro pins s σ H x y v u Q I rx ry h
 obtain ⟨l, k, xs, rfl, rfl, hH, h1, h2, hz, q⟩ := h
 cases rx
 obtain ⟨t, rfl⟩ := ry
 obtain ⟨z, its, n, r, hl, e⟩ := I.lstM hH
 have hlen : its.toArray.size * k.toNat <= sizeLine := by rw [List.size_toArray, <- hl]; exact hz
 have hcap : ¬ its.toArray.size * k.toNat > (2 ^ 63 - 1) / 8 := by
  have : (sizeLine : Nat) <= (2 ^ 63 - 1) / 8 := by decide
  lia
 have hfit : ¬ (!Builtin.List.listFitsIndex k) = true := by
  rw [fitsIndex_both h1 h2]
  exact Bool.false_ne_true
 have hlong : ¬ Builtin.List.listTooLong (its.toArray.size * k.toNat) = true := by
  rw [notLongL hlen]
  exact Bool.false_ne_true
 have hnew : List.foldl (fun x1 x2 => x1 ++ x2) #[] (List.replicate (if its.toArray.isEmpty = true then 0 else k.toNat) its.toArray) = (List.replicate k.toNat its).flatten.toArray := by
  have f0 : ∀ m : Nat, List.foldl (fun x1 x2 => x1 ++ x2) #[] (List.replicate m its.toArray) = (List.replicate m its).flatten.toArray := fun m => by
   have := foldl_rep its m []
   rw [List.nil_append] at this
   exact this
  rw [f0]
  cases its with
  | nil => simp
  | cons a r' => rw [if_neg (by simp)]
 refine wpAny_binaryOp_repeat_ref (T := "list") (U := "int") (by decide) ⟨_, e, rfl⟩ (fun s' => typeIs_int s' k t) noFill_list_mul F.fills_int_mul F.slot_int_rmul repeat_list F.slot_int_index.lookup
  (call_meets F.slot_int_rmul (typeIs_int s k t) F.entry_int_rmul (F.args_int_rmul_2 _ _) (int___rmul___int_list k t l its.toArray n)
   ⟨e, rfl, ⟨_, e, rfl⟩, call_meets F.slot_list_mul ⟨_, e, rfl⟩ F.entry_list_mul (F.args_list_mul_2 _ _) (AutoListH.list___mul___list_int_3 l its.toArray n k t hfit hcap hlong) ⟨e, ?_⟩⟩)
 rw [hnew]
 exact ⟨.ref _, _, I.lnew (t' := s.toks) (r.rep k.toNat) (by rw [len_rep, Nat.mul_comm]; exact hz), rfl, q _ I.fresh⟩
end
section
variable {prog : Program} {w : World} {A : Around} {E : Value -> Shared -> Prop} {s : Shared}
end
section
variable {X : Cx}
end
end L2
namespace Att
open PySem PySem.W PySem.Calls PyProof.Rows
theorem ints_of_wellAll {P : Params} {h : Heap} : ∀ (ns : List Int) (vs : List Value), WellAll P h vs (ns.map WData.int) -> IntsAre vs ns := by
 intro ns
 induction ns with
 | nil =>
  intro vs w
  rw [List.map_nil] at w
  cases w
  exact .nil
 | cons n ns ih =>
  intro vs w
  rw [List.map_cons] at w
  cases w with
  | cons a b =>
   cases a
   exact .cons _ _ (ih _ b)
theorem script_of {l : OpenLaw} {n : Nat} (hn : l.most = some n) {P : Params} {h : Heap} {args : List WData} {vals : List Value}
  (hpre : l.row.toRowW.claim.pre args = true) (hwl : WellAll P h vals args) :
  ∃ a vs ns, vals = [Value.ref a] /\ args = [WData.list (ns.map WData.int)] /\ h.get? a = some { cls := .type "list", data := .seq vs.toArray } /\ IntsAre vs ns /\ ns.length <= n := by
 have hsh : WShape.hasAll [] args [.list .int] = true := (pre_splitW hpre).1
 have hc : l.pre.holds [] { args := args } = true := (pre_splitW hpre).2
 obtain ⟨d, r, rfl, h1, h2⟩ := hasAllW_cons hsh
 obtain rfl := hasAllW_nil h2
 obtain ⟨xs, rfl, h3⟩ := hasW_list h1
 obtain ⟨ns, rfl⟩ := items_int h3
 have hlen : ns.length <= n := by
  unfold OpenLaw.pre at hc
  have h4 : (WTm.not (.lt (.lit (.int (n : Int))) (.len (.arg 0)))).holds [] { args := [.list (ns.map .int)] } = true := by
   have h4 := (holds_andW hc).1
   rw [hn] at h4
   exact h4
  have h5 := condW_of h4 (w_not (w_lt w_lit (w_len_list (w_arg rfl))))
  rw [List.length_map] at h5
  refine Nat.le_of_not_lt fun q => ?_
  have q' : (n : Int) < ((ns.length : Nat) : Int) := by lia
  first
   | (rw [decide_eq_true q'] at h5; exact absurd h5 (by decide))
   | (simp at h5; lia)
 cases hwl with
 | cons w1 w2 =>
  cases w2
  cases w1 with
  | list ho hall => exact ⟨_, _, ns, rfl, rfl, ho, ints_of_wellAll ns _ hall, hlen⟩
theorem post_true (l : OpenLaw) (args : List WData) : l.row.toRowW.claim.post args (.bool true) args = true :=
 postW_of (r := l.row.toRowW) (X := (true == true))
  (show WShape.has [] (.bool true) .bool = true by first | rfl | decide | simp [WShape.has, WShape.arms, WShape.armsAll])
  (show (WTm.eq .res (.lit (.bool true))).value [] { args := args, res := some (.bool true), after := args } = some (.bool (true == true)) from w_eq_bool (w_res rfl) w_lit) rfl
theorem attach_call {l : OpenLaw} {n : Nat} {q : Program} {loose : List Str} {XP : (Str -> Option Value) -> Heap -> Prop} {YP : World -> Heap -> Prop} {d : DefRec}
  (hn : l.most = some n) (hdf : d.params.defaults = [])
  (call : ∀ (w : World) (s₀ s₁ : Shared) (mg mb : Str -> Option Value) (fa : Addr) (o : Obj) (pm cd doc : Value) (a : Addr) (vs : List Value) (ns : List Int),
   Ground q loose [] XP w s₀ mg mb s₁.heap -> YP w s₁.heap ->
   s₁.heap.get? fa = some o -> o.data = .func (docDef d.name d.params d.body d.scope pm cd doc) -> s₁.heap.CodeRec cd d.name -> mg d.name = some (.ref fa) ->
   s₁.heap.get? a = some { cls := .type "list", data := .seq vs.toArray } -> IntsAre vs ns -> ns.length <= n -> s₁.gens = #[] ->
   codeAny (model l.prog w) callerA (.call (.ref fa) ⟨[.ref a], []⟩) (fun r s' => r = .ok (.ret (.bool true)) /\ OldK s₁.heap s'.heap /\ s'.os = s₁.os /\ AllBare s'.gens) s₁) :
  WalkO q loose XP YP l.row.toRowW d [] (fun f vs => PySem.call f vs) := by
 intro w s₀ s₁ mg mb G Y fa o pm cd doc dV kV ho hd hcd hD hmg hg args vals as hpre hlay hrd hwl hlo
 obtain rfl : dV = .none := Dflts.none hD hdf
 obtain rfl : kV = .none := Dflts.noKw hD
 obtain ⟨a, vs, ns, rfl, rfl, hobj, hints, hlen⟩ := script_of hn hpre hwl
 refine enter_call (codeAny_mono (call w s₀ s₁ mg mb fa o pm cd doc a vs ns G Y ho (fd_plain hd) hcd hmg hobj hints hlen hg) fun r s' hq => ?_)
 obtain ⟨rfl, h2, h3, h4⟩ := hq
 exact ⟨.inl ⟨.bool true, .bool true, [], rfl, fun _ => rfl, .bool true, post_true l _, fun _ => ⟨List.Pairwise.nil, fun _ hm => (nomatch hm)⟩⟩, h2, h3, h4⟩
section
variable {prog : Program} {w : World} {A : Around} {E : Value -> Shared -> Prop} {s : Shared} {K : Frag}
end
end Att
namespace L2
open PySem PySem.Spec PyProof.Rows
theorem vals_ints : ∀ {vs : List Value} {ns : List Int}, IntsAre vs ns -> Vals (ns.map V.int) vs
 | _, _, .nil => .nil
 | _, _, .cons n t h => .cons ⟨t, rfl⟩ (vals_ints h)
end L2
namespace L2
open PySem PySem.Spec PyProof.Rows
end L2
/- THE LAST THEOREM (shape; LID, My.* are yours):
 My.Adr: a structure of the addresses that your layer names (classes, functions); My.Txt K t: a structure (Prop) of the equations over K;
 My.txt_mk : {K} {implicit addresses ..} (e1 : nsIn K mainGlobals "law" = some (some (.ref f))) (e2 : K.lookup f = some ⟨oc, od, .func (fnOf "law" "law" params body scope dV kV doc pm an cdv ct), sl⟩) (e3 : codeIn K cdv "law" = true) .. : ∃ t, My.Txt K t
set_option maxRecDepth 100000 in
set_option maxHeartbeats 0 in
theorem PySem.Challenge.cw_LID_holds : PySem.Challenge.rw_LID.Holds := by
 w_on; o_law; k_head; (case hw => w_witness2)
 k_fill
 refine L2.walk_of (l := PySem.Challenge.rw_LID) (n := 63) (k := 40) (x := "script") (CX := fun w => ..) (sp := fun _ => My.sp_law) rfl (by decide) rfl ⟨rfl, by decide, by decide⟩ (fun w h Y => PySem.W.kIn_of Y) ?F ?S ?C
 case F =>
  intro w mg fa h KX G hmg
  have T : ∃ t, My.Txt (L2.KOf KX) t := by
   dsimp only [L2.KOf]                          -- K must stand as «<heap const> w.params» for k_is
   refine' My.txt_mk ?e1 ?e2 ?e3 ..
   (case e1 => PySem.W.k_is)                    -- in the order: a name -> its address -> its object -> its parts
   (case e2 => PySem.W.k_is)
   ..
  obtain ⟨t, T⟩ := T
  have e0 := hmg.symm.trans (PySem.W.mg_of KX G T.law)
  cases e0                                       -- fa is the law's own address
  exact ⟨_, fun s u => .of_eq rfl, fun base kb nb => My.law_fn T kb nb⟩     -- if «.of_eq rfl» comes too early: refine' ⟨_, ?b, fun base kb nb => My.law_fn T kb nb⟩; exact fun s u => .of_eq rfl
 case S => exact fun w H a ns hl hO hS => ..
 case C => exact ..
(the tactic k_is has no namespace: write k_is) -/
namespace L2
open PySem PySem.Spec PyProof.Rows
def inClass (s : Stmt) (j : Nat) : Stmt := match s with
 | .ClassDef _ _ _ body _ _ _ _ _ _ _ => body.getD j (.Pass ⟨0, 0, 0, 0⟩)
 | _ => .Pass ⟨0, 0, 0, 0⟩
def defArgs (s : Stmt) : Arguments := match s with
 | .FunctionDef _ a _ _ _ _ _ _ _ _ => a
 | _ => { posonlyargs := [], args := [], vararg := none, kwonlyargs := [], kw_defaults := [], kwarg := none, defaults := [] }
def defBody (s : Stmt) : List Stmt := match s with
 | .FunctionDef _ _ b _ _ _ _ _ _ _ => b
 | _ => []
def defScope (s : Stmt) : Scope := match s with
 | .FunctionDef _ _ _ _ _ _ sc _ _ _ => sc
 | _ => { kind := .function, names := [], isGenerator := false, isCoroutine := false }
abbrev CX0 : CXT := fun _ _ _ _ _ _ => False
abbrev E0 : XK := fun _ _ _ => False
theorem pass0 {X : Cx} : Passes CX0 X E0 := fun _ _ _ _ _ _ _ h => h.elim
structure Fun (K : PySem.W.Frag) (x qual : Str) (st : Stmt) (f : Addr) (fd : FuncData) : Prop where
 ex : ∃ (oc : Value) (od : Option Addr) (kV doc pm : Value) (an : Option Addr) (cdv ct : Value) (osl : Array (Option Value)),
  fd = PySem.W.fnOf x qual (defArgs st) (defBody st) (defScope st) .none kV doc pm an cdv ct /\ K.lookup f = some ⟨oc, od, .func fd, osl⟩ /\ PySem.W.codeIn K cdv qual = true
 kp : PySem.W.keepIn K (.ref f) = true
section
variable {P : Program} {w : World} {K : PySem.W.Frag} {mg : Str -> Option Value} {base : Heap}
theorem Fun.ok {x qual : Str} {st : Stmt} {f : Addr} {fd : FuncData} {N ps : List Str} {k : Nat} {sp : Sp} (F : Fun K x qual st f fd) (S : FnScope N ps (defScope st)) (len : ∀ vs H Q E, sp vs H Q E -> vs.length = ps.length)
  (hbody : ∀ (cdv : Value) (A : Around) (outer : List Env) (s : Shared) (H : Hp) (vs : List V) (Q : VK) (E : XK), Room k (A.deeper (envOfC qual (defScope st) s.heap.objs.size f cdv)) -> sp vs H Q E ->
   ∃ t, PSs (cxOf CX0 P w K mg base N qual (defScope st) f cdv A outer s H E).nox (defBody st) t /\ t { nx := fun _ H' => Q .non H', rt := Q } (start N vs) H) : FnOk P w K mg base CX0 (k + 1) f fd ps sp := by
 obtain ⟨oc, od, kV, doc, pm, an, cdv, ct, osl, rfl, lk, hcd⟩ := F.ex
 refine fn_of lk hcd S len fun A outer s H vs Q E hr hsp => ?_
 obtain ⟨t, h, q⟩ := hbody cdv A outer s H vs Q E hr hsp
 exact ⟨t, h.nox, q⟩
theorem Fun.binds {x qual : Str} {st : Stmt} {f : Addr} {fd : FuncData} {ps : List Str} (F : Fun K x qual st f fd)
  (h : ∀ (kV doc pm : Value) (an : Option Addr) (cdv ct : Value) (us : List Value), us.length = ps.length -> bindArgs (PySem.W.fnOf x qual (defArgs st) (defBody st) (defScope st) .none kV doc pm an cdv ct) ⟨us, []⟩ = pure (ps.zip us)) : Binds K fd ps [] := by
 obtain ⟨oc, od, kV, doc, pm, an, cdv, ct, osl, rfl, lk, hcd⟩ := F.ex
 exact .all (h kV doc pm an cdv ct)
theorem fun_mk {x qual : Str} {st : Stmt} {f : Addr} {oc : Value} {od an : Option Addr} {osl : Array (Option Value)} {kV doc pm cdv ct : Value} (l : K.lookup f = some ⟨oc, od, .func (PySem.W.fnOf x qual (defArgs st) (defBody st) (defScope st) .none kV doc pm an cdv ct), osl⟩)
  (c : PySem.W.codeIn K cdv qual = true) (k : PySem.W.keepIn K (.ref f) = true) : Fun K x qual st f (PySem.W.fnOf x qual (defArgs st) (defBody st) (defScope st) .none kV doc pm an cdv ct) := ⟨⟨oc, od, kV, doc, pm, an, cdv, ct, osl, rfl, l, c⟩, k⟩
end
theorem hu_of {A : Around} {k : Nat} (hr : Room k A) : A.units + 1 < cLine := Nat.lt_of_le_of_lt (Nat.add_le_add_left (by decide : 1 <= 64) _) hr.units
section
variable {X : Cx}
theorem pv (i : Nat) {x : Str} {pos : Pos} (hN : X.N[i]? = some x := by rfl) (hv : Vis X.env.scope x := by first | exact Or.inl rfl | exact Or.inr (Or.inl rfl) | exact Or.inr (Or.inr rfl)) (hd : (x == ("__debug__" : Str)) = false := by decide)
  (hcd : (x == ("__classdict__" : Str)) = false := by decide) : PE X (.Name x pos) (tVar i) := pe_var hN hv hd hcd
end
theorem iteF {A B : Prop} (h : B) : if false = true then A else B := by
 rw [if_neg Bool.false_ne_true]
 exact h
theorem iteT {A B : Prop} (h : A) : if true = true then A else B := by
 rw [if_pos rfl]
 exact h
theorem ite2 {c A B : Prop} [Decidable c] (h1 : c -> A) (h2 : ¬ c -> B) : if c then A else B := by
 by_cases h : c
 ·rw [if_pos h]
  exact h1 h
 ·rw [if_neg h]
  exact h2 h
theorem iteNS {c A B : Prop} [Decidable c] (hc : c) (h : B) : if (!decide c) = true then A else B := by
 rw [decide_eq_true hc]
 exact iteF h
def Same (H H' : Hp) : Prop := ∀ b o, H b = some o -> H' b = some o
theorem Same.refl (H : Hp) : Same H H := fun _ _ h => h
theorem Same.trans {H H1 H2 : Hp} (a : Same H H1) (b : Same H1 H2) : Same H H2 := fun c o h => b c o (a c o h)
theorem Same.seq {K : PySem.W.Frag} {H H' : Hp} {a : Addr} {xs : List V} (e : Same H H') (h : SqL K H a xs) : SqL K H' a xs := by
 rcases h with (h | ⟨o, h⟩) | h
 ·exact .inl (.inl (e _ _ h))
 ·exact .inl (.inr ⟨o, e _ _ h⟩)
 ·exact .inr h
end L2
namespace L2
open PySem PySem.Spec PyProof.Rows
structure Near (hid fs : List Addr) (h h' : Heap) : Prop where
 keep : ∀ b o, h.get? b = some o -> b ∉ hid -> h'.get? b = some o
 slot : ∀ b o, b ∈ fs -> h.get? b = some o -> ∃ sl, h'.get? b = some { o with slots := sl }
 sub : ∀ b, b ∈ fs -> b ∈ hid
def FlyAt (a T : Addr) (cls fl : Value) (h : Heap) : Prop :=
 ∃ (oe : Obj) (vs : Array Value) (oT : Obj) (ts : Array Value), h.get? a = some oe /\ oe.cls = cls /\ oe.data = .fields vs /\ vs[1]? = some (.ref T) /\ vs[2]? = some .none /\ T ≠ a /\ h.get? T = some oT /\ oT.data = .fields ts /\ ts[3]? = some fl
def FlyNew (a : Addr) (cls : Value) (h : Heap) : Prop := ∃ (oe : Obj) (vs : Array Value), h.get? a = some oe /\ oe.cls = cls /\ oe.data = .fields vs /\ vs[1]? = some .none /\ vs[2]? = some .none
def ExcAt (a D : Addr) (h : Heap) : Prop := ∃ o, h.get? a = some o /\ o.cls = .ref D /\ ∃ vs, o.data = .fields vs /\ vs[2]? = some .none
theorem FlyAt.exc {a T D : Addr} {fl : Value} {h : Heap} (x : FlyAt a T (.ref D) fl h) : ExcAt a D h := by
 obtain ⟨oe, vs, _, _, e1, e2, e3, _, e5, _⟩ := x
 exact ⟨oe, e1, e2, vs, e3, e5⟩
theorem ExcAt.not {a D : Addr} {h : Heap} (x : ExcAt a D h) : ∃ o, h.get? a = some o /\ o.cls = .ref D /\ PySem.W.notCls o = true := by
 obtain ⟨o, e, c, vs, d, _⟩ := x
 exact ⟨o, e, c, by unfold PySem.W.notCls; rw [d]⟩
section
variable {M : Model} {A : Around} {E : Value -> Shared -> Prop} {s : Shared} {b0 : Heap} {env : Env} {outer : List Env} {L a T : Addr} {cls fl : Value} {Q : Unit -> Shared -> Prop}
theorem entry_fly {oe : Obj} {vs : Array Value} {head : Value} {hn : Bool} (hfr : A.frames = some (env :: outer)) (hl : s.heap.FunFrames b0 (env :: outer)) (hf : env.frame = some L) (he : s.heap.get? a = some oe) (hd : oe.data = .fields vs) (h2 : vs[2]? = some .none)
  (k : ∀ h' T', FlyAt a T' oe.cls (rawInt L) h' -> s.heap.get? T' = none -> Near (a :: frs (env :: outer)) (frs (env :: outer)) s.heap h' -> Q () { s with heap := h' }) :
  wpAny M A (do let x <- frameOf env; let pl <- entryPlaceOf L hn; let b <- EntryCells.newEntry head x .none (rawInt L) .none pl; setField (.ref a) 1 b) Q E s := by
 refine wpAny_bind (wpAny_frameOf_fun hfr hl hf fun g hs => wpAny_bind (wpAny_entryPlaceOf fun pl hp => ?_))
 unfold EntryCells.newEntry newFields
 refine wpAny_bind (wpAny_newObj_type ?_ (hp.sizeOk5 _ _ _ _ _))
 have na : a ∉ frs (env :: outer) := fun z => by
  obtain ⟨_, o, ho, hn⟩ := hl.mem z
  rw [he] at ho
  cases ho
  exact hn vs hd
 have e1 : g.get? a = some oe := (hs.2.1 a na).trans he
 have sz : 1 < vs.size := by
  have := (Array.getElem?_eq_some_iff.mp h2).1
  omega
 have nT : g.objs.size ≠ a := Nat.ne_of_gt (Heap.lt_size e1)
 have gn : ∀ b o, s.heap.get? b = some o -> ∃ o', g.get? b = some o' := fun b o q => by
  by_cases z : b ∈ frs (env :: outer)
  ·obtain ⟨sl, e⟩ := hs.2.2 b o q
   exact ⟨_, e⟩
  ·exact ⟨o, (hs.2.1 b z).trans q⟩
 refine wpAny_setField (Heap.get?_push_of_some _ e1) hd sz (k _ g.objs.size ⟨_, _, _, _, Heap.get?_update_self _ (Heap.get?_push_of_some _ e1) (Obj.isFreed_of_fields (Obj.data_mapFields hd _)), Obj.cls_mapFields _ _, Obj.data_mapFields hd _, ?_, ?_, nT, (Heap.get?_update_other _ _ nT.symm).trans (Heap.get?_push_size _ rfl), rfl, ?_⟩ ?_ ?_)
 ·simp [sz]
 ·rw [Array.getElem?_setIfInBounds_ne (by decide)]
  exact h2
 ·first | (simp; done) | (rcases hp with rfl | ⟨_, _, _, _, _, _, _, rfl⟩ <;> simp)
 ·cases q : s.heap.get? g.objs.size with
  | none => rfl
  | some o =>
   obtain ⟨o', q'⟩ := gn _ _ q
   exact absurd (Heap.lt_size q') (Nat.lt_irrefl _)
 ·have kp : ∀ (x : Obj) (f : Obj -> Obj) b o, g.get? b = some o -> b ≠ a -> ((g.push x).update a f).get? b = some o := fun x f b o q z => (Heap.get?_update_other _ _ (Ne.symm z)).trans (Heap.get?_push_of_some _ q)
  refine ⟨fun b o q z => kp _ _ b o ((hs.2.1 b fun m => z (.tail _ m)).trans q) fun y => z (y ▸ .head _), fun b o m q => ?_, fun b m => .tail _ m⟩
  obtain ⟨sl, e⟩ := hs.2.2 b o q
  exact ⟨sl, kp _ _ b _ e fun y => na (y ▸ m)⟩
theorem note_fly (hfr : A.frames = some (env :: outer)) (hl : s.heap.FunFrames b0 (env :: outer)) (hf : env.frame = some L) (hx : FlyNew a cls s.heap \/ FlyAt a T cls .none s.heap)
  (k : ∀ h' T', FlyAt a T' cls (rawInt L) h' -> s.heap.get? T' = none -> Near (a :: T :: frs (env :: outer)) (frs (env :: outer)) s.heap h' -> Q () { s with heap := h' }) : wpAny M A (noteFrame (.ref a) env) Q E s := by
 unfold noteFrame
 simp only [hf]
 rcases hx with ⟨oe, vs, e1, rfl, e3, e4, e5⟩ | ⟨oe, vs, oT, ts, e1, rfl, e3, e4, e5, e6, e7, e8, e9⟩
 ·refine wpAny_bind (wpAny_field e1 e3 e4 ?_)
  rw [if_neg (by decide)]
  refine entry_fly hfr hl hf e1 e3 e5 fun h' T' f n nr => k h' T' f n ⟨fun b o q z => nr.keep b o q fun m => z ?_, nr.slot, fun b m => .tail _ (.tail _ m)⟩
  rcases List.mem_cons.mp m with y | y
  ·exact y ▸ .head _
  ·exact .tail _ (.tail _ y)
 ·refine wpAny_bind (wpAny_field e1 e3 e4 ?_)
  rw [if_pos (show (Value.ref T != Value.none) = true from by simp)]
  refine wpAny_bind (wpAny_field e7 e8 e9 ?_)
  rw [if_neg (by simp [rawInt])]
  refine wpAny_bind (wpAny_setField e7 e8 (Array.getElem?_eq_some_iff.mp e9).1 ?_)
  have ot : ∀ b, b ≠ T -> (s.heap.update T (Obj.mapFields (·.setIfInBounds 3 Value.none))).get? b = s.heap.get? b := fun b z => Heap.get?_update_other _ _ (Ne.symm z)
  have nf : ∀ b o, s.heap.get? b = some o -> (∀ vs, o.data ≠ .fields vs) -> b ≠ T := fun b o q d z => by
   rw [z, e7] at q
   cases q
   exact d ts e8
  have fT : ∀ b, b ∈ frs (env :: outer) -> b ≠ T := fun b m => by
   obtain ⟨_, o, ho, d⟩ := hl.mem m
   exact nf b o ho d
  refine entry_fly (s := { s with heap := s.heap.update T (Obj.mapFields (·.setIfInBounds 3 Value.none)) }) hfr (hl.of_keeps fun b o q d => ⟨o, (ot b (nf b o q d)).trans q, rfl⟩) hf ((ot a (Ne.symm e6)).trans e1) e3 e5 fun h' T' f n nr => k h' T' f ?_ ⟨fun b o q z => ?_, fun b o m q => nr.slot b o m ((ot b (fT b m)).trans q), fun b m => .tail _ (.tail _ m)⟩
  ·by_cases z : T' = T
   ·rw [z, Heap.get?_update_self _ e7 (Obj.isFreed_of_fields (Obj.data_mapFields e8 _))] at n
    cases n
   ·rw [<- ot T' z]
    exact n
  ·refine nr.keep b o ((ot b fun y => z (y ▸ .tail _ (.head _))).trans q) fun m => z ?_
   rcases List.mem_cons.mp m with y | y
   ·exact y ▸ .head _
   ·exact .tail _ (.tail _ y)
theorem flight_fly {fr : Option Addr} (hx : FlyAt a T cls fl s.heap) (k : ∀ h', FlyAt a T cls (fr.elim .none fun f => rawInt f) h' -> (∀ b o, s.heap.get? b = some o -> b ≠ T -> h'.get? b = some o) -> Q () { s with heap := h' }) : wpAny M A (setFlight (.ref a) fr) Q E s := by
 obtain ⟨oe, vs, oT, ts, e1, rfl, e3, e4, e5, e6, e7, e8, e9⟩ := hx
 unfold setFlight
 refine wpAny_bind (wpAny_field e1 e3 e4 ?_)
 rw [if_pos (show (Value.ref T != Value.none) = true from by simp)]
 have z := (Array.getElem?_eq_some_iff.mp e9).1
 refine wpAny_setField e7 e8 z (k _ ⟨oe, vs, _, _, (Heap.get?_update_other _ _ e6).trans e1, rfl, e3, e4, e5, e6, Heap.get?_update_self _ e7 (Obj.isFreed_of_fields (Obj.data_mapFields e8 _)), Obj.data_mapFields e8 _, by simp [z]⟩ fun b o q y => (Heap.get?_update_other _ _ (Ne.symm y)).trans q)
theorem leave_fly (hfr : A.frames = some (env :: outer)) (hl : s.heap.FunFrames b0 (env :: outer)) (hf : env.frame = some L) (hx : FlyNew a cls s.heap \/ FlyAt a T cls .none s.heap)
  (k : ∀ h' T', FlyAt a T' cls .none h' -> s.heap.get? T' = none -> Near (a :: T :: frs (env :: outer)) (frs (env :: outer)) s.heap h' -> Q () { s with heap := h' }) : wpAny M A (leaving env (.ref a)) Q E s := by
 unfold leaving
 refine wpAny_bind (note_fly hfr hl hf hx fun h1 T' f n nr => flight_fly (s := { s with heap := h1 }) f fun h2 f2 kp => k h2 T' f2 n ⟨fun b o q z => kp b o (nr.keep b o q z) fun y => ?_, fun b o m q => ?_, nr.sub⟩)
 ·rw [y, n] at q
  cases q
 ·obtain ⟨sl, e⟩ := nr.slot b o m q
  exact ⟨sl, kp b _ e fun y => by rw [y, n] at q; cases q⟩
end
end L2
namespace L2
open PySem PySem.Spec PyProof.Rows
section
variable {κ : Type} [DecidableEq κ]
def valV (kvs : List (κ × V)) (k : κ) : Option V := (kvs.find? fun kv => decide (kv.1 = k)).map (·.2)
def putK (kvs : List (κ × V)) (k : κ) (v : V) : List (κ × V) :=
 if (kvs.any fun kv => decide (kv.1 = k)) = true then kvs.map (fun kv => if kv.1 = k then (kv.1, v) else kv) else kvs ++ [(k, v)]
theorem valV_pos {p : κ × V} {r : List (κ × V)} {k : κ} (e : p.1 = k) : valV (p :: r) k = some p.2 := by simp [valV, List.find?_cons, e]
theorem valV_neg {p : κ × V} {r : List (κ × V)} {k : κ} (e : ¬ p.1 = k) : valV (p :: r) k = valV r k := by simp [valV, List.find?_cons, e]
theorem valV_any (k : κ) : ∀ kvs : List (κ × V), (kvs.any fun kv => decide (kv.1 = k)) = (valV kvs k).isSome
 | [] => rfl
 | p :: r => by
  rw [List.any_cons]
  by_cases e : p.1 = k
  ·simp only [valV_pos e, decide_eq_true e, Bool.true_or, Option.isSome_some]
  ·rw [valV_neg e, decide_eq_false e, Bool.false_or]; exact valV_any k r
theorem valV_map (k j : κ) (y : V) : ∀ kvs : List (κ × V), valV (kvs.map fun kv => if kv.1 = k then (kv.1, y) else kv) j = (valV kvs j).map fun x => if j = k then y else x
 | [] => rfl
 | p :: r => by
  have ih := valV_map k j y r
  rw [List.map_cons]
  by_cases h : p.1 = k
  ·rw [if_pos h]
   by_cases e : p.1 = j
   ·rw [valV_pos (p := (p.1, y)) e, valV_pos e, Option.map_some, if_pos (e.symm.trans h)]
   ·rw [valV_neg (p := (p.1, y)) e, valV_neg e, ih]
  ·rw [if_neg h]
   by_cases e : p.1 = j
   ·rw [valV_pos (p := p) e, valV_pos e, Option.map_some, if_neg (fun z => h (e.trans z))]
   ·rw [valV_neg (p := p) e, valV_neg e, ih]
theorem valV_snoc (k j : κ) (y : V) : ∀ kvs : List (κ × V), valV kvs k = none -> valV (kvs ++ [(k, y)]) j = if j = k then some y else valV kvs j
 | [], _ => by
  by_cases e : k = j
  ·rw [if_pos e.symm]; exact valV_pos (p := (k, y)) e
  ·rw [if_neg (fun z => e z.symm)]; exact valV_neg (p := (k, y)) e
 | p :: r, hn => by
  rw [List.cons_append]
  have hk : ¬ p.1 = k := fun z => by rw [valV_pos z] at hn; cases hn
  rw [valV_neg hk] at hn
  have ih := valV_snoc k j y r hn
  by_cases e : p.1 = j
  ·rw [valV_pos e, valV_pos e, if_neg (fun z => hk (e.trans z))]
  ·rw [valV_neg e, valV_neg e, ih]
theorem valV_put (kvs : List (κ × V)) (k j : κ) (y : V) : valV (putK kvs k y) j = if j = k then some y else valV kvs j := by
 unfold putK
 by_cases a : (kvs.any fun kv => decide (kv.1 = k)) = true
 ·rw [if_pos a, valV_map]
  rw [valV_any] at a
  by_cases e : j = k
  ·obtain ⟨x, hx⟩ := Option.isSome_iff_exists.mp a
   rw [if_pos e, e, hx, Option.map_some, if_pos rfl]
  ·rw [if_neg e]
   cases valV kvs j with
   | none => rfl
   | some x => rw [Option.map_some, if_neg e]
 ·rw [if_neg a]
  refine valV_snoc k j y kvs ?_
  rw [valV_any] at a
  cases q : valV kvs k with
  | none => rfl
  | some x => rw [q] at a; exact (a rfl).elim
theorem length_putK (kvs : List (κ × V)) (k : κ) (v : V) : (putK kvs k v).length <= kvs.length + 1 := by
 unfold putK
 split
 ·rw [List.length_map]; lia
 ·rw [List.length_append, List.length_cons, List.length_nil]; lia
theorem putK_new {kvs : List (κ × V)} {k : κ} (v : V) (h : valV kvs k = none) : putK kvs k v = kvs ++ [(k, v)] := by
 unfold putK
 rw [valV_any, h]
 exact if_neg (by decide)
theorem RelO.isSome_eq {o : Option V} {u : Option Value} (r : RelO o u) : o.isSome = u.isSome := by
 cases o with
 | none => cases u with
  | none => rfl
  | some _ => exact (show False from r).elim
 | some _ => cases u with
  | none => exact (show False from r).elim
  | some _ => rfl
theorem RelO.getD {o : Option V} {u : Option Value} {d : V} {d' : Value} (r : RelO o u) (rd : RelV d d') : RelV (o.getD d) (u.getD d') := by
 cases o with
 | none => cases u with
  | none => exact rd
  | some _ => exact (show False from r).elim
 | some _ => cases u with
  | none => exact (show False from r).elim
  | some _ => exact r
theorem KV.val {kvs : List (κ × V)} {vs : List (κ × Value)} (r : KV kvs vs) (k : κ) : RelO (valV kvs k) (valueAt vs k) := by
 unfold KV at r
 induction r with
 | nil => exact True.intro
 | @cons p q ps qs h t ih =>
  obtain ⟨h1, h2⟩ := h
  by_cases e : p.1 = k
  ·have e' : q.1 = k := h1.symm.trans e
   have b : valueAt (q :: qs) k = some q.2 := by simp [valueAt, List.find?_cons, e']
   rw [valV_pos e, b]; exact h2
  ·have e' : ¬ q.1 = k := fun z => e (h1.trans z)
   have b : valueAt (q :: qs) k = valueAt qs k := by simp [valueAt, List.find?_cons, e']
   rw [valV_neg e, b]; exact ih
theorem KV.any {kvs : List (κ × V)} {vs : List (κ × Value)} (r : KV kvs vs) (k : κ) : (kvs.any fun kv => decide (kv.1 = k)) = vs.any fun kv => decide (kv.1 = k) := by
 unfold KV at r
 induction r with
 | nil => rfl
 | cons h t ih => rw [List.any_cons, List.any_cons, ih, h.1]
theorem KV.repl {kvs : List (κ × V)} {vs : List (κ × Value)} (r : KV kvs vs) (k : κ) {y : V} {u : Value} (ry : RelV y u) :
  KV (kvs.map fun kv => if kv.1 = k then (kv.1, y) else kv) (vs.map fun kv => if kv.1 = k then (kv.1, u) else kv) := by
 unfold KV at r ⊢
 induction r with
 | nil => exact .nil
 | @cons p q ps qs h t ih =>
  rw [List.map_cons, List.map_cons]
  refine .cons ?_ ih
  obtain ⟨h1, h2⟩ := h
  by_cases e : p.1 = k
  ·rw [if_pos e, if_pos (h1.symm.trans e)]; exact ⟨h1, ry⟩
  ·rw [if_neg e, if_neg (fun z => e (h1.trans z))]; exact ⟨h1, h2⟩
theorem KV.put {kvs : List (κ × V)} {vs : List (κ × Value)} (r : KV kvs vs) (k : κ) {y : V} {u : Value} (ry : RelV y u) : KV (putK kvs k y) (stored vs k u) := by
 unfold putK stored
 rw [r.any k]
 by_cases e : (vs.any fun kv => decide (kv.1 = k)) = true
 ·rw [if_pos e, if_pos e]; exact r.repl k ry
 ·rw [if_neg e, if_neg e]; exact Paired.snoc r ⟨rfl, ry⟩
theorem KV.length {kvs : List (κ × V)} {vs : List (κ × Value)} (r : KV kvs vs) : kvs.length = vs.length := Paired.length r
end
theorem kV_is {P : Program} {w : World} {k : Key} {u : Value} (r : RelV (kV k) u) : (mixKind P w).is k u = true := by
 cases k with
 | inl i => obtain ⟨t, e⟩ := (show ∃ t, u = Value.int i t from r); subst e; exact mixKind_int P w i t
 | inr x => obtain ⟨t, e⟩ := (show ∃ t, u = Value.str x t from r); subst e; exact mixKind_str P w x t
theorem items_are {P : Program} {w : World} : ∀ {ks : List Key} {us : List Value}, Vals (ks.map kV) us -> ItemsAre (mixKind P w) ks us
 | [], _, r => by rw [List.map_nil] at r; cases r; exact .nil
 | k :: ks, _, r => by
  rw [List.map_cons] at r
  cases r with
  | cons h t => exact .cons (kV_is h) (items_are t)
abbrev KT (H : Hp) : List (List Key × V) -> List (List Key × Addr × Value) -> Prop := Paired fun p q => p.1 = q.1 /\ H q.2.1 = some (.tup (p.1.map kV)) /\ RelV p.2 q.2.2
theorem KT.val {H : Hp} {kvs : List (List Key × V)} {xs : List (List Key × Addr × Value)} (r : KT H kvs xs) (k : List Key) : RelO (valV kvs k) ((atKey xs k).map (·.2)) := by
 induction r with
 | nil => exact True.intro
 | @cons p q ps qs h t ih =>
  obtain ⟨h1, _, h2⟩ := h
  by_cases e : p.1 = k
  ·have e' : q.1 = k := h1.symm.trans e
   have b : atKey (q :: qs) k = some q.2 := by simp [atKey, List.find?_cons, e']
   rw [valV_pos e, b]; exact h2
  ·have e' : ¬ q.1 = k := fun z => e (h1.trans z)
   have b : atKey (q :: qs) k = atKey qs k := by simp [atKey, List.find?_cons, e']
   rw [valV_neg e, b]; exact ih
theorem KT.repl {H : Hp} {kvs : List (List Key × V)} {xs : List (List Key × Addr × Value)} (r : KT H kvs xs) (k : List Key) {y : V} {u : Value} (ry : RelV y u) :
  KT H (kvs.map fun kv => if kv.1 = k then (kv.1, y) else kv) (xs.map (putAt k u)) := by
 induction r with
 | nil => exact .nil
 | @cons p q ps qs h t ih =>
  rw [List.map_cons, List.map_cons]
  refine .cons ?_ ih
  obtain ⟨h1, h2, h3⟩ := h
  unfold putAt
  by_cases e : p.1 = k
  ·rw [if_pos e, if_pos (h1.symm.trans e)]; exact ⟨h1, h2, ry⟩
  ·rw [if_neg e, if_neg (fun z => e (h1.trans z))]; exact ⟨h1, h2, h3⟩
theorem KT.put {H : Hp} {kvs : List (List Key × V)} {xs : List (List Key × Addr × Value)} (r : KT H kvs xs) (k : List Key) {b : Addr} {y : V} {u : Value} (hb : H b = some (.tup (k.map kV))) (ry : RelV y u) :
  KT H (putK kvs k y) (storedH xs k b u) := by
 have e : (kvs.any fun kv => decide (kv.1 = k)) = (atKey xs k).isSome := by
  rw [valV_any, (r.val k).isSome_eq, Option.isSome_map]
 unfold putK storedH
 rw [e]
 by_cases q : (atKey xs k).isSome = true
 ·rw [if_pos q, if_pos q]; exact r.repl k ry
 ·rw [if_neg q, if_neg q]; exact Paired.snoc r ⟨rfl, hb, ry⟩
theorem KT.keeps {H H' : Hp} {kvs : List (List Key × V)} {xs : List (List Key × Addr × Value)} (r : KT H kvs xs) (ht : ∀ b ys, H b = some (.tup ys) -> H' b = some (.tup ys)) : KT H' kvs xs :=
 Paired.mapP r fun _ _ z => ⟨z.1, ht _ _ z.2.1, z.2.2⟩
section
variable {P : Program} {w : World} {H : Hp} {h : Heap} {a : Addr}
theorem rd_of {u : HO} (ok : HOk P w H h) (e : Rd H a u) : ObjOk P w H h a u := e.ok ok
theorem dk_rd {kvs : List (Key × V)} (ok : HOk P w H h) (e : Rd H a (.dK kvs)) : kvs.length <= sizeLine /\ (a == sysModules) = false /\ ∃ vs, KV kvs vs /\ h.DictOf (mixKind P w) a vs :=
 show ObjOk P w H h a (.dK kvs) from rd_of ok e
theorem dk_of {kvs : List (Key × V)} (ok : HOk P w H h) (e : H a = some (.dK kvs)) : kvs.length <= sizeLine /\ (a == sysModules) = false /\ ∃ vs, KV kvs vs /\ h.DictOf (mixKind P w) a vs := dk_rd ok (.inl e)
theorem key_of {ks : List Key} (ok : HOk P w H h) (e : H a = some (.tup (ks.map kV))) : (tupleKind (mixKind P w)).is h ks a := by
 obtain ⟨_, its, r, o, h1, h2, n, h3⟩ := (show ObjOk P w H h a (.tup (ks.map kV)) from ok a _ e)
 exact ⟨o, its.toArray, n, h1, h2, h3, by simpa using items_are r⟩
theorem dt_rd {kvs : List (List Key × V)} (ok : HOk P w H h) (e : Rd H a (.dT kvs)) : kvs.length <= sizeLine /\ (a == sysModules) = false /\
  ∃ xs, KT H kvs xs /\ h.DictOfH (tupleKind (mixKind P w)) a xs := by
 obtain ⟨z, y, xs, r, o, es, ep, h1, h2, h3, h4, h5⟩ := (show ObjOk P w H h a (.dT kvs) from rd_of ok e)
 refine ⟨z, y, xs, r, o, es, ep, h1, h2, h3, h4, fun x hx => ?_, h5⟩
 have all : ∀ {l : List (List Key × V)} {m : List (List Key × Addr × Value)}, KT H l m -> ∀ x ∈ m, (tupleKind (mixKind P w)).is h x.1 x.2.1 := by
  intro l m q
  induction q with
  | nil => intro x hx; exact nomatch hx
  | @cons p q ps qs hq t ih =>
   intro x hx
   rcases List.mem_cons.mp hx with e | hx
   ·subst e
    exact key_of ok (by rw [<- hq.1]; exact hq.2.1)
   ·exact ih x hx
 exact all r x hx
theorem dt_of {kvs : List (List Key × V)} (ok : HOk P w H h) (e : H a = some (.dT kvs)) : kvs.length <= sizeLine /\ (a == sysModules) = false /\
  ∃ xs, KT H kvs xs /\ h.DictOfH (tupleKind (mixKind P w)) a xs := dt_rd ok (.inl e)
end
def DGet (H : Hp) (a : Addr) (y : V) (r : Option V) : Prop :=
 (∃ kvs k, Rd H a (.dK kvs) /\ y = kV k /\ r = valV kvs k) \/ ∃ kvs k b, Rd H a (.dT kvs) /\ y = .ref b /\ H b = some (.tup (k.map kV)) /\ r = valV kvs k
def DPut (H : Hp) (a : Addr) (y v : V) (H' : Hp) : Prop :=
 (∃ kvs k, H a = some (.dK kvs) /\ y = kV k /\ kvs.length < sizeLine /\ H' = upd H a (.dK (putK kvs k v))) \/
 ∃ kvs k b, H a = some (.dT kvs) /\ y = .ref b /\ H b = some (.tup (k.map kV)) /\ kvs.length < sizeLine /\ H' = upd H a (.dT (putK kvs k v))
theorem DGet.k {H : Hp} {a : Addr} {kvs : List (Key × V)} {k : Key} (e : H a = some (.dK kvs)) : DGet H a (kV k) (valV kvs k) := .inl ⟨kvs, k, .inl e, rfl, rfl⟩
theorem DGet.t {H : Hp} {a b : Addr} {kvs : List (List Key × V)} {k : List Key} (e : H a = some (.dT kvs)) (eb : H b = some (.tup (k.map kV))) : DGet H a (.ref b) (valV kvs k) := .inr ⟨kvs, k, b, .inl e, rfl, eb, rfl⟩
theorem DPut.k {H : Hp} {a : Addr} {kvs : List (Key × V)} {k : Key} {v : V} (e : H a = some (.dK kvs)) (hl : kvs.length < sizeLine) : DPut H a (kV k) v (upd H a (.dK (putK kvs k v))) := .inl ⟨kvs, k, e, rfl, hl, rfl⟩
theorem DPut.t {H : Hp} {a b : Addr} {kvs : List (List Key × V)} {k : List Key} {v : V} (e : H a = some (.dT kvs)) (eb : H b = some (.tup (k.map kV))) (hl : kvs.length < sizeLine) :
  DPut H a (.ref b) v (upd H a (.dT (putK kvs k v))) := .inr ⟨kvs, k, b, e, rfl, eb, hl, rfl⟩
section
variable {X : Cx} {pins : List (Addr × Obj)} {σ : St} {H : Hp} {s : Shared} {a : Addr} {y v : V} {u r : Value} {o : Option V} {A : Around} {E : Value -> Shared -> Prop}
theorem Inv.big (I : Inv X pins σ H s) : sysModules < s.heap.objs.size := by
 have h : mainGlobals < s.heap.objs.size := (I.mod.glob.keeps I.bk).lt
 exact Nat.lt_trans (by decide) h
theorem d_getItem {Q : Value -> Shared -> Prop} (hu : A.units + 1 < cLine) (I : Inv X pins σ H s) (g : DGet H a y (some v)) (ry : RelV y u) (h : ∀ w' s', Inv X pins σ H s' -> RelV v w' -> Q w' s') :
  wpAny (model X.prog X.w) A (getItem (.ref a) u) Q E s := by
 rcases g with ⟨kvs, k, e, ey, l⟩ | ⟨kvs, k, b, e, ey, eb, l⟩
 ·subst ey
  obtain ⟨z, hd, vs, rel, dd⟩ := dk_rd I.hok e
  obtain ⟨w', hw, rw'⟩ := RelO.some_of (v := v) (o := valueAt vs k) (by rw [l]; exact rel.val k)
  exact wpAny_getItem_of (kV_is ry) dd.mapOf hw (h w' _ (I.tok _) rw')
 ·subst ey
  cases (show u = Value.ref b from ry)
  obtain ⟨z, hd, xs, rel, dd⟩ := dt_rd I.hok e
  obtain ⟨w', hw, rw'⟩ := RelO.some_of (v := v) (o := (atKey xs k).map (·.2)) (by rw [l]; exact rel.val k)
  obtain ⟨p, hp, hp2⟩ := Option.map_eq_some_iff.mp hw
  refine wpAny_getItem_heap (tupleKind_room_in1 hu) (key_of I.hok eb) dd hp ?_
  rw [hp2]
  exact h w' _ (I.tok _) rw'
theorem d_notIn {Q : Value -> Shared -> Prop} (hu : A.units + 1 < cLine) (I : Inv X pins σ H s) (g : DGet H a y o) (ry : RelV y u) (h : ∀ s', Inv X pins σ H s' -> Q (.bool (!o.isSome)) s') :
  wpAny (model X.prog X.w) A (compareOp .NotIn u (.ref a)) Q E s := by
 rcases g with ⟨kvs, k, e, ey, l⟩ | ⟨kvs, k, b, e, ey, eb, l⟩
 ·subst ey
  obtain ⟨z, hd, vs, rel, dd⟩ := dk_rd I.hok e
  refine wpAny_notIn_of (kV_is ry) hd dd.mapOf ?_
  rw [<- (rel.val k).isSome_eq, <- l]
  exact h _ (I.tok _)
 ·subst ey
  cases (show u = Value.ref b from ry)
  obtain ⟨z, hd, xs, rel, dd⟩ := dt_rd I.hok e
  refine wpAny_notIn_heap (tupleKind_room_in1 hu) (key_of I.hok eb) hd dd ?_
  have q := (rel.val k).isSome_eq
  rw [Option.isSome_map] at q
  rw [<- q, <- l]
  exact h _ (I.tok _)
theorem d_write {h' : Heap} {t' : Nat} {ob : HO} (I : Inv X pins σ H s) (mu : Mut (H a)) (hs : Heap.SameBut a s.heap h') (he : ∃ q, h'.get? a = some q) (new : ObjOk X.prog X.w (upd H a ob) h' a ob) :
  Inv X pins σ (upd H a ob) { s with heap := h', toks := t' } :=
 I.write (x := a) (e := a) mu (.inl rfl) (fun b q hb z => (hs.2 b hb).trans z) he new
theorem dk_new {P : Program} {w : World} {H' : Hp} {h' : Heap} {kvs : List (Key × V)} {vs : List (Key × Value)} (z : kvs.length <= sizeLine) (hd : (a == sysModules) = false) (rel : KV kvs vs) (dd : h'.DictOf (mixKind P w) a vs) :
  ObjOk P w H' h' a (.dK kvs) := ⟨z, hd, vs, rel, dd⟩
theorem d_setItem {H' : Hp} {Q : Unit -> Shared -> Prop} (hu : A.units + 1 < cLine) (I : Inv X pins σ H s) (g : DPut H a y v H') (ry : RelV y u) (rv : RelV v r) (h : ∀ s', Inv X pins σ H' s' -> Q () s') :
  wpAny (model X.prog X.w) A (setItem (.ref a) u r) Q E s := by
 rcases g with ⟨kvs, k, e, ey, l, eH⟩ | ⟨kvs, k, b, e, ey, eb, l, eH⟩
 ·subst ey eH
  obtain ⟨z, hd, vs, rel, dd⟩ := dk_of I.hok e
  have hz : vs.length <= sizeLine := by rw [<- rel.length]; exact z
  have hl : (putK kvs k v).length <= sizeLine := by have := length_putK kvs k v; lia
  refine wpAny_setItem_pairs (hsz := hz) (kV_is ry) dd fun h' dd' hs => h _ ?_
  have he : ∃ q, h'.get? a = some q := let ⟨q, _, _, hq, _⟩ := dd'; ⟨q, hq⟩
  exact d_write I (by rw [e]; exact True.intro) hs he (dk_new hl hd (rel.put k rv) dd')
 ·subst ey eH
  cases (show u = Value.ref b from ry)
  obtain ⟨z, hd, xs, rel, dd⟩ := dt_of I.hok e
  have hz : xs.length <= sizeLine := by rw [<- Paired.length rel]; exact z
  have hl : (putK kvs k v).length <= sizeLine := by have := length_putK kvs k v; lia
  refine wpAny_setItem_heap (hsz := hz) (tupleKind_room_in1 hu) (key_of I.hok eb) dd fun h' dd' hs => h _ ?_
  obtain ⟨q, es, ep, hq, h2, h3, h4, _, h5⟩ := dd'
  refine d_write I (by rw [e]; exact True.intro) hs ⟨q, hq⟩ ⟨hl, hd, _, (rel.put k eb rv).keeps fun c ys ec => ?_, q, es, ep, hq, h2, h3, h4, h5⟩
  rw [upd_ne (ne_of ec e (fun z => nomatch z))]
  exact ec
end
section
variable {X : Cx} {pins : List (Addr × Obj)} {σ : St} {H : Hp} {s : Shared} {a : Addr} {kvs : List (Key × V)} {k : Key} {u : Value} {A : Around} {E : Value -> Shared -> Prop}
end
def NoSl (i : Expr) : Prop := ∀ ov iv, subscripted i false ov iv = operate [ov, iv] (getItem ov iv)
theorem subD_of {prog : Program} {w : World} {A : Around} {E : Value -> Shared -> Prop} {s : Shared} {env : Env} {value slice : Expr} {pos : Pos} {T id : String} {Q : Value -> Shared -> Prop}
  (hl : typeLookup (.type T) "__getitem__" = pure (some (.builtin id))) (hs : NoSl slice)
  (h : wpAny (model prog w) A (eval value env) (fun o s₁ => wpAny (model prog w) A (eval slice env) (fun i s₂ => s₂.TypeIs o T /\ wpAny (model prog w) A (getItem o i) Q E s₂) E s₁) E s) :
  wpAny (model prog w) A (eval (.Subscript value slice pos) env) Q E s := by
 refine Subscript_ (wpAny_mono h (fun o s₁ h₁ => wpAny_mono h₁ (fun i s₂ h₂ => ?_) fun _ _ x => x) fun _ _ x => x)
 obtain ⟨hT, h₂⟩ := h₂
 unfold subscriptTail
 refine wpAny_bind ?_
 rw [getitemInPython_of_ne hT.not_modules]
 refine wpAny_bind (wpAny_specialOf hT hl ?_)
 have fin : wpAny (model prog w) A (subscripted slice false o i) (fun r s₃ => wpAny (model prog w) A (letTemporaryGo value o r >>= fun _ => pure r) Q E s₃) E s₂ := by
  rw [hs o i]
  exact wpAny_operating (wpAny_mono h₂ (fun r s₃ h₃ => wpAny_bind (wpAny_letTemporaryGo (wpAny_pure h₃))) fun _ _ x => x)
 first
  | exact wpAny_pure (wpAny_bind fin)
  | exact wpAny_bind (wpAny_pure (wpAny_bind fin))
  | exact wpAny_bind fin
theorem dict_typeIs {X : Cx} {pins : List (Addr × Obj)} {σ : St} {H : Hp} {s : Shared} {a : Addr} {y : V} {o : Option V} (I : Inv X pins σ H s) (g : DGet H a y o) : s.TypeIs (.ref a) "dict" := by
 rcases g with ⟨kvs, k, e, _, _⟩ | ⟨kvs, k, b, e, _, _, _⟩
 ·obtain ⟨_, _, vs, _, dd⟩ := dk_rd I.hok e
  exact dd.typeIs
 ·obtain ⟨_, _, xs, _, dd⟩ := dt_rd I.hok e
  exact dd.typeIs
def tDGet (td ty : TE) : TE := fun σ H Q => td σ H fun x H1 => ty σ H1 fun y H2 => ∃ a v, x = .ref a /\ DGet H2 a y (some v) /\ Q v H2
def tDNotIn (ty td : TE) : TE := fun σ H Q => ty σ H fun y H1 => td σ H1 fun x H2 => ∃ a o, x = .ref a /\ DGet H2 a y o /\ Q (.bl (!o.isSome)) H2
def sDPut (td ty tv : TE) : TS := fun D σ H => tv σ H fun v H1 => td σ H1 fun x H2 => ty σ H2 fun y H3 => ∃ a H4, x = .ref a /\ DPut H3 a y v H4 /\ D.nx σ H4
section
variable {X : Cx} {o i e value : Expr} {pos pos' tpos : Pos} {td ty tv : TE}
theorem pe_dget (hu : X.A.units + 1 < cLine) (ho : PE X o td) (hi : PE X i ty) (hs : NoSl i) : PE X (.Subscript o i pos) (tDGet td ty) := by
 intro pins s σ H Q I h
 refine subD_of PySem.F.slot_dict_getitem.lookup hs (thn (ho pins s σ H _ I h) fun u s1 ⟨x, H1, I1, rx, q1⟩ => thn (hi pins s1 σ H1 _ I1 q1) fun iv s2 ⟨y, H2, I2, ry, a, v, ex, g, q2⟩ => ?_)
 subst ex
 obtain rfl : u = Value.ref a := rx
 exact ⟨dict_typeIs I2 g, d_getItem hu I2 g ry fun w' s3 I3 rw' => ⟨v, H2, I3, rw', q2⟩⟩
theorem pc_dnotin (hu : X.A.units + 1 < cLine) (hi : PE X i ty) (ho : PE X o td) : PC X .NotIn i o (tDNotIn ty td) := by
 intro pins s σ H Q I h
 refine thn (hi pins s σ H _ I h) fun iv s1 ⟨y, H1, I1, ry, q1⟩ => thn (ho pins s1 σ H1 _ I1 q1) fun u s2 ⟨x, H2, I2, rx, a, ov, ex, g, q2⟩ => ?_
 subst ex
 obtain rfl : u = Value.ref a := rx
 exact d_notIn hu I2 g ry fun s3 I3 => ⟨.bl (!ov.isSome), H2, I3, rfl, q2⟩
theorem ps_dput (hu : X.A.units + 1 < cLine) (ho : PE X o td) (hi : PE X i ty) (hv : PE X value tv) (hs : swapsWith value (some (.Subscript o i pos')) pos.line X.env = pure false) :
  PS X (.Assign [.Subscript o i pos'] value pos) (sDPut td ty tv) := by
 intro pins s σ H D I h
 refine wpAny_Assign_Subscript (thn (hv pins s σ H _ I h) fun r s1 ⟨v, H1, I1, rv, q1⟩ => thn (ho pins s1 σ H1 _ I1 q1) fun u s2 ⟨x, H2, I2, rx, q2⟩ => thn (hi pins s2 σ H2 _ I2 q2) fun iv s3 ⟨y, H3, I3, ry, a, H4, ex, g, q3⟩ => ?_) hs
 subst ex
 obtain rfl : u = Value.ref a := rx
 exact d_setItem hu I3 g ry rv fun s4 I4 => ⟨σ, H4, I4, q3⟩
end
theorem dk_empty {P : Program} {w : World} {H : Hp} (h : Heap) (hb : sysModules < h.objs.size) : ObjOk P w H (h.push { cls := .type "dict", data := .dict #[] }) h.objs.size (.dK []) :=
 ⟨Nat.zero_le _, beq_eq_false_iff_ne.mpr (Ne.symm (Nat.ne_of_lt hb)), [], .nil, Heap.DictOf.new h⟩
theorem dt_empty {P : Program} {w : World} {H : Hp} (h : Heap) (hb : sysModules < h.objs.size) : ObjOk P w H (h.push { cls := .type "dict", data := .dict #[] }) h.objs.size (.dT []) :=
 ⟨Nat.zero_le _, beq_eq_false_iff_ne.mpr (Ne.symm (Nat.ne_of_lt hb)), [], .nil, _, #[], 0, Heap.get?_push_size _ rfl, ⟨rfl, rfl, rfl⟩, rfl, rfl, List.nodup_nil⟩
def tDNewK : TE := fun _ H Q => ∀ p, H p = none -> Q (.ref p) (upd H p (.dK []))
def tDNewT : TE := fun _ H Q => ∀ p, H p = none -> Q (.ref p) (upd H p (.dT []))
section
variable {X : Cx} {pos : Pos}
theorem pe_dnewK : PE X (.Dict [] [] pos) tDNewK := fun pins s σ H Q I h =>
 wpAny_Dict_empty ⟨.ref s.heap.objs.size, _, I.laid (a := s.heap.objs.size) (o := .dK []) (t' := s.toks) (fun _ _ q => Heap.get?_push_of_some _ q) (Nat.le_refl _) (dk_empty s.heap I.big), rfl, h _ (I.hok.fresh (Nat.le_refl _))⟩
theorem pe_dnewT : PE X (.Dict [] [] pos) tDNewT := fun pins s σ H Q I h =>
 wpAny_Dict_empty ⟨.ref s.heap.objs.size, _, I.laid (a := s.heap.objs.size) (o := .dT []) (t' := s.toks) (fun _ _ q => Heap.get?_push_of_some _ q) (Nat.le_refl _) (dt_empty s.heap I.big), rfl, h _ (I.hok.fresh (Nat.le_refl _))⟩
end
structure M1 (X : Cx) (o : Expr) (m : Str) (apos : Pos) (e : Expr) (cpos : Pos) : Prop where
 base : attributeBase o m X.env (eval o X.env) = eval o X.env
 few : ((backTo cpos (starEach [e] X.env)).all (fun x => !x.1) && (backToKw cpos (keywordEach [] X.env)).all (fun x => x.1.isSome)
  && decide (([e] : List Expr).length + ([] : List Keyword).length + (if ([] : List Keyword).isEmpty then 0 else 1) < 30)) = true
 line : (apos.endLine == cpos.line) = true
 trees : backTo cpos (starEach [e] X.env) = [(false, eval e X.env)]
def IsD (H : Hp) (a : Addr) : Prop := (∃ kvs, Rd H a (.dK kvs)) \/ ∃ kvs, Rd H a (.dT kvs)
theorem isD_at {X : Cx} {pins : List (Addr × Obj)} {σ : St} {H : Hp} {s : Shared} {a : Addr} (I : Inv X pins σ H s) (d : IsD H a) :
  s.TypeIs (.ref a) "dict" /\ (∀ b, Value.ref a = .ref b -> ∃ ob, s.heap.get? b = some ob /\ ob.dict = none) /\ (a == sysModules) = false := by
 rcases d with ⟨kvs, e⟩ | ⟨kvs, e⟩
 ·obtain ⟨_, hd, vs, _, dd⟩ := dk_rd I.hok e
  refine ⟨dd.typeIs, fun b q => ?_, hd⟩
  cases q
  obtain ⟨ob, _, _, h1, h2, _⟩ := dd
  exact ⟨ob, h1, h2.2.1⟩
 ·obtain ⟨_, hd, xs, _, dd⟩ := dt_rd I.hok e
  refine ⟨dd.typeIs, fun b q => ?_, hd⟩
  cases q
  obtain ⟨ob, _, _, h1, h2, _⟩ := dd
  exact ⟨ob, h1, h2.2.1⟩
section
variable {X : Cx} {pins : List (Addr × Obj)} {σ : St} {H : Hp} {s : Shared} {a : Addr} {y d : V} {u r : Value} {o : Option V} {A : Around} {E : Value -> Shared -> Prop}
theorem d_get1 {Q : Value -> Shared -> Prop} (hu : A.units + 1 < cLine) (I : Inv X pins σ H s) (g : DGet H a y o) (ry : RelV y u) (h : ∀ w' s', Inv X pins σ H s' -> RelV (o.getD .non) w' -> Q w' s') :
  wpAny (model X.prog X.w) A (call (.builtin "dict.get") [.ref a, u]) Q E s := by
 rcases g with ⟨kvs, k, e, ey, l⟩ | ⟨kvs, k, b, e, ey, eb, l⟩
 ·subst ey
  obtain ⟨z, hd, vs, rel, dd⟩ := dk_rd I.hok e
  refine call_meetsIn PySem.F.slot_dict_get dd.typeIs PySem.F.entry_dict_get (PySem.F.args_dict_get_2 _ _) (meets_dict_get (mixKind X.prog X.w) a (kV_is ry) hd) ⟨_, dd.mapOf, h _ _ (I.tok _) ?_⟩
  rw [l]
  exact (rel.val k).getD rfl
 ·subst ey
  cases (show u = Value.ref b from ry)
  obtain ⟨z, hd, xs, rel, dd⟩ := dt_rd I.hok e
  refine call_meetsIn PySem.F.slot_dict_get dd.typeIs PySem.F.entry_dict_get (PySem.F.args_dict_get_2 _ _) (meetsH_dict_get (tupleKind (mixKind X.prog X.w)) a b hd) ⟨tupleKind_room_in1 hu, k, xs, key_of I.hok eb, dd, h _ _ (I.tok _) ?_⟩
  rw [l]
  exact (rel.val k).getD rfl
end
def tDGet1 (td ty : TE) : TE := fun σ H Q => td σ H fun x H1 => ∃ a, x = .ref a /\ IsD H1 a /\ ty σ H1 fun y H2 => ∃ o, DGet H2 a y o /\ Q (o.getD .non) H2
section
variable {X : Cx} {o e f : Expr} {apos cpos : Pos} {td ty tx : TE}
theorem pe_dget1 (hu : X.A.units + 1 < cLine) (ho : PE X o td) (he : PE X e ty) (m : M1 X o "get" apos e cpos) : PE X (.Call (.Attribute o "get" apos) [e] [] cpos) (tDGet1 td ty) := by
 intro pins s σ H Q I h
 refine wpAny_Call_method m.base m.few m.line PySem.F.plainAttrs_dict PySem.F.slot_dict_get PySem.F.type_dict_get (thn (ho pins s σ H _ I h) fun u s1 ⟨x, H1, I1, rx, a, ex, d, q1⟩ => ?_)
 subst ex
 obtain rfl : u = Value.ref a := rx
 obtain ⟨t1, t2, _⟩ := isD_at I1 d
 refine ⟨t1, t2, ?_⟩
 rw [m.trees]
 refine Calls.callWith_builtin rfl (Calls.evalArgs_plain (Calls.spliced_cons (thn (he pins s1 σ H1 _ I1 q1) fun iv s2 ⟨y, H2, I2, ry, ov, g, q2⟩ => Calls.spliced_nil ?_)))
 exact d_get1 hu I2 g ry fun w' s3 I3 rw' => ⟨_, H2, I3, rw', q2⟩
end
section
variable {X : Cx} {pins : List (Addr × Obj)} {σ : St} {H : Hp} {s : Shared} {a : Addr} {kvs : List (Key × V)} {A : Around} {E : Value -> Shared -> Prop}
end
section
variable {X : Cx} {pins : List (Addr × Obj)} {σ : St} {H : Hp} {s : Shared} {a : Addr} {y : V} {u : Value} {A : Around} {E : Value -> Shared -> Prop}
end
end L2
namespace L2
open PySem PySem.Spec PyProof.Rows
section
variable {X : Cx}
end
section
variable {κ : Type} [DecidableEq κ]
end
end L2
namespace L2
open PySem PySem.Spec PyProof.Rows
theorem ObjOk.be {P : Program} {w : World} {H : Hp} {h : Heap} {a : Addr} {o : HO} (x : ObjOk P w H h a o) : ∃ u, h.get? a = some u := by
 cases o with
 | lst xs => obtain ⟨_, _, _, _, e⟩ := x; exact ⟨_, e⟩
 | tup xs => obtain ⟨_, _, _, u, e, _⟩ := x; exact ⟨u, e⟩
 | dK kvs => obtain ⟨_, _, _, _, u, _, _, e, _⟩ := x; exact ⟨u, e⟩
 | dT kvs => obtain ⟨_, _, _, _, u, _, _, e, _⟩ := x; exact ⟨u, e⟩
 | set S n => obtain ⟨u, _, _, _, e, _⟩ := x; exact ⟨u, e⟩
 | ins C dx fs => obtain ⟨_, _, _, e, _⟩ := x; exact ⟨_, e⟩
 | own y => exact x
 | xd fs => obtain ⟨_, ⟨u, _, _, e, _⟩, _⟩ := x; exact ⟨u, e⟩
 | rng lo hi => obtain ⟨_, _, _, e⟩ := x; exact ⟨_, e⟩
 | frz ob u => exact ⟨_, x.1⟩
 | tbl ps => exact ⟨_, x⟩
 | met f y => exact ⟨_, x⟩
 | ext φ => exact x.2.1
theorem hok_near {P : Program} {w : World} {H : Hp} {h h' : Heap} {hid fs : List Addr} (hok : HOk P w H h) (n : Near hid fs h h') (free : ∀ b, b ∈ hid -> H b = none) : HOk P w H h' := fun b u q =>
 (hok b u q).stay (fun c v hc r => n.keep c v r fun m => by
  have z := free c m
  rcases hc with rfl | hc
  ·rw [q] at z; cases z
  ·rw [hc] at z; cases z) (fun _ z => z) fun _ _ z => z
theorem un_near {gs hid fs : List Addr} {H0 H : Hp} {g h h' : Heap} (u : Un gs [] H0 H g h) (n : Near hid fs h h') (out : ∀ b, b ∈ hid -> b ∈ fs \/ g.get? b = none) (inn : ∀ b, b ∈ fs -> b ∈ gs \/ g.get? b = none) : Un gs [] H0 H g h' where
 keep := fun b o q m hb hx => n.keep b o (u.keep b o q m hb hx) fun z => by
  rcases out b z with y | y
  ·rcases inn b y with y | y
   ·exact hb y
   ·rw [q] at y; cases y
  ·rw [q] at y; cases y
 slot := fun b o q m hb hx => by
  obtain ⟨sl, e⟩ := u.slot b o q m hb hx
  by_cases z : b ∈ hid
  ·rcases out b z with y | y
   ·obtain ⟨sl', e'⟩ := n.slot b _ y e
    exact ⟨sl', e'⟩
   ·rw [q] at y; cases y
  ·exact ⟨sl, n.keep b _ e z⟩
 free := u.free
 there := fun b o q hx => by
  obtain ⟨o', e⟩ := u.there b o q hx
  by_cases z : b ∈ hid
  ·rcases out b z with y | y
   ·obtain ⟨sl', e'⟩ := n.slot b _ y e
    exact ⟨_, e'⟩
   ·rw [q] at y; cases y
  ·exact ⟨_, n.keep b _ e z⟩
 tups := u.tups
 frzs := u.frzs
 tbls := u.tbls
abbrev FlyT (a T : Addr) (cls : Value) (h : Heap) : Prop := FlyAt a T cls .none h
def CXE (P : Program) (w : World) : CXT := fun outer H s E e s' =>
 ∃ (a T : Addr) (cls : Value) (H' : Hp), e = .ref a /\ s'.os = s.os /\ AllBare s'.gens /\ Un (frs outer) [] H H' s.heap s'.heap /\ HOk P w H' s'.heap /\
  FlyT a T cls s'.heap /\ s.heap.get? a = none /\ s.heap.get? T = none /\ H' a = none /\ H' T = none /\ E cls none H'
section
variable {P : Program} {w : World} {K : PySem.W.Frag} {mg : Str -> Option Value} {base : Heap} {N : List Str} {qual : Str} {scope : Scope} {f : Addr} {cd : Value} {A : Around} {outer : List Env} {s : Shared} {H : Hp} {E : XK}
def Raises (X : Cx) (E : XK) : Prop := ∀ (pins : List (Addr × Obj)) (σ : St) (H : Hp) (s : Shared) (e : Addr) (cls : Value) (args : List Value) (h' : Heap), Inv X pins σ H s -> Heap.MadeExcOf s.heap h' e cls args -> E cls none H -> X.xe (.ref e) { s with heap := h' }
theorem Inv.gk {X : Cx} {pins : List (Addr × Obj)} {σ : St} {H : Hp} {s : Shared} (I : Inv X pins σ H s) (hx : X.ex = []) : ∀ b o, X.s₀.heap.get? b = some o -> ∃ o', s.heap.get? b = some o' := fun b o q => I.base.there b o q (by rw [hx]; simp)
theorem Inv.gn {X : Cx} {pins : List (Addr × Obj)} {σ : St} {H : Hp} {s : Shared} (I : Inv X pins σ H s) (hx : X.ex = []) {b : Addr} (q : s.heap.get? b = none) : X.s₀.heap.get? b = none := by
 cases e : X.s₀.heap.get? b with
 | none => rfl
 | some o =>
  obtain ⟨o', e'⟩ := I.gk hx b o e
  rw [q] at e'
  cases e'
theorem Inv.ownNew {X : Cx} {pins : List (Addr × Obj)} {σ : St} {H : Hp} {s : Shared} (I : Inv X pins σ H s) : X.s₀.heap.get? X.env.locals = none := Heap.get?_none_of_le I.ok.above
theorem Inv.frsOut {X : Cx} {pins : List (Addr × Obj)} {σ : St} {H : Hp} {s : Shared} (I : Inv X pins σ H s) : ∀ b, b ∈ frs X.stack -> b ∈ frs X.outer \/ X.s₀.heap.get? b = none := fun b hb => by
 rcases List.mem_cons.mp (I.stkSub b hb) with z | z
 ·right; rw [z]; exact I.ownNew
 ·exact .inl z
theorem raisesE : Raises (cxOf (CXE P w) P w K mg base N qual scope f cd A outer s H E) E := by
 intro pins σ H1 s1 e cls args h' I hx hE
 obtain ⟨t, e1, _⟩ := hx.there
 refine leave_fly (s := { s1 with heap := h' }) (T := e) I.ok.frames (I.stack.of_keeps fun b o q d => ⟨o, hx.keeps b o q, rfl⟩) rfl (.inl ⟨_, _, e1, rfl, rfl, rfl, rfl⟩) fun h2 T fl n nr => ?_
 have h1 : ∀ b o, s1.heap.get? b = some o -> b ≠ e := fun b o q z => by
  rw [z, hx.new] at q
  cases q
 have h3 : ∀ b o, s1.heap.get? b = some o -> b ≠ T := fun b o q z => by
  have := hx.keeps b o q
  rw [z, show h'.get? T = none from n] at this
  cases this
 have he : ∀ b o, s1.heap.get? b = some o -> b ≠ e /\ b ≠ T := fun b o q => ⟨h1 b o q, h3 b o q⟩
 have nr' : Near (frs (cxOf (CXE P w) P w K mg base N qual scope f cd A outer s H E).stack) (frs (cxOf (CXE P w) P w K mg base N qual scope f cd A outer s H E).stack) s1.heap h2 := ⟨fun b o q z => nr.keep b o (hx.keeps b o q) fun m => by
   rcases List.mem_cons.mp m with y | y
   ·exact (he b o q).1 y
   ·rcases List.mem_cons.mp y with y | y
    ·exact (he b o q).1 y
    ·exact z y, fun b o m q => nr.slot b o m (hx.keeps b o q), fun _ z => z⟩
 have hn : ∀ b, (∀ o, s1.heap.get? b ≠ some o) -> s.heap.get? b = none /\ H1 b = none := fun b z => ⟨I.gn rfl (by
  cases q : s1.heap.get? b with
  | none => rfl
  | some o => exact absurd q (z o)), by
  cases q : H1 b with
  | none => rfl
  | some u =>
   obtain ⟨v, y⟩ := (I.hok b u q).be
   exact absurd y (z v)⟩
 have hE1 := hn e fun o q => (he e o q).1 rfl
 have hT1 := hn T fun o q => (he T o q).2 rfl
 exact ⟨e, T, cls, H1, rfl, I.os, I.bare, un_near I.base nr' (fun b z => .inl z) I.frsOut, hok_near I.hok nr' I.stkFree, fl, hE1.1, hT1.1, hE1.2, hT1.2, hE⟩
theorem passE : Passes (CXE P w) (cxOf (CXE P w) P w K mg base N qual scope f cd A outer s H E) E := by
 intro pins σ H1 s1 e s' I h
 obtain ⟨a, T, cls, H', rfl, os, bare, un, hok, fl, na, nT, ha, hT, hE⟩ := h
 have J : Inv (cxOf (CXE P w) P w K mg base N qual scope f cd A outer s H E) pins σ H' s' := I.call' (ch := []) os un hok bare (fun b z => absurd z (by simp))
 refine leave_fly J.ok.frames J.stack rfl (.inr fl) fun h2 T2 fl2 n2 nr => ?_
 have ga := I.gn rfl na
 have gT := I.gn rfl nT
 have hid : ∀ b, b ∈ a :: T :: frs (cxOf (CXE P w) P w K mg base N qual scope f cd A outer s H E).stack -> b ∈ frs (cxOf (CXE P w) P w K mg base N qual scope f cd A outer s H E).stack \/ (s.heap.get? b = none /\ H' b = none) := fun b z => by
  rcases List.mem_cons.mp z with rfl | z
  ·exact .inr ⟨ga, ha⟩
  ·rcases List.mem_cons.mp z with rfl | z
   ·exact .inr ⟨gT, hT⟩
   ·exact .inl z
 have nT2 : H' T2 = none := by
  cases q : H' T2 with
  | none => rfl
  | some u =>
   obtain ⟨v, y⟩ := (J.hok T2 u q).be
   rw [n2] at y
   cases y
 refine ⟨a, T2, cls, H', rfl, J.os, J.bare, un_near J.base nr (fun b z => (hid b z).imp id (·.1)) J.frsOut, hok_near J.hok nr (fun b z => ?_), fl2, ga, J.gn rfl n2, ha, nT2, hE⟩
 rcases hid b z with y | y
 ·exact J.stkFree b y
 ·exact y.2
theorem Fun.okE {x : Str} {st : Stmt} {fd : FuncData} {ps : List Str} {k : Nat} {sp : Sp} (F : Fun K x qual st f fd) (S : FnScope N ps (defScope st)) (len : ∀ vs H Q E, sp vs H Q E -> vs.length = ps.length)
  (hbody : ∀ (cdv : Value) (A : Around) (outer : List Env) (s : Shared) (H : Hp) (vs : List V) (Q : VK) (E : XK), Room k (A.deeper (envOfC qual (defScope st) s.heap.objs.size f cdv)) -> sp vs H Q E ->
   ∃ t, PSs (cxOf (CXE P w) P w K mg base N qual (defScope st) f cdv A outer s H E) (defBody st) t /\ t { nx := fun _ H' => Q .non H', rt := Q } (start N vs) H) : FnOk P w K mg base (CXE P w) (k + 1) f fd ps sp := by
 obtain ⟨oc, od, kV, doc, pm, an, cdv, ct, osl, rfl, lk, hcd⟩ := F.ex
 exact fn_of lk hcd S len fun A outer s H vs Q E hr hsp => hbody cdv A outer s H vs Q E hr hsp
end
end L2
namespace L2
open PySem PySem.Spec PyProof.Rows
def vmro : List Value := [.type "ValueError", .type "Exception", .type "BaseException", .type "object"]
abbrev ExcC (K : PySem.W.Frag) (C : Addr) : Prop := PySem.W.excIn K C vmro "ValueError.__new__" = true
theorem exc_obj {K : PySem.W.Frag} {h : Heap} {C : Addr} {bmB : List Value} {newId : String} (X : K.In h) (q : PySem.W.excIn K C bmB newId = true) :
  ∃ (bm : List Value) (N : Addr) (nm qn : Str) (bs : List Value) (hd : Bool) (sn : List Str) (sub : List Value) (ab : Bool) (col : Option Bool) (dd : Option Addr) (k0 k1 k2 k3 k5 : Option Value) (mN : Str -> Option Value),
   h.get? C = some (excClassObj nm qn C N bs bm hd sn sub ab col dd k0 k1 k2 k3 k5 newId) /\ h.Ns N mN /\ mN "__init__" = none /\ OwnTail h bmB bm /\ ∀ v, PySem.W.mroIn K C v = some ((Value.ref C :: bm).contains v) := by
 unfold PySem.W.excIn at q
 split at q
 case h_2 => cases q
 rename_i dd cd sl ho
 split at q
 case h_2 => cases q
 rename_i C' bm k0 k1 k2 k3 n k5 hm hs
 simp only [Bool.and_eq_true, beq_iff_eq, Bool.not_eq_true'] at q
 obtain ⟨⟨⟨⟨⟨q1, q2⟩, q3⟩, q4⟩, q5⟩, q6⟩ := q
 subst q1 q2
 have mro : ∀ v, PySem.W.mroIn K C' v = some ((Value.ref C' :: bm).contains v) := fun v => by
  unfold PySem.W.mroIn PySem.W.clsIn
  rw [ho]
  show (if cd.mro.isEmpty = true then none else some (cd.mro.contains v)) = _
  rw [hm]
  rfl
 obtain ⟨nm, bs, mr, ns, qn, hd, sn, sub, ab, col, del⟩ := cd
 dsimp only at hm q3 q5 q6
 subst hm
 subst q3
 obtain ⟨l⟩ := sl
 dsimp only at hs
 subst hs
 exact ⟨bm, ns, nm, qn, bs, hd, sn, sub, ab, col, dd, k0, k1, k2, k3, k5, _, X _ _ ho, .of_isNs (PySem.W.isNs_of_in X q5), PySem.W.nsMap_none_of_in X q5 q6, PySem.W.tail_of_in X q4, mro⟩
section
variable {X : Cx} {C : Addr} {x : Str} {np cpos pos : Pos} {e : Expr} {es : List Expr} {t : TA} {E : XK}
def tRaise (C : Addr) (E : XK) (t : TA) : TS := fun _ σ H => t σ H fun vs H1 => vs.length <= 100 /\ E (.ref C) none H1
theorem ps_raise (hx : Raises X E) (hc : X.calm = true) (hg : Gl X x) (hm : X.mg x = some (.ref C)) (hC : ExcC X.K C) (ha : PA X (e :: es) t)
  (hdb : (x == ("__debug__" : Str)) = false := by decide) (he : starEach (e :: es) X.env = (false, eval e X.env) :: starEach es X.env := by rfl) (hpl : (backTo cpos (starEach es X.env)).any (·.1) = false := by rfl) :
  PS X (.Raise (some (.Call (.Name x np) (e :: es) [] cpos)) none pos) (tRaise C E t) := by
 intro pins s σ H D I h
 obtain ⟨bm, N, nm, qn, bs, hd, sn, sub, ab, col, dd, k0, k1, k2, k3, k5, mN, hO, hN, hi, hT, hM⟩ := exc_obj I.mod.kin hC
 have hbase : bm.contains (.type "BaseException") = true := hT.hasType (by decide)
 refine wpAny_Raise_call_subU (C := C) (nm := nm) (q := qn) (N := N) (bs := bs) (bm := bm) (hdct := hd) (sn := sn) (sub := sub) (ab := ab) (col := col) (dd := dd) (k0 := k0) (k1 := k1) (k2 := k2) (k3 := k3) (k5 := k5) (newId := "ValueError.__new__") (mN := mN)
  PySem.F.excBase_ValueError (by decide) PySem.F.excBase_ValueError hbase (I.ok.hd hc) (by rw [he]; show (false || (backTo cpos (starEach es X.env)).any (·.1)) = false; rw [hpl]; rfl) hi (ld_glob I hg hm ⟨rfl, ?_⟩ hdb)
 have hA := ha cpos pins s σ H _ I h
 rw [he] at hA ⊢
 refine Calls.evalArgs_plain (thn hA fun us s1 ⟨vs, H1, I1, r1, hl, q1⟩ => ?_)
 have k : ∀ b o, X.base.get? b = some o -> s1.heap.get? b = some o := I1.bk
 refine ⟨rfl, ?_, k _ _ hO, hN.keeps k, hT.keeps k, fun h' e' hx' => hx pins σ H1 s1 e' _ _ h' I1 hx' q1⟩
 show us.length <= sizeLine
 rw [<- r1.length]
 exact Nat.le_trans hl (by decide)
end
def PassesS (CX : CXT) (X : Cx) (E : XK) (S : St -> Prop) : Prop := ∀ (pins : List (Addr × Obj)) (σ : St) (H : Hp) (s : Shared) (e : Value) (s' : Shared), S σ -> Inv X pins σ H s -> CX X.stack H s E e s' -> X.xe e s'
section
variable {X : Cx} {CX : CXT} {k : Nat} {f : Addr} {fd : FuncData} {ps : List Str} {sp : Sp} {dvs : List V} {ds : List Value} {E : XK} {x : Str} {p pos : Pos} {e : Expr} {es : List Expr} {t : TA} {S : St -> Prop}
end
theorem Inv.re {X : Cx} {pins pins2 pn2 : List (Addr × Obj)} {σ : St} {H : Hp} {s : Shared} {A2 : Around} {c2 : Bool} {xe2 : Value -> Shared -> Prop} (I : Inv X pins σ H s) (hd : c2 = true -> A2.handled = none) (hf : A2.frames = X.A.frames)
  (hp : ∀ p, p ∈ pn2 ++ pins2 -> p ∈ X.pn ++ pins) : Inv { X with A := A2, calm := c2, xe := xe2, pn := pn2 } pins2 σ H s :=
 ⟨⟨I.ok.mod, I.ok.kind, I.ok.glob, I.ok.blt, I.ok.above, I.ok.inj, I.ok.has, I.ok.cab, hd, hf.trans I.ok.frames, I.ok.stk, I.ok.exf, I.ok.bs, I.ok.bsz, I.ok.noex, I.ok.exfs, I.ok.funs, I.ok.frf⟩,
  I.os, I.bare, I.base, I.loc, I.cell, I.free, I.freeC, fun p z => I.pin p (hp p z), I.hok, I.len⟩
theorem Inv.un_re {X : Cx} {pins pins2 pn2 : List (Addr × Obj)} {σ : St} {H : Hp} {s : Shared} {A2 : Around} {c2 : Bool} {xe2 : Value -> Shared -> Prop} (I : Inv { X with A := A2, calm := c2, xe := xe2, pn := pn2 } pins2 σ H s) (hd : X.calm = true -> X.A.handled = none)
  (hf : X.A.frames = A2.frames) (hp : ∀ p, p ∈ X.pn ++ pins -> p ∈ pn2 ++ pins2) : Inv X pins σ H s :=
 ⟨⟨I.ok.mod, I.ok.kind, I.ok.glob, I.ok.blt, I.ok.above, I.ok.inj, I.ok.has, I.ok.cab, hd, hf.trans I.ok.frames, I.ok.stk, I.ok.exf, I.ok.bs, I.ok.bsz, I.ok.noex, I.ok.exfs, I.ok.funs, I.ok.frf⟩,
  I.os, I.bare, I.base, I.loc, I.cell, I.free, I.freeC, fun p z => I.pin p (hp p z), I.hok, I.len⟩
theorem SP.map {X Y : Cx} {p q : List (Addr × Obj)} {D : Ends} {f : Flow} {s : Shared} (k : ∀ σ H, Inv X p σ H s -> Inv Y q σ H s) (h : SP X p D f s) : SP Y q D f s := by
 cases f with
 | next => obtain ⟨σ', H', I, z⟩ := h; exact ⟨σ', H', k _ _ I, z⟩
 | brk => obtain ⟨σ', H', I, z⟩ := h; exact ⟨σ', H', k _ _ I, z⟩
 | cont => obtain ⟨σ', H', I, z⟩ := h; exact ⟨σ', H', k _ _ I, z⟩
 | ret u => obtain ⟨v, σ', H', I, r, z⟩ := h; exact ⟨v, σ', H', k _ _ I, r, z⟩
def isExc (a D : Addr) : HO := .ext (ExcAt a D)
theorem isExc_ok {P : Program} {w : World} {H : Hp} {h : Heap} {a D : Addr} (e : ExcAt a D h) : ObjOk P w H h a (isExc a D) := by
 obtain ⟨o, e, r⟩ := e
 exact ⟨⟨o, e, r⟩, ⟨o, e⟩, fun h1 h2 ⟨o1, e1, r1⟩ k => ⟨o1, k _ e1, r1⟩⟩
theorem Inv.track {X : Cx} {pins : List (Addr × Obj)} {σ : St} {H : Hp} {s : Shared} {a : Addr} {o : HO} (I : Inv X pins σ H s) (ha : H a = none) (h0 : X.s₀.heap.get? a = none) (hb : X.base.get? a = none) (hL : X.env.locals ≠ a) (hc : ∀ x c, X.env.cells.lookup x = some c -> c ≠ a)
  (hp : ∀ p, p ∈ X.pn ++ pins -> p.1 ≠ a) (hs : ∀ b, b ∈ X.fs -> b ≠ a) (new : ObjOk X.prog X.w (upd H a o) s.heap a o) : Inv X pins σ (upd H a o) s := by
 have ne : ∀ b u, H b = some u -> b ≠ a := fun b u q z => by rw [z, ha] at q; cases q
 refine ⟨I.ok, I.os, I.bare, ⟨I.base.keep, I.base.slot, fun b u q n x => ?_, I.base.there, fun b xs q => ?_, fun b u v q => ?_, fun b ps q => ?_⟩, I.loc, I.cell, ?_, fun x c q => ?_, fun p z => ?_, fun b u q => ?_, I.len⟩
 ·rw [upd_ne (fun z => by rw [z, h0] at q; cases q)]
  exact I.base.free b u q n x
 ·have z := I.base.tups b xs q
  rw [upd_ne (ne _ _ z)]; exact z
 ·have z := I.base.frzs b u v q
  rw [upd_ne (ne _ _ z)]; exact z
 ·obtain ⟨m, z⟩ := I.base.tbls b ps q
  exact ⟨m, by rw [upd_ne (ne _ _ z)]; exact z⟩
 ·rw [upd_ne hL]; exact I.free
 ·rw [upd_ne (hc x c q)]; exact I.freeC x c q
 ·obtain ⟨e, n, r⟩ := I.pin p z
  exact ⟨e, by rw [upd_ne (hp p z)]; exact n, r⟩
 ·by_cases z : b = a
  ·subst z
   rw [upd_same] at q
   cases q
   exact new
  ·rw [upd_ne z] at q
   exact (I.hok b u q).stay (fun c v _ r => r) (fun c r => by rw [upd_ne (ne _ _ r)]; exact r) fun c xs r => by rw [upd_ne (ne _ _ r)]; exact r
theorem Inv.gone {X : Cx} {pins : List (Addr × Obj)} {σ : St} {H : Hp} {s : Shared} {h' : Heap} {n : Str} {i : Nat} {v : Option Value} {m : Str -> Option Value} {tk : Nat} (I : Inv X pins σ H s) (hN : X.N.Nodup) (hi : X.N[i]? = some n) (hl : X.env.scope.names.lookup n = some .local)
  (hl0 : ∀ (i : Nat) (x : Str) (v : V), X.N[i]? = some x -> σ[i]? = some (some v) -> Vis X.env.scope x -> ∃ u, RelV v u /\ Look X.env s.heap m x u) (hn' : h'.Ns X.env.locals (fun x => if x = n then v else m x)) (sb : Heap.SameBut X.env.locals s.heap h') : Inv X pins (σ.set i none) H { s with heap := h', toks := tk } := by
 have neL : ∀ b o, X.s₀.heap.get? b = some o -> b ≠ X.env.locals := fun b o e => Nat.ne_of_lt (Nat.lt_of_lt_of_le (Heap.lt_size e) I.ok.above)
 refine ⟨I.ok, I.os, I.bare, ⟨fun b o e z hb hx => ?_, fun b o e z hb hx => ?_, I.base.free, fun b o e hx => ?_, I.base.tups, I.base.frzs, I.base.tbls⟩, ⟨_, hn', fun j y v' e1 e2 e3 => ?_⟩, fun y c e => ?_, I.free, I.freeC, fun p hp => ?_, fun b u q => ?_, by simpa using I.len⟩
 ·exact (sb.2 b (neL b o e)).trans (I.base.keep b o e z hb hx)
 ·obtain ⟨sl, q⟩ := I.base.slot b o e z hb hx
  exact ⟨sl, (sb.2 b (neL b o e)).trans q⟩
 ·obtain ⟨o', q⟩ := I.base.there b o e hx
  exact ⟨o', (sb.2 b (neL b o e)).trans q⟩
 ·by_cases hj : j = i
  ·subst hj
   rw [List.getElem?_set_self (by rw [I.len]; exact (List.getElem?_eq_some_iff.mp hi).1)] at e2
   cases e2
  ·rw [List.getElem?_set_ne (Ne.symm hj)] at e2
   obtain ⟨u, r, l⟩ := hl0 j y v' e1 e2 e3
   refine ⟨u, r, ?_⟩
   have ny : y ≠ n := fun z => hj (nodup_ix hN e1 (z ▸ hi))
   rcases l with ⟨k, q⟩ | ⟨k, c, q, z⟩
   ·exact .inl ⟨k, by simp [ny, q]⟩
   ·exact .inr ⟨k, c, q, z.sameBut sb (I.cne y c q)⟩
 ·obtain ⟨w', z⟩ := I.cell y c e
  exact ⟨w', z.sameBut sb (I.cne y c e)⟩
 ·obtain ⟨e, z, ne, r⟩ := I.pin p hp
  exact ⟨(sb.2 p.1 ne).trans e, z, ne, r⟩
 ·have ne : ∀ c v, H c = some v -> c ≠ X.env.locals := fun c v q z => by rw [z, I.free] at q; cases q
  refine (I.hok b u q).stay (fun c v hc r => (sb.2 c ?_).trans r) (fun _ z => z) fun _ _ z => z
  rcases hc with rfl | hc
  ·exact ne _ _ q
  ·exact ne _ _ hc
end L2
namespace L2
open PySem PySem.Spec PyProof.Rows
theorem exc_takes {K : PySem.W.Frag} {M : Model} {A : Around} {E : Value -> Shared -> Prop} {s : Shared} {e C D : Addr} {oe : Obj} {Q : Bool -> Shared -> Prop} (X : K.In s.heap) (hC : ExcC K C) (hD : ExcC K D) (hs : PySem.W.mroIn K D (.ref C) = some true)
  (he : s.heap.get? e = some oe) (hcls : oe.cls = .ref D) (hq : Q true s) : wpAny M A (excMatches (.ref e) (.ref C)) Q E s := by
 obtain ⟨h, g, d, t, os⟩ := s
 obtain ⟨bm, N, nm, qn, bs, hd, sn, sub, ab, col, dd, k0, k1, k2, k3, k5, mN, hO, hN, hi, hT, hM⟩ := exc_obj X hD
 have hbase : bm.contains (.type "BaseException") = true := hT.hasType (by decide)
 by_cases z : D = C
 ·subst z
  exact wpAny_excMatches_sub_self hO he hcls hbase hq
 ·obtain ⟨bm', N', nm', qn', bs', hd', sn', sub', ab', col', dd', k0', k1', k2', k3', k5', mN', hO', hN', hi', hT', hM'⟩ := exc_obj X hC
  have hcB : (Value.ref C :: bm').contains (.type "BaseException") = true := by rw [List.contains_cons, hT'.hasType (X := "BaseException") (b := true) (by decide), Bool.or_true]
  have hcC : (Value.ref D :: bm).contains (.ref C) = true := Option.some.inj ((hM (.ref C)).symm.trans hs)
  have f := tc_notTuple
  unfold excMatches
  repeat (first
   | (with_reducible refine wpAny_loadPart_at he ?_; rw [hcls])
   | with_reducible refine wpAny_loadPart_at hO' ?_
   | (with_reducible refine wpAny_isSubtype_exc hO' ?_; rw [hcB])
   | (with_reducible refine wpAny_isSubtype_exc hO ?_; rw [hcC])
   | wp_step)
  exact hq
section
variable {X : Cx} {C : Addr} {x n : Str} {np hpos pos : Pos} {i : Nat} {b₀ : Stmt} {suite body : List Stmt} {S : St -> Prop} {tb : XK -> TS} {th : TS}
theorem land {pins pins' : List (Addr × Obj)} {σ : St} {H1 : Hp} {s1 s' : Shared} {e : Value} {E1 : XK} {Q : Flow -> Shared -> Prop} {nm : Option Str} {xe1 : Value -> Shared -> Prop}
  (hstk : X.stack = X.env :: X.outer) (hfr : X.env.frame = some X.env.locals) (hex : X.ex = []) (hg : Gl X x) (hm : X.mg x = some (.ref C)) (hC : ExcC X.K C) (hcalm : X.calm = true)
  (hE1 : ∀ cls d H', E1 cls d H' -> ∃ D, cls = .ref D /\ ExcC X.K D /\ PySem.W.mroIn X.K D (.ref C) = some true)
  (J0 : Inv { X with xe := xe1, pn := X.pn ++ pins } pins' σ H1 s1) (hcx : CXE X.prog X.w X.stack H1 s1 E1 e s')
  (go : ∀ (a D : Addr) (H' : Hp) (s2 : Shared), e = .ref a -> E1 (.ref D) none H' -> H' a = none -> ExcAt a D s2.heap -> X.s₀.heap.get? a = none -> X.base.get? a = none -> X.env.locals ≠ a -> (∀ x c, X.env.cells.lookup x = some c -> c ≠ a) ->
   (∀ p, p ∈ X.pn ++ pins -> p.1 ≠ a) -> (∀ b, b ∈ X.fs -> b ≠ a) -> Inv X pins σ H' s2 ->
   (∀ (Q' : Unit -> Shared -> Prop) (E' : Value -> Shared -> Prop), (∀ s3, Inv X pins σ H' s3 -> ExcAt a D s3.heap -> Q' () s3) -> wpAny (model X.prog X.w) (X.A.mark (some (.ref a))) (setFlight (.ref a) none) Q' E' s2) ->
   codeAny (model X.prog X.w) (X.A.mark (some (.ref a))) (.handlers (.ref a) [.ExceptHandler none nm (b₀ :: suite) hpos] X.env) (fun r s₂ => match r with
     | .ok f => (match nm with
      | none => Q f s₂
      | some n => wpAny (model X.prog X.w) X.A (do bindName X.env n .none; unbindBehindTheSuite X.env n hpos) (fun _ s₃ => Q f s₃) X.xe s₂)
     | .error x => cameBackBy (model X.prog X.w) X.A X.env X.xe x s₂) s2)
  (hdb : (x == ("__debug__" : Str)) = false := by decide) :
  wpAny (model X.prog X.w) X.A (noteFrame e X.env) (fun _ s₂ => wpAny (model X.prog X.w) X.A (setFlight e none) (fun _ s₃ => wpAny (model X.prog X.w) X.A (handleBy e X.env [.ExceptHandler (some (.Name x np)) nm (b₀ :: suite) hpos]) Q X.xe s₃) X.xe s₂) X.xe s' := by
 obtain ⟨a, T, cls, H', rfl, os, bare, un, hok, fl, na, nT, ha, hT, hE⟩ := hcx
 obtain ⟨D, rfl, hD, hDC⟩ := hE1 _ _ _ hE
 have hpin : ∀ p, p ∈ X.pn ++ pins -> p.1 ≠ a := fun p hp z => by
  have q := (J0.pin p (List.mem_append_left _ hp)).1
  rw [z, na] at q
  cases q
 have I0 : Inv X pins σ H1 s1 := J0.un_re J0.ok.hd rfl (fun p hp => List.mem_append_left _ hp)
 have J : Inv X pins σ H' s' := I0.call' (ch := []) os un hok bare (fun b z => absurd z (by simp))
 have fr := J.stack
 have sub : ∀ b, b ∈ frs X.stack -> b ∈ a :: T :: frs X.stack := fun b z => .tail _ (.tail _ z)
 have hf2 : X.A.frames = some (X.env :: X.outer) := J.ok.frames.trans (by rw [hstk])
 have free : ∀ b, b ∈ a :: T :: frs X.stack -> H' b = none := fun b z => by
  rcases List.mem_cons.mp z with rfl | z
  ·exact ha
  ·rcases List.mem_cons.mp z with rfl | z
   ·exact hT
   ·exact J.stkFree b z
 have g0 : ∀ {b}, s1.heap.get? b = none -> X.s₀.heap.get? b = none := fun q => I0.gn hex q
 have out : ∀ b, b ∈ a :: T :: frs X.stack -> b ∈ frs X.stack \/ X.s₀.heap.get? b = none := fun b z => by
  rcases List.mem_cons.mp z with rfl | z
  ·exact .inr (g0 na)
  ·rcases List.mem_cons.mp z with rfl | z
   ·exact .inr (g0 nT)
   ·exact .inl z
 have out1 : ∀ b, b ∈ a :: T :: frs X.stack -> b ∈ frs X.stack \/ s1.heap.get? b = none := fun b z => by
  rcases List.mem_cons.mp z with rfl | z
  ·exact .inr na
  ·rcases List.mem_cons.mp z with rfl | z
   ·exact .inr nT
   ·exact .inl z
 have over : ∀ h2, Near (a :: T :: frs X.stack) (frs X.stack) s'.heap h2 -> Inv X pins σ H' { s' with heap := h2 } := fun h2 nr =>
  I0.call' (s' := { s' with heap := h2 }) (ch := []) os (un_near un nr out1 fun b z => .inl z) (hok_near hok nr free) bare (fun b z => absurd z (by simp))
 have fr' := fr
 rw [hstk] at fr'
 have efs : frs X.stack = frs (X.env :: X.outer) := by rw [hstk]
 refine note_fly hf2 fr' hfr (.inr fl) fun h4 T4 fl4 n4 nr4 => ?_
 rw [<- efs] at nr4
 have kn : ∀ {h2}, (∀ b o, h4.get? b = some o -> b ≠ T4 -> h2.get? b = some o) -> Near (a :: T :: frs X.stack) (frs X.stack) s'.heap h2 := fun kp => by
  have ne : ∀ b o, s'.heap.get? b = some o -> b ≠ T4 := fun b o q y => by
   rw [y, n4] at q
   cases q
  refine ⟨fun b o q z => kp b o (nr4.keep b o q z) (ne b o q), fun b o m q => ?_, nr4.sub⟩
  obtain ⟨sl, e⟩ := nr4.slot b o m q
  exact ⟨sl, kp b _ e (ne b o q)⟩
 refine flight_fly (s := { s' with heap := h4 }) fl4 fun h5 fw5 kp5 => ?_
 have J5 := over h5 (kn kp5)
 obtain ⟨oe5, _, _, _, q5, c5, _⟩ := id fw5
 have M5 : Inv { X with A := X.A.mark (some (.ref a)), calm := false, xe := fun _ _ => False, pn := X.pn } pins σ H' { s' with heap := h5 } := J5.re (fun z => nomatch z) rfl (fun _ z => z)
 refine wpAny_handleBy_cons (codeAny_handlers_test (ld_glob (X := { X with A := X.A.mark (some (.ref a)), calm := false, xe := fun _ _ => False, pn := X.pn }) M5 hg hm ?_ hdb)) (by intro q; cases q)
 refine exc_takes M5.kIn hC hD hDC q5 c5 ?_
 have nL : ∀ {b o}, s1.heap.get? b = some o -> b ≠ a := fun q z => by rw [z, na] at q; cases q
 refine go a D H' { s' with heap := h5 } rfl hE ha fw5.exc (g0 na) ?_ ?_ ?_ hpin ?_ J5 ?_
 ·cases q : X.base.get? a with
  | none => rfl
  | some o =>
   have := I0.bk a o q
   rw [na] at this
   cases this
 ·obtain ⟨m, ⟨o, _, _, q, _⟩, _⟩ := I0.loc
  exact nL q
 ·intro y c q
  obtain ⟨v, o, ho, _⟩ := I0.cell y c q
  exact nL ho
 ·intro b hb
  obtain ⟨_, o, ho, _⟩ := I0.funs.mem hb
  exact nL ho
 ·intro Q' E' hk
  refine flight_fly (s := { s' with heap := h5 }) fw5 fun h6 fw6 kp6 => hk _ (over h6 (kn fun b o q y => kp6 b o (kp5 b o q y) y)) fw6.exc
abbrev tryXe (X : Cx) (pins : List (Addr × Obj)) (D : Ends) (hs : List ExceptHandler) : Value -> Shared -> Prop := fun e s₁ =>
 wpAny (model X.prog X.w) X.A (noteFrame e X.env) (fun _ s₂ => wpAny (model X.prog X.w) X.A (setFlight e none) (fun _ s₃ => wpAny (model X.prog X.w) X.A (handleBy e X.env hs) (SP X pins D) X.xe s₃) X.xe s₂) X.xe s₁
def tTryAsH (K : PySem.W.Frag) (C : Addr) (i : Nat) (S : St -> Prop) (tb : XK -> TS) (th : Addr -> TS) : TS := fun D σ H =>
 tb (fun cls _ H' => ∃ D', cls = .ref D' /\ ExcC K D' /\ PySem.W.mroIn K D' (.ref C) = some true /\ ∀ σ' a, S σ' -> H' a = none ->
  th a { nx := fun σ2 H2 => D.nx (σ2.set i none) H2, rt := D.rt, bk := fun σ2 H2 => D.bk (σ2.set i none) H2, ct := fun σ2 H2 => D.ct (σ2.set i none) H2 } (σ'.set i (some (.ref a))) (upd H' a (isExc a D'))) D σ H
theorem ps_tryAsH {th : Addr -> TS} (hstk : X.stack = X.env :: X.outer) (hfr : X.env.frame = some X.env.locals) (hex : X.ex = []) (hcalm : X.calm = true) (hg : Gl X x) (hm : X.mg x = some (.ref C)) (hC : ExcC X.K C) (hN : X.N.Nodup) (hi : X.N[i]? = some n) (hl : X.env.scope.names.lookup n = some .local)
  (hb : ∀ (xe : Value -> Shared -> Prop) (pn : List (Addr × Obj)) (E1 : XK), PassesS (CXE X.prog X.w) { X with xe := xe, pn := pn } E1 S -> PSs { X with xe := xe, pn := pn } body (tb E1))
  (hth : ∀ (a : Addr), PSs { X with A := X.A.mark (some (.ref a)), calm := false, xe := fun _ _ => False, pn := X.pn } (b₀ :: suite) (th a)) (hdb : (x == ("__debug__" : Str)) = false := by decide) :
  PS X (.Try body [.ExceptHandler (some (.Name x np)) (some n) (b₀ :: suite) hpos] [] [] pos) (tTryAsH X.K C i S tb th) := by
 intro pins s σ H D I h
 refine wpAny_Try_except ?_
 have I1 : Inv { X with xe := tryXe X pins D [.ExceptHandler (some (.Name x np)) (some n) (b₀ :: suite) hpos], pn := X.pn ++ pins } [] σ H s :=
  I.re I.ok.hd rfl (fun p z => by simpa using z)
 refine wpAny_mono (hb (tryXe X pins D [.ExceptHandler (some (.Name x np)) (some n) (b₀ :: suite) hpos]) (X.pn ++ pins) _ ?pass [] s σ H D I1 h) (fun f s1 q => ?_) (fun e s1 q => q)
 case pass =>
  intro pins' σ' H1 s1 e s' hS J hcx
  refine land (pins := pins) hstk hfr hex hg hm hC hcalm (fun cls d H' ⟨D', z, a, b, _⟩ => ⟨D', z, a, b⟩) J hcx (fun a D' H' s2 _ hE ha ho g0 gb nL nC nP nF J5 hset => ?_) hdb
  obtain ⟨D2, z, _, _, k⟩ := hE
  cases z
  refine codeAny_handlers_suite_as (hset _ _ fun s3 J3 L3 => ?_)
  have J4 := J3.track (o := isExc a D') ha g0 gb nL nC nP nF (isExc_ok L3)
  refine store_ok J4 hN hi (.inl hl) (v := .ref a) rfl (fun s4 K4 => ?_) (.inr hl)
  have J6 : Inv { X with A := X.A.mark (some (.ref a)), calm := false, xe := fun _ _ => False, pn := X.pn } pins (σ'.set i (some (.ref a))) (upd H' a (isExc a D')) s4 := K4.re (fun z => nomatch z) rfl (fun _ z => z)
  refine wpAny_mono (hth a pins s4 _ _ _ J6 (k σ' a hS ha)) (fun f s5 q => ?_) (fun _ _ z => z.elim)
  have gone : ∀ {σ5 : St} {H5 : Hp}, Inv { X with A := X.A.mark (some (.ref a)), calm := false, xe := fun _ _ => False, pn := X.pn } pins σ5 H5 s5 -> ∀ {Q : Unit -> Shared -> Prop}, (∀ s6, Inv X pins (σ5.set i none) H5 s6 -> Q () s6) ->
    wpAny (model X.prog X.w) X.A (do bindName X.env n .none; unbindBehindTheSuite X.env n hpos) Q X.xe s5 := fun {σ5 H5} J7 Q hq => by
   have J8 : Inv X pins σ5 H5 s5 := J7.un_re J3.ok.hd rfl (fun _ z => z)
   obtain ⟨m, hn, hl0⟩ := id J8.loc
   exact wpAny_nameGoes_keeps hl hn (by rw [J8.ok.kind]; rfl) fun h' v hn' sb => hq _ (J8.gone hN hi hl hl0 hn' sb)
  cases f with
  | next => obtain ⟨σ5, H5, J7, q⟩ := q; exact gone J7 fun s6 J8 => ⟨_, H5, J8, q⟩
  | brk => obtain ⟨σ5, H5, J7, q⟩ := q; exact gone J7 fun s6 J8 => ⟨_, H5, J8, q⟩
  | cont => obtain ⟨σ5, H5, J7, q⟩ := q; exact gone J7 fun s6 J8 => ⟨_, H5, J8, q⟩
  | ret u => obtain ⟨v, σ5, H5, J7, r, q⟩ := q; exact gone J7 fun s6 J8 => ⟨v, _, H5, J8, r, q⟩
 have back : ∀ σ H, Inv { X with xe := tryXe X pins D [.ExceptHandler (some (.Name x np)) (some n) (b₀ :: suite) hpos], pn := X.pn ++ pins } [] σ H s1 -> Inv X pins σ H s1 :=
  fun σ H J => J.un_re J.ok.hd rfl (fun p z => by simpa using z)
 cases f with
 | next => exact wpAny_execs_nil (q.map back)
 | brk => exact q.map back
 | cont => exact q.map back
 | ret u => exact q.map back
end
section
variable {P : Program} {w : World} {K : PySem.W.Frag} {mg : Str -> Option Value} {base : Heap}
end
section
variable {X : Cx} {k : Nat} {f : Addr} {fd : FuncData} {ps : List Str} {sp : Sp} {x : Str} {p pos : Pos} {e : Expr} {es : List Expr} {t : TA}
end
end L2
namespace L2
open PySem PySem.Spec PyProof.Rows
section
variable {X : Cx} {tg : Expr}
def Its (x : Str) : It := ⟨fun i _ => i < x.cps.size, fun i H v H' => H' = H /\ ∃ c, x.cps[i]? = some c /\ v = .str ⟨#[c]⟩, fun i _ => i = x.cps.size⟩
theorem turn_str {P : Program} {w : World} {K : PySem.W.Frag} (it : Addr) (x : Str) (t : Tok) (T : String) (hn : ["enumerate", "zip", "dict_itemiterator", "dict_reverseitemiterator", "odict_iterator", "itertools.zip_longest", "itertools.pairwise"].contains T = false)
  (W : ∀ A : Around, A.handled = none -> Walks P w A it [it] [it] x.cps.size (SignAt x) (fun i h => h.IsStrIter it T x t i))
  (hself : ∀ (A : Around) (i : Nat) (s : Shared) (Q : Value -> Shared -> Prop) (E : Value -> Shared -> Prop), s.heap.IsStrIter it T x t i -> Q (.ref it) s -> wpAny (model P w) A (pyIter (.ref it)) Q E s) : Turn P w K tg (Its x) [it] it (fun i h => h.IsStrIter it T x t i) where
 mem := by simp
 obj := fun i h st b hb => by
  have e : b = it := by simpa using hb
  subst e
  obtain ⟨o, e, c, d⟩ := st
  exact ⟨o, e, fun v z => by rw [d] at z; cases z⟩
 keep := fun i h h' ⟨o, e, r⟩ k => ⟨o, k it (by simp) o e, r⟩
 item := by
  intro X hP hw hK hc i pins s σ H E I hf st hg
  subst hP hw hK
  obtain ⟨f0, f1, f2, f3, f4, f5⟩ := hf it (by simp)
  refine (W X.A (I.ok.hd hc)).item i s _ _ hg st fun v h' tk hv st' kk => ?_
  obtain ⟨c, u, hc', rfl⟩ := hv
  have I1 : Inv X pins σ H { s with heap := h', toks := tk } := I.turned (fun b o hb e => kk b o (by simpa using hb) e) f0 f1 f3 f4 f5
  obtain ⟨o, e, oc, od⟩ := id st'
  exact ⟨_, rfl, go_of (s := { s with heap := h', toks := tk }) e oc od hn ⟨.str ⟨#[c]⟩, H, I1, ⟨u, rfl⟩, ⟨rfl, c, hc', rfl⟩, st', fun b hb => (hf b hb).1⟩⟩
 done := by
  intro X hP hw hK hc i pins s σ H E I hf st hg
  subst hP hw hK
  obtain ⟨f0, f1, f2, f3, f4, f5⟩ := hf it (by simp)
  have z : i = x.cps.size := hg
  subst z
  exact (W X.A (I.ok.hd hc)).done s _ _ st fun h' tk kk => ⟨rfl, I.turned (fun b o hb e => kk b o (by simpa using hb) e) f0 f1 f3 f4 f5⟩
 self := hself
def iStr (tl : TE) : TI := fun σ H R => tl σ H fun v H1 => ∃ x, v = .str x /\ R (Its x) H1
theorem pi_str {l : Expr} {tl : TE} (hl : PE X l tl) : PI X tg l (iStr tl) := by
 intro pins s σ H R I h
 refine thn (hl pins s σ H _ I h) fun v s1 ⟨y, H1, I1, r1, q1⟩ => ?_
 obtain ⟨x, rfl, q⟩ := q1
 obtain ⟨t, rfl⟩ := r1
 have fp : ∀ b, b ∈ [s1.heap.objs.size] -> FpOk X pins H1 b := fun b hb => by
  have e : b = s1.heap.objs.size := by simpa using hb
  subst e
  exact I1.fpOk (Nat.le_refl _) (I1.hok.fresh (Nat.le_refl _))
 cases ha : x.cps.all (· < 128) with
 | true =>
  refine wpAny_pyIter_ascii ha ?_
  refine ⟨s1.heap.objs.size, [s1.heap.objs.size], _, _, H1, rfl, I1.kept (t' := s1.toks) fun b o e => Heap.get?_push_of_some _ e, turn_str _ x t "str_ascii_iterator" (by decide) (fun A hA => Walks.strAscii hA _ x t) (fun _ _ _ _ _ st h => wpAny_pyIter_striter_ascii st h), ⟨_, Heap.get?_push_size _ rfl, rfl, rfl⟩, fp, q⟩
 | false =>
  refine wpAny_pyIter_wide ha ?_
  refine ⟨s1.heap.objs.size, [s1.heap.objs.size], _, _, H1, rfl, I1.kept (t' := s1.toks) fun b o e => Heap.get?_push_of_some _ e, turn_str _ x t "str_iterator" (by decide) (fun A hA => Walks.strWide hA _ x t) (fun _ _ _ _ _ st h => wpAny_pyIter_striter_wide st h), ⟨_, Heap.get?_push_size _ rfl, rfl, rfl⟩, fp, q⟩
theorem for_str {x : Str} {g : TG} {tb : TS} {D : Ends} {σ : St} {H : Hp} (Pv : Nat -> St -> Hp -> Prop) (h0 : Pv 0 σ H)
  (hs : ∀ i c σ H, x.cps[i]? = some c -> Pv i σ H -> g (.str ⟨#[c]⟩) σ H fun σ2 H2 => tb { D with nx := Pv (i + 1), ct := Pv (i + 1), bk := D.nx } σ2 H2) (hd : ∀ σ H, Pv x.cps.size σ H -> D.nx σ H) :
  ∃ W : Nat -> Nat -> St -> Hp -> Prop, (∃ m, W 0 m σ H) /\ ∀ i m σ H, W i m σ H ->
   ((Its x).stop i H /\ D.nx σ H) \/ ((Its x).go i H /\ ∃ N : St -> Hp -> Prop, (∀ σ' H', N σ' H' -> ∃ m', m' < m /\ W (i + 1) m' σ' H') /\ ∀ v H', (Its x).yld i H v H' -> g v σ H' fun σ2 H2 => tb { D with nx := N, ct := N, bk := D.nx } σ2 H2) := by
 refine ⟨fun i m σ H => m = x.cps.size - i /\ i <= x.cps.size /\ Pv i σ H, ⟨x.cps.size, by simp, Nat.zero_le _, h0⟩, ?_⟩
 rintro i m σ H ⟨rfl, hi, p⟩
 by_cases hlt : i < x.cps.size
 ·refine .inr ⟨hlt, Pv (i + 1), fun σ' H' p' => ⟨x.cps.size - (i + 1), by lia, rfl, hlt, p'⟩, fun v H' y => ?_⟩
  obtain ⟨e, c, hc, rfl⟩ := y
  subst e
  exact hs i c σ _ hc p
 ·have e : i = x.cps.size := by lia
  subst e
  exact .inl ⟨rfl, hd σ H p⟩
theorem call_int_text : CallR X (.type "int") (fun xs H Q => ∃ x n, xs = [.str x] /\ PySem.intText? x = some n /\ x.length <= 640 /\ Q (.int n) H) := by
 intro pins s σ H xs us Q I r h
 obtain ⟨x, n, rfl, hn, hl, q⟩ := h
 cases r with
 | cons r1 r2 =>
  cases r2
  obtain ⟨t, rfl⟩ := r1
  exact PySem.W.KIN.call_text hn hl ⟨.int n, H, I.tok _, ⟨_, rfl⟩, q⟩
theorem call_all (hc : X.calm = true) : CallR X (.builtin "all") (fun xs H Q => ∃ (p : Addr) (bs : List Bool), xs = [.ref p] /\ SqL X.K H p (bs.map V.bl) /\ Q (.bl (bs.all id)) H) := by
 intro pins s σ H xs us Q I r h
 obtain ⟨p, bs, rfl, hq, q⟩ := h
 cases r with
 | cons r1 r2 =>
  cases r2
  cases (show _ = Value.ref p from r1)
  obtain ⟨its, rv, pl, hz⟩ := I.list hq
  have hne : p ≠ s.heap.objs.size := Nat.ne_of_lt (by obtain ⟨o, n, e, _⟩ := pl; exact Heap.lt_size e)
  refine call_all_walk (wpAny_pyIter_list pl.isList ?_)
  have vals : ∀ (i : Nat) v, its[i]? = some v -> ∃ b, bs[i]? = some b /\ v = .bool b := fun i v e => by
   cases eb : bs[i]? with
   | none =>
    have : its[i]? = none := rv.none_of (by rw [List.getElem?_map, eb]; rfl)
    rw [e] at this
    cases this
   | some b =>
    obtain ⟨u, hu, ru⟩ := rv.get (i := i) (x := V.bl b) (by rw [List.getElem?_map, eb]; rfl)
    rw [e] at hu
    cases hu
    exact ⟨b, rfl, ru⟩
  refine ⟨s.heap.objs.size, _, _, _, _, _, fun i => bs.getD i true, rfl, Walks.list (A := X.A.in1) (I.ok.hd hc) s.heap.objs.size p hne its.toArray, ⟨⟨_, Heap.get?_push_size _ rfl, rfl, rfl⟩, ?_⟩, ?_, ?_⟩
  ·exact pl.isList.at fun o e => Heap.get?_push_of_some _ e
  ·intro i v s2 Q2 E2 hP hQ
   obtain ⟨b, eb, rfl⟩ := vals i v (by simpa using hP)
   have e2 : bs.getD i true = b := by rw [List.getD_eq_getElem?_getD, eb]; rfl
   have hQ : Q2 (bs.getD i true) s2 := hQ
   rw [e2] at hQ
   exact wpAny_truthy_bool hQ
  ·intro h' tk kk
   have I2 : Inv X pins σ H { s with heap := h', toks := tk } := I.kept fun b o e => kk b o (by intro z; exact Nat.ne_of_lt (Heap.lt_size e) (by simpa using z)) (Heap.get?_push_of_some _ e)
   have len : its.toArray.size = bs.length := by rw [List.size_toArray, <- rv.length, List.length_map]
   have e3 : (List.range its.toArray.size).all (fun i => bs.getD i true) = bs.all id := by
    rw [len, Bool.eq_iff_iff, List.all_eq_true, List.all_eq_true]
    constructor
    ·intro z b hb
     obtain ⟨i, hi, e⟩ := List.mem_iff_getElem.mp hb
     have := z i (List.mem_range.mpr hi)
     rw [List.getD_eq_getElem?_getD, List.getElem?_eq_getElem hi, e] at this
     exact this
    ·intro z i hi
     have hi' := List.mem_range.mp hi
     rw [List.getD_eq_getElem?_getD, List.getElem?_eq_getElem hi']
     exact z _ (List.getElem_mem hi')
   rw [e3]
   exact ⟨.bl _, H, I2, rfl, q⟩
end
end L2
namespace L2
open PySem PySem.Spec PyProof.Rows
section
variable {X : Cx} {iter : Expr} {ti : TE} {x G : Str} {px px1 px2 cpos pos : Pos} {scope : Scope} {g : Str}
end
structure ExcF (K : PySem.W.Frag) (D : Addr) : Prop where
 hd : PySem.W.hasDictIn K D = true
 ga : PySem.W.findIn K (.ref D) "__getattribute__" = some (some (.builtin "BaseException.__getattribute__"))
 gt : PySem.W.findIn K (.ref D) "__getattr__" = some none
 cl : PySem.W.findIn K (.ref D) "__class__" = some (some (.builtin "object.__class__"))
 sp : PySem.W.specialIn K (.builtin "object.__class__") "__get__" = some (some (.builtin "getset_descriptor.__get__"))
 tk : PySem.W.takesIn K (.builtin "object.__class__") = some true
 mo : PySem.W.mroIn K D (.type "object") = some true
 mb : PySem.W.mroIn K D (.type "BaseException") = some true
section
variable {K : PySem.W.Frag} {prog : Program} {w : World} {A : Around} {E : Value -> Shared -> Prop} {s : Shared} {a D : Addr} {o : Obj}
open PySem.W Builtin Builtin.ObjectAttr Builtin.Getset_descriptor
theorem exc_find {M : Model} {h : Heap} (X : K.In h) (f : ExcF K D) : Looks M h (find (.ref a) (.ref D) "__class__") (.bind (.builtin "getset_descriptor.__get__") (.builtin "object.__class__")) :=
 (looks_findIn X f.cl).andThen ((looks_specialIn X f.sp).andThen ((show Looks M h (dataDescriptor? (some (.builtin "object.__class__")) (some (.builtin "getset_descriptor.__get__"))) (some (.builtin "getset_descriptor.__get__", .builtin "object.__class__")) from (looks_takesIn X f.tk).andThen .now).andThen (Looks.tag .now)))
theorem exc_get {R : Result -> Shared -> Prop} {tp : Value} (X : K.In s.heap) (f : ExcF K D) (he : s.heap.get? a = some o) (hc : o.cls = .ref D) (hq : R (.ok (.ret (.ref D))) s) :
  codeAny (model prog w) A (.call (.builtin "getset_descriptor.__get__") ⟨[.builtin "object.__class__", .ref a, tp], []⟩) R s := by
 obtain ⟨h, g, d, t, os⟩ := s
 have L0 : Looks (model prog w) h (typeOf (.ref a)) (.ref D) := hc ▸ (Looks.ld he).andThen .now
 have L1 := looks_mroIn (M := model prog w) X f.mo
 refine codeAny_call_builtin KF.slot_gs.plain KF.entry_gs (KF.slot_gs.check _ _ _ _ _ _ _ _ KF.type_class (KF.args_gs _ _ _) ?_)
 unfold Builtin.«getset_descriptor.__get__» descrGet
 rw [dga_obj]
 refine wpAny_bind (wpAny_pure ?_)
 unfold descrGetter descrCheckInstance descrNameAndClass isInstance
 simp only [KF.owner_class]
 repeat lk
 refine ⟨Code.quiet_builtin _ (by decide +kernel), codeAny_builtin KF.entry_class ?_⟩
 unfold Builtin.«object.__class__» shownTypeOf
 repeat lk
 exact hq
theorem exc_class {Q : Option Value -> Shared -> Prop} (X : K.In s.heap) (f : ExcF K D) (he : s.heap.get? a = some o) (hc : o.cls = .ref D) (hq : Q (some (.ref D)) { s with toks := s.toks + 1 }) :
  wpAny (model prog w) A (getAttr? (.ref a) "__class__") Q E s := by
 obtain ⟨h, g, d, t, os⟩ := s
 have L0 : Looks (model prog w) h (typeOf (.ref a)) (.ref D) := hc ▸ (Looks.ld he).andThen .now
 have L1 := looks_findIn (M := model prog w) X f.ga
 have L2 := looks_findIn (M := model prog w) X f.gt
 have L3 := exc_find (M := model prog w) (a := a) X f
 have L4 : Looks (model prog w) h (isInstance (.ref a) (.type "BaseException")) true := L0.andThen (looks_mroIn X f.mb)
 unfold getAttr? getAttrBy? getAttrBy
 refine wpAny_bind (wpAny_mkText (wpAny_bind (wpAny_attempt (wpAny_holding (wpAny_bind (L0.at (wpAny_bind (L1.at ?_))))))))
 dsimp only
 have n0 : (Value.builtin "BaseException.__getattribute__" == Value.builtin "object.__getattribute__") = false := by decide +kernel
 rw [if_neg (by rw [n0, Bool.and_false]; exact Bool.false_ne_true)]
 unfold getAttrByItsOwn hookBefore
 rw [if_pos (by rfl)]
 refine wpAny_bind (L2.at ?_)
 refine wpAny_bind (wpAny_attempt (wpAny_holding ?_))
 unfold callGetattribute
 rw [if_neg (by decide)]
 unfold boundAndCalled
 refine wpAny_bind (wpAny_of_eq (PySem.F.excAttr_ValueError.ga.bind (.ref a)) ?_)
 dsimp only
 refine wpAny_call (codeAny_call_builtin PySem.F.excAttr_ValueError.ga.plain PySem.F.entry_bexc_ga ?_)
 have hk : builtinKind "BaseException.__getattribute__" = some .slot := by decide +kernel
 have hsp : splitId "BaseException.__getattribute__" = some ("BaseException", "__getattribute__") := by decide +kernel
 have har := PySem.F.args_bexc_ga (.ref a) (.str "__class__" t)
 simp only [checkBuiltinCall, hk, hsp]
 refine wpAny_bind (L4.at ?_)
 rw [if_neg (by decide)]
 refine wpAny_of_eq (a := ()) har ?_
 unfold Builtin.«object.__getattribute__»
 dsimp only at L3
 repeat ((fail_if_success (with_reducible show wpAny _ _ (call _ _) _ _ _)); lk)
 refine wpAny_call (exc_get (s := ⟨h, g, d, t + 1, os⟩) X f he hc ?_)
 dsimp only
 repeat lk
 exact hq
end
end L2
namespace L2
open PySem PySem.Spec PyProof.Rows
inductive TyX (K : PySem.W.Frag) (H : Hp) : V -> Value -> Prop where
 | of {x : V} {t : Value} (h : TyOf K H x t) : TyX K H x t
 | exc {a D : Addr} (e : H a = some (isExc a D)) (f : ExcF K D) : TyX K H (.ref a) (.ref D)
theorem kitx_exc {K : PySem.W.Frag} {a D : Addr} (f : ExcF K D) : PySem.W.KitX K (.ref a) (.ref D) (fun h => ∃ o, h.get? a = some o /\ o.cls = .ref D /\ PySem.W.notCls o = true) where
 ty := fun M h X ⟨o, e, c, _⟩ => c ▸ (PySem.W.Looks.ld e).andThen .now
 it := fun M h X _ => by
  obtain ⟨cd, hc, _⟩ := PySem.W.any_some f.hd
  unfold PySem.W.clsIn at hc
  split at hc
  ·rename_i c' d' cd' sl' ho
   intro A' Q' E' s' k q
   unfold isType loadHead
   exact wpAny_bind (wpAny_loadPart (k _ _ (X _ _ ho)) (wpAny_pure q))
  ·cases hc
 ne := fun h tp dd its n sl X htp => by
  obtain ⟨cd, hc, _⟩ := PySem.W.any_some f.hd
  refine Bool.eq_false_iff.mpr fun q => ?_
  have e : D = tp := Value.ref.inj (beq_iff_eq.mp q)
  subst e
  unfold PySem.W.clsIn at hc
  split at hc
  ·rename_i c' d' cd' sl' ho
   have z := (X _ _ ho).symm.trans htp
   cases z
  ·cases hc
 ca := fun X ⟨o, e, c, _⟩ k => exc_class X f e c k
def clsV : V -> Option Value
 | .ty n => some (.type n)
 | .ref C => some (.ref C)
 | _ => none
theorem call_isi {X : Cx} : CallR X (.builtin "isinstance") (fun xs H Q => ∃ x c cv t b, xs = [x, c] /\ clsV c = some cv /\ TyX X.K H x t /\ PySem.W.kitOne X.K t cv = some b /\ Q (.bl b) H) := by
 intro pins s σ H xs us Q I r h
 obtain ⟨x, c, cv, t, b, rfl, hc, ty, hk, q⟩ := h
 cases r with
 | @cons _ u _ _ rx rr =>
  cases rr with
  | @cons _ v _ _ rc rn =>
   cases rn
   have ev : v = cv := by
    cases c with
    | ty n => cases hc; exact rc
    | ref C => cases hc; exact rc
    | _ => cases hc
   subst ev
   cases ty with
   | of ty => exact isinst_ok I rx ty hk fun tk => ⟨.bl b, H, I.tok tk, rfl, q⟩
   | @exc a D e f =>
    cases (show u = Value.ref a from rx)
    obtain ⟨p, _, _⟩ := (show ObjOk X.prog X.w H s.heap a (isExc a D) from I.hok a _ e)
    exact PySem.W.kia_one (kitx_exc f) I.kIn (ExcAt.not p) hk (fun z => nomatch z) fun tk => ⟨.bl b, H, I.tok tk, rfl, q⟩
def rIsi (K : PySem.W.Frag) : List V -> Hp -> VK -> Prop := fun xs H Q => ∃ x c cv t b, xs = [x, c] /\ clsV c = some cv /\ TyX K H x t /\ PySem.W.kitOne K t cv = some b /\ Q (.bl b) H
theorem call_isiK {X : Cx} (K : PySem.W.Frag) (h : X.K = K) : CallR X (.builtin "isinstance") (rIsi K) := by
 subst h
 exact call_isi
section
variable {X : Cx} {c : Expr} {a b : List Stmt} {tc : TT} {t u : TS} {pos : Pos}
end
end L2
namespace L2
open PySem PySem.Spec PyProof.Rows
def clStep (env : Env) (a : List (Str × Addr)) (x : Str × NameKind) : List (Str × Addr) := if (x.2 == NameKind.free) = true then (x.1, (env.cells.lookup x.1).getD 0) :: a else a
def clOf (env : Env) (l : List (Str × NameKind)) : List (Str × Addr) := l.foldl (clStep env) []
theorem forIn_fold {α β : Type} {l : List α} {f : α -> β -> Sem (ForInStep β)} {g : β -> α -> β} (h : ∀ x ∈ l, ∀ b, f x b = pure (.yield (g b x))) : ∀ b, forIn l b f = pure (l.foldl g b) := by
 induction l with
 | nil => intro b; rfl
 | cons x l ih =>
  intro b
  rw [List.forIn_cons, h x List.mem_cons_self, pure_bind]
  exact ih (fun y hy => h y (List.mem_cons_of_mem _ hy)) _
theorem closure_of {scope : Scope} {env : Env} (h : ∀ y ∈ scope.names, y.2 = .free -> ∃ c, env.cells.lookup y.1 = some c) : closureFor scope env = pure (clOf env scope.names) := by
 simp only [closureFor]
 rw [forIn_fold (g := clStep env) (fun x hx c => by
  obtain ⟨n, k⟩ := x
  by_cases hk : k = .free
  ·subst hk
   obtain ⟨a, ha⟩ := h _ hx rfl
   have e : cellOf env n = pure a := by unfold cellOf; rw [show env.cells.lookup n = some a from ha]
   simp only [clStep, beq_self_eq_true, if_true, e, show env.cells.lookup n = some a from ha, Option.getD_some]
   rfl
  ·have hb : (k == NameKind.free) = false := by simpa using hk
   simp only [clStep, hb, Bool.false_eq_true, if_false])]
 rfl
theorem cl_lookup (env : Env) {y : Str} {c : Addr} : ∀ (l : List (Str × NameKind)) (a : List (Str × Addr)), (l.foldl (clStep env) a).lookup y = some c -> a.lookup y = some c \/ ((y, NameKind.free) ∈ l /\ c = (env.cells.lookup y).getD 0)
 | [], a, h => .inl h
 | (n, k) :: r, a, h => by
  rw [List.foldl_cons] at h
  rcases cl_lookup env r _ h with z | ⟨z, e⟩
  ·unfold clStep at z
   split at z
   ·rename_i hk
    have hk' : k = .free := by simpa using hk
    rw [List.lookup_cons] at z
    split at z
    ·rename_i hy
     have hy' : y = n := by simpa using hy
     subst hy' hk'
     exact .inr ⟨List.mem_cons_self, (Option.some.inj z).symm⟩
    ·exact .inl z
   ·exact .inl z
  ·exact .inr ⟨List.mem_cons_of_mem _ z, e⟩
theorem cl_stays (env : Env) {y : Str} : ∀ (l : List (Str × NameKind)) (a : List (Str × Addr)), (∃ c, a.lookup y = some c) -> ∃ c, (l.foldl (clStep env) a).lookup y = some c
 | [], _, h => h
 | (n, k) :: r, a, h => by
  rw [List.foldl_cons]
  refine cl_stays env r _ ?_
  unfold clStep
  split
  ·rw [List.lookup_cons]
   split
   ·exact ⟨_, rfl⟩
   ·exact h
  ·exact h
theorem cl_has (env : Env) {y : Str} : ∀ (l : List (Str × NameKind)) (a : List (Str × Addr)), (y, NameKind.free) ∈ l -> ∃ c, (l.foldl (clStep env) a).lookup y = some c
 | [], _, h => by simp at h
 | (n, k) :: r, a, h => by
  rw [List.foldl_cons]
  rcases List.mem_cons.mp h with e | h
  ·cases e
   refine cl_stays env r _ ⟨(env.cells.lookup y).getD 0, ?_⟩
   unfold clStep
   simp only [beq_self_eq_true, if_true, List.lookup_cons]
  ·exact cl_has env r _ h
theorem relabel_of {env : Env} {y : Str} : ∀ {names : List (Str × NameKind)}, (∀ z ∈ names, z.2 ≠ .cell) ->
  ((names.map fun (n, k) => if (k == NameKind.free && env.scope.kind == .function && env.kindOf n == some .cell) then (n, NameKind.cell) else (n, k)).lookup y = some .cell \/
   (names.map fun (n, k) => if (k == NameKind.free && env.scope.kind == .function && env.kindOf n == some .cell) then (n, NameKind.cell) else (n, k)).lookup y = some .free) -> (y, NameKind.free) ∈ names
 | [], _, h => by simp at h
 | (n, k) :: r, hc, h => by
  have ih := @relabel_of env y r (fun z hz => hc z (List.mem_cons_of_mem _ hz))
  have h' : List.lookup y ((if (k == NameKind.free && env.scope.kind == .function && env.kindOf n == some .cell) = true then (n, NameKind.cell) else (n, k)) :: (r.map fun (n, k) => if (k == NameKind.free && env.scope.kind == .function && env.kindOf n == some .cell) then (n, NameKind.cell) else (n, k))) = some .cell \/
   List.lookup y ((if (k == NameKind.free && env.scope.kind == .function && env.kindOf n == some .cell) = true then (n, NameKind.cell) else (n, k)) :: (r.map fun (n, k) => if (k == NameKind.free && env.scope.kind == .function && env.kindOf n == some .cell) then (n, NameKind.cell) else (n, k))) = some .free := h
  clear h
  by_cases hb : (k == NameKind.free && env.scope.kind == .function && env.kindOf n == some .cell) = true
  ·rw [if_pos hb] at h'
   have hk : k = .free := by
    simp only [Bool.and_eq_true, beq_iff_eq] at hb
    exact hb.1.1
   simp only [List.lookup_cons] at h'
   cases hy : y == n with
   | true =>
    have : y = n := by simpa using hy
    subst this hk
    exact List.mem_cons_self
   | false =>
    rw [hy] at h'
    exact List.mem_cons_of_mem _ (ih h')
  ·rw [if_neg hb] at h'
   simp only [List.lookup_cons] at h'
   cases hy : y == n with
   | true =>
    rw [hy] at h'
    have : y = n := by simpa using hy
    subst this
    rcases h' with z | z
    ·exact absurd (Option.some.inj z) (hc (y, k) List.mem_cons_self)
    ·cases Option.some.inj z
     exact List.mem_cons_self
   | false =>
    rw [hy] at h'
    exact List.mem_cons_of_mem _ (ih h')
theorem relabel_free {env : Env} {y : Str} : ∀ {names : List (Str × NameKind)}, names.lookup y = some .free ->
  ((names.map fun (n, k) => if (k == NameKind.free && env.scope.kind == .function && env.kindOf n == some .cell) then (n, NameKind.cell) else (n, k)).lookup y = some .cell \/
   (names.map fun (n, k) => if (k == NameKind.free && env.scope.kind == .function && env.kindOf n == some .cell) then (n, NameKind.cell) else (n, k)).lookup y = some .free)
 | [], h => by simp at h
 | (n, k) :: r, h => by
  have ih := @relabel_free env y r
  show List.lookup y ((if (k == NameKind.free && env.scope.kind == .function && env.kindOf n == some .cell) = true then (n, NameKind.cell) else (n, k)) :: (r.map fun (n, k) => if (k == NameKind.free && env.scope.kind == .function && env.kindOf n == some .cell) then (n, NameKind.cell) else (n, k))) = some .cell \/
   List.lookup y ((if (k == NameKind.free && env.scope.kind == .function && env.kindOf n == some .cell) = true then (n, NameKind.cell) else (n, k)) :: (r.map fun (n, k) => if (k == NameKind.free && env.scope.kind == .function && env.kindOf n == some .cell) then (n, NameKind.cell) else (n, k))) = some .free
  rw [List.lookup_cons] at h
  by_cases hb : (k == NameKind.free && env.scope.kind == .function && env.kindOf n == some .cell) = true
  ·rw [if_pos hb]
   simp only [List.lookup_cons]
   cases hy : y == n with
   | true => exact .inl rfl
   | false => rw [hy] at h; exact ih h
  ·rw [if_neg hb]
   simp only [List.lookup_cons]
   cases hy : y == n with
   | true => rw [hy] at h; exact .inr h
   | false => rw [hy] at h; exact ih h
section
variable {prog : Program} {w : World} {A : Around} {R : Result -> Shared -> Prop} {s : Shared}
abbrev testsOf (ifs : List Expr) (env : Env) : Sem Bool := forIn ifs true fun c r => if r = true then do let ok <- isTrue c env (eval c env); pure (ForInStep.yield ok) else pure (ForInStep.yield r)
theorem compLoop_go {elt target iter : Expr} {ifs : List Expr} {scope : Scope} {pos : Pos} {it acc : Value} {env : Env} (I : Nat -> Shared -> Prop)
  (turn : ∀ n s, I n s -> wpAny (model prog w) A (pyNext it) (fun r s₁ => match r with
   | none => R (.ok .next) s₁
   | some v => wpAny (model prog w) A (letOwnedTupleGo target it v) (fun _ s₀ => wpAny (model prog w) A (assign target env v) (fun _ s₂ =>
     wpAny (model prog w) A (testsOf ifs env) (fun ok s₃ =>
      if ok = true then wpAny (model prog w) A (eval elt env) (fun x s₄ =>
       wpAny (model prog w) A (call (.builtin "list.append") [acc, x]) (fun _ s₅ => ∃ m, m < n /\ I m s₅) (fun _ _ => False) s₄) (fun _ _ => False) s₃
      else ∃ m, m < n /\ I m s₃) (fun _ _ => False) s₂) (fun _ _ => False) s₀) (fun _ _ => False) s₁) (fun _ _ => False) s)
  (n : Nat) (h : I n s) : codeAny (model prog w) A (.compLoop (.ListComp elt [⟨target, iter, ifs, 0⟩] scope pos) 0 it acc env) R s := by
 refine codeAny_loop rfl I (fun n s hI => ?_) n h
 show wpAny _ A ((compTurn (.ListComp elt [⟨target, iter, ifs, 0⟩] scope pos) 0 it acc env).onRaise (fun x => do noteFrame x env; theTreesLotGoes x)) _ _ s
 refine wpAny_noted ?_
 rw [compTurn_list]
 refine wpAny_bind (wpAny_standAt (wpAny_bind (wpAny_mono (turn n s hI) (fun r s₁ h₁ => ?_) fun _ _ h' => h'.elim)))
 cases r with
 | none => exact wpAny_pure h₁
 | some v =>
  refine wpAny_bind (wpAny_mono h₁ (fun _ s₀ h₀ => ?_) fun _ _ h' => h'.elim)
  refine wpAny_bind (wpAny_mono h₀ (fun _ s₂ h₂ => wpAny_bind (wpAny_mono h₂ (fun ok s₃ h₃ => ?_) fun _ _ h' => h'.elim)) fun _ _ h' => h'.elim)
  cases ok with
  | false => exact wpAny_pure ⟨rfl, h₃⟩
  | true =>
   exact wpAny_bind (wpAny_bind (wpAny_mono h₃ (fun x s₄ h₄ => wpAny_bind (wpAny_mono h₄ (fun _ s₅ h₅ => wpAny_pure (wpAny_pure ⟨rfl, h₅⟩)) fun _ _ h' => h'.elim)) fun _ _ h' => h'.elim))
end
def caps (cs : List Nat) (σ : St) : St := cs.map fun j => (σ[j]?).getD none
def cxC (X : Cx) (scope : Scope) (N : List Str) (s : Shared) (H : Hp) (ex : List Addr) : Cx :=
 { X with N := N, s₀ := s, H₀ := H, env := compEnvC scope (clOf X.env scope.names) s.heap.objs.size X.env, outer := X.stack, stack := X.stack, ex := ex, fn := fun _ => false, pn := [], xe := fun _ _ => False }
def PTs (X : Cx) (ifs : List Expr) (t : TT) : Prop :=
 ∀ (pins : List (Addr × Obj)) (s : Shared) (σ : St) (H : Hp) (Q : Bool -> Hp -> Prop), Inv X pins σ H s -> t σ H Q -> wpAny (model X.prog X.w) X.A (testsOf ifs X.env) (TP X pins σ Q) X.xe s
def tYes : TT := fun _ H Q => Q true H
theorem pts_nil {X : Cx} : PTs X [] tYes := fun _ _ _ H _ I h => wpAny_tests_nil ⟨H, I, h⟩
structure CScope (X : Cx) (scope : Scope) (N : List Str) (k : Nat) (cs : List Nat) : Prop where
 cell : ∀ y ∈ scope.names, y.2 ≠ .cell
 kind : scope.kind = .function
 names : ∀ y ∈ scope.names, y.2 = .local -> scope.names.lookup y.1 = some .local
 free : ∀ y ∈ scope.names, y.2 = .free -> X.env.scope.names.lookup y.1 = some .cell \/ X.env.scope.names.lookup y.1 = some .free
 len : N.length = k + cs.length
 cap : ∀ j, j < cs.length -> ∃ x, N[k + j]? = some x /\ X.N[cs.getD j 0]? = some x /\ scope.names.lookup x = some .free
def tBlock (k : Nat) (cs : List Nat) (g : TG) (tc : TT) (te : TE) (J : It) (σ : St) (H1 : Hp) (fin : List V -> Hp -> Prop) : Prop :=
 ∃ W : Nat -> Nat -> List V -> Hp -> Prop, (∃ m, W 0 m [] H1) /\ ∀ i m acc H, W i m acc H ->
  (J.stop i H /\ fin acc H) \/ (J.go i H /\ ∃ Nx : List V -> Hp -> Prop, (∀ acc' H', Nx acc' H' -> ∃ m', m' < m /\ W (i + 1) m' acc' H') /\ ∀ x H', J.yld i H x H' -> g x (List.replicate k none ++ caps cs σ) H' fun σ2 H2 => (∃ ts : St, ts.length = k /\ σ2 = ts ++ caps cs σ) /\ acc.length < sizeLine /\
   tc σ2 H2 fun b H3 => if b = true then te σ2 H3 fun v H4 => Nx (acc ++ [v]) H4 else Nx acc H3)
def tComp (k : Nat) (cs : List Nat) (wi : TI) (g : TG) (tc : TT) (te : TE) : TE := fun σ H Q => wi σ H fun J H1 => tBlock k cs g tc te J σ H1 fun acc H2 => ∀ p, H2 p = none -> Q (.ref p) (upd H2 p (.lst acc))
section
variable {X : Cx} {tg iter elt : Expr} {ifs : List Expr} {scope : Scope} {pos : Pos} {wi : TI} {g : TG} {tc : TT} {te : TE} {N : List Str} {k : Nat} {cs : List Nat}
theorem Inv.block {pins : List (Addr × Obj)} {σ : St} {H : Hp} {s s' : Shared} {ex : List Addr} (S : CScope X scope N k cs) (I : Inv X pins σ H s)
  (hex : ∀ b ∈ ex, FpOk X pins H b /\ ∃ o, s.heap.get? b = some o) (hos : s'.os = s.os) (hg : AllBare s'.gens) (hk : ∀ b o, s.heap.get? b = some o -> s'.heap.get? b = some o) (hn : ∃ m, s'.heap.Ns s.heap.objs.size m) :
  Inv (cxC X scope N s H ex) [] (List.replicate k none ++ caps cs σ) H s' := by
 have lk : ∀ {x c}, (clOf X.env scope.names).lookup x = some c -> X.env.cells.lookup x = some c := fun {x c} h => by
  rcases cl_lookup X.env _ _ h with z | ⟨z, e⟩
  ·simp at z
  ·obtain ⟨a, ha⟩ := I.ok.has x (S.free _ z rfl)
   rw [e, ha]; rfl
 have nex : ∀ b, b ∈ ex -> b ≠ s.heap.objs.size := fun b hb z => by
  obtain ⟨_, o, ho⟩ := hex b hb
  exact absurd (Heap.lt_size ho) (by rw [z]; exact Nat.lt_irrefl _)
 refine ⟨⟨I.ok.mod, S.kind, I.ok.glob, I.ok.blt, Nat.le_refl _, fun x y c h1 h2 => I.ok.inj x y c (lk h1) (lk h2), fun x hx => ?_, fun x c h _ => (nomatch h), I.ok.hd, I.ok.frames, .inl rfl, fun b hb => ⟨nex b hb, fun x c h => ?_⟩, I.bs, ?_, fun b o e hb => ?_, fun b hb hf => ?_, I.stack, I.stkFree⟩,
  hos, hg, Un.kept hk, ?_, fun x c h => ?_, I.hok.fresh (Nat.le_refl _), fun x c h => I.freeC x c (lk h), fun p hp => absurd (show p ∈ ([] : List (Addr × Obj)) from hp) (by simp), I.hok.kept hk, ?_⟩
 ·exact cl_has X.env _ _ (relabel_of S.cell hx)
 ·exact (hex b hb).1.2.2.2.2.1 x c (lk h)
 ·exact Nat.le_trans I.ok.bsz I.sz
 ·rcases (hex b hb).1.2.2.2.1 with z | z
  ·exact I.ok.noex b o e z
  ·exact absurd (Nat.lt_of_lt_of_le (Heap.lt_size e) (Nat.le_trans I.ok.bsz z)) (Nat.lt_irrefl _)
 ·rcases List.mem_cons.mp (I.stkSub b hf) with z | z
  ·exact (hex b hb).1.2.1 z
  ·exact (hex b hb).1.2.2.1 z
 ·obtain ⟨m, hm⟩ := hn
  obtain ⟨mo, hmo, hlo⟩ := I.loc
  refine ⟨m, hm, fun i x v h1 h2 h3 => ?_⟩
  have hi : k <= i := by
   by_cases z : i < k
   ·rw [List.getElem?_append_left (by simpa using z), List.getElem?_replicate, if_pos z] at h2
    cases h2
   ·lia
  obtain ⟨j, rfl⟩ : ∃ j, i = k + j := ⟨i - k, by lia⟩
  rw [List.getElem?_append_right (by simp), List.length_replicate, Nat.add_sub_cancel_left] at h2
  unfold caps at h2
  rw [List.getElem?_map] at h2
  have hj : j < cs.length := by
   by_cases z : j < cs.length
   ·exact z
   ·rw [List.getElem?_eq_none (by lia)] at h2
    cases h2
  obtain ⟨x', e1, e2, e3⟩ := S.cap j hj
  rw [show N[k + j]? = some x from h1] at e1
  cases e1
  rw [List.getElem?_eq_getElem hj] at h2
  have h2' : (σ[cs[j]]?).getD none = some v := Option.some.inj h2
  rw [List.getD_eq_getElem?_getD, List.getElem?_eq_getElem hj] at e2
  have h4 : σ[cs[j]]? = some (some v) := by
   cases q : σ[cs[j]]? with
   | none => rw [q] at h2'; cases h2'
   | some w => rw [q] at h2'; rw [show w = some v from h2']
  have kO := S.free (x, .free) (PySem.mem_of_lookup e3) rfl
  obtain ⟨u, ru, l⟩ := hlo _ x v e2 h4 (.inr kO)
  refine ⟨u, ru, ?_⟩
  rcases l with ⟨z, _⟩ | ⟨_, c, hc', z⟩
  ·have z' : X.env.scope.names.lookup x = some .local := z
   rcases kO with q | q <;> · rw [z'] at q; cases q
  ·obtain ⟨c', h5⟩ := cl_has X.env _ [] (PySem.mem_of_lookup e3)
   have h6 := lk h5
   rw [hc'] at h6
   cases h6
   obtain ⟨o, ho, hd⟩ := z
   exact .inr ⟨relabel_free e3, c, h5, o, hk _ _ ho, hd⟩
 ·obtain ⟨v, o, ho, hd⟩ := I.cell x c (lk h)
  exact ⟨v, o, hk _ _ ho, hd⟩
 ·show (List.replicate k none ++ caps cs σ).length = N.length
  rw [List.length_append, List.length_replicate, S.len]
  unfold caps
  rw [List.length_map]
end
end L2
namespace L2
open PySem PySem.Spec PyProof.Rows
structure TurnQ (C : Cx -> Prop) (P : Program) (w : World) (K : PySem.W.Frag) (tg : Expr) (J : It) (fp : List Addr) (it : Addr) (tn : Nat -> Heap -> Prop) : Prop where
 obj : ∀ i h, tn i h -> ∀ b ∈ fp, ∃ o, h.get? b = some o /\ ∀ v, o.data ≠ .cell v
 keep : ∀ i h h', tn i h -> (∀ b ∈ fp, ∀ o, h.get? b = some o -> h'.get? b = some o) -> tn i h'
 item : ∀ (X : Cx), C X -> X.prog = P -> X.w = w -> X.K = K -> ∀ (i : Nat) (pins : List (Addr × Obj)) (s : Shared) (σ : St) (H : Hp) (E : Value -> Shared -> Prop), Inv X pins σ H s -> (∀ b ∈ fp, FpOk X pins H b) -> tn i s.heap -> J.go i H ->
  wpAny (model P w) X.A (pyNext (.ref it)) (fun r s1 => ∃ u, r = some u /\ wpAny (model P w) X.A (letOwnedTupleGo tg (.ref it) u) (fun _ s2 => ∃ x H', Inv X pins σ H' s2 /\ RelV x u /\ J.yld i H x H' /\ tn (i + 1) s2.heap /\ ∀ b ∈ fp, H' b = none) E s1) E s
 done : ∀ (X : Cx), C X -> X.prog = P -> X.w = w -> X.K = K -> ∀ (i : Nat) (pins : List (Addr × Obj)) (s : Shared) (σ : St) (H : Hp) (E : Value -> Shared -> Prop), Inv X pins σ H s -> (∀ b ∈ fp, FpOk X pins H b) -> tn i s.heap -> J.stop i H ->
  wpAny (model P w) X.A (pyNext (.ref it)) (fun r s1 => r = none /\ Inv X pins σ H s1) E s
 self : ∀ (A : Around) (i : Nat) (s : Shared) (Q : Value -> Shared -> Prop) (E : Value -> Shared -> Prop), tn i s.heap -> Q (.ref it) s -> wpAny (model P w) A (pyIter (.ref it)) Q E s
theorem Turn.q {P : Program} {w : World} {K : PySem.W.Frag} {tg : Expr} {J : It} {fp : List Addr} {it : Addr} {tn : Nat -> Heap -> Prop} (T : Turn P w K tg J fp it tn) : TurnQ (fun X => X.calm = true) P w K tg J fp it tn :=
 ⟨T.obj, T.keep, fun X c p w k => T.item X p w k c, fun X c p w k => T.done X p w k c, T.self⟩
section
variable {X : Cx} {tg iter elt : Expr} {ifs : List Expr} {scope : Scope} {pos : Pos} {wi : TI} {g : TG} {tc : TT} {te : TE} {N : List Str} {k : Nat} {cs : List Nat} {fin : List V -> Hp -> Prop}
theorem comp_loop {pins : List (Addr × Obj)} {σ : St} {H2 : Hp} {sD s1 : Shared} {it D : Addr} {fp : List Addr} {tn : Nat -> Heap -> Prop} {J : It} {n0 : Nat} {RR : Result -> Shared -> Prop} {Cq : Cx -> Prop} (hc : ∀ s H ex, Cq (cxC X scope N s H ex)) (S : CScope X scope N k cs)
  (hg : ∀ s H ex, PG (cxC X scope N s H ex) tg g) (ht : ∀ s H ex, PTs (cxC X scope N s H ex) ifs tc) (he : ∀ s H ex, PE (cxC X scope N s H ex) elt te)
  (ID : Inv X pins σ H2 sD) (hD : sD.heap.get? D = some { cls := .type "list", data := .seq ([] : List Value).toArray n0 }) (hD0 : X.s₀.heap.objs.size <= D) (fD : FpOk X pins H2 D) (nfp : D ∉ fp)
  (T : TurnQ Cq X.prog X.w X.K tg J fp it tn) (st : tn 0 sD.heap) (f2 : ∀ b ∈ fp, FpOk X pins H2 b) (hb : tBlock k cs g tc te J σ H2 fin)
  (hos : s1.os = sD.os) (hgn : AllBare s1.gens) (hk : ∀ b o, sD.heap.get? b = some o -> s1.heap.get? b = some o) (hn : ∃ m, s1.heap.Ns sD.heap.objs.size m)
  (hRR : ∀ (H' : Hp) (acc : List V) (s4 : Shared), fin acc H' -> H' D = none -> Inv X pins σ (upd H' D (.lst acc)) s4 -> (∃ m, s4.heap.Ns sD.heap.objs.size m) -> FpOk X pins (upd H' D (.lst acc)) sD.heap.objs.size -> RR (.ok .next) s4) :
  codeAny (model X.prog X.w) X.A (.compLoop (.ListComp elt [⟨tg, iter, ifs, 0⟩] scope pos) 0 (.ref it) (.ref D) (compEnvC scope (clOf X.env scope.names) sD.heap.objs.size X.env)) RR s1 := by
 obtain ⟨W, ⟨m0, w0⟩, turn⟩ := hb
 have hobj : ∀ b, b ∈ D :: fp -> ∃ o, sD.heap.get? b = some o := fun b hb => by
  rcases List.mem_cons.mp hb with rfl | z
  ·exact ⟨_, hD⟩
  ·obtain ⟨o, e, _⟩ := T.obj _ _ st b z
   exact ⟨o, e⟩
 have hexx : ∀ b ∈ D :: fp, FpOk X pins H2 b /\ ∃ o, sD.heap.get? b = some o := fun b hb => ⟨by
  rcases List.mem_cons.mp hb with rfl | z
  ·exact fD
  ·exact f2 b z, hobj b hb⟩
 have neC : ∀ b, b ∈ D :: fp -> b ≠ sD.heap.objs.size := fun b hb z => by
  obtain ⟨o, e⟩ := hobj b hb
  exact absurd (Heap.lt_size e) (by rw [z]; exact Nat.lt_irrefl _)
 have nfr : ∀ b, b ∈ D :: fp -> b ∉ frs X.stack := fun b hb hf => by
  rcases List.mem_cons.mp (ID.stkSub b hf) with z | z
  ·exact (hexx b hb).1.2.1 z
  ·exact (hexx b hb).1.2.2.1 z
 have I0 := ID.block S hexx hos hgn hk hn
 have I0ok := I0.ok
 have cells : ∀ b, b ∈ D :: fp -> ∀ x c, (clOf X.env scope.names).lookup x = some c -> c ≠ b := fun b hb x c h => (I0ok.exf b hb).2 x c h
 have fpok : ∀ {H' : Hp} {pl : List (Addr × Obj)}, (∀ b ∈ fp, H' b = none) -> (∀ p ∈ pl, p.1 = D) -> ∀ b ∈ fp, FpOk (cxC X scope N sD H2 (D :: fp)) pl H' b := fun hn hp b hb =>
  ⟨hn b hb, neC b (.tail _ hb), nfr b (.tail _ hb), .inl (.tail _ hb), cells b (.tail _ hb), fun p hp' z => nfp (by
   have := hp p hp'
   rw [<- this, z]; exact hb)⟩
 refine compLoop_go (fun n s' => ∃ (i : Nat) (acc : List V) (its : List Value) (nn : Nat) (H' : Hp), Inv (cxC X scope N sD H2 (D :: fp)) [] (List.replicate k none ++ caps cs σ) H' s' /\ tn i s'.heap /\ (∀ b ∈ fp, H' b = none) /\ H' D = none /\ acc.length <= sizeLine /\ Vals acc its /\
  s'.heap.get? D = some { cls := .type "list", data := .seq its.toArray nn } /\ W i n acc H') ?_ m0
  ⟨0, [], [], n0, H2, I0, T.keep _ _ _ st (fun b _ o e => hk b o e), fun b hb => (f2 b hb).1, fD.1, Nat.zero_le _, .nil, hk _ _ hD, w0⟩
 rintro n s3 ⟨i, acc, its, nn, H3, I3, st3, fr3, nD3, hl3, v3, e3, w3⟩
 have I3p : Inv (cxC X scope N sD H2 (D :: fp)) [(D, { cls := .type "list", data := .seq its.toArray nn })] (List.replicate k none ++ caps cs σ) H3 s3 := I3.pins_of fun p hp => by
  rw [List.mem_singleton] at hp
  subst hp
  exact ⟨e3, nD3, neC D (.head _), nfr D (.head _), fun v z => by cases z⟩
 have one : ∀ p ∈ [((D, { cls := .type "list", data := .seq its.toArray nn }) : Addr × Obj)], p.1 = D := fun p hp => by
  rw [List.mem_singleton] at hp
  subst hp
  rfl
 rcases turn i n acc H3 w3 with ⟨stop, qf⟩ | ⟨go, Nx, hNx, step⟩
 ·refine thn (T.done (cxC X scope N sD H2 (D :: fp)) (hc _ _ _) rfl rfl rfl i _ s3 _ H3 _ I3p (fpok fr3 one) st3 stop) fun r s4 ⟨hr, I4⟩ => ?_
  subst hr
  have IX : Inv X pins σ H3 s4 := ID.call' (ch := D :: fp) I4.os I4.base I4.hok I4.bare fun b hb => ⟨(hexx b hb).1.2.2.2.1, (hexx b hb).1.2.1, (hexx b hb).1.2.2.2.2.1, (hexx b hb).1.2.2.2.2.2⟩
  have p4 := (I4.pin (D, { cls := .type "list", data := .seq its.toArray nn }) (by show _ ∈ [] ++ [_]; simp)).1
  have IY : Inv X pins σ (upd H3 D (.lst acc)) s4 := by
   refine IX.track nD3 (Heap.get?_none_of_le hD0) (Heap.get?_none_of_le (Nat.le_trans ID.ok.bsz hD0)) (Ne.symm fD.2.1) fD.2.2.2.2.1 fD.2.2.2.2.2 (fun b hb z => fD.2.2.1 (z ▸ hb)) ?_
   exact ⟨hl3, its, nn, v3, p4⟩
  refine hRR H3 acc s4 qf nD3 IY ?_ (ID.fpOk (Nat.le_refl _) ?_)
  ·obtain ⟨m, hm, _⟩ := I4.loc
   exact ⟨m, hm⟩
  ·rw [upd_ne (Ne.symm (neC D (.head _)))]
   exact I4.free
 ·refine thn (T.item (cxC X scope N sD H2 (D :: fp)) (hc _ _ _) rfl rfl rfl i _ s3 _ H3 (fun _ _ => False) I3p (fpok fr3 one) st3 go) fun r s4 ⟨u, hr, h4⟩ => ?_
  subst hr
  refine thn h4 fun _ s5 ⟨x, H5, I5, r5, y5, st5, fr5⟩ => ?_
  have I5' := I5.pinned (fpok fr5 one) (T.obj _ _ st5)
  refine thn (hg sD H2 (D :: fp) _ s5 _ H5 x u _ I5' r5 (step x H5 y5)) fun _ s6 ⟨σ6, H6, I6, ⟨ts, tl, eσ⟩, hz6, q6⟩ => ?_
  refine thn (ht sD H2 (D :: fp) _ s6 σ6 H6 _ I6 q6) fun b s7 ⟨H7, I7, q7⟩ => ?_
  have weak : ∀ {pl : List (Addr × Obj)} {H' : Hp} {s' : Shared}, Inv (cxC X scope N sD H2 (D :: fp)) pl σ6 H' s' -> Inv (cxC X scope N sD H2 (D :: fp)) [] (List.replicate k none ++ caps cs σ) H' s' := fun {pl H' s'} J => by
   refine (J.weak (σ' := List.replicate k none ++ caps cs σ) ?_ fun j v e => ?_).pins_of fun p hp => absurd hp (by simp)
   ·rw [eσ, List.length_append, List.length_append, List.length_replicate, tl]
   ·by_cases z : j < k
    ·rw [List.getElem?_append_left (by simpa using z), List.getElem?_replicate, if_pos z] at e
     cases e
    ·rw [List.getElem?_append_right (by rw [List.length_replicate]; lia), List.length_replicate] at e
     rw [eσ, List.getElem?_append_right (by lia), tl]
     exact e
  have later : ∀ {pl : List (Addr × Obj)} {σ' : St} {H' : Hp} {s' : Shared}, Inv (cxC X scope N sD H2 (D :: fp)) (pl ++ pinsAt fp s5.heap) σ' H' s' -> tn (i + 1) s'.heap /\ ∀ b ∈ fp, H' b = none := fun {pl σ' H' s'} J =>
   ⟨T.keep _ _ _ st5 fun b hb o e => (J.pin (b, o) (List.mem_append_right _ (List.mem_append_right _ (mem_pinsAt hb e)))).1, fun b hb => by
    obtain ⟨o, e, _⟩ := T.obj _ _ st5 b hb
    exact (J.pin (b, o) (List.mem_append_right _ (List.mem_append_right _ (mem_pinsAt hb e)))).2.1⟩
  cases b with
  | false =>
   have q7' : Nx acc H7 := by simpa using q7
   obtain ⟨m', hm, w7⟩ := hNx _ _ q7'
   rw [if_neg Bool.false_ne_true]
   have p7 := I7.pin (D, { cls := .type "list", data := .seq its.toArray nn }) (List.mem_append_right _ (List.mem_append_left _ (List.mem_singleton.mpr rfl)))
   exact ⟨m', hm, i + 1, acc, its, nn, H7, weak I7, (later I7).1, (later I7).2, p7.2.1, hl3, v3, p7.1, w7⟩
  | true =>
   rw [if_pos rfl] at q7
   rw [if_pos rfl]
   refine thn (he sD H2 (D :: fp) _ s7 σ6 H7 _ I7 q7) fun y s8 ⟨v, H8, I8, r8, q8⟩ => ?_
   obtain ⟨m', hm, w8⟩ := hNx _ _ q8
   have p8 := I8.pin (D, { cls := .type "list", data := .seq its.toArray nn }) (List.mem_append_right _ (List.mem_append_left _ (List.mem_singleton.mpr rfl)))
   have hlen := v3.length
   refine call_meets F.slot_list_append ⟨_, p8.1, rfl⟩ F.entry_list_append (F.args_list_append_2 _ _) (PySem.list_append D its.toArray nn y (by rw [List.size_toArray]; lia)) ⟨p8.1, ?_⟩
   have q := PySem.IsL.update p8.1 (·.push y)
   have eq : its.toArray.push y = (its ++ [y]).toArray := by simp
   dsimp only at q
   rw [eq] at q
   have I8' : Inv (cxC X scope N sD H2 (D :: fp)) ([] ++ pinsAt fp s5.heap) σ6 H8 s8 := I8.pins_of fun p hp => I8.pin p (List.mem_append_right _ (List.mem_append_right _ hp))
   have I9 := I8'.turned (t' := s8.toks) (it := D) (h' := s8.heap.update D (Obj.mapSeq (·.push y))) (fun b o hb e => (Heap.get?_update_other s8.heap (Obj.mapSeq (·.push y)) (Ne.symm hb)).trans e) p8.2.1 (neC D (.head _)) (.inl (.head _)) (cells D (.head _))
    (fun p hp z => nfp (by
     have := (of_pinsAt (fp := fp) (h := s5.heap) (p := p) (by simpa [cxC] using hp)).1
     rw [z] at this
     exact this))
   refine ⟨m', hm, i + 1, acc ++ [v], its ++ [y], _, H8, weak I9, (later I9).1, (later I9).2, p8.2.1, ?_, v3.append (.cons r8 .nil), q, w8⟩
   rw [List.length_append, List.length_singleton]
   lia
theorem comp_block {pins : List (Addr × Obj)} {σ : St} {H2 : Hp} {s2 : Shared} {it : Addr} {fp : List Addr} {tn : Nat -> Heap -> Prop} {J : It} {RR : Value -> Addr -> Result -> Shared -> Prop} {E : Value -> Shared -> Prop} {Cq : Cx -> Prop} (hc : ∀ s H ex, Cq (cxC X scope N s H ex)) (S : CScope X scope N k cs)
  (hg : ∀ s H ex, PG (cxC X scope N s H ex) tg g) (ht : ∀ s H ex, PTs (cxC X scope N s H ex) ifs tc) (he : ∀ s H ex, PE (cxC X scope N s H ex) elt te)
  (I2 : Inv X pins σ H2 s2) (T : TurnQ Cq X.prog X.w X.K tg J fp it tn) (st : tn 0 s2.heap) (f2 : ∀ b ∈ fp, FpOk X pins H2 b) (hb : tBlock k cs g tc te J σ H2 fin)
  (hRR : ∀ (D C : Addr) (H' : Hp) (acc : List V) (s4 : Shared), fin acc H' -> H' D = none -> Inv X pins σ (upd H' D (.lst acc)) s4 -> (∃ m, s4.heap.Ns C m) -> FpOk X pins (upd H' D (.lst acc)) C -> RR (.ref D) C (.ok .next) s4) :
  wpAny (model X.prog X.w) X.A (newList []) (fun acc s₃ => wpAny (model X.prog X.w) X.A (newFunctionEnv scope X.env.globals (clOf X.env scope.names) [] X.env.qual none .none (some X.env)) (fun cenv s₄ =>
   codeAny (model X.prog X.w) X.A (.compStart (.ListComp elt [⟨tg, iter, ifs, 0⟩] scope pos) 0 (.ref it) acc { cenv with scope := relabel scope X.env }) (RR acc cenv.locals) s₄) E s₃) E s2 := by
 refine wpAny_newObj_type (wpAny_newFunctionEnv S.cell (by intro y hy; simp at hy) (fun h₁ hns₁ hsb₁ => ?_) S.kind)
 dsimp only at hns₁ hsb₁ ⊢
 have keepD : ∀ b o, s2.heap.get? b = some o -> (s2.heap.push { cls := .type "list", dict := none, data := .seq ([] : List Value).toArray }).get? b = some o := fun b o e => Heap.get?_push_of_some _ e
 have ID : Inv X pins σ H2 { s2 with heap := s2.heap.push { cls := .type "list", dict := none, data := .seq ([] : List Value).toArray } } := I2.kept (t' := s2.toks) keepD
 have hD : (s2.heap.push { cls := .type "list", dict := none, data := .seq ([] : List Value).toArray }).get? s2.heap.objs.size = some { cls := .type "list", data := .seq ([] : List Value).toArray } := Heap.get?_push_size _ rfl
 have nfp : s2.heap.objs.size ∉ fp := fun z => by
  obtain ⟨o, e, _⟩ := T.obj _ _ st _ z
  exact absurd (Heap.lt_size e) (Nat.lt_irrefl _)
 have stD : tn 0 (s2.heap.push { cls := .type "list", dict := none, data := .seq ([] : List Value).toArray }) := T.keep _ _ _ st fun b _ o e => keepD b o e
 have hk : ∀ b o, (s2.heap.push { cls := .type "list", dict := none, data := .seq ([] : List Value).toArray }).get? b = some o -> h₁.get? b = some o := fun b o e => hsb₁.extBut b o (Nat.ne_of_lt (Heap.lt_size e)) (Heap.get?_push_of_some _ e)
 have loop : ∀ s₃ : Shared, s₃ = { s2 with heap := h₁, toks := s2.toks + ([] : List (Str × Value)).length } ->
   codeAny (model X.prog X.w) X.A (.compLoop (.ListComp elt [⟨tg, iter, ifs, 0⟩] scope pos) 0 (.ref it) (.ref s2.heap.objs.size) (compEnvC scope (clOf X.env scope.names) (s2.heap.push { cls := .type "list", dict := none, data := .seq ([] : List Value).toArray }).objs.size X.env))
    (RR (.ref s2.heap.objs.size) (s2.heap.push { cls := .type "list", dict := none, data := .seq ([] : List Value).toArray }).objs.size) s₃ := by
  rintro s₃ rfl
  exact comp_loop (sD := { s2 with heap := s2.heap.push { cls := .type "list", dict := none, data := .seq ([] : List Value).toArray } }) hc S hg ht he ID hD I2.sz (I2.fpOk (Nat.le_refl _) I2.fresh) nfp T stD f2 hb rfl I2.bare hk ⟨_, hns₁⟩ fun H' acc s4 => hRR _ _ H' acc s4
 exact codeAny_compStart_list (loop _ rfl) (T.self _ 0 _ _ _ (T.keep _ _ _ stD fun b _ o e => hk b o e) (loop _ rfl))
theorem pe_comp (hc : X.calm = true) (S : CScope X scope N k cs) (hi : PI X tg iter wi) (hg : ∀ s H ex, PG (cxC X scope N s H ex) tg g) (ht : ∀ s H ex, PTs (cxC X scope N s H ex) ifs tc) (he : ∀ s H ex, PE (cxC X scope N s H ex) elt te)
  (hs : ∀ x, foldedSetIterable iter X.env x = pure x := by intro _; rfl) : PE X (.ListComp elt [⟨tg, iter, ifs, 0⟩] scope pos) (tComp k cs wi g tc te) := by
 intro pins s σ H Q I h
 rw [eval_ListComp]
 refine wpAny_comprehension_free (use := none) rfl hs (closure_of fun y hy hf => I.ok.has _ (S.free y hy hf)) S.kind S.names (thn (hi pins s σ H _ I h) fun v s1 h1 => thn h1 fun itv s2 h2 => ?_)
 obtain ⟨it, fp, tn, J, H2, rfl, I2, T, st2, f2, hb⟩ := h2
 refine comp_block (RR := fun acc C => compPost (model X.prog X.w) X.A X.xe none (EP X pins σ Q) acc C) (Cq := fun X => X.calm = true) (fun _ _ _ => hc) S hg ht he I2 T.q st2 f2 hb fun D C H' acc s4 qf nD J4 hn fC => ?_
 obtain ⟨m, hm⟩ := hn
 refine ⟨m, hm, fun h' sb => ⟨.ref D, upd H' D (.lst acc), ?_, rfl, qf D nD⟩⟩
 exact J4.turned (t' := s4.toks) (it := C) (fun b o hb e => (sb.2 b hb).trans e) fC.1 fC.2.1 fC.2.2.2.1 fC.2.2.2.2.1 fC.2.2.2.2.2
def tSetComp (i k : Nat) (cs : List Nat) (wi : TI) (g : TG) (tc : TT) (te : TE) : TS := fun D σ H => wi σ H fun J H1 => tBlock k cs g tc te J σ H1 fun acc H2 => ∀ p, H2 p = none -> D.nx (σ.set i (some (.ref p))) (upd H2 p (.lst acc))
theorem ps_setComp {i : Nat} {y : Str} {py spos : Pos} (hc : X.calm = true) (hN : X.N.Nodup) (hi' : X.N[i]? = some y) (hy : X.env.scope.names.lookup y = some .local) (S : CScope X scope N k cs) (hi : PI X tg iter wi)
  (hg : ∀ s H ex, PG (cxC X scope N s H ex) tg g) (ht : ∀ s H ex, PTs (cxC X scope N s H ex) ifs tc) (he : ∀ s H ex, PE (cxC X scope N s H ex) elt te)
  (hsw : swapsWith (.ListComp elt [⟨tg, iter, ifs, 0⟩] scope pos) (some (.Name y py)) spos.line X.env = pure true := by rfl) (hs : ∀ x, foldedSetIterable iter X.env x = pure x := by intro _; rfl) :
  PS X (.Assign [.Name y py] (.ListComp elt [⟨tg, iter, ifs, 0⟩] scope pos) spos) (tSetComp i k cs wi g tc te) := by
 intro pins s σ H D I h
 rw [exec_Assign_Name_used _ _ _ _ hsw]
 refine wpAny_bind (wpAny_standAt (wpAny_bind ?_))
 show wpAny _ X.A (do let _ <- comprehension (.ListComp elt [⟨tg, iter, ifs, 0⟩] scope pos) scope X.env _ (newList []) false (eval iter X.env) (some (assign (.Name y py) X.env))) _ _ s
 refine wpAny_bind (wpAny_mono (wpAny_comprehension_free (use := some (assign (.Name y py) X.env)) (Q := fun _ s' => SP X pins D .next s') rfl hs (closure_of fun y hy hf => I.ok.has _ (S.free y hy hf)) S.kind S.names
  (thn (hi pins s σ H _ I h) fun v s1 h1 => thn h1 fun itv s2 h2 => ?_)) (fun _ s' hq => wpAny_pure (wpAny_pure hq)) fun _ _ e => e)
 obtain ⟨it, fp, tn, J, H2, rfl, I2, T, st2, f2, hb⟩ := h2
 refine comp_block (RR := fun acc C => compPost (model X.prog X.w) X.A X.xe (some (assign (.Name y py) X.env)) (fun _ s' => SP X pins D .next s') acc C) (Cq := fun X => X.calm = true) (fun _ _ _ => hc) S hg ht he I2 T.q st2 f2 hb fun L C H' acc s4 qf nD J4 hn fC => ?_
 obtain ⟨m, hm⟩ := hn
 show wpAny _ X.A (assign (.Name y py) X.env (.ref L)) _ _ _
 refine wpAny_assign_Name (store_ok2 J4 hN hi' (.inl hy) (v := .ref L) rfl (fun s5 J5 hsb => ?_) (.inr hy))
 obtain ⟨a, sb, ha⟩ := hsb
 have nCa : C ≠ a := by
  rcases ha with z | z
  ·rw [z]; exact fC.2.1
  ·exact fun q => fC.2.2.2.2.1 y a z q.symm
 refine ⟨m, hm.sameBut sb nCa, fun h' sb' => ⟨σ.set i (some (.ref L)), upd H' L (.lst acc), ?_, qf L nD⟩⟩
 exact J5.turned (t' := s5.toks) (it := C) (fun b o hb e => (sb'.2 b hb).trans e) fC.1 fC.2.1 fC.2.2.2.1 fC.2.2.2.2.1 fC.2.2.2.2.2
end
section
variable {K : PySem.W.Frag} {k : Nat} {cs : List Nat} {g : TG} {tc : TT} {te : TE} {σ : St} {H : Hp} {fin : List V -> Hp -> Prop}
abbrev Bt (k : Nat) (cs : List Nat) (g : TG) (tc : TT) (te : TE) (σ : St) (x : V) (acc : List V) (H : Hp) (Nx : List V -> Hp -> Prop) : Prop :=
 g x (List.replicate k none ++ caps cs σ) H fun σ2 H2 => (∃ ts : St, ts.length = k /\ σ2 = ts ++ caps cs σ) /\ acc.length < sizeLine /\ tc σ2 H2 fun b H3 => if b = true then te σ2 H3 fun v H4 => Nx (acc ++ [v]) H4 else Nx acc H3
theorem blk_list {a : Addr} {xs : List V} (Pv : Nat -> List V -> Hp -> Prop) (h0 : Pv 0 [] H) (hl : ∀ i acc H, i <= xs.length -> Pv i acc H -> SqL K H a xs)
  (hs : ∀ i x acc H, xs[i]? = some x -> Pv i acc H -> Bt k cs g tc te σ x acc H (Pv (i + 1))) (hd : ∀ acc H, Pv xs.length acc H -> fin acc H) : tBlock k cs g tc te (Itl K a) σ H fin := by
 refine ⟨fun i m acc H => m = xs.length - i /\ i <= xs.length /\ Pv i acc H, ⟨xs.length, by simp, Nat.zero_le _, h0⟩, ?_⟩
 rintro i m acc H ⟨rfl, hi, p⟩
 have q := hl i acc H hi p
 by_cases hlt : i < xs.length
 ·refine .inr ⟨⟨xs, xs[i], q, by simp [hlt]⟩, Pv (i + 1), fun acc' H' p' => ⟨xs.length - (i + 1), by lia, rfl, hlt, p'⟩, fun x H' y => ?_⟩
  obtain ⟨e, y⟩ := y
  subst e
  exact hs i x acc _ (y xs q) p
 ·have e : i = xs.length := by lia
  subst e
  exact .inl ⟨⟨xs, q, Nat.le_refl _⟩, hd acc H p⟩
theorem blk_tup {a : Addr} {xs : List V} (Pv : Nat -> List V -> Hp -> Prop) (h0 : Pv 0 [] H) (hl : ∀ i acc H, i <= xs.length -> Pv i acc H -> SqT K H a xs)
  (hs : ∀ i x acc H, xs[i]? = some x -> Pv i acc H -> Bt k cs g tc te σ x acc H (Pv (i + 1))) (hd : ∀ acc H, Pv xs.length acc H -> fin acc H) : tBlock k cs g tc te (Itt K a) σ H fin := by
 refine ⟨fun i m acc H => m = xs.length - i /\ i <= xs.length /\ Pv i acc H, ⟨xs.length, by simp, Nat.zero_le _, h0⟩, ?_⟩
 rintro i m acc H ⟨rfl, hi, p⟩
 have q := hl i acc H hi p
 by_cases hlt : i < xs.length
 ·refine .inr ⟨⟨xs, xs[i], q, by simp [hlt]⟩, Pv (i + 1), fun acc' H' p' => ⟨xs.length - (i + 1), by lia, rfl, hlt, p'⟩, fun x H' y => ?_⟩
  obtain ⟨e, y⟩ := y
  subst e
  exact hs i x acc _ (y xs q) p
 ·have e : i = xs.length := by lia
  subst e
  exact .inl ⟨⟨xs, q, Nat.le_refl _⟩, hd acc H p⟩
theorem blk_range {lo : Int} {n : Nat} (Pv : Nat -> List V -> Hp -> Prop) (h0 : Pv 0 [] H) (hs : ∀ i acc H, i < n -> Pv i acc H -> Bt k cs g tc te σ (.int (lo + i)) acc H (Pv (i + 1))) (hd : ∀ acc H, Pv n acc H -> fin acc H) : tBlock k cs g tc te (Itr lo n) σ H fin := by
 refine ⟨fun i m acc H => m = n - i /\ i <= n /\ Pv i acc H, ⟨n, by simp, Nat.zero_le _, h0⟩, ?_⟩
 rintro i m acc H ⟨rfl, hi, p⟩
 by_cases hlt : i < n
 ·refine .inr ⟨hlt, Pv (i + 1), fun acc' H' p' => ⟨n - (i + 1), by lia, rfl, hlt, p'⟩, fun x H' y => ?_⟩
  obtain ⟨e, y⟩ := y
  subst e y
  exact hs i acc _ hlt p
 ·have e : i = n := by lia
  subst e
  exact .inl ⟨Nat.le_refl _, hd acc H p⟩
end
end L2
namespace L2
open PySem PySem.Spec PyProof.Rows
section
variable {prog : Program} {w : World} {A : Around} {E : Value -> Shared -> Prop} {s : Shared}
theorem nextOf_tuple_item {I t : Addr} {k : Nat} {vs : Array Value} {v : Value} {Q : Value -> Shared -> Prop} (hI : s.heap.IsTupleIter I t k) (hV : s.heap.IsTuple t vs) (hv : vs[k]? = some v)
  (q : ∀ g, g.IsTupleIter I t (k + 1) -> Heap.SameBut I s.heap g -> Q v { s with heap := g }) : wpAny (model prog w) A (Builtin.SmallTypes.nextOf (.ref I)) Q E s := by
 obtain ⟨oI, eI, cI, dI⟩ := id hI
 obtain ⟨oV, eV, _, nV, dV⟩ := hV
 unfold Builtin.SmallTypes.nextOf
 refine wpAny_bind (wpAny_callSpecial?_slot (name := Str.ofString "__next__") hI.typeIs F.slot_tuple_iterator_next (wpAny_call_entry F.slot_tuple_iterator_next hI.typeIs F.entry_tuple_iterator_next ?_ (F.args_tuple_iterator_next_1 _)))
 show wpAny _ _ (field (.ref I) 0 >>= _) _ _ s
 refine wpAny_bind (wpAny_field eI dI (x := .ref t) rfl ?_)
 show wpAny _ _ (if (Value.ref t == Value.none) = true then _ else _) _ _ s
 rw [if_neg (fun z : (Value.ref t == Value.none) = true => Bool.false_ne_true z)]
 show wpAny _ _ (field (.ref I) 1 >>= _) _ _ s
 refine wpAny_bind (wpAny_field eI dI (x := .int k 0) rfl ?_)
 show wpAny _ _ (seqItems? (.ref t) >>= _) _ _ s
 refine wpAny_bind (wpAny_seqItems eV dV ?_)
 simp only [Int.toNat_natCast, hv]
 refine wpAny_bind (wpAny_setField eI dI (by simp) (wpAny_pure ⟨v, rfl, wpAny_pure (q _ ?_ (Heap.SameBut.update ..))⟩))
 exact ⟨_, Heap.get?_update_self _ eI (Obj.isFreed_of_fields (Obj.data_mapFields dI _)), (Obj.cls_mapFields ..).trans cI, by rw [Obj.data_mapFields dI]; simp [rawInt]⟩
theorem nextOf_tuple_end {I t : Addr} {k : Nat} {vs : Array Value} {Q : Value -> Shared -> Prop} (hA : A.handled = none) (hI : s.heap.IsTupleIter I t k) (hV : s.heap.IsTuple t vs) (hv : vs[k]? = none)
  (q : ∀ g e, Heap.ExtBut I s.heap g -> (∃ o, g.get? e = some o /\ o.cls = .type "StopIteration") -> E (.ref e) { s with heap := g }) : wpAny (model prog w) A (Builtin.SmallTypes.nextOf (.ref I)) Q E s := by
 obtain ⟨oI, eI, cI, dI⟩ := id hI
 obtain ⟨oV, eV, _, nV, dV⟩ := hV
 unfold Builtin.SmallTypes.nextOf
 refine wpAny_bind (wpAny_callSpecial?_slot (name := Str.ofString "__next__") hI.typeIs F.slot_tuple_iterator_next (wpAny_call_entry F.slot_tuple_iterator_next hI.typeIs F.entry_tuple_iterator_next ?_ (F.args_tuple_iterator_next_1 _)))
 show wpAny _ _ (field (.ref I) 0 >>= _) _ _ s
 refine wpAny_bind (wpAny_field eI dI (x := .ref t) rfl ?_)
 show wpAny _ _ (if (Value.ref t == Value.none) = true then _ else _) _ _ s
 rw [if_neg (fun z : (Value.ref t == Value.none) = true => Bool.false_ne_true z)]
 show wpAny _ _ (field (.ref I) 1 >>= _) _ _ s
 refine wpAny_bind (wpAny_field eI dI (x := .int k 0) rfl ?_)
 show wpAny _ _ (seqItems? (.ref t) >>= _) _ _ s
 refine wpAny_bind (wpAny_seqItems eV dV ?_)
 simp only [Int.toNat_natCast, hv]
 refine wpAny_bind (wpAny_rule (wpAny_bind (wpAny_setField eI dI (by simp) ?_)))
 show wpAny _ _ (newExc (.type "StopIteration") [] >>= _) _ _ _
 refine wpAny_bind ?_
 simp only [newExc, newTuple]
 refine wpAny_bind (wpAny_newObj_type ?_ (by size_fits))
 refine wpAny_bind (m := firstArgMember _ _) (wpAny_of_eq (a := Value.none) (by first | rfl | (simp only [firstArgMember]; rfl)) (wpAny_newObj_type ?_ (by size_fits)))
 simp only [raiseNew]
 refine wpAny_bind (wpAny_handled ?_)
 first | rw [show A.in1.handled = none from hA] | rw [hA]
 refine wpAny_bind (wpAny_pure (wpAny_throw (q _ _ (((Heap.SameBut.update ..).extBut.push _).push _) ⟨_, Heap.get?_push_size _ rfl, rfl⟩)))
def SeqIt : Bool -> Heap -> Addr -> Addr -> Nat -> Prop
 | true, h, I, l, k => h.IsTupleIter I l k
 | false, h, I, l, k => h.IsListIter I l k
def SeqOb : Bool -> Heap -> Addr -> Array Value -> Prop
 | true, h, l, vs => h.IsTuple l vs
 | false, h, l, vs => h.IsList l vs
def SqX (K : PySem.W.Frag) : Bool -> Hp -> Addr -> List V -> Prop
 | true, H, a, xs => SqT K H a xs
 | false, H, a, xs => SqL K H a xs
theorem SeqIt.move {b : Bool} {h g : Heap} {I l : Addr} {k : Nat} (x : SeqIt b h I l k) (e : ∀ o, h.get? I = some o -> g.get? I = some o) : SeqIt b g I l k := by
 cases b with
 | true => obtain ⟨o, ho, r⟩ := x; exact ⟨o, e _ ho, r⟩
 | false => obtain ⟨o, ho, r⟩ := x; exact ⟨o, e _ ho, r⟩
theorem SeqIt.there {b : Bool} {h : Heap} {I l : Addr} {k : Nat} (x : SeqIt b h I l k) : ∃ o, h.get? I = some o /\ ∀ v, o.data ≠ .cell v := by
 cases b with
 | true => obtain ⟨o, ho, _, d⟩ := x; exact ⟨o, ho, fun v z => by rw [d] at z; cases z⟩
 | false => obtain ⟨o, ho, _, d⟩ := x; exact ⟨o, ho, fun v z => by rw [d] at z; cases z⟩
theorem SeqOb.move {b : Bool} {h g : Heap} {l : Addr} {vs : Array Value} (x : SeqOb b h l vs) (e : ∀ o, h.get? l = some o -> g.get? l = some o) : SeqOb b g l vs := by
 cases b with
 | true => obtain ⟨o, ho, r⟩ := x; exact ⟨o, e _ ho, r⟩
 | false => obtain ⟨o, ho, r⟩ := x; exact ⟨o, e _ ho, r⟩
theorem nextOf_seq_item {b : Bool} {I l : Addr} {k : Nat} {vs : Array Value} {v : Value} {Q : Value -> Shared -> Prop} (hI : SeqIt b s.heap I l k) (hV : SeqOb b s.heap l vs) (hv : vs[k]? = some v)
  (q : ∀ g, SeqIt b g I l (k + 1) -> Heap.SameBut I s.heap g -> Q v { s with heap := g }) : wpAny (model prog w) A (Builtin.SmallTypes.nextOf (.ref I)) Q E s := by
 cases b with
 | true => exact nextOf_tuple_item hI hV hv q
 | false => exact wpAny_nextOf_list_item hI hV hv q
theorem nextOf_seq_end {b : Bool} {I l : Addr} {k : Nat} {vs : Array Value} {Q : Value -> Shared -> Prop} (hA : A.handled = none) (hI : SeqIt b s.heap I l k) (hV : SeqOb b s.heap l vs) (hv : vs[k]? = none)
  (q : ∀ g e, Heap.ExtBut I s.heap g -> (∃ o, g.get? e = some o /\ o.cls = .type "StopIteration") -> E (.ref e) { s with heap := g }) : wpAny (model prog w) A (Builtin.SmallTypes.nextOf (.ref I)) Q E s := by
 cases b with
 | true => exact nextOf_tuple_end hA hI hV hv q
 | false => exact wpAny_nextOf_list_end hA hI hV hv q
theorem pyIter_seq {b : Bool} {l : Addr} {vs : Array Value} {Q : Value -> Shared -> Prop} (hV : SeqOb b s.heap l vs)
  (q : ∀ g, SeqIt b g s.heap.objs.size l 0 -> g.objs.size = s.heap.objs.size + 1 -> (∀ c o, s.heap.get? c = some o -> g.get? c = some o) -> Q (.ref s.heap.objs.size) { s with heap := g }) : wpAny (model prog w) A (pyIter (.ref l)) Q E s := by
 cases b with
 | true => exact wpAny_pyIter_tuple hV (q _ ⟨_, Heap.get?_push_size _ rfl, rfl, rfl⟩ (Heap.size_push ..) fun c o e => Heap.get?_push_of_some _ e)
 | false => exact wpAny_pyIter_list hV (q _ ⟨_, Heap.get?_push_size _ rfl, rfl, rfl⟩ (Heap.size_push ..) fun c o e => Heap.get?_push_of_some _ e)
structure Apart (z U O i j l m : Addr) : Prop where
 nd : [z, U, O, i, j].Nodup
 l : l ∉ [z, O, i, j]
 m : m ∉ [z, O, i, j]
theorem zip_step {b c : Bool} {z U O i j l m : Addr} {k : Nat} {xs ys : Array Value} {x y p q : Value} {Q : Value -> Shared -> Prop} (D : Apart z U O i j l m) (hZ : IsZip s.heap z U O .none) (hU : IsPair s.heap U (.ref i) (.ref j)) (hO : IsPair s.heap O p q)
  (hi : SeqIt b s.heap i l k) (hj : SeqIt c s.heap j m k) (hl : SeqOb b s.heap l xs) (hm : SeqOb c s.heap m ys) (hx : xs[k]? = some x) (hy : ys[k]? = some y)
  (fin : ∀ g, IsZip g z U O (rawInt s.heap.objs.size) -> IsPair g O x y -> SeqIt b g i l (k + 1) -> SeqIt c g j m (k + 1) -> IsPair g s.heap.objs.size x y -> g.objs.size = s.heap.objs.size + 1 ->
   (∀ a o, a ∉ [z, O, i, j] -> s.heap.get? a = some o -> g.get? a = some o) -> Q (.ref s.heap.objs.size) { s with heap := g }) :
  wpAny (model prog w) A (Builtin.«zip.__next__» ⟨[.ref z], []⟩) (fun r s' => ∃ v, r = .done (.ret v) /\ Q v s') E s := by
 obtain ⟨nd, nl, nm⟩ := D
 simp only [List.nodup_cons, List.mem_cons, List.not_mem_nil, or_false, not_or, List.nodup_nil, and_true, not_false_eq_true] at nd nl nm
 obtain ⟨⟨zU, zO, zi, zj⟩, ⟨UO, Ui, Uj⟩, ⟨Oi, Oj⟩, ij⟩ := nd
 obtain ⟨lz, lO, li, lj⟩ := nl
 obtain ⟨mz, mO, mi, mj⟩ := nm
 show wpAny _ _ (field (.ref z) 2 >>= _) _ _ _
 refine wpAny_bind (wpAny_field hZ rfl (x := .bool false) rfl ?_)
 show wpAny _ _ (field (.ref z) 3 >>= _) _ _ _
 refine wpAny_bind (wpAny_field hZ rfl (x := .ref U) rfl (wpAny_bind (wpAny_seqItems hU rfl ?_)))
 show wpAny _ _ (Builtin.SmallTypes.ownedTupleIsFree (.ref z) >>= _) _ _ _
 refine wpAny_bind ?_
 unfold Builtin.SmallTypes.ownedTupleIsFree
 refine wpAny_bind (wpAny_field hZ rfl (x := .none) rfl (wpAny_pure ?_))
 simp only [if_true]
 refine wpAny_bind (wpAny_rule (wpAny_bind (wpAny_field hZ rfl (x := .ref O) rfl (wpAny_bind (wpAny_setField_rec hZ (by simp) fun h1 hZ1 s1 => ?_)))))
 replace hZ1 : IsZip h1 z U O .ellipsis := hZ1
 refine wpAny_bind ?_
 simp only [List.zipIdx_cons, List.zipIdx_nil, List.forIn_cons, List.forIn_nil]
 refine wpAny_bind (wpAny_bind (wpAny_onRaise ?_))
 show wpAny _ _ (Builtin.SmallTypes.nextOf (.ref i) >>= _) _ _ _
 refine wpAny_bind (nextOf_seq_item (hi.move fun o e => s1.extBut _ _ (Ne.symm zi) e) (hl.move fun o e => s1.extBut _ _ lz e) hx fun h2 hi2 s2 => wpAny_pure ?_)
 have hO2 : IsPair h2 O p q := s2.extBut _ _ Oi (s1.extBut _ _ (Ne.symm zO) hO)
 refine wpAny_bind (wpAny_seqItems hO2 rfl (wpAny_bind (wpAny_updateSeq_pair hO2 fun h3 hO3 s3 => ?_)))
 replace hO3 : IsPair h3 O x q := hO3
 refine wpAny_bind (wpAny_letGo (wpAny_pure (wpAny_bind (wpAny_bind (wpAny_onRaise ?_)))))
 show wpAny _ _ (Builtin.SmallTypes.nextOf (.ref j) >>= _) _ _ _
 refine wpAny_bind (nextOf_seq_item (hj.move fun o e => s3.extBut _ _ (Ne.symm Oj) (s2.extBut _ _ (Ne.symm ij) (s1.extBut _ _ (Ne.symm zj) e))) (hm.move fun o e => s3.extBut _ _ mO (s2.extBut _ _ mi (s1.extBut _ _ mz e))) hy fun h4 hj4 s4 => wpAny_pure ?_)
 have hO4 : IsPair h4 O x q := s4.extBut _ _ Oj hO3
 refine wpAny_bind (wpAny_seqItems hO4 rfl (wpAny_bind (wpAny_updateSeq_pair hO4 fun h5 hO5 s5 => ?_)))
 replace hO5 : IsPair h5 O x y := hO5
 refine wpAny_bind (wpAny_letGo (wpAny_pure (wpAny_pure (wpAny_bind (wpAny_seqItems hO5 rfl (wpAny_bind (wpAny_newTuple ?_)))))))
 have sz : h5.objs.size = s.heap.objs.size := by rw [s5.1, s4.1, s3.1, s2.1, s1.1]
 have hZ5 : IsZip h5 z U O .ellipsis := s5.extBut _ _ zO (s4.extBut _ _ zj (s3.extBut _ _ zO (s2.extBut _ _ zi hZ1)))
 have kp : ∀ a o, a ∉ [z, O, i, j] -> s.heap.get? a = some o -> h5.get? a = some o := fun a o ha e => by
  simp only [List.mem_cons, List.not_mem_nil, or_false, not_or] at ha
  exact s5.extBut _ _ ha.2.1 (s4.extBut _ _ ha.2.2.2 (s3.extBut _ _ ha.2.1 (s2.extBut _ _ ha.2.2.1 (s1.extBut _ _ ha.1 e))))
 have hi5 : SeqIt b h5 i l (k + 1) := hi2.move fun o e => s5.extBut _ _ (Ne.symm Oi) (s4.extBut _ _ ij (s3.extBut _ _ (Ne.symm Oi) e))
 have hj5 : SeqIt c h5 j m (k + 1) := hj4.move fun o e => s5.extBut _ _ (Ne.symm Oj) e
 have zlt : z < h5.objs.size := Heap.lt_size hZ5
 show wpAny _ _ (Builtin.SmallTypes.ownedTupleHandOut (.ref z) (.ref h5.objs.size) >>= _) _ _ _
 refine wpAny_bind ?_
 unfold Builtin.SmallTypes.ownedTupleHandOut
 have hZ6 : IsZip (h5.push { cls := .type "tuple", data := .seq #[x, y] }) z U O .ellipsis := Heap.get?_push_of_some _ hZ5
 refine wpAny_bind (wpAny_setField_rec hZ6 (by simp) fun h7 hZ7 s7 => ?_)
 replace hZ7 : IsZip h7 z U O (rawInt h5.objs.size) := hZ7
 refine wpAny_setField_rec hZ7 (by simp) fun h8 hZ8 s8 => ?_
 replace hZ8 : IsZip h8 z U O (rawInt h5.objs.size) := hZ8
 have up : ∀ a o, a ≠ z -> h5.get? a = some o -> h8.get? a = some o := fun a o na e => s8.extBut _ _ na (s7.extBut _ _ na (Heap.get?_push_of_some _ e))
 have hT : IsPair h8 h5.objs.size x y := s8.extBut _ _ (Nat.ne_of_gt zlt) (s7.extBut _ _ (Nat.ne_of_gt zlt) (Heap.get?_push_size _ rfl))
 have sz8 : h8.objs.size = h5.objs.size + 1 := by rw [s8.1, s7.1, Heap.size_push]
 rw [sz] at hZ8 hT sz8
 refine wpAny_pure ⟨_, rfl, ?_⟩
 show Q (.ref h5.objs.size) _
 rw [sz]
 refine fin h8 hZ8 (up _ _ (Ne.symm zO) hO5) (hi5.move fun o e => up _ o (Ne.symm zi) e) (hj5.move fun o e => up _ o (Ne.symm zj) e) hT sz8 fun a o ha e => up a o ?_ (kp a o ha e)
 simp only [List.mem_cons, List.not_mem_nil, or_false, not_or] at ha
 exact ha.1
theorem zip_stop {b c : Bool} {z U O i j l m : Addr} {k : Nat} {xs ys : Array Value} {p q : Value} {Q : Fin -> Shared -> Prop} (hA : A.handled = none) (D : Apart z U O i j l m) (hZ : IsZip s.heap z U O .none) (hU : IsPair s.heap U (.ref i) (.ref j)) (hO : IsPair s.heap O p q)
  (hi : SeqIt b s.heap i l k) (hj : SeqIt c s.heap j m k) (hl : SeqOb b s.heap l xs) (hm : SeqOb c s.heap m ys) (hend : xs[k]? = none \/ ys[k]? = none)
  (fin : ∀ g e, (∀ a o, a ∉ [z, O, i, j] -> s.heap.get? a = some o -> g.get? a = some o) -> (∃ o, g.get? e = some o /\ o.cls = .type "StopIteration") -> E (.ref e) { s with heap := g }) :
  wpAny (model prog w) A (Builtin.«zip.__next__» ⟨[.ref z], []⟩) Q E s := by
 obtain ⟨nd, nl, nm⟩ := D
 simp only [List.nodup_cons, List.mem_cons, List.not_mem_nil, or_false, not_or, List.nodup_nil, and_true, not_false_eq_true] at nd nl nm
 obtain ⟨⟨zU, zO, zi, zj⟩, ⟨UO, Ui, Uj⟩, ⟨Oi, Oj⟩, ij⟩ := nd
 obtain ⟨lz, lO, li, lj⟩ := nl
 obtain ⟨mz, mO, mi, mj⟩ := nm
 show wpAny _ _ (field (.ref z) 2 >>= _) _ _ _
 refine wpAny_bind (wpAny_field hZ rfl (x := .bool false) rfl ?_)
 show wpAny _ _ (field (.ref z) 3 >>= _) _ _ _
 refine wpAny_bind (wpAny_field hZ rfl (x := .ref U) rfl (wpAny_bind (wpAny_seqItems hU rfl ?_)))
 show wpAny _ _ (Builtin.SmallTypes.ownedTupleIsFree (.ref z) >>= _) _ _ _
 refine wpAny_bind ?_
 unfold Builtin.SmallTypes.ownedTupleIsFree
 refine wpAny_bind (wpAny_field hZ rfl (x := .none) rfl (wpAny_pure ?_))
 simp only [if_true]
 refine wpAny_bind (wpAny_rule (wpAny_bind (wpAny_field hZ rfl (x := .ref O) rfl (wpAny_bind (wpAny_setField_rec hZ (by simp) fun h1 hZ1 s1 => ?_)))))
 replace hZ1 : IsZip h1 z U O .ellipsis := hZ1
 refine wpAny_bind ?_
 simp only [List.zipIdx_cons, List.zipIdx_nil, List.forIn_cons, List.forIn_nil]
 refine wpAny_bind (wpAny_bind (wpAny_onRaise ?_))
 show wpAny _ _ (Builtin.SmallTypes.nextOf (.ref i) >>= _) _ _ _
 have out : ∀ {a : Addr}, a ∉ [z, O, i, j] -> a ≠ z /\ a ≠ O /\ a ≠ i /\ a ≠ j := fun ha => by simpa only [List.mem_cons, List.not_mem_nil, or_false, not_or] using ha
 cases hx : xs[k]? with
 | none =>
  refine wpAny_bind (nextOf_seq_end hA (hi.move fun o e => s1.extBut _ _ (Ne.symm zi) e) (hl.move fun o e => s1.extBut _ _ lz e) hx fun h2 e s2 he => ?_)
  obtain ⟨oe, hoe, hce⟩ := he
  have hZ2 : IsZip h2 z U O .ellipsis := s2 _ _ zi hZ1
  have ez : e ≠ z := fun t => by subst t; rw [hZ2] at hoe; cases hoe; simp at hce
  exact wpAny_setField_rec hZ2 (by simp) fun h3 _ s3 => fin h3 e (fun a o ha t => s3.extBut _ _ (out ha).1 (s2 _ _ (out ha).2.2.1 (s1.extBut _ _ (out ha).1 t))) ⟨oe, s3.extBut _ _ ez hoe, hce⟩
 | some x =>
  have hy : ys[k]? = none := by
   rcases hend with t | t
   ·rw [hx] at t; cases t
   ·exact t
  refine wpAny_bind (nextOf_seq_item (hi.move fun o e => s1.extBut _ _ (Ne.symm zi) e) (hl.move fun o e => s1.extBut _ _ lz e) hx fun h2 hi2 s2 => wpAny_pure ?_)
  have hO2 : IsPair h2 O p q := s2.extBut _ _ Oi (s1.extBut _ _ (Ne.symm zO) hO)
  refine wpAny_bind (wpAny_seqItems hO2 rfl (wpAny_bind (wpAny_updateSeq_pair hO2 fun h3 hO3 s3 => ?_)))
  refine wpAny_bind (wpAny_letGo (wpAny_pure (wpAny_bind (wpAny_bind (wpAny_onRaise ?_)))))
  show wpAny _ _ (Builtin.SmallTypes.nextOf (.ref j) >>= _) _ _ _
  refine wpAny_bind (nextOf_seq_end hA (hj.move fun o e => s3.extBut _ _ (Ne.symm Oj) (s2.extBut _ _ (Ne.symm ij) (s1.extBut _ _ (Ne.symm zj) e))) (hm.move fun o e => s3.extBut _ _ mO (s2.extBut _ _ mi (s1.extBut _ _ mz e))) hy fun h4 e s4 he => ?_)
  obtain ⟨oe, hoe, hce⟩ := he
  have hZ4 : IsZip h4 z U O .ellipsis := s4 _ _ zj (s3.extBut _ _ zO (s2.extBut _ _ zi hZ1))
  have ez : e ≠ z := fun t => by subst t; rw [hZ4] at hoe; cases hoe; simp at hce
  exact wpAny_setField_rec hZ4 (by simp) fun h5 _ s5 => fin h5 e (fun a o ha t => s5.extBut _ _ (out ha).1 (s4 _ _ (out ha).2.2.2 (s3.extBut _ _ (out ha).2.1 (s2.extBut _ _ (out ha).2.2.1 (s1.extBut _ _ (out ha).1 t))))) ⟨oe, s5.extBut _ _ ez hoe, hce⟩
theorem zip_laid (g2 : Heap) (n : Nat) (e2 : g2.objs.size = n + 2) (i j : Value) : ∃ g5, g5 = ((g2.push { cls := .type "tuple", data := .seq #[i, j] }).push { cls := .type "tuple", data := .seq #[.none, .none] }).push
   { cls := .type "zip", data := .fields #[.none, .bool false, .bool false, .ref g2.objs.size, .ref (g2.push { cls := .type "tuple", data := .seq #[i, j] }).objs.size] } /\
  IsZip g5 (n + 4) (n + 2) (n + 3) .none /\ IsPair g5 (n + 2) i j /\ IsPair g5 (n + 3) .none .none /\ (∀ a o, g2.get? a = some o -> g5.get? a = some o) /\
  ((g2.push { cls := .type "tuple", data := .seq #[i, j] }).push { cls := .type "tuple", data := .seq #[.none, .none] }).objs.size = n + 4 := by
 have e3 : (g2.push { cls := .type "tuple", data := .seq #[i, j] }).objs.size = n + 3 := by rw [Heap.size_push, e2]
 have e4 : ((g2.push { cls := .type "tuple", data := .seq #[i, j] }).push { cls := .type "tuple", data := .seq #[.none, .none] }).objs.size = n + 4 := by rw [Heap.size_push, e3]
 refine ⟨_, rfl, ?_, ?_, ?_, fun a o e => Heap.get?_push_of_some _ (Heap.get?_push_of_some _ (Heap.get?_push_of_some _ e)), e4⟩
 ·have q := Heap.get?_push_size ((g2.push { cls := .type "tuple", data := .seq #[i, j] }).push { cls := .type "tuple", data := .seq #[.none, .none] }) (o := { cls := .type "zip", data := .fields #[.none, .bool false, .bool false, .ref g2.objs.size, .ref (g2.push { cls := .type "tuple", data := .seq #[i, j] }).objs.size] }) rfl
  rw [e4] at q
  show _ = some _
  rw [q, e2, e3]
 ·have q := Heap.get?_push_of_some { cls := .type "zip", data := .fields #[.none, .bool false, .bool false, .ref g2.objs.size, .ref (g2.push { cls := .type "tuple", data := .seq #[i, j] }).objs.size] } (Heap.get?_push_of_some { cls := .type "tuple", data := .seq #[.none, .none] } (Heap.get?_push_size g2 (o := { cls := .type "tuple", data := .seq #[i, j] }) rfl))
  rw [<- e2]
  exact q
 ·have q := Heap.get?_push_of_some { cls := .type "zip", data := .fields #[.none, .bool false, .bool false, .ref g2.objs.size, .ref (g2.push { cls := .type "tuple", data := .seq #[i, j] }).objs.size] } (Heap.get?_push_size (g2.push { cls := .type "tuple", data := .seq #[i, j] }) (o := { cls := .type "tuple", data := .seq #[.none, .none] }) rfl)
  rw [<- e3]
  exact q
theorem meets_zip {b c : Bool} (l m : Addr) (xs ys : Array Value) : Meets (Builtin.«zip.__new__» ⟨[.type "zip", .ref l, .ref m], []⟩) (fun _ R s => SeqOb b s.heap l xs /\ SeqOb c s.heap m ys /\
   ∀ g, IsZip g (s.heap.objs.size + 4) (s.heap.objs.size + 2) (s.heap.objs.size + 3) .none -> IsPair g (s.heap.objs.size + 2) (.ref s.heap.objs.size) (.ref (s.heap.objs.size + 1)) -> IsPair g (s.heap.objs.size + 3) .none .none ->
    SeqIt b g s.heap.objs.size l 0 -> SeqIt c g (s.heap.objs.size + 1) m 0 -> (∀ a o, s.heap.get? a = some o -> g.get? a = some o) -> R (.ok (.ret (.ref (s.heap.objs.size + 4)))) { s with heap := g }) :=
 .of_wp fun prog w A R s h => by
  obtain ⟨hp, g, d, tk, os⟩ := s
  obtain ⟨hl, hm, h⟩ := h
  have hsub := sub_zip
  wp_walk using pyIter_seq hl
  intro g1 i1 z1 k1
  have hm1 : SeqOb c (Shared.heap ⟨g1, g, d, tk, os⟩) m ys := hm.move fun o e => k1 _ o e
  wp_walk using pyIter_seq hm1
  intro g2 i2 z2 k2
  wp_walk
  refine ⟨_, rfl, ?_⟩
  have e1 : g1.objs.size = hp.objs.size + 1 := z1
  have e2 : g2.objs.size = hp.objs.size + 2 := by rw [show g2.objs.size = g1.objs.size + 1 from z2, e1]
  obtain ⟨g5, e5, a1, a2, a3, k5, s5⟩ := zip_laid g2 hp.objs.size e2 (.ref hp.objs.size) (.ref g1.objs.size)
  have a2' : IsPair g5 (hp.objs.size + 2) (.ref hp.objs.size) (.ref (hp.objs.size + 1)) := by rw [<- e1]; exact a2
  have i2' : SeqIt c g2 (hp.objs.size + 1) m 0 := by rw [<- e1]; exact i2
  have key := h g5 a1 a2' a3 ((i1.move fun o e => k2 _ o e).move fun o e => k5 _ o e) (i2'.move fun o e => k5 _ o e) fun a o e => k5 _ _ (k2 _ _ (k1 _ _ e))
  dsimp only at key
  rw [e5, <- s5] at key
  exact key
theorem Inv.turnedL {X : Cx} {pins : List (Addr × Obj)} {σ : St} {H : Hp} {s : Shared} {g : Heap} {tk : Nat} {ch : List Addr} (I : Inv X pins σ H s) (k : ∀ b o, b ∉ ch -> s.heap.get? b = some o -> g.get? b = some o) (hch : ∀ b ∈ ch, FpOk X pins H b) : Inv X pins σ H { s with heap := g, toks := tk } := by
 have nch : ∀ b u, H b = some u -> b ∉ ch := fun b u e z => by rw [(hch b z).1] at e; cases e
 refine I.step (g' := s.gens) (d' := s.drawn) (ch := ch) (fun b hb => ⟨(hch b hb).2.2.2.1, (hch b hb).2.1, (hch b hb).2.2.2.2.1, (hch b hb).2.2.2.2.2⟩) (fun b o _ _ hc e _ => k b o hc e) (fun b o _ _ hc e _ => ⟨o.slots, k b o hc e⟩) (fun _ _ _ _ n => n)
  (fun b o hc e => ⟨o, k b o hc e⟩) (fun _ _ e => e) (fun _ _ _ e => e) (fun b ps e => ⟨#[], by rw [e]; simp⟩) (fun m hm => ?_) (fun b u e => ?_) I.bare
 ·obtain ⟨o, es, ep, ho, r⟩ := hm
  exact ⟨o, es, ep, k _ o (fun z => (hch _ z).2.1 rfl) ho, r⟩
 ·refine (I.hok b u e).stay (fun c v hc q => k c v ?_ q) (fun _ q => q) fun _ _ q => q
  rcases hc with z | z
  ·rw [z]; exact nch b u e
  ·exact nch c _ z
theorem Inv.pair {X : Cx} {pins : List (Addr × Obj)} {σ : St} {H : Hp} {s : Shared} {g : Heap} {tk n : Nat} {ch : List Addr} {x y : V} {u v : Value} (I : Inv X pins σ H s) (k : ∀ b o, b ∉ ch -> s.heap.get? b = some o -> g.get? b = some o) (hch : ∀ b ∈ ch, FpOk X pins H b)
  (rx : RelV x u) (ry : RelV y v) (e : g.get? s.heap.objs.size = some { cls := .type "tuple", data := .seq #[u, v] n }) : H s.heap.objs.size = none /\ Inv X pins σ (upd H s.heap.objs.size (.tup [x, y])) { s with heap := g, toks := tk } := by
 have f := I.fpOk (Nat.le_refl _) I.fresh
 refine ⟨f.1, (I.turnedL (tk := tk) k hch).track f.1 (Heap.get?_none_of_le I.sz) (Heap.get?_none_of_le (Nat.le_trans I.ok.bsz I.sz)) (Ne.symm f.2.1) f.2.2.2.2.1 f.2.2.2.2.2 (fun b hb z => f.2.2.1 (z ▸ hb)) ?_⟩
 exact ⟨by show 2 <= sizeLine; decide, [u, v], .cons rx (.cons ry .nil), _, e, rfl, n, rfl⟩
theorem Inv.sq {X : Cx} {pins : List (Addr × Obj)} {σ : St} {H : Hp} {s : Shared} {b : Bool} {a : Addr} {xs : List V} (I : Inv X pins σ H s) (h : SqX X.K b H a xs) : ∃ its : List Value, Vals xs its /\ SeqOb b s.heap a its.toArray := by
 cases b with
 | true =>
  obtain ⟨its, r, p, _⟩ := I.tuple h
  exact ⟨its, r, p⟩
 | false =>
  obtain ⟨its, r, p, _⟩ := I.list h
  exact ⟨its, r, p.isList⟩
theorem Inv.sq_inj {X : Cx} {pins : List (Addr × Obj)} {σ : St} {H : Hp} {s : Shared} {b : Bool} {a : Addr} {xs ys : List V} (I : Inv X pins σ H s) (h : SqX X.K b H a xs) (h' : SqX X.K b H a ys) : xs = ys := by
 cases b with
 | true => exact I.tuple_inj h h'
 | false => exact I.list_inj h h'
def Itz (K : PySem.W.Frag) (b c : Bool) (l m : Addr) : It :=
 ⟨fun i H => ∃ xs ys x y, SqX K b H l xs /\ SqX K c H m ys /\ xs[i]? = some x /\ ys[i]? = some y,
  fun i H v H' => ∃ (T : Addr) (x y : V), v = .ref T /\ H T = none /\ H' = upd H T (.tup [x, y]) /\ (∀ xs, SqX K b H l xs -> xs[i]? = some x) /\ ∀ ys, SqX K c H m ys -> ys[i]? = some y,
  fun i H => ∃ xs ys, SqX K b H l xs /\ SqX K c H m ys /\ (xs.length <= i \/ ys.length <= i)⟩
def ZipTn (b c : Bool) (z U O i j l m : Addr) (k : Nat) (h : Heap) : Prop := IsZip h z U O .none /\ IsPair h U (.ref i) (.ref j) /\ (∃ p q, IsPair h O p q) /\ SeqIt b h i l k /\ SeqIt c h j m k
theorem turn_zip {P : Program} {w : World} {K : PySem.W.Frag} {es : List Expr} {n : Nat} {tpos : Pos} {b c : Bool} {z U O i j l m : Addr} (D : Apart z U O i j l m) : Turn P w K (.Tuple es n tpos) (Itz K b c l m) [z, U, O, i, j] z (ZipTn b c z U O i j l m) where
 mem := by simp
 obj := fun k h st a ha => by
  obtain ⟨hZ, hU, ⟨p, q, hO⟩, hi, hj⟩ := st
  simp only [List.mem_cons, List.not_mem_nil, or_false] at ha
  rcases ha with rfl | rfl | rfl | rfl | rfl
  ·exact ⟨_, hZ, fun v t => by cases t⟩
  ·exact ⟨_, hU, fun v t => by cases t⟩
  ·exact ⟨_, hO, fun v t => by cases t⟩
  ·exact hi.there
  ·exact hj.there
 keep := fun k h h' st kp => by
  obtain ⟨hZ, hU, ⟨p, q, hO⟩, hi, hj⟩ := st
  exact ⟨kp z (by simp) _ hZ, kp U (by simp) _ hU, ⟨p, q, kp O (by simp) _ hO⟩, hi.move fun o e => kp i (by simp) o e, hj.move fun o e => kp j (by simp) o e⟩
 item := by
  intro X hP hw hK hc k pins s σ H E I hf st hg
  subst hP hw hK
  obtain ⟨hZ, hU, ⟨p, q, hO⟩, hi, hj⟩ := st
  obtain ⟨xs, ys, x, y, sx, sy, hx, hy⟩ := hg
  obtain ⟨us, ru, ou⟩ := I.sq sx
  obtain ⟨vs, rv, ov⟩ := I.sq sy
  obtain ⟨u, hu, rxu⟩ := ru.get hx
  obtain ⟨v, hv, ryv⟩ := rv.get hy
  have hT : s.TypeIs (.ref z) "zip" := ⟨_, hZ, rfl⟩
  unfold pyNext
  refine wpAny_bind (wpAny_attempt (wpAny_callSpecial?_slot (name := Str.ofString "__next__") hT F.slot_zip_next (wpAny_call_entry F.slot_zip_next hT F.entry_zip_next (zip_step D hZ hU hO hi hj ou ov (by simpa using hu) (by simpa using hv) fun g gZ gO gi gj gT gs gk => wpAny_pure ⟨_, rfl, ?_⟩) (F.args_zip_next_1 _))))
  refine wpAny_letOwnedTupleGo_zip (s := { s with heap := g }) gZ fun g2 gZ2 sb => ?_
  obtain ⟨nd, nl, nm⟩ := D
  simp only [List.nodup_cons, List.mem_cons, List.not_mem_nil, or_false, not_or, List.nodup_nil, and_true, not_false_eq_true] at nd
  obtain ⟨⟨zU, zO, zi, zj⟩, ⟨UO, Ui, Uj⟩, ⟨Oi, Oj⟩, ij⟩ := nd
  have zlt : z < s.heap.objs.size := Heap.lt_size hZ
  have kk : ∀ a o, a ∉ [z, O, i, j] -> s.heap.get? a = some o -> g2.get? a = some o := fun a o ha e => (sb.2 a (fun t => ha (by simp [t]))).trans (gk a o ha e)
  have fch : ∀ a ∈ [z, O, i, j], FpOk X pins H a := fun a ha => hf a (by
   simp only [List.mem_cons, List.not_mem_nil, or_false] at ha ⊢
   rcases ha with t | t | t | t <;> simp [t])
  obtain ⟨nT, J⟩ := I.pair (tk := s.toks) kk fch rxu ryv ((sb.2 _ (Nat.ne_of_gt zlt)).trans gT)
  refine ⟨.ref s.heap.objs.size, _, J, rfl, ⟨_, x, y, rfl, nT, rfl, fun xs' q' => by rw [I.sq_inj q' sx]; exact hx, fun ys' q' => by rw [I.sq_inj q' sy]; exact hy⟩, ⟨gZ2, kk U _ ?_ hU, ⟨u, v, (sb.2 O (Ne.symm zO)).trans gO⟩, gi.move fun o e => (sb.2 i (Ne.symm zi)).trans e, gj.move fun o e => (sb.2 j (Ne.symm zj)).trans e⟩, fun a ha => ?_⟩
  ·simp only [List.mem_cons, List.not_mem_nil, or_false, not_or]
   exact ⟨Ne.symm zU, UO, Ui, Uj⟩
  ·have e := (hf a ha).1
   have lt : a ≠ s.heap.objs.size := by
    simp only [List.mem_cons, List.not_mem_nil, or_false] at ha
    rcases ha with t | t | t | t | t <;> subst t
    ·exact Nat.ne_of_lt zlt
    ·exact Nat.ne_of_lt (Heap.lt_size hU)
    ·exact Nat.ne_of_lt (Heap.lt_size hO)
    ·obtain ⟨o, e, _⟩ := hi.there; exact Nat.ne_of_lt (Heap.lt_size e)
    ·obtain ⟨o, e, _⟩ := hj.there; exact Nat.ne_of_lt (Heap.lt_size e)
   rw [upd_ne lt]
   exact e
 done := by
  intro X hP hw hK hc k pins s σ H E I hf st hg
  subst hP hw hK
  obtain ⟨hZ, hU, ⟨p, q, hO⟩, hi, hj⟩ := st
  obtain ⟨xs, ys, sx, sy, hend⟩ := hg
  obtain ⟨us, ru, ou⟩ := I.sq sx
  obtain ⟨vs, rv, ov⟩ := I.sq sy
  have lu := ru.length
  have lv := rv.length
  have hT : s.TypeIs (.ref z) "zip" := ⟨_, hZ, rfl⟩
  have he : us.toArray[k]? = none \/ vs.toArray[k]? = none := hend.imp (fun t => by simp; lia) (fun t => by simp; lia)
  unfold pyNext
  refine wpAny_bind (wpAny_attempt (wpAny_callSpecial?_slot (name := Str.ofString "__next__") hT F.slot_zip_next (wpAny_call_entry F.slot_zip_next hT F.entry_zip_next (zip_stop (I.ok.hd hc) D hZ hU hO hi hj ou ov he fun g e gk ge => ?_) (F.args_zip_next_1 _))))
  obtain ⟨o, ho, hcl⟩ := ge
  refine wpAny_bind (wpAny_isInstance (T := "StopIteration") (b := true) ⟨o, ho, hcl⟩ isSubtype_stop (wpAny_pure ⟨rfl, ?_⟩))
  exact I.turnedL (tk := s.toks) gk fun a ha => hf a (by
   simp only [List.mem_cons, List.not_mem_nil, or_false] at ha ⊢
   rcases ha with t | t | t | t <;> simp [t])
 self := fun _ _ _ _ _ st h => wpAny_pyIter_zip st.1 h
end
end L2
namespace L2
open PySem PySem.Spec PyProof.Rows
theorem SeqOb.obj {b : Bool} {h : Heap} {l : Addr} {vs : Array Value} (x : SeqOb b h l vs) : ∃ o, h.get? l = some o := by
 cases b with
 | true => obtain ⟨o, e, _⟩ := x; exact ⟨o, e⟩
 | false => obtain ⟨o, e, _⟩ := x; exact ⟨o, e⟩
theorem enum_laid (g1 : Heap) (n : Nat) (e1 : g1.objs.size = n + 1) : ∃ g2, g2 = g1.push { cls := .type "enumerate", data := .fields #[.none, .bool false, .ref n, rawInt 0, .none, .none] } /\ IsEnum g2 (n + 1) n 0 .none /\ ∀ a o, g1.get? a = some o -> g2.get? a = some o := by
 refine ⟨_, rfl, ?_, fun a o e => Heap.get?_push_of_some _ e⟩
 have q := Heap.get?_push_size g1 (o := { cls := .type "enumerate", data := .fields #[.none, .bool false, .ref n, rawInt 0, .none, .none] }) rfl
 rw [e1] at q
 exact q
set_option maxHeartbeats 1000000 in
theorem meets_enum {b : Bool} (l : Addr) (xs : Array Value) : Meets (Builtin.«enumerate.__new__» ⟨[.type "enumerate", .ref l], []⟩) (fun _ R s => SeqOb b s.heap l xs /\
   ∀ g, IsEnum g (s.heap.objs.size + 1) s.heap.objs.size 0 .none -> SeqIt b g s.heap.objs.size l 0 -> (∀ a o, s.heap.get? a = some o -> g.get? a = some o) -> R (.ok (.ret (.ref (s.heap.objs.size + 1)))) { s with heap := g }) :=
 .of_wp fun prog w A R s h => by
  obtain ⟨hp, g, d, tk, os⟩ := s
  obtain ⟨hl, h⟩ := h
  obtain ⟨ol, eol⟩ := hl.obj
  have hsub := sub_enumerate
  have fin : ∀ g1, SeqIt b g1 hp.objs.size l 0 -> g1.objs.size = hp.objs.size + 1 -> (∀ c o, hp.get? c = some o -> g1.get? c = some o) -> ∃ v, Fin.done (Flow.ret (.ref g1.objs.size)) = Fin.done (Flow.ret v) /\ R (.ok (.ret v)) ⟨g1.push { cls := .type "enumerate", data := .fields #[.none, .bool false, .ref hp.objs.size, rawInt 0, .none, .none] }, g, d, tk, os⟩ := fun g1 i1 z1 k1 => by
   obtain ⟨g2, e2, a1, k2⟩ := enum_laid g1 hp.objs.size z1
   refine ⟨_, rfl, ?_⟩
   have key := h g2 a1 (i1.move fun o e => k2 _ o e) fun a o e => k2 _ _ (k1 _ _ e)
   dsimp only at key
   rw [e2, <- z1] at key
   exact key
  wp_walk using AutoSeq1.wpAny_loadPart' eol
  refine wpAny_stack_any fun st => wpAny_pure ?_
  split
  ·rename_i c' _ _ _ _ _
   cases (c' == Value.type "enumerate")
   ·wp_walk using AutoSeq1.wpAny_loadPart' eol, pyIter_seq hl
    intro g1 i1 z1 k1
    wp_walk
    exact fin g1 i1 z1 k1
   ·wp_walk using AutoSeq1.wpAny_loadPart' eol, pyIter_seq hl
    intro g1 i1 z1 k1
    wp_walk
    exact fin g1 i1 z1 k1
  ·wp_walk using AutoSeq1.wpAny_loadPart' eol, pyIter_seq hl
   intro g1 i1 z1 k1
   wp_walk
   exact fin g1 i1 z1 k1
theorem draws_seq {prog : Program} {w : World} {A : Around} {b : Bool} (hA : A.handled = none) (I l : Addr) (ne : l ≠ I) (vs : Array Value) :
  Draws prog w A I [I, l] vs.size (fun k v => vs[k]? = some v) (fun k h => SeqIt b h I l k /\ SeqOb b h l vs) where
 live := fun _ _ st => let ⟨o, ho, _⟩ := st.1.there; ⟨o, ho⟩
 frame := fun _ _ _ st hk => ⟨st.1.move fun o e => hk I (by simp) o e, st.2.move fun o e => hk l (by simp) o e⟩
 item := fun k s Q E hi st hQ => nextOf_seq_item st.1 st.2 (v := vs[k]) (by simp [hi]) fun g hI sb => hQ _ g s.toks (by simp [hi]) ⟨hI, st.2.move fun o e => (sb.2 l ne).trans e⟩ sb
 done := fun s Q E st hE => nextOf_seq_end hA st.1 st.2 (by simp) hE
def Ite (K : PySem.W.Frag) (b : Bool) (l : Addr) : It :=
 ⟨fun i H => ∃ xs x, SqX K b H l xs /\ xs[i]? = some x,
  fun i H v H' => ∃ (T : Addr) (x : V), v = .ref T /\ H T = none /\ H' = upd H T (.tup [.int i, x]) /\ ∀ xs, SqX K b H l xs -> xs[i]? = some x,
  fun i H => ∃ xs, SqX K b H l xs /\ xs.length = i⟩
theorem turn_enum {P : Program} {w : World} {K : PySem.W.Frag} {es : List Expr} {n : Nat} {tpos : Pos} {b : Bool} {e I l : Addr} (eI : e ≠ I) (le : l ≠ e) (lI : l ≠ I) :
  Turn P w K (.Tuple es n tpos) (Ite K b l) [e, I] e (fun k h => (∃ old, IsEnum h e I k old) /\ SeqIt b h I l k) where
 mem := by simp
 obj := fun k h st a ha => by
  obtain ⟨⟨old, he⟩, hI⟩ := st
  simp only [List.mem_cons, List.not_mem_nil, or_false] at ha
  rcases ha with rfl | rfl
  ·exact ⟨_, he, fun v t => by cases t⟩
  ·exact hI.there
 keep := fun k h h' st kp => by
  obtain ⟨⟨old, he⟩, hI⟩ := st
  exact ⟨⟨old, kp e (by simp) _ he⟩, hI.move fun o t => kp I (by simp) o t⟩
 item := by
  intro X hP hw hK hc k pins s σ H E J hf st hg
  subst hP hw hK
  obtain ⟨⟨old, he⟩, hI⟩ := st
  obtain ⟨xs, x, sx, hx⟩ := hg
  obtain ⟨us, ru, ou⟩ := J.sq sx
  have lu := ru.length
  have hk : k < xs.length := (List.getElem?_eq_some_iff.mp hx).1
  refine wpAny_pyNext_enum_itemD (draws_seq (b := b) (A := X.A.in1) (J.ok.hd hc) I l lI us.toArray) he ⟨hI, ou⟩ (by simp; lia) eI (by simp [eI, Ne.symm le]) fun u g tk hu gE gS gT gs gk => ⟨_, rfl, ?_⟩
  obtain ⟨u', hu', rxu⟩ := ru.get hx
  have eu : u = u' := by
   have : us[k]? = some u := by simpa using hu
   rw [hu'] at this
   exact (Option.some.inj this).symm
  subst eu
  refine wpAny_letOwnedTupleGo_enum (s := { s with heap := g, toks := tk + 1 }) gE fun g2 gE2 sb => ?_
  have elt : e < s.heap.objs.size := Heap.lt_size he
  have kk : ∀ a o, a ∉ [e, I] -> s.heap.get? a = some o -> g2.get? a = some o := fun a o ha t => (sb.2 a (fun z => ha (by simp [z]))).trans (gk a o (fun z => ha (by simp [z])) (fun z => ha (by simp [z])) t)
  obtain ⟨nT, J2⟩ := J.pair (tk := tk + 1) (x := .int k) (u := .int k tk) kk hf ⟨tk, rfl⟩ rxu ((sb.2 _ (Nat.ne_of_gt elt)).trans gT)
  refine ⟨.ref s.heap.objs.size, _, J2, rfl, ⟨_, x, rfl, nT, rfl, fun xs' q' => by rw [J.sq_inj q' sx]; exact hx⟩, ⟨⟨_, by simpa using gE2⟩, gS.1.move fun o t => (sb.2 I (Ne.symm eI)).trans t⟩, fun a ha => ?_⟩
  have t := (hf a ha).1
  have lt : a ≠ s.heap.objs.size := by
   simp only [List.mem_cons, List.not_mem_nil, or_false] at ha
   rcases ha with z | z <;> subst z
   ·exact Nat.ne_of_lt elt
   ·obtain ⟨o, t, _⟩ := hI.there; exact Nat.ne_of_lt (Heap.lt_size t)
  rw [upd_ne lt]
  exact t
 done := by
  intro X hP hw hK hc k pins s σ H E J hf st hg
  subst hP hw hK
  obtain ⟨⟨old, he⟩, hI⟩ := st
  obtain ⟨xs, sx, hend⟩ := hg
  obtain ⟨us, ru, ou⟩ := J.sq sx
  have lu := ru.length
  have ek : k = us.toArray.size := by simp; lia
  refine wpAny_pyNext_enum_endD (draws_seq (b := b) (A := X.A.in1) (J.ok.hd hc) I l lI us.toArray) he ⟨ek ▸ hI, ou⟩ fun g gk => ⟨rfl, ?_⟩
  exact J.turnedL (tk := s.toks) (ch := [e, I]) (fun a o ha t => gk a o (fun z => ha (by simp [z])) t) hf
 self := fun A i s Q E st h => by
  obtain ⟨⟨old, he⟩, _⟩ := st
  exact wpAny_pyIter_enum he h
section
variable {X : Cx} {es : List Expr} {n : Nat} {tpos p pos : Pos} {e1 e2 : Expr} {t : TA}
def iZip (b c : Bool) (K : PySem.W.Frag) (t : TA) : TI := fun σ H R => t σ H fun vs H1 => ∃ (l m : Addr), vs = [.ref l, .ref m] /\ (∃ xs, SqX K b H1 l xs) /\ (∃ ys, SqX K c H1 m ys) /\ R (Itz K b c l m) H1
theorem SeqOb.lt {b : Bool} {h : Heap} {l : Addr} {vs : Array Value} (x : SeqOb b h l vs) : l < h.objs.size := by
 cases b with
 | true => obtain ⟨o, e, _⟩ := x; exact Heap.lt_size e
 | false => obtain ⟨o, e, _⟩ := x; exact Heap.lt_size e
theorem apart5 (n l m : Nat) (hl : l < n) (hm : m < n) : Apart (n + 4) (n + 2) (n + 3) n (n + 1) l m := by
 refine ⟨(show ([n + 4, n + 2, n + 3, n, n + 1] : List Nat).Nodup from ?_), (show l ∉ ([n + 4, n + 3, n, n + 1] : List Nat) from ?_), (show m ∉ ([n + 4, n + 3, n, n + 1] : List Nat) from ?_)⟩
 ·simp only [List.nodup_cons, List.mem_cons, List.not_mem_nil, or_false, not_or, List.nodup_nil, and_true, not_false_eq_true]
  lia
 ·simp only [List.mem_cons, List.not_mem_nil, or_false, not_or]
  lia
 ·simp only [List.mem_cons, List.not_mem_nil, or_false, not_or]
  lia
theorem pi_zip (b c : Bool) (hg : Gl X "zip") (hm : X.mg "zip" = none) (ha : PA X [e1, e2] t) (hs : starEach [e1, e2] X.env = [(false, eval e1 X.env), (false, eval e2 X.env)] := by rfl) (hs2 : starEach [e2] X.env = [(false, eval e2 X.env)] := by rfl) :
  PI X (.Tuple es n tpos) (.Call (.Name "zip" p) [e1, e2] [] pos) (iZip b c X.K t) := by
 intro pins s σ H R I h
 refine Call_ (ld_blt I hg hm PyProof.Rows.boot_zip (PyProof.Rows.callWith_type1 (thn (ha pos pins s σ H _ I h) fun us s1 ⟨vs, H1, I1, r1, q1⟩ => ?_) (by rw [hs, hs2]) (by rw [hs2]; rfl)))
 obtain ⟨l, m, rfl, ⟨xs, sx⟩, ⟨ys, sy⟩, q⟩ := q1
 obtain ⟨u, v, rfl, ru, rv⟩ := r1.two
 cases (show u = Value.ref l from ru)
 cases (show v = Value.ref m from rv)
 obtain ⟨ul, _, ol⟩ := I1.sq sx
 obtain ⟨um, _, om⟩ := I1.sq sy
 refine callType_new F.called_zip (by decide) (F.typeCall_zip_2 _ _) (F.newCall_zip_2 _ _) (fun obj => F.args_object_init_3 obj _ _) F.entry_zip_new (meets_zip (b := b) (c := c) l m ul.toArray um.toArray) ⟨ol, om, fun g gZ gU gO gi gj gk => ?_⟩
 refine ⟨⟨_, gZ, rfl⟩, wpAny_pyIter_zip (s := { s1 with heap := g }) gZ ?_⟩
 have ll := ol.lt
 have lm := om.lt
 have hA := apart5 s1.heap.objs.size l m ll lm
 refine ⟨s1.heap.objs.size + 4, _, _, _, H1, rfl, I1.kept (t' := s1.toks) gk, turn_zip hA, ⟨gZ, gU, ⟨_, _, gO⟩, gi, gj⟩, fun a ha => ?_, q⟩
 have le : s1.heap.objs.size <= a := by
  simp only [List.mem_cons, List.not_mem_nil, or_false] at ha
  rcases ha with t | t | t | t | t <;> rw [t] <;> first | exact Nat.le_refl _ | exact Nat.le_add_right _ _
 exact I1.fpOk le (I1.hok.fresh le)
def iEnum (b : Bool) (K : PySem.W.Frag) (t : TA) : TI := fun σ H R => t σ H fun vs H1 => ∃ (l : Addr), vs = [.ref l] /\ (∃ xs, SqX K b H1 l xs) /\ R (Ite K b l) H1
theorem pi_enum (b : Bool) (hg : Gl X "enumerate") (hm : X.mg "enumerate" = none) (ha : PA X [e1] t) (hs : starEach [e1] X.env = [(false, eval e1 X.env)] := by rfl) :
  PI X (.Tuple es n tpos) (.Call (.Name "enumerate" p) [e1] [] pos) (iEnum b X.K t) := by
 intro pins s σ H R I h
 refine Call_ (ld_blt I hg hm PyProof.Rows.boot_enumerate (PyProof.Rows.callWith_type1 (thn (ha pos pins s σ H _ I h) fun us s1 ⟨vs, H1, I1, r1, q1⟩ => ?_) hs rfl))
 obtain ⟨l, rfl, ⟨xs, sx⟩, q⟩ := q1
 obtain ⟨u, rfl, ru⟩ := r1.one
 cases (show u = Value.ref l from ru)
 obtain ⟨ul, _, ol⟩ := I1.sq sx
 refine callType_new F.called_enumerate (by decide) (F.typeCall_enumerate_1 _) (F.newCall_enumerate_1 _) (fun obj => F.args_object_init_2 obj _) F.entry_enumerate_new (meets_enum (b := b) l ul.toArray) ⟨ol, fun g gE gi gk => ?_⟩
 refine ⟨⟨_, gE, rfl⟩, wpAny_pyIter_enum (s := { s1 with heap := g }) gE ?_⟩
 have ll := ol.lt
 refine ⟨s1.heap.objs.size + 1, _, _, _, H1, rfl, I1.kept (t' := s1.toks) gk, turn_enum (e := s1.heap.objs.size + 1) (I := s1.heap.objs.size) (l := l) (Nat.succ_ne_self _) (Nat.ne_of_lt (Nat.lt_succ_of_lt ll)) (Nat.ne_of_lt ll), ⟨⟨_, gE⟩, gi⟩, fun a ha => ?_, q⟩
 have le : s1.heap.objs.size <= a := by
  simp only [List.mem_cons, List.not_mem_nil, or_false] at ha
  rcases ha with t | t <;> rw [t] <;> first | exact Nat.le_refl _ | exact Nat.le_add_right _ _
 exact I1.fpOk le (I1.hok.fresh le)
end
section
variable {K : PySem.W.Frag} {b c : Bool} {l m : Addr} {xs ys : List V} {σ : St} {H : Hp}
theorem gpair {K : PySem.W.Frag} {i j : Nat} {T : Addr} {x y : V} {σ : St} {H : Hp} {Q : St -> Hp -> Prop} (h : H T = some (.tup [x, y])) (q : Q ((σ.set i (some x)).set j (some y)) H) : gTup K 2 (gCons (gName i) (gCons (gName j) gNil)) (.ref T) σ H Q :=
 ⟨T, _, rfl, SqT.of h, rfl, x, _, rfl, y, _, rfl, rfl, q⟩
theorem for_enum {g : TG} {tb : TS} {D : Ends} (Pv : Nat -> St -> Hp -> Prop) (h0 : Pv 0 σ H) (hl : ∀ i σ H, i <= xs.length -> Pv i σ H -> SqX K b H l xs)
  (hs : ∀ i x σ H T, xs[i]? = some x -> Pv i σ H -> H T = none -> g (.ref T) σ (upd H T (.tup [.int i, x])) fun σ2 H2 => tb { D with nx := Pv (i + 1), ct := Pv (i + 1), bk := D.nx } σ2 H2) (hd : ∀ σ H, Pv xs.length σ H -> D.nx σ H) :
  ∃ W : Nat -> Nat -> St -> Hp -> Prop, (∃ m, W 0 m σ H) /\ ∀ i m σ H, W i m σ H ->
   ((Ite K b l).stop i H /\ D.nx σ H) \/ ((Ite K b l).go i H /\ ∃ N : St -> Hp -> Prop, (∀ σ' H', N σ' H' -> ∃ m', m' < m /\ W (i + 1) m' σ' H') /\ ∀ x H', (Ite K b l).yld i H x H' -> g x σ H' fun σ2 H2 => tb { D with nx := N, ct := N, bk := D.nx } σ2 H2) := by
 refine ⟨fun i m σ H => m = xs.length - i /\ i <= xs.length /\ Pv i σ H, ⟨xs.length, by simp, Nat.zero_le _, h0⟩, ?_⟩
 rintro i m σ H ⟨rfl, hi, p⟩
 have q := hl i σ H hi p
 by_cases hlt : i < xs.length
 ·refine .inr ⟨⟨xs, xs[i], q, by simp [hlt]⟩, Pv (i + 1), fun σ' H' p' => ⟨xs.length - (i + 1), by lia, rfl, hlt, p'⟩, fun x H' y => ?_⟩
  obtain ⟨T, z, rfl, nT, rfl, hz⟩ := y
  exact hs i z σ _ T (hz xs q) p nT
 ·have e : i = xs.length := by lia
  subst e
  exact .inl ⟨⟨xs, q, rfl⟩, hd σ H p⟩
variable {k : Nat} {cs : List Nat} {g : TG} {tc : TT} {te : TE} {fin : List V -> Hp -> Prop}
theorem blk_zip (Pv : Nat -> List V -> Hp -> Prop) (h0 : Pv 0 [] H) (hl : ∀ i acc H, Pv i acc H -> SqX K b H l xs /\ SqX K c H m ys)
  (hs : ∀ i x y acc H T, xs[i]? = some x -> ys[i]? = some y -> Pv i acc H -> H T = none -> Bt k cs g tc te σ (.ref T) acc (upd H T (.tup [x, y])) (Pv (i + 1))) (hd : ∀ acc H, Pv (min xs.length ys.length) acc H -> fin acc H) : tBlock k cs g tc te (Itz K b c l m) σ H fin := by
 refine ⟨fun i n acc H => n = min xs.length ys.length - i /\ i <= min xs.length ys.length /\ Pv i acc H, ⟨min xs.length ys.length, by simp, Nat.zero_le _, h0⟩, ?_⟩
 rintro i n acc H ⟨rfl, hi, p⟩
 obtain ⟨qx, qy⟩ := hl i acc H p
 by_cases hlt : i < min xs.length ys.length
 ·have lx : i < xs.length := by lia
  have ly : i < ys.length := by lia
  refine .inr ⟨⟨xs, ys, xs[i], ys[i], qx, qy, by simp [lx], by simp [ly]⟩, Pv (i + 1), fun acc' H' p' => ⟨min xs.length ys.length - (i + 1), by lia, rfl, hlt, p'⟩, fun x H' y => ?_⟩
  obtain ⟨T, z, z', rfl, nT, rfl, hz, hz'⟩ := y
  exact hs i z z' acc _ T (hz xs qx) (hz' ys qy) p nT
 ·have e : i = min xs.length ys.length := by lia
  subst e
  exact .inl ⟨⟨xs, ys, qx, qy, by lia⟩, hd acc H p⟩
theorem blk_str {x : Str} (Pv : Nat -> List V -> Hp -> Prop) (h0 : Pv 0 [] H) (hs : ∀ i ch acc H, x.cps.toList[i]? = some ch -> Pv i acc H -> Bt k cs g tc te σ (.str ⟨#[ch]⟩) acc H (Pv (i + 1))) (hd : ∀ acc H, Pv x.cps.toList.length acc H -> fin acc H) : tBlock k cs g tc te (Its x) σ H fin := by
 have e0 : x.cps.toList.length = x.cps.size := by simp
 refine ⟨fun i m acc H => m = x.cps.size - i /\ i <= x.cps.size /\ Pv i acc H, ⟨x.cps.size, by simp, Nat.zero_le _, h0⟩, ?_⟩
 rintro i m acc H ⟨rfl, hi, p⟩
 by_cases hlt : i < x.cps.size
 ·refine .inr ⟨hlt, Pv (i + 1), fun acc' H' p' => ⟨x.cps.size - (i + 1), by lia, rfl, hlt, p'⟩, fun v H' y => ?_⟩
  obtain ⟨e, ch, hch, rfl⟩ := y
  subst e
  exact hs i ch acc _ (by simpa using hch) p
 ·have e : i = x.cps.size := by lia
  subst e
  exact .inl ⟨rfl, hd acc H (by rw [e0]; exact p)⟩
end
end L2
namespace L2
open PySem PySem.Spec PyProof.Rows
theorem PE.or {X : Cx} {e : Expr} {t u : TE} (h : PE X e t) (h' : PE X e u) : PE X e (fun σ H Q => t σ H Q \/ u σ H Q) := by
 intro pins s σ H Q I q
 rcases q with q | q
 ·exact h pins s σ H Q I q
 ·exact h' pins s σ H Q I q
theorem rm {a b : Nat} {A : Around} (h : Room b A) (hle : a <= b := by first | decide | lia) : Room a A := h.mono hle
structure Cal (P : Program) (w : World) (K : PySem.W.Frag) (mg : Str -> Option Value) (base : Heap) (CX : CXT) (k : Nat) (x : Str) (ps : List Str) (sp : Sp) : Prop where
 ex : ∃ (f : Addr) (fd : FuncData), FnOk P w K mg base CX k f fd ps sp /\ mg x = some (.ref f) /\ PySem.W.keepIn K (.ref f) = true /\ Binds K fd ps []
structure CalM (P : Program) (w : World) (K : PySem.W.Frag) (mg : Str -> Option Value) (base : Heap) (CX : CXT) (k : Nat) (C : Addr) (m : Str) (ps : List Str) (sp : Sp) : Prop where
 ex : ∃ (f : Addr) (fd : FuncData), FnOk P w K mg base CX k f fd ps sp /\ Meth K C m f /\ Binds K fd ps []
 cl : Cls K C
structure CalC (P : Program) (w : World) (K : PySem.W.Frag) (mg : Str -> Option Value) (base : Heap) (CX : CXT) (k : Nat) (x : Str) (C : Addr) (ps : List Str) (sp : Sp) : Prop where
 ex : ∃ (f : Addr) (fd : FuncData), FnOk P w K mg base CX k f fd ps sp /\ Mk K C f /\ mg x = some (.ref C) /\ Binds K fd ps []
section
variable {X : Cx} {CX : CXT} {k : Nat} {C : Addr} {ps : List Str} {sp : Sp} {E : XK} {x m : Str} {p pos apos : Pos} {e o : Expr} {es : List Expr} {ta : TE} {t : TA}
theorem pe_cal (c : Cal X.prog X.w X.K X.mg X.base CX k x ps sp) (hr : Room k X.A) (hg : Gl X x) (hx : Passes CX X E) (ha : PA X (e :: es) t) (hdb : (x == ("__debug__" : Str)) = false := by decide)
  (he : starEach (e :: es) X.env = (false, eval e X.env) :: starEach es X.env := by rfl) (hpl : (backTo pos (starEach es X.env)).any (·.1) = false := by rfl) : PE X (.Call (.Name x p) (e :: es) [] pos) (tCall sp [] E t) := by
 obtain ⟨f, fd, F, hm, hk, hb⟩ := c.ex
 exact pe_call F hr hg hm hk hb .nil hx ha hdb he hpl
theorem pe_calm {pl : Sem Bool} (he : PE X o ta) (c : CalM X.prog X.w X.K X.mg X.base CX k C m ps sp) (hr : Room k X.A) (hx : Passes CX X E) (ha : PA X (e :: es) t)
  (hst : starEach (e :: es) X.env = (false, eval e X.env) :: starEach es X.env := by rfl) (hpl : (backTo pos (starEach es X.env)).any (·.1) = false := by rfl)
  (ht : eval (.Call (.Attribute o m apos) (e :: es) [] pos) X.env = (do
   let ov <- eval o X.env; standAt apos.atName
   let (f, first) <- holding [ov] (getMethod ov m pl); callWith pos f first (backTo pos (starEach (e :: es) X.env)) (backToKw pos (keywordEach [] X.env))) := by rfl) : PE X (.Call (.Attribute o m apos) (e :: es) [] pos) (tMeth C m sp [] E ta t) := by
 obtain ⟨f, fd, F, hm, hb⟩ := c.ex
 exact pe_meth he c.cl hm F hr hb .nil hx ha hst hpl ht
theorem pe_calC (c : CalC X.prog X.w X.K X.mg X.base CX k x C ps sp) (hr : Room (k + 1) X.A) (hg : Gl X x) (hx : Passes CX X E) (ha : PA X (e :: es) t) (hdb : (x == ("__debug__" : Str)) = false := by decide)
  (he : starEach (e :: es) X.env = (false, eval e X.env) :: starEach es X.env := by rfl) (hpl : (backTo pos (starEach es X.env)).any (·.1) = false := by rfl) : PE X (.Call (.Name x p) (e :: es) [] pos) (tMake C sp [] E t) := by
 obtain ⟨f, fd, F, M, hm, hb⟩ := c.ex
 exact pe_make M F hr hg hm hb .nil hx ha hdb he hpl
theorem pe_calC0 (c : CalC X.prog X.w X.K X.mg X.base CX k x C ps sp) (hr : Room (k + 1) X.A) (hg : Gl X x) (hx : Passes CX X E) (hdb : (x == ("__debug__" : Str)) = false := by decide) : PE X (.Call (.Name x p) [] [] pos) (tMake C sp [] E tNil) := by
 obtain ⟨f, fd, F, M, hm, hb⟩ := c.ex
 exact pe_make0 M F hr hg hm hb .nil hx hdb
theorem pe_gint {i : Int} (hg : Gl X x) (hm : ∃ tk, X.mg x = some (.int i tk)) (hd : (x == ("__debug__" : Str)) = false := by decide) : PE X (.Name x pos) (tC (.int i)) := by
 obtain ⟨tk, hm⟩ := hm
 exact pe_glob hg hm ⟨tk, rfl⟩ hd
theorem pe_gstr {z : Str} (hg : Gl X x) (hm : ∃ tk, X.mg x = some (.str z tk)) (hd : (x == ("__debug__" : Str)) = false := by decide) : PE X (.Name x pos) (tC (.str z)) := by
 obtain ⟨tk, hm⟩ := hm
 exact pe_glob hg hm ⟨tk, rfl⟩ hd
theorem pe_gref {a : Addr} (hg : Gl X x) (hm : X.mg x = some (.ref a)) (hd : (x == ("__debug__" : Str)) = false := by decide) : PE X (.Name x pos) (tC (.ref a)) := pe_glob hg hm rfl hd
end
def cOk (So : Scope) (No : List Str) (scope : Scope) (N : List Str) (k : Nat) (cs : List Nat) : Bool :=
 scope.names.all (fun y => y.2 != .cell) && (scope.kind == .function && (scope.names.all (fun y => y.2 != .local || scope.names.lookup y.1 == some .local) && (scope.names.all (fun y => y.2 != .free || (So.names.lookup y.1 == some .cell || So.names.lookup y.1 == some .free)) &&
  (N.length == k + cs.length && (List.range cs.length).all fun j => match N[k + j]?, No[cs.getD j 0]? with
   | some x, some y => x == y && scope.names.lookup x == some .free
   | _, _ => false))))
theorem CScope.of {X : Cx} {So : Scope} {No : List Str} {scope : Scope} {N : List Str} {k : Nat} {cs : List Nat} (hS : X.env.scope = So) (hN : X.N = No) (h : cOk So No scope N k cs = true) : CScope X scope N k cs := by
 subst hS hN
 unfold cOk at h
 simp only [Bool.and_eq_true, List.all_eq_true, bne_iff_ne, ne_eq, Bool.or_eq_true, beq_iff_eq, List.mem_range] at h
 obtain ⟨h1, h2, h3, h4, h5, h6⟩ := h
 refine ⟨h1, h2, fun y hy e => ?_, fun y hy e => ?_, h5, fun j hj => ?_⟩
 ·rcases h3 y hy with z | z
  ·exact absurd e z
  ·exact z
 ·rcases h4 y hy with z | z
  ·exact absurd e z
  ·exact z
 ·have z := h6 j hj
  split at z
  ·rename_i x y e1 e2
   simp only [Bool.and_eq_true, beq_iff_eq] at z
   obtain ⟨z1, z2⟩ := z
   subst z1
   exact ⟨x, e1, e2, z2⟩
  ·cases z
theorem tyes {σ : St} {H : Hp} {A B : Hp -> Prop} (h : A H) : tYes σ H fun b H3 => if b = true then A H3 else B H3 := by
 show if true = true then A H else B H
 exact iteT h
section
variable {X : Cx} {scope : Scope} {N : List Str} {s : Shared} {H : Hp} {ex : List Addr} {x y : Str} {px py pos : Pos} {k : Nat}
theorem pgc_name {i : Nat} (hN : N.Nodup) (hi : N[i]? = some x) (hl : (relabel scope X.env).names.lookup x = some .local) : PG (cxC X scope N s H ex) (.Name x pos) (gName i) := pg_name (X := cxC X scope N s H ex) hN hi (.inl hl) (.inr hl)
theorem pgc_pair {i j : Nat} (hc : X.calm = true) (hN : N.Nodup) (hi : N[i]? = some x) (hj : N[j]? = some y) (hl : (relabel scope X.env).names.lookup x = some .local) (hm : (relabel scope X.env).names.lookup y = some .local) :
  PG (cxC X scope N s H ex) (.Tuple [.Name x px, .Name y py] k pos) (gTup X.K 2 (gCons (gName i) (gCons (gName j) gNil))) :=
 pg_tup (X := cxC X scope N s H ex) hc (pgs_cons (pgc_name hN hi hl) (pgs_cons (pgc_name hN hj hm) pgs_nil))
end
theorem Vals.strs : ∀ (l : List Str) (k : Nat), Vals (l.map V.str) (strsFrom k l)
 | [], _ => .nil
 | x :: r, k => .cons ⟨k, rfl⟩ (Vals.strs r (k + 1))
section
variable {X : Cx}
theorem mt_split : MtR X "str.split" (fun x xs H Q => ∃ a b, x = .str a /\ xs = [.str b] /\ (b.length == 0) = false /\ a.length <= 100000 /\ ∀ p, H p = none -> Q (.ref p) (upd H p (.lst ((Txt.split a b).map V.str)))) := by
 intro pins s σ H x xs v us Q I rx r h
 obtain ⟨a, b, rfl, rfl, hb, ha, q⟩ := h
 obtain ⟨t, rfl⟩ := rx
 obtain ⟨u, rfl, hu⟩ := r.one
 obtain ⟨tb, rfl⟩ := hu
 have big : a.length + 2 <= sizeLine := Nat.le_trans (Nat.add_le_add_right ha 2) (by decide)
 have fin : ∀ (its : List Value) (tk : Nat), Vals ((Txt.split a b).map V.str) its -> EP X pins σ Q (.ref s.heap.objs.size) { s with heap := s.heap.push { cls := .type "list", data := .seq its.toArray }, toks := tk } := fun its tk hv =>
  ⟨.ref _, _, I.lnew (t' := tk) hv (by rw [List.length_map]; exact Nat.le_trans (split_le a b) big), rfl, q _ I.fresh⟩
 by_cases h1 : (decide (a.length < b.length) || decide (Builtin.Str.strKind a < Builtin.Str.strKind b)) = true
 ·refine call_meets F.slot_str_split (typeIs_str _ _ _) F.entry_str_split (F.args_str_split_2 _ _) (meets_str_split_cannot_occur a b t tb h1) ?_
  refine fin _ s.toks ?_
  unfold Txt.split
  rw [if_pos h1]
  exact .cons ⟨t, rfl⟩ .nil
 ·have h1' := Bool.eq_false_iff.mpr h1
  by_cases h2 : (Builtin.Str.occurrences a b 0 a.length (a.length + 1)).isEmpty = true
  ·refine call_meets F.slot_str_split (typeIs_str _ _ _) F.entry_str_split (F.args_str_split_2 _ _) (meets_str_split_not_found a b t tb h1' hb h2) ?_
   refine fin _ s.toks ?_
   unfold Txt.split
   rw [if_neg h1, if_pos h2]
   exact .cons ⟨t, rfl⟩ .nil
  ·have e : Txt.split a b = Builtin.Str.partsBetween a (Builtin.Str.occurrences a b 0 a.length (a.length + 1)) b.length := by
    unfold Txt.split
    rw [if_neg h1, if_neg h2]
   refine call_meets F.slot_str_split (typeIs_str _ _ _) F.entry_str_split (F.args_str_split_2 _ _) (meets_str_split_sep a b t tb h1' hb (Bool.eq_false_iff.mpr h2) (by lia) (by rw [<- e]; exact Nat.le_trans (split_le a b) big)) ?_
   refine fin _ _ ?_
   rw [e]
   exact Vals.strs _ _
theorem mt_partition : MtR X "str.partition" (fun x xs H Q => ∃ a b, x = .str a /\ xs = [.str b] /\ (b.length == 0) = false /\ a.length <= 100000 /\ ∀ p, H p = none -> Q (.ref p) (upd H p (.tup [.str (Txt.partition a b).1, .str (Txt.partition a b).2.1, .str (Txt.partition a b).2.2]))) := by
 intro pins s σ H x xs v us Q I rx r h
 obtain ⟨a, b, rfl, rfl, hb, ha, q⟩ := h
 obtain ⟨t, rfl⟩ := rx
 obtain ⟨u, rfl, hu⟩ := r.one
 obtain ⟨tb, rfl⟩ := hu
 have fin : ∀ (its : List Value) (tk : Nat), Vals [.str (Txt.partition a b).1, .str (Txt.partition a b).2.1, .str (Txt.partition a b).2.2] its -> EP X pins σ Q (.ref s.heap.objs.size) { s with heap := s.heap.push { cls := .type "tuple", data := .seq its.toArray }, toks := tk } := fun its tk hv =>
  ⟨.ref _, _, I.laid (t' := tk) (o := .tup [.str (Txt.partition a b).1, .str (Txt.partition a b).2.1, .str (Txt.partition a b).2.2]) (fun _ _ e => Heap.get?_push_of_some _ e) (Nat.le_refl _) ⟨by show 3 <= sizeLine; decide, its, hv, _, Heap.get?_push_size _ rfl, rfl, _, rfl⟩, rfl, q _ I.fresh⟩
 refine call_meets F.slot_str_partition (typeIs_str _ _ _) F.entry_str_partition (F.args_str_partition_2 _ _) (meets_str_partition a b t tb hb (Nat.le_trans ha (by decide))) ?_
 show EP X pins σ Q _ _
 cases e : Builtin.Str.occurrences a b 0 a.length 1 with
 | nil =>
  refine fin _ _ ?_
  unfold Txt.partition
  rw [e]
  exact .cons ⟨_, rfl⟩ (.cons ⟨_, rfl⟩ (.cons ⟨_, rfl⟩ .nil))
 | cons i l =>
  refine fin _ _ ?_
  unfold Txt.partition
  rw [e]
  exact .cons ⟨_, rfl⟩ (.cons ⟨_, rfl⟩ (.cons ⟨_, rfl⟩ .nil))
theorem cnt_vals (n : Int) : ∀ {ns : List Int} {its : List Value}, Vals (ns.map V.int) its -> its.countP (fun y => match y with | .int i _ => i == n | _ => false) = ns.countP (· == n)
 | [], _, .nil => rfl
 | x :: r, _, .cons ⟨t, e⟩ rr => by
  subst e
  rw [List.countP_cons, List.countP_cons, cnt_vals n rr]
theorem vals_int {ns : List Int} {its : List Value} (h : Vals (ns.map V.int) its) {y : Value} (hy : y ∈ its) : ∃ i t, y = .int i t := by
 induction ns generalizing its with
 | nil => cases h; simp at hy
 | cons n r ih =>
  cases h with
  | cons q qq =>
   obtain ⟨t, e⟩ := q
   rcases List.mem_cons.mp hy with z | z
   ·exact ⟨n, t, z.trans e⟩
   ·exact ih qq z
theorem mt_count : MtR X "list.count" (fun x xs H Q => ∃ (l : Addr) (ns : List Int) (n : Int), x = .ref l /\ xs = [.int n] /\ H l = some (.lst (ns.map V.int)) /\ Q (.int (ns.countP (· == n) : Nat)) H) := by
 intro pins s σ H x xs v us Q I rx r h
 obtain ⟨l, ns, n, rfl, rfl, hH, q⟩ := h
 cases rx
 obtain ⟨u, rfl, hu⟩ := r.one
 obtain ⟨tk, rfl⟩ := hu
 obtain ⟨z, its, k, rv, hl, e⟩ := I.lstM hH
 refine call_meets F.slot_list_count ⟨_, e, rfl⟩ F.entry_list_count (F.args_list_count_2 _ _) (MeetsSeq.list_count l its.toArray k (.int n tk) (fun y => match y with | .int i _ => i == n | _ => false) (fun y hy => ?_)) ⟨e, ?_⟩
 ·obtain ⟨i, t, rfl⟩ := vals_int rv (by simpa using hy)
  exact PySem.MeetsSeq.EqGives.int i n t tk
 ·refine ⟨.int _, H, I.tok _, ⟨_, rfl⟩, ?_⟩
  have : (List.countP (fun y => match y with | Value.int i _ => i == n | _ => false) its.toArray.toList) = ns.countP (· == n) := cnt_vals n (by simpa using rv)
  rw [this]
  exact q
end
end L2
namespace L2
open PySem
section
variable {X : Cx} {es es' : List Expr} {t t' : TA} {pos : Pos}
theorem pa_int {i : Int} {j} (hr : PA X es t) : PA X (.Constant (.int i) j pos :: es) (tCons (tC (.int i)) t) := pa_cons pe_int hr
theorem pa_str {z : Str} {j} (hr : PA X es t) : PA X (.Constant (.str z) j pos :: es) (tCons (tC (.str z)) t) := pa_cons pe_str hr
theorem pa_tup {x1} (h : PA X es' t') (hr : PA X es t) : PA X (.Tuple es' x1 pos :: es) (tCons (tTup t') t) := pa_cons (pe_tup h) hr
theorem pa_op {op : Operator} {r : R2} {a b : Expr} {ta tb : TE} (ho : OpR X (binaryOp op) r) (ha : PE X a ta) (hb : PE X b tb) (hr : PA X es t) : PA X (.BinOp a op b pos :: es) (tCons (tOp r ta tb) t) := pa_cons (pe_op ho ha hb) hr
end
end L2
namespace Nu
open PySem PySem.NumText PyProof.Rows
theorem ext {a b : Str} (h : a.cps.toList = b.cps.toList) : a = b := by
 obtain ⟨⟨l⟩⟩ := a
 obtain ⟨⟨r⟩⟩ := b
 cases h
 rfl
theorem len (x : Str) : x.length = x.cps.toList.length := by simp [Str.length]
end Nu
namespace L2
open PySem PySem.Spec PyProof.Rows
section
variable {X : Cx}
theorem pe_fldK {K : PySem.W.Frag} {e : Expr} {f : Str} {ta : TE} {pos : Pos} (hK : X.K = K) (he : PE X e ta) (hb : attributeBase e f X.env (eval e X.env) = eval e X.env) : PE X (.Attribute e f pos) (tFld K ta f) := hK ▸ pe_fld he hb
end
end L2
namespace L2
open PySem PySem.Spec PyProof.Rows
section
variable {X : Cx}
end
end L2
namespace L2
open PySem PySem.Spec PyProof.Rows
section
variable {X : Cx}
end
section
variable {prog : Program} {w : World} {κ : Type} [DecidableEq κ] {knd : HeapKind prog w κ} {A : Around} {E : Value -> Shared -> Prop} {s : Shared}
end
section
variable {X : Cx} {pins : List (Addr × Obj)} {σ : St} {H : Hp} {s : Shared} {a : Addr} {y v : V} {u r : Value} {o : Option V} {A : Around} {E : Value -> Shared -> Prop}
end
section
variable {X : Cx} {o e f : Expr} {apos cpos : Pos} {td ty tx : TE}
end
end L2
namespace L2
open PySem PySem.Spec PyProof.Rows
section
variable {prog : Program} {w : World} {A : Around} {E : Value -> Shared -> Prop} {s : Shared} {d it : Addr} {o : Obj} {es : Array DictEntry} {ep i : Nat}
end
end L2
namespace L2
open PySem PySem.W PyProof.Rows
section
variable {rk : Nat -> Int} {n : Nat}
end
end L2
namespace L2
open PySem PySem.W PySem.Spec PyProof.Rows
section
variable {prog : Program} {w : World} {A : Around} {E : Value -> Shared -> Prop}
end
section
variable {X : Cx}
end
end L2
namespace L2
open PySem PySem.Spec PyProof.Rows
section
variable {X : Cx}
theorem all_true (n : Nat) : (List.range n).all (fun _ => true) = true := List.all_eq_true.mpr fun _ _ => rfl
end
end L2
namespace Tx
open PySem PySem.Builtin PySem.Builtin.Str PyProof.Rows
theorem cps_app (a b : Str) : (a ++ b).cps.toList = a.cps.toList ++ b.cps.toList := cps_toList_append a b
def jl (sep : List Nat) : List (List Nat) -> List Nat
 | [] => []
 | [x] => x
 | x :: y :: r => x ++ sep ++ jl sep (y :: r)
theorem cps_join (sep : Str) : ∀ ts : List Str, (Str.join sep ts).cps.toList = jl sep.cps.toList (ts.map fun t => t.cps.toList)
 | [] => rfl
 | [x] => rfl
 | x :: y :: r => by
  have e : Str.join sep (x :: y :: r) = x ++ sep ++ Str.join sep (y :: r) := rfl
  rw [e, cps_app, cps_app, cps_join sep (y :: r)]
  rfl
theorem app_inj {c : Nat} : ∀ {x y A B : List Nat}, c ∉ x -> c ∉ y -> x ++ c :: A = y ++ c :: B -> x = y /\ A = B
 | [], [], A, B, _, _, h => ⟨rfl, by simpa using h⟩
 | [], y :: ys, A, B, _, hy, h => by
  simp at h
  exact absurd (by rw [h.1]; exact List.mem_cons_self) hy
 | x :: xs, [], A, B, hx, _, h => by
  simp at h
  exact absurd (by rw [<- h.1]; exact List.mem_cons_self) hx
 | x :: xs, y :: ys, A, B, hx, hy, h => by
  simp at h
  obtain ⟨e, h⟩ := h
  obtain ⟨e2, e3⟩ := app_inj (x := xs) (y := ys) (fun z => hx (List.mem_cons_of_mem _ z)) (fun z => hy (List.mem_cons_of_mem _ z)) h
  exact ⟨by rw [e, e2], e3⟩
theorem jl_inj (c : Nat) (s : List Nat) : ∀ (as bs : List (List Nat)), as ≠ [] -> bs ≠ [] -> (∀ t ∈ as, c ∉ t) -> (∀ t ∈ bs, c ∉ t) -> jl (c :: s) as = jl (c :: s) bs -> as = bs
 | [], _, h, _, _, _, _ => absurd rfl h
 | _, [], _, h, _, _, _ => absurd rfl h
 | [x], [y], _, _, _, _, e => by
  have e' : x = y := e
  rw [e']
 | [x], y :: z :: r, _, _, ha, _, e => by
  have e' : x = y ++ c :: s ++ jl (c :: s) (z :: r) := e
  exact absurd (by rw [e']; simp) (ha x List.mem_cons_self)
 | x :: z :: r, [y], _, _, _, hb, e => by
  have e' : x ++ c :: s ++ jl (c :: s) (z :: r) = y := e
  exact absurd (by rw [<- e']; simp) (hb y List.mem_cons_self)
 | x :: x2 :: r, y :: y2 :: r', _, _, ha, hb, e => by
  have e' : x ++ c :: (s ++ jl (c :: s) (x2 :: r)) = y ++ c :: (s ++ jl (c :: s) (y2 :: r')) := by
   have : x ++ c :: s ++ jl (c :: s) (x2 :: r) = y ++ c :: s ++ jl (c :: s) (y2 :: r') := e
   simpa using this
  obtain ⟨e1, e2⟩ := app_inj (ha x List.mem_cons_self) (hb y List.mem_cons_self) e'
  have e3 := List.append_cancel_left e2
  rw [e1, jl_inj c s (x2 :: r) (y2 :: r') (by simp) (by simp) (fun t ht => ha t (List.mem_cons_of_mem _ ht)) (fun t ht => hb t (List.mem_cons_of_mem _ ht)) e3]
theorem map_codes {as bs : List Str} (h : as.map (fun t => t.cps.toList) = bs.map fun t => t.cps.toList) : as = bs := by
 induction as generalizing bs with
 | nil => cases bs with | nil => rfl | cons => simp at h
 | cons a r ih =>
  cases bs with
  | nil => simp at h
  | cons b q =>
   simp at h
   rw [Nu.ext (a := a) (b := b) (by simpa using h.1), ih (by simpa using h.2)]
theorem split_join1 (c : Nat) (ts : List Str) (hne : ts ≠ []) (hf : ∀ t ∈ ts, c ∉ t.cps.toList) : Txt.split (Str.join ⟨#[c]⟩ ts) ⟨#[c]⟩ = ts := by
 refine map_codes (jl_inj c [] _ _ ?_ ?_ ?_ ?_ ?_)
 ·intro h
  have := split_pos (Str.join ⟨#[c]⟩ ts) ⟨#[c]⟩
  have h2 : (Txt.split (Str.join ⟨#[c]⟩ ts) ⟨#[c]⟩).length = 0 := by simpa using congrArg List.length h
  omega
 ·simpa using hne
 ·intro t ht
  obtain ⟨p, hp, rfl⟩ := List.mem_map.mp ht
  exact StrLaws.split_free _ c p hp
 ·intro t ht
  obtain ⟨p, hp, rfl⟩ := List.mem_map.mp ht
  exact hf p hp
 ·have h := congrArg (fun z : Str => z.cps.toList) (StrLaws.join_split (Str.join ⟨#[c]⟩ ts) ⟨#[c]⟩)
  rw [cps_join, cps_join] at h
  exact h
theorem part_at (c : Nat) (a b : Str) (h : c ∉ a.cps.toList) : Txt.partition (a ++ ⟨#[c]⟩ ++ b) ⟨#[c]⟩ = (a, ⟨#[c]⟩, b) := by
 have hin : c ∈ (a ++ ⟨#[c]⟩ ++ b).cps.toList := by rw [cps_app, cps_app]; simp
 have hs := StrLaws.partition_sum (a ++ ⟨#[c]⟩ ++ b) ⟨#[c]⟩
 have hh := partition_head (a ++ ⟨#[c]⟩ ++ b) ⟨#[c]⟩
 have ho := StrLaws.found_one (a ++ ⟨#[c]⟩ ++ b) c
 rw [decide_eq_true hin] at ho
 have hp2 : (Txt.partition (a ++ ⟨#[c]⟩ ++ b) ⟨#[c]⟩).2.1 = ⟨#[c]⟩ := by
  unfold Txt.partition
  cases e : occurrences (a ++ ⟨#[c]⟩ ++ b) ⟨#[c]⟩ 0 (a ++ ⟨#[c]⟩ ++ b).length 1 with
  | nil => rw [e] at ho; simp at ho
  | cons i l => rfl
 have hp1 : c ∉ (Txt.partition (a ++ ⟨#[c]⟩ ++ b) ⟨#[c]⟩).1.cps.toList := by
  rcases hh with ⟨_, no⟩ | ⟨i, e, hA, no⟩
  ·obtain ⟨j, hj⟩ := List.getElem?_of_mem hin
   exact absurd ((StrLaws.subAt_one _ c j).mpr hj) (no j)
  ·rw [e]
   exact StrLaws.part_free _ c 0 i (by have : i + 1 <= _ := hA.1; omega) fun k _ hk => no k hk
 have e : (Txt.partition (a ++ ⟨#[c]⟩ ++ b) ⟨#[c]⟩).1.cps.toList ++ (Txt.partition (a ++ ⟨#[c]⟩ ++ b) ⟨#[c]⟩).2.1.cps.toList ++ (Txt.partition (a ++ ⟨#[c]⟩ ++ b) ⟨#[c]⟩).2.2.cps.toList = a.cps.toList ++ [c] ++ b.cps.toList := by
  have e0 := congrArg (fun z : Str => z.cps.toList) hs
  rw [cps_app, cps_app, cps_app, cps_app] at e0
  exact e0
 rw [hp2] at e
 have e' : (Txt.partition (a ++ ⟨#[c]⟩ ++ b) ⟨#[c]⟩).1.cps.toList ++ c :: (Txt.partition (a ++ ⟨#[c]⟩ ++ b) ⟨#[c]⟩).2.2.cps.toList = a.cps.toList ++ c :: b.cps.toList := by simpa using e
 obtain ⟨e1, e2⟩ := app_inj hp1 h e'
 exact Prod.ext (Nu.ext e1) (Prod.ext hp2 (Nu.ext e2))
end Tx
namespace Tx
open PySem PySem.Builtin PySem.Builtin.Str PyProof.Rows
theorem app_len (a b : Str) : (a ++ b).length = a.length + b.length := by
 rw [Nu.len, Nu.len, Nu.len, cps_app, List.length_append]
end Tx
namespace Tx
open PySem PySem.Builtin PySem.Builtin.Str PyProof.Rows
theorem at_two (x : Str) (c d k : Nat) (h1 : x.cps.toList[k]? = some c) (h2 : x.cps.toList[k + 1]? = some d) : StrLaws.At x ⟨#[c, d]⟩ x.length k := by
 have l : k + 1 < x.cps.toList.length := (List.getElem?_eq_some_iff.mp h2).1
 refine ⟨?_, ?_⟩
 ·show k + 2 <= x.length
  rw [Nu.len]
  omega
 ·rw [StrLaws.subAt_eq]
  show ((x.cps.toList.drop k).take 2 == [c, d]) = true
  have e1 : x.cps.toList.drop k = c :: d :: x.cps.toList.drop (k + 2) := by
   rw [List.drop_eq_getElem_cons (by omega), (List.getElem?_eq_some_iff.mp h1).2, List.drop_eq_getElem_cons l, (List.getElem?_eq_some_iff.mp h2).2]
  rw [e1]
  simp
def Led (c d : Nat) (l : List Nat) : Prop := ∀ k : Nat, l[k]? = some c -> l[k + 1]? = some d
theorem part_free2 {x : Str} {c d a b : Nat} (hx : Led c d x.cps.toList) (hb : b <= x.length) (hn : ∀ k, a <= k -> k < b -> ¬ StrLaws.At x ⟨#[c, d]⟩ x.length k) : c ∉ (strSub x a b).cps.toList := by
 intro hm
 rw [StrLaws.strSub_toList] at hm
 obtain ⟨j, hj⟩ := List.getElem?_of_mem hm
 have hlt : j < b - a := by
  have h1 : j < ((x.cps.toList.drop a).take (b - a)).length := (List.getElem?_eq_some_iff.mp hj).1
  rw [List.length_take] at h1
  omega
 rw [List.getElem?_take_of_lt hlt, List.getElem?_drop] at hj
 exact hn (a + j) (by omega) (by omega) (at_two x c d (a + j) hj (hx _ hj))
theorem parts_free2 {x : Str} {c d : Nat} (hx : Led c d x.cps.toList) : ∀ (cuts : List Nat) (a f : Nat), StrLaws.ChainG x ⟨#[c, d]⟩ x.length a cuts f -> (∀ k, f <= k -> ¬ StrLaws.At x ⟨#[c, d]⟩ x.length k) -> ∀ p ∈ StrLaws.partsFrom x 2 a cuts, c ∉ p.cps.toList
 | [], a, f, h, hn, p, hp => by
  have e : f = a := h
  subst e
  rw [List.mem_singleton.mp hp]
  exact part_free2 hx (Nat.le_refl _) fun k h1 _ => hn k h1
 | g :: r, a, f, h, hn, p, hp => by
  rcases List.mem_cons.mp hp with rfl | hp'
  ·exact part_free2 hx (by have : g + 2 <= _ := h.2.1.1; omega) h.2.2.1
  ·exact parts_free2 hx r _ f h.2.2.2 hn p hp'
theorem kind_le (x : Str) : ¬ Builtin.Str.strKind x < Builtin.Str.strKind (⟨#[59, 32]⟩ : Str) := by
 have e : Builtin.Str.strKind (⟨#[59, 32]⟩ : Str) = 1 := by simp [Builtin.Str.strKind]
 rw [e]
 unfold Builtin.Str.strKind
 split
 ·decide
 ·split <;> decide
theorem split_free2 {x : Str} (hx : Led 59 32 x.cps.toList) : ∀ p ∈ Txt.split x ⟨#[59, 32]⟩, 59 ∉ p.cps.toList := by
 obtain ⟨f, hG, hn⟩ := StrLaws.occ_tight x ⟨#[59, 32]⟩ (by decide)
 have whole : 59 ∈ x.cps.toList -> ∃ k, StrLaws.At x ⟨#[59, 32]⟩ x.length k := fun hm => by
  obtain ⟨j, hj⟩ := List.getElem?_of_mem hm
  exact ⟨j, at_two x 59 32 j hj (hx j hj)⟩
 unfold Txt.split
 split
 ·rename_i hc
  intro p hp
  rw [List.mem_singleton.mp hp]
  intro hm
  obtain ⟨k, hk⟩ := whole hm
  have h2 : k + 2 <= x.length := hk.1
  rw [Bool.or_eq_true, decide_eq_true_eq, decide_eq_true_eq] at hc
  rcases hc with h | h
  ·have h3 : x.length < 2 := h
   omega
  ·exact kind_le x h
 ·split
  ·rename_i he
   intro p hp
   rw [List.mem_singleton.mp hp]
   intro hm
   obtain ⟨k, hk⟩ := whole hm
   rw [List.isEmpty_iff.mp he] at hG
   have ef : f = 0 := hG
   exact hn k (by omega) hk
  ·rw [StrLaws.partsBetween_eq]
   exact parts_free2 hx _ 0 f hG hn
theorem led_jl {c d : Nat} (hcd : c ≠ d) : ∀ ts : List (List Nat), (∀ t ∈ ts, c ∉ t) -> Led c d (jl [c, d] ts)
 | [], _ => fun k h => by simp [jl] at h
 | [x], hf => fun k h => absurd (List.mem_of_getElem? (show x[k]? = some c from h)) (hf x List.mem_cons_self)
 | x :: y :: r, hf => fun k h => by
  have ih := led_jl hcd (y :: r) fun t ht => hf t (List.mem_cons_of_mem _ ht)
  have e : jl [c, d] (x :: y :: r) = x ++ (c :: d :: jl [c, d] (y :: r)) := by
   show x ++ [c, d] ++ jl [c, d] (y :: r) = _
   simp
  rw [e] at h ⊢
  by_cases h1 : k < x.length
  ·rw [List.getElem?_append_left h1] at h
   exact absurd (List.mem_of_getElem? h) (hf x List.mem_cons_self)
  ·rw [List.getElem?_append_right (by omega)] at h
   rw [List.getElem?_append_right (by omega)]
   obtain ⟨m, hm⟩ : ∃ m, k - x.length = m := ⟨_, rfl⟩
   rw [show k + 1 - x.length = m + 1 by omega]
   rw [hm] at h
   cases m with
   | zero => rfl
   | succ m =>
    cases m with
    | zero =>
     have : some d = some c := h
     exact absurd (Option.some.inj this).symm hcd
    | succ m =>
     rw [List.getElem?_cons_succ, List.getElem?_cons_succ] at h ⊢
     exact ih m h
theorem split_join2 (ts : List Str) (hne : ts ≠ []) (hf : ∀ t ∈ ts, 59 ∉ t.cps.toList) : Txt.split (Str.join ⟨#[59, 32]⟩ ts) ⟨#[59, 32]⟩ = ts := by
 have led : Led 59 32 (Str.join ⟨#[59, 32]⟩ ts).cps.toList := by
  rw [cps_join]
  refine led_jl (by decide) _ fun t ht => ?_
  obtain ⟨p, hp, rfl⟩ := List.mem_map.mp ht
  exact hf p hp
 refine map_codes (jl_inj 59 [32] _ _ ?_ ?_ ?_ ?_ ?_)
 ·intro h
  have := split_pos (Str.join ⟨#[59, 32]⟩ ts) ⟨#[59, 32]⟩
  have h2 : (Txt.split (Str.join ⟨#[59, 32]⟩ ts) ⟨#[59, 32]⟩).length = 0 := by simpa using congrArg List.length h
  omega
 ·simpa using hne
 ·intro t ht
  obtain ⟨p, hp, rfl⟩ := List.mem_map.mp ht
  exact split_free2 led p hp
 ·intro t ht
  obtain ⟨p, hp, rfl⟩ := List.mem_map.mp ht
  exact hf p hp
 ·have h := congrArg (fun z : Str => z.cps.toList) (StrLaws.join_split (Str.join ⟨#[59, 32]⟩ ts) ⟨#[59, 32]⟩)
  rw [cps_join, cps_join] at h
  exact h
end Tx
namespace L2
open PySem PySem.W PySem.Spec PyProof.Rows
end L2
namespace L2
open PySem PySem.Spec PyProof.Rows
theorem vals_bl : ∀ {bs : List Bool} {its : List Value}, Vals (bs.map V.bl) its -> its = bs.map Value.bool
 | [], _, .nil => rfl
 | b :: bs, _, .cons r t => by
  cases (show _ = Value.bool b from r)
  rw [vals_bl t]
  rfl
section
variable {X : Cx} {CX : CXT} {k : Nat} {ps : List Str} {sp : Sp} {E : XK} {x : Str} {p pos : Pos} {e : Expr} {es : List Expr} {t : TA} {S : St -> Prop}
end
section
variable {X : Cx}
end
end L2
namespace L2
open PySem PySem.Spec PyProof.Rows
section
variable {X : Cx} {C C2 : Addr} {x n x2 : Str} {np hpos pos np2 hpos2 : Pos} {i : Nat} {b₀ b2 : Stmt} {suite body suite2 : List Stmt} {S : St -> Prop} {tb : XK -> TS} {th th2 : TS}
end
end L2
namespace L2
open PySem PySem.Spec PyProof.Rows
def isLam (p : Addr) (fd : FuncData) : HO := .ext fun h => h.get? p = some { cls := .type "function", data := .func fd }
def isCo (c : Addr) (q : Str) : HO := .ext fun h => ∃ o vs t, h.get? c = some o /\ o.data = .fields vs /\ vs[1]? = some (.str q t)
theorem isLam_ok {P : Program} {w : World} {H : Hp} {h : Heap} {p : Addr} {fd : FuncData} (e : h.get? p = some { cls := .type "function", data := .func fd }) : ObjOk P w H h p (isLam p fd) := ⟨e, ⟨_, e⟩, fun h1 h2 e1 k => k _ e1⟩
theorem isCo_ok {P : Program} {w : World} {H : Hp} {h : Heap} {c : Addr} {q : Str} (e : h.CodeRec (.ref c) q) : ObjOk P w H h c (isCo c q) := by
 obtain ⟨c', o, vs, t, z, e1, e2, e3⟩ := e
 cases z
 exact ⟨⟨o, vs, t, e1, e2, e3⟩, ⟨o, e1⟩, fun h1 h2 ⟨o', vs', t', f1, f2, f3⟩ k => ⟨o', vs', t', k _ f1, f2, f3⟩⟩
def CoIn (H : Hp) (q : Str) : List Value -> Prop
 | [] => True
 | .int _ _ :: .int _ _ :: v :: r => (∃ c, v = .ref c /\ H c = some (isCo c q)) /\ CoIn H q r
 | _ => False
theorem CoIn.triples {H : Hp} {q : Str} (l : List Value) (h : CoIn H q l) : TriplesOk l := by
 fun_induction TriplesOk l with
 | case1 => trivial
 | case2 a b c d e r ih => exact ih h.2
 | case3 l h1 h2 =>
  unfold CoIn at h
  split at h
  ·exact h1 rfl
  ·exact h2 _ _ _ _ _ _ rfl
  ·exact h
theorem CoIn.among {H : Hp} {q : Str} {pos : Pos} {cv : Value} (l : List Value) (h : CoIn H q l) (e : codeAmong pos l = some cv) : ∃ c, cv = .ref c /\ H c = some (isCo c q) := by
 fun_induction TriplesOk l with
 | case1 => cases e
 | case2 a b c d v r ih =>
  unfold codeAmong at e
  split at e
  ·cases e; exact h.1
  ·exact ih h.2 e
 | case3 l h1 h2 =>
  unfold CoIn at h
  split at h
  ·exact (h1 rfl).elim
  ·exact (h2 _ _ _ _ _ _ rfl).elim
  ·exact h.elim
theorem CoIn.snoc {H H' : Hp} {q : Str} {a b : Int} {t u : Tok} {c : Addr} (k : ∀ c, H c = some (isCo c q) -> H' c = some (isCo c q)) (hc : H' c = some (isCo c q)) (l : List Value) (h : CoIn H q l) : CoIn H' q (l ++ [.int a t, .int b u, .ref c]) := by
 fun_induction TriplesOk l with
 | case1 => exact ⟨⟨c, rfl, hc⟩, trivial⟩
 | case2 a b c d v r ih =>
  obtain ⟨⟨c', e1, e2⟩, h2⟩ := h
  exact ⟨⟨c', e1, k _ e2⟩, ih h2⟩
 | case3 l h1 h2 =>
  unfold CoIn at h
  split at h
  ·exact (h1 rfl).elim
  ·exact (h2 _ _ _ _ _ _ rfl).elim
  ·exact h.elim
theorem CoIn.mono {H H' : Hp} {q : Str} (k : ∀ c, H c = some (isCo c q) -> H' c = some (isCo c q)) (l : List Value) (h : CoIn H q l) : CoIn H' q l := by
 fun_induction TriplesOk l with
 | case1 => trivial
 | case2 a b c d v r ih =>
  obtain ⟨⟨c', e1, e2⟩, h2⟩ := h
  exact ⟨⟨c', e1, k _ e2⟩, ih h2⟩
 | case3 l h1 h2 =>
  unfold CoIn at h
  split at h
  ·exact (h1 rfl).elim
  ·exact (h2 _ _ _ _ _ _ rfl).elim
  ·exact h.elim
def Tab (H : Hp) (Pt : Addr) (q : Str) : Prop := ∃ ps, H Pt = some (.tbl ps) /\ CoIn H q ps.toList
theorem Tab.same {H H' : Hp} {Pt : Addr} {q : Str} (t : Tab H Pt q) (k : ∀ b o, H b = some o -> H' b = some o) : Tab H' Pt q :=
 let ⟨ps, h, c⟩ := t; ⟨ps, k _ _ h, c.mono (fun _ e => k _ _ e) _⟩
def Blt (mg : Str -> Option Value) (base : Heap) : Prop := ∃ bm o, mg "__builtins__" = some (.ref bm) /\ bm ≠ builtinsNs /\ base.get? bm = some o /\ o.cls = .type "module" /\ o.dict = some builtinsNs /\ o.data = .plain
structure LamH (Pt : Addr) (q : Str) (fdf : Value -> Value -> FuncData) (p : Addr) (H H' : Hp) : Prop where
 tab : Tab H' Pt q
 st : ∀ b o, b ≠ Pt -> H b = some o -> H' b = some o
 new : H p = none
 lam : ∃ c ct, H' p = some (isLam p (fdf (.ref c) ct)) /\ H' c = some (isCo c q)
def tLam (Pt : Addr) (q : Str) (fdf : Value -> Value -> FuncData) : TE := fun _ H Q => Tab H Pt q /\ ∀ p H', LamH Pt q fdf p H H' -> Q (.ref p) H'
theorem Inv.grown {X : Cx} {pins : List (Addr × Obj)} {σ : St} {H : Hp} {s : Shared} {h' : Heap} {c p Pt : Addr} {ps more : Array Value} {tk : Nat} {oc op : HO} (I : Inv X pins σ H s) (hP : H Pt = some (.tbl ps))
  (hx : ∀ b o, b ≠ Pt -> s.heap.get? b = some o -> h'.get? b = some o) (hge : s.heap.objs.size <= c) (hcp : c < p) (htb : h'.get? Pt = some { cls := .none, data := .fields (ps ++ more) })
  (o1 : ∀ H', ObjOk X.prog X.w H' h' c oc) (o2 : ∀ H', ObjOk X.prog X.w H' h' p op) : Inv X pins σ (upd (upd (upd H Pt (.tbl (ps ++ more))) c oc) p op) { s with heap := h', toks := tk } := by
 have nC : H c = none := I.hok.fresh hge
 have nP : H p = none := I.hok.fresh (by lia)
 have hn : ∀ {b : Addr} {o : HO}, H b = some o -> b ≠ c /\ b ≠ p := fun e => ⟨ne_of_none e nC, ne_of_none e nP⟩
 have tr : ∀ {b : Addr}, H b = none -> b ≠ Pt := fun e z => by rw [z, hP] at e; cases e
 have ot : ∀ {b : Addr} {o : HO}, H b = some o -> b ≠ Pt -> upd (upd (upd H Pt (.tbl (ps ++ more))) c oc) p op b = some o := fun e z => by rw [upd_ne (hn e).2, upd_ne (hn e).1, upd_ne z, e]
 have un : Un X.fs [] H (upd (upd (upd H Pt (.tbl (ps ++ more))) c oc) p op) s.heap h' := by
  refine ⟨fun b o e n _ _ => hx b o (tr n) e, fun b o e n _ _ => ⟨o.slots, hx b o (tr n) e⟩, fun b o e n _ => ?_, fun b o e _ => ?_, fun b xs e => ot e (fun z => by rw [z, hP] at e; cases e), fun b o u e => ot e (fun z => by rw [z, hP] at e; cases e), fun b qs e => ?_⟩
  ·have := Heap.lt_size e
   rw [upd_ne (by lia), upd_ne (by lia), upd_ne (tr n), n]
  ·by_cases z : b = Pt
   ·exact ⟨_, z ▸ htb⟩
   ·exact ⟨o, hx b o z e⟩
  ·by_cases z : b = Pt
   ·subst z
    rw [hP] at e
    cases e
    exact ⟨more, by rw [upd_ne (hn hP).2, upd_ne (hn hP).1, upd_same]⟩
   ·exact ⟨#[], by rw [ot e z]; simp⟩
 refine I.un (t' := tk) un fun b u e => ?_
 by_cases z : b = p
 ·subst z
  rw [upd_same] at e
  cases e
  exact o2 _
 rw [upd_ne z] at e
 by_cases z1 : b = c
 ·subst z1
  rw [upd_same] at e
  cases e
  exact o1 _
 rw [upd_ne z1] at e
 by_cases z2 : b = Pt
 ·subst z2
  rw [upd_same] at e
  cases e
  exact htb
 rw [upd_ne z2] at e
 refine (I.hok b u e).stay (fun d v hd q => hx d v ?_ q) (fun d q => ot q (fun z => by rw [z, hP] at q; cases q)) fun d xs q => ot q (fun z => by rw [z, hP] at q; cases q)
 rcases hd with rfl | hd
 ·exact z2
 ·exact fun z => by rw [z, hP] at hd; cases hd
section
variable {X : Cx} {params : Arguments} {body : Expr} {scope : Scope} {pos : Pos} {c Pt : Addr} {N : List Str} {cs : List Nat}
abbrev lamQ (X : Cx) : Str := X.env.qual ++ "<lambda>"
abbrev lamF (X : Cx) (params : Arguments) (body : Expr) (scope : Scope) (cd ct : Value) : FuncData := PySem.W.kla_fn "<lambda>" (lamQ X) params body scope (clOf X.env scope.names) ((X.mg "__name__").getD .none) cd ct
theorem pe_lam (S : CScope X scope N 0 cs) (hcode : X.env.code = .ref c) (C : PySem.W.CodeHd X.base c Pt) (hB : Blt X.mg X.base) (hdef : defaultsOf params X.env = ([], []) := by rfl) :
  PE X (.Lambda params body scope pos) (tLam Pt (lamQ X) (lamF X params body scope)) := by
 intro pins s σ H Q I h
 obtain ⟨⟨ps, hP, hco⟩, k⟩ := h
 have hPt : s.heap.get? Pt = some (PySem.W.tabObj ps) := I.hok Pt _ hP
 have C1 : PySem.W.CodeHd s.heap c Pt := C.keeps I.bk
 have hg : s.heap.Ns mainGlobals X.mg := I.mod.glob.keeps I.bk
 obtain ⟨bm, ob, b1, b2, b3, b4, b5, b6⟩ := hB
 have hgP : mainGlobals ≠ Pt := fun q => by
  obtain ⟨o, es, ep, e, hd, _⟩ := I.mod.glob
  have := (I.bs _ _ e).2
  rw [q, hP] at this
  cases this
 have hbP : bm ≠ Pt := fun q => by
  have := (I.bs _ _ b3).2
  rw [q, hP] at this
  cases this
 have hbG : bm ≠ mainGlobals := fun q => by
  obtain ⟨o, es, ep, e, hd, _⟩ := I.mod.glob
  rw [q, e] at b3
  cases b3
  rw [hd] at b6
  cases b6
 have hBA : s.heap.BuiltinsAt X.mg Pt := ⟨bm, ob, b1, b2, hbG, hbP, I.bk _ _ b3, b4, b5, b6⟩
 have hcl := closure_of (scope := scope) (env := X.env) fun y hy hf => I.ok.has _ (S.free y hy hf)
 refine PySem.W.kla_eval hdef ?_
 cases hf : codeAmong pos ps.toList with
 | some cv =>
  obtain ⟨c', rfl, hc'⟩ := hco.among _ hf
  refine PySem.W.kla_makeFunctionHit (mg := X.mg) hcl I.ok.glob hg hcode C1 hPt (hco.triples _) hf hBA fun ctv h' tk kp hsz => ?_
  have np : H h'.objs.size = none := I.hok.fresh hsz
  have kk : ∀ b o, H b = some o -> upd H h'.objs.size (isLam h'.objs.size (lamF X params body scope (.ref c') ctv)) b = some o := fun b o e => by rw [upd_ne (ne_of_none e np), e]
  exact ⟨.ref h'.objs.size, upd H h'.objs.size (isLam h'.objs.size (lamF X params body scope (.ref c') ctv)), I.laid (t' := tk) (fun b u e => Heap.get?_push_of_some _ (kp b u e)) hsz (isLam_ok (Heap.get?_push_size _ rfl)), rfl,
   k _ _ ⟨Tab.same ⟨ps, hP, hco⟩ kk, fun b o _ e => kk b o e, np, c', ctv, upd_same, kk _ _ hc'⟩⟩
 | none =>
  refine PySem.W.kla_makeFunction (mg := X.mg) hcl I.ok.glob hg hcode C1 hPt (hco.triples _) hf hgP hBA fun c' ctv h' tk hx hge hlt hrec htb => ?_
  have np : H h'.objs.size = none := I.hok.fresh (by lia)
  have nc : H c' = none := I.hok.fresh hge
  have pc : h'.objs.size ≠ c' := by lia
  have nPt : c' ≠ Pt /\ h'.objs.size ≠ Pt := ⟨fun z => (by rw [z, hP] at nc; cases nc), fun z => (by rw [z, hP] at np; cases np)⟩
  have I2 := I.grown (tk := tk) (h' := h'.push (PySem.W.kla_obj "<lambda>" (lamQ X) params body scope (clOf X.env scope.names) ((X.mg "__name__").getD .none) c' ctv)) (c := c') (p := h'.objs.size) (oc := isCo c' (lamQ X)) (op := isLam h'.objs.size (lamF X params body scope (.ref c') ctv)) hP
   (fun b o z e => Heap.get?_push_of_some _ (hx b o z e)) hge hlt (Heap.get?_push_of_some _ htb) (fun H' => isCo_ok (hrec.push _)) fun H' => isLam_ok (Heap.get?_push_size _ rfl)
  refine ⟨.ref h'.objs.size, _, I2, rfl, k _ _ ?_⟩
  have kk : ∀ b o, b ≠ Pt -> H b = some o -> upd (upd (upd H Pt (.tbl (ps ++ #[rawInt pos.line, rawInt pos.col, .ref c']))) c' (isCo c' (lamQ X))) h'.objs.size (isLam h'.objs.size (lamF X params body scope (.ref c') ctv)) b = some o := fun b o z e => by
   rw [upd_ne (ne_of_none e np), upd_ne (ne_of_none e nc), upd_ne z, e]
  have hcc : upd (upd (upd H Pt (.tbl (ps ++ #[rawInt pos.line, rawInt pos.col, .ref c']))) c' (isCo c' (lamQ X))) h'.objs.size (isLam h'.objs.size (lamF X params body scope (.ref c') ctv)) c' = some (isCo c' (lamQ X)) := by
   rw [upd_ne (Ne.symm pc), upd_same]
  refine ⟨⟨_, by rw [upd_ne (Ne.symm nPt.2), upd_ne (Ne.symm nPt.1), upd_same], ?_⟩, kk, np, c', ctv, upd_same, hcc⟩
  rw [Array.toList_append]
  refine CoIn.snoc (fun d e => kk d _ (fun z => ?_) e) hcc _ hco
  rw [z, hP] at e
  cases e
end
def cxL (P : Program) (w : World) (K : PySem.W.Frag) (mg : Str -> Option Value) (base : Heap) (N : List Str) (env : Env) (A : Around) (outer : List Env) (s : Shared) (H : Hp) (E : XK) : Cx where
 prog := P
 w := w
 K := K
 mg := mg
 base := base
 A := A.deeper env
 N := N
 s₀ := s
 H₀ := H
 env := env
 outer := outer
 stack := env :: outer
 ex := []
 calm := true
 fn := fun _ => false
 pn := []
 xe := fun e s' => wpAny (model P w) (A.deeper env) (leaving env e) (fun _ s'' => CXE P w outer H s E e s'') (fun e' s'' => CXE P w outer H s E e' s'') s'
section
variable {P : Program} {w : World} {K : PySem.W.Frag} {mg : Str -> Option Value} {base : Heap} {N : List Str} {env : Env} {A : Around} {outer : List Env} {s : Shared} {H : Hp} {E : XK}
theorem passL (hfr : env.frame = some env.locals) : Passes (CXE P w) (cxL P w K mg base N env A outer s H E) E := by
 intro pins σ H1 s1 e s' I h
 obtain ⟨a, T, cls, H', rfl, os, bare, un, hok, fl, na, nT, ha, hT, hE⟩ := h
 have J : Inv (cxL P w K mg base N env A outer s H E) pins σ H' s' := I.call' (ch := []) os un hok bare (fun b z => absurd z (by simp))
 refine leave_fly J.ok.frames J.stack hfr (.inr fl) fun h2 T2 fl2 n2 nr => ?_
 have ga := I.gn rfl na
 have gT := I.gn rfl nT
 have hid : ∀ b, b ∈ a :: T :: frs (cxL P w K mg base N env A outer s H E).stack -> b ∈ frs (cxL P w K mg base N env A outer s H E).stack \/ (s.heap.get? b = none /\ H' b = none) := fun b z => by
  rcases List.mem_cons.mp z with rfl | z
  ·exact .inr ⟨ga, ha⟩
  ·rcases List.mem_cons.mp z with rfl | z
   ·exact .inr ⟨gT, hT⟩
   ·exact .inl z
 have nT2 : H' T2 = none := by
  cases q : H' T2 with
  | none => rfl
  | some u =>
   obtain ⟨v, y⟩ := (J.hok T2 u q).be
   rw [n2] at y
   cases y
 refine ⟨a, T2, cls, H', rfl, J.os, J.bare, un_near J.base nr (fun b z => (hid b z).imp id (·.1)) J.frsOut, hok_near J.hok nr (fun b z => ?_), fl2, ga, J.gn rfl n2, ha, nT2, hE⟩
 rcases hid b z with y | y
 ·exact J.stkFree b y
 ·exact y.2
def Deed (P : Program) (w : World) (K : PySem.W.Frag) (mg : Str -> Option Value) (base : Heap) (k : Nat) (p : Addr) (outer : List Env) (s : Shared) (H : Hp) (sp : VK -> XK -> Prop) : Prop :=
 ∀ (A2 : Around) (outer2 : List Env) (s2 : Shared) (Q : VK) (E : XK), Room k A2 -> Env0 P w K mg base A2 outer2 s2 H -> (∀ b o, s.heap.get? b = some o -> H b = none -> b ∉ frs outer -> s2.heap.get? b = some o) -> sp Q E ->
  codeAny (model P w) A2 (.call (.ref p) ⟨[], []⟩) (CR (CXE P w) outer2 P w H s2 Q E) s2
end
section
variable {X : Cx} {params : Arguments} {body : Expr} {scope : Scope} {N : List Str} {cs : List Nat} {k : Nat} {p c : Addr} {ct : Value} {sp : VK -> XK -> Prop}
abbrev envL (X : Cx) (scope : Scope) (L p c : Addr) : Env := PySem.W.envX (lamQ X) scope L p (.ref c) (clOf X.env scope.names)
theorem deed_of {pins : List (Addr × Obj)} {σ : St} {H : Hp} {s : Shared} (I : Inv X pins σ H s) (hfn : ∀ x, X.fn x = true) (S : CScope X scope N 0 cs) (hco : scope.isCoroutine = false) (hgen : scope.isGenerator = false)
  (hp : H p = some (isLam p (lamF X params body scope (.ref c) ct))) (hc : H c = some (isCo c (lamQ X))) (hb : bindArgs (lamF X params body scope (.ref c) ct) ⟨[], []⟩ = pure [])
  (go : ∀ (A2 : Around) (outer2 : List Env) (s2 : Shared) (Q : VK) (E : XK), Room k (A2.deeper (envL X scope s2.heap.objs.size p c)) -> sp Q E -> ∃ te, PE (cxL X.prog X.w X.K X.mg X.base N (envL X scope s2.heap.objs.size p c) A2 outer2 s2 H E) body te /\ te (caps cs σ) H Q) :
  Deed X.prog X.w X.K X.mg X.base (k + 1) p X.stack s H sp := by
 intro A2 outer2 s2 Q E hr e0 hkp hsp
 have op : s2.heap.get? p = some { cls := .type "function", data := .func (lamF X params body scope (.ref c) ct) } := (e0.hok p _ hp).1
 obtain ⟨oc, vs, t, e1, e2, e3⟩ := (e0.hok c _ hc).1
 have lim : s2.heap.NoLimit := e0.mod.nolimit.keeps fun b o e => (e0.bs b o e).1
 refine PySem.W.kla_callFunE hr.depth op rfl hco hgen rfl ⟨c, oc, vs, t, rfl, e1, e2, e3⟩ ?_
 rw [hb]
 refine wpAny_pure (wpAny_newFunctionEnv S.cell (by intro y hy; simp at hy) (fun h₁ hns hsb => ?_) S.kind)
 have hk₁ : ∀ b o, s2.heap.get? b = some o -> h₁.get? b = some o := fun b o e => hsb.extBut b o (Nat.ne_of_lt (Heap.lt_size e)) (Heap.get?_push_of_some _ e)
 refine ⟨lim.keeps hk₁, ?_⟩
 show codeAny _ _ (.expr body (envL X scope s2.heap.objs.size p c)) _ _
 obtain ⟨te, hte, hq⟩ := go A2 outer2 s2 Q E (hr.deeper _) hsp
 have lk : ∀ {x d}, (clOf X.env scope.names).lookup x = some d -> X.env.cells.lookup x = some d := fun {x d} h => by
  rcases cl_lookup X.env _ _ h with z | ⟨z, e⟩
  ·simp at z
  ·obtain ⟨a, ha⟩ := I.ok.has x (S.free _ z rfl)
   rw [e, ha]; rfl
 have cellK : ∀ {x d v}, X.env.cells.lookup x = some d -> s.heap.IsCell d v -> s2.heap.IsCell d v := fun {x d v} h z => by
  obtain ⟨o, ho, hd⟩ := z
  refine ⟨o, hkp d o ho (I.freeC x d h) (fun z => ?_), hd⟩
  rcases List.mem_cons.mp (I.stkSub d z) with z | z
  ·exact I.cne x d h z
  ·obtain ⟨_, o2, q, _⟩ := I.ok.funs.mem z
   exact absurd (Nat.lt_of_lt_of_le (Heap.lt_size q) (I.ok.cab x d (hfn x) h)) (Nat.lt_irrefl _)
 have J : Inv (cxL X.prog X.w X.K X.mg X.base N (envL X scope s2.heap.objs.size p c) A2 outer2 s2 H E) [] (caps cs σ) H { s2 with heap := h₁, toks := s2.toks + ([] : List (Str × Value)).length } := by
  have noA : ∀ b : Addr, b ∉ (cxL X.prog X.w X.K X.mg X.base N (envL X scope s2.heap.objs.size p c) A2 outer2 s2 H E).ex := fun b z => absurd (show b ∈ ([] : List Addr) from z) (by simp)
  refine ⟨⟨e0.mod, S.kind, rfl, rfl, Nat.le_refl _, fun x y d h1 h2 => I.ok.inj x y d (lk h1) (lk h2), fun x hx => ?_, fun x d h _ => (nomatch h), fun _ => hr.hd, Around.frames_deeper e0.frames, .inr ⟨rfl, rfl⟩, fun b z => absurd z (noA b), e0.bs, e0.bsz, fun b _ _ => noA b, fun b z => absurd z (noA b), e0.funs, e0.frf⟩,
   rfl, e0.bare, Un.kept hk₁, ⟨_, hns, fun i x v h1 h2 h3 => ?_⟩, fun x d h => ?_, e0.hok.fresh (Nat.le_refl _), fun x d h => I.freeC x d (lk h), fun p hp => absurd (show p ∈ ([] : List (Addr × Obj)) from hp) (by simp), e0.hok.kept hk₁, ?_⟩
  ·have hx : scope.names.lookup x = some .cell \/ scope.names.lookup x = some .free := hx
   rcases hx with hx | hx
   ·exact absurd rfl (S.cell _ (PySem.mem_of_lookup hx))
   ·exact cl_has X.env _ [] (PySem.mem_of_lookup hx)
  ·unfold caps at h2
   rw [List.getElem?_map] at h2
   have hj : i < cs.length := by
    by_cases z : i < cs.length
    ·exact z
    ·rw [List.getElem?_eq_none (by lia)] at h2
     cases h2
   obtain ⟨x', f1, f2, f3⟩ := S.cap i hj
   rw [Nat.zero_add, show N[i]? = some x from h1] at f1
   cases f1
   rw [List.getElem?_eq_getElem hj] at h2
   have h2' : (σ[cs[i]]?).getD none = some v := Option.some.inj h2
   rw [List.getD_eq_getElem?_getD, List.getElem?_eq_getElem hj] at f2
   have h4 : σ[cs[i]]? = some (some v) := by
    cases q : σ[cs[i]]? with
    | none => rw [q] at h2'; cases h2'
    | some w => rw [q] at h2'; rw [show w = some v from h2']
   have kO := S.free (x, .free) (PySem.mem_of_lookup f3) rfl
   obtain ⟨mo, _, hlo⟩ := I.loc
   obtain ⟨u, ru, l⟩ := hlo _ x v f2 h4 (.inr kO)
   refine ⟨u, ru, ?_⟩
   rcases l with ⟨z, _⟩ | ⟨_, d, hc', z⟩
   ·have z' : X.env.scope.names.lookup x = some .local := z
    rcases kO with q | q <;> · rw [z'] at q; cases q
   ·obtain ⟨d', h5⟩ := cl_has X.env _ [] (PySem.mem_of_lookup f3)
    have h6 := lk h5
    rw [hc'] at h6
    cases h6
    obtain ⟨o, ho, hd⟩ := cellK hc' z
    exact .inr ⟨.inr f3, d, h5, o, hk₁ _ _ ho, hd⟩
  ·obtain ⟨v, z⟩ := I.cell x d (lk h)
   obtain ⟨o, ho, hd⟩ := cellK (lk h) z
   exact ⟨v, o, hk₁ _ _ ho, hd⟩
  ·show (caps cs σ).length = N.length
   unfold caps
   rw [List.length_map, S.len, Nat.zero_add]
 refine PySem.W.kla_codeExpr (wpAny_mono (hte [] _ _ H Q J hq) (fun u s' hs => ?_) fun e s' hs => hs)
 obtain ⟨v, H', J', rv, q⟩ := hs
 exact ⟨v, H', J'.os, J'.bare, J'.base, J'.hok, rv, q⟩
end
abbrev SpS := List Env -> Shared -> Sp
structure FnOkS (P : Program) (w : World) (K : PySem.W.Frag) (mg : Str -> Option Value) (base : Heap) (CX : CXT) (k : Nat) (f : Addr) (fd : FuncData) (ps : List Str) (sp : SpS) : Prop where
 len : ∀ o s vs H Q E, sp o s vs H Q E -> vs.length = ps.length
 run : ∀ (A : Around) (outer : List Env) (s : Shared) (H : Hp) (args : Args) (us : List Value) (vs : List V) (Q : VK) (E : XK), Room k A -> Env0 P w K mg base A outer s H -> BindsTo s fd args (ps.zip us) -> Vals vs us -> sp outer s vs H Q E ->
  codeAny (model P w) A (.call (.ref f) args) (CR CX outer P w H s Q E) s
section
variable {P : Program} {w : World} {K : PySem.W.Frag} {mg : Str -> Option Value} {base : Heap}
theorem Fun.okS {x qual : Str} {st : Stmt} {f : Addr} {fd : FuncData} {N ps : List Str} {k : Nat} {sp : SpS} (F : Fun K x qual st f fd) (S : FnScope N ps (defScope st)) (len : ∀ o s vs H Q E, sp o s vs H Q E -> vs.length = ps.length)
  (hbody : ∀ (cdv : Value) (A : Around) (outer : List Env) (s : Shared) (H : Hp) (vs : List V) (Q : VK) (E : XK), Room k (A.deeper (envOfC qual (defScope st) s.heap.objs.size f cdv)) -> sp outer s vs H Q E ->
   ∃ t, PSs (cxOf CX0 P w K mg base N qual (defScope st) f cdv A outer s H E).nox (defBody st) t /\ t { nx := fun _ H' => Q .non H', rt := Q } (start N vs) H) : FnOkS P w K mg base CX0 (k + 1) f fd ps sp := by
 obtain ⟨oc, od, kV, doc, pm, an, cdv, ct, osl, rfl, lk, hcd⟩ := F.ex
 refine ⟨len, fun A outer s H args us vs Q E hr e0 hb r hsp => ?_⟩
 have z := fn_of (CX := CX0) (P := P) (w := w) (mg := mg) (base := base) (k := k) (sp := fun vs2 H2 Q2 E2 => sp outer s vs H Q E /\ vs2 = vs /\ H2 = H /\ Q2 = Q /\ E2 = E) lk hcd S (fun vs2 H2 Q2 E2 h => h.2.1 ▸ len _ _ _ _ _ _ h.1)
 have hl := len _ _ _ _ _ _ hsp
 have KX : K.In s.heap := e0.mod.kin.keeps fun b o e => (e0.bs b o e).1
 have lim : s.heap.NoLimit := e0.mod.nolimit.keeps fun b o e => (e0.bs b o e).1
 have hkind : ∀ y ∈ ps.zip us, (defScope st).names.lookup y.1 = some .local \/ ((defScope st).names.lookup y.1 = some .cell /\ ((cellsFrom (s.heap.objs.size + 1) (defScope st).names []).lookup y.1).isSome = true) := fun ⟨n, v⟩ hy => by
  rcases S.par n (List.of_mem_zip hy).1 with q | q
  ·exact .inl q
  ·exact .inr ⟨q, PySem.W.cellsFrom_some _ _ _ (.inl q)⟩
 clear z
 refine codeAny_call_function hr.depth (KX _ _ lk) rfl S.co S.gen rfl (PySem.W.codeRec_of KX hcd) (hb _ _ _ _ ?_)
 refine wpAny_newFunctionEnv_cells S.kind hkind fun env he s1 x => ?_
 subst he
 refine ⟨lim.keeps x.toInCall.keep, codeAny_func ?_⟩
 obtain ⟨t, ht, hq⟩ := hbody cdv A outer s H vs Q E (hr.deeper _) hsp
 have I : Inv (cxOf CX0 P w K mg base N qual (defScope st) f cdv A outer s H E) [] (start N vs) H s1 := inv_start S hr.hd e0 hl r x
 refine wpAny_mono (ht.nox [] s1 (start N vs) H _ I hq) (fun fl s' hs => ?_) fun e s' hs => hs
 have fin : ∀ {σ' : St} {H' : Hp} {v : V} {u : Value}, Inv (cxOf CX0 P w K mg base N qual (defScope st) f cdv A outer s H E) [] σ' H' s' -> RelV v u -> Q v H' -> CE outer P w H s Q u s' :=
  fun {σ' H' v u} J rv q => ⟨v, H', J.os, J.bare, J.base, J.hok, rv, q⟩
 cases fl with
 | ret u =>
  obtain ⟨v, σ', H', J, rv, q⟩ := hs
  exact fin J rv q
 | next =>
  obtain ⟨σ', H', J, q⟩ := hs
  exact fin (v := V.non) (u := Value.none) J rfl q
 | brk =>
  obtain ⟨_, _, _, q⟩ := hs
  exact False.elim q
 | cont =>
  obtain ⟨_, _, _, q⟩ := hs
  exact False.elim q
theorem Fun.okC {x qual : Str} {st : Stmt} {f : Addr} {fd : FuncData} {N ps : List Str} {k : Nat} {sp : Sp} (F : Fun K x qual st f fd) (S : FnScope N ps (defScope st)) (len : ∀ vs H Q E, sp vs H Q E -> vs.length = ps.length)
  (hbody : ∀ (cdv : Value) (A : Around) (outer : List Env) (s : Shared) (H : Hp) (vs : List V) (Q : VK) (E : XK), fd.code = cdv -> Room k (A.deeper (envOfC qual (defScope st) s.heap.objs.size f cdv)) -> sp vs H Q E ->
   ∃ t, PSs (cxOf CX0 P w K mg base N qual (defScope st) f cdv A outer s H E).nox (defBody st) t /\ t { nx := fun _ H' => Q .non H', rt := Q } (start N vs) H) : FnOk P w K mg base CX0 (k + 1) f fd ps sp := by
 obtain ⟨oc, od, kV, doc, pm, an, cdv, ct, osl, rfl, lk, hcd⟩ := F.ex
 refine fn_of lk hcd S len fun A outer s H vs Q E hr hsp => ?_
 obtain ⟨t, h, q⟩ := hbody cdv A outer s H vs Q E rfl hr hsp
 exact ⟨t, h.nox, q⟩
end
def tCallT (X : Cx) (sp : SpS) (t : TA) : TE := fun σ H Q => t σ H fun vs H1 => ∀ pins s1, Inv X pins σ H1 s1 -> sp X.stack s1 vs H1 Q E0
def tDeed (i : Nat) (p : Addr) (H₀ : Hp) (S : St -> Prop) (sp : VK -> XK -> Prop) (E : XK) : TE := fun σ H Q => σ[i]? = some (some (.ref p)) /\ H = H₀ /\ S σ /\ sp Q E
section
variable {X : Cx} {k : Nat} {f : Addr} {fd : FuncData} {ps : List Str} {sp : SpS} {x : Str} {p pos : Pos} {e : Expr} {es : List Expr} {t : TA}
theorem pe_callT (F : FnOkS X.prog X.w X.K X.mg X.base CX0 k f fd ps sp) (hr : Room k X.A) (hg : Gl X x) (hm : X.mg x = some (.ref f)) (hk : PySem.W.keepIn X.K (.ref f) = true) (hb : Binds X.K fd ps [])
  (ha : PA X (e :: es) t) (hdb : (x == ("__debug__" : Str)) = false := by decide) (he : starEach (e :: es) X.env = (false, eval e X.env) :: starEach es X.env := by rfl) (hpl : (backTo pos (starEach es X.env)).any (·.1) = false := by rfl) :
  PE X (.Call (.Name x p) (e :: es) [] pos) (tCallT X sp t) := by
 intro pins s σ H Q I h
 refine wpAny_Call_Name_kw (ld_glob I hg hm ?_ hdb)
 refine PySem.W.callWith_K (h₀ := X.base) I.ok.mod.kin hk (thn (ha pos pins s σ H _ I h) fun us s1 ⟨vs, H1, I1, r, q⟩ => ⟨I1.kIn, ?_⟩) he hpl
 have q1 := q pins s1 I1
 have hl : us.length = ps.length := r.length.symm.trans (F.len _ _ _ _ _ _ q1)
 have hb1 := hb s1 us I1.kIn (by rw [List.append_nil]; exact hl)
 rw [List.append_nil] at hb1
 refine wpAny_call (codeAny_mono (F.run X.A X.stack s1 H1 ⟨us, []⟩ us vs Q E0 hr I1.env0 hb1 r q1) ?_)
 intro r s' hq
 rcases r with e | (_ | _ | _ | _)
 all_goals first
  | exact I1.after hq
  | exact hq.elim
theorem pe_deed {i : Nat} {d : Addr} {S : St -> Prop} {spd : VK -> XK -> Prop} {E : XK} {H0 : Hp} (hH : X.H₀ = H0) (hN : X.N[i]? = some x) (hl : X.env.scope.names.lookup x = some .local) (hr : Room k X.A) (D : Deed X.prog X.w X.K X.mg X.base k d X.outer X.s₀ X.H₀ spd)
  (hx : PassesS (CXE X.prog X.w) X E S) (hex : X.ex = []) (hlam : ∃ fd, X.H₀ d = some (isLam d fd)) (hdb : (x == ("__debug__" : Str)) = false := by decide) : PE X (.Call (.Name x p) [] [] pos) (tDeed i d H0 S spd E) := by
 subst hH
 intro pins s σ H Q I h
 obtain ⟨e1, rfl, hS, hq⟩ := h
 obtain ⟨m, hn, hlo⟩ := I.loc
 obtain ⟨u, r, l⟩ := hlo i x _ hN e1 (.inl hl)
 obtain rfl : u = Value.ref d := r
 have hm : m x = some (.ref d) := by
  rcases l with ⟨_, z⟩ | ⟨z, _⟩
  ·exact z
  ·have z' : X.env.scope.names.lookup x = some .cell \/ X.env.scope.names.lookup x = some .free := z
   rcases z' with z' | z' <;> · rw [hl] at z'; cases z'
 obtain ⟨fd, hfd⟩ := hlam
 have ho := (I.hok d _ hfd).1
 refine wpAny_Call_Name_kw (wpAny_Name (wpAny_loadName_local I.ok.kind hl hn hm ?_) hdb)
 refine PySem.W.callWith_F0 ⟨_, _, _, _, ho⟩ ?_
 refine wpAny_call (codeAny_mono (D X.A X.stack s Q E hr I.env0 (fun b o q n z => I.base.keep b o q n z (by rw [hex]; simp)) hq) ?_)
 intro r s' hq
 rcases r with e | (_ | _ | _ | _)
 ·exact hx pins σ _ s e s' hS I hq
 all_goals first
  | exact I.after hq
  | exact hq.elim
end
end L2
namespace L2
open PySem PySem.Spec PyProof.Rows
section
variable {X : Cx}
theorem truths_eq {s : Shared} {A : Around} : ∀ {bs : List Bool} {xs ys : List Value}, Vals (bs.map V.bl) xs -> Vals (bs.map V.bl) ys -> xs.length = ys.length /\ ∀ j (h1 : j < xs.length) (h2 : j < ys.length), PySem.SeqAt.EqAt A s xs[j] ys[j] true := fun {bs xs ys} r1 r2 => by
 obtain rfl := vals_bl r1
 obtain rfl := vals_bl r2
 exact ⟨rfl, fun j h1 h2 => PySem.SeqAt.EqAt.same _⟩
def AlikeB (K : PySem.W.Frag) (H : Hp) (x y : V) : Prop := ∃ (a b : Addr) (bs : List Bool), x = .ref a /\ y = .ref b /\ SqL K H a (bs.map V.bl) /\ SqL K H b (bs.map V.bl)
theorem op_eq_listB (K : PySem.W.Frag) (hK : X.K = K) (hu : X.A.units + 64 < cLine) : OpR X (compareOp .Eq) (fun x y H Q => AlikeB K H x y /\ Q (.bl true) H) := by
 subst hK
 intro pins s σ H x y v u Q I rx ry h
 obtain ⟨⟨a, b, bs, rfl, rfl, h1, h2⟩, q⟩ := h
 cases rx
 cases ry
 obtain ⟨xs, r1, p1, _⟩ := I.list h1
 obtain ⟨ys, r2, p2, _⟩ := I.list h2
 obtain ⟨l, k⟩ := truths_eq (A := X.A.in1) (s := s) r1 r2
 refine PySem.SeqAt.eq_listAt (e := fun _ => true) p1.isList p2.isList (by rw [List.size_toArray, List.size_toArray, l]) (by lia) (fun j k1 k2 => ?_) ?_
 ·simp only [List.size_toArray] at k1 k2
  simpa using k j k1 k2
 ·rw [all_true]
  exact ⟨.bl _, H, I, rfl, q⟩
end
structure CalT (P : Program) (w : World) (K : PySem.W.Frag) (mg : Str -> Option Value) (base : Heap) (k : Nat) (x : Str) (ps : List Str) (sp : SpS) : Prop where
 ex : ∃ (f : Addr) (fd : FuncData), FnOkS P w K mg base CX0 k f fd ps sp /\ mg x = some (.ref f) /\ PySem.W.keepIn K (.ref f) = true /\ Binds K fd ps []
theorem pe_calT {X : Cx} {k : Nat} {ps : List Str} {sp : SpS} {x : Str} {p pos : Pos} {e : Expr} {es : List Expr} {t : TA} (c : CalT X.prog X.w X.K X.mg X.base k x ps sp) (hr : Room k X.A) (hg : Gl X x) (ha : PA X (e :: es) t) (hdb : (x == ("__debug__" : Str)) = false := by decide)
  (he : starEach (e :: es) X.env = (false, eval e X.env) :: starEach es X.env := by rfl) (hpl : (backTo pos (starEach es X.env)).any (·.1) = false := by rfl) : PE X (.Call (.Name x p) (e :: es) [] pos) (tCallT X sp t) := by
 obtain ⟨f, fd, h1, h2, h3, h4⟩ := c.ex
 exact pe_callT h1 hr hg h2 h3 h4 ha hdb he hpl
def OnlyT (tabs : List (Addr × Addr)) (H : Hp) : Prop := (∀ b, H b = none \/ (∃ o xs, H b = some (.frz o (.lst xs))) \/ (H b = some (.tbl #[]) /\ b ∈ tabs.map (·.2))) /\ ∀ q ∈ tabs, H q.2 = some (.tbl #[])
theorem law_callT {P : Program} {w : World} {K : PySem.W.Frag} {mg mb : Str -> Option Value} {CX : CXT} {k : Nat} {fa a : Addr} {fd : FuncData} {x : Str} {sp : Sp} {s₁ : Shared} {vs : List Value} {ns : List Int} {tabs : List (Addr × Addr)}
  (KX : K.In s₁.heap) (hns : s₁.heap.Ns mainGlobals mg) (hb : s₁.heap.Ns builtinsNs mb) (hbb : ∀ x : Str, x ≠ "__name__" -> mb x = bootBuiltins x) (hlim : s₁.heap.NoLimit) (hg : s₁.gens = #[])
  (ha : s₁.heap.get? a = some { cls := .type "list", data := .seq vs.toArray }) (hi : IntsAre vs ns) (hl : ns.length <= sizeLine) (hr : Room k callerA) (hT : PySem.W.TabsAt tabs s₁.heap) (hnt : PySem.W.noTabs K = true) (hB : Blt mg s₁.heap)
  (F : ∀ base : Heap, K.In base -> base.Ns mainGlobals mg -> Blt mg base -> (∀ q ∈ tabs, PySem.W.CodeHd base q.1 q.2) -> FnOk P w K mg base CX k fa fd [x] sp) (hbind : ∀ (s : Shared) (u : Value), BindsTo s fd ⟨[u], []⟩ [(x, u)])
  (hsp : ∀ H : Hp, OnlyT tabs H -> SqL K H a (ns.map V.int) -> sp [.ref a] H (fun v _ => v = .bl true) fun _ _ _ => False)
  (hCX : ∀ H e s', CX [] H s₁ (fun _ _ _ => False) e s' -> False) :
  codeAny (model P w) callerA (.call (.ref fa) ⟨[.ref a], []⟩) (fun r s' => r = .ok (.ret (.bool true)) /\ OldK s₁.heap s'.heap /\ s'.os = s₁.os /\ AllBare s'.gens) s₁ := by
 have rv := vals_ints hi
 have lenV := hi.length
 have tabO : ∀ b, b ∈ tabs.map (·.2) -> s₁.heap.get? b = some (PySem.W.tabObj #[]) := fun b hb => by
  obtain ⟨q, hq, rfl⟩ := List.mem_map.mp hb
  exact (hT q hq).2
 have core : ∀ H : Hp, OnlyT tabs H -> SqL K H a (ns.map V.int) -> HOk P w H s₁.heap -> (∀ b, H b ≠ none -> b = a \/ b ∈ tabs.map (·.2)) -> (H a ≠ none -> K.lookup a = none) ->
   codeAny (model P w) callerA (.call (.ref fa) ⟨[.ref a], []⟩) (fun r s' => r = .ok (.ret (.bool true)) /\ OldK s₁.heap s'.heap /\ s'.os = s₁.os /\ AllBare s'.gens) s₁ := by
  intro H hO hS hok hA hK
  have base_of : ∀ {b : Addr} {o : Obj}, s₁.heap.get? b = some o -> H b = none -> (hidT s₁.heap H).get? b = some o := fun e n => hidT_get e n
  have noD : ∀ {b : Addr} {o : Obj}, s₁.heap.get? b = some o -> o.cls ≠ .none -> (∀ u n, o.data ≠ .seq u n) -> H b = none := fun {b o} e c d => by
   cases q : H b with
   | none => rfl
   | some u =>
    rcases hA b (by rw [q]; simp) with z | z
    ·subst z
     rw [ha] at e
     cases e
     exact absurd rfl (d _ _)
    ·rw [tabO b z] at e
     cases e
     exact absurd rfl c
  have noA : ∀ {b : Addr} {o : Obj} {es : Array DictEntry} {ep : Nat}, s₁.heap.get? b = some o -> o.data = .dict es ep -> H b = none := fun {b o es ep} e d => by
   cases q : H b with
   | none => rfl
   | some u =>
    rcases hA b (by rw [q]; simp) with z | z
    ·subst z
     rw [ha] at e
     cases e
     cases d
    ·rw [tabO b z] at e
     cases e
     cases d
  have nsK : ∀ {b : Addr} {m : Str -> Option Value}, s₁.heap.Ns b m -> (hidT s₁.heap H).Ns b m := fun {b m} ⟨o, es, ep, e, d, r⟩ => ⟨o, es, ep, base_of e (noA e d), d, r⟩
  have hKb : K.In (hidT s₁.heap H) := fun b o e => base_of (KX b o e) (by
   cases q : H b with
   | none => rfl
   | some u =>
    rcases hA b (by rw [q]; simp) with z | z
    ·subst z
     rw [hK (by rw [q]; simp)] at e; cases e
    ·have h2 := List.all_eq_true.mp hnt (b, o) (PySem.W.mem_of_lookupK e)
     have e2 := KX b o e
     rw [tabO b z] at e2
     cases e2
     exact absurd (show false = true from h2) Bool.false_ne_true)
  have hM : Mod K mg (hidT s₁.heap H) := ⟨hKb, nsK hns, ⟨mb, nsK hb, hbb⟩, let ⟨mc, h1, h2⟩ := hlim; ⟨mc, nsK h1, h2⟩⟩
  have hB2 : Blt mg (hidT s₁.heap H) := by
   obtain ⟨bm, o, b1, b2, b3, b4, b5, b6⟩ := hB
   exact ⟨bm, o, b1, b2, base_of b3 (noD b3 (by rw [b4]; nofun) (by rw [b6]; nofun)), b4, b5, b6⟩
  have hC2 : ∀ q ∈ tabs, PySem.W.CodeHd (hidT s₁.heap H) q.1 q.2 := fun q hq => by
   obtain ⟨o, us, file, tf, flags, tg, inF, text, tt, e1, r1, r2, r⟩ := (hT q hq).1
   exact ⟨o, us, file, tf, flags, tg, inF, text, tt, base_of e1 (noD e1 (by rw [r1]; nofun) (by rw [r2]; nofun)), r1, r2, r⟩
  have e0 : Env0 P w K mg (hidT s₁.heap H) callerA [] s₁ H := ⟨rfl, hM, fun b o e => of_hidT e, Nat.le_of_eq (hidT_size _ _), trivial, fun b hb => absurd (show b ∈ ([] : List Addr) from hb) (by simp), hok, .of_eq hg⟩
  refine codeAny_mono ((F _ hKb (nsK hns) hB2 hC2).run callerA [] s₁ H ⟨[.ref a], []⟩ [.ref a] [.ref a] _ _ hr e0 (hbind s₁ (.ref a)) (.cons rfl .nil) (hsp H hO hS)) fun r s' h => ?_
  cases r with
  | error e => exact (hCX H e s' h).elim
  | ok fl =>
   cases fl with
   | next => exact False.elim h
   | brk => exact False.elim h
   | cont => exact False.elim h
   | ret u =>
    obtain ⟨v, H', os, bare, un, hok', r', q⟩ := h
    have q' : v = .bl true := q
    subst q'
    obtain rfl : u = Value.bool true := r'
    refine ⟨rfl, ⟨fun b o e => ?_, fun b o e => un.there b o e (by simp)⟩, os, bare⟩
    rcases hO.1 b with q | ⟨ob, xs, z⟩ | ⟨z, hb⟩
    ·exact .inl (un.keep b o e q (by intro z; exact absurd (show b ∈ ([] : List Addr) from z) (by simp)) (by simp))
    ·have z2 := un.frzs b ob _ z
     obtain ⟨e1, _⟩ := hok b _ z
     obtain ⟨e2, _⟩ := hok' b _ z2
     rw [e] at e1; cases e1
     exact .inl e2
    ·obtain ⟨more, z2⟩ := un.tbls b _ z
     have e1 : s'.heap.get? b = some { cls := .none, data := .fields (#[] ++ more) } := hok' b _ z2
     obtain ⟨q, hq, rfl⟩ := List.mem_map.mp hb
     have e2 := (hT q hq).2
     rw [e] at e2
     cases e2
     exact .inr (.inl ⟨((hT q hq).1.tab (hT q hq).2).isCodeTable, rfl, #[], more, rfl, e1⟩)
 have naT : a ∉ tabs.map (·.2) := fun z => by
  have := tabO a z
  rw [ha] at this
  cases this
 cases hk : K.lookup a with
 | some o =>
  have e := KX a o hk
  rw [ha] at e
  cases e
  refine core (fun b => if b ∈ tabs.map (·.2) then some (.tbl #[]) else none) ⟨fun b => ?_, fun q hq => if_pos (List.mem_map_of_mem hq)⟩ (.inr ⟨_, vs.toArray, _, hk, rfl, rfl, rfl, by rw [List.size_toArray, lenV]; exact hl, by simpa using rv⟩) (fun b u z => ?_) (fun b z => ?_) fun z => absurd (if_neg naT) z
  ·by_cases hb : b ∈ tabs.map (·.2)
   ·exact .inr (.inr ⟨if_pos hb, hb⟩)
   ·exact .inl (if_neg hb)
  ·by_cases hb : b ∈ tabs.map (·.2)
   ·have z' := (if_pos hb).symm.trans z
    cases z'
    exact tabO b hb
   ·have z' := (if_neg hb).symm.trans z
    cases z'
  ·by_cases hb : b ∈ tabs.map (·.2)
   ·exact .inr hb
   ·exact absurd (if_neg hb) z
 | none =>
  refine core (fun b => if b = a then some (.frz { cls := .type "list", data := .seq vs.toArray } (.lst (ns.map V.int))) else if b ∈ tabs.map (·.2) then some (.tbl #[]) else none) ⟨fun b => ?_, fun q hq => ?_⟩ (.inl (.inr ⟨{ cls := .type "list", data := .seq vs.toArray }, if_pos rfl⟩)) (fun b u z => ?_) (fun b z => ?_) fun _ => hk
  ·by_cases hb : b = a
   ·exact .inr (.inl ⟨_, _, if_pos hb⟩)
   ·by_cases hb2 : b ∈ tabs.map (·.2)
    ·exact .inr (.inr ⟨(if_neg hb).trans (if_pos hb2), hb2⟩)
    ·exact .inl ((if_neg hb).trans (if_neg hb2))
  ·have m := List.mem_map_of_mem (f := (·.2)) hq
   exact (if_neg (fun z => naT (by rw [<- z]; exact m))).trans (if_pos m)
  ·by_cases hb : b = a
   ·have z' := (if_pos hb).symm.trans z
    cases z'
    subst hb
    exact ⟨ha, by rw [List.length_map]; exact hl, vs, _, rv, ha⟩
   ·have z' := (if_neg hb).symm.trans z
    by_cases hb2 : b ∈ tabs.map (·.2)
    ·have z'' := (if_pos hb2).symm.trans z'
     cases z''
     exact tabO b hb2
    ·have z'' := (if_neg hb2).symm.trans z'
     cases z''
  ·by_cases hb : b = a
   ·exact .inl hb
   ·by_cases hb2 : b ∈ tabs.map (·.2)
    ·exact .inr hb2
    ·exact absurd ((if_neg hb).trans (if_neg hb2)) z
theorem walk_ofT {l : PySem.W.OpenLaw} {n k : Nat} {q : Program} {loose : List Str} {XP : (Str -> Option Value) -> Heap -> Prop} {YP : World -> Heap -> Prop} {d : DefRec} {K : Params -> PySem.W.Frag} {CX : World -> CXT} {sp : World -> Sp} {x : Str} {tabs : List (Addr × Addr)}
  (hn : l.most = some n) (hn2 : n <= sizeLine) (hdf : d.params.defaults = []) (hr : Room k callerA)
  (hY : ∀ (w : World) (h : Heap), YP w h -> (K w.params).In h)
  (hT : ∀ (w : World) (h : Heap), YP w h -> PySem.W.TabsAt tabs h) (hnt : ∀ w : World, PySem.W.noTabs (K w.params) = true)
  (F : ∀ (w : World) (mg : Str -> Option Value) (fa : Addr) (h : Heap), (K w.params).In h -> h.Ns mainGlobals mg -> mg d.name = some (.ref fa) ->
   ∃ fd : FuncData, (∀ (s : Shared) (u : Value), BindsTo s fd ⟨[u], []⟩ [(x, u)]) /\
    ∀ base : Heap, (K w.params).In base -> base.Ns mainGlobals mg -> Blt mg base -> (∀ q ∈ tabs, PySem.W.CodeHd base q.1 q.2) -> FnOk l.prog w (K w.params) mg base (CX w) k fa fd [x] (sp w))
  (hsp : ∀ (w : World) (H : Hp) (a : Addr) (ns : List Int), ns.length <= n -> OnlyT tabs H -> SqL (K w.params) H a (ns.map V.int) -> sp w [.ref a] H (fun v _ => v = .bl true) fun _ _ _ => False)
  (hCX : ∀ (w : World) (H : Hp) (s : Shared) (e : Value) (s' : Shared), CX w [] H s (fun _ _ _ => False) e s' -> False) :
  PySem.W.WalkO q loose XP YP l.row.toRowW d [] (fun f vs => PySem.call f vs) := by
 refine Att.attach_call hn hdf fun w s₀ s₁ mg mb fa o pm cd doc a vs ns G Y ho hd hcd hmg hobj hints hlen hg => ?_
 have KX := hY w _ Y
 obtain ⟨fd, hb, hF⟩ := F w mg fa _ KX G.T.g hmg
 exact law_callT KX G.T.g G.T.b G.T.builtins G.T.nolimit hg hobj hints (Nat.le_trans hlen hn2) hr (hT w _ Y) (hnt w) G.T.bmain hF hb (fun H hO hS => hsp w H a ns hlen hO hS) fun H e s' => hCX w H s₁ e s'
end L2
namespace L2
open PySem PySem.Spec PyProof.Rows
theorem entry_unchain : entryFor table "proto.unchain" = some Builtin.«proto.unchain» := entryFor_of_fast (by kernel_rfl)
section
variable {prog : Program} {w : World} {A : Around} {E : Value -> Shared -> Prop} {s : Shared}
theorem raise_in {α : Type} {a e : Addr} {oe : Obj} {ws : Array Value} {D : Addr} {Q : α -> Shared -> Prop} (hh : A.handled = some (.ref a)) (ha : ExcAt a D s.heap) (ne : a ≠ e) (he : s.heap.get? e = some oe) (hd : oe.data = .fields ws) (hz : 2 < ws.size)
  (h : E (.ref e) { s with heap := s.heap.update e (Obj.mapFields (·.setIfInBounds 2 (.ref a))) }) : wpAny (model prog w) A (raiseNew (.ref e) : Sem α) Q E s := by
 obtain ⟨o, h1, _, vs, h2, h3⟩ := ha
 simp only [raiseNew]
 refine wpAny_bind (wpAny_handled ?_)
 rw [hh]
 have q : (Value.ref a != Value.ref e) = true := by simpa using ne
 simp only [q, if_true]
 refine wpAny_bind (wpAny_holding (wpAny_runValue (codeAny_builtin entry_unchain ?_)))
 show wpAny _ _ (field (.ref a) 2 >>= _) _ _ s
 refine wpAny_bind (wpAny_field h1 h2 h3 ?_)
 rw [if_pos (by decide)]
 refine wpAny_pure ?_
 simp only [updateField]
 refine wpAny_bind (wpAny_bind (wpAny_load he ?_))
 rw [hd]
 dsimp only
 rw [if_pos hz]
 exact wpAny_update he (wpAny_throw h)
theorem range_endH {it a D : Addr} {x left step : Int} {Q : Option Value -> Shared -> Prop} (hh : A.handled = some (.ref a)) (ha : ExcAt a D s.heap) (hit : IsRangeIter s.heap it x left step) (hleft : left <= 0)
  (hQ : ∀ h', Heap.ExtBut it s.heap h' -> Q none { s with heap := h' }) : wpAny (model prog w) A (pyNext (.ref it)) Q E s := by
 have hT : s.TypeIs (.ref it) "range_iterator" := ⟨_, hit, rfl⟩
 unfold pyNext
 refine wpAny_bind (wpAny_attempt (wpAny_callSpecial?_slot (name := Str.ofString "__next__") hT F.slot_range_iterator_next (wpAny_call_entry F.slot_range_iterator_next hT F.entry_range_iterator_next ?_ (F.args_range_iterator_next_1 _))))
 refine wpAny_bind (m := field (.ref it) 0) (wpAny_field hit rfl (x := rawInt x) rfl (wpAny_bind (m := field (.ref it) 1) (wpAny_field hit rfl (x := rawInt left) rfl (wpAny_bind (m := field (.ref it) 2) (wpAny_field hit rfl (x := rawInt step) rfl ?_)))))
 show wpAny _ _ (if left <= 0 then _ else _) _ _ _
 rw [if_pos hleft]
 refine wpAny_bind (wpAny_rule (wpAny_bind (wpAny_bind (m := newExc (.type "StopIteration") []) ?_)))
 simp only [newExc, newTuple]
 refine wpAny_bind (wpAny_newObj_type (wpAny_bind (m := firstArgMember _ _) (wpAny_of_eq (a := Value.none) (by first | rfl | (simp only [firstArgMember]; rfl)) (wpAny_newObj_type ?_ (by size_fits)))) (by size_fits))
 generalize hob : ({ cls := Value.type "StopIteration", data := Data.fields (#[Value.ref s.heap.objs.size, Value.none, Value.none, Value.none, Value.bool false, Value.none] ++ ownMembersOf (Value.type "StopIteration") []) } : Obj) = ob
 have hd : ob.data = Data.fields (#[Value.ref s.heap.objs.size, Value.none, Value.none, Value.none, Value.bool false, Value.none] ++ ownMembersOf (Value.type "StopIteration") []) := by rw [<- hob]
 have hc : ob.cls = .type "StopIteration" := by rw [<- hob]
 have hf : ob.isFreed = false := Obj.isFreed_of_fields hd
 have up : ∀ b o, s.heap.get? b = some o -> ((s.heap.push { cls := Value.type "tuple", data := Data.seq #[] }).push ob).get? b = some o := fun b o q => Heap.get?_push_of_some _ (Heap.get?_push_of_some _ q)
 have lt : ∀ b o, s.heap.get? b = some o -> b ≠ (s.heap.push { cls := Value.type "tuple", data := Data.seq #[] }).objs.size := fun b o q => Nat.ne_of_lt (Heap.lt_size (Heap.get?_push_of_some _ q))
 have ge := Heap.get?_push_size (s.heap.push { cls := Value.type "tuple", data := Data.seq #[] }) hf
 obtain ⟨o, h1, hr⟩ := id ha
 refine raise_in (D := D) (A := A.in1) hh ⟨o, up _ _ h1, hr⟩ (lt _ _ h1) ge hd (by rw [Array.size_append]; exact Nat.lt_of_lt_of_le (by decide : 2 < 6) (Nat.le_add_right _ _)) ?_
 refine wpAny_bind (wpAny_isInstance (T := "StopIteration") (b := true) ⟨_, Heap.get?_update_self _ ge (Obj.isFreed_of_fields (Obj.data_mapFields hd _)), (Obj.cls_mapFields _ _).trans hc⟩ isSubtype_stop (wpAny_pure (hQ _ fun b o n q => ?_)))
 exact (Heap.get?_update_other _ _ (Ne.symm (lt b o q))).trans (up b o q)
end
def ItrH (a : Addr) (lo : Int) (n : Nat) : It := ⟨fun i _ => i < n, fun i H x H' => H' = H /\ x = .int (lo + i), fun i H => i = n /\ ∃ D, H a = some (isExc a D)⟩
theorem turn_rangeH {P : Program} {w : World} {K : PySem.W.Frag} {tg : Expr} (a it : Addr) (lo : Int) (n : Nat) : TurnQ (fun X => X.A.handled = some (.ref a)) P w K tg (ItrH a lo n) [it] it (fun i h => IsRangeIter h it (lo + (i : Nat) * 1) ((n : Int) - (i : Nat)) 1) where
 obj := (turn_range (P := P) (w := w) (K := K) (tg := tg) it lo n).obj
 keep := (turn_range (P := P) (w := w) (K := K) (tg := tg) it lo n).keep
 item := by
  intro X hC hP hw hK i pins s σ H E I hf st hg
  subst hP hw hK
  obtain ⟨f0, f1, f2, f3, f4, f5⟩ := hf it (by simp)
  have hg : i < n := hg
  refine wpAny_pyNext_range_item st (by omega) fun h' hit' hs' => ?_
  have st' : IsRangeIter h' it (lo + ((i + 1 : Nat) : Int) * 1) ((n : Int) - ((i + 1 : Nat) : Int)) 1 := by
   have e1 : lo + ((i + 1 : Nat) : Int) * 1 = lo + (i : Int) * 1 + 1 := by omega
   have e2 : (n : Int) - ((i + 1 : Nat) : Int) = (n : Int) - (i : Int) - 1 := by omega
   rw [e1, e2]
   exact hit'
  have I1 : Inv X pins σ H { s with heap := h', toks := s.toks + 1 } := I.turned (fun b o hb e => hs'.extBut b o (by simpa using hb) e) f0 f1 f3 f4 f5
  exact ⟨_, rfl, go_of (s := { s with heap := h', toks := s.toks + 1 }) (n := "range_iterator") st' rfl rfl (by decide) ⟨.int (lo + i), H, I1, ⟨s.toks, by rw [Int.mul_one]⟩, ⟨rfl, rfl⟩, st', fun b hb => (hf b hb).1⟩⟩
 done := by
  intro X hC hP hw hK i pins s σ H E I hf st hg
  subst hP hw hK
  obtain ⟨f0, f1, f2, f3, f4, f5⟩ := hf it (by simp)
  obtain ⟨z, D, hD⟩ := hg
  subst z
  obtain ⟨p, _, _⟩ := (show ObjOk X.prog X.w H s.heap a (isExc a D) from I.hok a _ hD)
  exact range_endH hC p st (by omega) fun h' kk => ⟨rfl, I.turned (t' := s.toks) (fun b o hb e => kk b o (by simpa using hb) e) f0 f1 f3 f4 f5⟩
 self := (turn_range (P := P) (w := w) (K := K) (tg := tg) it lo n).self
def PIH (a : Addr) (X : Cx) (tg iter : Expr) (wi : TI) : Prop :=
 ∀ (pins : List (Addr × Obj)) (s : Shared) (σ : St) (H : Hp) (R : It -> Hp -> Prop), Inv X pins σ H s -> wi σ H R ->
  wpAny (model X.prog X.w) X.A (eval iter X.env) (fun v s1 => wpAny (model X.prog X.w) X.A (pyIter v) (fun itv s2 => ∃ (it : Addr) (fp : List Addr) (tn : Nat -> Heap -> Prop) (J : It) (H' : Hp), itv = .ref it /\ Inv X pins σ H' s2 /\ TurnQ (fun X => X.A.handled = some (.ref a)) X.prog X.w X.K tg J fp it tn /\ tn 0 s2.heap /\ (∀ b ∈ fp, FpOk X pins H' b) /\ R J H') X.xe s1) X.xe s
def iRngH (a : Addr) (ta : TA) : TI := fun σ H R => ta σ H fun vs H1 => ∃ n : Nat, vs = [.int n] /\ n < 1000000 /\ R (ItrH a 0 n) H1
section
variable {X : Cx} {a : Addr} {tg iter elt : Expr} {ifs : List Expr} {scope : Scope} {pos p : Pos} {wi : TI} {g : TG} {tc : TT} {te : TE} {N : List Str} {k : Nat} {cs : List Nat}
theorem pi_rangeH {e : Expr} {ta : TA} (hg : Gl X "range") (hm : X.mg "range" = none) (ha : PA X [e] ta) (hs : starEach [e] X.env = [(false, eval e X.env)] := by rfl) : PIH a X tg (.Call (.Name "range" p) [e] [] pos) (iRngH a ta) := by
 intro pins s σ H R I h
 refine Call_ (ld_blt I hg hm boot_range (PyProof.Rows.callWith_type1 (thn (ha pos pins s σ H _ I h) fun us s1 ⟨vs, H1, I1, r1, q1⟩ => ?_) hs rfl))
 obtain ⟨n, e, q1, q⟩ := q1
 subst e
 cases r1 with
 | cons r rr =>
  cases rr
  obtain ⟨t, rfl⟩ := r
  refine call_range_1 (wpAny_pyIter_range (IsRange.new ..) (small_one (by omega) (by omega) (by omega) (by omega)) ?_)
  generalize ({ cls := Value.type "range", data := Data.fields #[Value.int 0 s1.toks, Value.int (n : Int) t, Value.int 1 (s1.toks + 1)] } : Obj) = ob
  have I2 : Inv X pins σ H1 { s1 with heap := s1.heap.push ob, toks := s1.toks + 1 + 1 } := I1.kept fun b o e => Heap.get?_push_of_some _ e
  refine ⟨(s1.heap.push ob).objs.size, [(s1.heap.push ob).objs.size], _, _, H1, rfl, I2.kept (t' := s1.toks + 1 + 1) fun b o e => Heap.get?_push_of_some _ e, turn_rangeH a _ 0 n, ?_, fun b hb => ?_, q⟩
  ·have e2 : (n : Int) - ((0 : Nat) : Int) = Builtin.Range.rangeSize 0 n 1 := by rw [rangeSize_one]; split <;> omega
   show IsRangeIter _ _ ((0 : Int) + ((0 : Nat) : Int) * 1) ((n : Int) - ((0 : Nat) : Int)) 1
   rw [show (0 : Int) + ((0 : Nat) : Int) * 1 = 0 from rfl, e2]
   exact Heap.get?_push_size _ rfl
  ·rw [List.mem_singleton.mp hb]
   exact I2.fpOk (Nat.le_refl _) (I2.hok.fresh (Nat.le_refl _))
theorem pe_compH (hh : X.A.handled = some (.ref a)) (S : CScope X scope N k cs) (hi : PIH a X tg iter wi) (hg : ∀ s H ex, PG (cxC X scope N s H ex) tg g) (ht : ∀ s H ex, PTs (cxC X scope N s H ex) ifs tc) (he : ∀ s H ex, PE (cxC X scope N s H ex) elt te)
  (hs : ∀ x, foldedSetIterable iter X.env x = pure x := by intro _; rfl) : PE X (.ListComp elt [⟨tg, iter, ifs, 0⟩] scope pos) (tComp k cs wi g tc te) := by
 intro pins s σ H Q I h
 rw [eval_ListComp]
 refine wpAny_comprehension_free (use := none) rfl hs (closure_of fun y hy hf => I.ok.has _ (S.free y hy hf)) S.kind S.names (thn (hi pins s σ H _ I h) fun v s1 h1 => thn h1 fun itv s2 h2 => ?_)
 obtain ⟨it, fp, tn, J, H2, rfl, I2, T, st2, f2, hb⟩ := h2
 refine comp_block (RR := fun acc C => compPost (model X.prog X.w) X.A X.xe none (EP X pins σ Q) acc C) (Cq := fun X => X.A.handled = some (.ref a)) (fun _ _ _ => hh) S hg ht he I2 T st2 f2 hb fun D C H' acc s4 qf nD J4 hn fC => ?_
 obtain ⟨m, hm⟩ := hn
 exact ⟨m, hm, fun h' sb => ⟨.ref D, upd H' D (.lst acc), J4.turned (t' := s4.toks) (it := C) (fun b o hb e => (sb.2 b hb).trans e) fC.1 fC.2.1 fC.2.2.2.1 fC.2.2.2.2.1 fC.2.2.2.2.2, rfl, qf D nD⟩⟩
theorem blk_rangeH {σ : St} {H : Hp} {fin : List V -> Hp -> Prop} {lo : Int} {n : Nat} (Pv : Nat -> List V -> Hp -> Prop) (h0 : Pv 0 [] H) (hs : ∀ i acc H, i < n -> Pv i acc H -> Bt k cs g tc te σ (.int (lo + i)) acc H (Pv (i + 1))) (hd : ∀ acc H, Pv n acc H -> (∃ D, H a = some (isExc a D)) /\ fin acc H) : tBlock k cs g tc te (ItrH a lo n) σ H fin := by
 refine ⟨fun i m acc H => m = n - i /\ i <= n /\ Pv i acc H, ⟨n, by simp, Nat.zero_le _, h0⟩, ?_⟩
 rintro i m acc H ⟨rfl, hi, p⟩
 by_cases hlt : i < n
 ·refine .inr ⟨hlt, Pv (i + 1), fun acc' H' p' => ⟨n - (i + 1), by omega, rfl, hlt, p'⟩, fun x H' y => ?_⟩
  obtain ⟨e, y⟩ := y
  subst e y
  exact hs i acc _ hlt p
 ·have e : i = n := by omega
  subst e
  obtain ⟨z, q⟩ := hd acc H p
  exact .inl ⟨⟨rfl, z⟩, q⟩
end
end L2
namespace J
open PySem L2
def top (i : Nat) : Stmt := PySem.Challenge.pw_jumpfield_k50_refused_jumps.main.body.getD i (.Pass ⟨0, 0, 0, 0⟩)
abbrev s_is_whole : Stmt := top 11
abbrev n_is_whole : List Str := ["thing"]
abbrev p_is_whole : List Str := ["thing"]
theorem sc_is_whole : FnScope n_is_whole p_is_whole (defScope s_is_whole) := ⟨rfl, rfl, rfl, by decide +kernel, rfl, by decide +kernel, by decide +kernel⟩
abbrev s_is_state : Stmt := top 18
abbrev n_is_state : List Str := ["thing"]
abbrev p_is_state : List Str := ["thing"]
theorem sc_is_state : FnScope n_is_state p_is_state (defScope s_is_state) := ⟨rfl, rfl, rfl, by decide +kernel, rfl, by decide +kernel, by decide +kernel⟩
abbrev s_takes : Stmt := top 19
abbrev n_takes : List Str := ["wanted", "state"]
abbrev p_takes : List Str := ["wanted", "state"]
theorem sc_takes : FnScope n_takes p_takes (defScope s_takes) := ⟨rfl, rfl, rfl, by decide +kernel, rfl, by decide +kernel, by decide +kernel⟩
abbrev s_read_clause : Stmt := top 23
abbrev n_read_clause : List Str := ["text", "words", "cell", "conditions"]
abbrev p_read_clause : List Str := ["text"]
theorem sc_read_clause : FnScope n_read_clause p_read_clause (defScope s_read_clause) := ⟨rfl, rfl, rfl, by decide +kernel, rfl, by decide +kernel, by decide +kernel⟩
abbrev s_read_state : Stmt := top 24
abbrev n_read_state : List Str := ["word"]
abbrev p_read_state : List Str := ["word"]
theorem sc_read_state : FnScope n_read_state p_read_state (defScope s_read_state) := ⟨rfl, rfl, rfl, by decide +kernel, rfl, by decide +kernel, by decide +kernel⟩
abbrev s_read_wanted : Stmt := top 25
abbrev n_read_wanted : List Str := ["word"]
abbrev p_read_wanted : List Str := ["word"]
theorem sc_read_wanted : FnScope n_read_wanted p_read_wanted (defScope s_read_wanted) := ⟨rfl, rfl, rfl, by decide +kernel, rfl, by decide +kernel, by decide +kernel⟩
abbrev s_read_condition : Stmt := top 26
abbrev n_read_condition : List Str := ["word"]
abbrev p_read_condition : List Str := ["word"]
theorem sc_read_condition : FnScope n_read_condition p_read_condition (defScope s_read_condition) := ⟨rfl, rfl, rfl, by decide +kernel, rfl, by decide +kernel, by decide +kernel⟩
abbrev s_read_amounts : Stmt := top 27
abbrev n_read_amounts : List Str := ["word", "parts"]
abbrev p_read_amounts : List Str := ["word"]
theorem sc_read_amounts : FnScope n_read_amounts p_read_amounts (defScope s_read_amounts) := ⟨rfl, rfl, rfl, by decide +kernel, rfl, by decide +kernel, by decide +kernel⟩
abbrev s_read_numbers : Stmt := top 28
abbrev n_read_numbers : List Str := ["signs", "numbers", "sign"]
abbrev p_read_numbers : List Str := ["signs"]
theorem sc_read_numbers : FnScope n_read_numbers p_read_numbers (defScope s_read_numbers) := ⟨rfl, rfl, rfl, by decide +kernel, rfl, by decide +kernel, by decide +kernel⟩
abbrev s_read_places : Stmt := top 29
abbrev n_read_places : List Str := ["word"]
abbrev p_read_places : List Str := ["word"]
theorem sc_read_places : FnScope n_read_places p_read_places (defScope s_read_places) := ⟨rfl, rfl, rfl, by decide +kernel, rfl, by decide +kernel, by decide +kernel⟩
abbrev s_clause_texts : Stmt := top 36
abbrev n_clause_texts : List Str := ["text"]
abbrev p_clause_texts : List Str := ["text"]
theorem sc_clause_texts : FnScope n_clause_texts p_clause_texts (defScope s_clause_texts) := ⟨rfl, rfl, rfl, by decide +kernel, rfl, by decide +kernel, by decide +kernel⟩
abbrev s_read_rule : Stmt := top 37
abbrev n_read_rule : List Str := ["text", "rule"]
abbrev p_read_rule : List Str := ["text"]
theorem sc_read_rule : FnScope n_read_rule p_read_rule (defScope s_read_rule) := ⟨rfl, rfl, rfl, by decide +kernel, rfl, by decide +kernel, by decide +kernel⟩
abbrev s_deciding : Stmt := top 38
abbrev n_deciding : List Str := ["rule", "cell", "around", "number", "clause"]
abbrev p_deciding : List Str := ["rule", "cell", "around"]
theorem sc_deciding : FnScope n_deciding p_deciding (defScope s_deciding) := ⟨rfl, rfl, rfl, by decide +kernel, rfl, by decide +kernel, by decide +kernel⟩
abbrev s_becomes : Stmt := top 39
abbrev n_becomes : List Str := ["rule", "cell", "around", "number"]
abbrev p_becomes : List Str := ["rule", "cell", "around"]
theorem sc_becomes : FnScope n_becomes p_becomes (defScope s_becomes) := ⟨rfl, rfl, rfl, by decide +kernel, rfl, by decide +kernel, by decide +kernel⟩
abbrev s_shown_rule : Stmt := top 40
abbrev n_shown_rule : List Str := ["rule"]
abbrev p_shown_rule : List Str := ["rule"]
theorem sc_shown_rule : FnScope n_shown_rule p_shown_rule (defScope s_shown_rule) := ⟨rfl, rfl, rfl, by decide +kernel, rfl, by decide +kernel, by decide +kernel⟩
abbrev s_nine_parts : Stmt := top 43
abbrev n_nine_parts : List Str := ["grove", "square", "parts", "a", "b", "c", "d"]
abbrev p_nine_parts : List Str := ["grove", "square"]
theorem sc_nine_parts : FnScope n_nine_parts p_nine_parts (defScope s_nine_parts) := ⟨rfl, rfl, rfl, by decide +kernel, rfl, by decide +kernel, by decide +kernel⟩
abbrev s_fours_of : Stmt := top 44
abbrev n_fours_of : List Str := ["nine"]
abbrev p_fours_of : List Str := ["nine"]
theorem sc_fours_of : FnScope n_fours_of p_fours_of (defScope s_fours_of) := ⟨rfl, rfl, rfl, by decide +kernel, rfl, by decide +kernel, by decide +kernel⟩
abbrev s_met_in_the_middle : Stmt := top 45
abbrev n_met_in_the_middle : List Str := ["grove", "four", "parts"]
abbrev p_met_in_the_middle : List Str := ["grove", "four"]
theorem sc_met_in_the_middle : FnScope n_met_in_the_middle p_met_in_the_middle (defScope s_met_in_the_middle) := ⟨rfl, rfl, rfl, by decide +kernel, rfl, by decide +kernel, by decide +kernel⟩
abbrev s__law_at : Stmt := top 48
abbrev n__law_at : List Str := ["_law_script", "_law_k"]
abbrev p__law_at : List Str := ["_law_script", "_law_k"]
theorem sc__law_at : FnScope n__law_at p__law_at (defScope s__law_at) := ⟨rfl, rfl, rfl, by decide +kernel, rfl, by decide +kernel, by decide +kernel⟩
abbrev s__law_same : Stmt := top 49
abbrev n__law_same : List Str := ["_law_found", "_law_due"]
abbrev p__law_same : List Str := ["_law_found", "_law_due"]
theorem sc__law_same : FnScope n__law_same p__law_same (defScope s__law_same) := ⟨rfl, rfl, rfl, by decide +kernel, rfl, by decide +kernel, by decide +kernel⟩
abbrev s__law_refused : Stmt := top 50
abbrev n__law_refused : List Str := ["_law_deed", "_law_due", "_law_e", "_law_kinds"]
abbrev p__law_refused : List Str := ["_law_deed", "_law_due"]
theorem sc__law_refused : FnScope n__law_refused p__law_refused (defScope s__law_refused) := ⟨rfl, rfl, rfl, by decide +kernel, rfl, by decide +kernel, by decide +kernel⟩
abbrev s__law_both : Stmt := top 51
abbrev n__law_both : List Str := ["_law_jumps", "_law_square", "_law_e", "_law_due"]
abbrev p__law_both : List Str := ["_law_jumps", "_law_square", "_law_e", "_law_due"]
theorem sc__law_both : FnScope n__law_both p__law_both (defScope s__law_both) := ⟨rfl, rfl, rfl, by decide +kernel, rfl, by decide +kernel, by decide +kernel⟩
abbrev s__law_bad : Stmt := top 52
abbrev n__law_bad : List Str := ["_law_cell", "_law_way", "_law_far"]
abbrev p__law_bad : List Str := ["_law_cell"]
theorem sc__law_bad : FnScope n__law_bad p__law_bad (defScope s__law_bad) := ⟨rfl, rfl, rfl, by decide +kernel, rfl, by decide +kernel, by decide +kernel⟩
abbrev s__law_no_steps : Stmt := top 53
abbrev n__law_no_steps : List Str := ["_law_cell", "_law_level", "_law_way", "_law_far"]
abbrev p__law_no_steps : List Str := ["_law_cell", "_law_level"]
theorem sc__law_no_steps : FnScope n__law_no_steps p__law_no_steps (defScope s__law_no_steps) := ⟨rfl, rfl, rfl, by decide +kernel, rfl, by decide +kernel, by decide +kernel⟩
abbrev s_law : Stmt := top 54
abbrev n_law : List Str := ["_law_script", "_law_grove", "_law_state", "_law_rule", "_law_jumps", "_law_at_here", "_law_cell", "_law_level", "_law_wrong", "_law_steps", "_law_square"]
abbrev p_law : List Str := ["_law_script"]
theorem sc_law : FnScope n_law p_law (defScope s_law) := ⟨rfl, rfl, rfl, by decide +kernel, rfl, by decide +kernel, by decide +kernel⟩
abbrev s_Amounts_init : Stmt := inClass (top 20) 0
abbrev n_Amounts_init : List Str := ["self", "state", "numbers"]
abbrev p_Amounts_init : List Str := ["self", "state", "numbers"]
theorem sc_Amounts_init : FnScope n_Amounts_init p_Amounts_init (defScope s_Amounts_init) := ⟨rfl, rfl, rfl, by decide +kernel, rfl, by decide +kernel, by decide +kernel⟩
abbrev s_Amounts_holds : Stmt := inClass (top 20) 1
abbrev n_Amounts_holds : List Str := ["self", "around"]
abbrev p_Amounts_holds : List Str := ["self", "around"]
theorem sc_Amounts_holds : FnScope n_Amounts_holds p_Amounts_holds (defScope s_Amounts_holds) := ⟨rfl, rfl, rfl, by decide +kernel, rfl, by decide +kernel, by decide +kernel⟩
abbrev s_Places_init : Stmt := inClass (top 21) 0
abbrev n_Places_init : List Str := ["self", "wanted"]
abbrev p_Places_init : List Str := ["self", "wanted"]
theorem sc_Places_init : FnScope n_Places_init p_Places_init (defScope s_Places_init) := ⟨rfl, rfl, rfl, by decide +kernel, rfl, by decide +kernel, by decide +kernel⟩
abbrev s_Places_holds : Stmt := inClass (top 21) 1
abbrev n_Places_holds : List Str := ["self", "around"]
abbrev p_Places_holds : List Str := ["self", "around"]
theorem sc_Places_holds : FnScope n_Places_holds p_Places_holds (defScope s_Places_holds) := ⟨rfl, rfl, rfl, by decide +kernel, rfl, by decide +kernel, by decide +kernel⟩
abbrev s_Clause_init : Stmt := inClass (top 22) 0
abbrev n_Clause_init : List Str := ["self", "cell", "conditions", "makes"]
abbrev p_Clause_init : List Str := ["self", "cell", "conditions", "makes"]
theorem sc_Clause_init : FnScope n_Clause_init p_Clause_init (defScope s_Clause_init) := ⟨rfl, rfl, rfl, by decide +kernel, rfl, by decide +kernel, by decide +kernel⟩
abbrev s_Clause_fits : Stmt := inClass (top 22) 1
abbrev n_Clause_fits : List Str := ["self", "cell", "around"]
abbrev p_Clause_fits : List Str := ["self", "cell", "around"]
theorem sc_Clause_fits : FnScope n_Clause_fits p_Clause_fits (defScope s_Clause_fits) := ⟨rfl, rfl, rfl, by decide +kernel, rfl, by decide +kernel, by decide +kernel⟩
abbrev s_Grove_init : Stmt := inClass (top 32) 0
abbrev n_Grove_init : List Str := ["self", "state", "level", "bare"]
abbrev p_Grove_init : List Str := ["self"]
theorem sc_Grove_init : FnScope n_Grove_init p_Grove_init (defScope s_Grove_init) := ⟨rfl, rfl, rfl, by decide +kernel, rfl, by decide +kernel, by decide +kernel⟩
abbrev s_Grove_kept : Stmt := inClass (top 32) 1
abbrev n_Grove_kept : List Str := ["self", "parts", "level", "number"]
abbrev p_Grove_kept : List Str := ["self", "parts", "level"]
theorem sc_Grove_kept : FnScope n_Grove_kept p_Grove_kept (defScope s_Grove_kept) := ⟨rfl, rfl, rfl, by decide +kernel, rfl, by decide +kernel, by decide +kernel⟩
abbrev s_Grove_linked : Stmt := inClass (top 32) 2
abbrev n_Grove_linked : List Str := ["self", "parts", "number"]
abbrev p_Grove_linked : List Str := ["self", "parts"]
theorem sc_Grove_linked : FnScope n_Grove_linked p_Grove_linked (defScope s_Grove_linked) := ⟨rfl, rfl, rfl, by decide +kernel, rfl, by decide +kernel, by decide +kernel⟩
abbrev s_Grove_check_square : Stmt := inClass (top 32) 3
abbrev n_Grove_check_square : List Str := ["self", "square"]
abbrev p_Grove_check_square : List Str := ["self", "square"]
theorem sc_Grove_check_square : FnScope n_Grove_check_square p_Grove_check_square (defScope s_Grove_check_square) := ⟨rfl, rfl, rfl, by decide +kernel, rfl, by decide +kernel, by decide +kernel⟩
abbrev s_Grove_leaf : Stmt := inClass (top 32) 4
abbrev n_Grove_leaf : List Str := ["self", "state"]
abbrev p_Grove_leaf : List Str := ["self", "state"]
theorem sc_Grove_leaf : FnScope n_Grove_leaf p_Grove_leaf (defScope s_Grove_leaf) := ⟨rfl, rfl, rfl, by decide +kernel, rfl, by decide +kernel, by decide +kernel⟩
abbrev s_Grove_solid : Stmt := inClass (top 32) 6
abbrev n_Grove_solid : List Str := ["self", "level", "state", "square", "below"]
abbrev p_Grove_solid : List Str := ["self", "level", "state"]
theorem sc_Grove_solid : FnScope n_Grove_solid p_Grove_solid (defScope s_Grove_solid) := ⟨rfl, rfl, rfl, by decide +kernel, rfl, by decide +kernel, by decide +kernel⟩
abbrev s_Grove_level_of : Stmt := inClass (top 32) 7
abbrev n_Grove_level_of : List Str := ["self", "square"]
abbrev p_Grove_level_of : List Str := ["self", "square"]
theorem sc_Grove_level_of : FnScope n_Grove_level_of p_Grove_level_of (defScope s_Grove_level_of) := ⟨rfl, rfl, rfl, by decide +kernel, rfl, by decide +kernel, by decide +kernel⟩
abbrev s_Grove_state_of : Stmt := inClass (top 32) 9
abbrev n_Grove_state_of : List Str := ["self", "square"]
abbrev p_Grove_state_of : List Str := ["self", "square"]
theorem sc_Grove_state_of : FnScope n_Grove_state_of p_Grove_state_of (defScope s_Grove_state_of) := ⟨rfl, rfl, rfl, by decide +kernel, rfl, by decide +kernel, by decide +kernel⟩
abbrev s_Rule_init : Stmt := inClass (top 35) 0
abbrev n_Rule_init : List Str := ["self", "text"]
abbrev p_Rule_init : List Str := ["self", "text"]
theorem sc_Rule_init : FnScope n_Rule_init p_Rule_init (defScope s_Rule_init) := ⟨rfl, rfl, rfl, by decide +kernel, rfl, by decide +kernel, by decide +kernel⟩
abbrev s_Jumps_init : Stmt := inClass (top 46) 0
abbrev n_Jumps_init : List Str := ["self", "grove", "rule"]
abbrev p_Jumps_init : List Str := ["self", "grove", "rule"]
theorem sc_Jumps_init : FnScope n_Jumps_init p_Jumps_init (defScope s_Jumps_init) := ⟨rfl, rfl, rfl, by decide +kernel, rfl, by decide +kernel, by decide +kernel⟩
abbrev s_Jumps_change : Stmt := inClass (top 46) 1
abbrev n_Jumps_change : List Str := ["self", "rule", "text"]
abbrev p_Jumps_change : List Str := ["self", "rule"]
theorem sc_Jumps_change : FnScope n_Jumps_change p_Jumps_change (defScope s_Jumps_change) := ⟨rfl, rfl, rfl, by decide +kernel, rfl, by decide +kernel, by decide +kernel⟩
abbrev s_Jumps_after : Stmt := inClass (top 46) 2
abbrev n_Jumps_after : List Str := ["self", "square", "e"]
abbrev p_Jumps_after : List Str := ["self", "square", "e"]
theorem sc_Jumps_after : FnScope n_Jumps_after p_Jumps_after (defScope s_Jumps_after) := ⟨rfl, rfl, rfl, by decide +kernel, rfl, by decide +kernel, by decide +kernel⟩
abbrev s_Jumps_check_jump : Stmt := inClass (top 46) 3
abbrev n_Jumps_check_jump : List Str := ["self", "square", "e", "level"]
abbrev p_Jumps_check_jump : List Str := ["self", "square", "e"]
theorem sc_Jumps_check_jump : FnScope n_Jumps_check_jump p_Jumps_check_jump (defScope s_Jumps_check_jump) := ⟨rfl, rfl, rfl, by decide +kernel, rfl, by decide +kernel, by decide +kernel⟩
abbrev s_Jumps_reckoned : Stmt := inClass (top 46) 4
abbrev n_Jumps_reckoned : List Str := ["self", "square", "e", "result"]
abbrev p_Jumps_reckoned : List Str := ["self", "square", "e"]
theorem sc_Jumps_reckoned : FnScope n_Jumps_reckoned p_Jumps_reckoned (defScope s_Jumps_reckoned) := ⟨rfl, rfl, rfl, by decide +kernel, rfl, by decide +kernel, by decide +kernel⟩
abbrev s_Jumps_fresh : Stmt := inClass (top 46) 5
abbrev n_Jumps_fresh : List Str := ["self", "square", "e", "grove", "level", "nine"]
abbrev p_Jumps_fresh : List Str := ["self", "square", "e"]
theorem sc_Jumps_fresh : FnScope n_Jumps_fresh p_Jumps_fresh (defScope s_Jumps_fresh) := ⟨rfl, rfl, rfl, by decide +kernel, rfl, by decide +kernel, by decide +kernel⟩
abbrev s_Jumps_four_halfway : Stmt := inClass (top 46) 6
abbrev n_Jumps_four_halfway : List Str := ["self", "square", "e", "nine"]
abbrev p_Jumps_four_halfway : List Str := ["self", "square", "e"]
theorem sc_Jumps_four_halfway : FnScope n_Jumps_four_halfway p_Jumps_four_halfway (defScope s_Jumps_four_halfway) := ⟨rfl, rfl, rfl, by decide +kernel, rfl, by decide +kernel, by decide +kernel⟩
abbrev s_Jumps_middle_after : Stmt := inClass (top 46) 7
abbrev n_Jumps_middle_after : List Str := ["self", "square", "parts", "a", "b", "c", "d"]
abbrev p_Jumps_middle_after : List Str := ["self", "square"]
theorem sc_Jumps_middle_after : FnScope n_Jumps_middle_after p_Jumps_middle_after (defScope s_Jumps_middle_after) := ⟨rfl, rfl, rfl, by decide +kernel, rfl, by decide +kernel, by decide +kernel⟩
abbrev s_Jumps_cell_after : Stmt := inClass (top 46) 8
abbrev n_Jumps_cell_after : List Str := ["self", "leaves", "leaf", "states"]
abbrev p_Jumps_cell_after : List Str := ["self", "leaves"]
theorem sc_Jumps_cell_after : FnScope n_Jumps_cell_after p_Jumps_cell_after (defScope s_Jumps_cell_after) := ⟨rfl, rfl, rfl, by decide +kernel, rfl, by decide +kernel, by decide +kernel⟩
abbrev s_Jumps_reasons : Stmt := inClass (top 46) 9
abbrev n_Jumps_reasons : List Str := ["self", "square", "e", "told"]
abbrev p_Jumps_reasons : List Str := ["self", "square", "e"]
theorem sc_Jumps_reasons : FnScope n_Jumps_reasons p_Jumps_reasons (defScope s_Jumps_reasons) := ⟨rfl, rfl, rfl, by decide +kernel, rfl, by decide +kernel, by decide +kernel⟩
abbrev s_Jumps_gather_reasons : Stmt := inClass (top 46) 10
abbrev p_Jumps_gather_reasons : List Str := ["self", "square", "e", "seen", "told"]
abbrev s_Jumps_rests_on : Stmt := inClass (top 46) 11
abbrev p_Jumps_rests_on : List Str := ["self", "square", "e"]
structure Ad where
 c_Amounts : Addr
 c_Places : Addr
 c_Clause : Addr
 c_Grove : Addr
 c_Rule : Addr
 c_Jumps : Addr
 x_FieldError : Addr
 x_NoRule : Addr
 x_Restless : Addr
 x_NoSquare : Addr
 x_NoLevel : Addr
 x_NoState : Addr
 x_TooFar : Addr
 x_NoSteps : Addr
structure Top (K : PySem.W.Frag) (mg : Str -> Option Value) (a : Ad) : Prop where
 b_all : mg "all" = none
 b_bool : mg "bool" = none
 b_enumerate : mg "enumerate" = none
 b_int : mg "int" = none
 b_isinstance : mg "isinstance" = none
 b_len : mg "len" = none
 b_max : mg "max" = none
 b_min : mg "min" = none
 b_range : mg "range" = none
 b_str : mg "str" = none
 b_tuple : mg "tuple" = none
 b_zip : mg "zip" = none
 k_STATES : ∃ t, mg "STATES" = some (.int 8 t)
 k_NEIGHBOURS : ∃ t, mg "NEIGHBOURS" = some (.int 8 t)
 k_STATE_FIGURES : ∃ t, mg "STATE_FIGURES" = some (.str (Str.ofString "01234567") t)
 k_AMOUNT_FIGURES : ∃ t, mg "AMOUNT_FIGURES" = some (.str (Str.ofString "012345678") t)
 k_ANY_SIGN : ∃ t, mg "ANY_SIGN" = some (.str (Str.ofString "*") t)
 k_TOP_LEVEL : ∃ t, mg "TOP_LEVEL" = some (.int 48 t)
 k_CLAUSE_MARK : ∃ t, mg "CLAUSE_MARK" = some (.str (Str.ofString "; ") t)
 k_LEAST_JUMPED : ∃ t, mg "LEAST_JUMPED" = some (.int 2 t)
 m_Amounts : mg "Amounts" = some (.ref a.c_Amounts)
 cl_Amounts : Cls K a.c_Amounts
 na_Amounts_state : NoAttr K a.c_Amounts "state"
 na_Amounts_numbers : NoAttr K a.c_Amounts "numbers"
 m_Places : mg "Places" = some (.ref a.c_Places)
 cl_Places : Cls K a.c_Places
 na_Places_wanted : NoAttr K a.c_Places "wanted"
 m_Clause : mg "Clause" = some (.ref a.c_Clause)
 cl_Clause : Cls K a.c_Clause
 na_Clause_cell : NoAttr K a.c_Clause "cell"
 na_Clause_conditions : NoAttr K a.c_Clause "conditions"
 na_Clause_makes : NoAttr K a.c_Clause "makes"
 m_Grove : mg "Grove" = some (.ref a.c_Grove)
 cl_Grove : Cls K a.c_Grove
 na_Grove_levels : NoAttr K a.c_Grove "levels"
 na_Grove_parts : NoAttr K a.c_Grove "parts"
 na_Grove_numbers : NoAttr K a.c_Grove "numbers"
 na_Grove_bares : NoAttr K a.c_Grove "bares"
 na_Grove_amounts : NoAttr K a.c_Grove "amounts"
 na_Grove_boxes : NoAttr K a.c_Grove "boxes"
 m_Rule : mg "Rule" = some (.ref a.c_Rule)
 cl_Rule : Cls K a.c_Rule
 na_Rule_text : NoAttr K a.c_Rule "text"
 na_Rule_clauses : NoAttr K a.c_Rule "clauses"
 m_Jumps : mg "Jumps" = some (.ref a.c_Jumps)
 cl_Jumps : Cls K a.c_Jumps
 na_Jumps_grove : NoAttr K a.c_Jumps "grove"
 na_Jumps_memories : NoAttr K a.c_Jumps "memories"
 na_Jumps_rule : NoAttr K a.c_Jumps "rule"
 na_Jumps_known_squares : NoAttr K a.c_Jumps "known_squares"
 na_Jumps_known_cells : NoAttr K a.c_Jumps "known_cells"
 b_ValueError : mg "ValueError" = none
 mx_FieldError : mg "FieldError" = some (.ref a.x_FieldError)
 mx_NoRule : mg "NoRule" = some (.ref a.x_NoRule)
 mx_Restless : mg "Restless" = some (.ref a.x_Restless)
 mx_NoSquare : mg "NoSquare" = some (.ref a.x_NoSquare)
 mx_NoLevel : mg "NoLevel" = some (.ref a.x_NoLevel)
 mx_NoState : mg "NoState" = some (.ref a.x_NoState)
 mx_TooFar : mg "TooFar" = some (.ref a.x_TooFar)
 mx_NoSteps : mg "NoSteps" = some (.ref a.x_NoSteps)
 ec_NoSquare : ExcC K a.x_NoSquare
 ec_NoLevel : ExcC K a.x_NoLevel
 ec_NoSteps : ExcC K a.x_NoSteps
 ec_FieldError : ExcC K a.x_FieldError
 ef_NoSquare : ExcF K a.x_NoSquare
 mr_NoSquare : PySem.W.mroIn K a.x_NoSquare (.ref a.x_FieldError) = some true
 kv_NoSquare : PySem.W.kitOne K (.ref a.x_NoSquare) (.type "ValueError") = some true
 ki_NoSquare_NoRule : PySem.W.kitOne K (.ref a.x_NoSquare) (.ref a.x_NoRule) = some false
 ki_NoSquare_Restless : PySem.W.kitOne K (.ref a.x_NoSquare) (.ref a.x_Restless) = some false
 ki_NoSquare_NoSquare : PySem.W.kitOne K (.ref a.x_NoSquare) (.ref a.x_NoSquare) = some true
 ki_NoSquare_NoLevel : PySem.W.kitOne K (.ref a.x_NoSquare) (.ref a.x_NoLevel) = some false
 ki_NoSquare_NoState : PySem.W.kitOne K (.ref a.x_NoSquare) (.ref a.x_NoState) = some false
 ki_NoSquare_TooFar : PySem.W.kitOne K (.ref a.x_NoSquare) (.ref a.x_TooFar) = some false
 ki_NoSquare_NoSteps : PySem.W.kitOne K (.ref a.x_NoSquare) (.ref a.x_NoSteps) = some false
 ef_NoLevel : ExcF K a.x_NoLevel
 mr_NoLevel : PySem.W.mroIn K a.x_NoLevel (.ref a.x_FieldError) = some true
 kv_NoLevel : PySem.W.kitOne K (.ref a.x_NoLevel) (.type "ValueError") = some true
 ki_NoLevel_NoRule : PySem.W.kitOne K (.ref a.x_NoLevel) (.ref a.x_NoRule) = some false
 ki_NoLevel_Restless : PySem.W.kitOne K (.ref a.x_NoLevel) (.ref a.x_Restless) = some false
 ki_NoLevel_NoSquare : PySem.W.kitOne K (.ref a.x_NoLevel) (.ref a.x_NoSquare) = some false
 ki_NoLevel_NoLevel : PySem.W.kitOne K (.ref a.x_NoLevel) (.ref a.x_NoLevel) = some true
 ki_NoLevel_NoState : PySem.W.kitOne K (.ref a.x_NoLevel) (.ref a.x_NoState) = some false
 ki_NoLevel_TooFar : PySem.W.kitOne K (.ref a.x_NoLevel) (.ref a.x_TooFar) = some false
 ki_NoLevel_NoSteps : PySem.W.kitOne K (.ref a.x_NoLevel) (.ref a.x_NoSteps) = some false
 ef_NoSteps : ExcF K a.x_NoSteps
 mr_NoSteps : PySem.W.mroIn K a.x_NoSteps (.ref a.x_FieldError) = some true
 kv_NoSteps : PySem.W.kitOne K (.ref a.x_NoSteps) (.type "ValueError") = some true
 ki_NoSteps_NoRule : PySem.W.kitOne K (.ref a.x_NoSteps) (.ref a.x_NoRule) = some false
 ki_NoSteps_Restless : PySem.W.kitOne K (.ref a.x_NoSteps) (.ref a.x_Restless) = some false
 ki_NoSteps_NoSquare : PySem.W.kitOne K (.ref a.x_NoSteps) (.ref a.x_NoSquare) = some false
 ki_NoSteps_NoLevel : PySem.W.kitOne K (.ref a.x_NoSteps) (.ref a.x_NoLevel) = some false
 ki_NoSteps_NoState : PySem.W.kitOne K (.ref a.x_NoSteps) (.ref a.x_NoState) = some false
 ki_NoSteps_TooFar : PySem.W.kitOne K (.ref a.x_NoSteps) (.ref a.x_TooFar) = some false
 ki_NoSteps_NoSteps : PySem.W.kitOne K (.ref a.x_NoSteps) (.ref a.x_NoSteps) = some true
end J
namespace J
open PySem L2
inductive CondA where
 | am (s : Int) (ns : List Int)
 | pl (ws : List (Option Int))
structure ClauseA where
 cell : Option Int
 conds : List CondA
 makes : Int
abbrev RuleA := List ClauseA
def optV : Option Int -> V
 | none => .non
 | some i => .int i
def takesA (w : Option Int) (s : Int) : Bool := match w with
 | none => true
 | some i => decide (i = s)
def CondA.holds (ar : List Int) : CondA -> Bool
 | .am s ns => ns.any fun n => decide (n = ((ar.countP (· == s) : Nat) : Int))
 | .pl ws => (ws.zip ar).all fun p => takesA p.1 p.2
def ClauseA.fits (cell : Int) (ar : List Int) (c : ClauseA) : Bool := takesA c.cell cell && c.conds.all (CondA.holds ar)
def decA (r : RuleA) (cell : Int) (ar : List Int) : Option Nat := r.findIdx? (ClauseA.fits cell ar)
def becA (r : RuleA) (cell : Int) (ar : List Int) : Int := match r.find? (ClauseA.fits cell ar) with
 | none => cell
 | some c => c.makes
def fl1 (f : Str) (a : V) : List (Str × V) := putF f a []
def fl2 (f g : Str) (a b : V) : List (Str × V) := putF g b (putF f a [])
def fl3 (f g h : Str) (a b c : V) : List (Str × V) := putF h c (putF g b (putF f a []))
theorem fl1_1 {f : Str} {a : V} : (fl1 f a).lookup f = some a := by unfold fl1; rw [lookup_putF, if_pos rfl]
theorem fl1_no {f m : Str} {a : V} (h : ¬ m = f) : (fl1 f a).lookup m = none := by unfold fl1; rw [lookup_putF, if_neg h]; rfl
theorem fl2_1 {f g : Str} {a b : V} (h : ¬ f = g) : (fl2 f g a b).lookup f = some a := by unfold fl2; rw [lookup_putF, if_neg h, lookup_putF, if_pos rfl]
theorem fl2_2 {f g : Str} {a b : V} : (fl2 f g a b).lookup g = some b := by unfold fl2; rw [lookup_putF, if_pos rfl]
theorem fl2_no {f g m : Str} {a b : V} (h1 : ¬ m = f) (h2 : ¬ m = g) : (fl2 f g a b).lookup m = none := by unfold fl2; rw [lookup_putF, if_neg h2, lookup_putF, if_neg h1]; rfl
theorem fl3_1 {f g h : Str} {a b c : V} (h1 : ¬ f = g) (h2 : ¬ f = h) : (fl3 f g h a b c).lookup f = some a := by unfold fl3; rw [lookup_putF, if_neg h2, lookup_putF, if_neg h1, lookup_putF, if_pos rfl]
theorem fl3_2 {f g h : Str} {a b c : V} (h1 : ¬ g = h) : (fl3 f g h a b c).lookup g = some b := by unfold fl3; rw [lookup_putF, if_neg h1, lookup_putF, if_pos rfl]
theorem fl3_3 {f g h : Str} {a b c : V} : (fl3 f g h a b c).lookup h = some c := by unfold fl3; rw [lookup_putF, if_pos rfl]
theorem fl3_no {f g h m : Str} {a b c : V} (h1 : ¬ m = f) (h2 : ¬ m = g) (h3 : ¬ m = h) : (fl3 f g h a b c).lookup m = none := by unfold fl3; rw [lookup_putF, if_neg h3, lookup_putF, if_neg h2, lookup_putF, if_neg h1]; rfl
theorem putF_len (f : Str) (v : V) : ∀ l : List (Str × V), (putF f v l).length <= l.length + 1
 | [] => Nat.le_refl _
 | (g, w) :: r => by
  unfold putF
  split
  ·exact Nat.le_succ _
  ·rw [List.length_cons, List.length_cons]
   exact Nat.succ_le_succ (putF_len f v r)
theorem same_upd {H : Hp} {p : Addr} {o : HO} (h : H p = none) : Same H (upd H p o) := fun b u e => by
 rw [upd_ne (ne_of_none e h)]
 exact e
inductive CondAt (a : Ad) (H : Hp) : Addr -> CondA -> Prop where
 | am {p t dx : Addr} {s : Int} {ns : List Int} (h : H p = some (.ins a.c_Amounts dx (fl2 "state" "numbers" (.int s) (.ref t)))) (ht : H t = some (.tup (ns.map V.int))) : CondAt a H p (.am s ns)
 | pl {p t dx : Addr} {ws : List (Option Int)} (h : H p = some (.ins a.c_Places dx (fl1 "wanted" (.ref t)))) (ht : H t = some (.tup (ws.map optV))) : CondAt a H p (.pl ws)
structure ClauseAt (a : Ad) (H : Hp) (p : Addr) (c : ClauseA) : Prop where
 ex : ∃ (dx t : Addr) (cs : List Addr), H p = some (.ins a.c_Clause dx (fl3 "cell" "conditions" "makes" (optV c.cell) (.ref t) (.int c.makes))) /\ H t = some (.tup (cs.map V.ref)) /\ Paired (CondAt a H) cs c.conds
structure RuleAt (a : Ad) (H : Hp) (p : Addr) (x : Str) (r : RuleA) : Prop where
 ex : ∃ (dx t : Addr) (cs : List Addr), H p = some (.ins a.c_Rule dx (fl2 "text" "clauses" (.str x) (.ref t))) /\ H t = some (.tup (cs.map V.ref)) /\ Paired (ClauseAt a H) cs r
theorem Paired.imp {α β : Type} {F G : α -> β -> Prop} (h : ∀ x y, F x y -> G x y) : ∀ {l : List α} {m : List β}, Paired F l m -> Paired G l m
 | _, _, .nil => .nil
 | _, _, .cons r t => .cons (h _ _ r) (Paired.imp h t)
theorem Paired.get {α β : Type} {F : α -> β -> Prop} : ∀ {l : List α} {m : List β} {i : Nat} {x : α}, Paired F l m -> l[i]? = some x -> ∃ y, m[i]? = some y /\ F x y
 | _, _, _, _, .nil, e => by simp at e
 | _, _, 0, _, .cons r _, e => by simp at e; subst e; exact ⟨_, rfl, r⟩
 | _, _, i + 1, x, .cons _ t, e => by
  obtain ⟨y, h1, h2⟩ := Paired.get (i := i) (x := x) t (by simpa using e)
  exact ⟨y, by simpa using h1, h2⟩
theorem CondAt.same {a : Ad} {H H' : Hp} {p : Addr} {c : CondA} (s : Same H H') (h : CondAt a H p c) : CondAt a H' p c := by
 cases h with
 | am h ht => exact .am (s _ _ h) (s _ _ ht)
 | pl h ht => exact .pl (s _ _ h) (s _ _ ht)
theorem ClauseAt.same {a : Ad} {H H' : Hp} {p : Addr} {c : ClauseA} (s : Same H H') (h : ClauseAt a H p c) : ClauseAt a H' p c := by
 obtain ⟨dx, t, cs, h1, h2, h3⟩ := h.ex
 exact ⟨dx, t, cs, s _ _ h1, s _ _ h2, Paired.imp (fun _ _ z => z.same s) h3⟩
theorem RuleAt.same {a : Ad} {H H' : Hp} {p : Addr} {x : Str} {r : RuleA} (s : Same H H') (h : RuleAt a H p x r) : RuleAt a H' p x r := by
 obtain ⟨dx, t, cs, h1, h2, h3⟩ := h.ex
 exact ⟨dx, t, cs, s _ _ h1, s _ _ h2, Paired.imp (fun _ _ z => z.same s) h3⟩
theorem in_ints (n : Int) (ns : List Int) : inV (.int n) (ns.map V.int) = ns.any fun m => decide (m = n) := by
 unfold inV
 rw [List.any_map]
 congr 1
theorem flat_ints (ns : List Int) : (ns.map V.int).all flatV = true := by
 rw [List.all_map]
 exact List.all_eq_true.mpr fun _ _ => rfl
theorem dec_int (i j : Int) : decide (V.int i = V.int j) = decide (i = j) := by
 by_cases h : i = j
 ·rw [decide_eq_true h, decide_eq_true (by rw [h])]
 ·rw [decide_eq_false h, decide_eq_false fun z => h (by injection z)]
section
variable {P : Program} {w : World} {K : PySem.W.Frag} {mg : Str -> Option Value} {base : Heap} {a : Ad}
inductive SpTakes (vs : List V) (H : Hp) (Q : VK) : Prop
 | mk (x : Option Int) (s : Int) (_ : vs = [optV x, .int s]) (_ : Q (.bl (takesA x s)) H) : SpTakes vs H Q
def spTakes : Sp := fun vs H Q _ => SpTakes vs H Q
theorem ok_takes {f : Addr} {fd : FuncData} (F : Fun K "takes" "takes" s_takes f fd) : FnOk P w K mg base CX0 1 f fd p_takes spTakes := by
 refine F.ok sc_takes (fun vs H Q E h => ?_) (fun cdv A outer s H vs Q E hr h => ?_)
 ·obtain ⟨x, s, rfl, _⟩ := h
  rfl
 ·obtain ⟨x, s, rfl, k⟩ := h
  refine ⟨_, (@pss_one _ _ _ (@ps_ret _ _ _ _ (@pe_or _ _ _ _ _ _ _ (@pe_cmpR _ _ _ _ _ _ _ _ (@op_isN _) (pv 0) (@pe_non _ _ _) (nomark _)) (@pe_one _ _ _ _ _ (@pe_cmpR _ _ _ _ _ _ _ _ (@op_eq _) (pv 0) (pv 1) (nomark _)))))), ?_⟩
  try dsimp only [cxK]
  refine ⟨_, rfl, rfl, _, rfl, ?_⟩
  cases x with
  | none => exact iteT k
  | some i =>
   have e : decide (optV (some i) = V.int s) = takesA (some i) s := dec_int i s
   rw [<- e] at k
   exact iteF ⟨_, rfl, _, rfl, rfl, k⟩
inductive SpAmInit (a : Ad) (vs : List V) (H : Hp) (Q : VK) : Prop
 | mk (p t dx : Addr) (s : Int) (_ : vs = [.ref p, .int s, .ref t]) (_ : H p = some (.ins a.c_Amounts dx [])) (_ : Q .non (upd H p (.ins a.c_Amounts dx (fl2 "state" "numbers" (.int s) (.ref t))))) : SpAmInit a vs H Q
def spAmInit (a : Ad) : Sp := fun vs H Q _ => SpAmInit a vs H Q
theorem ok_AmInit {f : Addr} {fd : FuncData} (F : Fun K "__init__" "Amounts.__init__" s_Amounts_init f fd) (T : Top K mg a) : FnOk P w K mg base CX0 1 f fd p_Amounts_init (spAmInit a) := by
 refine F.ok sc_Amounts_init (fun vs H Q E h => ?_) (fun cdv A outer s H vs Q E hr h => ?_)
 ·obtain ⟨p, t, dx, s, rfl, _⟩ := h
  rfl
 ·obtain ⟨p, t, dx, s, rfl, hp, k⟩ := h
  refine ⟨_, (@pss_cons _ _ _ _ _ (@ps_fld _ _ _ _ _ _ _ _ (pv 0) (pv 1) rfl) (@pss_one _ _ _ (@ps_fld _ _ _ _ _ _ _ _ (pv 0) (pv 2) rfl))), ?_⟩
  try dsimp only [cxK]
  refine ⟨_, rfl, _, rfl, p, _, dx, [], rfl, hp, T.cl_Amounts, T.na_Amounts_state, (by show 0 < 1000; decide), _, rfl, _, rfl, p, _, dx, _, rfl, upd_same, T.cl_Amounts, T.na_Amounts_numbers, (by show 1 < 1000; decide), ?_⟩
  rw [upd_upd]
  exact k
inductive SpPlInit (a : Ad) (vs : List V) (H : Hp) (Q : VK) : Prop
 | mk (p t dx : Addr) (_ : vs = [.ref p, .ref t]) (_ : H p = some (.ins a.c_Places dx [])) (_ : Q .non (upd H p (.ins a.c_Places dx (fl1 "wanted" (.ref t))))) : SpPlInit a vs H Q
def spPlInit (a : Ad) : Sp := fun vs H Q _ => SpPlInit a vs H Q
theorem ok_PlInit {f : Addr} {fd : FuncData} (F : Fun K "__init__" "Places.__init__" s_Places_init f fd) (T : Top K mg a) : FnOk P w K mg base CX0 1 f fd p_Places_init (spPlInit a) := by
 refine F.ok sc_Places_init (fun vs H Q E h => ?_) (fun cdv A outer s H vs Q E hr h => ?_)
 ·obtain ⟨p, t, dx, rfl, _⟩ := h
  rfl
 ·obtain ⟨p, t, dx, rfl, hp, k⟩ := h
  refine ⟨_, (@pss_one _ _ _ (@ps_fld _ _ _ _ _ _ _ _ (pv 0) (pv 1) rfl)), ?_⟩
  try dsimp only [cxK]
  exact ⟨_, rfl, _, rfl, p, _, dx, [], rfl, hp, T.cl_Places, T.na_Places_wanted, (by show 0 < 1000; decide), k⟩
inductive SpClInit (a : Ad) (vs : List V) (H : Hp) (Q : VK) : Prop
 | mk (p t dx : Addr) (c : Option Int) (m : Int) (_ : vs = [.ref p, optV c, .ref t, .int m]) (_ : H p = some (.ins a.c_Clause dx [])) (_ : Q .non (upd H p (.ins a.c_Clause dx (fl3 "cell" "conditions" "makes" (optV c) (.ref t) (.int m))))) : SpClInit a vs H Q
def spClInit (a : Ad) : Sp := fun vs H Q _ => SpClInit a vs H Q
theorem ok_ClInit {f : Addr} {fd : FuncData} (F : Fun K "__init__" "Clause.__init__" s_Clause_init f fd) (T : Top K mg a) : FnOk P w K mg base CX0 1 f fd p_Clause_init (spClInit a) := by
 refine F.ok sc_Clause_init (fun vs H Q E h => ?_) (fun cdv A outer s H vs Q E hr h => ?_)
 ·obtain ⟨p, t, dx, c, m, rfl, _⟩ := h
  rfl
 ·obtain ⟨p, t, dx, c, m, rfl, hp, k⟩ := h
  refine ⟨_, (@pss_cons _ _ _ _ _ (@ps_fld _ _ _ _ _ _ _ _ (pv 0) (pv 1) rfl) (@pss_cons _ _ _ _ _ (@ps_fld _ _ _ _ _ _ _ _ (pv 0) (pv 2) rfl) (@pss_one _ _ _ (@ps_fld _ _ _ _ _ _ _ _ (pv 0) (pv 3) rfl)))), ?_⟩
  try dsimp only [cxK]
  refine ⟨_, rfl, _, rfl, p, _, dx, [], rfl, hp, T.cl_Clause, T.na_Clause_cell, (by show 0 < 1000; decide), _, rfl, _, rfl, p, _, dx, _, rfl, upd_same, T.cl_Clause, T.na_Clause_conditions, (by show 1 < 1000; decide), _, rfl, _, rfl, p, _, dx, _, rfl, upd_same, T.cl_Clause, T.na_Clause_makes,
   Nat.lt_of_le_of_lt (putF_len _ _ _) (by show 2 < 1000; decide), ?_⟩
  rw [upd_upd, upd_upd]
  exact k
def spAmHolds (a : Ad) : Sp := fun vs H Q E => (∃ (p l t dx : Addr) (s : Int) (ns ar : List Int), vs = [.ref p, .ref l] /\ H p = some (.ins a.c_Amounts dx (fl2 "state" "numbers" (.int s) (.ref t))) /\ H t = some (.tup (ns.map V.int)) /\ H l = some (.lst (ar.map V.int)) /\ Q (.bl (CondA.holds ar (.am s ns))) H)
theorem ok_AmHolds {f : Addr} {fd : FuncData} (F : Fun K "holds" "Amounts.holds" s_Amounts_holds f fd) (T : Top K mg a) : FnOk P w K mg base CX0 1 f fd p_Amounts_holds (spAmHolds a) := by
 refine F.ok sc_Amounts_holds (fun vs H Q E h => ?_) (fun cdv A outer s H vs Q E hr h => ?_)
 ·obtain ⟨p, l, t, dx, s, ns, ar, rfl, _⟩ := h
  rfl
 ·obtain ⟨p, l, t, dx, s, ns, ar, rfl, hp, ht, hl, k⟩ := h
  refine ⟨_, (@pss_one _ _ _ (@ps_ret _ _ _ _ (@pe_cmpR _ _ _ _ _ _ _ _ (@op_in_seq _) (@pe_bm _ _ _ _ _ _ _ _ _ _ _ _ PySem.F.plainAttrs_list PySem.F.slot_list_count PySem.F.type_list_count (@mt_count _) (pv 1) (@pa_cons _ _ _ _ _ (@pe_fld _ _ _ _ _ (pv 0) rfl) (@pa_nil _) rfl) rfl rfl rfl rfl rfl) (@pe_fld _ _ _ _ _ (pv 0) rfl) rfl))), ?_⟩
  try dsimp only [cxK]
  refine ⟨_, rfl, .inl ⟨rfl, _, SqL.of hl⟩, _, rfl, p, _, dx, _, _, rfl, hp, T.cl_Amounts, T.na_Amounts_state, fl2_1 (by decide +kernel), l, ar, s, rfl, rfl, hl, _, rfl, p, _, dx, _, _, rfl, hp, T.cl_Amounts, T.na_Amounts_numbers, fl2_2, t, _, rfl, .inr (SqT.of ht), rfl, flat_ints ns, ?_⟩
  show Q (.bl (inV _ _)) H
  rw [in_ints]
  exact k
inductive SpPlHolds (a : Ad) (vs : List V) (H : Hp) (Q : VK) : Prop
 | mk (p l t dx : Addr) (ws : List (Option Int)) (ar : List Int) (_ : vs = [.ref p, .ref l]) (_ : H p = some (.ins a.c_Places dx (fl1 "wanted" (.ref t)))) (_ : H t = some (.tup (ws.map optV))) (_ : H l = some (.lst (ar.map V.int))) (_ : ws.length <= 100) (_ : ∀ H', Same H H' -> Q (.bl (CondA.holds ar (.pl ws))) H') : SpPlHolds a vs H Q
def spPlHolds (a : Ad) : Sp := fun vs H Q _ => SpPlHolds a vs H Q
theorem ok_PlHolds {f : Addr} {fd : FuncData} (F : Fun K "holds" "Places.holds" s_Places_holds f fd) (T : Top K mg a) (C_takes : Cal P w K mg base CX0 1 "takes" p_takes spTakes) : FnOk P w K mg base CX0 2 f fd p_Places_holds (spPlHolds a) := by
 refine F.ok sc_Places_holds (fun vs H Q E h => ?_) (fun cdv A outer s H vs Q E hr h => ?_)
 ·obtain ⟨p, l, t, dx, ws, ar, rfl, _⟩ := h
  rfl
 ·obtain ⟨p, l, t, dx, ws, ar, rfl, hp, ht, hl, hw, k⟩ := h
  refine ⟨_, (@pss_one _ _ _ (@ps_ret _ _ _ _ (@pe_callB _ _ _ _ _ _ _ _ _ (@call_all _ rfl) rfl T.b_all PyProof.Rows.boot_all (@pa_cons _ _ _ _ _ (@pe_comp _ _ _ _ _ _ _ _ _ _ _ _ _ _ rfl (@CScope.of _ ((defScope s_Places_holds)) (n_Places_holds) _ (["one", "state"]) (2) ([]) rfl rfl (by decide +kernel)) (@pi_zip _ _ _ _ _ _ _ _ _ true false rfl T.b_zip (@pa_cons _ _ _ _ _ (@pe_fld _ _ _ _ _ (pv 0) rfl) (@pa_cons _ _ _ _ _ (pv 1) (@pa_nil _) rfl) rfl) rfl rfl) (fun _ _ _ => (@pgc_pair _ _ _ _ _ _ _ _ _ _ _ _ (0) (1) rfl (by decide +kernel) rfl rfl rfl rfl)) (fun _ _ _ => (@pts_nil _)) (fun _ _ _ => (@pe_cal _ _ _ _ _ _ _ _ _ _ _ _ C_takes (rm hr) rfl pass0 (@pa_cons _ _ _ _ _ (pv 0) (@pa_cons _ _ _ _ _ (pv 1) (@pa_nil _) rfl) rfl) (by decide) rfl rfl)) (by intro _ ; rfl)) (@pa_nil _) rfl) (by decide) (by decide) rfl rfl))), ?_⟩
  try dsimp only [cxK]
  refine ⟨_, rfl, p, _, dx, _, _, rfl, hp, T.cl_Places, T.na_Places_wanted, fl1_1, _, rfl, t, l, rfl, ⟨_, SqT.of ht⟩, ⟨_, SqL.of hl⟩, ?_⟩
  refine blk_zip (xs := ws.map optV) (ys := ar.map V.int) (fun i acc H2 => Same H H2 /\ acc = (((ws.zip ar).take i).map fun p => V.bl (takesA p.1 p.2))) ⟨Same.refl H, rfl⟩ (fun i acc H2 z => ⟨SqT.of (z.1 _ _ ht), SqL.of (z.1 _ _ hl)⟩) ?_ ?_
  ·rintro i x y acc H2 T' hx hy ⟨sm, rfl⟩ nT
   rw [List.getElem?_map] at hx hy
   obtain ⟨o, eo, rfl⟩ := Option.map_eq_some_iff.mp hx
   obtain ⟨m, em, rfl⟩ := Option.map_eq_some_iff.mp hy
   have ez : (ws.zip ar)[i]? = some (o, m) := by rw [List.getElem?_zip_eq_some]; exact ⟨eo, em⟩
   refine gpair upd_same ⟨⟨[some (optV o), some (.int m)], rfl, rfl⟩, ?_, ?_⟩
   ·have : ((((ws.zip ar).take i).map fun p => V.bl (takesA p.1 p.2))).length <= ws.length := by
     rw [List.length_map, List.length_take, List.length_zip]; omega
    exact Nat.lt_of_le_of_lt (Nat.le_trans this hw) (by decide)
   ·refine tyes ?_
    refine ⟨_, rfl, _, rfl, o, m, rfl, sm.trans (same_upd nT), ?_⟩
    rw [List.take_add_one, ez, List.map_append]
    rfl
  ·rintro acc H2 ⟨sm, rfl⟩ q nq
   have len : min (ws.map optV).length (ar.map V.int).length = (ws.zip ar).length := by rw [List.length_map, List.length_map, List.length_zip]
   rw [len, List.take_length]
   refine ⟨q, (ws.zip ar).map (fun p => takesA p.1 p.2), rfl, SqL.of (by rw [upd_same, List.map_map]; rfl), ?_⟩
   have e : ((ws.zip ar).map (fun p => takesA p.1 p.2)).all id = CondA.holds ar (.pl ws) := by rw [List.all_map]; rfl
   rw [e]
   exact k _ (sm.trans (same_upd nq))
inductive SpFits (a : Ad) (vs : List V) (H : Hp) (Q : VK) : Prop
 | mk (p l : Addr) (c : ClauseA) (cell : Int) (ar : List Int) (_ : vs = [.ref p, .int cell, .ref l]) (_ : ClauseAt a H p c) (_ : c.conds.length <= 100) (_ : (∀ d ∈ c.conds, ∀ ws, d = CondA.pl ws -> ws.length <= 100)) (_ : H l = some (.lst (ar.map V.int))) (_ : ∀ H', Same H H' -> Q (.bl (c.fits cell ar)) H') : SpFits a vs H Q
def spFits (a : Ad) : Sp := fun vs H Q _ => SpFits a vs H Q
theorem ok_Fits {f : Addr} {fd : FuncData} (F : Fun K "fits" "Clause.fits" s_Clause_fits f fd) (T : Top K mg a) (C_takes : Cal P w K mg base CX0 1 "takes" p_takes spTakes) (M_Am : CalM P w K mg base CX0 1 a.c_Amounts "holds" p_Amounts_holds (spAmHolds a)) (M_Pl : CalM P w K mg base CX0 2 a.c_Places "holds" p_Places_holds (spPlHolds a)) :
  FnOk P w K mg base CX0 3 f fd p_Clause_fits (spFits a) := by
 refine F.ok sc_Clause_fits (fun vs H Q E h => ?_) (fun cdv A outer s H vs Q E hr h => ?_)
 ·obtain ⟨p, l, c, cell, ar, rfl, _⟩ := h
  rfl
 ·obtain ⟨p, l, c, cell, ar, rfl, hC, hn, hn2, hl, k⟩ := h
  obtain ⟨dx, t, cs, hp, ht, hcs⟩ := hC.ex
  refine ⟨_, (@pss_one _ _ _ (@ps_ret _ _ _ _ (@pe_and _ _ _ _ _ _ _ (@pe_cal _ _ _ _ _ _ _ _ _ _ _ _ C_takes (rm hr) rfl pass0 (@pa_cons _ _ _ _ _ (@pe_fld _ _ _ _ _ (pv 0) rfl) (@pa_cons _ _ _ _ _ (pv 1) (@pa_nil _) rfl) rfl) (by decide) rfl rfl) (@pe_one _ _ _ _ _ (@pe_callB _ _ _ _ _ _ _ _ _ (@call_all _ rfl) rfl T.b_all PyProof.Rows.boot_all (@pa_cons _ _ _ _ _ (@pe_comp _ _ _ _ _ _ _ _ _ _ _ _ _ _ rfl (@CScope.of _ ((defScope s_Clause_fits)) (n_Clause_fits) _ (["condition", "around"]) (1) ([2]) rfl rfl (by decide +kernel)) (@pi_tup _ _ _ _ (@pe_fld _ _ _ _ _ (pv 0) rfl)) (fun _ _ _ => (@pgc_name _ _ _ _ _ _ _ _ (0) (by decide +kernel) rfl rfl)) (fun _ _ _ => (@pts_nil _)) (fun _ _ _ => (@PE.or _ _ _ _ (@pe_calm _ _ _ _ _ _ _ _ _ _ _ _ _ _ _ _ (pv 0) M_Am (rm hr) pass0 (@pa_cons _ _ _ _ _ (pv 1) (@pa_nil _) rfl) rfl rfl rfl) (@pe_calm _ _ _ _ _ _ _ _ _ _ _ _ _ _ _ _ (pv 0) M_Pl (rm hr) pass0 (@pa_cons _ _ _ _ _ (pv 1) (@pa_nil _) rfl) rfl rfl rfl))) (by intro _ ; rfl)) (@pa_nil _) rfl) (by decide) (by decide) rfl rfl))))), ?_⟩
  try dsimp only [cxK]
  refine ⟨_, rfl, p, _, dx, _, _, rfl, hp, T.cl_Clause, T.na_Clause_cell, fl3_1 (by decide +kernel) (by decide +kernel), _, rfl, c.cell, cell, rfl, takesA c.cell cell, rfl, ?_⟩
  cases et : takesA c.cell cell with
  | false =>
   refine iteF ?_
   have := k H (Same.refl H)
   unfold ClauseA.fits at this
   rw [et] at this
   exact this
  | true =>
   refine iteT ?_
   have ln : cs.length = c.conds.length := Paired.length hcs
   refine ⟨_, rfl, p, _, dx, _, _, rfl, hp, T.cl_Clause, T.na_Clause_conditions, fl3_2 (by decide +kernel), t, rfl, ⟨_, SqT.of ht⟩, ?_⟩
   refine blk_tup (xs := cs.map V.ref) (fun i acc H2 => Same H H2 /\ acc = ((c.conds.take i).map fun d => V.bl (CondA.holds ar d))) ⟨Same.refl H, rfl⟩ (fun i acc H2 _ z => SqT.of (z.1 _ _ ht)) ?_ ?_
   ·rintro i x acc H2 hx ⟨sm, rfl⟩
    rw [List.getElem?_map] at hx
    obtain ⟨q, eq, rfl⟩ := Option.map_eq_some_iff.mp hx
    obtain ⟨d, ed, hd⟩ := Paired.get hcs eq
    have hd2 := hd.same sm
    refine ⟨⟨[some (.ref q)], rfl, rfl⟩, ?_, ?_⟩
    ·have : ((c.conds.take i).map fun d => V.bl (CondA.holds ar d)).length <= c.conds.length := by
      rw [List.length_map, List.length_take]; omega
     exact Nat.lt_of_le_of_lt (Nat.le_trans this hn) (by decide)
    ·refine tyes ?_
     have nx : ∀ H4, Same H2 H4 -> Same H H4 /\ ((c.conds.take i).map fun d => V.bl (CondA.holds ar d)) ++ [V.bl (CondA.holds ar d)] = ((c.conds.take (i + 1)).map fun d => V.bl (CondA.holds ar d)) := fun H4 s4 => ⟨sm.trans s4, by
      rw [List.take_add_one, ed, List.map_append]; rfl⟩
     have md : d ∈ c.conds := List.mem_of_getElem? ed
     cases hd2 with
     | @am t2 dx2 s ns h1 h2 => exact .inl ⟨_, rfl, q, dx2, _, rfl, h1, fl2_no (by decide +kernel) (by decide +kernel), _, rfl, q, l, t2, dx2, s, ns, ar, rfl, h1, h2, sm _ _ hl, nx H2 (Same.refl H2)⟩
     | @pl t2 dx2 ws h1 h2 => exact .inr ⟨_, rfl, q, dx2, _, rfl, h1, fl1_no (by decide +kernel), _, rfl, q, l, t2, dx2, ws, ar, rfl, h1, h2, sm _ _ hl, hn2 _ md ws rfl, fun H4 s4 => nx H4 s4⟩
   ·rintro acc H2 ⟨sm, rfl⟩ q nq
    rw [List.length_map, ln, List.take_length]
    refine ⟨q, c.conds.map (CondA.holds ar), rfl, SqL.of (by rw [upd_same, List.map_map]; rfl), ?_⟩
    have e : (c.conds.map (CondA.holds ar)).all id = c.fits cell ar := by
     unfold ClauseA.fits
     rw [et, List.all_map]; rfl
    rw [e]
    exact k _ (sm.trans (same_upd nq))
def ROk (r : RuleA) : Prop := r.length <= 5000 /\ ∀ c ∈ r, c.conds.length <= 100 /\ ∀ d ∈ c.conds, ∀ ws, d = CondA.pl ws -> ws.length <= 100
def decV (o : Option Nat) : V := match o with
 | none => .non
 | some n => .int n
inductive SpDec (a : Ad) (vs : List V) (H : Hp) (Q : VK) : Prop
 | mk (p l : Addr) (z : Str) (r : RuleA) (cell : Int) (ar : List Int) (_ : vs = [.ref p, .int cell, .ref l]) (_ : RuleAt a H p z r) (_ : ROk r) (_ : H l = some (.lst (ar.map V.int))) (_ : ∀ H', Same H H' -> Q (decV (decA r cell ar)) H') : SpDec a vs H Q
def spDec (a : Ad) : Sp := fun vs H Q _ => SpDec a vs H Q
theorem ok_dec {f : Addr} {fd : FuncData} (F : Fun K "deciding" "deciding" s_deciding f fd) (T : Top K mg a) (M_Clause_fits : CalM P w K mg base CX0 3 a.c_Clause "fits" p_Clause_fits (spFits a)) : FnOk P w K mg base CX0 4 f fd p_deciding (spDec a) := by
 refine F.ok sc_deciding (fun vs H Q E h => ?_) (fun cdv A outer s H vs Q E hr h => ?_)
 ·obtain ⟨p, l, z, r, cell, ar, rfl, _⟩ := h
  rfl
 ·obtain ⟨p, l, z, r, cell, ar, rfl, hR, hn, hl, k⟩ := h
  obtain ⟨dx, t, cs, hp, ht, hcs⟩ := hR.ex
  have ln : cs.length = r.length := Paired.length hcs
  refine ⟨_, (@pss_cons _ _ _ _ _ (@ps_for _ _ _ _ _ _ _ _ PassesOwn.never rfl (@pi_enum _ _ _ _ _ _ _ _ true rfl T.b_enumerate (@pa_cons _ _ _ _ _ (@pe_fld _ _ _ _ _ (pv 0) rfl) (@pa_nil _) rfl) rfl) (@pg_tup _ _ _ _ _ _ rfl (@pgs_cons _ _ _ _ _ (@pg_name _ _ (3) _ sc_deciding.nd rfl (Or.inl rfl) (.inl rfl)) (@pgs_cons _ _ _ _ _ (@pg_name _ _ (4) _ sc_deciding.nd rfl (Or.inl rfl) (.inl rfl)) (@pgs_nil _) rfl) rfl) rfl rfl) (@pss_one _ _ _ (@ps_if _ _ _ _ _ _ _ _ (@pt_val _ _ _ (@pe_calm _ _ _ _ _ _ _ _ _ _ _ _ _ _ _ _ (pv 4) M_Clause_fits (rm hr) pass0 (@pa_cons _ _ _ _ _ (pv 1) (@pa_cons _ _ _ _ _ (pv 2) (@pa_nil _) rfl) rfl) rfl rfl rfl) (by intro _ ; rfl)) (@pss_one _ _ _ (@ps_ret _ _ _ _ (pv 3))) (@pss_nil _))) (by intro _ ; rfl)) (@pss_one _ _ _ (@ps_ret _ _ _ _ (@pe_non _ _ _)))), ?_⟩
  try dsimp only [cxK]
  refine ⟨_, rfl, p, _, dx, _, _, rfl, hp, T.cl_Rule, T.na_Rule_clauses, fl2_2, t, rfl, ⟨_, SqT.of ht⟩, ?_⟩
  refine for_enum (b := true) (xs := cs.map V.ref) (fun i σ H2 => Same H H2 /\ (∃ u v, σ = [some (.ref p), some (.int cell), some (.ref l), u, v]) /\ ∀ c ∈ r.take i, c.fits cell ar = false) ⟨Same.refl H, ⟨none, none, rfl⟩, fun c hc => by simp at hc⟩ (fun i σ H2 _ q => SqT.of (q.1 _ _ ht)) ?_ ?_
  ·rintro i x σ H2 T' hx ⟨sm, ⟨u, v, rfl⟩, no⟩ nT
   rw [List.getElem?_map] at hx
   obtain ⟨q, eq, rfl⟩ := Option.map_eq_some_iff.mp hx
   obtain ⟨c, ec, hc⟩ := Paired.get hcs eq
   have s3 := sm.trans (same_upd (o := .tup [.int i, .ref q]) nT)
   have hc3 := hc.same s3
   obtain ⟨dx2, t2, cs2, h1, _⟩ := hc3.ex
   refine gpair upd_same ?_
   have mc := List.mem_of_getElem? ec
   refine ⟨_, rfl, q, dx2, _, rfl, h1, fl3_no (by decide +kernel) (by decide +kernel) (by decide +kernel), _, rfl, _, rfl, q, l, c, cell, ar, rfl, hc3, (hn.2 c mc).1, (hn.2 c mc).2, s3 _ _ hl, fun H4 s4 => ⟨_, rfl, ?_⟩⟩
   cases ef : c.fits cell ar with
   | true =>
    refine iteT ?_
    refine ⟨_, rfl, ?_⟩
    have e : decA r cell ar = some i := by
     unfold decA
     rw [List.findIdx?_eq_some_iff_getElem]
     have hi : i < r.length := (List.getElem?_eq_some_iff.mp ec).1
     refine ⟨hi, ?_, fun j hj => ?_⟩
     ·rw [(List.getElem?_eq_some_iff.mp ec).2]; exact ef
     ·have := no r[j] (List.mem_take_iff_getElem.mpr ⟨j, by omega, rfl⟩)
      rw [this]; exact Bool.false_ne_true
    have := k H4 (s3.trans s4)
    rw [e] at this
    exact this
   | false =>
    refine iteF ⟨s3.trans s4, ⟨_, _, rfl⟩, fun d hd => ?_⟩
    rw [List.take_add_one, ec] at hd
    rcases List.mem_append.mp hd with z | z
    ·exact no d z
    ·have : d = c := by simpa using z
     rw [this]; exact ef
  ·rintro σ H2 ⟨sm, ⟨u, v, rfl⟩, no⟩
   rw [List.length_map, ln, List.take_length] at no
   have e : decA r cell ar = none := by
    unfold decA
    rw [List.findIdx?_eq_none_iff]
    exact no
   have := k H2 sm
   rw [e] at this
   exact this
inductive SpBec (a : Ad) (vs : List V) (H : Hp) (Q : VK) : Prop
 | mk (p l : Addr) (z : Str) (r : RuleA) (cell : Int) (ar : List Int) (_ : vs = [.ref p, .int cell, .ref l]) (_ : RuleAt a H p z r) (_ : ROk r) (_ : H l = some (.lst (ar.map V.int))) (_ : ∀ H', Same H H' -> Q (.int (becA r cell ar)) H') : SpBec a vs H Q
def spBec (a : Ad) : Sp := fun vs H Q _ => SpBec a vs H Q
theorem bec_none {r : RuleA} {cell : Int} {ar : List Int} (h : decA r cell ar = none) : becA r cell ar = cell := by
 unfold decA at h
 rw [List.findIdx?_eq_none_iff] at h
 unfold becA
 rw [List.find?_eq_none.mpr fun c hc => by rw [h c hc]; exact Bool.false_ne_true]
theorem bec_some {r : RuleA} {cell : Int} {ar : List Int} {i : Nat} (h : decA r cell ar = some i) : ∃ c, r[i]? = some c /\ becA r cell ar = c.makes := by
 unfold decA at h
 rw [List.findIdx?_eq_some_iff_getElem] at h
 obtain ⟨hi, h1, h2⟩ := h
 refine ⟨r[i], List.getElem?_eq_getElem hi, ?_⟩
 unfold becA
 have : r.find? (ClauseA.fits cell ar) = some r[i] := by
  rw [List.find?_eq_some_iff_getElem]
  exact ⟨h1, i, hi, rfl, fun j hj => by simpa using h2 j hj⟩
 rw [this]
theorem ok_bec {f : Addr} {fd : FuncData} (F : Fun K "becomes" "becomes" s_becomes f fd) (T : Top K mg a) (C_deciding : Cal P w K mg base CX0 4 "deciding" p_deciding (spDec a)) : FnOk P w K mg base CX0 5 f fd p_becomes (spBec a) := by
 refine F.ok sc_becomes (fun vs H Q E h => ?_) (fun cdv A outer s H vs Q E hr h => ?_)
 ·obtain ⟨p, l, z, r, cell, ar, rfl, _⟩ := h
  rfl
 ·obtain ⟨p, l, z, r, cell, ar, rfl, hR, hn, hl, k⟩ := h
  refine ⟨_, (@pss_cons _ _ _ _ _ (@ps_set _ _ (3) _ _ _ _ sc_becomes.nd rfl (Or.inl rfl) (@pe_cal _ _ _ _ _ _ _ _ _ _ _ _ C_deciding (rm hr) rfl pass0 (@pa_cons _ _ _ _ _ (pv 0) (@pa_cons _ _ _ _ _ (pv 1) (@pa_cons _ _ _ _ _ (pv 2) (@pa_nil _) rfl) rfl) rfl) (by decide) rfl rfl) rfl (.inl rfl)) (@pss_cons _ _ _ _ _ (@ps_if _ _ _ _ _ _ _ _ (@pt_cmpR _ _ _ _ _ _ _ _ (@op_isN _) (pv 3) (@pe_non _ _ _) (nomark _)) (@pss_one _ _ _ (@ps_ret _ _ _ _ (pv 1))) (@pss_nil _)) (@pss_one _ _ _ (@ps_ret _ _ _ _ (@pe_fld _ _ _ _ _ (@pe_ix _ _ _ _ _ _ _ (@ix_tup _) (@pe_fld _ _ _ _ _ (pv 0) rfl) (pv 3) (fun _ _ => rfl)) rfl))))), ?_⟩
  try dsimp only [cxK]
  refine ⟨_, rfl, _, rfl, _, rfl, p, l, z, r, cell, ar, rfl, hR, hn, hl, fun H2 s2 => ?_⟩
  refine ⟨_, rfl, rfl, _, rfl, ?_⟩
  cases e : decA r cell ar with
  | none =>
   refine iteT ⟨_, rfl, ?_⟩
   have := k H2 s2
   rw [bec_none e] at this
   exact this
  | some i =>
   obtain ⟨c, ec, em⟩ := bec_some e
   obtain ⟨dx, t, cs, hp, ht, hcs⟩ := hR.ex
   obtain ⟨q, eq⟩ : ∃ q, cs[i]? = some q := by
    have ln : cs.length = r.length := Paired.length hcs
    have : i < cs.length := by rw [ln]; exact (List.getElem?_eq_some_iff.mp ec).1
    exact ⟨_, List.getElem?_eq_getElem this⟩
   obtain ⟨c', ec', hc⟩ := Paired.get hcs eq
   rw [ec] at ec'
   cases ec'
   obtain ⟨dx2, t2, cs2, h1, _⟩ := (hc.same s2).ex
   refine iteF ⟨_, rfl, p, _, dx, _, _, rfl, s2 _ _ hp, T.cl_Rule, T.na_Rule_clauses, fl2_2, _, rfl, t, _, i, .ref q, rfl, rfl, SqT.of (s2 _ _ ht), atI_nat (by rw [List.getElem?_map, eq]; rfl), q, _, dx2, _, _, rfl, h1, T.cl_Clause, T.na_Clause_makes, fl3_3, ?_⟩
   have := k H2 s2
   rw [em] at this
   exact this
end
end J
namespace J
open PySem L2
def sgD (d : Int) : Str := ⟨#[48 + d.toNat]⟩
def wC : Option Int -> Nat
 | none => 42
 | some d => 48 + d.toNat
def wS (x : Option Int) : Str := ⟨#[wC x]⟩
def digsT (ns : List Int) : Str := ⟨(ns.map fun n => 48 + n.toNat).toArray⟩
def condT : CondA -> Str
 | .am s ns => sgD s ++ ⟨#[61]⟩ ++ digsT ns
 | .pl ws => ⟨(ws.map wC).toArray⟩
def clauseT (c : ClauseA) : Str := Str.join ⟨#[32]⟩ (wS c.cell :: (c.conds.map condT ++ [sgD c.makes]))
def markT : Str := ⟨#[59, 32]⟩
def ruleT (r : RuleA) : Str := Str.join markT (r.map clauseT)
def stOk (d : Int) : Prop := 0 <= d /\ d < 8
def wOk : Option Int -> Prop
 | none => True
 | some d => stOk d
def CondA.ok : CondA -> Prop
 | .am s ns => stOk s /\ ns ≠ [] /\ (∀ n ∈ ns, 0 <= n /\ n <= 8) /\ ns.Pairwise (· < ·)
 | .pl ws => ws.length = 8 /\ ∀ w ∈ ws, wOk w
structure ClauseA.ok (c : ClauseA) : Prop where
 cell : wOk c.cell
 makes : stOk c.makes
 few : c.conds.length <= 50
 conds : ∀ d ∈ c.conds, d.ok
theorem eight {d : Int} (h : stOk d) : d = 0 \/ d = 1 \/ d = 2 \/ d = 3 \/ d = 4 \/ d = 5 \/ d = 6 \/ d = 7 := by
 obtain ⟨m, rfl⟩ := Int.eq_ofNat_of_zero_le h.1
 have h1 := h.2
 exact (show ∀ m : Nat, m < 8 -> ((m : Int) = 0 \/ (m : Int) = 1 \/ (m : Int) = 2 \/ (m : Int) = 3 \/ (m : Int) = 4 \/ (m : Int) = 5 \/ (m : Int) = 6 \/ (m : Int) = 7) by decide) m (by omega)
abbrev figs8 : Str := Str.ofString "01234567"
abbrev figs9 : Str := Str.ofString "012345678"
theorem st_facts {d : Int} (h : stOk d) : PySem.intText? (sgD d) = some d /\ (!(Builtin.Str.occurrences figs8 (sgD d) 0 figs8.length 1).isEmpty) = true := by
 rcases eight h with rfl | rfl | rfl | rfl | rfl | rfl | rfl | rfl <;> exact ⟨by decide +kernel, by decide +kernel⟩
theorem nine {d : Int} (h0 : 0 <= d) (h1 : d <= 8) : d = 0 \/ d = 1 \/ d = 2 \/ d = 3 \/ d = 4 \/ d = 5 \/ d = 6 \/ d = 7 \/ d = 8 := by
 obtain ⟨m, rfl⟩ := Int.eq_ofNat_of_zero_le h0
 exact (show ∀ m : Nat, m < 9 -> ((m : Int) = 0 \/ (m : Int) = 1 \/ (m : Int) = 2 \/ (m : Int) = 3 \/ (m : Int) = 4 \/ (m : Int) = 5 \/ (m : Int) = 6 \/ (m : Int) = 7 \/ (m : Int) = 8) by decide) m (by omega)
theorem am_facts {d : Int} (h0 : 0 <= d) (h1 : d <= 8) : PySem.intText? (⟨#[48 + d.toNat]⟩ : Str) = some d /\ (!(Builtin.Str.occurrences figs9 (⟨#[48 + d.toNat]⟩ : Str) 0 figs9.length 1).isEmpty) = true := by
 rcases nine h0 h1 with rfl | rfl | rfl | rfl | rfl | rfl | rfl | rfl | rfl <;> exact ⟨by decide +kernel, by decide +kernel⟩
theorem star_no {d : Int} (h : stOk d) : decide (V.str (wS (some d)) = V.str (Str.ofString "*")) = false := by
 rcases eight h with rfl | rfl | rfl | rfl | rfl | rfl | rfl | rfl <;> decide +kernel
theorem wC_ne {x : Option Int} (h : wOk x) : wC x ≠ 61 /\ wC x ≠ 32 /\ wC x ≠ 59 := by
 cases x with
 | none => exact ⟨by decide, by decide, by decide⟩
 | some d =>
  have := h.1
  have := h.2
  show 48 + d.toNat ≠ 61 /\ 48 + d.toNat ≠ 32 /\ 48 + d.toNat ≠ 59
  refine ⟨?_, ?_, ?_⟩ <;> omega
theorem cond_free {d : CondA} (h : d.ok) : 32 ∉ (condT d).cps.toList /\ 59 ∉ (condT d).cps.toList := by
 cases d with
 | am s ns =>
  obtain ⟨⟨s0, s1⟩, _, hn, _⟩ := h
  have e : (condT (.am s ns)).cps.toList = (48 + s.toNat) :: 61 :: ns.map fun n => 48 + n.toNat := by
   show (sgD s ++ ⟨#[61]⟩ ++ digsT ns).cps.toList = _
   rw [Tx.cps_app, Tx.cps_app]
   rfl
  rw [e]
  constructor
  ·intro z
   rcases List.mem_cons.mp z with z | z
   ·omega
   ·rcases List.mem_cons.mp z with z | z
    ·omega
    ·obtain ⟨n, hn', e⟩ := List.mem_map.mp z
     have := hn n hn'
     omega
  ·intro z
   rcases List.mem_cons.mp z with z | z
   ·omega
   ·rcases List.mem_cons.mp z with z | z
    ·omega
    ·obtain ⟨n, hn', e⟩ := List.mem_map.mp z
     have := hn n hn'
     omega
 | pl ws =>
  have e : (condT (.pl ws)).cps.toList = ws.map wC := rfl
  rw [e]
  constructor
  ·intro z
   obtain ⟨x, hx, e⟩ := List.mem_map.mp z
   exact (wC_ne (h.2 x hx)).2.1 e
  ·intro z
   obtain ⟨x, hx, e⟩ := List.mem_map.mp z
   exact (wC_ne (h.2 x hx)).2.2 e
theorem asc_len : ∀ (ns : List Int) (lo : Int), lo <= 9 -> (∀ n ∈ ns, lo <= n /\ n <= 8) -> ns.Pairwise (· < ·) -> (ns.length : Int) <= 9 - lo
 | [], lo, h, _, _ => by show (0 : Int) <= 9 - lo; omega
 | n :: r, lo, _, hn, hp => by
  have h1 := hn n List.mem_cons_self
  have h2 := asc_len r (n + 1) (by omega) (fun m hm => ⟨by have := (List.pairwise_cons.mp hp).1 m hm; omega, (hn m (List.mem_cons_of_mem _ hm)).2⟩) (List.pairwise_cons.mp hp).2
  rw [List.length_cons]
  omega
theorem cond_len {d : CondA} (h : d.ok) : (condT d).length <= 11 := by
 cases d with
 | am s ns =>
  obtain ⟨_, _, hn, hp⟩ := h
  have hl := asc_len ns 0 (by decide) hn hp
  rw [Nu.len]
  show (sgD s ++ ⟨#[61]⟩ ++ digsT ns).cps.toList.length <= 11
  rw [Tx.cps_app, Tx.cps_app, List.length_append, List.length_append]
  show 1 + 1 + (ns.map fun n => 48 + n.toNat).length <= 11
  rw [List.length_map]
  omega
 | pl ws =>
  rw [Nu.len]
  show (ws.map wC).length <= 11
  rw [List.length_map, h.1]
  decide
section
variable {P : Program} {w : World} {K : PySem.W.Frag} {mg : Str -> Option Value} {base : Heap} {a : Ad}
theorem str_isi (K : PySem.W.Frag) : PySem.W.kitOne K (.type "str") (.type "str") = some true := by kernel_rfl
inductive SpRS (vs : List V) (H : Hp) (Q : VK) : Prop
 | mk (d : Int) (_ : vs = [.str (sgD d)]) (_ : stOk d) (_ : Q (.int d) H) : SpRS vs H Q
def spRS : Sp := fun vs H Q _ => SpRS vs H Q
theorem ok_rs {f : Addr} {fd : FuncData} (F : Fun K "read_state" "read_state" s_read_state f fd) (T : Top K mg a) : FnOk P w K mg base CX0 1 f fd p_read_state spRS := by
 refine F.ok sc_read_state (fun vs H Q E h => ?_) (fun cdv A outer s H vs Q E hr h => ?_)
 ·obtain ⟨d, rfl, _⟩ := h
  rfl
 ·obtain ⟨d, rfl, hd, k⟩ := h
  obtain ⟨e1, e2⟩ := st_facts hd
  refine ⟨_, (@pss_cons _ _ _ _ _ (@ps_if _ _ _ _ _ _ _ _ (@PW.pt _ _ _ (@pw_or _ _ _ _ _ _ _ (@pt_cmpR _ _ _ _ _ _ _ _ (@op_ne _) (@pe_callB _ _ _ _ _ _ _ _ _ (@call_len_str _) rfl T.b_len PySem.boot_len (@pa_cons _ _ _ _ _ (pv 0) (@pa_nil _) rfl) (by decide) (by decide) rfl rfl) (@pe_int _ _ _ _) (nomark _)) (@pw_or1 _ _ _ _ (@pt_cmpR _ _ _ _ _ _ _ _ (@op_notin_str _) (pv 0) (@pe_gstr _ _ _ _ rfl T.k_STATE_FIGURES (by decide)) rfl)))) (@pss_one _ _ _ (@ps_never _ _)) (@pss_nil _)) (@pss_one _ _ _ (@ps_ret _ _ _ _ (@pe_callTy _ _ _ _ _ _ _ _ _ (@call_int_text _) rfl T.b_int PyProof.Rows.boot_int (@pa_cons _ _ _ _ _ (pv 0) (@pa_nil _) rfl) (by decide) (by decide) rfl rfl)))), ?_⟩
  try dsimp only [cxK]
  refine ⟨_, rfl, _, rfl, (by show 1 <= sizeLine; decide), rfl, _, rfl, ?_⟩
  refine iteNS rfl ⟨_, rfl, _, _, rfl, rfl, _, rfl, ?_⟩
  rw [e2]
  exact iteF ⟨_, rfl, _, d, rfl, e1, (by show 1 <= 640; decide), k⟩
inductive SpRW (vs : List V) (H : Hp) (Q : VK) : Prop
 | mk (x : Option Int) (_ : vs = [.str (wS x)]) (_ : wOk x) (_ : Q (optV x) H) : SpRW vs H Q
def spRW : Sp := fun vs H Q _ => SpRW vs H Q
theorem ok_rw {f : Addr} {fd : FuncData} (F : Fun K "read_wanted" "read_wanted" s_read_wanted f fd) (T : Top K mg a) (C_read_state : Cal P w K mg base CX0 1 "read_state" p_read_state spRS) : FnOk P w K mg base CX0 2 f fd p_read_wanted spRW := by
 refine F.ok sc_read_wanted (fun vs H Q E h => ?_) (fun cdv A outer s H vs Q E hr h => ?_)
 ·obtain ⟨x, rfl, _⟩ := h
  rfl
 ·obtain ⟨x, rfl, hx, k⟩ := h
  refine ⟨_, (@pss_cons _ _ _ _ _ (@ps_if _ _ _ _ _ _ _ _ (@pt_cmpR _ _ _ _ _ _ _ _ (@op_eq _) (pv 0) (@pe_gstr _ _ _ _ rfl T.k_ANY_SIGN (by decide)) (nomark _)) (@pss_one _ _ _ (@ps_ret _ _ _ _ (@pe_non _ _ _))) (@pss_nil _)) (@pss_one _ _ _ (@ps_ret _ _ _ _ (@pe_cal _ _ _ _ _ _ _ _ _ _ _ _ C_read_state (rm hr) rfl pass0 (@pa_cons _ _ _ _ _ (pv 0) (@pa_nil _) rfl) (by decide) rfl rfl)))), ?_⟩
  try dsimp only [cxK]
  refine ⟨_, rfl, rfl, _, rfl, ?_⟩
  cases x with
  | none => exact iteT k
  | some d =>
   rw [star_no hx]
   exact iteF ⟨_, rfl, d, rfl, hx, k⟩
inductive SpRN (vs : List V) (H : Hp) (Q : VK) : Prop
 | mk (ns : List Int) (_ : vs = [.str (digsT ns)]) (_ : ns ≠ []) (_ : ns.length <= 100) (_ : (∀ n ∈ ns, 0 <= n /\ n <= 8)) (_ : ns.Pairwise (· < ·)) (_ : ∀ (t : Addr) (H' : Hp), Same H H' -> H' t = some (.tup (ns.map V.int)) -> Q (.ref t) H') : SpRN vs H Q
def spRN : Sp := fun vs H Q _ => SpRN vs H Q
theorem ok_rn {f : Addr} {fd : FuncData} (F : Fun K "read_numbers" "read_numbers" s_read_numbers f fd) (T : Top K mg a) : FnOk P w K mg base CX0 1 f fd p_read_numbers spRN := by
 refine F.ok sc_read_numbers (fun vs H Q E h => ?_) (fun cdv A outer s H vs Q E hr h => ?_)
 ·obtain ⟨ns, rfl, _⟩ := h
  rfl
 ·obtain ⟨ns, rfl, hne, hl, hn, hp, k⟩ := h
  have el : (digsT ns).length = ns.length := by rw [Nu.len]; show (ns.map _).length = _; rw [List.length_map]
  have ec : (digsT ns).cps.toList = ns.map fun n => 48 + n.toNat := rfl
  have pos : 0 < ns.length := List.length_pos_iff.mpr hne
  refine ⟨_, (@pss_cons _ _ _ _ _ (@ps_if _ _ _ _ _ _ _ _ (@pt_cmpR _ _ _ _ _ _ _ _ (@op_eq _) (@pe_callB _ _ _ _ _ _ _ _ _ (@call_len_str _) rfl T.b_len PySem.boot_len (@pa_cons _ _ _ _ _ (pv 0) (@pa_nil _) rfl) (by decide) (by decide) rfl rfl) (@pe_int _ _ _ _) (nomark _)) (@pss_one _ _ _ (@ps_never _ _)) (@pss_nil _)) (@pss_cons _ _ _ _ _ (@ps_set _ _ (1) _ _ _ _ sc_read_numbers.nd rfl (Or.inl rfl) (@pe_lst _ _ _ _ (@pa_nil _)) rfl (.inl rfl)) (@pss_cons _ _ _ _ _ (@ps_for _ _ _ _ _ _ _ _ PassesOwn.never rfl (@pi_str _ _ _ _ (pv 0)) (@pg_name _ _ (2) _ sc_read_numbers.nd rfl (Or.inl rfl) (.inl rfl)) (@pss_cons _ _ _ _ _ (@ps_if _ _ _ _ _ _ _ _ (@pt_cmpR _ _ _ _ _ _ _ _ (@op_notin_str _) (pv 2) (@pe_gstr _ _ _ _ rfl T.k_AMOUNT_FIGURES (by decide)) rfl) (@pss_one _ _ _ (@ps_never _ _)) (@pss_nil _)) (@pss_cons _ _ _ _ _ (@ps_if _ _ _ _ _ _ _ _ (@PW.pt _ _ _ (@pw_and _ _ _ _ _ _ _ (@pt_cmpR _ _ _ _ _ _ _ _ (@op_gt _) (@pe_callB _ _ _ _ _ _ _ _ _ (@call_len_seq _) rfl T.b_len PySem.boot_len (@pa_cons _ _ _ _ _ (pv 1) (@pa_nil _) rfl) (by decide) (by decide) rfl rfl) (@pe_int _ _ _ _) (nomark _)) (@pw_and1 _ _ _ _ (@pt_cmpR _ _ _ _ _ _ _ _ (@op_le _) (@pe_callTy _ _ _ _ _ _ _ _ _ (@call_int_text _) rfl T.b_int PyProof.Rows.boot_int (@pa_cons _ _ _ _ _ (pv 2) (@pa_nil _) rfl) (by decide) (by decide) rfl rfl) (@pe_ix _ _ _ _ _ _ _ (@ix_list _) (pv 1) (@pe_un _ _ _ _ _ _ (@un_neg _) (@pe_int _ _ _ _)) (fun _ _ => rfl)) (nomark _))))) (@pss_one _ _ _ (@ps_never _ _)) (@pss_nil _)) (@pss_one _ _ _ (@ps_expr _ _ _ _ (@pe_bm _ _ _ _ _ _ _ _ _ _ _ _ PySem.F.plainAttrs_list PySem.F.slot_list_append PySem.F.type_list_append (@mt_append _) (pv 1) (@pa_cons _ _ _ _ _ (@pe_callTy _ _ _ _ _ _ _ _ _ (@call_int_text _) rfl T.b_int PyProof.Rows.boot_int (@pa_cons _ _ _ _ _ (pv 2) (@pa_nil _) rfl) (by decide) (by decide) rfl rfl) (@pa_nil _) rfl) rfl rfl rfl rfl rfl) rfl)))) (by intro _ ; rfl)) (@pss_one _ _ _ (@ps_ret _ _ _ _ (@pe_callTy _ _ _ _ _ _ _ _ _ (@call_tuple_of _) rfl T.b_tuple PyProof.Rows.boot_tuple (@pa_cons _ _ _ _ _ (pv 1) (@pa_nil _) rfl) (by decide) (by decide) rfl rfl)))))), ?_⟩
  try dsimp only [cxK]
  refine ⟨_, rfl, _, rfl, (by rw [el]; exact Nat.le_trans hl (by decide)), rfl, _, rfl, ?_⟩
  have nz : decide (V.int ((digsT ns).length : Int) = V.int 0) = false := decide_eq_false fun z => by
   injection z with z
   omega
  rw [nz]
  refine iteF ⟨(by show 0 <= sizeLine; decide), fun l hl0 => ?_⟩
  refine ⟨_, rfl, _, rfl, ?_⟩
  refine for_str (fun i σ H2 => ∃ v, σ = [some (.str (digsT ns)), some (.ref l), v] /\ H2 = upd H l (.lst ((ns.take i).map V.int))) ⟨none, rfl, rfl⟩ ?_ ?_
  ·rintro i ch σ H2 hch ⟨v, rfl, rfl⟩
   have hch' : (ns.map fun n => 48 + n.toNat)[i]? = some ch := by rw [<- ec]; simpa using hch
   rw [List.getElem?_map] at hch'
   obtain ⟨n, en, rfl⟩ := Option.map_eq_some_iff.mp hch'
   have mn := List.mem_of_getElem? en
   obtain ⟨f1, f2⟩ := am_facts (hn n mn).1 (hn n mn).2
   have hi : i < ns.length := (List.getElem?_eq_some_iff.mp en).1
   have tl : (ns.take i).length = i := by rw [List.length_take]; omega
   refine ⟨_, rfl, _, _, rfl, rfl, _, rfl, ?_⟩
   rw [f2]
   refine iteF ⟨_, rfl, l, _, rfl, .inl (SqL.of upd_same), _, _, rfl, rfl, _, rfl, ?_⟩
   have nx : ∃ v, ([some (V.str (digsT ns)), some (.ref l), some (.str ⟨#[48 + n.toNat]⟩)] : St) = [some (.str (digsT ns)), some (.ref l), v] /\ upd (upd H l (.lst ((ns.take i).map V.int))) l (.lst ((ns.take i).map V.int ++ [V.int n])) = upd H l (.lst ((ns.take (i + 1)).map V.int)) := by
    refine ⟨_, rfl, ?_⟩
    rw [upd_upd, List.take_add_one, en, List.map_append]
    rfl
   have app : tDrop (tBM K "list" rAppend (tVar 1) (tCons (tCB (fun xs H Q => ∃ x n, xs = [.str x] /\ PySem.intText? x = some n /\ x.length <= 640 /\ Q (.int n) H) (tCons (tVar 2) tNil)) tNil))
     { nx := fun σ H2 => ∃ v, σ = [some (.str (digsT ns)), some (.ref l), v] /\ H2 = upd H l (.lst ((ns.take (i + 1)).map V.int)), rt := Q, bk := fun _ _ => False, ct := fun σ H2 => ∃ v, σ = [some (.str (digsT ns)), some (.ref l), v] /\ H2 = upd H l (.lst ((ns.take (i + 1)).map V.int)) }
     [some (.str (digsT ns)), some (.ref l), some (.str ⟨#[48 + n.toNat]⟩)] (upd H l (.lst ((ns.take i).map V.int))) :=
    ⟨_, rfl, .inl ⟨rfl, _, SqL.of upd_same⟩, _, rfl, _, n, rfl, f1, (by show 1 <= 640; decide), l, _, _, rfl, rfl, upd_same, (by rw [List.length_map, tl]; exact Nat.lt_of_lt_of_le hi (Nat.le_trans hl (by decide))), nx⟩
   by_cases i0 : i = 0
   ·subst i0
    exact iteF app
   ·have ip : 0 < i := by omega
    have lt0 : decide ((0 : Int) < (((ns.take i).map V.int).length : Int)) = true := decide_eq_true (by rw [List.length_map, tl]; omega)
    rw [lt0]
    have hm : i - 1 < ns.length := by omega
    have hlt : ns[i - 1] < n := by
     have := List.pairwise_iff_getElem.mp hp (i - 1) i hm hi (by omega)
     rw [(List.getElem?_eq_some_iff.mp en).2] at this
     exact this
    have at1 : atI ((ns.take i).map V.int) (-1) = some (V.int ns[i - 1]) := by
     have : ((ns.take i).map V.int)[i - 1]? = some (V.int ns[i - 1]) := by
      rw [List.getElem?_map, List.getElem?_take_of_lt (by omega), List.getElem?_eq_getElem hm]; rfl
     have e1 : ((ns.take i).map V.int).length = i := by rw [List.length_map, tl]
     unfold atI ixN
     rw [e1, if_neg (by decide), if_pos (by omega)]
     show ((ns.take i).map V.int)[((-1 : Int) + (i : Nat)).toNat]? = _
     rw [show ((-1 : Int) + (i : Nat)).toNat = i - 1 by omega]
     exact this
    refine iteT ⟨_, rfl, _, n, rfl, f1, (by show 1 <= 640; decide), _, rfl, _, rfl, l, _, _, _, rfl, rfl, SqL.of upd_same, at1, _, _, rfl, rfl, _, rfl, ?_⟩
    rw [decide_eq_false (by omega : ¬ n <= ns[i - 1])]
    exact iteF app
  ·rintro σ H2 ⟨v, rfl, rfl⟩
   have e : (digsT ns).cps.size = ns.length := by
    have : (digsT ns).cps.toList.length = ns.length := by rw [ec, List.length_map]
    simpa using this
   rw [e, List.take_length]
   refine ⟨_, rfl, l, _, rfl, .inl ⟨SqL.of upd_same, fun t ht => ?_⟩⟩
   exact k t _ ((same_upd hl0).trans (same_upd ht)) upd_same
end
end J
namespace J
open PySem L2
section
variable {P : Program} {w : World} {K : PySem.W.Frag} {mg : Str -> Option Value} {base : Heap} {a : Ad}
theorem eq_in (x : Str) : (!(Builtin.Str.occurrences x (Str.ofString "=") 0 x.length 1).isEmpty) = decide (61 ∈ x.cps.toList) := by
 have : Str.ofString "=" = (⟨#[61]⟩ : Str) := by decide +kernel
 rw [this]
 exact StrLaws.found_one x 61
inductive SpRCond (a : Ad) (vs : List V) (H : Hp) (Q : VK) : Prop
 | mk (d : CondA) (_ : vs = [.str (condT d)]) (_ : d.ok) (_ : ∀ (p : Addr) (H' : Hp), Same H H' -> CondAt a H' p d -> Q (.ref p) H') : SpRCond a vs H Q
def spRCond (a : Ad) : Sp := fun vs H Q _ => SpRCond a vs H Q
inductive SpRAm (a : Ad) (vs : List V) (H : Hp) (Q : VK) : Prop
 | mk (s : Int) (ns : List Int) (_ : vs = [.str (condT (.am s ns))]) (_ : (CondA.am s ns).ok) (_ : ∀ (p : Addr) (H' : Hp), Same H H' -> CondAt a H' p (.am s ns) -> Q (.ref p) H') : SpRAm a vs H Q
def spRAm (a : Ad) : Sp := fun vs H Q _ => SpRAm a vs H Q
theorem ok_ram {f : Addr} {fd : FuncData} (F : Fun K "read_amounts" "read_amounts" s_read_amounts f fd) (T : Top K mg a) (C_read_state : Cal P w K mg base CX0 1 "read_state" p_read_state spRS) (C_read_numbers : Cal P w K mg base CX0 1 "read_numbers" p_read_numbers spRN)
  (C_Amounts : CalC P w K mg base CX0 1 "Amounts" a.c_Amounts p_Amounts_init (spAmInit a)) : FnOk P w K mg base CX0 3 f fd p_read_amounts (spRAm a) := by
 refine F.ok sc_read_amounts (fun vs H Q E h => ?_) (fun cdv A outer s H vs Q E hr h => ?_)
 ·obtain ⟨s, ns, rfl, _⟩ := h
  rfl
 ·obtain ⟨d, ns, rfl, ho, k⟩ := h
  have hlen := cond_len ho
  obtain ⟨hd, hne, hn, hp⟩ := ho
  have hl := asc_len ns 0 (by decide) hn hp
  have e61 : Str.ofString "=" = (⟨#[61]⟩ : Str) := by decide +kernel
  have ep : Txt.partition (condT (.am d ns)) (Str.ofString "=") = (sgD d, ⟨#[61]⟩, digsT ns) := by
   rw [e61]
   refine Tx.part_at 61 (sgD d) (digsT ns) ?_
   intro z
   have : 61 = 48 + d.toNat := by simpa [sgD] using z
   have := hd.2
   omega
  refine ⟨_, (@pss_cons _ _ _ _ _ (@ps_set _ _ (1) _ _ _ _ sc_read_amounts.nd rfl (Or.inl rfl) (@pe_bm _ _ _ _ _ _ _ _ _ _ _ _ PySem.F.plainAttrs_str PySem.F.slot_str_partition PySem.F.type_str_partition (@mt_partition _) (pv 0) (@pa_str _ _ _ _ _ _ (@pa_nil _)) rfl rfl rfl rfl rfl) rfl (.inl rfl)) (@pss_one _ _ _ (@ps_ret _ _ _ _ (@pe_calC _ _ _ _ _ _ _ _ _ _ _ _ _ C_Amounts (rm hr) rfl pass0 (@pa_cons _ _ _ _ _ (@pe_cal _ _ _ _ _ _ _ _ _ _ _ _ C_read_state (rm hr) rfl pass0 (@pa_cons _ _ _ _ _ (@pe_ix _ _ _ _ _ _ _ (@ix_tup _) (pv 1) (@pe_int _ _ _ _) (fun _ _ => rfl)) (@pa_nil _) rfl) (by decide) rfl rfl) (@pa_cons _ _ _ _ _ (@pe_cal _ _ _ _ _ _ _ _ _ _ _ _ C_read_numbers (rm hr) rfl pass0 (@pa_cons _ _ _ _ _ (@pe_ix _ _ _ _ _ _ _ (@ix_tup _) (pv 1) (@pe_int _ _ _ _) (fun _ _ => rfl)) (@pa_nil _) rfl) (by decide) rfl rfl) (@pa_nil _) rfl) rfl) (by decide) rfl rfl)))), ?_⟩
  try dsimp only [cxK]
  refine ⟨_, rfl, rfl, _, _, rfl, rfl, (by decide +kernel), (by omega), fun t ht => ?_⟩
  rw [ep]
  refine ⟨_, rfl, t, _, 0, _, rfl, rfl, SqT.of upd_same, rfl, d, rfl, hd, _, rfl, t, _, 2, _, rfl, rfl, SqT.of upd_same, rfl, ns, rfl, hne, by omega, hn, hp, fun t2 H2 s2 ht2 => ?_⟩
  intro x dx nx ndx nex
  have sx : Same H2 (upd (upd H2 dx (.own x)) x (.ins a.c_Amounts dx [])) := (same_upd ndx).trans (same_upd (by rw [upd_ne (Ne.symm nex)]; exact nx))
  refine ⟨x, t2, dx, d, rfl, upd_same, rfl, ?_⟩
  have nx2 : (upd H2 dx (.own x)) x = none := by rw [upd_ne (Ne.symm nex)]; exact nx
  rw [upd_upd]
  have sy : Same H2 (upd (upd H2 dx (.own x)) x (.ins a.c_Amounts dx (fl2 "state" "numbers" (.int d) (.ref t2)))) := (same_upd ndx).trans (same_upd nx2)
  exact k x _ (((same_upd ht).trans s2).trans sy) (.am upd_same (sy _ _ ht2))
inductive SpRPl (a : Ad) (vs : List V) (H : Hp) (Q : VK) : Prop
 | mk (ws : List (Option Int)) (_ : vs = [.str (condT (.pl ws))]) (_ : (CondA.pl ws).ok) (_ : ∀ (p : Addr) (H' : Hp), Same H H' -> CondAt a H' p (.pl ws) -> Q (.ref p) H') : SpRPl a vs H Q
def spRPl (a : Ad) : Sp := fun vs H Q _ => SpRPl a vs H Q
theorem ok_rpl {f : Addr} {fd : FuncData} (F : Fun K "read_places" "read_places" s_read_places f fd) (T : Top K mg a) (C_read_wanted : Cal P w K mg base CX0 2 "read_wanted" p_read_wanted spRW)
  (C_Places : CalC P w K mg base CX0 1 "Places" a.c_Places p_Places_init (spPlInit a)) : FnOk P w K mg base CX0 3 f fd p_read_places (spRPl a) := by
 refine F.ok sc_read_places (fun vs H Q E h => ?_) (fun cdv A outer s H vs Q E hr h => ?_)
 ·obtain ⟨ws, rfl, _⟩ := h
  rfl
 ·obtain ⟨ws, rfl, ho, k⟩ := h
  have hlen := cond_len ho
  obtain ⟨h8, hw⟩ := ho
  have el : (condT (.pl ws)).length = 8 := by rw [Nu.len]; show (ws.map wC).length = 8; rw [List.length_map, h8]
  have ec : (condT (.pl ws)).cps.toList = ws.map wC := rfl
  refine ⟨_, (@pss_cons _ _ _ _ _ (@ps_if _ _ _ _ _ _ _ _ (@pt_cmpR _ _ _ _ _ _ _ _ (@op_ne _) (@pe_callB _ _ _ _ _ _ _ _ _ (@call_len_str _) rfl T.b_len PySem.boot_len (@pa_cons _ _ _ _ _ (pv 0) (@pa_nil _) rfl) (by decide) (by decide) rfl rfl) (@pe_gint _ _ _ _ rfl T.k_NEIGHBOURS (by decide)) (nomark _)) (@pss_one _ _ _ (@ps_never _ _)) (@pss_nil _)) (@pss_one _ _ _ (@ps_ret _ _ _ _ (@pe_calC _ _ _ _ _ _ _ _ _ _ _ _ _ C_Places (rm hr) rfl pass0 (@pa_cons _ _ _ _ _ (@pe_callTy _ _ _ _ _ _ _ _ _ (@call_tuple_of _) rfl T.b_tuple PyProof.Rows.boot_tuple (@pa_cons _ _ _ _ _ (@pe_comp _ _ _ _ _ _ _ _ _ _ _ _ _ _ rfl (@CScope.of _ ((defScope s_read_places)) (n_read_places) _ (["sign"]) (1) ([]) rfl rfl (by decide +kernel)) (@pi_str _ _ _ _ (pv 0)) (fun _ _ _ => (@pgc_name _ _ _ _ _ _ _ _ (0) (by decide +kernel) rfl rfl)) (fun _ _ _ => (@pts_nil _)) (fun _ _ _ => (@pe_cal _ _ _ _ _ _ _ _ _ _ _ _ C_read_wanted (rm hr) rfl pass0 (@pa_cons _ _ _ _ _ (pv 0) (@pa_nil _) rfl) (by decide) rfl rfl)) (by intro _ ; rfl)) (@pa_nil _) rfl) (by decide) (by decide) rfl rfl) (@pa_nil _) rfl) (by decide) rfl rfl)))), ?_⟩
  try dsimp only [cxK]
  refine ⟨_, rfl, _, rfl, Nat.le_trans hlen (by decide), rfl, _, rfl, ?_⟩
  rw [el]
  refine iteNS rfl ⟨_, rfl, _, rfl, ?_⟩
  refine blk_str (fun i acc H2 => H2 = H /\ acc = (ws.take i).map optV) ⟨rfl, rfl⟩ ?_ ?_
  ·rintro i ch acc H2 hch ⟨rfl, rfl⟩
   rw [ec, List.getElem?_map] at hch
   obtain ⟨x, ex, rfl⟩ := Option.map_eq_some_iff.mp hch
   refine ⟨⟨[some (.str ⟨#[wC x]⟩)], rfl, rfl⟩, ?_, ?_⟩
   ·rw [List.length_map, List.length_take]
    exact Nat.lt_of_le_of_lt (Nat.min_le_right _ _) (by rw [h8]; decide)
   ·refine tyes ⟨_, rfl, x, rfl, hw x (List.mem_of_getElem? ex), rfl, ?_⟩
    rw [List.take_add_one, ex, List.map_append]
    rfl
  ·rintro acc H2 ⟨rfl, rfl⟩ q nq
   rw [ec, List.length_map, List.take_length]
   refine ⟨q, _, rfl, .inl ⟨SqL.of upd_same, fun t ht => ?_⟩⟩
   intro x dx nx ndx nex
   have nx2 : ∀ o, (upd (upd (upd H2 q (.lst (ws.map optV))) t (.tup (ws.map optV))) dx o) x = none := fun o => by rw [upd_ne (Ne.symm nex)]; exact nx
   refine ⟨x, t, dx, rfl, upd_same, rfl, ?_⟩
   rw [upd_upd]
   have s1 : Same H2 (upd (upd H2 q (.lst (ws.map optV))) t (.tup (ws.map optV))) := (same_upd nq).trans (same_upd ht)
   have s2 : Same (upd (upd H2 q (.lst (ws.map optV))) t (.tup (ws.map optV))) (upd (upd (upd (upd H2 q (.lst (ws.map optV))) t (.tup (ws.map optV))) dx (.own x)) x (.ins a.c_Places dx (fl1 "wanted" (.ref t)))) := (same_upd ndx).trans (same_upd (nx2 _))
   exact k x _ (s1.trans s2) (.pl upd_same (s2 _ _ upd_same))
theorem ok_rcond {f : Addr} {fd : FuncData} (F : Fun K "read_condition" "read_condition" s_read_condition f fd) (T : Top K mg a) (C_read_amounts : Cal P w K mg base CX0 3 "read_amounts" p_read_amounts (spRAm a)) (C_read_places : Cal P w K mg base CX0 3 "read_places" p_read_places (spRPl a)) :
  FnOk P w K mg base CX0 4 f fd p_read_condition (spRCond a) := by
 refine F.ok sc_read_condition (fun vs H Q E h => ?_) (fun cdv A outer s H vs Q E hr h => ?_)
 ·obtain ⟨d, rfl, _⟩ := h
  rfl
 ·obtain ⟨d, rfl, ho, k⟩ := h
  refine ⟨_, (@pss_cons _ _ _ _ _ (@ps_if _ _ _ _ _ _ _ _ (@pt_cmpR _ _ _ _ _ _ _ _ (@op_in_str _) (@pe_str _ _ _ _) (pv 0) rfl) (@pss_one _ _ _ (@ps_ret _ _ _ _ (@pe_cal _ _ _ _ _ _ _ _ _ _ _ _ C_read_amounts (rm hr) rfl pass0 (@pa_cons _ _ _ _ _ (pv 0) (@pa_nil _) rfl) (by decide) rfl rfl))) (@pss_nil _)) (@pss_one _ _ _ (@ps_ret _ _ _ _ (@pe_cal _ _ _ _ _ _ _ _ _ _ _ _ C_read_places (rm hr) rfl pass0 (@pa_cons _ _ _ _ _ (pv 0) (@pa_nil _) rfl) (by decide) rfl rfl)))), ?_⟩
  try dsimp only [cxK]
  refine ⟨_, rfl, _, _, rfl, rfl, _, rfl, ?_⟩
  rw [eq_in]
  cases d with
  | am s ns =>
   have m : 61 ∈ (condT (.am s ns)).cps.toList := by
    show 61 ∈ (sgD s ++ ⟨#[61]⟩ ++ digsT ns).cps.toList
    rw [Tx.cps_app, Tx.cps_app]
    simp
   rw [decide_eq_true m]
   exact iteT ⟨_, rfl, s, ns, rfl, ho, k⟩
  | pl ws =>
   have m : ¬ 61 ∈ (condT (.pl ws)).cps.toList := fun z => by
    obtain ⟨x, hx, e⟩ := List.mem_map.mp (show 61 ∈ ws.map wC from z)
    exact (wC_ne (ho.2 x hx)).1 e
   rw [decide_eq_false m]
   exact iteF ⟨_, rfl, ws, rfl, ho, k⟩
inductive SpRC (a : Ad) (vs : List V) (H : Hp) (Q : VK) : Prop
 | mk (c : ClauseA) (_ : vs = [.str (clauseT c)]) (_ : c.ok) (_ : ∀ (p : Addr) (H' : Hp), Same H H' -> ClauseAt a H' p c -> Q (.ref p) H') : SpRC a vs H Q
def spRC (a : Ad) : Sp := fun vs H Q _ => SpRC a vs H Q
theorem clause_len {c : ClauseA} (h : c.ok) : (clauseT c).length <= 1000 := by
 have j := StrLaws.join_length_le ⟨#[32]⟩ (wS c.cell :: (c.conds.map condT ++ [sgD c.makes]))
 have b : ∀ l : List CondA, (∀ d ∈ l, d.ok) -> ((l.map condT).map (·.length)).sum <= 11 * l.length := by
  intro l
  induction l with
  | nil => intro _; exact Nat.zero_le _
  | cons d r ih =>
   intro hd
   have h1 := cond_len (hd d List.mem_cons_self)
   have h2 := ih fun e he => hd e (List.mem_cons_of_mem _ he)
   simp only [List.map_cons, List.sum_cons, List.length_cons]
   omega
 have b1 := b c.conds h.conds
 have h50 := h.few
 simp only [List.map_cons, List.map_append, List.map_nil, List.sum_cons, List.sum_append, List.sum_nil, List.length_cons, List.length_append, List.length_nil, List.length_map] at j
 have l1 : (wS c.cell).length = 1 := rfl
 have l2 : (sgD c.makes).length = 1 := rfl
 have l3 : (⟨#[32]⟩ : Str).length = 1 := rfl
 rw [l1, l2, l3] at j
 unfold clauseT
 omega
theorem cell_free (x : Option Int) (h : wOk x) : 32 ∉ (wS x).cps.toList /\ 59 ∉ (wS x).cps.toList := by
 have := wC_ne h
 constructor
 ·intro z
  have : 32 = wC x := by simpa [wS] using z
  exact (wC_ne h).2.1 this.symm
 ·intro z
  have : 59 = wC x := by simpa [wS] using z
  exact (wC_ne h).2.2 this.symm
theorem clause_split {c : ClauseA} (h : c.ok) : Txt.split (clauseT c) (Str.ofString " ") = wS c.cell :: (c.conds.map condT ++ [sgD c.makes]) := by
 have e : Str.ofString " " = (⟨#[32]⟩ : Str) := by decide +kernel
 rw [e]
 refine Tx.split_join1 32 _ (by simp) fun t ht => ?_
 rcases List.mem_cons.mp ht with rfl | ht
 ·exact (cell_free _ h.cell).1
 ·rcases List.mem_append.mp ht with ht | ht
  ·obtain ⟨d, hd, rfl⟩ := List.mem_map.mp ht
   exact (cond_free (h.conds d hd)).1
  ·rw [List.mem_singleton.mp ht]
   exact (cell_free (some c.makes) h.makes).1
theorem cut_mid (x z : V) (ys : List V) : cutV (x :: (ys ++ [z])) (some 1) (some (-1)) = ys := by
 have n : (x :: (ys ++ [z])).length = ys.length + 2 := by simp
 unfold cutV
 rw [n]
 have h1 : HT.sIx (ys.length + 2) 0 (some 1) = 1 := by
  show (if (1 : Int) < 0 then ((1 : Int) + ((ys.length + 2 : Nat) : Int)).toNat else min (1 : Int).toNat (ys.length + 2)) = 1
  rw [if_neg (by decide)]
  show min 1 (ys.length + 2) = 1
  omega
 have h2 : HT.sIx (ys.length + 2) (ys.length + 2) (some (-1)) = ys.length + 1 := by
  show (if (-1 : Int) < 0 then ((-1 : Int) + ((ys.length + 2 : Nat) : Int)).toNat else min (-1 : Int).toNat (ys.length + 2)) = ys.length + 1
  rw [if_pos (by decide)]
  omega
 rw [h1, h2]
 show (ys ++ [z]).take (ys.length + 1 - 1) = ys
 rw [Nat.add_sub_cancel, List.take_left' rfl]
theorem at_last (x : V) (ys : List V) (z : V) : atI (x :: (ys ++ [z])) (-1) = some z := by
 have n : (x :: (ys ++ [z])).length = ys.length + 2 := by simp
 unfold atI ixN
 rw [n, if_neg (by decide), if_pos (by omega)]
 show (x :: (ys ++ [z]))[((-1 : Int) + ((ys.length + 2 : Nat) : Int)).toNat]? = some z
 rw [show ((-1 : Int) + ((ys.length + 2 : Nat) : Int)).toNat = ys.length + 1 by omega, List.getElem?_cons_succ, List.getElem?_append_right (Nat.le_refl _), Nat.sub_self]
 rfl
theorem ok_rc {f : Addr} {fd : FuncData} (F : Fun K "read_clause" "read_clause" s_read_clause f fd) (T : Top K mg a) (C_read_state : Cal P w K mg base CX0 1 "read_state" p_read_state spRS) (C_read_wanted : Cal P w K mg base CX0 2 "read_wanted" p_read_wanted spRW)
  (C_read_condition : Cal P w K mg base CX0 4 "read_condition" p_read_condition (spRCond a)) (C_Clause : CalC P w K mg base CX0 1 "Clause" a.c_Clause p_Clause_init (spClInit a)) : FnOk P w K mg base CX0 5 f fd p_read_clause (spRC a) := by
 refine F.ok sc_read_clause (fun vs H Q E h => ?_) (fun cdv A outer s H vs Q E hr h => ?_)
 ·obtain ⟨c, rfl, _⟩ := h
  rfl
 ·obtain ⟨c, rfl, ho, k⟩ := h
  have hlen := clause_len ho
  have f50 := ho.few
  refine ⟨_, (@pss_cons _ _ _ _ _ (@ps_if _ _ _ _ _ _ _ _ (@pt_not _ _ _ _ (@pt_val _ _ _ (@pe_callB _ _ _ _ _ _ _ _ _ (@call_isi _) rfl T.b_isinstance PyProof.Rows.boot_isinstance (@pa_cons _ _ _ _ _ (pv 0) (@pa_cons _ _ _ _ _ (@pe_bltn _ _ ((.ty "str")) _ _ rfl T.b_str PyProof.Rows.boot_str rfl (by decide) (by decide)) (@pa_nil _) rfl) rfl) (by decide) (by decide) rfl rfl) (by intro _ ; rfl))) (@pss_one _ _ _ (@ps_never _ _)) (@pss_nil _)) (@pss_cons _ _ _ _ _ (@ps_set _ _ (1) _ _ _ _ sc_read_clause.nd rfl (Or.inl rfl) (@pe_bm _ _ _ _ _ _ _ _ _ _ _ _ PySem.F.plainAttrs_str PySem.F.slot_str_split PySem.F.type_str_split (@mt_split _) (pv 0) (@pa_str _ _ _ _ _ _ (@pa_nil _)) rfl rfl rfl rfl rfl) rfl (.inl rfl)) (@pss_cons _ _ _ _ _ (@ps_if _ _ _ _ _ _ _ _ (@pt_cmpR _ _ _ _ _ _ _ _ (@op_lt _) (@pe_callB _ _ _ _ _ _ _ _ _ (@call_len_seq _) rfl T.b_len PySem.boot_len (@pa_cons _ _ _ _ _ (pv 1) (@pa_nil _) rfl) (by decide) (by decide) rfl rfl) (@pe_int _ _ _ _) (nomark _)) (@pss_one _ _ _ (@ps_never _ _)) (@pss_nil _)) (@pss_cons _ _ _ _ _ (@ps_set _ _ (2) _ _ _ _ sc_read_clause.nd rfl (Or.inl rfl) (@pe_cal _ _ _ _ _ _ _ _ _ _ _ _ C_read_wanted (rm hr) rfl pass0 (@pa_cons _ _ _ _ _ (@pe_ix _ _ _ _ _ _ _ (@ix_list _) (pv 1) (@pe_int _ _ _ _) (fun _ _ => rfl)) (@pa_nil _) rfl) (by decide) rfl rfl) rfl (.inl rfl)) (@pss_cons _ _ _ _ _ (@ps_set _ _ (3) _ _ _ _ sc_read_clause.nd rfl (Or.inl rfl) (@pe_callTy _ _ _ _ _ _ _ _ _ (@call_tuple_of _) rfl T.b_tuple PyProof.Rows.boot_tuple (@pa_cons _ _ _ _ _ (@pe_comp _ _ _ _ _ _ _ _ _ _ _ _ _ _ rfl (@CScope.of _ ((defScope s_read_clause)) (n_read_clause) _ (["word"]) (1) ([]) rfl rfl (by decide +kernel)) (@pi_list _ _ _ _ (@pe_slice _ _ _ _ _ _ _ _ _ _ (@sl_list _) (pv 1) (@po_some _ _ _ (@pe_int _ _ _ _)) (@po_some _ _ _ (@pe_un _ _ _ _ _ _ (@un_neg _) (@pe_int _ _ _ _))))) (fun _ _ _ => (@pgc_name _ _ _ _ _ _ _ _ (0) (by decide +kernel) rfl rfl)) (fun _ _ _ => (@pts_nil _)) (fun _ _ _ => (@pe_cal _ _ _ _ _ _ _ _ _ _ _ _ C_read_condition (rm hr) rfl pass0 (@pa_cons _ _ _ _ _ (pv 0) (@pa_nil _) rfl) (by decide) rfl rfl)) (by intro _ ; rfl)) (@pa_nil _) rfl) (by decide) (by decide) rfl rfl) rfl (.inl rfl)) (@pss_one _ _ _ (@ps_ret _ _ _ _ (@pe_calC _ _ _ _ _ _ _ _ _ _ _ _ _ C_Clause (rm hr) rfl pass0 (@pa_cons _ _ _ _ _ (pv 2) (@pa_cons _ _ _ _ _ (pv 3) (@pa_cons _ _ _ _ _ (@pe_cal _ _ _ _ _ _ _ _ _ _ _ _ C_read_state (rm hr) rfl pass0 (@pa_cons _ _ _ _ _ (@pe_ix _ _ _ _ _ _ _ (@ix_list _) (pv 1) (@pe_un _ _ _ _ _ _ (@un_neg _) (@pe_int _ _ _ _)) (fun _ _ => rfl)) (@pa_nil _) rfl) (by decide) rfl rfl) (@pa_nil _) rfl) rfl) rfl) (by decide) rfl rfl)))))))), ?_⟩
  try dsimp only [cxK]
  refine ⟨_, rfl, _, _, _, .type "str", true, rfl, rfl, .of (.str _), str_isi K, true, rfl, ?_⟩
  refine iteF ⟨_, rfl, rfl, _, _, rfl, rfl, (by decide +kernel), (by omega), fun l hl => ?_⟩
  rw [clause_split ho]
  have eW : ((wS c.cell :: (c.conds.map condT ++ [sgD c.makes])).map V.str) = V.str (wS c.cell) :: ((c.conds.map fun d => V.str (condT d)) ++ [V.str (sgD c.makes)]) := by
   rw [List.map_cons, List.map_append, List.map_map]
   rfl
  rw [eW]
  have hL : ∀ o, upd H l o l = some o := fun o => upd_same
  refine ⟨_, rfl, l, _, rfl, .inl (SqL.of upd_same), _, _, rfl, rfl, _, rfl, ?_⟩
  rw [decide_eq_false (by simp; omega : ¬ ((((V.str (wS c.cell) :: ((c.conds.map fun d => V.str (condT d)) ++ [V.str (sgD c.makes)])).length : Nat) : Int) < 2))]
  refine iteF ⟨_, rfl, l, _, 0, .str (wS c.cell), rfl, rfl, SqL.of upd_same, atI_nat (j := 0) rfl, c.cell, rfl, ho.cell, ?_⟩
  refine ⟨_, rfl, _, rfl, _, rfl, _, rfl, l, _, rfl, SqL.of upd_same, fun q hq => ⟨q, rfl, ⟨_, SqL.of upd_same⟩, ?_⟩⟩
  rw [cut_mid]
  have s0 : Same H (upd (upd H l (.lst (V.str (wS c.cell) :: ((c.conds.map fun d => V.str (condT d)) ++ [V.str (sgD c.makes)])))) q (.lst (c.conds.map fun d => V.str (condT d)))) := (same_upd hl).trans (same_upd hq)
  have nlq : l ≠ q := fun z => by rw [<- z, upd_same] at hq; cases hq
  generalize hH1 : upd (upd H l (.lst (V.str (wS c.cell) :: ((c.conds.map fun d => V.str (condT d)) ++ [V.str (sgD c.makes)])))) q (.lst (c.conds.map fun d => V.str (condT d))) = H1
  rw [hH1] at s0
  have hq1 : H1 q = some (.lst (c.conds.map fun d => V.str (condT d))) := by rw [<- hH1]; exact upd_same
  have hl1 : H1 l = some (.lst (V.str (wS c.cell) :: ((c.conds.map fun d => V.str (condT d)) ++ [V.str (sgD c.makes)]))) := by rw [<- hH1, upd_ne nlq]; exact upd_same
  refine blk_list (xs := c.conds.map fun d => V.str (condT d)) (fun i acc H2 => ∃ ps : List Addr, acc = ps.map V.ref /\ Same H1 H2 /\ Paired (CondAt a H2) ps (c.conds.take i)) ⟨[], rfl, Same.refl H1, .nil⟩ (fun i acc H2 _ ⟨ps, _, sm, _⟩ => SqL.of (sm _ _ hq1)) ?_ ?_
  ·rintro i x acc H2 hx ⟨ps, rfl, sm, pr⟩
   rw [List.getElem?_map] at hx
   obtain ⟨d, ed, rfl⟩ := Option.map_eq_some_iff.mp hx
   refine ⟨⟨[some (.str (condT d))], rfl, rfl⟩, ?_, ?_⟩
   ·have e1 := Paired.length pr
    rw [List.length_take] at e1
    rw [List.length_map, e1]
    exact Nat.lt_of_le_of_lt (Nat.min_le_right _ _) (Nat.lt_of_le_of_lt f50 (by decide))
   ·refine tyes ⟨_, rfl, d, rfl, ho.conds d (List.mem_of_getElem? ed), fun p H3 s3 hp => ⟨ps ++ [p], by rw [List.map_append]; rfl, sm.trans s3, ?_⟩⟩
    rw [List.take_add_one, ed]
    exact Paired.snoc (Paired.imp (fun _ _ z => z.same s3) pr) hp
  ·rintro acc H2 ⟨ps, rfl, sm, pr⟩ r nr
   rw [List.length_map, List.take_length] at pr
   refine ⟨r, _, rfl, .inl ⟨SqL.of upd_same, fun t ht => ?_⟩⟩
   have s3 : Same H1 (upd (upd H2 r (.lst (ps.map V.ref))) t (.tup (ps.map V.ref))) := (sm.trans (same_upd nr)).trans (same_upd ht)
   generalize hH3 : upd (upd H2 r (.lst (ps.map V.ref))) t (.tup (ps.map V.ref)) = H3
   have ht3 : H3 t = some (.tup (ps.map V.ref)) := by rw [<- hH3]; exact upd_same
   have s23 : Same H2 H3 := by rw [<- hH3]; exact (same_upd nr).trans (same_upd ht)
   rw [hH3] at s3
   refine ⟨_, rfl, _, rfl, _, rfl, _, rfl, l, _, _, _, rfl, rfl, SqL.of (s3 _ _ hl1), at_last _ _ _, c.makes, rfl, ho.makes, ?_⟩
   intro x dx nx ndx nex
   have nx2 : ∀ o, (upd H3 dx o) x = none := fun o => by rw [upd_ne (Ne.symm nex)]; exact nx
   refine ⟨x, t, dx, c.cell, c.makes, rfl, upd_same, rfl, ?_⟩
   rw [upd_upd]
   have s4 : Same H3 (upd (upd H3 dx (.own x)) x (.ins a.c_Clause dx (fl3 "cell" "conditions" "makes" (optV c.cell) (.ref t) (.int c.makes)))) := (same_upd ndx).trans (same_upd (nx2 _))
   exact k x _ ((s0.trans s3).trans s4) ⟨dx, t, ps, upd_same, s4 _ _ ht3, Paired.imp (fun _ _ z => (z.same s23).same s4) pr⟩
theorem clause_free {c : ClauseA} (h : c.ok) : 59 ∉ (clauseT c).cps.toList := by
 intro z
 unfold clauseT at z
 rw [PyProof.Rows.mem_join] at z
 rcases z with ⟨t, ht, z⟩ | ⟨_, z⟩
 ·rcases List.mem_cons.mp ht with rfl | ht
  ·exact (cell_free _ h.cell).2 z
  ·rcases List.mem_append.mp ht with ht | ht
   ·obtain ⟨d, hd, rfl⟩ := List.mem_map.mp ht
    exact (cond_free (h.conds d hd)).2 z
   ·rw [List.mem_singleton.mp ht] at z
    exact (cell_free (some c.makes) h.makes).2 z
 ·have : 59 = 32 := by simpa using z
  omega
end
end J
namespace J
open PySem L2
structure ROkT (r : RuleA) : Prop where
 few : r.length <= 50
 ok : ∀ c ∈ r, c.ok
theorem ROkT.rok {r : RuleA} (h : ROkT r) : ROk r := ⟨Nat.le_trans h.few (by decide), fun c hc => ⟨Nat.le_trans (h.ok c hc).few (by decide), fun d hd ws e => by
 subst e
 rw [((h.ok c hc).conds _ hd).1]
 decide⟩⟩
theorem rule_len {r : RuleA} (h : ROkT r) : (ruleT r).length <= 60000 := by
 have j := StrLaws.join_length_le markT (r.map clauseT)
 have b : ∀ l : List ClauseA, (∀ c ∈ l, c.ok) -> ((l.map clauseT).map (·.length)).sum <= 1000 * l.length := by
  intro l
  induction l with
  | nil => intro _; exact Nat.zero_le _
  | cons d r ih =>
   intro hd
   have h1 := clause_len (hd d List.mem_cons_self)
   have h2 := ih fun e he => hd e (List.mem_cons_of_mem _ he)
   simp only [List.map_cons, List.sum_cons, List.length_cons]
   omega
 have b1 := b r h.ok
 have h50 := h.few
 have l3 : markT.length = 2 := rfl
 rw [l3, List.length_map] at j
 unfold ruleT
 omega
theorem rule_ne {r : RuleA} (h : r ≠ []) : decide (V.str (ruleT r) = V.str (Str.ofString "")) = false := by
 refine decide_eq_false fun z => ?_
 injection z with z
 obtain ⟨c, hc⟩ := List.exists_mem_of_ne_nil r h
 have h1 := PySem.join_mem_le markT (r.map clauseT) (clauseT c) (List.mem_map.mpr ⟨c, hc, rfl⟩)
 have h2 := PySem.join_mem_le ⟨#[32]⟩ (wS c.cell :: (c.conds.map condT ++ [sgD c.makes])) (wS c.cell) List.mem_cons_self
 have h3 : (wS c.cell).length = 1 := rfl
 have h4 : (ruleT r).length = 0 := by rw [z]; decide +kernel
 unfold ruleT at h4
 have h5 : (clauseT c).length = (Str.join ⟨#[32]⟩ (wS c.cell :: (c.conds.map condT ++ [sgD c.makes]))).length := rfl
 omega
theorem CondAt.put {a : Ad} {H : Hp} {p q : Addr} {o u : HO} {c : CondA} (h : CondAt a H q c) (hp : H p = some u) (n : ∀ C d fs, u = HO.ins C d fs -> fs.lookup ("state" : Str) = none /\ fs.lookup ("wanted" : Str) = none /\ fs.lookup ("makes" : Str) = none) (nt : ∀ xs, u ≠ .tup xs) : CondAt a (upd H p o) q c := by
 have other : ∀ {b v}, H b = some v -> v ≠ u -> upd H p o b = some v := fun {b v} e d => by rw [upd_ne (ne_of e hp d)]; exact e
 cases h with
 | am h ht =>
  refine .am (other h fun z => ?_) (other ht fun z => nt _ z.symm)
  have := (n _ _ _ z.symm).1
  rw [fl2_1 (by decide +kernel)] at this
  cases this
 | pl h ht =>
  refine .pl (other h fun z => ?_) (other ht fun z => nt _ z.symm)
  have := (n _ _ _ z.symm).2.1
  rw [fl1_1] at this
  cases this
theorem ClauseAt.put {a : Ad} {H : Hp} {p q : Addr} {o u : HO} {c : ClauseA} (h : ClauseAt a H q c) (hp : H p = some u) (n : ∀ C d fs, u = HO.ins C d fs -> fs.lookup ("state" : Str) = none /\ fs.lookup ("wanted" : Str) = none /\ fs.lookup ("makes" : Str) = none) (nt : ∀ xs, u ≠ .tup xs) : ClauseAt a (upd H p o) q c := by
 have other : ∀ {b v}, H b = some v -> v ≠ u -> upd H p o b = some v := fun {b v} e d => by rw [upd_ne (ne_of e hp d)]; exact e
 obtain ⟨dx, t, cs, h1, h2, h3⟩ := h.ex
 refine ⟨dx, t, cs, other h1 fun z => ?_, other h2 fun z => nt _ z.symm, Paired.imp (fun _ _ z => z.put hp n nt) h3⟩
 have := (n _ _ _ z.symm).2.2
 rw [fl3_3] at this
 cases this
section
variable {P : Program} {w : World} {K : PySem.W.Frag} {mg : Str -> Option Value} {base : Heap} {a : Ad}
inductive SpCT (vs : List V) (H : Hp) (Q : VK) : Prop
 | mk (r : RuleA) (_ : vs = [.str (ruleT r)]) (_ : ROkT r) (_ : ∀ (l : Addr) (H' : Hp), Same H H' -> H' l = some (.lst (r.map fun c => V.str (clauseT c))) -> Q (.ref l) H') : SpCT vs H Q
def spCT : Sp := fun vs H Q _ => SpCT vs H Q
theorem ok_ct {f : Addr} {fd : FuncData} (F : Fun K "clause_texts" "clause_texts" s_clause_texts f fd) (T : Top K mg a) : FnOk P w K mg base CX0 1 f fd p_clause_texts spCT := by
 refine F.ok sc_clause_texts (fun vs H Q E h => ?_) (fun cdv A outer s H vs Q E hr h => ?_)
 ·obtain ⟨r, rfl, _⟩ := h
  rfl
 ·obtain ⟨r, rfl, ho, k⟩ := h
  have hlen := rule_len ho
  refine ⟨_, (@pss_cons _ _ _ _ _ (@ps_if _ _ _ _ _ _ _ _ (@pt_cmpR _ _ _ _ _ _ _ _ (@op_eq _) (pv 0) (@pe_str _ _ _ _) (nomark _)) (@pss_one _ _ _ (@ps_ret _ _ _ _ (@pe_lst _ _ _ _ (@pa_nil _)))) (@pss_nil _)) (@pss_one _ _ _ (@ps_ret _ _ _ _ (@pe_bm _ _ _ _ _ _ _ _ _ _ _ _ PySem.F.plainAttrs_str PySem.F.slot_str_split PySem.F.type_str_split (@mt_split _) (pv 0) (@pa_cons _ _ _ _ _ (@pe_gstr _ _ _ _ rfl T.k_CLAUSE_MARK (by decide)) (@pa_nil _) rfl) rfl rfl rfl rfl rfl)))), ?_⟩
  try dsimp only [cxK]
  refine ⟨_, rfl, rfl, _, rfl, ?_⟩
  by_cases hr0 : r = []
  ·subst hr0
   refine iteT ⟨(by show 0 <= sizeLine; decide), fun l hl => ?_⟩
   exact k l _ (same_upd hl) upd_same
  ·rw [rule_ne hr0]
   refine iteF ⟨_, rfl, rfl, _, _, rfl, rfl, (by decide +kernel), (by omega), fun l hl => ?_⟩
   have em : Str.ofString "; " = (⟨#[59, 32]⟩ : Str) := by decide +kernel
   have e : Txt.split (ruleT r) (Str.ofString "; ") = r.map clauseT := by
    rw [em]
    refine Tx.split_join2 _ (by simpa using hr0) fun t ht => ?_
    obtain ⟨c, hc, rfl⟩ := List.mem_map.mp ht
    exact clause_free (ho.ok c hc)
   rw [e, List.map_map]
   exact k l _ (same_upd hl) upd_same
inductive SpRI (a : Ad) (vs : List V) (H : Hp) (Q : VK) : Prop
 | mk (p dx : Addr) (r : RuleA) (_ : vs = [.ref p, .str (ruleT r)]) (_ : H p = some (.ins a.c_Rule dx [])) (_ : ROkT r) (_ : ∀ H', (∀ b o, H b = some o -> b ≠ p -> H' b = some o) -> RuleAt a H' p (ruleT r) r -> Q .non H') : SpRI a vs H Q
def spRI (a : Ad) : Sp := fun vs H Q _ => SpRI a vs H Q
theorem ok_ri {f : Addr} {fd : FuncData} (F : Fun K "__init__" "Rule.__init__" s_Rule_init f fd) (T : Top K mg a) (C_clause_texts : Cal P w K mg base CX0 1 "clause_texts" p_clause_texts spCT) (C_read_clause : Cal P w K mg base CX0 5 "read_clause" p_read_clause (spRC a)) :
  FnOk P w K mg base CX0 6 f fd p_Rule_init (spRI a) := by
 refine F.ok sc_Rule_init (fun vs H Q E h => ?_) (fun cdv A outer s H vs Q E hr h => ?_)
 ·obtain ⟨p, dx, r, rfl, _⟩ := h
  rfl
 ·obtain ⟨p, dx, r, rfl, hp, ho, k⟩ := h
  have hlen := rule_len ho
  have f50 := ho.few
  refine ⟨_, (@pss_cons _ _ _ _ _ (@ps_fld _ _ _ _ _ _ _ _ (pv 0) (pv 1) rfl) (@pss_one _ _ _ (@ps_fld _ _ _ _ _ _ _ _ (pv 0) (@pe_callTy _ _ _ _ _ _ _ _ _ (@call_tuple_of _) rfl T.b_tuple PyProof.Rows.boot_tuple (@pa_cons _ _ _ _ _ (@pe_comp _ _ _ _ _ _ _ _ _ _ _ _ _ _ rfl (@CScope.of _ ((defScope s_Rule_init)) (n_Rule_init) _ (["part"]) (1) ([]) rfl rfl (by decide +kernel)) (@pi_list _ _ _ _ (@pe_cal _ _ _ _ _ _ _ _ _ _ _ _ C_clause_texts (rm hr) rfl pass0 (@pa_cons _ _ _ _ _ (pv 1) (@pa_nil _) rfl) (by decide) rfl rfl)) (fun _ _ _ => (@pgc_name _ _ _ _ _ _ _ _ (0) (by decide +kernel) rfl rfl)) (fun _ _ _ => (@pts_nil _)) (fun _ _ _ => (@pe_cal _ _ _ _ _ _ _ _ _ _ _ _ C_read_clause (rm hr) rfl pass0 (@pa_cons _ _ _ _ _ (pv 0) (@pa_nil _) rfl) (by decide) rfl rfl)) (by intro _ ; rfl)) (@pa_nil _) rfl) (by decide) (by decide) rfl rfl) rfl))), ?_⟩
  try dsimp only [cxK]
  refine ⟨_, rfl, _, rfl, p, _, dx, [], rfl, hp, T.cl_Rule, T.na_Rule_text, (by show 0 < 1000; decide), ?_⟩
  generalize hH1 : upd H p (.ins a.c_Rule dx (putF "text" (.str (ruleT r)) [])) = H1
  have hp1 : H1 p = some (.ins a.c_Rule dx (putF "text" (.str (ruleT r)) [])) := by rw [<- hH1]; exact upd_same
  have k1 : ∀ b o, H b = some o -> b ≠ p -> H1 b = some o := fun b o e n => by rw [<- hH1, upd_ne n]; exact e
  refine ⟨_, rfl, r, rfl, ho, fun l H2 s2 hl => ⟨l, rfl, ⟨_, SqL.of hl⟩, ?_⟩⟩
  refine blk_list (xs := r.map fun c => V.str (clauseT c)) (fun i acc H3 => ∃ ps : List Addr, acc = ps.map V.ref /\ Same H2 H3 /\ Paired (ClauseAt a H3) ps (r.take i)) ⟨[], rfl, Same.refl H2, .nil⟩ (fun i acc H3 _ ⟨ps, _, sm, _⟩ => SqL.of (sm _ _ hl)) ?_ ?_
  ·rintro i x acc H3 hx ⟨ps, rfl, sm, pr⟩
   rw [List.getElem?_map] at hx
   obtain ⟨c, ec, rfl⟩ := Option.map_eq_some_iff.mp hx
   refine ⟨⟨[some (.str (clauseT c))], rfl, rfl⟩, ?_, ?_⟩
   ·have e1 := Paired.length pr
    rw [List.length_take] at e1
    rw [List.length_map, e1]
    exact Nat.lt_of_le_of_lt (Nat.min_le_right _ _) (Nat.lt_of_le_of_lt f50 (by decide))
   ·refine tyes ⟨_, rfl, c, rfl, ho.ok c (List.mem_of_getElem? ec), fun q H4 s4 hq => ⟨ps ++ [q], by rw [List.map_append]; rfl, sm.trans s4, ?_⟩⟩
    rw [List.take_add_one, ec]
    exact Paired.snoc (Paired.imp (fun _ _ z => z.same s4) pr) hq
  ·rintro acc H3 ⟨ps, rfl, sm, pr⟩ q nq
   rw [List.length_map, List.take_length] at pr
   refine ⟨q, _, rfl, .inl ⟨SqL.of upd_same, fun t ht => ?_⟩⟩
   generalize hH4 : upd (upd H3 q (.lst (ps.map V.ref))) t (.tup (ps.map V.ref)) = H4
   have s34 : Same H3 H4 := by rw [<- hH4]; exact (same_upd nq).trans (same_upd ht)
   have ht4 : H4 t = some (.tup (ps.map V.ref)) := by rw [<- hH4]; exact upd_same
   have s14 : Same H1 H4 := (s2.trans sm).trans s34
   have ntp : t ≠ p := fun z => by rw [z, s14 _ _ hp1] at ht4; cases ht4
   refine ⟨_, rfl, p, _, dx, _, rfl, s14 _ _ hp1, T.cl_Rule, T.na_Rule_clauses, (by show 1 < 1000; decide), ?_⟩
   have up : ∀ b o, H4 b = some o -> b ≠ p -> upd H4 p (.ins a.c_Rule dx (fl2 "text" "clauses" (.str (ruleT r)) (.ref t))) b = some o := fun b o e n => by rw [upd_ne n]; exact e
   have cl : ∀ q' c, ClauseAt a H4 q' c -> ClauseAt a (upd H4 p (.ins a.c_Rule dx (fl2 "text" "clauses" (.str (ruleT r)) (.ref t)))) q' c := fun q' c hc => by
    exact hc.put (s14 _ _ hp1) (fun C d fs e => by
     cases e
     exact ⟨fl1_no (by decide +kernel), fl1_no (by decide +kernel), fl1_no (by decide +kernel)⟩) (fun xs z => by cases z)
   exact k _ (fun b o e n => up _ _ (s14 _ _ (k1 b o e n)) n) ⟨dx, t, ps, upd_same, up _ _ ht4 ntp, Paired.imp (fun q' c z => cl q' c (z.same s34)) pr⟩
def zeros8 : List Int := [0, 0, 0, 0, 0, 0, 0, 0]
inductive SpRR (a : Ad) (vs : List V) (H : Hp) (Q : VK) : Prop
 | mk (r : RuleA) (_ : vs = [.str (ruleT r)]) (_ : ROkT r) (_ : becA r 0 zeros8 = 0) (_ : ∀ (p : Addr) (H' : Hp), Same H H' -> RuleAt a H' p (ruleT r) r -> Q (.ref p) H') : SpRR a vs H Q
def spRR (a : Ad) : Sp := fun vs H Q _ => SpRR a vs H Q
theorem ok_rr {f : Addr} {fd : FuncData} (F : Fun K "read_rule" "read_rule" s_read_rule f fd) (T : Top K mg a) (C_Rule : CalC P w K mg base CX0 6 "Rule" a.c_Rule p_Rule_init (spRI a)) (C_becomes : Cal P w K mg base CX0 5 "becomes" p_becomes (spBec a)) :
  FnOk P w K mg base CX0 8 f fd p_read_rule (spRR a) := by
 refine F.ok sc_read_rule (fun vs H Q E h => ?_) (fun cdv A outer s H vs Q E hr h => ?_)
 ·obtain ⟨r, rfl, _⟩ := h
  rfl
 ·obtain ⟨r, rfl, ho, hz, k⟩ := h
  refine ⟨_, (@pss_cons _ _ _ _ _ (@ps_if _ _ _ _ _ _ _ _ (@pt_not _ _ _ _ (@pt_val _ _ _ (@pe_callB _ _ _ _ _ _ _ _ _ (@call_isi _) rfl T.b_isinstance PyProof.Rows.boot_isinstance (@pa_cons _ _ _ _ _ (pv 0) (@pa_cons _ _ _ _ _ (@pe_bltn _ _ ((.ty "str")) _ _ rfl T.b_str PyProof.Rows.boot_str rfl (by decide) (by decide)) (@pa_nil _) rfl) rfl) (by decide) (by decide) rfl rfl) (by intro _ ; rfl))) (@pss_one _ _ _ (@ps_never _ _)) (@pss_nil _)) (@pss_cons _ _ _ _ _ (@ps_set _ _ (1) _ _ _ _ sc_read_rule.nd rfl (Or.inl rfl) (@pe_calC _ _ _ _ _ _ _ _ _ _ _ _ _ C_Rule (rm hr) rfl pass0 (@pa_cons _ _ _ _ _ (pv 0) (@pa_nil _) rfl) (by decide) rfl rfl) rfl (.inl rfl)) (@pss_cons _ _ _ _ _ (@ps_if _ _ _ _ _ _ _ _ (@pt_cmpR _ _ _ _ _ _ _ _ (@op_ne _) (@pe_cal _ _ _ _ _ _ _ _ _ _ _ _ C_becomes (rm hr) rfl pass0 (@pa_cons _ _ _ _ _ (pv 1) (@pa_int _ _ _ _ _ _ (@pa_op _ _ _ _ _ _ _ _ _ _ (@op_rep _) (@pe_lst _ _ _ _ (@pa_int _ _ _ _ _ _ (@pa_nil _))) (@pe_gint _ _ _ _ rfl T.k_NEIGHBOURS (by decide)) (@pa_nil _))) rfl) (by decide) rfl rfl) (@pe_int _ _ _ _) (nomark _)) (@pss_one _ _ _ (@ps_never _ _)) (@pss_nil _)) (@pss_one _ _ _ (@ps_ret _ _ _ _ (pv 1)))))), ?_⟩
  try dsimp only [cxK]
  refine ⟨_, rfl, _, _, _, .type "str", true, rfl, rfl, .of (.str _), str_isi K, true, rfl, ?_⟩
  refine iteF ⟨_, rfl, ?_⟩
  intro x dx nx ndx nex
  refine ⟨x, dx, r, rfl, upd_same, ho, fun H2 kp hR => ⟨rfl, ?_⟩⟩
  have s2 : Same H H2 := fun b o e => kp b o (by rw [upd_ne (ne_of_none e nx), upd_ne (ne_of_none e ndx)]; exact e) (ne_of_none e nx)
  refine ⟨_, rfl, (by show 1 <= sizeLine; decide), fun l hl => ?_⟩
  refine ⟨l, 8, _, rfl, rfl, upd_same, (by decide), (by decide), (by decide), fun m hm => ?_⟩
  have s3 := (s2.trans (same_upd (o := .lst [.int 0]) hl)).trans (same_upd (o := .lst (zeros8.map V.int)) hm)
  have s23 := (same_upd (o := .lst [.int 0]) hl).trans (same_upd (o := .lst (zeros8.map V.int)) hm)
  refine ⟨x, m, _, r, 0, zeros8, rfl, hR.same s23, ho.rok, upd_same, fun H4 s4 => ?_⟩
  refine ⟨rfl, _, rfl, ?_⟩
  rw [hz]
  refine iteNS rfl ⟨_, rfl, ?_⟩
  exact k x H4 (s3.trans s4) ((hR.same s23).same s4)
end
end J
namespace J
open PySem L2
structure Sq where
 parts : List Int
 lev : Int
abbrev Gv := List Sq
structure GA where
 p : Addr
 dx : Addr
 lv : Addr
 pt : Addr
 nm : Addr
 br : Addr
 am : Addr
 bx : Addr
def fl6 (g : GA) : List (Str × V) := putF "boxes" (.ref g.bx) (putF "amounts" (.ref g.am) (putF "bares" (.ref g.br) (putF "numbers" (.ref g.nm) (putF "parts" (.ref g.pt) (putF "levels" (.ref g.lv) [])))))
theorem fl6_lv (g : GA) : (fl6 g).lookup ("levels" : Str) = some (V.ref g.lv) := by
 unfold fl6
 rw [lookup_putF, if_neg (by decide +kernel), lookup_putF, if_neg (by decide +kernel), lookup_putF, if_neg (by decide +kernel), lookup_putF, if_neg (by decide +kernel), lookup_putF, if_neg (by decide +kernel), lookup_putF, if_pos rfl]
theorem fl6_pt (g : GA) : (fl6 g).lookup ("parts" : Str) = some (V.ref g.pt) := by
 unfold fl6
 rw [lookup_putF, if_neg (by decide +kernel), lookup_putF, if_neg (by decide +kernel), lookup_putF, if_neg (by decide +kernel), lookup_putF, if_neg (by decide +kernel), lookup_putF, if_pos rfl]
theorem fl6_nm (g : GA) : (fl6 g).lookup ("numbers" : Str) = some (V.ref g.nm) := by
 unfold fl6
 rw [lookup_putF, if_neg (by decide +kernel), lookup_putF, if_neg (by decide +kernel), lookup_putF, if_neg (by decide +kernel), lookup_putF, if_pos rfl]
theorem fl6_br (g : GA) : (fl6 g).lookup ("bares" : Str) = some (V.ref g.br) := by
 unfold fl6
 rw [lookup_putF, if_neg (by decide +kernel), lookup_putF, if_neg (by decide +kernel), lookup_putF, if_pos rfl]
theorem fl6_am (g : GA) : (fl6 g).lookup ("amounts" : Str) = some (V.ref g.am) := by
 unfold fl6
 rw [lookup_putF, if_neg (by decide +kernel), lookup_putF, if_pos rfl]
theorem fl6_no (g : GA) {m : Str} (h1 : ¬ m = ("boxes" : Str)) (h2 : ¬ m = ("amounts" : Str)) (h3 : ¬ m = ("bares" : Str)) (h4 : ¬ m = ("numbers" : Str)) (h5 : ¬ m = ("parts" : Str)) (h6 : ¬ m = ("levels" : Str)) : (fl6 g).lookup m = none := by
 unfold fl6
 rw [lookup_putF, if_neg h1, lookup_putF, if_neg h2, lookup_putF, if_neg h3, lookup_putF, if_neg h4, lookup_putF, if_neg h5, lookup_putF, if_neg h6]
 rfl
theorem no_kept (g : GA) : (fl6 g).lookup ("kept" : Str) = none := fl6_no g (by decide +kernel) (by decide +kernel) (by decide +kernel) (by decide +kernel) (by decide +kernel) (by decide +kernel)
theorem no_linked (g : GA) : (fl6 g).lookup ("linked" : Str) = none := fl6_no g (by decide +kernel) (by decide +kernel) (by decide +kernel) (by decide +kernel) (by decide +kernel) (by decide +kernel)
theorem no_check (g : GA) : (fl6 g).lookup ("check_square" : Str) = none := fl6_no g (by decide +kernel) (by decide +kernel) (by decide +kernel) (by decide +kernel) (by decide +kernel) (by decide +kernel)
theorem no_leaf (g : GA) : (fl6 g).lookup ("leaf" : Str) = none := fl6_no g (by decide +kernel) (by decide +kernel) (by decide +kernel) (by decide +kernel) (by decide +kernel) (by decide +kernel)
theorem no_levelOf (g : GA) : (fl6 g).lookup ("level_of" : Str) = none := fl6_no g (by decide +kernel) (by decide +kernel) (by decide +kernel) (by decide +kernel) (by decide +kernel) (by decide +kernel)
theorem no_solid (g : GA) : (fl6 g).lookup ("solid" : Str) = none := fl6_no g (by decide +kernel) (by decide +kernel) (by decide +kernel) (by decide +kernel) (by decide +kernel) (by decide +kernel)
theorem no_stateOf (g : GA) : (fl6 g).lookup ("state_of" : Str) = none := fl6_no g (by decide +kernel) (by decide +kernel) (by decide +kernel) (by decide +kernel) (by decide +kernel) (by decide +kernel)
def kOf (ps : List Int) : List Key := ps.map Sum.inl
theorem kOf_v (ps : List Int) : (kOf ps).map kV = ps.map V.int := by unfold kOf; rw [List.map_map]; rfl
theorem kOf_inj : ∀ {ps qs : List Int}, kOf ps = kOf qs -> ps = qs
 | [], [], _ => rfl
 | [], _ :: _, h => by cases h
 | _ :: _, [], h => by cases h
 | x :: r, y :: t, h => by
  have h : Sum.inl x :: kOf r = (Sum.inl y : Key) :: kOf t := h
  injection h with h1 h2
  injection h1 with h1
  rw [h1, kOf_inj h2]
def kvOf : Nat -> Gv -> List (List Key × V)
 | _, [] => []
 | n, q :: r => (kOf q.parts, .int (n : Int)) :: kvOf (n + 1) r
theorem kvOf_len : ∀ (G : Gv) (n : Nat), (kvOf n G).length = G.length
 | [], _ => rfl
 | q :: r, n => by show (kvOf (n + 1) r).length + 1 = r.length + 1; rw [kvOf_len r]
theorem kvOf_snoc (q : Sq) : ∀ (G : Gv) (n : Nat), kvOf n (G ++ [q]) = kvOf n G ++ [(kOf q.parts, .int ((n + G.length : Nat) : Int))]
 | [], _ => rfl
 | p :: r, n => by
  show (kOf p.parts, V.int (n : Int)) :: kvOf (n + 1) (r ++ [q]) = _
  rw [kvOf_snoc q r (n + 1)]
  show _ = (kOf p.parts, V.int (n : Int)) :: (kvOf (n + 1) r ++ [(kOf q.parts, V.int ((n + (r.length + 1) : Nat) : Int))])
  rw [show n + 1 + r.length = n + (r.length + 1) by lia]
theorem kv_look (ps : List Int) : ∀ (G : Gv) (n : Nat), (∃ (i : Nat) (q : Sq), G[i]? = some q /\ q.parts = ps /\ valV (kvOf n G) (kOf ps) = some (.int ((n + i : Nat) : Int))) \/ (valV (kvOf n G) (kOf ps) = none /\ ∀ q ∈ G, q.parts ≠ ps)
 | [], n => .inr ⟨rfl, fun q hq => by simp at hq⟩
 | p :: r, n => by
  by_cases e : p.parts = ps
  ·exact .inl ⟨0, p, rfl, e, valV_pos (by rw [e])⟩
  ·have ne : ¬ (kOf p.parts, V.int (n : Int)).1 = kOf ps := fun z => e (kOf_inj z)
   rcases kv_look ps r (n + 1) with ⟨i, q, h1, h2, h3⟩ | ⟨h1, h2⟩
   ·refine .inl ⟨i + 1, q, h1, h2, ?_⟩
    show valV ((kOf p.parts, V.int (n : Int)) :: kvOf (n + 1) r) (kOf ps) = _
    rw [valV_neg ne, h3, show n + 1 + i = n + (i + 1) by lia]
   ·refine .inr ⟨?_, fun q hq => ?_⟩
    ·show valV ((kOf p.parts, V.int (n : Int)) :: kvOf (n + 1) r) (kOf ps) = _
     rw [valV_neg ne, h1]
    ·rcases List.mem_cons.mp hq with rfl | hq
     ·exact e
     ·exact h2 q hq
def TupAt (H : Hp) (t : Addr) (q : Sq) : Prop := H t = some (.tup (q.parts.map V.int))
structure GroveAt (a : Ad) (H : Hp) (g : GA) (G : Gv) : Prop where
 hp : H g.p = some (.ins a.c_Grove g.dx (fl6 g))
 lv : H g.lv = some (.lst (G.map fun q => .int q.lev))
 pt : ∃ ts : List Addr, H g.pt = some (.lst (ts.map V.ref)) /\ Paired (TupAt H) ts G
 nm : H g.nm = some (.dT (kvOf 0 G))
 ne : g.lv ≠ g.pt
def Fr (g : GA) (H H' : Hp) : Prop := ∀ b o, H b = some o -> b ≠ g.lv -> b ≠ g.pt -> b ≠ g.nm -> H' b = some o
theorem Fr.refl (g : GA) (H : Hp) : Fr g H H := fun _ _ e _ _ _ => e
theorem Fr.trans {g : GA} {H1 H2 H3 : Hp} (h : Fr g H1 H2) (h2 : Fr g H2 H3) : Fr g H1 H3 := fun b o e n1 n2 n3 => h2 b o (h b o e n1 n2 n3) n1 n2 n3
theorem Same.fr {g : GA} {H1 H2 : Hp} (h : Same H1 H2) : Fr g H1 H2 := fun b o e _ _ _ => h b o e
theorem PairedM.imp {α β : Type} {F G : α -> β -> Prop} (h : ∀ x y, F x y -> G x y) : ∀ {l : List α} {m : List β}, Paired F l m -> Paired G l m
 | _, _, .nil => .nil
 | _, _, .cons r t => .cons (h _ _ r) (PairedM.imp h t)
theorem PairedM.get {α β : Type} {F : α -> β -> Prop} : ∀ {l : List α} {m : List β} {i : Nat} {y : β}, Paired F l m -> m[i]? = some y -> ∃ x, l[i]? = some x /\ F x y
 | _, _, _, _, .nil, e => by simp at e
 | _, _, 0, _, .cons r _, e => by simp at e; subst e; exact ⟨_, rfl, r⟩
 | _, _, i + 1, y, .cons _ t, e => by
  obtain ⟨x, h1, h2⟩ := PairedM.get (i := i) (y := y) t (by simpa using e)
  exact ⟨x, by simpa using h1, h2⟩
theorem same_up {H : Hp} {p : Addr} {o : HO} (h : H p = none) : Same H (upd H p o) := fun b u e => by
 rw [upd_ne (ne_of_none e h)]
 exact e
theorem GroveAt.same {a : Ad} {H H' : Hp} {g : GA} {G : Gv} (s : Same H H') (h : GroveAt a H g G) : GroveAt a H' g G := by
 obtain ⟨h1, h2, ⟨ts, h3, h4⟩, h5, h6⟩ := h
 exact ⟨s _ _ h1, s _ _ h2, ⟨ts, s _ _ h3, PairedM.imp (fun t q z => s _ _ z) h4⟩, s _ _ h5, h6⟩
theorem GroveAt.put {a : Ad} {H : Hp} {g : GA} {G : Gv} {l : Addr} {xs : List V} {o : HO} (hl : H l = some (.lst xs)) (n1 : l ≠ g.lv) (n2 : l ≠ g.pt) (h : GroveAt a H g G) : GroveAt a (upd H l o) g G := by
 obtain ⟨h1, h2, ⟨ts, h3, h4⟩, h5, h6⟩ := h
 have other : ∀ {b v}, H b = some v -> v ≠ .lst xs -> upd H l o b = some v := fun {b v} e n => by rw [upd_ne (ne_of e hl n)]; exact e
 exact ⟨other h1 (by intro z; cases z), by rw [upd_ne (Ne.symm n1)]; exact h2, ⟨ts, by rw [upd_ne (Ne.symm n2)]; exact h3, PairedM.imp (fun t q z => other z (by intro z; cases z)) h4⟩, other h5 (by intro z; cases z), h6⟩
def LevAt (G : Gv) (x : Nat) (l : Int) : Prop := ∃ q, G[x]? = some q /\ q.lev = l
structure GOk (G : Gv) : Prop where
 leaf : ∀ s : Nat, s < 8 -> G[s]? = some ⟨[(s : Int)], 0⟩
 node : ∀ (i : Nat) q, G[i]? = some q -> 8 <= i -> ∃ x y z w : Nat, q.parts = [(x : Int), (y : Int), (z : Int), (w : Int)] /\ (LevAt G x (q.lev - 1) /\ LevAt G y (q.lev - 1) /\ LevAt G z (q.lev - 1) /\ LevAt G w (q.lev - 1)) /\ 1 <= q.lev /\ q.lev <= 48
 nd : (G.map Sq.parts).Nodup
theorem get_app {G r : Gv} {x : Nat} {q : Sq} (h : G[x]? = some q) : (G ++ r)[x]? = some q := by
 rw [List.getElem?_append_left (List.getElem?_eq_some_iff.mp h).1]
 exact h
theorem LevAt.app {G r : Gv} {x : Nat} {l : Int} (h : LevAt G x l) : LevAt (G ++ r) x l := by
 obtain ⟨q, h, e⟩ := h
 exact ⟨q, get_app h, e⟩
theorem GOk.lev {G : Gv} (h : GOk G) {i : Nat} {q : Sq} (e : G[i]? = some q) : 0 <= q.lev /\ q.lev <= 48 := by
 by_cases h8 : i < 8
 ·rw [h.leaf i h8] at e
  cases e
  exact ⟨Int.le_refl 0, by show (0 : Int) <= 48; decide⟩
 ·obtain ⟨x, y, z, w, _, _, h1, h2⟩ := h.node i q e (by lia)
  exact ⟨by lia, h2⟩
theorem GOk.snoc {G : Gv} (h : GOk G) {x y z w : Nat} {l : Int} (hx : LevAt G x l) (hy : LevAt G y l) (hz : LevAt G z l) (hw : LevAt G w l) (h47 : l <= 47) (new : ∀ q ∈ G, q.parts ≠ [(x : Int), (y : Int), (z : Int), (w : Int)]) : GOk (G ++ [⟨[(x : Int), (y : Int), (z : Int), (w : Int)], l + 1⟩]) where
 leaf := fun s hs => get_app (h.leaf s hs)
 node := fun i q e hi => by
  by_cases hl : i < G.length
  ·rw [List.getElem?_append_left hl] at e
   obtain ⟨x, y, z, w, h1, ⟨a1, a2, a3, a4⟩, h3⟩ := h.node i q e hi
   exact ⟨x, y, z, w, h1, ⟨a1.app, a2.app, a3.app, a4.app⟩, h3⟩
  ·rw [List.getElem?_append_right (by lia)] at e
   have : i - G.length = 0 := by
    by_cases z : i - G.length = 0
    ·exact z
    ·rw [List.getElem?_eq_none (by rw [List.length_singleton]; lia)] at e; cases e
   rw [this] at e
   cases e
   obtain ⟨q0, e0, l0⟩ := hx
   have := (h.lev e0).1
   have el : l + 1 - 1 = l := by lia
   refine ⟨x, y, z, w, rfl, ?_, ?_, ?_⟩
   ·show LevAt _ x (l + 1 - 1) /\ LevAt _ y (l + 1 - 1) /\ LevAt _ z (l + 1 - 1) /\ LevAt _ w (l + 1 - 1)
    rw [el]
    exact ⟨LevAt.app ⟨q0, e0, l0⟩, hy.app, hz.app, hw.app⟩
   ·show 1 <= l + 1; lia
   ·show l + 1 <= 48; lia
 nd := by
  rw [List.map_append, List.nodup_append]
  refine ⟨h.nd, by simp, fun p hp p' hp' => ?_⟩
  obtain ⟨q, hq, rfl⟩ := List.mem_map.mp hp
  rw [show p' = [(x : Int), (y : Int), (z : Int), (w : Int)] by simpa using hp']
  exact new q hq
theorem GOk.one {G : Gv} (h : GOk G) {i j : Nat} {p q : Sq} (hi : G[i]? = some p) (hj : G[j]? = some q) (e : p.parts = q.parts) : i = j := by
 have li := (List.getElem?_eq_some_iff.mp hi).1
 have lj := (List.getElem?_eq_some_iff.mp hj).1
 have h1 : (G.map Sq.parts)[i]'(by rw [List.length_map]; exact li) = (G.map Sq.parts)[j]'(by rw [List.length_map]; exact lj) := by
  rw [List.getElem_map, List.getElem_map, (List.getElem?_eq_some_iff.mp hi).2, (List.getElem?_eq_some_iff.mp hj).2, e]
 exact (List.getElem_inj h.nd).mp h1
end J
namespace J
open PySem L2
theorem lt_ln {n : Nat} (h : n < 10000000) : n < sizeLine := Nat.lt_of_lt_of_le h (by decide)
theorem kit_w (K : PySem.W.Frag) : PySem.W.kitOne K (.type "int") (.type "int") = some true /\ PySem.W.kitOne K (.type "int") (.type "bool") = some false := ⟨by kernel_rfl, by kernel_rfl⟩
section
variable {P : Program} {w : World} {K : PySem.W.Frag} {mg : Str -> Option Value} {base : Heap} {a : Ad}
inductive SpIW (vs : List V) (H : Hp) (Q : VK) : Prop
 | mk (i : Int) (_ : vs = [.int i]) (_ : Q (.bl true) H) : SpIW vs H Q
def spIW : Sp := fun vs H Q _ => SpIW vs H Q
theorem ok_iw {f : Addr} {fd : FuncData} (F : Fun K "is_whole" "is_whole" s_is_whole f fd) (T : Top K mg a) : FnOk P w K mg base CX0 1 f fd p_is_whole spIW := by
 refine F.ok sc_is_whole (fun vs H Q E h => ?_) (fun cdv A outer s H vs Q E hr h => ?_)
 ·obtain ⟨i, rfl, _⟩ := h
  rfl
 ·obtain ⟨i, rfl, k⟩ := h
  exact ⟨_, (@pss_one _ _ _ (@ps_ret _ _ _ _ (@pe_and _ _ _ _ _ _ _ (@pe_callB _ _ _ _ _ _ _ _ _ (@call_isi _) rfl T.b_isinstance PyProof.Rows.boot_isinstance (@pa_cons _ _ _ _ _ (pv 0) (@pa_cons _ _ _ _ _ (@pe_bltn _ _ ((.ty "int")) _ _ rfl T.b_int PyProof.Rows.boot_int rfl (by decide) (by decide)) (@pa_nil _) rfl) rfl) (by decide) (by decide) rfl rfl) (@pe_one _ _ _ _ _ (@pe_not _ _ _ _ (@pe_callB _ _ _ _ _ _ _ _ _ (@call_isi _) rfl T.b_isinstance PyProof.Rows.boot_isinstance (@pa_cons _ _ _ _ _ (pv 0) (@pa_cons _ _ _ _ _ (@pe_bltn _ _ ((.ty "bool")) _ _ rfl T.b_bool PyProof.Rows.boot_bool rfl (by decide) (by decide)) (@pa_nil _) rfl) rfl) (by decide) (by decide) rfl rfl)))))), _, rfl, _, _, _, .type "int", true, rfl, rfl, .of (.int i), (kit_w K).1, true, rfl, iteT ⟨_, rfl, _, _, _, .type "int", false, rfl, rfl, .of (.int i), (kit_w K).2, false, rfl, k⟩⟩
inductive SpIS (vs : List V) (H : Hp) (Q : VK) : Prop
 | mk (i : Int) (_ : vs = [.int i]) (_ : 0 <= i) (_ : i < 8) (_ : Q (.bl true) H) : SpIS vs H Q
def spIS : Sp := fun vs H Q _ => SpIS vs H Q
theorem ok_is {f : Addr} {fd : FuncData} (F : Fun K "is_state" "is_state" s_is_state f fd) (T : Top K mg a) (C_is_whole : Cal P w K mg base CX0 1 "is_whole" p_is_whole spIW) : FnOk P w K mg base CX0 2 f fd p_is_state spIS := by
 refine F.ok sc_is_state (fun vs H Q E h => ?_) (fun cdv A outer s H vs Q E hr h => ?_)
 ·obtain ⟨i, rfl, _⟩ := h
  rfl
 ·obtain ⟨i, rfl, h0, h1, k⟩ := h
  refine ⟨_, (@pss_one _ _ _ (@ps_ret _ _ _ _ (@pe_and _ _ _ _ _ _ _ (@pe_cal _ _ _ _ _ _ _ _ _ _ _ _ C_is_whole (rm hr) rfl pass0 (@pa_cons _ _ _ _ _ (pv 0) (@pa_nil _) rfl) (by decide) rfl rfl) (@pe_one _ _ _ _ _ (@pe_chain _ _ _ _ _ _ _ _ _ _ _ _ (@op_le _) (@op_lt _) (@pe_int _ _ _ _) (pv 0) (@pe_gint _ _ _ _ rfl T.k_STATES (by decide)) (by with_unfolding_all rfl)))))), ?_⟩
  try dsimp only [cxK]
  refine ⟨_, rfl, i, rfl, true, rfl, iteT ⟨_, rfl, _, _, rfl, rfl, _, rfl, ?_⟩⟩
  rw [decide_eq_true h0]
  refine iteT ⟨_, _, rfl, rfl, ?_⟩
  show Q (.bl (decide (i < 8))) H
  rw [decide_eq_true h1]
  exact k
inductive SpKept (a : Ad) (vs : List V) (H : Hp) (Q : VK) : Prop
 | mk (g : GA) (G : Gv) (t : Addr) (ps : List Int) (l : Int) (_ : vs = [.ref g.p, .ref t, .int l]) (_ : GroveAt a H g G) (_ : H t = some (.tup (ps.map V.int))) (_ : (∀ q ∈ G, q.parts ≠ ps)) (_ : G.length < 9000000) (_ : ∀ H', Fr g H H' -> GroveAt a H' g (G ++ [⟨ps, l⟩]) -> Q (.int (G.length : Int)) H') : SpKept a vs H Q
def spKept (a : Ad) : Sp := fun vs H Q _ => SpKept a vs H Q
theorem ok_kept {f : Addr} {fd : FuncData} (F : Fun K "kept" "Grove.kept" s_Grove_kept f fd) (T : Top K mg a) : FnOk P w K mg base CX0 1 f fd p_Grove_kept (spKept a) := by
 refine F.ok sc_Grove_kept (fun vs H Q E h => ?_) (fun cdv A outer s H vs Q E hr h => ?_)
 ·obtain ⟨g, G, t, ps, l, rfl, _⟩ := h
  rfl
 ·obtain ⟨g, G, t, ps, l, rfl, hg, ht, new, few, k⟩ := h
  obtain ⟨h1, h2, ⟨ts, h3, h4⟩, h5, h6⟩ := hg
  have lt : ts.length = G.length := Paired.length h4
  refine ⟨_, (@pss_cons _ _ _ _ _ (@ps_set _ _ (3) _ _ _ _ sc_Grove_kept.nd rfl (Or.inl rfl) (@pe_callB _ _ _ _ _ _ _ _ _ (@call_len_seq _) rfl T.b_len PySem.boot_len (@pa_cons _ _ _ _ _ (@pe_fld _ _ _ _ _ (pv 0) rfl) (@pa_nil _) rfl) (by decide) (by decide) rfl rfl) rfl (.inl rfl)) (@pss_cons _ _ _ _ _ (@ps_dput _ _ _ _ _ _ _ _ _ (hu_of hr) (@pe_fld _ _ _ _ _ (pv 0) rfl) (pv 1) (pv 3) rfl) (@pss_cons _ _ _ _ _ (@ps_expr _ _ _ _ (@pe_bm _ _ _ _ _ _ _ _ _ _ _ _ PySem.F.plainAttrs_list PySem.F.slot_list_append PySem.F.type_list_append (@mt_append _) (@pe_fld _ _ _ _ _ (pv 0) rfl) (@pa_cons _ _ _ _ _ (pv 2) (@pa_nil _) rfl) rfl rfl rfl rfl rfl) rfl) (@pss_cons _ _ _ _ _ (@ps_expr _ _ _ _ (@pe_bm _ _ _ _ _ _ _ _ _ _ _ _ PySem.F.plainAttrs_list PySem.F.slot_list_append PySem.F.type_list_append (@mt_append _) (@pe_fld _ _ _ _ _ (pv 0) rfl) (@pa_cons _ _ _ _ _ (pv 1) (@pa_nil _) rfl) rfl rfl rfl rfl rfl) rfl) (@pss_one _ _ _ (@ps_ret _ _ _ _ (pv 3))))))), ?_⟩
  try dsimp only [cxK]
  refine ⟨_, rfl, g.p, _, g.dx, _, _, rfl, h1, T.cl_Grove, T.na_Grove_levels, fl6_lv g, g.lv, _, rfl, .inl (SqL.of h2), ?_⟩
  rw [List.length_map]
  have ne1 : g.p ≠ g.nm := ne_of h1 h5 (by intro z; cases z)
  have ne2 : g.lv ≠ g.nm := ne_of h2 h5 (by intro z; cases z)
  have ne3 : g.pt ≠ g.nm := ne_of h3 h5 (by intro z; cases z)
  have ne4 : g.p ≠ g.lv := ne_of h1 h2 (by intro z; cases z)
  have ne5 : g.p ≠ g.pt := ne_of h1 h3 (by intro z; cases z)
  have vn : valV (kvOf 0 G) (kOf ps) = none := by
   rcases kv_look ps G 0 with ⟨i, q, e1, e2, _⟩ | ⟨e, _⟩
   ·exact absurd e2 (new q (List.mem_of_getElem? e1))
   ·exact e
  refine ⟨_, rfl, _, rfl, g.p, _, g.dx, _, _, rfl, h1, T.cl_Grove, T.na_Grove_numbers, fl6_nm g, _, rfl, g.nm, _, rfl, DPut.t (k := kOf ps) h5 (by rw [kOf_v]; exact ht) (by rw [kvOf_len]; exact lt_ln (by lia)), ?_⟩
  rw [putK_new _ vn]
  have e5 : kvOf 0 G ++ [(kOf ps, V.int (G.length : Int))] = kvOf 0 (G ++ [⟨ps, l⟩]) := by rw [kvOf_snoc, Nat.zero_add]
  rw [e5]
  generalize hH1 : upd H g.nm (.dT (kvOf 0 (G ++ [⟨ps, l⟩]))) = H1
  have k1 : ∀ b o, H b = some o -> b ≠ g.nm -> H1 b = some o := fun b o e n => by rw [<- hH1, upd_ne n]; exact e
  have n1 : H1 g.nm = some (.dT (kvOf 0 (G ++ [⟨ps, l⟩]))) := by rw [<- hH1]; exact upd_same
  refine ⟨_, rfl, g.p, _, g.dx, _, _, rfl, k1 _ _ h1 ne1, T.cl_Grove, T.na_Grove_levels, fl6_lv g, .inl ⟨rfl, _, SqL.of (k1 _ _ h2 ne2)⟩, _, rfl, g.lv, _, _, rfl, rfl, k1 _ _ h2 ne2, by rw [List.length_map]; exact lt_ln (by lia), ?_⟩
  generalize hH2 : upd H1 g.lv (.lst ((G.map fun q => V.int q.lev) ++ [.int l])) = H2
  have k2 : ∀ b o, H1 b = some o -> b ≠ g.lv -> H2 b = some o := fun b o e n => by rw [<- hH2, upd_ne n]; exact e
  have n2 : H2 g.lv = some (.lst ((G ++ [(⟨ps, l⟩ : Sq)]).map fun q => V.int q.lev)) := by rw [<- hH2, upd_same, List.map_append]; rfl
  have h3' := k2 _ _ (k1 _ _ h3 ne3) (Ne.symm h6)
  refine ⟨_, rfl, g.p, _, g.dx, _, _, rfl, k2 _ _ (k1 _ _ h1 ne1) ne4, T.cl_Grove, T.na_Grove_parts, fl6_pt g, .inl ⟨rfl, _, SqL.of h3'⟩, _, rfl, g.pt, _, _, rfl, rfl, h3', by rw [List.length_map, lt]; exact lt_ln (by lia), ?_⟩
  generalize hH3 : upd H2 g.pt (.lst (ts.map V.ref ++ [.ref t])) = H3
  have k3 : ∀ b o, H2 b = some o -> b ≠ g.pt -> H3 b = some o := fun b o e n => by rw [<- hH3, upd_ne n]; exact e
  have n3 : H3 g.pt = some (.lst ((ts ++ [t]).map V.ref)) := by rw [<- hH3, upd_same, List.map_append]; rfl
  have fr : Fr g H H3 := fun b o e m1 m2 m3 => k3 _ _ (k2 _ _ (k1 _ _ e m3) m1) m2
  have tp : ∀ (c : Addr) (xs : List V), H c = some (.tup xs) -> H3 c = some (.tup xs) := fun c xs e => fr _ _ e (ne_of e h2 (by intro z; cases z)) (ne_of e h3 (by intro z; cases z)) (ne_of e h5 (by intro z; cases z))
  refine ⟨_, rfl, k H3 fr ⟨fr _ _ h1 ne4 ne5 ne1, k3 _ _ n2 h6, ⟨ts ++ [t], n3, Paired.snoc (PairedM.imp (fun c q z => tp c _ z) h4) (tp t _ ht)⟩, k3 _ _ (k2 _ _ n1 (Ne.symm ne2)) (Ne.symm ne3), h6⟩⟩
structure Goes (G G' : Gv) (n : Nat) : Prop where
 ok : GOk G'
 pre : ∃ r, G' = G ++ r
 few : G'.length <= G.length + n
theorem Goes.refl {G : Gv} (h : GOk G) : Goes G G 0 := ⟨h, ⟨[], by simp⟩, Nat.le_refl _⟩
theorem Goes.trans {G G' G'' : Gv} {n m : Nat} (h : Goes G G' n) (h2 : Goes G' G'' m) : Goes G G'' (n + m) := by
 obtain ⟨r, e⟩ := h.pre
 obtain ⟨t, e2⟩ := h2.pre
 have f1 := h.few
 have f2 := h2.few
 exact ⟨h2.ok, ⟨r ++ t, by rw [e2, e, List.append_assoc]⟩, by lia⟩
theorem Goes.get {G G' : Gv} {n x : Nat} {q : Sq} (h : Goes G G' n) (e : G[x]? = some q) : G'[x]? = some q := by
 obtain ⟨r, e2⟩ := h.pre
 rw [e2]
 exact get_app e
theorem Goes.lev {G G' : Gv} {n x : Nat} {l : Int} (h : Goes G G' n) (e : LevAt G x l) : LevAt G' x l := by
 obtain ⟨q, e, z⟩ := e
 exact ⟨q, h.get e, z⟩
inductive SpLink (a : Ad) (vs : List V) (H : Hp) (Q : VK) : Prop
 | mk (g : GA) (G : Gv) (t : Addr) (x y z w : Nat) (l : Int) (_ : vs = [.ref g.p, .ref t]) (_ : GroveAt a H g G) (_ : GOk G) (_ : H t = some (.tup [.int x, .int y, .int z, .int w])) (_ : (LevAt G x l /\ LevAt G y l /\ LevAt G z l /\ LevAt G w l)) (_ : l <= 47) (_ : G.length < 9000000) (_ : ∀ (n : Nat) (G' : Gv) (H' : Hp), Fr g H H' -> GroveAt a H' g G' -> Goes G G' 1 -> G'[n]? = some ⟨[(x : Int), (y : Int), (z : Int), (w : Int)], l + 1⟩ -> Q (.int n) H') : SpLink a vs H Q
def spLink (a : Ad) : Sp := fun vs H Q _ => SpLink a vs H Q
theorem ok_link {f : Addr} {fd : FuncData} (F : Fun K "linked" "Grove.linked" s_Grove_linked f fd) (T : Top K mg a) (M_Grove_kept : CalM P w K mg base CX0 1 a.c_Grove "kept" p_Grove_kept (spKept a)) : FnOk P w K mg base CX0 2 f fd p_Grove_linked (spLink a) := by
 refine F.ok sc_Grove_linked (fun vs H Q E h => ?_) (fun cdv A outer s H vs Q E hr h => ?_)
 ·obtain ⟨g, G, t, x, y, z, w, l, rfl, _⟩ := h
  rfl
 ·obtain ⟨g, G, t, x, y, z, w, l, rfl, hg, ok, ht, ⟨hx, hy, hz, hw⟩, h47, few, k⟩ := h
  have hg0 := hg
  obtain ⟨h1, h2, ⟨ts, h3, h4⟩, h5, h6⟩ := hg
  refine ⟨_, (@pss_cons _ _ _ _ _ (@ps_set _ _ (2) _ _ _ _ sc_Grove_linked.nd rfl (Or.inl rfl) (@pe_dget1 _ _ _ _ _ _ _ (hu_of hr) (@pe_fld _ _ _ _ _ (pv 0) rfl) (pv 1) ⟨rfl, rfl, rfl, rfl⟩) rfl (.inl rfl)) (@pss_cons _ _ _ _ _ (@ps_if _ _ _ _ _ _ _ _ (@pt_cmpR _ _ _ _ _ _ _ _ (@op_isN _) (pv 2) (@pe_non _ _ _) (nomark _)) (@pss_one _ _ _ (@ps_ret _ _ _ _ (@pe_calm _ _ _ _ _ _ _ _ _ _ _ _ _ _ _ _ (pv 0) M_Grove_kept (rm hr) pass0 (@pa_cons _ _ _ _ _ (pv 1) (@pa_op _ _ _ _ _ _ _ _ _ _ (@op_add _) (@pe_ix _ _ _ _ _ _ _ (@ix_list _) (@pe_fld _ _ _ _ _ (pv 0) rfl) (@pe_ix _ _ _ _ _ _ _ (@ix_tup _) (pv 1) (@pe_int _ _ _ _) (fun _ _ => rfl)) (fun _ _ => rfl)) (@pe_int _ _ _ _) (@pa_nil _)) rfl) rfl rfl rfl))) (@pss_nil _)) (@pss_one _ _ _ (@ps_ret _ _ _ _ (pv 2))))), ?_⟩
  try dsimp only [cxK]
  refine ⟨_, rfl, g.p, _, g.dx, _, _, rfl, h1, T.cl_Grove, T.na_Grove_numbers, fl6_nm g, g.nm, rfl, .inr ⟨_, .inl h5⟩, _, rfl, _, DGet.t (k := kOf [(x : Int), (y : Int), (z : Int), (w : Int)]) h5 (by rw [kOf_v]; exact ht), ?_⟩
  rcases kv_look [(x : Int), (y : Int), (z : Int), (w : Int)] G 0 with ⟨i, q, e1, e2, e3⟩ | ⟨e, new⟩
  ·rw [e3]
   refine ⟨_, rfl, rfl, _, rfl, iteF ⟨_, rfl, ?_⟩⟩
   rw [Nat.zero_add]
   refine k i G H (Fr.refl g H) hg0 ⟨ok, ⟨[], by simp⟩, by lia⟩ ?_
   have h8 : 8 <= i := by
    refine Nat.le_of_not_lt fun z' => ?_
    rw [ok.leaf i z'] at e1
    cases e1
    cases e2
   obtain ⟨x', y', z', w', p1, ⟨lx, _⟩, _⟩ := ok.node i q e1 h8
   have exx : x' = x := by
    rw [p1] at e2
    injection e2 with e2 _
    exact Int.ofNat.inj e2
   rw [exx] at lx
   obtain ⟨qa, a1, a2⟩ := lx
   obtain ⟨qb, b1, b2⟩ := hx
   rw [a1] at b1
   cases b1
   have el : q.lev = l + 1 := by lia
   rw [e1]
   cases q with
   | mk pp ll => cases e2; cases el; rfl
  ·rw [e]
   refine ⟨_, rfl, rfl, _, rfl, iteT ?_⟩
   obtain ⟨q, e1, e2⟩ := id hx
   refine ⟨_, rfl, g.p, g.dx, _, rfl, h1, no_kept g, _, rfl, _, rfl, g.p, _, g.dx, _, _, rfl, h1, T.cl_Grove, T.na_Grove_levels, fl6_lv g, _, rfl, t, _, 0, .int x, rfl, rfl, SqT.of ht, atI_nat (j := 0) rfl, g.lv, _, (x : Int), .int q.lev, rfl, rfl, SqL.of h2, atI_nat (by rw [List.getElem?_map, e1]; rfl), _, _, rfl, rfl, ?_⟩
   refine ⟨g, G, t, [(x : Int), (y : Int), (z : Int), (w : Int)], l + 1, by rw [<- e2]; rfl, hg0, ht, new, few, fun H' fr hg' => ?_⟩
   refine k G.length _ H' fr hg' ⟨ok.snoc hx hy hz hw h47 new, ⟨_, rfl⟩, by rw [List.length_append]; exact Nat.le_refl _⟩ ?_
   rw [List.getElem?_append_right (Nat.le_refl _), Nat.sub_self]
   rfl
inductive SpChk (a : Ad) (vs : List V) (H : Hp) (Q : VK) : Prop
 | mk (g : GA) (G : Gv) (i : Nat) (_ : vs = [.ref g.p, .int i]) (_ : GroveAt a H g G) (_ : i < G.length) (_ : Q .non H) : SpChk a vs H Q
def spChk (a : Ad) : Sp := fun vs H Q _ => SpChk a vs H Q
theorem ok_chk {f : Addr} {fd : FuncData} (F : Fun K "check_square" "Grove.check_square" s_Grove_check_square f fd) (T : Top K mg a) (C_is_whole : Cal P w K mg base CX0 1 "is_whole" p_is_whole spIW) : FnOk P w K mg base CX0 2 f fd p_Grove_check_square (spChk a) := by
 refine F.ok sc_Grove_check_square (fun vs H Q E h => ?_) (fun cdv A outer s H vs Q E hr h => ?_)
 ·obtain ⟨g, G, i, rfl, _⟩ := h
  rfl
 ·obtain ⟨g, G, i, rfl, hg, hi, k⟩ := h
  refine ⟨_, (@pss_one _ _ _ (@ps_if _ _ _ _ _ _ _ _ (@PW.pt _ _ _ (@pw_or _ _ _ _ _ _ _ (@pt_not _ _ _ _ (@pt_val _ _ _ (@pe_cal _ _ _ _ _ _ _ _ _ _ _ _ C_is_whole (rm hr) rfl pass0 (@pa_cons _ _ _ _ _ (pv 1) (@pa_nil _) rfl) (by decide) rfl rfl) (by intro _ ; rfl))) (@pw_or1 _ _ _ _ (@pt_not _ _ _ _ (@pt_chain _ _ _ _ _ _ _ _ _ _ _ _ (@op_le _) (@op_lt _) (@pe_int _ _ _ _) (pv 1) (@pe_callB _ _ _ _ _ _ _ _ _ (@call_len_seq _) rfl T.b_len PySem.boot_len (@pa_cons _ _ _ _ _ (@pe_fld _ _ _ _ _ (pv 0) rfl) (@pa_nil _) rfl) (by decide) (by decide) rfl rfl) (by with_unfolding_all rfl)))))) (@pss_one _ _ _ (@ps_never _ _)) (@pss_nil _))), ?_⟩
  try dsimp only [cxK]
  refine ⟨_, rfl, _, rfl, true, rfl, iteF ⟨_, rfl, _, _, rfl, rfl, _, rfl, ?_⟩⟩
  rw [decide_eq_true (by lia : (0 : Int) <= (i : Int))]
  refine iteT ⟨_, rfl, g.p, _, g.dx, _, _, rfl, hg.hp, T.cl_Grove, T.na_Grove_levels, fl6_lv g, g.lv, _, rfl, .inl (SqL.of hg.lv), _, _, rfl, rfl, _, rfl, ?_⟩
  rw [List.length_map, decide_eq_true (by lia : (i : Int) < (G.length : Int))]
  exact iteF k
inductive SpLeaf (a : Ad) (vs : List V) (H : Hp) (Q : VK) : Prop
 | mk (p : Addr) (i : Int) (_ : vs = [.ref p, .int i]) (_ : 0 <= i) (_ : i < 8) (_ : Q (.int i) H) : SpLeaf a vs H Q
def spLeaf (a : Ad) : Sp := fun vs H Q _ => SpLeaf a vs H Q
theorem ok_leaf {f : Addr} {fd : FuncData} (F : Fun K "leaf" "Grove.leaf" s_Grove_leaf f fd) (T : Top K mg a) (C_is_state : Cal P w K mg base CX0 2 "is_state" p_is_state spIS) : FnOk P w K mg base CX0 3 f fd p_Grove_leaf (spLeaf a) := by
 refine F.ok sc_Grove_leaf (fun vs H Q E h => ?_) (fun cdv A outer s H vs Q E hr h => ?_)
 ·obtain ⟨g, i, rfl, _⟩ := h
  rfl
 ·obtain ⟨g, i, rfl, h0, h1, k⟩ := h
  exact ⟨_, (@pss_cons _ _ _ _ _ (@ps_if _ _ _ _ _ _ _ _ (@pt_not _ _ _ _ (@pt_val _ _ _ (@pe_cal _ _ _ _ _ _ _ _ _ _ _ _ C_is_state (rm hr) rfl pass0 (@pa_cons _ _ _ _ _ (pv 1) (@pa_nil _) rfl) (by decide) rfl rfl) (by intro _ ; rfl))) (@pss_one _ _ _ (@ps_never _ _)) (@pss_nil _)) (@pss_one _ _ _ (@ps_ret _ _ _ _ (pv 1)))), _, rfl, i, rfl, h0, h1, true, rfl, iteF ⟨_, rfl, k⟩⟩
inductive SpLev (a : Ad) (vs : List V) (H : Hp) (Q : VK) : Prop
 | mk (g : GA) (G : Gv) (i : Nat) (q : Sq) (_ : vs = [.ref g.p, .int i]) (_ : GroveAt a H g G) (_ : G[i]? = some q) (_ : Q (.int q.lev) H) : SpLev a vs H Q
def spLev (a : Ad) : Sp := fun vs H Q _ => SpLev a vs H Q
theorem ok_lev {f : Addr} {fd : FuncData} (F : Fun K "level_of" "Grove.level_of" s_Grove_level_of f fd) (T : Top K mg a) (M_Grove_check_square : CalM P w K mg base CX0 2 a.c_Grove "check_square" p_Grove_check_square (spChk a)) : FnOk P w K mg base CX0 3 f fd p_Grove_level_of (spLev a) := by
 refine F.ok sc_Grove_level_of (fun vs H Q E h => ?_) (fun cdv A outer s H vs Q E hr h => ?_)
 ·obtain ⟨g, G, i, q, rfl, _⟩ := h
  rfl
 ·obtain ⟨g, G, i, q, rfl, hg, hi, k⟩ := h
  refine ⟨_, (@pss_cons _ _ _ _ _ (@ps_expr _ _ _ _ (@pe_calm _ _ _ _ _ _ _ _ _ _ _ _ _ _ _ _ (pv 0) M_Grove_check_square (rm hr) pass0 (@pa_cons _ _ _ _ _ (pv 1) (@pa_nil _) rfl) rfl rfl rfl) rfl) (@pss_one _ _ _ (@ps_ret _ _ _ _ (@pe_ix _ _ _ _ _ _ _ (@ix_list _) (@pe_fld _ _ _ _ _ (pv 0) rfl) (pv 1) (fun _ _ => rfl))))), ?_⟩
  try dsimp only [cxK]
  refine ⟨_, rfl, g.p, g.dx, _, rfl, hg.hp, no_check g, _, rfl, g, G, i, rfl, hg, (List.getElem?_eq_some_iff.mp hi).1, ?_⟩
  exact ⟨_, rfl, g.p, _, g.dx, _, _, rfl, hg.hp, T.cl_Grove, T.na_Grove_levels, fl6_lv g, _, rfl, g.lv, _, (i : Int), .int q.lev, rfl, rfl, SqL.of hg.lv, atI_nat (by rw [List.getElem?_map, hi]; rfl), k⟩
inductive SpSta (a : Ad) (vs : List V) (H : Hp) (Q : VK) : Prop
 | mk (g : GA) (G : Gv) (i : Nat) (q : Sq) (_ : vs = [.ref g.p, .int i]) (_ : GroveAt a H g G) (_ : G[i]? = some q) (_ : q.lev = 0) (_ : Q (.int i) H) : SpSta a vs H Q
def spSta (a : Ad) : Sp := fun vs H Q _ => SpSta a vs H Q
theorem ok_sta {f : Addr} {fd : FuncData} (F : Fun K "state_of" "Grove.state_of" s_Grove_state_of f fd) (T : Top K mg a) (M_Grove_level_of : CalM P w K mg base CX0 3 a.c_Grove "level_of" p_Grove_level_of (spLev a)) : FnOk P w K mg base CX0 4 f fd p_Grove_state_of (spSta a) := by
 refine F.ok sc_Grove_state_of (fun vs H Q E h => ?_) (fun cdv A outer s H vs Q E hr h => ?_)
 ·obtain ⟨g, G, i, q, rfl, _⟩ := h
  rfl
 ·obtain ⟨g, G, i, q, rfl, hg, hi, h0, k⟩ := h
  refine ⟨_, (@pss_cons _ _ _ _ _ (@ps_if _ _ _ _ _ _ _ _ (@pt_cmpR _ _ _ _ _ _ _ _ (@op_ne _) (@pe_calm _ _ _ _ _ _ _ _ _ _ _ _ _ _ _ _ (pv 0) M_Grove_level_of (rm hr) pass0 (@pa_cons _ _ _ _ _ (pv 1) (@pa_nil _) rfl) rfl rfl rfl) (@pe_int _ _ _ _) (nomark _)) (@pss_one _ _ _ (@ps_never _ _)) (@pss_nil _)) (@pss_one _ _ _ (@ps_ret _ _ _ _ (pv 1)))), ?_⟩
  try dsimp only [cxK]
  refine ⟨_, rfl, g.p, g.dx, _, rfl, hg.hp, no_levelOf g, _, rfl, g, G, i, q, rfl, hg, hi, rfl, _, rfl, ?_⟩
  rw [h0]
  exact iteNS rfl ⟨_, rfl, k⟩
end
end J
namespace J
open PySem L2
def Sol (G : Gv) (s : Nat) : Nat -> Nat -> Prop
 | 0, n => n = s
 | l + 1, n => ∃ m : Nat, Sol G s l m /\ G[n]? = some ⟨[(m : Int), (m : Int), (m : Int), (m : Int)], (l : Int) + 1⟩
theorem Sol.lev {G : Gv} (h : GOk G) {s : Nat} (hs : s < 8) : ∀ {l n : Nat}, Sol G s l n -> LevAt G n l
 | 0, n, e => by
  have e : n = s := e
  subst e
  exact ⟨_, h.leaf n hs, rfl⟩
 | l + 1, n, e => by
  obtain ⟨m, _, e⟩ := e
  exact ⟨_, e, rfl⟩
theorem Sol.goes {G G' : Gv} {k : Nat} (h : Goes G G' k) {s : Nat} : ∀ {l n : Nat}, Sol G s l n -> Sol G' s l n
 | 0, n, e => e
 | l + 1, n, e => by
  obtain ⟨m, e1, e2⟩ := e
  exact ⟨m, Sol.goes h e1, h.get e2⟩
section
variable {P : Program} {w : World} {K : PySem.W.Frag} {mg : Str -> Option Value} {base : Heap} {a : Ad}
inductive SpSolid (a : Ad) (vs : List V) (H : Hp) (Q : VK) : Prop
 | mk (g : GA) (G : Gv) (l s : Nat) (_ : vs = [.ref g.p, .int l, .int s]) (_ : GroveAt a H g G) (_ : GOk G) (_ : l <= 48) (_ : s < 8) (_ : G.length < 8000000) (_ : ∀ (n : Nat) (G' : Gv) (H' : Hp), Fr g H H' -> GroveAt a H' g G' -> Goes G G' l -> Sol G' s l n -> Q (.int n) H') : SpSolid a vs H Q
def spSolid (a : Ad) : Sp := fun vs H Q _ => SpSolid a vs H Q
theorem ok_solid {f : Addr} {fd : FuncData} (F : Fun K "solid" "Grove.solid" s_Grove_solid f fd) (T : Top K mg a) (C_is_whole : Cal P w K mg base CX0 1 "is_whole" p_is_whole spIW) (M_Grove_leaf : CalM P w K mg base CX0 3 a.c_Grove "leaf" p_Grove_leaf (spLeaf a)) (M_Grove_linked : CalM P w K mg base CX0 2 a.c_Grove "linked" p_Grove_linked (spLink a)) : FnOk P w K mg base CX0 4 f fd p_Grove_solid (spSolid a) := by
 refine F.ok sc_Grove_solid (fun vs H Q E h => ?_) (fun cdv A outer s H vs Q E hr h => ?_)
 ·obtain ⟨g, G, l, s, rfl, _⟩ := h
  rfl
 ·obtain ⟨g, G, l, st, rfl, hg, ok, h48, h8, few, k⟩ := h
  refine ⟨_, (@pss_cons _ _ _ _ _ (@ps_if _ _ _ _ _ _ _ _ (@PW.pt _ _ _ (@pw_or _ _ _ _ _ _ _ (@pt_not _ _ _ _ (@pt_val _ _ _ (@pe_cal _ _ _ _ _ _ _ _ _ _ _ _ C_is_whole (rm hr) rfl pass0 (@pa_cons _ _ _ _ _ (pv 1) (@pa_nil _) rfl) (by decide) rfl rfl) (by intro _ ; rfl))) (@pw_or1 _ _ _ _ (@pt_not _ _ _ _ (@pt_chain _ _ _ _ _ _ _ _ _ _ _ _ (@op_le _) (@op_le _) (@pe_int _ _ _ _) (pv 1) (@pe_gint _ _ _ _ rfl T.k_TOP_LEVEL (by decide)) (by with_unfolding_all rfl)))))) (@pss_one _ _ _ (@ps_never _ _)) (@pss_nil _)) (@pss_cons _ _ _ _ _ (@ps_set _ _ (3) _ _ _ _ sc_Grove_solid.nd rfl (Or.inl rfl) (@pe_calm _ _ _ _ _ _ _ _ _ _ _ _ _ _ _ _ (pv 0) M_Grove_leaf (rm hr) pass0 (@pa_cons _ _ _ _ _ (pv 2) (@pa_nil _) rfl) rfl rfl rfl) rfl (.inl rfl)) (@pss_cons _ _ _ _ _ (@ps_for _ _ _ _ _ _ _ _ PassesOwn.never rfl (@pi_range1 _ _ _ _ _ _ rfl T.b_range (@pa_cons _ _ _ _ _ (pv 1) (@pa_nil _) rfl) rfl) (@pg_name _ _ (4) _ sc_Grove_solid.nd rfl (Or.inl rfl) (.inl rfl)) (@pss_one _ _ _ (@ps_set _ _ (3) _ _ _ _ sc_Grove_solid.nd rfl (Or.inl rfl) (@pe_calm _ _ _ _ _ _ _ _ _ _ _ _ _ _ _ _ (pv 0) M_Grove_linked (rm hr) pass0 (@pa_tup _ _ _ _ _ _ _ (@pa_cons _ _ _ _ _ (pv 3) (@pa_cons _ _ _ _ _ (pv 3) (@pa_cons _ _ _ _ _ (pv 3) (@pa_cons _ _ _ _ _ (pv 3) (@pa_nil _) rfl) rfl) rfl) rfl) (@pa_nil _)) rfl rfl rfl) rfl (.inl rfl))) (by intro _ ; rfl)) (@pss_one _ _ _ (@ps_ret _ _ _ _ (pv 3)))))), ?_⟩
  try dsimp only [cxK]
  refine ⟨_, rfl, _, rfl, true, rfl, iteF ⟨_, rfl, _, _, rfl, rfl, _, rfl, ?_⟩⟩
  rw [decide_eq_true (by lia : (0 : Int) <= (l : Int))]
  refine iteT ⟨_, _, rfl, rfl, _, rfl, ?_⟩
  rw [decide_eq_true (by lia : (l : Int) <= (48 : Int))]
  refine iteF ⟨_, rfl, g.p, g.dx, _, rfl, hg.hp, no_leaf g, _, rfl, g.p, (st : Int), rfl, by lia, by lia, ?_⟩
  refine ⟨_, rfl, _, rfl, by lia, by lia, ?_⟩
  rw [Int.toNat_natCast]
  refine for_range (n := l) (fun i σ H2 => ∃ (G' : Gv) (m : Nat) (u4 : Option V), σ = [some (.ref g.p), some (.int l), some (.int st), some (.int m), u4] /\ Fr g H H2 /\ GroveAt a H2 g G' /\ Goes G G' i /\ Sol G' st i m) ⟨G, st, none, rfl, Fr.refl g H, hg, Goes.refl ok, rfl⟩ ?_ ?_
  ·rintro i σ H2 hi ⟨G', m, u4, rfl, fr, hg2, go, so⟩
   have lf := go.few
   have lm := Sol.lev go.ok h8 so
   refine ⟨_, rfl, g.p, g.dx, _, rfl, hg2.hp, no_linked g, _, rfl, _, rfl, _, rfl, _, rfl, (by show 4 <= sizeLine; decide), fun t ht => ?_⟩
   have s3 := same_up (o := .tup [.int m, .int m, .int m, .int m]) ht
   refine ⟨g, G', t, m, m, m, m, (i : Int), rfl, hg2.same s3, go.ok, upd_same, ⟨lm, lm, lm, lm⟩, by lia, by lia, fun n G'' H' fr' hg' go' e => ?_⟩
   exact ⟨G'', n, _, rfl, (fr.trans (Same.fr s3)).trans fr', hg', go.trans go', m, Sol.goes go' so, e⟩
  ·rintro σ H2 ⟨G', m, u4, rfl, fr, hg2, go, so⟩
   exact ⟨_, rfl, k m G' H2 fr hg2 go so⟩
end
end J
namespace J
open PySem L2
def bareN : Nat -> Nat
 | 0 => 0
 | j + 1 => 8 + j
def leafs (n : Nat) : Gv := (List.range n).map fun (s : Nat) => (⟨[(s : Int)], 0⟩ : Sq)
def bares (n : Nat) : Gv := (List.range n).map fun (j : Nat) => (⟨[(bareN j : Int), (bareN j : Int), (bareN j : Int), (bareN j : Int)], (j : Int) + 1⟩ : Sq)
def G0 : Gv := leafs 8 ++ bares 48
theorem leafs_succ (n : Nat) : leafs (n + 1) = leafs n ++ [⟨[(n : Int)], 0⟩] := by unfold leafs; rw [List.range_succ, List.map_append]; rfl
theorem bares_succ (n : Nat) : bares (n + 1) = bares n ++ [⟨[(bareN n : Int), (bareN n : Int), (bareN n : Int), (bareN n : Int)], (n : Int) + 1⟩] := by unfold bares; rw [List.range_succ, List.map_append]; rfl
theorem leafs_len (n : Nat) : (leafs n).length = n := by unfold leafs; rw [List.length_map, List.length_range]
theorem bares_len (n : Nat) : (bares n).length = n := by unfold bares; rw [List.length_map, List.length_range]
theorem bareN_inj {i j : Nat} (h : bareN i = bareN j) : i = j := by
 cases i <;> cases j
 ·rfl
 ·have : 0 = 8 + _ := h; lia
 ·have : 8 + _ = 0 := h; lia
 ·have : 8 + _ = 8 + _ := h; lia
theorem leafs_new (n : Nat) : ∀ q ∈ leafs n, q.parts ≠ [(n : Int)] := fun q hq z => by
 obtain ⟨s, hs, rfl⟩ := List.mem_map.mp hq
 have := List.mem_range.mp hs
 injection z with z _
 have : s = n := Int.ofNat.inj z
 lia
theorem bares_new (n : Nat) : ∀ q ∈ leafs 8 ++ bares n, q.parts ≠ [(bareN n : Int), (bareN n : Int), (bareN n : Int), (bareN n : Int)] := fun q hq z => by
 rcases List.mem_append.mp hq with hq | hq
 ·obtain ⟨s, hs, rfl⟩ := List.mem_map.mp hq
  cases z
 ·obtain ⟨s, hs, rfl⟩ := List.mem_map.mp hq
  have := List.mem_range.mp hs
  injection z with z _
  have := bareN_inj (Int.ofNat.inj z)
  lia
theorem g0_len : G0.length = 56 := by unfold G0; rw [List.length_append, leafs_len, bares_len]
theorem g0_bare (j : Nat) (h : j < 48) : G0[8 + j]? = some ⟨[(bareN j : Int), (bareN j : Int), (bareN j : Int), (bareN j : Int)], (j : Int) + 1⟩ := by
 unfold G0
 rw [List.getElem?_append_right (by rw [leafs_len]; lia), leafs_len, show 8 + j - 8 = j by lia]
 unfold bares
 rw [List.getElem?_map, List.getElem?_range h]
 rfl
theorem g0_leaf (s : Nat) (h : s < 8) : G0[s]? = some ⟨[(s : Int)], 0⟩ := by
 unfold G0
 rw [List.getElem?_append_left (by rw [leafs_len]; exact h)]
 unfold leafs
 rw [List.getElem?_map, List.getElem?_range h]
 rfl
theorem g0_lev (j : Nat) (h : j <= 48) : LevAt G0 (bareN j) (j : Int) := by
 cases j with
 | zero => exact ⟨_, g0_leaf 0 (by decide), rfl⟩
 | succ j => exact ⟨_, g0_bare j (by lia), rfl⟩
theorem g0_nd : ∀ n, ((leafs 8 ++ bares n).map Sq.parts).Nodup
 | 0 => by decide
 | n + 1 => by
  rw [bares_succ, <- List.append_assoc, List.map_append, List.nodup_append]
  refine ⟨g0_nd n, by simp, fun p hp p' hp' => ?_⟩
  obtain ⟨q, hq, rfl⟩ := List.mem_map.mp hp
  rw [show p' = [(bareN n : Int), (bareN n : Int), (bareN n : Int), (bareN n : Int)] by simpa using hp']
  exact bares_new n q hq
theorem g0_ok : GOk G0 where
 leaf := g0_leaf
 node := fun i q e h8 => by
  have hi : i < 56 := by rw [<- g0_len]; exact (List.getElem?_eq_some_iff.mp e).1
  obtain ⟨j, rfl⟩ : ∃ j, i = 8 + j := ⟨i - 8, by lia⟩
  rw [g0_bare j (by lia)] at e
  cases e
  have := g0_lev j (by lia)
  refine ⟨bareN j, bareN j, bareN j, bareN j, rfl, ?_, ?_, ?_⟩
  ·show LevAt G0 _ ((j : Int) + 1 - 1) /\ LevAt G0 _ ((j : Int) + 1 - 1) /\ LevAt G0 _ ((j : Int) + 1 - 1) /\ LevAt G0 _ ((j : Int) + 1 - 1)
   rw [show (j : Int) + 1 - 1 = (j : Int) by lia]
   exact ⟨this, this, this, this⟩
  ·show 1 <= (j : Int) + 1; lia
  ·show (j : Int) + 1 <= 48; lia
 nd := g0_nd 48
def amK (n : Nat) : List (Key × V) := (List.range n).map fun (s : Nat) => (Sum.inl (s : Int), V.int (if (1 : Int) < (s : Int) then 1 else (s : Int)))
theorem amK_succ (n : Nat) : amK (n + 1) = amK n ++ [(Sum.inl (n : Int), V.int (if (1 : Int) < (n : Int) then 1 else (n : Int)))] := by unfold amK; rw [List.range_succ, List.map_append]; rfl
theorem amK_len (n : Nat) : (amK n).length = n := by unfold amK; rw [List.length_map, List.length_range]
theorem val_app {κ : Type} [DecidableEq κ] {k : κ} : ∀ {l m : List (κ × V)}, valV l k = none -> valV (l ++ m) k = valV m k
 | [], _, _ => rfl
 | p :: r, m, h => by
  by_cases e : p.1 = k
  ·rw [valV_pos e] at h; cases h
  ·rw [valV_neg e] at h
   show valV (p :: (r ++ m)) k = _
   rw [valV_neg e]
   exact val_app h
theorem amK_none (n : Nat) : ∀ m, n <= m -> valV (amK n) (Sum.inl (m : Int)) = none := by
 induction n with
 | zero => intro m _; rfl
 | succ n ih =>
  intro m hm
  rw [amK_succ, val_app (ih m (by lia)), valV_neg (by intro z; injection z with z; have := Int.ofNat.inj z; lia)]
  rfl
def bareL (n : Nat) : List Int := (List.range (n + 1)).map fun j => ((bareN j : Nat) : Int)
theorem bareL_succ (n : Nat) : bareL (n + 1) = bareL n ++ [((bareN (n + 1) : Nat) : Int)] := by unfold bareL; rw [List.range_succ, List.map_append]; rfl
theorem bareL_last (n : Nat) : (bareL n).getLast? = some ((bareN n : Nat) : Int) := by
 cases n with
 | zero => rfl
 | succ n => rw [bareL_succ, List.getLast?_append]; rfl
theorem at_lastV {xs : List V} {x : V} (h : xs.getLast? = some x) : atI xs (-1) = some x := by
 obtain ⟨ys, rfl⟩ := List.getLast?_eq_some_iff.mp h
 unfold atI ixN
 rw [if_neg (by decide), if_pos (by rw [List.length_append, List.length_singleton]; lia)]
 show (ys ++ [x])[((-1 : Int) + ((ys ++ [x]).length : Nat)).toNat]? = some x
 rw [List.length_append, List.length_singleton, show ((-1 : Int) + ((ys.length + 1 : Nat) : Int)).toNat = ys.length by lia, List.getElem?_append_right (Nat.le_refl _), Nat.sub_self]
 rfl
end J
namespace J
open PySem L2
structure NewG (a : Ad) (H H' : Hp) (g : GA) (G : Gv) (B : List Int) (am : List (Key × V)) : Prop where
 kp : ∀ b o, H b = some o -> b ≠ g.p -> H' b = some o
 at' : GroveAt a H' g G
 br : H' g.br = some (.lst (B.map V.int))
 am : H' g.am = some (.dK am)
 bx : H' g.bx = some (.dK [])
 fresh : H g.lv = none /\ H g.pt = none /\ H g.nm = none /\ H g.br = none /\ H g.am = none /\ H g.bx = none
 n1 : g.br ≠ g.lv
 n2 : g.br ≠ g.pt
 n3 : g.am ≠ g.bx
section
variable {P : Program} {w : World} {K : PySem.W.Frag} {mg : Str -> Option Value} {base : Heap} {a : Ad}
inductive SpGInit (a : Ad) (vs : List V) (H : Hp) (Q : VK) : Prop
 | mk (p dx : Addr) (_ : vs = [.ref p]) (_ : H p = some (.ins a.c_Grove dx [])) (_ : ∀ (g : GA) (H' : Hp), g.p = p -> NewG a H H' g G0 (bareL 48) (amK 8) -> Q .non H') : SpGInit a vs H Q
def spGInit (a : Ad) : Sp := fun vs H Q _ => SpGInit a vs H Q
theorem ok_ginit {f : Addr} {fd : FuncData} (F : Fun K "__init__" "Grove.__init__" s_Grove_init f fd) (T : Top K mg a) (M_Grove_kept : CalM P w K mg base CX0 1 a.c_Grove "kept" p_Grove_kept (spKept a)) : FnOk P w K mg base CX0 2 f fd p_Grove_init (spGInit a) := by
 refine F.ok sc_Grove_init (fun vs H Q E h => ?_) (fun cdv A outer s H vs Q E hr h => ?_)
 ·obtain ⟨p, dx, rfl, _⟩ := h
  rfl
 ·obtain ⟨p, dx, rfl, hp, k⟩ := h
  refine ⟨_, (@pss_cons _ _ _ _ _ (@ps_fld _ _ _ _ _ _ _ _ (pv 0) (@pe_lst _ _ _ _ (@pa_nil _)) rfl) (@pss_cons _ _ _ _ _ (@ps_fld _ _ _ _ _ _ _ _ (pv 0) (@pe_lst _ _ _ _ (@pa_nil _)) rfl) (@pss_cons _ _ _ _ _ (@ps_fld _ _ _ _ _ _ _ _ (pv 0) (@pe_dnewT _ _) rfl) (@pss_cons _ _ _ _ _ (@ps_fld _ _ _ _ _ _ _ _ (pv 0) (@pe_lst _ _ _ _ (@pa_int _ _ _ _ _ _ (@pa_nil _))) rfl) (@pss_cons _ _ _ _ _ (@ps_fld _ _ _ _ _ _ _ _ (pv 0) (@pe_dnewK _ _) rfl) (@pss_cons _ _ _ _ _ (@ps_fld _ _ _ _ _ _ _ _ (pv 0) (@pe_dnewK _ _) rfl) (@pss_cons _ _ _ _ _ (@ps_for _ _ _ _ _ _ _ _ PassesOwn.never rfl (@pi_range1 _ _ _ _ _ _ rfl T.b_range (@pa_cons _ _ _ _ _ (@pe_gint _ _ _ _ rfl T.k_STATES (by decide)) (@pa_nil _) rfl) rfl) (@pg_name _ _ (1) _ sc_Grove_init.nd rfl (Or.inl rfl) (.inl rfl)) (@pss_cons _ _ _ _ _ (@ps_expr _ _ _ _ (@pe_calm _ _ _ _ _ _ _ _ _ _ _ _ _ _ _ _ (pv 0) M_Grove_kept (rm hr) pass0 (@pa_tup _ _ _ _ _ _ _ (@pa_cons _ _ _ _ _ (pv 1) (@pa_nil _) rfl) (@pa_int _ _ _ _ _ _ (@pa_nil _))) rfl rfl rfl) rfl) (@pss_one _ _ _ (@ps_dput _ _ _ _ _ _ _ _ _ (hu_of hr) (@pe_fld _ _ _ _ _ (pv 0) rfl) (pv 1) (@pe_callB _ _ _ _ _ _ _ _ _ (@call_min2 _ rfl) rfl T.b_min PyProof.Rows.boot_min (@pa_cons _ _ _ _ _ (pv 1) (@pa_int _ _ _ _ _ _ (@pa_nil _)) rfl) (by decide) (by decide) rfl rfl) rfl))) (by intro _ ; rfl)) (@pss_one _ _ _ (@ps_for _ _ _ _ _ _ _ _ PassesOwn.never rfl (@pi_range2 _ _ _ _ _ _ _ rfl T.b_range (@pa_int _ _ _ _ _ _ (@pa_op _ _ _ _ _ _ _ _ _ _ (@op_add _) (@pe_gint _ _ _ _ rfl T.k_TOP_LEVEL (by decide)) (@pe_int _ _ _ _) (@pa_nil _))) rfl rfl) (@pg_name _ _ (2) _ sc_Grove_init.nd rfl (Or.inl rfl) (.inl rfl)) (@pss_cons _ _ _ _ _ (@ps_set _ _ (3) _ _ _ _ sc_Grove_init.nd rfl (Or.inl rfl) (@pe_ix _ _ _ _ _ _ _ (@ix_list _) (@pe_fld _ _ _ _ _ (pv 0) rfl) (@pe_un _ _ _ _ _ _ (@un_neg _) (@pe_int _ _ _ _)) (fun _ _ => rfl)) rfl (.inl rfl)) (@pss_one _ _ _ (@ps_expr _ _ _ _ (@pe_bm _ _ _ _ _ _ _ _ _ _ _ _ PySem.F.plainAttrs_list PySem.F.slot_list_append PySem.F.type_list_append (@mt_append _) (@pe_fld _ _ _ _ _ (pv 0) rfl) (@pa_cons _ _ _ _ _ (@pe_calm _ _ _ _ _ _ _ _ _ _ _ _ _ _ _ _ (pv 0) M_Grove_kept (rm hr) pass0 (@pa_tup _ _ _ _ _ _ _ (@pa_cons _ _ _ _ _ (pv 3) (@pa_cons _ _ _ _ _ (pv 3) (@pa_cons _ _ _ _ _ (pv 3) (@pa_cons _ _ _ _ _ (pv 3) (@pa_nil _) rfl) rfl) rfl) rfl) (@pa_cons _ _ _ _ _ (pv 2) (@pa_nil _) rfl)) rfl rfl rfl) (@pa_nil _) rfl) rfl rfl rfl rfl rfl) rfl))) (by intro _ ; rfl)))))))))), ?_⟩
  try dsimp only [cxK]
  have stp : ∀ {Hk : Hp} {x : Addr} {o : HO} {fs fs' : List (Str × V)}, Hk p = some (.ins a.c_Grove dx fs) -> Hk x = none -> (∀ b v, Hk b = some v -> b ≠ p -> upd (upd Hk x o) p (.ins a.c_Grove dx fs') b = some v) /\ upd (upd Hk x o) p (.ins a.c_Grove dx fs') x = some o /\ upd (upd Hk x o) p (.ins a.c_Grove dx fs') p = some (.ins a.c_Grove dx fs') /\ upd Hk x o p = some (.ins a.c_Grove dx fs) := fun {Hk x o fs fs'} e1 e2 => by
   have n : x ≠ p := fun z => by rw [z, e1] at e2; cases e2
   exact ⟨fun b v e nb => by rw [upd_ne nb, upd_ne (ne_of_none e e2)]; exact e, by rw [upd_ne n]; exact upd_same, upd_same, by rw [upd_ne (Ne.symm n)]; exact e1⟩
  refine ⟨(by show 0 <= sizeLine; decide), fun lv hlv => ?_⟩
  obtain ⟨k1, x1, p1, q1⟩ := stp (o := .lst []) (fs' := putF "levels" (.ref lv) []) hp hlv
  refine ⟨_, rfl, p, _, dx, [], rfl, q1, T.cl_Grove, T.na_Grove_levels, (by show 0 < 1000; decide), ?_⟩
  generalize upd (upd H lv (.lst [])) p (.ins a.c_Grove dx (putF "levels" (.ref lv) [])) = H1 at k1 x1 p1 ⊢
  refine ⟨(by show 0 <= sizeLine; decide), fun pt hpt => ?_⟩
  obtain ⟨k2, x2, p2, q2⟩ := stp (o := .lst []) (fs' := putF "parts" (.ref pt) (putF "levels" (.ref lv) [])) p1 hpt
  refine ⟨_, rfl, p, _, dx, _, rfl, q2, T.cl_Grove, T.na_Grove_parts, (by show 1 < 1000; decide), ?_⟩
  generalize upd (upd H1 pt (.lst [])) p (.ins a.c_Grove dx (putF "parts" (.ref pt) (putF "levels" (.ref lv) []))) = H2 at k2 x2 p2 ⊢
  intro nm hnm
  obtain ⟨k3, x3, p3, q3⟩ := stp (o := .dT []) (fs' := putF "numbers" (.ref nm) (putF "parts" (.ref pt) (putF "levels" (.ref lv) []))) p2 hnm
  refine ⟨_, rfl, p, _, dx, _, rfl, q3, T.cl_Grove, T.na_Grove_numbers, (by show 2 < 1000; decide), ?_⟩
  generalize upd (upd H2 nm (.dT [])) p (.ins a.c_Grove dx (putF "numbers" (.ref nm) (putF "parts" (.ref pt) (putF "levels" (.ref lv) [])))) = H3 at k3 x3 p3 ⊢
  refine ⟨(by show 1 <= sizeLine; decide), fun br hbr => ?_⟩
  obtain ⟨k4, x4, p4, q4⟩ := stp (o := .lst [.int 0]) (fs' := putF "bares" (.ref br) (putF "numbers" (.ref nm) (putF "parts" (.ref pt) (putF "levels" (.ref lv) [])))) p3 hbr
  refine ⟨_, rfl, p, _, dx, _, rfl, q4, T.cl_Grove, T.na_Grove_bares, (by show 3 < 1000; decide), ?_⟩
  generalize upd (upd H3 br (.lst [.int 0])) p (.ins a.c_Grove dx (putF "bares" (.ref br) (putF "numbers" (.ref nm) (putF "parts" (.ref pt) (putF "levels" (.ref lv) []))))) = H4 at k4 x4 p4 ⊢
  intro am ham
  obtain ⟨k5, x5, p5, q5⟩ := stp (o := .dK []) (fs' := putF "amounts" (.ref am) (putF "bares" (.ref br) (putF "numbers" (.ref nm) (putF "parts" (.ref pt) (putF "levels" (.ref lv) []))))) p4 ham
  refine ⟨_, rfl, p, _, dx, _, rfl, q5, T.cl_Grove, T.na_Grove_amounts, (by show 4 < 1000; decide), ?_⟩
  generalize upd (upd H4 am (.dK [])) p (.ins a.c_Grove dx (putF "amounts" (.ref am) (putF "bares" (.ref br) (putF "numbers" (.ref nm) (putF "parts" (.ref pt) (putF "levels" (.ref lv) [])))))) = H5 at k5 x5 p5 ⊢
  intro bx hbx
  obtain ⟨k6, x6, p6, q6⟩ := stp (o := .dK []) (fs' := fl6 ⟨p, dx, lv, pt, nm, br, am, bx⟩) p5 hbx
  refine ⟨_, rfl, p, _, dx, _, rfl, q6, T.cl_Grove, T.na_Grove_boxes, (by show 5 < 1000; decide), ?_⟩
  show (tSeq _ _) _ _ (upd (upd H5 bx (.dK [])) p (.ins a.c_Grove dx (fl6 ⟨p, dx, lv, pt, nm, br, am, bx⟩)))
  generalize upd (upd H5 bx (.dK [])) p (.ins a.c_Grove dx (fl6 ⟨p, dx, lv, pt, nm, br, am, bx⟩)) = H6 at k6 x6 p6 ⊢
  have f26 : ∀ b v, H1 b = some v -> b ≠ p -> H6 b = some v := fun b v e n => k6 _ _ (k5 _ _ (k4 _ _ (k3 _ _ (k2 _ _ e n) n) n) n) n
  have f36 : ∀ b v, H2 b = some v -> b ≠ p -> H6 b = some v := fun b v e n => k6 _ _ (k5 _ _ (k4 _ _ (k3 _ _ e n) n) n) n
  have f46 : ∀ b v, H3 b = some v -> b ≠ p -> H6 b = some v := fun b v e n => k6 _ _ (k5 _ _ (k4 _ _ e n) n) n
  have f56 : ∀ b v, H4 b = some v -> b ≠ p -> H6 b = some v := fun b v e n => k6 _ _ (k5 _ _ e n) n
  have np : ∀ {Hk : Hp} {x : Addr} {fs : List (Str × V)}, Hk p = some (.ins a.c_Grove dx fs) -> Hk x = none -> x ≠ p := fun {Hk x fs} e1 e2 z => by rw [z, e1] at e2; cases e2
  have no : ∀ {Hk Hm : Hp} {x y : Addr} {v : HO}, Hk x = some v -> Hk y = none -> x ≠ y := fun {Hk Hm x y v} e1 e2 => ne_of_none e1 e2
  have nlv := np hp hlv
  have npt := np p1 hpt
  have nnm := np p2 hnm
  have nbr := np p3 hbr
  have nam := np p4 ham
  have nbx := np p5 hbx
  have y1 := f26 _ _ x1 nlv
  have y2 := f36 _ _ x2 npt
  have y3 := f46 _ _ x3 nnm
  have y4 := f56 _ _ x4 nbr
  have y5 := k6 _ _ x5 nam
  have back : ∀ {Hk : Hp} {x : Addr}, (∀ b v, H b = some v -> b ≠ p -> Hk b = some v) -> x ≠ p -> Hk x = none -> H x = none := fun {Hk x} kp n e => by
   cases h : H x with
   | none => rfl
   | some v => rw [kp _ _ h n] at e; cases e
  have c2 : ∀ b v, H b = some v -> b ≠ p -> H2 b = some v := fun b v e n => k2 _ _ (k1 _ _ e n) n
  have c3 : ∀ b v, H b = some v -> b ≠ p -> H3 b = some v := fun b v e n => k3 _ _ (c2 _ _ e n) n
  have c4 : ∀ b v, H b = some v -> b ≠ p -> H4 b = some v := fun b v e n => k4 _ _ (c3 _ _ e n) n
  have c5 : ∀ b v, H b = some v -> b ≠ p -> H5 b = some v := fun b v e n => k5 _ _ (c4 _ _ e n) n
  have c6 : ∀ b v, H b = some v -> b ≠ p -> H6 b = some v := fun b v e n => k6 _ _ (c5 _ _ e n) n
  have d1 : lv ≠ pt := ne_of_none x1 hpt
  have d2 : br ≠ lv := Ne.symm (ne_of_none (k3 _ _ (k2 _ _ x1 nlv) nlv) hbr)
  have d3 : br ≠ pt := Ne.symm (ne_of_none (k3 _ _ x2 npt) hbr)
  have d4 : am ≠ bx := ne_of_none x5 hbx
  have N0 : NewG a H H6 ⟨p, dx, lv, pt, nm, br, am, bx⟩ (leafs 0) (bareL 0) (amK 0) := ⟨c6, ⟨p6, y1, ⟨[], y2, .nil⟩, y3, d1⟩, y4, y5, x6, ⟨hlv, back k1 npt hpt, back c2 nnm hnm, back c3 nbr hbr, back c4 nam ham, back c5 nbx hbx⟩, d2, d3, d4⟩
  have k' := k ⟨p, dx, lv, pt, nm, br, am, bx⟩
  have gp : (⟨p, dx, lv, pt, nm, br, am, bx⟩ : GA).p = p := rfl
  generalize (⟨p, dx, lv, pt, nm, br, am, bx⟩ : GA) = g at N0 k' gp
  subst gp
  clear k p6 q6 q5 q4 q3 q2 q1 y1 y2 y3 y4 y5 x6 c6 c5 c4 c3 c2 f26 f36 f46 f56 k1 k2 k3 k4 k5 k6 x1 x2 x3 x4 x5 p1 p2 p3 p4 p5 d1 d2 d3 d4 nlv npt nnm nbr nam nbx hbx ham hbr hnm hpt hlv back no np stp
  refine ⟨8, rfl, by decide, by decide, ?_⟩
  refine for_range (n := 8) (fun i σ H7 => ∃ u1 : Option V, σ = [some (.ref g.p), u1, none, none] /\ NewG a H H7 g (leafs i) (bareL 0) (amK i)) ⟨none, rfl, N0⟩ ?_ ?_
  ·rintro i σ H7 hi ⟨u1, rfl, N⟩
   obtain ⟨kp, at', hbr, ham, hbx, fresh, n1, n2, n3⟩ := N
   have cl : (i : Int) = 0 + (i : Int) := (Int.zero_add _).symm
   refine ⟨_, rfl, g.p, g.dx, _, rfl, at'.hp, no_kept g, _, rfl, (by show 1 <= sizeLine; decide), fun t ht => ?_⟩
   have s1 := same_up (o := .tup [.int (0 + (i : Int))]) ht
   refine ⟨g, leafs i, t, [0 + (i : Int)], 0, rfl, at'.same s1, upd_same, by rw [<- cl]; exact leafs_new i, by rw [leafs_len]; lia, fun H8 fr at8 => ?_⟩
   rw [<- cl, <- leafs_succ] at at8
   have fr' : Fr g H7 H8 := (Same.fr s1).trans fr
   obtain ⟨ts, h3, h4⟩ := at'.pt
   have kd : ∀ (b : Addr) (kvs : List (Key × V)), H7 b = some (.dK kvs) -> H8 b = some (.dK kvs) := fun b kvs e => fr' _ _ e (ne_of e at'.lv (by intro z; cases z)) (ne_of e h3 (by intro z; cases z)) (ne_of e at'.nm (by intro z; cases z))
   have ham8 := kd _ _ ham
   refine ⟨_, rfl, _, _, rfl, _, rfl, g.p, _, g.dx, _, _, rfl, at8.hp, T.cl_Grove, T.na_Grove_amounts, fl6_am g, _, rfl, g.am, _, rfl, DPut.k (k := Sum.inl (0 + (i : Int))) ham8 (by rw [amK_len]; exact lt_ln (by lia)), ?_⟩
   rw [<- cl, putK_new _ (amK_none i i (Nat.le_refl _)), <- amK_succ]
   have other : ∀ {b : Addr} {v : HO}, H8 b = some v -> b ≠ g.am -> upd H8 g.am (.dK (amK (i + 1))) b = some v := fun {b v} e n => by rw [upd_ne n]; exact e
   have na : ∀ {b : Addr} {v : HO}, H8 b = some v -> v ≠ .dK (amK i) -> b ≠ g.am := fun {b v} e n => ne_of e ham8 n
   obtain ⟨ts8, h38, h48⟩ := at8.pt
   refine ⟨_, rfl, ?_, ⟨other at8.hp (na at8.hp (by intro z; cases z)), other at8.lv (na at8.lv (by intro z; cases z)), ⟨ts8, other h38 (na h38 (by intro z; cases z)), PairedM.imp (fun c q z => other z (na z (by intro z; cases z))) h48⟩, other at8.nm (na at8.nm (by intro z; cases z)), at8.ne⟩, ?_, upd_same, ?_, fresh, n1, n2, n3⟩
   ·intro b v e nb
    have e8 : H8 b = some v := fr' _ _ (kp _ _ e nb) (ne_of_none e fresh.1) (ne_of_none e fresh.2.1) (ne_of_none e fresh.2.2.1)
    exact other e8 (ne_of_none e fresh.2.2.2.2.1)
   ·have e8 : H8 g.br = _ := fr' _ _ hbr n1 n2 (ne_of hbr at'.nm (by intro z; cases z))
    exact other e8 (na e8 (by intro z; cases z))
   ·exact other (kd _ _ hbx) (Ne.symm n3)
  ·rintro σ H7 ⟨u1, rfl, N⟩
   refine ⟨_, _, rfl, rfl, 1, 49, rfl, ⟨by decide, by decide, by decide, by decide⟩, ?_⟩
   have N0 : NewG a H H7 g (leafs 8 ++ bares 0) (bareL 0) (amK 8) := by rw [show leafs 8 ++ bares 0 = leafs 8 from List.append_nil _]; exact N
   clear N
   refine for_range (lo := 1) (n := 48) (fun j σ H8 => ∃ u2 u3 : Option V, σ = [some (.ref g.p), u1, u2, u3] /\ NewG a H H8 g (leafs 8 ++ bares j) (bareL j) (amK 8)) ⟨none, none, rfl, N0⟩ ?_ ?_
   ·rintro j σ H8 hj ⟨u2, u3, rfl, N⟩
    obtain ⟨kp, at', hbr, ham, hbx, fresh, n1, n2, n3⟩ := N
    refine ⟨_, rfl, g.p, _, g.dx, _, _, rfl, at'.hp, T.cl_Grove, T.na_Grove_bares, fl6_br g, _, rfl, g.br, _, -1, .int (bareN j : Int), rfl, rfl, SqL.of hbr, at_lastV (by rw [List.getLast?_map, bareL_last]; rfl), ?_⟩
    refine ⟨_, rfl, g.p, _, g.dx, _, _, rfl, at'.hp, T.cl_Grove, T.na_Grove_bares, fl6_br g, .inl ⟨rfl, _, SqL.of hbr⟩, _, rfl, g.p, g.dx, _, rfl, at'.hp, no_kept g, _, rfl, _, rfl, _, rfl, _, rfl, (by show 4 <= sizeLine; decide), fun t ht => ⟨_, rfl, ?_⟩⟩
    have s1 := same_up (o := .tup [.int (bareN j : Int), .int (bareN j : Int), .int (bareN j : Int), .int (bareN j : Int)]) ht
    have ln : (leafs 8 ++ bares j).length = 8 + j := by rw [List.length_append, leafs_len, bares_len]
    refine ⟨g, leafs 8 ++ bares j, t, [(bareN j : Int), (bareN j : Int), (bareN j : Int), (bareN j : Int)], 1 + (j : Int), rfl, at'.same s1, upd_same, bares_new j, by rw [ln]; lia, fun H9 fr at9 => ?_⟩
    rw [show (1 : Int) + (j : Int) = (j : Int) + 1 by lia, List.append_assoc, <- bares_succ] at at9
    have fr' : Fr g H8 H9 := (Same.fr s1).trans fr
    obtain ⟨ts, h3, h4⟩ := at'.pt
    have kd : ∀ (b : Addr) (kvs : List (Key × V)), H8 b = some (.dK kvs) -> H9 b = some (.dK kvs) := fun b kvs e => fr' _ _ e (ne_of e at'.lv (by intro z; cases z)) (ne_of e h3 (by intro z; cases z)) (ne_of e at'.nm (by intro z; cases z))
    have hbr9 : H9 g.br = _ := fr' _ _ hbr n1 n2 (ne_of hbr at'.nm (by intro z; cases z))
    refine ⟨g.br, _, _, rfl, rfl, hbr9, by rw [List.length_map]; unfold bareL; rw [List.length_map, List.length_range]; exact lt_ln (by lia), ?_⟩
    have eb : (bareL j).map V.int ++ [V.int ((leafs 8 ++ bares j).length : Int)] = (bareL (j + 1)).map V.int := by rw [bareL_succ, List.map_append, ln]; rfl
    rw [eb]
    have other : ∀ {b : Addr} {v : HO}, H9 b = some v -> v ≠ .lst ((bareL j).map V.int) -> upd H9 g.br (.lst ((bareL (j + 1)).map V.int)) b = some v := fun {b v} e n => by rw [upd_ne (ne_of e hbr9 n)]; exact e
    refine ⟨_, _, rfl, ?_, at9.put hbr9 n1 n2, upd_same, other (kd _ _ ham) (by intro z; cases z), other (kd _ _ hbx) (by intro z; cases z), fresh, n1, n2, n3⟩
    intro b v e nb
    rw [upd_ne (ne_of_none e fresh.2.2.2.1)]
    exact fr' _ _ (kp _ _ e nb) (ne_of_none e fresh.1) (ne_of_none e fresh.2.1) (ne_of_none e fresh.2.2.1)
   ·rintro σ H8 ⟨u2, u3, rfl, N⟩
    exact k' H8 rfl N
end
end J
namespace J
open PySem L2
theorem Same.noneN {H H' : Hp} (s : Same H H') {x : Addr} (n : H' x = none) : H x = none := by
 cases e : H x with
 | none => rfl
 | some o => rw [s _ _ e] at n; cases n
theorem meetJ {T : St -> Hp -> Prop} {C : Prop} (P : St -> Hp -> Prop) (h : (∀ σ H, P σ H -> T σ H) -> C) (k : ∀ σ H, P σ H -> T σ H) : C := h k
structure MA where
 tp : Addr
 l : Addr
 kc : Addr
 ds : List Addr
def jf2 (gp mem : Addr) : List (Str × V) := putF "memories" (.ref mem) (putF "grove" (.ref gp) [])
def jf5 (gp mem pr l kc : Addr) : List (Str × V) := putF "known_cells" (.ref kc) (putF "known_squares" (.ref l) (putF "rule" (.ref pr) (jf2 gp mem)))
theorem jf2_mem (gp mem : Addr) : (jf2 gp mem).lookup ("memories" : Str) = some (V.ref mem) := by
 unfold jf2
 rw [lookup_putF, if_pos rfl]
theorem jf2_no (gp mem : Addr) {m : Str} (h1 : ¬ m = ("memories" : Str)) (h2 : ¬ m = ("grove" : Str)) : (jf2 gp mem).lookup m = none := by
 unfold jf2
 rw [lookup_putF, if_neg h1, lookup_putF, if_neg h2]
 rfl
section
variable (gp mem pr l kc : Addr)
theorem jf5_kc : (jf5 gp mem pr l kc).lookup ("known_cells" : Str) = some (V.ref kc) := by
 unfold jf5
 rw [lookup_putF, if_pos rfl]
theorem jf5_ks : (jf5 gp mem pr l kc).lookup ("known_squares" : Str) = some (V.ref l) := by
 unfold jf5
 rw [lookup_putF, if_neg (by decide +kernel), lookup_putF, if_pos rfl]
theorem jf5_ru : (jf5 gp mem pr l kc).lookup ("rule" : Str) = some (V.ref pr) := by
 unfold jf5
 rw [lookup_putF, if_neg (by decide +kernel), lookup_putF, if_neg (by decide +kernel), lookup_putF, if_pos rfl]
theorem jf5_gr : (jf5 gp mem pr l kc).lookup ("grove" : Str) = some (V.ref gp) := by
 unfold jf5 jf2
 rw [lookup_putF, if_neg (by decide +kernel), lookup_putF, if_neg (by decide +kernel), lookup_putF, if_neg (by decide +kernel), lookup_putF, if_neg (by decide +kernel), lookup_putF, if_pos rfl]
theorem jf5_no {m : Str} (h1 : ¬ m = ("known_cells" : Str)) (h2 : ¬ m = ("known_squares" : Str)) (h3 : ¬ m = ("rule" : Str)) (h4 : ¬ m = ("memories" : Str)) (h5 : ¬ m = ("grove" : Str)) : (jf5 gp mem pr l kc).lookup m = none := by
 unfold jf5
 rw [lookup_putF, if_neg h1, lookup_putF, if_neg h2, lookup_putF, if_neg h3, jf2_no _ _ h4 h5]
theorem noJ_after : (jf5 gp mem pr l kc).lookup ("after" : Str) = none := jf5_no _ _ _ _ _ (by decide +kernel) (by decide +kernel) (by decide +kernel) (by decide +kernel) (by decide +kernel)
theorem noJ_check : (jf5 gp mem pr l kc).lookup ("check_jump" : Str) = none := jf5_no _ _ _ _ _ (by decide +kernel) (by decide +kernel) (by decide +kernel) (by decide +kernel) (by decide +kernel)
theorem noJ_reck : (jf5 gp mem pr l kc).lookup ("reckoned" : Str) = none := jf5_no _ _ _ _ _ (by decide +kernel) (by decide +kernel) (by decide +kernel) (by decide +kernel) (by decide +kernel)
theorem noJ_fresh : (jf5 gp mem pr l kc).lookup ("fresh" : Str) = none := jf5_no _ _ _ _ _ (by decide +kernel) (by decide +kernel) (by decide +kernel) (by decide +kernel) (by decide +kernel)
theorem noJ_half : (jf5 gp mem pr l kc).lookup ("four_halfway" : Str) = none := jf5_no _ _ _ _ _ (by decide +kernel) (by decide +kernel) (by decide +kernel) (by decide +kernel) (by decide +kernel)
theorem noJ_mid : (jf5 gp mem pr l kc).lookup ("middle_after" : Str) = none := jf5_no _ _ _ _ _ (by decide +kernel) (by decide +kernel) (by decide +kernel) (by decide +kernel) (by decide +kernel)
theorem noJ_cell : (jf5 gp mem pr l kc).lookup ("cell_after" : Str) = none := jf5_no _ _ _ _ _ (by decide +kernel) (by decide +kernel) (by decide +kernel) (by decide +kernel) (by decide +kernel)
end
inductive Nv : HO -> Prop
 | tup {xs : List V} : Nv (.tup xs)
 | ins {C dx : Addr} {fs : List (Str × V)} (h1 : 1 <= fs.length) (h2 : fs.length <= 3) : Nv (.ins C dx fs)
theorem put_pos (f : Str) (v : V) : ∀ fs : List (Str × V), 1 <= (putF f v fs).length
 | [] => Nat.le_refl 1
 | (g, x) :: r => by
  unfold putF
  split
  ·rw [List.length_cons]; lia
  ·rw [List.length_cons]; lia
theorem CondAt.kp {a : Ad} {H H' : Hp} {p : Addr} {c : CondA} (k : ∀ b o, H b = some o -> Nv o -> H' b = some o) (h : CondAt a H p c) : CondAt a H' p c := by
 cases h with
 | am h ht => exact .am (k _ _ h (.ins (put_pos _ _ _) (Nat.le_trans (length_putF _ _ _) (Nat.succ_le_succ (Nat.le_trans (length_putF _ _ _) (by show 0 + 1 <= 2; decide)))))) (k _ _ ht .tup)
 | pl h ht => exact .pl (k _ _ h (.ins (put_pos _ _ _) (Nat.le_trans (length_putF _ _ _) (by show 0 + 1 <= 3; decide)))) (k _ _ ht .tup)
theorem ClauseAt.kp {a : Ad} {H H' : Hp} {p : Addr} {c : ClauseA} (k : ∀ b o, H b = some o -> Nv o -> H' b = some o) (h : ClauseAt a H p c) : ClauseAt a H' p c := by
 obtain ⟨dx, t, cs, h1, h2, h3⟩ := h.ex
 exact ⟨dx, t, cs, k _ _ h1 (.ins (put_pos _ _ _) (Nat.le_trans (length_putF _ _ _) (Nat.succ_le_succ (Nat.le_trans (length_putF _ _ _) (Nat.succ_le_succ (Nat.le_trans (length_putF _ _ _) (by show 0 + 1 <= 1; decide))))))), k _ _ h2 .tup, Paired.imp (fun _ _ z => z.kp k) h3⟩
theorem RuleAt.kp {a : Ad} {H H' : Hp} {p : Addr} {x : Str} {r : RuleA} (k : ∀ b o, H b = some o -> Nv o -> H' b = some o) (h : RuleAt a H p x r) : RuleAt a H' p x r := by
 obtain ⟨dx, t, cs, h1, h2, h3⟩ := h.ex
 exact ⟨dx, t, cs, k _ _ h1 (.ins (put_pos _ _ _) (Nat.le_trans (length_putF _ _ _) (Nat.succ_le_succ (Nat.le_trans (length_putF _ _ _) (by show 0 + 1 <= 2; decide))))), k _ _ h2 .tup, Paired.imp (fun _ _ z => z.kp k) h3⟩
def mK (ms : List (Str × MA)) : List (Key × V) := ms.map fun e => (Sum.inr e.1, V.ref e.2.tp)
theorem mk_look (t : Str) : ∀ ms : List (Str × MA), (∃ m, (t, m) ∈ ms /\ valV (mK ms) (Sum.inr t) = some (.ref m.tp)) \/ (valV (mK ms) (Sum.inr t) = none /\ ∀ e ∈ ms, e.1 ≠ t)
 | [] => .inr ⟨rfl, fun e he => nomatch he⟩
 | e :: r => by
  by_cases h : e.1 = t
  ·refine .inl ⟨e.2, ?_, ?_⟩
   ·rw [<- h]
    exact List.mem_cons_self
   ·exact valV_pos (p := (Sum.inr e.1, V.ref e.2.tp)) (r := mK r) (by rw [h])
  ·have n : valV (mK (e :: r)) (Sum.inr t) = valV (mK r) (Sum.inr t) := valV_neg (p := (Sum.inr e.1, V.ref e.2.tp)) (r := mK r) fun z => h (Sum.inr.inj z)
   rcases mk_look t r with ⟨m, h1, h2⟩ | ⟨h1, h2⟩
   ·exact .inl ⟨m, List.mem_cons_of_mem _ h1, n.trans h2⟩
   ·refine .inr ⟨n.trans h1, fun x hx => ?_⟩
    rcases List.mem_cons.mp hx with z | z
    ·rw [z]; exact h
    ·exact h2 x z
inductive ChgR (H H' : Hp) (t : Str) (ms ms' : List (Str × MA)) (m : MA) : Prop
 | old (_ : (t, m) ∈ ms) (_ : ms' = ms) : ChgR H H' t ms ms' m
 | new (_ : ms' = ms ++ [(t, m)]) (_ : ∀ e ∈ ms, e.1 ≠ t) (_ : H m.tp = none /\ H m.l = none /\ H m.kc = none /\ ∀ d ∈ m.ds, H d = none) (_ : H' m.tp = some (.tup [.ref m.l, .ref m.kc])) (_ : H' m.l = some (.lst (m.ds.map V.ref))) (_ : H' m.kc = some (.dT [])) (_ : ∀ d ∈ m.ds, H' d = some (.dK [])) (_ : m.ds.length = 47) (_ : m.ds.Nodup) : ChgR H H' t ms ms' m
section
variable {P : Program} {w : World} {K : PySem.W.Frag} {mg : Str -> Option Value} {base : Heap} {a : Ad}
inductive SpShow (a : Ad) (vs : List V) (H : Hp) (Q : VK) : Prop
 | mk (p : Addr) (t : Str) (r : RuleA) (_ : vs = [.ref p]) (_ : RuleAt a H p t r) (_ : Q (.str t) H) : SpShow a vs H Q
def spShow (a : Ad) : Sp := fun vs H Q _ => SpShow a vs H Q
theorem ok_show {f : Addr} {fd : FuncData} (F : Fun K "shown_rule" "shown_rule" s_shown_rule f fd) (T : Top K mg a) : FnOk P w K mg base CX0 1 f fd p_shown_rule (spShow a) := by
 refine F.ok sc_shown_rule (fun vs H Q E h => ?_) (fun cdv A outer s H vs Q E hr h => ?_)
 ·obtain ⟨p, t, r, rfl, _⟩ := h
  rfl
 ·obtain ⟨p, t, r, rfl, hR, k⟩ := h
  obtain ⟨dx, tt, cs, h1, h2, h3⟩ := hR.ex
  refine ⟨_, (@pss_one _ _ _ (@ps_ret _ _ _ _ (@pe_fld _ _ _ _ _ (pv 0) rfl))), ?_⟩
  try dsimp only [cxK]
  exact ⟨_, rfl, p, _, dx, _, _, rfl, h1, T.cl_Rule, T.na_Rule_text, fl2_1 (by decide +kernel), k⟩
inductive SpChg (a : Ad) (vs : List V) (H : Hp) (Q : VK) : Prop
 | mk (p dx mem pr : Addr) (fs : List (Str × V)) (t : Str) (r : RuleA) (ms : List (Str × MA)) (_ : vs = [.ref p, .ref pr]) (_ : H p = some (.ins a.c_Jumps dx fs)) (_ : fs.lookup ("memories" : Str) = some (.ref mem)) (_ : fs.length <= 10) (_ : H mem = some (.dK (mK ms))) (_ : ms.length <= 1000) (_ : ∀ e ∈ ms, H e.2.tp = some (.tup [.ref e.2.l, .ref e.2.kc])) (_ : RuleAt a H pr t r) (_ : ∀ (H' : Hp) (m : MA) (ms' : List (Str × MA)), (∀ b o, H b = some o -> b ≠ p -> b ≠ mem -> H' b = some o) -> H' p = some (.ins a.c_Jumps dx (putF "known_cells" (.ref m.kc) (putF "known_squares" (.ref m.l) (putF "rule" (.ref pr) fs)))) -> H' mem = some (.dK (mK ms')) -> ChgR H H' t ms ms' m -> Q .non H') : SpChg a vs H Q
def spChg (a : Ad) : Sp := fun vs H Q _ => SpChg a vs H Q
theorem ok_chg {f : Addr} {fd : FuncData} (F : Fun K "change" "Jumps.change" s_Jumps_change f fd) (T : Top K mg a) (C_shown_rule : Cal P w K mg base CX0 1 "shown_rule" p_shown_rule (spShow a)) : FnOk P w K mg base CX0 2 f fd p_Jumps_change (spChg a) := by
 refine F.ok sc_Jumps_change (fun vs H Q E h => ?_) (fun cdv A outer s H vs Q E hr h => ?_)
 ·obtain ⟨p, dx, mem, pr, fs, t, r, ms, rfl, _⟩ := h
  rfl
 ·obtain ⟨p, dx, mem, pr, fs, t, r, ms, rfl, hp, hmem, hfs, hm, few, tps, hR, k⟩ := h
  refine ⟨_, (@pss_cons _ _ _ _ _ (@ps_set _ _ (2) _ _ _ _ sc_Jumps_change.nd rfl (Or.inl rfl) (@pe_cal _ _ _ _ _ _ _ _ _ _ _ _ C_shown_rule (rm hr) rfl pass0 (@pa_cons _ _ _ _ _ (pv 1) (@pa_nil _) rfl) (by decide) rfl rfl) rfl (.inl rfl)) (@pss_cons _ _ _ _ _ (@ps_if _ _ _ _ _ _ _ _ (@pt_cmp _ _ _ _ _ _ (@pc_dnotin _ _ _ _ _ (hu_of hr) (pv 2) (@pe_fld _ _ _ _ _ (pv 0) rfl)) (by first | exact nobehind _ (by decide) (by decide) | rfl)) (@pss_one _ _ _ (@ps_dput _ _ _ _ _ _ _ _ _ (hu_of hr) (@pe_fld _ _ _ _ _ (pv 0) rfl) (pv 2) (@pe_tup _ _ _ _ _ (@pa_cons _ _ _ _ _ (@pe_comp _ _ _ _ _ _ _ _ _ _ _ _ _ _ rfl (@CScope.of _ ((defScope s_Jumps_change)) (n_Jumps_change) _ (["e"]) (1) ([]) rfl rfl (by decide +kernel)) (@pi_range1 _ _ _ _ _ _ rfl T.b_range (@pa_op _ _ _ _ _ _ _ _ _ _ (@op_sub _) (@pe_gint _ _ _ _ rfl T.k_TOP_LEVEL (by decide)) (@pe_int _ _ _ _) (@pa_nil _)) rfl) (fun _ _ _ => (@pgc_name _ _ _ _ _ _ _ _ (0) (by decide +kernel) rfl rfl)) (fun _ _ _ => (@pts_nil _)) (fun _ _ _ => (@pe_dnewK _ _)) (by intro _ ; rfl)) (@pa_cons _ _ _ _ _ (@pe_dnewT _ _) (@pa_nil _) rfl) rfl)) rfl)) (@pss_nil _)) (@pss_cons _ _ _ _ _ (@ps_fld _ _ _ _ _ _ _ _ (pv 0) (pv 1) rfl) (@pss_cons _ _ _ _ _ (@ps_fld _ _ _ _ _ _ _ _ (pv 0) (@pe_ix _ _ _ _ _ _ _ (@ix_tup _) (@pe_dget _ _ _ _ _ _ (hu_of hr) (@pe_fld _ _ _ _ _ (pv 0) rfl) (pv 2) (fun _ _ => rfl)) (@pe_int _ _ _ _) (fun _ _ => rfl)) rfl) (@pss_one _ _ _ (@ps_fld _ _ _ _ _ _ _ _ (pv 0) (@pe_ix _ _ _ _ _ _ _ (@ix_tup _) (@pe_dget _ _ _ _ _ _ (hu_of hr) (@pe_fld _ _ _ _ _ (pv 0) rfl) (pv 2) (fun _ _ => rfl)) (@pe_int _ _ _ _) (fun _ _ => rfl)) rfl)))))), ?_⟩
  try dsimp only [cxK]
  have npm : p ≠ mem := ne_of hp hm (by intro z; cases z)
  refine ⟨_, rfl, pr, t, r, rfl, hR, ?_⟩
  apply meetJ (fun σ H1 => σ = [some (.ref p), some (.ref pr), some (.str t)] /\ ∃ (m : MA) (ms' : List (Str × MA)), (∀ b o, H b = some o -> b ≠ mem -> H1 b = some o) /\ H1 mem = some (.dK (mK ms')) /\ valV (mK ms') (Sum.inr t) = some (.ref m.tp) /\ H1 m.tp = some (.tup [.ref m.l, .ref m.kc]) /\ ChgR H H1 t ms ms' m /\ m.tp ≠ p /\ (H m.tp = none -> m.l ≠ p /\ m.kc ≠ p /\ ∀ d ∈ m.ds, d ≠ p))
  ·intro rest
   refine ⟨_, rfl, _, rfl, p, _, dx, _, _, rfl, hp, T.cl_Jumps, T.na_Jumps_memories, hmem, mem, _, rfl, DGet.k (k := Sum.inr t) hm, _, rfl, ?_⟩
   rcases mk_look t ms with ⟨m, m1, m2⟩ | ⟨no, nk⟩
   ·rw [m2]
    refine iteF (rest _ _ ⟨rfl, m, ms, fun b o e _ => e, hm, m2, tps _ m1, .old m1 rfl, ne_of (tps _ m1) hp (by intro z; cases z), fun z => ?_⟩)
    rw [tps _ m1] at z
    cases z
   ·rw [no]
    refine iteT ?_
    refine ⟨_, _, rfl, rfl, _, rfl, by decide, by decide, ?_⟩
    refine blk_range (n := 47) (fun i acc H2 => Same H H2 /\ ∃ ds : List Addr, acc = ds.map V.ref /\ ds.length = i /\ (∀ d ∈ ds, H2 d = some (.dK [])) /\ (∀ d ∈ ds, H d = none) /\ ds.Nodup) ⟨Same.refl H, [], rfl, rfl, fun d hd => (nomatch hd), fun d hd => (nomatch hd), .nil⟩ ?_ ?_
    ·rintro i acc H2 hi ⟨sm, ds, rfl, ln, c1, c2, nd⟩
     refine ⟨⟨[some (.int (0 + (i : Int)))], rfl, rfl⟩, ?_, tyes fun d hd => ⟨sm.trans (same_upd hd), ds ++ [d], by rw [List.map_append]; rfl, by rw [List.length_append, ln]; rfl, fun x hx => ?_, fun x hx => ?_, ?_⟩⟩
     ·rw [List.length_map, ln]
      exact Nat.lt_of_lt_of_le hi (by decide)
     ·rcases List.mem_append.mp hx with z | z
      ·exact same_upd hd _ _ (c1 x z)
      ·rw [List.mem_singleton.mp z]; exact upd_same
     ·rcases List.mem_append.mp hx with z | z
      ·exact c2 x z
      ·rw [List.mem_singleton.mp z]; exact Same.noneN sm hd
     ·rw [List.nodup_append]
      refine ⟨nd, by simp, fun x hx y hy z => ?_⟩
      rw [List.mem_singleton.mp hy] at z
      rw [<- z, c1 x hx] at hd
      cases hd
    ·rintro acc H2 ⟨sm, ds, rfl, ln, c1, c2, nd⟩ l hl
     have s3 := same_upd (o := .lst (ds.map V.ref)) hl
     have hl3 : upd H2 l (.lst (ds.map V.ref)) l = some (.lst (ds.map V.ref)) := upd_same
     generalize upd H2 l (.lst (ds.map V.ref)) = H3 at s3 hl3 ⊢
     intro kc hkc
     have s4 := same_upd (o := .dT []) hkc
     have hk4 : upd H3 kc (.dT []) kc = some (.dT []) := upd_same
     generalize upd H3 kc (.dT []) = H4 at s4 hk4 ⊢
     refine ⟨(by show 2 <= sizeLine; decide), fun tp htp => ?_⟩
     have s5 := same_upd (o := .tup [.ref l, .ref kc]) htp
     have ht5 : upd H4 tp (.tup [.ref l, .ref kc]) tp = some (.tup [.ref l, .ref kc]) := upd_same
     show ∃ _, _
     generalize upd H4 tp (.tup [.ref l, .ref kc]) = H5 at s5 ht5 ⊢
     have n1 : H l = none := Same.noneN sm hl
     have n2 : H kc = none := Same.noneN (sm.trans s3) hkc
     have n3 : H tp = none := Same.noneN ((sm.trans s3).trans s4) htp
     have s05 := ((sm.trans s3).trans s4).trans s5
     have hm5 := s05 _ _ hm
     refine ⟨_, rfl, p, _, dx, _, _, rfl, s05 _ _ hp, T.cl_Jumps, T.na_Jumps_memories, hmem, _, rfl, mem, _, rfl, DPut.k (k := Sum.inr t) hm5 ?_, ?_⟩
     ·unfold mK
      rw [List.length_map]
      exact Nat.lt_of_le_of_lt few (by decide)
     ·rw [putK_new _ no]
      have e6 : mK ms ++ [(Sum.inr t, V.ref tp)] = mK (ms ++ [(t, ⟨tp, l, kc, ds⟩)]) := by unfold mK; rw [List.map_append]; rfl
      rw [e6]
      have k6 : ∀ b o, H5 b = some o -> b ≠ mem -> upd H5 mem (.dK (mK (ms ++ [(t, ⟨tp, l, kc, ds⟩)]))) b = some o := fun b o e n => by rw [upd_ne n]; exact e
      have hm6 : upd H5 mem (.dK (mK (ms ++ [(t, ⟨tp, l, kc, ds⟩)]))) mem = some (.dK (mK (ms ++ [(t, ⟨tp, l, kc, ds⟩)]))) := upd_same
      generalize upd H5 mem (.dK (mK (ms ++ [(t, ⟨tp, l, kc, ds⟩)]))) = H6 at k6 hm6 ⊢
      have nm : ∀ {x : Addr}, H x = none -> x ≠ mem := fun z y => by rw [y, hm] at z; cases z
      have np : ∀ {x : Addr}, H x = none -> x ≠ p := fun z y => by rw [y, hp] at z; cases z
      refine rest _ _ ⟨rfl, ⟨tp, l, kc, ds⟩, ms ++ [(t, ⟨tp, l, kc, ds⟩)], fun b o e n => k6 _ _ (s05 _ _ e) n, hm6, ?_, k6 _ _ ht5 (nm n3), .new rfl nk ⟨n3, n1, n2, c2⟩ (k6 _ _ ht5 (nm n3)) (k6 _ _ (s5 _ _ (s4 _ _ hl3)) (nm n1)) (k6 _ _ (s5 _ _ hk4) (nm n2)) (fun d hd => k6 _ _ (s5 _ _ (s4 _ _ (s3 _ _ (c1 d hd)))) (nm (c2 d hd))) ln nd, np n3, fun _ => ⟨np n1, np n2, fun d hd => np (c2 d hd)⟩⟩
      rw [<- e6]
      rw [val_app no]
      exact valV_pos rfl
  rintro σ H1 ⟨rfl, m, ms', k1, hm1, vv, ht1, chg, ntp, nnew⟩
  have hp1 := k1 _ _ hp npm
  have lf : fs.length < 1000 := by lia
  have put : ∀ {Hk : Hp} {fs' : List (Str × V)} (fs'' : List (Str × V)), Hk p = some (.ins a.c_Jumps dx fs') -> (∀ b o, Hk b = some o -> b ≠ p -> upd Hk p (.ins a.c_Jumps dx fs'') b = some o) /\ upd Hk p (.ins a.c_Jumps dx fs'') p = some (.ins a.c_Jumps dx fs'') := fun {Hk fs'} fs'' e => ⟨fun b o e n => by rw [upd_ne n]; exact e, upd_same⟩
  refine ⟨_, rfl, _, rfl, p, _, dx, fs, rfl, hp1, T.cl_Jumps, T.na_Jumps_rule, lf, ?_⟩
  obtain ⟨k2, hp2⟩ := put (putF "rule" (.ref pr) fs) hp1
  generalize upd H1 p (.ins a.c_Jumps dx (putF "rule" (.ref pr) fs)) = H2 at k2 hp2 ⊢
  have l2 := length_putF ("rule" : Str) (.ref pr) fs
  have look2 : (putF "rule" (.ref pr) fs).lookup ("memories" : Str) = some (.ref mem) := by rw [lookup_putF, if_neg (by decide +kernel)]; exact hmem
  have hm2 := k2 _ _ hm1 (Ne.symm npm)
  have ht2 := k2 _ _ ht1 ntp
  refine ⟨_, rfl, p, _, dx, _, _, rfl, hp2, T.cl_Jumps, T.na_Jumps_memories, look2, _, rfl, mem, .ref m.tp, rfl, vv ▸ DGet.k (k := Sum.inr t) hm2, m.tp, _, 0, .ref m.l, rfl, rfl, SqT.of ht2, atI_nat (j := 0) rfl, _, rfl, p, _, dx, _, rfl, hp2, T.cl_Jumps, T.na_Jumps_known_squares, by lia, ?_⟩
  obtain ⟨k3, hp3⟩ := put (putF "known_squares" (.ref m.l) (putF "rule" (.ref pr) fs)) hp2
  generalize upd H2 p (.ins a.c_Jumps dx (putF "known_squares" (.ref m.l) (putF "rule" (.ref pr) fs))) = H3 at k3 hp3 ⊢
  have l3 := length_putF ("known_squares" : Str) (.ref m.l) (putF "rule" (.ref pr) fs)
  have look3 : (putF "known_squares" (.ref m.l) (putF "rule" (.ref pr) fs)).lookup ("memories" : Str) = some (.ref mem) := by rw [lookup_putF, if_neg (by decide +kernel)]; exact look2
  have hm3 := k3 _ _ hm2 (Ne.symm npm)
  have ht3 := k3 _ _ ht2 ntp
  refine ⟨_, rfl, p, _, dx, _, _, rfl, hp3, T.cl_Jumps, T.na_Jumps_memories, look3, _, rfl, mem, .ref m.tp, rfl, vv ▸ DGet.k (k := Sum.inr t) hm3, m.tp, _, 1, .ref m.kc, rfl, rfl, SqT.of ht3, atI_nat (j := 1) rfl, _, rfl, p, _, dx, _, rfl, hp3, T.cl_Jumps, T.na_Jumps_known_cells, by lia, ?_⟩
  obtain ⟨k4, hp4⟩ := put (putF "known_cells" (.ref m.kc) (putF "known_squares" (.ref m.l) (putF "rule" (.ref pr) fs))) hp3
  have k14 : ∀ b o, H1 b = some o -> b ≠ p -> upd H3 p (.ins a.c_Jumps dx (putF "known_cells" (.ref m.kc) (putF "known_squares" (.ref m.l) (putF "rule" (.ref pr) fs)))) b = some o := fun b o e n => k4 _ _ (k3 _ _ (k2 _ _ e n) n) n
  refine k _ m ms' (fun b o e n1 n2 => k14 _ _ (k1 _ _ e n2) n1) hp4 (k14 _ _ hm1 (Ne.symm npm)) ?_
  cases chg with
  | old h1 h2 => exact .old h1 h2
  | new h1 h2 h3 h4 h5 h6 h7 h8 h9 =>
   obtain ⟨y1, y2, y3⟩ := nnew h3.1
   exact .new h1 h2 h3 (k14 _ _ h4 ntp) (k14 _ _ h5 y1) (k14 _ _ h6 y2) (fun d hd => k14 _ _ (h7 d hd) (y3 d hd)) h8 h9
inductive SpJInit (a : Ad) (vs : List V) (H : Hp) (Q : VK) : Prop
 | mk (p dx gp pr : Addr) (t : Str) (r : RuleA) (_ : vs = [.ref p, .ref gp, .ref pr]) (_ : H p = some (.ins a.c_Jumps dx [])) (_ : RuleAt a H pr t r) (_ : ∀ (H' : Hp) (mem : Addr) (m : MA), (∀ b o, H b = some o -> b ≠ p -> H' b = some o) -> H mem = none -> H' p = some (.ins a.c_Jumps dx (jf5 gp mem pr m.l m.kc)) -> H' mem = some (.dK (mK [(t, m)])) -> (H m.tp = none /\ H m.l = none /\ H m.kc = none /\ ∀ d ∈ m.ds, H d = none) -> H' m.tp = some (.tup [.ref m.l, .ref m.kc]) -> H' m.l = some (.lst (m.ds.map V.ref)) -> H' m.kc = some (.dT []) -> (∀ d ∈ m.ds, H' d = some (.dK [])) -> m.ds.length = 47 -> m.ds.Nodup -> (∀ d ∈ m.ds, d ≠ mem) -> Q .non H') : SpJInit a vs H Q
def spJInit (a : Ad) : Sp := fun vs H Q _ => SpJInit a vs H Q
theorem ok_jinit {f : Addr} {fd : FuncData} (F : Fun K "__init__" "Jumps.__init__" s_Jumps_init f fd) (T : Top K mg a) (M_Jumps_change : CalM P w K mg base CX0 2 a.c_Jumps "change" p_Jumps_change (spChg a)) : FnOk P w K mg base CX0 3 f fd p_Jumps_init (spJInit a) := by
 refine F.ok sc_Jumps_init (fun vs H Q E h => ?_) (fun cdv A outer s H vs Q E hr h => ?_)
 ·obtain ⟨p, dx, gp, pr, t, r, rfl, _⟩ := h
  rfl
 ·obtain ⟨p, dx, gp, pr, t, r, rfl, hp, hR, k⟩ := h
  refine ⟨_, (@pss_cons _ _ _ _ _ (@ps_fld _ _ _ _ _ _ _ _ (pv 0) (pv 1) rfl) (@pss_cons _ _ _ _ _ (@ps_fld _ _ _ _ _ _ _ _ (pv 0) (@pe_dnewK _ _) rfl) (@pss_one _ _ _ (@ps_expr _ _ _ _ (@pe_calm _ _ _ _ _ _ _ _ _ _ _ _ _ _ _ _ (pv 0) M_Jumps_change (rm hr) pass0 (@pa_cons _ _ _ _ _ (pv 2) (@pa_nil _) rfl) rfl rfl rfl) rfl)))), ?_⟩
  try dsimp only [cxK]
  refine ⟨_, rfl, _, rfl, p, _, dx, [], rfl, hp, T.cl_Jumps, T.na_Jumps_grove, (by show 0 < 1000; decide), ?_⟩
  have k1 : ∀ b o, H b = some o -> b ≠ p -> upd H p (.ins a.c_Jumps dx (putF "grove" (.ref gp) [])) b = some o := fun b o e n => by rw [upd_ne n]; exact e
  have hp1 : upd H p (.ins a.c_Jumps dx (putF "grove" (.ref gp) [])) p = some (.ins a.c_Jumps dx (putF "grove" (.ref gp) [])) := upd_same
  have kn : ∀ b, upd H p (.ins a.c_Jumps dx (putF "grove" (.ref gp) [])) b = none -> H b = none := fun b e => by
   by_cases z : b = p
   ·rw [z, hp1] at e; cases e
   ·rw [upd_ne z] at e; exact e
  generalize upd H p (.ins a.c_Jumps dx (putF "grove" (.ref gp) [])) = H1 at k1 hp1 kn ⊢
  intro mem hmem
  have s2 := same_upd (o := .dK []) hmem
  have hm2 : upd H1 mem (.dK []) mem = some (.dK []) := upd_same
  generalize upd H1 mem (.dK []) = H2 at s2 hm2 ⊢
  have nmp : mem ≠ p := fun z => by rw [z, hp1] at hmem; cases hmem
  refine ⟨_, rfl, p, _, dx, _, rfl, s2 _ _ hp1, T.cl_Jumps, T.na_Jumps_memories, (by show 1 < 1000; decide), ?_⟩
  have k3 : ∀ b o, H2 b = some o -> b ≠ p -> upd H2 p (.ins a.c_Jumps dx (jf2 gp mem)) b = some o := fun b o e n => by rw [upd_ne n]; exact e
  have hp3 : upd H2 p (.ins a.c_Jumps dx (jf2 gp mem)) p = some (.ins a.c_Jumps dx (jf2 gp mem)) := upd_same
  have kn3 : ∀ b, upd H2 p (.ins a.c_Jumps dx (jf2 gp mem)) b = none -> H b = none := fun b e => by
   by_cases z : b = p
   ·rw [z, hp3] at e; cases e
   ·rw [upd_ne z] at e; exact kn _ (Same.noneN s2 e)
  rw [show putF ("memories" : Str) (V.ref mem) (putF ("grove" : Str) (V.ref gp) []) = jf2 gp mem from rfl]
  generalize upd H2 p (.ins a.c_Jumps dx (jf2 gp mem)) = H3 at k3 hp3 kn3 ⊢
  have k03 : ∀ b o, H b = some o -> b ≠ p -> H3 b = some o := fun b o e n => k3 _ _ (s2 _ _ (k1 _ _ e n)) n
  have hm3 := k3 _ _ hm2 nmp
  have hR3 : RuleAt a H3 pr t r := by
   refine hR.kp fun b o e n => k03 _ _ e fun z => ?_
   rw [z, hp] at e
   cases e
   cases n with
   | ins h1 _ => cases h1
  refine ⟨_, rfl, p, dx, _, rfl, hp3, jf2_no _ _ (by decide +kernel) (by decide +kernel), _, rfl, p, dx, mem, pr, jf2 gp mem, t, r, [], rfl, hp3, jf2_mem _ _, by rw [show (jf2 gp mem).length = 2 from rfl]; decide, hm3, Nat.zero_le _, fun e he => (nomatch he), hR3, fun H' m ms' fr hp' hm' chg => ?_⟩
  cases chg with
  | old h1 _ => cases h1
  | new h1 h2 h3 h4 h5 h6 h7 h8 h9 =>
   rw [h1] at hm'
   refine k H' mem m (fun b o e n => fr _ _ (k03 _ _ e n) n ?_) (kn _ hmem) hp' hm' ⟨kn3 _ h3.1, kn3 _ h3.2.1, kn3 _ h3.2.2.1, fun d hd => kn3 _ (h3.2.2.2 d hd)⟩ h4 h5 h6 h7 h8 h9 fun d hd z => ?_
   ·intro z
    rw [z] at e
    rw [kn _ hmem] at e
    cases e
   ·have := h3.2.2.2 d hd
    rw [z, hm3] at this
    cases this
end
end J
namespace J
open PySem L2
def qO (G : Gv) (n k : Nat) : Nat := match G[n]? with
 | some q => (q.parts.getD k 0).toNat
 | none => 0
def cel (G : Gv) : Nat -> Nat -> Nat -> Nat -> Nat
 | 0, n, _, _ => n
 | l + 1, n, x, y => cel G l (qO G n ((x / 2 ^ l) % 2 + 2 * ((y / 2 ^ l) % 2))) x y
def stp (r : RuleA) (c : Nat -> Nat -> Int) : Nat -> Nat -> Int := fun x y => becA r (c x y) [c (x - 1) (y - 1), c x (y - 1), c (x + 1) (y - 1), c (x - 1) y, c (x + 1) y, c (x - 1) (y + 1), c x (y + 1), c (x + 1) (y + 1)]
def stpN (r : RuleA) : Nat -> (Nat -> Nat -> Int) -> Nat -> Nat -> Int
 | 0, c => c
 | n + 1, c => stp r (stpN r n c)
def celI (G : Gv) (l n : Nat) : Nat -> Nat -> Int := fun x y => (cel G l n x y : Int)
def JR (r : RuleA) (G : Gv) (e n m : Nat) : Prop := ∃ l : Nat, LevAt G n ((l + 2 : Nat) : Int) /\ e <= l /\ LevAt G m ((l + 1 : Nat) : Int) /\ ∀ x y, x < 2 ^ (l + 1) -> y < 2 ^ (l + 1) -> celI G (l + 1) m x y = stpN r (2 ^ e) (celI G (l + 2) n) (x + 2 ^ l) (y + 2 ^ l)
theorem GOk.four {G : Gv} (ok : GOk G) {n l : Nat} (h : LevAt G n ((l + 1 : Nat) : Int)) : ∃ x y z w : Nat, G[n]? = some ⟨[(x : Int), (y : Int), (z : Int), (w : Int)], ((l + 1 : Nat) : Int)⟩ /\ LevAt G x (l : Int) /\ LevAt G y (l : Int) /\ LevAt G z (l : Int) /\ LevAt G w (l : Int) := by
 obtain ⟨q, e, el⟩ := h
 have h8 : 8 <= n := by
  refine Nat.le_of_not_lt fun z => ?_
  rw [ok.leaf n z] at e
  cases e
  have : (0 : Int) = ((l + 1 : Nat) : Int) := el
  lia
 obtain ⟨x, y, z, w, p, ⟨l1, l2, l3, l4⟩, _⟩ := ok.node n q e h8
 have e1 : q.lev - 1 = (l : Int) := by lia
 rw [e1] at l1 l2 l3 l4
 refine ⟨x, y, z, w, ?_, l1, l2, l3, l4⟩
 rw [e]
 cases q with
 | mk pp ll => cases p; cases el; rfl
theorem GOk.cell {G : Gv} (ok : GOk G) {n : Nat} (h : LevAt G n 0) : n < 8 := by
 obtain ⟨q, e, el⟩ := h
 refine Nat.lt_of_not_le fun z => ?_
 obtain ⟨_, _, _, _, _, _, h1, _⟩ := ok.node n q e z
 lia
theorem qO_of {G : Gv} {n x y z w : Nat} {l : Int} (e : G[n]? = some ⟨[(x : Int), (y : Int), (z : Int), (w : Int)], l⟩) : qO G n 0 = x /\ qO G n 1 = y /\ qO G n 2 = z /\ qO G n 3 = w := by
 unfold qO
 rw [e]
 exact ⟨rfl, rfl, rfl, rfl⟩
theorem qO_lev {G : Gv} (ok : GOk G) {n l : Nat} (h : LevAt G n ((l + 1 : Nat) : Int)) {k : Nat} (hk : k < 4) : LevAt G (qO G n k) (l : Int) := by
 obtain ⟨x, y, z, w, e, h1, h2, h3, h4⟩ := ok.four h
 obtain ⟨q1, q2, q3, q4⟩ := qO_of e
 match k, hk with
 | 0, _ => rw [q1]; exact h1
 | 1, _ => rw [q2]; exact h2
 | 2, _ => rw [q3]; exact h3
 | 3, _ => rw [q4]; exact h4
theorem cel_goes {G G' : Gv} {i : Nat} (ok : GOk G) (go : Goes G G' i) : ∀ (l n : Nat), LevAt G n (l : Int) -> ∀ x y, cel G' l n x y = cel G l n x y
 | 0, n, _, x, y => rfl
 | l + 1, n, h, x, y => by
  have e : ∀ k, qO G' n k = qO G n k := fun k => by
   obtain ⟨q, e, _⟩ := h
   unfold qO
   rw [go.get e, e]
  show cel G' l (qO G' n _) x y = cel G l (qO G n _) x y
  rw [e]
  exact cel_goes ok go l _ (qO_lev ok h (by lia)) x y
theorem celI_goes {G G' : Gv} {i : Nat} (ok : GOk G) (go : Goes G G' i) {l n : Nat} (h : LevAt G n (l : Int)) : celI G' l n = celI G l n := by
 funext x y
 unfold celI
 rw [cel_goes ok go l n h]
theorem JR.goes {r : RuleA} {G G' : Gv} {i e n m : Nat} (ok : GOk G) (go : Goes G G' i) (h : JR r G e n m) : JR r G' e n m := by
 obtain ⟨l, h1, h2, h3, h4⟩ := h
 refine ⟨l, go.lev h1, h2, go.lev h3, fun x y hx hy => ?_⟩
 rw [celI_goes ok go h1, celI_goes ok go h3]
 exact h4 x y hx hy
def Bs (G : Gv) : Prop := ∀ j : Nat, j < 48 -> G[8 + j]? = some ⟨[(bareN j : Int), (bareN j : Int), (bareN j : Int), (bareN j : Int)], (j : Int) + 1⟩
theorem Bs.goes {G G' : Gv} {i : Nat} (h : Bs G) (go : Goes G G' i) : Bs G' := fun j hj => go.get (h j hj)
theorem Bs.zero {G : Gv} (h : Bs G) : ∀ (l : Nat), l <= 48 -> ∀ x y, cel G l (bareN l) x y = 0
 | 0, _, x, y => rfl
 | l + 1, hl, x, y => by
  obtain ⟨q1, q2, q3, q4⟩ := qO_of (h l (by lia))
  have e : ∀ k, k < 4 -> qO G (8 + l) k = bareN l := fun k hk => by
   match k, hk with
   | 0, _ => exact q1
   | 1, _ => exact q2
   | 2, _ => exact q3
   | 3, _ => exact q4
  show cel G l (qO G (8 + l) _) x y = 0
  rw [e _ (by lia)]
  exact h.zero l (by lia) x y
theorem Bs.lev {G : Gv} (ok : GOk G) (h : Bs G) : ∀ l : Nat, l <= 48 -> LevAt G (bareN l) (l : Int)
 | 0, _ => ⟨_, ok.leaf 0 (by decide), rfl⟩
 | l + 1, hl => ⟨_, h l (by lia), by show (l : Int) + 1 = ((l + 1 : Nat) : Int); lia⟩
theorem bec_st {r : RuleA} (h : ROkT r) {cell : Int} (hc : stOk cell) (ar : List Int) : stOk (becA r cell ar) := by
 cases e : decA r cell ar with
 | none => rw [bec_none e]; exact hc
 | some i =>
  obtain ⟨c, h1, h2⟩ := bec_some e
  rw [h2]
  exact (h.ok c (List.mem_of_getElem? h1)).makes
theorem eight_of : ∀ xs : List Int, xs.length = 8 -> ∃ a b c d e f g h, xs = [a, b, c, d, e, f, g, h]
 | [a, b, c, d, e, f, g, h], _ => ⟨a, b, c, d, e, f, g, h, rfl⟩
structure MemW (H : Hp) (g : GA) (G : Gv) (N M : Nat) (r : RuleA) (m : MA) : Prop where
 tp : H m.tp = some (.tup [.ref m.l, .ref m.kc])
 l : H m.l = some (.lst (m.ds.map V.ref))
 ap : m.l ≠ g.lv /\ m.l ≠ g.pt /\ m.kc ≠ g.nm
 len : m.ds.length = 47
 nd : m.ds.Nodup
 sq : ∀ (e : Nat) d, m.ds[e]? = some d -> ∃ kv, H d = some (.dK kv) /\ kv.length <= N /\ (∀ p ∈ kv, ∃ i, p.1 = Sum.inl i) /\ ∀ (n : Nat) v, valV kv (Sum.inl (n : Int)) = some v -> ∃ k : Nat, v = .int (k : Int) /\ JR r G e n k
 ce : ∃ kc, H m.kc = some (.dT kc) /\ kc.length <= M /\ ∀ (ks : List Int) v, valV kc (kOf ks) = some v -> ∃ c ar, ks = c :: ar /\ v = .int (becA r c ar)
theorem MemW.mono {H : Hp} {g : GA} {G : Gv} {N M N' M' : Nat} {r : RuleA} {m : MA} (h : MemW H g G N M r m) (e1 : N <= N') (e2 : M <= M') : MemW H g G N' M' r m := by
 refine ⟨h.tp, h.l, h.ap, h.len, h.nd, fun e d ed => ?_, ?_⟩
 ·obtain ⟨kv, h1, h2, h3, h4⟩ := h.sq e d ed
  exact ⟨kv, h1, Nat.le_trans h2 e1, h3, h4⟩
 ·obtain ⟨kc, h1, h2, h3⟩ := h.ce
  exact ⟨kc, h1, Nat.le_trans h2 e2, h3⟩
theorem MemW.kp {H H' : Hp} {g : GA} {G G' : Gv} {N M i : Nat} {r : RuleA} {m : MA} (h : MemW H g G N M r m) (ok : GOk G) (go : Goes G G' i) (k : ∀ b o, H b = some o -> b = m.tp \/ b = m.l \/ b ∈ m.ds \/ b = m.kc -> H' b = some o) : MemW H' g G' N M r m := by
 refine ⟨k _ _ h.tp (.inl rfl), k _ _ h.l (.inr (.inl rfl)), h.ap, h.len, h.nd, fun e d ed => ?_, ?_⟩
 ·obtain ⟨kv, h1, h2, h3, h4⟩ := h.sq e d ed
  refine ⟨kv, k _ _ h1 (.inr (.inr (.inl (List.mem_of_getElem? ed)))), h2, h3, fun n v hv => ?_⟩
  obtain ⟨x, e1, e2⟩ := h4 n v hv
  exact ⟨x, e1, e2.goes ok go⟩
 ·obtain ⟨kc, h1, h2, h3⟩ := h.ce
  exact ⟨kc, k _ _ h1 (.inr (.inr (.inr rfl))), h2, h3⟩
structure JW (a : Ad) (H : Hp) (g : GA) (G : Gv) (N M : Nat) (p dx mem pr : Addr) (r : RuleA) (m : MA) : Prop where
 gr : GroveAt a H g G
 ok : GOk G
 bs : Bs G
 br : H g.br = some (.lst ((bareL 48).map V.int))
 nbr : g.br ≠ g.lv /\ g.br ≠ g.pt
 hp : H p = some (.ins a.c_Jumps dx (jf5 g.p mem pr m.l m.kc))
 ru : RuleAt a H pr (ruleT r) r
 rok : ROkT r
 rest : becA r 0 zeros8 = 0
 me : MemW H g G N M r m
theorem JW.same {a : Ad} {H H' : Hp} {g : GA} {G : Gv} {N M : Nat} {p dx mem pr : Addr} {r : RuleA} {m : MA} (s : Same H H') (h : JW a H g G N M p dx mem pr r m) : JW a H' g G N M p dx mem pr r m :=
 ⟨h.gr.same s, h.ok, h.bs, s _ _ h.br, h.nbr, s _ _ h.hp, h.ru.same s, h.rok, h.rest, h.me.kp h.ok (Goes.refl h.ok) fun b o e _ => s _ _ e⟩
theorem JW.mono {a : Ad} {H : Hp} {g : GA} {G : Gv} {N M N' M' : Nat} {p dx mem pr : Addr} {r : RuleA} {m : MA} (h : JW a H g G N M p dx mem pr r m) (e1 : N <= N') (e2 : M <= M') : JW a H g G N' M' p dx mem pr r m :=
 ⟨h.gr, h.ok, h.bs, h.br, h.nbr, h.hp, h.ru, h.rok, h.rest, h.me.mono e1 e2⟩
theorem MemW.fr {a : Ad} {H H' : Hp} {g : GA} {G G' : Gv} {N M i : Nat} {r : RuleA} {m : MA} (h : MemW H g G N M r m) (hg : GroveAt a H g G) (ok : GOk G) (f : Fr g H H') (go : Goes G G' i) : MemW H' g G' N M r m := by
 obtain ⟨ts, h3, _⟩ := hg.pt
 refine h.kp ok go fun b o e w => ?_
 rcases w with z | z | z | z
 ·have e2 := h.tp
  rw [<- z, e] at e2
  cases e2
  exact f _ _ e (ne_of e hg.lv (by intro z; cases z)) (ne_of e h3 (by intro z; cases z)) (ne_of e hg.nm (by intro z; cases z))
 ·have e2 := h.l
  rw [z] at e ⊢
  rw [e] at e2
  cases e2
  exact f _ _ e h.ap.1 h.ap.2.1 (ne_of e hg.nm (by intro z; cases z))
 ·obtain ⟨j, hj⟩ := List.getElem?_of_mem z
  obtain ⟨kv, e2, _⟩ := h.sq j b hj
  rw [e] at e2
  cases e2
  exact f _ _ e (ne_of e hg.lv (by intro z; cases z)) (ne_of e h3 (by intro z; cases z)) (ne_of e hg.nm (by intro z; cases z))
 ·obtain ⟨kc, e2, _⟩ := h.ce
  rw [z] at e ⊢
  rw [e] at e2
  cases e2
  exact f _ _ e (ne_of e hg.lv (by intro z; cases z)) (ne_of e h3 (by intro z; cases z)) h.ap.2.2
theorem RuleAt.fr {a : Ad} {H H' : Hp} {g : GA} {G : Gv} {p : Addr} {x : Str} {r : RuleA} (h : RuleAt a H p x r) (hg : GroveAt a H g G) (f : Fr g H H') : RuleAt a H' p x r := by
 obtain ⟨ts, h3, _⟩ := hg.pt
 exact h.kp fun b o e n => f _ _ e (ne_of e hg.lv (by intro z; rw [z] at n; cases n)) (ne_of e h3 (by intro z; rw [z] at n; cases n)) (ne_of e hg.nm (by intro z; rw [z] at n; cases n))
theorem JW.fr {a : Ad} {H H' : Hp} {g : GA} {G G' : Gv} {N M i : Nat} {p dx mem pr : Addr} {r : RuleA} {m : MA} (h : JW a H g G N M p dx mem pr r m) (f : Fr g H H') (hg' : GroveAt a H' g G') (go : Goes G G' i) : JW a H' g G' N M p dx mem pr r m := by
 obtain ⟨ts, h3, _⟩ := h.gr.pt
 refine ⟨hg', go.ok, h.bs.goes go, f _ _ h.br h.nbr.1 h.nbr.2 (ne_of h.br h.gr.nm (by intro z; cases z)), h.nbr, f _ _ h.hp (ne_of h.hp h.gr.lv (by intro z; cases z)) (ne_of h.hp h3 (by intro z; cases z)) (ne_of h.hp h.gr.nm (by intro z; cases z)), h.ru.fr h.gr f, h.rok, h.rest, h.me.fr h.gr h.ok f go⟩
def FrJ (g : GA) (m : MA) (H H' : Hp) : Prop := ∀ b o, H b = some o -> b ≠ g.lv -> b ≠ g.pt -> b ≠ g.nm -> b ≠ m.kc -> b ∉ m.ds -> H' b = some o
theorem FrJ.trans {g : GA} {m : MA} {H1 H2 H3 : Hp} (h : FrJ g m H1 H2) (k : FrJ g m H2 H3) : FrJ g m H1 H3 := fun b o e n1 n2 n3 n4 n5 => k _ _ (h _ _ e n1 n2 n3 n4 n5) n1 n2 n3 n4 n5
theorem Fr.j {g : GA} {m : MA} {H1 H2 : Hp} (h : Fr g H1 H2) : FrJ g m H1 H2 := fun b o e n1 n2 n3 _ _ => h _ _ e n1 n2 n3
theorem Same.j {g : GA} {m : MA} {H1 H2 : Hp} (h : Same H1 H2) : FrJ g m H1 H2 := fun b o e _ _ _ _ _ => h _ _ e
theorem JW.putC {a : Ad} {H : Hp} {g : GA} {G : Gv} {N M : Nat} {p dx mem pr : Addr} {r : RuleA} {m : MA} {kc : List (List Key × V)} (h : JW a H g G N M p dx mem pr r m) (len : kc.length <= M + 1) (sem : ∀ (ks : List Int) v, valV kc (kOf ks) = some v -> ∃ c ar, ks = c :: ar /\ v = .int (becA r c ar)) : JW a (upd H m.kc (.dT kc)) g G N (M + 1) p dx mem pr r m := by
 obtain ⟨kc0, hk, _⟩ := h.me.ce
 have other : ∀ {b v}, H b = some v -> (∀ kk, v ≠ .dT kk) -> upd H m.kc (.dT kc) b = some v := fun {b v} e n => by rw [upd_ne (ne_of e hk (n _))]; exact e
 obtain ⟨ts, h3, h4⟩ := h.gr.pt
 refine ⟨⟨other h.gr.hp (by intro _ z; cases z), other h.gr.lv (by intro _ z; cases z), ⟨ts, other h3 (by intro _ z; cases z), PairedM.imp (fun t q z => other z (by intro _ z; cases z)) h4⟩, by rw [upd_ne (Ne.symm h.me.ap.2.2)]; exact h.gr.nm, h.gr.ne⟩, h.ok, h.bs, other h.br (by intro _ z; cases z), h.nbr, other h.hp (by intro _ z; cases z), h.ru.kp fun b o e n => other e fun kk z => (by rw [z] at n; cases n), h.rok, h.rest, ⟨other h.me.tp (by intro _ z; cases z), other h.me.l (by intro _ z; cases z), h.me.ap, h.me.len, h.me.nd, fun e d ed => ?_, ⟨kc, upd_same, len, sem⟩⟩⟩
 obtain ⟨kv, q1, q2, q3, q4⟩ := h.me.sq e d ed
 exact ⟨kv, other q1 (by intro _ z; cases z), q2, q3, q4⟩
theorem JW.putS {a : Ad} {H : Hp} {g : GA} {G : Gv} {N M : Nat} {p dx mem pr : Addr} {r : RuleA} {m : MA} {e : Nat} {d : Addr} {kv : List (Key × V)} {n k : Nat} (h : JW a H g G N M p dx mem pr r m) (ed : m.ds[e]? = some d) (hd : H d = some (.dK kv)) (jr : JR r G e n k) : JW a (upd H d (.dK (putK kv (Sum.inl (n : Int)) (.int (k : Int))))) g G (N + 1) M p dx mem pr r m := by
 have other : ∀ {b v}, H b = some v -> (∀ kk, v ≠ .dK kk) -> upd H d (.dK (putK kv (Sum.inl (n : Int)) (.int (k : Int)))) b = some v := fun {b v} e n => by rw [upd_ne (ne_of e hd (n _))]; exact e
 obtain ⟨ts, h3, h4⟩ := h.gr.pt
 obtain ⟨kc, c1, c2, c3⟩ := h.me.ce
 refine ⟨⟨other h.gr.hp (by intro _ z; cases z), other h.gr.lv (by intro _ z; cases z), ⟨ts, other h3 (by intro _ z; cases z), PairedM.imp (fun t q z => other z (by intro _ z; cases z)) h4⟩, other h.gr.nm (by intro _ z; cases z), h.gr.ne⟩, h.ok, h.bs, other h.br (by intro _ z; cases z), h.nbr, other h.hp (by intro _ z; cases z), h.ru.kp fun b o e n => other e fun kk z => (by rw [z] at n; cases n), h.rok, h.rest, ⟨other h.me.tp (by intro _ z; cases z), other h.me.l (by intro _ z; cases z), h.me.ap, h.me.len, h.me.nd, fun e' d' ed' => ?_, ⟨kc, other c1 (by intro _ z; cases z), c2, c3⟩⟩⟩
 obtain ⟨kv', q1, q2, q3, q4⟩ := h.me.sq e' d' ed'
 by_cases z : e' = e
 ·rw [z, ed] at ed'
  cases ed'
  rw [hd] at q1
  cases q1
  subst z
  refine ⟨_, upd_same, Nat.le_trans (length_putK _ _ _) (by lia), fun q hq => ?_, fun n' v hv => ?_⟩
  ·unfold putK at hq
   split at hq
   ·obtain ⟨q0, h0, rfl⟩ := List.mem_map.mp hq
    split
    ·exact q3 q0 h0
    ·exact q3 q0 h0
   ·rcases List.mem_append.mp hq with y | y
    ·exact q3 q y
    ·rw [List.mem_singleton.mp y]; exact ⟨_, rfl⟩
  ·rw [valV_put] at hv
   split at hv
   ·rename_i y
    have : n' = n := by have := Sum.inl.inj y; lia
    rw [this]
    cases hv
    exact ⟨k, rfl, jr⟩
   ·exact q4 n' v hv
 ·have nd : d' ≠ d := fun y => z (by
   rw [y] at ed'
   exact (List.getElem?_inj (List.getElem?_eq_some_iff.mp ed').1 h.me.nd).mp (ed'.trans ed.symm))
  exact ⟨kv', by rw [upd_ne nd]; exact q1, Nat.le_trans q2 (by lia), q3, q4⟩
section
variable {P : Program} {w : World} {K : PySem.W.Frag} {mg : Str -> Option Value} {base : Heap} {a : Ad}
inductive SpCel (a : Ad) (vs : List V) (H : Hp) (Q : VK) : Prop
 | mk (p dx mem pr t : Addr) (g : GA) (G : Gv) (N M : Nat) (r : RuleA) (m : MA) (c : Int) (ar : List Int) (_ : vs = [.ref p, .ref t]) (_ : JW a H g G N M p dx mem pr r m) (_ : H t = some (.tup ((c :: ar).map V.int))) (_ : ar.length = 8) (_ : ∀ x ∈ c :: ar, stOk x) (_ : M < 1000000) (_ : ∀ H', (∀ b o, H b = some o -> b ≠ m.kc -> H' b = some o) -> JW a H' g G N (M + 1) p dx mem pr r m -> Q (.int (becA r c ar)) H') : SpCel a vs H Q
def spCel (a : Ad) : Sp := fun vs H Q _ => SpCel a vs H Q
theorem ok_cel {f : Addr} {fd : FuncData} (F : Fun K "cell_after" "Jumps.cell_after" s_Jumps_cell_after f fd) (T : Top K mg a) (M_Grove_state_of : CalM P w K mg base CX0 4 a.c_Grove "state_of" p_Grove_state_of (spSta a)) (M_Grove_leaf : CalM P w K mg base CX0 3 a.c_Grove "leaf" p_Grove_leaf (spLeaf a)) (C_becomes : Cal P w K mg base CX0 5 "becomes" p_becomes (spBec a)) : FnOk P w K mg base CX0 6 f fd p_Jumps_cell_after (spCel a) := by
 refine F.ok sc_Jumps_cell_after (fun vs H Q E h => ?_) (fun cdv A outer s H vs Q E hr h => ?_)
 ·obtain ⟨p, dx, mem, pr, t, g, G, N, M, r, m, c, ar, rfl, _⟩ := h
  rfl
 ·obtain ⟨p, dx, mem, pr, t, g, G, N, M, r, m, c, ar, rfl, hj, ht, h8, sts, few, k⟩ := h
  obtain ⟨kc, c1, c2, c3⟩ := hj.me.ce
  have htk : H t = some (.tup ((kOf (c :: ar)).map kV)) := by rw [kOf_v]; exact ht
  refine ⟨_, (@pss_cons _ _ _ _ _ (@ps_set _ _ (2) _ _ _ _ sc_Jumps_cell_after.nd rfl (Or.inl rfl) (@pe_dget1 _ _ _ _ _ _ _ (hu_of hr) (@pe_fld _ _ _ _ _ (pv 0) rfl) (pv 1) ⟨rfl, rfl, rfl, rfl⟩) rfl (.inl rfl)) (@pss_cons _ _ _ _ _ (@ps_if _ _ _ _ _ _ _ _ (@pt_cmpR _ _ _ _ _ _ _ _ (@op_isN _) (pv 2) (@pe_non _ _ _) (nomark _)) (@pss_cons _ _ _ _ _ (@ps_setComp _ _ _ _ _ _ _ _ _ _ _ _ _ _ (3) _ _ _ rfl sc_Jumps_cell_after.nd rfl rfl (@CScope.of _ ((defScope s_Jumps_cell_after)) (n_Jumps_cell_after) _ (["one", "self"]) (1) ([0]) rfl rfl (by decide +kernel)) (@pi_tup _ _ _ _ (pv 1)) (fun _ _ _ => (@pgc_name _ _ _ _ _ _ _ _ (0) (by decide +kernel) rfl rfl)) (fun _ _ _ => (@pts_nil _)) (fun _ _ _ => (@pe_calm _ _ _ _ _ _ _ _ _ _ _ _ _ _ _ _ (@pe_fldK _ (K) _ _ _ _ rfl (pv 1) rfl) M_Grove_state_of (rm hr) pass0 (@pa_cons _ _ _ _ _ (pv 0) (@pa_nil _) rfl) rfl rfl rfl)) rfl (by intro _ ; rfl)) (@pss_cons _ _ _ _ _ (@ps_set _ _ (2) _ _ _ _ sc_Jumps_cell_after.nd rfl (Or.inl rfl) (@pe_calm _ _ _ _ _ _ _ _ _ _ _ _ _ _ _ _ (@pe_fld _ _ _ _ _ (pv 0) rfl) M_Grove_leaf (rm hr) pass0 (@pa_cons _ _ _ _ _ (@pe_cal _ _ _ _ _ _ _ _ _ _ _ _ C_becomes (rm hr) rfl pass0 (@pa_cons _ _ _ _ _ (@pe_fld _ _ _ _ _ (pv 0) rfl) (@pa_cons _ _ _ _ _ (@pe_ix _ _ _ _ _ _ _ (@ix_list _) (pv 3) (@pe_int _ _ _ _) (fun _ _ => rfl)) (@pa_cons _ _ _ _ _ (@pe_slice _ _ _ _ _ _ _ _ _ _ (@sl_list _) (pv 3) (@po_some _ _ _ (@pe_int _ _ _ _)) (@po_none _)) (@pa_nil _) rfl) rfl) rfl) (by decide) rfl rfl) (@pa_nil _) rfl) rfl rfl rfl) rfl (.inl rfl)) (@pss_one _ _ _ (@ps_dput _ _ _ _ _ _ _ _ _ (hu_of hr) (@pe_fld _ _ _ _ _ (pv 0) rfl) (pv 1) (pv 2) rfl)))) (@pss_nil _)) (@pss_one _ _ _ (@ps_ret _ _ _ _ (pv 2))))), ?_⟩
  try dsimp only [cxK]
  refine ⟨_, rfl, p, _, dx, _, _, rfl, hj.hp, T.cl_Jumps, T.na_Jumps_known_cells, jf5_kc _ _ _ _ _, m.kc, rfl, .inr ⟨_, .inl c1⟩, _, rfl, _, DGet.t (k := kOf (c :: ar)) c1 htk, ?_⟩
  cases ev : valV kc (kOf (c :: ar)) with
  | some v =>
   obtain ⟨c', ar', e1, e2⟩ := c3 _ v ev
   cases e1
   rw [e2]
   exact ⟨_, rfl, rfl, _, rfl, iteF ⟨_, rfl, k H (fun b o e _ => e) (hj.mono (Nat.le_refl _) (Nat.le_succ _))⟩⟩
  | none =>
   refine ⟨_, rfl, rfl, _, rfl, iteT ?_⟩
   refine ⟨_, rfl, t, rfl, ⟨_, SqT.of ht⟩, ?_⟩
   refine blk_tup (xs := (c :: ar).map V.int) (fun i acc H2 => H = H2 /\ acc = ((c :: ar).take i).map V.int) ⟨rfl, rfl⟩ (fun i acc H2 _ z => z.1 ▸ SqT.of ht) ?_ ?_
   ·rintro i v acc H2 ev2 ⟨rfl, rfl⟩
    rw [List.getElem?_map] at ev2
    obtain ⟨x, ex, rfl⟩ := Option.map_eq_some_iff.mp ev2
    obtain ⟨x0, x8⟩ := sts x (List.mem_of_getElem? ex)
    obtain ⟨n, rfl⟩ := Int.eq_ofNat_of_zero_le x0
    refine ⟨⟨[some (.int (n : Int))], rfl, rfl⟩, ?_, tyes ⟨_, rfl, p, _, dx, _, _, rfl, hj.hp, T.cl_Jumps, T.na_Jumps_grove, jf5_gr _ _ _ _ _, g.p, g.dx, _, rfl, hj.gr.hp, no_stateOf g, _, rfl, g, G, n, _, rfl, hj.gr, hj.ok.leaf n (by lia), rfl, rfl, ?_⟩⟩
    ·rw [List.length_map, List.length_take]
     exact Nat.lt_of_le_of_lt (Nat.min_le_right _ _) (by rw [List.length_cons, h8]; decide)
    ·rw [List.take_add_one, ex, Option.toList_some, List.map_append]
     rfl
   ·rintro acc H2 ⟨rfl, rfl⟩ L hL
    rw [List.length_map, List.take_length]
    have s1 := same_upd (o := .lst ((c :: ar).map V.int)) hL
    have hL1 : upd H L (.lst ((c :: ar).map V.int)) L = some (.lst ((c :: ar).map V.int)) := upd_same
    generalize upd H L (.lst ((c :: ar).map V.int)) = H1 at s1 hL1 ⊢
    have hj1 := hj.same s1
    refine ⟨_, rfl, p, _, dx, _, _, rfl, hj1.hp, T.cl_Jumps, T.na_Jumps_grove, jf5_gr _ _ _ _ _, g.p, g.dx, _, rfl, hj1.gr.hp, no_leaf g, _, rfl, p, _, dx, _, _, rfl, hj1.hp, T.cl_Jumps, T.na_Jumps_rule, jf5_ru _ _ _ _ _, _, rfl, L, _, 0, .int c, rfl, rfl, SqL.of hL1, atI_nat (j := 0) rfl, ?_⟩
    refine ⟨_, rfl, 1, rfl, L, _, rfl, SqL.of hL1, fun SL hSL => ?_⟩
    have ecut : cutV ((c :: ar).map V.int) (some 1) none = ar.map V.int := by
     obtain ⟨x1, x2, x3, x4, x5, x6, x7, x8, rfl⟩ := eight_of ar h8
     rfl
    rw [ecut]
    have s2 := same_upd (o := .lst (ar.map V.int)) hSL
    have hS2 : upd H1 SL (.lst (ar.map V.int)) SL = some (.lst (ar.map V.int)) := upd_same
    generalize upd H1 SL (.lst (ar.map V.int)) = H2 at s2 hS2 ⊢
    have hj2 := hj1.same s2
    refine ⟨pr, SL, _, r, c, ar, rfl, hj2.ru, hj2.rok.rok, hS2, fun H3 s3 => ?_⟩
    have hj3 := hj2.same s3
    have s03 := (s1.trans s2).trans s3
    have bst := bec_st hj.rok (sts c List.mem_cons_self) ar
    refine ⟨g.p, _, rfl, bst.1, bst.2, ?_⟩
    refine ⟨_, rfl, _, rfl, p, _, dx, _, _, rfl, hj3.hp, T.cl_Jumps, T.na_Jumps_known_cells, jf5_kc _ _ _ _ _, _, rfl, m.kc, _, rfl, DPut.t (k := kOf (c :: ar)) (s03 _ _ c1) (s03 _ _ htk) (Nat.lt_of_le_of_lt (show kc.length <= 1000000 by lia) (by decide)), ?_⟩
    refine ⟨_, rfl, k _ (fun b o e n => by rw [upd_ne n]; exact s03 _ _ e) (hj3.putC (Nat.le_trans (length_putK _ _ _) (by lia)) fun ks v hv => ?_)⟩
    rw [valV_put] at hv
    split at hv
    ·rename_i y
     rw [kOf_inj y]
     cases hv
     exact ⟨c, ar, rfl, rfl⟩
    ·exact c3 ks v hv
end
end J
namespace J
open PySem L2
def spNo : Sp := fun _ _ _ _ => False
theorem FnOk.no {P : Program} {w : World} {K : PySem.W.Frag} {mg : Str -> Option Value} {base : Heap} {CX : CXT} {k : Nat} {f : Addr} {fd : FuncData} {ps : List Str} : FnOk P w K mg base CX k f fd ps spNo :=
 ⟨fun _ _ _ _ h => h.elim, fun _ _ _ _ _ _ _ _ _ _ _ _ _ h => h.elim⟩
theorem Goes.mono {G G' : Gv} {n m : Nat} (h : Goes G G' n) (e : n <= m) : Goes G G' m := ⟨h.ok, h.pre, Nat.le_trans h.few (by lia)⟩
theorem bareJ {l : Nat} (h : l <= 48) : ((bareL 48).map V.int)[l]? = some (.int (bareN l : Int)) := by
 unfold bareL
 rw [List.getElem?_map, List.getElem?_map, List.getElem?_range (by lia)]
 rfl
section
variable {P : Program} {w : World} {K : PySem.W.Frag} {mg : Str -> Option Value} {base : Heap} {a : Ad}
inductive SpMid2 (a : Ad) (vs : List V) (H : Hp) (Q : VK) : Prop
 | mk (p dx mem pr : Addr) (g : GA) (G : Gv) (N M : Nat) (r : RuleA) (m : MA) (n : Nat) (_ : vs = [.ref p, .int n]) (_ : JW a H g G N M p dx mem pr r m) (_ : LevAt G n ((1 + 1 : Nat) : Int)) (_ : M < 900000) (_ : G.length < 8000000) (_ : ∀ (k : Nat) (G' : Gv) (H' : Hp), FrJ g m H H' -> JW a H' g G' N (M + 4) p dx mem pr r m -> Goes G G' 1 -> JR r G' 0 n k -> Q (.int k) H') : SpMid2 a vs H Q
def spMid2 (a : Ad) : Sp := fun vs H Q _ => SpMid2 a vs H Q
theorem ok_mid2 {f : Addr} {fd : FuncData} (F : Fun K "middle_after" "Jumps.middle_after" s_Jumps_middle_after f fd) (T : Top K mg a) (M_Grove_linked : CalM P w K mg base CX0 2 a.c_Grove "linked" p_Grove_linked (spLink a)) (M_Jumps_cell_after : CalM P w K mg base CX0 6 a.c_Jumps "cell_after" p_Jumps_cell_after (spCel a)) : FnOk P w K mg base CX0 7 f fd p_Jumps_middle_after (spMid2 a) := by
 refine F.ok sc_Jumps_middle_after (fun vs H Q E h => ?_) (fun cdv A outer s H vs Q E hr h => ?_)
 ·obtain ⟨p, dx, mem, pr, g, G, N, M, r, m, n, rfl, _⟩ := h
  rfl
 ·obtain ⟨p, dx, mem, pr, g, G, N, M, r, m, n, rfl, hj, hl, fewM, few, k⟩ := h
  obtain ⟨qa, qb, qc, qd, en, la, lb, lc, ld⟩ := hj.ok.four hl
  obtain ⟨a0, a1, a2, a3, ea, la0, la1, la2, la3⟩ := hj.ok.four (l := 0) la
  obtain ⟨b0, b1, b2, b3, eb, lb0, lb1, lb2, lb3⟩ := hj.ok.four (l := 0) lb
  obtain ⟨c0, c1, c2, c3, ec, lc0, lc1, lc2, lc3⟩ := hj.ok.four (l := 0) lc
  obtain ⟨d0, d1, d2, d3, ed, ld0, ld1, ld2, ld3⟩ := hj.ok.four (l := 0) ld
  obtain ⟨ts, h3, h4⟩ := hj.gr.pt
  obtain ⟨t, et, ht⟩ := PairedM.get h4 en
  obtain ⟨ta, eta, hta⟩ := PairedM.get h4 ea
  obtain ⟨tb, etb, htb⟩ := PairedM.get h4 eb
  obtain ⟨tc, etc, htc⟩ := PairedM.get h4 ec
  obtain ⟨td, etd, htd⟩ := PairedM.get h4 ed
  refine ⟨_, (@pss_cons _ _ _ _ _ (@ps_set _ _ (2) _ _ _ _ sc_Jumps_middle_after.nd rfl (Or.inl rfl) (@pe_ix _ _ _ _ _ _ _ (@ix_list _) (@pe_fld _ _ _ _ _ (@pe_fld _ _ _ _ _ (pv 0) rfl) rfl) (pv 1) (fun _ _ => rfl)) rfl (.inl rfl)) (@pss_cons _ _ _ _ _ (@ps_set _ _ (3) _ _ _ _ sc_Jumps_middle_after.nd rfl (Or.inl rfl) (@pe_ix _ _ _ _ _ _ _ (@ix_list _) (@pe_fld _ _ _ _ _ (@pe_fld _ _ _ _ _ (pv 0) rfl) rfl) (@pe_ix _ _ _ _ _ _ _ (@ix_tup _) (pv 2) (@pe_int _ _ _ _) (fun _ _ => rfl)) (fun _ _ => rfl)) rfl (.inl rfl)) (@pss_cons _ _ _ _ _ (@ps_set _ _ (4) _ _ _ _ sc_Jumps_middle_after.nd rfl (Or.inl rfl) (@pe_ix _ _ _ _ _ _ _ (@ix_list _) (@pe_fld _ _ _ _ _ (@pe_fld _ _ _ _ _ (pv 0) rfl) rfl) (@pe_ix _ _ _ _ _ _ _ (@ix_tup _) (pv 2) (@pe_int _ _ _ _) (fun _ _ => rfl)) (fun _ _ => rfl)) rfl (.inl rfl)) (@pss_cons _ _ _ _ _ (@ps_set _ _ (5) _ _ _ _ sc_Jumps_middle_after.nd rfl (Or.inl rfl) (@pe_ix _ _ _ _ _ _ _ (@ix_list _) (@pe_fld _ _ _ _ _ (@pe_fld _ _ _ _ _ (pv 0) rfl) rfl) (@pe_ix _ _ _ _ _ _ _ (@ix_tup _) (pv 2) (@pe_int _ _ _ _) (fun _ _ => rfl)) (fun _ _ => rfl)) rfl (.inl rfl)) (@pss_cons _ _ _ _ _ (@ps_set _ _ (6) _ _ _ _ sc_Jumps_middle_after.nd rfl (Or.inl rfl) (@pe_ix _ _ _ _ _ _ _ (@ix_list _) (@pe_fld _ _ _ _ _ (@pe_fld _ _ _ _ _ (pv 0) rfl) rfl) (@pe_ix _ _ _ _ _ _ _ (@ix_tup _) (pv 2) (@pe_int _ _ _ _) (fun _ _ => rfl)) (fun _ _ => rfl)) rfl (.inl rfl)) (@pss_one _ _ _ (@ps_ret _ _ _ _ (@pe_calm _ _ _ _ _ _ _ _ _ _ _ _ _ _ _ _ (@pe_fld _ _ _ _ _ (pv 0) rfl) M_Grove_linked (rm hr) pass0 (@pa_tup _ _ _ _ _ _ _ (@pa_cons _ _ _ _ _ (@pe_calm _ _ _ _ _ _ _ _ _ _ _ _ _ _ _ _ (pv 0) M_Jumps_cell_after (rm hr) pass0 (@pa_tup _ _ _ _ _ _ _ (@pa_cons _ _ _ _ _ (@pe_ix _ _ _ _ _ _ _ (@ix_tup _) (pv 3) (@pe_int _ _ _ _) (fun _ _ => rfl)) (@pa_cons _ _ _ _ _ (@pe_ix _ _ _ _ _ _ _ (@ix_tup _) (pv 3) (@pe_int _ _ _ _) (fun _ _ => rfl)) (@pa_cons _ _ _ _ _ (@pe_ix _ _ _ _ _ _ _ (@ix_tup _) (pv 3) (@pe_int _ _ _ _) (fun _ _ => rfl)) (@pa_cons _ _ _ _ _ (@pe_ix _ _ _ _ _ _ _ (@ix_tup _) (pv 4) (@pe_int _ _ _ _) (fun _ _ => rfl)) (@pa_cons _ _ _ _ _ (@pe_ix _ _ _ _ _ _ _ (@ix_tup _) (pv 3) (@pe_int _ _ _ _) (fun _ _ => rfl)) (@pa_cons _ _ _ _ _ (@pe_ix _ _ _ _ _ _ _ (@ix_tup _) (pv 4) (@pe_int _ _ _ _) (fun _ _ => rfl)) (@pa_cons _ _ _ _ _ (@pe_ix _ _ _ _ _ _ _ (@ix_tup _) (pv 5) (@pe_int _ _ _ _) (fun _ _ => rfl)) (@pa_cons _ _ _ _ _ (@pe_ix _ _ _ _ _ _ _ (@ix_tup _) (pv 5) (@pe_int _ _ _ _) (fun _ _ => rfl)) (@pa_cons _ _ _ _ _ (@pe_ix _ _ _ _ _ _ _ (@ix_tup _) (pv 6) (@pe_int _ _ _ _) (fun _ _ => rfl)) (@pa_nil _) rfl) rfl) rfl) rfl) rfl) rfl) rfl) rfl) rfl) (@pa_nil _)) rfl rfl rfl) (@pa_cons _ _ _ _ _ (@pe_calm _ _ _ _ _ _ _ _ _ _ _ _ _ _ _ _ (pv 0) M_Jumps_cell_after (rm hr) pass0 (@pa_tup _ _ _ _ _ _ _ (@pa_cons _ _ _ _ _ (@pe_ix _ _ _ _ _ _ _ (@ix_tup _) (pv 4) (@pe_int _ _ _ _) (fun _ _ => rfl)) (@pa_cons _ _ _ _ _ (@pe_ix _ _ _ _ _ _ _ (@ix_tup _) (pv 3) (@pe_int _ _ _ _) (fun _ _ => rfl)) (@pa_cons _ _ _ _ _ (@pe_ix _ _ _ _ _ _ _ (@ix_tup _) (pv 4) (@pe_int _ _ _ _) (fun _ _ => rfl)) (@pa_cons _ _ _ _ _ (@pe_ix _ _ _ _ _ _ _ (@ix_tup _) (pv 4) (@pe_int _ _ _ _) (fun _ _ => rfl)) (@pa_cons _ _ _ _ _ (@pe_ix _ _ _ _ _ _ _ (@ix_tup _) (pv 3) (@pe_int _ _ _ _) (fun _ _ => rfl)) (@pa_cons _ _ _ _ _ (@pe_ix _ _ _ _ _ _ _ (@ix_tup _) (pv 4) (@pe_int _ _ _ _) (fun _ _ => rfl)) (@pa_cons _ _ _ _ _ (@pe_ix _ _ _ _ _ _ _ (@ix_tup _) (pv 5) (@pe_int _ _ _ _) (fun _ _ => rfl)) (@pa_cons _ _ _ _ _ (@pe_ix _ _ _ _ _ _ _ (@ix_tup _) (pv 6) (@pe_int _ _ _ _) (fun _ _ => rfl)) (@pa_cons _ _ _ _ _ (@pe_ix _ _ _ _ _ _ _ (@ix_tup _) (pv 6) (@pe_int _ _ _ _) (fun _ _ => rfl)) (@pa_nil _) rfl) rfl) rfl) rfl) rfl) rfl) rfl) rfl) rfl) (@pa_nil _)) rfl rfl rfl) (@pa_cons _ _ _ _ _ (@pe_calm _ _ _ _ _ _ _ _ _ _ _ _ _ _ _ _ (pv 0) M_Jumps_cell_after (rm hr) pass0 (@pa_tup _ _ _ _ _ _ _ (@pa_cons _ _ _ _ _ (@pe_ix _ _ _ _ _ _ _ (@ix_tup _) (pv 5) (@pe_int _ _ _ _) (fun _ _ => rfl)) (@pa_cons _ _ _ _ _ (@pe_ix _ _ _ _ _ _ _ (@ix_tup _) (pv 3) (@pe_int _ _ _ _) (fun _ _ => rfl)) (@pa_cons _ _ _ _ _ (@pe_ix _ _ _ _ _ _ _ (@ix_tup _) (pv 3) (@pe_int _ _ _ _) (fun _ _ => rfl)) (@pa_cons _ _ _ _ _ (@pe_ix _ _ _ _ _ _ _ (@ix_tup _) (pv 4) (@pe_int _ _ _ _) (fun _ _ => rfl)) (@pa_cons _ _ _ _ _ (@pe_ix _ _ _ _ _ _ _ (@ix_tup _) (pv 5) (@pe_int _ _ _ _) (fun _ _ => rfl)) (@pa_cons _ _ _ _ _ (@pe_ix _ _ _ _ _ _ _ (@ix_tup _) (pv 6) (@pe_int _ _ _ _) (fun _ _ => rfl)) (@pa_cons _ _ _ _ _ (@pe_ix _ _ _ _ _ _ _ (@ix_tup _) (pv 5) (@pe_int _ _ _ _) (fun _ _ => rfl)) (@pa_cons _ _ _ _ _ (@pe_ix _ _ _ _ _ _ _ (@ix_tup _) (pv 5) (@pe_int _ _ _ _) (fun _ _ => rfl)) (@pa_cons _ _ _ _ _ (@pe_ix _ _ _ _ _ _ _ (@ix_tup _) (pv 6) (@pe_int _ _ _ _) (fun _ _ => rfl)) (@pa_nil _) rfl) rfl) rfl) rfl) rfl) rfl) rfl) rfl) rfl) (@pa_nil _)) rfl rfl rfl) (@pa_cons _ _ _ _ _ (@pe_calm _ _ _ _ _ _ _ _ _ _ _ _ _ _ _ _ (pv 0) M_Jumps_cell_after (rm hr) pass0 (@pa_tup _ _ _ _ _ _ _ (@pa_cons _ _ _ _ _ (@pe_ix _ _ _ _ _ _ _ (@ix_tup _) (pv 6) (@pe_int _ _ _ _) (fun _ _ => rfl)) (@pa_cons _ _ _ _ _ (@pe_ix _ _ _ _ _ _ _ (@ix_tup _) (pv 3) (@pe_int _ _ _ _) (fun _ _ => rfl)) (@pa_cons _ _ _ _ _ (@pe_ix _ _ _ _ _ _ _ (@ix_tup _) (pv 4) (@pe_int _ _ _ _) (fun _ _ => rfl)) (@pa_cons _ _ _ _ _ (@pe_ix _ _ _ _ _ _ _ (@ix_tup _) (pv 4) (@pe_int _ _ _ _) (fun _ _ => rfl)) (@pa_cons _ _ _ _ _ (@pe_ix _ _ _ _ _ _ _ (@ix_tup _) (pv 5) (@pe_int _ _ _ _) (fun _ _ => rfl)) (@pa_cons _ _ _ _ _ (@pe_ix _ _ _ _ _ _ _ (@ix_tup _) (pv 6) (@pe_int _ _ _ _) (fun _ _ => rfl)) (@pa_cons _ _ _ _ _ (@pe_ix _ _ _ _ _ _ _ (@ix_tup _) (pv 5) (@pe_int _ _ _ _) (fun _ _ => rfl)) (@pa_cons _ _ _ _ _ (@pe_ix _ _ _ _ _ _ _ (@ix_tup _) (pv 6) (@pe_int _ _ _ _) (fun _ _ => rfl)) (@pa_cons _ _ _ _ _ (@pe_ix _ _ _ _ _ _ _ (@ix_tup _) (pv 6) (@pe_int _ _ _ _) (fun _ _ => rfl)) (@pa_nil _) rfl) rfl) rfl) rfl) rfl) rfl) rfl) rfl) rfl) (@pa_nil _)) rfl rfl rfl) (@pa_nil _) rfl) rfl) rfl) rfl) (@pa_nil _)) rfl rfl rfl)))))))), ?_⟩
  try dsimp only [cxK]
  refine ⟨_, rfl, p, _, dx, _, _, rfl, hj.hp, T.cl_Jumps, T.na_Jumps_grove, jf5_gr _ _ _ _ _, g.p, _, g.dx, _, _, rfl, hj.gr.hp, T.cl_Grove, T.na_Grove_parts, fl6_pt g, _, rfl, g.pt, _, (n : Int), .ref t, rfl, rfl, SqL.of h3, atI_nat (by rw [List.getElem?_map, et]; rfl), ?_⟩
  refine ⟨_, rfl, p, _, dx, _, _, rfl, hj.hp, T.cl_Jumps, T.na_Jumps_grove, jf5_gr _ _ _ _ _, g.p, _, g.dx, _, _, rfl, hj.gr.hp, T.cl_Grove, T.na_Grove_parts, fl6_pt g, _, rfl, t, _, 0, .int (qa : Int), rfl, rfl, SqT.of ht, atI_nat (j := 0) rfl, g.pt, _, (qa : Int), .ref ta, rfl, rfl, SqL.of h3, atI_nat (by rw [List.getElem?_map, eta]; rfl), ?_⟩
  refine ⟨_, rfl, p, _, dx, _, _, rfl, hj.hp, T.cl_Jumps, T.na_Jumps_grove, jf5_gr _ _ _ _ _, g.p, _, g.dx, _, _, rfl, hj.gr.hp, T.cl_Grove, T.na_Grove_parts, fl6_pt g, _, rfl, t, _, 1, .int (qb : Int), rfl, rfl, SqT.of ht, atI_nat (j := 1) rfl, g.pt, _, (qb : Int), .ref tb, rfl, rfl, SqL.of h3, atI_nat (by rw [List.getElem?_map, etb]; rfl), ?_⟩
  refine ⟨_, rfl, p, _, dx, _, _, rfl, hj.hp, T.cl_Jumps, T.na_Jumps_grove, jf5_gr _ _ _ _ _, g.p, _, g.dx, _, _, rfl, hj.gr.hp, T.cl_Grove, T.na_Grove_parts, fl6_pt g, _, rfl, t, _, 2, .int (qc : Int), rfl, rfl, SqT.of ht, atI_nat (j := 2) rfl, g.pt, _, (qc : Int), .ref tc, rfl, rfl, SqL.of h3, atI_nat (by rw [List.getElem?_map, etc]; rfl), ?_⟩
  refine ⟨_, rfl, p, _, dx, _, _, rfl, hj.hp, T.cl_Jumps, T.na_Jumps_grove, jf5_gr _ _ _ _ _, g.p, _, g.dx, _, _, rfl, hj.gr.hp, T.cl_Grove, T.na_Grove_parts, fl6_pt g, _, rfl, t, _, 3, .int (qd : Int), rfl, rfl, SqT.of ht, atI_nat (j := 3) rfl, g.pt, _, (qd : Int), .ref td, rfl, rfl, SqL.of h3, atI_nat (by rw [List.getElem?_map, etd]; rfl), ?_⟩
  refine ⟨_, rfl, p, _, dx, _, _, rfl, hj.hp, T.cl_Jumps, T.na_Jumps_grove, jf5_gr _ _ _ _ _, g.p, g.dx, _, rfl, hj.gr.hp, no_linked g, ?_⟩
  have st : ∀ {x : Nat}, LevAt G x ((0 : Nat) : Int) -> stOk (x : Int) := fun {x} h => by
   have := hj.ok.cell h
   exact ⟨by lia, by lia⟩
  obtain ⟨k0, ek0, kl0⟩ : ∃ k : Nat, becA r (a3 : Int) [(a0 : Int), (a1 : Int), (b0 : Int), (a2 : Int), (b2 : Int), (c0 : Int), (c1 : Int), (d0 : Int)] = (k : Int) /\ k < 8 := by
   obtain ⟨z1, z2⟩ := bec_st hj.rok (st la3) [(a0 : Int), (a1 : Int), (b0 : Int), (a2 : Int), (b2 : Int), (c0 : Int), (c1 : Int), (d0 : Int)]
   obtain ⟨k, e⟩ := Int.eq_ofNat_of_zero_le z1
   exact ⟨k, e, by lia⟩
  obtain ⟨k1, ek1, kl1⟩ : ∃ k : Nat, becA r (b2 : Int) [(a1 : Int), (b0 : Int), (b1 : Int), (a3 : Int), (b3 : Int), (c1 : Int), (d0 : Int), (d1 : Int)] = (k : Int) /\ k < 8 := by
   obtain ⟨z1, z2⟩ := bec_st hj.rok (st lb2) [(a1 : Int), (b0 : Int), (b1 : Int), (a3 : Int), (b3 : Int), (c1 : Int), (d0 : Int), (d1 : Int)]
   obtain ⟨k, e⟩ := Int.eq_ofNat_of_zero_le z1
   exact ⟨k, e, by lia⟩
  obtain ⟨k2, ek2, kl2⟩ : ∃ k : Nat, becA r (c1 : Int) [(a2 : Int), (a3 : Int), (b2 : Int), (c0 : Int), (d0 : Int), (c2 : Int), (c3 : Int), (d2 : Int)] = (k : Int) /\ k < 8 := by
   obtain ⟨z1, z2⟩ := bec_st hj.rok (st lc1) [(a2 : Int), (a3 : Int), (b2 : Int), (c0 : Int), (d0 : Int), (c2 : Int), (c3 : Int), (d2 : Int)]
   obtain ⟨k, e⟩ := Int.eq_ofNat_of_zero_le z1
   exact ⟨k, e, by lia⟩
  obtain ⟨k3, ek3, kl3⟩ : ∃ k : Nat, becA r (d0 : Int) [(a3 : Int), (b2 : Int), (b3 : Int), (c1 : Int), (d1 : Int), (c3 : Int), (d2 : Int), (d3 : Int)] = (k : Int) /\ k < 8 := by
   obtain ⟨z1, z2⟩ := bec_st hj.rok (st ld0) [(a3 : Int), (b2 : Int), (b3 : Int), (c1 : Int), (d1 : Int), (c3 : Int), (d2 : Int), (d3 : Int)]
   obtain ⟨k, e⟩ := Int.eq_ofNat_of_zero_le z1
   exact ⟨k, e, by lia⟩
  refine ⟨_, rfl, p, dx, _, rfl, hj.hp, noJ_cell _ _ _ _ _, _, rfl, ta, _, 3, .int (a3 : Int), rfl, rfl, SqT.of hta, atI_nat (j := 3) rfl, _, rfl, ta, _, 0, .int (a0 : Int), rfl, rfl, SqT.of hta, atI_nat (j := 0) rfl, _, rfl, ta, _, 1, .int (a1 : Int), rfl, rfl, SqT.of hta, atI_nat (j := 1) rfl, _, rfl, tb, _, 0, .int (b0 : Int), rfl, rfl, SqT.of htb, atI_nat (j := 0) rfl, _, rfl, ta, _, 2, .int (a2 : Int), rfl, rfl, SqT.of hta, atI_nat (j := 2) rfl, _, rfl, tb, _, 2, .int (b2 : Int), rfl, rfl, SqT.of htb, atI_nat (j := 2) rfl, _, rfl, tc, _, 0, .int (c0 : Int), rfl, rfl, SqT.of htc, atI_nat (j := 0) rfl, _, rfl, tc, _, 1, .int (c1 : Int), rfl, rfl, SqT.of htc, atI_nat (j := 1) rfl, _, rfl, td, _, 0, .int (d0 : Int), rfl, rfl, SqT.of htd, atI_nat (j := 0) rfl, (by show 9 <= sizeLine; decide), fun u0 hu0 => ?_⟩
  have s0 := same_upd (o := .tup [.int (a3 : Int), .int (a0 : Int), .int (a1 : Int), .int (b0 : Int), .int (a2 : Int), .int (b2 : Int), .int (c0 : Int), .int (c1 : Int), .int (d0 : Int)]) hu0
  have hv0 : upd H u0 (.tup [.int (a3 : Int), .int (a0 : Int), .int (a1 : Int), .int (b0 : Int), .int (a2 : Int), .int (b2 : Int), .int (c0 : Int), .int (c1 : Int), .int (d0 : Int)]) u0 = some (.tup [.int (a3 : Int), .int (a0 : Int), .int (a1 : Int), .int (b0 : Int), .int (a2 : Int), .int (b2 : Int), .int (c0 : Int), .int (c1 : Int), .int (d0 : Int)]) := upd_same
  generalize upd H u0 (.tup [.int (a3 : Int), .int (a0 : Int), .int (a1 : Int), .int (b0 : Int), .int (a2 : Int), .int (b2 : Int), .int (c0 : Int), .int (c1 : Int), .int (d0 : Int)]) = X0 at s0 hv0 ⊢
  have i0 := hj.same s0
  have sts0 : ∀ x ∈ ([(a3 : Int), (a0 : Int), (a1 : Int), (b0 : Int), (a2 : Int), (b2 : Int), (c0 : Int), (c1 : Int), (d0 : Int)] : List Int), stOk x := by
   intro x hx
   simp only [List.mem_cons, List.not_mem_nil, or_false] at hx
   rcases hx with rfl | rfl | rfl | rfl | rfl | rfl | rfl | rfl | rfl
   ·exact st la3
   ·exact st la0
   ·exact st la1
   ·exact st lb0
   ·exact st la2
   ·exact st lb2
   ·exact st lc0
   ·exact st lc1
   ·exact st ld0
  refine ⟨p, dx, mem, pr, u0, g, G, N, M, r, m, (a3 : Int), [(a0 : Int), (a1 : Int), (b0 : Int), (a2 : Int), (b2 : Int), (c0 : Int), (c1 : Int), (d0 : Int)], rfl, i0, hv0, rfl, sts0, by lia, fun Y0 fr0 hj0 => ?_⟩
  have nk0 : ∀ {b : Addr} {xs : List V}, X0 b = some (.tup xs) -> Y0 b = some (.tup xs) := fun {b xs} e => by
   obtain ⟨kc, c1, _⟩ := i0.me.ce
   exact fr0 _ _ e (ne_of e c1 (by intro z; cases z))
  have hta0 := nk0 (s0 _ _ hta)
  have htb0 := nk0 (s0 _ _ htb)
  have htc0 := nk0 (s0 _ _ htc)
  have htd0 := nk0 (s0 _ _ htd)
  have f0 : FrJ g m H Y0 := fun b o e _ _ _ n4 _ => fr0 _ _ (s0 _ _ e) n4
  refine ⟨_, rfl, p, dx, _, rfl, hj0.hp, noJ_cell _ _ _ _ _, _, rfl, tb, _, 2, .int (b2 : Int), rfl, rfl, SqT.of htb0, atI_nat (j := 2) rfl, _, rfl, ta, _, 1, .int (a1 : Int), rfl, rfl, SqT.of hta0, atI_nat (j := 1) rfl, _, rfl, tb, _, 0, .int (b0 : Int), rfl, rfl, SqT.of htb0, atI_nat (j := 0) rfl, _, rfl, tb, _, 1, .int (b1 : Int), rfl, rfl, SqT.of htb0, atI_nat (j := 1) rfl, _, rfl, ta, _, 3, .int (a3 : Int), rfl, rfl, SqT.of hta0, atI_nat (j := 3) rfl, _, rfl, tb, _, 3, .int (b3 : Int), rfl, rfl, SqT.of htb0, atI_nat (j := 3) rfl, _, rfl, tc, _, 1, .int (c1 : Int), rfl, rfl, SqT.of htc0, atI_nat (j := 1) rfl, _, rfl, td, _, 0, .int (d0 : Int), rfl, rfl, SqT.of htd0, atI_nat (j := 0) rfl, _, rfl, td, _, 1, .int (d1 : Int), rfl, rfl, SqT.of htd0, atI_nat (j := 1) rfl, (by show 9 <= sizeLine; decide), fun u1 hu1 => ?_⟩
  have s1 := same_upd (o := .tup [.int (b2 : Int), .int (a1 : Int), .int (b0 : Int), .int (b1 : Int), .int (a3 : Int), .int (b3 : Int), .int (c1 : Int), .int (d0 : Int), .int (d1 : Int)]) hu1
  have hv1 : upd Y0 u1 (.tup [.int (b2 : Int), .int (a1 : Int), .int (b0 : Int), .int (b1 : Int), .int (a3 : Int), .int (b3 : Int), .int (c1 : Int), .int (d0 : Int), .int (d1 : Int)]) u1 = some (.tup [.int (b2 : Int), .int (a1 : Int), .int (b0 : Int), .int (b1 : Int), .int (a3 : Int), .int (b3 : Int), .int (c1 : Int), .int (d0 : Int), .int (d1 : Int)]) := upd_same
  generalize upd Y0 u1 (.tup [.int (b2 : Int), .int (a1 : Int), .int (b0 : Int), .int (b1 : Int), .int (a3 : Int), .int (b3 : Int), .int (c1 : Int), .int (d0 : Int), .int (d1 : Int)]) = X1 at s1 hv1 ⊢
  have i1 := hj0.same s1
  have sts1 : ∀ x ∈ ([(b2 : Int), (a1 : Int), (b0 : Int), (b1 : Int), (a3 : Int), (b3 : Int), (c1 : Int), (d0 : Int), (d1 : Int)] : List Int), stOk x := by
   intro x hx
   simp only [List.mem_cons, List.not_mem_nil, or_false] at hx
   rcases hx with rfl | rfl | rfl | rfl | rfl | rfl | rfl | rfl | rfl
   ·exact st lb2
   ·exact st la1
   ·exact st lb0
   ·exact st lb1
   ·exact st la3
   ·exact st lb3
   ·exact st lc1
   ·exact st ld0
   ·exact st ld1
  refine ⟨p, dx, mem, pr, u1, g, G, N, (M + 1), r, m, (b2 : Int), [(a1 : Int), (b0 : Int), (b1 : Int), (a3 : Int), (b3 : Int), (c1 : Int), (d0 : Int), (d1 : Int)], rfl, i1, hv1, rfl, sts1, by lia, fun Y1 fr1 hj1 => ?_⟩
  have nk1 : ∀ {b : Addr} {xs : List V}, X1 b = some (.tup xs) -> Y1 b = some (.tup xs) := fun {b xs} e => by
   obtain ⟨kc, c1, _⟩ := i1.me.ce
   exact fr1 _ _ e (ne_of e c1 (by intro z; cases z))
  have hta1 := nk1 (s1 _ _ hta0)
  have htb1 := nk1 (s1 _ _ htb0)
  have htc1 := nk1 (s1 _ _ htc0)
  have htd1 := nk1 (s1 _ _ htd0)
  have f1 : FrJ g m Y0 Y1 := fun b o e _ _ _ n4 _ => fr1 _ _ (s1 _ _ e) n4
  refine ⟨_, rfl, p, dx, _, rfl, hj1.hp, noJ_cell _ _ _ _ _, _, rfl, tc, _, 1, .int (c1 : Int), rfl, rfl, SqT.of htc1, atI_nat (j := 1) rfl, _, rfl, ta, _, 2, .int (a2 : Int), rfl, rfl, SqT.of hta1, atI_nat (j := 2) rfl, _, rfl, ta, _, 3, .int (a3 : Int), rfl, rfl, SqT.of hta1, atI_nat (j := 3) rfl, _, rfl, tb, _, 2, .int (b2 : Int), rfl, rfl, SqT.of htb1, atI_nat (j := 2) rfl, _, rfl, tc, _, 0, .int (c0 : Int), rfl, rfl, SqT.of htc1, atI_nat (j := 0) rfl, _, rfl, td, _, 0, .int (d0 : Int), rfl, rfl, SqT.of htd1, atI_nat (j := 0) rfl, _, rfl, tc, _, 2, .int (c2 : Int), rfl, rfl, SqT.of htc1, atI_nat (j := 2) rfl, _, rfl, tc, _, 3, .int (c3 : Int), rfl, rfl, SqT.of htc1, atI_nat (j := 3) rfl, _, rfl, td, _, 2, .int (d2 : Int), rfl, rfl, SqT.of htd1, atI_nat (j := 2) rfl, (by show 9 <= sizeLine; decide), fun u2 hu2 => ?_⟩
  have s2 := same_upd (o := .tup [.int (c1 : Int), .int (a2 : Int), .int (a3 : Int), .int (b2 : Int), .int (c0 : Int), .int (d0 : Int), .int (c2 : Int), .int (c3 : Int), .int (d2 : Int)]) hu2
  have hv2 : upd Y1 u2 (.tup [.int (c1 : Int), .int (a2 : Int), .int (a3 : Int), .int (b2 : Int), .int (c0 : Int), .int (d0 : Int), .int (c2 : Int), .int (c3 : Int), .int (d2 : Int)]) u2 = some (.tup [.int (c1 : Int), .int (a2 : Int), .int (a3 : Int), .int (b2 : Int), .int (c0 : Int), .int (d0 : Int), .int (c2 : Int), .int (c3 : Int), .int (d2 : Int)]) := upd_same
  generalize upd Y1 u2 (.tup [.int (c1 : Int), .int (a2 : Int), .int (a3 : Int), .int (b2 : Int), .int (c0 : Int), .int (d0 : Int), .int (c2 : Int), .int (c3 : Int), .int (d2 : Int)]) = X2 at s2 hv2 ⊢
  have i2 := hj1.same s2
  have sts2 : ∀ x ∈ ([(c1 : Int), (a2 : Int), (a3 : Int), (b2 : Int), (c0 : Int), (d0 : Int), (c2 : Int), (c3 : Int), (d2 : Int)] : List Int), stOk x := by
   intro x hx
   simp only [List.mem_cons, List.not_mem_nil, or_false] at hx
   rcases hx with rfl | rfl | rfl | rfl | rfl | rfl | rfl | rfl | rfl
   ·exact st lc1
   ·exact st la2
   ·exact st la3
   ·exact st lb2
   ·exact st lc0
   ·exact st ld0
   ·exact st lc2
   ·exact st lc3
   ·exact st ld2
  refine ⟨p, dx, mem, pr, u2, g, G, N, ((M + 1) + 1), r, m, (c1 : Int), [(a2 : Int), (a3 : Int), (b2 : Int), (c0 : Int), (d0 : Int), (c2 : Int), (c3 : Int), (d2 : Int)], rfl, i2, hv2, rfl, sts2, by lia, fun Y2 fr2 hj2 => ?_⟩
  have nk2 : ∀ {b : Addr} {xs : List V}, X2 b = some (.tup xs) -> Y2 b = some (.tup xs) := fun {b xs} e => by
   obtain ⟨kc, c1, _⟩ := i2.me.ce
   exact fr2 _ _ e (ne_of e c1 (by intro z; cases z))
  have hta2 := nk2 (s2 _ _ hta1)
  have htb2 := nk2 (s2 _ _ htb1)
  have htc2 := nk2 (s2 _ _ htc1)
  have htd2 := nk2 (s2 _ _ htd1)
  have f2 : FrJ g m Y1 Y2 := fun b o e _ _ _ n4 _ => fr2 _ _ (s2 _ _ e) n4
  refine ⟨_, rfl, p, dx, _, rfl, hj2.hp, noJ_cell _ _ _ _ _, _, rfl, td, _, 0, .int (d0 : Int), rfl, rfl, SqT.of htd2, atI_nat (j := 0) rfl, _, rfl, ta, _, 3, .int (a3 : Int), rfl, rfl, SqT.of hta2, atI_nat (j := 3) rfl, _, rfl, tb, _, 2, .int (b2 : Int), rfl, rfl, SqT.of htb2, atI_nat (j := 2) rfl, _, rfl, tb, _, 3, .int (b3 : Int), rfl, rfl, SqT.of htb2, atI_nat (j := 3) rfl, _, rfl, tc, _, 1, .int (c1 : Int), rfl, rfl, SqT.of htc2, atI_nat (j := 1) rfl, _, rfl, td, _, 1, .int (d1 : Int), rfl, rfl, SqT.of htd2, atI_nat (j := 1) rfl, _, rfl, tc, _, 3, .int (c3 : Int), rfl, rfl, SqT.of htc2, atI_nat (j := 3) rfl, _, rfl, td, _, 2, .int (d2 : Int), rfl, rfl, SqT.of htd2, atI_nat (j := 2) rfl, _, rfl, td, _, 3, .int (d3 : Int), rfl, rfl, SqT.of htd2, atI_nat (j := 3) rfl, (by show 9 <= sizeLine; decide), fun u3 hu3 => ?_⟩
  have s3 := same_upd (o := .tup [.int (d0 : Int), .int (a3 : Int), .int (b2 : Int), .int (b3 : Int), .int (c1 : Int), .int (d1 : Int), .int (c3 : Int), .int (d2 : Int), .int (d3 : Int)]) hu3
  have hv3 : upd Y2 u3 (.tup [.int (d0 : Int), .int (a3 : Int), .int (b2 : Int), .int (b3 : Int), .int (c1 : Int), .int (d1 : Int), .int (c3 : Int), .int (d2 : Int), .int (d3 : Int)]) u3 = some (.tup [.int (d0 : Int), .int (a3 : Int), .int (b2 : Int), .int (b3 : Int), .int (c1 : Int), .int (d1 : Int), .int (c3 : Int), .int (d2 : Int), .int (d3 : Int)]) := upd_same
  generalize upd Y2 u3 (.tup [.int (d0 : Int), .int (a3 : Int), .int (b2 : Int), .int (b3 : Int), .int (c1 : Int), .int (d1 : Int), .int (c3 : Int), .int (d2 : Int), .int (d3 : Int)]) = X3 at s3 hv3 ⊢
  have i3 := hj2.same s3
  have sts3 : ∀ x ∈ ([(d0 : Int), (a3 : Int), (b2 : Int), (b3 : Int), (c1 : Int), (d1 : Int), (c3 : Int), (d2 : Int), (d3 : Int)] : List Int), stOk x := by
   intro x hx
   simp only [List.mem_cons, List.not_mem_nil, or_false] at hx
   rcases hx with rfl | rfl | rfl | rfl | rfl | rfl | rfl | rfl | rfl
   ·exact st ld0
   ·exact st la3
   ·exact st lb2
   ·exact st lb3
   ·exact st lc1
   ·exact st ld1
   ·exact st lc3
   ·exact st ld2
   ·exact st ld3
  refine ⟨p, dx, mem, pr, u3, g, G, N, (((M + 1) + 1) + 1), r, m, (d0 : Int), [(a3 : Int), (b2 : Int), (b3 : Int), (c1 : Int), (d1 : Int), (c3 : Int), (d2 : Int), (d3 : Int)], rfl, i3, hv3, rfl, sts3, by lia, fun Y3 fr3 hj3 => ?_⟩
  have nk3 : ∀ {b : Addr} {xs : List V}, X3 b = some (.tup xs) -> Y3 b = some (.tup xs) := fun {b xs} e => by
   obtain ⟨kc, c1, _⟩ := i3.me.ce
   exact fr3 _ _ e (ne_of e c1 (by intro z; cases z))
  have hta3 := nk3 (s3 _ _ hta2)
  have htb3 := nk3 (s3 _ _ htb2)
  have htc3 := nk3 (s3 _ _ htc2)
  have htd3 := nk3 (s3 _ _ htd2)
  have f3 : FrJ g m Y2 Y3 := fun b o e _ _ _ n4 _ => fr3 _ _ (s3 _ _ e) n4
  rw [ek0, ek1, ek2, ek3]
  refine ⟨(by show 4 <= sizeLine; decide), fun u hu => ?_⟩
  have su : Same Y3 (upd Y3 u (.tup [.int (k0 : Int), .int (k1 : Int), .int (k2 : Int), .int (k3 : Int)])) := same_upd hu
  have hv : upd Y3 u (.tup [.int (k0 : Int), .int (k1 : Int), .int (k2 : Int), .int (k3 : Int)]) u = some (.tup [.int (k0 : Int), .int (k1 : Int), .int (k2 : Int), .int (k3 : Int)]) := upd_same
  have i := hj3.same su
  have lf : ∀ {k : Nat}, k < 8 -> LevAt G k ((0 : Nat) : Int) := fun {k} h => ⟨_, hj.ok.leaf k h, rfl⟩
  refine ⟨g, G, u, k0, k1, k2, k3, ((0 : Nat) : Int), rfl, i.gr, i.ok, hv, ⟨lf kl0, lf kl1, lf kl2, lf kl3⟩, by decide, by lia, fun x G' H' fr hg' go e => ?_⟩
  refine k x G' H' ((f0.trans (f1.trans (f2.trans f3))).trans ((Same.j su).trans fr.j)) (i.fr fr hg' go) go ⟨0, go.lev hl, Nat.le_refl 0, ⟨_, e, rfl⟩, ?_⟩
  have ga := qO_of (go.get ea)
  have gb := qO_of (go.get eb)
  have gc := qO_of (go.get ec)
  have gd := qO_of (go.get ed)
  obtain ⟨w0, w1, w2, w3⟩ := qO_of (go.get en)
  obtain ⟨v0, v1, v2, v3⟩ := qO_of e
  have z00 : celI G' 2 n 0 0 = (a0 : Int) := by
   show ((qO G' (qO G' n 0) 0 : Nat) : Int) = _
   rw [w0, ga.1]
  have z10 : celI G' 2 n 1 0 = (a1 : Int) := by
   show ((qO G' (qO G' n 0) 1 : Nat) : Int) = _
   rw [w0, ga.2.1]
  have z20 : celI G' 2 n 2 0 = (b0 : Int) := by
   show ((qO G' (qO G' n 1) 0 : Nat) : Int) = _
   rw [w1, gb.1]
  have z30 : celI G' 2 n 3 0 = (b1 : Int) := by
   show ((qO G' (qO G' n 1) 1 : Nat) : Int) = _
   rw [w1, gb.2.1]
  have z01 : celI G' 2 n 0 1 = (a2 : Int) := by
   show ((qO G' (qO G' n 0) 2 : Nat) : Int) = _
   rw [w0, ga.2.2.1]
  have z11 : celI G' 2 n 1 1 = (a3 : Int) := by
   show ((qO G' (qO G' n 0) 3 : Nat) : Int) = _
   rw [w0, ga.2.2.2]
  have z21 : celI G' 2 n 2 1 = (b2 : Int) := by
   show ((qO G' (qO G' n 1) 2 : Nat) : Int) = _
   rw [w1, gb.2.2.1]
  have z31 : celI G' 2 n 3 1 = (b3 : Int) := by
   show ((qO G' (qO G' n 1) 3 : Nat) : Int) = _
   rw [w1, gb.2.2.2]
  have z02 : celI G' 2 n 0 2 = (c0 : Int) := by
   show ((qO G' (qO G' n 2) 0 : Nat) : Int) = _
   rw [w2, gc.1]
  have z12 : celI G' 2 n 1 2 = (c1 : Int) := by
   show ((qO G' (qO G' n 2) 1 : Nat) : Int) = _
   rw [w2, gc.2.1]
  have z22 : celI G' 2 n 2 2 = (d0 : Int) := by
   show ((qO G' (qO G' n 3) 0 : Nat) : Int) = _
   rw [w3, gd.1]
  have z32 : celI G' 2 n 3 2 = (d1 : Int) := by
   show ((qO G' (qO G' n 3) 1 : Nat) : Int) = _
   rw [w3, gd.2.1]
  have z03 : celI G' 2 n 0 3 = (c2 : Int) := by
   show ((qO G' (qO G' n 2) 2 : Nat) : Int) = _
   rw [w2, gc.2.2.1]
  have z13 : celI G' 2 n 1 3 = (c3 : Int) := by
   show ((qO G' (qO G' n 2) 3 : Nat) : Int) = _
   rw [w2, gc.2.2.2]
  have z23 : celI G' 2 n 2 3 = (d2 : Int) := by
   show ((qO G' (qO G' n 3) 2 : Nat) : Int) = _
   rw [w3, gd.2.2.1]
  have z33 : celI G' 2 n 3 3 = (d3 : Int) := by
   show ((qO G' (qO G' n 3) 3 : Nat) : Int) = _
   rw [w3, gd.2.2.2]
  have y0 : celI G' 1 x 0 0 = stpN r 1 (celI G' 2 n) 1 1 := by
   have e1 : celI G' 1 x 0 0 = (k0 : Int) := by
    show ((qO G' x 0 : Nat) : Int) = _
    rw [v0]
   rw [e1]
   show _ = becA r (celI G' 2 n 1 1) [celI G' 2 n 0 0, celI G' 2 n 1 0, celI G' 2 n 2 0, celI G' 2 n 0 1, celI G' 2 n 2 1, celI G' 2 n 0 2, celI G' 2 n 1 2, celI G' 2 n 2 2]
   rw [z11, z00, z10, z20, z01, z21, z02, z12, z22]
   exact ek0.symm
  have y1 : celI G' 1 x 1 0 = stpN r 1 (celI G' 2 n) 2 1 := by
   have e1 : celI G' 1 x 1 0 = (k1 : Int) := by
    show ((qO G' x 1 : Nat) : Int) = _
    rw [v1]
   rw [e1]
   show _ = becA r (celI G' 2 n 2 1) [celI G' 2 n 1 0, celI G' 2 n 2 0, celI G' 2 n 3 0, celI G' 2 n 1 1, celI G' 2 n 3 1, celI G' 2 n 1 2, celI G' 2 n 2 2, celI G' 2 n 3 2]
   rw [z21, z10, z20, z30, z11, z31, z12, z22, z32]
   exact ek1.symm
  have y2 : celI G' 1 x 0 1 = stpN r 1 (celI G' 2 n) 1 2 := by
   have e1 : celI G' 1 x 0 1 = (k2 : Int) := by
    show ((qO G' x 2 : Nat) : Int) = _
    rw [v2]
   rw [e1]
   show _ = becA r (celI G' 2 n 1 2) [celI G' 2 n 0 1, celI G' 2 n 1 1, celI G' 2 n 2 1, celI G' 2 n 0 2, celI G' 2 n 2 2, celI G' 2 n 0 3, celI G' 2 n 1 3, celI G' 2 n 2 3]
   rw [z12, z01, z11, z21, z02, z22, z03, z13, z23]
   exact ek2.symm
  have y3 : celI G' 1 x 1 1 = stpN r 1 (celI G' 2 n) 2 2 := by
   have e1 : celI G' 1 x 1 1 = (k3 : Int) := by
    show ((qO G' x 3 : Nat) : Int) = _
    rw [v3]
   rw [e1]
   show _ = becA r (celI G' 2 n 2 2) [celI G' 2 n 1 1, celI G' 2 n 2 1, celI G' 2 n 3 1, celI G' 2 n 1 2, celI G' 2 n 3 2, celI G' 2 n 1 3, celI G' 2 n 2 3, celI G' 2 n 3 3]
   rw [z22, z11, z21, z31, z12, z32, z13, z23, z33]
   exact ek3.symm
  intro x' y' hx hy
  match x', hx, y', hy with
  | 0, _, 0, _ => exact y0
  | 1, _, 0, _ => exact y1
  | 0, _, 1, _ => exact y2
  | 1, _, 1, _ => exact y3
inductive SpCj (a : Ad) (vs : List V) (H : Hp) (Q : VK) : Prop
 | mk (p dx gp mem pr l kc : Addr) (g : GA) (G : Gv) (n e : Nat) (q : Sq) (_ : vs = [.ref p, .int n, .int e]) (_ : H p = some (.ins a.c_Jumps dx (jf5 g.p mem pr l kc))) (_ : GroveAt a H g G) (_ : G[n]? = some q) (_ : 2 + (e : Int) <= q.lev) (_ : Q .non H) : SpCj a vs H Q
def spCj (a : Ad) : Sp := fun vs H Q _ => SpCj a vs H Q
theorem ok_cj {f : Addr} {fd : FuncData} (F : Fun K "check_jump" "Jumps.check_jump" s_Jumps_check_jump f fd) (T : Top K mg a) (M_Grove_level_of : CalM P w K mg base CX0 3 a.c_Grove "level_of" p_Grove_level_of (spLev a)) (C_is_whole : Cal P w K mg base CX0 1 "is_whole" p_is_whole spIW) : FnOk P w K mg base CX0 4 f fd p_Jumps_check_jump (spCj a) := by
 refine F.ok sc_Jumps_check_jump (fun vs H Q E h => ?_) (fun cdv A outer s H vs Q E hr h => ?_)
 ·obtain ⟨p, dx, gp, mem, pr, l, kc, g, G, n, e, q, rfl, _⟩ := h
  rfl
 ·obtain ⟨p, dx, gp, mem, pr, l, kc, g, G, n, e, q, rfl, hp, hg, eq, hl, k⟩ := h
  refine ⟨_, (@pss_cons _ _ _ _ _ (@ps_set _ _ (3) _ _ _ _ sc_Jumps_check_jump.nd rfl (Or.inl rfl) (@pe_calm _ _ _ _ _ _ _ _ _ _ _ _ _ _ _ _ (@pe_fld _ _ _ _ _ (pv 0) rfl) M_Grove_level_of (rm hr) pass0 (@pa_cons _ _ _ _ _ (pv 1) (@pa_nil _) rfl) rfl rfl rfl) rfl (.inl rfl)) (@pss_cons _ _ _ _ _ (@ps_if _ _ _ _ _ _ _ _ (@pt_cmpR _ _ _ _ _ _ _ _ (@op_lt _) (pv 3) (@pe_gint _ _ _ _ rfl T.k_LEAST_JUMPED (by decide)) (nomark _)) (@pss_one _ _ _ (@ps_never _ _)) (@pss_nil _)) (@pss_one _ _ _ (@ps_if _ _ _ _ _ _ _ _ (@PW.pt _ _ _ (@pw_or _ _ _ _ _ _ _ (@pt_not _ _ _ _ (@pt_val _ _ _ (@pe_cal _ _ _ _ _ _ _ _ _ _ _ _ C_is_whole (rm hr) rfl pass0 (@pa_cons _ _ _ _ _ (pv 2) (@pa_nil _) rfl) (by decide) rfl rfl) (by intro _ ; rfl))) (@pw_or1 _ _ _ _ (@pt_not _ _ _ _ (@pt_chain _ _ _ _ _ _ _ _ _ _ _ _ (@op_le _) (@op_le _) (@pe_int _ _ _ _) (pv 2) (@pe_op _ _ _ _ _ _ _ _ (@op_sub _) (pv 3) (@pe_gint _ _ _ _ rfl T.k_LEAST_JUMPED (by decide))) (by with_unfolding_all rfl)))))) (@pss_one _ _ _ (@ps_never _ _)) (@pss_nil _))))), ?_⟩
  try dsimp only [cxK]
  refine ⟨_, rfl, p, _, dx, _, _, rfl, hp, T.cl_Jumps, T.na_Jumps_grove, jf5_gr _ _ _ _ _, g.p, g.dx, _, rfl, hg.hp, no_levelOf g, _, rfl, g, G, n, q, rfl, hg, eq, ?_⟩
  refine ⟨_, rfl, _, _, rfl, rfl, _, rfl, ?_⟩
  rw [decide_eq_false (by lia : ¬ q.lev < 2)]
  refine iteF ?_
  refine ⟨_, rfl, _, rfl, true, rfl, iteF ⟨_, rfl, _, _, rfl, rfl, _, rfl, ?_⟩⟩
  rw [decide_eq_true (by lia : (0 : Int) <= (e : Int))]
  refine iteT ⟨_, rfl, _, _, rfl, rfl, _, _, rfl, rfl, _, rfl, ?_⟩
  rw [decide_eq_true (by lia : (e : Int) <= q.lev - 2)]
  exact iteF k
end
end J
namespace J
open PySem L2
theorem cel_mod (G : Gv) : ∀ (l n x y i j : Nat), cel G l n (x + 2 ^ l * i) (y + 2 ^ l * j) = cel G l n x y
 | 0, n, x, y, i, j => rfl
 | l + 1, n, x, y, i, j => by
  show cel G l (qO G n (((x + 2 ^ (l + 1) * i) / 2 ^ l) % 2 + 2 * (((y + 2 ^ (l + 1) * j) / 2 ^ l) % 2))) (x + 2 ^ (l + 1) * i) (y + 2 ^ (l + 1) * j) = cel G l (qO G n ((x / 2 ^ l) % 2 + 2 * ((y / 2 ^ l) % 2))) x y
  have p : 0 < 2 ^ l := Nat.pow_pos (by decide)
  have e : ∀ i : Nat, 2 ^ (l + 1) * i = 2 ^ l * (2 * i) := fun i => by rw [Nat.pow_succ, Nat.mul_assoc]
  rw [e i, e j, Nat.add_mul_div_left _ _ p, Nat.add_mul_div_left _ _ p, Nat.add_mul_mod_self_left, Nat.add_mul_mod_self_left]
  exact cel_mod G l _ x y (2 * i) (2 * j)
theorem cel_q (G : Gv) (l n : Nat) {x y i j : Nat} (hx : x < 2 ^ l) (hy : y < 2 ^ l) (hi : i < 2) (hj : j < 2) : celI G (l + 1) n (x + 2 ^ l * i) (y + 2 ^ l * j) = celI G l (qO G n (i + 2 * j)) x y := by
 unfold celI
 show ((cel G l (qO G n (((x + 2 ^ l * i) / 2 ^ l) % 2 + 2 * (((y + 2 ^ l * j) / 2 ^ l) % 2))) (x + 2 ^ l * i) (y + 2 ^ l * j) : Nat) : Int) = _
 have p : 0 < 2 ^ l := Nat.pow_pos (by decide)
 rw [Nat.add_mul_div_left _ _ p, Nat.add_mul_div_left _ _ p, Nat.div_eq_of_lt hx, Nat.div_eq_of_lt hy, Nat.zero_add, Nat.zero_add, Nat.mod_eq_of_lt hi, Nat.mod_eq_of_lt hj, cel_mod]
def Vw (G : Gv) (c : Nat -> Nat -> Int) (l m X Y : Nat) : Prop := ∀ x y, x < 2 ^ l -> y < 2 ^ l -> celI G l m x y = c (x + X) (y + Y)
theorem Vw.q {G : Gv} {c : Nat -> Nat -> Int} {l m X Y i j : Nat} (h : Vw G c (l + 1) m X Y) (hi : i < 2) (hj : j < 2) : Vw G c l (qO G m (i + 2 * j)) (X + 2 ^ l * i) (Y + 2 ^ l * j) := fun x y hx hy => by
 rw [<- cel_q G l m hx hy hi hj, h _ _ ?_ ?_]
 ·rw [show x + 2 ^ l * i + X = x + (X + 2 ^ l * i) by lia, show y + 2 ^ l * j + Y = y + (Y + 2 ^ l * j) by lia]
 ·rw [Nat.pow_succ]
  have : 2 ^ l * i <= 2 ^ l * 1 := Nat.mul_le_mul_left _ (by lia)
  lia
 ·rw [Nat.pow_succ]
  have : 2 ^ l * j <= 2 ^ l * 1 := Nat.mul_le_mul_left _ (by lia)
  lia
theorem Vw.of {G : Gv} {c : Nat -> Nat -> Int} {l m X Y : Nat} (h0 : Vw G c l (qO G m 0) X Y) (h1 : Vw G c l (qO G m 1) (X + 2 ^ l) Y) (h2 : Vw G c l (qO G m 2) X (Y + 2 ^ l)) (h3 : Vw G c l (qO G m 3) (X + 2 ^ l) (Y + 2 ^ l)) : Vw G c (l + 1) m X Y := fun x y hx hy => by
 rw [Nat.pow_succ] at hx hy
 by_cases zx : x < 2 ^ l
 ·by_cases zy : y < 2 ^ l
  ·have := cel_q G l m zx zy (i := 0) (j := 0) (by decide) (by decide)
   rw [show x + 2 ^ l * 0 = x by lia, show y + 2 ^ l * 0 = y by lia] at this
   rw [this]
   exact h0 x y zx zy
  ·have := cel_q G l m zx (y := y - 2 ^ l) (by lia) (i := 0) (j := 1) (by decide) (by decide)
   rw [show x + 2 ^ l * 0 = x by lia, show y - 2 ^ l + 2 ^ l * 1 = y by lia] at this
   rw [this, h2 x (y - 2 ^ l) zx (by lia), show y - 2 ^ l + (Y + 2 ^ l) = y + Y by lia]
 ·by_cases zy : y < 2 ^ l
  ·have := cel_q G l m (x := x - 2 ^ l) (by lia) zy (i := 1) (j := 0) (by decide) (by decide)
   rw [show y + 2 ^ l * 0 = y by lia, show x - 2 ^ l + 2 ^ l * 1 = x by lia] at this
   rw [this, h1 (x - 2 ^ l) y (by lia) zy, show x - 2 ^ l + (X + 2 ^ l) = x + X by lia]
  ·have := cel_q G l m (x := x - 2 ^ l) (y := y - 2 ^ l) (by lia) (by lia) (i := 1) (j := 1) (by decide) (by decide)
   rw [show x - 2 ^ l + 2 ^ l * 1 = x by lia, show y - 2 ^ l + 2 ^ l * 1 = y by lia] at this
   rw [this, h3 (x - 2 ^ l) (y - 2 ^ l) (by lia) (by lia), show x - 2 ^ l + (X + 2 ^ l) = x + X by lia, show y - 2 ^ l + (Y + 2 ^ l) = y + Y by lia]
end J
namespace J
open PySem L2
theorem Vw.at' {G : Gv} {c : Nat -> Nat -> Int} {l m X Y X' Y' : Nat} (h : Vw G c l m X Y) (e1 : X = X') (e2 : Y = Y') : Vw G c l m X' Y' := by
 subst e1
 subst e2
 exact h
theorem Vw.goes {G G' : Gv} {c : Nat -> Nat -> Int} {l m X Y i : Nat} (h : Vw G c l m X Y) (ok : GOk G) (go : Goes G G' i) (lv : LevAt G m (l : Int)) : Vw G' c l m X Y := fun x y hx hy => by
 rw [celI_goes ok go lv]
 exact h x y hx hy
section
variable {P : Program} {w : World} {K : PySem.W.Frag} {mg : Str -> Option Value} {base : Heap} {a : Ad}
inductive SpNine (a : Ad) (vs : List V) (H : Hp) (Q : VK) : Prop
 | mk (g : GA) (G : Gv) (n l : Nat) (_ : vs = [.ref g.p, .int n]) (_ : GroveAt a H g G) (_ : GOk G) (_ : LevAt G n ((l + 1 + 1 : Nat) : Int)) (_ : l <= 46) (_ : G.length < 8000000) (_ : ∀ (L : Addr) (ks : List Nat) (G' : Gv) (H' : Hp), Fr g H H' -> GroveAt a H' g G' -> Goes G G' 5 -> H' L = some (.lst (ks.map fun (k : Nat) => V.int (k : Int))) -> ks.length = 9 -> (∀ i j, i < 3 -> j < 3 -> ∃ k, ks[i + 3 * j]? = some k /\ LevAt G' k ((l + 1 : Nat) : Int) /\ Vw G' (celI G (l + 2) n) (l + 1) k (2 ^ l * i) (2 ^ l * j)) -> Q (.ref L) H') : SpNine a vs H Q
def spNine (a : Ad) : Sp := fun vs H Q _ => SpNine a vs H Q
theorem ok_nine {f : Addr} {fd : FuncData} (F : Fun K "nine_parts" "nine_parts" s_nine_parts f fd) (T : Top K mg a) (M_Grove_linked : CalM P w K mg base CX0 2 a.c_Grove "linked" p_Grove_linked (spLink a)) : FnOk P w K mg base CX0 3 f fd p_nine_parts (spNine a) := by
 refine F.ok sc_nine_parts (fun vs H Q E h => ?_) (fun cdv A outer s H vs Q E hr h => ?_)
 ·obtain ⟨g, G, n, l, rfl, _⟩ := h
  rfl
 ·obtain ⟨g, G, n, l, rfl, hg, ok, hl, l46, few, k⟩ := h
  obtain ⟨qa, qb, qc, qd, en, la, lb, lc, ld⟩ := ok.four hl
  obtain ⟨a0, a1, a2, a3, ea, la0, la1, la2, la3⟩ := ok.four la
  obtain ⟨b0, b1, b2, b3, eb, lb0, lb1, lb2, lb3⟩ := ok.four lb
  obtain ⟨c0, c1, c2, c3, ec, lc0, lc1, lc2, lc3⟩ := ok.four lc
  obtain ⟨d0, d1, d2, d3, ed, ld0, ld1, ld2, ld3⟩ := ok.four ld
  obtain ⟨ts, h3, h4⟩ := hg.pt
  obtain ⟨t, et, ht⟩ := PairedM.get h4 en
  obtain ⟨ta, eta, hta⟩ := PairedM.get h4 ea
  obtain ⟨tb, etb, htb⟩ := PairedM.get h4 eb
  obtain ⟨tc, etc, htc⟩ := PairedM.get h4 ec
  obtain ⟨td, etd, htd⟩ := PairedM.get h4 ed
  refine ⟨_, (@pss_cons _ _ _ _ _ (@ps_set _ _ (2) _ _ _ _ sc_nine_parts.nd rfl (Or.inl rfl) (@pe_ix _ _ _ _ _ _ _ (@ix_list _) (@pe_fld _ _ _ _ _ (pv 0) rfl) (pv 1) (fun _ _ => rfl)) rfl (.inl rfl)) (@pss_cons _ _ _ _ _ (@ps_set _ _ (3) _ _ _ _ sc_nine_parts.nd rfl (Or.inl rfl) (@pe_ix _ _ _ _ _ _ _ (@ix_list _) (@pe_fld _ _ _ _ _ (pv 0) rfl) (@pe_ix _ _ _ _ _ _ _ (@ix_tup _) (pv 2) (@pe_int _ _ _ _) (fun _ _ => rfl)) (fun _ _ => rfl)) rfl (.inl rfl)) (@pss_cons _ _ _ _ _ (@ps_set _ _ (4) _ _ _ _ sc_nine_parts.nd rfl (Or.inl rfl) (@pe_ix _ _ _ _ _ _ _ (@ix_list _) (@pe_fld _ _ _ _ _ (pv 0) rfl) (@pe_ix _ _ _ _ _ _ _ (@ix_tup _) (pv 2) (@pe_int _ _ _ _) (fun _ _ => rfl)) (fun _ _ => rfl)) rfl (.inl rfl)) (@pss_cons _ _ _ _ _ (@ps_set _ _ (5) _ _ _ _ sc_nine_parts.nd rfl (Or.inl rfl) (@pe_ix _ _ _ _ _ _ _ (@ix_list _) (@pe_fld _ _ _ _ _ (pv 0) rfl) (@pe_ix _ _ _ _ _ _ _ (@ix_tup _) (pv 2) (@pe_int _ _ _ _) (fun _ _ => rfl)) (fun _ _ => rfl)) rfl (.inl rfl)) (@pss_cons _ _ _ _ _ (@ps_set _ _ (6) _ _ _ _ sc_nine_parts.nd rfl (Or.inl rfl) (@pe_ix _ _ _ _ _ _ _ (@ix_list _) (@pe_fld _ _ _ _ _ (pv 0) rfl) (@pe_ix _ _ _ _ _ _ _ (@ix_tup _) (pv 2) (@pe_int _ _ _ _) (fun _ _ => rfl)) (fun _ _ => rfl)) rfl (.inl rfl)) (@pss_one _ _ _ (@ps_ret _ _ _ _ (@pe_lst _ _ _ _ (@pa_cons _ _ _ _ _ (@pe_ix _ _ _ _ _ _ _ (@ix_tup _) (pv 2) (@pe_int _ _ _ _) (fun _ _ => rfl)) (@pa_cons _ _ _ _ _ (@pe_calm _ _ _ _ _ _ _ _ _ _ _ _ _ _ _ _ (pv 0) M_Grove_linked (rm hr) pass0 (@pa_tup _ _ _ _ _ _ _ (@pa_cons _ _ _ _ _ (@pe_ix _ _ _ _ _ _ _ (@ix_tup _) (pv 3) (@pe_int _ _ _ _) (fun _ _ => rfl)) (@pa_cons _ _ _ _ _ (@pe_ix _ _ _ _ _ _ _ (@ix_tup _) (pv 4) (@pe_int _ _ _ _) (fun _ _ => rfl)) (@pa_cons _ _ _ _ _ (@pe_ix _ _ _ _ _ _ _ (@ix_tup _) (pv 3) (@pe_int _ _ _ _) (fun _ _ => rfl)) (@pa_cons _ _ _ _ _ (@pe_ix _ _ _ _ _ _ _ (@ix_tup _) (pv 4) (@pe_int _ _ _ _) (fun _ _ => rfl)) (@pa_nil _) rfl) rfl) rfl) rfl) (@pa_nil _)) rfl rfl rfl) (@pa_cons _ _ _ _ _ (@pe_ix _ _ _ _ _ _ _ (@ix_tup _) (pv 2) (@pe_int _ _ _ _) (fun _ _ => rfl)) (@pa_cons _ _ _ _ _ (@pe_calm _ _ _ _ _ _ _ _ _ _ _ _ _ _ _ _ (pv 0) M_Grove_linked (rm hr) pass0 (@pa_tup _ _ _ _ _ _ _ (@pa_cons _ _ _ _ _ (@pe_ix _ _ _ _ _ _ _ (@ix_tup _) (pv 3) (@pe_int _ _ _ _) (fun _ _ => rfl)) (@pa_cons _ _ _ _ _ (@pe_ix _ _ _ _ _ _ _ (@ix_tup _) (pv 3) (@pe_int _ _ _ _) (fun _ _ => rfl)) (@pa_cons _ _ _ _ _ (@pe_ix _ _ _ _ _ _ _ (@ix_tup _) (pv 5) (@pe_int _ _ _ _) (fun _ _ => rfl)) (@pa_cons _ _ _ _ _ (@pe_ix _ _ _ _ _ _ _ (@ix_tup _) (pv 5) (@pe_int _ _ _ _) (fun _ _ => rfl)) (@pa_nil _) rfl) rfl) rfl) rfl) (@pa_nil _)) rfl rfl rfl) (@pa_cons _ _ _ _ _ (@pe_calm _ _ _ _ _ _ _ _ _ _ _ _ _ _ _ _ (pv 0) M_Grove_linked (rm hr) pass0 (@pa_tup _ _ _ _ _ _ _ (@pa_cons _ _ _ _ _ (@pe_ix _ _ _ _ _ _ _ (@ix_tup _) (pv 3) (@pe_int _ _ _ _) (fun _ _ => rfl)) (@pa_cons _ _ _ _ _ (@pe_ix _ _ _ _ _ _ _ (@ix_tup _) (pv 4) (@pe_int _ _ _ _) (fun _ _ => rfl)) (@pa_cons _ _ _ _ _ (@pe_ix _ _ _ _ _ _ _ (@ix_tup _) (pv 5) (@pe_int _ _ _ _) (fun _ _ => rfl)) (@pa_cons _ _ _ _ _ (@pe_ix _ _ _ _ _ _ _ (@ix_tup _) (pv 6) (@pe_int _ _ _ _) (fun _ _ => rfl)) (@pa_nil _) rfl) rfl) rfl) rfl) (@pa_nil _)) rfl rfl rfl) (@pa_cons _ _ _ _ _ (@pe_calm _ _ _ _ _ _ _ _ _ _ _ _ _ _ _ _ (pv 0) M_Grove_linked (rm hr) pass0 (@pa_tup _ _ _ _ _ _ _ (@pa_cons _ _ _ _ _ (@pe_ix _ _ _ _ _ _ _ (@ix_tup _) (pv 4) (@pe_int _ _ _ _) (fun _ _ => rfl)) (@pa_cons _ _ _ _ _ (@pe_ix _ _ _ _ _ _ _ (@ix_tup _) (pv 4) (@pe_int _ _ _ _) (fun _ _ => rfl)) (@pa_cons _ _ _ _ _ (@pe_ix _ _ _ _ _ _ _ (@ix_tup _) (pv 6) (@pe_int _ _ _ _) (fun _ _ => rfl)) (@pa_cons _ _ _ _ _ (@pe_ix _ _ _ _ _ _ _ (@ix_tup _) (pv 6) (@pe_int _ _ _ _) (fun _ _ => rfl)) (@pa_nil _) rfl) rfl) rfl) rfl) (@pa_nil _)) rfl rfl rfl) (@pa_cons _ _ _ _ _ (@pe_ix _ _ _ _ _ _ _ (@ix_tup _) (pv 2) (@pe_int _ _ _ _) (fun _ _ => rfl)) (@pa_cons _ _ _ _ _ (@pe_calm _ _ _ _ _ _ _ _ _ _ _ _ _ _ _ _ (pv 0) M_Grove_linked (rm hr) pass0 (@pa_tup _ _ _ _ _ _ _ (@pa_cons _ _ _ _ _ (@pe_ix _ _ _ _ _ _ _ (@ix_tup _) (pv 5) (@pe_int _ _ _ _) (fun _ _ => rfl)) (@pa_cons _ _ _ _ _ (@pe_ix _ _ _ _ _ _ _ (@ix_tup _) (pv 6) (@pe_int _ _ _ _) (fun _ _ => rfl)) (@pa_cons _ _ _ _ _ (@pe_ix _ _ _ _ _ _ _ (@ix_tup _) (pv 5) (@pe_int _ _ _ _) (fun _ _ => rfl)) (@pa_cons _ _ _ _ _ (@pe_ix _ _ _ _ _ _ _ (@ix_tup _) (pv 6) (@pe_int _ _ _ _) (fun _ _ => rfl)) (@pa_nil _) rfl) rfl) rfl) rfl) (@pa_nil _)) rfl rfl rfl) (@pa_cons _ _ _ _ _ (@pe_ix _ _ _ _ _ _ _ (@ix_tup _) (pv 2) (@pe_int _ _ _ _) (fun _ _ => rfl)) (@pa_nil _) rfl) rfl) rfl) rfl) rfl) rfl) rfl) rfl) rfl))))))))), ?_⟩
  try dsimp only [cxK]
  refine ⟨_, rfl, g.p, _, g.dx, _, _, rfl, hg.hp, T.cl_Grove, T.na_Grove_parts, fl6_pt g, _, rfl, g.pt, _, (n : Int), .ref t, rfl, rfl, SqL.of h3, atI_nat (by rw [List.getElem?_map, et]; rfl), ?_⟩
  refine ⟨_, rfl, g.p, _, g.dx, _, _, rfl, hg.hp, T.cl_Grove, T.na_Grove_parts, fl6_pt g, _, rfl, t, _, 0, .int (qa : Int), rfl, rfl, SqT.of ht, atI_nat (j := 0) rfl, g.pt, _, (qa : Int), .ref ta, rfl, rfl, SqL.of h3, atI_nat (by rw [List.getElem?_map, eta]; rfl), ?_⟩
  refine ⟨_, rfl, g.p, _, g.dx, _, _, rfl, hg.hp, T.cl_Grove, T.na_Grove_parts, fl6_pt g, _, rfl, t, _, 1, .int (qb : Int), rfl, rfl, SqT.of ht, atI_nat (j := 1) rfl, g.pt, _, (qb : Int), .ref tb, rfl, rfl, SqL.of h3, atI_nat (by rw [List.getElem?_map, etb]; rfl), ?_⟩
  refine ⟨_, rfl, g.p, _, g.dx, _, _, rfl, hg.hp, T.cl_Grove, T.na_Grove_parts, fl6_pt g, _, rfl, t, _, 2, .int (qc : Int), rfl, rfl, SqT.of ht, atI_nat (j := 2) rfl, g.pt, _, (qc : Int), .ref tc, rfl, rfl, SqL.of h3, atI_nat (by rw [List.getElem?_map, etc]; rfl), ?_⟩
  refine ⟨_, rfl, g.p, _, g.dx, _, _, rfl, hg.hp, T.cl_Grove, T.na_Grove_parts, fl6_pt g, _, rfl, t, _, 3, .int (qd : Int), rfl, rfl, SqT.of ht, atI_nat (j := 3) rfl, g.pt, _, (qd : Int), .ref td, rfl, rfl, SqL.of h3, atI_nat (by rw [List.getElem?_map, etd]; rfl), ?_⟩
  refine ⟨_, rfl, t, _, 0, .int (qa : Int), rfl, rfl, SqT.of ht, atI_nat (j := 0) rfl, _, rfl, g.p, g.dx, _, rfl, hg.hp, no_linked g, _, rfl, ta, _, 1, .int (a1 : Int), rfl, rfl, SqT.of hta, atI_nat (j := 1) rfl, _, rfl, tb, _, 0, .int (b0 : Int), rfl, rfl, SqT.of htb, atI_nat (j := 0) rfl, _, rfl, ta, _, 3, .int (a3 : Int), rfl, rfl, SqT.of hta, atI_nat (j := 3) rfl, _, rfl, tb, _, 2, .int (b2 : Int), rfl, rfl, SqT.of htb, atI_nat (j := 2) rfl, (by show 4 <= sizeLine; decide), fun u1 hu1 => ?_⟩
  have s1 := same_upd (o := .tup [.int (a1 : Int), .int (b0 : Int), .int (a3 : Int), .int (b2 : Int)]) hu1
  have hv1 : upd H u1 (.tup [.int (a1 : Int), .int (b0 : Int), .int (a3 : Int), .int (b2 : Int)]) u1 = some (.tup [.int (a1 : Int), .int (b0 : Int), .int (a3 : Int), .int (b2 : Int)]) := upd_same
  have i1 := hg.same s1
  have fw1 : G.length < 8000000 + 0 := few
  refine ⟨g, G, u1, a1, b0, a3, b2, (l : Int), rfl, i1, ok, hv1, ⟨la1, lb0, la3, lb2⟩, by lia, by lia, fun m1 G1 H1 fr1 hg1 go1 e1 => ?_⟩
  have f1 : Fr g H H1 := (Same.fr s1).trans fr1
  have kt1 : ∀ {b : Addr} {xs : List V}, H b = some (.tup xs) -> H1 b = some (.tup xs) := fun {b xs} e => by
   obtain ⟨us, q3, _⟩ := i1.pt
   have e' := s1 _ _ e
   exact fr1 _ _ e' (ne_of e' i1.lv (by intro z; cases z)) (ne_of e' q3 (by intro z; cases z)) (ne_of e' i1.nm (by intro z; cases z))
  have ht_1 := kt1 ht
  have hta_1 := kt1 hta
  have htb_1 := kt1 htb
  have htc_1 := kt1 htc
  have htd_1 := kt1 htd
  have gq1 := go1
  have fq1 := f1
  refine ⟨_, rfl, t, _, 1, .int (qb : Int), rfl, rfl, SqT.of ht_1, atI_nat (j := 1) rfl, _, rfl, g.p, g.dx, _, rfl, hg1.hp, no_linked g, _, rfl, ta, _, 2, .int (a2 : Int), rfl, rfl, SqT.of hta_1, atI_nat (j := 2) rfl, _, rfl, ta, _, 3, .int (a3 : Int), rfl, rfl, SqT.of hta_1, atI_nat (j := 3) rfl, _, rfl, tc, _, 0, .int (c0 : Int), rfl, rfl, SqT.of htc_1, atI_nat (j := 0) rfl, _, rfl, tc, _, 1, .int (c1 : Int), rfl, rfl, SqT.of htc_1, atI_nat (j := 1) rfl, (by show 4 <= sizeLine; decide), fun u3 hu3 => ?_⟩
  have s3 := same_upd (o := .tup [.int (a2 : Int), .int (a3 : Int), .int (c0 : Int), .int (c1 : Int)]) hu3
  have hv3 : upd H1 u3 (.tup [.int (a2 : Int), .int (a3 : Int), .int (c0 : Int), .int (c1 : Int)]) u3 = some (.tup [.int (a2 : Int), .int (a3 : Int), .int (c0 : Int), .int (c1 : Int)]) := upd_same
  have i3 := hg1.same s3
  have fw3 : G1.length < 8000000 + 1 := by have := (go1).few; lia
  refine ⟨g, G1, u3, a2, a3, c0, c1, (l : Int), rfl, i3, go1.ok, hv3, ⟨(go1).lev la2, (go1).lev la3, (go1).lev lc0, (go1).lev lc1⟩, by lia, by lia, fun m3 G3 H3 fr3 hg3 go3 e3 => ?_⟩
  have f3 : Fr g H1 H3 := (Same.fr s3).trans fr3
  have kt3 : ∀ {b : Addr} {xs : List V}, H1 b = some (.tup xs) -> H3 b = some (.tup xs) := fun {b xs} e => by
   obtain ⟨us, q3, _⟩ := i3.pt
   have e' := s3 _ _ e
   exact fr3 _ _ e' (ne_of e' i3.lv (by intro z; cases z)) (ne_of e' q3 (by intro z; cases z)) (ne_of e' i3.nm (by intro z; cases z))
  have ht_3 := kt3 ht_1
  have hta_3 := kt3 hta_1
  have htb_3 := kt3 htb_1
  have htc_3 := kt3 htc_1
  have htd_3 := kt3 htd_1
  have gq3 := go1.trans go3
  have fq3 := fq1.trans f3
  refine ⟨_, rfl, g.p, g.dx, _, rfl, hg3.hp, no_linked g, _, rfl, ta, _, 3, .int (a3 : Int), rfl, rfl, SqT.of hta_3, atI_nat (j := 3) rfl, _, rfl, tb, _, 2, .int (b2 : Int), rfl, rfl, SqT.of htb_3, atI_nat (j := 2) rfl, _, rfl, tc, _, 1, .int (c1 : Int), rfl, rfl, SqT.of htc_3, atI_nat (j := 1) rfl, _, rfl, td, _, 0, .int (d0 : Int), rfl, rfl, SqT.of htd_3, atI_nat (j := 0) rfl, (by show 4 <= sizeLine; decide), fun u4 hu4 => ?_⟩
  have s4 := same_upd (o := .tup [.int (a3 : Int), .int (b2 : Int), .int (c1 : Int), .int (d0 : Int)]) hu4
  have hv4 : upd H3 u4 (.tup [.int (a3 : Int), .int (b2 : Int), .int (c1 : Int), .int (d0 : Int)]) u4 = some (.tup [.int (a3 : Int), .int (b2 : Int), .int (c1 : Int), .int (d0 : Int)]) := upd_same
  have i4 := hg3.same s4
  have fw4 : G3.length < 8000000 + 2 := by have := (gq3).few; lia
  refine ⟨g, G3, u4, a3, b2, c1, d0, (l : Int), rfl, i4, go3.ok, hv4, ⟨(gq3).lev la3, (gq3).lev lb2, (gq3).lev lc1, (gq3).lev ld0⟩, by lia, by lia, fun m4 G4 H4 fr4 hg4 go4 e4 => ?_⟩
  have f4 : Fr g H3 H4 := (Same.fr s4).trans fr4
  have kt4 : ∀ {b : Addr} {xs : List V}, H3 b = some (.tup xs) -> H4 b = some (.tup xs) := fun {b xs} e => by
   obtain ⟨us, q3, _⟩ := i4.pt
   have e' := s4 _ _ e
   exact fr4 _ _ e' (ne_of e' i4.lv (by intro z; cases z)) (ne_of e' q3 (by intro z; cases z)) (ne_of e' i4.nm (by intro z; cases z))
  have ht_4 := kt4 ht_3
  have hta_4 := kt4 hta_3
  have htb_4 := kt4 htb_3
  have htc_4 := kt4 htc_3
  have htd_4 := kt4 htd_3
  have gq4 := gq3.trans go4
  have fq4 := fq3.trans f4
  refine ⟨_, rfl, g.p, g.dx, _, rfl, hg4.hp, no_linked g, _, rfl, tb, _, 2, .int (b2 : Int), rfl, rfl, SqT.of htb_4, atI_nat (j := 2) rfl, _, rfl, tb, _, 3, .int (b3 : Int), rfl, rfl, SqT.of htb_4, atI_nat (j := 3) rfl, _, rfl, td, _, 0, .int (d0 : Int), rfl, rfl, SqT.of htd_4, atI_nat (j := 0) rfl, _, rfl, td, _, 1, .int (d1 : Int), rfl, rfl, SqT.of htd_4, atI_nat (j := 1) rfl, (by show 4 <= sizeLine; decide), fun u5 hu5 => ?_⟩
  have s5 := same_upd (o := .tup [.int (b2 : Int), .int (b3 : Int), .int (d0 : Int), .int (d1 : Int)]) hu5
  have hv5 : upd H4 u5 (.tup [.int (b2 : Int), .int (b3 : Int), .int (d0 : Int), .int (d1 : Int)]) u5 = some (.tup [.int (b2 : Int), .int (b3 : Int), .int (d0 : Int), .int (d1 : Int)]) := upd_same
  have i5 := hg4.same s5
  have fw5 : G4.length < 8000000 + 3 := by have := (gq4).few; lia
  refine ⟨g, G4, u5, b2, b3, d0, d1, (l : Int), rfl, i5, go4.ok, hv5, ⟨(gq4).lev lb2, (gq4).lev lb3, (gq4).lev ld0, (gq4).lev ld1⟩, by lia, by lia, fun m5 G5 H5 fr5 hg5 go5 e5 => ?_⟩
  have f5 : Fr g H4 H5 := (Same.fr s5).trans fr5
  have kt5 : ∀ {b : Addr} {xs : List V}, H4 b = some (.tup xs) -> H5 b = some (.tup xs) := fun {b xs} e => by
   obtain ⟨us, q3, _⟩ := i5.pt
   have e' := s5 _ _ e
   exact fr5 _ _ e' (ne_of e' i5.lv (by intro z; cases z)) (ne_of e' q3 (by intro z; cases z)) (ne_of e' i5.nm (by intro z; cases z))
  have ht_5 := kt5 ht_4
  have hta_5 := kt5 hta_4
  have htb_5 := kt5 htb_4
  have htc_5 := kt5 htc_4
  have htd_5 := kt5 htd_4
  have gq5 := gq4.trans go5
  have fq5 := fq4.trans f5
  refine ⟨_, rfl, t, _, 2, .int (qc : Int), rfl, rfl, SqT.of ht_5, atI_nat (j := 2) rfl, _, rfl, g.p, g.dx, _, rfl, hg5.hp, no_linked g, _, rfl, tc, _, 1, .int (c1 : Int), rfl, rfl, SqT.of htc_5, atI_nat (j := 1) rfl, _, rfl, td, _, 0, .int (d0 : Int), rfl, rfl, SqT.of htd_5, atI_nat (j := 0) rfl, _, rfl, tc, _, 3, .int (c3 : Int), rfl, rfl, SqT.of htc_5, atI_nat (j := 3) rfl, _, rfl, td, _, 2, .int (d2 : Int), rfl, rfl, SqT.of htd_5, atI_nat (j := 2) rfl, (by show 4 <= sizeLine; decide), fun u7 hu7 => ?_⟩
  have s7 := same_upd (o := .tup [.int (c1 : Int), .int (d0 : Int), .int (c3 : Int), .int (d2 : Int)]) hu7
  have hv7 : upd H5 u7 (.tup [.int (c1 : Int), .int (d0 : Int), .int (c3 : Int), .int (d2 : Int)]) u7 = some (.tup [.int (c1 : Int), .int (d0 : Int), .int (c3 : Int), .int (d2 : Int)]) := upd_same
  have i7 := hg5.same s7
  have fw7 : G5.length < 8000000 + 4 := by have := (gq5).few; lia
  refine ⟨g, G5, u7, c1, d0, c3, d2, (l : Int), rfl, i7, go5.ok, hv7, ⟨(gq5).lev lc1, (gq5).lev ld0, (gq5).lev lc3, (gq5).lev ld2⟩, by lia, by lia, fun m7 G7 H7 fr7 hg7 go7 e7 => ?_⟩
  have f7 : Fr g H5 H7 := (Same.fr s7).trans fr7
  have kt7 : ∀ {b : Addr} {xs : List V}, H5 b = some (.tup xs) -> H7 b = some (.tup xs) := fun {b xs} e => by
   obtain ⟨us, q3, _⟩ := i7.pt
   have e' := s7 _ _ e
   exact fr7 _ _ e' (ne_of e' i7.lv (by intro z; cases z)) (ne_of e' q3 (by intro z; cases z)) (ne_of e' i7.nm (by intro z; cases z))
  have ht_7 := kt7 ht_5
  have hta_7 := kt7 hta_5
  have htb_7 := kt7 htb_5
  have htc_7 := kt7 htc_5
  have htd_7 := kt7 htd_5
  have gq7 := gq5.trans go7
  have fq7 := fq5.trans f7
  refine ⟨_, rfl, t, _, 3, .int (qd : Int), rfl, rfl, SqT.of ht_7, atI_nat (j := 3) rfl, (by show 9 <= sizeLine; decide), fun L hL => ?_⟩
  have gz : Goes G G7 5 := gq7
  have sL := same_upd (o := .lst (([qa, m1, qb, m3, m4, m5, qc, m7, qd] : List Nat).map fun (k : Nat) => V.int (k : Int))) hL
  refine k L [qa, m1, qb, m3, m4, m5, qc, m7, qd] G7 _ (fq7.trans (Same.fr sL)) (hg7.same sL) gz upd_same rfl ?_
  have v0 : Vw G (celI G (l + 2) n) (l + 1 + 1) n 0 0 := fun x y _ _ => rfl
  obtain ⟨w0, w1, w2, w3⟩ := qO_of en
  have p1 : 2 ^ (l + 1) = 2 ^ l * 2 := Nat.pow_succ ..
  have va : Vw G (celI G (l + 2) n) (l + 1) qa (2 ^ l * 0) (2 ^ l * 0) := (w0 ▸ v0.q (i := 0) (j := 0) (by decide) (by decide) : Vw G (celI G (l + 2) n) (l + 1) qa (0 + 2 ^ (l + 1) * 0) (0 + 2 ^ (l + 1) * 0)).at' (by lia) (by lia)
  obtain ⟨wa0, wa1, wa2, wa3⟩ := qO_of ea
  have vb : Vw G (celI G (l + 2) n) (l + 1) qb (2 ^ l * 2) (2 ^ l * 0) := (w1 ▸ v0.q (i := 1) (j := 0) (by decide) (by decide) : Vw G (celI G (l + 2) n) (l + 1) qb (0 + 2 ^ (l + 1) * 1) (0 + 2 ^ (l + 1) * 0)).at' (by lia) (by lia)
  obtain ⟨wb0, wb1, wb2, wb3⟩ := qO_of eb
  have vc : Vw G (celI G (l + 2) n) (l + 1) qc (2 ^ l * 0) (2 ^ l * 2) := (w2 ▸ v0.q (i := 0) (j := 1) (by decide) (by decide) : Vw G (celI G (l + 2) n) (l + 1) qc (0 + 2 ^ (l + 1) * 0) (0 + 2 ^ (l + 1) * 1)).at' (by lia) (by lia)
  obtain ⟨wc0, wc1, wc2, wc3⟩ := qO_of ec
  have vd : Vw G (celI G (l + 2) n) (l + 1) qd (2 ^ l * 2) (2 ^ l * 2) := (w3 ▸ v0.q (i := 1) (j := 1) (by decide) (by decide) : Vw G (celI G (l + 2) n) (l + 1) qd (0 + 2 ^ (l + 1) * 1) (0 + 2 ^ (l + 1) * 1)).at' (by lia) (by lia)
  obtain ⟨wd0, wd1, wd2, wd3⟩ := qO_of ed
  have va0 : Vw G7 (celI G (l + 2) n) l a0 (2 ^ l * 0) (2 ^ l * 0) := ((wa0 ▸ va.q (i := 0) (j := 0) (by decide) (by decide) : Vw G (celI G (l + 2) n) l a0 (2 ^ l * 0 + 2 ^ l * 0) (2 ^ l * 0 + 2 ^ l * 0)).at' (by lia) (by lia)).goes ok gz la0
  have va1 : Vw G7 (celI G (l + 2) n) l a1 (2 ^ l * 1) (2 ^ l * 0) := ((wa1 ▸ va.q (i := 1) (j := 0) (by decide) (by decide) : Vw G (celI G (l + 2) n) l a1 (2 ^ l * 0 + 2 ^ l * 1) (2 ^ l * 0 + 2 ^ l * 0)).at' (by lia) (by lia)).goes ok gz la1
  have va2 : Vw G7 (celI G (l + 2) n) l a2 (2 ^ l * 0) (2 ^ l * 1) := ((wa2 ▸ va.q (i := 0) (j := 1) (by decide) (by decide) : Vw G (celI G (l + 2) n) l a2 (2 ^ l * 0 + 2 ^ l * 0) (2 ^ l * 0 + 2 ^ l * 1)).at' (by lia) (by lia)).goes ok gz la2
  have va3 : Vw G7 (celI G (l + 2) n) l a3 (2 ^ l * 1) (2 ^ l * 1) := ((wa3 ▸ va.q (i := 1) (j := 1) (by decide) (by decide) : Vw G (celI G (l + 2) n) l a3 (2 ^ l * 0 + 2 ^ l * 1) (2 ^ l * 0 + 2 ^ l * 1)).at' (by lia) (by lia)).goes ok gz la3
  have vb0 : Vw G7 (celI G (l + 2) n) l b0 (2 ^ l * 2) (2 ^ l * 0) := ((wb0 ▸ vb.q (i := 0) (j := 0) (by decide) (by decide) : Vw G (celI G (l + 2) n) l b0 (2 ^ l * 2 + 2 ^ l * 0) (2 ^ l * 0 + 2 ^ l * 0)).at' (by lia) (by lia)).goes ok gz lb0
  have vb1 : Vw G7 (celI G (l + 2) n) l b1 (2 ^ l * 3) (2 ^ l * 0) := ((wb1 ▸ vb.q (i := 1) (j := 0) (by decide) (by decide) : Vw G (celI G (l + 2) n) l b1 (2 ^ l * 2 + 2 ^ l * 1) (2 ^ l * 0 + 2 ^ l * 0)).at' (by lia) (by lia)).goes ok gz lb1
  have vb2 : Vw G7 (celI G (l + 2) n) l b2 (2 ^ l * 2) (2 ^ l * 1) := ((wb2 ▸ vb.q (i := 0) (j := 1) (by decide) (by decide) : Vw G (celI G (l + 2) n) l b2 (2 ^ l * 2 + 2 ^ l * 0) (2 ^ l * 0 + 2 ^ l * 1)).at' (by lia) (by lia)).goes ok gz lb2
  have vb3 : Vw G7 (celI G (l + 2) n) l b3 (2 ^ l * 3) (2 ^ l * 1) := ((wb3 ▸ vb.q (i := 1) (j := 1) (by decide) (by decide) : Vw G (celI G (l + 2) n) l b3 (2 ^ l * 2 + 2 ^ l * 1) (2 ^ l * 0 + 2 ^ l * 1)).at' (by lia) (by lia)).goes ok gz lb3
  have vc0 : Vw G7 (celI G (l + 2) n) l c0 (2 ^ l * 0) (2 ^ l * 2) := ((wc0 ▸ vc.q (i := 0) (j := 0) (by decide) (by decide) : Vw G (celI G (l + 2) n) l c0 (2 ^ l * 0 + 2 ^ l * 0) (2 ^ l * 2 + 2 ^ l * 0)).at' (by lia) (by lia)).goes ok gz lc0
  have vc1 : Vw G7 (celI G (l + 2) n) l c1 (2 ^ l * 1) (2 ^ l * 2) := ((wc1 ▸ vc.q (i := 1) (j := 0) (by decide) (by decide) : Vw G (celI G (l + 2) n) l c1 (2 ^ l * 0 + 2 ^ l * 1) (2 ^ l * 2 + 2 ^ l * 0)).at' (by lia) (by lia)).goes ok gz lc1
  have vc2 : Vw G7 (celI G (l + 2) n) l c2 (2 ^ l * 0) (2 ^ l * 3) := ((wc2 ▸ vc.q (i := 0) (j := 1) (by decide) (by decide) : Vw G (celI G (l + 2) n) l c2 (2 ^ l * 0 + 2 ^ l * 0) (2 ^ l * 2 + 2 ^ l * 1)).at' (by lia) (by lia)).goes ok gz lc2
  have vc3 : Vw G7 (celI G (l + 2) n) l c3 (2 ^ l * 1) (2 ^ l * 3) := ((wc3 ▸ vc.q (i := 1) (j := 1) (by decide) (by decide) : Vw G (celI G (l + 2) n) l c3 (2 ^ l * 0 + 2 ^ l * 1) (2 ^ l * 2 + 2 ^ l * 1)).at' (by lia) (by lia)).goes ok gz lc3
  have vd0 : Vw G7 (celI G (l + 2) n) l d0 (2 ^ l * 2) (2 ^ l * 2) := ((wd0 ▸ vd.q (i := 0) (j := 0) (by decide) (by decide) : Vw G (celI G (l + 2) n) l d0 (2 ^ l * 2 + 2 ^ l * 0) (2 ^ l * 2 + 2 ^ l * 0)).at' (by lia) (by lia)).goes ok gz ld0
  have vd1 : Vw G7 (celI G (l + 2) n) l d1 (2 ^ l * 3) (2 ^ l * 2) := ((wd1 ▸ vd.q (i := 1) (j := 0) (by decide) (by decide) : Vw G (celI G (l + 2) n) l d1 (2 ^ l * 2 + 2 ^ l * 1) (2 ^ l * 2 + 2 ^ l * 0)).at' (by lia) (by lia)).goes ok gz ld1
  have vd2 : Vw G7 (celI G (l + 2) n) l d2 (2 ^ l * 2) (2 ^ l * 3) := ((wd2 ▸ vd.q (i := 0) (j := 1) (by decide) (by decide) : Vw G (celI G (l + 2) n) l d2 (2 ^ l * 2 + 2 ^ l * 0) (2 ^ l * 2 + 2 ^ l * 1)).at' (by lia) (by lia)).goes ok gz ld2
  have vd3 : Vw G7 (celI G (l + 2) n) l d3 (2 ^ l * 3) (2 ^ l * 3) := ((wd3 ▸ vd.q (i := 1) (j := 1) (by decide) (by decide) : Vw G (celI G (l + 2) n) l d3 (2 ^ l * 2 + 2 ^ l * 1) (2 ^ l * 2 + 2 ^ l * 1)).at' (by lia) (by lia)).goes ok gz ld3
  have g1 : G7[m1]? = some ⟨[(a1 : Int), (b0 : Int), (a3 : Int), (b2 : Int)], (l : Int) + 1⟩ := go7.get (go5.get (go4.get (go3.get e1)))
  obtain ⟨x10, x11, x12, x13⟩ := qO_of g1
  have y1 : Vw G7 (celI G (l + 2) n) (l + 1) m1 (2 ^ l * 1) (2 ^ l * 0) := Vw.of (x10.symm ▸ va1.at' (by lia) (by lia) : Vw G7 (celI G (l + 2) n) l (qO G7 m1 0) (2 ^ l * 1) (2 ^ l * 0)) (x11.symm ▸ vb0.at' (by lia) (by lia) : Vw G7 (celI G (l + 2) n) l (qO G7 m1 1) (2 ^ l * 1 + 2 ^ l) (2 ^ l * 0)) (x12.symm ▸ va3.at' (by lia) (by lia) : Vw G7 (celI G (l + 2) n) l (qO G7 m1 2) (2 ^ l * 1) (2 ^ l * 0 + 2 ^ l)) (x13.symm ▸ vb2.at' (by lia) (by lia) : Vw G7 (celI G (l + 2) n) l (qO G7 m1 3) (2 ^ l * 1 + 2 ^ l) (2 ^ l * 0 + 2 ^ l))
  have g3 : G7[m3]? = some ⟨[(a2 : Int), (a3 : Int), (c0 : Int), (c1 : Int)], (l : Int) + 1⟩ := go7.get (go5.get (go4.get e3))
  obtain ⟨x30, x31, x32, x33⟩ := qO_of g3
  have y3 : Vw G7 (celI G (l + 2) n) (l + 1) m3 (2 ^ l * 0) (2 ^ l * 1) := Vw.of (x30.symm ▸ va2.at' (by lia) (by lia) : Vw G7 (celI G (l + 2) n) l (qO G7 m3 0) (2 ^ l * 0) (2 ^ l * 1)) (x31.symm ▸ va3.at' (by lia) (by lia) : Vw G7 (celI G (l + 2) n) l (qO G7 m3 1) (2 ^ l * 0 + 2 ^ l) (2 ^ l * 1)) (x32.symm ▸ vc0.at' (by lia) (by lia) : Vw G7 (celI G (l + 2) n) l (qO G7 m3 2) (2 ^ l * 0) (2 ^ l * 1 + 2 ^ l)) (x33.symm ▸ vc1.at' (by lia) (by lia) : Vw G7 (celI G (l + 2) n) l (qO G7 m3 3) (2 ^ l * 0 + 2 ^ l) (2 ^ l * 1 + 2 ^ l))
  have g4 : G7[m4]? = some ⟨[(a3 : Int), (b2 : Int), (c1 : Int), (d0 : Int)], (l : Int) + 1⟩ := go7.get (go5.get e4)
  obtain ⟨x40, x41, x42, x43⟩ := qO_of g4
  have y4 : Vw G7 (celI G (l + 2) n) (l + 1) m4 (2 ^ l * 1) (2 ^ l * 1) := Vw.of (x40.symm ▸ va3.at' (by lia) (by lia) : Vw G7 (celI G (l + 2) n) l (qO G7 m4 0) (2 ^ l * 1) (2 ^ l * 1)) (x41.symm ▸ vb2.at' (by lia) (by lia) : Vw G7 (celI G (l + 2) n) l (qO G7 m4 1) (2 ^ l * 1 + 2 ^ l) (2 ^ l * 1)) (x42.symm ▸ vc1.at' (by lia) (by lia) : Vw G7 (celI G (l + 2) n) l (qO G7 m4 2) (2 ^ l * 1) (2 ^ l * 1 + 2 ^ l)) (x43.symm ▸ vd0.at' (by lia) (by lia) : Vw G7 (celI G (l + 2) n) l (qO G7 m4 3) (2 ^ l * 1 + 2 ^ l) (2 ^ l * 1 + 2 ^ l))
  have g5 : G7[m5]? = some ⟨[(b2 : Int), (b3 : Int), (d0 : Int), (d1 : Int)], (l : Int) + 1⟩ := go7.get e5
  obtain ⟨x50, x51, x52, x53⟩ := qO_of g5
  have y5 : Vw G7 (celI G (l + 2) n) (l + 1) m5 (2 ^ l * 2) (2 ^ l * 1) := Vw.of (x50.symm ▸ vb2.at' (by lia) (by lia) : Vw G7 (celI G (l + 2) n) l (qO G7 m5 0) (2 ^ l * 2) (2 ^ l * 1)) (x51.symm ▸ vb3.at' (by lia) (by lia) : Vw G7 (celI G (l + 2) n) l (qO G7 m5 1) (2 ^ l * 2 + 2 ^ l) (2 ^ l * 1)) (x52.symm ▸ vd0.at' (by lia) (by lia) : Vw G7 (celI G (l + 2) n) l (qO G7 m5 2) (2 ^ l * 2) (2 ^ l * 1 + 2 ^ l)) (x53.symm ▸ vd1.at' (by lia) (by lia) : Vw G7 (celI G (l + 2) n) l (qO G7 m5 3) (2 ^ l * 2 + 2 ^ l) (2 ^ l * 1 + 2 ^ l))
  have g7 : G7[m7]? = some ⟨[(c1 : Int), (d0 : Int), (c3 : Int), (d2 : Int)], (l : Int) + 1⟩ := e7
  obtain ⟨x70, x71, x72, x73⟩ := qO_of g7
  have y7 : Vw G7 (celI G (l + 2) n) (l + 1) m7 (2 ^ l * 1) (2 ^ l * 2) := Vw.of (x70.symm ▸ vc1.at' (by lia) (by lia) : Vw G7 (celI G (l + 2) n) l (qO G7 m7 0) (2 ^ l * 1) (2 ^ l * 2)) (x71.symm ▸ vd0.at' (by lia) (by lia) : Vw G7 (celI G (l + 2) n) l (qO G7 m7 1) (2 ^ l * 1 + 2 ^ l) (2 ^ l * 2)) (x72.symm ▸ vc3.at' (by lia) (by lia) : Vw G7 (celI G (l + 2) n) l (qO G7 m7 2) (2 ^ l * 1) (2 ^ l * 2 + 2 ^ l)) (x73.symm ▸ vd2.at' (by lia) (by lia) : Vw G7 (celI G (l + 2) n) l (qO G7 m7 3) (2 ^ l * 1 + 2 ^ l) (2 ^ l * 2 + 2 ^ l))
  intro i j hi hj
  match i, hi, j, hj with
  | 0, _, 0, _ => exact ⟨qa, rfl, gz.lev la, va.goes ok gz la⟩
  | 1, _, 0, _ => exact ⟨m1, rfl, ⟨_, g1, rfl⟩, y1⟩
  | 2, _, 0, _ => exact ⟨qb, rfl, gz.lev lb, vb.goes ok gz lb⟩
  | 0, _, 1, _ => exact ⟨m3, rfl, ⟨_, g3, rfl⟩, y3⟩
  | 1, _, 1, _ => exact ⟨m4, rfl, ⟨_, g4, rfl⟩, y4⟩
  | 2, _, 1, _ => exact ⟨m5, rfl, ⟨_, g5, rfl⟩, y5⟩
  | 0, _, 2, _ => exact ⟨qc, rfl, gz.lev lc, vc.goes ok gz lc⟩
  | 1, _, 2, _ => exact ⟨m7, rfl, ⟨_, g7, rfl⟩, y7⟩
  | 2, _, 2, _ => exact ⟨qd, rfl, gz.lev ld, vd.goes ok gz ld⟩
inductive SpFours (vs : List V) (H : Hp) (Q : VK) : Prop
 | mk (L : Addr) (k0 k1 k2 k3 k4 k5 k6 k7 k8 : Nat) (_ : vs = [.ref L]) (_ : H L = some (.lst [.int k0, .int k1, .int k2, .int k3, .int k4, .int k5, .int k6, .int k7, .int k8])) (_ : ∀ (M t0 t1 t2 t3 : Addr) (H' : Hp), Same H H' -> H' M = some (.lst [.ref t0, .ref t1, .ref t2, .ref t3]) -> H' t0 = some (.tup [.int k0, .int k1, .int k3, .int k4]) -> H' t1 = some (.tup [.int k1, .int k2, .int k4, .int k5]) -> H' t2 = some (.tup [.int k3, .int k4, .int k6, .int k7]) -> H' t3 = some (.tup [.int k4, .int k5, .int k7, .int k8]) -> Q (.ref M) H') : SpFours vs H Q
def spFours : Sp := fun vs H Q _ => SpFours vs H Q
theorem ok_fours {f : Addr} {fd : FuncData} (F : Fun K "fours_of" "fours_of" s_fours_of f fd) (T : Top K mg a) : FnOk P w K mg base CX0 1 f fd p_fours_of spFours := by
 refine F.ok sc_fours_of (fun vs H Q E h => ?_) (fun cdv A outer s H vs Q E hr h => ?_)
 ·obtain ⟨L, k0, k1, k2, k3, k4, k5, k6, k7, k8, rfl, _⟩ := h
  rfl
 ·obtain ⟨L, k0, k1, k2, k3, k4, k5, k6, k7, k8, rfl, hL, k⟩ := h
  refine ⟨_, (@pss_one _ _ _ (@ps_ret _ _ _ _ (@pe_lst _ _ _ _ (@pa_tup _ _ _ _ _ _ _ (@pa_cons _ _ _ _ _ (@pe_ix _ _ _ _ _ _ _ (@ix_list _) (pv 0) (@pe_int _ _ _ _) (fun _ _ => rfl)) (@pa_cons _ _ _ _ _ (@pe_ix _ _ _ _ _ _ _ (@ix_list _) (pv 0) (@pe_int _ _ _ _) (fun _ _ => rfl)) (@pa_cons _ _ _ _ _ (@pe_ix _ _ _ _ _ _ _ (@ix_list _) (pv 0) (@pe_int _ _ _ _) (fun _ _ => rfl)) (@pa_cons _ _ _ _ _ (@pe_ix _ _ _ _ _ _ _ (@ix_list _) (pv 0) (@pe_int _ _ _ _) (fun _ _ => rfl)) (@pa_nil _) rfl) rfl) rfl) rfl) (@pa_tup _ _ _ _ _ _ _ (@pa_cons _ _ _ _ _ (@pe_ix _ _ _ _ _ _ _ (@ix_list _) (pv 0) (@pe_int _ _ _ _) (fun _ _ => rfl)) (@pa_cons _ _ _ _ _ (@pe_ix _ _ _ _ _ _ _ (@ix_list _) (pv 0) (@pe_int _ _ _ _) (fun _ _ => rfl)) (@pa_cons _ _ _ _ _ (@pe_ix _ _ _ _ _ _ _ (@ix_list _) (pv 0) (@pe_int _ _ _ _) (fun _ _ => rfl)) (@pa_cons _ _ _ _ _ (@pe_ix _ _ _ _ _ _ _ (@ix_list _) (pv 0) (@pe_int _ _ _ _) (fun _ _ => rfl)) (@pa_nil _) rfl) rfl) rfl) rfl) (@pa_tup _ _ _ _ _ _ _ (@pa_cons _ _ _ _ _ (@pe_ix _ _ _ _ _ _ _ (@ix_list _) (pv 0) (@pe_int _ _ _ _) (fun _ _ => rfl)) (@pa_cons _ _ _ _ _ (@pe_ix _ _ _ _ _ _ _ (@ix_list _) (pv 0) (@pe_int _ _ _ _) (fun _ _ => rfl)) (@pa_cons _ _ _ _ _ (@pe_ix _ _ _ _ _ _ _ (@ix_list _) (pv 0) (@pe_int _ _ _ _) (fun _ _ => rfl)) (@pa_cons _ _ _ _ _ (@pe_ix _ _ _ _ _ _ _ (@ix_list _) (pv 0) (@pe_int _ _ _ _) (fun _ _ => rfl)) (@pa_nil _) rfl) rfl) rfl) rfl) (@pa_tup _ _ _ _ _ _ _ (@pa_cons _ _ _ _ _ (@pe_ix _ _ _ _ _ _ _ (@ix_list _) (pv 0) (@pe_int _ _ _ _) (fun _ _ => rfl)) (@pa_cons _ _ _ _ _ (@pe_ix _ _ _ _ _ _ _ (@ix_list _) (pv 0) (@pe_int _ _ _ _) (fun _ _ => rfl)) (@pa_cons _ _ _ _ _ (@pe_ix _ _ _ _ _ _ _ (@ix_list _) (pv 0) (@pe_int _ _ _ _) (fun _ _ => rfl)) (@pa_cons _ _ _ _ _ (@pe_ix _ _ _ _ _ _ _ (@ix_list _) (pv 0) (@pe_int _ _ _ _) (fun _ _ => rfl)) (@pa_nil _) rfl) rfl) rfl) rfl) (@pa_nil _)))))))), ?_⟩
  try dsimp only [cxK]
  refine ⟨_, rfl, L, _, 0, .int (k0 : Int), rfl, rfl, SqL.of hL, atI_nat (j := 0) rfl, _, rfl, L, _, 1, .int (k1 : Int), rfl, rfl, SqL.of hL, atI_nat (j := 1) rfl, _, rfl, L, _, 3, .int (k3 : Int), rfl, rfl, SqL.of hL, atI_nat (j := 3) rfl, _, rfl, L, _, 4, .int (k4 : Int), rfl, rfl, SqL.of hL, atI_nat (j := 4) rfl, (by show 4 <= sizeLine; decide), fun t0 ht0 => ?_⟩
  have s0 := same_upd (o := .tup [.int (k0 : Int), .int (k1 : Int), .int (k3 : Int), .int (k4 : Int)]) ht0
  have h0 : upd H t0 (.tup [.int (k0 : Int), .int (k1 : Int), .int (k3 : Int), .int (k4 : Int)]) t0 = some (.tup [.int (k0 : Int), .int (k1 : Int), .int (k3 : Int), .int (k4 : Int)]) := upd_same
  generalize hX0 : upd H t0 (.tup [.int (k0 : Int), .int (k1 : Int), .int (k3 : Int), .int (k4 : Int)]) = X0 at s0 h0
  have hL0 := s0 _ _ hL
  first | rw [hX0] | (show ∃ _, _; rw [hX0]) | skip
  refine ⟨_, rfl, L, _, 1, .int (k1 : Int), rfl, rfl, SqL.of hL0, atI_nat (j := 1) rfl, _, rfl, L, _, 2, .int (k2 : Int), rfl, rfl, SqL.of hL0, atI_nat (j := 2) rfl, _, rfl, L, _, 4, .int (k4 : Int), rfl, rfl, SqL.of hL0, atI_nat (j := 4) rfl, _, rfl, L, _, 5, .int (k5 : Int), rfl, rfl, SqL.of hL0, atI_nat (j := 5) rfl, (by show 4 <= sizeLine; decide), fun t1 ht1 => ?_⟩
  have s1 := same_upd (o := .tup [.int (k1 : Int), .int (k2 : Int), .int (k4 : Int), .int (k5 : Int)]) ht1
  have h1 : upd X0 t1 (.tup [.int (k1 : Int), .int (k2 : Int), .int (k4 : Int), .int (k5 : Int)]) t1 = some (.tup [.int (k1 : Int), .int (k2 : Int), .int (k4 : Int), .int (k5 : Int)]) := upd_same
  generalize hX1 : upd X0 t1 (.tup [.int (k1 : Int), .int (k2 : Int), .int (k4 : Int), .int (k5 : Int)]) = X1 at s1 h1
  have hL1 := s1 _ _ hL0
  first | rw [hX1] | (show ∃ _, _; rw [hX1]) | skip
  refine ⟨_, rfl, L, _, 3, .int (k3 : Int), rfl, rfl, SqL.of hL1, atI_nat (j := 3) rfl, _, rfl, L, _, 4, .int (k4 : Int), rfl, rfl, SqL.of hL1, atI_nat (j := 4) rfl, _, rfl, L, _, 6, .int (k6 : Int), rfl, rfl, SqL.of hL1, atI_nat (j := 6) rfl, _, rfl, L, _, 7, .int (k7 : Int), rfl, rfl, SqL.of hL1, atI_nat (j := 7) rfl, (by show 4 <= sizeLine; decide), fun t2 ht2 => ?_⟩
  have s2 := same_upd (o := .tup [.int (k3 : Int), .int (k4 : Int), .int (k6 : Int), .int (k7 : Int)]) ht2
  have h2 : upd X1 t2 (.tup [.int (k3 : Int), .int (k4 : Int), .int (k6 : Int), .int (k7 : Int)]) t2 = some (.tup [.int (k3 : Int), .int (k4 : Int), .int (k6 : Int), .int (k7 : Int)]) := upd_same
  generalize hX2 : upd X1 t2 (.tup [.int (k3 : Int), .int (k4 : Int), .int (k6 : Int), .int (k7 : Int)]) = X2 at s2 h2
  have hL2 := s2 _ _ hL1
  first | rw [hX2] | (show ∃ _, _; rw [hX2]) | skip
  refine ⟨_, rfl, L, _, 4, .int (k4 : Int), rfl, rfl, SqL.of hL2, atI_nat (j := 4) rfl, _, rfl, L, _, 5, .int (k5 : Int), rfl, rfl, SqL.of hL2, atI_nat (j := 5) rfl, _, rfl, L, _, 7, .int (k7 : Int), rfl, rfl, SqL.of hL2, atI_nat (j := 7) rfl, _, rfl, L, _, 8, .int (k8 : Int), rfl, rfl, SqL.of hL2, atI_nat (j := 8) rfl, (by show 4 <= sizeLine; decide), fun t3 ht3 => ?_⟩
  have s3 := same_upd (o := .tup [.int (k4 : Int), .int (k5 : Int), .int (k7 : Int), .int (k8 : Int)]) ht3
  have h3 : upd X2 t3 (.tup [.int (k4 : Int), .int (k5 : Int), .int (k7 : Int), .int (k8 : Int)]) t3 = some (.tup [.int (k4 : Int), .int (k5 : Int), .int (k7 : Int), .int (k8 : Int)]) := upd_same
  generalize hX3 : upd X2 t3 (.tup [.int (k4 : Int), .int (k5 : Int), .int (k7 : Int), .int (k8 : Int)]) = X3 at s3 h3
  have hL3 := s3 _ _ hL2
  first | rw [hX3] | (show ∃ _, _; rw [hX3]) | skip
  refine ⟨(by show 4 <= sizeLine; decide), fun M hM => ?_⟩
  have s4 := same_upd (o := .lst [.ref t0, .ref t1, .ref t2, .ref t3]) hM
  exact k M t0 t1 t2 t3 _ ((((s0.trans s1).trans s2).trans s3).trans s4) upd_same (s4 _ _ (s3 _ _ (s2 _ _ (s1 _ _ h0)))) (s4 _ _ (s3 _ _ (s2 _ _ h1))) (s4 _ _ (s3 _ _ h2)) (s4 _ _ h3)
inductive SpMet (a : Ad) (vs : List V) (H : Hp) (Q : VK) : Prop
 | mk (g : GA) (G : Gv) (t : Addr) (f0 f1 f2 f3 l : Nat) (_ : vs = [.ref g.p, .ref t]) (_ : GroveAt a H g G) (_ : GOk G) (_ : H t = some (.tup [.int f0, .int f1, .int f2, .int f3])) (_ : LevAt G f0 ((l + 1 : Nat) : Int) /\ LevAt G f1 ((l + 1 : Nat) : Int) /\ LevAt G f2 ((l + 1 : Nat) : Int) /\ LevAt G f3 ((l + 1 : Nat) : Int)) (_ : l <= 47) (_ : G.length < 9000000) (_ : ∀ (k : Nat) (G' : Gv) (H' : Hp), Fr g H H' -> GroveAt a H' g G' -> Goes G G' 1 -> G'[k]? = some ⟨[((qO G f0 3 : Nat) : Int), ((qO G f1 2 : Nat) : Int), ((qO G f2 1 : Nat) : Int), ((qO G f3 0 : Nat) : Int)], (l : Int) + 1⟩ -> Q (.int k) H') : SpMet a vs H Q
def spMet (a : Ad) : Sp := fun vs H Q _ => SpMet a vs H Q
theorem ok_met {f : Addr} {fd : FuncData} (F : Fun K "met_in_the_middle" "met_in_the_middle" s_met_in_the_middle f fd) (T : Top K mg a) (M_Grove_linked : CalM P w K mg base CX0 2 a.c_Grove "linked" p_Grove_linked (spLink a)) : FnOk P w K mg base CX0 3 f fd p_met_in_the_middle (spMet a) := by
 refine F.ok sc_met_in_the_middle (fun vs H Q E h => ?_) (fun cdv A outer s H vs Q E hr h => ?_)
 ·obtain ⟨g, G, t, f0, f1, f2, f3, l, rfl, _⟩ := h
  rfl
 ·obtain ⟨g, G, t, f0, f1, f2, f3, l, rfl, hg, ok, ht, ⟨l0, l1, l2, l3⟩, h47, few, k⟩ := h
  obtain ⟨ts, h3, h4⟩ := hg.pt
  obtain ⟨x00, x01, x02, x03, e0, m00, m01, m02, m03⟩ := ok.four l0
  obtain ⟨u0, eu0, hu0⟩ := PairedM.get h4 e0
  obtain ⟨y00, y01, y02, y03⟩ := qO_of e0
  obtain ⟨x10, x11, x12, x13, e1, m10, m11, m12, m13⟩ := ok.four l1
  obtain ⟨u1, eu1, hu1⟩ := PairedM.get h4 e1
  obtain ⟨y10, y11, y12, y13⟩ := qO_of e1
  obtain ⟨x20, x21, x22, x23, e2, m20, m21, m22, m23⟩ := ok.four l2
  obtain ⟨u2, eu2, hu2⟩ := PairedM.get h4 e2
  obtain ⟨y20, y21, y22, y23⟩ := qO_of e2
  obtain ⟨x30, x31, x32, x33, e3, m30, m31, m32, m33⟩ := ok.four l3
  obtain ⟨u3, eu3, hu3⟩ := PairedM.get h4 e3
  obtain ⟨y30, y31, y32, y33⟩ := qO_of e3
  rw [y03, y12, y21, y30] at k
  refine ⟨_, (@pss_cons _ _ _ _ _ (@ps_set _ _ (2) _ _ _ _ sc_met_in_the_middle.nd rfl (Or.inl rfl) (@pe_fld _ _ _ _ _ (pv 0) rfl) rfl (.inl rfl)) (@pss_one _ _ _ (@ps_ret _ _ _ _ (@pe_calm _ _ _ _ _ _ _ _ _ _ _ _ _ _ _ _ (pv 0) M_Grove_linked (rm hr) pass0 (@pa_tup _ _ _ _ _ _ _ (@pa_cons _ _ _ _ _ (@pe_ix _ _ _ _ _ _ _ (@ix_tup _) (@pe_ix _ _ _ _ _ _ _ (@ix_list _) (pv 2) (@pe_ix _ _ _ _ _ _ _ (@ix_tup _) (pv 1) (@pe_int _ _ _ _) (fun _ _ => rfl)) (fun _ _ => rfl)) (@pe_int _ _ _ _) (fun _ _ => rfl)) (@pa_cons _ _ _ _ _ (@pe_ix _ _ _ _ _ _ _ (@ix_tup _) (@pe_ix _ _ _ _ _ _ _ (@ix_list _) (pv 2) (@pe_ix _ _ _ _ _ _ _ (@ix_tup _) (pv 1) (@pe_int _ _ _ _) (fun _ _ => rfl)) (fun _ _ => rfl)) (@pe_int _ _ _ _) (fun _ _ => rfl)) (@pa_cons _ _ _ _ _ (@pe_ix _ _ _ _ _ _ _ (@ix_tup _) (@pe_ix _ _ _ _ _ _ _ (@ix_list _) (pv 2) (@pe_ix _ _ _ _ _ _ _ (@ix_tup _) (pv 1) (@pe_int _ _ _ _) (fun _ _ => rfl)) (fun _ _ => rfl)) (@pe_int _ _ _ _) (fun _ _ => rfl)) (@pa_cons _ _ _ _ _ (@pe_ix _ _ _ _ _ _ _ (@ix_tup _) (@pe_ix _ _ _ _ _ _ _ (@ix_list _) (pv 2) (@pe_ix _ _ _ _ _ _ _ (@ix_tup _) (pv 1) (@pe_int _ _ _ _) (fun _ _ => rfl)) (fun _ _ => rfl)) (@pe_int _ _ _ _) (fun _ _ => rfl)) (@pa_nil _) rfl) rfl) rfl) rfl) (@pa_nil _)) rfl rfl rfl)))), ?_⟩
  try dsimp only [cxK]
  refine ⟨_, rfl, g.p, _, g.dx, _, _, rfl, hg.hp, T.cl_Grove, T.na_Grove_parts, fl6_pt g, ?_⟩
  refine ⟨_, rfl, g.p, g.dx, _, rfl, hg.hp, no_linked g, _, rfl, _, rfl, t, _, 0, .int (f0 : Int), rfl, rfl, SqT.of ht, atI_nat (j := 0) rfl, g.pt, _, (f0 : Int), .ref u0, rfl, rfl, SqL.of h3, atI_nat (by rw [List.getElem?_map, eu0]; rfl), u0, _, 3, .int (x03 : Int), rfl, rfl, SqT.of hu0, atI_nat (j := 3) rfl, _, rfl, _, rfl, t, _, 1, .int (f1 : Int), rfl, rfl, SqT.of ht, atI_nat (j := 1) rfl, g.pt, _, (f1 : Int), .ref u1, rfl, rfl, SqL.of h3, atI_nat (by rw [List.getElem?_map, eu1]; rfl), u1, _, 2, .int (x12 : Int), rfl, rfl, SqT.of hu1, atI_nat (j := 2) rfl, _, rfl, _, rfl, t, _, 2, .int (f2 : Int), rfl, rfl, SqT.of ht, atI_nat (j := 2) rfl, g.pt, _, (f2 : Int), .ref u2, rfl, rfl, SqL.of h3, atI_nat (by rw [List.getElem?_map, eu2]; rfl), u2, _, 1, .int (x21 : Int), rfl, rfl, SqT.of hu2, atI_nat (j := 1) rfl, _, rfl, _, rfl, t, _, 3, .int (f3 : Int), rfl, rfl, SqT.of ht, atI_nat (j := 3) rfl, g.pt, _, (f3 : Int), .ref u3, rfl, rfl, SqL.of h3, atI_nat (by rw [List.getElem?_map, eu3]; rfl), u3, _, 0, .int (x30 : Int), rfl, rfl, SqT.of hu3, atI_nat (j := 0) rfl, (by show 4 <= sizeLine; decide), fun u hu => ?_⟩
  have s1 := same_upd (o := .tup [.int (x03 : Int), .int (x12 : Int), .int (x21 : Int), .int (x30 : Int)]) hu
  exact ⟨g, G, u, x03, x12, x21, x30, (l : Int), rfl, hg.same s1, ok, upd_same, ⟨m03, m12, m21, m30⟩, by lia, few, fun n G' H' fr hg' go e => k n G' H' ((Same.fr s1).trans fr) hg' go e⟩
end
end J
namespace J
open PySem L2
def Sv (o : HO) : Prop := Nv o \/ ∃ xs : List V, o = .lst xs /\ xs.length <= 50
def KpS (H H' : Hp) : Prop := ∀ b o, H b = some o -> Sv o -> H' b = some o
theorem Sv.lst {xs : List V} (h : xs.length <= 50) : Sv (.lst xs) := .inr ⟨xs, rfl, h⟩
theorem Bs.long {G : Gv} (h : Bs G) : 56 <= G.length := (List.getElem?_eq_some_iff.mp (h 47 (by decide))).1
theorem Sv.nl {b x : Addr} {H : Hp} {o : HO} {xs : List V} (s : Sv o) (e : H b = some o) (ex : H x = some (.lst xs)) (lx : 50 < xs.length) : b ≠ x := fun z => by
 rw [z, ex] at e
 cases e
 rcases s with s | ⟨ys, ey, ly⟩
 ·cases s
 ·cases ey
  lia
theorem Sv.nt {b x : Addr} {H : Hp} {o : HO} {k : List (List Key × V)} (s : Sv o) (e : H b = some o) (ex : H x = some (.dT k)) : b ≠ x := fun z => by
 rw [z, ex] at e
 cases e
 rcases s with s | ⟨ys, ey, ly⟩
 ·cases s
 ·cases ey
theorem Sv.nk {b x : Addr} {H : Hp} {o : HO} {k : List (Key × V)} (s : Sv o) (e : H b = some o) (ex : H x = some (.dK k)) : b ≠ x := fun z => by
 rw [z, ex] at e
 cases e
 rcases s with s | ⟨ys, ey, ly⟩
 ·cases s
 ·cases ey
theorem Fr.kps {a : Ad} {H H' : Hp} {g : GA} {G : Gv} (f : Fr g H H') (hg : GroveAt a H g G) (l56 : 56 <= G.length) : KpS H H' := by
 intro b o e s
 obtain ⟨ts, h3, h4⟩ := hg.pt
 have lt : ts.length = G.length := Paired.length h4
 exact f _ _ e (s.nl e hg.lv (by rw [List.length_map]; lia)) (s.nl e h3 (by rw [List.length_map]; lia)) (s.nt e hg.nm)
theorem FrJ.kps {a : Ad} {H H' : Hp} {g : GA} {G : Gv} {N M : Nat} {r : RuleA} {m : MA} (f : FrJ g m H H') (hg : GroveAt a H g G) (l56 : 56 <= G.length) (hm : MemW H g G N M r m) : KpS H H' := by
 intro b o e s
 obtain ⟨ts, h3, h4⟩ := hg.pt
 obtain ⟨kc, c1, _⟩ := hm.ce
 have lt : ts.length = G.length := Paired.length h4
 refine f _ _ e (s.nl e hg.lv (by rw [List.length_map]; lia)) (s.nl e h3 (by rw [List.length_map]; lia)) (s.nt e hg.nm) (s.nt e c1) fun z => ?_
 obtain ⟨j, hj⟩ := List.getElem?_of_mem z
 obtain ⟨kv, e2, _⟩ := hm.sq j b hj
 exact s.nk e e2 rfl
theorem LevAt.one {G : Gv} {n : Nat} {i j : Int} (h : LevAt G n i) (k : LevAt G n j) : i = j := by
 obtain ⟨q, e1, e2⟩ := h
 obtain ⟨p, f1, f2⟩ := k
 rw [e1] at f1
 cases f1
 exact e2.symm.trans f2
theorem cel_inj {G : Gv} (ok : GOk G) : ∀ (l : Nat) {n m : Nat}, LevAt G n (l : Int) -> LevAt G m (l : Int) -> (∀ x y, x < 2 ^ l -> y < 2 ^ l -> celI G l n x y = celI G l m x y) -> n = m
 | 0, n, m, _, _, h => Int.ofNat.inj (h 0 0 (by decide) (by decide))
 | l + 1, n, m, hn, hm, h => by
  have part : ∀ i j, i < 2 -> j < 2 -> qO G n (i + 2 * j) = qO G m (i + 2 * j) := fun i j hi hj => by
   refine cel_inj ok l (qO_lev ok hn (by lia)) (qO_lev ok hm (by lia)) fun x y hx hy => ?_
   rw [<- cel_q G l n hx hy hi hj, <- cel_q G l m hx hy hi hj]
   have bi : 2 ^ l * i <= 2 ^ l * 1 := Nat.mul_le_mul_left _ (by lia)
   have bj : 2 ^ l * j <= 2 ^ l * 1 := Nat.mul_le_mul_left _ (by lia)
   exact h _ _ (by rw [Nat.pow_succ]; lia) (by rw [Nat.pow_succ]; lia)
  obtain ⟨x, y, z, w, e, _⟩ := ok.four hn
  obtain ⟨x', y', z', w', e', _⟩ := ok.four hm
  obtain ⟨a0, a1, a2, a3⟩ := qO_of e
  obtain ⟨b0, b1, b2, b3⟩ := qO_of e'
  have p0 := part 0 0 (by decide) (by decide)
  have p1 := part 1 0 (by decide) (by decide)
  have p2 := part 0 1 (by decide) (by decide)
  have p3 := part 1 1 (by decide) (by decide)
  have p0 : x = x' := a0.symm.trans (p0.trans b0)
  have p1 : y = y' := a1.symm.trans (p1.trans b1)
  have p2 : z = z' := a2.symm.trans (p2.trans b2)
  have p3 : w = w' := a3.symm.trans (p3.trans b3)
  refine ok.one e e' ?_
  rw [p0, p1, p2, p3]
def toV (k : Nat) : V := .int (k : Int)
theorem cel_per (G : Gv) : ∀ (l n x y : Nat), cel G l n (x % 2 ^ l) (y % 2 ^ l) = cel G l n x y
 | 0, n, x, y => rfl
 | l + 1, n, x, y => by
  have e1 : ∀ z : Nat, z % 2 ^ (l + 1) / 2 ^ l % 2 = z / 2 ^ l % 2 := fun z => by
   rw [Nat.pow_succ, Nat.mod_mul_right_div_self, Nat.mod_mod]
  have e2 : ∀ z : Nat, z % 2 ^ (l + 1) % 2 ^ l = z % 2 ^ l := fun z => by
   rw [Nat.pow_succ]
   exact Nat.mod_mul_right_mod z (2 ^ l) 2
  show cel G l (qO G n (x % 2 ^ (l + 1) / 2 ^ l % 2 + 2 * (y % 2 ^ (l + 1) / 2 ^ l % 2))) (x % 2 ^ (l + 1)) (y % 2 ^ (l + 1)) = cel G l (qO G n (x / 2 ^ l % 2 + 2 * (y / 2 ^ l % 2))) x y
  rw [e1, e1, <- cel_per G l _ (x % 2 ^ (l + 1)) (y % 2 ^ (l + 1)), e2, e2, cel_per G l]
def SoG (G : Gv) (l n c : Nat) : Prop := LevAt G n (l : Int) /\ ∀ x y, x < 2 ^ l -> y < 2 ^ l -> cel G l n x y = c
theorem SoG.all {G : Gv} {l n c : Nat} (h : SoG G l n c) (x y : Nat) : cel G l n x y = c := by
 rw [<- cel_per]
 exact h.2 _ _ (Nat.mod_lt _ (Nat.two_pow_pos l)) (Nat.mod_lt _ (Nat.two_pow_pos l))
theorem SoG.fn {G : Gv} {l n c : Nat} (h : SoG G l n c) : celI G l n = fun _ _ => (c : Int) := by
 funext x y
 exact congrArg Int.ofNat (h.all x y)
theorem SoG.goes {G G' : Gv} {i l n c : Nat} (ok : GOk G) (go : Goes G G' i) (h : SoG G l n c) : SoG G' l n c := ⟨go.lev h.1, fun x y hx hy => by rw [cel_goes ok go l n h.1]; exact h.2 x y hx hy⟩
theorem SoG.one {G : Gv} (ok : GOk G) {l n m c : Nat} (h : SoG G l n c) (k : SoG G l m c) : n = m := cel_inj ok l h.1 k.1 fun x y _ _ => by rw [h.fn, k.fn]
theorem SoG.of {G : Gv} {l n c : Nat} (lv : LevAt G n (l : Int)) (h : ∀ x y, x < 2 ^ l -> y < 2 ^ l -> celI G l n x y = (c : Int)) : SoG G l n c := ⟨lv, fun x y hx hy => Int.ofNat.inj (h x y hx hy)⟩
theorem SoG.up {G : Gv} {l n c y : Nat} (h : SoG G l y c) (e : G[n]? = some ⟨[(y : Int), (y : Int), (y : Int), (y : Int)], (l : Int) + 1⟩) : SoG G (l + 1) n c := by
 obtain ⟨a0, a1, a2, a3⟩ := qO_of e
 refine ⟨⟨_, e, by show (l : Int) + 1 = ((l + 1 : Nat) : Int); omega⟩, fun x z _ _ => ?_⟩
 show cel G l (qO G n (x / 2 ^ l % 2 + 2 * (z / 2 ^ l % 2))) x z = c
 have q : ∀ j, j < 4 -> qO G n j = y := fun j hj => by
  match j, hj with
  | 0, _ => exact a0
  | 1, _ => exact a1
  | 2, _ => exact a2
  | 3, _ => exact a3
 rw [q _ (by omega)]
 exact h.all x z
def Still (r : RuleA) (c : Nat) : Prop := becA r (c : Int) [(c : Int), c, c, c, c, c, c, c] = c
theorem stp_still {r : RuleA} {c : Nat} (h : Still r c) : ∀ k, stpN r k (fun _ _ => (c : Int)) = fun _ _ => (c : Int)
 | 0 => rfl
 | k + 1 => by
  show stp r (stpN r k (fun _ _ => (c : Int))) = _
  rw [stp_still h k]
  funext x y
  exact h
theorem SoG.jr {r : RuleA} {G : Gv} {e l n k c : Nat} (st : Still r c) (hn : SoG G (l + 2) n c) (hk : SoG G (l + 1) k c) (he : e <= l) : JR r G e n k := ⟨l, hn.1, he, hk.1, fun x y _ _ => by rw [hn.fn, hk.fn, stp_still st]⟩
theorem JR.still {r : RuleA} {G : Gv} {e l n k c : Nat} (st : Still r c) (hn : SoG G (l + 2) n c) (h : JR r G e n k) : SoG G (l + 1) k c := by
 obtain ⟨l', h1, h2, h3, h4⟩ := h
 have e' : l' = l := by
  have := h1.one hn.1
  omega
 subst e'
 refine SoG.of h3 fun x y hx hy => ?_
 rw [h4 x y hx hy, hn.fn, stp_still st]
def MH (H : Hp) (m : MA) (e n k : Nat) : Prop := ∃ d kv, m.ds[e]? = some d /\ H d = some (.dK kv) /\ valV kv (Sum.inl (n : Int)) = some (.int (k : Int))
theorem MH.same {H H' : Hp} {m : MA} {e n k : Nat} (s : Same H H') (h : MH H m e n k) : MH H' m e n k := by
 obtain ⟨d, kv, h1, h2, h3⟩ := h
 exact ⟨d, kv, h1, s _ _ h2, h3⟩
theorem MH.fr {a : Ad} {H H' : Hp} {g : GA} {G : Gv} {m : MA} {e n k : Nat} (hg : GroveAt a H g G) (f : Fr g H H') (h : MH H m e n k) : MH H' m e n k := by
 obtain ⟨d, kv, h1, h2, h3⟩ := h
 obtain ⟨ts, p3, _⟩ := hg.pt
 exact ⟨d, kv, h1, f _ _ h2 (ne_of h2 hg.lv (by intro z; cases z)) (ne_of h2 p3 (by intro z; cases z)) (ne_of h2 hg.nm (by intro z; cases z)), h3⟩
section
variable {P : Program} {w : World} {K : PySem.W.Frag} {mg : Str -> Option Value} {base : Heap} {a : Ad}
inductive SpRSo (a : Ad) (L : Nat) (vs : List V) (H : Hp) (Q : VK) : Prop
 | old (p dx mem pr : Addr) (g : GA) (G : Gv) (N M : Nat) (r : RuleA) (m : MA) (n e k : Nat) (_ : vs = [.ref p, .int n, .int e]) (_ : JW a H g G N M p dx mem pr r m) (_ : MH H m e n k) (_ : Q (.int k) H) : SpRSo a L vs H Q
 | new (p dx mem pr : Addr) (g : GA) (G : Gv) (N M : Nat) (r : RuleA) (m : MA) (n l c : Nat) (_ : vs = [.ref p, .int n, .int l]) (_ : JW a H g G N M p dx mem pr r m) (_ : SoG G (l + 2) n c) (_ : Still r c) (_ : l < L) (_ : N + l + 1 < 900000) (_ : M + 4 < 900000) (_ : G.length + 12 * (l + 1) < 7000000) (_ : ∀ (k : Nat) (G' : Gv) (H' : Hp), FrJ g m H H' -> JW a H' g G' (N + l + 1) (M + 4) p dx mem pr r m -> Goes G G' (12 * (l + 1)) -> SoG G' (l + 1) k c -> MH H' m l n k -> Q (.int k) H') : SpRSo a L vs H Q
def spRSo (a : Ad) (L : Nat) : Sp := fun vs H Q _ => SpRSo a L vs H Q
inductive SpFSo (a : Ad) (L : Nat) (vs : List V) (H : Hp) (Q : VK) : Prop
 | mk (p dx mem pr : Addr) (g : GA) (G : Gv) (N M : Nat) (r : RuleA) (m : MA) (n l c : Nat) (_ : vs = [.ref p, .int n, .int l]) (_ : JW a H g G N M p dx mem pr r m) (_ : SoG G (l + 2) n c) (_ : Still r c) (_ : l < L) (_ : N + l + 1 < 900000) (_ : M + 4 < 900000) (_ : G.length + 12 * (l + 1) < 7000000) (_ : ∀ (k : Nat) (G' : Gv) (H' : Hp), FrJ g m H H' -> JW a H' g G' (N + l) (M + 4) p dx mem pr r m -> Goes G G' (12 * (l + 1)) -> SoG G' (l + 1) k c -> Q (.int k) H') : SpFSo a L vs H Q
def spFSo (a : Ad) (L : Nat) : Sp := fun vs H Q _ => SpFSo a L vs H Q
inductive SpHSo (a : Ad) (L : Nat) (vs : List V) (H : Hp) (Q : VK) : Prop
 | mk (p dx mem pr : Addr) (g : GA) (G : Gv) (N M : Nat) (r : RuleA) (m : MA) (n l c : Nat) (_ : vs = [.ref p, .int n, .int ((l + 1 : Nat) : Int)]) (_ : JW a H g G N M p dx mem pr r m) (_ : SoG G (l + 1 + 2) n c) (_ : Still r c) (_ : l < L) (_ : N + l + 1 < 900000) (_ : M + 4 < 900000) (_ : G.length + 12 * (l + 1) + 10 < 7000000) (_ : ∀ (A : Addr) (f y : Nat) (G' : Gv) (H' : Hp), FrJ g m H H' -> JW a H' g G' (N + l + 1) (M + 4) p dx mem pr r m -> Goes G G' (12 * (l + 1) + 9) -> H' A = some (.lst [toV f, toV f, toV f, toV f]) -> SoG G' (l + 2) f c -> SoG G' (l + 1) y c -> MH H' m l f y -> Q (.ref A) H') : SpHSo a L vs H Q
def spHSo (a : Ad) (L : Nat) : Sp := fun vs H Q _ => SpHSo a L vs H Q
theorem ok_rSo {L d : Nat} {f : Addr} {fd : FuncData} (F : Fun K "reckoned" "Jumps.reckoned" s_Jumps_reckoned f fd) (T : Top K mg a) (M_Jumps_fresh : CalM P w K mg base CX0 d a.c_Jumps "fresh" p_Jumps_fresh (spFSo a L)) : FnOk P w K mg base CX0 (d + 1) f fd p_Jumps_reckoned (spRSo a L) := by
 refine F.ok sc_Jumps_reckoned (fun vs H Q E h => ?_) (fun cdv A outer s H vs Q E hr h => ?_)
 ·rcases h with ⟨p, dx, mem, pr, g, G, N, M, r, m, n, e, k, rfl, _⟩ | ⟨p, dx, mem, pr, g, G, N, M, r, m, n, l, c, rfl, _⟩ <;> rfl
 ·refine ⟨_, (@pss_cons _ _ _ _ _ (@ps_set _ _ (3) _ _ _ _ sc_Jumps_reckoned.nd rfl (Or.inl rfl) (@pe_dget1 _ _ _ _ _ _ _ (hu_of hr) (@pe_ix _ _ _ _ _ _ _ (@ix_list _) (@pe_fld _ _ _ _ _ (pv 0) rfl) (pv 2) (fun _ _ => rfl)) (pv 1) ⟨rfl, rfl, rfl, rfl⟩) rfl (.inl rfl)) (@pss_cons _ _ _ _ _ (@ps_if _ _ _ _ _ _ _ _ (@pt_cmpR _ _ _ _ _ _ _ _ (@op_isN _) (pv 3) (@pe_non _ _ _) (nomark _)) (@pss_cons _ _ _ _ _ (@ps_set _ _ (3) _ _ _ _ sc_Jumps_reckoned.nd rfl (Or.inl rfl) (@pe_calm _ _ _ _ _ _ _ _ _ _ _ _ _ _ _ _ (pv 0) M_Jumps_fresh (rm hr) pass0 (@pa_cons _ _ _ _ _ (pv 1) (@pa_cons _ _ _ _ _ (pv 2) (@pa_nil _) rfl) rfl) rfl rfl rfl) rfl (.inl rfl)) (@pss_one _ _ _ (@ps_dput _ _ _ _ _ _ _ _ _ (hu_of hr) (@pe_ix _ _ _ _ _ _ _ (@ix_list _) (@pe_fld _ _ _ _ _ (pv 0) rfl) (pv 2) (fun _ _ => rfl)) (pv 1) (pv 3) rfl))) (@pss_nil _)) (@pss_one _ _ _ (@ps_ret _ _ _ _ (pv 3))))), ?_⟩
  rcases h with ⟨p, dx, mem, pr, g, G, N, M, r, m, n, e, k', rfl, hj, ⟨d, kv, ed, hd, hv⟩, k⟩ | ⟨p, dx, mem, pr, g, G, N, M, r, m, n, l, c, rfl, hj, hs, st, hL, fewN, fewM, few, k⟩
  ·have ed' : atI (m.ds.map V.ref) (e : Int) = some (.ref d) := atI_nat (by rw [List.getElem?_map, ed]; rfl)
   refine ⟨_, rfl, p, _, dx, _, _, rfl, hj.hp, T.cl_Jumps, T.na_Jumps_known_squares, jf5_ks _ _ _ _ _, _, rfl, m.l, _, (e : Int), .ref d, rfl, rfl, SqL.of hj.me.l, ed', d, rfl, .inl ⟨_, .inl hd⟩, _, rfl, _, DGet.k (k := Sum.inl (n : Int)) hd, ?_⟩
   rw [hv]
   exact ⟨_, rfl, rfl, _, rfl, iteF ⟨_, rfl, k⟩⟩
  ·obtain ⟨q, eq, el⟩ := id hs.1
   have l48 := (hj.ok.lev eq).2
   have e47 : l < m.ds.length := by rw [hj.me.len]; omega
   obtain ⟨d, ed⟩ : ∃ d, m.ds[l]? = some d := ⟨m.ds[l]'e47, List.getElem?_eq_getElem _⟩
   obtain ⟨kv, hd, dl, dk, dv⟩ := hj.me.sq l d ed
   have ed' : atI (m.ds.map V.ref) (l : Int) = some (.ref d) := atI_nat (by rw [List.getElem?_map, ed]; rfl)
   refine ⟨_, rfl, p, _, dx, _, _, rfl, hj.hp, T.cl_Jumps, T.na_Jumps_known_squares, jf5_ks _ _ _ _ _, _, rfl, m.l, _, (l : Int), .ref d, rfl, rfl, SqL.of hj.me.l, ed', d, rfl, .inl ⟨_, .inl hd⟩, _, rfl, _, DGet.k (k := Sum.inl (n : Int)) hd, ?_⟩
   apply meetJ (fun σ H1 => ∃ (x : Nat) (G' : Gv), σ = [some (.ref p), some (.int (n : Int)), some (.int (l : Int)), some (.int (x : Int))] /\ FrJ g m H H1 /\ JW a H1 g G' (N + l + 1) (M + 4) p dx mem pr r m /\ Goes G G' (12 * (l + 1)) /\ SoG G' (l + 1) x c /\ MH H1 m l n x)
   ·intro rest
    refine ⟨_, rfl, rfl, _, rfl, ?_⟩
    cases ev : valV kv (Sum.inl (n : Int)) with
    | some v =>
     obtain ⟨x, rfl, jr⟩ := dv n v ev
     exact iteF (rest _ _ ⟨x, G, rfl, fun b o e _ _ _ _ _ => e, hj.mono (by omega) (by omega), (Goes.refl hj.ok).mono (by omega), JR.still st hs jr, d, kv, ed, hd, ev⟩)
    | none =>
     refine iteT ?_
     refine ⟨_, rfl, p, dx, _, rfl, hj.hp, noJ_fresh _ _ _ _ _, _, rfl, _, rfl, p, dx, mem, pr, g, G, N, M, r, m, n, l, c, rfl, hj, hs, st, hL, fewN, fewM, few, fun x G' H' fr hj' go sx => ?_⟩
     obtain ⟨kv', hd', dl', dk', dv'⟩ := hj'.me.sq l d ed
     refine ⟨_, rfl, _, rfl, p, _, dx, _, _, rfl, hj'.hp, T.cl_Jumps, T.na_Jumps_known_squares, jf5_ks _ _ _ _ _, _, rfl, m.l, _, (l : Int), .ref d, rfl, rfl, SqL.of hj'.me.l, ed', _, rfl, d, _, rfl, DPut.k (k := Sum.inl (n : Int)) hd' (Nat.lt_of_le_of_lt (show kv'.length <= 1000000 by omega) (by decide)), ?_⟩
     exact rest _ _ ⟨x, G', rfl, fun b o e n1 n2 n3 n4 n5 => by rw [upd_ne (fun z => n5 (by rw [z]; exact List.mem_of_getElem? ed))]; exact fr _ _ e n1 n2 n3 n4 n5, hj'.putS ed hd' (SoG.jr st (hs.goes hj.ok go) sx (Nat.le_refl l)), go, sx, d, _, ed, upd_same, by rw [valV_put, if_pos rfl]⟩
   rintro σ H1 ⟨x, G', rfl, fr, hj', go, sx, mh⟩
   exact ⟨_, rfl, k x G' H1 fr hj' go sx mh⟩
end
end J
namespace J
open PySem L2
section
variable {P : Program} {w : World} {K : PySem.W.Frag} {mg : Str -> Option Value} {base : Heap} {a : Ad}
theorem ok_hS {L d : Nat} {f : Addr} {fd : FuncData} (F : Fun K "four_halfway" "Jumps.four_halfway" s_Jumps_four_halfway f fd) (T : Top K mg a) (d3 : 3 <= d) (C_nine_parts : Cal P w K mg base CX0 3 "nine_parts" p_nine_parts (spNine a)) (C_fours_of : Cal P w K mg base CX0 1 "fours_of" p_fours_of spFours) (M_Grove_linked : CalM P w K mg base CX0 2 a.c_Grove "linked" p_Grove_linked (spLink a)) (M_Jumps_reckoned : CalM P w K mg base CX0 d a.c_Jumps "reckoned" p_Jumps_reckoned (spRSo a L)) : FnOk P w K mg base CX0 (d + 1) f fd p_Jumps_four_halfway (spHSo a L) := by
 refine F.ok sc_Jumps_four_halfway (fun vs H Q E h => ?_) (fun cdv A outer s H vs Q E hr h => ?_)
 ·obtain ⟨p, dx, mem, pr, g, G, N, M, r, m, n, l, c, rfl, _⟩ := h
  rfl
 ·obtain ⟨p, dx, mem, pr, g, G, N, M, r, m, n, l, c, rfl, hj, hs, st, hL, fewN, fewM, few, k⟩ := h
  refine ⟨_, (@pss_cons _ _ _ _ _ (@ps_setComp _ _ _ _ _ _ _ _ _ _ _ _ _ _ (3) _ _ _ rfl sc_Jumps_four_halfway.nd rfl rfl (@CScope.of _ ((defScope s_Jumps_four_halfway)) (n_Jumps_four_halfway) _ (["part", "self", "e"]) (1) ([0, 2]) rfl rfl (by decide +kernel)) (@pi_list _ _ _ _ (@pe_cal _ _ _ _ _ _ _ _ _ _ _ _ C_nine_parts (rm hr) rfl pass0 (@pa_cons _ _ _ _ _ (@pe_fld _ _ _ _ _ (pv 0) rfl) (@pa_cons _ _ _ _ _ (pv 1) (@pa_nil _) rfl) rfl) (by decide) rfl rfl)) (fun _ _ _ => (@pgc_name _ _ _ _ _ _ _ _ (0) (by decide +kernel) rfl rfl)) (fun _ _ _ => (@pts_nil _)) (fun _ _ _ => (@pe_calm _ _ _ _ _ _ _ _ _ _ _ _ _ _ _ _ (pv 1) M_Jumps_reckoned (rm hr) pass0 (@pa_cons _ _ _ _ _ (pv 0) (@pa_op _ _ _ _ _ _ _ _ _ _ (@op_sub _) (pv 2) (@pe_int _ _ _ _) (@pa_nil _)) rfl) rfl rfl rfl)) rfl (by intro _ ; rfl)) (@pss_one _ _ _ (@ps_ret _ _ _ _ (@pe_comp _ _ _ _ _ _ _ _ _ _ _ _ _ _ rfl (@CScope.of _ ((defScope s_Jumps_four_halfway)) (n_Jumps_four_halfway) _ (["four", "self"]) (1) ([0]) rfl rfl (by decide +kernel)) (@pi_list _ _ _ _ (@pe_cal _ _ _ _ _ _ _ _ _ _ _ _ C_fours_of (rm hr) rfl pass0 (@pa_cons _ _ _ _ _ (pv 3) (@pa_nil _) rfl) (by decide) rfl rfl)) (fun _ _ _ => (@pgc_name _ _ _ _ _ _ _ _ (0) (by decide +kernel) rfl rfl)) (fun _ _ _ => (@pts_nil _)) (fun _ _ _ => (@pe_calm _ _ _ _ _ _ _ _ _ _ _ _ _ _ _ _ (@pe_fldK _ (K) _ _ _ _ rfl (pv 1) rfl) M_Grove_linked (rm hr) pass0 (@pa_cons _ _ _ _ _ (pv 0) (@pa_nil _) rfl) rfl rfl rfl)) (by intro _ ; rfl))))), ?_⟩
  try dsimp only [cxK]
  obtain ⟨q9, eq9, el9⟩ := id hs.1
  have l46 : l <= 45 := by have := (hj.ok.lev eq9).2; omega
  refine ⟨_, rfl, p, _, dx, _, _, rfl, hj.hp, T.cl_Jumps, T.na_Jumps_grove, jf5_gr _ _ _ _ _, _, rfl, g, G, n, l + 1, rfl, hj.gr, hj.ok, hs.1, by omega, by omega, fun A9 ks G3 H3 fr3 hg3 go3 hA3 l9 nine => ?_⟩
  have hj3 := hj.fr fr3 hg3 go3
  have gf3 := go3.few
  have so9 : ∀ (t k : Nat), ks[t]? = some k -> SoG G3 (l + 2) k c := fun t k e => by
   have ht := (List.getElem?_eq_some_iff.mp e).1
   obtain ⟨k', e1, e2, e3⟩ := nine (t % 3) (t / 3) (by omega) (by omega)
   rw [show t % 3 + 3 * (t / 3) = t by omega, e] at e1
   cases e1
   exact SoG.of e2 fun x y hx hy => by rw [e3 x y hx hy, hs.fn]
  obtain ⟨k0, ek0⟩ : ∃ k0, ks[0]? = some k0 := ⟨ks[0]'(by omega), List.getElem?_eq_getElem _⟩
  have s0 := so9 0 k0 ek0
  have same9 : ∀ (t k : Nat), ks[t]? = some k -> k = k0 := fun t k e => SoG.one hj3.ok (so9 t k e) s0
  refine ⟨A9, rfl, ⟨_, SqL.of hA3⟩, ?_⟩
  refine blk_list (xs := ks.map fun (k : Nat) => V.int (k : Int)) (fun i acc H5 => (i = 0 /\ acc = [] /\ H5 = H3) \/ (1 <= i /\ ∃ (G5 : Gv) (y : Nat), acc = (List.replicate i y).map toV /\ FrJ g m H3 H5 /\ JW a H5 g G5 (N + l + 1) (M + 4) p dx mem pr r m /\ Goes G3 G5 (12 * (l + 1)) /\ SoG G5 (l + 1) y c /\ MH H5 m l k0 y)) (.inl ⟨rfl, rfl, rfl⟩) (fun i acc H5 _ z => by
   rcases z with ⟨_, _, z⟩ | ⟨_, _, _, _, fr, _⟩
   ·rw [z]; exact SqL.of hA3
   ·exact SqL.of ((fr.kps hj3.gr hj3.bs.long hj3.me) _ _ hA3 (.lst (by rw [List.length_map]; omega)))) ?_ ?_
  ·rintro i v acc H5 ev inv
   rw [List.getElem?_map] at ev
   obtain ⟨k5, ek, rfl⟩ := Option.map_eq_some_iff.mp ev
   have i9 : i < 9 := by have := (List.getElem?_eq_some_iff.mp ek).1; omega
   have e5 := same9 i k5 ek
   subst e5
   have ee : [V.ref p, V.int (k5 : Int), V.int (((l + 1 : Nat) : Int) - 1)] = [V.ref p, V.int (k5 : Int), V.int (l : Int)] := by rw [show ((l + 1 : Nat) : Int) - 1 = (l : Int) by omega]
   rcases inv with ⟨rfl, rfl, rfl⟩ | ⟨i1, G5, y, rfl, fr5, hj5, go5, sy, mh⟩
   ·refine ⟨⟨[some (.int (k5 : Int))], rfl, rfl⟩, by show 0 < sizeLine; decide, tyes ⟨_, rfl, p, dx, _, rfl, hj3.hp, noJ_reck _ _ _ _ _, _, rfl, _, rfl, _, _, rfl, rfl, .new p dx mem pr g G3 N M r m k5 l c ee hj3 s0 st hL fewN fewM (by omega) fun y G6 H6 fr6 hj6 go6 sy mh => .inr ⟨Nat.le_refl 1, G6, y, rfl, fr6, hj6, go6, sy, mh⟩⟩⟩
   ·refine ⟨⟨[some (.int (k5 : Int))], rfl, rfl⟩, by rw [List.length_map, List.length_replicate]; exact Nat.lt_trans i9 (by decide), tyes ⟨_, rfl, p, dx, _, rfl, hj5.hp, noJ_reck _ _ _ _ _, _, rfl, _, rfl, _, _, rfl, rfl, .old p dx mem pr g G5 _ _ r m k5 l y ee hj5 mh (.inr ⟨by omega, G5, y, ?_, fr5, hj5, go5, sy, mh⟩)⟩⟩
    rw [List.replicate_succ', List.map_append]
    rfl
  rintro acc H5 inv A5 hA5
  rw [List.length_map, l9] at inv
  obtain ⟨G5, y, rfl, fr5, hj5, go5, sy, mh⟩ : ∃ (G5 : Gv) (y : Nat), acc = (List.replicate 9 y).map toV /\ FrJ g m H3 H5 /\ JW a H5 g G5 (N + l + 1) (M + 4) p dx mem pr r m /\ Goes G3 G5 (12 * (l + 1)) /\ SoG G5 (l + 1) y c /\ MH H5 m l k0 y := by
   rcases inv with ⟨z, _⟩ | ⟨_, z⟩
   ·cases z
   ·exact z
  have gf5 := go5.few
  have s5 : Same H5 (upd H5 A5 (.lst ((List.replicate 9 y).map toV))) := same_upd hA5
  have hA5' : upd H5 A5 (.lst ((List.replicate 9 y).map toV)) A5 = some (.lst [.int y, .int y, .int y, .int y, .int y, .int y, .int y, .int y, .int y]) := upd_same
  generalize upd H5 A5 (.lst ((List.replicate 9 y).map toV)) = H6 at s5 hA5' ⊢
  have hj6 := hj5.same s5
  have f06 : FrJ g m H H6 := (Fr.j fr3).trans (fr5.trans (Same.j s5))
  refine ⟨_, rfl, A5, y, y, y, y, y, y, y, y, y, rfl, hA5', fun MM t0 t1 t2 t3 H7 s7 hM ht0 ht1 ht2 ht3 => ?_⟩
  have hj7 := hj6.same s7
  have mh7 := (mh.same s5).same s7
  have sk5 : SoG G5 (l + 2) k0 c := s0.goes hj3.ok go5
  refine ⟨MM, rfl, ⟨_, SqL.of hM⟩, ?_⟩
  have okG5 := hj7.ok
  have four : ∀ (t : Nat) (tt : Addr), [t0, t1, t2, t3][t]? = some tt -> H7 tt = some (.tup [.int y, .int y, .int y, .int y]) := fun t tt et => by
   match t, et with
   | 0, et => cases et; exact ht0
   | 1, et => cases et; exact ht1
   | 2, et => cases et; exact ht2
   | 3, et => cases et; exact ht3
   | j + 4, et => cases et
  refine blk_list (xs := [t0, t1, t2, t3].map V.ref) (fun i acc H8 => ∃ G8 : Gv, acc = (List.replicate i k0).map toV /\ Fr g H7 H8 /\ JW a H8 g G8 (N + l + 1) (M + 4) p dx mem pr r m /\ Goes G5 G8 i) ⟨G5, rfl, Fr.refl g H7, hj7, Goes.refl okG5⟩ (fun i acc H8 _ z => by obtain ⟨_, _, fr, _⟩ := z; exact SqL.of ((fr.kps hj7.gr hj7.bs.long) _ _ hM (.lst (by show 4 <= 50; decide)))) ?_ ?_
  ·rintro i v acc H8 ev ⟨G8, rfl, fr8, hj8, go8⟩
   rw [List.getElem?_map] at ev
   obtain ⟨tt, et, rfl⟩ := Option.map_eq_some_iff.mp ev
   have i4 : i < 4 := (List.getElem?_eq_some_iff.mp et).1
   have gf8 := go8.few
   have ly := go8.lev sy.1
   refine ⟨⟨[some (.ref tt)], rfl, rfl⟩, by rw [List.length_map, List.length_replicate]; exact Nat.lt_trans i4 (by decide), tyes ⟨_, rfl, p, _, dx, _, _, rfl, hj8.hp, T.cl_Jumps, T.na_Jumps_grove, jf5_gr _ _ _ _ _, g.p, g.dx, _, rfl, hj8.gr.hp, no_linked g, _, rfl, g, G8, tt, y, y, y, y, ((l + 1 : Nat) : Int), rfl, hj8.gr, hj8.ok, (fr8.kps hj7.gr hj7.bs.long) _ _ (four i tt et) (.inl .tup), ⟨ly, ly, ly, ly⟩, by omega, by omega, fun z G9 H9 fr9 hg9 go9 e9 => ?_⟩⟩
   have hj9 := hj8.fr fr9 hg9 go9
   have go59 := go8.trans go9
   have ez : z = k0 := SoG.one hj9.ok (SoG.up (l := l + 1) (sy.goes okG5 go59) e9) (sk5.goes okG5 go59)
   subst ez
   refine ⟨G9, ?_, fr8.trans fr9, hj9, go59⟩
   rw [List.replicate_succ', List.map_append]
   rfl
  rintro acc H8 ⟨G8, rfl, fr8, hj8, go8⟩ A8 hA8
  have s8 : Same H8 (upd H8 A8 (.lst ((List.replicate ([t0, t1, t2, t3].map V.ref).length k0).map toV))) := same_upd hA8
  have go4 : Goes G5 G8 4 := go8
  refine k A8 k0 y G8 _ (f06.trans ((Same.j s7).trans ((Fr.j fr8).trans (Same.j s8)))) (hj8.same s8) (((go3.trans go5).trans go4).mono (by omega)) upd_same (sk5.goes okG5 go4) (sy.goes okG5 go4) ((mh7.fr hj7.gr fr8).same s8)
end
end J
namespace J
open PySem L2
section
variable {P : Program} {w : World} {K : PySem.W.Frag} {mg : Str -> Option Value} {base : Heap} {a : Ad}
theorem ok_fS {L d : Nat} {f : Addr} {fd : FuncData} (F : Fun K "fresh" "Jumps.fresh" s_Jumps_fresh f fd) (T : Top K mg a) (d7 : 7 <= d) (M_Jumps_middle_after : CalM P w K mg base CX0 7 a.c_Jumps "middle_after" p_Jumps_middle_after (spMid2 a)) (M_Grove_linked : CalM P w K mg base CX0 2 a.c_Grove "linked" p_Grove_linked (spLink a)) (C_nine_parts : Cal P w K mg base CX0 3 "nine_parts" p_nine_parts (spNine a)) (C_fours_of : Cal P w K mg base CX0 1 "fours_of" p_fours_of spFours) (C_met_in_the_middle : Cal P w K mg base CX0 3 "met_in_the_middle" p_met_in_the_middle (spMet a)) (M_Jumps_reckoned : CalM P w K mg base CX0 d a.c_Jumps "reckoned" p_Jumps_reckoned (spRSo a L)) (M_Jumps_four_halfway : CalM P w K mg base CX0 (d + 1) a.c_Jumps "four_halfway" p_Jumps_four_halfway (spHSo a L)) : FnOk P w K mg base CX0 (d + 2) f fd p_Jumps_fresh (spFSo a (L + 1)) := by
 refine F.ok sc_Jumps_fresh (fun vs H Q E h => ?_) (fun cdv A outer s H vs Q E hr h => ?_)
 ·obtain ⟨p, dx, mem, pr, g, G, N, M, r, m, n, l, c, rfl, _⟩ := h
  rfl
 ·obtain ⟨p, dx, mem, pr, g, G, N, M, r, m, n, l, c, rfl, hj, hs, st, hL, fewN, fewM, few, k⟩ := h
  have hl := hs.1
  obtain ⟨q, eq, el⟩ := id hl
  have l48 := (hj.ok.lev eq).2
  have l46 : l <= 46 := by omega
  refine ⟨_, (@pss_cons _ _ _ _ _ (@ps_set _ _ (3) _ _ _ _ sc_Jumps_fresh.nd rfl (Or.inr rfl) (@pe_fld _ _ _ _ _ (pv 0) rfl) rfl (.inl rfl)) (@pss_cons _ _ _ _ _ (@ps_set _ _ (4) _ _ _ _ sc_Jumps_fresh.nd rfl (Or.inl rfl) (@pe_ix _ _ _ _ _ _ _ (@ix_list _) (@pe_fld _ _ _ _ _ (pv 3) rfl) (pv 1) (fun _ _ => rfl)) rfl (.inl rfl)) (@pss_cons _ _ _ _ _ (@ps_if _ _ _ _ _ _ _ _ (@pt_cmpR _ _ _ _ _ _ _ _ (@op_eq _) (pv 1) (@pe_ix _ _ _ _ _ _ _ (@ix_list _) (@pe_fld _ _ _ _ _ (pv 3) rfl) (pv 4) (fun _ _ => rfl)) (nomark _)) (@pss_one _ _ _ (@ps_ret _ _ _ _ (@pe_ix _ _ _ _ _ _ _ (@ix_list _) (@pe_fld _ _ _ _ _ (pv 3) rfl) (@pe_op _ _ _ _ _ _ _ _ (@op_sub _) (pv 4) (@pe_int _ _ _ _)) (fun _ _ => rfl)))) (@pss_nil _)) (@pss_cons _ _ _ _ _ (@ps_if _ _ _ _ _ _ _ _ (@pt_cmpR _ _ _ _ _ _ _ _ (@op_eq _) (pv 4) (@pe_gint _ _ _ _ rfl T.k_LEAST_JUMPED (by decide)) (nomark _)) (@pss_one _ _ _ (@ps_ret _ _ _ _ (@pe_calm _ _ _ _ _ _ _ _ _ _ _ _ _ _ _ _ (pv 0) M_Jumps_middle_after (rm hr) pass0 (@pa_cons _ _ _ _ _ (pv 1) (@pa_nil _) rfl) rfl rfl rfl))) (@pss_nil _)) (@pss_cons _ _ _ _ _ (@ps_if _ _ _ _ _ _ _ _ (@pt_cmpR _ _ _ _ _ _ _ _ (@op_lt _) (pv 2) (@pe_op _ _ _ _ _ _ _ _ (@op_sub _) (pv 4) (@pe_gint _ _ _ _ rfl T.k_LEAST_JUMPED (by decide))) (nomark _)) (@pss_cons _ _ _ _ _ (@ps_setComp _ _ _ _ _ _ _ _ _ _ _ _ _ _ (5) _ _ _ rfl sc_Jumps_fresh.nd rfl rfl (@CScope.of _ ((defScope s_Jumps_fresh)) (n_Jumps_fresh) _ (["part", "self", "e"]) (1) ([0, 2]) rfl rfl (by decide +kernel)) (@pi_list _ _ _ _ (@pe_cal _ _ _ _ _ _ _ _ _ _ _ _ C_nine_parts (rm hr) rfl pass0 (@pa_cons _ _ _ _ _ (pv 3) (@pa_cons _ _ _ _ _ (pv 1) (@pa_nil _) rfl) rfl) (by decide) rfl rfl)) (fun _ _ _ => (@pgc_name _ _ _ _ _ _ _ _ (0) (by decide +kernel) rfl rfl)) (fun _ _ _ => (@pts_nil _)) (fun _ _ _ => (@pe_calm _ _ _ _ _ _ _ _ _ _ _ _ _ _ _ _ (pv 1) M_Jumps_reckoned (rm hr) pass0 (@pa_cons _ _ _ _ _ (pv 0) (@pa_cons _ _ _ _ _ (pv 2) (@pa_nil _) rfl) rfl) rfl rfl rfl)) rfl (by intro _ ; rfl)) (@pss_one _ _ _ (@ps_ret _ _ _ _ (@pe_calm _ _ _ _ _ _ _ _ _ _ _ _ _ _ _ _ (pv 3) M_Grove_linked (rm hr) pass0 (@pa_cons _ _ _ _ _ (@pe_callTy _ _ _ _ _ _ _ _ _ (@call_tuple_of _) rfl T.b_tuple PyProof.Rows.boot_tuple (@pa_cons _ _ _ _ _ (@pe_comp _ _ _ _ _ _ _ _ _ _ _ _ _ _ rfl (@CScope.of _ ((defScope s_Jumps_fresh)) (n_Jumps_fresh) _ (["four", "grove"]) (1) ([3]) rfl rfl (by decide +kernel)) (@pi_list _ _ _ _ (@pe_cal _ _ _ _ _ _ _ _ _ _ _ _ C_fours_of (rm hr) rfl pass0 (@pa_cons _ _ _ _ _ (pv 5) (@pa_nil _) rfl) (by decide) rfl rfl)) (fun _ _ _ => (@pgc_name _ _ _ _ _ _ _ _ (0) (by decide +kernel) rfl rfl)) (fun _ _ _ => (@pts_nil _)) (fun _ _ _ => (@pe_cal _ _ _ _ _ _ _ _ _ _ _ _ C_met_in_the_middle (rm hr) rfl pass0 (@pa_cons _ _ _ _ _ (pv 1) (@pa_cons _ _ _ _ _ (pv 0) (@pa_nil _) rfl) rfl) (by decide) rfl rfl)) (by intro _ ; rfl)) (@pa_nil _) rfl) (by decide) (by decide) rfl rfl) (@pa_nil _) rfl) rfl rfl rfl)))) (@pss_nil _)) (@pss_one _ _ _ (@ps_ret _ _ _ _ (@pe_calm _ _ _ _ _ _ _ _ _ _ _ _ _ _ _ _ (pv 3) M_Grove_linked (rm hr) pass0 (@pa_cons _ _ _ _ _ (@pe_callTy _ _ _ _ _ _ _ _ _ (@call_tuple_of _) rfl T.b_tuple PyProof.Rows.boot_tuple (@pa_cons _ _ _ _ _ (@pe_comp _ _ _ _ _ _ _ _ _ _ _ _ _ _ rfl (@CScope.of _ ((defScope s_Jumps_fresh)) (n_Jumps_fresh) _ (["four", "self", "e"]) (1) ([0, 2]) rfl rfl (by decide +kernel)) (@pi_list _ _ _ _ (@pe_calm _ _ _ _ _ _ _ _ _ _ _ _ _ _ _ _ (pv 0) M_Jumps_four_halfway (rm hr) pass0 (@pa_cons _ _ _ _ _ (pv 1) (@pa_cons _ _ _ _ _ (pv 2) (@pa_nil _) rfl) rfl) rfl rfl rfl)) (fun _ _ _ => (@pgc_name _ _ _ _ _ _ _ _ (0) (by decide +kernel) rfl rfl)) (fun _ _ _ => (@pts_nil _)) (fun _ _ _ => (@pe_calm _ _ _ _ _ _ _ _ _ _ _ _ _ _ _ _ (pv 1) M_Jumps_reckoned (rm hr) pass0 (@pa_cons _ _ _ _ _ (pv 0) (@pa_op _ _ _ _ _ _ _ _ _ _ (@op_sub _) (pv 2) (@pe_int _ _ _ _) (@pa_nil _)) rfl) rfl rfl rfl)) (by intro _ ; rfl)) (@pa_nil _) rfl) (by decide) (by decide) rfl rfl) (@pa_nil _) rfl) rfl rfl rfl)))))))), ?_⟩
  try dsimp only [cxK]
  refine ⟨_, rfl, p, _, dx, _, _, rfl, hj.hp, T.cl_Jumps, T.na_Jumps_grove, jf5_gr _ _ _ _ _, ?_⟩
  refine ⟨_, rfl, g.p, _, g.dx, _, _, rfl, hj.gr.hp, T.cl_Grove, T.na_Grove_levels, fl6_lv g, _, rfl, g.lv, _, (n : Int), .int ((l + 2 : Nat) : Int), rfl, rfl, SqL.of hj.gr.lv, atI_nat (by rw [List.getElem?_map, eq, <- el]; rfl), ?_⟩
  refine ⟨_, rfl, _, rfl, g.p, _, g.dx, _, _, rfl, hj.gr.hp, T.cl_Grove, T.na_Grove_bares, fl6_br g, _, rfl, g.br, _, ((l + 2 : Nat) : Int), .int (bareN (l + 2) : Int), rfl, rfl, SqL.of hj.br, atI_nat (bareJ (by omega)), rfl, _, rfl, ?_⟩
  refine ite2 (fun hc => ?_) (fun hc => ?_)
  ·have ei : n = bareN (l + 2) := by
    have := of_decide_eq_true hc
    injection this with this
    exact Int.ofNat.inj this
   refine ⟨_, rfl, g.p, _, g.dx, _, _, rfl, hj.gr.hp, T.cl_Grove, T.na_Grove_bares, fl6_br g, _, rfl, _, _, rfl, rfl, g.br, _, ((l + 2 : Nat) : Int) - 1, .int (bareN (l + 1) : Int), rfl, rfl, SqL.of hj.br, (by rw [show ((l + 2 : Nat) : Int) - 1 = ((l + 1 : Nat) : Int) by omega]; exact atI_nat (bareJ (by omega))), ?_⟩
   have c0 : c = 0 := by
    have := hs.all 0 0
    rw [ei, hj.bs.zero _ (by omega)] at this
    exact this.symm
   subst c0
   exact k (bareN (l + 1)) G H (fun b o e _ _ _ _ _ => e) (hj.mono (by omega) (by omega)) ((Goes.refl hj.ok).mono (by omega)) ⟨hj.bs.lev hj.ok (l + 1) (by omega), fun x y _ _ => hj.bs.zero _ (by omega) x y⟩
  refine ⟨_, rfl, rfl, _, rfl, ?_⟩
  cases l with
  | zero =>
   refine (show ∀ {b : Bool} {A B : Prop}, b = true -> A -> (if b = true then A else B) from fun h x => by rw [h]; exact iteT x) (decide_eq_true rfl) ?_
   exact ⟨_, rfl, p, dx, _, rfl, hj.hp, noJ_mid _ _ _ _ _, _, rfl, p, dx, mem, pr, g, G, N, M, r, m, n, rfl, hj, hl, by omega, by omega, fun k' G' H' fr hj' go jr => k k' G' H' fr hj' (go.mono (by decide)) (JR.still st (hs.goes hj.ok go) jr)⟩
  | succ l =>
   refine (show ∀ {b : Bool} {A B : Prop}, b = false -> B -> (if b = true then A else B) from fun h x => by rw [h]; exact iteF x) (decide_eq_false (by intro z; injection z with z; have z : ((l + 1 + 2 : Nat) : Int) = 2 := z; omega)) ?_
   have hL : l < L := by omega
   refine ⟨_, rfl, _, rfl, _, _, rfl, rfl, _, _, rfl, rfl, _, rfl, ?_⟩
   refine ite2 (fun hc => ?_) (fun hc => ?_)
   ·have hc := of_decide_eq_true hc
    have hc : ((l + 1 : Nat) : Int) < ((l + 1 + 2 : Nat) : Int) - 2 := hc
    omega
   ·refine ⟨_, rfl, g.p, g.dx, _, rfl, hj.gr.hp, no_linked g, ?_⟩
    refine ⟨_, rfl, p, dx, _, rfl, hj.hp, noJ_half _ _ _ _ _, _, rfl, _, rfl, p, dx, mem, pr, g, G, N, M, r, m, n, l, c, rfl, hj, hs, st, hL, by omega, by omega, by omega, fun A7 ff y G5 H7 f07 hj7 go5 hA7 sf sy mh => ?_⟩
    have gf5 := go5.few
    refine ⟨A7, rfl, ⟨_, SqL.of hA7⟩, ?_⟩
    refine blk_list (xs := [toV ff, toV ff, toV ff, toV ff]) (fun i acc H8 => H8 = H7 /\ acc = (List.replicate i y).map toV) ⟨rfl, rfl⟩ (fun i acc H8 _ z => by rw [z.1]; exact SqL.of hA7) ?_ ?_
    ·rintro i v acc H8 ev ⟨rfl, rfl⟩
     have i4 : i < 4 := (List.getElem?_eq_some_iff.mp ev).1
     have ev : v = .int (ff : Int) := by
      match i, i4 with
      | 0, _ => cases ev; rfl
      | 1, _ => cases ev; rfl
      | 2, _ => cases ev; rfl
      | 3, _ => cases ev; rfl
     subst ev
     refine ⟨⟨[some (.int (ff : Int))], rfl, rfl⟩, by rw [List.length_map, List.length_replicate]; exact Nat.lt_trans i4 (by decide), tyes ⟨_, rfl, p, dx, _, rfl, hj7.hp, noJ_reck _ _ _ _ _, _, rfl, _, rfl, _, _, rfl, rfl, .old p dx mem pr g G5 _ _ r m ff l y (show [V.ref p, V.int (ff : Int), V.int (((l + 1 : Nat) : Int) - 1)] = [V.ref p, V.int (ff : Int), V.int (l : Int)] by rw [show ((l + 1 : Nat) : Int) - 1 = (l : Int) by omega]) hj7 mh ⟨rfl, ?_⟩⟩⟩
     rw [List.replicate_succ', List.map_append]
     rfl
    rintro acc H8 ⟨rfl, rfl⟩ A8 hA8
    have s8 : Same H8 (upd H8 A8 (.lst [toV y, toV y, toV y, toV y])) := same_upd hA8
    have hA8' : upd H8 A8 (.lst [toV y, toV y, toV y, toV y]) A8 = some (.lst [toV y, toV y, toV y, toV y]) := upd_same
    show ∃ _, _
    have e4 : (List.replicate ([toV ff, toV ff, toV ff, toV ff] : List V).length y).map toV = [toV y, toV y, toV y, toV y] := rfl
    rw [e4]
    generalize upd H8 A8 (.lst [toV y, toV y, toV y, toV y]) = H9 at s8 hA8' ⊢
    refine ⟨A8, _, rfl, .inl ⟨SqL.of hA8', fun u hu => ?_⟩⟩
    have s9 : Same H9 (upd H9 u (.tup [toV y, toV y, toV y, toV y])) := same_upd hu
    have hu9 : upd H9 u (.tup [toV y, toV y, toV y, toV y]) u = some (.tup [toV y, toV y, toV y, toV y]) := upd_same
    generalize upd H9 u (.tup [toV y, toV y, toV y, toV y]) = H10 at s9 hu9 ⊢
    have hj10 := (hj7.same s8).same s9
    refine ⟨g, G5, u, y, y, y, y, ((l + 1 : Nat) : Int), rfl, hj10.gr, hj10.ok, hu9, ⟨sy.1, sy.1, sy.1, sy.1⟩, by omega, by omega, fun z G11 H11 fr11 hg11 go11 e11 => ?_⟩
    exact k z G11 H11 (f07.trans ((Same.j s8).trans ((Same.j s9).trans (Fr.j fr11)))) ((hj10.fr fr11 hg11 go11).mono (by omega) (by omega)) ((go5.trans go11).mono (by omega)) (SoG.up (l := l + 1) (sy.goes hj7.ok go11) e11)
theorem ok_recSo {f fh ff : Addr} {fd fdh fdf : FuncData} (F : Fun K "reckoned" "Jumps.reckoned" s_Jumps_reckoned f fd) (Fh : Fun K "four_halfway" "Jumps.four_halfway" s_Jumps_four_halfway fh fdh) (Ff : Fun K "fresh" "Jumps.fresh" s_Jumps_fresh ff fdf) (T : Top K mg a) (Me : Meth K a.c_Jumps "reckoned" f) (Bi : Binds K fd p_Jumps_reckoned []) (Meh : Meth K a.c_Jumps "four_halfway" fh) (Bih : Binds K fdh p_Jumps_four_halfway []) (Mef : Meth K a.c_Jumps "fresh" ff) (Bif : Binds K fdf p_Jumps_fresh []) (M_Jumps_middle_after : CalM P w K mg base CX0 7 a.c_Jumps "middle_after" p_Jumps_middle_after (spMid2 a)) (M_Grove_linked : CalM P w K mg base CX0 2 a.c_Grove "linked" p_Grove_linked (spLink a)) (C_nine_parts : Cal P w K mg base CX0 3 "nine_parts" p_nine_parts (spNine a)) (C_fours_of : Cal P w K mg base CX0 1 "fours_of" p_fours_of spFours) (C_met_in_the_middle : Cal P w K mg base CX0 3 "met_in_the_middle" p_met_in_the_middle (spMet a)) : ∀ L, FnOk P w K mg base CX0 (11 + 3 * L) f fd p_Jumps_reckoned (spRSo a L)
 | 0 => ok_rSo (d := 10) F T ⟨⟨_, _, (FnOk.no (k := 10)).imp (fun vs H Q E h => by
  obtain ⟨p, dx, mem, pr, g, G, N, M, r, m, n, l, c, _, _, _, _, hL, _⟩ := h
  exact absurd hL (Nat.not_lt_zero l)), Mef, Bif⟩, T.cl_Jumps⟩
 | L + 1 => by
  have ih := ok_recSo F Fh Ff T Me Bi Meh Bih Mef Bif M_Jumps_middle_after M_Grove_linked C_nine_parts C_fours_of C_met_in_the_middle L
  have M1 : CalM P w K mg base CX0 (11 + 3 * L) a.c_Jumps "reckoned" p_Jumps_reckoned (spRSo a L) := ⟨⟨_, _, ih, Me, Bi⟩, T.cl_Jumps⟩
  have h2 := ok_hS Fh T (by omega) C_nine_parts C_fours_of M_Grove_linked M1
  have M2 : CalM P w K mg base CX0 (11 + 3 * L + 1) a.c_Jumps "four_halfway" p_Jumps_four_halfway (spHSo a L) := ⟨⟨_, _, h2, Meh, Bih⟩, T.cl_Jumps⟩
  have h3 := ok_fS Ff T (by omega) M_Jumps_middle_after M_Grove_linked C_nine_parts C_fours_of C_met_in_the_middle M1 M2
  have M3 : CalM P w K mg base CX0 (11 + 3 * L + 2) a.c_Jumps "fresh" p_Jumps_fresh (spFSo a (L + 1)) := ⟨⟨_, _, h3, Mef, Bif⟩, T.cl_Jumps⟩
  exact ok_rSo F T M3
inductive SpAS (a : Ad) (L : Nat) (vs : List V) (H : Hp) (Q : VK) : Prop
 | mk (p dx mem pr : Addr) (g : GA) (G : Gv) (N M : Nat) (r : RuleA) (m : MA) (n l c : Nat) (_ : vs = [.ref p, .int n, .int l]) (_ : JW a H g G N M p dx mem pr r m) (_ : SoG G (l + 2) n c) (_ : Still r c) (_ : l < L) (_ : N + l + 1 < 900000) (_ : M + 4 < 900000) (_ : G.length + 12 * (l + 1) < 7000000) (_ : ∀ (k : Nat) (G' : Gv) (H' : Hp), FrJ g m H H' -> JW a H' g G' (N + l + 1) (M + 4) p dx mem pr r m -> Goes G G' (12 * (l + 1)) -> SoG G' (l + 1) k c -> Q (.int k) H') : SpAS a L vs H Q
def spAS (a : Ad) (L : Nat) : Sp := fun vs H Q _ => SpAS a L vs H Q
theorem ok_aS {L d : Nat} {f : Addr} {fd : FuncData} (F : Fun K "after" "Jumps.after" s_Jumps_after f fd) (T : Top K mg a) (d4 : 4 <= d) (M_Jumps_check_jump : CalM P w K mg base CX0 4 a.c_Jumps "check_jump" p_Jumps_check_jump (spCj a)) (M_Jumps_reckoned : CalM P w K mg base CX0 d a.c_Jumps "reckoned" p_Jumps_reckoned (spRSo a L)) : FnOk P w K mg base CX0 (d + 1) f fd p_Jumps_after (spAS a L) := by
 refine F.ok sc_Jumps_after (fun vs H Q E h => ?_) (fun cdv A outer s H vs Q E hr h => ?_)
 ·obtain ⟨p, dx, mem, pr, g, G, N, M, r, m, n, l, c, rfl, _⟩ := h
  rfl
 ·obtain ⟨p, dx, mem, pr, g, G, N, M, r, m, n, l, c, rfl, hj, hs, st, hL, fewN, fewM, few, k⟩ := h
  obtain ⟨q, eq, el⟩ := id hs.1
  refine ⟨_, (@pss_cons _ _ _ _ _ (@ps_expr _ _ _ _ (@pe_calm _ _ _ _ _ _ _ _ _ _ _ _ _ _ _ _ (pv 0) M_Jumps_check_jump (rm hr) pass0 (@pa_cons _ _ _ _ _ (pv 1) (@pa_cons _ _ _ _ _ (pv 2) (@pa_nil _) rfl) rfl) rfl rfl rfl) rfl) (@pss_one _ _ _ (@ps_ret _ _ _ _ (@pe_calm _ _ _ _ _ _ _ _ _ _ _ _ _ _ _ _ (pv 0) M_Jumps_reckoned (rm hr) pass0 (@pa_cons _ _ _ _ _ (pv 1) (@pa_cons _ _ _ _ _ (pv 2) (@pa_nil _) rfl) rfl) rfl rfl rfl)))), ?_⟩
  try dsimp only [cxK]
  refine ⟨_, rfl, p, dx, _, rfl, hj.hp, noJ_check _ _ _ _ _, _, rfl, _, rfl, p, dx, g.p, mem, pr, m.l, m.kc, g, G, n, l, q, rfl, hj.hp, hj.gr, eq, by rw [el]; omega, ?_⟩
  exact ⟨_, rfl, p, dx, _, rfl, hj.hp, noJ_reck _ _ _ _ _, _, rfl, _, rfl, .new p dx mem pr g G N M r m n l c rfl hj hs st hL fewN fewM few fun k' G' H' fr hj' go sk _ => k k' G' H' fr hj' go sk⟩
end
end J
namespace J
open PySem L2
def atN (ns : List Int) (k : Int) : Int := ns.getD k.toNat 0
theorem kit_ii (K : PySem.W.Frag) : PySem.W.kitOne K (.type "int") (.type "int") = some true /\ PySem.W.kitOne K (.type "int") (.type "bool") = some false := ⟨by kernel_rfl, by kernel_rfl⟩
section
variable {P : Program} {w : World} {K : PySem.W.Frag} {mg : Str -> Option Value} {base : Heap} {a : Ad}
inductive SpAt (K : PySem.W.Frag) (vs : List V) (H : Hp) (Q : VK) : Prop
 | mk (l : Addr) (ns : List Int) (k : Int) (_ : vs = [.ref l, .int k]) (_ : SqL K H l (ns.map V.int)) (_ : 0 <= k) (_ : Q (.int (atN ns k)) H) : SpAt K vs H Q
def spAt (K : PySem.W.Frag) : Sp := fun vs H Q _ => SpAt K vs H Q
theorem ok_at {f : Addr} {fd : FuncData} (F : Fun K "_law_at" "_law_at" s__law_at f fd) (T : Top K mg a) : FnOk P w K mg base CX0 1 f fd p__law_at (spAt K) := by
 refine F.ok sc__law_at (fun vs H Q E h => ?_) (fun cdv A outer s H vs Q E hr h => ?_)
 ·obtain ⟨l, ns, k, rfl, _⟩ := h
  rfl
 ·obtain ⟨l, ns, k, rfl, hS, h0, q⟩ := h
  refine ⟨_, (@pss_cons _ _ _ _ _ (@ps_if _ _ _ _ _ _ _ _ (@pt_cmpR _ _ _ _ _ _ _ _ (@op_lt _) (pv 1) (@pe_callB _ _ _ _ _ _ _ _ _ (@call_len_seq _) rfl T.b_len PySem.boot_len (@pa_cons _ _ _ _ _ (pv 0) (@pa_nil _) rfl) (by decide) (by decide) rfl rfl) (nomark _)) (@pss_one _ _ _ (@ps_ret _ _ _ _ (@pe_ix _ _ _ _ _ _ _ (@ix_list _) (pv 0) (pv 1) (fun _ _ => rfl)))) (@pss_nil _)) (@pss_one _ _ _ (@ps_ret _ _ _ _ (@pe_int _ _ _ _)))), ?_⟩
  try dsimp only [cxK]
  refine ⟨_, rfl, _, rfl, l, _, rfl, .inl hS, _, _, rfl, rfl, _, rfl, ?_⟩
  obtain ⟨n, rfl⟩ := Int.eq_ofNat_of_zero_le h0
  refine ite2 (fun hc => ?_) (fun hc => ?_)
  ·have hc' : n < ns.length := by
    have := of_decide_eq_true hc
    rw [List.length_map] at this
    lia
   refine ⟨_, rfl, _, rfl, l, _, n, .int ns[n], rfl, rfl, hS, atI_nat (by rw [List.getElem?_map, List.getElem?_eq_getElem hc']; rfl), ?_⟩
   have e : atN ns (n : Int) = ns[n] := by
    unfold atN
    rw [Int.toNat_natCast, List.getD_eq_getElem?_getD, List.getElem?_eq_getElem hc']
    rfl
   rw [e] at q
   exact q
  ·have hc' : ns.length <= n := by
    have : ¬ (n : Int) < ((ns.map V.int).length : Int) := fun z => hc (decide_eq_true z)
    rw [List.length_map] at this
    lia
   have e : atN ns (n : Int) = 0 := by
    unfold atN
    rw [Int.toNat_natCast, List.getD_eq_getElem?_getD, List.getElem?_eq_none hc']
    rfl
   rw [e] at q
   exact q
end
end J
namespace J
open PySem L2
inductive Odd (H : Hp) : V -> Prop
 | int (i : Int) : Odd H (.int i)
 | bl (b : Bool) : Odd H (.bl b)
 | str (z : Str) : Odd H (.str z)
 | non : Odd H .non
 | tup (t : Addr) (xs : List V) (_ : H t = some (.tup xs)) : Odd H (.ref t)
theorem Odd.same {H H' : Hp} {v : V} (h : Odd H v) (k : ∀ b xs, H b = some (.tup xs) -> H' b = some (.tup xs)) : Odd H' v := by
 cases h with
 | int i => exact .int i
 | bl b => exact .bl b
 | str z => exact .str z
 | non => exact .non
 | tup t xs e => exact .tup t xs (k _ _ e)
def wholeV : V -> Bool
 | .int _ => true
 | _ => false
def NoNum (G : Gv) (v : V) : Prop := ∀ i : Nat, v = .int i -> G.length <= i
theorem kit_o (K : PySem.W.Frag) : PySem.W.kitOne K (.type "bool") (.type "int") = some true /\ PySem.W.kitOne K (.type "bool") (.type "bool") = some true /\ PySem.W.kitOne K (.type "str") (.type "int") = some false /\ PySem.W.kitOne K (.type "NoneType") (.type "int") = some false /\ PySem.W.kitOne K (.type "tuple") (.type "int") = some false := ⟨by kernel_rfl, by kernel_rfl, by kernel_rfl, by kernel_rfl, by kernel_rfl⟩
section
variable {P : Program} {w : World} {K : PySem.W.Frag} {mg : Str -> Option Value} {base : Heap} {a : Ad}
inductive SpIWo (vs : List V) (H : Hp) (Q : VK) : Prop
 | mk (v : V) (_ : vs = [v]) (_ : Odd H v) (_ : Q (.bl (wholeV v)) H) : SpIWo vs H Q
def spIWo : Sp := fun vs H Q _ => SpIWo vs H Q
theorem ok_iwo {f : Addr} {fd : FuncData} (F : Fun K "is_whole" "is_whole" s_is_whole f fd) (T : Top K mg a) : FnOk P w K mg base CX0 1 f fd p_is_whole spIWo := by
 refine F.ok sc_is_whole (fun vs H Q E h => ?_) (fun cdv A outer s H vs Q E hr h => ?_)
 ·obtain ⟨v, rfl, _⟩ := h
  rfl
 ·obtain ⟨v, rfl, tv, k⟩ := h
  refine ⟨_, (@pss_one _ _ _ (@ps_ret _ _ _ _ (@pe_and _ _ _ _ _ _ _ (@pe_callB _ _ _ _ _ _ _ _ _ (@call_isi _) rfl T.b_isinstance PyProof.Rows.boot_isinstance (@pa_cons _ _ _ _ _ (pv 0) (@pa_cons _ _ _ _ _ (@pe_bltn _ _ ((.ty "int")) _ _ rfl T.b_int PyProof.Rows.boot_int rfl (by decide) (by decide)) (@pa_nil _) rfl) rfl) (by decide) (by decide) rfl rfl) (@pe_one _ _ _ _ _ (@pe_not _ _ _ _ (@pe_callB _ _ _ _ _ _ _ _ _ (@call_isi _) rfl T.b_isinstance PyProof.Rows.boot_isinstance (@pa_cons _ _ _ _ _ (pv 0) (@pa_cons _ _ _ _ _ (@pe_bltn _ _ ((.ty "bool")) _ _ rfl T.b_bool PyProof.Rows.boot_bool rfl (by decide) (by decide)) (@pa_nil _) rfl) rfl) (by decide) (by decide) rfl rfl)))))), ?_⟩
  try dsimp only [cxK]
  cases tv with
  | int i => exact ⟨_, rfl, _, _, _, .type "int", true, rfl, rfl, .of (.int i), (kit_w K).1, true, rfl, iteT ⟨_, rfl, _, _, _, .type "int", false, rfl, rfl, .of (.int i), (kit_w K).2, false, rfl, k⟩⟩
  | bl b => exact ⟨_, rfl, _, _, _, .type "bool", true, rfl, rfl, .of (.bl b), (kit_o K).1, true, rfl, iteT ⟨_, rfl, _, _, _, .type "bool", true, rfl, rfl, .of (.bl b), (kit_o K).2.1, true, rfl, k⟩⟩
  | str z => exact ⟨_, rfl, _, _, _, .type "str", false, rfl, rfl, .of (.str z), (kit_o K).2.2.1, false, rfl, iteF k⟩
  | non => exact ⟨_, rfl, _, _, _, .type "NoneType", false, rfl, rfl, .of .non, (kit_o K).2.2.2.1, false, rfl, iteF k⟩
  | tup t xs e => exact ⟨_, rfl, _, _, _, .type "tuple", false, rfl, rfl, .of (.tup e), (kit_o K).2.2.2.2, false, rfl, iteF k⟩
inductive SpChX (a : Ad) (vs : List V) (H : Hp) (Q : VK) (E : XK) : Prop
 | mk (g : GA) (G : Gv) (v : V) (_ : vs = [.ref g.p, v]) (_ : GroveAt a H g G) (_ : Odd H v) (_ : ∀ i : Nat, v = .int i -> i < G.length -> Q .non H) (_ : NoNum G v -> E (.ref a.x_NoSquare) none H) : SpChX a vs H Q E
def spChX (a : Ad) : Sp := fun vs H Q E => SpChX a vs H Q E
theorem ok_chx {f : Addr} {fd : FuncData} (F : Fun K "check_square" "Grove.check_square" s_Grove_check_square f fd) (T : Top K mg a) (C_is_whole : Cal P w K mg base CX0 1 "is_whole" p_is_whole spIWo) : FnOk P w K mg base (CXE P w) 2 f fd p_Grove_check_square (spChX a) := by
 refine F.okE sc_Grove_check_square (fun vs H Q E h => ?_) (fun cdv A outer s H vs Q E hr h => ?_)
 ·obtain ⟨g, G, v, rfl, _⟩ := h
  rfl
 ·obtain ⟨g, G, v, rfl, hg, ov, k, ke⟩ := h
  refine ⟨_, (@pss_one _ _ _ (@ps_if _ _ _ _ _ _ _ _ (@PW.pt _ _ _ (@pw_or _ _ _ _ _ _ _ (@pt_not _ _ _ _ (@pt_val _ _ _ (@pe_cal _ _ _ _ _ _ _ _ _ _ _ _ C_is_whole (rm hr) rfl pass0 (@pa_cons _ _ _ _ _ (pv 1) (@pa_nil _) rfl) (by decide) rfl rfl) (by intro _ ; rfl))) (@pw_or1 _ _ _ _ (@pt_not _ _ _ _ (@pt_chain _ _ _ _ _ _ _ _ _ _ _ _ (@op_le _) (@op_lt _) (@pe_int _ _ _ _) (pv 1) (@pe_callB _ _ _ _ _ _ _ _ _ (@call_len_seq _) rfl T.b_len PySem.boot_len (@pa_cons _ _ _ _ _ (@pe_fld _ _ _ _ _ (pv 0) rfl) (@pa_nil _) rfl) (by decide) (by decide) rfl rfl) (by with_unfolding_all rfl)))))) (@pss_one _ _ _ (@ps_raise _ _ _ _ _ _ _ _ _ _ raisesE rfl rfl T.mx_NoSquare T.ec_NoSquare (@pa_str _ _ _ _ _ _ (@pa_nil _)) (by decide) rfl rfl)) (@pss_nil _))), ?_⟩
  try dsimp only [cxK]
  refine ⟨_, rfl, v, rfl, ov, _, rfl, ?_⟩
  cases ov with
  | int i =>
   refine iteF ⟨_, rfl, _, _, rfl, rfl, _, rfl, ?_⟩
   by_cases z : 0 <= i
   ·rw [decide_eq_true z]
    refine iteT ⟨_, rfl, g.p, _, g.dx, _, _, rfl, hg.hp, T.cl_Grove, T.na_Grove_levels, fl6_lv g, g.lv, _, rfl, .inl (SqL.of hg.lv), _, _, rfl, rfl, _, rfl, ?_⟩
    rw [List.length_map]
    obtain ⟨n, rfl⟩ := Int.eq_ofNat_of_zero_le z
    by_cases z2 : n < G.length
    ·rw [decide_eq_true (by lia : (n : Int) < (G.length : Int))]
     exact iteF (k n rfl z2)
    ·rw [decide_eq_false (by lia : ¬ (n : Int) < (G.length : Int))]
     exact iteT ⟨by show 1 <= 100; decide, ke fun m e => by injection e with e; lia⟩
   ·rw [decide_eq_false z]
    exact iteF ⟨false, rfl, iteT ⟨by show 1 <= 100; decide, ke fun m e => by injection e with e; lia⟩⟩
  | bl b => exact iteT ⟨by show 1 <= 100; decide, ke fun m e => by cases e⟩
  | str b => exact iteT ⟨by show 1 <= 100; decide, ke fun m e => by cases e⟩
  | non => exact iteT ⟨by show 1 <= 100; decide, ke fun m e => by cases e⟩
  | tup t xs e => exact iteT ⟨by show 1 <= 100; decide, ke fun m e => by cases e⟩
inductive SpLvX (a : Ad) (vs : List V) (H : Hp) (Q : VK) (E : XK) : Prop
 | mk (g : GA) (G : Gv) (v : V) (_ : vs = [.ref g.p, v]) (_ : GroveAt a H g G) (_ : Odd H v) (_ : ∀ (i : Nat) (q : Sq), v = .int i -> G[i]? = some q -> Q (.int q.lev) H) (_ : NoNum G v -> E (.ref a.x_NoSquare) none H) : SpLvX a vs H Q E
def spLvX (a : Ad) : Sp := fun vs H Q E => SpLvX a vs H Q E
theorem ok_lvx {f : Addr} {fd : FuncData} (F : Fun K "level_of" "Grove.level_of" s_Grove_level_of f fd) (T : Top K mg a) (E_Grove_check_square : CalM P w K mg base (CXE P w) 2 a.c_Grove "check_square" p_Grove_check_square (spChX a)) : FnOk P w K mg base (CXE P w) 3 f fd p_Grove_level_of (spLvX a) := by
 refine F.okE sc_Grove_level_of (fun vs H Q E h => ?_) (fun cdv A outer s H vs Q E hr h => ?_)
 ·obtain ⟨g, G, v, rfl, _⟩ := h
  rfl
 ·obtain ⟨g, G, v, rfl, hg, ov, k, ke⟩ := h
  refine ⟨_, (@pss_cons _ _ _ _ _ (@ps_expr _ _ _ _ (@pe_calm _ _ _ _ _ _ _ _ _ _ _ _ _ _ _ _ (pv 0) E_Grove_check_square (rm hr) passE (@pa_cons _ _ _ _ _ (pv 1) (@pa_nil _) rfl) rfl rfl rfl) rfl) (@pss_one _ _ _ (@ps_ret _ _ _ _ (@pe_ix _ _ _ _ _ _ _ (@ix_list _) (@pe_fld _ _ _ _ _ (pv 0) rfl) (pv 1) (fun _ _ => rfl))))), ?_⟩
  try dsimp only [cxK]
  refine ⟨_, rfl, g.p, g.dx, _, rfl, hg.hp, no_check g, _, rfl, g, G, v, rfl, hg, ov, fun i e hi => ?_, ke⟩
  subst e
  have ei : G[i]? = some G[i] := List.getElem?_eq_getElem hi
  exact ⟨_, rfl, g.p, _, g.dx, _, _, rfl, hg.hp, T.cl_Grove, T.na_Grove_levels, fl6_lv g, _, rfl, g.lv, _, (i : Int), .int G[i].lev, rfl, rfl, SqL.of hg.lv, atI_nat (by rw [List.getElem?_map, ei]; rfl), k i _ rfl ei⟩
end
end J
namespace J
open PySem L2
section
variable {P : Program} {w : World} {K : PySem.W.Frag} {mg : Str -> Option Value} {base : Heap} {a : Ad}
def NoStp (u : V) (L : Int) : Prop := ∀ i : Int, u = .int i -> i < 0 \/ L - 2 < i
inductive SpCjx (a : Ad) (vs : List V) (H : Hp) (E : XK) : Prop
 | mk (p dx mem pr l kc : Addr) (g : GA) (G : Gv) (v u : V) (_ : vs = [.ref p, v, u]) (_ : H p = some (.ins a.c_Jumps dx (jf5 g.p mem pr l kc))) (_ : GroveAt a H g G) (_ : Odd H v) (_ : Odd H u) (_ : (NoNum G v /\ E (.ref a.x_NoSquare) none H) \/ (∃ (i : Nat) (q : Sq), v = .int i /\ G[i]? = some q /\ ((q.lev < 2 /\ E (.ref a.x_NoLevel) none H) \/ (2 <= q.lev /\ NoStp u q.lev /\ E (.ref a.x_NoSteps) none H)))) : SpCjx a vs H E
def spCjx (a : Ad) : Sp := fun vs H _ E => SpCjx a vs H E
theorem ok_cjx {f : Addr} {fd : FuncData} (F : Fun K "check_jump" "Jumps.check_jump" s_Jumps_check_jump f fd) (T : Top K mg a) (E_Grove_level_of : CalM P w K mg base (CXE P w) 3 a.c_Grove "level_of" p_Grove_level_of (spLvX a)) (C_is_whole : Cal P w K mg base CX0 1 "is_whole" p_is_whole spIWo) : FnOk P w K mg base (CXE P w) 4 f fd p_Jumps_check_jump (spCjx a) := by
 refine F.okE sc_Jumps_check_jump (fun vs H Q E h => ?_) (fun cdv A outer s H vs Q E hr h => ?_)
 ·obtain ⟨p, dx, mem, pr, l, kc, g, G, v, u, rfl, _⟩ := h
  rfl
 ·obtain ⟨p, dx, mem, pr, l, kc, g, G, v, u, rfl, hp, hg, ov, ou, w3⟩ := h
  refine ⟨_, (@pss_cons _ _ _ _ _ (@ps_set _ _ (3) _ _ _ _ sc_Jumps_check_jump.nd rfl (Or.inl rfl) (@pe_calm _ _ _ _ _ _ _ _ _ _ _ _ _ _ _ _ (@pe_fld _ _ _ _ _ (pv 0) rfl) E_Grove_level_of (rm hr) passE (@pa_cons _ _ _ _ _ (pv 1) (@pa_nil _) rfl) rfl rfl rfl) rfl (.inl rfl)) (@pss_cons _ _ _ _ _ (@ps_if _ _ _ _ _ _ _ _ (@pt_cmpR _ _ _ _ _ _ _ _ (@op_lt _) (pv 3) (@pe_gint _ _ _ _ rfl T.k_LEAST_JUMPED (by decide)) (nomark _)) (@pss_one _ _ _ (@ps_raise _ _ _ _ _ _ _ _ _ _ raisesE rfl rfl T.mx_NoLevel T.ec_NoLevel (@pa_str _ _ _ _ _ _ (@pa_nil _)) (by decide) rfl rfl)) (@pss_nil _)) (@pss_one _ _ _ (@ps_if _ _ _ _ _ _ _ _ (@PW.pt _ _ _ (@pw_or _ _ _ _ _ _ _ (@pt_not _ _ _ _ (@pt_val _ _ _ (@pe_cal _ _ _ _ _ _ _ _ _ _ _ _ C_is_whole (rm hr) rfl pass0 (@pa_cons _ _ _ _ _ (pv 2) (@pa_nil _) rfl) (by decide) rfl rfl) (by intro _ ; rfl))) (@pw_or1 _ _ _ _ (@pt_not _ _ _ _ (@pt_chain _ _ _ _ _ _ _ _ _ _ _ _ (@op_le _) (@op_le _) (@pe_int _ _ _ _) (pv 2) (@pe_op _ _ _ _ _ _ _ _ (@op_sub _) (pv 3) (@pe_gint _ _ _ _ rfl T.k_LEAST_JUMPED (by decide))) (by with_unfolding_all rfl)))))) (@pss_one _ _ _ (@ps_raise _ _ _ _ _ _ _ _ _ _ raisesE rfl rfl T.mx_NoSteps T.ec_NoSteps (@pa_str _ _ _ _ _ _ (@pa_nil _)) (by decide) rfl rfl)) (@pss_nil _))))), ?_⟩
  try dsimp only [cxK]
  refine ⟨_, rfl, p, _, dx, _, _, rfl, hp, T.cl_Jumps, T.na_Jumps_grove, jf5_gr _ _ _ _ _, g.p, g.dx, _, rfl, hg.hp, no_levelOf g, _, rfl, g, G, v, rfl, hg, ov, fun i q ev eq => ?_, fun nn => ?_⟩
  ·rcases w3 with ⟨nn, _⟩ | ⟨i', q', e1, e2, w3⟩
   ·subst ev
    have := nn i rfl
    have := (List.getElem?_eq_some_iff.mp eq).1
    omega
   ·rw [ev] at e1
    have ei : i = i' := by injection e1 with e1; exact Int.ofNat.inj e1
    subst ei
    rw [eq] at e2
    cases e2
    refine ⟨_, rfl, _, _, rfl, rfl, _, rfl, ?_⟩
    rcases w3 with ⟨l2, ke⟩ | ⟨l2, ns, ke⟩
    ·rw [decide_eq_true l2]
     exact iteT ⟨by show 1 <= 100; decide, ke⟩
    ·rw [decide_eq_false (by omega : ¬ q.lev < 2)]
     refine iteF ⟨_, rfl, u, rfl, ou, ?_⟩
     cases ou with
     | int i =>
      refine ⟨true, rfl, iteF ?_⟩
      refine ⟨_, rfl, _, _, rfl, rfl, _, rfl, ?_⟩
      refine ite2 (fun h0 => ?_) (fun h0 => ?_)
      ·refine ⟨_, rfl, _, _, rfl, rfl, _, _, rfl, rfl, _, rfl, ?_⟩
       have h0 := of_decide_eq_true h0
       rw [decide_eq_false (by rcases ns i rfl with z | z <;> omega : ¬ i <= q.lev - 2)]
       exact iteT ⟨by show 1 <= 100; decide, ke⟩
      ·exact ⟨false, rfl, iteT ⟨by show 1 <= 100; decide, ke⟩⟩
     | bl b => exact ⟨false, rfl, iteT ⟨by show 1 <= 100; decide, ke⟩⟩
     | str z => exact ⟨false, rfl, iteT ⟨by show 1 <= 100; decide, ke⟩⟩
     | non => exact ⟨false, rfl, iteT ⟨by show 1 <= 100; decide, ke⟩⟩
     | tup t xs ht => exact ⟨false, rfl, iteT ⟨by show 1 <= 100; decide, ke⟩⟩
  ·rcases w3 with ⟨_, ke⟩ | ⟨i', q', e1, e2, _⟩
   ·exact ke
   ·subst e1
    have := nn i' rfl
    have := (List.getElem?_eq_some_iff.mp e2).1
    omega
theorem ok_afx {f : Addr} {fd : FuncData} (F : Fun K "after" "Jumps.after" s_Jumps_after f fd) (T : Top K mg a) (E_Jumps_check_jump : CalM P w K mg base (CXE P w) 4 a.c_Jumps "check_jump" p_Jumps_check_jump (spCjx a)) (M_Jumps_reckoned : CalM P w K mg base CX0 4 a.c_Jumps "reckoned" p_Jumps_reckoned spNo) : FnOk P w K mg base (CXE P w) 5 f fd p_Jumps_after (spCjx a) := by
 refine F.okE sc_Jumps_after (fun vs H Q E h => ?_) (fun cdv A outer s H vs Q E hr h => ?_)
 ·obtain ⟨p, dx, mem, pr, l, kc, g, G, v, u, rfl, _⟩ := h
  rfl
 ·obtain ⟨p, dx, mem, pr, l, kc, g, G, v, u, rfl, hp, r1, r2, r3, r4⟩ := h
  refine ⟨_, (@pss_cons _ _ _ _ _ (@ps_expr _ _ _ _ (@pe_calm _ _ _ _ _ _ _ _ _ _ _ _ _ _ _ _ (pv 0) E_Jumps_check_jump (rm hr) passE (@pa_cons _ _ _ _ _ (pv 1) (@pa_cons _ _ _ _ _ (pv 2) (@pa_nil _) rfl) rfl) rfl rfl rfl) rfl) (@pss_one _ _ _ (@ps_ret _ _ _ _ (@pe_calm _ _ _ _ _ _ _ _ _ _ _ _ _ _ _ _ (pv 0) M_Jumps_reckoned (rm hr) pass0 (@pa_cons _ _ _ _ _ (pv 1) (@pa_cons _ _ _ _ _ (pv 2) (@pa_nil _) rfl) rfl) rfl rfl rfl)))), ?_⟩
  try dsimp only [cxK]
  exact ⟨_, rfl, p, dx, _, rfl, hp, noJ_check _ _ _ _ _, _, rfl, _, rfl, p, dx, mem, pr, l, kc, g, G, v, u, rfl, hp, r1, r2, r3, r4⟩
theorem ok_rex {f : Addr} {fd : FuncData} (F : Fun K "reasons" "Jumps.reasons" s_Jumps_reasons f fd) (T : Top K mg a) (E_Jumps_check_jump : CalM P w K mg base (CXE P w) 4 a.c_Jumps "check_jump" p_Jumps_check_jump (spCjx a)) (M_Jumps_gather_reasons : CalM P w K mg base CX0 4 a.c_Jumps "gather_reasons" p_Jumps_gather_reasons spNo) : FnOk P w K mg base (CXE P w) 5 f fd p_Jumps_reasons (spCjx a) := by
 refine F.okE sc_Jumps_reasons (fun vs H Q E h => ?_) (fun cdv A outer s H vs Q E hr h => ?_)
 ·obtain ⟨p, dx, mem, pr, l, kc, g, G, v, u, rfl, _⟩ := h
  rfl
 ·obtain ⟨p, dx, mem, pr, l, kc, g, G, v, u, rfl, hp, r1, r2, r3, r4⟩ := h
  refine ⟨_, (@pss_cons _ _ _ _ _ (@ps_expr _ _ _ _ (@pe_calm _ _ _ _ _ _ _ _ _ _ _ _ _ _ _ _ (pv 0) E_Jumps_check_jump (rm hr) passE (@pa_cons _ _ _ _ _ (pv 1) (@pa_cons _ _ _ _ _ (pv 2) (@pa_nil _) rfl) rfl) rfl rfl rfl) rfl) (@pss_cons _ _ _ _ _ (@ps_set _ _ (3) _ _ _ _ sc_Jumps_reasons.nd rfl (Or.inl rfl) (@pe_lst _ _ _ _ (@pa_nil _)) rfl (.inl rfl)) (@pss_cons _ _ _ _ _ (@ps_expr _ _ _ _ (@pe_calm _ _ _ _ _ _ _ _ _ _ _ _ _ _ _ _ (pv 0) M_Jumps_gather_reasons (rm hr) pass0 (@pa_cons _ _ _ _ _ (pv 1) (@pa_cons _ _ _ _ _ (pv 2) (@pa_cons _ _ _ _ _ (@pe_dnewT _ _) (@pa_cons _ _ _ _ _ (pv 3) (@pa_nil _) rfl) rfl) rfl) rfl) rfl rfl rfl) rfl) (@pss_one _ _ _ (@ps_ret _ _ _ _ (pv 3)))))), ?_⟩
  try dsimp only [cxK]
  exact ⟨_, rfl, p, dx, _, rfl, hp, noJ_check _ _ _ _ _, _, rfl, _, rfl, p, dx, mem, pr, l, kc, g, G, v, u, rfl, hp, r1, r2, r3, r4⟩
end
end J
namespace J
open PySem L2
section
variable {P : Program} {w : World} {K : PySem.W.Frag} {mg : Str -> Option Value} {base : Heap} {a : Ad}
structure KiX (K : PySem.W.Frag) (a : Ad) (c : Addr) (d : Nat) : Prop where
 ec : ExcC K c
 ef : ExcF K c
 mr : PySem.W.mroIn K c (.ref a.x_FieldError) = some true
 kv : PySem.W.kitOne K (.ref c) (.type "ValueError") = some true
 s0 : PySem.W.kitOne K (.ref c) (.ref a.x_NoSquare) = some (decide (V.int (d : Int) = V.int ((0 : Nat) : Int)))
 s1 : PySem.W.kitOne K (.ref c) (.ref a.x_NoLevel) = some (decide (V.int (d : Int) = V.int ((1 : Nat) : Int)))
 s2 : PySem.W.kitOne K (.ref c) (.ref a.x_NoSteps) = some (decide (V.int (d : Int) = V.int ((2 : Nat) : Int)))
 s3 : PySem.W.kitOne K (.ref c) (.ref a.x_TooFar) = some (decide (V.int (d : Int) = V.int ((3 : Nat) : Int)))
theorem kix_sq (T : Top K mg a) : KiX K a a.x_NoSquare 0 := ⟨T.ec_NoSquare, T.ef_NoSquare, T.mr_NoSquare, T.kv_NoSquare, T.ki_NoSquare_NoSquare, T.ki_NoSquare_NoLevel, T.ki_NoSquare_NoSteps, T.ki_NoSquare_TooFar⟩
theorem kix_lv (T : Top K mg a) : KiX K a a.x_NoLevel 1 := ⟨T.ec_NoLevel, T.ef_NoLevel, T.mr_NoLevel, T.kv_NoLevel, T.ki_NoLevel_NoSquare, T.ki_NoLevel_NoLevel, T.ki_NoLevel_NoSteps, T.ki_NoLevel_TooFar⟩
theorem kix_st (T : Top K mg a) : KiX K a a.x_NoSteps 2 := ⟨T.ec_NoSteps, T.ef_NoSteps, T.mr_NoSteps, T.kv_NoSteps, T.ki_NoSteps_NoSquare, T.ki_NoSteps_NoLevel, T.ki_NoSteps_NoSteps, T.ki_NoSteps_TooFar⟩
def spD (K : PySem.W.Frag) (a : Ad) (d : Nat) (H : Hp) : VK -> XK -> Prop := fun _ E => ∀ c H', KiX K a c d -> Same H H' -> E (.ref c) none H'
inductive SpRef (P : Program) (w : World) (K : PySem.W.Frag) (mg : Str -> Option Value) (base : Heap) (a : Ad) (k : Nat) (outer : List Env) (s : Shared) (vs : List V) (H : Hp) (Q : VK) : Prop
 | mk (p : Addr) (d : Nat) (_ : vs = [.ref p, .int d]) (_ : ∃ fd, H p = some (isLam p fd)) (_ : Deed P w K mg base k p outer s H (spD K a d H)) (_ : ∀ H', Same H H' -> Q (.bl true) H') : SpRef P w K mg base a k outer s vs H Q
def spRef (P : Program) (w : World) (K : PySem.W.Frag) (mg : Str -> Option Value) (base : Heap) (a : Ad) (k : Nat) : SpS := fun outer s vs H Q _ => SpRef P w K mg base a k outer s vs H Q
def SRf (p : Addr) (d : Nat) (σ : St) : Prop := ∃ x3 x4, σ = [some (.ref p), some (.int d), x3, x4]
def kin4 (d i : Nat) : List V := (List.range i).map fun j => V.bl (decide (V.int (d : Int) = V.int ((j : Nat) : Int)))
theorem ok_ref {f : Addr} {fd : FuncData} {k : Nat} (F : Fun K "_law_refused" "_law_refused" s__law_refused f fd) (T : Top K mg a) (hk : 1 <= k) : FnOkS P w K mg base CX0 (k + 1) f fd p__law_refused (spRef P w K mg base a k) := by
 refine F.okS sc__law_refused (fun o s vs H Q E h => ?_) (fun cdv A outer s H vs Q E hr h => ?_)
 ·obtain ⟨p, d, rfl, _⟩ := h
  rfl
 ·obtain ⟨p, d, rfl, hlam, D, q⟩ := h
  refine ⟨_, (@pss_cons _ _ _ _ _ (@ps_tryAsH _ _ _ _ _ _ _ (2) _ _ _ ((SRf p d)) _ _ rfl rfl rfl rfl rfl T.mx_FieldError T.ec_FieldError sc__law_refused.nd rfl rfl (fun xe pn E1 pass => (@pss_one _ _ _ (@ps_expr _ _ _ _ (@pe_deed _ _ _ _ _ (0) _ _ _ _ (H) rfl rfl rfl (rm hr) D pass rfl hlam (by decide)) rfl))) (fun ea => (@pss_cons _ _ _ _ _ (@ps_set _ _ (3) _ _ _ _ sc__law_refused.nd rfl (Or.inl rfl) (@pe_lst _ _ _ _ (@pa_cons _ _ _ _ _ (@pe_callB _ _ _ _ _ _ _ _ _ (@call_isiK _ K rfl) rfl T.b_isinstance PyProof.Rows.boot_isinstance (@pa_cons _ _ _ _ _ (pv 2) (@pa_cons _ _ _ _ _ (@pe_gref _ _ _ _ rfl T.mx_NoSquare (by decide)) (@pa_nil _) rfl) rfl) (by decide) (by decide) rfl rfl) (@pa_cons _ _ _ _ _ (@pe_callB _ _ _ _ _ _ _ _ _ (@call_isiK _ K rfl) rfl T.b_isinstance PyProof.Rows.boot_isinstance (@pa_cons _ _ _ _ _ (pv 2) (@pa_cons _ _ _ _ _ (@pe_gref _ _ _ _ rfl T.mx_NoLevel (by decide)) (@pa_nil _) rfl) rfl) (by decide) (by decide) rfl rfl) (@pa_cons _ _ _ _ _ (@pe_callB _ _ _ _ _ _ _ _ _ (@call_isiK _ K rfl) rfl T.b_isinstance PyProof.Rows.boot_isinstance (@pa_cons _ _ _ _ _ (pv 2) (@pa_cons _ _ _ _ _ (@pe_gref _ _ _ _ rfl T.mx_NoSteps (by decide)) (@pa_nil _) rfl) rfl) (by decide) (by decide) rfl rfl) (@pa_cons _ _ _ _ _ (@pe_callB _ _ _ _ _ _ _ _ _ (@call_isiK _ K rfl) rfl T.b_isinstance PyProof.Rows.boot_isinstance (@pa_cons _ _ _ _ _ (pv 2) (@pa_cons _ _ _ _ _ (@pe_gref _ _ _ _ rfl T.mx_TooFar (by decide)) (@pa_nil _) rfl) rfl) (by decide) (by decide) rfl rfl) (@pa_nil _) rfl) rfl) rfl) rfl)) rfl (.inl rfl)) (@pss_one _ _ _ (@ps_ret _ _ _ _ (@pe_and _ _ _ _ _ _ _ (@pe_callB _ _ _ _ _ _ _ _ _ (@call_isiK _ K rfl) rfl T.b_isinstance PyProof.Rows.boot_isinstance (@pa_cons _ _ _ _ _ (pv 2) (@pa_cons _ _ _ _ _ (@pe_bltn _ _ ((.ty "ValueError")) _ _ rfl T.b_ValueError PyProof.Rows.Boot.«ValueError» rfl (by decide) (by decide)) (@pa_nil _) rfl) rfl) (by decide) (by decide) rfl rfl) (@pe_one _ _ _ _ _ (@pe_cmpR _ _ _ _ _ _ _ _ (@op_eq_listB _ K rfl hr.units) (pv 3) (@pe_compH _ (ea) _ _ _ _ _ _ _ _ _ _ _ _ _ rfl (@CScope.of _ ((defScope s__law_refused)) (n__law_refused) _ (["_law_k", "_law_due"]) (1) ([1]) rfl rfl (by decide +kernel)) (@pi_rangeH _ _ _ _ _ _ _ rfl T.b_range (@pa_int _ _ _ _ _ _ (@pa_nil _)) rfl) (fun _ _ _ => (@pgc_name _ _ _ _ _ _ _ _ (0) (by decide +kernel) rfl rfl)) (fun _ _ _ => (@pts_nil _)) (fun _ _ _ => (@pe_cmpR _ _ _ _ _ _ _ _ (@op_eq _) (pv 1) (pv 0) (nomark _))) (by intro _ ; rfl)) (nomark _)))))))) (by decide)) (@pss_one _ _ _ (@ps_ret _ _ _ _ (@pe_bl _ _ _ _)))), ?_⟩
  try dsimp only [cxK]
  refine ⟨rfl, rfl, ⟨_, _, rfl⟩, fun c H' ki sm => ?_⟩
  refine ⟨c, rfl, ki.ec, ki.mr, fun σ' e hS he => ?_⟩
  obtain ⟨x3, x4, rfl⟩ := hS
  have s1 := same_up (o := isExc e c) he
  have h1 : upd H' e (isExc e c) e = some (isExc e c) := upd_same
  generalize upd H' e (isExc e c) = H1 at s1 h1 ⊢
  have ty : ∀ {H2 : Hp}, Same H1 H2 -> TyX K H2 (.ref e) (.ref c) := fun s => .exc (s _ _ h1) ki.ef
  have s0 := Same.refl H1
  refine ⟨_, rfl, _, _, _, _, _, rfl, rfl, ty s0, ki.s0, _, rfl, _, _, _, _, _, rfl, rfl, ty s0, ki.s1, _, rfl, _, _, _, _, _, rfl, rfl, ty s0, ki.s2, _, rfl, _, _, _, _, _, rfl, rfl, ty s0, ki.s3, by show 4 <= sizeLine; decide, fun p3 hp3 => ?_⟩
  have s3 := same_up (o := .lst (kin4 d 4)) hp3
  have h3 : upd H1 p3 (.lst (kin4 d 4)) p3 = some (.lst (kin4 d 4)) := upd_same
  show ∃ _, _
  rw [show [V.bl (decide (V.int (d : Int) = V.int ((0 : Nat) : Int))), V.bl (decide (V.int (d : Int) = V.int ((1 : Nat) : Int))), V.bl (decide (V.int (d : Int) = V.int ((2 : Nat) : Int))), V.bl (decide (V.int (d : Int) = V.int ((3 : Nat) : Int)))] = kin4 d 4 from rfl]
  generalize upd H1 p3 (.lst (kin4 d 4)) = H3 at s3 h3 ⊢
  refine ⟨_, rfl, _, _, _, _, _, rfl, rfl, ty s3, ki.kv, true, rfl, iteT ?_⟩
  refine ⟨_, rfl, 4, rfl, by decide, ?_⟩
  refine blk_rangeH (fun i acc H2 => H2 = H3 /\ acc = kin4 d i) ⟨rfl, rfl⟩ ?_ ?_
  ·rintro i acc H2 hi ⟨rfl, rfl⟩
   refine ⟨⟨[some (.int (0 + (i : Int)))], rfl, rfl⟩, ?_, tyes ⟨_, rfl, _, rfl, rfl, rfl, ?_⟩⟩
   ·unfold kin4
    rw [List.length_map, List.length_range]
    exact Nat.lt_trans hi (by decide)
   ·unfold kin4
    rw [List.range_succ, List.map_append, Int.zero_add]
    rfl
  ·rintro acc H2 ⟨rfl, rfl⟩
   refine ⟨⟨c, s3 _ _ h1⟩, fun p4 hp4 => ⟨⟨p3, p4, (List.range 4).map fun j => decide (V.int (d : Int) = V.int ((j : Nat) : Int)), rfl, rfl, SqL.of (same_up hp4 _ _ h3), SqL.of upd_same⟩, ?_⟩⟩
   exact q _ (((sm.trans s1).trans s3).trans (same_up hp4))
end
end J
namespace J
open PySem L2
def Kp (Pt : Addr) (H H' : Hp) : Prop := ∀ b o, b ≠ Pt -> H b = some o -> H' b = some o
theorem Kp.trans {Pt : Addr} {H H1 H2 : Hp} (h : Kp Pt H H1) (h2 : Kp Pt H1 H2) : Kp Pt H H2 := fun b o n e => h2 b o n (h b o n e)
theorem Same.kp {Pt : Addr} {H H' : Hp} (h : Same H H') : Kp Pt H H' := fun b o _ e => h b o e
theorem Tab.ne {H : Hp} {Pt b : Addr} {q : Str} {o : HO} (t : Tab H Pt q) (e : H b = some o) (n : ∀ ps, o ≠ .tbl ps) : b ≠ Pt := fun z => by
 obtain ⟨ps, h, _⟩ := t
 rw [z, h] at e
 cases e
 exact n _ rfl
theorem Kp.grove {a : Ad} {Pt : Addr} {q : Str} {H H' : Hp} {g : GA} {G : Gv} (k : Kp Pt H H') (t : Tab H Pt q) (h : GroveAt a H g G) : GroveAt a H' g G := by
 obtain ⟨h1, h2, ⟨ts, h3, h4⟩, h5, h6⟩ := h
 exact ⟨k _ _ (Tab.ne t h1 (by intro _ z; cases z)) h1, k _ _ (Tab.ne t h2 (by intro _ z; cases z)) h2, ⟨ts, k _ _ (Tab.ne t h3 (by intro _ z; cases z)) h3, PairedM.imp (fun u q z => k _ _ (Tab.ne t z (by intro _ z; cases z)) z) h4⟩, k _ _ (Tab.ne t h5 (by intro _ z; cases z)) h5, h6⟩
theorem Kp.odd {Pt : Addr} {q : Str} {H H' : Hp} {v : V} (k : Kp Pt H H') (t : Tab H Pt q) (h : Odd H v) : Odd H' v := h.same fun b xs e => k _ _ (Tab.ne t e (by intro _ z; cases z)) e
theorem ref_at {X : Cx} {params : Arguments} {body : Expr} {scope : Scope} {Pt : Addr} {N : List Str} {cs : List Nat} {k : Nat} {a : Ad} {d : Nat} {σ : St} {H : Hp} {Q : VK} {iv : Nat} (S : CScope X scope N 0 cs) (hT : Tab H Pt (lamQ X))
  (go : ∀ (p c : Addr) (H' : Hp), LamH Pt (lamQ X) (lamF X params body scope) p H H' -> ∀ (A2 : Around) (outer2 : List Env) (s2 : Shared) (Q' : VK) (E' : XK), Room k (A2.deeper (envL X scope s2.heap.objs.size p c)) -> spD X.K a d H' Q' E' -> ∃ te, PE (cxL X.prog X.w X.K X.mg X.base N (envL X scope s2.heap.objs.size p c) A2 outer2 s2 H' E') body te /\ te (caps cs σ) H' Q')
  (q : ∀ H', Kp Pt H H' -> Tab H' Pt (lamQ X) -> Q (.bl true) H')
  (hfn : ∀ x, X.fn x = true := by exact fun _ => rfl) (hco : scope.isCoroutine = false := by rfl) (hgen : scope.isGenerator = false := by rfl) (hb : ∀ c ct, bindArgs (lamF X params body scope (.ref c) ct) ⟨[], []⟩ = pure [] := by exact fun _ _ => rfl) (hv : σ[iv]? = some (some (.int d)) := by rfl) :
  tCallT X (spRef X.prog X.w X.K X.mg X.base a (k + 1)) (tCons (tLam Pt (lamQ X) (lamF X params body scope)) (tCons (tVar iv) tNil)) σ H Q := by
 refine ⟨hT, fun p H' L => ⟨_, hv, fun pins s1 I => ?_⟩⟩
 obtain ⟨c, ct, hp, hc⟩ := L.lam
 exact ⟨p, d, rfl, ⟨_, hp⟩, deed_of I hfn S hco hgen hp hc (hb c ct) (go p c H' L), fun H'' s => q H'' (Kp.trans L.st (Same.kp s)) (L.tab.same s)⟩
theorem noJ_reas (gp mem pr l kc : Addr) : (jf5 gp mem pr l kc).lookup ("reasons" : Str) = none := jf5_no _ _ _ _ _ (by decide +kernel) (by decide +kernel) (by decide +kernel) (by decide +kernel) (by decide +kernel)
section
variable {P : Program} {w : World} {K : PySem.W.Frag} {mg : Str -> Option Value} {base : Heap} {a : Ad}
def DueJ (G : Gv) (v u : V) (d : Nat) : Prop := (d = 0 /\ NoNum G v) \/ (∃ (i : Nat) (q : Sq), v = .int i /\ G[i]? = some q /\ ((d = 1 /\ q.lev < 2) \/ (d = 2 /\ 2 <= q.lev /\ NoStp u q.lev)))
inductive SpBo (a : Ad) (Pt : Addr) (vs : List V) (H : Hp) (Q : VK) : Prop
 | mk (p dx mem pr l kc : Addr) (g : GA) (G : Gv) (v u : V) (d : Nat) (_ : vs = [.ref p, v, u, .int d]) (_ : H p = some (.ins a.c_Jumps dx (jf5 g.p mem pr l kc))) (_ : GroveAt a H g G) (_ : Odd H v) (_ : Odd H u) (_ : DueJ G v u d) (_ : Tab H Pt ("_law_both" ++ ".<locals>." ++ "<lambda>")) (_ : ∀ H', Kp Pt H H' -> Tab H' Pt ("_law_both" ++ ".<locals>." ++ "<lambda>") -> Q (.bl true) H') : SpBo a Pt vs H Q
def spBo (a : Ad) (Pt : Addr) : Sp := fun vs H Q _ => SpBo a Pt vs H Q
theorem ok_bo {f c Pt : Addr} {fd : FuncData} (F : Fun K "_law_both" "_law_both" s__law_both f fd) (T : Top K mg a) (hfd : fd.code = .ref c) (hC : PySem.W.CodeHd base c Pt) (hB : Blt mg base) (R__law_refused : CalT P w K mg base 7 "_law_refused" p__law_refused (spRef P w K mg base a 6)) (E_Jumps_after : CalM P w K mg base (CXE P w) 5 a.c_Jumps "after" p_Jumps_after (spCjx a)) (E_Jumps_reasons : CalM P w K mg base (CXE P w) 5 a.c_Jumps "reasons" p_Jumps_reasons (spCjx a)) : FnOk P w K mg base CX0 8 f fd p__law_both (spBo a Pt) := by
 refine F.okC sc__law_both (fun vs H Q E h => ?_) (fun cdv A outer s H vs Q E hcd hr h => ?_)
 ·obtain ⟨p, dx, mem, pr, l, kc, g, G, v, u, d, rfl, _⟩ := h
  rfl
 ·obtain ⟨p, dx, mem, pr, l, kc, g, G, v, u, d, rfl, hp, hg, ov, ou, du, tb, k⟩ := h
  have hcd : cdv = .ref c := hcd.symm.trans hfd
  refine ⟨_, (@pss_cons _ _ _ _ _ (@ps_if _ _ _ _ _ _ _ _ (@pt_not _ _ _ _ (@pt_val _ _ _ (@pe_calT _ _ _ _ _ _ _ _ _ _ R__law_refused (rm hr) rfl (@pa_cons _ _ _ _ _ (@pe_lam _ _ _ _ _ _ _ _ _ (@CScope.of _ ((defScope s__law_both)) (n__law_both) _ (["_law_jumps", "_law_square", "_law_e"]) (0) ([0, 1, 2]) rfl rfl (by decide +kernel)) hcd hC hB rfl) (@pa_cons _ _ _ _ _ (pv 3) (@pa_nil _) rfl) rfl) (by decide) rfl rfl) (by intro _ ; rfl))) (@pss_one _ _ _ (@ps_ret _ _ _ _ (@pe_bl _ _ _ _))) (@pss_nil _)) (@pss_one _ _ _ (@ps_ret _ _ _ _ (@pe_calT _ _ _ _ _ _ _ _ _ _ R__law_refused (rm hr) rfl (@pa_cons _ _ _ _ _ (@pe_lam _ _ _ _ _ _ _ _ _ (@CScope.of _ ((defScope s__law_both)) (n__law_both) _ (["_law_jumps", "_law_square", "_law_e"]) (0) ([0, 1, 2]) rfl rfl (by decide +kernel)) hcd hC hB rfl) (@pa_cons _ _ _ _ _ (pv 3) (@pa_nil _) rfl) rfl) (by decide) rfl rfl)))), ?_⟩
  try dsimp only [cxK]
  have ask : ∀ {H3 : Hp} {E' : XK}, Kp Pt H H3 -> (∀ c H', KiX K a c d -> Same H3 H' -> E' (.ref c) none H') -> SpCjx a [.ref p, v, u] H3 E' := fun {H3 E'} kp hd => by
   refine ⟨p, dx, mem, pr, l, kc, g, G, v, u, rfl, kp _ _ (Tab.ne tb hp (by intro _ z; cases z)) hp, kp.grove tb hg, kp.odd tb ov, kp.odd tb ou, ?_⟩
   rcases du with ⟨rfl, no⟩ | ⟨i, q, e1, e2, ⟨rfl, l2⟩ | ⟨rfl, l2, ns⟩⟩
   ·exact .inl ⟨no, hd _ H3 (kix_sq T) (Same.refl H3)⟩
   ·exact .inr ⟨i, q, e1, e2, .inl ⟨l2, hd _ H3 (kix_lv T) (Same.refl H3)⟩⟩
   ·exact .inr ⟨i, q, e1, e2, .inr ⟨l2, ns, hd _ H3 (kix_st T) (Same.refl H3)⟩⟩
  refine ref_at (CScope.of (So := defScope s__law_both) (No := n__law_both) (N := ["_law_jumps", "_law_square", "_law_e"]) (k := 0) (cs := [0, 1, 2]) rfl rfl (by decide +kernel)) tb (fun p' c' H3 LH A2 outer2 s2 Q' E' hr hd => ⟨_, (@pe_calm _ _ _ _ _ _ _ _ _ _ _ _ _ _ _ _ (pv 0) E_Jumps_after (rm hr) (passL rfl) (@pa_cons _ _ _ _ _ (pv 1) (@pa_cons _ _ _ _ _ (pv 2) (@pa_nil _) rfl) rfl) rfl rfl rfl), ?_⟩) (fun H4 kp4 tb4 => ?_)
  ·have kp3 : Kp Pt H H3 := LH.st
   have hp3 := kp3 _ _ (Tab.ne tb hp (by intro _ z; cases z)) hp
   refine ⟨_, rfl, p, dx, _, rfl, hp3, noJ_after _ _ _ _ _, _, rfl, _, rfl, ?_⟩
   exact ask kp3 hd
  ·refine ⟨true, rfl, iteF ?_⟩
   refine ref_at (CScope.of (So := defScope s__law_both) (No := n__law_both) (N := ["_law_jumps", "_law_square", "_law_e"]) (k := 0) (cs := [0, 1, 2]) rfl rfl (by decide +kernel)) tb4 (fun p' c' H5 LH A2 outer2 s2 Q' E' hr hd => ⟨_, (@pe_calm _ _ _ _ _ _ _ _ _ _ _ _ _ _ _ _ (pv 0) E_Jumps_reasons (rm hr) (passL rfl) (@pa_cons _ _ _ _ _ (pv 1) (@pa_cons _ _ _ _ _ (pv 2) (@pa_nil _) rfl) rfl) rfl rfl rfl), ?_⟩) (fun H6 kp6 tb6 => k H6 (kp4.trans kp6) tb6)
   have kp5 : Kp Pt H H5 := kp4.trans LH.st
   have hp5 := kp5 _ _ (Tab.ne tb hp (by intro _ z; cases z)) hp
   refine ⟨_, rfl, p, dx, _, rfl, hp5, noJ_reas _ _ _ _ _, _, rfl, _, rfl, ?_⟩
   exact ask kp5 hd
end
end J
namespace J
open PySem L2
theorem log8 {r : Int} (h1 : 0 <= r) (h2 : r < 16) : r.natAbs.log2 < 1920 := by
 have : r.natAbs < 16 := by lia
 by_cases z : r.natAbs = 0
 ·rw [z]; decide
 ·exact Nat.lt_trans ((Nat.log2_lt z).mpr (Nat.lt_of_lt_of_le this (by decide : 16 <= 2 ^ 4))) (by decide)
theorem pow30 : ((10 : Int) ^ (30 : Int).toNat) = 1000000000000000000000000000000 := by decide
theorem pow9 : ((10 : Int) ^ (9 : Int).toNat) = 1000000000 := by decide
theorem pick3 {K : PySem.W.Frag} {H : Hp} {q : Addr} {x y z : V} {i : Int} {Q : VK} (h : H q = some (.lst [x, y, z])) (h0 : 3 <= i) (h1 : i < 6) (kx : Q x H) (ky : Q y H) (kz : Q z H) : rIxL K (.ref q) (.int (i - 3)) H Q := by
 have : i = 3 \/ i = 4 \/ i = 5 := by lia
 rcases this with rfl | rfl | rfl
 ·exact ⟨q, _, 0, x, rfl, rfl, SqL.of h, atI_nat (j := 0) rfl, kx⟩
 ·exact ⟨q, _, 1, y, rfl, rfl, SqL.of h, atI_nat (j := 1) rfl, ky⟩
 ·exact ⟨q, _, 2, z, rfl, rfl, SqL.of h, atI_nat (j := 2) rfl, kz⟩
section
variable {P : Program} {w : World} {K : PySem.W.Frag} {mg : Str -> Option Value} {base : Heap} {a : Ad}
inductive SpBad (vs : List V) (H : Hp) (Q : VK) : Prop
 | mk (c : Int) (_ : vs = [.int c]) (_ : ∀ v H', Odd H' v -> Same H H' -> (∀ i : Int, v = .int i -> i < 0 \/ 1000000000 <= i) -> Q v H') : SpBad vs H Q
def spBad : Sp := fun vs H Q _ => SpBad vs H Q
theorem ok_bad {f : Addr} {fd : FuncData} (F : Fun K "_law_bad" "_law_bad" s__law_bad f fd) (T : Top K mg a) : FnOk P w K mg base CX0 1 f fd p__law_bad spBad := by
 refine F.ok sc__law_bad (fun vs H Q E h => ?_) (fun cdv A outer s H vs Q E hr h => ?_)
 ·obtain ⟨c, rfl, _⟩ := h
  rfl
 ·obtain ⟨c, rfl, k⟩ := h
  refine ⟨_, (@pss_cons _ _ _ _ _ (@ps_set _ _ (1) _ _ _ _ sc__law_bad.nd rfl (Or.inl rfl) (@pe_op _ _ _ _ _ _ _ _ (@op_mod _) (pv 0) (@pe_int _ _ _ _)) rfl (.inl rfl)) (@pss_cons _ _ _ _ _ (@ps_set _ _ (2) _ _ _ _ sc__law_bad.nd rfl (Or.inl rfl) (@pe_op _ _ _ _ _ _ _ _ (@op_mod _) (@pe_op _ _ _ _ _ _ _ _ (@op_fdiv _) (pv 0) (@pe_int _ _ _ _)) (@pe_op _ _ _ _ _ _ _ _ (@op_pow _) (@pe_int _ _ _ _) (@pe_int _ _ _ _))) rfl (.inl rfl)) (@pss_cons _ _ _ _ _ (@ps_if _ _ _ _ _ _ _ _ (@pt_cmpR _ _ _ _ _ _ _ _ (@op_eq _) (pv 1) (@pe_int _ _ _ _) (nomark _)) (@pss_one _ _ _ (@ps_ret _ _ _ _ (@pe_op _ _ _ _ _ _ _ _ (@op_sub _) (@pe_un _ _ _ _ _ _ (@un_neg _) (@pe_int _ _ _ _)) (pv 2)))) (@pss_nil _)) (@pss_cons _ _ _ _ _ (@ps_if _ _ _ _ _ _ _ _ (@pt_cmpR _ _ _ _ _ _ _ _ (@op_eq _) (pv 1) (@pe_int _ _ _ _) (nomark _)) (@pss_one _ _ _ (@ps_ret _ _ _ _ (@pe_op _ _ _ _ _ _ _ _ (@op_add _) (@pe_op _ _ _ _ _ _ _ _ (@op_pow _) (@pe_int _ _ _ _) (@pe_int _ _ _ _)) (pv 2)))) (@pss_nil _)) (@pss_cons _ _ _ _ _ (@ps_if _ _ _ _ _ _ _ _ (@pt_cmpR _ _ _ _ _ _ _ _ (@op_eq _) (pv 1) (@pe_int _ _ _ _) (nomark _)) (@pss_one _ _ _ (@ps_ret _ _ _ _ (@pe_cmpR _ _ _ _ _ _ _ _ (@op_eq _) (@pe_op _ _ _ _ _ _ _ _ (@op_mod _) (pv 2) (@pe_int _ _ _ _)) (@pe_int _ _ _ _) (nomark _)))) (@pss_nil _)) (@pss_one _ _ _ (@ps_ret _ _ _ _ (@pe_ix _ _ _ _ _ _ _ (@ix_list _) (@pe_lst _ _ _ _ (@pa_cons _ _ _ _ _ (@pe_non _ _ _) (@pa_cons _ _ _ _ _ (@pe_callTy _ _ _ _ _ _ _ _ _ (@call_str_int _) rfl T.b_str PyProof.Rows.boot_str (@pa_op _ _ _ _ _ _ _ _ _ _ (@op_mod _) (pv 2) (@pe_int _ _ _ _) (@pa_nil _)) (by decide) (by decide) rfl rfl) (@pa_cons _ _ _ _ _ (@pe_un _ _ _ _ _ _ (@un_neg _) (@pe_int _ _ _ _)) (@pa_nil _) rfl) rfl) rfl)) (@pe_op _ _ _ _ _ _ _ _ (@op_sub _) (pv 1) (@pe_int _ _ _ _)) (fun _ _ => rfl))))))))), ?_⟩
  try dsimp only [cxK]
  refine ⟨_, rfl, _, _, rfl, rfl, (by show (0 : Int) < 6; decide), ?_⟩
  refine ⟨_, rfl, _, _, rfl, rfl, ⟨by decide, by decide⟩, _, _, rfl, rfl, ⟨by decide, by decide, by decide⟩, ?_⟩
  refine ⟨_, _, rfl, rfl, by show (0 : Int) < 10 ^ (30 : Int).toNat; decide, ?_⟩
  rw [pow30]
  have f0 : 0 <= c / 6 % 1000000000000000000000000000000 := Int.emod_nonneg _ (by decide)
  have w0 : 0 <= c % 6 := Int.emod_nonneg _ (by decide)
  have w6 : c % 6 < 6 := Int.emod_lt_of_pos _ (by decide)
  have st : ∀ {n : Int} {A B : Prop}, (c % 6 = n -> A) -> (c % 6 ≠ n -> B) -> if decide (V.int (c % 6) = V.int n) = true then A else B := fun {n A B} h1 h2 => ite2 (fun z => h1 (by have := of_decide_eq_true z; injection this)) (fun z => h2 (fun e => z (decide_eq_true (by rw [e]))))
  refine ⟨_, rfl, rfl, _, rfl, st (fun _ => ?_) (fun n0 => ?_)⟩
  ·exact ⟨_, rfl, _, rfl, _, _, rfl, rfl, k _ H (.int _) (Same.refl H) fun i e => by injection e with e; lia⟩
  refine ⟨_, rfl, rfl, _, rfl, st (fun _ => ?_) (fun n1 => ?_)⟩
  ·refine ⟨_, _, rfl, rfl, ⟨by decide, by decide, by decide⟩, _, rfl, _, _, rfl, rfl, k _ H (.int _) (Same.refl H) fun i e => ?_⟩
   injection e with e
   rw [pow9] at e
   lia
  refine ⟨_, rfl, rfl, _, rfl, st (fun _ => ?_) (fun n2 => ?_)⟩
  ·exact ⟨_, rfl, _, _, rfl, rfl, (by show (0 : Int) < 2; decide), rfl, k _ H (.bl _) (Same.refl H) fun i e => by cases e⟩
  refine ⟨_, rfl, _, _, rfl, rfl, (by show (0 : Int) < 9; decide), _, rfl, ?_, _, rfl, (by show 3 <= sizeLine; decide), fun q hq => ?_⟩
  ·exact log8 (Int.emod_nonneg _ (by decide)) (Int.lt_trans (Int.emod_lt_of_pos _ (by decide)) (by decide))
  have s1 := same_upd (o := .lst [.non, .str (Str.ofString (toString (c / 6 % 1000000000000000000000000000000 % 9))), .int (-1)]) hq
  refine ⟨_, rfl, _, _, rfl, rfl, pick3 upd_same (by lia) w6 (k _ _ .non s1 fun i e => by cases e) (k _ _ (.str _) s1 fun i e => by cases e) (k _ _ (.int _) s1 fun i e => by injection e with e; lia)⟩
inductive SpNs (vs : List V) (H : Hp) (Q : VK) : Prop
 | mk (c L : Int) (_ : vs = [.int c, .int L]) (_ : ∀ v H', Odd H' v -> Same H H' -> (∀ i : Int, v = .int i -> i < 0 \/ L - 1 <= i) -> Q v H') : SpNs vs H Q
def spNs : Sp := fun vs H Q _ => SpNs vs H Q
theorem ok_ns {f : Addr} {fd : FuncData} (F : Fun K "_law_no_steps" "_law_no_steps" s__law_no_steps f fd) (T : Top K mg a) : FnOk P w K mg base CX0 1 f fd p__law_no_steps spNs := by
 refine F.ok sc__law_no_steps (fun vs H Q E h => ?_) (fun cdv A outer s H vs Q E hr h => ?_)
 ·obtain ⟨c, L, rfl, _⟩ := h
  rfl
 ·obtain ⟨c, L, rfl, k⟩ := h
  refine ⟨_, (@pss_cons _ _ _ _ _ (@ps_set _ _ (2) _ _ _ _ sc__law_no_steps.nd rfl (Or.inl rfl) (@pe_op _ _ _ _ _ _ _ _ (@op_mod _) (pv 0) (@pe_int _ _ _ _)) rfl (.inl rfl)) (@pss_cons _ _ _ _ _ (@ps_set _ _ (3) _ _ _ _ sc__law_no_steps.nd rfl (Or.inl rfl) (@pe_op _ _ _ _ _ _ _ _ (@op_mod _) (@pe_op _ _ _ _ _ _ _ _ (@op_fdiv _) (pv 0) (@pe_int _ _ _ _)) (@pe_op _ _ _ _ _ _ _ _ (@op_pow _) (@pe_int _ _ _ _) (@pe_int _ _ _ _))) rfl (.inl rfl)) (@pss_cons _ _ _ _ _ (@ps_if _ _ _ _ _ _ _ _ (@pt_cmpR _ _ _ _ _ _ _ _ (@op_eq _) (pv 2) (@pe_int _ _ _ _) (nomark _)) (@pss_one _ _ _ (@ps_ret _ _ _ _ (@pe_op _ _ _ _ _ _ _ _ (@op_sub _) (@pe_un _ _ _ _ _ _ (@un_neg _) (@pe_int _ _ _ _)) (pv 3)))) (@pss_nil _)) (@pss_cons _ _ _ _ _ (@ps_if _ _ _ _ _ _ _ _ (@pt_cmpR _ _ _ _ _ _ _ _ (@op_eq _) (pv 2) (@pe_int _ _ _ _) (nomark _)) (@pss_one _ _ _ (@ps_ret _ _ _ _ (@pe_op _ _ _ _ _ _ _ _ (@op_add _) (@pe_op _ _ _ _ _ _ _ _ (@op_sub _) (pv 1) (@pe_int _ _ _ _)) (pv 3)))) (@pss_nil _)) (@pss_cons _ _ _ _ _ (@ps_if _ _ _ _ _ _ _ _ (@pt_cmpR _ _ _ _ _ _ _ _ (@op_eq _) (pv 2) (@pe_int _ _ _ _) (nomark _)) (@pss_one _ _ _ (@ps_ret _ _ _ _ (@pe_op _ _ _ _ _ _ _ _ (@op_sub _) (pv 1) (@pe_int _ _ _ _)))) (@pss_nil _)) (@pss_one _ _ _ (@ps_ret _ _ _ _ (@pe_ix _ _ _ _ _ _ _ (@ix_list _) (@pe_lst _ _ _ _ (@pa_cons _ _ _ _ _ (@pe_non _ _ _) (@pa_cons _ _ _ _ _ (@pe_cmpR _ _ _ _ _ _ _ _ (@op_eq _) (@pe_op _ _ _ _ _ _ _ _ (@op_mod _) (pv 3) (@pe_int _ _ _ _)) (@pe_int _ _ _ _) (nomark _)) (@pa_str _ _ _ _ _ _ (@pa_nil _)) rfl) rfl)) (@pe_op _ _ _ _ _ _ _ _ (@op_sub _) (pv 2) (@pe_int _ _ _ _)) (fun _ _ => rfl))))))))), ?_⟩
  try dsimp only [cxK]
  refine ⟨_, rfl, _, _, rfl, rfl, (by show (0 : Int) < 6; decide), ?_⟩
  refine ⟨_, rfl, _, _, rfl, rfl, ⟨by decide, by decide⟩, _, _, rfl, rfl, ⟨by decide, by decide, by decide⟩, ?_⟩
  refine ⟨_, _, rfl, rfl, by show (0 : Int) < 10 ^ (30 : Int).toNat; decide, ?_⟩
  rw [pow30]
  have f0 : 0 <= c / 6 % 1000000000000000000000000000000 := Int.emod_nonneg _ (by decide)
  have w0 : 0 <= c % 6 := Int.emod_nonneg _ (by decide)
  have w6 : c % 6 < 6 := Int.emod_lt_of_pos _ (by decide)
  have st : ∀ {n : Int} {A B : Prop}, (c % 6 = n -> A) -> (c % 6 ≠ n -> B) -> if decide (V.int (c % 6) = V.int n) = true then A else B := fun {n A B} h1 h2 => ite2 (fun z => h1 (by have := of_decide_eq_true z; injection this)) (fun z => h2 (fun e => z (decide_eq_true (by rw [e]))))
  refine ⟨_, rfl, rfl, _, rfl, st (fun _ => ?_) (fun n0 => ?_)⟩
  ·exact ⟨_, rfl, _, rfl, _, _, rfl, rfl, k _ H (.int _) (Same.refl H) fun i e => by injection e with e; lia⟩
  refine ⟨_, rfl, rfl, _, rfl, st (fun _ => ?_) (fun n1 => ?_)⟩
  ·exact ⟨_, rfl, _, _, rfl, rfl, _, rfl, _, _, rfl, rfl, k _ H (.int _) (Same.refl H) fun i e => by injection e with e; lia⟩
  refine ⟨_, rfl, rfl, _, rfl, st (fun _ => ?_) (fun n2 => ?_)⟩
  ·exact ⟨_, rfl, _, _, rfl, rfl, k _ H (.int _) (Same.refl H) fun i e => by injection e with e; lia⟩
  refine ⟨_, rfl, _, _, rfl, rfl, (by show (0 : Int) < 2; decide), rfl, (by show 3 <= sizeLine; decide), fun q hq => ?_⟩
  have s1 := same_upd (o := .lst [.non, .bl (decide (V.int (c / 6 % 1000000000000000000000000000000 % 2) = V.int 1)), .str (Str.ofString "0")]) hq
  refine ⟨_, rfl, _, _, rfl, rfl, pick3 upd_same (by lia) w6 (k _ _ .non s1 fun i e => by cases e) (k _ _ (.bl _) s1 fun i e => by cases e) (k _ _ (.str _) s1 fun i e => by cases e)⟩
inductive SpSame (vs : List V) (H : Hp) (Q : VK) : Prop
 | mk (i : Int) (_ : vs = [.int i, .int i]) (_ : Q (.bl true) H) : SpSame vs H Q
def spSame : Sp := fun vs H Q _ => SpSame vs H Q
theorem ok_same {f : Addr} {fd : FuncData} (F : Fun K "_law_same" "_law_same" s__law_same f fd) (T : Top K mg a) : FnOk P w K mg base CX0 1 f fd p__law_same spSame := by
 refine F.ok sc__law_same (fun vs H Q E h => ?_) (fun cdv A outer s H vs Q E hr h => ?_)
 ·obtain ⟨i, rfl, _⟩ := h
  rfl
 ·obtain ⟨i, rfl, k⟩ := h
  refine ⟨_, (@pss_one _ _ _ (@ps_ret _ _ _ _ (@pe_and _ _ _ _ _ _ _ (@pe_callB _ _ _ _ _ _ _ _ _ (@call_isi _) rfl T.b_isinstance PyProof.Rows.boot_isinstance (@pa_cons _ _ _ _ _ (pv 0) (@pa_cons _ _ _ _ _ (@pe_bltn _ _ ((.ty "int")) _ _ rfl T.b_int PyProof.Rows.boot_int rfl (by decide) (by decide)) (@pa_nil _) rfl) rfl) (by decide) (by decide) rfl rfl) (@pe_and _ _ _ _ _ _ _ (@pe_not _ _ _ _ (@pe_callB _ _ _ _ _ _ _ _ _ (@call_isi _) rfl T.b_isinstance PyProof.Rows.boot_isinstance (@pa_cons _ _ _ _ _ (pv 0) (@pa_cons _ _ _ _ _ (@pe_bltn _ _ ((.ty "bool")) _ _ rfl T.b_bool PyProof.Rows.boot_bool rfl (by decide) (by decide)) (@pa_nil _) rfl) rfl) (by decide) (by decide) rfl rfl)) (@pe_one _ _ _ _ _ (@pe_cmpR _ _ _ _ _ _ _ _ (@op_eq _) (pv 0) (pv 1) (nomark _))))))), ?_⟩
  try dsimp only [cxK]
  refine ⟨_, rfl, _, _, _, .type "int", true, rfl, rfl, .of (.int i), (kit_ii K).1, true, rfl, iteT ⟨_, rfl, _, _, _, .type "int", false, rfl, rfl, .of (.int i), (kit_ii K).2, false, rfl, true, rfl, iteT ⟨_, rfl, _, rfl, rfl, ?_⟩⟩⟩
  rw [decide_eq_true rfl]
  exact k
end
end J
namespace J
open PySem L2
def r50 (s k : Int) : RuleA := [⟨some 0, [.am s [k]], s⟩]
theorem r50_facts (m n : Nat) (hm : m < 7) (hn : n < 8) : ((Str.ofString "0 " ++ Str.ofString (toString (1 + (m : Int))) ++ Str.ofString "=" ++ Str.ofString (toString (1 + (n : Int))) ++ Str.ofString " " ++ Str.ofString (toString (1 + (m : Int)))) = ruleT (r50 (1 + m) (1 + n))) /\ becA (r50 (1 + m) (1 + n)) 0 zeros8 = 0 /\ Still (r50 (1 + m) (1 + n)) 0 /\ Still (r50 (1 + m) (1 + n)) (1 + m) := by
 have h : ∀ m : Nat, m < 7 -> ∀ n : Nat, n < 8 -> ((Str.ofString "0 " ++ Str.ofString (toString (1 + (m : Int))) ++ Str.ofString "=" ++ Str.ofString (toString (1 + (n : Int))) ++ Str.ofString " " ++ Str.ofString (toString (1 + (m : Int)))) = ruleT (r50 (1 + m) (1 + n))) /\ becA (r50 (1 + m) (1 + n)) 0 zeros8 = 0 /\ becA (r50 (1 + m) (1 + n)) 0 [0, 0, 0, 0, 0, 0, 0, 0] = 0 /\ becA (r50 (1 + m) (1 + n)) (1 + m : Nat) [((1 + m : Nat) : Int), (1 + m : Nat), (1 + m : Nat), (1 + m : Nat), (1 + m : Nat), (1 + m : Nat), (1 + m : Nat), (1 + m : Nat)] = (1 + m : Nat) := by decide +kernel
 exact h m hm n hn
theorem r50_ok {s k : Int} (hs : 1 <= s /\ s <= 7) (hk : 1 <= k /\ k <= 8) : ROkT (r50 s k) := by
 refine ⟨by show 1 <= 50; decide, fun c hc => ?_⟩
 rw [List.mem_singleton.mp hc]
 refine ⟨⟨by decide, by decide⟩, ⟨by show 0 <= s; lia, by show s < 8; lia⟩, by show 1 <= 50; decide, fun d hd => ?_⟩
 rw [List.mem_singleton.mp hd]
 refine ⟨⟨by lia, by lia⟩, fun z => (nomatch z), fun n hn => ?_, List.pairwise_singleton _ _⟩
 rw [List.mem_singleton.mp hn]
 exact ⟨by lia, by lia⟩
theorem one8 {e : Int} (h1 : 1 <= e) (h8 : e <= 8) : e.natAbs.log2 < 1920 /\ (Str.ofString (toString e)).length = 1 := by
 have : e = 1 \/ e = 2 \/ e = 3 \/ e = 4 \/ e = 5 \/ e = 6 \/ e = 7 \/ e = 8 := by lia
 rcases this with rfl | rfl | rfl | rfl | rfl | rfl | rfl | rfl <;> exact ⟨by decide +kernel, by decide +kernel⟩
theorem Sol.so {G : Gv} (ok : GOk G) {s : Nat} (hs : s < 8) : ∀ {l n : Nat}, Sol G s l n -> SoG G l n s
 | 0, n, e => ⟨Sol.lev ok hs e, fun x y _ _ => e⟩
 | l + 1, n, e => by
  obtain ⟨m, e1, e2⟩ := e
  exact (Sol.so ok hs e1).up e2
theorem MemW.new {a : Ad} {H H' : Hp} {g : GA} {G : Gv} {N M : Nat} {r : RuleA} {m : MA} (hg : GroveAt a H g G) (nl : H m.l = none) (nk : H m.kc = none) (h4 : H' m.tp = some (.tup [.ref m.l, .ref m.kc])) (h5 : H' m.l = some (.lst (m.ds.map V.ref))) (h6 : H' m.kc = some (.dT [])) (h7 : ∀ d ∈ m.ds, H' d = some (.dK [])) (h8 : m.ds.length = 47) (h9 : m.ds.Nodup) : MemW H' g G N M r m := by
 obtain ⟨ts, h3, _⟩ := hg.pt
 exact ⟨h4, h5, ⟨Ne.symm (ne_of_none hg.lv nl), Ne.symm (ne_of_none h3 nl), Ne.symm (ne_of_none hg.nm nk)⟩, h8, h9, fun e d ed => ⟨[], h7 d (List.mem_of_getElem? ed), Nat.zero_le _, fun p hp => (nomatch hp), fun n v hv => by cases hv⟩, ⟨[], h6, Nat.zero_le _, fun ks v hv => by cases hv⟩⟩
def ApG (g : GA) (x : Addr) : Prop := x ≠ g.lv /\ x ≠ g.pt /\ x ≠ g.nm
theorem ApG.new {a : Ad} {H : Hp} {g : GA} {G : Gv} (h : GroveAt a H g G) {x : Addr} (n : H x = none) : ApG g x := by
 obtain ⟨ts, h3, _⟩ := h.pt
 exact ⟨Ne.symm (ne_of_none h.lv n), Ne.symm (ne_of_none h3 n), Ne.symm (ne_of_none h.nm n)⟩
theorem Fr.at {g : GA} {H H' : Hp} {x : Addr} {o : HO} (f : Fr g H H') (p : ApG g x) (e : H x = some o) : H' x = some o := f _ _ e p.1 p.2.1 p.2.2
theorem ApG.kind {a : Ad} {H : Hp} {g : GA} {G : Gv} (h : GroveAt a H g G) {x : Addr} {o : HO} (e : H x = some o) (n1 : ∀ l, o ≠ .lst l) (n2 : ∀ l, o ≠ .dT l) : ApG g x := by
 obtain ⟨ts, h3, _⟩ := h.pt
 exact ⟨ne_of e h.lv (n1 _), ne_of e h3 (n1 _), ne_of e h.nm (n2 _)⟩
theorem FrJ.at {H H' : Hp} {g : GA} {G : Gv} {N M : Nat} {r : RuleA} {m : MA} (f : FrJ g m H H') (hm : MemW H g G N M r m) {x : Addr} {o : HO} (p : ApG g x) (e : H x = some o) (n1 : ∀ l, o ≠ .dK l) (n2 : ∀ l, o ≠ .dT l) : H' x = some o := by
 obtain ⟨kc, c1, _⟩ := hm.ce
 refine f _ _ e p.1 p.2.1 p.2.2 (ne_of e c1 (n2 _)) fun z => ?_
 obtain ⟨j, hj⟩ := List.getElem?_of_mem z
 obtain ⟨kv, e2, _⟩ := hm.sq j x hj
 rw [e] at e2
 cases e2
 exact n1 _ rfl
theorem nv_tbl {ps : _} (h : Nv (.tbl ps)) : False := nomatch h
theorem JW.kpt {a : Ad} {H H' : Hp} {g : GA} {G : Gv} {N M : Nat} {p dx mem pr Pt : Addr} {r : RuleA} {m : MA} {q : Str} (h : JW a H g G N M p dx mem pr r m) (k : Kp Pt H H') (t : Tab H Pt q) : JW a H' g G N M p dx mem pr r m := by
 have kk : ∀ {b o}, H b = some o -> (∀ ps, o ≠ .tbl ps) -> H' b = some o := fun {b o} e n => k _ _ (Tab.ne t e n) e
 refine ⟨k.grove t h.gr, h.ok, h.bs, kk h.br (by intro _ z; cases z), h.nbr, kk h.hp (by intro _ z; cases z), h.ru.kp fun b o e n => kk e (fun ps z => nv_tbl (z ▸ n)), h.rok, h.rest, h.me.kp h.ok (Goes.refl h.ok) fun b o e z => kk e fun ps y => ?_⟩
 subst y
 rcases z with rfl | rfl | z | rfl
 ·rw [h.me.tp] at e; cases e
 ·rw [h.me.l] at e; cases e
 ·obtain ⟨j, hj⟩ := List.getElem?_of_mem z
  obtain ⟨kv, e2, _⟩ := h.me.sq j b hj
  rw [e2] at e; cases e
 ·obtain ⟨kc, c1, _⟩ := h.me.ce
  rw [c1] at e; cases e
def ScL (K : PySem.W.Frag) (g : GA) (l : Addr) (xs : List V) (H : Hp) : Prop := (ApG g l /\ Rd H l (.lst xs)) \/ ∀ H, SqL K H l xs
theorem ScL.seq {K : PySem.W.Frag} {g : GA} {l : Addr} {xs : List V} {H : Hp} (h : ScL K g l xs H) : SqL K H l xs := by
 rcases h with ⟨_, h⟩ | h
 ·exact .inl h
 ·exact h H
theorem ScL.go {K : PySem.W.Frag} {g : GA} {l : Addr} {xs : List V} {H H' : Hp} (h : ScL K g l xs H) (k : ∀ o, (o = .lst xs \/ ∃ u, o = .frz u (.lst xs)) -> ApG g l -> H l = some o -> H' l = some o) : ScL K g l xs H' := by
 rcases h with ⟨p, h⟩ | h
 ·rcases h with h | ⟨o, h⟩
  ·exact .inl ⟨p, .inl (k _ (.inl rfl) p h)⟩
  ·exact .inl ⟨p, .inr ⟨o, k _ (.inr ⟨_, rfl⟩) p h⟩⟩
 ·exact .inr h
structure Y50 (K : PySem.W.Frag) (a : Ad) (g : GA) (l : Addr) (ns : List Int) (Pt : Addr) (p dx mem pr : Addr) (r : RuleA) (m : MA) (H : Hp) (G : Gv) (N M : Nat) : Prop where
 j : JW a H g G N M p dx mem pr r m
 sc : ScL K g l (ns.map V.int) H
 t : Tab H Pt ("_law_both" ++ ".<locals>." ++ "<lambda>")
section
variable {K : PySem.W.Frag} {a : Ad} {g : GA} {l : Addr} {ns : List Int} {Pt p dx mem pr : Addr} {r : RuleA} {m : MA} {H H' : Hp} {G G' : Gv} {N M N' M' i : Nat}
theorem Y50.fr (h : Y50 K a g l ns Pt p dx mem pr r m H G N M) (f : Fr g H H') (hg : GroveAt a H' g G') (go : Goes G G' i) : Y50 K a g l ns Pt p dx mem pr r m H' G' N M := by
 obtain ⟨ps, e, c⟩ := h.t
 exact ⟨h.j.fr f hg go, h.sc.go fun o _ p e => f.at p e, ps, f.at (ApG.kind h.j.gr e (by intro _ z; cases z) (by intro _ z; cases z)) e, c.mono (fun d e => f.at (ApG.kind h.j.gr e (by intro _ z; cases z) (by intro _ z; cases z)) e) _⟩
theorem Y50.same (h : Y50 K a g l ns Pt p dx mem pr r m H G N M) (s : Same H H') : Y50 K a g l ns Pt p dx mem pr r m H' G N M := h.fr (Same.fr s) (h.j.gr.same s) (Goes.refl h.j.ok)
theorem Y50.kp (h : Y50 K a g l ns Pt p dx mem pr r m H G N M) (k : Kp Pt H H') (t : Tab H' Pt ("_law_both" ++ ".<locals>." ++ "<lambda>")) : Y50 K a g l ns Pt p dx mem pr r m H' G N M :=
 ⟨h.j.kpt k h.t, h.sc.go fun o w _ e => k _ _ (Tab.ne h.t e fun ps z => by rcases w with rfl | ⟨u, rfl⟩ <;> cases z) e, t⟩
theorem Y50.fj (h : Y50 K a g l ns Pt p dx mem pr r m H G N M) (f : FrJ g m H H') (j : JW a H' g G' N' M' p dx mem pr r m) : Y50 K a g l ns Pt p dx mem pr r m H' G' N' M' := by
 obtain ⟨ps, e, c⟩ := h.t
 refine ⟨j, h.sc.go fun o w p e => f.at h.j.me p e (fun _ z => by rcases w with rfl | ⟨u, rfl⟩ <;> cases z) (fun _ z => by rcases w with rfl | ⟨u, rfl⟩ <;> cases z), ps, f.at h.j.me (ApG.kind h.j.gr e (by intro _ z; cases z) (by intro _ z; cases z)) e (by intro _ z; cases z) (by intro _ z; cases z), c.mono (fun d e => f.at h.j.me (ApG.kind h.j.gr e (by intro _ z; cases z) (by intro _ z; cases z)) e (by intro _ z; cases z) (by intro _ z; cases z)) _⟩
end
end J
namespace J
open PySem L2
section
variable {P : Program} {w : World} {K : PySem.W.Frag} {mg : Str -> Option Value} {base : Heap} {a : Ad}
inductive SpLawT (K : PySem.W.Frag) (P1 : Addr) (vs : List V) (H : Hp) (Q : VK) : Prop
 | mk (l : Addr) (ns : List Int) (_ : vs = [.ref l]) (_ : SqL K H l (ns.map V.int)) (_ : ns.length <= 63) (_ : ∀ q, Tab H P1 q) (_ : ∀ H', Q (.bl true) H') : SpLawT K P1 vs H Q
def spLawT (K : PySem.W.Frag) (P1 : Addr) : Sp := fun vs H Q _ => SpLawT K P1 vs H Q
theorem ok_law {f P1 : Addr} {fd : FuncData} (F : Fun K "law" "law" s_law f fd) (T : Top K mg a) (C__law_at : Cal P w K mg base CX0 1 "_law_at" p__law_at (spAt K)) (C_Grove : CalC P w K mg base CX0 2 "Grove" a.c_Grove p_Grove_init (spGInit a)) (C_read_rule : Cal P w K mg base CX0 8 "read_rule" p_read_rule (spRR a)) (C_Jumps : CalC P w K mg base CX0 3 "Jumps" a.c_Jumps p_Jumps_init (spJInit a)) (M_Grove_solid : CalM P w K mg base CX0 4 a.c_Grove "solid" p_Grove_solid (spSolid a)) (M_Grove_level_of : CalM P w K mg base CX0 3 a.c_Grove "level_of" p_Grove_level_of (spLev a)) (M_Jumps_after : CalM P w K mg base CX0 42 a.c_Jumps "after" p_Jumps_after (spAS a 10)) (C__law_bad : Cal P w K mg base CX0 1 "_law_bad" p__law_bad spBad) (C__law_no_steps : Cal P w K mg base CX0 1 "_law_no_steps" p__law_no_steps spNs) (C__law_both : Cal P w K mg base CX0 8 "_law_both" p__law_both (spBo a P1)) (C__law_same : Cal P w K mg base CX0 1 "_law_same" p__law_same spSame) : FnOk P w K mg base CX0 43 f fd ["_law_script"] (spLawT K P1) := by
 refine F.ok (ps := ["_law_script"]) sc_law (fun vs H Q E h => ?_) (fun cdv A outer s H vs Q E hr h => ?_)
 ·obtain ⟨l, ns, rfl, _⟩ := h
  rfl
 ·obtain ⟨l, ns, rfl, hS, hlen, tb1, k⟩ := h
  refine ⟨_, (@pss_cons _ _ _ _ _ (@ps_set _ _ (1) _ _ _ _ sc_law.nd rfl (Or.inl rfl) (@pe_calC0 _ _ _ _ _ _ _ _ _ _ C_Grove (rm hr) rfl pass0 (by decide)) rfl (.inl rfl)) (@pss_cons _ _ _ _ _ (@ps_set _ _ (2) _ _ _ _ sc_law.nd rfl (Or.inl rfl) (@pe_op _ _ _ _ _ _ _ _ (@op_add _) (@pe_int _ _ _ _) (@pe_op _ _ _ _ _ _ _ _ (@op_mod _) (@pe_cal _ _ _ _ _ _ _ _ _ _ _ _ C__law_at (rm hr) rfl pass0 (@pa_cons _ _ _ _ _ (pv 0) (@pa_int _ _ _ _ _ _ (@pa_nil _)) rfl) (by decide) rfl rfl) (@pe_int _ _ _ _))) rfl (.inl rfl)) (@pss_cons _ _ _ _ _ (@ps_set _ _ (3) _ _ _ _ sc_law.nd rfl (Or.inl rfl) (@pe_cal _ _ _ _ _ _ _ _ _ _ _ _ C_read_rule (rm hr) rfl pass0 (@pa_op _ _ _ _ _ _ _ _ _ _ (@op_add_str _) (@pe_op _ _ _ _ _ _ _ _ (@op_add_str _) (@pe_op _ _ _ _ _ _ _ _ (@op_add_str _) (@pe_op _ _ _ _ _ _ _ _ (@op_add_str _) (@pe_op _ _ _ _ _ _ _ _ (@op_add_str _) (@pe_str _ _ _ _) (@pe_callTy _ _ _ _ _ _ _ _ _ (@call_str_int _) rfl T.b_str PyProof.Rows.boot_str (@pa_cons _ _ _ _ _ (pv 2) (@pa_nil _) rfl) (by decide) (by decide) rfl rfl)) (@pe_str _ _ _ _)) (@pe_callTy _ _ _ _ _ _ _ _ _ (@call_str_int _) rfl T.b_str PyProof.Rows.boot_str (@pa_op _ _ _ _ _ _ _ _ _ _ (@op_add _) (@pe_int _ _ _ _) (@pe_op _ _ _ _ _ _ _ _ (@op_mod _) (@pe_op _ _ _ _ _ _ _ _ (@op_fdiv _) (@pe_cal _ _ _ _ _ _ _ _ _ _ _ _ C__law_at (rm hr) rfl pass0 (@pa_cons _ _ _ _ _ (pv 0) (@pa_int _ _ _ _ _ _ (@pa_nil _)) rfl) (by decide) rfl rfl) (@pe_int _ _ _ _)) (@pe_int _ _ _ _)) (@pa_nil _)) (by decide) (by decide) rfl rfl)) (@pe_str _ _ _ _)) (@pe_callTy _ _ _ _ _ _ _ _ _ (@call_str_int _) rfl T.b_str PyProof.Rows.boot_str (@pa_cons _ _ _ _ _ (pv 2) (@pa_nil _) rfl) (by decide) (by decide) rfl rfl) (@pa_nil _)) (by decide) rfl rfl) rfl (.inl rfl)) (@pss_cons _ _ _ _ _ (@ps_set _ _ (4) _ _ _ _ sc_law.nd rfl (Or.inl rfl) (@pe_calC _ _ _ _ _ _ _ _ _ _ _ _ _ C_Jumps (rm hr) rfl pass0 (@pa_cons _ _ _ _ _ (pv 1) (@pa_cons _ _ _ _ _ (pv 3) (@pa_nil _) rfl) rfl) (by decide) rfl rfl) rfl (.inl rfl)) (@pss_cons _ _ _ _ _ (@ps_for _ _ _ _ _ _ _ _ PassesOwn.never rfl (@pi_range2 _ _ _ _ _ _ _ rfl T.b_range (@pa_int _ _ _ _ _ _ (@pa_cons _ _ _ _ _ (@pe_callB _ _ _ _ _ _ _ _ _ (@call_max2 _ rfl) rfl T.b_max PyProof.Rows.boot_max (@pa_int _ _ _ _ _ _ (@pa_cons _ _ _ _ _ (@pe_callB _ _ _ _ _ _ _ _ _ (@call_min2 _ rfl) rfl T.b_min PyProof.Rows.boot_min (@pa_cons _ _ _ _ _ (@pe_callB _ _ _ _ _ _ _ _ _ (@call_len_seq _) rfl T.b_len PySem.boot_len (@pa_cons _ _ _ _ _ (pv 0) (@pa_nil _) rfl) (by decide) (by decide) rfl rfl) (@pa_int _ _ _ _ _ _ (@pa_nil _)) rfl) (by decide) (by decide) rfl rfl) (@pa_nil _) rfl)) (by decide) (by decide) rfl rfl) (@pa_nil _) rfl)) rfl rfl) (@pg_name _ _ (5) _ sc_law.nd rfl (Or.inl rfl) (.inl rfl)) (@pss_cons _ _ _ _ _ (@ps_set _ _ (6) _ _ _ _ sc_law.nd rfl (Or.inl rfl) (@pe_cal _ _ _ _ _ _ _ _ _ _ _ _ C__law_at (rm hr) rfl pass0 (@pa_cons _ _ _ _ _ (pv 0) (@pa_cons _ _ _ _ _ (pv 5) (@pa_nil _) rfl) rfl) (by decide) rfl rfl) rfl (.inl rfl)) (@pss_cons _ _ _ _ _ (@ps_set _ _ (7) _ _ _ _ sc_law.nd rfl (Or.inl rfl) (@pe_op _ _ _ _ _ _ _ _ (@op_add _) (@pe_int _ _ _ _) (@pe_op _ _ _ _ _ _ _ _ (@op_mod _) (@pe_op _ _ _ _ _ _ _ _ (@op_fdiv _) (pv 6) (@pe_int _ _ _ _)) (@pe_int _ _ _ _))) rfl (.inl rfl)) (@pss_cons _ _ _ _ _ (@ps_set _ _ (8) _ _ _ _ sc_law.nd rfl (Or.inl rfl) (@pe_cal _ _ _ _ _ _ _ _ _ _ _ _ C__law_no_steps (rm hr) rfl pass0 (@pa_op _ _ _ _ _ _ _ _ _ _ (@op_fdiv _) (pv 6) (@pe_int _ _ _ _) (@pa_cons _ _ _ _ _ (pv 7) (@pa_nil _) rfl)) (by decide) rfl rfl) rfl (.inl rfl)) (@pss_cons _ _ _ _ _ (@ps_for _ _ _ _ _ _ _ _ PassesOwn.never rfl (@pi_list _ _ _ _ (@pe_lst _ _ _ _ (@pa_int _ _ _ _ _ _ (@pa_cons _ _ _ _ _ (pv 8) (@pa_nil _) rfl)))) (@pg_name _ _ (9) _ sc_law.nd rfl (Or.inl rfl) (.inl rfl)) (@pss_cons _ _ _ _ _ (@ps_if _ _ _ _ _ _ _ _ (@pt_not _ _ _ _ (@pt_val _ _ _ (@pe_cal _ _ _ _ _ _ _ _ _ _ _ _ C__law_both (rm hr) rfl pass0 (@pa_cons _ _ _ _ _ (pv 4) (@pa_cons _ _ _ _ _ (@pe_cal _ _ _ _ _ _ _ _ _ _ _ _ C__law_bad (rm hr) rfl pass0 (@pa_cons _ _ _ _ _ (pv 6) (@pa_nil _) rfl) (by decide) rfl rfl) (@pa_cons _ _ _ _ _ (pv 9) (@pa_int _ _ _ _ _ _ (@pa_nil _)) rfl) rfl) rfl) (by decide) rfl rfl) (by intro _ ; rfl))) (@pss_one _ _ _ (@ps_ret _ _ _ _ (@pe_bl _ _ _ _))) (@pss_nil _)) (@pss_one _ _ _ (@ps_if _ _ _ _ _ _ _ _ (@pt_not _ _ _ _ (@pt_val _ _ _ (@pe_cal _ _ _ _ _ _ _ _ _ _ _ _ C__law_both (rm hr) rfl pass0 (@pa_cons _ _ _ _ _ (pv 4) (@pa_cons _ _ _ _ _ (@pe_calm _ _ _ _ _ _ _ _ _ _ _ _ _ _ _ _ (pv 1) M_Grove_solid (rm hr) pass0 (@pa_op _ _ _ _ _ _ _ _ _ _ (@op_mod _) (pv 6) (@pe_int _ _ _ _) (@pa_op _ _ _ _ _ _ _ _ _ _ (@op_mod _) (@pe_op _ _ _ _ _ _ _ _ (@op_fdiv _) (pv 6) (@pe_int _ _ _ _)) (@pe_int _ _ _ _) (@pa_nil _))) rfl rfl rfl) (@pa_cons _ _ _ _ _ (pv 9) (@pa_int _ _ _ _ _ _ (@pa_nil _)) rfl) rfl) rfl) (by decide) rfl rfl) (by intro _ ; rfl))) (@pss_one _ _ _ (@ps_ret _ _ _ _ (@pe_bl _ _ _ _))) (@pss_nil _)))) (by intro _ ; rfl)) (@pss_cons _ _ _ _ _ (@ps_set _ _ (10) _ _ _ _ sc_law.nd rfl (Or.inl rfl) (@pe_calm _ _ _ _ _ _ _ _ _ _ _ _ _ _ _ _ (pv 1) M_Grove_solid (rm hr) pass0 (@pa_cons _ _ _ _ _ (pv 7) (@pa_op _ _ _ _ _ _ _ _ _ _ (@op_mul _) (pv 2) (@pe_op _ _ _ _ _ _ _ _ (@op_mod _) (@pe_op _ _ _ _ _ _ _ _ (@op_fdiv _) (pv 6) (@pe_int _ _ _ _)) (@pe_int _ _ _ _)) (@pa_nil _)) rfl) rfl rfl rfl) rfl (.inl rfl)) (@pss_cons _ _ _ _ _ (@ps_if _ _ _ _ _ _ _ _ (@pt_not _ _ _ _ (@pt_val _ _ _ (@pe_cal _ _ _ _ _ _ _ _ _ _ _ _ C__law_both (rm hr) rfl pass0 (@pa_cons _ _ _ _ _ (pv 4) (@pa_cons _ _ _ _ _ (pv 10) (@pa_cons _ _ _ _ _ (pv 8) (@pa_int _ _ _ _ _ _ (@pa_nil _)) rfl) rfl) rfl) (by decide) rfl rfl) (by intro _ ; rfl))) (@pss_one _ _ _ (@ps_ret _ _ _ _ (@pe_bl _ _ _ _))) (@pss_nil _)) (@pss_one _ _ _ (@ps_if _ _ _ _ _ _ _ _ (@PW.pt _ _ _ (@pw_and _ _ _ _ _ _ _ (@pt_cmpR _ _ _ _ _ _ _ _ (@op_lt _) (pv 7) (@pe_int _ _ _ _) (nomark _)) (@pw_and1 _ _ _ _ (@pt_not _ _ _ _ (@pt_val _ _ _ (@pe_cal _ _ _ _ _ _ _ _ _ _ _ _ C__law_same (rm hr) rfl pass0 (@pa_cons _ _ _ _ _ (@pe_calm _ _ _ _ _ _ _ _ _ _ _ _ _ _ _ _ (pv 1) M_Grove_level_of (rm hr) pass0 (@pa_cons _ _ _ _ _ (@pe_calm _ _ _ _ _ _ _ _ _ _ _ _ _ _ _ _ (pv 4) M_Jumps_after (rm hr) pass0 (@pa_cons _ _ _ _ _ (pv 10) (@pa_op _ _ _ _ _ _ _ _ _ _ (@op_sub _) (pv 7) (@pe_int _ _ _ _) (@pa_nil _)) rfl) rfl rfl rfl) (@pa_nil _) rfl) rfl rfl rfl) (@pa_op _ _ _ _ _ _ _ _ _ _ (@op_sub _) (pv 7) (@pe_int _ _ _ _) (@pa_nil _)) rfl) (by decide) rfl rfl) (by intro _ ; rfl)))))) (@pss_one _ _ _ (@ps_ret _ _ _ _ (@pe_bl _ _ _ _))) (@pss_nil _))))))))) (by intro _ ; rfl)) (@pss_one _ _ _ (@ps_ret _ _ _ _ (@pe_bl _ _ _ _)))))))), ?_⟩
  try dsimp only [cxK]
  intro x dx nx ndx nex
  refine ⟨x, dx, rfl, upd_same, fun g H1 gp N => ⟨rfl, ?_⟩⟩
  have s1 : Same H H1 := fun b o e => N.kp b o (by rw [upd_ne (ne_of_none e nx), upd_ne (ne_of_none e ndx)]; exact e) (gp ▸ ne_of_none e nx)
  have sc1 : ScL K g l (ns.map V.int) H1 := by
   have ap : ∀ o, H l = some o -> ApG g l := fun o e => by
    have e2 : upd (upd H dx (.own x)) x (.ins a.c_Grove dx []) l = some o := by rw [upd_ne (ne_of_none e nx), upd_ne (ne_of_none e ndx)]; exact e
    exact ⟨ne_of_none e2 N.fresh.1, ne_of_none e2 N.fresh.2.1, ne_of_none e2 N.fresh.2.2.1⟩
   rcases hS with (h | ⟨o, h⟩) | h
   ·exact .inl ⟨ap _ h, .inl (s1 _ _ h)⟩
   ·exact .inl ⟨ap _ h, .inr ⟨o, s1 _ _ h⟩⟩
   ·exact .inr fun H => .inr h
  subst gp
  have hg1 := N.at'
  have hbr1 := N.br
  have nb := And.intro N.n1 N.n2
  clear N
  have hS1 := s1.seq hS
  obtain ⟨m, hm⟩ := Int.eq_ofNat_of_zero_le (show 0 <= atN ns 0 % 7 by lia)
  have m7 : m < 7 := by lia
  obtain ⟨n, hn⟩ := Int.eq_ofNat_of_zero_le (show 0 <= atN ns 0 / 7 % 8 by lia)
  have n8 : n < 8 := by lia
  obtain ⟨rt, rz, rs0, rs1⟩ := r50_facts m n m7 n8
  have ls := one8 (e := 1 + (m : Int)) (by lia) (by lia)
  have lk := one8 (e := 1 + (n : Int)) (by lia) (by lia)
  refine ⟨_, rfl, l, ns, 0, rfl, hS1, by decide, _, _, rfl, rfl, (by show (0 : Int) < 7; decide), _, _, rfl, rfl, ?_⟩
  have ev : V.int (1 + atN ns 0 % 7) = V.int (1 + (m : Int)) := by rw [hm]
  show tSeq _ _ _ [some (.ref l), some (.ref g.p), some (.int (1 + atN ns 0 % 7)), none, none, none, none, none, none, none, none] H1
  rw [ev]
  have z1 : (Str.ofString "0 ").length = 2 := by decide +kernel
  have z2 : (Str.ofString "=").length = 1 := by decide +kernel
  have z3 : (Str.ofString " ").length = 1 := by decide +kernel
  have sz : 7 <= sizeLine := by decide
  refine ⟨_, rfl, _, rfl, ls.1, _, _, rfl, rfl, (by rw [z1, ls.2]; exact Nat.le_trans (by decide) sz), _, _, rfl, rfl, (by rw [Tx.app_len, z1, z2, ls.2]; exact Nat.le_trans (by decide) sz), ?_⟩
  refine ⟨_, rfl, l, ns, 0, rfl, hS1, by decide, _, _, rfl, rfl, ⟨by decide, by decide⟩, _, _, rfl, rfl, (by show (0 : Int) < 8; decide), _, _, rfl, rfl, 1 + (n : Int), congrArg (fun z => [V.int (1 + z)]) hn, lk.1, ?_⟩
  refine ⟨_, _, rfl, rfl, (by rw [Tx.app_len, Tx.app_len, z1, z2, ls.2, lk.2]; exact Nat.le_trans (by decide) sz), _, _, rfl, rfl, (by rw [Tx.app_len, Tx.app_len, Tx.app_len, z1, z2, z3, ls.2, lk.2]; exact Nat.le_trans (by decide) sz), ?_⟩
  refine ⟨_, rfl, _, rfl, ls.1, _, _, rfl, rfl, (by rw [Tx.app_len, Tx.app_len, Tx.app_len, Tx.app_len, z1, z2, z3, ls.2, lk.2]; exact Nat.le_trans (by decide) sz), ?_⟩
  refine ⟨r50 (1 + m) (1 + n), congrArg (fun z => [V.str z]) rt, r50_ok ⟨by lia, by lia⟩ ⟨by lia, by lia⟩, rz, fun pr H2 s2 hR2 => ?_⟩
  have rok : ROkT (r50 (1 + m) (1 + n)) := r50_ok ⟨by lia, by lia⟩ ⟨by lia, by lia⟩
  refine ⟨_, rfl, _, rfl, ?_⟩
  intro p dxp np ndp nep
  have hg2 := hg1.same s2
  have nq : upd H2 dxp (.own p) p = none := by rw [upd_ne (Ne.symm nep)]; exact np
  have sj : Same H2 (upd (upd H2 dxp (.own p)) p (.ins a.c_Jumps dxp [])) := (show Same H2 _ from same_upd ndp).trans (same_upd nq)
  refine ⟨p, dxp, g.p, pr, ruleT (r50 (1 + m) (1 + n)), r50 (1 + m) (1 + n), rfl, upd_same, hR2.same sj, fun H3 mem mm fr3 nmem hp3 hmem3 fre htp hl hkc hds lds nds nmd => ⟨rfl, ?_⟩⟩
  have s3 : Same H2 H3 := fun b o e => fr3 b o (sj b o e) (ne_of_none e np)
  have mn : ∀ {y : Addr}, upd (upd H2 dxp (.own p)) p (.ins a.c_Jumps dxp []) y = none -> H2 y = none := fun {y} e => Same.noneN sj e
  have hw : MemW H3 g G0 0 0 (r50 (1 + m) (1 + n)) mm := MemW.new hg2 (mn fre.2.1) (mn fre.2.2.1) htp hl hkc hds lds nds
  have bs0 : Bs G0 := g0_bare
  have s13 := s2.trans s3
  have Y0 : Y50 K a g l ns P1 p dxp mem pr (r50 (1 + m) (1 + n)) mm H3 G0 0 0 :=
   ⟨⟨hg2.same s3, g0_ok, bs0, s13 _ _ hbr1, nb, hp3, hR2.same s3, rok, rz, hw⟩, sc1.go fun o _ _ e => s13 _ _ e, (tb1 _).same (s1.trans s13)⟩
  generalize r50 (1 + m) (1 + n) = r at rs0 rs1 Y0
  clear hw mn s3 sj fr3 hp3 hmem3 fre htp hl hkc hds nmd nds lds hR2 rt rz rok hg2 hg1 hbr1 nb sc1 s13 hS1 tb1
  refine ⟨_, rfl, l, _, rfl, .inl Y0.sc.seq, _, _, rfl, _, _, rfl, 1, _, rfl, ⟨by decide, by decide, ?_, ?_⟩, ?_⟩
  ·split <;> (try split) <;> lia
  ·split <;> (try split) <;> lia
  have hM : ((if (if (17 : Int) < ((ns.map V.int).length : Int) then 17 else ((ns.map V.int).length : Int)) > 2 then (if (17 : Int) < ((ns.map V.int).length : Int) then 17 else ((ns.map V.int).length : Int)) else 2) - 1).toNat <= 16 := by split <;> (try split) <;> lia
  generalize ((if (if (17 : Int) < ((ns.map V.int).length : Int) then 17 else ((ns.map V.int).length : Int)) > 2 then (if (17 : Int) < ((ns.map V.int).length : Int) then 17 else ((ns.map V.int).length : Int)) else 2) - 1).toNat = R at hM ⊢
  refine for_range (n := R) (fun i σ H2 => ∃ (G : Gv) (u5 u6 u7 u8 u9 u10 : Option V), σ = [some (.ref l), some (.ref g.p), some (.int (1 + (m : Int))), some (.ref pr), some (.ref p), u5, u6, u7, u8, u9, u10] /\ Y50 K a g l ns P1 p dxp mem pr r mm H2 G (10 * i) (4 * i) /\ G.length <= 56 + 400 * i) ⟨G0, none, none, none, none, none, none, rfl, Y0, by rw [g0_len]; exact Nat.le_refl _⟩ ?_ ?_
  ·rintro i σ H2 hi ⟨G, u5, u6, u7, u8, u9, u10, rfl, Y, gl⟩
   refine ⟨_, rfl, _, rfl, l, ns, 1 + (i : Int), rfl, Y.sc.seq, by lia, ?_⟩
   generalize atN ns (1 + (i : Int)) = cell
   refine ⟨_, rfl, _, _, rfl, rfl, ⟨by decide, by decide⟩, _, _, rfl, rfl, (by show (0 : Int) < 47; decide), _, _, rfl, rfl, ?_⟩
   obtain ⟨lev, hlev⟩ := Int.eq_ofNat_of_zero_le (show 0 <= cell / 3 % 47 by lia)
   have lev46 : lev <= 46 := by lia
   have elev : V.int (2 + cell / 3 % 47) = V.int ((lev + 2 : Nat) : Int) := by rw [hlev]; congr 1; lia
   show tSeq _ _ _ [some (.ref l), some (.ref g.p), some (.int (1 + (m : Int))), some (.ref pr), some (.ref p), some (.int (1 + (i : Int))), some (.int cell), some (.int (2 + cell / 3 % 47)), u8, u9, u10] H2
   rw [elev]
   refine ⟨_, rfl, _, _, rfl, rfl, ⟨by decide, by decide⟩, _, rfl, _, _, rfl, fun v H4 ov s4 bad => ?_⟩
   have Y4 := Y.same s4
   have nst : NoStp v ((lev + 2 : Nat) : Int) := fun i e => by have := bad i e; lia
   refine ⟨_, rfl, (by show 2 <= sizeLine; decide), fun q hq => ⟨q, rfl, ⟨_, SqL.of upd_same⟩, ?_⟩⟩
   have aq := ApG.new Y4.j.gr hq
   have s5 := same_upd (o := .lst [.int 0, v]) hq
   have Y5 := Y4.same s5
   have ov5 := ov.same fun b xs e => s5 _ _ e
   have hq5 : upd H4 q (.lst [.int 0, v]) q = some (.lst [.int 0, v]) := upd_same
   generalize upd H4 q (.lst [.int 0, v]) = H5 at s5 Y5 ov5 hq5 ⊢
   refine for_list (xs := [.int 0, v]) (fun j σ Hy => ∃ (G' : Gv) (u9 : Option V), σ = [some (.ref l), some (.ref g.p), some (.int (1 + (m : Int))), some (.ref pr), some (.ref p), some (.int (1 + (i : Int))), some (.int cell), some (.int ((lev + 2 : Nat) : Int)), some v, u9, u10] /\ Y50 K a g l ns P1 p dxp mem pr r mm Hy G' (10 * i) (4 * i) /\ Hy q = some (.lst [.int 0, v]) /\ Odd Hy v /\ Goes G G' j) ⟨G, u9, rfl, Y5, hq5, ov5, Goes.refl Y5.j.ok⟩ (fun j σ Hy _ z => by obtain ⟨_, _, _, _, z, _⟩ := z; exact SqL.of z) ?_ ?_
   ·rintro j v' σ Hy ev ⟨G', u9, rfl, Yy, hqy, ovy, go⟩
    have j2 : j < 2 := (List.getElem?_eq_some_iff.mp ev).1
    have gf := go.few
    have mv := List.mem_of_getElem? ev
    have od : ∀ {Hz : Hp}, Odd Hz v -> Odd Hz v' := fun {Hz} o => by
     rcases List.mem_cons.mp mv with z | z
     ·rw [z]; exact .int _
     ·rw [List.mem_singleton.mp z]; exact o
    refine ⟨_, rfl, _, rfl, cell, rfl, fun v2 H6 ov2 s6 bad2 => ?_⟩
    have Y6 := Yy.same s6
    have ov6 := ovy.same fun b xs e => s6 _ _ e
    refine ⟨_, rfl, p, dxp, mem, pr, mm.l, mm.kc, g, G', v2, v', 0, rfl, Y6.j.hp, Y6.j.gr, ov2, od ov6, .inl ⟨rfl, fun i e => ?_⟩, Y6.t, fun H7 kp7 tb7 => ⟨true, rfl, iteF ?_⟩⟩
    ·have := bad2 i e
     lia
    have Y7 := Y6.kp kp7 tb7
    have ov7 := kp7.odd Y6.t ov6
    have hq7 := kp7 _ _ (Tab.ne Y6.t (s6 _ _ hqy) (by intro _ z; cases z)) (s6 _ _ hqy)
    refine ⟨_, rfl, _, rfl, g.p, g.dx, _, rfl, Y7.j.gr.hp, no_solid g, _, rfl, _, _, rfl, rfl, (by show (0 : Int) < 2; decide), _, rfl, _, _, rfl, rfl, ⟨by decide, by decide⟩, _, _, rfl, rfl, (by show (0 : Int) < 8; decide), ?_⟩
    obtain ⟨lo, hlo⟩ := Int.eq_ofNat_of_zero_le (show 0 <= cell % 2 by lia)
    have lo2 : lo < 2 := by lia
    obtain ⟨sta, hsta⟩ := Int.eq_ofNat_of_zero_le (show 0 <= cell / 2 % 8 by lia)
    have sta8 : sta < 8 := by lia
    refine ⟨g, G', lo, sta, by rw [<- hlo, <- hsta]; rfl, Y7.j.gr, Y7.j.ok, by lia, sta8, by lia, fun o G2 H8 fr8 hg8 go8 so8 => ?_⟩
    have Y8 := Y7.fr fr8 hg8 go8
    have ov8 : Odd H8 v := ov7.same fun b xs e => fr8.at (ApG.kind Y7.j.gr e (by intro _ z; cases z) (by intro _ z; cases z)) e
    have hq8 := fr8.at aq hq7
    obtain ⟨qo, eo, lo'⟩ := Sol.lev go8.ok sta8 so8
    refine ⟨_, rfl, p, dxp, mem, pr, mm.l, mm.kc, g, G2, .int o, v', 1, rfl, Y8.j.hp, Y8.j.gr, .int _, od ov8, .inr ⟨o, qo, rfl, eo, .inl ⟨rfl, by rw [lo']; lia⟩⟩, Y8.t, fun H9 kp9 tb9 => ⟨true, rfl, iteF ?_⟩⟩
    refine ⟨G2, _, rfl, Y8.kp kp9 tb9, kp9 _ _ (Tab.ne Y8.t hq8 (by intro _ z; cases z)) hq8, kp9.odd Y8.t ov8, (go.trans go8).mono (by lia)⟩
   ·rintro σ Hy ⟨G', u9, rfl, Yy, hqy, ovy, go⟩
    have gf : G'.length <= G.length + 2 := go.few
    refine ⟨_, rfl, g.p, g.dx, _, rfl, Yy.j.gr.hp, no_solid g, _, rfl, _, rfl, _, rfl, _, _, rfl, rfl, ⟨by decide, by decide⟩, _, _, rfl, rfl, (by show (0 : Int) < 2; decide), _, _, rfl, rfl, .inl ⟨by lia, by lia⟩, ?_⟩
    obtain ⟨c, hc, c8, stc⟩ : ∃ c : Nat, (1 + (m : Int)) * (cell / 5 % 2) = (c : Int) /\ c < 8 /\ Still r c := by
     have : cell / 5 % 2 = 0 \/ cell / 5 % 2 = 1 := by lia
     rcases this with z | z
     ·exact ⟨0, by rw [z, Int.mul_zero]; rfl, by decide, rs0⟩
     ·exact ⟨1 + m, by rw [z, Int.mul_one]; lia, by lia, rs1⟩
    refine ⟨g, G', lev + 2, c, by rw [<- hc]; rfl, Yy.j.gr, Yy.j.ok, by lia, c8, by lia, fun o G2 H8 fr8 hg8 go8 so8 => ?_⟩
    have Y8 := Yy.fr fr8 hg8 go8
    have gf8 := go8.few
    have ov8 : Odd H8 v := ovy.same fun b xs e => fr8.at (ApG.kind Yy.j.gr e (by intro _ z; cases z) (by intro _ z; cases z)) e
    have sg := Sol.so go8.ok c8 so8
    obtain ⟨qo, eo, lo'⟩ := Sol.lev go8.ok c8 so8
    refine ⟨_, rfl, _, rfl, _, rfl, p, dxp, mem, pr, mm.l, mm.kc, g, G2, .int o, v, 2, rfl, Y8.j.hp, Y8.j.gr, .int _, ov8, .inr ⟨o, qo, rfl, eo, .inr ⟨rfl, by rw [lo']; lia, by rw [lo']; exact nst⟩⟩, Y8.t, fun H9 kp9 tb9 => ⟨true, rfl, iteF ?_⟩⟩
    have Y9 := Y8.kp kp9 tb9
    refine ⟨_, rfl, _, _, rfl, rfl, _, rfl, ?_⟩
    refine ite2 (fun hc => ?_) (fun hc => ?_)
    ·have l9 : lev < 10 := by have := of_decide_eq_true hc; lia
     refine ⟨_, rfl, g.p, g.dx, _, rfl, Y9.j.gr.hp, no_levelOf g, _, rfl, p, dxp, _, rfl, Y9.j.hp, noJ_after _ _ _ _ _, _, rfl, _, rfl, _, _, rfl, rfl, ?_⟩
     refine ⟨p, dxp, mem, pr, g, G2, 10 * i, 4 * i, r, mm, o, lev, c, ?_, Y9.j, sg, stc, l9, by lia, by lia, by lia, fun kk G3 H10 fj j10 go10 sg10 => ?_⟩
     ·exact congrArg (fun z => [V.ref p, V.int o, V.int z]) (show ((lev + 2 : Nat) : Int) - 2 = (lev : Int) by lia)
     have gf10 := go10.few
     obtain ⟨qk, ek, lk'⟩ := sg10.1
     refine ⟨g, G3, kk, qk, rfl, j10.gr, ek, ?_⟩
     rw [lk']
     refine ⟨_, rfl, _, _, rfl, rfl, ((lev + 1 : Nat) : Int), ?_, true, rfl, iteF ?_⟩
     ·exact congrArg (fun z => [V.int ((lev + 1 : Nat) : Int), V.int z]) (show ((lev + 2 : Nat) : Int) - 1 = ((lev + 1 : Nat) : Int) by lia)
     exact ⟨G3, _, _, _, _, _, _, rfl, Y9.fj fj (j10.mono (by lia) (by lia)), by lia⟩
    ·exact iteF ⟨G2, _, _, _, _, _, _, rfl, ⟨Y9.j.mono (by lia) (by lia), Y9.sc, Y9.t⟩, by lia⟩
  ·rintro σ H2 ⟨G, u5, u6, u7, u8, u9, u10, rfl, Y, gl⟩
   exact k _
end
end J
namespace J
open PySem L2
theorem ar1 {α : Type} : ∀ us : List α, us.length = 1 -> ∃ a0, us = [a0]
 | [a0], _ => ⟨a0, rfl⟩
theorem ar2 {α : Type} : ∀ us : List α, us.length = 2 -> ∃ a0 a1, us = [a0, a1]
 | [a0, a1], _ => ⟨a0, a1, rfl⟩
theorem ar3 {α : Type} : ∀ us : List α, us.length = 3 -> ∃ a0 a1 a2, us = [a0, a1, a2]
 | [a0, a1, a2], _ => ⟨a0, a1, a2, rfl⟩
theorem ar4 {α : Type} : ∀ us : List α, us.length = 4 -> ∃ a0 a1 a2 a3, us = [a0, a1, a2, a3]
 | [a0, a1, a2, a3], _ => ⟨a0, a1, a2, a3, rfl⟩
theorem ar5 {α : Type} : ∀ us : List α, us.length = 5 -> ∃ a0 a1 a2 a3 a4, us = [a0, a1, a2, a3, a4]
 | [a0, a1, a2, a3, a4], _ => ⟨a0, a1, a2, a3, a4, rfl⟩
theorem fin {l : PySem.W.OpenLaw} {w : World} {K : PySem.W.Frag} {h : Heap} {mg : Str -> Option Value} {fa : Addr} (X : K.In h) (G : h.Ns mainGlobals mg) (hfa : mg "law" = some (.ref fa))
  {c_Amounts : Addr} {c_Places : Addr} {c_Clause : Addr} {c_Grove : Addr} {c_Rule : Addr} {c_Jumps : Addr} {f0 : Addr} {od0 an0 : Option Addr} {sl0 : Array (Option Value)} {oc0 kV0 dc0 pm0 cd0 ct0 : Value} {f1 : Addr} {od1 an1 : Option Addr} {sl1 : Array (Option Value)} {oc1 kV1 dc1 pm1 cd1 ct1 : Value} {f2 : Addr} {od2 an2 : Option Addr} {sl2 : Array (Option Value)} {oc2 kV2 dc2 pm2 cd2 ct2 : Value} {f3 : Addr} {od3 an3 : Option Addr} {sl3 : Array (Option Value)} {oc3 kV3 dc3 pm3 cd3 ct3 : Value} {f4 : Addr} {od4 an4 : Option Addr} {sl4 : Array (Option Value)} {oc4 kV4 dc4 pm4 cd4 ct4 : Value} {f5 : Addr} {od5 an5 : Option Addr} {sl5 : Array (Option Value)} {oc5 kV5 dc5 pm5 cd5 ct5 : Value} {f6 : Addr} {od6 an6 : Option Addr} {sl6 : Array (Option Value)} {oc6 kV6 dc6 pm6 cd6 ct6 : Value} {f7 : Addr} {od7 an7 : Option Addr} {sl7 : Array (Option Value)} {oc7 kV7 dc7 pm7 cd7 ct7 : Value} {f8 : Addr} {od8 an8 : Option Addr} {sl8 : Array (Option Value)} {oc8 kV8 dc8 pm8 cd8 ct8 : Value} {f9 : Addr} {od9 an9 : Option Addr} {sl9 : Array (Option Value)} {oc9 kV9 dc9 pm9 cd9 ct9 : Value} {f10 : Addr} {od10 an10 : Option Addr} {sl10 : Array (Option Value)} {oc10 kV10 dc10 pm10 cd10 ct10 : Value} {f11 : Addr} {od11 an11 : Option Addr} {sl11 : Array (Option Value)} {oc11 kV11 dc11 pm11 cd11 ct11 : Value} {f12 : Addr} {od12 an12 : Option Addr} {sl12 : Array (Option Value)} {oc12 kV12 dc12 pm12 cd12 ct12 : Value} {f13 : Addr} {od13 an13 : Option Addr} {sl13 : Array (Option Value)} {oc13 kV13 dc13 pm13 cd13 ct13 : Value} {f14 : Addr} {od14 an14 : Option Addr} {sl14 : Array (Option Value)} {oc14 kV14 dc14 pm14 cd14 ct14 : Value} {f15 : Addr} {od15 an15 : Option Addr} {sl15 : Array (Option Value)} {oc15 kV15 dc15 pm15 cd15 ct15 : Value} {f16 : Addr} {od16 an16 : Option Addr} {sl16 : Array (Option Value)} {oc16 kV16 dc16 pm16 cd16 ct16 : Value} {f17 : Addr} {od17 an17 : Option Addr} {sl17 : Array (Option Value)} {oc17 kV17 dc17 pm17 cd17 ct17 : Value} {f18 : Addr} {od18 an18 : Option Addr} {sl18 : Array (Option Value)} {oc18 kV18 dc18 pm18 cd18 ct18 : Value} {f19 : Addr} {od19 an19 : Option Addr} {sl19 : Array (Option Value)} {oc19 kV19 dc19 pm19 cd19 ct19 : Value} {f20 : Addr} {od20 an20 : Option Addr} {sl20 : Array (Option Value)} {oc20 kV20 dc20 pm20 cd20 ct20 : Value} {f21 : Addr} {od21 an21 : Option Addr} {sl21 : Array (Option Value)} {oc21 kV21 dc21 pm21 cd21 ct21 : Value} {f22 : Addr} {od22 an22 : Option Addr} {sl22 : Array (Option Value)} {oc22 kV22 dc22 pm22 cd22 ct22 : Value} {f23 : Addr} {od23 an23 : Option Addr} {sl23 : Array (Option Value)} {oc23 kV23 dc23 pm23 cd23 ct23 : Value} {f24 : Addr} {od24 an24 : Option Addr} {sl24 : Array (Option Value)} {oc24 kV24 dc24 pm24 cd24 ct24 : Value} {f25 : Addr} {od25 an25 : Option Addr} {sl25 : Array (Option Value)} {oc25 kV25 dc25 pm25 cd25 ct25 : Value} {f26 : Addr} {od26 an26 : Option Addr} {sl26 : Array (Option Value)} {oc26 kV26 dc26 pm26 cd26 ct26 : Value} {f27 : Addr} {od27 an27 : Option Addr} {sl27 : Array (Option Value)} {oc27 kV27 dc27 pm27 cd27 ct27 : Value} {f28 : Addr} {od28 an28 : Option Addr} {sl28 : Array (Option Value)} {oc28 kV28 dc28 pm28 cd28 ct28 : Value} {f29 : Addr} {od29 an29 : Option Addr} {sl29 : Array (Option Value)} {oc29 kV29 dc29 pm29 cd29 ct29 : Value} {f30 : Addr} {od30 an30 : Option Addr} {sl30 : Array (Option Value)} {oc30 kV30 dc30 pm30 cd30 ct30 : Value} {f31 : Addr} {od31 an31 : Option Addr} {sl31 : Array (Option Value)} {oc31 kV31 dc31 pm31 cd31 ct31 : Value} {f32 : Addr} {od32 an32 : Option Addr} {sl32 : Array (Option Value)} {oc32 kV32 dc32 pm32 cd32 ct32 : Value} {f33 : Addr} {od33 an33 : Option Addr} {sl33 : Array (Option Value)} {oc33 kV33 dc33 pm33 cd33 ct33 : Value} {f34 : Addr} {od34 an34 : Option Addr} {sl34 : Array (Option Value)} {oc34 kV34 dc34 pm34 cd34 ct34 : Value} {f35 : Addr} {od35 an35 : Option Addr} {sl35 : Array (Option Value)} {oc35 kV35 dc35 pm35 cd35 ct35 : Value} {f36 : Addr} {od36 an36 : Option Addr} {sl36 : Array (Option Value)} {oc36 kV36 dc36 pm36 cd36 ct36 : Value} {f37 : Addr} {od37 an37 : Option Addr} {sl37 : Array (Option Value)} {oc37 kV37 dc37 pm37 cd37 ct37 : Value} {f38 : Addr} {od38 an38 : Option Addr} {sl38 : Array (Option Value)} {oc38 kV38 dc38 pm38 cd38 ct38 : Value} {f39 : Addr} {od39 an39 : Option Addr} {sl39 : Array (Option Value)} {oc39 kV39 dc39 pm39 cd39 ct39 : Value} {f40 : Addr} {od40 an40 : Option Addr} {sl40 : Array (Option Value)} {oc40 kV40 dc40 pm40 cd40 ct40 : Value} {f41 : Addr} {od41 an41 : Option Addr} {sl41 : Array (Option Value)} {oc41 kV41 dc41 pm41 cd41 ct41 : Value} {f42 : Addr} {od42 an42 : Option Addr} {sl42 : Array (Option Value)} {oc42 kV42 dc42 pm42 cd42 ct42 : Value} {f43 : Addr} {od43 an43 : Option Addr} {sl43 : Array (Option Value)} {oc43 kV43 dc43 pm43 cd43 ct43 : Value} {f44 : Addr} {od44 an44 : Option Addr} {sl44 : Array (Option Value)} {oc44 kV44 dc44 pm44 cd44 ct44 : Value} {f45 : Addr} {od45 an45 : Option Addr} {sl45 : Array (Option Value)} {oc45 kV45 dc45 pm45 cd45 ct45 : Value} {f46 : Addr} {od46 an46 : Option Addr} {sl46 : Array (Option Value)} {oc46 kV46 dc46 pm46 cd46 ct46 : Value} {f47 : Addr} {od47 an47 : Option Addr} {sl47 : Array (Option Value)} {oc47 kV47 dc47 pm47 cd47 ct47 : Value} {f48 : Addr} {od48 an48 : Option Addr} {sl48 : Array (Option Value)} {oc48 kV48 dc48 pm48 cd48 ct48 : Value} {f49 : Addr} {od49 an49 : Option Addr} {sl49 : Array (Option Value)} {oc49 kV49 dc49 pm49 cd49 ct49 : Value} {f50 : Addr} {od50 an50 : Option Addr} {sl50 : Array (Option Value)} {oc50 kV50 dc50 pm50 cd50 ct50 : Value} {f51 : Addr} {od51 an51 : Option Addr} {sl51 : Array (Option Value)} {oc51 kV51 dc51 pm51 cd51 ct51 : Value} {t_STATES : Tok} {t_NEIGHBOURS : Tok} {t_STATE_FIGURES : Tok} {x_STATE_FIGURES : Str} {t_AMOUNT_FIGURES : Tok} {x_AMOUNT_FIGURES : Str} {t_ANY_SIGN : Tok} {x_ANY_SIGN : Str} {t_TOP_LEVEL : Tok} {t_CLAUSE_MARK : Tok} {x_CLAUSE_MARK : Str} {t_LEAST_JUMPED : Tok} {x_FieldError : Addr} {x_NoRule : Addr} {x_Restless : Addr} {x_NoSquare : Addr} {x_NoLevel : Addr} {x_NoState : Addr} {x_TooFar : Addr} {x_NoSteps : Addr}
  (n_c_Amounts : PySem.W.nsIn K mainGlobals "Amounts" = some (some (.ref c_Amounts)))
  (pg_Amounts : PySem.W.plainGet K c_Amounts Str.empty = true)
  (hd_Amounts : PySem.W.hasDictIn K c_Amounts = true)
  (po_Amounts : PySem.W.plainOver K c_Amounts = true)
  (sa_Amounts : PySem.W.findIn K (.ref c_Amounts) "__setattr__" = some (some (.builtin "object.__setattr__")))
  (mk_Amounts : PySem.W.makesIn K c_Amounts = true)
  (kc_Amounts : PySem.W.keepIn K (.ref c_Amounts) = true)
  (na_Amounts_state : PySem.W.findIn K (.ref c_Amounts) "state" = some none)
  (na_Amounts_numbers : PySem.W.findIn K (.ref c_Amounts) "numbers" = some none)
  (n_c_Places : PySem.W.nsIn K mainGlobals "Places" = some (some (.ref c_Places)))
  (pg_Places : PySem.W.plainGet K c_Places Str.empty = true)
  (hd_Places : PySem.W.hasDictIn K c_Places = true)
  (po_Places : PySem.W.plainOver K c_Places = true)
  (sa_Places : PySem.W.findIn K (.ref c_Places) "__setattr__" = some (some (.builtin "object.__setattr__")))
  (mk_Places : PySem.W.makesIn K c_Places = true)
  (kc_Places : PySem.W.keepIn K (.ref c_Places) = true)
  (na_Places_wanted : PySem.W.findIn K (.ref c_Places) "wanted" = some none)
  (n_c_Clause : PySem.W.nsIn K mainGlobals "Clause" = some (some (.ref c_Clause)))
  (pg_Clause : PySem.W.plainGet K c_Clause Str.empty = true)
  (hd_Clause : PySem.W.hasDictIn K c_Clause = true)
  (po_Clause : PySem.W.plainOver K c_Clause = true)
  (sa_Clause : PySem.W.findIn K (.ref c_Clause) "__setattr__" = some (some (.builtin "object.__setattr__")))
  (mk_Clause : PySem.W.makesIn K c_Clause = true)
  (kc_Clause : PySem.W.keepIn K (.ref c_Clause) = true)
  (na_Clause_cell : PySem.W.findIn K (.ref c_Clause) "cell" = some none)
  (na_Clause_conditions : PySem.W.findIn K (.ref c_Clause) "conditions" = some none)
  (na_Clause_makes : PySem.W.findIn K (.ref c_Clause) "makes" = some none)
  (n_c_Grove : PySem.W.nsIn K mainGlobals "Grove" = some (some (.ref c_Grove)))
  (pg_Grove : PySem.W.plainGet K c_Grove Str.empty = true)
  (hd_Grove : PySem.W.hasDictIn K c_Grove = true)
  (po_Grove : PySem.W.plainOver K c_Grove = true)
  (sa_Grove : PySem.W.findIn K (.ref c_Grove) "__setattr__" = some (some (.builtin "object.__setattr__")))
  (mk_Grove : PySem.W.makesIn K c_Grove = true)
  (kc_Grove : PySem.W.keepIn K (.ref c_Grove) = true)
  (na_Grove_levels : PySem.W.findIn K (.ref c_Grove) "levels" = some none)
  (na_Grove_parts : PySem.W.findIn K (.ref c_Grove) "parts" = some none)
  (na_Grove_numbers : PySem.W.findIn K (.ref c_Grove) "numbers" = some none)
  (na_Grove_bares : PySem.W.findIn K (.ref c_Grove) "bares" = some none)
  (na_Grove_amounts : PySem.W.findIn K (.ref c_Grove) "amounts" = some none)
  (na_Grove_boxes : PySem.W.findIn K (.ref c_Grove) "boxes" = some none)
  (n_c_Rule : PySem.W.nsIn K mainGlobals "Rule" = some (some (.ref c_Rule)))
  (pg_Rule : PySem.W.plainGet K c_Rule Str.empty = true)
  (hd_Rule : PySem.W.hasDictIn K c_Rule = true)
  (po_Rule : PySem.W.plainOver K c_Rule = true)
  (sa_Rule : PySem.W.findIn K (.ref c_Rule) "__setattr__" = some (some (.builtin "object.__setattr__")))
  (mk_Rule : PySem.W.makesIn K c_Rule = true)
  (kc_Rule : PySem.W.keepIn K (.ref c_Rule) = true)
  (na_Rule_text : PySem.W.findIn K (.ref c_Rule) "text" = some none)
  (na_Rule_clauses : PySem.W.findIn K (.ref c_Rule) "clauses" = some none)
  (n_c_Jumps : PySem.W.nsIn K mainGlobals "Jumps" = some (some (.ref c_Jumps)))
  (pg_Jumps : PySem.W.plainGet K c_Jumps Str.empty = true)
  (hd_Jumps : PySem.W.hasDictIn K c_Jumps = true)
  (po_Jumps : PySem.W.plainOver K c_Jumps = true)
  (sa_Jumps : PySem.W.findIn K (.ref c_Jumps) "__setattr__" = some (some (.builtin "object.__setattr__")))
  (mk_Jumps : PySem.W.makesIn K c_Jumps = true)
  (kc_Jumps : PySem.W.keepIn K (.ref c_Jumps) = true)
  (na_Jumps_grove : PySem.W.findIn K (.ref c_Jumps) "grove" = some none)
  (na_Jumps_memories : PySem.W.findIn K (.ref c_Jumps) "memories" = some none)
  (na_Jumps_rule : PySem.W.findIn K (.ref c_Jumps) "rule" = some none)
  (na_Jumps_known_squares : PySem.W.findIn K (.ref c_Jumps) "known_squares" = some none)
  (na_Jumps_known_cells : PySem.W.findIn K (.ref c_Jumps) "known_cells" = some none)
  (a0 : PySem.W.nsIn K mainGlobals "is_whole" = some (some (.ref f0)))
  (l0 : K.lookup f0 = some ⟨oc0, od0, .func (PySem.W.fnOf "is_whole" "is_whole" (defArgs s_is_whole) (defBody s_is_whole) (defScope s_is_whole) .none kV0 dc0 pm0 an0 cd0 ct0), sl0⟩)
  (c0 : PySem.W.codeIn K cd0 "is_whole" = true)
  (k0 : PySem.W.keepIn K (.ref f0) = true)
  (a1 : PySem.W.nsIn K mainGlobals "is_state" = some (some (.ref f1)))
  (l1 : K.lookup f1 = some ⟨oc1, od1, .func (PySem.W.fnOf "is_state" "is_state" (defArgs s_is_state) (defBody s_is_state) (defScope s_is_state) .none kV1 dc1 pm1 an1 cd1 ct1), sl1⟩)
  (c1 : PySem.W.codeIn K cd1 "is_state" = true)
  (k1 : PySem.W.keepIn K (.ref f1) = true)
  (a2 : PySem.W.nsIn K mainGlobals "takes" = some (some (.ref f2)))
  (l2 : K.lookup f2 = some ⟨oc2, od2, .func (PySem.W.fnOf "takes" "takes" (defArgs s_takes) (defBody s_takes) (defScope s_takes) .none kV2 dc2 pm2 an2 cd2 ct2), sl2⟩)
  (c2 : PySem.W.codeIn K cd2 "takes" = true)
  (k2 : PySem.W.keepIn K (.ref f2) = true)
  (a3 : PySem.W.nsIn K mainGlobals "read_clause" = some (some (.ref f3)))
  (l3 : K.lookup f3 = some ⟨oc3, od3, .func (PySem.W.fnOf "read_clause" "read_clause" (defArgs s_read_clause) (defBody s_read_clause) (defScope s_read_clause) .none kV3 dc3 pm3 an3 cd3 ct3), sl3⟩)
  (c3 : PySem.W.codeIn K cd3 "read_clause" = true)
  (k3 : PySem.W.keepIn K (.ref f3) = true)
  (a4 : PySem.W.nsIn K mainGlobals "read_state" = some (some (.ref f4)))
  (l4 : K.lookup f4 = some ⟨oc4, od4, .func (PySem.W.fnOf "read_state" "read_state" (defArgs s_read_state) (defBody s_read_state) (defScope s_read_state) .none kV4 dc4 pm4 an4 cd4 ct4), sl4⟩)
  (c4 : PySem.W.codeIn K cd4 "read_state" = true)
  (k4 : PySem.W.keepIn K (.ref f4) = true)
  (a5 : PySem.W.nsIn K mainGlobals "read_wanted" = some (some (.ref f5)))
  (l5 : K.lookup f5 = some ⟨oc5, od5, .func (PySem.W.fnOf "read_wanted" "read_wanted" (defArgs s_read_wanted) (defBody s_read_wanted) (defScope s_read_wanted) .none kV5 dc5 pm5 an5 cd5 ct5), sl5⟩)
  (c5 : PySem.W.codeIn K cd5 "read_wanted" = true)
  (k5 : PySem.W.keepIn K (.ref f5) = true)
  (a6 : PySem.W.nsIn K mainGlobals "read_condition" = some (some (.ref f6)))
  (l6 : K.lookup f6 = some ⟨oc6, od6, .func (PySem.W.fnOf "read_condition" "read_condition" (defArgs s_read_condition) (defBody s_read_condition) (defScope s_read_condition) .none kV6 dc6 pm6 an6 cd6 ct6), sl6⟩)
  (c6 : PySem.W.codeIn K cd6 "read_condition" = true)
  (k6 : PySem.W.keepIn K (.ref f6) = true)
  (a7 : PySem.W.nsIn K mainGlobals "read_amounts" = some (some (.ref f7)))
  (l7 : K.lookup f7 = some ⟨oc7, od7, .func (PySem.W.fnOf "read_amounts" "read_amounts" (defArgs s_read_amounts) (defBody s_read_amounts) (defScope s_read_amounts) .none kV7 dc7 pm7 an7 cd7 ct7), sl7⟩)
  (c7 : PySem.W.codeIn K cd7 "read_amounts" = true)
  (k7 : PySem.W.keepIn K (.ref f7) = true)
  (a8 : PySem.W.nsIn K mainGlobals "read_numbers" = some (some (.ref f8)))
  (l8 : K.lookup f8 = some ⟨oc8, od8, .func (PySem.W.fnOf "read_numbers" "read_numbers" (defArgs s_read_numbers) (defBody s_read_numbers) (defScope s_read_numbers) .none kV8 dc8 pm8 an8 cd8 ct8), sl8⟩)
  (c8 : PySem.W.codeIn K cd8 "read_numbers" = true)
  (k8 : PySem.W.keepIn K (.ref f8) = true)
  (a9 : PySem.W.nsIn K mainGlobals "read_places" = some (some (.ref f9)))
  (l9 : K.lookup f9 = some ⟨oc9, od9, .func (PySem.W.fnOf "read_places" "read_places" (defArgs s_read_places) (defBody s_read_places) (defScope s_read_places) .none kV9 dc9 pm9 an9 cd9 ct9), sl9⟩)
  (c9 : PySem.W.codeIn K cd9 "read_places" = true)
  (k9 : PySem.W.keepIn K (.ref f9) = true)
  (a10 : PySem.W.nsIn K mainGlobals "clause_texts" = some (some (.ref f10)))
  (l10 : K.lookup f10 = some ⟨oc10, od10, .func (PySem.W.fnOf "clause_texts" "clause_texts" (defArgs s_clause_texts) (defBody s_clause_texts) (defScope s_clause_texts) .none kV10 dc10 pm10 an10 cd10 ct10), sl10⟩)
  (c10 : PySem.W.codeIn K cd10 "clause_texts" = true)
  (k10 : PySem.W.keepIn K (.ref f10) = true)
  (a11 : PySem.W.nsIn K mainGlobals "read_rule" = some (some (.ref f11)))
  (l11 : K.lookup f11 = some ⟨oc11, od11, .func (PySem.W.fnOf "read_rule" "read_rule" (defArgs s_read_rule) (defBody s_read_rule) (defScope s_read_rule) .none kV11 dc11 pm11 an11 cd11 ct11), sl11⟩)
  (c11 : PySem.W.codeIn K cd11 "read_rule" = true)
  (k11 : PySem.W.keepIn K (.ref f11) = true)
  (a12 : PySem.W.nsIn K mainGlobals "deciding" = some (some (.ref f12)))
  (l12 : K.lookup f12 = some ⟨oc12, od12, .func (PySem.W.fnOf "deciding" "deciding" (defArgs s_deciding) (defBody s_deciding) (defScope s_deciding) .none kV12 dc12 pm12 an12 cd12 ct12), sl12⟩)
  (c12 : PySem.W.codeIn K cd12 "deciding" = true)
  (k12 : PySem.W.keepIn K (.ref f12) = true)
  (a13 : PySem.W.nsIn K mainGlobals "becomes" = some (some (.ref f13)))
  (l13 : K.lookup f13 = some ⟨oc13, od13, .func (PySem.W.fnOf "becomes" "becomes" (defArgs s_becomes) (defBody s_becomes) (defScope s_becomes) .none kV13 dc13 pm13 an13 cd13 ct13), sl13⟩)
  (c13 : PySem.W.codeIn K cd13 "becomes" = true)
  (k13 : PySem.W.keepIn K (.ref f13) = true)
  (a14 : PySem.W.nsIn K mainGlobals "shown_rule" = some (some (.ref f14)))
  (l14 : K.lookup f14 = some ⟨oc14, od14, .func (PySem.W.fnOf "shown_rule" "shown_rule" (defArgs s_shown_rule) (defBody s_shown_rule) (defScope s_shown_rule) .none kV14 dc14 pm14 an14 cd14 ct14), sl14⟩)
  (c14 : PySem.W.codeIn K cd14 "shown_rule" = true)
  (k14 : PySem.W.keepIn K (.ref f14) = true)
  (a15 : PySem.W.nsIn K mainGlobals "nine_parts" = some (some (.ref f15)))
  (l15 : K.lookup f15 = some ⟨oc15, od15, .func (PySem.W.fnOf "nine_parts" "nine_parts" (defArgs s_nine_parts) (defBody s_nine_parts) (defScope s_nine_parts) .none kV15 dc15 pm15 an15 cd15 ct15), sl15⟩)
  (c15 : PySem.W.codeIn K cd15 "nine_parts" = true)
  (k15 : PySem.W.keepIn K (.ref f15) = true)
  (a16 : PySem.W.nsIn K mainGlobals "fours_of" = some (some (.ref f16)))
  (l16 : K.lookup f16 = some ⟨oc16, od16, .func (PySem.W.fnOf "fours_of" "fours_of" (defArgs s_fours_of) (defBody s_fours_of) (defScope s_fours_of) .none kV16 dc16 pm16 an16 cd16 ct16), sl16⟩)
  (c16 : PySem.W.codeIn K cd16 "fours_of" = true)
  (k16 : PySem.W.keepIn K (.ref f16) = true)
  (a17 : PySem.W.nsIn K mainGlobals "met_in_the_middle" = some (some (.ref f17)))
  (l17 : K.lookup f17 = some ⟨oc17, od17, .func (PySem.W.fnOf "met_in_the_middle" "met_in_the_middle" (defArgs s_met_in_the_middle) (defBody s_met_in_the_middle) (defScope s_met_in_the_middle) .none kV17 dc17 pm17 an17 cd17 ct17), sl17⟩)
  (c17 : PySem.W.codeIn K cd17 "met_in_the_middle" = true)
  (k17 : PySem.W.keepIn K (.ref f17) = true)
  (a18 : PySem.W.nsIn K mainGlobals "_law_at" = some (some (.ref f18)))
  (l18 : K.lookup f18 = some ⟨oc18, od18, .func (PySem.W.fnOf "_law_at" "_law_at" (defArgs s__law_at) (defBody s__law_at) (defScope s__law_at) .none kV18 dc18 pm18 an18 cd18 ct18), sl18⟩)
  (c18 : PySem.W.codeIn K cd18 "_law_at" = true)
  (k18 : PySem.W.keepIn K (.ref f18) = true)
  (a19 : PySem.W.nsIn K mainGlobals "_law_same" = some (some (.ref f19)))
  (l19 : K.lookup f19 = some ⟨oc19, od19, .func (PySem.W.fnOf "_law_same" "_law_same" (defArgs s__law_same) (defBody s__law_same) (defScope s__law_same) .none kV19 dc19 pm19 an19 cd19 ct19), sl19⟩)
  (c19 : PySem.W.codeIn K cd19 "_law_same" = true)
  (k19 : PySem.W.keepIn K (.ref f19) = true)
  (a20 : PySem.W.nsIn K mainGlobals "_law_refused" = some (some (.ref f20)))
  (l20 : K.lookup f20 = some ⟨oc20, od20, .func (PySem.W.fnOf "_law_refused" "_law_refused" (defArgs s__law_refused) (defBody s__law_refused) (defScope s__law_refused) .none kV20 dc20 pm20 an20 cd20 ct20), sl20⟩)
  (c20 : PySem.W.codeIn K cd20 "_law_refused" = true)
  (k20 : PySem.W.keepIn K (.ref f20) = true)
  (a21 : PySem.W.nsIn K mainGlobals "_law_both" = some (some (.ref f21)))
  (l21 : K.lookup f21 = some ⟨oc21, od21, .func (PySem.W.fnOf "_law_both" "_law_both" (defArgs s__law_both) (defBody s__law_both) (defScope s__law_both) .none kV21 dc21 pm21 an21 cd21 ct21), sl21⟩)
  (cq__law_both : cd21 = .ref 571)
  (c21 : PySem.W.codeIn K cd21 "_law_both" = true)
  (k21 : PySem.W.keepIn K (.ref f21) = true)
  (a22 : PySem.W.nsIn K mainGlobals "_law_bad" = some (some (.ref f22)))
  (l22 : K.lookup f22 = some ⟨oc22, od22, .func (PySem.W.fnOf "_law_bad" "_law_bad" (defArgs s__law_bad) (defBody s__law_bad) (defScope s__law_bad) .none kV22 dc22 pm22 an22 cd22 ct22), sl22⟩)
  (c22 : PySem.W.codeIn K cd22 "_law_bad" = true)
  (k22 : PySem.W.keepIn K (.ref f22) = true)
  (a23 : PySem.W.nsIn K mainGlobals "_law_no_steps" = some (some (.ref f23)))
  (l23 : K.lookup f23 = some ⟨oc23, od23, .func (PySem.W.fnOf "_law_no_steps" "_law_no_steps" (defArgs s__law_no_steps) (defBody s__law_no_steps) (defScope s__law_no_steps) .none kV23 dc23 pm23 an23 cd23 ct23), sl23⟩)
  (c23 : PySem.W.codeIn K cd23 "_law_no_steps" = true)
  (k23 : PySem.W.keepIn K (.ref f23) = true)
  (a24 : PySem.W.nsIn K mainGlobals "law" = some (some (.ref f24)))
  (l24 : K.lookup f24 = some ⟨oc24, od24, .func (PySem.W.fnOf "law" "law" (defArgs s_law) (defBody s_law) (defScope s_law) .none kV24 dc24 pm24 an24 cd24 ct24), sl24⟩)
  (c24 : PySem.W.codeIn K cd24 "law" = true)
  (k24 : PySem.W.keepIn K (.ref f24) = true)
  (a25 : PySem.W.findIn K (.ref c_Amounts) "__init__" = some (some (.ref f25)))
  (i25 : PySem.W.isFn K (.ref f25) = true)
  (l25 : K.lookup f25 = some ⟨oc25, od25, .func (PySem.W.fnOf "__init__" "Amounts.__init__" (defArgs s_Amounts_init) (defBody s_Amounts_init) (defScope s_Amounts_init) .none kV25 dc25 pm25 an25 cd25 ct25), sl25⟩)
  (c25 : PySem.W.codeIn K cd25 "Amounts.__init__" = true)
  (k25 : PySem.W.keepIn K (.ref f25) = true)
  (a26 : PySem.W.findIn K (.ref c_Amounts) "holds" = some (some (.ref f26)))
  (i26 : PySem.W.isFn K (.ref f26) = true)
  (l26 : K.lookup f26 = some ⟨oc26, od26, .func (PySem.W.fnOf "holds" "Amounts.holds" (defArgs s_Amounts_holds) (defBody s_Amounts_holds) (defScope s_Amounts_holds) .none kV26 dc26 pm26 an26 cd26 ct26), sl26⟩)
  (c26 : PySem.W.codeIn K cd26 "Amounts.holds" = true)
  (k26 : PySem.W.keepIn K (.ref f26) = true)
  (a27 : PySem.W.findIn K (.ref c_Places) "__init__" = some (some (.ref f27)))
  (i27 : PySem.W.isFn K (.ref f27) = true)
  (l27 : K.lookup f27 = some ⟨oc27, od27, .func (PySem.W.fnOf "__init__" "Places.__init__" (defArgs s_Places_init) (defBody s_Places_init) (defScope s_Places_init) .none kV27 dc27 pm27 an27 cd27 ct27), sl27⟩)
  (c27 : PySem.W.codeIn K cd27 "Places.__init__" = true)
  (k27 : PySem.W.keepIn K (.ref f27) = true)
  (a28 : PySem.W.findIn K (.ref c_Places) "holds" = some (some (.ref f28)))
  (i28 : PySem.W.isFn K (.ref f28) = true)
  (l28 : K.lookup f28 = some ⟨oc28, od28, .func (PySem.W.fnOf "holds" "Places.holds" (defArgs s_Places_holds) (defBody s_Places_holds) (defScope s_Places_holds) .none kV28 dc28 pm28 an28 cd28 ct28), sl28⟩)
  (c28 : PySem.W.codeIn K cd28 "Places.holds" = true)
  (k28 : PySem.W.keepIn K (.ref f28) = true)
  (a29 : PySem.W.findIn K (.ref c_Clause) "__init__" = some (some (.ref f29)))
  (i29 : PySem.W.isFn K (.ref f29) = true)
  (l29 : K.lookup f29 = some ⟨oc29, od29, .func (PySem.W.fnOf "__init__" "Clause.__init__" (defArgs s_Clause_init) (defBody s_Clause_init) (defScope s_Clause_init) .none kV29 dc29 pm29 an29 cd29 ct29), sl29⟩)
  (c29 : PySem.W.codeIn K cd29 "Clause.__init__" = true)
  (k29 : PySem.W.keepIn K (.ref f29) = true)
  (a30 : PySem.W.findIn K (.ref c_Clause) "fits" = some (some (.ref f30)))
  (i30 : PySem.W.isFn K (.ref f30) = true)
  (l30 : K.lookup f30 = some ⟨oc30, od30, .func (PySem.W.fnOf "fits" "Clause.fits" (defArgs s_Clause_fits) (defBody s_Clause_fits) (defScope s_Clause_fits) .none kV30 dc30 pm30 an30 cd30 ct30), sl30⟩)
  (c30 : PySem.W.codeIn K cd30 "Clause.fits" = true)
  (k30 : PySem.W.keepIn K (.ref f30) = true)
  (a31 : PySem.W.findIn K (.ref c_Grove) "__init__" = some (some (.ref f31)))
  (i31 : PySem.W.isFn K (.ref f31) = true)
  (l31 : K.lookup f31 = some ⟨oc31, od31, .func (PySem.W.fnOf "__init__" "Grove.__init__" (defArgs s_Grove_init) (defBody s_Grove_init) (defScope s_Grove_init) .none kV31 dc31 pm31 an31 cd31 ct31), sl31⟩)
  (c31 : PySem.W.codeIn K cd31 "Grove.__init__" = true)
  (k31 : PySem.W.keepIn K (.ref f31) = true)
  (a32 : PySem.W.findIn K (.ref c_Grove) "kept" = some (some (.ref f32)))
  (i32 : PySem.W.isFn K (.ref f32) = true)
  (l32 : K.lookup f32 = some ⟨oc32, od32, .func (PySem.W.fnOf "kept" "Grove.kept" (defArgs s_Grove_kept) (defBody s_Grove_kept) (defScope s_Grove_kept) .none kV32 dc32 pm32 an32 cd32 ct32), sl32⟩)
  (c32 : PySem.W.codeIn K cd32 "Grove.kept" = true)
  (k32 : PySem.W.keepIn K (.ref f32) = true)
  (a33 : PySem.W.findIn K (.ref c_Grove) "linked" = some (some (.ref f33)))
  (i33 : PySem.W.isFn K (.ref f33) = true)
  (l33 : K.lookup f33 = some ⟨oc33, od33, .func (PySem.W.fnOf "linked" "Grove.linked" (defArgs s_Grove_linked) (defBody s_Grove_linked) (defScope s_Grove_linked) .none kV33 dc33 pm33 an33 cd33 ct33), sl33⟩)
  (c33 : PySem.W.codeIn K cd33 "Grove.linked" = true)
  (k33 : PySem.W.keepIn K (.ref f33) = true)
  (a34 : PySem.W.findIn K (.ref c_Grove) "check_square" = some (some (.ref f34)))
  (i34 : PySem.W.isFn K (.ref f34) = true)
  (l34 : K.lookup f34 = some ⟨oc34, od34, .func (PySem.W.fnOf "check_square" "Grove.check_square" (defArgs s_Grove_check_square) (defBody s_Grove_check_square) (defScope s_Grove_check_square) .none kV34 dc34 pm34 an34 cd34 ct34), sl34⟩)
  (c34 : PySem.W.codeIn K cd34 "Grove.check_square" = true)
  (k34 : PySem.W.keepIn K (.ref f34) = true)
  (a35 : PySem.W.findIn K (.ref c_Grove) "leaf" = some (some (.ref f35)))
  (i35 : PySem.W.isFn K (.ref f35) = true)
  (l35 : K.lookup f35 = some ⟨oc35, od35, .func (PySem.W.fnOf "leaf" "Grove.leaf" (defArgs s_Grove_leaf) (defBody s_Grove_leaf) (defScope s_Grove_leaf) .none kV35 dc35 pm35 an35 cd35 ct35), sl35⟩)
  (c35 : PySem.W.codeIn K cd35 "Grove.leaf" = true)
  (k35 : PySem.W.keepIn K (.ref f35) = true)
  (a36 : PySem.W.findIn K (.ref c_Grove) "solid" = some (some (.ref f36)))
  (i36 : PySem.W.isFn K (.ref f36) = true)
  (l36 : K.lookup f36 = some ⟨oc36, od36, .func (PySem.W.fnOf "solid" "Grove.solid" (defArgs s_Grove_solid) (defBody s_Grove_solid) (defScope s_Grove_solid) .none kV36 dc36 pm36 an36 cd36 ct36), sl36⟩)
  (c36 : PySem.W.codeIn K cd36 "Grove.solid" = true)
  (k36 : PySem.W.keepIn K (.ref f36) = true)
  (a37 : PySem.W.findIn K (.ref c_Grove) "level_of" = some (some (.ref f37)))
  (i37 : PySem.W.isFn K (.ref f37) = true)
  (l37 : K.lookup f37 = some ⟨oc37, od37, .func (PySem.W.fnOf "level_of" "Grove.level_of" (defArgs s_Grove_level_of) (defBody s_Grove_level_of) (defScope s_Grove_level_of) .none kV37 dc37 pm37 an37 cd37 ct37), sl37⟩)
  (c37 : PySem.W.codeIn K cd37 "Grove.level_of" = true)
  (k37 : PySem.W.keepIn K (.ref f37) = true)
  (a38 : PySem.W.findIn K (.ref c_Grove) "state_of" = some (some (.ref f38)))
  (i38 : PySem.W.isFn K (.ref f38) = true)
  (l38 : K.lookup f38 = some ⟨oc38, od38, .func (PySem.W.fnOf "state_of" "Grove.state_of" (defArgs s_Grove_state_of) (defBody s_Grove_state_of) (defScope s_Grove_state_of) .none kV38 dc38 pm38 an38 cd38 ct38), sl38⟩)
  (c38 : PySem.W.codeIn K cd38 "Grove.state_of" = true)
  (k38 : PySem.W.keepIn K (.ref f38) = true)
  (a39 : PySem.W.findIn K (.ref c_Rule) "__init__" = some (some (.ref f39)))
  (i39 : PySem.W.isFn K (.ref f39) = true)
  (l39 : K.lookup f39 = some ⟨oc39, od39, .func (PySem.W.fnOf "__init__" "Rule.__init__" (defArgs s_Rule_init) (defBody s_Rule_init) (defScope s_Rule_init) .none kV39 dc39 pm39 an39 cd39 ct39), sl39⟩)
  (c39 : PySem.W.codeIn K cd39 "Rule.__init__" = true)
  (k39 : PySem.W.keepIn K (.ref f39) = true)
  (a40 : PySem.W.findIn K (.ref c_Jumps) "__init__" = some (some (.ref f40)))
  (i40 : PySem.W.isFn K (.ref f40) = true)
  (l40 : K.lookup f40 = some ⟨oc40, od40, .func (PySem.W.fnOf "__init__" "Jumps.__init__" (defArgs s_Jumps_init) (defBody s_Jumps_init) (defScope s_Jumps_init) .none kV40 dc40 pm40 an40 cd40 ct40), sl40⟩)
  (c40 : PySem.W.codeIn K cd40 "Jumps.__init__" = true)
  (k40 : PySem.W.keepIn K (.ref f40) = true)
  (a41 : PySem.W.findIn K (.ref c_Jumps) "change" = some (some (.ref f41)))
  (i41 : PySem.W.isFn K (.ref f41) = true)
  (l41 : K.lookup f41 = some ⟨oc41, od41, .func (PySem.W.fnOf "change" "Jumps.change" (defArgs s_Jumps_change) (defBody s_Jumps_change) (defScope s_Jumps_change) .none kV41 dc41 pm41 an41 cd41 ct41), sl41⟩)
  (c41 : PySem.W.codeIn K cd41 "Jumps.change" = true)
  (k41 : PySem.W.keepIn K (.ref f41) = true)
  (a42 : PySem.W.findIn K (.ref c_Jumps) "after" = some (some (.ref f42)))
  (i42 : PySem.W.isFn K (.ref f42) = true)
  (l42 : K.lookup f42 = some ⟨oc42, od42, .func (PySem.W.fnOf "after" "Jumps.after" (defArgs s_Jumps_after) (defBody s_Jumps_after) (defScope s_Jumps_after) .none kV42 dc42 pm42 an42 cd42 ct42), sl42⟩)
  (c42 : PySem.W.codeIn K cd42 "Jumps.after" = true)
  (k42 : PySem.W.keepIn K (.ref f42) = true)
  (a43 : PySem.W.findIn K (.ref c_Jumps) "check_jump" = some (some (.ref f43)))
  (i43 : PySem.W.isFn K (.ref f43) = true)
  (l43 : K.lookup f43 = some ⟨oc43, od43, .func (PySem.W.fnOf "check_jump" "Jumps.check_jump" (defArgs s_Jumps_check_jump) (defBody s_Jumps_check_jump) (defScope s_Jumps_check_jump) .none kV43 dc43 pm43 an43 cd43 ct43), sl43⟩)
  (c43 : PySem.W.codeIn K cd43 "Jumps.check_jump" = true)
  (k43 : PySem.W.keepIn K (.ref f43) = true)
  (a44 : PySem.W.findIn K (.ref c_Jumps) "reckoned" = some (some (.ref f44)))
  (i44 : PySem.W.isFn K (.ref f44) = true)
  (l44 : K.lookup f44 = some ⟨oc44, od44, .func (PySem.W.fnOf "reckoned" "Jumps.reckoned" (defArgs s_Jumps_reckoned) (defBody s_Jumps_reckoned) (defScope s_Jumps_reckoned) .none kV44 dc44 pm44 an44 cd44 ct44), sl44⟩)
  (c44 : PySem.W.codeIn K cd44 "Jumps.reckoned" = true)
  (k44 : PySem.W.keepIn K (.ref f44) = true)
  (a45 : PySem.W.findIn K (.ref c_Jumps) "fresh" = some (some (.ref f45)))
  (i45 : PySem.W.isFn K (.ref f45) = true)
  (l45 : K.lookup f45 = some ⟨oc45, od45, .func (PySem.W.fnOf "fresh" "Jumps.fresh" (defArgs s_Jumps_fresh) (defBody s_Jumps_fresh) (defScope s_Jumps_fresh) .none kV45 dc45 pm45 an45 cd45 ct45), sl45⟩)
  (c45 : PySem.W.codeIn K cd45 "Jumps.fresh" = true)
  (k45 : PySem.W.keepIn K (.ref f45) = true)
  (a46 : PySem.W.findIn K (.ref c_Jumps) "four_halfway" = some (some (.ref f46)))
  (i46 : PySem.W.isFn K (.ref f46) = true)
  (l46 : K.lookup f46 = some ⟨oc46, od46, .func (PySem.W.fnOf "four_halfway" "Jumps.four_halfway" (defArgs s_Jumps_four_halfway) (defBody s_Jumps_four_halfway) (defScope s_Jumps_four_halfway) .none kV46 dc46 pm46 an46 cd46 ct46), sl46⟩)
  (c46 : PySem.W.codeIn K cd46 "Jumps.four_halfway" = true)
  (k46 : PySem.W.keepIn K (.ref f46) = true)
  (a47 : PySem.W.findIn K (.ref c_Jumps) "middle_after" = some (some (.ref f47)))
  (i47 : PySem.W.isFn K (.ref f47) = true)
  (l47 : K.lookup f47 = some ⟨oc47, od47, .func (PySem.W.fnOf "middle_after" "Jumps.middle_after" (defArgs s_Jumps_middle_after) (defBody s_Jumps_middle_after) (defScope s_Jumps_middle_after) .none kV47 dc47 pm47 an47 cd47 ct47), sl47⟩)
  (c47 : PySem.W.codeIn K cd47 "Jumps.middle_after" = true)
  (k47 : PySem.W.keepIn K (.ref f47) = true)
  (a48 : PySem.W.findIn K (.ref c_Jumps) "cell_after" = some (some (.ref f48)))
  (i48 : PySem.W.isFn K (.ref f48) = true)
  (l48 : K.lookup f48 = some ⟨oc48, od48, .func (PySem.W.fnOf "cell_after" "Jumps.cell_after" (defArgs s_Jumps_cell_after) (defBody s_Jumps_cell_after) (defScope s_Jumps_cell_after) .none kV48 dc48 pm48 an48 cd48 ct48), sl48⟩)
  (c48 : PySem.W.codeIn K cd48 "Jumps.cell_after" = true)
  (k48 : PySem.W.keepIn K (.ref f48) = true)
  (a49 : PySem.W.findIn K (.ref c_Jumps) "reasons" = some (some (.ref f49)))
  (i49 : PySem.W.isFn K (.ref f49) = true)
  (l49 : K.lookup f49 = some ⟨oc49, od49, .func (PySem.W.fnOf "reasons" "Jumps.reasons" (defArgs s_Jumps_reasons) (defBody s_Jumps_reasons) (defScope s_Jumps_reasons) .none kV49 dc49 pm49 an49 cd49 ct49), sl49⟩)
  (c49 : PySem.W.codeIn K cd49 "Jumps.reasons" = true)
  (k49 : PySem.W.keepIn K (.ref f49) = true)
  (a50 : PySem.W.findIn K (.ref c_Jumps) "gather_reasons" = some (some (.ref f50)))
  (i50 : PySem.W.isFn K (.ref f50) = true)
  (l50 : K.lookup f50 = some ⟨oc50, od50, .func (PySem.W.fnOf "gather_reasons" "Jumps.gather_reasons" (defArgs s_Jumps_gather_reasons) (defBody s_Jumps_gather_reasons) (defScope s_Jumps_gather_reasons) .none kV50 dc50 pm50 an50 cd50 ct50), sl50⟩)
  (c50 : PySem.W.codeIn K cd50 "Jumps.gather_reasons" = true)
  (k50 : PySem.W.keepIn K (.ref f50) = true)
  (a51 : PySem.W.findIn K (.ref c_Jumps) "rests_on" = some (some (.ref f51)))
  (i51 : PySem.W.isFn K (.ref f51) = true)
  (l51 : K.lookup f51 = some ⟨oc51, od51, .func (PySem.W.fnOf "rests_on" "Jumps.rests_on" (defArgs s_Jumps_rests_on) (defBody s_Jumps_rests_on) (defScope s_Jumps_rests_on) .none kV51 dc51 pm51 an51 cd51 ct51), sl51⟩)
  (c51 : PySem.W.codeIn K cd51 "Jumps.rests_on" = true)
  (k51 : PySem.W.keepIn K (.ref f51) = true)
  (z_all : PySem.W.nsIn K mainGlobals "all" = some none)
  (z_bool : PySem.W.nsIn K mainGlobals "bool" = some none)
  (z_enumerate : PySem.W.nsIn K mainGlobals "enumerate" = some none)
  (z_int : PySem.W.nsIn K mainGlobals "int" = some none)
  (z_isinstance : PySem.W.nsIn K mainGlobals "isinstance" = some none)
  (z_len : PySem.W.nsIn K mainGlobals "len" = some none)
  (z_max : PySem.W.nsIn K mainGlobals "max" = some none)
  (z_min : PySem.W.nsIn K mainGlobals "min" = some none)
  (z_range : PySem.W.nsIn K mainGlobals "range" = some none)
  (z_str : PySem.W.nsIn K mainGlobals "str" = some none)
  (z_tuple : PySem.W.nsIn K mainGlobals "tuple" = some none)
  (z_zip : PySem.W.nsIn K mainGlobals "zip" = some none)
  (g_STATES : PySem.W.nsIn K mainGlobals "STATES" = some (some (.int 8 t_STATES)))
  (g_NEIGHBOURS : PySem.W.nsIn K mainGlobals "NEIGHBOURS" = some (some (.int 8 t_NEIGHBOURS)))
  (g_STATE_FIGURES : PySem.W.nsIn K mainGlobals "STATE_FIGURES" = some (some (.str x_STATE_FIGURES t_STATE_FIGURES)))
  (gx_STATE_FIGURES : x_STATE_FIGURES = Str.ofString "01234567")
  (g_AMOUNT_FIGURES : PySem.W.nsIn K mainGlobals "AMOUNT_FIGURES" = some (some (.str x_AMOUNT_FIGURES t_AMOUNT_FIGURES)))
  (gx_AMOUNT_FIGURES : x_AMOUNT_FIGURES = Str.ofString "012345678")
  (g_ANY_SIGN : PySem.W.nsIn K mainGlobals "ANY_SIGN" = some (some (.str x_ANY_SIGN t_ANY_SIGN)))
  (gx_ANY_SIGN : x_ANY_SIGN = Str.ofString "*")
  (g_TOP_LEVEL : PySem.W.nsIn K mainGlobals "TOP_LEVEL" = some (some (.int 48 t_TOP_LEVEL)))
  (g_CLAUSE_MARK : PySem.W.nsIn K mainGlobals "CLAUSE_MARK" = some (some (.str x_CLAUSE_MARK t_CLAUSE_MARK)))
  (gx_CLAUSE_MARK : x_CLAUSE_MARK = Str.ofString "; ")
  (g_LEAST_JUMPED : PySem.W.nsIn K mainGlobals "LEAST_JUMPED" = some (some (.int 2 t_LEAST_JUMPED)))
  (z_ValueError : PySem.W.nsIn K mainGlobals "ValueError" = some none)
  (nx_FieldError : PySem.W.nsIn K mainGlobals "FieldError" = some (some (.ref x_FieldError)))
  (nx_NoRule : PySem.W.nsIn K mainGlobals "NoRule" = some (some (.ref x_NoRule)))
  (nx_Restless : PySem.W.nsIn K mainGlobals "Restless" = some (some (.ref x_Restless)))
  (nx_NoSquare : PySem.W.nsIn K mainGlobals "NoSquare" = some (some (.ref x_NoSquare)))
  (nx_NoLevel : PySem.W.nsIn K mainGlobals "NoLevel" = some (some (.ref x_NoLevel)))
  (nx_NoState : PySem.W.nsIn K mainGlobals "NoState" = some (some (.ref x_NoState)))
  (nx_TooFar : PySem.W.nsIn K mainGlobals "TooFar" = some (some (.ref x_TooFar)))
  (nx_NoSteps : PySem.W.nsIn K mainGlobals "NoSteps" = some (some (.ref x_NoSteps)))
  (ec_NoSquare : ExcC K x_NoSquare)
  (ec_NoLevel : ExcC K x_NoLevel)
  (ec_NoSteps : ExcC K x_NoSteps)
  (ec_FieldError : ExcC K x_FieldError)
  (xf_NoSquare_0 : PySem.W.hasDictIn K x_NoSquare = true)
  (xf_NoSquare_1 : PySem.W.findIn K (.ref x_NoSquare) "__getattribute__" = some (some (.builtin "BaseException.__getattribute__")))
  (xf_NoSquare_2 : PySem.W.findIn K (.ref x_NoSquare) "__getattr__" = some none)
  (xf_NoSquare_3 : PySem.W.findIn K (.ref x_NoSquare) "__class__" = some (some (.builtin "object.__class__")))
  (xf_4 : PySem.W.specialIn K (.builtin "object.__class__") "__get__" = some (some (.builtin "getset_descriptor.__get__")))
  (xf_5 : PySem.W.takesIn K (.builtin "object.__class__") = some true)
  (xf_NoSquare_6 : PySem.W.mroIn K x_NoSquare (.type "object") = some true)
  (xf_NoSquare_7 : PySem.W.mroIn K x_NoSquare (.type "BaseException") = some true)
  (mr_NoSquare : PySem.W.mroIn K x_NoSquare (.ref x_FieldError) = some true)
  (kv_NoSquare : PySem.W.kitOne K (.ref x_NoSquare) (.type "ValueError") = some true)
  (ki_NoSquare_NoRule : PySem.W.kitOne K (.ref x_NoSquare) (.ref x_NoRule) = some false)
  (ki_NoSquare_Restless : PySem.W.kitOne K (.ref x_NoSquare) (.ref x_Restless) = some false)
  (ki_NoSquare_NoSquare : PySem.W.kitOne K (.ref x_NoSquare) (.ref x_NoSquare) = some true)
  (ki_NoSquare_NoLevel : PySem.W.kitOne K (.ref x_NoSquare) (.ref x_NoLevel) = some false)
  (ki_NoSquare_NoState : PySem.W.kitOne K (.ref x_NoSquare) (.ref x_NoState) = some false)
  (ki_NoSquare_TooFar : PySem.W.kitOne K (.ref x_NoSquare) (.ref x_TooFar) = some false)
  (ki_NoSquare_NoSteps : PySem.W.kitOne K (.ref x_NoSquare) (.ref x_NoSteps) = some false)
  (xf_NoLevel_0 : PySem.W.hasDictIn K x_NoLevel = true)
  (xf_NoLevel_1 : PySem.W.findIn K (.ref x_NoLevel) "__getattribute__" = some (some (.builtin "BaseException.__getattribute__")))
  (xf_NoLevel_2 : PySem.W.findIn K (.ref x_NoLevel) "__getattr__" = some none)
  (xf_NoLevel_3 : PySem.W.findIn K (.ref x_NoLevel) "__class__" = some (some (.builtin "object.__class__")))
  (xf_NoLevel_6 : PySem.W.mroIn K x_NoLevel (.type "object") = some true)
  (xf_NoLevel_7 : PySem.W.mroIn K x_NoLevel (.type "BaseException") = some true)
  (mr_NoLevel : PySem.W.mroIn K x_NoLevel (.ref x_FieldError) = some true)
  (kv_NoLevel : PySem.W.kitOne K (.ref x_NoLevel) (.type "ValueError") = some true)
  (ki_NoLevel_NoRule : PySem.W.kitOne K (.ref x_NoLevel) (.ref x_NoRule) = some false)
  (ki_NoLevel_Restless : PySem.W.kitOne K (.ref x_NoLevel) (.ref x_Restless) = some false)
  (ki_NoLevel_NoSquare : PySem.W.kitOne K (.ref x_NoLevel) (.ref x_NoSquare) = some false)
  (ki_NoLevel_NoLevel : PySem.W.kitOne K (.ref x_NoLevel) (.ref x_NoLevel) = some true)
  (ki_NoLevel_NoState : PySem.W.kitOne K (.ref x_NoLevel) (.ref x_NoState) = some false)
  (ki_NoLevel_TooFar : PySem.W.kitOne K (.ref x_NoLevel) (.ref x_TooFar) = some false)
  (ki_NoLevel_NoSteps : PySem.W.kitOne K (.ref x_NoLevel) (.ref x_NoSteps) = some false)
  (xf_NoSteps_0 : PySem.W.hasDictIn K x_NoSteps = true)
  (xf_NoSteps_1 : PySem.W.findIn K (.ref x_NoSteps) "__getattribute__" = some (some (.builtin "BaseException.__getattribute__")))
  (xf_NoSteps_2 : PySem.W.findIn K (.ref x_NoSteps) "__getattr__" = some none)
  (xf_NoSteps_3 : PySem.W.findIn K (.ref x_NoSteps) "__class__" = some (some (.builtin "object.__class__")))
  (xf_NoSteps_6 : PySem.W.mroIn K x_NoSteps (.type "object") = some true)
  (xf_NoSteps_7 : PySem.W.mroIn K x_NoSteps (.type "BaseException") = some true)
  (mr_NoSteps : PySem.W.mroIn K x_NoSteps (.ref x_FieldError) = some true)
  (kv_NoSteps : PySem.W.kitOne K (.ref x_NoSteps) (.type "ValueError") = some true)
  (ki_NoSteps_NoRule : PySem.W.kitOne K (.ref x_NoSteps) (.ref x_NoRule) = some false)
  (ki_NoSteps_Restless : PySem.W.kitOne K (.ref x_NoSteps) (.ref x_Restless) = some false)
  (ki_NoSteps_NoSquare : PySem.W.kitOne K (.ref x_NoSteps) (.ref x_NoSquare) = some false)
  (ki_NoSteps_NoLevel : PySem.W.kitOne K (.ref x_NoSteps) (.ref x_NoLevel) = some false)
  (ki_NoSteps_NoState : PySem.W.kitOne K (.ref x_NoSteps) (.ref x_NoState) = some false)
  (ki_NoSteps_TooFar : PySem.W.kitOne K (.ref x_NoSteps) (.ref x_TooFar) = some false)
  (ki_NoSteps_NoSteps : PySem.W.kitOne K (.ref x_NoSteps) (.ref x_NoSteps) = some true)
  : ∃ fd : FuncData, (∀ (s : Shared) (v : Value), BindsTo s fd ⟨[v], []⟩ [("_law_script", v)]) /\ ∀ base : Heap, K.In base -> base.Ns mainGlobals mg -> Blt mg base -> (∀ q ∈ ([(571, 567)] : List (Addr × Addr)), PySem.W.CodeHd base q.1 q.2) -> FnOk l.prog w K mg base CX0 43 fa fd ["_law_script"] (spLawT K 567) := by
 have e := hfa.symm.trans (PySem.W.mg_of X G a24)
 cases e
 have no : ∀ {x : Str}, PySem.W.nsIn K mainGlobals x = some none -> mg x = none := fun z => PySem.W.mg_none_of X G z
 subst gx_CLAUSE_MARK
 subst gx_ANY_SIGN
 subst gx_AMOUNT_FIGURES
 subst gx_STATE_FIGURES
 have T : Top K mg (⟨c_Amounts, c_Places, c_Clause, c_Grove, c_Rule, c_Jumps, x_FieldError, x_NoRule, x_Restless, x_NoSquare, x_NoLevel, x_NoState, x_TooFar, x_NoSteps⟩ : Ad) := ⟨no z_all, no z_bool, no z_enumerate, no z_int, no z_isinstance, no z_len, no z_max, no z_min, no z_range, no z_str, no z_tuple, no z_zip, ⟨t_STATES, PySem.W.mg_of X G g_STATES⟩, ⟨t_NEIGHBOURS, PySem.W.mg_of X G g_NEIGHBOURS⟩, ⟨t_STATE_FIGURES, PySem.W.mg_of X G g_STATE_FIGURES⟩, ⟨t_AMOUNT_FIGURES, PySem.W.mg_of X G g_AMOUNT_FIGURES⟩, ⟨t_ANY_SIGN, PySem.W.mg_of X G g_ANY_SIGN⟩, ⟨t_TOP_LEVEL, PySem.W.mg_of X G g_TOP_LEVEL⟩, ⟨t_CLAUSE_MARK, PySem.W.mg_of X G g_CLAUSE_MARK⟩, ⟨t_LEAST_JUMPED, PySem.W.mg_of X G g_LEAST_JUMPED⟩, PySem.W.mg_of X G n_c_Amounts, ⟨pg_Amounts, hd_Amounts, po_Amounts, sa_Amounts⟩, na_Amounts_state, na_Amounts_numbers, PySem.W.mg_of X G n_c_Places, ⟨pg_Places, hd_Places, po_Places, sa_Places⟩, na_Places_wanted, PySem.W.mg_of X G n_c_Clause, ⟨pg_Clause, hd_Clause, po_Clause, sa_Clause⟩, na_Clause_cell, na_Clause_conditions, na_Clause_makes, PySem.W.mg_of X G n_c_Grove, ⟨pg_Grove, hd_Grove, po_Grove, sa_Grove⟩, na_Grove_levels, na_Grove_parts, na_Grove_numbers, na_Grove_bares, na_Grove_amounts, na_Grove_boxes, PySem.W.mg_of X G n_c_Rule, ⟨pg_Rule, hd_Rule, po_Rule, sa_Rule⟩, na_Rule_text, na_Rule_clauses, PySem.W.mg_of X G n_c_Jumps, ⟨pg_Jumps, hd_Jumps, po_Jumps, sa_Jumps⟩, na_Jumps_grove, na_Jumps_memories, na_Jumps_rule, na_Jumps_known_squares, na_Jumps_known_cells, no z_ValueError, PySem.W.mg_of X G nx_FieldError, PySem.W.mg_of X G nx_NoRule, PySem.W.mg_of X G nx_Restless, PySem.W.mg_of X G nx_NoSquare, PySem.W.mg_of X G nx_NoLevel, PySem.W.mg_of X G nx_NoState, PySem.W.mg_of X G nx_TooFar, PySem.W.mg_of X G nx_NoSteps, ec_NoSquare, ec_NoLevel, ec_NoSteps, ec_FieldError, ⟨xf_NoSquare_0, xf_NoSquare_1, xf_NoSquare_2, xf_NoSquare_3, xf_4, xf_5, xf_NoSquare_6, xf_NoSquare_7⟩, mr_NoSquare, kv_NoSquare, ki_NoSquare_NoRule, ki_NoSquare_Restless, ki_NoSquare_NoSquare, ki_NoSquare_NoLevel, ki_NoSquare_NoState, ki_NoSquare_TooFar, ki_NoSquare_NoSteps, ⟨xf_NoLevel_0, xf_NoLevel_1, xf_NoLevel_2, xf_NoLevel_3, xf_4, xf_5, xf_NoLevel_6, xf_NoLevel_7⟩, mr_NoLevel, kv_NoLevel, ki_NoLevel_NoRule, ki_NoLevel_Restless, ki_NoLevel_NoSquare, ki_NoLevel_NoLevel, ki_NoLevel_NoState, ki_NoLevel_TooFar, ki_NoLevel_NoSteps, ⟨xf_NoSteps_0, xf_NoSteps_1, xf_NoSteps_2, xf_NoSteps_3, xf_4, xf_5, xf_NoSteps_6, xf_NoSteps_7⟩, mr_NoSteps, kv_NoSteps, ki_NoSteps_NoRule, ki_NoSteps_Restless, ki_NoSteps_NoSquare, ki_NoSteps_NoLevel, ki_NoSteps_NoState, ki_NoSteps_TooFar, ki_NoSteps_NoSteps⟩
 have F_is_whole := fun_mk (x := "is_whole") (qual := "is_whole") (st := s_is_whole) l0 c0 k0
 have b_is_whole := F_is_whole.binds (ps := p_is_whole) fun _ _ _ _ _ _ us hl => by obtain ⟨x0, rfl⟩ := ar1 us hl; exact rfl
 have m_is_whole := PySem.W.mg_of X G a0
 have F_is_state := fun_mk (x := "is_state") (qual := "is_state") (st := s_is_state) l1 c1 k1
 have b_is_state := F_is_state.binds (ps := p_is_state) fun _ _ _ _ _ _ us hl => by obtain ⟨x0, rfl⟩ := ar1 us hl; exact rfl
 have m_is_state := PySem.W.mg_of X G a1
 have F_takes := fun_mk (x := "takes") (qual := "takes") (st := s_takes) l2 c2 k2
 have b_takes := F_takes.binds (ps := p_takes) fun _ _ _ _ _ _ us hl => by obtain ⟨x0, x1, rfl⟩ := ar2 us hl; exact rfl
 have m_takes := PySem.W.mg_of X G a2
 have F_read_clause := fun_mk (x := "read_clause") (qual := "read_clause") (st := s_read_clause) l3 c3 k3
 have b_read_clause := F_read_clause.binds (ps := p_read_clause) fun _ _ _ _ _ _ us hl => by obtain ⟨x0, rfl⟩ := ar1 us hl; exact rfl
 have m_read_clause := PySem.W.mg_of X G a3
 have F_read_state := fun_mk (x := "read_state") (qual := "read_state") (st := s_read_state) l4 c4 k4
 have b_read_state := F_read_state.binds (ps := p_read_state) fun _ _ _ _ _ _ us hl => by obtain ⟨x0, rfl⟩ := ar1 us hl; exact rfl
 have m_read_state := PySem.W.mg_of X G a4
 have F_read_wanted := fun_mk (x := "read_wanted") (qual := "read_wanted") (st := s_read_wanted) l5 c5 k5
 have b_read_wanted := F_read_wanted.binds (ps := p_read_wanted) fun _ _ _ _ _ _ us hl => by obtain ⟨x0, rfl⟩ := ar1 us hl; exact rfl
 have m_read_wanted := PySem.W.mg_of X G a5
 have F_read_condition := fun_mk (x := "read_condition") (qual := "read_condition") (st := s_read_condition) l6 c6 k6
 have b_read_condition := F_read_condition.binds (ps := p_read_condition) fun _ _ _ _ _ _ us hl => by obtain ⟨x0, rfl⟩ := ar1 us hl; exact rfl
 have m_read_condition := PySem.W.mg_of X G a6
 have F_read_amounts := fun_mk (x := "read_amounts") (qual := "read_amounts") (st := s_read_amounts) l7 c7 k7
 have b_read_amounts := F_read_amounts.binds (ps := p_read_amounts) fun _ _ _ _ _ _ us hl => by obtain ⟨x0, rfl⟩ := ar1 us hl; exact rfl
 have m_read_amounts := PySem.W.mg_of X G a7
 have F_read_numbers := fun_mk (x := "read_numbers") (qual := "read_numbers") (st := s_read_numbers) l8 c8 k8
 have b_read_numbers := F_read_numbers.binds (ps := p_read_numbers) fun _ _ _ _ _ _ us hl => by obtain ⟨x0, rfl⟩ := ar1 us hl; exact rfl
 have m_read_numbers := PySem.W.mg_of X G a8
 have F_read_places := fun_mk (x := "read_places") (qual := "read_places") (st := s_read_places) l9 c9 k9
 have b_read_places := F_read_places.binds (ps := p_read_places) fun _ _ _ _ _ _ us hl => by obtain ⟨x0, rfl⟩ := ar1 us hl; exact rfl
 have m_read_places := PySem.W.mg_of X G a9
 have F_clause_texts := fun_mk (x := "clause_texts") (qual := "clause_texts") (st := s_clause_texts) l10 c10 k10
 have b_clause_texts := F_clause_texts.binds (ps := p_clause_texts) fun _ _ _ _ _ _ us hl => by obtain ⟨x0, rfl⟩ := ar1 us hl; exact rfl
 have m_clause_texts := PySem.W.mg_of X G a10
 have F_read_rule := fun_mk (x := "read_rule") (qual := "read_rule") (st := s_read_rule) l11 c11 k11
 have b_read_rule := F_read_rule.binds (ps := p_read_rule) fun _ _ _ _ _ _ us hl => by obtain ⟨x0, rfl⟩ := ar1 us hl; exact rfl
 have m_read_rule := PySem.W.mg_of X G a11
 have F_deciding := fun_mk (x := "deciding") (qual := "deciding") (st := s_deciding) l12 c12 k12
 have b_deciding := F_deciding.binds (ps := p_deciding) fun _ _ _ _ _ _ us hl => by obtain ⟨x0, x1, x2, rfl⟩ := ar3 us hl; exact rfl
 have m_deciding := PySem.W.mg_of X G a12
 have F_becomes := fun_mk (x := "becomes") (qual := "becomes") (st := s_becomes) l13 c13 k13
 have b_becomes := F_becomes.binds (ps := p_becomes) fun _ _ _ _ _ _ us hl => by obtain ⟨x0, x1, x2, rfl⟩ := ar3 us hl; exact rfl
 have m_becomes := PySem.W.mg_of X G a13
 have F_shown_rule := fun_mk (x := "shown_rule") (qual := "shown_rule") (st := s_shown_rule) l14 c14 k14
 have b_shown_rule := F_shown_rule.binds (ps := p_shown_rule) fun _ _ _ _ _ _ us hl => by obtain ⟨x0, rfl⟩ := ar1 us hl; exact rfl
 have m_shown_rule := PySem.W.mg_of X G a14
 have F_nine_parts := fun_mk (x := "nine_parts") (qual := "nine_parts") (st := s_nine_parts) l15 c15 k15
 have b_nine_parts := F_nine_parts.binds (ps := p_nine_parts) fun _ _ _ _ _ _ us hl => by obtain ⟨x0, x1, rfl⟩ := ar2 us hl; exact rfl
 have m_nine_parts := PySem.W.mg_of X G a15
 have F_fours_of := fun_mk (x := "fours_of") (qual := "fours_of") (st := s_fours_of) l16 c16 k16
 have b_fours_of := F_fours_of.binds (ps := p_fours_of) fun _ _ _ _ _ _ us hl => by obtain ⟨x0, rfl⟩ := ar1 us hl; exact rfl
 have m_fours_of := PySem.W.mg_of X G a16
 have F_met_in_the_middle := fun_mk (x := "met_in_the_middle") (qual := "met_in_the_middle") (st := s_met_in_the_middle) l17 c17 k17
 have b_met_in_the_middle := F_met_in_the_middle.binds (ps := p_met_in_the_middle) fun _ _ _ _ _ _ us hl => by obtain ⟨x0, x1, rfl⟩ := ar2 us hl; exact rfl
 have m_met_in_the_middle := PySem.W.mg_of X G a17
 have F__law_at := fun_mk (x := "_law_at") (qual := "_law_at") (st := s__law_at) l18 c18 k18
 have b__law_at := F__law_at.binds (ps := p__law_at) fun _ _ _ _ _ _ us hl => by obtain ⟨x0, x1, rfl⟩ := ar2 us hl; exact rfl
 have m__law_at := PySem.W.mg_of X G a18
 have F__law_same := fun_mk (x := "_law_same") (qual := "_law_same") (st := s__law_same) l19 c19 k19
 have b__law_same := F__law_same.binds (ps := p__law_same) fun _ _ _ _ _ _ us hl => by obtain ⟨x0, x1, rfl⟩ := ar2 us hl; exact rfl
 have m__law_same := PySem.W.mg_of X G a19
 have F__law_refused := fun_mk (x := "_law_refused") (qual := "_law_refused") (st := s__law_refused) l20 c20 k20
 have b__law_refused := F__law_refused.binds (ps := p__law_refused) fun _ _ _ _ _ _ us hl => by obtain ⟨x0, x1, rfl⟩ := ar2 us hl; exact rfl
 have m__law_refused := PySem.W.mg_of X G a20
 have F__law_both := fun_mk (x := "_law_both") (qual := "_law_both") (st := s__law_both) l21 c21 k21
 have b__law_both := F__law_both.binds (ps := p__law_both) fun _ _ _ _ _ _ us hl => by obtain ⟨x0, x1, x2, x3, rfl⟩ := ar4 us hl; exact rfl
 have m__law_both := PySem.W.mg_of X G a21
 have F__law_bad := fun_mk (x := "_law_bad") (qual := "_law_bad") (st := s__law_bad) l22 c22 k22
 have b__law_bad := F__law_bad.binds (ps := p__law_bad) fun _ _ _ _ _ _ us hl => by obtain ⟨x0, rfl⟩ := ar1 us hl; exact rfl
 have m__law_bad := PySem.W.mg_of X G a22
 have F__law_no_steps := fun_mk (x := "_law_no_steps") (qual := "_law_no_steps") (st := s__law_no_steps) l23 c23 k23
 have b__law_no_steps := F__law_no_steps.binds (ps := p__law_no_steps) fun _ _ _ _ _ _ us hl => by obtain ⟨x0, x1, rfl⟩ := ar2 us hl; exact rfl
 have m__law_no_steps := PySem.W.mg_of X G a23
 have F_law := fun_mk (x := "law") (qual := "law") (st := s_law) l24 c24 k24
 have m_law := PySem.W.mg_of X G a24
 have F_Amounts_init := fun_mk (x := "__init__") (qual := "Amounts.__init__") (st := s_Amounts_init) l25 c25 k25
 have b_Amounts_init := F_Amounts_init.binds (ps := p_Amounts_init) fun _ _ _ _ _ _ us hl => by obtain ⟨x0, x1, x2, rfl⟩ := ar3 us hl; exact rfl
 have M_Amounts : Mk K c_Amounts f25 := ⟨mk_Amounts, a25, i25, kc_Amounts⟩
 have F_Amounts_holds := fun_mk (x := "holds") (qual := "Amounts.holds") (st := s_Amounts_holds) l26 c26 k26
 have b_Amounts_holds := F_Amounts_holds.binds (ps := p_Amounts_holds) fun _ _ _ _ _ _ us hl => by obtain ⟨x0, x1, rfl⟩ := ar2 us hl; exact rfl
 have e_Amounts_holds : Meth K c_Amounts "holds" f26 := ⟨a26, i26, k26⟩
 have F_Places_init := fun_mk (x := "__init__") (qual := "Places.__init__") (st := s_Places_init) l27 c27 k27
 have b_Places_init := F_Places_init.binds (ps := p_Places_init) fun _ _ _ _ _ _ us hl => by obtain ⟨x0, x1, rfl⟩ := ar2 us hl; exact rfl
 have M_Places : Mk K c_Places f27 := ⟨mk_Places, a27, i27, kc_Places⟩
 have F_Places_holds := fun_mk (x := "holds") (qual := "Places.holds") (st := s_Places_holds) l28 c28 k28
 have b_Places_holds := F_Places_holds.binds (ps := p_Places_holds) fun _ _ _ _ _ _ us hl => by obtain ⟨x0, x1, rfl⟩ := ar2 us hl; exact rfl
 have e_Places_holds : Meth K c_Places "holds" f28 := ⟨a28, i28, k28⟩
 have F_Clause_init := fun_mk (x := "__init__") (qual := "Clause.__init__") (st := s_Clause_init) l29 c29 k29
 have b_Clause_init := F_Clause_init.binds (ps := p_Clause_init) fun _ _ _ _ _ _ us hl => by obtain ⟨x0, x1, x2, x3, rfl⟩ := ar4 us hl; exact rfl
 have M_Clause : Mk K c_Clause f29 := ⟨mk_Clause, a29, i29, kc_Clause⟩
 have F_Clause_fits := fun_mk (x := "fits") (qual := "Clause.fits") (st := s_Clause_fits) l30 c30 k30
 have b_Clause_fits := F_Clause_fits.binds (ps := p_Clause_fits) fun _ _ _ _ _ _ us hl => by obtain ⟨x0, x1, x2, rfl⟩ := ar3 us hl; exact rfl
 have e_Clause_fits : Meth K c_Clause "fits" f30 := ⟨a30, i30, k30⟩
 have F_Grove_init := fun_mk (x := "__init__") (qual := "Grove.__init__") (st := s_Grove_init) l31 c31 k31
 have b_Grove_init := F_Grove_init.binds (ps := p_Grove_init) fun _ _ _ _ _ _ us hl => by obtain ⟨x0, rfl⟩ := ar1 us hl; exact rfl
 have M_Grove : Mk K c_Grove f31 := ⟨mk_Grove, a31, i31, kc_Grove⟩
 have F_Grove_kept := fun_mk (x := "kept") (qual := "Grove.kept") (st := s_Grove_kept) l32 c32 k32
 have b_Grove_kept := F_Grove_kept.binds (ps := p_Grove_kept) fun _ _ _ _ _ _ us hl => by obtain ⟨x0, x1, x2, rfl⟩ := ar3 us hl; exact rfl
 have e_Grove_kept : Meth K c_Grove "kept" f32 := ⟨a32, i32, k32⟩
 have F_Grove_linked := fun_mk (x := "linked") (qual := "Grove.linked") (st := s_Grove_linked) l33 c33 k33
 have b_Grove_linked := F_Grove_linked.binds (ps := p_Grove_linked) fun _ _ _ _ _ _ us hl => by obtain ⟨x0, x1, rfl⟩ := ar2 us hl; exact rfl
 have e_Grove_linked : Meth K c_Grove "linked" f33 := ⟨a33, i33, k33⟩
 have F_Grove_check_square := fun_mk (x := "check_square") (qual := "Grove.check_square") (st := s_Grove_check_square) l34 c34 k34
 have b_Grove_check_square := F_Grove_check_square.binds (ps := p_Grove_check_square) fun _ _ _ _ _ _ us hl => by obtain ⟨x0, x1, rfl⟩ := ar2 us hl; exact rfl
 have e_Grove_check_square : Meth K c_Grove "check_square" f34 := ⟨a34, i34, k34⟩
 have F_Grove_leaf := fun_mk (x := "leaf") (qual := "Grove.leaf") (st := s_Grove_leaf) l35 c35 k35
 have b_Grove_leaf := F_Grove_leaf.binds (ps := p_Grove_leaf) fun _ _ _ _ _ _ us hl => by obtain ⟨x0, x1, rfl⟩ := ar2 us hl; exact rfl
 have e_Grove_leaf : Meth K c_Grove "leaf" f35 := ⟨a35, i35, k35⟩
 have F_Grove_solid := fun_mk (x := "solid") (qual := "Grove.solid") (st := s_Grove_solid) l36 c36 k36
 have b_Grove_solid := F_Grove_solid.binds (ps := p_Grove_solid) fun _ _ _ _ _ _ us hl => by obtain ⟨x0, x1, x2, rfl⟩ := ar3 us hl; exact rfl
 have e_Grove_solid : Meth K c_Grove "solid" f36 := ⟨a36, i36, k36⟩
 have F_Grove_level_of := fun_mk (x := "level_of") (qual := "Grove.level_of") (st := s_Grove_level_of) l37 c37 k37
 have b_Grove_level_of := F_Grove_level_of.binds (ps := p_Grove_level_of) fun _ _ _ _ _ _ us hl => by obtain ⟨x0, x1, rfl⟩ := ar2 us hl; exact rfl
 have e_Grove_level_of : Meth K c_Grove "level_of" f37 := ⟨a37, i37, k37⟩
 have F_Grove_state_of := fun_mk (x := "state_of") (qual := "Grove.state_of") (st := s_Grove_state_of) l38 c38 k38
 have b_Grove_state_of := F_Grove_state_of.binds (ps := p_Grove_state_of) fun _ _ _ _ _ _ us hl => by obtain ⟨x0, x1, rfl⟩ := ar2 us hl; exact rfl
 have e_Grove_state_of : Meth K c_Grove "state_of" f38 := ⟨a38, i38, k38⟩
 have F_Rule_init := fun_mk (x := "__init__") (qual := "Rule.__init__") (st := s_Rule_init) l39 c39 k39
 have b_Rule_init := F_Rule_init.binds (ps := p_Rule_init) fun _ _ _ _ _ _ us hl => by obtain ⟨x0, x1, rfl⟩ := ar2 us hl; exact rfl
 have M_Rule : Mk K c_Rule f39 := ⟨mk_Rule, a39, i39, kc_Rule⟩
 have F_Jumps_init := fun_mk (x := "__init__") (qual := "Jumps.__init__") (st := s_Jumps_init) l40 c40 k40
 have b_Jumps_init := F_Jumps_init.binds (ps := p_Jumps_init) fun _ _ _ _ _ _ us hl => by obtain ⟨x0, x1, x2, rfl⟩ := ar3 us hl; exact rfl
 have M_Jumps : Mk K c_Jumps f40 := ⟨mk_Jumps, a40, i40, kc_Jumps⟩
 have F_Jumps_change := fun_mk (x := "change") (qual := "Jumps.change") (st := s_Jumps_change) l41 c41 k41
 have b_Jumps_change := F_Jumps_change.binds (ps := p_Jumps_change) fun _ _ _ _ _ _ us hl => by obtain ⟨x0, x1, rfl⟩ := ar2 us hl; exact rfl
 have e_Jumps_change : Meth K c_Jumps "change" f41 := ⟨a41, i41, k41⟩
 have F_Jumps_after := fun_mk (x := "after") (qual := "Jumps.after") (st := s_Jumps_after) l42 c42 k42
 have b_Jumps_after := F_Jumps_after.binds (ps := p_Jumps_after) fun _ _ _ _ _ _ us hl => by obtain ⟨x0, x1, x2, rfl⟩ := ar3 us hl; exact rfl
 have e_Jumps_after : Meth K c_Jumps "after" f42 := ⟨a42, i42, k42⟩
 have F_Jumps_check_jump := fun_mk (x := "check_jump") (qual := "Jumps.check_jump") (st := s_Jumps_check_jump) l43 c43 k43
 have b_Jumps_check_jump := F_Jumps_check_jump.binds (ps := p_Jumps_check_jump) fun _ _ _ _ _ _ us hl => by obtain ⟨x0, x1, x2, rfl⟩ := ar3 us hl; exact rfl
 have e_Jumps_check_jump : Meth K c_Jumps "check_jump" f43 := ⟨a43, i43, k43⟩
 have F_Jumps_reckoned := fun_mk (x := "reckoned") (qual := "Jumps.reckoned") (st := s_Jumps_reckoned) l44 c44 k44
 have b_Jumps_reckoned := F_Jumps_reckoned.binds (ps := p_Jumps_reckoned) fun _ _ _ _ _ _ us hl => by obtain ⟨x0, x1, x2, rfl⟩ := ar3 us hl; exact rfl
 have e_Jumps_reckoned : Meth K c_Jumps "reckoned" f44 := ⟨a44, i44, k44⟩
 have F_Jumps_fresh := fun_mk (x := "fresh") (qual := "Jumps.fresh") (st := s_Jumps_fresh) l45 c45 k45
 have b_Jumps_fresh := F_Jumps_fresh.binds (ps := p_Jumps_fresh) fun _ _ _ _ _ _ us hl => by obtain ⟨x0, x1, x2, rfl⟩ := ar3 us hl; exact rfl
 have e_Jumps_fresh : Meth K c_Jumps "fresh" f45 := ⟨a45, i45, k45⟩
 have F_Jumps_four_halfway := fun_mk (x := "four_halfway") (qual := "Jumps.four_halfway") (st := s_Jumps_four_halfway) l46 c46 k46
 have b_Jumps_four_halfway := F_Jumps_four_halfway.binds (ps := p_Jumps_four_halfway) fun _ _ _ _ _ _ us hl => by obtain ⟨x0, x1, x2, rfl⟩ := ar3 us hl; exact rfl
 have e_Jumps_four_halfway : Meth K c_Jumps "four_halfway" f46 := ⟨a46, i46, k46⟩
 have F_Jumps_middle_after := fun_mk (x := "middle_after") (qual := "Jumps.middle_after") (st := s_Jumps_middle_after) l47 c47 k47
 have b_Jumps_middle_after := F_Jumps_middle_after.binds (ps := p_Jumps_middle_after) fun _ _ _ _ _ _ us hl => by obtain ⟨x0, x1, rfl⟩ := ar2 us hl; exact rfl
 have e_Jumps_middle_after : Meth K c_Jumps "middle_after" f47 := ⟨a47, i47, k47⟩
 have F_Jumps_cell_after := fun_mk (x := "cell_after") (qual := "Jumps.cell_after") (st := s_Jumps_cell_after) l48 c48 k48
 have b_Jumps_cell_after := F_Jumps_cell_after.binds (ps := p_Jumps_cell_after) fun _ _ _ _ _ _ us hl => by obtain ⟨x0, x1, rfl⟩ := ar2 us hl; exact rfl
 have e_Jumps_cell_after : Meth K c_Jumps "cell_after" f48 := ⟨a48, i48, k48⟩
 have F_Jumps_reasons := fun_mk (x := "reasons") (qual := "Jumps.reasons") (st := s_Jumps_reasons) l49 c49 k49
 have b_Jumps_reasons := F_Jumps_reasons.binds (ps := p_Jumps_reasons) fun _ _ _ _ _ _ us hl => by obtain ⟨x0, x1, x2, rfl⟩ := ar3 us hl; exact rfl
 have e_Jumps_reasons : Meth K c_Jumps "reasons" f49 := ⟨a49, i49, k49⟩
 have F_Jumps_gather_reasons := fun_mk (x := "gather_reasons") (qual := "Jumps.gather_reasons") (st := s_Jumps_gather_reasons) l50 c50 k50
 have b_Jumps_gather_reasons := F_Jumps_gather_reasons.binds (ps := p_Jumps_gather_reasons) fun _ _ _ _ _ _ us hl => by obtain ⟨x0, x1, x2, x3, x4, rfl⟩ := ar5 us hl; exact rfl
 have e_Jumps_gather_reasons : Meth K c_Jumps "gather_reasons" f50 := ⟨a50, i50, k50⟩
 have F_Jumps_rests_on := fun_mk (x := "rests_on") (qual := "Jumps.rests_on") (st := s_Jumps_rests_on) l51 c51 k51
 have b_Jumps_rests_on := F_Jumps_rests_on.binds (ps := p_Jumps_rests_on) fun _ _ _ _ _ _ us hl => by obtain ⟨x0, x1, x2, rfl⟩ := ar3 us hl; exact rfl
 have e_Jumps_rests_on : Meth K c_Jumps "rests_on" f51 := ⟨a51, i51, k51⟩
 refine ⟨PySem.W.fnOf "law" "law" (defArgs s_law) (defBody s_law) (defScope s_law) .none kV24 dc24 pm24 an24 cd24 ct24, fun s v => .of_eq rfl, fun base _ _ hB hCs => ?_⟩
 have hC__law_both : PySem.W.CodeHd base 571 567 := hCs _ (.head _)
 have C_is_whole : Cal l.prog w K mg base CX0 1 "is_whole" p_is_whole spIW := ⟨_, _, ok_iw F_is_whole T, m_is_whole, F_is_whole.kp, b_is_whole⟩
 have C_is_state : Cal l.prog w K mg base CX0 2 "is_state" p_is_state spIS := ⟨_, _, ok_is F_is_state T C_is_whole, m_is_state, F_is_state.kp, b_is_state⟩
 have M_Grove_kept : CalM l.prog w K mg base CX0 1 c_Grove "kept" p_Grove_kept (spKept _) := ⟨⟨_, _, ok_kept F_Grove_kept T, e_Grove_kept, b_Grove_kept⟩, T.cl_Grove⟩
 have C_Grove : CalC l.prog w K mg base CX0 2 "Grove" c_Grove p_Grove_init (spGInit _) := ⟨_, _, ok_ginit F_Grove_init T M_Grove_kept, M_Grove, T.m_Grove, b_Grove_init⟩
 have M_Grove_linked : CalM l.prog w K mg base CX0 2 c_Grove "linked" p_Grove_linked (spLink _) := ⟨⟨_, _, ok_link F_Grove_linked T M_Grove_kept, e_Grove_linked, b_Grove_linked⟩, T.cl_Grove⟩
 have M_Grove_check_square : CalM l.prog w K mg base CX0 2 c_Grove "check_square" p_Grove_check_square (spChk _) := ⟨⟨_, _, ok_chk F_Grove_check_square T C_is_whole, e_Grove_check_square, b_Grove_check_square⟩, T.cl_Grove⟩
 have M_Grove_leaf : CalM l.prog w K mg base CX0 3 c_Grove "leaf" p_Grove_leaf (spLeaf _) := ⟨⟨_, _, ok_leaf F_Grove_leaf T C_is_state, e_Grove_leaf, b_Grove_leaf⟩, T.cl_Grove⟩
 have M_Grove_level_of : CalM l.prog w K mg base CX0 3 c_Grove "level_of" p_Grove_level_of (spLev _) := ⟨⟨_, _, ok_lev F_Grove_level_of T M_Grove_check_square, e_Grove_level_of, b_Grove_level_of⟩, T.cl_Grove⟩
 have M_Grove_state_of : CalM l.prog w K mg base CX0 4 c_Grove "state_of" p_Grove_state_of (spSta _) := ⟨⟨_, _, ok_sta F_Grove_state_of T M_Grove_level_of, e_Grove_state_of, b_Grove_state_of⟩, T.cl_Grove⟩
 have M_Grove_solid : CalM l.prog w K mg base CX0 4 c_Grove "solid" p_Grove_solid (spSolid _) := ⟨⟨_, _, ok_solid F_Grove_solid T C_is_whole M_Grove_leaf M_Grove_linked, e_Grove_solid, b_Grove_solid⟩, T.cl_Grove⟩
 have C_takes : Cal l.prog w K mg base CX0 1 "takes" p_takes spTakes := ⟨_, _, ok_takes F_takes, m_takes, F_takes.kp, b_takes⟩
 have C_Amounts : CalC l.prog w K mg base CX0 1 "Amounts" c_Amounts p_Amounts_init (spAmInit _) := ⟨_, _, ok_AmInit F_Amounts_init T, M_Amounts, T.m_Amounts, b_Amounts_init⟩
 have C_Places : CalC l.prog w K mg base CX0 1 "Places" c_Places p_Places_init (spPlInit _) := ⟨_, _, ok_PlInit F_Places_init T, M_Places, T.m_Places, b_Places_init⟩
 have C_Clause : CalC l.prog w K mg base CX0 1 "Clause" c_Clause p_Clause_init (spClInit _) := ⟨_, _, ok_ClInit F_Clause_init T, M_Clause, T.m_Clause, b_Clause_init⟩
 have M_Amounts_holds : CalM l.prog w K mg base CX0 1 c_Amounts "holds" p_Amounts_holds (spAmHolds _) := ⟨⟨_, _, ok_AmHolds F_Amounts_holds T, e_Amounts_holds, b_Amounts_holds⟩, T.cl_Amounts⟩
 have M_Places_holds : CalM l.prog w K mg base CX0 2 c_Places "holds" p_Places_holds (spPlHolds _) := ⟨⟨_, _, ok_PlHolds F_Places_holds T C_takes, e_Places_holds, b_Places_holds⟩, T.cl_Places⟩
 have M_Clause_fits : CalM l.prog w K mg base CX0 3 c_Clause "fits" p_Clause_fits (spFits _) := ⟨⟨_, _, ok_Fits F_Clause_fits T C_takes M_Amounts_holds M_Places_holds, e_Clause_fits, b_Clause_fits⟩, T.cl_Clause⟩
 have C_deciding : Cal l.prog w K mg base CX0 4 "deciding" p_deciding (spDec _) := ⟨_, _, ok_dec F_deciding T M_Clause_fits, m_deciding, F_deciding.kp, b_deciding⟩
 have C_becomes : Cal l.prog w K mg base CX0 5 "becomes" p_becomes (spBec _) := ⟨_, _, ok_bec F_becomes T C_deciding, m_becomes, F_becomes.kp, b_becomes⟩
 have C_read_state : Cal l.prog w K mg base CX0 1 "read_state" p_read_state spRS := ⟨_, _, ok_rs F_read_state T, m_read_state, F_read_state.kp, b_read_state⟩
 have C_read_wanted : Cal l.prog w K mg base CX0 2 "read_wanted" p_read_wanted spRW := ⟨_, _, ok_rw F_read_wanted T C_read_state, m_read_wanted, F_read_wanted.kp, b_read_wanted⟩
 have C_read_numbers : Cal l.prog w K mg base CX0 1 "read_numbers" p_read_numbers spRN := ⟨_, _, ok_rn F_read_numbers T, m_read_numbers, F_read_numbers.kp, b_read_numbers⟩
 have C_read_amounts : Cal l.prog w K mg base CX0 3 "read_amounts" p_read_amounts (spRAm _) := ⟨_, _, ok_ram F_read_amounts T C_read_state C_read_numbers C_Amounts, m_read_amounts, F_read_amounts.kp, b_read_amounts⟩
 have C_read_places : Cal l.prog w K mg base CX0 3 "read_places" p_read_places (spRPl _) := ⟨_, _, ok_rpl F_read_places T C_read_wanted C_Places, m_read_places, F_read_places.kp, b_read_places⟩
 have C_read_condition : Cal l.prog w K mg base CX0 4 "read_condition" p_read_condition (spRCond _) := ⟨_, _, ok_rcond F_read_condition T C_read_amounts C_read_places, m_read_condition, F_read_condition.kp, b_read_condition⟩
 have C_read_clause : Cal l.prog w K mg base CX0 5 "read_clause" p_read_clause (spRC _) := ⟨_, _, ok_rc F_read_clause T C_read_state C_read_wanted C_read_condition C_Clause, m_read_clause, F_read_clause.kp, b_read_clause⟩
 have C_clause_texts : Cal l.prog w K mg base CX0 1 "clause_texts" p_clause_texts spCT := ⟨_, _, ok_ct F_clause_texts T, m_clause_texts, F_clause_texts.kp, b_clause_texts⟩
 have C_Rule : CalC l.prog w K mg base CX0 6 "Rule" c_Rule p_Rule_init (spRI _) := ⟨_, _, ok_ri F_Rule_init T C_clause_texts C_read_clause, M_Rule, T.m_Rule, b_Rule_init⟩
 have C_read_rule : Cal l.prog w K mg base CX0 8 "read_rule" p_read_rule (spRR _) := ⟨_, _, ok_rr F_read_rule T C_Rule C_becomes, m_read_rule, F_read_rule.kp, b_read_rule⟩
 have C_shown_rule : Cal l.prog w K mg base CX0 1 "shown_rule" p_shown_rule (spShow _) := ⟨_, _, ok_show F_shown_rule T, m_shown_rule, F_shown_rule.kp, b_shown_rule⟩
 have M_Jumps_change : CalM l.prog w K mg base CX0 2 c_Jumps "change" p_Jumps_change (spChg _) := ⟨⟨_, _, ok_chg F_Jumps_change T C_shown_rule, e_Jumps_change, b_Jumps_change⟩, T.cl_Jumps⟩
 have C_Jumps : CalC l.prog w K mg base CX0 3 "Jumps" c_Jumps p_Jumps_init (spJInit _) := ⟨_, _, ok_jinit F_Jumps_init T M_Jumps_change, M_Jumps, T.m_Jumps, b_Jumps_init⟩
 have M_Jumps_cell_after : CalM l.prog w K mg base CX0 6 c_Jumps "cell_after" p_Jumps_cell_after (spCel _) := ⟨⟨_, _, ok_cel F_Jumps_cell_after T M_Grove_state_of M_Grove_leaf C_becomes, e_Jumps_cell_after, b_Jumps_cell_after⟩, T.cl_Jumps⟩
 have M_Jumps_middle_after : CalM l.prog w K mg base CX0 7 c_Jumps "middle_after" p_Jumps_middle_after (spMid2 _) := ⟨⟨_, _, ok_mid2 F_Jumps_middle_after T M_Grove_linked M_Jumps_cell_after, e_Jumps_middle_after, b_Jumps_middle_after⟩, T.cl_Jumps⟩
 have C_nine_parts : Cal l.prog w K mg base CX0 3 "nine_parts" p_nine_parts (spNine _) := ⟨_, _, ok_nine F_nine_parts T M_Grove_linked, m_nine_parts, F_nine_parts.kp, b_nine_parts⟩
 have C_fours_of : Cal l.prog w K mg base CX0 1 "fours_of" p_fours_of spFours := ⟨_, _, ok_fours F_fours_of T, m_fours_of, F_fours_of.kp, b_fours_of⟩
 have C_met_in_the_middle : Cal l.prog w K mg base CX0 3 "met_in_the_middle" p_met_in_the_middle (spMet _) := ⟨_, _, ok_met F_met_in_the_middle T M_Grove_linked, m_met_in_the_middle, F_met_in_the_middle.kp, b_met_in_the_middle⟩
 have M_Jumps_reckoned : CalM l.prog w K mg base CX0 41 c_Jumps "reckoned" p_Jumps_reckoned (spRSo _ 10) := ⟨⟨_, _, ok_recSo F_Jumps_reckoned F_Jumps_four_halfway F_Jumps_fresh T e_Jumps_reckoned b_Jumps_reckoned e_Jumps_four_halfway b_Jumps_four_halfway e_Jumps_fresh b_Jumps_fresh M_Jumps_middle_after M_Grove_linked C_nine_parts C_fours_of C_met_in_the_middle 10, e_Jumps_reckoned, b_Jumps_reckoned⟩, T.cl_Jumps⟩
 have M_Jumps_check_jump : CalM l.prog w K mg base CX0 4 c_Jumps "check_jump" p_Jumps_check_jump (spCj _) := ⟨⟨_, _, ok_cj F_Jumps_check_jump T M_Grove_level_of C_is_whole, e_Jumps_check_jump, b_Jumps_check_jump⟩, T.cl_Jumps⟩
 have M_Jumps_after : CalM l.prog w K mg base CX0 42 c_Jumps "after" p_Jumps_after (spAS _ 10) := ⟨⟨_, _, ok_aS F_Jumps_after T (by decide) M_Jumps_check_jump M_Jumps_reckoned, e_Jumps_after, b_Jumps_after⟩, T.cl_Jumps⟩
 have C_is_whole : Cal l.prog w K mg base CX0 1 "is_whole" p_is_whole spIWo := ⟨_, _, ok_iwo F_is_whole T, m_is_whole, F_is_whole.kp, b_is_whole⟩
 have N_Jumps_reckoned : CalM l.prog w K mg base CX0 4 c_Jumps "reckoned" p_Jumps_reckoned spNo := ⟨⟨_, _, FnOk.no, e_Jumps_reckoned, b_Jumps_reckoned⟩, T.cl_Jumps⟩
 have N_Jumps_gather_reasons : CalM l.prog w K mg base CX0 4 c_Jumps "gather_reasons" p_Jumps_gather_reasons spNo := ⟨⟨_, _, FnOk.no, e_Jumps_gather_reasons, b_Jumps_gather_reasons⟩, T.cl_Jumps⟩
 have E_Grove_check_square : CalM l.prog w K mg base (CXE l.prog w) 2 c_Grove "check_square" p_Grove_check_square (spChX _) := ⟨⟨_, _, ok_chx F_Grove_check_square T C_is_whole, e_Grove_check_square, b_Grove_check_square⟩, T.cl_Grove⟩
 have E_Grove_level_of : CalM l.prog w K mg base (CXE l.prog w) 3 c_Grove "level_of" p_Grove_level_of (spLvX _) := ⟨⟨_, _, ok_lvx F_Grove_level_of T E_Grove_check_square, e_Grove_level_of, b_Grove_level_of⟩, T.cl_Grove⟩
 have E_Jumps_check_jump : CalM l.prog w K mg base (CXE l.prog w) 4 c_Jumps "check_jump" p_Jumps_check_jump (spCjx _) := ⟨⟨_, _, ok_cjx F_Jumps_check_jump T E_Grove_level_of C_is_whole, e_Jumps_check_jump, b_Jumps_check_jump⟩, T.cl_Jumps⟩
 have E_Jumps_after : CalM l.prog w K mg base (CXE l.prog w) 5 c_Jumps "after" p_Jumps_after (spCjx _) := ⟨⟨_, _, ok_afx F_Jumps_after T E_Jumps_check_jump N_Jumps_reckoned, e_Jumps_after, b_Jumps_after⟩, T.cl_Jumps⟩
 have E_Jumps_reasons : CalM l.prog w K mg base (CXE l.prog w) 5 c_Jumps "reasons" p_Jumps_reasons (spCjx _) := ⟨⟨_, _, ok_rex F_Jumps_reasons T E_Jumps_check_jump N_Jumps_gather_reasons, e_Jumps_reasons, b_Jumps_reasons⟩, T.cl_Jumps⟩
 have C__law_at : Cal l.prog w K mg base CX0 1 "_law_at" p__law_at (spAt K) := ⟨_, _, ok_at F__law_at T, m__law_at, F__law_at.kp, b__law_at⟩
 have C__law_same : Cal l.prog w K mg base CX0 1 "_law_same" p__law_same spSame := ⟨_, _, ok_same F__law_same T, m__law_same, F__law_same.kp, b__law_same⟩
 have C__law_bad : Cal l.prog w K mg base CX0 1 "_law_bad" p__law_bad spBad := ⟨_, _, ok_bad F__law_bad T, m__law_bad, F__law_bad.kp, b__law_bad⟩
 have C__law_no_steps : Cal l.prog w K mg base CX0 1 "_law_no_steps" p__law_no_steps spNs := ⟨_, _, ok_ns F__law_no_steps T, m__law_no_steps, F__law_no_steps.kp, b__law_no_steps⟩
 have R__law_refused : CalT l.prog w K mg base 7 "_law_refused" p__law_refused (spRef l.prog w K mg base _ 6) := ⟨_, _, ok_ref F__law_refused T (by decide), m__law_refused, F__law_refused.kp, b__law_refused⟩
 have C__law_both : Cal l.prog w K mg base CX0 8 "_law_both" p__law_both (spBo _ 567) := ⟨_, _, ok_bo F__law_both T cq__law_both hC__law_both hB R__law_refused E_Jumps_after E_Jumps_reasons, m__law_both, F__law_both.kp, b__law_both⟩
 exact ok_law F_law T C__law_at C_Grove C_read_rule C_Jumps M_Grove_solid M_Grove_level_of M_Jumps_after C__law_bad C__law_no_steps C__law_both C__law_same
theorem walk {l : PySem.W.OpenLaw} {q : Program} {loose : List Str} {XP : (Str -> Option Value) -> Heap -> Prop} {YP : World -> Heap -> Prop} {d : DefRec} {K : Params -> PySem.W.Frag} (hn : l.most = some 63) (hdf : d.params.defaults = [])
  (hY : ∀ (w : World) (h : Heap), YP w h -> (K w.params).In h) (hT : ∀ (w : World) (h : Heap), YP w h -> PySem.W.TabsAt [(571, 567)] h) (hnt : ∀ w : World, PySem.W.noTabs (K w.params) = true)
  (F : ∀ (w : World) (mg : Str -> Option Value) (fa : Addr) (h : Heap), (K w.params).In h -> h.Ns mainGlobals mg -> mg d.name = some (.ref fa) ->
   ∃ fd : FuncData, (∀ (s : Shared) (u : Value), BindsTo s fd ⟨[u], []⟩ [("_law_script", u)]) /\ ∀ base : Heap, (K w.params).In base -> base.Ns mainGlobals mg -> Blt mg base -> (∀ q ∈ ([(571, 567)] : List (Addr × Addr)), PySem.W.CodeHd base q.1 q.2) -> FnOk l.prog w (K w.params) mg base CX0 43 fa fd ["_law_script"] (spLawT (K w.params) 567)) :
  PySem.W.WalkO q loose XP YP l.row.toRowW d [] (fun f vs => PySem.call f vs) :=
 L2.walk_ofT (n := 63) (k := 43) (x := "_law_script") (tabs := [(571, 567)]) (CX := fun _ => CX0) (sp := fun w => spLawT (K w.params) 567) hn (by decide) hdf ⟨rfl, by decide, by decide⟩ hY hT hnt F (fun _ H a ns hl hO hS => ⟨a, ns, rfl, hS, hl, fun q => ⟨#[], hO.2 _ (.head _), trivial⟩, fun _ => rfl⟩) fun _ _ _ _ _ z => z
end J
theorem PySem.W.Fast.tw3082719943270878705 : True := True.intro
theorem PySem.W.Fast.tw16090418715272442655 : True := True.intro
theorem PySem.W.Fast.tw10063074903718140114 : True := True.intro
theorem PySem.W.Fast.tw11305999781425495688 : True := True.intro
theorem PySem.W.Fast.tw17550209847441275546 : True := True.intro
theorem PySem.W.Fast.tw1691830038896284622 : True := True.intro
theorem PySem.W.Fast.tw15752130050642508602 : True := True.intro
theorem PySem.W.Fast.tw7396231586347157413 : True := True.intro
theorem PySem.W.Fast.tw4951734662918395976 : True := True.intro
theorem PySem.W.Fast.tw8860766273746657982 : True := True.intro
theorem PySem.W.Fast.tw8057965688996471190 : True := True.intro
theorem PySem.W.Fast.tw16752586046537773174 : True := True.intro
theorem PySem.W.Fast.tw12881240821871454029 : True := True.intro
theorem PySem.W.Fast.tw8872850557520102216 : True := True.intro
theorem PySem.W.Fast.tw16299096763699532488 : True := True.intro
theorem PySem.W.Fast.tw16442389776249159151 : True := True.intro
theorem PySem.W.Fast.tw9612749928040898800 : True := True.intro
theorem PySem.W.Fast.tw9995780401407332798 : True := True.intro
theorem PySem.W.Fast.tw4064225860044007323 : True := True.intro
theorem PySem.W.Fast.tw2189610723793801518 : True := True.intro
theorem PySem.W.Fast.tw5308786505795692649 : True := True.intro
theorem PySem.W.Fast.tw17796745437058800797 : True := True.intro
theorem PySem.W.Fast.tw10853119313874152915 : True := True.intro
theorem PySem.W.Fast.tw12065682287873271370 : True := True.intro
theorem PySem.W.Fast.tw8146206359101181939 : True := True.intro
theorem PySem.W.Fast.tw7274010828712534848 : True := True.intro
theorem PySem.W.Fast.tw11769371538252565728 : True := True.intro
theorem PySem.W.Fast.tw14340800844713366732 : True := True.intro
theorem PySem.W.Fast.tw4743191733699380783 : True := True.intro
theorem PySem.W.Fast.tw6722840794761632815 : True := True.intro
theorem PySem.W.Fast.tw13399352126001617532 : True := True.intro
theorem PySem.W.Fast.tw1587871923920969962 : True := True.intro
theorem PySem.W.Fast.tw2290746800229737917 : True := True.intro
theorem PySem.W.Fast.tw10021666063117460209 : True := True.intro
theorem PySem.W.Fast.tw4212229283143098390 : True := True.intro
theorem PySem.W.Fast.tw1021046294396985830 : True := True.intro
theorem PySem.W.Fast.tw8421827227209462134 : True := True.intro
theorem PySem.W.Fast.tw11865257487307734164 : True := True.intro
theorem PySem.W.Fast.tw8291445542060635888 : True := True.intro
theorem PySem.W.Fast.tw18288424939257947910 : True := True.intro
theorem PySem.W.Fast.tw6056100473112433559 : True := True.intro
theorem PySem.W.Fast.tw7034382072041275227 : True := True.intro
theorem PySem.W.Fast.tw16822723474491461854 : True := True.intro
theorem PySem.W.Fast.tw18171352892617087012 : True := True.intro
theorem PySem.W.Fast.tw3614179778540000284 : True := True.intro
theorem PySem.W.Fast.tw12932110107686176027 : True := True.intro
theorem PySem.W.Fast.tw12938282396434993748 : True := True.intro
theorem PySem.W.Fast.tw11231983202811352974 : True := True.intro
theorem PySem.W.Fast.tw16330081094061132293 : True := True.intro
theorem PySem.W.Fast.tw18044382626944524288 : True := True.intro
theorem PySem.W.Fast.tw12957842864994804057 : True := True.intro
theorem PySem.W.Fast.tw7813811894674841370 : True := True.intro
theorem PySem.W.Fast.tw691124500388073034 : True := True.intro
theorem PySem.W.Fast.tw1131811901424200198 : True := True.intro
theorem PySem.W.Fast.tw5162145011744773418 : True := True.intro
theorem PySem.W.Fast.tw6243890297680770436 : True := True.intro
theorem PySem.W.Fast.tw9724406287423159713 : True := True.intro
theorem PySem.W.Fast.tw16733316815130042484 : True := True.intro
theorem PySem.W.Fast.tw484867434580529860 : True := True.intro
theorem PySem.W.Fast.tw17398065859969257268 : True := True.intro
theorem PySem.W.Fast.tw9407316569423346677 : True := True.intro
theorem PySem.W.Fast.tw15443113258919668334 : True := True.intro
theorem PySem.W.Fast.tw5524706833731100720 : True := True.intro
theorem PySem.W.Fast.tw13988802127478474678 : True := True.intro
theorem PySem.W.Fast.tw859063558036903170 : True := True.intro
theorem PySem.W.Fast.tw16923214557343184659 : True := True.intro
theorem PySem.W.Fast.tw18202542056531292546 : True := True.intro
theorem PySem.W.Fast.tw7429366329945658797 : True := True.intro
theorem PySem.W.Fast.tw13309303745640765705 : True := True.intro
theorem PySem.W.Fast.tw16988668209668450349 : True := True.intro
theorem PySem.W.Fast.tw6260383907945160506 : True := True.intro
theorem PySem.W.Fast.tw4705802330375118394 : True := True.intro
theorem PySem.W.Fast.tw16595953945665679945 : True := True.intro
theorem PySem.W.Fast.tw5095119799319731489 : True := True.intro
theorem PySem.W.Fast.tw18108969523090651409 : True := True.intro
theorem PySem.W.Fast.tw12645820726995217822 : True := True.intro
theorem PySem.W.Fast.tw3511355880655084173 : True := True.intro
theorem PySem.W.Fast.tw8486727245300711105 : True := True.intro
theorem PySem.W.Fast.tw9472059474152227111 : True := True.intro
theorem PySem.W.Fast.tw9051164706719919995 : True := True.intro
theorem PySem.W.Fast.tw10844772051911838203 : True := True.intro
theorem PySem.W.Fast.tw1845068641538532445 : True := True.intro
theorem PySem.W.Fast.tw16203989904881425293 : True := True.intro
theorem PySem.W.Fast.tw12122723040968491560 : True := True.intro
theorem PySem.W.Fast.tw7557302948330293837 : True := True.intro
theorem PySem.W.Fast.tw3139839882436818152 : True := True.intro
theorem PySem.W.Fast.tw17680181898992018363 : True := True.intro
theorem PySem.W.Fast.tw14337127137552395512 : True := True.intro
theorem PySem.W.Fast.tw12088839965219376382 : True := True.intro
theorem PySem.W.Fast.tw10373669409891062059 : True := True.intro
open PySem PySem.W PyProof.Rows
set_option maxRecDepth 100000 in
set_option maxHeartbeats 0 in
theorem PySem.Challenge.cw_jumpfield_k50_refused_jumps_holds : PySem.Challenge.rw_jumpfield_k50_refused_jumps.Holds := by
 w_on; o_law; k_head; (case hw => w_witness2)
 k_fill
 refine J.walk (l := PySem.Challenge.rw_jumpfield_k50_refused_jumps) rfl rfl (fun w h Y => PySem.W.km_in_of Y) (fun w h Y => ?jTab) (fun w => ?jNo) ?F
 case jTab => exact List.forall_mem_cons.mpr ⟨⟨PySem.W.codeHd_of_K (c := 571) (P := 567) (PySem.W.km_in_of Y) (by kernel_rfl), PySem.W.km_tabs_of Y 567 (by simp)⟩, fun _ h => nomatch h⟩
 case jNo => kernel_rfl
 case F =>
  intro w mg fa h KX G hmg
  refine' J.fin KX G hmg ?n_c_Amounts ?pg_Amounts ?hd_Amounts ?po_Amounts ?sa_Amounts ?mk_Amounts ?kc_Amounts ?na_Amounts_state ?na_Amounts_numbers ?n_c_Places ?pg_Places ?hd_Places ?po_Places ?sa_Places ?mk_Places ?kc_Places ?na_Places_wanted ?n_c_Clause ?pg_Clause ?hd_Clause ?po_Clause ?sa_Clause ?mk_Clause ?kc_Clause ?na_Clause_cell ?na_Clause_conditions ?na_Clause_makes ?n_c_Grove ?pg_Grove ?hd_Grove ?po_Grove ?sa_Grove ?mk_Grove ?kc_Grove ?na_Grove_levels ?na_Grove_parts ?na_Grove_numbers ?na_Grove_bares ?na_Grove_amounts ?na_Grove_boxes ?n_c_Rule ?pg_Rule ?hd_Rule ?po_Rule ?sa_Rule ?mk_Rule ?kc_Rule ?na_Rule_text ?na_Rule_clauses ?n_c_Jumps ?pg_Jumps ?hd_Jumps ?po_Jumps ?sa_Jumps ?mk_Jumps ?kc_Jumps ?na_Jumps_grove ?na_Jumps_memories ?na_Jumps_rule ?na_Jumps_known_squares ?na_Jumps_known_cells ?a0 ?l0 ?c0 ?k0 ?a1 ?l1 ?c1 ?k1 ?a2 ?l2 ?c2 ?k2 ?a3 ?l3 ?c3 ?k3 ?a4 ?l4 ?c4 ?k4 ?a5 ?l5 ?c5 ?k5 ?a6 ?l6 ?c6 ?k6 ?a7 ?l7 ?c7 ?k7 ?a8 ?l8 ?c8 ?k8 ?a9 ?l9 ?c9 ?k9 ?a10 ?l10 ?c10 ?k10 ?a11 ?l11 ?c11 ?k11 ?a12 ?l12 ?c12 ?k12 ?a13 ?l13 ?c13 ?k13 ?a14 ?l14 ?c14 ?k14 ?a15 ?l15 ?c15 ?k15 ?a16 ?l16 ?c16 ?k16 ?a17 ?l17 ?c17 ?k17 ?a18 ?l18 ?c18 ?k18 ?a19 ?l19 ?c19 ?k19 ?a20 ?l20 ?c20 ?k20 ?a21 ?l21 ?cq__law_both ?c21 ?k21 ?a22 ?l22 ?c22 ?k22 ?a23 ?l23 ?c23 ?k23 ?a24 ?l24 ?c24 ?k24 ?a25 ?i25 ?l25 ?c25 ?k25 ?a26 ?i26 ?l26 ?c26 ?k26 ?a27 ?i27 ?l27 ?c27 ?k27 ?a28 ?i28 ?l28 ?c28 ?k28 ?a29 ?i29 ?l29 ?c29 ?k29 ?a30 ?i30 ?l30 ?c30 ?k30 ?a31 ?i31 ?l31 ?c31 ?k31 ?a32 ?i32 ?l32 ?c32 ?k32 ?a33 ?i33 ?l33 ?c33 ?k33 ?a34 ?i34 ?l34 ?c34 ?k34 ?a35 ?i35 ?l35 ?c35 ?k35 ?a36 ?i36 ?l36 ?c36 ?k36 ?a37 ?i37 ?l37 ?c37 ?k37 ?a38 ?i38 ?l38 ?c38 ?k38 ?a39 ?i39 ?l39 ?c39 ?k39 ?a40 ?i40 ?l40 ?c40 ?k40 ?a41 ?i41 ?l41 ?c41 ?k41 ?a42 ?i42 ?l42 ?c42 ?k42 ?a43 ?i43 ?l43 ?c43 ?k43 ?a44 ?i44 ?l44 ?c44 ?k44 ?a45 ?i45 ?l45 ?c45 ?k45 ?a46 ?i46 ?l46 ?c46 ?k46 ?a47 ?i47 ?l47 ?c47 ?k47 ?a48 ?i48 ?l48 ?c48 ?k48 ?a49 ?i49 ?l49 ?c49 ?k49 ?a50 ?i50 ?l50 ?c50 ?k50 ?a51 ?i51 ?l51 ?c51 ?k51 ?z_all ?z_bool ?z_enumerate ?z_int ?z_isinstance ?z_len ?z_max ?z_min ?z_range ?z_str ?z_tuple ?z_zip ?g_STATES ?g_NEIGHBOURS ?g_STATE_FIGURES ?gx_STATE_FIGURES ?g_AMOUNT_FIGURES ?gx_AMOUNT_FIGURES ?g_ANY_SIGN ?gx_ANY_SIGN ?g_TOP_LEVEL ?g_CLAUSE_MARK ?gx_CLAUSE_MARK ?g_LEAST_JUMPED ?z_ValueError ?nx_FieldError ?nx_NoRule ?nx_Restless ?nx_NoSquare ?nx_NoLevel ?nx_NoState ?nx_TooFar ?nx_NoSteps ?ec_NoSquare ?ec_NoLevel ?ec_NoSteps ?ec_FieldError ?xf_NoSquare_0 ?xf_NoSquare_1 ?xf_NoSquare_2 ?xf_NoSquare_3 ?xf_4 ?xf_5 ?xf_NoSquare_6 ?xf_NoSquare_7 ?mr_NoSquare ?kv_NoSquare ?ki_NoSquare_NoRule ?ki_NoSquare_Restless ?ki_NoSquare_NoSquare ?ki_NoSquare_NoLevel ?ki_NoSquare_NoState ?ki_NoSquare_TooFar ?ki_NoSquare_NoSteps ?xf_NoLevel_0 ?xf_NoLevel_1 ?xf_NoLevel_2 ?xf_NoLevel_3 ?xf_NoLevel_6 ?xf_NoLevel_7 ?mr_NoLevel ?kv_NoLevel ?ki_NoLevel_NoRule ?ki_NoLevel_Restless ?ki_NoLevel_NoSquare ?ki_NoLevel_NoLevel ?ki_NoLevel_NoState ?ki_NoLevel_TooFar ?ki_NoLevel_NoSteps ?xf_NoSteps_0 ?xf_NoSteps_1 ?xf_NoSteps_2 ?xf_NoSteps_3 ?xf_NoSteps_6 ?xf_NoSteps_7 ?mr_NoSteps ?kv_NoSteps ?ki_NoSteps_NoRule ?ki_NoSteps_Restless ?ki_NoSteps_NoSquare ?ki_NoSteps_NoLevel ?ki_NoSteps_NoState ?ki_NoSteps_TooFar ?ki_NoSteps_NoSteps
  (case n_c_Amounts => k_is)
  (case pg_Amounts => k_is)
  (case hd_Amounts => k_is)
  (case po_Amounts => k_is)
  (case sa_Amounts => k_is)
  (case mk_Amounts => k_is)
  (case kc_Amounts => k_is)
  (case na_Amounts_state => k_is)
  (case na_Amounts_numbers => k_is)
  (case n_c_Places => k_is)
  (case pg_Places => k_is)
  (case hd_Places => k_is)
  (case po_Places => k_is)
  (case sa_Places => k_is)
  (case mk_Places => k_is)
  (case kc_Places => k_is)
  (case na_Places_wanted => k_is)
  (case n_c_Clause => k_is)
  (case pg_Clause => k_is)
  (case hd_Clause => k_is)
  (case po_Clause => k_is)
  (case sa_Clause => k_is)
  (case mk_Clause => k_is)
  (case kc_Clause => k_is)
  (case na_Clause_cell => k_is)
  (case na_Clause_conditions => k_is)
  (case na_Clause_makes => k_is)
  (case n_c_Grove => k_is)
  (case pg_Grove => k_is)
  (case hd_Grove => k_is)
  (case po_Grove => k_is)
  (case sa_Grove => k_is)
  (case mk_Grove => k_is)
  (case kc_Grove => k_is)
  (case na_Grove_levels => k_is)
  (case na_Grove_parts => k_is)
  (case na_Grove_numbers => k_is)
  (case na_Grove_bares => k_is)
  (case na_Grove_amounts => k_is)
  (case na_Grove_boxes => k_is)
  (case n_c_Rule => k_is)
  (case pg_Rule => k_is)
  (case hd_Rule => k_is)
  (case po_Rule => k_is)
  (case sa_Rule => k_is)
  (case mk_Rule => k_is)
  (case kc_Rule => k_is)
  (case na_Rule_text => k_is)
  (case na_Rule_clauses => k_is)
  (case n_c_Jumps => k_is)
  (case pg_Jumps => k_is)
  (case hd_Jumps => k_is)
  (case po_Jumps => k_is)
  (case sa_Jumps => k_is)
  (case mk_Jumps => k_is)
  (case kc_Jumps => k_is)
  (case na_Jumps_grove => k_is)
  (case na_Jumps_memories => k_is)
  (case na_Jumps_rule => k_is)
  (case na_Jumps_known_squares => k_is)
  (case na_Jumps_known_cells => k_is)
  (case a0 => k_is)
  (case l0 => k_is)
  (case c0 => k_is)
  (case k0 => k_is)
  (case a1 => k_is)
  (case l1 => k_is)
  (case c1 => k_is)
  (case k1 => k_is)
  (case a2 => k_is)
  (case l2 => k_is)
  (case c2 => k_is)
  (case k2 => k_is)
  (case a3 => k_is)
  (case l3 => k_is)
  (case c3 => k_is)
  (case k3 => k_is)
  (case a4 => k_is)
  (case l4 => k_is)
  (case c4 => k_is)
  (case k4 => k_is)
  (case a5 => k_is)
  (case l5 => k_is)
  (case c5 => k_is)
  (case k5 => k_is)
  (case a6 => k_is)
  (case l6 => k_is)
  (case c6 => k_is)
  (case k6 => k_is)
  (case a7 => k_is)
  (case l7 => k_is)
  (case c7 => k_is)
  (case k7 => k_is)
  (case a8 => k_is)
  (case l8 => k_is)
  (case c8 => k_is)
  (case k8 => k_is)
  (case a9 => k_is)
  (case l9 => k_is)
  (case c9 => k_is)
  (case k9 => k_is)
  (case a10 => k_is)
  (case l10 => k_is)
  (case c10 => k_is)
  (case k10 => k_is)
  (case a11 => k_is)
  (case l11 => k_is)
  (case c11 => k_is)
  (case k11 => k_is)
  (case a12 => k_is)
  (case l12 => k_is)
  (case c12 => k_is)
  (case k12 => k_is)
  (case a13 => k_is)
  (case l13 => k_is)
  (case c13 => k_is)
  (case k13 => k_is)
  (case a14 => k_is)
  (case l14 => k_is)
  (case c14 => k_is)
  (case k14 => k_is)
  (case a15 => k_is)
  (case l15 => k_is)
  (case c15 => k_is)
  (case k15 => k_is)
  (case a16 => k_is)
  (case l16 => k_is)
  (case c16 => k_is)
  (case k16 => k_is)
  (case a17 => k_is)
  (case l17 => k_is)
  (case c17 => k_is)
  (case k17 => k_is)
  (case a18 => k_is)
  (case l18 => k_is)
  (case c18 => k_is)
  (case k18 => k_is)
  (case a19 => k_is)
  (case l19 => k_is)
  (case c19 => k_is)
  (case k19 => k_is)
  (case a20 => k_is)
  (case l20 => k_is)
  (case c20 => k_is)
  (case k20 => k_is)
  (case a21 => k_is)
  (case l21 => k_is)
  (case cq__law_both => exact rfl)
  (case c21 => k_is)
  (case k21 => k_is)
  (case a22 => k_is)
  (case l22 => k_is)
  (case c22 => k_is)
  (case k22 => k_is)
  (case a23 => k_is)
  (case l23 => k_is)
  (case c23 => k_is)
  (case k23 => k_is)
  (case a24 => k_is)
  (case l24 => k_is)
  (case c24 => k_is)
  (case k24 => k_is)
  (case a25 => k_is)
  (case i25 => k_is)
  (case l25 => k_is)
  (case c25 => k_is)
  (case k25 => k_is)
  (case a26 => k_is)
  (case i26 => k_is)
  (case l26 => k_is)
  (case c26 => k_is)
  (case k26 => k_is)
  (case a27 => k_is)
  (case i27 => k_is)
  (case l27 => k_is)
  (case c27 => k_is)
  (case k27 => k_is)
  (case a28 => k_is)
  (case i28 => k_is)
  (case l28 => k_is)
  (case c28 => k_is)
  (case k28 => k_is)
  (case a29 => k_is)
  (case i29 => k_is)
  (case l29 => k_is)
  (case c29 => k_is)
  (case k29 => k_is)
  (case a30 => k_is)
  (case i30 => k_is)
  (case l30 => k_is)
  (case c30 => k_is)
  (case k30 => k_is)
  (case a31 => k_is)
  (case i31 => k_is)
  (case l31 => k_is)
  (case c31 => k_is)
  (case k31 => k_is)
  (case a32 => k_is)
  (case i32 => k_is)
  (case l32 => k_is)
  (case c32 => k_is)
  (case k32 => k_is)
  (case a33 => k_is)
  (case i33 => k_is)
  (case l33 => k_is)
  (case c33 => k_is)
  (case k33 => k_is)
  (case a34 => k_is)
  (case i34 => k_is)
  (case l34 => k_is)
  (case c34 => k_is)
  (case k34 => k_is)
  (case a35 => k_is)
  (case i35 => k_is)
  (case l35 => k_is)
  (case c35 => k_is)
  (case k35 => k_is)
  (case a36 => k_is)
  (case i36 => k_is)
  (case l36 => k_is)
  (case c36 => k_is)
  (case k36 => k_is)
  (case a37 => k_is)
  (case i37 => k_is)
  (case l37 => k_is)
  (case c37 => k_is)
  (case k37 => k_is)
  (case a38 => k_is)
  (case i38 => k_is)
  (case l38 => k_is)
  (case c38 => k_is)
  (case k38 => k_is)
  (case a39 => k_is)
  (case i39 => k_is)
  (case l39 => k_is)
  (case c39 => k_is)
  (case k39 => k_is)
  (case a40 => k_is)
  (case i40 => k_is)
  (case l40 => k_is)
  (case c40 => k_is)
  (case k40 => k_is)
  (case a41 => k_is)
  (case i41 => k_is)
  (case l41 => k_is)
  (case c41 => k_is)
  (case k41 => k_is)
  (case a42 => k_is)
  (case i42 => k_is)
  (case l42 => k_is)
  (case c42 => k_is)
  (case k42 => k_is)
  (case a43 => k_is)
  (case i43 => k_is)
  (case l43 => k_is)
  (case c43 => k_is)
  (case k43 => k_is)
  (case a44 => k_is)
  (case i44 => k_is)
  (case l44 => k_is)
  (case c44 => k_is)
  (case k44 => k_is)
  (case a45 => k_is)
  (case i45 => k_is)
  (case l45 => k_is)
  (case c45 => k_is)
  (case k45 => k_is)
  (case a46 => k_is)
  (case i46 => k_is)
  (case l46 => k_is)
  (case c46 => k_is)
  (case k46 => k_is)
  (case a47 => k_is)
  (case i47 => k_is)
  (case l47 => k_is)
  (case c47 => k_is)
  (case k47 => k_is)
  (case a48 => k_is)
  (case i48 => k_is)
  (case l48 => k_is)
  (case c48 => k_is)
  (case k48 => k_is)
  (case a49 => k_is)
  (case i49 => k_is)
  (case l49 => k_is)
  (case c49 => k_is)
  (case k49 => k_is)
  (case a50 => k_is)
  (case i50 => k_is)
  (case l50 => k_is)
  (case c50 => k_is)
  (case k50 => k_is)
  (case a51 => k_is)
  (case i51 => k_is)
  (case l51 => k_is)
  (case c51 => k_is)
  (case k51 => k_is)
  (case z_all => k_is)
  (case z_bool => k_is)
  (case z_enumerate => k_is)
  (case z_int => k_is)
  (case z_isinstance => k_is)
  (case z_len => k_is)
  (case z_max => k_is)
  (case z_min => k_is)
  (case z_range => k_is)
  (case z_str => k_is)
  (case z_tuple => k_is)
  (case z_zip => k_is)
  (case g_STATES => k_is)
  (case g_NEIGHBOURS => k_is)
  (case g_STATE_FIGURES => k_is)
  (case gx_STATE_FIGURES => decide +kernel)
  (case g_AMOUNT_FIGURES => k_is)
  (case gx_AMOUNT_FIGURES => decide +kernel)
  (case g_ANY_SIGN => k_is)
  (case gx_ANY_SIGN => decide +kernel)
  (case g_TOP_LEVEL => k_is)
  (case g_CLAUSE_MARK => k_is)
  (case gx_CLAUSE_MARK => decide +kernel)
  (case g_LEAST_JUMPED => k_is)
  (case z_ValueError => k_is)
  (case nx_FieldError => k_is)
  (case nx_NoRule => k_is)
  (case nx_Restless => k_is)
  (case nx_NoSquare => k_is)
  (case nx_NoLevel => k_is)
  (case nx_NoState => k_is)
  (case nx_TooFar => k_is)
  (case nx_NoSteps => k_is)
  (case ec_NoSquare => (show PySem.W.excIn _ _ _ _ = true; k_exc))
  (case ec_NoLevel => (show PySem.W.excIn _ _ _ _ = true; k_exc))
  (case ec_NoSteps => (show PySem.W.excIn _ _ _ _ = true; k_exc))
  (case ec_FieldError => (show PySem.W.excIn _ _ _ _ = true; k_exc))
  (case xf_NoSquare_0 => k_is)
  (case xf_NoSquare_1 => k_is)
  (case xf_NoSquare_2 => k_is)
  (case xf_NoSquare_3 => k_is)
  (case xf_4 => k_is)
  (case xf_5 => k_is)
  (case xf_NoSquare_6 => k_is)
  (case xf_NoSquare_7 => k_is)
  (case mr_NoSquare => k_is)
  (case kv_NoSquare => kit_is)
  (case ki_NoSquare_NoRule => kit_is)
  (case ki_NoSquare_Restless => kit_is)
  (case ki_NoSquare_NoSquare => kit_is)
  (case ki_NoSquare_NoLevel => kit_is)
  (case ki_NoSquare_NoState => kit_is)
  (case ki_NoSquare_TooFar => kit_is)
  (case ki_NoSquare_NoSteps => kit_is)
  (case xf_NoLevel_0 => k_is)
  (case xf_NoLevel_1 => k_is)
  (case xf_NoLevel_2 => k_is)
  (case xf_NoLevel_3 => k_is)
  (case xf_NoLevel_6 => k_is)
  (case xf_NoLevel_7 => k_is)
  (case mr_NoLevel => k_is)
  (case kv_NoLevel => kit_is)
  (case ki_NoLevel_NoRule => kit_is)
  (case ki_NoLevel_Restless => kit_is)
  (case ki_NoLevel_NoSquare => kit_is)
  (case ki_NoLevel_NoLevel => kit_is)
  (case ki_NoLevel_NoState => kit_is)
  (case ki_NoLevel_TooFar => kit_is)
  (case ki_NoLevel_NoSteps => kit_is)
  (case xf_NoSteps_0 => k_is)
  (case xf_NoSteps_1 => k_is)
  (case xf_NoSteps_2 => k_is)
  (case xf_NoSteps_3 => k_is)
  (case xf_NoSteps_6 => k_is)
  (case xf_NoSteps_7 => k_is)
  (case mr_NoSteps => k_is)
  (case kv_NoSteps => kit_is)
  (case ki_NoSteps_NoRule => kit_is)
  (case ki_NoSteps_Restless => kit_is)
  (case ki_NoSteps_NoSquare => kit_is)
  (case ki_NoSteps_NoLevel => kit_is)
  (case ki_NoSteps_NoState => kit_is)
  (case ki_NoSteps_TooFar => kit_is)
  (case ki_NoSteps_NoSteps => kit_is)
