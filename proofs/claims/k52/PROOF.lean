import PyProof.Rows.All
import Wide.All
import OpenK.AllK
import Wide.FinOn
import Lean
import PyProof.EqAt
import PyProof.EqKinds
import PyProof.TupleCall
import PyProof.Rows.CatFin
import PyProof.StrLawsIn
import KE.IntTextLaws
import KE.IntTextText
import PyProof.StrLawsTight
import PyProof.StrLawsChain
import PyProof.Rows.StrLawsPart
import PyProof.Rows.StrFirst
import PyProof.Rows.ReprOcc
import PyProof.Rows.StrItems
import PyProof.SumAny
import PyProof.SeqI3
import PyProof.WalkInts
import PyProof.NeKinds
import KE.KDictLaws
import PyProof.DictIter
import PyProof.DictWalks
import PyProof.Rows.DictUnroll
import PySem.Challenge.RW_jumpfield_k52_squares_of_levels_3_and_4
set_option Elab.async false
set_option linter.all false
set_option maxRecDepth 100000
set_option maxHeartbeats 8000000
namespace L2
open PySem PySem.Spec PyProof.Rows
abbrev Key:=Sum Int Str
def Md:Key->Value->Bool
 | .inl k,v=>Value.isInt k v
 | .inr x,v=>Value.isStrOf x v
def keyH (w:World):Key->Int
 | .inl k=>hashInt k
 | .inr x=>hashStr w x
theorem Cr:∀ {k:Key} {v:Value},Md k v=true->(∃ i t,k=Sum.inl i/\v=Value.int i t)\/(∃ x t,k=Sum.inr x/\v=Value.str x t)
 | .inl i,v,h=>by
  obtain ⟨t,e⟩:=Value.isInt_shape (k:=i) (v:=v) h;exact .inl ⟨i,t,rfl,e⟩
 | .inr x,v,h=>by
  obtain ⟨t,e⟩:=Value.isStrOf_shape (x:=x) (v:=v) h;exact .inr ⟨x,t,rfl,e⟩
theorem QM (i:Int) (t:Tok):Md (.inl i) (.int i t)=true:=by simp [Md,Value.isInt]
theorem QL (x:Str) (t:Tok):Md (.inr x) (.str x t)=true:=by simp [Md,Value.isStrOf]
theorem key_ll (a b:Int):decide ((Sum.inl a:Key)=Sum.inl b)=(a == b):=by
 by_cases e:a=b
 ·subst e; simp
 ·have h:¬ (Sum.inl a:Key)=Sum.inl b:=fun q=>e (Sum.inl.inj q);rw [decide_eq_false h];exact (beq_eq_false_iff_ne.mpr e).symm
theorem key_rr (a b:Str):decide ((Sum.inr a:Key)=Sum.inr b)=decide (a=b):=by
 by_cases e:a=b
 ·subst e; simp
 ·have h:¬ (Sum.inr a:Key)=Sum.inr b:=fun q=>e (Sum.inr.inj q);rw [decide_eq_false h,decide_eq_false e]
theorem key_lr (a:Int) (b:Str):decide ((Sum.inl a:Key)=Sum.inr b)=false:=decide_eq_false (fun q=>nomatch q)
theorem key_rl (a:Str) (b:Int):decide ((Sum.inr a:Key)=Sum.inl b)=false:=decide_eq_false (fun q=>nomatch q)
def Dc (prog:Program) (w:World):PySem.KeyKind prog w Key where
 is:=Md
 hash:=keyH w
 inj:=fun v a b ha hb=>by
  rcases Cr ha with ⟨i,t,rfl,rfl⟩ | ⟨x,t,rfl,rfl⟩
  ·rcases Cr hb with ⟨j,u,rfl,e⟩ | ⟨y,u,rfl,e⟩
   ·injection e with e1 _; rw [e1]
   ·exact nomatch e
  ·rcases Cr hb with ⟨j,u,rfl,e⟩ | ⟨y,u,rfl,e⟩
   ·exact nomatch e
   ·injection e with e1 _; rw [e1]
 byValue:=fun k v h=>by
  rcases Cr h with ⟨i,t,rfl,rfl⟩ | ⟨x,t,rfl,rfl⟩<;>rfl
 pyHash:=fun hv h=>by
  rcases Cr hv with ⟨i,t,rfl,rfl⟩ | ⟨x,t,rfl,rfl⟩
  ·exact wpAny_pyHash_int h
  ·exact wpAny_pyHash_str h
 eqBool:=fun hu hv h=>by
  rcases Cr hu with ⟨i,t,rfl,rfl⟩ | ⟨x,t,rfl,rfl⟩
  ·rcases Cr hv with ⟨j,u,rfl,rfl⟩ | ⟨y,u,rfl,rfl⟩
   ·rw [key_ll] at h; exact wpAny_eqBool_int h
   ·rw [key_lr] at h; exact SeqAt.EqAt.int_str i t y u _ _ _ _ h
  ·rcases Cr hv with ⟨j,u,rfl,rfl⟩ | ⟨y,u,rfl,rfl⟩
   ·rw [key_rl] at h; exact SeqAt.EqAt.str_int x t j u _ _ _ _ h
   ·rw [key_rr] at h; exact wpAny_eqBool_str h
 «strs»:=fun k x t v h=>by
  rcases Cr h with ⟨i,u,rfl,e⟩ | ⟨y,u,rfl,e⟩
  ·exact nomatch e
  ·injection e with e1 _
   subst e1;cases v<;>rfl
theorem NZ (prog:Program) (w:World) (i:Int) (t:Tok):(Dc prog w).is (.inl i) (.int i t)=true:=QM i t
theorem NY (prog:Program) (w:World) (x:Str) (t:Tok):(Dc prog w).is (.inr x) (.str x t)=true:=QL x t
end L2
namespace L2
open PySem PySem.Spec PyProof.Rows
inductive V where
 | non | bl (b:Bool) | int (i:Int) | str (x:Str) | byt (b:Array UInt8) | flt (b:UInt64) | ref (a:Addr) | ty (n:String)
 deriving DecidableEq
def Be:V->Value->Prop
 | .non,u=>u=Value.none
 | .bl b,u=>u=Value.bool b
 | .int i,u=>∃ t,u=Value.int i t
 | .str x,u=>∃ t,u=Value.str x t
 | .byt b,u=>∃ t,u=Value.bytes b t
 | .flt b,u=>∃ t,u=Value.float b t
 | .ref a,u=>u=Value.ref a
 | .ty n,u=>u=Value.type n
abbrev AS:List V->List Value->Prop:=Paired Be
theorem AS.length {xs:List V} {us:List Value} (r:AS xs us):xs.length=us.length:=Paired.length r
theorem AS.get:∀ {xs:List V} {us:List Value} {i:Nat} {x:V},AS xs us->xs[i]?=some x->∃ u,us[i]?=some u/\Be x u
 | _,_,_,_,.nil,e=>by simp at e
 | _,_,0,_,.cons r _,e=>by simp at e; subst e; exact ⟨_,rfl,r⟩
 | _,_,i+1,x,.cons _ t,e=>by
  obtain ⟨u,h1,h2⟩:=AS.get (i:=i) (x:=x) t (by simpa using e);exact ⟨u,by simpa using h1,h2⟩
theorem AS.set {x:V} {u:Value} (r:Be x u):∀ {xs:List V} {us:List Value} (i:Nat),AS xs us->AS (xs.set i x) (us.set i u)
 | _,_,_,.nil=>.nil
 | _,_,0,.cons _ t=>.cons r t
 | _,_,i+1,.cons q t=>.cons q (AS.set r i t)
theorem AS.append:∀ {xs ys:List V} {us ws:List Value},AS xs us->AS ys ws->AS (xs ++ ys) (us ++ ws)
 | _,_,_,_,.nil,s=>s
 | _,_,_,_,.cons r t,s=>.cons r (AS.append t s)
theorem AS.take:∀ {xs:List V} {us:List Value} (n:Nat),AS xs us->AS (xs.take n) (us.take n)
 | _,_,0,_=>.nil
 | _,_,_+1,.nil=>.nil
 | _,_,n+1,.cons r t=>.cons r (AS.take n t)
theorem AS.drop:∀ {xs:List V} {us:List Value} (n:Nat),AS xs us->AS (xs.drop n) (us.drop n)
 | _,_,0,r=>r
 | _,_,_+1,.nil=>.nil
 | _,_,n+1,.cons _ t=>AS.drop n t
theorem AS.none_of:∀ {xs:List V} {us:List Value} {i:Nat},AS xs us->xs[i]?=none->us[i]?=none:=fun {xs us i} r e=>by
 have h1:=r.length;have h2:xs.length<=i:=List.getElem?_eq_none_iff.mp e;exact List.getElem?_eq_none_iff.mpr (by lia)
def Gn:Option V->Option Value->Prop
 | some v,some u=>Be v u
 | none,none=>True
 | _,_=>False
def KV {κ:Type}:List (κ×V)->List (κ×Value)->Prop:=Paired fun (p:κ×V) (q:κ×Value)=>p.1=q.1/\Be p.2 q.2
def kV:Key->V
 | .inl i=>.int i
 | .inr x=>.str x
inductive HO where
 /-- a list -/
 | lst (xs:List V)
 /-- a tuple (never changes) -/
 | tup (xs:List V)
 /-- a dict whose keys are ints and texts; one whose keys are tuples of ints and texts (the empty one is both) -/
 | dK (kvs:List (Key×V)) | dT (kvs:List (List Key×V))
 /-- a set of ints: its members,its size -/
 | set (S:Int->Bool) (n:Nat)
 /-- an instance of the class at C,its dict at dx,its attributes -/
 | ins (C dx:Addr) (fs:List (Str×V))
 /-- the dict of the instance at x -/
 | own (x:Addr)
 /-- the dict of an exception -/
 | xd (fs:List (Str×V))
 /-- a bound method,f of x -/
 | met (f x:Addr)
 /-- a range object lo,lo+1,.. below hi -/
 | rng (lo hi:Int)
 /-- a thing that is known to the object (the script; a dict while a loop walks it): read,never written while it is so -/
 | frz (o:Obj) (u:HO)
 /-- a code object's table -/
 | tbl (ps:Array Value)
 /-- any other thing,by what is true of its one object (a def of one's own: SetO a S n:=HO.ext fun h=>..) -/
 | ext (φ:Heap->Prop)
abbrev Hp:=Addr->Option HO
def upd (H:Hp) (a:Addr) (o:HO):Hp:=fun b=>if b=a then some o else H b
theorem Ab {H:Hp} {a:Addr} {o:HO}:upd H a o a=some o:=by unfold upd; rw [if_pos rfl]
theorem As {H:Hp} {a b:Addr} {o:HO} (h:b≠a):upd H a o b=H b:=by unfold upd; rw [if_neg h]
theorem FI {H:Hp} {a:Addr} {o u:HO}:upd (upd H a o) a u=upd H a u:=by
 funext b; unfold upd; split<;>rfl
theorem AC {H:Hp} {a b:Addr} {o u:HO} (h:H a=some o) (h':H b=some u) (d:o≠u):a≠b:=by
 intro e; subst e; rw [h] at h'; exact d (Option.some.inj h')
theorem Am {H:Hp} {a b:Addr} {o:HO} (h:H a=some o) (h':H b=none):a≠b:=by
 intro e; subst e; rw [h] at h'; cases h'
section
variable (P:Program) (w:World)
def Cs (H:Hp) (h:Heap) (a:Addr):HO->Prop
 | .lst xs=>xs.length<=sizeLine/\∃ (its:List Value) (n:Nat),AS xs its/\h.get? a=some { cls:=.type "list",data:=.seq its.toArray n }
 | .tup xs=>xs.length<=sizeLine/\∃ its:List Value,AS xs its/\IsTup h a its.toArray
 | .dK kvs=>kvs.length<=sizeLine/\(a == sysModules)=false/\∃ vs,KV kvs vs/\h.DictOf (Dc P w) a vs
 | .dT kvs=>kvs.length<=sizeLine/\(a == sysModules)=false/\∃ xs:List (List Key×Addr×Value),
   Paired (fun (p:List Key×V) (q:List Key×Addr×Value)=>p.1=q.1/\H q.2.1=some (.tup (p.1.map kV))/\Be p.2 q.2.2) kvs xs /\
   ∃ o es ep,h.get? a=some o/\o.ExactDict/\o.data=.dict es ep/\es.toList=xs.map (entryOfKey (tupleKind (Dc P w)))/\(xs.map (·.1)).Nodup
 | .set S n=>h.SetOf (intKind P w) a S n
 | .ins C dx fs=>H dx=some (.own a)/\fs.length<=1000/\dx≠a/\h.get? a=some (PySem.W.instObj C dx) /\
   ∃ mA,h.Ns1 dx mA/\(∀ f,Gn (fs.lookup f) (mA f))/\PySem.Within mA (fs.map (·.1))
 | .own _=>∃ o,h.get? a=some o
 | .xd fs=>∃ mA,h.Ns1 a mA/\∀ f,Gn (fs.lookup f) (mA f)
 | .rng lo hi=>∃ t u v,h.get? a=some { cls:=.type "range",data:=.fields #[.int lo t,.int hi u,.int 1 v] }
 | .frz o u=>h.get? a=some o/\Cs H h a u
 | .tbl ps=>h.get? a=some { cls:=.none,data:=.fields ps }
 | .met f x=>h.get? a=some (PySem.W.methodObj (.ref f) (.ref x))
 | .ext φ=>φ h/\(∃ o,h.get? a=some o)/\∀ h1 h2:Heap,φ h1->(∀ o,h1.get? a=some o->h2.get? a=some o)->φ h2
def HOk (H:Hp) (h:Heap):Prop:=∀ a o,H a=some o->Cs P w H h a o
end
section
variable {P:Program} {w:World} {H H':Hp} {h h':Heap} {a:Addr} {o:HO}
theorem Cs.lt (x:Cs P w H h a o):a < h.objs.size:=by
 cases o with
 | lst xs=>obtain ⟨_,_,_,_,e⟩:=x; exact Heap.lt_size e
 | tup xs=>obtain ⟨_,_,_,p⟩:=x; exact p.lt
 | dK kvs=>obtain ⟨_,_,_,_,o,_,_,e,_⟩:=x; exact Heap.lt_size e
 | dT kvs=>obtain ⟨_,_,_,_,o,_,_,e,_⟩:=x; exact Heap.lt_size e
 | set S n=>obtain ⟨o,_,_,_,e,_⟩:=x; exact Heap.lt_size e
 | ins C dx fs=>obtain ⟨_,_,_,e,_⟩:=x; exact Heap.lt_size e
 | own y=>obtain ⟨_,e⟩:=x; exact Heap.lt_size e
 | xd fs=>obtain ⟨_,⟨_,_,_,e,_⟩,_⟩:=x; exact Heap.lt_size e
 | rng lo hi=>obtain ⟨_,_,_,e⟩:=x; exact Heap.lt_size e
 | frz ob u=>obtain ⟨e,_⟩:=x; exact Heap.lt_size e
 | tbl ps=>exact Heap.lt_size (show h.get? a=some _ from x)
 | met f y=>exact Heap.lt_size (show h.get? a=some _ from x)
 | ext φ=>obtain ⟨_,⟨_,e⟩,_⟩:=x; exact Heap.lt_size e
theorem Paired.mapP {α β:Type} {F G:α->β->Prop}:∀ {l₁:List α} {l₂:List β},Paired F l₁ l₂->(∀ a b,F a b->G a b)->Paired G l₁ l₂
 | _,_,.nil,_=>.nil
 | _,_,.cons r t,f=>.cons (f _ _ r) (Paired.mapP t f)
theorem Cs.stay (x:Cs P w H h a o) (k:∀ b u,(b=a\/H b=some (.own a))->h.get? b=some u->h'.get? b=some u)
  (ho:∀ b,H b=some (.own a)->H' b=some (.own a)) (ht:∀ b xs,H b=some (.tup xs)->H' b=some (.tup xs)):Cs P w H' h' a o:=by
 induction o with
 | lst xs=>obtain ⟨z,its,n,r,e⟩:=x; exact ⟨z,its,n,r,k _ _ (.inl rfl) e⟩
 | tup xs=>obtain ⟨z,its,r,ob,e,c⟩:=x; exact ⟨z,its,r,ob,k _ _ (.inl rfl) e,c⟩
 | dK kvs=>obtain ⟨z,y,vs,r,ob,es,ep,e,c⟩:=x; exact ⟨z,y,vs,r,ob,es,ep,k _ _ (.inl rfl) e,c⟩
 | dT kvs =>
  obtain ⟨z,y,xs,r,ob,es,ep,e,c⟩:=x;exact ⟨z,y,xs,Paired.mapP r fun p q z=>⟨z.1,ht _ _ z.2.1,z.2.2⟩,ob,es,ep,k _ _ (.inl rfl) e,c⟩
 | set S n=>obtain ⟨ob,es,ep,t,e,c⟩:=x; exact ⟨ob,es,ep,t,k _ _ (.inl rfl) e,c⟩
 | ins C dx fs =>
  obtain ⟨d,z,ne,e,mA,⟨od,es,ep,e2,c⟩,r⟩:=x;exact ⟨ho _ d,z,ne,k _ _ (.inl rfl) e,mA,⟨od,es,ep,k _ _ (.inr d) e2,c⟩,r⟩
 | own y=>obtain ⟨ob,e⟩:=x; exact ⟨ob,k _ _ (.inl rfl) e⟩
 | xd fs=>obtain ⟨mA,⟨od,es,ep,e,c⟩,r⟩:=x; exact ⟨mA,⟨od,es,ep,k _ _ (.inl rfl) e,c⟩,r⟩
 | rng lo hi=>obtain ⟨t,u,v,e⟩:=x; exact ⟨t,u,v,k _ _ (.inl rfl) e⟩
 | frz ob u ih=>obtain ⟨e,q⟩:=x; exact ⟨k _ _ (.inl rfl) e,ih q⟩
 | tbl ps =>
  have e:h.get? a=some { cls:=.none,data:=.fields ps }:=x;show h'.get? a=some { cls:=.none,data:=.fields ps };exact k a _ (.inl rfl) e
 | met f y =>
  have e:h.get? a=some (PySem.W.methodObj (.ref f) (.ref y)):=x;show h'.get? a=some (PySem.W.methodObj (.ref f) (.ref y));exact k a _ (.inl rfl) e
 | ext φ=>obtain ⟨p,⟨o,e⟩,st⟩:=x; exact ⟨st _ _ p fun o q=>k _ _ (.inl rfl) q,⟨o,k _ _ (.inl rfl) e⟩,st⟩
theorem HOk.lt (x:HOk P w H h) (e:H a=some o):a < h.objs.size:=(x a o e).lt
theorem HOk.fresh (x:HOk P w H h) (e:h.objs.size<=a):H a=none:=by
 cases q:H a with
 | none=>rfl
 | some u=>exact absurd (Nat.lt_of_lt_of_le (x.lt q) e) (Nat.lt_irrefl _)
theorem HOk.kept (x:HOk P w H h) (k:∀ b u,h.get? b=some u->h'.get? b=some u):HOk P w H h':=fun a o e =>
 (x a o e).stay (fun b u _ q=>k b u q) (fun _ q=>q) fun _ _ q=>q
theorem HOk.laid (x:HOk P w H h) (k:∀ b u,h.get? b=some u->h'.get? b=some u) (hp:h.objs.size<=a) (new:Cs P w (upd H a o) h' a o):HOk P w (upd H a o) h':=fun b u e=>by
 have hn:=x.fresh hp;by_cases hb:b=a
 ·subst hb; rw [Ab] at e; cases e; exact new
 ·rw [As hb] at e;exact (x b u e).stay (fun c v _ q=>k c v q) (fun c q=>by rw [As (Am q hn)]; exact q) fun c xs q=>by rw [As (Am q hn)]; exact q
end
def Rd (H:Hp) (a:Addr) (u:HO):Prop:=H a=some u\/∃ o,H a=some (.frz o u)
theorem Rd.ok {P:Program} {w:World} {H:Hp} {h:Heap} {a:Addr} {u:HO} (r:Rd H a u) (x:HOk P w H h):Cs P w H h a u:=by
 rcases r with r | ⟨o,r⟩
 ·exact x a u r
 ·obtain ⟨_,q⟩:=x a _ r;exact q
def Mut:Option HO->Prop
 | some (.lst _)=>True
 | some (.dK _)=>True
 | some (.dT _)=>True
 | some (.set _ _)=>True
 | some (.ins _ _ _)=>True
 | some (.ext _)=>True
 | _=>False
section
variable {P:Program} {w:World} {H:Hp} {h h':Heap} {x e:Addr} {o':HO}
theorem HOk.write (ok:HOk P w H h) (mu:Mut (H x)) (he:e=x\/H e=some (.own x)) (k:∀ b u,b≠e->h.get? b=some u->h'.get? b=some u) (heo:∃ u,h'.get? e=some u)
  (new:Cs P w (upd H x o') h' x o'):HOk P w (upd H x o') h':=fun b u q=>by
 have nown:∀ c y,H c=some (.own y)->c≠x:=fun c y r z=>by subst z; rw [r] at mu; exact mu
 have ntup:∀ c xs,H c=some (.tup xs)->c≠x:=fun c xs r z=>by subst z; rw [r] at mu; exact mu
 by_cases hb:b=x
 ·subst hb; rw [Ab] at q; cases q; exact new
 ·rw [As hb] at q;by_cases hbe:b=e
  ·have q':H b=some (.own x):=by
    rcases he with z | z
    ·exact absurd (hbe.trans z) hb
    ·rw [hbe]; exact z
   rw [q] at q'; cases q';obtain ⟨v,hv⟩:=heo;exact ⟨v,by rw [hbe]; exact hv⟩
  ·refine (ok b u q).stay (fun c v hc r=>k c v ?_ r) (fun c r=>by rw [As (nown c b r)]; exact r) fun c xs r=>by rw [As (ntup c xs r)]; exact r
   rcases hc with rfl | hc
   ·exact hbe
   ·rintro rfl;rcases he with z | z
    ·exact nown c b hc z
    ·rw [hc] at z; cases z; exact hb rfl
end
structure Un (fs ex:List Addr) (H H':Hp) (h h':Heap):Prop where
 keep:∀ b o,h.get? b=some o->H b=none->b ∉ fs->b ∉ ex->h'.get? b=some o
 slot:∀ b o,h.get? b=some o->H b=none->b ∈ fs->b ∉ ex->∃ sl,h'.get? b=some { o with slots:=sl }
 free:∀ b o,h.get? b=some o->H b=none->b ∉ ex->H' b=none
 there:∀ b o,h.get? b=some o->b ∉ ex->∃ o',h'.get? b=some o'
 tups:∀ b xs,H b=some (.tup xs)->H' b=some (.tup xs)
 frzs:∀ b o u,H b=some (.frz o u)->H' b=some (.frz o u)
 tbls:∀ b ps,H b=some (.tbl ps)->∃ more,H' b=some (.tbl (ps ++ more))
section
variable {fs fs' ex ex':List Addr} {H H1 H2:Hp} {h h1 h2 h':Heap} {a x e:Addr} {o:HO}
theorem Un.any (u:Un fs ex H H1 h h1) {b:Addr} {ob:Obj} (q:h.get? b=some ob) (n:H b=none) (hx:b ∉ ex):∃ sl,h1.get? b=some { ob with slots:=sl }:=by
 by_cases hb:b ∈ fs
 ·exact u.slot b ob q n hb hx
 ·exact ⟨ob.slots,u.keep b ob q n hb hx⟩
theorem Un.kept (k:∀ b u,h.get? b=some u->h'.get? b=some u):Un fs ex H H h h' :=
 ⟨fun b ob q _ _ _=>k b ob q,fun b ob q _ _ _=>⟨ob.slots,k b ob q⟩,fun _ _ _ n _=>n,fun b ob q _=>⟨ob,k b ob q⟩,fun _ _ q=>q,fun _ _ _ q=>q,fun _ ps q=>⟨#[],by rw [q]; simp⟩⟩
theorem Un.refl:Un fs ex H H h h:=Un.kept fun _ _ q=>q
theorem Un.laid (k:∀ b u,h.get? b=some u->h'.get? b=some u) (hp:h.objs.size<=a) (hn:H a=none):Un fs ex H (upd H a o) h h' where
 keep:=fun b u q _ _ _=>k b u q
 slot:=fun b u q _ _ _=>⟨u.slots,k b u q⟩
 free:=fun b u q n _=>by rw [As (Nat.ne_of_lt (Nat.lt_of_lt_of_le (Heap.lt_size q) hp))]; exact n
 there:=fun b u q _=>⟨u,k b u q⟩
 tups:=fun b xs q=>by rw [As (Am q hn)]; exact q
 frzs:=fun b u xs q=>by rw [As (Am q hn)]; exact q
 tbls:=fun b ps q=>⟨#[],by rw [As (Am q hn),q]; simp⟩
theorem Un.write (mu:Mut (H x)) (he:e=x\/H e=some (.own x)) (k:∀ b u,b≠e->h.get? b=some u->h'.get? b=some u) (heo:∃ u,h'.get? e=some u):Un fs ex H (upd H x o) h h':=by
 have hx:∀ b,H b=none->b≠x:=fun b n z=>by subst z; rw [n] at mu; exact mu
 have hb:∀ b,H b=none->b≠e:=fun b n z=>by
  subst z;rcases he with r | r
  ·exact hx b n r
  ·rw [n] at r; cases r
 have hm:∀ b u,H b=some u->¬ Mut (some u)->b≠x:=fun b u q nm z=>by subst z; rw [q] at mu; exact nm mu
 refine ⟨fun b u q n _ _=>k b u (hb b n) q,fun b u q n _ _=>⟨u.slots,k b u (hb b n) q⟩,fun b u q n _=>by rw [As (hx b n)]; exact n,fun b u q _=>?_,
  fun b xs q=>by rw [As (hm b _ q fun z=>z)]; exact q,fun b u xs q=>by rw [As (hm b _ q fun z=>z)]; exact q,fun b ps q=>⟨#[],by rw [As (hm b _ q fun z=>z),q]; simp⟩⟩
 by_cases hbe:b=e
 ·subst hbe; exact heo
 ·exact ⟨u,k b u hbe q⟩
end
def trk (h:Heap) (H:Hp):List Addr:=(List.range h.objs.size).filter fun a=>(H a).isSome
def Nc (h:Heap) (H:Hp):Heap:=PySem.W.hideAll h (trk h H)
theorem QP (h:Heap) (H:Hp):(Nc h H).objs.size=h.objs.size:=PySem.W.hideAll_size _ _
theorem Su {h:Heap} {H:Hp} {b:Addr} {o:Obj} (e:h.get? b=some o) (n:H b=none):(Nc h H).get? b=some o :=
 PySem.W.hideAll_get _ e fun hm=>by
  have q:(H b).isSome=true:=(List.mem_filter.mp hm).2;rw [n] at q; simp at q
theorem of_hidT {h:Heap} {H:Hp} {b:Addr} {o:Obj} (e:(Nc h H).get? b=some o):h.get? b=some o/\H b=none:=by
 have e':h.get? b=some o:=PySem.W.of_hideAll (trk h H) e;refine ⟨e',?_⟩;cases q:H b with
 | none=>rfl
 | some x =>
  have hm:b ∈ trk h H:=List.mem_filter.mpr ⟨List.mem_range.mpr (Heap.lt_size e'),by simp [q]⟩;have z:(Nc h H).get? b=none:=PySem.W.hideAll_none (trk h H) hm;rw [z] at e; cases e
end L2
namespace L2
open PySem PySem.Spec PyProof.Rows
structure Mod (K:PySem.W.Frag) (mg:Str->Option Value) (base:Heap):Prop where
 kin:K.In base
 glob:base.Ns mainGlobals mg
 blt:∃ mb,base.Ns builtinsNs mb/\∀ x:Str,x≠"__name__" -> mb x=bootBuiltins x
 nolimit:base.NoLimit
/-- the context: a def's body (or a comprehension's block) running. base: fixed through the whole law; s₀,H₀: the entry; outer: the frames whose slots others may change (a def's callers); stack: all frames that run;
 ex: iterators that were made ahead of the entry and are walked here (a comprehension's); fn: the names whose cells were made at the entry (a def: all; a comprehension's block: its own); calm: not within an except suite; pn: pins that every state bears; xe: what is wanted of an exception that leaves the code -/
structure Cx where
 prog:Program
 w:World
 K:PySem.W.Frag
 mg:Str->Option Value
 base:Heap
 A:Around
 N:List Str
 s₀:Shared
 H₀:Hp
 env:Env
 outer:List Env
 stack:List Env
 ex:List Addr
 fn:Str->Bool
 calm:Bool
 pn:List (Addr×Obj)
 xe:Value->Shared->Prop
def frs (l:List Env):List Addr:=l.filterMap (·.frame)
abbrev Cx.fs (X:Cx):List Addr:=frs X.outer
def Vis (sc:Scope) (x:Str):Prop:=sc.names.lookup x=some .local\/sc.names.lookup x=some .cell\/sc.names.lookup x=some .free
def Loc (sc:Scope) (x:Str):Prop:=sc.names.lookup x=some .local\/sc.names.lookup x=some .cell
def Look (env:Env) (h:Heap) (m:Str->Option Value) (x:Str) (u:Value):Prop :=
 (env.kindOf x=some .local/\m x=some u)\/((env.kindOf x=some .cell\/env.kindOf x=some .free)/\∃ c,env.cells.lookup x=some c/\h.IsCell c (some u))
structure Cx.Ok (X:Cx):Prop where
 mod:Mod X.K X.mg X.base
 kind:X.env.scope.kind=.function
 glob:X.env.globals=mainGlobals
 blt:X.env.builtins=builtinsNs
 above:X.s₀.heap.objs.size<=X.env.locals
 inj:∀ x y c,X.env.cells.lookup x=some c->X.env.cells.lookup y=some c->x=y
 has:∀ x,(X.env.kindOf x=some .cell\/X.env.kindOf x=some .free)->∃ c,X.env.cells.lookup x=some c
 cab:∀ x c,X.fn x=true->X.env.cells.lookup x=some c->X.s₀.heap.objs.size<=c
 hd:X.calm=true->X.A.handled=none
 frames:X.A.frames=some X.stack
 stk:X.stack=X.outer\/(X.stack=X.env :: X.outer/\X.env.frame=some X.env.locals)
 exf:∀ b ∈ X.ex,b≠X.env.locals/\∀ x c,X.env.cells.lookup x=some c->c≠b
 bs:∀ b o,X.base.get? b=some o->X.s₀.heap.get? b=some o/\X.H₀ b=none
 bsz:X.base.objs.size<=X.s₀.heap.objs.size
 noex:∀ b o,X.base.get? b=some o->b ∉ X.ex
 exfs:∀ b ∈ X.ex,b ∉ X.fs
 funs:X.s₀.heap.FunFrames X.base X.outer
 frf:∀ b ∈ X.fs,X.H₀ b=none
structure Inv (X:Cx) (pins:List (Addr×Obj)) (σ:List (Option V)) (H:Hp) (s:Shared):Prop where
 ok:X.Ok
 os:s.os=X.s₀.os
 bare:AllBare s.gens
 base:Un X.fs X.ex X.H₀ H X.s₀.heap s.heap
 loc:∃ m,s.heap.Ns X.env.locals m/\∀ (i:Nat) (x:Str) (v:V),X.N[i]?=some x->σ[i]?=some (some v)->Vis X.env.scope x->∃ u,Be v u/\Look X.env s.heap m x u
 cell:∀ x c,X.env.cells.lookup x=some c->∃ v,s.heap.IsCell c v
 free:H X.env.locals=none
 freeC:∀ x c,X.env.cells.lookup x=some c->H c=none
 pin:∀ p ∈ X.pn ++ pins,s.heap.get? p.1=some p.2/\H p.1=none/\p.1≠X.env.locals/\p.1 ∉ X.fs/\∀ v,p.2.data≠.cell v
 hok:HOk X.prog X.w H s.heap
 len:σ.length=X.N.length
section
variable {X:Cx} {pins:List (Addr×Obj)} {σ:List (Option V)} {H H':Hp} {s:Shared} {h':Heap}
theorem Cx.Ok.nofr (ok:X.Ok) {b:Addr} {o:Obj} (e:X.base.get? b=some o):b ∉ X.fs:=fun hb=>by
 have:=(ok.funs.mem hb).1;rw [e] at this; cases this
theorem Inv.bs (I:Inv X pins σ H s):∀ b o,X.base.get? b=some o->s.heap.get? b=some o/\H b=none:=fun b o e =>
 ⟨I.base.keep b o (I.ok.bs b o e).1 (I.ok.bs b o e).2 (I.ok.nofr e) (I.ok.noex b o e),I.base.free b o (I.ok.bs b o e).1 (I.ok.bs b o e).2 (I.ok.noex b o e)⟩
theorem Inv.bk (I:Inv X pins σ H s):∀ b o,X.base.get? b=some o->s.heap.get? b=some o:=fun b o e=>(I.bs b o e).1
theorem Inv.mod (I:Inv X pins σ H s):Mod X.K X.mg X.base:=I.ok.mod
theorem Inv.kIn (I:Inv X pins σ H s):X.K.In s.heap:=I.ok.mod.kin.keeps I.bk
theorem Inv.lt (I:Inv X pins σ H s):X.env.locals < s.heap.objs.size:=let ⟨_,hn,_⟩:=I.loc; hn.lt
theorem Inv.sz (I:Inv X pins σ H s):X.s₀.heap.objs.size<=s.heap.objs.size:=Nat.le_trans I.ok.above (Nat.le_of_lt I.lt)
theorem Inv.nofs (I:Inv X pins σ H s) {a:Addr} (h:s.heap.objs.size<=a):a ∉ X.fs:=fun hb=>by
 obtain ⟨_,o,ho,_⟩:=I.ok.funs.mem hb;exact absurd (Nat.lt_of_lt_of_le (Heap.lt_size ho) (Nat.le_trans I.sz h)) (Nat.lt_irrefl _)
theorem Inv.cne (I:Inv X pins σ H s):∀ x c,X.env.cells.lookup x=some c->c≠X.env.locals:=fun x c e z=>by
 obtain ⟨v,o,ho,hd⟩:=I.cell x c e;obtain ⟨m,⟨o',es,ep,ho',hd',_⟩,_⟩:=I.loc;rw [z,ho'] at ho; cases ho; rw [hd'] at hd; cases hd
theorem Inv.funs (I:Inv X pins σ H s):s.heap.FunFrames X.base X.outer:=by
 have all:∀ (l:List Env),(∀ b ∈ frs l,b ∈ X.fs)->X.s₀.heap.FunFrames X.base l->s.heap.FunFrames X.base l:=by
  intro l;induction l with
  | nil=>intro _ _; trivial
  | cons env r ih =>
   intro hs hl;obtain ⟨hk,⟨L,o,hf,hn,ho,hd⟩,hr⟩:=hl;have hL:L ∈ X.fs:=hs L (by unfold frs; rw [List.filterMap_cons,hf]; exact List.mem_cons_self);obtain ⟨sl,e⟩:=I.base.slot L o ho (I.ok.frf L hL) hL fun z=>I.ok.exfs L z hL;exact ⟨hk,⟨L,_,hf,hn,e,hd⟩,ih (fun b hb=>hs b (by unfold frs; rw [List.filterMap_cons,hf]; exact List.mem_cons_of_mem _ hb)) hr⟩
 exact all X.outer (fun _ hb=>hb) I.ok.funs
theorem Inv.stack (I:Inv X pins σ H s):s.heap.FunFrames X.base X.stack:=by
 rcases I.ok.stk with e | ⟨e,hf⟩
 ·rw [e]; exact I.funs
 ·rw [e];obtain ⟨m,hn,_⟩:=I.loc;refine .cons (by rw [I.ok.kind]; decide) hf hn ?_ I.funs;exact Heap.get?_none_of_le (Nat.le_trans I.ok.bsz I.ok.above)
theorem Inv.stkSub (I:Inv X pins σ H s):∀ b ∈ frs X.stack,b ∈ X.env.locals :: X.fs:=fun b hb=>by
 rcases I.ok.stk with e | ⟨e,hf⟩
 ·rw [e] at hb; exact List.mem_cons_of_mem _ hb
 ·rw [e] at hb;unfold frs at hb;rw [List.filterMap_cons,hf] at hb;exact hb
theorem Inv.stkFree (I:Inv X pins σ H s):∀ b ∈ frs X.stack,H b=none:=fun b hb=>by
 rcases List.mem_cons.mp (I.stkSub b hb) with e | hb
 ·rw [e]; exact I.free
 ·obtain ⟨_,o,ho,_⟩:=I.ok.funs.mem hb;exact I.base.free b o ho (I.ok.frf b hb) fun z=>I.ok.exfs b z hb
theorem Inv.step {g':Array GenState} {t':Nat} {d':Drawn} {ch:List Addr} (I:Inv X pins σ H s)
  (hch:∀ b ∈ ch,(b ∈ X.ex\/X.s₀.heap.objs.size<=b)/\b≠X.env.locals/\(∀ x c,X.env.cells.lookup x=some c->c≠b)/\∀ p ∈ X.pn ++ pins,p.1≠b)
  (keep:∀ b o,b≠X.env.locals->b ∉ X.fs->b ∉ ch->s.heap.get? b=some o->H b=none->h'.get? b=some o)
  (slot:∀ b o,b≠X.env.locals->b ∈ X.fs->b ∉ ch->s.heap.get? b=some o->H b=none->∃ sl,h'.get? b=some { o with slots:=sl }) (free:∀ b o,b ∉ ch->s.heap.get? b=some o->H b=none->H' b=none)
  (there:∀ b o,b ∉ ch->s.heap.get? b=some o->∃ o',h'.get? b=some o')
  (tups:∀ b xs,H b=some (.tup xs)->H' b=some (.tup xs)) (frzs:∀ b o u,H b=some (.frz o u)->H' b=some (.frz o u)) (tbls:∀ b ps,H b=some (.tbl ps)->∃ more,H' b=some (.tbl (ps ++ more)))
  (ns:∀ m,s.heap.Ns X.env.locals m->h'.Ns X.env.locals m) (hok:HOk X.prog X.w H' h') (hg:AllBare g') :
  Inv X pins σ H' { s with heap:=h',gens:=g',drawn:=d',toks:=t' }:=by
 have neL:∀ b o,X.s₀.heap.get? b=some o->b≠X.env.locals:=fun b o e=>Nat.ne_of_lt (Nat.lt_of_lt_of_le (Heap.lt_size e) I.ok.above);have neC:∀ b o,X.s₀.heap.get? b=some o->b ∉ X.ex->b ∉ ch:=fun b o e hx hb=>by
  rcases (hch b hb).1 with z | z
  ·exact hx z
  ·exact absurd (Nat.lt_of_lt_of_le (Heap.lt_size e) z) (Nat.lt_irrefl _)
 have cellK:∀ x c,X.env.cells.lookup x=some c->∀ v,s.heap.IsCell c v->h'.IsCell c v:=fun x c e v ⟨o,ho,hd⟩=>by
  have nch:c ∉ ch:=fun z=>(hch c z).2.2.1 x c e rfl;by_cases hc:c ∈ X.fs
  ·obtain ⟨sl,q⟩:=slot c o (I.cne x c e) hc nch ho (I.freeC x c e);exact ⟨_,q,hd⟩
  ·exact ⟨o,keep c o (I.cne x c e) hc nch ho (I.freeC x c e),hd⟩
 refine ⟨I.ok,I.os,hg,⟨fun b o e n hb hx=>?_,fun b o e n hb hx=>?_,fun b o e n hx=>?_,fun b o e hx=>?_,fun b xs e=>tups b xs (I.base.tups b xs e),fun b o xs e=>frzs b o xs (I.base.frzs b o xs e),fun b ps e=>?_⟩,?_,fun x c e=>?_,?_,fun x c e=>?_,fun p hp=>?_,hok,I.len⟩
 ·exact keep b o (neL b o e) hb (neC b o e hx) (I.base.keep b o e n hb hx) (I.base.free b o e n hx)
 ·obtain ⟨sl,e1⟩:=I.base.slot b o e n hb hx;obtain ⟨sl',e2⟩:=slot b _ (neL b o e) hb (neC b o e hx) e1 (I.base.free b o e n hx);exact ⟨sl',e2⟩
 ·obtain ⟨o',e1⟩:=I.base.there b o e hx;exact free b o' (neC b o e hx) e1 (I.base.free b o e n hx)
 ·obtain ⟨o',e1⟩:=I.base.there b o e hx;exact there b o' (neC b o e hx) e1
 ·obtain ⟨m1,e1⟩:=I.base.tbls b ps e;obtain ⟨m2,e2⟩:=tbls b _ e1;exact ⟨m1 ++ m2,by rw [e2,Array.append_assoc]⟩
 ·obtain ⟨m,hn,hl⟩:=I.loc;refine ⟨m,ns m hn,fun i x v e1 e2 e3=>?_⟩;obtain ⟨u,r,l⟩:=hl i x v e1 e2 e3;refine ⟨u,r,?_⟩;rcases l with l | ⟨k,c,e,z⟩
  ·exact .inl l
  ·exact .inr ⟨k,c,e,cellK x c e _ z⟩
 ·obtain ⟨v,z⟩:=I.cell x c e;exact ⟨v,cellK x c e v z⟩
 ·obtain ⟨m,⟨o,_,_,ho,_⟩,_⟩:=I.loc;exact free _ o (fun z=>(hch _ z).2.1 rfl) ho I.free
 ·obtain ⟨v,o,ho,hd⟩:=I.cell x c e;exact free c o (fun z=>(hch c z).2.2.1 x c e rfl) ho (I.freeC x c e)
 ·obtain ⟨e,n,ne,nf,d⟩:=I.pin p hp;have nch:p.1 ∉ ch:=fun z=>(hch p.1 z).2.2.2 p hp rfl;exact ⟨keep p.1 p.2 ne nf nch e n,free p.1 p.2 nch e n,ne,nf,d⟩
theorem Inv.un {t':Nat} (I:Inv X pins σ H s) (u:Un X.fs [] H H' s.heap h') (hok:HOk X.prog X.w H' h'):Inv X pins σ H' { s with heap:=h',toks:=t' }:=by
 obtain ⟨m,⟨o,es,ep,ho,r⟩,_⟩:=id I.loc;obtain ⟨sl,hL⟩:=u.any ho I.free (by simp);exact I.step (g':=s.gens) (d':=s.drawn) (ch:=[]) (fun _ z=>nomatch z) (fun b o _ hb _ e n=>u.keep b o e n hb (by simp)) (fun b o _ hb _ e n=>u.slot b o e n hb (by simp)) (fun b o _ e n=>u.free b o e n (by simp)) (fun b o _ e=>u.there b o e (by simp)) u.tups u.frzs u.tbls (fun m' hm=>by
  obtain ⟨o',es',ep',ho',r'⟩:=hm;rw [ho] at ho'; cases ho';exact ⟨_,es',ep',hL,r'⟩) hok I.bare
theorem Inv.call {g':Array GenState} {t':Nat} {d':Drawn} {ch:List Addr} (I:Inv X pins σ H s) (u:Un (frs X.stack) ch H H' s.heap h') (hok:HOk X.prog X.w H' h') (hg:AllBare g')
  (hch:∀ b ∈ ch,(b ∈ X.ex\/X.s₀.heap.objs.size<=b)/\b≠X.env.locals/\(∀ x c,X.env.cells.lookup x=some c->c≠b)/\∀ p ∈ X.pn ++ pins,p.1≠b) :
  Inv X pins σ H' { s with heap:=h',gens:=g',drawn:=d',toks:=t' }:=by
 obtain ⟨m,⟨o,es,ep,ho,r⟩,_⟩:=id I.loc;obtain ⟨sl,hL⟩:=u.any ho I.free fun z=>(hch _ z).2.1 rfl;exact I.step (ch:=ch) hch (fun b o hL hb hc e n=>u.keep b o e n (fun z=>(List.mem_cons.mp (I.stkSub b z)).elim hL hb) hc) (fun b o _ _ hc e n=>u.any e n hc) (fun b o hc e n=>u.free b o e n hc) (fun b o hc e=>u.there b o e hc) u.tups u.frzs u.tbls (fun m' hm=>by
  obtain ⟨o',es',ep',ho',r'⟩:=hm;rw [ho] at ho'; cases ho';exact ⟨_,es',ep',hL,r'⟩) hok hg
theorem Inv.turned {t':Nat} {it:Addr} (I:Inv X pins σ H s) (k:∀ b o,b≠it->s.heap.get? b=some o->h'.get? b=some o) (hn:H it=none) (hL:it≠X.env.locals)
  (h1:it ∈ X.ex\/X.s₀.heap.objs.size<=it) (h2:∀ x c,X.env.cells.lookup x=some c->c≠it) (h3:∀ p ∈ X.pn ++ pins,p.1≠it):Inv X pins σ H { s with heap:=h',toks:=t' }:=by
 have nit:∀ b u,H b=some u->b≠it:=fun b u e z=>by rw [z,hn] at e; cases e
 refine I.step (g':=s.gens) (d':=s.drawn) (ch:=[it]) (fun b hb=>?_) (fun b o _ _ hc e _=>k b o (fun z=>hc (by simp [z])) e) (fun b o _ _ hc e _=>⟨o.slots,k b o (fun z=>hc (by simp [z])) e⟩) (fun _ _ _ _ n=>n)
  (fun b o hc e=>⟨o,k b o (fun z=>hc (by simp [z])) e⟩) (fun _ _ e=>e) (fun _ _ _ e=>e) (fun b ps e=>⟨#[],by rw [e]; simp⟩) (fun m hm=>?_) (fun b u e=>?_) I.bare
 ·have e:b=it:=by simpa using hb
  subst e;exact ⟨h1,hL,h2,h3⟩
 ·obtain ⟨o,es,ep,ho,r⟩:=hm;exact ⟨o,es,ep,k _ o (Ne.symm hL) ho,r⟩
 ·refine (I.hok b u e).stay (fun c v hc q=>k c v ?_ q) (fun _ q=>q) fun _ _ q=>q;rcases hc with z | z
  ·rw [z]; exact nit b u e
  ·exact nit c _ z
theorem Inv.tok (I:Inv X pins σ H s) (t:Nat):Inv X pins σ H { s with toks:=t }:=I.un (h':=s.heap) (t':=t) Un.refl I.hok
theorem Inv.kept {t':Nat} (I:Inv X pins σ H s) (k:∀ b u,s.heap.get? b=some u->h'.get? b=some u):Inv X pins σ H { s with heap:=h',toks:=t' }:=I.un (Un.kept k) (I.hok.kept k)
theorem Inv.laid {a:Addr} {o:HO} {t':Nat} (I:Inv X pins σ H s) (k:∀ b u,s.heap.get? b=some u->h'.get? b=some u) (hp:s.heap.objs.size<=a) (new:Cs X.prog X.w (upd H a o) h' a o) :
  Inv X pins σ (upd H a o) { s with heap:=h',toks:=t' }:=I.un (Un.laid k hp (I.hok.fresh hp)) (I.hok.laid k hp new)
theorem Inv.write {x e:Addr} {o:HO} {t':Nat} (I:Inv X pins σ H s) (mu:Mut (H x)) (he:e=x\/H e=some (.own x)) (k:∀ b u,b≠e->s.heap.get? b=some u->h'.get? b=some u) (heo:∃ u,h'.get? e=some u)
  (new:Cs X.prog X.w (upd H x o) h' x o):Inv X pins σ (upd H x o) { s with heap:=h',toks:=t' }:=I.un (Un.write mu he k heo) (I.hok.write mu he k heo new)
theorem Inv.weak {σ':List (Option V)} (I:Inv X pins σ H s) (hl:σ'.length=σ.length) (w:∀ (i:Nat) v,σ'[i]?=some (some v)->σ[i]?=some (some v)):Inv X pins σ' H s :=
 ⟨I.ok,I.os,I.bare,I.base,let ⟨m,hn,hl'⟩:=I.loc; ⟨m,hn,fun i x v e1 e2 e3=>hl' i x v e1 (w i v e2) e3⟩,I.cell,I.free,I.freeC,I.pin,I.hok,hl.trans I.len⟩
theorem Inv.pins_of {pins':List (Addr×Obj)} (I:Inv X pins σ H s) (h:∀ p ∈ pins',s.heap.get? p.1=some p.2/\H p.1=none/\p.1≠X.env.locals/\p.1 ∉ X.fs/\∀ v,p.2.data≠.cell v):Inv X pins' σ H s :=
 ⟨I.ok,I.os,I.bare,I.base,I.loc,I.cell,I.free,I.freeC,fun p hp=>(List.mem_append.mp hp).elim (fun z=>I.pin p (List.mem_append_left _ z)) (h p),I.hok,I.len⟩
theorem NR {N:List Str} (hN:N.Nodup) {i j:Nat} {x:Str} (a:N[i]?=some x) (b:N[j]?=some x):i=j:=by
 obtain ⟨h1,e1⟩:=List.getElem?_eq_some_iff.mp a;obtain ⟨h2,e2⟩:=List.getElem?_eq_some_iff.mp b;exact (List.getElem_inj hN).mp (e1.trans e2.symm)
theorem LT {M:Model} {A:Around} {E:Value->Shared->Prop} {i:Nat} {x:Str} {v:V} {u:Value} {Q:Unit->Shared->Prop} (I:Inv X pins σ H s) (hN:X.N.Nodup) (hi:X.N[i]?=some x) (hx:Loc X.env.scope x) (r:Be v u)
  (h:∀ s',Inv X pins (σ.set i (some v)) H s'->(∃ a,Heap.SameBut a s.heap s'.heap/\(a=X.env.locals\/X.env.cells.lookup x=some a))->Q () s') (hf:X.fn x=true\/X.env.scope.names.lookup x=some .local:=by first | exact .inl rfl | exact .inr rfl | assumption):wpAny M A (storeName X.env x u) Q E s:=by
 obtain ⟨m,hn,hl⟩:=id I.loc;have hcls:(X.env.scope.kind == .class || (X.env.scope.kind == .module && X.env.locals != X.env.globals))=false:=by rw [I.ok.kind]; rfl
 have hiσ:i < σ.length:=by rw [I.len]; exact (List.getElem?_eq_some_iff.mp hi).1
 have cne:=I.cne;have tracked:∀ {a:Addr} {h':Heap},(∃ o,s.heap.get? a=some o/\H a=none)->Heap.SameBut a s.heap h'->HOk X.prog X.w H h':=fun {a h'} ha hs b ob e=>by
  obtain ⟨_,_,hfree⟩:=ha;refine (I.hok b ob e).stay (fun c w' hc q=>(hs.2 c ?_).trans q) (fun _ q=>q) fun _ _ q=>q;rintro rfl;rcases hc with rfl | hc
  ·rw [hfree] at e; cases e
  ·rw [hfree] at hc; cases hc
 rcases hx with hk | hk
 ·refine wpAny_storeName_local hk hn (fun h' hn' hs=>?_) hcls;obtain ⟨oL,_,_,hoL,_⟩:=id hn;refine h _ ⟨I.ok,I.os,I.bare,⟨fun b o e n hb hx=>?_,fun b o e n hb hx=>?_,I.base.free,fun b o e hx=>?_,I.base.tups,I.base.frzs,I.base.tbls⟩,⟨_,hn',fun j y v' e1 e2 e3=>?_⟩,fun y c e=>?_,I.free,I.freeC,fun p hp=>?_,tracked ⟨oL,hoL,I.free⟩ hs,by simpa using I.len⟩ ⟨_,hs,.inl rfl⟩
  ·exact (hs.2 b (Nat.ne_of_lt (Nat.lt_of_lt_of_le (Heap.lt_size e) I.ok.above))).trans (I.base.keep b o e n hb hx)
  ·obtain ⟨sl,e1⟩:=I.base.slot b o e n hb hx;exact ⟨sl,(hs.2 b (Nat.ne_of_lt (Nat.lt_of_lt_of_le (Heap.lt_size e) I.ok.above))).trans e1⟩
  ·obtain ⟨o',e1⟩:=I.base.there b o e hx;exact ⟨o',(hs.2 b (Nat.ne_of_lt (Nat.lt_of_lt_of_le (Heap.lt_size e) I.ok.above))).trans e1⟩
  ·by_cases hj:j=i
   ·subst hj;rw [hi] at e1; cases e1;rw [List.getElem?_set_self hiσ] at e2;cases e2;exact ⟨u,r,.inl ⟨hk,by simp⟩⟩
   ·rw [List.getElem?_set_ne (Ne.symm hj)] at e2;obtain ⟨u',r',q⟩:=hl j y v' e1 e2 e3;refine ⟨u',r',?_⟩;rcases q with ⟨k,e⟩ | ⟨k,c,e,z⟩
    ·refine .inl ⟨k,?_⟩;have:y≠x:=fun e=>hj (NR hN e1 (e ▸ hi));simp [this,e]
    ·exact .inr ⟨k,c,e,z.sameBut hs (cne y c e)⟩
  ·obtain ⟨w',z⟩:=I.cell y c e;exact ⟨w',z.sameBut hs (cne y c e)⟩
  ·obtain ⟨e,n,ne,nf,d⟩:=I.pin p hp;exact ⟨(hs.2 p.1 ne).trans e,n,ne,nf,d⟩
 ·have hfn:X.fn x=true:=by
   rcases hf with z | z
   ·exact z
   ·rw [z] at hk; cases hk
  obtain ⟨c,hc⟩:=I.ok.has x (.inl hk);obtain ⟨w',z⟩:=I.cell x c hc;refine wpAny_storeName_cell I.ok.kind hk hc z (fun h' hc' hs=>?_);obtain ⟨oc,hoc,hocd⟩:=id z;refine h { s with heap:=h' } ⟨I.ok,I.os,I.bare,⟨fun b o e n hb hx=>?_,fun b o e n hb hx=>?_,I.base.free,fun b o e hx=>?_,I.base.tups,I.base.frzs,I.base.tbls⟩,⟨m,hn.sameBut hs (Ne.symm (cne x c hc)),fun j y v' e1 e2 e3=>?_⟩,fun y c' e=>?_,I.free,I.freeC,fun p hp=>?_,tracked ⟨oc,hoc,I.freeC x c hc⟩ hs,by simpa using I.len⟩ ⟨c,hs,.inr hc⟩
  ·exact (hs.2 b (Nat.ne_of_lt (Nat.lt_of_lt_of_le (Heap.lt_size e) (I.ok.cab x c hfn hc)))).trans (I.base.keep b o e n hb hx)
  ·obtain ⟨sl,e1⟩:=I.base.slot b o e n hb hx;exact ⟨sl,(hs.2 b (Nat.ne_of_lt (Nat.lt_of_lt_of_le (Heap.lt_size e) (I.ok.cab x c hfn hc)))).trans e1⟩
  ·obtain ⟨o',e1⟩:=I.base.there b o e hx;exact ⟨o',(hs.2 b (Nat.ne_of_lt (Nat.lt_of_lt_of_le (Heap.lt_size e) (I.ok.cab x c hfn hc)))).trans e1⟩
  ·by_cases hj:j=i
   ·subst hj;rw [hi] at e1; cases e1;rw [List.getElem?_set_self hiσ] at e2;cases e2;exact ⟨u,r,.inr ⟨.inl hk,c,hc,hc'⟩⟩
   ·rw [List.getElem?_set_ne (Ne.symm hj)] at e2;obtain ⟨u',r',q⟩:=hl j y v' e1 e2 e3;refine ⟨u',r',?_⟩;rcases q with q | ⟨k,c',e,z'⟩
    ·exact .inl q
    ·refine .inr ⟨k,c',e,z'.sameBut hs ?_⟩;rintro rfl;exact hj (NR hN e1 (I.ok.inj _ _ _ e hc ▸ hi))
  ·by_cases hcc:c'=c
   ·subst hcc; exact ⟨_,hc'⟩
   ·obtain ⟨w2,z2⟩:=I.cell y c' e;exact ⟨w2,z2.sameBut hs hcc⟩
  ·obtain ⟨e,n,ne,nf,d⟩:=I.pin p hp;refine ⟨(hs.2 p.1 ?_).trans e,n,ne,nf,d⟩;intro q;rw [q,hoc] at e;have q':oc=p.2:=Option.some.inj e;exact d w' (by rw [<-q']; exact hocd)
theorem NB {M:Model} {A:Around} {E:Value->Shared->Prop} {i:Nat} {x:Str} {v:V} {u:Value} {Q:Unit->Shared->Prop} (I:Inv X pins σ H s) (hN:X.N.Nodup) (hi:X.N[i]?=some x) (hx:Loc X.env.scope x) (r:Be v u)
  (h:∀ s',Inv X pins (σ.set i (some v)) H s'->Q () s') (hf:X.fn x=true\/X.env.scope.names.lookup x=some .local:=by first | exact .inl rfl | exact .inr rfl | assumption):wpAny M A (storeName X.env x u) Q E s :=
 LT I hN hi hx r (fun s' I' _=>h s' I') hf
theorem Inv.call' {s':Shared} {ch:List Addr} (I:Inv X pins σ H s) (ho:s'.os=s.os) (u:Un (frs X.stack) ch H H' s.heap s'.heap) (hok:HOk X.prog X.w H' s'.heap) (hg:AllBare s'.gens)
  (hch:∀ b ∈ ch,(b ∈ X.ex\/X.s₀.heap.objs.size<=b)/\b≠X.env.locals/\(∀ x c,X.env.cells.lookup x=some c->c≠b)/\∀ p ∈ X.pn ++ pins,p.1≠b):Inv X pins σ H' s':=by
 obtain ⟨h',g',d',t',o'⟩:=s';have e:o'=s.os:=ho;subst e;exact I.call (g':=g') (t':=t') (d':=d') u hok hg hch
end
abbrev XK:=Value->Option Addr->Hp->Prop
abbrev St:=List (Option V)
abbrev VK:=V->Hp->Prop
abbrev TE:=St->Hp->VK->Prop
abbrev TT:=St->Hp->(Bool->Hp->Prop)->Prop
abbrev TA:=St->Hp->(List V->Hp->Prop)->Prop
structure Ju where
 nx:St->Hp->Prop
 rt:VK
 bk:St->Hp->Prop:=fun _ _=>False
 ct:St->Hp->Prop:=fun _ _=>False
abbrev TS:=Ju->St->Hp->Prop
def EP (X:Cx) (pins:List (Addr×Obj)) (σ:St) (Q:VK) (u:Value) (s':Shared):Prop:=∃ v H',Inv X pins σ H' s'/\Be v u/\Q v H'
def TP (X:Cx) (pins:List (Addr×Obj)) (σ:St) (Q:Bool->Hp->Prop) (b:Bool) (s':Shared):Prop:=∃ H',Inv X pins σ H' s'/\Q b H'
def AP (X:Cx) (pins:List (Addr×Obj)) (σ:St) (Q:List V->Hp->Prop) (us:List Value) (s':Shared):Prop:=∃ vs H',Inv X pins σ H' s'/\AS vs us/\Q vs H'
def SP (X:Cx) (pins:List (Addr×Obj)) (D:Ju) (f:Flow) (s':Shared):Prop :=
 match f with
 | .next=>∃ σ' H',Inv X pins σ' H' s'/\D.nx σ' H'
 | .brk=>∃ σ' H',Inv X pins σ' H' s'/\D.bk σ' H'
 | .cont=>∃ σ' H',Inv X pins σ' H' s'/\D.ct σ' H'
 | .ret u=>∃ v σ' H',Inv X pins σ' H' s'/\Be v u/\D.rt v H'
def PE (X:Cx) (e:Expr) (t:TE):Prop :=
 ∀ (pins:List (Addr×Obj)) (s:Shared) (σ:St) (H:Hp) (Q:VK),Inv X pins σ H s->t σ H Q->wpAny (model X.prog X.w) X.A (eval e X.env) (EP X pins σ Q) X.xe s
def PT (X:Cx) (e:Expr) (t:TT):Prop :=
 ∀ (pins:List (Addr×Obj)) (s:Shared) (σ:St) (H:Hp) (Q:Bool->Hp->Prop),Inv X pins σ H s->t σ H Q->wpAny (model X.prog X.w) X.A (isTrue e X.env (eval e X.env)) (TP X pins σ Q) X.xe s
def PW (X:Cx) (e:Expr) (t:TT):Prop :=
 ∀ (whole:Sem Value) (pins:List (Addr×Obj)) (s:Shared) (σ:St) (H:Hp) (Q:Bool->Hp->Prop),Inv X pins σ H s->t σ H Q->wpAny (model X.prog X.w) X.A (isTrue e X.env whole) (TP X pins σ Q) X.xe s
theorem PW.pt {X:Cx} {e:Expr} {t:TT} (h:PW X e t):PT X e t:=h _
def PA (X:Cx) (es:List Expr) (t:TA):Prop :=
 ∀ (pos:Pos) (pins:List (Addr×Obj)) (s:Shared) (σ:St) (H:Hp) (Q:List V->Hp->Prop),Inv X pins σ H s->t σ H Q->wpAny (model X.prog X.w) X.A (spliced (backTo pos (starEach es X.env))) (AP X pins σ Q) X.xe s
def PS (X:Cx) (st:Stmt) (t:TS):Prop :=
 ∀ (pins:List (Addr×Obj)) (s:Shared) (σ:St) (H:Hp) (D:Ju),Inv X pins σ H s->t D σ H->wpAny (model X.prog X.w) X.A (exec st X.env) (SP X pins D) X.xe s
def PSs (X:Cx) (st:List Stmt) (t:TS):Prop :=
 ∀ (pins:List (Addr×Obj)) (s:Shared) (σ:St) (H:Hp) (D:Ju),Inv X pins σ H s->t D σ H->wpAny (model X.prog X.w) X.A (execs st X.env) (SP X pins D) X.xe s
theorem thn {α:Type} {t:Sem α} {Q Q':α->Shared->Prop} {M:Model} {A:Around} {E:Value->Shared->Prop} {s:Shared} (h:wpAny M A t Q E s) (hQ:∀ a s,Q a s->Q' a s):wpAny M A t Q' E s:=wpAny_mono h hQ fun _ _ x=>x
end L2
namespace L2
open PySem PySem.Spec PyProof.Rows
section
variable {X:Cx}
def tVar (i:Nat):TE:=fun σ H Q=>∃ v,σ[i]?=some (some v)/\Q v H
def tC (v:V):TE:=fun _ H Q=>Q v H
theorem pe_var {i:Nat} {x:Str} {pos:Pos} (hN:X.N[i]?=some x) (hv:Vis X.env.scope x) (hd:(x == ("__debug__" : Str))=false:=by decide) (hcd:(x == ("__classdict__" : Str))=false:=by decide):PE X (.Name x pos) (tVar i):=by
 intro pins s σ H Q I h;obtain ⟨v,e,h⟩:=h;obtain ⟨m,hn,hl⟩:=I.loc;obtain ⟨u,r,l⟩:=hl i x v hN e hv;have fin:EP X pins σ Q u s:=⟨v,H,I,r,h⟩
 rcases l with ⟨hk,hm⟩ | ⟨hk,c,hc,hcell⟩
 ·exact wpAny_Name (wpAny_loadName_local I.ok.kind hk hn hm fin) hd
 ·rcases hk with hk | hk
  ·exact wpAny_Name (wpAny_loadName_cell I.ok.kind hk hc hcell fin) hd
  ·exact wpAny_Name (wpAny_loadName_free I.ok.kind hk hc hcell fin hcd) hd
theorem Af {i j pos}:PE X (.Constant (.int i) j pos) (tC (.int i)):=fun _ _ _ H _ I h=>wpAny_Constant_int ⟨.int i,H,I.tok _,⟨_,rfl⟩,h⟩
theorem Gu {b j pos}:PE X (.Constant (.bool b) j pos) (tC (.bl b)):=fun _ _ _ H _ I h=>Constant_bool ⟨.bl b,H,I,rfl,h⟩
theorem Id {j pos}:PE X (.Constant .none j pos) (tC .non):=fun _ _ _ H _ I h=>Constant_none ⟨.non,H,I,rfl,h⟩
theorem FZ {x j pos}:PE X (.Constant (.str x) j pos) (tC (.str x)):=fun _ _ _ H _ I h=>Calls.Constant_str ⟨.str x,H,I.tok _,⟨_,rfl⟩,h⟩
def Gl (X:Cx) (x:Str):Prop:=X.env.kindOf x=some .globalImplicit
theorem JC {E:Value->Shared->Prop} {pins:List (Addr×Obj)} {s:Shared} {σ:St} {H:Hp} {x:Str} {u:Value} {pos:Pos} {Q:Value->Shared->Prop} (I:Inv X pins σ H s) (hg:Gl X x) (hm:X.mg x=some u) (h:Q u s)
  (hd:(x == ("__debug__" : Str))=false:=by decide):wpAny (model X.prog X.w) X.A (eval (.Name x pos) X.env) Q E s :=
 Calls.Name_function_global I.ok.kind hg (Calls.loadGlobal_global (by rw [I.ok.glob]; exact I.mod.glob.keeps I.bk) hm h) hd
theorem GF {E:Value->Shared->Prop} {pins:List (Addr×Obj)} {s:Shared} {σ:St} {H:Hp} {x:Str} {u:Value} {pos:Pos} {Q:Value->Shared->Prop} (I:Inv X pins σ H s) (hg:Gl X x) (hm:X.mg x=none) (hv:bootBuiltins x=some u) (h:Q u s)
  (hn:x≠"__name__" := by decide) (hd:(x == ("__debug__" : Str))=false:=by decide):wpAny (model X.prog X.w) X.A (eval (.Name x pos) X.env) Q E s:=by
 obtain ⟨mb,h1,h2⟩:=I.mod.blt;exact Calls.Name_function_global I.ok.kind hg (Calls.loadGlobal_builtin (by rw [I.ok.glob]; exact I.mod.glob.keeps I.bk) hm (by rw [I.ok.blt]; exact h1.keeps I.bk) ((h2 x hn).trans hv) h) hd
theorem PM {x:Str} {v:V} {u:Value} {pos:Pos} (hg:Gl X x) (hm:X.mg x=some u) (r:Be v u) (hd:(x == ("__debug__" : Str))=false:=by decide):PE X (.Name x pos) (tC v) :=
 fun _ _ _ H _ I h=>JC I hg hm ⟨v,H,I,r,h⟩ hd
theorem GS {x:Str} {v:V} {u:Value} {pos:Pos} (hg:Gl X x) (hm:X.mg x=none) (hv:bootBuiltins x=some u) (r:Be v u) (hn:x≠"__name__" := by decide) (hd:(x == ("__debug__" : Str))=false:=by decide):PE X (.Name x pos) (tC v) :=
 fun _ _ _ H _ I h=>GF I hg hm hv ⟨v,H,I,r,h⟩ hn hd
variable {a b:Expr} {ta tb:TE} {pos:Pos}
def PC (X:Cx) (op:CmpOp) (a b:Expr) (t:TE):Prop :=
 ∀ (pins:List (Addr×Obj)) (s:Shared) (σ:St) (H:Hp) (Q:VK),Inv X pins σ H s->t σ H Q ->
  wpAny (model X.prog X.w) X.A (eval a X.env) (fun v s₁=>wpAny (model X.prog X.w) X.A (eval b X.env) (fun u s₂=>wpAny (model X.prog X.w) X.A (compareOp op v u) (EP X pins σ Q) X.xe s₂) X.xe s₁) X.xe s
def tB (t:TE):TT:=fun σ H Q=>t σ H fun x H1=>∃ c,x=.bl c/\Q c H1
theorem pt_cmp {op:CmpOp} {t:TE} (h:PC X op a b t) (h1:behindInMarks op b=false:=by first | exact nobehind _ (by decide) (by decide) | rfl):PT X (.Compare a [op] [b] pos) (tB t):=by
 intro pins s σ H Q I hw;refine wpAny_isTrue_Compare1 (thn (h pins s σ H _ I hw) fun v s1 h1=>thn h1 fun u s2 h2=>thn h2 fun c s3 ⟨x,H1,I1,r1,q1⟩=>?_) h1;obtain ⟨d,rfl,q⟩:=q1;cases r1;exact wpAny_truthy_bool ⟨H1,I1,q⟩
theorem EK {e:Expr} {t:TE} (h:PE X e t) (he:∀ whole,isTrue e X.env whole=(do let v <-whole; standAt e.pos; holding [v] (truthy v)):=by intro _; rfl):PT X e (tB t):=by
 intro pins s σ H Q I hw;refine isTrue_plain (thn (h pins s σ H _ I hw) fun v s1 ⟨x,H1,I1,r1,q1⟩=>?_) (he _);obtain ⟨d,rfl,q⟩:=q1;cases r1;exact wpAny_truthy_bool ⟨H1,I1,q⟩
variable {tA tB':TT} {rest:List Expr}
def tAnd (t u:TT):TT:=fun σ H Q=>t σ H fun c H1=>if c=true then u σ H1 Q else Q false H1
def tOr (t u:TT):TT:=fun σ H Q=>t σ H fun c H1=>if c=true then Q true H1 else u σ H1 Q
def tNot (t:TT):TT:=fun σ H Q=>t σ H fun c H1=>Q (!c) H1
theorem PJ (ha:PT X a tA):PW X (.BoolOp .And [a] pos) tA:=by
 intro wh pins s σ H Q I h;refine isTrue_and (thn (ha pins s σ H Q I h) fun c s1 e=>?_);cases c with
 | true=>exact isTrue_and_nil e
 | false=>exact e
theorem ML (ha:PT X a tA):PW X (.BoolOp .Or [a] pos) tA:=by
 intro wh pins s σ H Q I h;refine isTrue_or (thn (ha pins s σ H Q I h) fun c s1 e=>?_);cases c with
 | false=>exact isTrue_or_nil e
 | true=>exact e
theorem RH (ha:PT X a tA) (hb:PW X (.BoolOp .And (b :: rest) pos) tB'):PW X (.BoolOp .And (a :: b :: rest) pos) (tAnd tA tB'):=by
 intro wh pins s σ H Q I h;refine isTrue_and (thn (ha pins s σ H _ I h) fun c s1 ⟨H1,I1,q1⟩=>?_);cases c with
 | true=>exact hb wh pins s1 σ H1 Q I1 q1
 | false=>exact ⟨H1,I1,q1⟩
theorem PH (ha:PT X a tA) (hb:PW X (.BoolOp .Or (b :: rest) pos) tB'):PW X (.BoolOp .Or (a :: b :: rest) pos) (tOr tA tB'):=by
 intro wh pins s σ H Q I h;refine isTrue_or (thn (ha pins s σ H _ I h) fun c s1 ⟨H1,I1,q1⟩=>?_);cases c with
 | true=>exact ⟨H1,I1,q1⟩
 | false=>exact hb wh pins s1 σ H1 Q I1 q1
theorem Fd (ha:PT X a tA):PT X (.UnaryOp .Not a pos) (tNot tA):=by
 intro pins s σ H Q I h;exact isTrue_not (ha pins s σ H (fun c H1=>Q (!c) H1) I h)
def tAndV (ta tb:TE):TE:=fun σ H Q=>ta σ H fun x H1=>∃ c,x=.bl c/\if c=true then tb σ H1 Q else Q (.bl false) H1
def tOrV (ta tb:TE):TE:=fun σ H Q=>ta σ H fun x H1=>∃ c,x=.bl c/\if c=true then Q (.bl true) H1 else tb σ H1 Q
def tNotV (ta:TE):TE:=fun σ H Q=>ta σ H fun x H1=>∃ c,x=.bl c/\Q (.bl (!c)) H1
theorem JX {op} {t:TE} (h:PE X a t):PE X (.BoolOp op [a] pos) t:=fun pins s σ H Q I hw=>BoolOp_one (h pins s σ H Q I hw)
theorem JZ (ha:PE X a ta) (hb:PE X (.BoolOp .And (b :: rest) pos) tb):PE X (.BoolOp .And (a :: b :: rest) pos) (tAndV ta tb):=by
 intro pins s σ H Q I h;refine BoolOp_and (thn (ha pins s σ H _ I h) fun v s1 ⟨x,H1,I1,r1,q1⟩=>?_);obtain ⟨c,rfl,q1⟩:=q1;cases r1;refine wpAny_truthy_bool ?_;cases c with
 | true=>exact hb pins s1 σ H1 Q I1 q1
 | false=>exact ⟨.bl false,H1,I1,rfl,q1⟩
theorem pe_or (ha:PE X a ta) (hb:PE X (.BoolOp .Or (b :: rest) pos) tb):PE X (.BoolOp .Or (a :: b :: rest) pos) (tOrV ta tb):=by
 intro pins s σ H Q I h;refine BoolOp_or (thn (ha pins s σ H _ I h) fun v s1 ⟨x,H1,I1,r1,q1⟩=>?_);obtain ⟨c,rfl,q1⟩:=q1;cases r1;refine wpAny_truthy_bool ?_;cases c with
 | false=>exact hb pins s1 σ H1 Q I1 q1
 | true=>exact ⟨.bl true,H1,I1,rfl,q1⟩
theorem RM (ha:PE X a ta):PE X (.UnaryOp .Not a pos) (tNotV ta):=by
 intro pins s σ H Q I h;refine UnaryOp_ (thn (ha pins s σ H _ I h) fun v s1 ⟨x,H1,I1,r1,q1⟩=>?_);obtain ⟨c,rfl,q1⟩:=q1;cases r1;exact not_of (wpAny_truthy_bool ⟨.bl (!c),H1,I1,rfl,q1⟩)
end
end L2
namespace L2
open PySem PySem.Spec PyProof.Rows
def SqL (K:PySem.W.Frag) (H:Hp) (a:Addr) (xs:List V):Prop :=
 Rd H a (.lst xs) \/
  ∃ (o:Obj) (its:Array Value) (n:Nat),K.lookup a=some o/\o.cls=.type "list" /\ o.dict=none/\o.data=.seq its n/\its.size<=sizeLine/\AS xs its.toList
def SqT (K:PySem.W.Frag) (H:Hp) (a:Addr) (xs:List V):Prop :=
 Rd H a (.tup xs) \/
  ∃ (o:Obj) (its:Array Value) (n:Nat),K.lookup a=some o/\o.cls=.type "tuple" /\ o.data=.seq its n/\its.size<=sizeLine/\AS xs its.toList
def absV:Value->Option V
 | .none=>some .non
 | .bool b=>some (.bl b)
 | .int i _=>some (.int i)
 | .str x _=>some (.str x)
 | .bytes b _=>some (.byt b)
 | .float b _=>some (.flt b)
 | .ref a=>some (.ref a)
 | .type n=>some (.ty n)
 | _=>none
theorem Be.abs {x:V} {u:Value} (r:Be x u):absV u=some x:=by
 cases x with
 | non=>cases r; rfl
 | bl _=>cases r; rfl
 | int _=>obtain ⟨t,rfl⟩:=r; rfl
 | str _=>obtain ⟨t,rfl⟩:=r; rfl
 | byt _=>obtain ⟨t,rfl⟩:=r; rfl
 | flt _=>obtain ⟨t,rfl⟩:=r; rfl
 | ref _=>cases r; rfl
 | ty _=>cases r; rfl
theorem Be.inj {x y:V} {u:Value} (r:Be x u) (q:Be y u):x=y:=Option.some.inj (r.abs.symm.trans q.abs)
theorem AS.inj:∀ {xs ys:List V} {us:List Value},AS xs us->AS ys us->xs=ys
 | _,_,_,.nil,.nil=>rfl
 | _,_,_,.cons r t,.cons r' t'=>by rw [r.inj r',AS.inj t t']
section
variable {X:Cx} {pins:List (Addr×Obj)} {σ:St} {H:Hp} {s:Shared} {a:Addr} {xs ys:List V}
theorem SqL.of {K:PySem.W.Frag} (h:H a=some (.lst xs)):SqL K H a xs:=.inl (.inl h)
theorem SqT.of {K:PySem.W.Frag} (h:H a=some (.tup xs)):SqT K H a xs:=.inl (.inl h)
theorem Inv.list (I:Inv X pins σ H s) (h:SqL X.K H a xs):∃ its:List Value,AS xs its/\PlainL s.heap a its.toArray/\xs.length<=sizeLine:=by
 rcases h with h | ⟨o,its,n,hk,hc,hd,hs,hz,r⟩
 ·obtain ⟨z,its,n,r,e⟩:=h.ok I.hok;exact ⟨its,r,⟨_,n,e,rfl,rfl,rfl⟩,z⟩
 ·refine ⟨its.toList,r,⟨o,n,I.kIn a o hk,hc,hd,by simpa using hs⟩,?_⟩;have e:=r.length;simp only [Array.length_toList] at e;lia
theorem Inv.tuple (I:Inv X pins σ H s) (h:SqT X.K H a xs):∃ its:List Value,AS xs its/\IsTup s.heap a its.toArray/\xs.length<=sizeLine:=by
 rcases h with h | ⟨o,its,n,hk,hc,hs,hz,r⟩
 ·obtain ⟨z,its,r,p⟩:=h.ok I.hok;exact ⟨its,r,p,z⟩
 ·refine ⟨its.toList,r,⟨o,I.kIn a o hk,hc,n,by simpa using hs⟩,?_⟩;have e:=r.length;simp only [Array.length_toList] at e;lia
theorem Inv.list_inj (I:Inv X pins σ H s) (h:SqL X.K H a xs) (h':SqL X.K H a ys):xs=ys:=by
 obtain ⟨its,r,⟨o,n,e,_,_,d⟩,_⟩:=I.list h;obtain ⟨its',r',⟨o',n',e',_,_,d'⟩,_⟩:=I.list h';rw [e] at e'; cases e';rw [d] at d';injection d' with d1 _
 have:its=its':=by simpa using congrArg Array.toList d1
 subst this;exact r.inj r'
theorem Inv.tuple_inj (I:Inv X pins σ H s) (h:SqT X.K H a xs) (h':SqT X.K H a ys):xs=ys:=by
 obtain ⟨its,r,⟨o,e,_,n,d⟩,_⟩:=I.tuple h;obtain ⟨its',r',⟨o',e',_,n',d'⟩,_⟩:=I.tuple h';rw [e] at e'; cases e';rw [d] at d';injection d' with d1 _
 have:its=its':=by simpa using congrArg Array.toList d1
 subst this;exact r.inj r'
end
abbrev Cx.wish (X:Cx) (E:Value->Shared->Prop):Cx:={ X with xe:=E }
abbrev Cx.nox (X:Cx):Cx:=X.wish fun _ _=>False
theorem Cx.Ok.wish {X:Cx} (ok:X.Ok) (E:Value->Shared->Prop):(X.wish E).Ok :=
 ⟨ok.mod,ok.kind,ok.glob,ok.blt,ok.above,ok.inj,ok.has,ok.cab,ok.hd,ok.frames,ok.stk,ok.exf,ok.bs,ok.bsz,ok.noex,ok.exfs,ok.funs,ok.frf⟩
theorem Cx.Ok.unwish {X:Cx} {E:Value->Shared->Prop} (ok:(X.wish E).Ok):X.Ok :=
 ⟨ok.mod,ok.kind,ok.glob,ok.blt,ok.above,ok.inj,ok.has,ok.cab,ok.hd,ok.frames,ok.stk,ok.exf,ok.bs,ok.bsz,ok.noex,ok.exfs,ok.funs,ok.frf⟩
section
variable {X:Cx} {pins:List (Addr×Obj)} {σ:St} {H:Hp} {s:Shared} {E:Value->Shared->Prop}
theorem Inv.wish (I:Inv X pins σ H s) (E:Value->Shared->Prop):Inv (X.wish E) pins σ H s:=⟨I.ok.wish E,I.os,I.bare,I.base,I.loc,I.cell,I.free,I.freeC,I.pin,I.hok,I.len⟩
theorem Inv.unwish (I:Inv (X.wish E) pins σ H s):Inv X pins σ H s:=⟨I.ok.unwish,I.os,I.bare,I.base,I.loc,I.cell,I.free,I.freeC,I.pin,I.hok,I.len⟩
theorem SP.unwish {D:Ju} {f:Flow} {s':Shared} (h:SP (X.wish E) pins D f s'):SP X pins D f s':=by
 cases f with
 | next=>obtain ⟨σ',H',I,q⟩:=h; exact ⟨σ',H',I.unwish,q⟩
 | brk=>obtain ⟨σ',H',I,q⟩:=h; exact ⟨σ',H',I.unwish,q⟩
 | cont=>obtain ⟨σ',H',I,q⟩:=h; exact ⟨σ',H',I.unwish,q⟩
 | ret u=>obtain ⟨v,σ',H',I,r,q⟩:=h; exact ⟨v,σ',H',I.unwish,r,q⟩
theorem PSs.nox {st:List Stmt} {t:TS} (h:PSs X.nox st t):PSs X st t:=fun pins s σ H D I hw =>
 wpAny_mono (h pins s σ H D (I.wish _) hw) (fun _ _ q=>q.unwish) fun _ _ z=>False.elim z
end
section
variable {X:Cx} {st:Stmt} {rest:List Stmt} {t u:TS} {e:Expr} {te:TE} {pos:Pos}
def tNext:TS:=fun D σ H=>D.nx σ H
def tSeq (t u:TS):TS:=fun D σ H=>t { D with nx:=u D } σ H
theorem AE:PSs X [] tNext:=fun _ _ σ H _ I h=>wpAny_execs_nil ⟨σ,H,I,h⟩
theorem Ae (h1:PS X st t) (h2:PSs X rest u):PSs X (st :: rest) (tSeq t u):=by
 intro pins s σ H D I h;refine wpAny_execs_cons (thn (h1 pins s σ H { D with nx:=u D } I h) fun f s1 q=>?_);cases f with
 | next =>
  obtain ⟨σ',H',I',q⟩:=q;exact h2 pins s1 σ' H' D I' q
 | ret v=>exact q
 | brk=>exact q
 | cont=>exact q
theorem Aj (h1:PS X st t):PSs X [st] t:=by
 intro pins s σ H D I h;refine wpAny_execs_cons (thn (h1 pins s σ H D I h) fun f s1 q=>?_);cases f with
 | next=>exact wpAny_execs_nil q
 | ret v=>exact q
 | brk=>exact q
 | cont=>exact q
theorem Inv.quiet {pins:List (Addr×Obj)} {σ:St} {H:Hp} {s:Shared} (I:Inv X pins σ H s):interactive X.env=false:=by simp [interactive,I.ok.kind]
def tDrop (te:TE):TS:=fun D σ H=>te σ H fun _ H1=>D.nx σ H1
theorem BQ (he:PE X e te) (hs:swapsWith e none pos.line X.env=pure false:=by rfl):PS X (.Expr e pos) (tDrop te):=by
 intro pins s σ H D I h;exact wpAny_Expr_any (thn (he pins s σ H _ I h) fun v s1 ⟨x,H1,I1,r1,q1⟩=>⟨σ,H1,I1,q1⟩) I.quiet hs
def tRet (te:TE):TS:=fun D σ H=>te σ H D.rt
theorem AA (he:PE X e te):PS X (.Return (some e) pos) (tRet te):=by
 intro pins s σ H D I h;exact wpAny_Return_some (thn (he pins s σ H _ I h) fun v s1 ⟨x,H1,I1,r1,q1⟩=>⟨x,σ,H1,I1,r1,q1⟩)
def tIfS (c:TT) (t u:TS):TS:=fun D σ H=>c σ H fun b H1=>if b=true then t D σ H1 else u D σ H1
theorem Ba {c:Expr} {a b:List Stmt} {tc:TT} (hc:PT X c tc) (ha:PSs X a t) (hb:PSs X b u):PS X (.If c a b pos) (tIfS tc t u):=by
 intro pins s σ H D I h;refine wpAny_If (thn (hc pins s σ H _ I h) fun d s1 ⟨H1,I1,q1⟩=>?_);cases d with
 | true=>exact ha pins s1 σ H1 D I1 q1
 | false=>exact hb pins s1 σ H1 D I1 q1
def tNever:TS:=fun _ _ _=>False
theorem BS:PS X st tNever:=fun _ _ _ _ _ _ h=>h.elim
end
abbrev TG:=V->St->Hp->(St->Hp->Prop)->Prop
abbrev TGs:=List V->St->Hp->(St->Hp->Prop)->Prop
def PG (X:Cx) (target:Expr) (t:TG):Prop :=
 ∀ (pins:List (Addr×Obj)) (s:Shared) (σ:St) (H:Hp) (v:V) (u:Value) (Q:St->Hp->Prop),Inv X pins σ H s->Be v u->t v σ H Q ->
  wpAny (model X.prog X.w) X.A (assign target X.env u) (fun _ s'=>∃ σ' H',Inv X pins σ' H' s'/\Q σ' H') X.xe s
def PGs (X:Cx) (ts:List Expr) (t:TGs):Prop :=
 ∀ (pins:List (Addr×Obj)) (s:Shared) (σ:St) (H:Hp) (vs:List V) (us:List Value) (Q:St->Hp->Prop),Inv X pins σ H s->AS vs us->t vs σ H Q ->
  wpAny (model X.prog X.w) X.A (assignInOrder ((assignEach ts X.env).map (·.2)) us) (fun _ s'=>∃ σ' H',Inv X pins σ' H' s'/\Q σ' H') X.xe s
abbrev TSet:=V->V->V->Hp->(Hp->Prop)->Prop
def PSet (X:Cx) (t:TSet):Prop :=
 ∀ (pins:List (Addr×Obj)) (s:Shared) (σ:St) (H:Hp) (o i v:V) (ov iv u:Value) (Q:Hp->Prop),Inv X pins σ H s->Be o ov->Be i iv->Be v u->t o i v H Q ->
  wpAny (model X.prog X.w) X.A (setItem ov iv u) (fun _ s'=>∃ H',Inv X pins σ H' s'/\Q H') X.xe s
section
variable {X:Cx} {pos:Pos}
def Lq (i:Nat):TG:=fun v σ H Q=>Q (σ.set i (some v)) H
theorem AQ {i:Nat} {x:Str} (hN:X.N.Nodup) (hi:X.N[i]?=some x) (hx:Loc X.env.scope x) (hf:X.fn x=true\/X.env.scope.names.lookup x=some .local:=by first | exact .inl rfl | exact .inr rfl | assumption):PG X (.Name x pos) (Lq i):=by
 intro pins s σ H v u Q I r h;exact wpAny_assign_Name (NB I hN hi hx r (fun s' I'=>⟨_,H,I',h⟩) hf)
def gNil:TGs:=fun vs σ H Q=>vs=[]/\Q σ H
def Od (t:TG) (u:TGs):TGs:=fun vs σ H Q=>∃ v r,vs=v :: r/\t v σ H fun σ' H'=>u r σ' H' Q
theorem Fl:PGs X [] gNil:=by
 intro pins s σ H vs us Q I r h;obtain ⟨e,h⟩:=h;subst e;cases r;exact assignInOrder_nil ⟨σ,H,I,h⟩
theorem BJ {e:Expr} {es:List Expr} {t:TG} {u:TGs} (h1:PG X e t) (h2:PGs X es u)
  (hs:(assignEach (e :: es) X.env).map (·.2)=assign e X.env :: (assignEach es X.env).map (·.2):=by rfl):PGs X (e :: es) (Od t u):=by
 intro pins s σ H vs us Q I r h;obtain ⟨v,vr,e1,h⟩:=h;subst e1;cases r with
 | cons r rr =>
  rw [hs];refine assignInOrder_cons (thn (h1 pins s σ H _ _ _ I r h) fun _ s1 ⟨σ1,H1,I1,q1⟩=>?_);exact h2 pins s1 σ1 H1 _ _ Q I1 rr q1
def gTup (K:PySem.W.Frag) (n:Nat) (t:TGs):TG:=fun v σ H Q=>∃ a xs,v=.ref a/\SqT K H a xs/\xs.length=n/\t xs σ H Q
theorem FY {es:List Expr} {k:Nat} {t:TGs} {n:Nat} (hc:X.calm=true) (h:PGs X es t)
  (hn:(assignEach es X.env).length=n:=by rfl) (hst:(assignEach es X.env).findIdx? (·.1)=none:=by rfl):PG X (.Tuple es k pos) (gTup X.K n t):=by
 intro pins s σ H v u Q I r hw;obtain ⟨a,xs,e1,hq,hl,hw⟩:=hw;subst e1;cases r;obtain ⟨its,rv,ht,hz⟩:=I.tuple hq;refine assign_Tuple_tuple (I.ok.hd hc) ht (by simp [hn,<-hl,rv.length]) hst fun h' hx=>?_;have I1:Inv X pins σ H { s with heap:=h' }:=I.kept (t':=s.toks) fun b o e=>hx b o (Nat.ne_of_lt (Heap.lt_size e)) e;exact h pins _ σ H xs _ Q I1 (by simpa using rv) hw
def gSub (to ti:TE) (t:TSet):TG:=fun v σ H Q=>to σ H fun o H1=>ti σ H1 fun i H2=>t o i v H2 fun H3=>Q σ H3
theorem pg_sub {o i:Expr} {to ti:TE} {t:TSet} (ho:PE X o to) (hi:PE X i ti) (hs:PSet X t)
  (ha:∀ v,assign (.Subscript o i pos) X.env v=(do
   let ov <-holding [v] (eval o X.env);let iv <-holding [v,ov] (eval i X.env)
   standAt pos
   holding [v,ov,iv] (setItem ov iv v)
   release [v,ov,iv] []):=by intro _; rfl):PG X (.Subscript o i pos) (gSub to ti t):=by
 intro pins s σ H v u Q I r h;rw [ha];refine wpAny_bind (wpAny_holding (thn (ho pins s σ H _ I h) fun ov s1 ⟨x,H1,I1,r1,q1⟩=>?_));refine wpAny_bind (wpAny_holding (thn (hi pins s1 σ H1 _ I1 q1) fun iv s2 ⟨y,H2,I2,r2,q2⟩=>?_));refine wpAny_bind (wpAny_standAt (wpAny_bind (wpAny_holding (thn (hs pins s2 σ H2 x y v ov iv u _ I2 r1 r2 r q2) fun _ s3 ⟨H3,I3,q3⟩=>?_))));exact wpAny_release ⟨σ,H3,I3,q3⟩
def tAsg (te:TE) (g:TG):TS:=fun D σ H=>te σ H fun x H1=>g x σ H1 D.nx
theorem ps_asg {tg e:Expr} {te:TE} {g:TG} (he:PE X e te) (hg:PG X tg g) (hs:swapsWithSole [tg] e pos.line X.env=pure false:=by rfl) (hw:swappedStores [tg] e X.env=pure none:=by rfl)
  (h1:(assignEach [tg] X.env).map (·.2)=[assign tg X.env]:=by rfl):PS X (.Assign [tg] e pos) (tAsg te g):=by
 intro pins s σ H D I h;refine wpAny_Assign_stores (thn (he pins s σ H _ I h) fun v s1 ⟨x,H1,I1,r1,q1⟩=>?_) hs hw;rw [h1];exact thn (hg pins s1 σ H1 x v _ I1 r1 q1) fun _ s2 q=>q
theorem Av {i:Nat} {x:Str} {e:Expr} {te:TE} {pos':Pos} (hN:X.N.Nodup) (hi:X.N[i]?=some x) (hx:Loc X.env.scope x) (he:PE X e te) (hs:swapsWith e (some (.Name x pos')) pos.line X.env=pure false:=by rfl) (hf:X.fn x=true\/X.env.scope.names.lookup x=some .local:=by first | exact .inl rfl | exact .inr rfl | assumption) :
  PS X (.Assign [.Name x pos'] e pos) (tAsg te (Lq i)):=by
 intro pins s σ H D I h;refine wpAny_Assign_Name (thn (he pins s σ H _ I h) fun v s1 ⟨y,H1,I1,r1,q1⟩=>?_) hs;exact NB I1 hN hi hx r1 (fun s2 I2=>⟨_,H1,I2,q1⟩) hf
end
section
variable {X:Cx} {pos:Pos}
def tWhile (c:TT) (tb:TS):TS:=fun D σ H=>∃ W:Nat->St->Hp->Prop,(∃ m,W m σ H)/\∀ m σ H,W m σ H ->
 c σ H fun b H1=>if b=true then ∃ N:St->Hp->Prop,(∀ σ' H',N σ' H'->∃ m',m' < m/\W m' σ' H')/\tb { D with nx:=N,ct:=N,bk:=D.nx } σ H1 else D.nx σ H1
theorem RI {c:Expr} {body:List Stmt} {tc:TT} {tb:TS} (hp:PassesOwn (model X.prog X.w) X.A X.env X.xe) (hc:PT X c tc) (hb:PSs X body tb):PS X (.While c body [] pos) (tWhile tc tb):=by
 intro pins s σ H D I h;obtain ⟨W,⟨m0,w0⟩,turn⟩:=h;refine wpAny_While (codeAny_whileLoop (fun n s'=>∃ σ' H',Inv X pins σ' H' s'/\W n σ' H') ?_ m0 ⟨σ,H,I,w0⟩);rintro n s1 ⟨σ1,H1,I1,w1⟩;refine wpAny_passesOwn hp (thn (hc pins s1 σ1 H1 _ I1 (turn n σ1 H1 w1)) fun b s2 ⟨H2,I2,q2⟩=>?_);cases b with
 | true =>
  obtain ⟨N,hN,q2⟩:=q2;rw [if_pos rfl];refine wpAny_passesOwn hp (thn (hb pins s2 σ1 H2 _ I2 q2) fun f s3 q3=>?_);cases f with
  | next =>
   obtain ⟨σ3,H3,I3,n3⟩:=q3;obtain ⟨m',hm,w3⟩:=hN σ3 H3 n3;exact ⟨m',hm,σ3,H3,I3,w3⟩
  | cont =>
   obtain ⟨σ3,H3,I3,n3⟩:=q3;obtain ⟨m',hm,w3⟩:=hN σ3 H3 n3;exact ⟨m',hm,σ3,H3,I3,w3⟩
  | brk=>exact q3
  | ret v=>exact q3
 | false =>
  rw [if_neg Bool.false_ne_true];exact wpAny_execs_nil ⟨σ1,H2,I2,q2⟩
end
structure It where
 go:Nat->Hp->Prop
 yld:Nat->Hp->V->Hp->Prop
 stop:Nat->Hp->Prop
def Go (X:Cx) (pins:List (Addr×Obj)) (H:Hp) (b:Addr):Prop :=
 H b=none/\b≠X.env.locals/\b ∉ X.fs/\(b ∈ X.ex\/X.s₀.heap.objs.size<=b)/\(∀ x c,X.env.cells.lookup x=some c->c≠b)/\∀ p ∈ X.pn ++ pins,p.1≠b
theorem Inv.fpOk {X:Cx} {pins:List (Addr×Obj)} {σ:St} {H H':Hp} {s:Shared} {b:Addr} (I:Inv X pins σ H s) (hb:s.heap.objs.size<=b) (hn:H' b=none):Go X pins H' b:=by
 refine ⟨hn,Nat.ne_of_gt (Nat.lt_of_lt_of_le I.lt hb),I.nofs hb,.inr (Nat.le_trans I.sz hb),fun x c e z=>?_,fun p hp z=>?_⟩
 ·obtain ⟨v,q⟩:=I.cell x c e;exact absurd (Nat.lt_of_lt_of_le q.lt (by rw [z]; exact hb)) (Nat.lt_irrefl _)
 ·exact absurd (Nat.lt_of_lt_of_le (Heap.lt_size (I.pin p hp).1) (by rw [z]; exact hb)) (Nat.lt_irrefl _)
structure LO (P:Program) (w:World) (K:PySem.W.Frag) (tg:Expr) (J:It) (fp:List Addr) (it:Addr) (tn:Nat->Heap->Prop):Prop where
 mem:it ∈ fp
 obj:∀ i h,tn i h->∀ b ∈ fp,∃ o,h.get? b=some o/\∀ v,o.data≠.cell v
 keep:∀ i h h',tn i h->(∀ b ∈ fp,∀ o,h.get? b=some o->h'.get? b=some o)->tn i h'
 item:∀ (X:Cx),X.prog=P->X.w=w->X.K=K->X.calm=true->∀ (i:Nat) (pins:List (Addr×Obj)) (s:Shared) (σ:St) (H:Hp) (E:Value->Shared->Prop),Inv X pins σ H s->(∀ b ∈ fp,Go X pins H b)->tn i s.heap->J.go i H ->
  wpAny (model P w) X.A (pyNext (.ref it)) (fun r s1=>∃ u,r=some u /\
   wpAny (model P w) X.A (letOwnedTupleGo tg (.ref it) u) (fun _ s2=>∃ x H',Inv X pins σ H' s2/\Be x u/\J.yld i H x H'/\tn (i+1) s2.heap/\∀ b ∈ fp,H' b=none) E s1) E s
 done:∀ (X:Cx),X.prog=P->X.w=w->X.K=K->X.calm=true->∀ (i:Nat) (pins:List (Addr×Obj)) (s:Shared) (σ:St) (H:Hp) (E:Value->Shared->Prop),Inv X pins σ H s->(∀ b ∈ fp,Go X pins H b)->tn i s.heap->J.stop i H ->
  wpAny (model P w) X.A (pyNext (.ref it)) (fun r s1=>r=none/\Inv X pins σ H s1) E s
 self:∀ (A:Around) (i:Nat) (s:Shared) (Q:Value->Shared->Prop) (E:Value->Shared->Prop),tn i s.heap->Q (.ref it) s->wpAny (model P w) A (pyIter (.ref it)) Q E s
abbrev TI:=St->Hp->(It->Hp->Prop)->Prop
def PIE (X:Cx) (pins:List (Addr×Obj)) (σ:St) (tg:Expr) (R:It->Hp->Prop) (itv:Value) (s2:Shared):Prop :=
 ∃ (it:Addr) (fp:List Addr) (tn:Nat->Heap->Prop) (J:It) (H':Hp),itv=.ref it/\Inv X pins σ H' s2/\LO X.prog X.w X.K tg J fp it tn/\tn 0 s2.heap/\(∀ b ∈ fp,Go X pins H' b)/\R J H'
def PI (X:Cx) (tg iter:Expr) (wi:TI):Prop :=
 ∀ (pins:List (Addr×Obj)) (s:Shared) (σ:St) (H:Hp) (R:It->Hp->Prop),Inv X pins σ H s->wi σ H R ->
  wpAny (model X.prog X.w) X.A (eval iter X.env) (fun v s1=>wpAny (model X.prog X.w) X.A (pyIter v) (PIE X pins σ tg R) X.xe s1) X.xe s
theorem Oc {M:Model} {A:Around} {E:Value->Shared->Prop} {s:Shared} {tg:Expr} {it:Addr} {u:Value} {o:Obj} {n:String} {vs:Array Value} {Q:Unit->Shared->Prop} (ho:s.heap.get? it=some o) (hc:o.cls=.type n) (hd:o.data=.fields vs)
    (hn:["enumerate","zip","dict_itemiterator","dict_reverseitemiterator","odict_iterator","itertools.zip_longest","itertools.pairwise"].contains n=false) (hQ:Q () s):wpAny M A (letOwnedTupleGo tg (.ref it) u) Q E s:=by
  unfold letOwnedTupleGo;cases tg<;>first
    | exact wpAny_pure hQ
    | (cases u<;>first
        | exact wpAny_pure hQ
        | (refine wpAny_bind (wpAny_load ho ?_)
           rw [hc,hd];show wpAny M A (if (["enumerate","zip","dict_itemiterator","dict_reverseitemiterator","odict_iterator","itertools.zip_longest","itertools.pairwise"].contains n && vs[0]? == some (rawInt _))=true then _ else _) Q E s;rw [if_neg (by intro h; rw [hn,Bool.false_and] at h; cases h)];exact wpAny_pure hQ))
def Itl (K:PySem.W.Frag) (a:Addr):It :=
 ⟨fun i H=>∃ xs x,SqL K H a xs/\xs[i]?=some x,fun i H x H'=>H'=H/\∀ xs,SqL K H a xs->xs[i]?=some x,fun i H=>∃ xs,SqL K H a xs/\xs.length<=i⟩
def Itt (K:PySem.W.Frag) (a:Addr):It :=
 ⟨fun i H=>∃ xs x,SqT K H a xs/\xs[i]?=some x,fun i H x H'=>H'=H/\∀ xs,SqT K H a xs->xs[i]?=some x,fun i H=>∃ xs,SqT K H a xs/\xs.length<=i⟩
def Itr (lo:Int) (n:Nat):It:=⟨fun i _=>i < n,fun i H x H'=>H'=H/\x=.int (lo+i),fun i _=>n<=i⟩
theorem Qq {P:Program} {w:World} {K:PySem.W.Frag} {tg:Expr} (a it:Addr):LO P w K tg (Itl K a) [it] it (fun i h=>h.IsListIter it a i) where
 mem:=by simp
 obj:=fun i h st b hb=>by
  have e:b=it:=by simpa using hb
  subst e;obtain ⟨o,e,c,d⟩:=st;exact ⟨o,e,fun v z=>by rw [d] at z; cases z⟩
 keep:=fun i h h' st k=>st.at fun o e=>k it (by simp) o e
 item:=by
  intro X hP hw hK hc i pins s σ H E I hf st hg;subst hP hw hK;obtain ⟨xs,x,hq,hx⟩:=hg;obtain ⟨its,rv,p,hz⟩:=I.list hq;obtain ⟨u,hu,ru⟩:=rv.get hx;obtain ⟨f0,f1,f2,f3,f4,f5⟩:=hf it (by simp);refine wpAny_pyNext_list_item st p.isList (x:=u) (by simpa using hu) fun h' st' sb=>?_;have I1:Inv X pins σ H { s with heap:=h' }:=I.turned (t':=s.toks) (fun b o hb e=>(sb.2 b hb).trans e) f0 f1 f3 f4 f5;obtain ⟨o,e,c,d⟩:=id st';exact ⟨u,rfl,Oc (s:={ s with heap:=h' }) e c d (by decide) ⟨x,H,I1,ru,⟨rfl,fun ys hy=>by rw [I.list_inj hy hq]; exact hx⟩,st',fun b hb=>(hf b hb).1⟩⟩
 done:=by
  intro X hP hw hK hc i pins s σ H E I hf st hg;subst hP hw hK;obtain ⟨xs,hq,hx⟩:=hg;obtain ⟨its,rv,p,hz⟩:=I.list hq;obtain ⟨f0,f1,f2,f3,f4,f5⟩:=hf it (by simp);have hl:=rv.length;exact wpAny_pyNext_list_end (I.ok.hd hc) st p.isList (by simp; lia) fun h' eb=>⟨rfl,I.turned (t':=s.toks) (fun b o hb e=>eb b o hb e) f0 f1 f3 f4 f5⟩
 self:=fun _ _ _ _ _ st h=>wpAny_pyIter_listiter st h
theorem OB {P:Program} {w:World} {K:PySem.W.Frag} {tg:Expr} (a it:Addr):LO P w K tg (Itt K a) [it] it (fun i h=>h.IsTupleIter it a i) where
 mem:=by simp
 obj:=fun i h st b hb=>by
  have e:b=it:=by simpa using hb
  subst e;obtain ⟨o,e,c,d⟩:=st;exact ⟨o,e,fun v z=>by rw [d] at z; cases z⟩
 keep:=fun i h h' st k=>st.at fun o e=>k it (by simp) o e
 item:=by
  intro X hP hw hK hc i pins s σ H E I hf st hg;subst hP hw hK;obtain ⟨xs,x,hq,hx⟩:=hg;obtain ⟨its,rv,p,hz⟩:=I.tuple hq;obtain ⟨u,hu,ru⟩:=rv.get hx;obtain ⟨f0,f1,f2,f3,f4,f5⟩:=hf it (by simp);refine wpAny_pyNext_tuple_item st (show s.heap.IsTuple a its.toArray from p) (x:=u) (by simpa using hu) fun h' st' sb=>?_;have I1:Inv X pins σ H { s with heap:=h' }:=I.turned (t':=s.toks) (fun b o hb e=>(sb.2 b hb).trans e) f0 f1 f3 f4 f5;obtain ⟨o,e,c,d⟩:=id st';exact ⟨u,rfl,Oc (s:={ s with heap:=h' }) e c d (by decide) ⟨x,H,I1,ru,⟨rfl,fun ys hy=>by rw [I.tuple_inj hy hq]; exact hx⟩,st',fun b hb=>(hf b hb).1⟩⟩
 done:=by
  intro X hP hw hK hc i pins s σ H E I hf st hg;subst hP hw hK;obtain ⟨xs,hq,hx⟩:=hg;obtain ⟨its,rv,p,hz⟩:=I.tuple hq;obtain ⟨f0,f1,f2,f3,f4,f5⟩:=hf it (by simp);have hl:=rv.length;exact wpAny_pyNext_tuple_end (I.ok.hd hc) st (show s.heap.IsTuple a its.toArray from p) (by simp; lia) fun h' eb=>⟨rfl,I.turned (t':=s.toks) (fun b o hb e=>eb b o hb e) f0 f1 f3 f4 f5⟩
 self:=fun _ _ _ _ _ st h=>wpAny_pyIter_tupleiter st h
theorem OC {P:Program} {w:World} {K:PySem.W.Frag} {tg:Expr} (it:Addr) (lo:Int) (n:Nat):LO P w K tg (Itr lo n) [it] it (fun i h=>IsRangeIter h it (lo+(i:Nat) * 1) ((n:Int) - (i:Nat)) 1) where
 mem:=by simp
 obj:=fun i h st b hb=>by
  have e:b=it:=by simpa using hb
  subst e;exact ⟨_,st,fun v z=>by
   have z':Data.fields _=Data.cell v:=z;cases z'⟩
 keep:=fun i h h' st k=>k it (by simp) _ st
 item:=by
  intro X hP hw hK hc i pins s σ H E I hf st hg;subst hP hw hK;obtain ⟨f0,f1,f2,f3,f4,f5⟩:=hf it (by simp);have W:=Walks.range (prog:=X.prog) (w:=X.w) (I.ok.hd hc) it lo 1 n;refine W.item i s _ _ hg st fun v h' tk hv st' kk=>?_;obtain ⟨t,rfl⟩:=hv;have I1:Inv X pins σ H { s with heap:=h',toks:=tk }:=I.turned (fun b o hb e=>kk b o (by simpa using hb) e) f0 f1 f3 f4 f5;refine ⟨_,rfl,Oc (s:={ s with heap:=h',toks:=tk }) (n:="range_iterator") st' rfl rfl (by decide) ⟨.int (lo+i),H,I1,⟨t,?_⟩,⟨rfl,rfl⟩,st',fun b hb=>(hf b hb).1⟩⟩;rw [Int.mul_one]
 done:=by
  intro X hP hw hK hc i pins s σ H E I hf st hg;subst hP hw hK;obtain ⟨f0,f1,f2,f3,f4,f5⟩:=hf it (by simp);exact wpAny_pyNext_range_end (I.ok.hd hc) st (by have:n<=i:=hg; lia) fun h' eb=>⟨rfl,I.turned (t':=s.toks) (fun b o hb e=>eb b o hb e) f0 f1 f3 f4 f5⟩
 self:=fun _ _ _ _ _ st h=>wpAny_pyIter_rangeiter st h
end L2
namespace L2
open PySem PySem.Spec PyProof.Rows
section
variable {X:Cx} {tg:Expr}
def iList (K:PySem.W.Frag) (tl:TE):TI:=fun σ H R=>tl σ H fun x H1=>∃ a,x=.ref a/\(∃ xs,SqL K H1 a xs)/\R (Itl K a) H1
def iTup (K:PySem.W.Frag) (tl:TE):TI:=fun σ H R=>tl σ H fun x H1=>∃ a,x=.ref a/\(∃ xs,SqT K H1 a xs)/\R (Itt K a) H1
theorem BB {l:Expr} {tl:TE} (hl:PE X l tl):PI X tg l (iList X.K tl):=by
 intro pins s σ H R I h;refine thn (hl pins s σ H _ I h) fun v s1 ⟨x,H1,I1,r1,q1⟩=>?_;obtain ⟨a,e,⟨xs,hq⟩,q⟩:=q1;subst e;cases r1;obtain ⟨its,rv,p,hz⟩:=I1.list hq;refine wpAny_pyIter_list p.isList ?_;refine ⟨s1.heap.objs.size,[s1.heap.objs.size],_,_,H1,rfl,I1.kept (t':=s1.toks) fun b o e=>Heap.get?_push_of_some _ e,Qq a _,⟨_,Heap.get?_push_size _ rfl,rfl,rfl⟩,fun b hb=>?_,q⟩;have e:b=s1.heap.objs.size:=by simpa using hb
 subst e;exact I1.fpOk (Nat.le_refl _) (I1.hok.fresh (Nat.le_refl _))
theorem MN {l:Expr} {tl:TE} (hl:PE X l tl):PI X tg l (iTup X.K tl):=by
 intro pins s σ H R I h;refine thn (hl pins s σ H _ I h) fun v s1 ⟨x,H1,I1,r1,q1⟩=>?_;obtain ⟨a,e,⟨xs,hq⟩,q⟩:=q1;subst e;cases r1;obtain ⟨its,rv,p,hz⟩:=I1.tuple hq;refine wpAny_pyIter_tuple (show s1.heap.IsTuple a its.toArray from p) ?_;refine ⟨s1.heap.objs.size,[s1.heap.objs.size],_,_,H1,rfl,I1.kept (t':=s1.toks) fun b o e=>Heap.get?_push_of_some _ e,OB a _,⟨_,Heap.get?_push_size _ rfl,rfl,rfl⟩,fun b hb=>?_,q⟩;have e:b=s1.heap.objs.size:=by simpa using hb
 subst e;exact I1.fpOk (Nat.le_refl _) (I1.hok.fresh (Nat.le_refl _))
theorem NK {pins:List (Addr×Obj)} {σ:St} {H:Hp} {s:Shared} {R:It->Hp->Prop} {E:Value->Shared->Prop} {lo hi:Int} {t u v:Tok} {tk:Nat} (I:Inv X pins σ H s) (h1:-(2 ^ 62)<=lo) (h2:lo < 2 ^ 62) (h3:-(2 ^ 62)<=hi) (h4:hi < 2 ^ 62)
  (q:R (Itr lo (hi - lo).toNat) H):wpAny (model X.prog X.w) X.A (pyIter (.ref s.heap.objs.size)) (PIE X pins σ tg R) E { s with heap:=s.heap.push { cls:=.type "range",data:=.fields #[.int lo t,.int hi u,.int 1 v] },toks:=tk }:=by
 refine wpAny_pyIter_range (IsRange.new ..) (small_one h1 h2 h3 h4) ?_;have I1:Inv X pins σ H { s with heap:=s.heap.push { cls:=.type "range",data:=.fields #[.int lo t,.int hi u,.int 1 v] },toks:=tk }:=I.kept fun b o e=>Heap.get?_push_of_some _ e;refine ⟨(s.heap.push { cls:=.type "range",data:=.fields #[.int lo t,.int hi u,.int 1 v] }).objs.size,[(s.heap.push { cls:=.type "range",data:=.fields #[.int lo t,.int hi u,.int 1 v] }).objs.size],_,_,H,rfl,
  I1.kept (t':=tk) fun b o e=>Heap.get?_push_of_some _ e,OC _ lo (hi - lo).toNat,?_,fun b hb=>?_,q⟩
 ·have e1:lo+((0:Nat):Int) * 1=lo:=by simp
  have e2:(((hi - lo).toNat:Nat):Int) - ((0:Nat):Int)=Builtin.Range.rangeSize lo hi 1:=by rw [rangeSize_one]; split<;>lia
  show IsRangeIter _ _ (lo+((0:Nat):Int) * 1) ((((hi - lo).toNat:Nat):Int) - ((0:Nat):Int)) 1;rw [e1,e2];exact Heap.get?_push_size _ rfl
 ·have e:b=(s.heap.push { cls:=.type "range",data:=.fields #[.int lo t,.int hi u,.int 1 v] }).objs.size:=by simpa using hb
  subst e;exact I1.fpOk (Nat.le_refl _) (I1.hok.fresh (Nat.le_refl _))
def iRng1 (ta:TA):TI:=fun σ H R=>ta σ H fun vs H1=>∃ j:Int,vs=[.int j]/\-(2 ^ 62)<=j/\j < 2 ^ 62/\R (Itr 0 j.toNat) H1
def iRng2 (ta:TA):TI:=fun σ H R=>ta σ H fun vs H1=>∃ i j:Int,vs=[.int i,.int j]/\(-(2 ^ 62)<=i/\i < 2 ^ 62/\-(2 ^ 62)<=j/\j < 2 ^ 62)/\R (Itr i (j - i).toNat) H1
theorem CN {a:Expr} {ta:TA} {p pos:Pos} (hg:Gl X "range") (hm:X.mg "range" = none) (ha:PA X [a] ta) (hs:starEach [a] X.env=[(false,eval a X.env)]:=by rfl):PI X tg (.Call (.Name "range" p) [a] [] pos) (iRng1 ta):=by
 intro pins s σ H R I h;refine Call_ (GF I hg hm boot_range (PyProof.Rows.callWith_type1 (thn (ha pos pins s σ H _ I h) fun us s1 ⟨vs,H1,I1,r1,q1⟩=>?_) hs rfl));obtain ⟨j,e,q1,q2,q⟩:=q1;subst e;cases r1 with
 | cons r rr =>
  cases rr;obtain ⟨t,rfl⟩:=r;exact call_range_1 (NK I1 (by lia) (by lia) q1 q2 (by simpa using q))
theorem IQ {a b:Expr} {ta:TA} {p pos:Pos} (hg:Gl X "range") (hm:X.mg "range" = none) (ha:PA X [a,b] ta) (hs:starEach [a,b] X.env=[(false,eval a X.env),(false,eval b X.env)]:=by rfl) (hs2:starEach [b] X.env=[(false,eval b X.env)]:=by rfl) :
  PI X tg (.Call (.Name "range" p) [a,b] [] pos) (iRng2 ta):=by
 intro pins s σ H R I h;refine Call_ (GF I hg hm boot_range (PyProof.Rows.callWith_type1 (thn (ha pos pins s σ H _ I h) fun us s1 ⟨vs,H1,I1,r1,q1⟩=>?_) (by rw [hs,hs2]) (by rw [hs2]; rfl)));obtain ⟨i,j,e,⟨q1,q2,q3,q4⟩,q⟩:=q1;subst e;cases r1 with
 | cons r rr =>
  cases rr with
  | cons r' rr =>
   cases rr;obtain ⟨t,rfl⟩:=r;obtain ⟨t',rfl⟩:=r';exact call_range_2 (NK I1 q1 q2 q3 q4 q)
def tFor (wi:TI) (g:TG) (tb:TS):TS:=fun D σ H=>wi σ H fun J H1=>∃ W:Nat->Nat->St->Hp->Prop,(∃ m,W 0 m σ H1)/\∀ i m σ H,W i m σ H ->
 (J.stop i H/\D.nx σ H)\/(J.go i H/\∃ N:St->Hp->Prop,(∀ σ' H',N σ' H'->∃ m',m' < m/\W (i+1) m' σ' H')/\∀ x H',J.yld i H x H'->g x σ H' fun σ2 H2=>tb { D with nx:=N,ct:=N,bk:=D.nx } σ2 H2)
def IP (fp:List Addr) (h:Heap):List (Addr×Obj):=fp.filterMap fun b=>(h.get? b).map fun o=>(b,o)
theorem Gb {fp:List Addr} {h:Heap} {b:Addr} {o:Obj} (hb:b ∈ fp) (e:h.get? b=some o):(b,o) ∈ IP fp h:=List.mem_filterMap.mpr ⟨b,hb,by rw [e]; rfl⟩
theorem LX {fp:List Addr} {h:Heap} {p:Addr×Obj} (hp:p ∈ IP fp h):p.1 ∈ fp/\h.get? p.1=some p.2:=by
 obtain ⟨b,hb,e⟩:=List.mem_filterMap.mp hp;cases q:h.get? b with
 | none=>rw [q] at e; cases e
 | some o =>
  rw [q] at e;have e':(b,o)=p:=Option.some.inj e;subst e';exact ⟨hb,q⟩
theorem Inv.pinned {pins:List (Addr×Obj)} {σ:St} {H:Hp} {s:Shared} {fp:List Addr} (I:Inv X pins σ H s) (hf:∀ b ∈ fp,Go X pins H b) (ho:∀ b ∈ fp,∃ o,s.heap.get? b=some o/\∀ v,o.data≠.cell v):Inv X (pins ++ IP fp s.heap) σ H s :=
 I.pins_of fun p hp=>(List.mem_append.mp hp).elim (fun z=>I.pin p (List.mem_append_right _ z)) fun z=>by
  obtain ⟨hb,e⟩:=LX z;obtain ⟨f0,f1,f2,_⟩:=hf p.1 hb;obtain ⟨o,e',d⟩:=ho p.1 hb;rw [e] at e'; cases e';exact ⟨e,f0,f1,f2,d⟩
theorem Inv.unpinned {pins pl:List (Addr×Obj)} {σ:St} {H:Hp} {s:Shared} (I:Inv X (pins ++ pl) σ H s):Inv X pins σ H s:=I.pins_of fun p hp=>I.pin p (List.mem_append_right _ (List.mem_append_left _ hp))
theorem BP {iter:Expr} {body:List Stmt} {wi:TI} {g:TG} {tb:TS} {pos:Pos} (hp:PassesOwn (model X.prog X.w) X.A X.env X.xe) (hc:X.calm=true) (hi:PI X tg iter wi) (hg:PG X tg g) (hb:PSs X body tb)
  (hs:∀ x,foldedSetIterable iter X.env x=pure x:=by intro _; rfl):PS X (.For tg iter body [] pos) (tFor wi g tb):=by
 intro pins s σ H D I h;refine wpAny_For (thn (hi pins s σ H _ I h) fun v s1 h1=>thn h1 fun itv s2 h2=>?_) hs;obtain ⟨it,fp,tn,J,H2,e,I2,T,st2,f2,W,⟨m0,w0⟩,turn⟩:=h2;subst e;have stat:∀ {H':Hp},(∀ b ∈ fp,H' b=none)->∀ b ∈ fp,Go X pins H' b:=fun hn b hb=>⟨hn b hb,(f2 b hb).2⟩
 refine codeAny_forLoop_any (fun n s'=>∃ i σ' H',Inv X pins σ' H' s'/\tn i s'.heap/\(∀ b ∈ fp,H' b=none)/\W i n σ' H') ?_ m0 ⟨0,σ,H2,I2,st2,fun b hb=>(f2 b hb).1,w0⟩;rintro n s3 ⟨i,σ3,H3,I3,st3,fr3,w3⟩;rcases turn i n σ3 H3 w3 with ⟨stop,qn⟩ | ⟨go,N,hN,step⟩
 ·refine wpAny_passesOwn hp (thn (T.done X rfl rfl rfl hc i pins s3 σ3 H3 X.xe I3 (stat fr3) st3 stop) fun r s4 ⟨hr,I4⟩=>?_);subst hr;exact wpAny_execs_nil ⟨σ3,H3,I4,qn⟩
 ·refine wpAny_passesOwn hp (thn (T.item X rfl rfl rfl hc i pins s3 σ3 H3 X.xe I3 (stat fr3) st3 go) fun r s4 ⟨u,hr,h4⟩=>?_);subst hr;refine wpAny_passesOwn hp (thn h4 fun _ s5 ⟨x,H5,I5,r5,y5,st5,fr5⟩=>?_);have I5':=I5.pinned (stat fr5) (T.obj _ _ st5);refine wpAny_passesOwn hp (thn (hg _ s5 σ3 H5 x u _ I5' r5 (step x H5 y5)) fun _ s6 ⟨σ6,H6,I6,q6⟩=>?_);refine wpAny_passesOwn hp (thn (hb _ s6 σ6 H6 _ I6 q6) fun f s7 q7=>?_);have again:∀ {σ7:St} {H7:Hp},Inv X (pins ++ IP fp s5.heap) σ7 H7 s7->N σ7 H7->∃ m,m < n/\∃ i σ' H',Inv X pins σ' H' s7/\tn i s7.heap/\(∀ b ∈ fp,H' b=none)/\W i m σ' H':=fun {σ7 H7} I7 n7=>by
   obtain ⟨m',hm,w7⟩:=hN σ7 H7 n7;refine ⟨m',hm,i+1,σ7,H7,I7.unpinned,T.keep _ _ _ st5 fun b hb o e=>(I7.pin (b,o) (List.mem_append_right _ (List.mem_append_right _ (Gb hb e)))).1,fun b hb=>?_,w7⟩;obtain ⟨o,e,d⟩:=T.obj _ _ st5 b hb;exact (I7.pin (b,o) (List.mem_append_right _ (List.mem_append_right _ (Gb hb e)))).2.1
  cases f with
  | next=>obtain ⟨σ7,H7,I7,n7⟩:=q7; exact again I7 n7
  | cont=>obtain ⟨σ7,H7,I7,n7⟩:=q7; exact again I7 n7
  | brk=>obtain ⟨σ7,H7,I7,q7⟩:=q7; exact ⟨σ7,H7,I7.unpinned,q7⟩
  | ret v=>obtain ⟨x7,σ7,H7,I7,r7,q7⟩:=q7; exact ⟨x7,σ7,H7,I7.unpinned,r7,q7⟩
end
theorem EB {K:PySem.W.Frag} {a:Addr} {xs:List V} {g:TG} {tb:TS} {D:Ju} {σ:St} {H:Hp} (Pv:Nat->St->Hp->Prop) (h0:Pv 0 σ H) (hl:∀ i σ H,i<=xs.length->Pv i σ H->SqL K H a xs)
  (hs:∀ i x σ H,xs[i]?=some x->Pv i σ H->g x σ H fun σ2 H2=>tb { D with nx:=Pv (i+1),ct:=Pv (i+1),bk:=D.nx } σ2 H2) (hd:∀ σ H,Pv xs.length σ H->D.nx σ H) :
  ∃ W:Nat->Nat->St->Hp->Prop,(∃ m,W 0 m σ H)/\∀ i m σ H,W i m σ H ->
   ((Itl K a).stop i H/\D.nx σ H)\/((Itl K a).go i H/\∃ N:St->Hp->Prop,(∀ σ' H',N σ' H'->∃ m',m' < m/\W (i+1) m' σ' H')/\∀ x H',(Itl K a).yld i H x H'->g x σ H' fun σ2 H2=>tb { D with nx:=N,ct:=N,bk:=D.nx } σ2 H2):=by
 refine ⟨fun i m σ H=>m=xs.length - i/\i<=xs.length/\Pv i σ H,⟨xs.length,by simp,Nat.zero_le _,h0⟩,?_⟩;rintro i m σ H ⟨rfl,hi,p⟩;have q:=hl i σ H hi p;by_cases hlt:i < xs.length
 ·refine .inr ⟨⟨xs,xs[i],q,by simp [hlt]⟩,Pv (i+1),fun σ' H' p'=>⟨xs.length - (i+1),by lia,rfl,hlt,p'⟩,fun x H' y=>?_⟩;obtain ⟨e,y⟩:=y;subst e;exact hs i x σ _ (y xs q) p
 ·have e:i=xs.length:=by lia
  subst e;exact .inl ⟨⟨xs,q,Nat.le_refl _⟩,hd σ H p⟩
theorem for_tup {K:PySem.W.Frag} {a:Addr} {xs:List V} {g:TG} {tb:TS} {D:Ju} {σ:St} {H:Hp} (Pv:Nat->St->Hp->Prop) (h0:Pv 0 σ H) (hl:∀ i σ H,i<=xs.length->Pv i σ H->SqT K H a xs)
  (hs:∀ i x σ H,xs[i]?=some x->Pv i σ H->g x σ H fun σ2 H2=>tb { D with nx:=Pv (i+1),ct:=Pv (i+1),bk:=D.nx } σ2 H2) (hd:∀ σ H,Pv xs.length σ H->D.nx σ H) :
  ∃ W:Nat->Nat->St->Hp->Prop,(∃ m,W 0 m σ H)/\∀ i m σ H,W i m σ H ->
   ((Itt K a).stop i H/\D.nx σ H)\/((Itt K a).go i H/\∃ N:St->Hp->Prop,(∀ σ' H',N σ' H'->∃ m',m' < m/\W (i+1) m' σ' H')/\∀ x H',(Itt K a).yld i H x H'->g x σ H' fun σ2 H2=>tb { D with nx:=N,ct:=N,bk:=D.nx } σ2 H2):=by
 refine ⟨fun i m σ H=>m=xs.length - i/\i<=xs.length/\Pv i σ H,⟨xs.length,by simp,Nat.zero_le _,h0⟩,?_⟩;rintro i m σ H ⟨rfl,hi,p⟩;have q:=hl i σ H hi p;by_cases hlt:i < xs.length
 ·refine .inr ⟨⟨xs,xs[i],q,by simp [hlt]⟩,Pv (i+1),fun σ' H' p'=>⟨xs.length - (i+1),by lia,rfl,hlt,p'⟩,fun x H' y=>?_⟩;obtain ⟨e,y⟩:=y;subst e;exact hs i x σ _ (y xs q) p
 ·have e:i=xs.length:=by lia
  subst e;exact .inl ⟨⟨xs,q,Nat.le_refl _⟩,hd σ H p⟩
theorem Do {lo:Int} {n:Nat} {g:TG} {tb:TS} {D:Ju} {σ:St} {H:Hp} (Pv:Nat->St->Hp->Prop) (h0:Pv 0 σ H)
  (hs:∀ i σ H,i < n->Pv i σ H->g (.int (lo+i)) σ H fun σ2 H2=>tb { D with nx:=Pv (i+1),ct:=Pv (i+1),bk:=D.nx } σ2 H2) (hd:∀ σ H,Pv n σ H->D.nx σ H) :
  ∃ W:Nat->Nat->St->Hp->Prop,(∃ m,W 0 m σ H)/\∀ i m σ H,W i m σ H ->
   ((Itr lo n).stop i H/\D.nx σ H)\/((Itr lo n).go i H/\∃ N:St->Hp->Prop,(∀ σ' H',N σ' H'->∃ m',m' < m/\W (i+1) m' σ' H')/\∀ x H',(Itr lo n).yld i H x H'->g x σ H' fun σ2 H2=>tb { D with nx:=N,ct:=N,bk:=D.nx } σ2 H2):=by
 refine ⟨fun i m σ H=>m=n - i/\i<=n/\Pv i σ H,⟨n,by simp,Nat.zero_le _,h0⟩,?_⟩;rintro i m σ H ⟨rfl,hi,p⟩;by_cases hlt:i < n
 ·refine .inr ⟨hlt,Pv (i+1),fun σ' H' p'=>⟨n - (i+1),by lia,rfl,hlt,p'⟩,fun x H' y=>?_⟩;obtain ⟨e,y⟩:=y;subst e y;exact hs i σ _ hlt p
 ·have e:i=n:=by lia
  subst e;exact .inl ⟨Nat.le_refl _,hd σ H p⟩
end L2
namespace L2
open PySem PySem.Spec PyProof.Rows
abbrev R2:=V->V->Hp->VK->Prop
def OpR (X:Cx) (f:Value->Value->Sem Value) (r:R2):Prop :=
 ∀ (pins:List (Addr×Obj)) (s:Shared) (σ:St) (H:Hp) (x y:V) (v u:Value) (Q:VK),Inv X pins σ H s->Be x v->Be y u->r x y H Q ->
  wpAny (model X.prog X.w) X.A (f v u) (EP X pins σ Q) X.xe s
def UnR (X:Cx) (f:Value->Sem Value) (r:V->Hp->VK->Prop):Prop :=
 ∀ (pins:List (Addr×Obj)) (s:Shared) (σ:St) (H:Hp) (x:V) (v:Value) (Q:VK),Inv X pins σ H s->Be x v->r x H Q ->
  wpAny (model X.prog X.w) X.A (f v) (EP X pins σ Q) X.xe s
def GN (X:Cx) (f:Value) (r:List V->Hp->VK->Prop):Prop :=
 ∀ (pins:List (Addr×Obj)) (s:Shared) (σ:St) (H:Hp) (xs:List V) (us:List Value) (Q:VK),Inv X pins σ H s->AS xs us->r xs H Q ->
  wpAny (model X.prog X.w) X.A (call f us) (EP X pins σ Q) X.xe s
def tOp (r:R2) (ta tb:TE):TE:=fun σ H Q=>ta σ H fun x H1=>tb σ H1 fun y H2=>r x y H2 Q
def tUn (r:V->Hp->VK->Prop) (ta:TE):TE:=fun σ H Q=>ta σ H fun x H1=>r x H1 Q
def rI (C:Int->Int->Prop) (g:Int->Int->V):R2:=fun x y H Q=>∃ i j,x=.int i/\y=.int j/\C i j/\Q (g i j) H
def rI0 (g:Int->Int->V):R2:=fun x y H Q=>∃ i j,x=.int i/\y=.int j/\Q (g i j) H
def rU (g:Int->V):V->Hp->VK->Prop:=fun x H Q=>∃ i,x=.int i/\Q (g i) H
section
variable {X:Cx} {a b c:Expr} {ta tb tc:TE} {pos:Pos}
theorem binT (ha:PE X a ta) (hb:PE X b tb) {pins:List (Addr×Obj)} {s:Shared} {σ:St} {H:Hp} {R:V->V->Hp->Prop} (I:Inv X pins σ H s)
  (h:ta σ H fun x H1=>tb σ H1 fun y H2=>R x y H2) {Q:Value->Shared->Prop} {f:Value->Value->Sem Value}
  (hf:∀ v u s2 x y H2,Inv X pins σ H2 s2->Be x v->Be y u->R x y H2->wpAny (model X.prog X.w) X.A (f v u) Q X.xe s2) :
  wpAny (model X.prog X.w) X.A (eval a X.env) (fun v s₁=>wpAny (model X.prog X.w) X.A (eval b X.env) (fun u s₂=>wpAny (model X.prog X.w) X.A (f v u) Q X.xe s₂) X.xe s₁) X.xe s:=by
 refine thn (ha pins s σ H _ I h) fun v s1 ⟨x,H1,I1,r1,q1⟩=>?_;refine thn (hb pins s1 σ H1 _ I1 q1) fun u s2 ⟨y,H2,I2,r2,q2⟩=>?_;exact hf v u s2 x y H2 I2 r1 r2 q2
theorem AH {op:Operator} {r:R2} (ho:OpR X (binaryOp op) r) (ha:PE X a ta) (hb:PE X b tb):PE X (.BinOp a op b pos) (tOp r ta tb):=by
 intro pins s σ H Q I h;exact wpAny_BinOp (binT ha hb I h fun v u s2 x y H2 I2 rx ry q=>ho pins s2 σ H2 x y v u Q I2 rx ry q)
theorem PL {op:UnaryOp} {r:V->Hp->VK->Prop} (ho:UnR X (unaryOp op) r) (ha:PE X a ta):PE X (.UnaryOp op a pos) (tUn r ta):=by
 intro pins s σ H Q I h;exact UnaryOp_ (thn (ha pins s σ H _ I h) fun v s1 ⟨x,H1,I1,r1,q1⟩=>ho pins s1 σ H1 x v Q I1 r1 q1)
theorem opI {f:Value->Value->Sem Value} {C:Int->Int->Prop} {g:Int->Int->Int}
  (rule:∀ (i j:Int) (t u:Tok) (s:Shared) (Q:Value->Shared->Prop) (E:Value->Shared->Prop),C i j->Q (.int (g i j) s.toks) { s with toks:=s.toks+1 }->wpAny (model X.prog X.w) X.A (f (.int i t) (.int j u)) Q E s) :
  OpR X f (rI C fun i j=>.int (g i j)):=by
 intro pins s σ H x y v u Q I rx ry h;obtain ⟨i,j,rfl,rfl,hc,q⟩:=h;obtain ⟨t,rfl⟩:=rx;obtain ⟨t',rfl⟩:=ry;exact rule i j t t' s _ _ hc ⟨.int (g i j),H,I.tok _,⟨_,rfl⟩,q⟩
theorem opI0 {f:Value->Value->Sem Value} {g:Int->Int->Int}
  (rule:∀ (i j:Int) (t u:Tok) (s:Shared) (Q:Value->Shared->Prop) (E:Value->Shared->Prop),Q (.int (g i j) s.toks) { s with toks:=s.toks+1 }->wpAny (model X.prog X.w) X.A (f (.int i t) (.int j u)) Q E s) :
  OpR X f (rI0 fun i j=>.int (g i j)):=by
 intro pins s σ H x y v u Q I rx ry h;obtain ⟨i,j,rfl,rfl,q⟩:=h;obtain ⟨t,rfl⟩:=rx;obtain ⟨t',rfl⟩:=ry;exact rule i j t t' s _ _ ⟨.int (g i j),H,I.tok _,⟨_,rfl⟩,q⟩
theorem opB0 {f:Value->Value->Sem Value} {g:Int->Int->Bool}
  (rule:∀ (i j:Int) (t u:Tok) (s:Shared) (Q:Value->Shared->Prop) (E:Value->Shared->Prop),Q (.bool (g i j)) s->wpAny (model X.prog X.w) X.A (f (.int i t) (.int j u)) Q E s) :
  OpR X f (rI0 fun i j=>.bl (g i j)):=by
 intro pins s σ H x y v u Q I rx ry h;obtain ⟨i,j,rfl,rfl,q⟩:=h;obtain ⟨t,rfl⟩:=rx;obtain ⟨t',rfl⟩:=ry;exact rule i j t t' s _ _ ⟨.bl (g i j),H,I,rfl,q⟩
def CDiv (i j:Int):Prop:=0 < j/\j < 1073741824
def CPow (i j:Int):Prop:=0<=j/\j<=1000000/\i.natAbs < 2 ^ 64
def CMul (i j:Int):Prop:=(-(2 ^ 64) < i/\i < 2 ^ 64)\/(-(2 ^ 64) < j/\j < 2 ^ 64)
theorem CMul.ok {i j:Int} (h:CMul i j):IntMulOk i j:=by
 rcases h with ⟨h1,h2⟩ | ⟨h1,h2⟩
 ·exact .of_left (intBits_le_64 h1 h2)
 ·exact .of_right (intBits_le_64 h1 h2)
theorem OA (k:Nat):(0:Int)<=2 ^ k:=by
 rw [two_pow_cast];exact Int.natCast_nonneg _
theorem BG:OpR X (binaryOp .Add) (rI0 fun i j=>.int (i+j)):=opI0 fun _ _ _ _ _ _ _ q=>add_int q
theorem Ef:OpR X (binaryOp .Sub) (rI0 fun i j=>.int (i - j)):=opI0 fun _ _ _ _ _ _ _ q=>sub_int q
theorem OR:OpR X (binaryOp .Mult) (rI CMul fun i j=>.int (i * j)):=opI fun _ _ _ _ _ _ _ hc q=>mul_int q hc.ok
theorem Fm:OpR X (binaryOp .FloorDiv) (rI CDiv fun i j=>.int (i / j)):=opI fun i j _ _ _ _ _ hc q=>by
 have h1:(0:Int) < j:=hc.1;have h2:j < 1073741824:=hc.2;exact floordiv_int (by lia) (by rw [Int.fdiv_eq_ediv_of_nonneg i (by lia)]; exact q) (.inl (PyProof.noPylong_small (by lia)))
theorem Ci:OpR X (binaryOp .Mod) (rI (fun _ j=>0 < j) fun i j=>.int (i % j)):=opI fun i j _ _ _ _ _ hc q=>by
 have h1:(0:Int) < j:=hc;exact mod_int' (by lia) (by rw [Int.fmod_eq_emod_of_nonneg i (by lia)]; exact q)
theorem OQ:OpR X (binaryOp .LShift) (rI CPow fun i j=>.int (i * 2 ^ j.toNat)):=opI fun _ _ _ _ _ _ _ hc q=>lshift_int_small hc.1 hc.2.1 hc.2.2 q
theorem RQ:OpR X (binaryOp .RShift) (rI (fun _ j=>0<=j) fun i j=>.int (i / 2 ^ j.toNat)):=opI fun i j _ _ _ _ _ hc q =>
 rshift_int hc (by rw [Int.fdiv_eq_ediv_of_nonneg i (OA _)]; exact q)
theorem RU:OpR X (binaryOp .BitAnd) (rI0 fun i j=>.int (Builtin.bitAnd i j)):=opI0 fun _ _ _ _ _ _ _ q=>and_int q
theorem unI {f:Value->Sem Value} {g:Int->Int}
  (rule:∀ (i:Int) (t:Tok) (s:Shared) (Q:Value->Shared->Prop) (E:Value->Shared->Prop),Q (.int (g i) s.toks) { s with toks:=s.toks+1 }->wpAny (model X.prog X.w) X.A (f (.int i t)) Q E s) :
  UnR X f (rU fun i=>.int (g i)):=by
 intro pins s σ H x v Q I rx h;obtain ⟨i,rfl,q⟩:=h;obtain ⟨t,rfl⟩:=rx;exact rule i t s _ _ ⟨.int (g i),H,I.tok _,⟨_,rfl⟩,q⟩
theorem Mv:UnR X (unaryOp .USub) (rU fun i=>.int (-i)):=unI fun _ _ _ _ _ q=>neg_int q
end
def scal:V->V->Bool
 | .non,.non=>true | .non,.int _=>true | .int _,.non=>true | .non,.bl _=>true | .bl _,.non=>true | .non,.str _=>true | .str _,.non=>true
 | .int _,.int _=>true | .bl _,.bl _=>true | .str _,.str _=>true | .byt _,.byt _=>true
 | .int _,.str _=>true | .str _,.int _=>true | .bl _,.str _=>true | .str _,.bl _=>true
 | _,_=>false
def rEq:R2:=fun x y H Q=>scal x y=true/\Q (.bl (decide (x=y))) H
def rNe:R2:=fun x y H Q=>scal x y=true/\Q (.bl (!decide (x=y))) H
theorem GV {i j:Int}:decide (V.int i=V.int j)=(i == j):=by
 rw [Bool.eq_iff_iff];simp
theorem SI {i j:Bool}:decide (V.bl i=V.bl j)=(i == j):=by
 rw [Bool.eq_iff_iff];simp
theorem Qe {i j:Str}:decide (V.str i=V.str j)=(i == j):=by
 rw [Bool.eq_iff_iff];simp
theorem Qf {i j:Array UInt8}:decide (V.byt i=V.byt j)=(i.toList == j.toList):=by
 rw [Bool.eq_iff_iff];cases i;cases j;simp
section
variable {X:Cx} {a b c:Expr} {ta tb tc:TE} {pos:Pos}
theorem Bf {pins:List (Addr×Obj)} {σ:St} {H:Hp} {s:Shared} {Q:VK} {k k':Bool} (I:Inv X pins σ H s) (q:Q (.bl k) H) (e:k=k'):EP X pins σ Q (.bool k') s:=by
 subst e;exact ⟨.bl k,H,I,rfl,q⟩
theorem FA:OpR X (compareOp .Eq) rEq:=by
 intro pins s σ H x y v u Q I rx ry h;obtain ⟨hs,q⟩:=h;cases x with
 | non =>
  cases rx;cases y with
  | non=>cases ry; exact PySem.EqNone.eq_none_none (Bf I q (by simp))
  | bl j=>cases ry; exact PySem.EqNone.eq_none_bool (Bf I q (by simp))
  | int j=>obtain ⟨t',rfl⟩:=ry; exact PySem.EqNone.eq_none_int (Bf I q (by simp))
  | str j=>obtain ⟨t',rfl⟩:=ry; exact PySem.EqNone.eq_none_str (Bf I q (by simp))
  | _=>exact absurd (show false=true from hs) Bool.false_ne_true
 | bl i =>
  cases rx;cases y with
  | non=>cases ry; exact PySem.EqNone.eq_bool_none (Bf I q (by simp))
  | bl j=>cases ry; exact eq_bool (Bf I q SI)
  | str j=>obtain ⟨t',rfl⟩:=ry; exact PySem.EqMixed.eq_bool_str (Bf I q (by simp))
  | _=>exact absurd (show false=true from hs) Bool.false_ne_true
 | int i =>
  obtain ⟨t,rfl⟩:=rx;cases y with
  | non=>cases ry; exact PySem.EqNone.eq_int_none (Bf I q (by simp))
  | int j=>obtain ⟨t',rfl⟩:=ry; exact eq_int (Bf I q GV)
  | str j=>obtain ⟨t',rfl⟩:=ry; exact PySem.EqMixed.eq_int_str (Bf I q (by simp))
  | _=>exact absurd (show false=true from hs) Bool.false_ne_true
 | str i =>
  obtain ⟨t,rfl⟩:=rx;cases y with
  | non=>cases ry; exact PySem.EqNone.eq_str_none (Bf I q (by simp))
  | bl j=>cases ry; exact PySem.EqMixed.eq_str_bool (Bf I q (by simp))
  | int j=>obtain ⟨t',rfl⟩:=ry; exact PySem.EqMixed.eq_str_int (Bf I q (by simp))
  | str j=>obtain ⟨t',rfl⟩:=ry; exact eq_str (Bf I q Qe)
  | _=>exact absurd (show false=true from hs) Bool.false_ne_true
 | byt i =>
  obtain ⟨t,rfl⟩:=rx;cases y with
  | byt j=>obtain ⟨t',rfl⟩:=ry; exact PySem.W.eq_bytes (Bf I q Qf)
  | _=>exact absurd (show false=true from hs) Bool.false_ne_true
 | _=>cases y<;>exact absurd (show false=true from hs) Bool.false_ne_true
theorem Ix:OpR X (compareOp .NotEq) rNe:=by
 intro pins s σ H x y v u Q I rx ry h;obtain ⟨hs,q⟩:=h;cases x with
 | non =>
  cases rx;cases y with
  | non=>cases ry; exact PySem.EqNone.ne_none_none (Bf I q (by simp))
  | bl j=>cases ry; exact PySem.EqNone.ne_none_bool (Bf I q (by simp))
  | int j=>obtain ⟨t',rfl⟩:=ry; exact PySem.EqNone.ne_none_int (Bf I q (by simp))
  | str j=>obtain ⟨t',rfl⟩:=ry; exact PySem.EqNone.ne_none_str (Bf I q (by simp))
  | _=>exact absurd (show false=true from hs) Bool.false_ne_true
 | bl i =>
  cases rx;cases y with
  | non=>cases ry; exact PySem.EqNone.ne_bool_none (Bf I q (by simp))
  | bl j=>cases ry; exact ne_bool (Bf I q (congrArg not SI))
  | str j=>obtain ⟨t',rfl⟩:=ry; exact PySem.EqMixed.ne_bool_str (Bf I q (by simp))
  | _=>exact absurd (show false=true from hs) Bool.false_ne_true
 | int i =>
  obtain ⟨t,rfl⟩:=rx;cases y with
  | non=>cases ry; exact PySem.EqNone.ne_int_none (Bf I q (by simp))
  | int j=>obtain ⟨t',rfl⟩:=ry; exact ne_int (Bf I q (congrArg not GV))
  | str j=>obtain ⟨t',rfl⟩:=ry; exact PySem.EqMixed.ne_int_str (Bf I q (by simp))
  | _=>exact absurd (show false=true from hs) Bool.false_ne_true
 | str i =>
  obtain ⟨t,rfl⟩:=rx;cases y with
  | non=>cases ry; exact PySem.EqNone.ne_str_none (Bf I q (by simp))
  | bl j=>cases ry; exact PySem.EqMixed.ne_str_bool (Bf I q (by simp))
  | int j=>obtain ⟨t',rfl⟩:=ry; exact PySem.EqMixed.ne_str_int (Bf I q (by simp))
  | str j=>obtain ⟨t',rfl⟩:=ry; exact ne_str (Bf I q (congrArg not Qe))
  | _=>exact absurd (show false=true from hs) Bool.false_ne_true
 | byt i =>
  obtain ⟨t,rfl⟩:=rx;cases y with
  | byt j=>obtain ⟨t',rfl⟩:=ry; exact PySem.W.ne_bytes (Bf I q (congrArg not Qf))
  | _=>exact absurd (show false=true from hs) Bool.false_ne_true
 | _=>cases y<;>exact absurd (show false=true from hs) Bool.false_ne_true
theorem Ji:OpR X (compareOp .Lt) (rI0 fun i j=>.bl (decide (i < j))):=opB0 fun _ _ _ _ _ _ _ q=>lt_int q
theorem NP:OpR X (compareOp .LtE) (rI0 fun i j=>.bl (decide (i<=j))):=opB0 fun _ _ _ _ _ _ _ q=>le_int q
theorem RT:OpR X (compareOp .Gt) (rI0 fun i j=>.bl (decide (j < i))):=opB0 fun _ _ _ _ _ _ _ q=>gt_int q
theorem Qx:OpR X (compareOp .In) (fun x y H Q=>∃ i j,x=.str i/\y=.str j/\Q (.bl (!(Builtin.Str.occurrences j i 0 j.length 1).isEmpty)) H):=by
 intro pins s σ H x y v u Q I rx ry h;obtain ⟨i,j,rfl,rfl,q⟩:=h;obtain ⟨t,rfl⟩:=rx;obtain ⟨t',rfl⟩:=ry;exact in_str (Bf I q rfl)
theorem Lb:OpR X (compareOp .Is) (fun x y H Q=>y=.non/\Q (.bl (decide (x=.non))) H):=by
 intro pins s σ H x y v u Q I rx ry h;obtain ⟨rfl,q⟩:=h;cases ry;refine is_none_gen (Bf I q ?_);cases x<;>first
  | (cases rx; rfl)
  | (obtain ⟨t,rfl⟩:=rx; rfl)
theorem Iw:OpR X (compareOp .NotIn) (fun x y H Q=>∃ i j,x=.str i/\y=.str j/\Q (.bl (!(!(Builtin.Str.occurrences j i 0 j.length 1).isEmpty))) H):=by
 intro pins s σ H x y v u Q I rx ry h;obtain ⟨i,j,rfl,rfl,q⟩:=h;obtain ⟨t,rfl⟩:=rx;obtain ⟨t',rfl⟩:=ry;exact notIn_str (Bf I q rfl)
theorem AT (b:Expr) {op:CmpOp} (h:op≠.In:=by decide) (h2:op≠.NotIn:=by decide):behindInMarks op b=false:=by
 have e1:(op == CmpOp.In)=false:=by cases op<;>first | rfl | exact absurd rfl h
 have e2:(op == CmpOp.NotIn)=false:=by cases op<;>first | rfl | exact absurd rfl h2
 cases b<;>simp [behindInMarks,e1,e2]
theorem Iv {op:CmpOp} {r:R2} (ho:OpR X (compareOp op) r) (ha:PE X a ta) (hb:PE X b tb) (hm:behindInMarks op b=false):PE X (.Compare a [op] [b] pos) (tOp r ta tb):=by
 intro pins s σ H Q I h;exact wpAny_Compare1 (binT ha hb I h fun v u s2 x y H2 I2 rx ry q=>ho pins s2 σ H2 x y v u Q I2 rx ry q) hm
def tTest (t:TE):TT:=fun σ H Q=>t σ H fun x H'=>∃ k,x=.bl k/\Q k H'
theorem AJ {op:CmpOp} {r:R2} (ho:OpR X (compareOp op) r) (ha:PE X a ta) (hb:PE X b tb) (hm:behindInMarks op b=false):PT X (.Compare a [op] [b] pos) (tTest (tOp r ta tb)):=by
 intro pins s σ H Q I h;refine wpAny_isTrue_Compare1 (thn (ha pins s σ H _ I h) fun v s1 ⟨x,H1,I1,r1,q1⟩=>thn (hb pins s1 σ H1 _ I1 q1) fun u s2 ⟨y,H2,I2,r2,q2⟩ =>
  thn (ho pins s2 σ H2 x y v u _ I2 r1 r2 q2) fun c s3 ⟨z,H3,I3,r3,k,e,q3⟩=>?_) hm
 subst e;cases r3;exact wpAny_truthy_bool ⟨H3,I3,q3⟩
def Rk (r r':R2) (ta tb tc:TE):TE:=fun σ H Q=>ta σ H fun x H1=>tb σ H1 fun y H2=>r x y H2 fun z H3=>∃ k,z=.bl k /\
 (if k=true then tc σ H3 fun w' H4=>r' y w' H4 Q else Q (.bl false) H3)
theorem RO {op op':CmpOp} {r r':R2} (ho:OpR X (compareOp op) r) (ho':OpR X (compareOp op') r') (ha:PE X a ta) (hb:PE X b tb) (hc:PE X c tc)
  (hm:lastMarks [op,op'] [b,c]=false:=by with_unfolding_all rfl):PE X (.Compare a [op,op'] [b,c] pos) (Rk r r' ta tb tc):=by
 intro pins s σ H Q I h;refine Compare_chain (thn (ha pins s σ H _ I h) fun v s1 ⟨x,H1,I1,r1,q1⟩=>chain_link (thn (hb pins s1 σ H1 _ I1 q1) fun u s2 ⟨y,H2,I2,r2,q2⟩ =>
  thn (ho pins s2 σ H2 x y v u _ I2 r1 r2 q2) fun d s3 ⟨z,H3,I3,r3,k,e,q3⟩=>?_)) hm
 subst e;cases r3;refine wpAny_truthy_bool ?_;cases k with
 | false=>exact ite_ff ⟨.bl false,H3,I3,rfl,q3⟩
 | true=>exact ite_tt (chain_last (thn (hc pins s3 σ H3 _ I3 q3) fun w' s4 ⟨z',H4,I4,r4,q4⟩=>ho' pins s4 σ H4 y z' u w' Q I4 r2 r4 q4))
theorem NM {op op':CmpOp} {r r':R2} (ho:OpR X (compareOp op) r) (ho':OpR X (compareOp op') r') (ha:PE X a ta) (hb:PE X b tb) (hc:PE X c tc)
  (hm:lastMarks [op,op'] [b,c]=false:=by with_unfolding_all rfl):PT X (.Compare a [op,op'] [b,c] pos) (tTest (Rk r r' ta tb tc)):=by
 intro pins s σ H Q I h;refine isTrue_chain (thn (ha pins s σ H _ I h) fun v s1 ⟨x,H1,I1,r1,q1⟩=>test_link (thn (hb pins s1 σ H1 _ I1 q1) fun u s2 ⟨y,H2,I2,r2,q2⟩ =>
  thn (ho pins s2 σ H2 x y v u _ I2 r1 r2 q2) fun d s3 ⟨z,H3,I3,r3,k,e,q3⟩=>?_)) hm
 subst e;cases r3;refine wpAny_truthy_bool ?_;cases k with
 | false =>
  obtain ⟨k',e',q'⟩:=q3;cases e';exact ite_ff ⟨H3,I3,q'⟩
 | true =>
  refine ite_tt (test_last (thn (hc pins s3 σ H3 _ I3 q3) fun w' s4 ⟨z',H4,I4,r4,q4⟩=>thn (ho' pins s4 σ H4 y z' u w' _ I4 r2 r4 q4) fun d' s5 ⟨z2,H5,I5,r5,k2,e2,q5⟩=>?_));subst e2;cases r5;exact wpAny_truthy_bool ⟨H5,I5,q5⟩
theorem Jb:(sizeLine:Nat) < 2 ^ 63:=by rw [sizeLine_eq]; decide
theorem Lc:OpR X (binaryOp .Add) (fun x y H Q=>∃ i j,x=.str i/\y=.str j/\i.length+j.length<=sizeLine/\Q (.str (i ++ j)) H):=by
 intro pins s σ H x y v u Q I rx ry h;obtain ⟨i,j,rfl,rfl,hz,q⟩:=h;obtain ⟨t,rfl⟩:=rx;obtain ⟨t',rfl⟩:=ry;exact add_str (fun t' tk=>⟨.str (i ++ j),H,I.tok _,⟨_,rfl⟩,q⟩) hz
theorem Pp {x:V} {us:List Value} (r:AS [x] us):∃ u,us=[u]/\Be x u:=by
 cases r with
 | cons r1 r2=>cases r2; exact ⟨_,rfl,r1⟩
theorem vals2 {x y:V} {us:List Value} (r:AS [x,y] us):∃ u w',us=[u,w']/\Be x u/\Be y w':=by
 cases r with
 | cons r1 r2 =>
  cases r2 with
  | cons r3 r4=>cases r4; exact ⟨_,_,rfl,r1,r3⟩
theorem QZ (hc:X.calm=true):GN X (.builtin "min") (fun xs H Q=>∃ i j,xs=[.int i,.int j]/\Q (.int (if j < i then j else i)) H):=by
 intro pins s σ H xs us Q I r h;obtain ⟨i,j,rfl,q⟩:=h;obtain ⟨u,w',rfl,⟨t,rfl⟩,⟨t',rfl⟩⟩:=vals2 r;refine min_two_ints (I.ok.hd hc) fun h' tk k=>⟨_,H,I.kept k,?_,q⟩
 by_cases hj:j < i
 ·rw [if_pos hj,if_pos hj]; exact ⟨_,rfl⟩
 ·rw [if_neg hj,if_neg hj]; exact ⟨_,rfl⟩
theorem Fn:GN X (.type "str") (fun xs H Q=>∃ i,xs=[.int i]/\i.natAbs.log2 < 1920/\Q (.str (toString i)) H):=by
 intro pins s σ H xs us Q I r h;obtain ⟨i,rfl,hz,q⟩:=h;obtain ⟨u,rfl,t,rfl⟩:=Pp r;exact PySem.P.str_of_int hz ⟨.str _,H,I.tok _,⟨_,rfl⟩,q⟩
end
end L2
namespace L2
open PySem PySem.Spec PyProof.Rows
structure Pm (h:Heap) (x dx C:Addr) (mA:Str->Option Value):Prop where
 obj:h.get? x=some (PySem.W.instObj C dx)
 ns:h.Ns1 dx mA
 ne:dx≠x
theorem QJ {h:Heap} {dx:Addr} {mA:Str->Option Value} (n:h.Ns1 dx mA):∃ od,h.get? dx=some od/\∀ name,PySem.W.lookIn name od=some (mA name):=by
 obtain ⟨o,es,ep,ho,hd,hk,_,hm⟩:=n;refine ⟨o,ho,fun name=>?_⟩;have e:=hm name;unfold nsFind findBy at e;rw [<-Array.find?_toList] at e;unfold PySem.W.lookIn;rw [hd];dsimp only;split
 ·rename_i y q;rw [q] at e;exact congrArg some e
 ·rename_i q;rw [q] at e;have a:es.toList.any (·.refKey)=false:=by
   rw [List.any_eq_false];intro y hy;obtain ⟨z,t,hkey⟩:=hk y (Array.mem_toList_iff.mp hy);simp [DictEntry.refKey,hkey]
  have a':¬ es.toList.any (·.refKey)=true:=by rw [a]; exact Bool.false_ne_true
  rw [if_neg a'];exact congrArg some e
theorem Pm.look {h:Heap} {x dx C:Addr} {mA:Str->Option Value} (I:Pm h x dx C mA):∃ od,PySem.W.InstAt h x (PySem.W.instObj C dx) C (some od)/\∀ name,PySem.W.lookIn name od=some (mA name) :=
 let ⟨od,ho,hl⟩:=QJ I.ns
 ⟨od,⟨I.obj,rfl,rfl,ho⟩,hl⟩
section
variable {prog:Program} {w:World} {A:Around} {E:Value->Shared->Prop} {s:Shared} {K:PySem.W.Frag} {x dx C f:Addr} {mA:Str->Option Value} {name:Str} {v:Value}
theorem get_map {expr:Bool} {Q:Value->Shared->Prop} (X:K.In s.heap) (I:Pm s.heap x dx C mA) (hg:PySem.W.plainGet K C name=true) (hh:PySem.W.hasDictIn K C=true)
  (ha:PySem.W.findIn K (.ref C) name=some none) (hv:mA name=some v) (hv':PySem.W.handedIn v=true) (h:Q v { s with toks:=s.toks+1 }) :
  wpAny (model prog w) A (getAttr (.ref x) name expr) Q E s:=by
 obtain ⟨od,J,hl⟩:=I.look;exact PySem.W.get_value X J (PySem.W.plainGet_of hg).1 (PySem.W.findObj_own hh ha rfl (by rw [hl,hv])) hv' h
theorem Sw {pl:Sem Bool} {Q:Value×List Value->Shared->Prop} (X:K.In s.heap) (I:Pm s.heap x dx C mA) (hg:PySem.W.plainGet K C name=true)
  (hf:PySem.W.findIn K (.ref C) name=some (some (.ref f))) (ht:PySem.W.isFn K (.ref f)=true) (hv:mA name=none) (h:Q (.ref f,[.ref x]) s) :
  wpAny (model prog w) A (getMethod (.ref x) name pl) Q E s:=by
 obtain ⟨od,J,hl⟩:=I.look;exact PySem.W.method_fn X J (PySem.W.plainGet_of hg).1 (PySem.W.plainGet_of hg).2 hf (beq_iff_eq.mp ht) (by show (PySem.W.lookIn name od).map (·.isSome)=some false; rw [hl,hv]; rfl) h
theorem set_map {ns:List Str} {Q:Unit->Shared->Prop} (X:K.In s.heap) (I:Pm s.heap x dx C mA)
  (hs:PySem.W.findIn K (.ref C) "__setattr__" = some (some (.builtin "object.__setattr__"))) (hp:PySem.W.plainOver K C=true) (ht:PySem.W.takerIn K C name=some none) (hh:PySem.W.hasDictIn K C=true)
  (hw:PySem.Within mA ns) (hsz:ns.length<=sizeLine)
  (h:∀ h',Pm h' x dx C (fun y=>if y=name then some v else mA y)->Heap.SameBut dx s.heap h'->Q () { s with heap:=h',toks:=s.toks+2 }) :
  wpAny (model prog w) A (setAttr (.ref x) name v) Q E s:=by
 obtain ⟨od,J,hl⟩:=I.look;refine PySem.W.set_plain X J hs (PySem.W.osa_open (s:={ s with toks:=s.toks+1 }) (r:=none) X J hp ht fun b=>?_)
 obtain ⟨cd,hc,hd'⟩:=PySem.W.any_some hh;have hx:s.heap.get? x=some ⟨.ref C,some dx,.plain,#[]⟩:=I.obj;refine wpAny_bind (wpAny_pure (wpAny_bind (wpAny_bind (wpAny_loadPart hx (wpAny_bind (PySem.W.Looks.here (s:={ s with toks:=s.toks+1 }) (PySem.W.looks_clsIn X hc) ?_))))))
 rw [hd'];refine wpAny_pure (a:=some dx) (wpAny_bind (wpAny_pure (wpAny_bind ?_)));refine wpAny_nsSet1 (s:={ s with toks:=s.toks+1 }) I.ns fun h' hn2 hs2=>?_;obtain ⟨oD,esD,epD,hoD,hdD,hcD⟩:=hn2.count (PySem.Within.cons name v hw);refine wpAny_bind (wpAny_lookBehind hoD (by rw [hdD]; exact pastItsLine_dict (Nat.le_trans hcD (by rw [List.length_cons]; lia))) ?_);exact wpAny_pure (h _ ⟨(hs2.2 _ (Ne.symm I.ne)).trans I.obj,hn2,I.ne⟩ hs2)
theorem Sh {R:Result->Shared->Prop} {vs:List Value} {kw:List (Str×Value)} (X:K.In s.heap) (hm:PySem.W.makesIn K C=true)
  (hi:PySem.W.findIn K (.ref C) "__init__" = some (some (.ref f))) (hf:PySem.W.typeIn K (.ref f)=some (.type "function"))
  (h:codeAny (model prog w) (A.under (.builtin "type.__call__" ⟨.ref C :: vs,kw⟩)) (.call (.ref f) ⟨.ref (s.heap.objs.size+1) :: vs,kw⟩) (PySem.W.InitBack (s.heap.objs.size+1) R)
   { s with heap:=(s.heap.push PySem.W.emptyDict).push (PySem.W.instObj C s.heap.objs.size) }) :
  codeAny (model prog w) A (.call (.ref C) ⟨vs,kw⟩) R s:=by
 obtain ⟨hh,g,d,t,os⟩:=s;exact PySem.W.make_core (PySem.W.makes_of X hm) (PySem.W.looks_findIn X hi) (fun self=>PySem.W.bind_fn X self hf) (.inl rfl) h
end
def AK (f:Str) (v:V):List (Str×V)->List (Str×V)
 | []=>[(f,v)]
 | (g,x) :: r=>if g=f then (g,v) :: r else (g,x) :: AK f v r
theorem Ak (f g:Str) (v:V):∀ fs:List (Str×V),(AK f v fs).lookup g=if g=f then some v else fs.lookup g
 | []=>by
  show List.lookup g [(f,v)]=_;by_cases h:g=f
  ·have hb:(g == f)=true:=beq_iff_eq.mpr h;simp only [List.lookup,hb,if_pos h]
  ·have hb:(g == f)=false:=beq_eq_false_iff_ne.mpr h;simp only [List.lookup,hb,if_neg h]
 | (k,x) :: r=>by
  have ih:=Ak f g v r;rw [show AK f v ((k,x) :: r)=(if k=f then (k,v) :: r else (k,x) :: AK f v r) from rfl];by_cases hk:k=f
  ·rw [if_pos hk];by_cases h:g=k
   ·have hb:(g == k)=true:=beq_iff_eq.mpr h;simp only [List.lookup,hb,if_pos (h.trans hk)]
   ·have hb:(g == k)=false:=beq_eq_false_iff_ne.mpr h;simp only [List.lookup,hb,if_neg (fun e:g=f=>h (e.trans hk.symm))]
  ·rw [if_neg hk];by_cases h:g=k
   ·have hb:(g == k)=true:=beq_iff_eq.mpr h;simp only [List.lookup,hb,if_neg (fun e:g=f=>hk (h.symm.trans e))]
   ·have hb:(g == k)=false:=beq_eq_false_iff_ne.mpr h;simp only [List.lookup,hb];exact ih
theorem Jc (f:Str) (v:V):∀ fs:List (Str×V),f ∈ (AK f v fs).map (·.1)/\∀ g,g ∈ fs.map (·.1)->g ∈ (AK f v fs).map (·.1)
 | []=>⟨by simp [AK],fun g h=>by simp at h⟩
 | (k,x) :: r=>by
  obtain ⟨i1,i2⟩:=Jc f v r;rw [show AK f v ((k,x) :: r)=(if k=f then (k,v) :: r else (k,x) :: AK f v r) from rfl];by_cases hk:k=f
  ·rw [if_pos hk];subst hk;exact ⟨by simp,fun g h=>by simpa using h⟩
  ·rw [if_neg hk];refine ⟨?_,fun g h=>?_⟩
   ·rw [List.map_cons];exact List.mem_cons_of_mem _ i1
   ·rw [List.map_cons] at h ⊢;rcases List.mem_cons.mp h with e | e
    ·exact List.mem_cons.mpr (.inl e)
    ·exact List.mem_cons_of_mem _ (i2 g e)
theorem BF (f:Str) (v:V):∀ fs:List (Str×V),(AK f v fs).length<=fs.length+1
 | []=>by simp [AK]
 | (k,x) :: r=>by
  have ih:=BF f v r;rw [show AK f v ((k,x) :: r)=(if k=f then (k,v) :: r else (k,x) :: AK f v r) from rfl];by_cases hk:k=f
  ·rw [if_pos hk,List.length_cons,List.length_cons]; lia
  ·rw [if_neg hk,List.length_cons,List.length_cons]; lia
theorem Gn.some_of {v:V} {o:Option Value} (r:Gn (some v) o):∃ u,o=some u/\Be v u:=by
 cases o with
 | none=>exact (show False from r).elim
 | some u=>exact ⟨u,rfl,r⟩
theorem Gn.none_of {o:Option Value} (r:Gn none o):o=none:=by
 cases o with
 | none=>rfl
 | some u=>exact (show False from r).elim
theorem QQ {v:V} {u:Value} (r:Be v u):PySem.W.handedIn u=true:=by
 cases v with
 | non=>cases (show u=Value.none from r); rfl
 | bl b=>cases (show u=Value.bool b from r); rfl
 | int i=>obtain ⟨t,e⟩:=(show ∃ t,u=Value.int i t from r); cases e; rfl
 | str x=>obtain ⟨t,e⟩:=(show ∃ t,u=Value.str x t from r); cases e; rfl
 | byt b=>obtain ⟨t,e⟩:=(show ∃ t,u=Value.bytes b t from r); cases e; rfl
 | flt b=>obtain ⟨t,e⟩:=(show ∃ t,u=Value.float b t from r); cases e; rfl
 | ref a=>cases (show u=Value.ref a from r); rfl
 | ty n=>cases (show u=Value.type n from r); rfl
section
variable {P:Program} {w:World} {H H':Hp} {h h':Heap} {a C dx:Addr} {fs fs':List (Str×V)}
theorem JE (hok:HOk P w H h) (e:H a=some (.ins C dx fs)):∃ mA,Pm h a dx C mA/\(∀ f,Gn (fs.lookup f) (mA f))/\PySem.Within mA (fs.map (·.1))/\fs.length<=1000/\H dx=some (.own a):=by
 obtain ⟨d,z,ne,ob,mA,n,r,q⟩:=(show Cs P w H h a (.ins C dx fs) from hok a _ e)
 exact ⟨mA,⟨ob,n,ne⟩,r,q,z,d⟩
end
structure Cls (K:PySem.W.Frag) (C:Addr):Prop where
 pg:PySem.W.plainGet K C Str.empty=true
 hd:PySem.W.hasDictIn K C=true
 po:PySem.W.plainOver K C=true
 sa:PySem.W.findIn K (.ref C) "__setattr__" = some (some (.builtin "object.__setattr__"))
theorem Cls.get {K:PySem.W.Frag} {C:Addr} (c:Cls K C) (f:Str):PySem.W.plainGet K C f=true:=c.pg
def BR (K:PySem.W.Frag) (C:Addr) (f:Str):Prop:=PySem.W.findIn K (.ref C) f=some none
theorem BR.taker {K:PySem.W.Frag} {C:Addr} {f:Str} (n:BR K C f):PySem.W.takerIn K C f=some none:=by
 unfold PySem.W.takerIn;rw [show PySem.W.findIn K (.ref C) f=some none from n];rfl
structure Fg (K:PySem.W.Frag) (C:Addr) (m:Str) (f:Addr):Prop where
 at_:PySem.W.findIn K (.ref C) m=some (some (.ref f))
 fn:PySem.W.isFn K (.ref f)=true
 kp:PySem.W.keepIn K (.ref f)=true
section
variable {X:Cx} {pins:List (Addr×Obj)} {σ:St} {H:Hp} {s:Shared} {a C dx:Addr} {fs:List (Str×V)} {f:Str} {v:V} {A:Around} {E:Value->Shared->Prop}
theorem Pg {b:Bool} {Q:Value->Shared->Prop} (I:Inv X pins σ H s) (e:H a=some (.ins C dx fs)) (c:Cls X.K C) (n:BR X.K C f) (l:fs.lookup f=some v)
  (h:∀ u s',Inv X pins σ H s'->Be v u->Q u s'):wpAny (model X.prog X.w) A (getAttr (.ref a) f b) Q E s:=by
 obtain ⟨mA,O,r,_,_,_⟩:=JE I.hok e;obtain ⟨u,hu,ru⟩:=Gn.some_of (v:=v) (o:=mA f) (by rw [<-l]; exact r f);exact get_map I.kIn O (c.get f) c.hd n hu (QQ ru) (h u _ (I.tok _) ru)
theorem Pf {m:Str} {g:Addr} {pl:Sem Bool} {Q:Value×List Value->Shared->Prop} (I:Inv X pins σ H s) (e:H a=some (.ins C dx fs)) (c:Cls X.K C) (k:Fg X.K C m g) (l:fs.lookup m=none)
  (h:Q (.ref g,[.ref a]) s):wpAny (model X.prog X.w) A (getMethod (.ref a) m pl) Q E s:=by
 obtain ⟨mA,O,r,_,_,_⟩:=JE I.hok e;have hn:mA m=none:=Gn.none_of (by rw [<-l]; exact r m);exact Sw I.kIn O (c.get m) k.at_ k.fn hn h
theorem OL {y:V} {u:Value} {Q:Unit->Shared->Prop} (I:Inv X pins σ H s) (e:H a=some (.ins C dx fs)) (c:Cls X.K C) (n:BR X.K C f) (hl:fs.length < 1000) (ry:Be y u)
  (h:∀ s',Inv X pins σ (upd H a (.ins C dx (AK f y fs))) s'->Q () s'):wpAny (model X.prog X.w) A (setAttr (.ref a) f u) Q E s:=by
 obtain ⟨mA,O,r,wi,_,ho⟩:=JE I.hok e;have hz:(fs.map (·.1)).length<=sizeLine:=by rw [List.length_map,sizeLine_eq]; lia
 refine set_map I.kIn O c.sa c.po n.taker c.hd wi hz fun h' O' sb=>h _ ?_;have hd:∃ o,h'.get? dx=some o:=let ⟨o,_,_,e',_⟩:=O'.ns; ⟨o,e'⟩;refine I.write (x:=a) (e:=dx) (by rw [e]; exact True.intro) (.inr ho) (fun b q hb z=>(sb.2 b hb).trans z) hd ?_;refine ⟨by rw [As O.ne]; exact ho,?_,O.ne,O'.obj,_,O'.ns,fun g=>?_,fun g hg=>?_⟩
 ·have:=BF f y fs; lia
 ·show Gn ((AK f y fs).lookup g) (if g=f then some u else mA g);rw [Ak];by_cases q:g=f
  ·rw [if_pos q,if_pos q]; exact ry
  ·rw [if_neg q,if_neg q]; exact r g
 ·by_cases q:g=f
  ·rw [q]; exact (Jc f y fs).1
  ·refine (Jc f y fs).2 g (wi g fun z=>hg ?_);show (if g=f then some u else mA g)=none;rw [if_neg q]; exact z
theorem Inv.made (I:Inv X pins σ H s):Inv X pins σ (upd (upd H s.heap.objs.size (.own (s.heap.objs.size+1))) (s.heap.objs.size+1) (.ins C s.heap.objs.size []))
  { s with heap:=(s.heap.push PySem.W.emptyDict).push (PySem.W.instObj C s.heap.objs.size) }:=by
 have e1:(s.heap.push PySem.W.emptyDict).get? s.heap.objs.size=some PySem.W.emptyDict:=Heap.get?_push_size s.heap rfl;have e2:((s.heap.push PySem.W.emptyDict).push (PySem.W.instObj C s.heap.objs.size)).get? (s.heap.objs.size+1)=some (PySem.W.instObj C s.heap.objs.size):=by
  have:=Heap.get?_push_size (s.heap.push PySem.W.emptyDict) (o:=PySem.W.instObj C s.heap.objs.size) rfl
  rwa [Heap.size_push] at this
 have e3:(s.heap.push PySem.W.emptyDict).Ns s.heap.objs.size (fun _=>none):=⟨PySem.W.emptyDict,#[],_,e1,rfl,(fun e he=>absurd he (by simp)),fun _=>rfl⟩
 have I1:=I.laid (a:=s.heap.objs.size) (o:=.own (s.heap.objs.size+1)) (h':=s.heap.push PySem.W.emptyDict) (t':=s.toks) (fun b u q=>Heap.get?_push_of_some _ q) (Nat.le_refl _) ⟨_,e1⟩;refine I1.laid (a:=s.heap.objs.size+1) (o:=.ins C s.heap.objs.size []) (t':=s.toks) (fun b u q=>Heap.get?_push_of_some _ q) (Nat.le_of_eq (Heap.size_push _ _)) ?_;have ne:s.heap.objs.size≠s.heap.objs.size+1:=Nat.ne_of_lt (Nat.lt_succ_self _);refine ⟨by rw [As ne,Ab],Nat.zero_le _,ne,e2,fun _=>none,(Heap.Ns1.of_empty e3).at fun o q=>Heap.get?_push_of_some _ q,fun _=>True.intro,fun y hy=>absurd rfl hy⟩
theorem attr_of {prog:Program} {w:World} {env:Env} {e:Expr} {f:Str} {pos:Pos} {s:Shared} {Q:Value->Shared->Prop} (hb:attributeBase e f env (eval e env)=eval e env)
  (h:wpAny (model prog w) A (eval e env) (fun o s₁=>wpAny (model prog w) A (getAttr o f true) Q E s₁) E s):wpAny (model prog w) A (eval (.Attribute e f pos) env) Q E s :=
 Attribute_any_ h (by rw [arm_eval_Attribute,hb])
end
def tFld (K:PySem.W.Frag) (ta:TE) (f:Str):TE:=fun σ H Q=>ta σ H fun x H1=>∃ a C dx fs v,x=.ref a/\H1 a=some (.ins C dx fs)/\Cls K C/\BR K C f/\fs.lookup f=some v/\Q v H1
def sFld (K:PySem.W.Frag) (ta tv:TE) (f:Str):TS:=fun D σ H=>tv σ H fun y H1=>ta σ H1 fun x H2=>∃ a C dx fs,x=.ref a/\H2 a=some (.ins C dx fs)/\Cls K C/\BR K C f/\fs.length < 1000 /\
 D.nx σ (upd H2 a (.ins C dx (AK f y fs)))
section
variable {X:Cx} {o e value:Expr} {f:Str} {pos pos' tpos:Pos} {ta tv:TE}
theorem AG (he:PE X e ta) (hb:attributeBase e f X.env (eval e X.env)=eval e X.env):PE X (.Attribute e f pos) (tFld X.K ta f):=by
 intro pins s σ H Q I h;refine attr_of hb (thn (he pins s σ H _ I h) fun u s1 ⟨x,H1,I1,rx,a,C,dx,fs,v,ex,ea,c,n,l,q⟩=>?_);subst ex;obtain rfl:u=Value.ref a:=rx;exact Pg I1 ea c n l fun u' s2 I2 ru=>⟨v,H1,I2,ru,q⟩
theorem CY (ha:PE X o ta) (hv:PE X value tv) (hs:swapsWith value (some (.Attribute o f pos')) pos.line X.env=pure false):PS X (.Assign [.Attribute o f pos'] value pos) (sFld X.K ta tv f):=by
 intro pins s σ H D I h;refine plainObj_wpAny_Assign_Attribute (thn (hv pins s σ H _ I h) fun u s1 ⟨y,H1,I1,ry,q⟩=>thn (ha pins s1 σ H1 _ I1 q) fun ov s2 ⟨x,H2,I2,rx,a,C,dx,fs,ex,ea,c,n,l,q2⟩=>?_) hs;subst ex;obtain rfl:ov=Value.ref a:=rx;exact OL I2 ea c n l ry fun s3 I3=>⟨σ,_,I3,q2⟩
end
section
variable {X:Cx} {pins:List (Addr×Obj)} {σ:St} {H:Hp} {s:Shared} {A:Around} {E:Value->Shared->Prop} {Q:Value->Shared->Prop} {c:Value} {b:Bool}
inductive Je (K:PySem.W.Frag) (H:Hp):V->Value->Prop where
 | non:Je K H .non (.type "NoneType")
 | bl (x:Bool):Je K H (.bl x) (.type "bool")
 | int (i:Int):Je K H (.int i) (.type "int")
 | str (x:Str):Je K H (.str x) (.type "str")
 | flt (x:UInt64):Je K H (.flt x) (.type "float")
 | lst {a:Addr} {xs:List V} (e:H a=some (.lst xs)):Je K H (.ref a) (.type "list")
 | frz {a:Addr} {o:Obj} {xs:List V} (e:H a=some (.frz o (.lst xs))):Je K H (.ref a) (.type "list")
 | tup {a:Addr} {xs:List V} (e:H a=some (.tup xs)):Je K H (.ref a) (.type "tuple")
 | dK {a:Addr} {kvs:List (Key×V)} (e:H a=some (.dK kvs)):Je K H (.ref a) (.type "dict")
 | dT {a:Addr} {kvs:List (List Key×V)} (e:H a=some (.dT kvs)):Je K H (.ref a) (.type "dict")
 | ins {a C dx:Addr} {fs:List (Str×V)} (e:H a=some (.ins C dx fs)) (cl:Cls K C) (ha:PySem.W.findIn K (.ref C) "__class__" = some (some (.builtin "object.__class__")))
   (hn:PySem.W.specialIn K (.builtin "object.__class__") "__get__" = some (some (.builtin "getset_descriptor.__get__"))) (htk:PySem.W.takesIn K (.builtin "object.__class__")=some true)
   (hm:PySem.W.mroIn K C (.type "object")=some true):Je K H (.ref a) (.ref C)
theorem QN {x:V} {u t:Value} (I:Inv X pins σ H s) (rx:Be x u) (ty:Je X.K H x t) (e:PySem.W.kitOne X.K t c=some b) (h:∀ tk,Q (.bool b) { s with toks:=tk }) :
  wpAny (model X.prog X.w) A (call (.builtin "isinstance") [u,c]) Q E s:=by
 cases ty with
 | non=>cases (show u=Value.none from rx); exact PySem.W.kia_one PySem.W.kitx_none I.kIn True.intro e (fun z=>nomatch z) h
 | bl y=>cases (show u=Value.bool y from rx); exact PySem.W.kia_one PySem.W.kitx_bool I.kIn True.intro e (fun z=>nomatch z) h
 | int i=>obtain ⟨t,q⟩:=(show ∃ t,u=Value.int i t from rx); cases q; exact PySem.W.kia_one PySem.W.kitx_int I.kIn True.intro e (fun z=>nomatch z) h
 | str y=>obtain ⟨t,q⟩:=(show ∃ t,u=Value.str y t from rx); cases q; exact PySem.W.kia_one PySem.W.kitx_str I.kIn True.intro e (fun z=>nomatch z) h
 | flt y=>obtain ⟨t,q⟩:=(show ∃ t,u=Value.float y t from rx); cases q; exact PySem.W.kia_one PySem.W.kitx_float I.kIn True.intro e (fun z=>nomatch z) h
 | @lst a xs ea =>
  cases (show u=Value.ref a from rx);obtain ⟨_,_,n,_,h1⟩:=(show Cs X.prog X.w H s.heap a (.lst xs) from I.hok a _ ea)
  exact PySem.W.kia_one PySem.W.kitx_list I.kIn ⟨_,h1,rfl⟩ e (fun z=>nomatch z) h
 | @frz a ob xs ea =>
  cases (show u=Value.ref a from rx);obtain ⟨_,_,_,n,_,h1⟩:=(show Cs X.prog X.w H s.heap a (.frz ob (.lst xs)) from I.hok a _ ea)
  exact PySem.W.kia_one PySem.W.kitx_list I.kIn ⟨_,h1,rfl⟩ e (fun z=>nomatch z) h
 | @tup a xs ea =>
  cases (show u=Value.ref a from rx);obtain ⟨_,_,_,p⟩:=(show Cs X.prog X.w H s.heap a (.tup xs) from I.hok a _ ea)
  obtain ⟨o,h1,h2,_⟩:=p;exact PySem.W.kia_one PySem.W.kitx_tuple I.kIn ⟨o,h1,h2⟩ e (fun z=>nomatch z) h
 | @dK a kvs ea =>
  cases (show u=Value.ref a from rx);obtain ⟨_,_,vs,_,p⟩:=(show Cs X.prog X.w H s.heap a (.dK kvs) from I.hok a _ ea)
  obtain ⟨o,es,ep,h1,h2,_⟩:=p;exact PySem.W.kia_one PySem.W.kitx_dict I.kIn ⟨o,h1,h2.1⟩ e (fun z=>nomatch z) h
 | @dT a kvs ea =>
  cases (show u=Value.ref a from rx);obtain ⟨_,_,xs,_,o,es,ep,h1,h2,_⟩:=(show Cs X.prog X.w H s.heap a (.dT kvs) from I.hok a _ ea)
  exact PySem.W.kia_one PySem.W.kitx_dict I.kIn ⟨o,h1,h2.1⟩ e (fun z=>nomatch z) h
 | @ins a C dx fs ea cl ha hn htk hm =>
  cases (show u=Value.ref a from rx);obtain ⟨mA,O,_⟩:=JE I.hok ea;obtain ⟨od,J,_⟩:=O.look;exact PySem.W.kia_one (PySem.W.kitx_own (cl.get _) cl.hd ha hn htk hm) I.kIn J e (fun z=>nomatch z) h
end
end L2
namespace L2
open PySem PySem.Spec PyProof.Rows
structure Eg (k:Nat) (A:Around):Prop where
 hd:A.handled=none
 dp:A.depth+3 * k+5 < recursionLimit
 un:A.units+16 * k+200 < cLine
theorem Eg.mono {j k:Nat} {A:Around} (r:Eg k A) (h:j<=k):Eg j A:=⟨r.hd,by have:=r.dp; lia,by have:=r.un; lia⟩
theorem Eg.deeper {k:Nat} {A:Around} (r:Eg (k+1) A) (env:Env):Eg k (A.deeper env) :=
 ⟨r.hd,by have:=r.dp; show A.depth+1+3 * k+5 < _; lia,by have:=r.un; show A.units+3+16 * k+200 < _; lia⟩
theorem Pb {A:Around} {C:Addr} {us:List Value} {kw:List (Str×Value)}:(A.under (.builtin "type.__call__" ⟨.ref C :: us,kw⟩)).depth=A.depth+1:=by
 first | rfl | simp [Around.under,Code.weight,Code.isCreation,Code.isGuard,Code.isCaller,Code.frames,Code.isFrame,guardIds]
theorem Pa {A:Around} {C:Addr} {us:List Value} {kw:List (Str×Value)}:(A.under (.builtin "type.__call__" ⟨.ref C :: us,kw⟩)).units=A.units+1:=by
 first | rfl | simp [Around.under,Code.cUnits,Code.frames,Code.isFrame]
theorem Eg.make {k:Nat} {A:Around} (r:Eg (k+1) A) (C:Addr) (us:List Value) (kw:List (Str×Value)):Eg k (A.under (.builtin "type.__call__" ⟨.ref C :: us,kw⟩)) :=
 ⟨r.hd,by have:=r.dp; rw [Pb]; lia,by have:=r.un; rw [Pa]; lia⟩
theorem Eg.depth {k:Nat} {A:Around} (r:Eg k A):A.depth < recursionLimit:=by have:=r.dp; lia
theorem Eg.units {k:Nat} {A:Around} (r:Eg k A):A.units+64 < cLine:=by have:=r.un; lia
def Rj:TA:=fun _ H Q=>Q [] H
def Jf (ta:TE) (tr:TA):TA:=fun σ H Q=>ta σ H fun x H1=>tr σ H1 fun xs H2=>Q (x :: xs) H2
section
variable {X:Cx} {e:Expr} {es:List Expr} {te:TE} {t:TA} {pos:Pos}
theorem Ac:PA X [] Rj:=fun _ _ _ _ H Q I h=>Calls.spliced_nil ⟨[],H,I,.nil,h⟩
theorem Aa (ha:PE X e te) (hr:PA X es t) (hs:starEach (e :: es) X.env=(false,eval e X.env) :: starEach es X.env:=by rfl):PA X (e :: es) (Jf te t):=by
 intro pos pins s σ H Q I h;rw [hs];show wpAny _ _ (spliced ((false,eval e X.env) :: backTo pos (starEach es X.env))) _ _ s;refine Calls.spliced_cons (thn (ha pins s σ H _ I h) fun u s1 ⟨x,H1,I1,r1,q1⟩=>?_);exact thn (hr pos pins s1 σ H1 _ I1 q1) fun us s2 ⟨xs,H2,I2,r2,q2⟩=>⟨x :: xs,H2,I2,.cons r1 r2,q2⟩
def tTup (t:TA):TE:=fun σ H Q=>t σ H fun xs H1=>xs.length<=sizeLine/\∀ p,H1 p=none->Q (.ref p) (upd H1 p (.tup xs))
def tLst (t:TA):TE:=fun σ H Q=>t σ H fun xs H1=>xs.length<=sizeLine/\∀ p,H1 p=none->Q (.ref p) (upd H1 p (.lst xs))
theorem JV {x1} (h:PA X es t):PE X (.Tuple es x1 pos) (tTup t):=by
 intro pins s σ H Q I hq;refine wpAny_Tuple_spliced (thn (h pos pins s σ H _ I hq) fun us s1 ⟨xs,H1,I1,r,z,q⟩=>⟨by rw [<-r.length]; exact z,?_⟩);have hf:H1 s1.heap.objs.size=none:=I1.hok.fresh (Nat.le_refl _);refine ⟨.ref s1.heap.objs.size,upd H1 s1.heap.objs.size (.tup xs),I1.laid (t':=s1.toks) (fun b u e=>Heap.get?_push_of_some _ e) (Nat.le_refl _) ?_,rfl,q _ hf⟩;exact ⟨z,us,r,⟨_,Heap.get?_push_size _ rfl,rfl,_,rfl⟩⟩
theorem Bc (h:PA X es t):PE X (.List es pos) (tLst t):=by
 intro pins s σ H Q I hq;refine wpAny_List_spliced (thn (h pos pins s σ H _ I hq) fun us s1 ⟨xs,H1,I1,r,z,q⟩=>⟨by rw [<-r.length]; exact z,?_⟩);have hf:H1 s1.heap.objs.size=none:=I1.hok.fresh (Nat.le_refl _);refine ⟨.ref s1.heap.objs.size,upd H1 s1.heap.objs.size (.lst xs),I1.laid (t':=s1.toks) (fun b u e=>Heap.get?_push_of_some _ e) (Nat.le_refl _) ?_,rfl,q _ hf⟩;exact ⟨z,us,0,r,Heap.get?_push_size _ rfl⟩
end
abbrev Sp:=List V->Hp->VK->XK->Prop
abbrev CXT:=List Env->Hp->Shared->XK->Value->Shared->Prop
structure Pn (P:Program) (w:World) (K:PySem.W.Frag) (mg:Str->Option Value) (base:Heap) (A:Around) (outer:List Env) (s:Shared) (H:Hp):Prop where
 frames:A.frames=some outer
 mod:Mod K mg base
 bs:∀ b o,base.get? b=some o->s.heap.get? b=some o/\H b=none
 bsz:base.objs.size<=s.heap.objs.size
 funs:s.heap.FunFrames base outer
 frf:∀ b ∈ frs outer,H b=none
 hok:HOk P w H s.heap
 bare:AllBare s.gens
def CE (outer:List Env) (P:Program) (w:World) (H:Hp) (s:Shared) (Q:VK) (u:Value) (s':Shared):Prop :=
 ∃ v H',s'.os=s.os/\AllBare s'.gens/\Un (frs outer) [] H H' s.heap s'.heap/\HOk P w H' s'.heap/\Be v u/\Q v H'
def CR (CX:CXT) (outer:List Env) (P:Program) (w:World) (H:Hp) (s:Shared) (Q:VK) (E:XK) (r:Result) (s':Shared):Prop :=
 match r with
 | .ok (.ret u)=>CE outer P w H s Q u s'
 | .ok _=>False
 | .error e=>CX outer H s E e s'
structure AU (P:Program) (w:World) (K:PySem.W.Frag) (mg:Str->Option Value) (base:Heap) (CX:CXT) (k:Nat) (f:Addr) (fd:FuncData) (ps:List Str) (sp:Sp):Prop where
 len:∀ vs H Q E,sp vs H Q E->vs.length=ps.length
 run:∀ (A:Around) (outer:List Env) (s:Shared) (H:Hp) (args:Args) (us:List Value) (vs:List V) (Q:VK) (E:XK),Eg k A->Pn P w K mg base A outer s H->BindsTo s fd args (ps.zip us)->AS vs us->sp vs H Q E ->
  codeAny (model P w) A (.call (.ref f) args) (CR CX outer P w H s Q E) s
theorem AU.imp {P:Program} {w:World} {K:PySem.W.Frag} {mg:Str->Option Value} {base:Heap} {CX:CXT} {k:Nat} {f:Addr} {fd:FuncData} {ps:List Str} {sp sp':Sp} (F:AU P w K mg base CX k f fd ps sp)
  (h:∀ vs H Q E,sp' vs H Q E->sp vs H Q E):AU P w K mg base CX k f fd ps sp' :=
 ⟨fun vs H Q E q=>F.len vs H Q E (h _ _ _ _ q),fun A outer s H args us vs Q E hr he hb hv hs=>F.run A outer s H args us vs Q E hr he hb hv (h _ _ _ _ hs)⟩
theorem Pn.make {P:Program} {w:World} {K:PySem.W.Frag} {mg:Str->Option Value} {base:Heap} {A:Around} {outer:List Env} {s:Shared} {H:Hp} (e:Pn P w K mg base A outer s H) (C:Addr) (us:List Value) (kw:List (Str×Value)) :
  Pn P w K mg base (A.under (.builtin "type.__call__" ⟨.ref C :: us,kw⟩)) outer s H:=⟨by first | exact e.frames | (simpa [Around.under,Code.envs,Code.isFrame,pushEnvs] using e.frames),e.mod,e.bs,e.bsz,e.funs,e.frf,e.hok,e.bare⟩
section
variable {X:Cx} {pins:List (Addr×Obj)} {σ:St} {H:Hp} {s s':Shared}
theorem Inv.env0 (I:Inv X pins σ H s):Pn X.prog X.w X.K X.mg X.base X.A X.stack s H :=
 ⟨I.ok.frames,I.ok.mod,I.bs,Nat.le_trans I.ok.bsz I.sz,I.stack,I.stkFree,I.hok,I.bare⟩
theorem Inv.after {Q:VK} {u:Value} (I:Inv X pins σ H s) (h:CE X.stack X.prog X.w H s Q u s'):EP X pins σ Q u s':=by
 obtain ⟨v,H',os,bare,un,hok,r,q⟩:=h;obtain ⟨hh,g,d,t,os'⟩:=s';obtain rfl:os'=s.os:=os;exact ⟨v,H',I.call (h':=hh) (g':=g) (d':=d) (t':=t) (ch:=[]) un hok bare (fun b z=>absurd z (by simp)),r,q⟩
end
def tCall (sp:Sp) (dvs:List V) (E:XK) (t:TA):TE:=fun σ H Q=>t σ H fun vs H1=>sp (vs ++ dvs) H1 Q E
def tMeth (C:Addr) (m:Str) (sp:Sp) (dvs:List V) (E:XK) (ta:TE) (t:TA):TE:=fun σ H Q=>ta σ H fun x H1=>∃ a dx fs,x=.ref a/\H1 a=some (.ins C dx fs)/\fs.lookup m=none /\
 t σ H1 fun vs H2=>sp (x :: (vs ++ dvs)) H2 Q E
def Pr (C:Addr) (sp:Sp) (dvs:List V) (E:XK) (t:TA):TE:=fun σ H Q=>t σ H fun vs H1=>∀ x dx,H1 x=none->H1 dx=none->dx≠x ->
 sp (.ref x :: (vs ++ dvs)) (upd (upd H1 dx (.own x)) x (.ins C dx [])) (fun v H2=>v=.non/\Q (.ref x) H2) E
def FG (K:PySem.W.Frag) (fd:FuncData) (ps:List Str) (ds:List Value):Prop :=
 ∀ (s:Shared) (us:List Value),K.In s.heap->(us ++ ds).length=ps.length->BindsTo s fd ⟨us,[]⟩ (ps.zip (us ++ ds))
theorem FG.all {K:PySem.W.Frag} {fd:FuncData} {ps:List Str} (h:∀ us:List Value,us.length=ps.length->bindArgs fd ⟨us,[]⟩=pure (ps.zip us)):FG K fd ps []:=fun s us _ hl=>by
 rw [List.append_nil] at hl ⊢;exact .of_eq (h us hl)
def FF (CX:CXT) (X:Cx) (E:XK):Prop:=∀ (pins:List (Addr×Obj)) (σ:St) (H:Hp) (s:Shared) (e:Value) (s':Shared),Inv X pins σ H s->CX X.stack H s E e s'->X.xe e s'
section
variable {X:Cx} {CX:CXT} {k:Nat} {f C:Addr} {fd:FuncData} {ps:List Str} {sp:Sp} {dvs:List V} {ds:List Value} {E:XK} {x m:Str} {p pos apos:Pos} {e o:Expr} {es:List Expr} {ta:TE} {t:TA}
theorem RF {pins:List (Addr×Obj)} {σ:St} {H:Hp} {s:Shared} {Q:VK} {us:List Value} {vs:List V} (F:AU X.prog X.w X.K X.mg X.base CX k f fd ps sp) (hr:Eg k X.A) (hb:FG X.K fd ps ds) (hd:AS dvs ds) (hx:FF CX X E)
  (I:Inv X pins σ H s) (r:AS vs us) (h:sp (vs ++ dvs) H Q E):wpAny (model X.prog X.w) X.A (call (.ref f) us) (EP X pins σ Q) X.xe s:=by
 have r2:AS (vs ++ dvs) (us ++ ds):=r.append hd;have hl:(us ++ ds).length=ps.length:=by rw [<-r2.length]; exact F.len _ _ _ _ h
 refine wpAny_call (codeAny_mono (F.run X.A X.stack s H ⟨us,[]⟩ (us ++ ds) (vs ++ dvs) Q E hr I.env0 (hb s us I.kIn hl) r2 h) fun r s' hq=>?_);cases r with
 | error e=>exact hx pins σ H s e s' I hq
 | ok fl =>
  cases fl with
  | ret u=>exact I.after hq
  | next=>exact False.elim hq
  | brk=>exact False.elim hq
  | cont=>exact False.elim hq
theorem pe_call (F:AU X.prog X.w X.K X.mg X.base CX k f fd ps sp) (hr:Eg k X.A) (hg:Gl X x) (hm:X.mg x=some (.ref f)) (hk:PySem.W.keepIn X.K (.ref f)=true) (hb:FG X.K fd ps ds) (hd:AS dvs ds) (hx:FF CX X E)
  (ha:PA X (e :: es) t) (hdb:(x == ("__debug__" : Str))=false:=by decide) (he:starEach (e :: es) X.env=(false,eval e X.env) :: starEach es X.env:=by rfl) (hpl:(backTo pos (starEach es X.env)).any (·.1)=false:=by rfl) :
  PE X (.Call (.Name x p) (e :: es) [] pos) (tCall sp dvs E t):=by
 intro pins s σ H Q I h;refine wpAny_Call_Name_kw (JC I hg hm ?_ hdb);refine PySem.W.callWith_K (h₀:=X.base) I.ok.mod.kin hk (thn (ha pos pins s σ H _ I h) fun us s1 ⟨vs,H1,I1,r,q⟩=>⟨I1.kIn,?_⟩) he hpl;exact RF F hr hb hd hx I1 r q
theorem pe_meth {pl:Sem Bool} (he:PE X o ta) (c:Cls X.K C) (hm:Fg X.K C m f) (F:AU X.prog X.w X.K X.mg X.base CX k f fd ps sp) (hr:Eg k X.A) (hb:FG X.K fd ps ds) (hd:AS dvs ds) (hx:FF CX X E) (ha:PA X (e :: es) t)
  (hst:starEach (e :: es) X.env=(false,eval e X.env) :: starEach es X.env:=by rfl) (hpl:(backTo pos (starEach es X.env)).any (·.1)=false:=by rfl)
  (ht:eval (.Call (.Attribute o m apos) (e :: es) [] pos) X.env=(do
   let ov <-eval o X.env
   standAt apos.atName
   let (f,first) <-holding [ov] (getMethod ov m pl)
   callWith pos f first (backTo pos (starEach (e :: es) X.env)) (backToKw pos (keywordEach [] X.env))):=by rfl) :
  PE X (.Call (.Attribute o m apos) (e :: es) [] pos) (tMeth C m sp dvs E ta t):=by
 intro pins s σ H Q I h;refine PySem.W.methodCall_KW (pl:=pl) (thn (he pins s σ H _ I h) fun u s1 ⟨x,H1,I1,rx,a,dx,fs,ex,ea,l,q⟩=>?_) ht;subst ex;obtain rfl:u=Value.ref a:=rx;refine Pf I1 ea c hm l ?_;refine PySem.W.callWith_K (first:=[.ref a]) (h₀:=X.base) I.ok.mod.kin hm.kp (thn (ha pos pins s1 σ H1 _ I1 q) fun us s2 ⟨vs,H2,I2,r,q2⟩=>⟨I2.kIn,?_⟩) hst hpl;exact RF (us:=.ref a :: us) (vs:=.ref a :: vs) F hr hb hd hx I2 (.cons rfl r) q2
structure Mk (K:PySem.W.Frag) (C f:Addr):Prop where
 makes:PySem.W.makesIn K C=true
 init:PySem.W.findIn K (.ref C) "__init__" = some (some (.ref f))
 fn:PySem.W.isFn K (.ref f)=true
 kp:PySem.W.keepIn K (.ref C)=true
theorem NI {pins:List (Addr×Obj)} {σ:St} {H:Hp} {s:Shared} {Q:VK} {us:List Value} {vs:List V} (M:Mk X.K C f) (F:AU X.prog X.w X.K X.mg X.base CX k f fd ps sp) (hr:Eg (k+1) X.A) (hb:FG X.K fd ps ds) (hd:AS dvs ds)
  (hx:FF CX X E) (I:Inv X pins σ H s) (r:AS vs us)
  (h:∀ x dx,H x=none->H dx=none->dx≠x->sp (.ref x :: (vs ++ dvs)) (upd (upd H dx (.own x)) x (.ins C dx [])) (fun v H2=>v=.non/\Q (.ref x) H2) E) :
  wpAny (model X.prog X.w) X.A (call (.ref C) us) (EP X pins σ Q) X.xe s:=by
 have hq:=h (s.heap.objs.size+1) s.heap.objs.size (I.hok.fresh (Nat.le_succ _)) (I.hok.fresh (Nat.le_refl _)) (Nat.ne_of_lt (Nat.lt_succ_self _));have I2:=Inv.made (C:=C) I;have r2:AS (V.ref (s.heap.objs.size+1) :: (vs ++ dvs)) (Value.ref (s.heap.objs.size+1) :: (us ++ ds)):=.cons rfl (r.append hd);have hl:(Value.ref (s.heap.objs.size+1) :: us ++ ds).length=ps.length:=by
  have e:=r2.length;rw [F.len _ _ _ _ hq] at e;exact e.symm
 refine wpAny_call (Sh (f:=f) I.kIn M.makes M.init (beq_iff_eq.mp M.fn) (codeAny_mono (F.run _ X.stack _ _ ⟨Value.ref (s.heap.objs.size+1) :: us,[]⟩ (Value.ref (s.heap.objs.size+1) :: (us ++ ds)) _ _ E (hr.make C us [])
  (I2.env0.make C us []) (hb _ (Value.ref (s.heap.objs.size+1) :: us) I2.kIn hl) r2 hq) fun r s' hq'=>?_))
 cases r with
 | error e=>exact hx pins σ _ _ e s' I2 hq'
 | ok fl =>
  cases fl with
  | ret u =>
   obtain ⟨v,H',I3,rv,ev,q3⟩:=I2.after hq';subst ev;exact ⟨rv,⟨V.ref (s.heap.objs.size+1),H',I3,rfl,q3⟩⟩
  | next=>exact False.elim hq'
  | brk=>exact False.elim hq'
  | cont=>exact False.elim hq'
theorem pe_make (M:Mk X.K C f) (F:AU X.prog X.w X.K X.mg X.base CX k f fd ps sp) (hr:Eg (k+1) X.A) (hg:Gl X x) (hm:X.mg x=some (.ref C)) (hb:FG X.K fd ps ds) (hd:AS dvs ds) (hx:FF CX X E)
  (ha:PA X (e :: es) t) (hdb:(x == ("__debug__" : Str))=false:=by decide) (he:starEach (e :: es) X.env=(false,eval e X.env) :: starEach es X.env:=by rfl) (hpl:(backTo pos (starEach es X.env)).any (·.1)=false:=by rfl) :
  PE X (.Call (.Name x p) (e :: es) [] pos) (Pr C sp dvs E t):=by
 intro pins s σ H Q I h;refine wpAny_Call_Name_kw (JC I hg hm ?_ hdb);refine PySem.W.callWith_K (h₀:=X.base) I.ok.mod.kin M.kp (thn (ha pos pins s σ H _ I h) fun us s1 ⟨vs,H1,I1,r,q⟩=>⟨I1.kIn,?_⟩) he hpl;exact NI M F hr hb hd hx I1 r q
theorem RN (M:Mk X.K C f) (F:AU X.prog X.w X.K X.mg X.base CX k f fd ps sp) (hr:Eg (k+1) X.A) (hg:Gl X x) (hm:X.mg x=some (.ref C)) (hb:FG X.K fd ps ds) (hd:AS dvs ds) (hx:FF CX X E)
  (hdb:(x == ("__debug__" : Str))=false:=by decide):PE X (.Call (.Name x p) [] [] pos) (Pr C sp dvs E Rj):=by
 intro pins s σ H Q I h;refine wpAny_Call_Name_kw (JC I hg hm ?_ hdb);exact PySem.W.callWith_K0 I.kIn M.kp (NI (us:=[]) M F hr hb hd hx I .nil h)
end
section
variable {X:Cx} {CX:CXT} {k:Nat} {f C:Addr} {fd:FuncData} {ps ks:List Str} {sp:Sp} {E:XK} {x m:Str} {p pos apos kpos:Pos} {e o:Expr} {es:List Expr} {kws:List Keyword} {te ta:TE} {t tk:TA} {nm:Option Str}
variable {g:List Value->List Value->List Value} {gV:List V->List V->List V}
end
structure Ay (N P:List Str) (sc:Scope):Prop where
 kind:sc.kind=.function
 co:sc.isCoroutine=false
 gen:sc.isGenerator=false
 nd:N.Nodup
 pre:N.take P.length=P
 par:∀ x ∈ P,sc.names.lookup x=some .local\/sc.names.lookup x=some .cell
 nofree:∀ y ∈ sc.names,y.2≠.free
theorem Mn {kindOf:Str->Option NameKind} {x:Str}:∀ {binds:List (Str×Value)} {m:Str->Option Value},(∀ v,(x,v) ∉ binds)->bindL kindOf binds m x=m x
 | [],_,_=>rfl
 | (n,v) :: r,m,h=>by
  unfold bindL;rw [Mn fun w hw=>h w (List.mem_cons_of_mem _ hw)];split
  ·have:x≠n:=by rintro rfl; exact h v List.mem_cons_self
   simp [this]
  ·rfl
theorem Mp {kindOf:Str->Option NameKind} {x:Str}:∀ {binds:List (Str×Value)} {m:Str->Option Value},(∀ v,(x,v) ∉ binds)->bindC kindOf binds m x=m x
 | [],_,_=>rfl
 | (n,v) :: r,m,h=>by
  unfold bindC;rw [Mp fun w hw=>h w (List.mem_cons_of_mem _ hw)];split
  ·rfl
  ·have:x≠n:=by rintro rfl; exact h v List.mem_cons_self
   simp [this]
theorem Mo {kindOf:Str->Option NameKind} {x:Str} {v:Value}:∀ {P:List Str} {vs:List Value} {i:Nat} {m:Str->Option Value},P.Nodup->P[i]?=some x->vs[i]?=some v->kindOf x=some .local ->
  bindL kindOf (P.zip vs) m x=some v
 | [],_,_,_,_,h,_,_=>by simp at h
 | _ :: _,[],_,_,_,_,h,_=>by simp at h
 | p :: P,w :: vs,0,m,nd,h1,h2,hk=>by
  simp at h1 h2; subst h1; subst h2;show bindL kindOf ((p,w) :: P.zip vs) m p=_;unfold bindL;rw [Mn fun v hv=>(List.nodup_cons.mp nd).1 (List.of_mem_zip hv).1,if_pos hk];simp
 | p :: P,w :: vs,i+1,m,nd,h1,h2,hk=>by
  show bindL kindOf ((p,w) :: P.zip vs) m x=_;unfold bindL;exact Mo (i:=i) (List.nodup_cons.mp nd).2 (by simpa using h1) (by simpa using h2) hk
theorem Mq {kindOf:Str->Option NameKind} {x:Str} {v:Value}:∀ {P:List Str} {vs:List Value} {i:Nat} {m:Str->Option Value},P.Nodup->P[i]?=some x->vs[i]?=some v->kindOf x≠some .local ->
  bindC kindOf (P.zip vs) m x=some v
 | [],_,_,_,_,h,_,_=>by simp at h
 | _ :: _,[],_,_,_,_,h,_=>by simp at h
 | p :: P,w :: vs,0,m,nd,h1,h2,hk=>by
  simp at h1 h2; subst h1; subst h2;show bindC kindOf ((p,w) :: P.zip vs) m p=_;unfold bindC;rw [Mp fun v hv=>(List.nodup_cons.mp nd).1 (List.of_mem_zip hv).1,if_neg hk];simp
 | p :: P,w :: vs,i+1,m,nd,h1,h2,hk=>by
  show bindC kindOf ((p,w) :: P.zip vs) m x=_;unfold bindC;exact Mq (i:=i) (List.nodup_cons.mp nd).2 (by simpa using h1) (by simpa using h2) hk
def Jg (N:List Str) (vs:List V):St:=vs.map some ++ List.replicate (N.length - vs.length) none
def QX (CX:CXT) (P:Program) (w:World) (K:PySem.W.Frag) (mg:Str->Option Value) (base:Heap) (N:List Str) (qual:Str) (scope:Scope) (f:Addr) (cd:Value) (A:Around) (outer:List Env) (s:Shared) (H:Hp) (E:XK):Cx where
 prog:=P
 w:=w
 K:=K
 mg:=mg
 base:=base
 A:=A.deeper (envOfC qual scope s.heap.objs.size f cd)
 N:=N
 s₀:=s
 H₀:=H
 env:=envOfC qual scope s.heap.objs.size f cd
 outer:=outer
 stack:=envOfC qual scope s.heap.objs.size f cd :: outer
 ex:=[]
 calm:=true
 fn:=fun _=>true
 pn:=[]
 xe:=fun e s'=>wpAny (model P w) (A.deeper (envOfC qual scope s.heap.objs.size f cd)) (leaving (envOfC qual scope s.heap.objs.size f cd) e) (fun _ s''=>CX outer H s E e s'') (fun e' s''=>CX outer H s E e' s'') s'
theorem On {sc:Scope} {n:Nat} {x:Str} (h:sc.names.lookup x=some .cell):∃ c,(cellsFrom n sc.names []).lookup x=some c:=by
 have q:=PySem.W.cellsFrom_some sc.names n [] (.inl h);exact Option.isSome_iff_exists.mp q
theorem QO {CX:CXT} {P:Program} {w:World} {K:PySem.W.Frag} {mg:Str->Option Value} {base:Heap} {N ps:List Str} {qual:Str} {scope:Scope} {f:Addr} {cd:Value} {A:Around} {outer:List Env} {s s1:Shared} {H:Hp} {E:XK} {us:List Value} {vs:List V}
  (S:Ay N ps scope) (hd:A.handled=none) (e0:Pn P w K mg base A outer s H) (hl:vs.length=ps.length) (r:AS vs us)
  (x:InCallC s s.heap.objs.size (bindL (envOfC qual scope s.heap.objs.size f cd).kindOf (ps.zip us) fun _=>none) (cellsFrom (s.heap.objs.size+1) scope.names []) (bindC (envOfC qual scope s.heap.objs.size f cd).kindOf (ps.zip us) fun _=>none) s1) :
  Inv (QX CX P w K mg base N qual scope f cd A outer s H E) [] (Jg N vs) H s1:=by
 have hpl:ps.length<=N.length:=by have:=congrArg List.length S.pre; rw [List.length_take] at this; lia
 obtain ⟨h1,tk,rfl,hk⟩:=x.done;have noA:∀ b:Addr,b ∉ (QX CX P w K mg base N qual scope f cd A outer s H E).ex:=fun b z=>absurd (show b ∈ ([]:List Addr) from z) (by simp);refine ⟨⟨e0.mod,S.kind,rfl,rfl,Nat.le_refl _,fun y z c h1 h2=>?_,fun y hy=>?_,fun y c _ h=>?_,fun _=>hd,Around.frames_deeper e0.frames,.inr ⟨rfl,rfl⟩,fun b z=>absurd z (noA b),e0.bs,e0.bsz,fun b _ _=>noA b,fun b z=>absurd z (noA b),e0.funs,e0.frf⟩,
  rfl,e0.bare,Un.kept hk,⟨_,x.toInCall.ns,fun i y v h1 h2 h3=>?_⟩,fun y c h=>⟨_,x.cell y c h⟩,e0.hok.fresh (Nat.le_refl _),fun y c h=>?_,fun p hp=>absurd (show p ∈ ([]:List (Addr×Obj)) from hp) (by simp),e0.hok.kept hk,?_⟩
 ·exact name_of_addr x.apart (PySem.mem_of_lookup h1) (PySem.mem_of_lookup h2)
 ·have hy:scope.names.lookup y=some .cell\/scope.names.lookup y=some .free:=hy;rcases hy with hy | hy
  ·exact On hy
  ·exact absurd rfl (S.nofree _ (PySem.mem_of_lookup hy))
 ·exact Nat.le_of_lt (x.above y c (PySem.mem_of_lookup h))
 ·have hi:i < vs.length:=by
   unfold Jg at h2;by_cases hi:i < vs.length
   ·exact hi
   ·rw [List.getElem?_append_right (by simpa using hi)] at h2;rw [List.getElem?_replicate] at h2;split at h2<;>cases h2
  have ha:vs[i]?=some v:=by
   unfold Jg at h2;rw [List.getElem?_append_left (by simpa using hi),List.getElem?_map] at h2;cases e:vs[i]? with
   | none=>rw [e] at h2; cases h2
   | some a=>rw [e] at h2; cases h2; rfl
  obtain ⟨u,hu,rv⟩:=r.get ha;have hp:ps[i]?=some y:=by
   rw [<-S.pre,List.getElem?_take_of_lt (by lia)]; exact h1
  have ndP:ps.Nodup:=by rw [<-S.pre]; exact S.nd.sublist (List.take_sublist _ _)
  refine ⟨u,rv,?_⟩;rcases S.par y (List.mem_of_getElem? hp) with k | k
  ·exact .inl ⟨k,Mo ndP hp hu k⟩
  ·obtain ⟨c,e⟩:=On (n:=s.heap.objs.size+1) k;refine .inr ⟨.inl k,c,e,?_⟩;have q:=x.cell y c e;rw [Mq ndP hp hu (by show scope.names.lookup y≠_; rw [k]; decide)] at q;exact q
 ·exact e0.hok.fresh (Nat.le_of_lt (x.above y c (PySem.mem_of_lookup h)))
 ·unfold Jg;show _=N.length;rw [List.length_append,List.length_map,List.length_replicate];lia
theorem fn_of {CX:CXT} {P:Program} {w:World} {K:PySem.W.Frag} {mg:Str->Option Value} {base:Heap} {k:Nat} {f:Addr} {name qual:Str} {params:Arguments} {body:List Stmt} {scope:Scope} {dV kV doc pm cdv ct oc:Value} {an od:Option Addr}
  {osl:Array (Option Value)} {N ps:List Str} {sp:Sp} (lk:K.lookup f=some ⟨oc,od,.func (PySem.W.fnOf name qual params body scope dV kV doc pm an cdv ct),osl⟩) (hcd:PySem.W.codeIn K cdv qual=true) (S:Ay N ps scope)
  (len:∀ vs H Q E,sp vs H Q E->vs.length=ps.length)
  (hbody:∀ (A:Around) (outer:List Env) (s:Shared) (H:Hp) (vs:List V) (Q:VK) (E:XK),Eg k (A.deeper (envOfC qual scope s.heap.objs.size f cdv))->sp vs H Q E ->
   ∃ t,PSs (QX CX P w K mg base N qual scope f cdv A outer s H E) body t/\t { nx:=fun _ H'=>Q .non H',rt:=Q } (Jg N vs) H) :
  AU P w K mg base CX (k+1) f (PySem.W.fnOf name qual params body scope dV kV doc pm an cdv ct) ps sp:=by
 refine ⟨len,fun A outer s H args us vs Q E hr e0 hb r hsp=>?_⟩;have hl:=len _ _ _ _ hsp;have KX:K.In s.heap:=e0.mod.kin.keeps fun b o e=>(e0.bs b o e).1;have lim:s.heap.NoLimit:=e0.mod.nolimit.keeps fun b o e=>(e0.bs b o e).1;have hkind:∀ y ∈ ps.zip us,scope.names.lookup y.1=some .local\/(scope.names.lookup y.1=some .cell/\((cellsFrom (s.heap.objs.size+1) scope.names []).lookup y.1).isSome=true):=fun ⟨n,v⟩ hy=>by
  rcases S.par n (List.of_mem_zip hy).1 with q | q
  ·exact .inl q
  ·exact .inr ⟨q,PySem.W.cellsFrom_some _ _ _ (.inl q)⟩
 refine codeAny_call_function hr.depth (KX _ _ lk) rfl S.co S.gen rfl (PySem.W.codeRec_of KX hcd) (hb _ _ _ _ ?_);refine wpAny_newFunctionEnv_cells S.kind hkind fun env he s1 x=>?_;subst he;refine ⟨lim.keeps x.toInCall.keep,codeAny_func ?_⟩;obtain ⟨t,ht,hq⟩:=hbody A outer s H vs Q E (hr.deeper _) hsp;have I:Inv (QX CX P w K mg base N qual scope f cdv A outer s H E) [] (Jg N vs) H s1:=QO S hr.hd e0 hl r x;refine wpAny_mono (ht [] s1 (Jg N vs) H _ I hq) (fun fl s' hs=>?_) fun e s' hs=>hs;have fin:∀ {σ':St} {H':Hp} {v:V} {u:Value},Inv (QX CX P w K mg base N qual scope f cdv A outer s H E) [] σ' H' s'->Be v u->Q v H'->CE outer P w H s Q u s' :=
  fun {σ' H' v u} J rv q=>⟨v,H',J.os,J.bare,J.base,J.hok,rv,q⟩
 cases fl with
 | ret u =>
  obtain ⟨v,σ',H',J,rv,q⟩:=hs;exact fin J rv q
 | next =>
  obtain ⟨σ',H',J,q⟩:=hs;exact fin (v:=V.non) (u:=Value.none) J rfl q
 | brk =>
  obtain ⟨_,_,_,q⟩:=hs;exact False.elim q
 | cont =>
  obtain ⟨_,_,_,q⟩:=hs;exact False.elim q
end L2
namespace L2
open PySem PySem.Spec PyProof.Rows
section
variable {X:Cx} {x:Str} {p pos:Pos} {e:Expr} {es:List Expr} {t:TA} {id T:String} {r:List V->Hp->VK->Prop}
def tCB (r:List V->Hp->VK->Prop) (t:TA):TE:=fun σ H Q=>t σ H fun vs H1=>r vs H1 Q
theorem AW (hc:GN X (.builtin id) r) (hg:Gl X x) (hm:X.mg x=none) (hv:bootBuiltins x=some (.builtin id)) (ha:PA X (e :: es) t) (hn:x≠"__name__" := by decide) (hdb:(x == ("__debug__" : Str))=false:=by decide)
  (he:starEach (e :: es) X.env=(false,eval e X.env) :: starEach es X.env:=by rfl) (hpl:(backTo pos (starEach es X.env)).any (·.1)=false:=by rfl):PE X (.Call (.Name x p) (e :: es) [] pos) (tCB r t):=by
 intro pins s σ H Q I h;refine wpAny_Call_Name_kw (GF I hg hm hv ?_ hn hdb);exact PyProof.Rows.callWith_builtin1 (thn (ha pos pins s σ H _ I h) fun us s1 ⟨vs,H1,I1,r1,q1⟩=>hc pins s1 σ H1 vs us Q I1 r1 q1) he hpl
theorem BZ (hc:GN X (.type T) r) (hg:Gl X x) (hm:X.mg x=none) (hv:bootBuiltins x=some (.type T)) (ha:PA X (e :: es) t) (hn:x≠"__name__" := by decide) (hdb:(x == ("__debug__" : Str))=false:=by decide)
  (he:starEach (e :: es) X.env=(false,eval e X.env) :: starEach es X.env:=by rfl) (hpl:(backTo pos (starEach es X.env)).any (·.1)=false:=by rfl):PE X (.Call (.Name x p) (e :: es) [] pos) (tCB r t):=by
 intro pins s σ H Q I h;refine wpAny_Call_Name_kw (GF I hg hm hv ?_ hn hdb);exact PyProof.Rows.callWith_type1 (thn (ha pos pins s σ H _ I h) fun us s1 ⟨vs,H1,I1,r1,q1⟩=>hc pins s1 σ H1 vs us Q I1 r1 q1) he hpl
end
end L2
namespace HT
open PySem PyProof.Rows
section
open PySem.SeqAt
open PySem.AutoSeq1 (wpAny_loadPart')
open PySem.MeetsSeq PySem.MeetsSeq2 PySem.MeetsSeq3
end
section
variable {prog:Program} {w:World} {A:Around} {E:Value->Shared->Prop} {s:Shared}
def sIx (n d:Nat):Option Int->Nat
 | none=>d
 | some v=>if v < 0 then (v+(n:Int)).toNat else min v.toNat n
theorem Jw (n d k:Nat):sIx n d (some (k:Int))=min k n:=by
 show (if (k:Int) < 0 then ((k:Int)+(n:Int)).toNat else min (k:Int).toNat n)=min k n;rw [if_neg (by lia),Int.toNat_natCast]
end
end HT
namespace L2
open PySem PySem.Spec PyProof.Rows
abbrev TO:=St->Hp->(Option Int->Hp->Prop)->Prop
def PO (X:Cx) (e:Option Expr) (t:TO):Prop :=
 ∀ (pins:List (Addr×Obj)) (s:Shared) (σ:St) (H:Hp) (Q:Option Int->Hp->Prop),Inv X pins σ H s->t σ H Q ->
  wpAny (model X.prog X.w) X.A (evalPart e X.env) (fun u s'=>∃ o H',Inv X pins σ H' s'/\IsPart u o/\Q o H') X.xe s
def tNoPart:TO:=fun _ H Q=>Q none H
def tPart (t:TE):TO:=fun σ H Q=>t σ H fun x H1=>∃ i,x=.int i/\Q (some i) H1
section
variable {X:Cx} {e:Expr} {te:TE} {lo hi:Option Expr} {tl th:TO} {pos p2:Pos}
theorem po_none:PO X none tNoPart:=by
 intro pins s σ H Q I h;rw [evalPart_none];exact wpAny_pure ⟨none,H,I,.none,h⟩
theorem CZ (h:PE X e te):PO X (some e) (tPart te):=by
 intro pins s σ H Q I hw;rw [evalPart_some];refine thn (h pins s σ H _ I hw) fun u s1 ⟨x,H1,I1,r1,q1⟩=>?_;obtain ⟨i,rfl,q⟩:=q1;obtain ⟨t,rfl⟩:=r1;exact ⟨some i,H1,I1,.int i t,q⟩
def SlR (X:Cx) (r:V->Option Int->Option Int->Hp->VK->Prop):Prop :=
 ∀ (pins:List (Addr×Obj)) (s:Shared) (σ:St) (H:Hp) (x:V) (v vl vu:Value) (lo hi:Option Int) (sl:Addr) (Q:VK),Inv X pins σ H s->Be x v->s.heap.IsSliceOf sl vl vu .none->IsPart vl lo->IsPart vu hi->r x lo hi H Q ->
  ∃ T id,typeLookup (.type T) "__getitem__" = pure (some (.builtin id))/\s.TypeIs v T/\wpAny (model X.prog X.w) X.A (getItem v (.ref sl)) (EP X pins σ Q) X.xe s
def tSl (r:V->Option Int->Option Int->Hp->VK->Prop) (te:TE) (tl th:TO):TE:=fun σ H Q=>te σ H fun x H1=>tl σ H1 fun l H2=>th σ H2 fun u H3=>r x l u H3 Q
theorem ES {r:V->Option Int->Option Int->Hp->VK->Prop} (hr:SlR X r) (he:PE X e te) (hl:PO X lo tl) (hu:PO X hi th):PE X (.Subscript e (.Slice lo hi none p2) pos) (tSl r te tl th):=by
 intro pins s σ H Q I h;refine Subscript_ (thn (he pins s σ H _ I h) fun v s1 ⟨x,H1,I1,r1,q1⟩=>?_);refine wpAny_Slice (thn (hl pins s1 σ H1 _ I1 q1) fun vl s2 ⟨l,H2,I2,pl,q2⟩=>thn (hu pins s2 σ H2 _ I2 q2) fun vu s3 ⟨u,H3,I3,pu,q3⟩=>?_);rw [evalPart_none];refine wpAny_pure ?_;have I4:Inv X pins σ H3 { s3 with heap:=s3.heap.push { cls:=.type "slice",data:=.fields #[vl,vu,.none] } }:=I3.kept (t':=s3.toks) fun b ob q=>Heap.get?_push_of_some _ q;obtain ⟨T,id,hT,ht,hg⟩:=hr pins { s3 with heap:=s3.heap.push { cls:=.type "slice",data:=.fields #[vl,vu,.none] } } σ H3 x v vl vu l u s3.heap.objs.size Q I4 r1 (Heap.IsSliceOf.new ..) pl pu q3;show wpAny (model X.prog X.w) X.A (subscriptTail e (.Slice lo hi none p2) v (.ref s3.heap.objs.size)) (EP X pins σ Q) X.xe { s3 with heap:=s3.heap.push { cls:=.type "slice",data:=.fields #[vl,vu,.none] } };exact tail_any (ops:=[.ref s3.heap.objs.size,v]) ht hT hg (by with_unfolding_all rfl)
def IG (xs:List V) (lo hi:Option Int):List V:=(xs.drop (HT.sIx xs.length 0 lo)).take (HT.sIx xs.length xs.length hi - HT.sIx xs.length 0 lo)
theorem Of (xs:List V) (lo hi:Option Int):(IG xs lo hi).length<=xs.length:=by
 unfold IG;rw [List.length_take,List.length_drop];lia
end
end L2
namespace L2
open PySem PySem.Spec PyProof.Rows
def ixN (n:Nat) (i:Int):Option Nat:=if 0<=i then (if i < n then some i.toNat else none) else if -(n:Int)<=i then some (i+n).toNat else none
def atI {α:Type} (xs:List α) (i:Int):Option α:=(ixN xs.length i).bind fun j=>xs[j]?
theorem PZ {n:Nat} {i:Int} {j:Nat} (h:ixN n i=some j):seqIndex? i n=some j/\j < n/\-(n:Int)<=i/\i < n:=by
 unfold ixN at h;by_cases h0:0<=i
 ·rw [if_pos h0] at h;by_cases h1:i < n
  ·rw [if_pos h1] at h;have e:i.toNat=j:=Option.some.inj h;exact ⟨by rw [seqIndex_of h0 h1,e],by lia,by lia,h1⟩
  ·rw [if_neg h1] at h; cases h
 ·rw [if_neg h0] at h;by_cases h1:-(n:Int)<=i
  ·rw [if_pos h1] at h;have e:(i+n).toNat=j:=Option.some.inj h;exact ⟨by rw [seqIndex_neg (by lia) h1,e],by lia,h1,by lia⟩
  ·rw [if_neg h1] at h; cases h
theorem Nk {α:Type} {xs:List α} {i:Int} {v:α} (h:atI xs i=some v):∃ j,seqIndex? i xs.length=some j/\xs[j]?=some v/\j < xs.length/\-(xs.length:Int)<=i/\i < xs.length:=by
 unfold atI at h;cases e:ixN xs.length i with
 | none=>rw [e] at h; cases h
 | some j =>
  rw [e] at h;obtain ⟨h1,h2,h3,h4⟩:=PZ e;exact ⟨j,h1,h,h2,h3,h4⟩
theorem Ai {α:Type} {xs:List α} {j:Nat} {v:α} (h:xs[j]?=some v):atI xs (j:Int)=some v:=by
 have hj:j < xs.length:=(List.getElem?_eq_some_iff.mp h).1;have e:ixN xs.length (j:Int)=some j:=by
  unfold ixN;rw [if_pos (by lia),if_pos (by lia)]; simp
 unfold atI; rw [e]; exact h
def PlainIx (b:Expr):Prop:=∀ o i,subscripted b false o i=operate [o,i] (getItem o i)
def IxR (X:Cx) (r:R2):Prop :=
 ∀ (value slice:Expr) (pins:List (Addr×Obj)) (s:Shared) (σ:St) (H:Hp) (x y:V) (v u:Value) (Q:VK),Inv X pins σ H s->Be x v->Be y u->r x y H Q ->
  subscripted slice false v u=operate [v,u] (getItem v u)->wpAny (model X.prog X.w) X.A (subscriptTail value slice v u) (EP X pins σ Q) X.xe s
def MtR (X:Cx) (id:String) (r:V->List V->Hp->VK->Prop):Prop :=
 ∀ (pins:List (Addr×Obj)) (s:Shared) (σ:St) (H:Hp) (x:V) (xs:List V) (v:Value) (us:List Value) (Q:VK),Inv X pins σ H s->Be x v->AS xs us->r x xs H Q ->
  wpAny (model X.prog X.w) X.A (call (.builtin id) (v :: us)) (EP X pins σ Q) X.xe s
section
variable {X:Cx} {a b:Expr} {ta tb:TE} {pos:Pos}
theorem Al {r:R2} (hr:IxR X r) (ha:PE X a ta) (hb:PE X b tb) (hs:PlainIx b):PE X (.Subscript a b pos) (tOp r ta tb):=by
 intro pins s σ H Q I h;exact Subscript_ (binT ha hb I h fun v u s2 x y H2 I2 rx ry q=>hr a b pins s2 σ H2 x y v u Q I2 rx ry q (hs _ _))
def rIxL (K:PySem.W.Frag):R2:=fun x y H Q=>∃ p xs i v,x=.ref p/\y=.int i/\SqL K H p xs/\atI xs i=some v/\Q v H
def rIxT (K:PySem.W.Frag):R2:=fun x y H Q=>∃ p xs i v,x=.ref p/\y=.int i/\SqT K H p xs/\atI xs i=some v/\Q v H
def rIxS:R2:=fun x y H Q=>∃ z i c,x=.str z/\y=.int i/\z.length<=sizeLine/\atI z.cps.toList i=some c/\Q (.str ⟨#[c]⟩) H
theorem Au:IxR X (rIxL X.K):=by
 intro value slice pins s σ H x y v u Q I rx ry h hs;obtain ⟨p,xs,i,z,rfl,rfl,hq,he,q⟩:=h;cases rx;obtain ⟨t,rfl⟩:=ry;obtain ⟨its,r,pl,hz⟩:=I.list hq;obtain ⟨j,h1,h2,h3,h4,h5⟩:=Nk he;obtain ⟨w,ew,rw'⟩:=r.get h2;have hl:=r.length;have hn:=Jb;have fin:EP X pins σ Q w s:=⟨z,H,I,rw',q⟩
 by_cases h0:0<=i
 ·have hj:i.toNat=j:=by
   rw [seqIndex_of h0 h5] at h1;exact Option.some.inj h1
  exact item_listR pl.isList h0 (by lia) (by rw [hj]; simpa using ew) fin hs
 ·have hj:(i+(its.toArray.size:Int)).toNat=j:=by
   rw [seqIndex_neg (by lia) h4] at h1;rw [List.size_toArray,<-hl];exact Option.some.inj h1
  exact subscriptTail_builtinR (x:=w) pl.isList.typeIs slot_list_getitem.lookup
   (wpAny_getItem_list_neg (Q:=fun r s'=>r=w/\EP X pins σ Q r s') pl.isList (by lia) (by rw [List.size_toArray]<;>lia) (by lia) (by rw [hj]; simpa using ew) ⟨rfl,fin⟩) hs
theorem Ao:IxR X (rIxT X.K):=by
 intro value slice pins s σ H x y v u Q I rx ry h hs;obtain ⟨p,xs,i,z,rfl,rfl,hq,he,q⟩:=h;cases rx;obtain ⟨t,rfl⟩:=ry;obtain ⟨its,r,pl,hz⟩:=I.tuple hq;obtain ⟨j,h1,h2,h3,h4,h5⟩:=Nk he;obtain ⟨w,ew,rw'⟩:=r.get h2;have hl:=r.length;have hn:=Jb;have fin:EP X pins σ Q w s:=⟨z,H,I,rw',q⟩
 exact subscriptTail_builtinR (x:=w) pl.typeIs slot_tuple_getitem.lookup
  (getItem_tuple (j:=j) (Q:=fun r s'=>r=w/\EP X pins σ Q r s') pl (by lia) (by lia) (by rw [List.size_toArray,<-hl]; exact h1) (by simpa using ew) ⟨rfl,fin⟩) hs
theorem ix_str:IxR X rIxS:=by
 intro value slice pins s σ H x y v u Q I rx ry h hs;obtain ⟨z,i,c,rfl,rfl,hz,he,q⟩:=h;obtain ⟨t,rfl⟩:=rx;obtain ⟨t',rfl⟩:=ry;obtain ⟨j,h1,h2,h3,h4,h5⟩:=Nk he;have hl:z.cps.toList.length=z.length:=by simp [Str.length]
 rw [hl] at h1 h4 h5;have hn:=Jb;exact tail_any (typeIs_str s z t) slot_str_getitem.lookup (getItem_str (c:=c) (by
  have e1:decide (i < -(2 ^ 63:Int))=false:=decide_eq_false (by lia);have e2:decide (i ≥ 2 ^ 63)=false:=decide_eq_false (by lia);rw [e1,e2,Bool.or_false]) (by rw [h1]; simpa using h2) ⟨.str ⟨#[c]⟩,H,I.tok _,⟨_,rfl⟩,q⟩) hs
theorem OZ (its:List Value) (n j:Nat) (u:Value):Obj.mapSeq (·.setIfInBounds j u) { cls:=.type "list",data:=.seq its.toArray n }={ cls:=.type "list",data:=.seq (its.set j u).toArray n }:=by
 simp [Obj.mapSeq]
theorem Inv.lst {pins:List (Addr×Obj)} {σ:St} {H:Hp} {s:Shared} {p:Addr} {xs:List V} (I:Inv X pins σ H s) (h:H p=some (.lst xs)) :
  ∃ (its:List Value) (n:Nat),AS xs its/\s.heap.get? p=some { cls:=.type "list",data:=.seq its.toArray n }/\xs.length<=sizeLine:=by
 obtain ⟨z,its,n,r,e⟩:=I.hok p _ h;exact ⟨its,n,r,e,z⟩
theorem Inv.lstUpd {pins:List (Addr×Obj)} {σ:St} {H:Hp} {s:Shared} {p:Addr} {xs ys:List V} {its its':List Value} {n n':Nat} {f:Obj->Obj} (I:Inv X pins σ H s) (h:H p=some (.lst xs))
  (ho:s.heap.get? p=some { cls:=.type "list",data:=.seq its.toArray n }) (hf:f { cls:=.type "list",data:=.seq its.toArray n }={ cls:=.type "list",data:=.seq its'.toArray n' }) (r:AS ys its') (hz:ys.length<=sizeLine) (t:Nat) :
  Inv X pins σ (upd H p (.lst ys)) { s with heap:=s.heap.update p f,toks:=t }:=by
 have e:(s.heap.update p f).get? p=some { cls:=.type "list",data:=.seq its'.toArray n' }:=by
  rw [Heap.get?_update_self f ho (by rw [hf]<;>rfl),hf]
 refine I.write (x:=p) (e:=p) (by rw [h]; trivial) (.inl rfl) (fun b u hb q=>(Heap.get?_update_other _ _ (Ne.symm hb)).trans q) ⟨_,e⟩ ?_;exact ⟨hz,its',n',r,e⟩
def rSetL:V->V->V->Hp->(Hp->Prop)->Prop:=fun o i v H Q=>∃ p xs k j,o=.ref p/\i=.int k/\H p=some (.lst xs)/\ixN xs.length k=some j/\Q (upd H p (.lst (xs.set j v)))
theorem RD:PSet X rSetL:=by
 intro pins s σ H o i v ov iv u Q I ro ri rv h;obtain ⟨p,xs,k,j,rfl,rfl,hp,hj,q⟩:=h;cases ro;obtain ⟨t,rfl⟩:=ri;obtain ⟨its,n,r,ho,hz⟩:=I.lst hp;obtain ⟨h1,h2,h3,h4⟩:=PZ hj;have hl:=r.length;have hn:=Jb;have I':Inv X pins σ (upd H p (.lst (xs.set j v))) { s with heap:=s.heap.update p (Obj.mapSeq (·.setIfInBounds j u)) } :=
  I.lstUpd hp ho (OZ its n j u) (r.set rv j) (by rw [List.length_set]; exact hz) s.toks
 by_cases h0:0<=k
 ·have hk:k.toNat=j:=by
   rw [seqIndex_of h0 h4] at h1;exact Option.some.inj h1
  exact PySem.W.ki_setAt ho h0 (by lia) (by rw [List.size_toArray,<-hl]; exact h4) (by rw [hk]; exact ⟨_,I',q⟩)
 ·have hk:(k+(its.toArray.size:Int)).toNat=j:=by
   rw [seqIndex_neg (by lia) h3] at h1;rw [List.size_toArray,<-hl];exact Option.some.inj h1
  exact PySem.W.ki_setBack ho (by lia) (by rw [List.size_toArray,<-hl]; exact h3) (by lia) (by rw [hk]; exact ⟨_,I',q⟩)
theorem MH (lo hi:Option Int) (n:Nat):(sliceBounds lo hi none n).1=((HT.sIx n 0 lo:Nat):Int)/\(sliceBounds lo hi none n).2.1=((HT.sIx n n hi:Nat):Int)/\(sliceBounds lo hi none n).2.2=1:=by
 refine ⟨?_,?_,rfl⟩
 ·cases lo with
  | none=>simp [sliceBounds,HT.sIx]
  | some i =>
   simp only [sliceBounds,HT.sIx,Option.getD_none,show (1:Int) > 0 by decide,if_true];by_cases h:i < 0
   ·simp only [h,if_true]<;>lia
   ·simp only [h,if_false]<;>lia
 ·cases hi with
  | none=>simp [sliceBounds,HT.sIx]
  | some i =>
   simp only [sliceBounds,HT.sIx,Option.getD_none,show (1:Int) > 0 by decide,if_true];by_cases h:i < 0
   ·simp only [h,if_true]<;>lia
   ·simp only [h,if_false]<;>lia
theorem LE (its:List Value) (lo hi:Option Int):slicePick its.toArray lo hi none=((its.drop (HT.sIx its.length 0 lo)).take (HT.sIx its.length its.length hi - HT.sIx its.length 0 lo)).toArray:=by
 obtain ⟨h1,h2,h3⟩:=MH lo hi its.toArray.size;unfold slicePick;rw [h1,h2,h3];simp only [sliceRange_one,pick_run,List.size_toArray]<;>rfl
def rSlL (K:PySem.W.Frag):V->Option Int->Option Int->Hp->VK->Prop:=fun x lo hi H Q=>∃ a xs,x=.ref a/\SqL K H a xs/\∀ p,H p=none->Q (.ref p) (upd H p (.lst (IG xs lo hi)))
theorem FJ:SlR X (rSlL X.K):=by
 intro pins s σ H x v vl vu lo hi sl Q I rx hs pl pu h;obtain ⟨a,xs,rfl,hx,q⟩:=h;cases rx;obtain ⟨its,r,ht,hz⟩:=I.list hx;have hlen:=r.length;refine ⟨"list",_,slot_list_getitem.lookup,ht.isList.typeIs,?_⟩;refine wpAny_getItem_list_slice ht.isList hs pl pu .none (by simp) ?_ (by rw [List.size_toArray]<;>lia);rw [LE,<-hlen];refine ⟨.ref s.heap.objs.size,_,I.laid (t':=s.toks) (o:=.lst (IG xs lo hi)) (fun b ob q=>Heap.get?_push_of_some _ q) (Nat.le_refl _) ?_,rfl,q _ (I.hok.fresh (Nat.le_refl _))⟩;exact ⟨Nat.le_trans (Of xs lo hi) hz,_,0,(r.drop (HT.sIx xs.length 0 lo)).take (HT.sIx xs.length xs.length hi - HT.sIx xs.length 0 lo),Heap.get?_push_size _ rfl⟩
def IF:V->Bool
 | .non=>true
 | .bl _=>true
 | .int _=>true
 | .str _=>true
 | _=>false
def eqV:V->V->Bool
 | .non,.non=>true
 | .bl a,.bl b=>a == b
 | .bl a,.int b=>(if a then 1 else 0) == b
 | .int a,.bl b=>a == (if b then 1 else 0)
 | .int a,.int b=>a == b
 | .str a,.str b=>a == b
 | _,_=>false
theorem eqAt_V {A:Around} {s:Shared} {y x:V} {u v:Value} (ry:Be y u) (rx:Be x v) (fy:IF y=true) (fx:IF x=true):SeqAt.EqAt A s u v (eqV y x):=by
 cases y with
 | non =>
  cases ry;cases x with
  | non=>cases rx; exact SeqAt.EqAt.same _
  | bl b=>cases rx; exact SeqAt.EqAt.none_bool b
  | int b=>obtain ⟨t,rfl⟩:=rx; exact SeqAt.EqAt.none_int b t
  | str b=>obtain ⟨t,rfl⟩:=rx; exact SeqAt.EqAt.none_str b t
  | _=>exact absurd (show false=true from fx) Bool.false_ne_true
 | bl a =>
  cases ry;cases x with
  | non=>cases rx; exact SeqAt.EqAt.bool_none a
  | bl b=>cases rx; exact SeqAt.EqAt.bool_bool a b
  | int b=>obtain ⟨t,rfl⟩:=rx; exact SeqAt.EqAt.bool_int a b t
  | str b=>obtain ⟨t,rfl⟩:=rx; exact SeqAt.EqAt.bool_str a b t
  | _=>exact absurd (show false=true from fx) Bool.false_ne_true
 | int a =>
  obtain ⟨t',rfl⟩:=ry;cases x with
  | non=>cases rx; exact SeqAt.EqAt.int_none a t'
  | bl b=>cases rx; exact SeqAt.EqAt.int_bool a t' b
  | int b=>obtain ⟨t,rfl⟩:=rx; exact SeqAt.EqAt.int_int a t' b t
  | str b=>obtain ⟨t,rfl⟩:=rx; exact SeqAt.EqAt.int_str a t' b t
  | _=>exact absurd (show false=true from fx) Bool.false_ne_true
 | str a =>
  obtain ⟨t',rfl⟩:=ry;cases x with
  | non=>cases rx; exact SeqAt.EqAt.str_none a t'
  | bl b=>cases rx; exact SeqAt.EqAt.str_bool a t' b
  | int b=>obtain ⟨t,rfl⟩:=rx; exact SeqAt.EqAt.str_int a t' b t
  | str b=>obtain ⟨t,rfl⟩:=rx; exact SeqAt.EqAt.str_str a t' b t
  | _=>exact absurd (show false=true from fx) Bool.false_ne_true
 | _=>exact absurd (show false=true from fy) Bool.false_ne_true
def eqU (x:V) (u:Value):Bool:=match u with
 | .none=>eqV .non x
 | .bool b=>eqV (.bl b) x
 | .int i _=>eqV (.int i) x
 | .str z _=>eqV (.str z) x
 | _=>false
theorem SD {x y:V} {u:Value} (r:Be y u) (f:IF y=true):eqU x u=eqV y x:=by
 cases y with
 | non=>cases r; rfl
 | bl b=>cases r; rfl
 | int i=>obtain ⟨t,rfl⟩:=r; rfl
 | str z=>obtain ⟨t,rfl⟩:=r; rfl
 | _=>exact absurd (show false=true from f) Bool.false_ne_true
theorem Nm {x:V}:∀ {xs:List V} {us:List Value},AS xs us->xs.all IF=true->us.any (eqU x)=xs.any fun y=>eqV y x
 | _,_,.nil,_=>rfl
 | y :: xs,u :: us,.cons r t,f=>by
  rw [List.all_cons,Bool.and_eq_true] at f;rw [List.any_cons,List.any_cons,SD r f.1,Nm t f.2]
theorem Lo {A:Around} {s:Shared} {x:V} {v:Value} (rx:Be x v) (fx:IF x=true):∀ {xs:List V} {us:List Value},AS xs us->xs.all IF=true->∀ u ∈ us,SeqAt.EqAt A s u v (eqU x u)
 | _,_,.nil,_=>fun u hu=>by cases hu
 | y :: xs,u :: us,.cons r t,f=>fun u' hu=>by
  rw [List.all_cons,Bool.and_eq_true] at f;rcases List.mem_cons.mp hu with rfl | hu
  ·rw [SD r f.1]; exact eqAt_V r rx f.1 fx
  ·exact Lo rx fx t f.2 u' hu
def inV (x:V) (xs:List V):Bool:=xs.any fun y=>eqV y x
def rIn (K:PySem.W.Frag) (neg:Bool):R2:=fun x y H Q=>∃ p xs,y=.ref p/\(SqL K H p xs\/SqT K H p xs)/\IF x=true/\xs.all IF=true/\Q (.bl (if neg then !inV x xs else inV x xs)) H
theorem Qy:OpR X (compareOp .In) (rIn X.K false):=by
 intro pins s σ H x y v u Q I rx ry h;obtain ⟨p,xs,rfl,hq,fx,fs,q⟩:=h;cases ry;rcases hq with hq | hq
 ·obtain ⟨its,r,pl,hz⟩:=I.list hq;refine SeqAt.in_listAt (eqU x) pl.isList (fun w hw=>Lo rx fx r fs w (by simpa using hw)) ⟨.bl _,H,I,rfl,?_⟩;rw [show its.toArray.any (eqU x)=its.any (eqU x) by simp,Nm r fs];exact q
 ·obtain ⟨its,r,pl,hz⟩:=I.tuple hq;refine SeqAt.in_tupleAt (eqU x) pl (fun w hw=>Lo rx fx r fs w (by simpa using hw)) ⟨.bl _,H,I,rfl,?_⟩;rw [show its.toArray.any (eqU x)=its.any (eqU x) by simp,Nm r fs];exact q
theorem Bl:GN X (.builtin "len") (fun xs H Q=>∃ p ys,xs=[.ref p]/\(SqL X.K H p ys\/SqT X.K H p ys)/\Q (.int ys.length) H):=by
 intro pins s σ H xs us Q I r h;obtain ⟨p,ys,rfl,hq,q⟩:=h;obtain ⟨u,rfl,rx⟩:=Pp r;cases rx;have hn:=Jb;rcases hq with hq | hq
 ·obtain ⟨its,r',pl,hz⟩:=I.list hq;have hlen:=r'.length;exact Calls.call_len_list pl.isList (by simp only [List.size_toArray]<;>lia) ⟨.int ys.length,H,I.tok _,⟨s.toks+1,by rw [List.size_toArray,hlen]⟩,q⟩
 ·obtain ⟨its,r',pl,hz⟩:=I.tuple hq;have hlen:=r'.length;exact len_tuple pl (by simp only [List.size_toArray]<;>lia) ⟨.int ys.length,H,I.tok _,⟨s.toks+1,by rw [List.size_toArray,hlen]⟩,q⟩
theorem Gd:GN X (.builtin "len") (fun xs H Q=>∃ z,xs=[.str z]/\z.length<=sizeLine/\Q (.int z.length) H):=by
 intro pins s σ H xs us Q I r h;obtain ⟨z,rfl,hz,q⟩:=h;obtain ⟨u,rfl,t,rfl⟩:=Pp r;have hn:=Jb;exact len_str (by lia) ⟨.int z.length,H,I.tok _,⟨_,rfl⟩,q⟩
theorem Dp:GN X (.type "tuple") (fun xs H Q=>∃ p ys,xs=[.ref p]/\((SqL X.K H p ys/\∀ l,H l=none->Q (.ref l) (upd H l (.tup ys)))\/(SqT X.K H p ys/\Q (.ref p) H))):=by
 intro pins s σ H xs us Q I r h;obtain ⟨p,ys,rfl,h⟩:=h;obtain ⟨u,rfl,rx⟩:=Pp r;cases rx;rcases h with ⟨hq,q⟩ | ⟨hq,q⟩
 ·obtain ⟨its,r',pl,hz⟩:=I.list hq;have hlen:=r'.length;refine call_tuple_list pl.isList (fun h' kp=>?_) (by simp only [List.size_toArray]<;>lia);have I1:Inv X pins σ H { s with heap:=h' }:=I.kept (t':=s.toks) kp
  have I2:Inv X pins σ (upd H h'.objs.size (.tup ys)) { s with heap:=h'.push { cls:=.type "tuple",data:=.seq its.toArray } } :=
   I1.laid (t':=s.toks) (fun b o e=>Heap.get?_push_of_some _ e) (Nat.le_refl _) (show Cs X.prog X.w _ _ _ (.tup ys) from ⟨hz,its,r',IsTup.new _ _⟩)
  exact ⟨.ref h'.objs.size,_,I2,rfl,q _ (I1.hok.fresh (Nat.le_refl _))⟩
 ·obtain ⟨its,r',pl,hz⟩:=I.tuple hq;exact call_tuple_same pl ⟨.ref p,H,I,rfl,q⟩
def tyV (K:PySem.W.Frag) (T:String) (x:V) (H:Hp):Prop:=match x with
 | .str _=>T="str"
 | .int _=>T="int"
 | .ref p=>(T="list" /\ ∃ xs,SqL K H p xs)\/(T="tuple" /\ ∃ o,K.lookup p=some o/\o.cls=.type "tuple" /\ o.dict=none) \/
   (T="dict" /\ ((∃ kvs,H p=some (.dK kvs))\/∃ kvs,H p=some (.dT kvs)))\/(T="set" /\ ∃ S n,H p=some (.set S n))
 | _=>False
theorem tyV_is {pins:List (Addr×Obj)} {σ:St} {H:Hp} {s:Shared} {T:String} {x:V} {v:Value} (I:Inv X pins σ H s) (r:Be x v) (ty:tyV X.K T x H) :
  s.TypeIs v T/\∀ a,v=.ref a->∃ ob,s.heap.get? a=some ob/\ob.dict=none:=by
 cases x with
 | str z =>
  obtain ⟨t,rfl⟩:=r;cases (show T="str" from ty);exact ⟨typeIs_str s z t,fun _ e=>nomatch e⟩
 | int i =>
  obtain ⟨t,rfl⟩:=r;cases (show T="int" from ty);exact ⟨typeIs_int s i t,fun _ e=>nomatch e⟩
 | ref p =>
  cases r;rcases ty with ⟨rfl,xs,hq⟩ | ⟨rfl,o,hk,hc,hd⟩ | ⟨rfl,hk⟩ | ⟨rfl,S,n,hk⟩
  ·obtain ⟨its,_,pl,_⟩:=I.list hq;refine ⟨pl.isList.typeIs,fun a e=>?_⟩;cases e;obtain ⟨o,n,e,c,hd,_⟩:=pl;exact ⟨o,e,hd⟩
  ·refine ⟨⟨o,I.kIn p o hk,hc⟩,fun a e=>?_⟩;cases e;exact ⟨o,I.kIn _ o hk,hd⟩
  ·have z:∃ o,s.heap.get? p=some o/\o.ExactDict:=by
    rcases hk with ⟨kvs,hk⟩ | ⟨kvs,hk⟩
    ·obtain ⟨_,_,_,_,o,_,_,e,ex,_⟩:=I.hok p _ hk;exact ⟨o,e,ex⟩
    ·obtain ⟨_,_,_,_,o,_,_,e,ex,_⟩:=I.hok p _ hk;exact ⟨o,e,ex⟩
   obtain ⟨o,e,ex⟩:=z;refine ⟨⟨o,e,ex.1⟩,fun a e2=>?_⟩;cases e2;exact ⟨o,e,ex.2.1⟩
  ·obtain ⟨o,_,_,_,e,ex,_⟩:=I.hok p _ hk;refine ⟨⟨o,e,ex.1⟩,fun a e2=>?_⟩;cases e2;exact ⟨o,e,ex.2.1⟩
 | _=>exact False.elim ty
def tBM (K:PySem.W.Frag) (T:String) (r:V->List V->Hp->VK->Prop) (to:TE) (t:TA):TE:=fun σ H Q=>to σ H fun x H1=>tyV K T x H1/\t σ H1 fun xs H2=>r x xs H2 Q
variable {o e:Expr} {es:List Expr} {to:TE} {t:TA} {name:Str} {apos cpos:Pos} {T id:String} {r:V->List V->Hp->VK->Prop}
theorem Dw (pa:PlainAttrs T) (slot:Slot T name id) (hty:typeOf (.builtin id)=pure (.type "method_descriptor")) (hm:MtR X id r) (ho:PE X o to) (ha:PA X (e :: es) t)
  (hbase:attributeBase o name X.env (eval o X.env)=eval o X.env:=by rfl)
  (hfew:((backTo cpos (starEach (e :: es) X.env)).all (fun x=>!x.1) && (backToKw cpos (keywordEach [] X.env)).all (fun x=>x.1.isSome)
   && decide ((e :: es).length+([]:List Keyword).length+(if ([]:List Keyword).isEmpty then 0 else 1) < 30))=true:=by rfl)
  (hline:(apos.endLine == cpos.line)=true:=by rfl) (hs:starEach (e :: es) X.env=(false,eval e X.env) :: starEach es X.env:=by rfl) (hplain:(backTo cpos (starEach es X.env)).any (·.1)=false:=by rfl) :
  PE X (.Call (.Attribute o name apos) (e :: es) [] cpos) (tBM X.K T r to t):=by
 intro pins s σ H Q I h;refine wpAny_Call_method_late hbase hfew hline rfl (thn (ho pins s σ H _ I h) fun v s1 ⟨x,H1,I1,r1,ty,q1⟩=>?_);obtain ⟨h1,h2⟩:=tyV_is I1 r1 ty;refine ⟨T,id,pa,slot,hty,h1,h2,?_⟩;have hA:=ha cpos pins s1 σ H1 _ I1 q1;rw [hs] at hA ⊢;refine Calls.callWith_builtin (by show (false || (backTo cpos (starEach es X.env)).any (·.1))=false; rw [hplain]<;>rfl) (Calls.evalArgs_plain ?_);exact thn hA fun us s2 ⟨vs,H2,I2,r2,q2⟩=>hm pins s2 σ H2 x vs v us Q I2 r1 r2 q2
/- xs.append(e),list.index on a module's tuple .. are MtR facts of 06m -/
end
end L2
namespace L2
open PySem PySem.Spec PyProof.Rows
def MtM (X:Cx) (id:String) (r:V->List V->Hp->VK->Prop):Prop :=
 ∀ (pins:List (Addr×Obj)) (s:Shared) (σ:St) (H:Hp) (x:V) (xs:List V) (v:Value) (us:List Value) (Q:VK),Inv X pins σ H s->Be x v->AS xs us->r x xs H Q ->
  wpAny (model X.prog X.w) X.A (call (.builtin id) (v :: us)) (EP X pins σ Q) X.xe s
theorem AS.one:∀ {x:V} {us:List Value},AS [x] us->∃ u,us=[u]/\Be x u
 | _,_,.cons r .nil=>⟨_,rfl,r⟩
theorem AS.two:∀ {x y:V} {us:List Value},AS [x,y] us->∃ u v,us=[u,v]/\Be x u/\Be y v:=by
 intro x y us h; cases h with
 | cons r t=>cases t with
  | cons q t=>cases t; exact ⟨_,_,rfl,r,q⟩
theorem AS.rep {xs:List V} {us:List Value} (h:AS xs us):∀ k:Nat,AS (List.replicate k xs).flatten (List.replicate k us).flatten
 | 0=>.nil
 | k+1=>by
  rw [List.replicate_succ,List.replicate_succ,List.flatten_cons,List.flatten_cons];exact AS.append h (AS.rep h k)
theorem Mg (its:List Value):∀ (k:Nat) (acc:List Value),
  List.foldl (fun x1 x2=>x1 ++ x2) acc.toArray (List.replicate k its.toArray)=(acc ++ (List.replicate k its).flatten).toArray
 | 0,acc=>by simp
 | k+1,acc=>by
  have e:acc.toArray ++ its.toArray=(acc ++ its).toArray:=by simp
  have e2:(acc ++ its) ++ (List.replicate k its).flatten=acc ++ (List.replicate (k+1) its).flatten:=by
   rw [List.replicate_succ,List.flatten_cons,List.append_assoc]
  rw [<-e2,<-Mg its k (acc ++ its),<-e,List.replicate_succ,List.foldl_cons]
section
variable {X:Cx} {pins:List (Addr×Obj)} {σ:St} {H:Hp} {s:Shared} {l b:Addr} {xs ys zs:List V}
theorem Inv.lset {its its':List Value} {n:Nat} {f:Array Value->Array Value} {t':Nat} (I:Inv X pins σ H s) (hH:H l=some (.lst xs))
  (e:s.heap.get? l=some { cls:=.type "list",data:=.seq its.toArray n }) (hf:f its.toArray=its'.toArray) (hv:AS ys its') (hz:ys.length<=sizeLine) :
  Inv X pins σ (upd H l (.lst ys)) { s with heap:=s.heap.update l (Obj.mapSeq f),toks:=t' }:=by
 have q:=PySem.IsL.update e f;rw [hf] at q;refine I.write (x:=l) (e:=l) (by rw [hH]; exact trivial) (.inl rfl) (fun b' u hb hu=>(Heap.get?_update_other s.heap (Obj.mapSeq f) (Ne.symm hb)).trans hu) ⟨_,q⟩ ?_;exact ⟨hz,its',_,hv,q⟩
theorem Inv.lnew {its:List Value} {t':Nat} (I:Inv X pins σ H s) (hv:AS ys its) (hz:ys.length<=sizeLine) :
  Inv X pins σ (upd H s.heap.objs.size (.lst ys)) { s with heap:=s.heap.push { cls:=.type "list",data:=.seq its.toArray },toks:=t' } :=
 I.laid (fun _ _ q=>Heap.get?_push_of_some _ q) (Nat.le_refl _) ⟨hz,its,0,hv,Heap.get?_push_size _ rfl⟩
theorem Inv.fresh (I:Inv X pins σ H s):H s.heap.objs.size=none:=I.hok.fresh (Nat.le_refl _)
theorem Inv.lstM (I:Inv X pins σ H s) (hH:H l=some (.lst xs)):xs.length<=sizeLine/\∃ (its:List Value) (n:Nat),AS xs its/\xs.length=its.length/\s.heap.get? l=some { cls:=.type "list",data:=.seq its.toArray n }:=by
 obtain ⟨z,its,n,r,e⟩:=I.hok l _ hH;exact ⟨z,its,n,r,r.length,e⟩
theorem Sb {n:Nat} (h:n<=sizeLine):Builtin.List.listTooLong n=false:=by
 unfold Builtin.List.listTooLong;exact decide_eq_false (by lia)
end
section
variable {X:Cx}
def PF:V->List V->Hp->VK->Prop:=fun x vs H Q=>∃ l xs y,x=.ref l/\vs=[y]/\H l=some (.lst xs)/\xs.length < sizeLine/\Q .non (upd H l (.lst (xs ++ [y])))
theorem BN:MtM X "list.append" PF:=by
 intro pins s σ H x vs v us Q I rx rv h;obtain ⟨l,xs,y,rfl,rfl,hH,hz,q⟩:=h;cases rx;obtain ⟨u,rfl,ru⟩:=rv.one;obtain ⟨z,its,n,r,hl,e⟩:=I.lstM hH;refine call_meets F.slot_list_append ⟨_,e,rfl⟩ F.entry_list_append (F.args_list_append_2 _ _) (PySem.list_append l its.toArray n u (by rw [List.size_toArray]; lia)) ⟨e,?_⟩;refine ⟨.non,_,I.lset (its':=its ++ [u]) hH e (by simp) (r.append (.cons ru .nil)) ?_,rfl,q⟩;rw [List.length_append,List.length_singleton];lia
def rCat:R2:=fun x y H Q=>∃ l b xs zs,x=.ref l/\y=.ref b/\H l=some (.lst xs)/\H b=some (.lst zs)/\xs.length+zs.length<=sizeLine/\∀ p,H p=none->Q (.ref p) (upd H p (.lst (xs ++ zs)))
theorem Gw:OpR X (binaryOp .Add) rCat:=by
 intro pins s σ H x y v u Q I rx ry h;obtain ⟨l,b,xs,zs,rfl,rfl,hH,hB,hz,q⟩:=h;cases rx;cases ry;obtain ⟨z,its,n,r,hl,e⟩:=I.lstM hH;obtain ⟨z2,its2,n2,r2,hl2,e2⟩:=I.lstM hB;refine PySem.P.add_list e e2 ?_ (by rw [List.size_toArray,List.size_toArray]; lia);have ea:its.toArray ++ its2.toArray=(its ++ its2).toArray:=by simp
 rw [ea];exact ⟨.ref _,_,I.lnew (t':=s.toks) (r.append r2) (by rw [List.length_append]; lia),rfl,q _ I.fresh⟩
def rRep:R2:=fun x y H Q=>∃ l k xs,x=.ref l/\y=.int k/\H l=some (.lst xs)/\-(2 ^ 63)<=k/\k < 2 ^ 63/\xs.length * k.toNat<=sizeLine /\
 ∀ p,H p=none->Q (.ref p) (upd H p (.lst (List.replicate k.toNat xs).flatten))
theorem len_rep {α:Type} (xs:List α) (k:Nat):(List.replicate k xs).flatten.length=k * xs.length:=by
 induction k with
 | zero=>simp
 | succ k ih=>rw [List.replicate_succ,List.flatten_cons,List.length_append,ih,Nat.succ_mul,Nat.add_comm]
theorem RS:OpR X (binaryOp .Mult) rRep:=by
 intro pins s σ H x y v u Q I rx ry h;obtain ⟨l,k,xs,rfl,rfl,hH,h1,h2,hz,q⟩:=h;cases rx;obtain ⟨t,rfl⟩:=ry;obtain ⟨z,its,n,r,hl,e⟩:=I.lstM hH;have hlen:its.toArray.size * k.toNat<=sizeLine:=by rw [List.size_toArray,<-hl]; exact hz
 have hcap:¬ its.toArray.size * k.toNat > (2 ^ 63 - 1) / 8:=by
  have:(sizeLine:Nat)<=(2 ^ 63 - 1) / 8:=by decide
  lia
 have hfit:¬ (!Builtin.List.listFitsIndex k)=true:=by
  rw [fitsIndex_both h1 h2];exact Bool.false_ne_true
 have hlong:¬ Builtin.List.listTooLong (its.toArray.size * k.toNat)=true:=by
  rw [Sb hlen];exact Bool.false_ne_true
 have hnew:List.foldl (fun x1 x2=>x1 ++ x2) #[] (List.replicate (if its.toArray.isEmpty=true then 0 else k.toNat) its.toArray)=(List.replicate k.toNat its).flatten.toArray:=by
  have f0:∀ m:Nat,List.foldl (fun x1 x2=>x1 ++ x2) #[] (List.replicate m its.toArray)=(List.replicate m its).flatten.toArray:=fun m=>by
   have:=Mg its m [];rw [List.nil_append] at this;exact this
  rw [f0];cases its with
  | nil=>simp
  | cons a r'=>rw [if_neg (by simp)]
 refine wpAny_binaryOp_repeat_ref (T:="list") (U:="int") (by decide) ⟨_,e,rfl⟩ (fun s'=>typeIs_int s' k t) noFill_list_mul F.fills_int_mul F.slot_int_rmul repeat_list F.slot_int_index.lookup
  (call_meets F.slot_int_rmul (typeIs_int s k t) F.entry_int_rmul (F.args_int_rmul_2 _ _) (int___rmul___int_list k t l its.toArray n)
   ⟨e,rfl,⟨_,e,rfl⟩,call_meets F.slot_list_mul ⟨_,e,rfl⟩ F.entry_list_mul (F.args_list_mul_2 _ _) (AutoListH.list___mul___list_int_3 l its.toArray n k t hfit hcap hlong) ⟨e,?_⟩⟩)
 rw [hnew];exact ⟨.ref _,_,I.lnew (t':=s.toks) (r.rep k.toNat) (by rw [len_rep,Nat.mul_comm]; exact hz),rfl,q _ I.fresh⟩
end
section
variable {prog:Program} {w:World} {A:Around} {E:Value->Shared->Prop} {s:Shared}
end
section
variable {X:Cx}
end
end L2
namespace Att
open PySem PySem.W PySem.Calls PyProof.Rows
theorem Js {P:Params} {h:Heap}:∀ (ns:List Int) (vs:List Value),WellAll P h vs (ns.map WData.int)->IntsAre vs ns:=by
 intro ns;induction ns with
 | nil =>
  intro vs w;rw [List.map_nil] at w;cases w;exact .nil
 | cons n ns ih =>
  intro vs w;rw [List.map_cons] at w;cases w with
  | cons a b =>
   cases a;exact .cons _ _ (ih _ b)
theorem Qt {l:OpenLaw} {n:Nat} (hn:l.most=some n) {P:Params} {h:Heap} {args:List WData} {vals:List Value}
  (hpre:l.row.toRowW.claim.pre args=true) (hwl:WellAll P h vals args) :
  ∃ a vs ns,vals=[Value.ref a]/\args=[WData.list (ns.map WData.int)]/\h.get? a=some { cls:=.type "list",data:=.seq vs.toArray }/\IntsAre vs ns/\ns.length<=n:=by
 have hsh:WShape.hasAll [] args [.list .int]=true:=(pre_splitW hpre).1;have hc:l.pre.holds [] { args:=args }=true:=(pre_splitW hpre).2;obtain ⟨d,r,rfl,h1,h2⟩:=hasAllW_cons hsh;obtain rfl:=hasAllW_nil h2;obtain ⟨xs,rfl,h3⟩:=hasW_list h1;obtain ⟨ns,rfl⟩:=items_int h3;have hlen:ns.length<=n:=by
  unfold OpenLaw.pre at hc;have h4:(WTm.not (.lt (.lit (.int (n:Int))) (.len (.arg 0)))).holds [] { args:=[.list (ns.map .int)] }=true:=by
   have h4:=(holds_andW hc).1;rw [hn] at h4;exact h4
  have h5:=condW_of h4 (w_not (w_lt w_lit (w_len_list (w_arg rfl))));rw [List.length_map] at h5;refine Nat.le_of_not_lt fun q=>?_;have q':(n:Int) < ((ns.length:Nat):Int):=by lia
  first
   | (rw [decide_eq_true q'] at h5; exact absurd h5 (by decide))
   | (simp at h5; lia)
 cases hwl with
 | cons w1 w2 =>
  cases w2;cases w1 with
  | list ho hall=>exact ⟨_,_,ns,rfl,rfl,ho,Js ns _ hall,hlen⟩
theorem Qu (l:OpenLaw) (args:List WData):l.row.toRowW.claim.post args (.bool true) args=true :=
 postW_of (r:=l.row.toRowW) (X:=(true == true))
  (show WShape.has [] (.bool true) .bool=true by first | rfl | decide | simp [WShape.has,WShape.arms,WShape.armsAll])
  (show (WTm.eq .res (.lit (.bool true))).value [] { args:=args,res:=some (.bool true),after:=args }=some (.bool (true == true)) from w_eq_bool (w_res rfl) w_lit) rfl
theorem Ot {l:OpenLaw} {n:Nat} {q:Program} {loose:List Str} {XP:(Str->Option Value)->Heap->Prop} {YP:World->Heap->Prop} {d:DefRec}
  (hn:l.most=some n) (hdf:d.params.defaults=[])
  (call:∀ (w:World) (s₀ s₁:Shared) (mg mb:Str->Option Value) (fa:Addr) (o:Obj) (pm cd doc:Value) (a:Addr) (vs:List Value) (ns:List Int),
   Ground q loose [] XP w s₀ mg mb s₁.heap->YP w s₁.heap ->
   s₁.heap.get? fa=some o->o.data=.func (docDef d.name d.params d.body d.scope pm cd doc)->s₁.heap.CodeRec cd d.name->mg d.name=some (.ref fa) ->
   s₁.heap.get? a=some { cls:=.type "list",data:=.seq vs.toArray }->IntsAre vs ns->ns.length<=n->s₁.gens=#[] ->
   codeAny (model l.prog w) callerA (.call (.ref fa) ⟨[.ref a],[]⟩) (fun r s'=>r=.ok (.ret (.bool true))/\OldK s₁.heap s'.heap/\s'.os=s₁.os/\AllBare s'.gens) s₁) :
  WalkO q loose XP YP l.row.toRowW d [] (fun f vs=>PySem.call f vs):=by
 intro w s₀ s₁ mg mb G Y fa o pm cd doc dV kV ho hd hcd hD hmg hg args vals as hpre hlay hrd hwl hlo;obtain rfl:dV=.none:=Dflts.none hD hdf;obtain rfl:kV=.none:=Dflts.noKw hD;obtain ⟨a,vs,ns,rfl,rfl,hobj,hints,hlen⟩:=Qt hn hpre hwl;refine enter_call (codeAny_mono (call w s₀ s₁ mg mb fa o pm cd doc a vs ns G Y ho (fd_plain hd) hcd hmg hobj hints hlen hg) fun r s' hq=>?_);obtain ⟨rfl,h2,h3,h4⟩:=hq;exact ⟨.inl ⟨.bool true,.bool true,[],rfl,fun _=>rfl,.bool true,Qu l _,fun _=>⟨List.Pairwise.nil,fun _ hm=>(nomatch hm)⟩⟩,h2,h3,h4⟩
section
variable {prog:Program} {w:World} {A:Around} {E:Value->Shared->Prop} {s:Shared} {K:Frag}
end
end Att
namespace L2
open PySem PySem.Spec PyProof.Rows
theorem LR:∀ {vs:List Value} {ns:List Int},IntsAre vs ns->AS (ns.map V.int) vs
 | _,_,.nil=>.nil
 | _,_,.cons n t h=>.cons ⟨t,rfl⟩ (LR h)
def Only (H:Hp):Prop:=∀ b,H b=none\/∃ o xs,H b=some (.frz o (.lst xs))
theorem Sj {P:Program} {w:World} {K:PySem.W.Frag} {mg mb:Str->Option Value} {CX:CXT} {k:Nat} {fa a:Addr} {fd:FuncData} {x:Str} {sp:Sp} {s₁:Shared} {vs:List Value} {ns:List Int}
  (KX:K.In s₁.heap) (hns:s₁.heap.Ns mainGlobals mg) (hb:s₁.heap.Ns builtinsNs mb) (hbb:∀ x:Str,x≠"__name__" -> mb x=bootBuiltins x) (hlim:s₁.heap.NoLimit) (hg:s₁.gens=#[])
  (ha:s₁.heap.get? a=some { cls:=.type "list",data:=.seq vs.toArray }) (hi:IntsAre vs ns) (hl:ns.length<=sizeLine) (hr:Eg k callerA)
  (F:∀ base:Heap,K.In base->base.Ns mainGlobals mg->AU P w K mg base CX k fa fd [x] sp) (hbind:∀ (s:Shared) (u:Value),BindsTo s fd ⟨[u],[]⟩ [(x,u)])
  (hsp:∀ H:Hp,Only H->SqL K H a (ns.map V.int)->sp [.ref a] H (fun v _=>v=.bl true) fun _ _ _=>False)
  (hCX:∀ H e s',CX [] H s₁ (fun _ _ _=>False) e s'->False) :
  codeAny (model P w) callerA (.call (.ref fa) ⟨[.ref a],[]⟩) (fun r s'=>r=.ok (.ret (.bool true))/\OldK s₁.heap s'.heap/\s'.os=s₁.os/\AllBare s'.gens) s₁:=by
 have rv:=LR hi;have lenV:=hi.length;have core:∀ H:Hp,Only H->SqL K H a (ns.map V.int)->HOk P w H s₁.heap->(∀ b,H b≠none->b=a)->(H a≠none->K.lookup a=none) ->
   codeAny (model P w) callerA (.call (.ref fa) ⟨[.ref a],[]⟩) (fun r s'=>r=.ok (.ret (.bool true))/\OldK s₁.heap s'.heap/\s'.os=s₁.os/\AllBare s'.gens) s₁:=by
  intro H hO hS hok hA hK;have base_of:∀ {b:Addr} {o:Obj},s₁.heap.get? b=some o->H b=none->(Nc s₁.heap H).get? b=some o:=fun e n=>Su e n;have noA:∀ {b:Addr} {o:Obj} {es:Array DictEntry} {ep:Nat},s₁.heap.get? b=some o->o.data=.dict es ep->H b=none:=fun {b o es ep} e d=>by
   cases q:H b with
   | none=>rfl
   | some u =>
    have e':b=a:=hA b (by rw [q]; simp);subst e';rw [ha] at e; cases e;have d':Data.seq vs.toArray _=Data.dict es ep:=d;cases d'
  have nsK:∀ {b:Addr} {m:Str->Option Value},s₁.heap.Ns b m->(Nc s₁.heap H).Ns b m:=fun {b m} ⟨o,es,ep,e,d,r⟩=>⟨o,es,ep,base_of e (noA e d),d,r⟩
  have hKb:K.In (Nc s₁.heap H):=fun b o e=>base_of (KX b o e) (by
   cases q:H b with
   | none=>rfl
   | some u =>
    have e':b=a:=hA b (by rw [q]; simp);subst e';rw [hK (by rw [q]; simp)] at e; cases e)
  have hM:Mod K mg (Nc s₁.heap H):=⟨hKb,nsK hns,⟨mb,nsK hb,hbb⟩,let ⟨mc,h1,h2⟩:=hlim; ⟨mc,nsK h1,h2⟩⟩
  have e0:Pn P w K mg (Nc s₁.heap H) callerA [] s₁ H:=⟨rfl,hM,fun b o e=>of_hidT e,Nat.le_of_eq (QP _ _),trivial,fun b hb=>absurd (show b ∈ ([]:List Addr) from hb) (by simp),hok,.of_eq hg⟩
  refine codeAny_mono ((F _ hKb (nsK hns)).run callerA [] s₁ H ⟨[.ref a],[]⟩ [.ref a] [.ref a] _ _ hr e0 (hbind s₁ (.ref a)) (.cons rfl .nil) (hsp H hO hS)) fun r s' h=>?_;cases r with
  | error e=>exact (hCX H e s' h).elim
  | ok fl =>
   cases fl with
   | next=>exact False.elim h
   | brk=>exact False.elim h
   | cont=>exact False.elim h
   | ret u =>
    obtain ⟨v,H',os,bare,un,hok',r',q⟩:=h;have q':v=.bl true:=q;subst q';obtain rfl:u=Value.bool true:=r';refine ⟨rfl,OldK.of_keep fun b o e=>?_,os,bare⟩;cases q:H b with
    | none=>exact un.keep b o e q (by intro z; exact absurd (show b ∈ ([]:List Addr) from z) (by simp)) (by simp)
    | some u =>
     rcases hO b with z | ⟨ob,xs,z⟩
     ·rw [q] at z; cases z
     ·have z2:=un.frzs b ob _ z;obtain ⟨e1,_⟩:=hok b _ z;obtain ⟨e2,_⟩:=hok' b _ z2;rw [e] at e1; cases e1;exact e2
 cases hk:K.lookup a with
 | some o =>
  have e:=KX a o hk;rw [ha] at e;cases e;refine core (fun _=>none) (fun _=>.inl rfl) (.inr ⟨_,vs.toArray,_,hk,rfl,rfl,rfl,by rw [List.size_toArray,lenV]; exact hl,by simpa using rv⟩) (fun b u z=>by have z':(none:Option HO)=some u:=z; cases z') (fun b z=>absurd rfl z) fun z=>absurd rfl z
 | none =>
  refine core (fun b=>if b=a then some (.frz { cls:=.type "list",data:=.seq vs.toArray } (.lst (ns.map V.int))) else none) (fun b=>?_) (.inl (.inr ⟨{ cls:=.type "list",data:=.seq vs.toArray },if_pos rfl⟩)) (fun b u z=>?_) (fun b z=>?_) fun _=>hk
  ·by_cases hb:b=a
   ·exact .inr ⟨_,_,if_pos hb⟩
   ·exact .inl (if_neg hb)
  ·by_cases hb:b=a
   ·have z':=(if_pos hb).symm.trans z;cases z';subst hb;exact ⟨ha,by rw [List.length_map]; exact hl,vs,_,rv,ha⟩
   ·have z':=(if_neg hb).symm.trans z;cases z'
  ·by_cases hb:b=a
   ·exact hb
   ·exact absurd (if_neg hb) z
end L2
namespace L2
open PySem PySem.Spec PyProof.Rows
theorem Po {l:PySem.W.OpenLaw} {n k:Nat} {q:Program} {loose:List Str} {XP:(Str->Option Value)->Heap->Prop} {YP:World->Heap->Prop} {d:DefRec} {K:Params->PySem.W.Frag} {CX:World->CXT} {sp:World->Sp} {x:Str}
  (hn:l.most=some n) (hn2:n<=sizeLine) (hdf:d.params.defaults=[]) (hr:Eg k callerA)
  (hY:∀ (w:World) (h:Heap),YP w h->(K w.params).In h)
  (F:∀ (w:World) (mg:Str->Option Value) (fa:Addr) (h:Heap),(K w.params).In h->h.Ns mainGlobals mg->mg d.name=some (.ref fa) ->
   ∃ fd:FuncData,(∀ (s:Shared) (u:Value),BindsTo s fd ⟨[u],[]⟩ [(x,u)]) /\
    ∀ base:Heap,(K w.params).In base->base.Ns mainGlobals mg->AU l.prog w (K w.params) mg base (CX w) k fa fd [x] (sp w))
  (hsp:∀ (w:World) (H:Hp) (a:Addr) (ns:List Int),ns.length<=n->Only H->SqL (K w.params) H a (ns.map V.int)->sp w [.ref a] H (fun v _=>v=.bl true) fun _ _ _=>False)
  (hCX:∀ (w:World) (H:Hp) (s:Shared) (e:Value) (s':Shared),CX w [] H s (fun _ _ _=>False) e s'->False) :
  PySem.W.WalkO q loose XP YP l.row.toRowW d [] (fun f vs=>PySem.call f vs):=by
 refine Att.Ot hn hdf fun w s₀ s₁ mg mb fa o pm cd doc a vs ns G Y ho hd hcd hmg hobj hints hlen hg=>?_;have KX:=hY w _ Y;obtain ⟨fd,hb,hF⟩:=F w mg fa _ KX G.T.g hmg;exact Sj KX G.T.g G.T.b G.T.builtins G.T.nolimit hg hobj hints (Nat.le_trans hlen hn2) hr hF hb (fun H hO hS=>hsp w H a ns hlen hO hS) fun H e s'=>hCX w H s₁ e s'
end L2
/- THE LAST THEOREM (shape; LID,My.* are yours):
 My.Adr: a structure of the addresses that your layer names (classes,functions); My.Txt K t: a structure (Prop) of the equations over K;
 My.txt_mk:{K} {implicit addresses ..} (e1:nsIn K mainGlobals "law" = some (some (.ref f))) (e2:K.lookup f=some ⟨oc,od,.func (fnOf "law" "law" params body scope dV kV doc pm an cdv ct),sl⟩) (e3:codeIn K cdv "law" = true) ..:∃ t,My.Txt K t
set_option maxRecDepth 100000 in
set_option maxHeartbeats 0 in
theorem PySem.Challenge.cw_LID_holds:PySem.Challenge.rw_LID.Holds:=by
 w_on; o_law; k_head; (case hw=>w_witness2)
 k_fill
 refine L2.Po (l:=PySem.Challenge.rw_LID) (n:=63) (k:=40) (x:="script") (CX:=fun w=>..) (sp:=fun _=>My.sp_law) rfl (by decide) rfl ⟨rfl,by decide,by decide⟩ (fun w h Y=>PySem.W.kIn_of Y) ?F ?S ?C
 case F =>
  intro w mg fa h KX G hmg;have T:∃ t,My.Txt (L2.KOf KX) t:=by
   dsimp only [L2.KOf]                          -- K must stand as «<heap const> w.params» for k_is;refine' My.txt_mk ?e1 ?e2 ?e3 ..
   (case e1=>PySem.W.k_is)                    -- in the order: a name->its address->its object->its parts
   (case e2=>PySem.W.k_is)
   ..
  obtain ⟨t,T⟩:=T;have e0:=hmg.symm.trans (PySem.W.mg_of KX G T.law);cases e0                                       -- fa is the law's own address;exact ⟨_,fun s u=>.of_eq rfl,fun base kb nb=>My.law_fn T kb nb⟩     -- if «.of_eq rfl» comes too early: refine' ⟨_,?b,fun base kb nb=>My.law_fn T kb nb⟩; exact fun s u=>.of_eq rfl
 case S=>exact fun w H a ns hl hO hS=>..
 case C=>exact ..
(the tactic k_is has no namespace: write k_is) -/
namespace L2
open PySem PySem.Spec PyProof.Rows
def Bk (s:Stmt) (j:Nat):Stmt:=match s with
 | .ClassDef _ _ _ body _ _ _ _ _ _ _=>body.getD j (.Pass ⟨0,0,0,0⟩)
 | _=>.Pass ⟨0,0,0,0⟩
def Ax (s:Stmt):Arguments:=match s with
 | .FunctionDef _ a _ _ _ _ _ _ _ _=>a
 | _=>{ posonlyargs:=[],args:=[],vararg:=none,kwonlyargs:=[],kw_defaults:=[],kwarg:=none,defaults:=[] }
def Aw (s:Stmt):List Stmt:=match s with
 | .FunctionDef _ _ b _ _ _ _ _ _ _=>b
 | _=>[]
def Ag (s:Stmt):Scope:=match s with
 | .FunctionDef _ _ _ _ _ _ sc _ _ _=>sc
 | _=>{ kind:=.function,names:=[],isGenerator:=false,isCoroutine:=false }
abbrev CX0:CXT:=fun _ _ _ _ _ _=>False
abbrev E0:XK:=fun _ _ _=>False
theorem Ar {X:Cx}:FF CX0 X E0:=fun _ _ _ _ _ _ _ h=>h.elim
structure Fun (K:PySem.W.Frag) (x qual:Str) (st:Stmt) (f:Addr) (fd:FuncData):Prop where
 ex:∃ (oc:Value) (od:Option Addr) (kV doc pm:Value) (an:Option Addr) (cdv ct:Value) (osl:Array (Option Value)),
  fd=PySem.W.fnOf x qual (Ax st) (Aw st) (Ag st) .none kV doc pm an cdv ct/\K.lookup f=some ⟨oc,od,.func fd,osl⟩/\PySem.W.codeIn K cdv qual=true
 kp:PySem.W.keepIn K (.ref f)=true
section
variable {P:Program} {w:World} {K:PySem.W.Frag} {mg:Str->Option Value} {base:Heap}
theorem Fun.ok {x qual:Str} {st:Stmt} {f:Addr} {fd:FuncData} {N ps:List Str} {k:Nat} {sp:Sp} (F:Fun K x qual st f fd) (S:Ay N ps (Ag st)) (len:∀ vs H Q E,sp vs H Q E->vs.length=ps.length)
  (hbody:∀ (cdv:Value) (A:Around) (outer:List Env) (s:Shared) (H:Hp) (vs:List V) (Q:VK) (E:XK),Eg k (A.deeper (envOfC qual (Ag st) s.heap.objs.size f cdv))->sp vs H Q E ->
   ∃ t,PSs (QX CX0 P w K mg base N qual (Ag st) f cdv A outer s H E).nox (Aw st) t/\t { nx:=fun _ H'=>Q .non H',rt:=Q } (Jg N vs) H):AU P w K mg base CX0 (k+1) f fd ps sp:=by
 obtain ⟨oc,od,kV,doc,pm,an,cdv,ct,osl,rfl,lk,hcd⟩:=F.ex;refine fn_of lk hcd S len fun A outer s H vs Q E hr hsp=>?_;obtain ⟨t,h,q⟩:=hbody cdv A outer s H vs Q E hr hsp;exact ⟨t,h.nox,q⟩
theorem Fun.binds {x qual:Str} {st:Stmt} {f:Addr} {fd:FuncData} {ps:List Str} (F:Fun K x qual st f fd)
  (h:∀ (kV doc pm:Value) (an:Option Addr) (cdv ct:Value) (us:List Value),us.length=ps.length->bindArgs (PySem.W.fnOf x qual (Ax st) (Aw st) (Ag st) .none kV doc pm an cdv ct) ⟨us,[]⟩=pure (ps.zip us)):FG K fd ps []:=by
 obtain ⟨oc,od,kV,doc,pm,an,cdv,ct,osl,rfl,lk,hcd⟩:=F.ex;exact .all (h kV doc pm an cdv ct)
theorem AD {x qual:Str} {st:Stmt} {f:Addr} {oc:Value} {od an:Option Addr} {osl:Array (Option Value)} {kV doc pm cdv ct:Value} (l:K.lookup f=some ⟨oc,od,.func (PySem.W.fnOf x qual (Ax st) (Aw st) (Ag st) .none kV doc pm an cdv ct),osl⟩)
  (c:PySem.W.codeIn K cdv qual=true) (k:PySem.W.keepIn K (.ref f)=true):Fun K x qual st f (PySem.W.fnOf x qual (Ax st) (Aw st) (Ag st) .none kV doc pm an cdv ct):=⟨⟨oc,od,kV,doc,pm,an,cdv,ct,osl,rfl,l,c⟩,k⟩
end
theorem GH {A:Around} {k:Nat} (hr:Eg k A):A.units+1 < cLine:=Nat.lt_of_le_of_lt (Nat.add_le_add_left (by decide:1<=64) _) hr.units
section
variable {X:Cx}
theorem pv (i:Nat) {x:Str} {pos:Pos} (hN:X.N[i]?=some x:=by rfl) (hv:Vis X.env.scope x:=by first | exact Or.inl rfl | exact Or.inr (Or.inl rfl) | exact Or.inr (Or.inr rfl)) (hd:(x == ("__debug__" : Str))=false:=by decide)
  (hcd:(x == ("__classdict__" : Str))=false:=by decide):PE X (.Name x pos) (tVar i):=pe_var hN hv hd hcd
end
theorem Cz {A B:Prop} (h:B):if false=true then A else B:=by
 rw [if_neg Bool.false_ne_true];exact h
theorem EC {A B:Prop} (h:A):if true=true then A else B:=by
 rw [if_pos rfl];exact h
theorem Jd {c A B:Prop} [Decidable c] (h1:c->A) (h2:¬ c->B):if c then A else B:=by
 by_cases h:c
 ·rw [if_pos h];exact h1 h
 ·rw [if_neg h];exact h2 h
theorem Qa {c A B:Prop} [Decidable c] (hc:c) (h:B):if (!decide c)=true then A else B:=by
 rw [decide_eq_true hc];exact Cz h
def An (H H':Hp):Prop:=∀ b o,H b=some o->H' b=some o
theorem An.refl (H:Hp):An H H:=fun _ _ h=>h
theorem An.trans {H H1 H2:Hp} (a:An H H1) (b:An H1 H2):An H H2:=fun c o h=>b c o (a c o h)
theorem An.seq {K:PySem.W.Frag} {H H':Hp} {a:Addr} {xs:List V} (e:An H H') (h:SqL K H a xs):SqL K H' a xs:=by
 rcases h with (h | ⟨o,h⟩) | h
 ·exact .inl (.inl (e _ _ h))
 ·exact .inl (.inr ⟨o,e _ _ h⟩)
 ·exact .inr h
end L2
namespace L2
open PySem PySem.Spec PyProof.Rows
section
variable {κ:Type} [DecidableEq κ]
def CB (kvs:List (κ×V)) (k:κ):Option V:=(kvs.find? fun kv=>decide (kv.1=k)).map (·.2)
def FX (kvs:List (κ×V)) (k:κ) (v:V):List (κ×V) :=
 if (kvs.any fun kv=>decide (kv.1=k))=true then kvs.map (fun kv=>if kv.1=k then (kv.1,v) else kv) else kvs ++ [(k,v)]
theorem Cb {p:κ×V} {r:List (κ×V)} {k:κ} (e:p.1=k):CB (p :: r) k=some p.2:=by simp [CB,List.find?_cons,e]
theorem BO {p:κ×V} {r:List (κ×V)} {k:κ} (e:¬ p.1=k):CB (p :: r) k=CB r k:=by simp [CB,List.find?_cons,e]
theorem Gp (k:κ):∀ kvs:List (κ×V),(kvs.any fun kv=>decide (kv.1=k))=(CB kvs k).isSome
 | []=>rfl
 | p :: r=>by
  rw [List.any_cons];by_cases e:p.1=k
  ·simp only [Cb e,decide_eq_true e,Bool.true_or,Option.isSome_some]
  ·rw [BO e,decide_eq_false e,Bool.false_or]; exact Gp k r
theorem Nt (k j:κ) (y:V):∀ kvs:List (κ×V),CB (kvs.map fun kv=>if kv.1=k then (kv.1,y) else kv) j=(CB kvs j).map fun x=>if j=k then y else x
 | []=>rfl
 | p :: r=>by
  have ih:=Nt k j y r;rw [List.map_cons];by_cases h:p.1=k
  ·rw [if_pos h];by_cases e:p.1=j
   ·rw [Cb (p:=(p.1,y)) e,Cb e,Option.map_some,if_pos (e.symm.trans h)]
   ·rw [BO (p:=(p.1,y)) e,BO e,ih]
  ·rw [if_neg h];by_cases e:p.1=j
   ·rw [Cb (p:=p) e,Cb e,Option.map_some,if_neg (fun z=>h (e.trans z))]
   ·rw [BO (p:=p) e,BO e,ih]
theorem LS (k j:κ) (y:V):∀ kvs:List (κ×V),CB kvs k=none->CB (kvs ++ [(k,y)]) j=if j=k then some y else CB kvs j
 | [],_=>by
  by_cases e:k=j
  ·rw [if_pos e.symm]; exact Cb (p:=(k,y)) e
  ·rw [if_neg (fun z=>e z.symm)]; exact BO (p:=(k,y)) e
 | p :: r,hn=>by
  rw [List.cons_append];have hk:¬ p.1=k:=fun z=>by rw [Cb z] at hn; cases hn
  rw [BO hk] at hn;have ih:=LS k j y r hn;by_cases e:p.1=j
  ·rw [Cb e,Cb e,if_neg (fun z=>hk (e.trans z))]
  ·rw [BO e,BO e,ih]
theorem Nr (kvs:List (κ×V)) (k j:κ) (y:V):CB (FX kvs k y) j=if j=k then some y else CB kvs j:=by
 unfold FX;by_cases a:(kvs.any fun kv=>decide (kv.1=k))=true
 ·rw [if_pos a,Nt];rw [Gp] at a;by_cases e:j=k
  ·obtain ⟨x,hx⟩:=Option.isSome_iff_exists.mp a;rw [if_pos e,e,hx,Option.map_some,if_pos rfl]
  ·rw [if_neg e];cases CB kvs j with
   | none=>rfl
   | some x=>rw [Option.map_some,if_neg e]
 ·rw [if_neg a];refine LS k j y kvs ?_;rw [Gp] at a;cases q:CB kvs k with
  | none=>rfl
  | some x=>rw [q] at a; exact (a rfl).elim
theorem FM (kvs:List (κ×V)) (k:κ) (v:V):(FX kvs k v).length<=kvs.length+1:=by
 unfold FX;split
 ·rw [List.length_map]; lia
 ·rw [List.length_append,List.length_cons,List.length_nil]; lia
theorem JU {kvs:List (κ×V)} {k:κ} (v:V) (h:CB kvs k=none):FX kvs k v=kvs ++ [(k,v)]:=by
 unfold FX;rw [Gp,h];exact if_neg (by decide)
theorem Gn.isSome_eq {o:Option V} {u:Option Value} (r:Gn o u):o.isSome=u.isSome:=by
 cases o with
 | none=>cases u with
  | none=>rfl
  | some _=>exact (show False from r).elim
 | some _=>cases u with
  | none=>exact (show False from r).elim
  | some _=>rfl
theorem Gn.getD {o:Option V} {u:Option Value} {d:V} {d':Value} (r:Gn o u) (rd:Be d d'):Be (o.getD d) (u.getD d'):=by
 cases o with
 | none=>cases u with
  | none=>exact rd
  | some _=>exact (show False from r).elim
 | some _=>cases u with
  | none=>exact (show False from r).elim
  | some _=>exact r
theorem KV.val {kvs:List (κ×V)} {vs:List (κ×Value)} (r:KV kvs vs) (k:κ):Gn (CB kvs k) (valueAt vs k):=by
 unfold KV at r;induction r with
 | nil=>exact True.intro
 | @cons p q ps qs h t ih =>
  obtain ⟨h1,h2⟩:=h;by_cases e:p.1=k
  ·have e':q.1=k:=h1.symm.trans e;have b:valueAt (q :: qs) k=some q.2:=by simp [valueAt,List.find?_cons,e']
   rw [Cb e,b]; exact h2
  ·have e':¬ q.1=k:=fun z=>e (h1.trans z);have b:valueAt (q :: qs) k=valueAt qs k:=by simp [valueAt,List.find?_cons,e']
   rw [BO e,b]; exact ih
theorem KV.any {kvs:List (κ×V)} {vs:List (κ×Value)} (r:KV kvs vs) (k:κ):(kvs.any fun kv=>decide (kv.1=k))=vs.any fun kv=>decide (kv.1=k):=by
 unfold KV at r;induction r with
 | nil=>rfl
 | cons h t ih=>rw [List.any_cons,List.any_cons,ih,h.1]
theorem KV.repl {kvs:List (κ×V)} {vs:List (κ×Value)} (r:KV kvs vs) (k:κ) {y:V} {u:Value} (ry:Be y u) :
  KV (kvs.map fun kv=>if kv.1=k then (kv.1,y) else kv) (vs.map fun kv=>if kv.1=k then (kv.1,u) else kv):=by
 unfold KV at r ⊢;induction r with
 | nil=>exact .nil
 | @cons p q ps qs h t ih =>
  rw [List.map_cons,List.map_cons];refine .cons ?_ ih;obtain ⟨h1,h2⟩:=h;by_cases e:p.1=k
  ·rw [if_pos e,if_pos (h1.symm.trans e)]; exact ⟨h1,ry⟩
  ·rw [if_neg e,if_neg (fun z=>e (h1.trans z))]; exact ⟨h1,h2⟩
theorem KV.put {kvs:List (κ×V)} {vs:List (κ×Value)} (r:KV kvs vs) (k:κ) {y:V} {u:Value} (ry:Be y u):KV (FX kvs k y) (stored vs k u):=by
 unfold FX stored;rw [r.any k];by_cases e:(vs.any fun kv=>decide (kv.1=k))=true
 ·rw [if_pos e,if_pos e]; exact r.repl k ry
 ·rw [if_neg e,if_neg e]; exact Paired.snoc r ⟨rfl,ry⟩
theorem KV.length {kvs:List (κ×V)} {vs:List (κ×Value)} (r:KV kvs vs):kvs.length=vs.length:=Paired.length r
end
theorem Ob {P:Program} {w:World} {k:Key} {u:Value} (r:Be (kV k) u):(Dc P w).is k u=true:=by
 cases k with
 | inl i=>obtain ⟨t,e⟩:=(show ∃ t,u=Value.int i t from r); subst e; exact NZ P w i t
 | inr x=>obtain ⟨t,e⟩:=(show ∃ t,u=Value.str x t from r); subst e; exact NY P w x t
theorem Mf {P:Program} {w:World}:∀ {ks:List Key} {us:List Value},AS (ks.map kV) us->ItemsAre (Dc P w) ks us
 | [],_,r=>by rw [List.map_nil] at r; cases r; exact .nil
 | k :: ks,_,r=>by
  rw [List.map_cons] at r;cases r with
  | cons h t=>exact .cons (Ob h) (Mf t)
abbrev KT (H:Hp):List (List Key×V)->List (List Key×Addr×Value)->Prop:=Paired fun p q=>p.1=q.1/\H q.2.1=some (.tup (p.1.map kV))/\Be p.2 q.2.2
theorem KT.val {H:Hp} {kvs:List (List Key×V)} {xs:List (List Key×Addr×Value)} (r:KT H kvs xs) (k:List Key):Gn (CB kvs k) ((atKey xs k).map (·.2)):=by
 induction r with
 | nil=>exact True.intro
 | @cons p q ps qs h t ih =>
  obtain ⟨h1,_,h2⟩:=h;by_cases e:p.1=k
  ·have e':q.1=k:=h1.symm.trans e;have b:atKey (q :: qs) k=some q.2:=by simp [atKey,List.find?_cons,e']
   rw [Cb e,b]; exact h2
  ·have e':¬ q.1=k:=fun z=>e (h1.trans z);have b:atKey (q :: qs) k=atKey qs k:=by simp [atKey,List.find?_cons,e']
   rw [BO e,b]; exact ih
theorem KT.repl {H:Hp} {kvs:List (List Key×V)} {xs:List (List Key×Addr×Value)} (r:KT H kvs xs) (k:List Key) {y:V} {u:Value} (ry:Be y u) :
  KT H (kvs.map fun kv=>if kv.1=k then (kv.1,y) else kv) (xs.map (putAt k u)):=by
 induction r with
 | nil=>exact .nil
 | @cons p q ps qs h t ih =>
  rw [List.map_cons,List.map_cons];refine .cons ?_ ih;obtain ⟨h1,h2,h3⟩:=h;unfold putAt;by_cases e:p.1=k
  ·rw [if_pos e,if_pos (h1.symm.trans e)]; exact ⟨h1,h2,ry⟩
  ·rw [if_neg e,if_neg (fun z=>e (h1.trans z))]; exact ⟨h1,h2,h3⟩
theorem KT.put {H:Hp} {kvs:List (List Key×V)} {xs:List (List Key×Addr×Value)} (r:KT H kvs xs) (k:List Key) {b:Addr} {y:V} {u:Value} (hb:H b=some (.tup (k.map kV))) (ry:Be y u) :
  KT H (FX kvs k y) (storedH xs k b u):=by
 have e:(kvs.any fun kv=>decide (kv.1=k))=(atKey xs k).isSome:=by
  rw [Gp,(r.val k).isSome_eq,Option.isSome_map]
 unfold FX storedH;rw [e];by_cases q:(atKey xs k).isSome=true
 ·rw [if_pos q,if_pos q]; exact r.repl k ry
 ·rw [if_neg q,if_neg q]; exact Paired.snoc r ⟨rfl,hb,ry⟩
theorem KT.keeps {H H':Hp} {kvs:List (List Key×V)} {xs:List (List Key×Addr×Value)} (r:KT H kvs xs) (ht:∀ b ys,H b=some (.tup ys)->H' b=some (.tup ys)):KT H' kvs xs :=
 Paired.mapP r fun _ _ z=>⟨z.1,ht _ _ z.2.1,z.2.2⟩
section
variable {P:Program} {w:World} {H:Hp} {h:Heap} {a:Addr}
theorem rd_of {u:HO} (ok:HOk P w H h) (e:Rd H a u):Cs P w H h a u:=e.ok ok
theorem Mj {kvs:List (Key×V)} (ok:HOk P w H h) (e:Rd H a (.dK kvs)):kvs.length<=sizeLine/\(a == sysModules)=false/\∃ vs,KV kvs vs/\h.DictOf (Dc P w) a vs :=
 show Cs P w H h a (.dK kvs) from rd_of ok e
theorem dk_of {kvs:List (Key×V)} (ok:HOk P w H h) (e:H a=some (.dK kvs)):kvs.length<=sizeLine/\(a == sysModules)=false/\∃ vs,KV kvs vs/\h.DictOf (Dc P w) a vs:=Mj ok (.inl e)
theorem Lp {ks:List Key} (ok:HOk P w H h) (e:H a=some (.tup (ks.map kV))):(tupleKind (Dc P w)).is h ks a:=by
 obtain ⟨_,its,r,o,h1,h2,n,h3⟩:=(show Cs P w H h a (.tup (ks.map kV)) from ok a _ e)
 exact ⟨o,its.toArray,n,h1,h2,h3,by simpa using Mf r⟩
theorem Mh {kvs:List (List Key×V)} (ok:HOk P w H h) (e:Rd H a (.dT kvs)):kvs.length<=sizeLine/\(a == sysModules)=false /\
  ∃ xs,KT H kvs xs/\h.DictOfH (tupleKind (Dc P w)) a xs:=by
 obtain ⟨z,y,xs,r,o,es,ep,h1,h2,h3,h4,h5⟩:=(show Cs P w H h a (.dT kvs) from rd_of ok e)
 refine ⟨z,y,xs,r,o,es,ep,h1,h2,h3,h4,fun x hx=>?_,h5⟩;have all:∀ {l:List (List Key×V)} {m:List (List Key×Addr×Value)},KT H l m->∀ x ∈ m,(tupleKind (Dc P w)).is h x.1 x.2.1:=by
  intro l m q;induction q with
  | nil=>intro x hx; exact nomatch hx
  | @cons p q ps qs hq t ih =>
   intro x hx;rcases List.mem_cons.mp hx with e | hx
   ·subst e;exact Lp ok (by rw [<-hq.1]; exact hq.2.1)
   ·exact ih x hx
 exact all r x hx
theorem dt_of {kvs:List (List Key×V)} (ok:HOk P w H h) (e:H a=some (.dT kvs)):kvs.length<=sizeLine/\(a == sysModules)=false /\
  ∃ xs,KT H kvs xs/\h.DictOfH (tupleKind (Dc P w)) a xs:=Mh ok (.inl e)
end
def GM (H:Hp) (a:Addr) (y:V) (r:Option V):Prop :=
 (∃ kvs k,Rd H a (.dK kvs)/\y=kV k/\r=CB kvs k)\/∃ kvs k b,Rd H a (.dT kvs)/\y=.ref b/\H b=some (.tup (k.map kV))/\r=CB kvs k
def LD (H:Hp) (a:Addr) (y v:V) (H':Hp):Prop :=
 (∃ kvs k,H a=some (.dK kvs)/\y=kV k/\kvs.length < sizeLine/\H'=upd H a (.dK (FX kvs k v))) \/
 ∃ kvs k b,H a=some (.dT kvs)/\y=.ref b/\H b=some (.tup (k.map kV))/\kvs.length < sizeLine/\H'=upd H a (.dT (FX kvs k v))
theorem GM.k {H:Hp} {a:Addr} {kvs:List (Key×V)} {k:Key} (e:H a=some (.dK kvs)):GM H a (kV k) (CB kvs k):=.inl ⟨kvs,k,.inl e,rfl,rfl⟩
theorem GM.t {H:Hp} {a b:Addr} {kvs:List (List Key×V)} {k:List Key} (e:H a=some (.dT kvs)) (eb:H b=some (.tup (k.map kV))):GM H a (.ref b) (CB kvs k):=.inr ⟨kvs,k,b,.inl e,rfl,eb,rfl⟩
theorem LD.k {H:Hp} {a:Addr} {kvs:List (Key×V)} {k:Key} {v:V} (e:H a=some (.dK kvs)) (hl:kvs.length < sizeLine):LD H a (kV k) v (upd H a (.dK (FX kvs k v))):=.inl ⟨kvs,k,e,rfl,hl,rfl⟩
theorem LD.t {H:Hp} {a b:Addr} {kvs:List (List Key×V)} {k:List Key} {v:V} (e:H a=some (.dT kvs)) (eb:H b=some (.tup (k.map kV))) (hl:kvs.length < sizeLine) :
  LD H a (.ref b) v (upd H a (.dT (FX kvs k v))):=.inr ⟨kvs,k,b,e,rfl,eb,hl,rfl⟩
section
variable {X:Cx} {pins:List (Addr×Obj)} {σ:St} {H:Hp} {s:Shared} {a:Addr} {y v:V} {u r:Value} {o:Option V} {A:Around} {E:Value->Shared->Prop}
theorem Inv.big (I:Inv X pins σ H s):sysModules < s.heap.objs.size:=by
 have h:mainGlobals < s.heap.objs.size:=(I.mod.glob.keeps I.bk).lt;exact Nat.lt_trans (by decide) h
theorem QW {Q:Value->Shared->Prop} (hu:A.units+1 < cLine) (I:Inv X pins σ H s) (g:GM H a y (some v)) (ry:Be y u) (h:∀ w' s',Inv X pins σ H s'->Be v w'->Q w' s') :
  wpAny (model X.prog X.w) A (getItem (.ref a) u) Q E s:=by
 rcases g with ⟨kvs,k,e,ey,l⟩ | ⟨kvs,k,b,e,ey,eb,l⟩
 ·subst ey;obtain ⟨z,hd,vs,rel,dd⟩:=Mj I.hok e;obtain ⟨w',hw,rw'⟩:=Gn.some_of (v:=v) (o:=valueAt vs k) (by rw [l]; exact rel.val k);exact wpAny_getItem_of (Ob ry) dd.mapOf hw (h w' _ (I.tok _) rw')
 ·subst ey;cases (show u=Value.ref b from ry);obtain ⟨z,hd,xs,rel,dd⟩:=Mh I.hok e;obtain ⟨w',hw,rw'⟩:=Gn.some_of (v:=v) (o:=(atKey xs k).map (·.2)) (by rw [l]; exact rel.val k);obtain ⟨p,hp,hp2⟩:=Option.map_eq_some_iff.mp hw;refine wpAny_getItem_heap (tupleKind_room_in1 hu) (Lp I.hok eb) dd hp ?_;rw [hp2];exact h w' _ (I.tok _) rw'
theorem d_notIn {Q:Value->Shared->Prop} (hu:A.units+1 < cLine) (I:Inv X pins σ H s) (g:GM H a y o) (ry:Be y u) (h:∀ s',Inv X pins σ H s'->Q (.bool (!o.isSome)) s') :
  wpAny (model X.prog X.w) A (compareOp .NotIn u (.ref a)) Q E s:=by
 rcases g with ⟨kvs,k,e,ey,l⟩ | ⟨kvs,k,b,e,ey,eb,l⟩
 ·subst ey;obtain ⟨z,hd,vs,rel,dd⟩:=Mj I.hok e;refine wpAny_notIn_of (Ob ry) hd dd.mapOf ?_;rw [<-(rel.val k).isSome_eq,<-l];exact h _ (I.tok _)
 ·subst ey;cases (show u=Value.ref b from ry);obtain ⟨z,hd,xs,rel,dd⟩:=Mh I.hok e;refine wpAny_notIn_heap (tupleKind_room_in1 hu) (Lp I.hok eb) hd dd ?_;have q:=(rel.val k).isSome_eq;rw [Option.isSome_map] at q;rw [<-q,<-l];exact h _ (I.tok _)
theorem Qg {h':Heap} {t':Nat} {ob:HO} (I:Inv X pins σ H s) (mu:Mut (H a)) (hs:Heap.SameBut a s.heap h') (he:∃ q,h'.get? a=some q) (new:Cs X.prog X.w (upd H a ob) h' a ob) :
  Inv X pins σ (upd H a ob) { s with heap:=h',toks:=t' } :=
 I.write (x:=a) (e:=a) mu (.inl rfl) (fun b q hb z=>(hs.2 b hb).trans z) he new
theorem dk_new {P:Program} {w:World} {H':Hp} {h':Heap} {kvs:List (Key×V)} {vs:List (Key×Value)} (z:kvs.length<=sizeLine) (hd:(a == sysModules)=false) (rel:KV kvs vs) (dd:h'.DictOf (Dc P w) a vs) :
  Cs P w H' h' a (.dK kvs):=⟨z,hd,vs,rel,dd⟩
theorem QV {H':Hp} {Q:Unit->Shared->Prop} (hu:A.units+1 < cLine) (I:Inv X pins σ H s) (g:LD H a y v H') (ry:Be y u) (rv:Be v r) (h:∀ s',Inv X pins σ H' s'->Q () s') :
  wpAny (model X.prog X.w) A (setItem (.ref a) u r) Q E s:=by
 rcases g with ⟨kvs,k,e,ey,l,eH⟩ | ⟨kvs,k,b,e,ey,eb,l,eH⟩
 ·subst ey eH;obtain ⟨z,hd,vs,rel,dd⟩:=dk_of I.hok e;have hz:vs.length<=sizeLine:=by rw [<-rel.length]; exact z
  have hl:(FX kvs k v).length<=sizeLine:=by have:=FM kvs k v; lia
  refine wpAny_setItem_pairs (hsz:=hz) (Ob ry) dd fun h' dd' hs=>h _ ?_;have he:∃ q,h'.get? a=some q:=let ⟨q,_,_,hq,_⟩:=dd'; ⟨q,hq⟩;exact Qg I (by rw [e]; exact True.intro) hs he (dk_new hl hd (rel.put k rv) dd')
 ·subst ey eH;cases (show u=Value.ref b from ry);obtain ⟨z,hd,xs,rel,dd⟩:=dt_of I.hok e;have hz:xs.length<=sizeLine:=by rw [<-Paired.length rel]; exact z
  have hl:(FX kvs k v).length<=sizeLine:=by have:=FM kvs k v; lia
  refine wpAny_setItem_heap (hsz:=hz) (tupleKind_room_in1 hu) (Lp I.hok eb) dd fun h' dd' hs=>h _ ?_;obtain ⟨q,es,ep,hq,h2,h3,h4,_,h5⟩:=dd';refine Qg I (by rw [e]; exact True.intro) hs ⟨q,hq⟩ ⟨hl,hd,_,(rel.put k eb rv).keeps fun c ys ec=>?_,q,es,ep,hq,h2,h3,h4,h5⟩;rw [As (AC ec e (fun z=>nomatch z))];exact ec
end
section
variable {X:Cx} {pins:List (Addr×Obj)} {σ:St} {H:Hp} {s:Shared} {a:Addr} {kvs:List (Key×V)} {k:Key} {u:Value} {A:Around} {E:Value->Shared->Prop}
end
def NoSl (i:Expr):Prop:=∀ ov iv,subscripted i false ov iv=operate [ov,iv] (getItem ov iv)
theorem subD_of {prog:Program} {w:World} {A:Around} {E:Value->Shared->Prop} {s:Shared} {env:Env} {value slice:Expr} {pos:Pos} {T id:String} {Q:Value->Shared->Prop}
  (hl:typeLookup (.type T) "__getitem__" = pure (some (.builtin id))) (hs:NoSl slice)
  (h:wpAny (model prog w) A (eval value env) (fun o s₁=>wpAny (model prog w) A (eval slice env) (fun i s₂=>s₂.TypeIs o T/\wpAny (model prog w) A (getItem o i) Q E s₂) E s₁) E s) :
  wpAny (model prog w) A (eval (.Subscript value slice pos) env) Q E s:=by
 refine Subscript_ (wpAny_mono h (fun o s₁ h₁=>wpAny_mono h₁ (fun i s₂ h₂=>?_) fun _ _ x=>x) fun _ _ x=>x);obtain ⟨hT,h₂⟩:=h₂;unfold subscriptTail;refine wpAny_bind ?_;rw [getitemInPython_of_ne hT.not_modules];refine wpAny_bind (wpAny_specialOf hT hl ?_);have fin:wpAny (model prog w) A (subscripted slice false o i) (fun r s₃=>wpAny (model prog w) A (letTemporaryGo value o r >>= fun _=>pure r) Q E s₃) E s₂:=by
  rw [hs o i];exact wpAny_operating (wpAny_mono h₂ (fun r s₃ h₃=>wpAny_bind (wpAny_letTemporaryGo (wpAny_pure h₃))) fun _ _ x=>x)
 first
  | exact wpAny_pure (wpAny_bind fin)
  | exact wpAny_bind (wpAny_pure (wpAny_bind fin))
  | exact wpAny_bind fin
theorem Oe {X:Cx} {pins:List (Addr×Obj)} {σ:St} {H:Hp} {s:Shared} {a:Addr} {y:V} {o:Option V} (I:Inv X pins σ H s) (g:GM H a y o):s.TypeIs (.ref a) "dict" := by
 rcases g with ⟨kvs,k,e,_,_⟩ | ⟨kvs,k,b,e,_,_,_⟩
 ·obtain ⟨_,_,vs,_,dd⟩:=Mj I.hok e;exact dd.typeIs
 ·obtain ⟨_,_,xs,_,dd⟩:=Mh I.hok e;exact dd.typeIs
def tDGet (td ty:TE):TE:=fun σ H Q=>td σ H fun x H1=>ty σ H1 fun y H2=>∃ a v,x=.ref a/\GM H2 a y (some v)/\Q v H2
def tDNotIn (ty td:TE):TE:=fun σ H Q=>ty σ H fun y H1=>td σ H1 fun x H2=>∃ a o,x=.ref a/\GM H2 a y o/\Q (.bl (!o.isSome)) H2
def sDPut (td ty tv:TE):TS:=fun D σ H=>tv σ H fun v H1=>td σ H1 fun x H2=>ty σ H2 fun y H3=>∃ a H4,x=.ref a/\LD H3 a y v H4/\D.nx σ H4
section
variable {X:Cx} {o i e value:Expr} {pos pos' tpos:Pos} {td ty tv:TE}
theorem PN (hu:X.A.units+1 < cLine) (ho:PE X o td) (hi:PE X i ty) (hs:NoSl i):PE X (.Subscript o i pos) (tDGet td ty):=by
 intro pins s σ H Q I h;refine subD_of PySem.F.slot_dict_getitem.lookup hs (thn (ho pins s σ H _ I h) fun u s1 ⟨x,H1,I1,rx,q1⟩=>thn (hi pins s1 σ H1 _ I1 q1) fun iv s2 ⟨y,H2,I2,ry,a,v,ex,g,q2⟩=>?_);subst ex;obtain rfl:u=Value.ref a:=rx;exact ⟨Oe I2 g,QW hu I2 g ry fun w' s3 I3 rw'=>⟨v,H2,I3,rw',q2⟩⟩
theorem Qv (hu:X.A.units+1 < cLine) (hi:PE X i ty) (ho:PE X o td):PC X .NotIn i o (tDNotIn ty td):=by
 intro pins s σ H Q I h;refine thn (hi pins s σ H _ I h) fun iv s1 ⟨y,H1,I1,ry,q1⟩=>thn (ho pins s1 σ H1 _ I1 q1) fun u s2 ⟨x,H2,I2,rx,a,ov,ex,g,q2⟩=>?_;subst ex;obtain rfl:u=Value.ref a:=rx;exact d_notIn hu I2 g ry fun s3 I3=>⟨.bl (!ov.isSome),H2,I3,rfl,q2⟩
theorem Ir (hu:X.A.units+1 < cLine) (ho:PE X o td) (hi:PE X i ty) (hv:PE X value tv) (hs:swapsWith value (some (.Subscript o i pos')) pos.line X.env=pure false) :
  PS X (.Assign [.Subscript o i pos'] value pos) (sDPut td ty tv):=by
 intro pins s σ H D I h;refine wpAny_Assign_Subscript (thn (hv pins s σ H _ I h) fun r s1 ⟨v,H1,I1,rv,q1⟩=>thn (ho pins s1 σ H1 _ I1 q1) fun u s2 ⟨x,H2,I2,rx,q2⟩=>thn (hi pins s2 σ H2 _ I2 q2) fun iv s3 ⟨y,H3,I3,ry,a,H4,ex,g,q3⟩=>?_) hs;subst ex;obtain rfl:u=Value.ref a:=rx;exact QV hu I3 g ry rv fun s4 I4=>⟨σ,H4,I4,q3⟩
end
theorem SH {P:Program} {w:World} {H:Hp} (h:Heap) (hb:sysModules < h.objs.size):Cs P w H (h.push { cls:=.type "dict",data:=.dict #[] }) h.objs.size (.dK []) :=
 ⟨Nat.zero_le _,beq_eq_false_iff_ne.mpr (Ne.symm (Nat.ne_of_lt hb)),[],.nil,Heap.DictOf.new h⟩
theorem SF {P:Program} {w:World} {H:Hp} (h:Heap) (hb:sysModules < h.objs.size):Cs P w H (h.push { cls:=.type "dict",data:=.dict #[] }) h.objs.size (.dT []) :=
 ⟨Nat.zero_le _,beq_eq_false_iff_ne.mpr (Ne.symm (Nat.ne_of_lt hb)),[],.nil,_,#[],0,Heap.get?_push_size _ rfl,⟨rfl,rfl,rfl⟩,rfl,rfl,List.nodup_nil⟩
def tDNewK:TE:=fun _ H Q=>∀ p,H p=none->Q (.ref p) (upd H p (.dK []))
def tDNewT:TE:=fun _ H Q=>∀ p,H p=none->Q (.ref p) (upd H p (.dT []))
section
variable {X:Cx} {pos:Pos}
theorem Iu:PE X (.Dict [] [] pos) tDNewK:=fun pins s σ H Q I h =>
 wpAny_Dict_empty ⟨.ref s.heap.objs.size,_,I.laid (a:=s.heap.objs.size) (o:=.dK []) (t':=s.toks) (fun _ _ q=>Heap.get?_push_of_some _ q) (Nat.le_refl _) (SH s.heap I.big),rfl,h _ (I.hok.fresh (Nat.le_refl _))⟩
theorem NO:PE X (.Dict [] [] pos) tDNewT:=fun pins s σ H Q I h =>
 wpAny_Dict_empty ⟨.ref s.heap.objs.size,_,I.laid (a:=s.heap.objs.size) (o:=.dT []) (t':=s.toks) (fun _ _ q=>Heap.get?_push_of_some _ q) (Nat.le_refl _) (SF s.heap I.big),rfl,h _ (I.hok.fresh (Nat.le_refl _))⟩
end
structure M1 (X:Cx) (o:Expr) (m:Str) (apos:Pos) (e:Expr) (cpos:Pos):Prop where
 base:attributeBase o m X.env (eval o X.env)=eval o X.env
 few:((backTo cpos (starEach [e] X.env)).all (fun x=>!x.1) && (backToKw cpos (keywordEach [] X.env)).all (fun x=>x.1.isSome)
  && decide (([e]:List Expr).length+([]:List Keyword).length+(if ([]:List Keyword).isEmpty then 0 else 1) < 30))=true
 line:(apos.endLine == cpos.line)=true
 trees:backTo cpos (starEach [e] X.env)=[(false,eval e X.env)]
def IsD (H:Hp) (a:Addr):Prop:=(∃ kvs,Rd H a (.dK kvs))\/∃ kvs,Rd H a (.dT kvs)
theorem isD_at {X:Cx} {pins:List (Addr×Obj)} {σ:St} {H:Hp} {s:Shared} {a:Addr} (I:Inv X pins σ H s) (d:IsD H a) :
  s.TypeIs (.ref a) "dict" /\ (∀ b,Value.ref a=.ref b->∃ ob,s.heap.get? b=some ob/\ob.dict=none)/\(a == sysModules)=false:=by
 rcases d with ⟨kvs,e⟩ | ⟨kvs,e⟩
 ·obtain ⟨_,hd,vs,_,dd⟩:=Mj I.hok e;refine ⟨dd.typeIs,fun b q=>?_,hd⟩;cases q;obtain ⟨ob,_,_,h1,h2,_⟩:=dd;exact ⟨ob,h1,h2.2.1⟩
 ·obtain ⟨_,hd,xs,_,dd⟩:=Mh I.hok e;refine ⟨dd.typeIs,fun b q=>?_,hd⟩;cases q;obtain ⟨ob,_,_,h1,h2,_⟩:=dd;exact ⟨ob,h1,h2.2.1⟩
section
variable {X:Cx} {pins:List (Addr×Obj)} {σ:St} {H:Hp} {s:Shared} {a:Addr} {y d:V} {u r:Value} {o:Option V} {A:Around} {E:Value->Shared->Prop}
theorem d_get1 {Q:Value->Shared->Prop} (hu:A.units+1 < cLine) (I:Inv X pins σ H s) (g:GM H a y o) (ry:Be y u) (h:∀ w' s',Inv X pins σ H s'->Be (o.getD .non) w'->Q w' s') :
  wpAny (model X.prog X.w) A (call (.builtin "dict.get") [.ref a,u]) Q E s:=by
 rcases g with ⟨kvs,k,e,ey,l⟩ | ⟨kvs,k,b,e,ey,eb,l⟩
 ·subst ey;obtain ⟨z,hd,vs,rel,dd⟩:=Mj I.hok e;refine call_meetsIn PySem.F.slot_dict_get dd.typeIs PySem.F.entry_dict_get (PySem.F.args_dict_get_2 _ _) (meets_dict_get (Dc X.prog X.w) a (Ob ry) hd) ⟨_,dd.mapOf,h _ _ (I.tok _) ?_⟩;rw [l];exact (rel.val k).getD rfl
 ·subst ey;cases (show u=Value.ref b from ry);obtain ⟨z,hd,xs,rel,dd⟩:=Mh I.hok e;refine call_meetsIn PySem.F.slot_dict_get dd.typeIs PySem.F.entry_dict_get (PySem.F.args_dict_get_2 _ _) (meetsH_dict_get (tupleKind (Dc X.prog X.w)) a b hd) ⟨tupleKind_room_in1 hu,k,xs,Lp I.hok eb,dd,h _ _ (I.tok _) ?_⟩;rw [l];exact (rel.val k).getD rfl
end
def tDGet1 (td ty:TE):TE:=fun σ H Q=>td σ H fun x H1=>∃ a,x=.ref a/\IsD H1 a/\ty σ H1 fun y H2=>∃ o,GM H2 a y o/\Q (o.getD .non) H2
section
variable {X:Cx} {o e f:Expr} {apos cpos:Pos} {td ty tx:TE}
theorem JY (hu:X.A.units+1 < cLine) (ho:PE X o td) (he:PE X e ty) (m:M1 X o "get" apos e cpos):PE X (.Call (.Attribute o "get" apos) [e] [] cpos) (tDGet1 td ty):=by
 intro pins s σ H Q I h;refine wpAny_Call_method m.base m.few m.line PySem.F.plainAttrs_dict PySem.F.slot_dict_get PySem.F.type_dict_get (thn (ho pins s σ H _ I h) fun u s1 ⟨x,H1,I1,rx,a,ex,d,q1⟩=>?_);subst ex;obtain rfl:u=Value.ref a:=rx;obtain ⟨t1,t2,_⟩:=isD_at I1 d;refine ⟨t1,t2,?_⟩;rw [m.trees];refine Calls.callWith_builtin rfl (Calls.evalArgs_plain (Calls.spliced_cons (thn (he pins s1 σ H1 _ I1 q1) fun iv s2 ⟨y,H2,I2,ry,ov,g,q2⟩=>Calls.spliced_nil ?_)));exact d_get1 hu I2 g ry fun w' s3 I3 rw'=>⟨_,H2,I3,rw',q2⟩
end
section
variable {X:Cx} {pins:List (Addr×Obj)} {σ:St} {H:Hp} {s:Shared} {a:Addr} {kvs:List (Key×V)} {A:Around} {E:Value->Shared->Prop}
end
section
variable {X:Cx} {pins:List (Addr×Obj)} {σ:St} {H:Hp} {s:Shared} {a:Addr} {y:V} {u:Value} {A:Around} {E:Value->Shared->Prop}
end
end L2
namespace L2
open PySem PySem.Spec PyProof.Rows
section
variable {X:Cx}
end
section
variable {κ:Type} [DecidableEq κ]
end
end L2
namespace L2
open PySem PySem.Spec PyProof.Rows
section
variable {P:Program} {w:World} {K:PySem.W.Frag} {mg:Str->Option Value} {base:Heap} {N:List Str} {qual:Str} {scope:Scope} {f:Addr} {cd:Value} {A:Around} {outer:List Env} {s:Shared} {H:Hp} {E:XK}
end
end L2
namespace L2
open PySem PySem.Spec PyProof.Rows
section
variable {X:Cx} {C:Addr} {x:Str} {np cpos pos:Pos} {e:Expr} {es:List Expr} {t:TA} {E:XK}
end
section
variable {X:Cx} {CX:CXT} {k:Nat} {f:Addr} {fd:FuncData} {ps:List Str} {sp:Sp} {dvs:List V} {ds:List Value} {E:XK} {x:Str} {p pos:Pos} {e:Expr} {es:List Expr} {t:TA} {S:St->Prop}
end
def isExc (a D:Addr):HO:=.ext fun h=>∃ o,h.get? a=some o/\o.cls=.ref D/\PySem.W.notCls o=true
theorem Inv.track {X:Cx} {pins:List (Addr×Obj)} {σ:St} {H:Hp} {s:Shared} {a:Addr} {o:HO} (I:Inv X pins σ H s) (ha:H a=none) (h0:X.s₀.heap.get? a=none) (hb:X.base.get? a=none) (hL:X.env.locals≠a) (hc:∀ x c,X.env.cells.lookup x=some c->c≠a)
  (hp:∀ p,p ∈ X.pn ++ pins->p.1≠a) (hs:∀ b,b ∈ X.fs->b≠a) (new:Cs X.prog X.w (upd H a o) s.heap a o):Inv X pins σ (upd H a o) s:=by
 have ne:∀ b u,H b=some u->b≠a:=fun b u q z=>by rw [z,ha] at q; cases q
 refine ⟨I.ok,I.os,I.bare,⟨I.base.keep,I.base.slot,fun b u q n x=>?_,I.base.there,fun b xs q=>?_,fun b u v q=>?_,fun b ps q=>?_⟩,I.loc,I.cell,?_,fun x c q=>?_,fun p z=>?_,fun b u q=>?_,I.len⟩
 ·rw [As (fun z=>by rw [z,h0] at q; cases q)];exact I.base.free b u q n x
 ·have z:=I.base.tups b xs q;rw [As (ne _ _ z)]; exact z
 ·have z:=I.base.frzs b u v q;rw [As (ne _ _ z)]; exact z
 ·obtain ⟨m,z⟩:=I.base.tbls b ps q;exact ⟨m,by rw [As (ne _ _ z)]; exact z⟩
 ·rw [As hL]; exact I.free
 ·rw [As (hc x c q)]; exact I.freeC x c q
 ·obtain ⟨e,n,r⟩:=I.pin p z;exact ⟨e,by rw [As (hp p z)]; exact n,r⟩
 ·by_cases z:b=a
  ·subst z;rw [Ab] at q;cases q;exact new
  ·rw [As z] at q;exact (I.hok b u q).stay (fun c v _ r=>r) (fun c r=>by rw [As (ne _ _ r)]; exact r) fun c xs r=>by rw [As (ne _ _ r)]; exact r
end L2
namespace L2
open PySem PySem.Spec PyProof.Rows
section
variable {X:Cx} {C:Addr} {x n:Str} {np hpos pos:Pos} {i:Nat} {b₀:Stmt} {suite body:List Stmt} {S:St->Prop} {tb:XK->TS} {th:TS}
end
section
variable {P:Program} {w:World} {K:PySem.W.Frag} {mg:Str->Option Value} {base:Heap}
end
section
variable {X:Cx} {k:Nat} {f:Addr} {fd:FuncData} {ps:List Str} {sp:Sp} {x:Str} {p pos:Pos} {e:Expr} {es:List Expr} {t:TA}
end
end L2
namespace L2
open PySem PySem.Spec PyProof.Rows
section
variable {X:Cx} {tg:Expr}
def Its (x:Str):It:=⟨fun i _=>i < x.cps.size,fun i H v H'=>H'=H/\∃ c,x.cps[i]?=some c/\v=.str ⟨#[c]⟩,fun i _=>i=x.cps.size⟩
theorem Nw {P:Program} {w:World} {K:PySem.W.Frag} (it:Addr) (x:Str) (t:Tok) (T:String) (hn:["enumerate","zip","dict_itemiterator","dict_reverseitemiterator","odict_iterator","itertools.zip_longest","itertools.pairwise"].contains T=false)
  (W:∀ A:Around,A.handled=none->Walks P w A it [it] [it] x.cps.size (SignAt x) (fun i h=>h.IsStrIter it T x t i))
  (hself:∀ (A:Around) (i:Nat) (s:Shared) (Q:Value->Shared->Prop) (E:Value->Shared->Prop),s.heap.IsStrIter it T x t i->Q (.ref it) s->wpAny (model P w) A (pyIter (.ref it)) Q E s):LO P w K tg (Its x) [it] it (fun i h=>h.IsStrIter it T x t i) where
 mem:=by simp
 obj:=fun i h st b hb=>by
  have e:b=it:=by simpa using hb
  subst e;obtain ⟨o,e,c,d⟩:=st;exact ⟨o,e,fun v z=>by rw [d] at z; cases z⟩
 keep:=fun i h h' ⟨o,e,r⟩ k=>⟨o,k it (by simp) o e,r⟩
 item:=by
  intro X hP hw hK hc i pins s σ H E I hf st hg;subst hP hw hK;obtain ⟨f0,f1,f2,f3,f4,f5⟩:=hf it (by simp);refine (W X.A (I.ok.hd hc)).item i s _ _ hg st fun v h' tk hv st' kk=>?_;obtain ⟨c,u,hc',rfl⟩:=hv;have I1:Inv X pins σ H { s with heap:=h',toks:=tk }:=I.turned (fun b o hb e=>kk b o (by simpa using hb) e) f0 f1 f3 f4 f5;obtain ⟨o,e,oc,od⟩:=id st';exact ⟨_,rfl,Oc (s:={ s with heap:=h',toks:=tk }) e oc od hn ⟨.str ⟨#[c]⟩,H,I1,⟨u,rfl⟩,⟨rfl,c,hc',rfl⟩,st',fun b hb=>(hf b hb).1⟩⟩
 done:=by
  intro X hP hw hK hc i pins s σ H E I hf st hg;subst hP hw hK;obtain ⟨f0,f1,f2,f3,f4,f5⟩:=hf it (by simp);have z:i=x.cps.size:=hg;subst z;exact (W X.A (I.ok.hd hc)).done s _ _ st fun h' tk kk=>⟨rfl,I.turned (fun b o hb e=>kk b o (by simpa using hb) e) f0 f1 f3 f4 f5⟩
 self:=hself
def iStr (tl:TE):TI:=fun σ H R=>tl σ H fun v H1=>∃ x,v=.str x/\R (Its x) H1
theorem RJ {l:Expr} {tl:TE} (hl:PE X l tl):PI X tg l (iStr tl):=by
 intro pins s σ H R I h;refine thn (hl pins s σ H _ I h) fun v s1 ⟨y,H1,I1,r1,q1⟩=>?_;obtain ⟨x,rfl,q⟩:=q1;obtain ⟨t,rfl⟩:=r1;have fp:∀ b,b ∈ [s1.heap.objs.size]->Go X pins H1 b:=fun b hb=>by
  have e:b=s1.heap.objs.size:=by simpa using hb
  subst e;exact I1.fpOk (Nat.le_refl _) (I1.hok.fresh (Nat.le_refl _))
 cases ha:x.cps.all (· < 128) with
 | true =>
  refine wpAny_pyIter_ascii ha ?_;refine ⟨s1.heap.objs.size,[s1.heap.objs.size],_,_,H1,rfl,I1.kept (t':=s1.toks) fun b o e=>Heap.get?_push_of_some _ e,Nw _ x t "str_ascii_iterator" (by decide) (fun A hA=>Walks.strAscii hA _ x t) (fun _ _ _ _ _ st h=>wpAny_pyIter_striter_ascii st h),⟨_,Heap.get?_push_size _ rfl,rfl,rfl⟩,fp,q⟩
 | false =>
  refine wpAny_pyIter_wide ha ?_;refine ⟨s1.heap.objs.size,[s1.heap.objs.size],_,_,H1,rfl,I1.kept (t':=s1.toks) fun b o e=>Heap.get?_push_of_some _ e,Nw _ x t "str_iterator" (by decide) (fun A hA=>Walks.strWide hA _ x t) (fun _ _ _ _ _ st h=>wpAny_pyIter_striter_wide st h),⟨_,Heap.get?_push_size _ rfl,rfl,rfl⟩,fp,q⟩
theorem for_str {x:Str} {g:TG} {tb:TS} {D:Ju} {σ:St} {H:Hp} (Pv:Nat->St->Hp->Prop) (h0:Pv 0 σ H)
  (hs:∀ i c σ H,x.cps[i]?=some c->Pv i σ H->g (.str ⟨#[c]⟩) σ H fun σ2 H2=>tb { D with nx:=Pv (i+1),ct:=Pv (i+1),bk:=D.nx } σ2 H2) (hd:∀ σ H,Pv x.cps.size σ H->D.nx σ H) :
  ∃ W:Nat->Nat->St->Hp->Prop,(∃ m,W 0 m σ H)/\∀ i m σ H,W i m σ H ->
   ((Its x).stop i H/\D.nx σ H)\/((Its x).go i H/\∃ N:St->Hp->Prop,(∀ σ' H',N σ' H'->∃ m',m' < m/\W (i+1) m' σ' H')/\∀ v H',(Its x).yld i H v H'->g v σ H' fun σ2 H2=>tb { D with nx:=N,ct:=N,bk:=D.nx } σ2 H2):=by
 refine ⟨fun i m σ H=>m=x.cps.size - i/\i<=x.cps.size/\Pv i σ H,⟨x.cps.size,by simp,Nat.zero_le _,h0⟩,?_⟩;rintro i m σ H ⟨rfl,hi,p⟩;by_cases hlt:i < x.cps.size
 ·refine .inr ⟨hlt,Pv (i+1),fun σ' H' p'=>⟨x.cps.size - (i+1),by lia,rfl,hlt,p'⟩,fun v H' y=>?_⟩;obtain ⟨e,c,hc,rfl⟩:=y;subst e;exact hs i c σ _ hc p
 ·have e:i=x.cps.size:=by lia
  subst e;exact .inl ⟨rfl,hd σ H p⟩
theorem FQ:GN X (.type "int") (fun xs H Q=>∃ x n,xs=[.str x]/\PySem.intText? x=some n/\x.length<=640/\Q (.int n) H):=by
 intro pins s σ H xs us Q I r h;obtain ⟨x,n,rfl,hn,hl,q⟩:=h;cases r with
 | cons r1 r2 =>
  cases r2;obtain ⟨t,rfl⟩:=r1;exact PySem.W.KIN.call_text hn hl ⟨.int n,H,I.tok _,⟨_,rfl⟩,q⟩
theorem Op (hc:X.calm=true):GN X (.builtin "all") (fun xs H Q=>∃ (p:Addr) (bs:List Bool),xs=[.ref p]/\SqL X.K H p (bs.map V.bl)/\Q (.bl (bs.all id)) H):=by
 intro pins s σ H xs us Q I r h;obtain ⟨p,bs,rfl,hq,q⟩:=h;cases r with
 | cons r1 r2 =>
  cases r2;cases (show _=Value.ref p from r1);obtain ⟨its,rv,pl,hz⟩:=I.list hq;have hne:p≠s.heap.objs.size:=Nat.ne_of_lt (by obtain ⟨o,n,e,_⟩:=pl; exact Heap.lt_size e);refine call_all_walk (wpAny_pyIter_list pl.isList ?_);have vals:∀ (i:Nat) v,its[i]?=some v->∃ b,bs[i]?=some b/\v=.bool b:=fun i v e=>by
   cases eb:bs[i]? with
   | none =>
    have:its[i]?=none:=rv.none_of (by rw [List.getElem?_map,eb]; rfl);rw [e] at this;cases this
   | some b =>
    obtain ⟨u,hu,ru⟩:=rv.get (i:=i) (x:=V.bl b) (by rw [List.getElem?_map,eb]; rfl);rw [e] at hu;cases hu;exact ⟨b,rfl,ru⟩
  refine ⟨s.heap.objs.size,_,_,_,_,_,fun i=>bs.getD i true,rfl,Walks.list (A:=X.A.in1) (I.ok.hd hc) s.heap.objs.size p hne its.toArray,⟨⟨_,Heap.get?_push_size _ rfl,rfl,rfl⟩,?_⟩,?_,?_⟩
  ·exact pl.isList.at fun o e=>Heap.get?_push_of_some _ e
  ·intro i v s2 Q2 E2 hP hQ;obtain ⟨b,eb,rfl⟩:=vals i v (by simpa using hP);have e2:bs.getD i true=b:=by rw [List.getD_eq_getElem?_getD,eb]; rfl
   have hQ:Q2 (bs.getD i true) s2:=hQ;rw [e2] at hQ;exact wpAny_truthy_bool hQ
  ·intro h' tk kk;have I2:Inv X pins σ H { s with heap:=h',toks:=tk }:=I.kept fun b o e=>kk b o (by intro z; exact Nat.ne_of_lt (Heap.lt_size e) (by simpa using z)) (Heap.get?_push_of_some _ e);have len:its.toArray.size=bs.length:=by rw [List.size_toArray,<-rv.length,List.length_map]
   have e3:(List.range its.toArray.size).all (fun i=>bs.getD i true)=bs.all id:=by
    rw [len,Bool.eq_iff_iff,List.all_eq_true,List.all_eq_true];constructor
    ·intro z b hb;obtain ⟨i,hi,e⟩:=List.mem_iff_getElem.mp hb;have:=z i (List.mem_range.mpr hi);rw [List.getD_eq_getElem?_getD,List.getElem?_eq_getElem hi,e] at this;exact this
    ·intro z i hi;have hi':=List.mem_range.mp hi;rw [List.getD_eq_getElem?_getD,List.getElem?_eq_getElem hi'];exact z _ (List.getElem_mem hi')
   rw [e3];exact ⟨.bl _,H,I2,rfl,q⟩
def Ti (lo c:Int) (n:Nat):It:=⟨fun i _=>i < n,fun i H x H'=>H'=H/\x=.int (lo+i * c),fun i _=>i=n⟩
theorem Ny {P:Program} {w:World} {K:PySem.W.Frag} (it:Addr) (lo c:Int) (n:Nat):LO P w K tg (Ti lo c n) [it] it (fun i h=>IsRangeIter h it (lo+(i:Nat) * c) ((n:Int) - (i:Nat)) c) where
 mem:=by simp
 obj:=fun i h st b hb=>by
  have e:b=it:=by simpa using hb
  subst e;exact ⟨_,st,fun v z=>by
   have z':Data.fields _=Data.cell v:=z;cases z'⟩
 keep:=fun i h h' st k=>k it (by simp) _ st
 item:=by
  intro X hP hw hK hc i pins s σ H E I hf st hg;subst hP hw hK;obtain ⟨f0,f1,f2,f3,f4,f5⟩:=hf it (by simp);refine (Walks.range (prog:=X.prog) (w:=X.w) (I.ok.hd hc) it lo c n).item i s _ _ hg st fun v h' tk hv st' kk=>?_;obtain ⟨t,rfl⟩:=hv;have I1:Inv X pins σ H { s with heap:=h',toks:=tk }:=I.turned (fun b o hb e=>kk b o (by simpa using hb) e) f0 f1 f3 f4 f5;exact ⟨_,rfl,Oc (s:={ s with heap:=h',toks:=tk }) (n:="range_iterator") st' rfl rfl (by decide) ⟨.int (lo+i * c),H,I1,⟨t,rfl⟩,⟨rfl,rfl⟩,st',fun b hb=>(hf b hb).1⟩⟩
 done:=by
  intro X hP hw hK hc i pins s σ H E I hf st hg;subst hP hw hK;obtain ⟨f0,f1,f2,f3,f4,f5⟩:=hf it (by simp);have z:i=n:=hg;subst z;exact (Walks.range (prog:=X.prog) (w:=X.w) (I.ok.hd hc) it lo c i).done s _ _ st fun h' tk kk=>⟨rfl,I.turned (fun b o hb e=>kk b o (by simpa using hb) e) f0 f1 f3 f4 f5⟩
 self:=fun _ _ _ _ _ st h=>wpAny_pyIter_rangeiter st h
def iRng3 (ta:TA):TI:=fun σ H R=>ta σ H fun vs H1=>∃ (i j c:Int) (n:Nat),vs=[.int i,.int j,.int c]/\c≠0/\(j - i).natAbs < 1073741824/\c.natAbs < 1073741824/\Builtin.Range.small i j c=true/\Builtin.Range.rangeSize i j c=(n:Int)/\R (Ti i c n) H1
theorem LV {a b c:Expr} {ta:TA} {p pos:Pos} (hg:Gl X "range") (hm:X.mg "range" = none) (ha:PA X [a,b,c] ta) (hs:starEach [a,b,c] X.env=[(false,eval a X.env),(false,eval b X.env),(false,eval c X.env)]:=by rfl)
  (hs2:starEach [b,c] X.env=[(false,eval b X.env),(false,eval c X.env)]:=by rfl):PI X tg (.Call (.Name "range" p) [a,b,c] [] pos) (iRng3 ta):=by
 intro pins s σ H R I h;refine Call_ (GF I hg hm boot_range (PyProof.Rows.callWith_type1 (thn (ha pos pins s σ H _ I h) fun us s1 ⟨vs,H1,I1,r1,q1⟩=>?_) (by rw [hs,hs2]) (by rw [hs2]; rfl)));obtain ⟨i,j,c,n,rfl,hc,hb1,hb2,hsm,hsz,q⟩:=q1;cases r1 with
 | cons r rr =>
  cases rr with
  | cons r' rr =>
   cases rr with
   | cons r'' rr =>
    cases rr;obtain ⟨t,rfl⟩:=r;obtain ⟨t',rfl⟩:=r';obtain ⟨t'',rfl⟩:=r'';refine call_range_3 hc (wpAny_pyIter_range (IsRange.new ..) hsm ?_) (.inl (PyProof.noPylong_small (by lia)));have I2:Inv X pins σ H1 { s1 with heap:=s1.heap.push { cls:=.type "range",data:=.fields #[.int i t,.int j t',.int c t''] } }:=I1.kept (t':=s1.toks) fun b o e=>Heap.get?_push_of_some _ e
    refine ⟨(s1.heap.push { cls:=.type "range",data:=.fields #[.int i t,.int j t',.int c t''] }).objs.size,[(s1.heap.push { cls:=.type "range",data:=.fields #[.int i t,.int j t',.int c t''] }).objs.size],_,_,H1,rfl,
     I2.kept (t':=s1.toks) fun b o e=>Heap.get?_push_of_some _ e,Ny _ i c n,?_,fun b hb=>?_,q⟩
    ·show IsRangeIter _ _ (i+((0:Nat):Int) * c) ((n:Int) - ((0:Nat):Int)) c;have e1:i+((0:Nat):Int) * c=i:=by simp
     have e2:(n:Int) - ((0:Nat):Int)=Builtin.Range.rangeSize i j c:=by rw [hsz]; simp
     rw [e1,e2];exact Heap.get?_push_size _ rfl
    ·have e:b=(s1.heap.push { cls:=.type "range",data:=.fields #[.int i t,.int j t',.int c t''] }).objs.size:=by simpa using hb
     subst e;exact I2.fpOk (Nat.le_refl _) (I2.hok.fresh (Nat.le_refl _))
theorem Ls {lo c:Int} {n:Nat} {g:TG} {tb:TS} {D:Ju} {σ:St} {H:Hp} (Pv:Nat->St->Hp->Prop) (h0:Pv 0 σ H)
  (hs:∀ i σ H,i < n->Pv i σ H->g (.int (lo+i * c)) σ H fun σ2 H2=>tb { D with nx:=Pv (i+1),ct:=Pv (i+1),bk:=D.nx } σ2 H2) (hd:∀ σ H,Pv n σ H->D.nx σ H) :
  ∃ W:Nat->Nat->St->Hp->Prop,(∃ m,W 0 m σ H)/\∀ i m σ H,W i m σ H ->
   ((Ti lo c n).stop i H/\D.nx σ H)\/((Ti lo c n).go i H/\∃ N:St->Hp->Prop,(∀ σ' H',N σ' H'->∃ m',m' < m/\W (i+1) m' σ' H')/\∀ v H',(Ti lo c n).yld i H v H'->g v σ H' fun σ2 H2=>tb { D with nx:=N,ct:=N,bk:=D.nx } σ2 H2):=by
 refine ⟨fun i m σ H=>m=n - i/\i<=n/\Pv i σ H,⟨n,by simp,Nat.zero_le _,h0⟩,?_⟩;rintro i m σ H ⟨rfl,hi,p⟩;by_cases hlt:i < n
 ·refine .inr ⟨hlt,Pv (i+1),fun σ' H' p'=>⟨n - (i+1),by lia,rfl,hlt,p'⟩,fun v H' y=>?_⟩;obtain ⟨e,rfl⟩:=y;subst e;exact hs i σ _ hlt p
 ·have e:i=n:=by lia
  subst e;exact .inl ⟨rfl,hd σ H p⟩
end
end L2
namespace L2
open PySem PySem.Spec PyProof.Rows
section
variable {X:Cx} {iter:Expr} {ti:TE} {x G:Str} {px px1 px2 cpos pos:Pos} {scope:Scope} {g:Str}
end
structure Tj (K:PySem.W.Frag) (D:Addr):Prop where
 hd:PySem.W.hasDictIn K D=true
 ga:PySem.W.findIn K (.ref D) "__getattribute__" = some (some (.builtin "BaseException.__getattribute__"))
 gt:PySem.W.findIn K (.ref D) "__getattr__" = some none
 cl:PySem.W.findIn K (.ref D) "__class__" = some (some (.builtin "object.__class__"))
 sp:PySem.W.specialIn K (.builtin "object.__class__") "__get__" = some (some (.builtin "getset_descriptor.__get__"))
 tk:PySem.W.takesIn K (.builtin "object.__class__")=some true
 mo:PySem.W.mroIn K D (.type "object")=some true
 mb:PySem.W.mroIn K D (.type "BaseException")=some true
section
variable {K:PySem.W.Frag} {prog:Program} {w:World} {A:Around} {E:Value->Shared->Prop} {s:Shared} {a D:Addr} {o:Obj}
open PySem.W Builtin Builtin.ObjectAttr Builtin.Getset_descriptor
theorem SB {M:Model} {h:Heap} (X:K.In h) (f:Tj K D):Looks M h (find (.ref a) (.ref D) "__class__") (.bind (.builtin "getset_descriptor.__get__") (.builtin "object.__class__")) :=
 (looks_findIn X f.cl).andThen ((looks_specialIn X f.sp).andThen ((show Looks M h (dataDescriptor? (some (.builtin "object.__class__")) (some (.builtin "getset_descriptor.__get__"))) (some (.builtin "getset_descriptor.__get__",.builtin "object.__class__")) from (looks_takesIn X f.tk).andThen .now).andThen (Looks.tag .now)))
theorem exc_get {R:Result->Shared->Prop} {tp:Value} (X:K.In s.heap) (f:Tj K D) (he:s.heap.get? a=some o) (hc:o.cls=.ref D) (hq:R (.ok (.ret (.ref D))) s) :
  codeAny (model prog w) A (.call (.builtin "getset_descriptor.__get__") ⟨[.builtin "object.__class__",.ref a,tp],[]⟩) R s:=by
 obtain ⟨h,g,d,t,os⟩:=s;have L0:Looks (model prog w) h (typeOf (.ref a)) (.ref D):=hc ▸ (Looks.ld he).andThen .now;have L1:=looks_mroIn (M:=model prog w) X f.mo;refine codeAny_call_builtin KF.slot_gs.plain KF.entry_gs (KF.slot_gs.check _ _ _ _ _ _ _ _ KF.type_class (KF.args_gs _ _ _) ?_);unfold Builtin.«getset_descriptor.__get__» descrGet;rw [dga_obj];refine wpAny_bind (wpAny_pure ?_);unfold descrGetter descrCheckInstance descrNameAndClass isInstance;simp only [KF.owner_class]
 repeat lk
 refine ⟨Code.quiet_builtin _ (by decide +kernel),codeAny_builtin KF.entry_class ?_⟩;unfold Builtin.«object.__class__» shownTypeOf
 repeat lk
 exact hq
theorem QT {Q:Option Value->Shared->Prop} (X:K.In s.heap) (f:Tj K D) (he:s.heap.get? a=some o) (hc:o.cls=.ref D) (hq:Q (some (.ref D)) { s with toks:=s.toks+1 }) :
  wpAny (model prog w) A (getAttr? (.ref a) "__class__") Q E s:=by
 obtain ⟨h,g,d,t,os⟩:=s;have L0:Looks (model prog w) h (typeOf (.ref a)) (.ref D):=hc ▸ (Looks.ld he).andThen .now;have L1:=looks_findIn (M:=model prog w) X f.ga;have L2:=looks_findIn (M:=model prog w) X f.gt;have L3:=SB (M:=model prog w) (a:=a) X f;have L4:Looks (model prog w) h (isInstance (.ref a) (.type "BaseException")) true:=L0.andThen (looks_mroIn X f.mb);unfold getAttr? getAttrBy? getAttrBy;refine wpAny_bind (wpAny_mkText (wpAny_bind (wpAny_attempt (wpAny_holding (wpAny_bind (L0.at (wpAny_bind (L1.at ?_))))))));dsimp only;have n0:(Value.builtin "BaseException.__getattribute__" == Value.builtin "object.__getattribute__")=false:=by decide +kernel
 rw [if_neg (by rw [n0,Bool.and_false]; exact Bool.false_ne_true)];unfold getAttrByItsOwn hookBefore;rw [if_pos (by rfl)];refine wpAny_bind (L2.at ?_);refine wpAny_bind (wpAny_attempt (wpAny_holding ?_));unfold callGetattribute;rw [if_neg (by decide)];unfold boundAndCalled;refine wpAny_bind (wpAny_of_eq (PySem.F.excAttr_ValueError.ga.bind (.ref a)) ?_);dsimp only;refine wpAny_call (codeAny_call_builtin PySem.F.excAttr_ValueError.ga.plain PySem.F.entry_bexc_ga ?_);have hk:builtinKind "BaseException.__getattribute__" = some .slot:=by decide +kernel
 have hsp:splitId "BaseException.__getattribute__" = some ("BaseException","__getattribute__"):=by decide +kernel
 have har:=PySem.F.args_bexc_ga (.ref a) (.str "__class__" t);simp only [checkBuiltinCall,hk,hsp];refine wpAny_bind (L4.at ?_);rw [if_neg (by decide)];refine wpAny_of_eq (a:=()) har ?_;unfold Builtin.«object.__getattribute__»;dsimp only at L3
 repeat ((fail_if_success (with_reducible show wpAny _ _ (call _ _) _ _ _)); lk)
 refine wpAny_call (exc_get (s:=⟨h,g,d,t+1,os⟩) X f he hc ?_);dsimp only
 repeat lk
 exact hq
end
end L2
namespace L2
open PySem PySem.Spec PyProof.Rows
inductive TyX (K:PySem.W.Frag) (H:Hp):V->Value->Prop where
 | of {x:V} {t:Value} (h:Je K H x t):TyX K H x t
 | exc {a D:Addr} (e:H a=some (isExc a D)) (f:Tj K D):TyX K H (.ref a) (.ref D)
theorem Sk {K:PySem.W.Frag} {a D:Addr} (f:Tj K D):PySem.W.KitX K (.ref a) (.ref D) (fun h=>∃ o,h.get? a=some o/\o.cls=.ref D/\PySem.W.notCls o=true) where
 ty:=fun M h X ⟨o,e,c,_⟩=>c ▸ (PySem.W.Looks.ld e).andThen .now
 it:=fun M h X _=>by
  obtain ⟨cd,hc,_⟩:=PySem.W.any_some f.hd;unfold PySem.W.clsIn at hc;split at hc
  ·rename_i c' d' cd' sl' ho;intro A' Q' E' s' k q;unfold isType loadHead;exact wpAny_bind (wpAny_loadPart (k _ _ (X _ _ ho)) (wpAny_pure q))
  ·cases hc
 ne:=fun h tp dd its n sl X htp=>by
  obtain ⟨cd,hc,_⟩:=PySem.W.any_some f.hd;refine Bool.eq_false_iff.mpr fun q=>?_;have e:D=tp:=Value.ref.inj (beq_iff_eq.mp q);subst e;unfold PySem.W.clsIn at hc;split at hc
  ·rename_i c' d' cd' sl' ho;have z:=(X _ _ ho).symm.trans htp;cases z
  ·cases hc
 ca:=fun X ⟨o,e,c,_⟩ k=>QT X f e c k
def clsV:V->Option Value
 | .ty n=>some (.type n)
 | .ref C=>some (.ref C)
 | _=>none
theorem FT {X:Cx}:GN X (.builtin "isinstance") (fun xs H Q=>∃ x c cv t b,xs=[x,c]/\clsV c=some cv/\TyX X.K H x t/\PySem.W.kitOne X.K t cv=some b/\Q (.bl b) H):=by
 intro pins s σ H xs us Q I r h;obtain ⟨x,c,cv,t,b,rfl,hc,ty,hk,q⟩:=h;cases r with
 | @cons _ u _ _ rx rr =>
  cases rr with
  | @cons _ v _ _ rc rn =>
   cases rn;have ev:v=cv:=by
    cases c with
    | ty n=>cases hc; exact rc
    | ref C=>cases hc; exact rc
    | _=>cases hc
   subst ev;cases ty with
   | of ty=>exact QN I rx ty hk fun tk=>⟨.bl b,H,I.tok tk,rfl,q⟩
   | @exc a D e f =>
    cases (show u=Value.ref a from rx);obtain ⟨p,_,_⟩:=(show Cs X.prog X.w H s.heap a (isExc a D) from I.hok a _ e)
    exact PySem.W.kia_one (Sk f) I.kIn p hk (fun z=>nomatch z) fun tk=>⟨.bl b,H,I.tok tk,rfl,q⟩
section
variable {X:Cx} {c:Expr} {a b:List Stmt} {tc:TT} {t u:TS} {pos:Pos}
end
end L2
namespace L2
open PySem PySem.Spec PyProof.Rows
def FP (env:Env) (a:List (Str×Addr)) (x:Str×NameKind):List (Str×Addr):=if (x.2 == NameKind.free)=true then (x.1,(env.cells.lookup x.1).getD 0) :: a else a
def Pk (env:Env) (l:List (Str×NameKind)):List (Str×Addr):=l.foldl (FP env) []
theorem Pi {α β:Type} {l:List α} {f:α->β->Sem (ForInStep β)} {g:β->α->β} (h:∀ x ∈ l,∀ b,f x b=pure (.yield (g b x))):∀ b,forIn l b f=pure (l.foldl g b):=by
 induction l with
 | nil=>intro b; rfl
 | cons x l ih =>
  intro b;rw [List.forIn_cons,h x List.mem_cons_self,pure_bind];exact ih (fun y hy=>h y (List.mem_cons_of_mem _ hy)) _
theorem Lx {scope:Scope} {env:Env} (h:∀ y ∈ scope.names,y.2=.free->∃ c,env.cells.lookup y.1=some c):closureFor scope env=pure (Pk env scope.names):=by
 simp only [closureFor];rw [Pi (g:=FP env) (fun x hx c=>by
  obtain ⟨n,k⟩:=x;by_cases hk:k=.free
  ·subst hk;obtain ⟨a,ha⟩:=h _ hx rfl;have e:cellOf env n=pure a:=by unfold cellOf; rw [show env.cells.lookup n=some a from ha]
   simp only [FP,beq_self_eq_true,if_true,e,show env.cells.lookup n=some a from ha,Option.getD_some];rfl
  ·have hb:(k == NameKind.free)=false:=by simpa using hk
   simp only [FP,hb,Bool.false_eq_true,if_false])]
 rfl
theorem Mm (env:Env) {y:Str} {c:Addr}:∀ (l:List (Str×NameKind)) (a:List (Str×Addr)),(l.foldl (FP env) a).lookup y=some c->a.lookup y=some c\/((y,NameKind.free) ∈ l/\c=(env.cells.lookup y).getD 0)
 | [],a,h=>.inl h
 | (n,k) :: r,a,h=>by
  rw [List.foldl_cons] at h;rcases Mm env r _ h with z | ⟨z,e⟩
  ·unfold FP at z;split at z
   ·rename_i hk;have hk':k=.free:=by simpa using hk
    rw [List.lookup_cons] at z;split at z
    ·rename_i hy;have hy':y=n:=by simpa using hy
     subst hy' hk';exact .inr ⟨List.mem_cons_self,(Option.some.inj z).symm⟩
    ·exact .inl z
   ·exact .inl z
  ·exact .inr ⟨List.mem_cons_of_mem _ z,e⟩
theorem Om (env:Env) {y:Str}:∀ (l:List (Str×NameKind)) (a:List (Str×Addr)),(∃ c,a.lookup y=some c)->∃ c,(l.foldl (FP env) a).lookup y=some c
 | [],_,h=>h
 | (n,k) :: r,a,h=>by
  rw [List.foldl_cons];refine Om env r _ ?_;unfold FP;split
  ·rw [List.lookup_cons];split
   ·exact ⟨_,rfl⟩
   ·exact h
  ·exact h
theorem Pj (env:Env) {y:Str}:∀ (l:List (Str×NameKind)) (a:List (Str×Addr)),(y,NameKind.free) ∈ l->∃ c,(l.foldl (FP env) a).lookup y=some c
 | [],_,h=>by simp at h
 | (n,k) :: r,a,h=>by
  rw [List.foldl_cons];rcases List.mem_cons.mp h with e | h
  ·cases e;refine Om env r _ ⟨(env.cells.lookup y).getD 0,?_⟩;unfold FP;simp only [beq_self_eq_true,if_true,List.lookup_cons]
  ·exact Pj env r _ h
theorem JT {env:Env} {y:Str}:∀ {names:List (Str×NameKind)},(∀ z ∈ names,z.2≠.cell) ->
  ((names.map fun (n,k)=>if (k == NameKind.free && env.scope.kind == .function && env.kindOf n == some .cell) then (n,NameKind.cell) else (n,k)).lookup y=some .cell \/
   (names.map fun (n,k)=>if (k == NameKind.free && env.scope.kind == .function && env.kindOf n == some .cell) then (n,NameKind.cell) else (n,k)).lookup y=some .free)->(y,NameKind.free) ∈ names
 | [],_,h=>by simp at h
 | (n,k) :: r,hc,h=>by
  have ih:=@JT env y r (fun z hz=>hc z (List.mem_cons_of_mem _ hz));have h':List.lookup y ((if (k == NameKind.free && env.scope.kind == .function && env.kindOf n == some .cell)=true then (n,NameKind.cell) else (n,k)) :: (r.map fun (n,k)=>if (k == NameKind.free && env.scope.kind == .function && env.kindOf n == some .cell) then (n,NameKind.cell) else (n,k)))=some .cell \/
   List.lookup y ((if (k == NameKind.free && env.scope.kind == .function && env.kindOf n == some .cell)=true then (n,NameKind.cell) else (n,k)) :: (r.map fun (n,k)=>if (k == NameKind.free && env.scope.kind == .function && env.kindOf n == some .cell) then (n,NameKind.cell) else (n,k)))=some .free:=h
  clear h;by_cases hb:(k == NameKind.free && env.scope.kind == .function && env.kindOf n == some .cell)=true
  ·rw [if_pos hb] at h';have hk:k=.free:=by
    simp only [Bool.and_eq_true,beq_iff_eq] at hb;exact hb.1.1
   simp only [List.lookup_cons] at h';cases hy:y == n with
   | true =>
    have:y=n:=by simpa using hy
    subst this hk;exact List.mem_cons_self
   | false =>
    rw [hy] at h';exact List.mem_cons_of_mem _ (ih h')
  ·rw [if_neg hb] at h';simp only [List.lookup_cons] at h';cases hy:y == n with
   | true =>
    rw [hy] at h';have:y=n:=by simpa using hy
    subst this;rcases h' with z | z
    ·exact absurd (Option.some.inj z) (hc (y,k) List.mem_cons_self)
    ·cases Option.some.inj z;exact List.mem_cons_self
   | false =>
    rw [hy] at h';exact List.mem_cons_of_mem _ (ih h')
theorem Iq {env:Env} {y:Str}:∀ {names:List (Str×NameKind)},names.lookup y=some .free ->
  ((names.map fun (n,k)=>if (k == NameKind.free && env.scope.kind == .function && env.kindOf n == some .cell) then (n,NameKind.cell) else (n,k)).lookup y=some .cell \/
   (names.map fun (n,k)=>if (k == NameKind.free && env.scope.kind == .function && env.kindOf n == some .cell) then (n,NameKind.cell) else (n,k)).lookup y=some .free)
 | [],h=>by simp at h
 | (n,k) :: r,h=>by
  have ih:=@Iq env y r;show List.lookup y ((if (k == NameKind.free && env.scope.kind == .function && env.kindOf n == some .cell)=true then (n,NameKind.cell) else (n,k)) :: (r.map fun (n,k)=>if (k == NameKind.free && env.scope.kind == .function && env.kindOf n == some .cell) then (n,NameKind.cell) else (n,k)))=some .cell \/
   List.lookup y ((if (k == NameKind.free && env.scope.kind == .function && env.kindOf n == some .cell)=true then (n,NameKind.cell) else (n,k)) :: (r.map fun (n,k)=>if (k == NameKind.free && env.scope.kind == .function && env.kindOf n == some .cell) then (n,NameKind.cell) else (n,k)))=some .free
  rw [List.lookup_cons] at h;by_cases hb:(k == NameKind.free && env.scope.kind == .function && env.kindOf n == some .cell)=true
  ·rw [if_pos hb];simp only [List.lookup_cons];cases hy:y == n with
   | true=>exact .inl rfl
   | false=>rw [hy] at h; exact ih h
  ·rw [if_neg hb];simp only [List.lookup_cons];cases hy:y == n with
   | true=>rw [hy] at h; exact .inr h
   | false=>rw [hy] at h; exact ih h
section
variable {prog:Program} {w:World} {A:Around} {R:Result->Shared->Prop} {s:Shared}
abbrev Pq (ifs:List Expr) (env:Env):Sem Bool:=forIn ifs true fun c r=>if r=true then do let ok <-isTrue c env (eval c env); pure (ForInStep.yield ok) else pure (ForInStep.yield r)
theorem Og {elt target iter:Expr} {ifs:List Expr} {scope:Scope} {pos:Pos} {it acc:Value} {env:Env} (I:Nat->Shared->Prop)
  (turn:∀ n s,I n s->wpAny (model prog w) A (pyNext it) (fun r s₁=>match r with
   | none=>R (.ok .next) s₁
   | some v=>wpAny (model prog w) A (letOwnedTupleGo target it v) (fun _ s₀=>wpAny (model prog w) A (assign target env v) (fun _ s₂ =>
     wpAny (model prog w) A (Pq ifs env) (fun ok s₃ =>
      if ok=true then wpAny (model prog w) A (eval elt env) (fun x s₄ =>
       wpAny (model prog w) A (call (.builtin "list.append") [acc,x]) (fun _ s₅=>∃ m,m < n/\I m s₅) (fun _ _=>False) s₄) (fun _ _=>False) s₃
      else ∃ m,m < n/\I m s₃) (fun _ _=>False) s₂) (fun _ _=>False) s₀) (fun _ _=>False) s₁) (fun _ _=>False) s)
  (n:Nat) (h:I n s):codeAny (model prog w) A (.compLoop (.ListComp elt [⟨target,iter,ifs,0⟩] scope pos) 0 it acc env) R s:=by
 refine codeAny_loop rfl I (fun n s hI=>?_) n h;show wpAny _ A ((compTurn (.ListComp elt [⟨target,iter,ifs,0⟩] scope pos) 0 it acc env).onRaise (fun x=>do noteFrame x env; theTreesLotGoes x)) _ _ s;refine wpAny_noted ?_;rw [compTurn_list];refine wpAny_bind (wpAny_standAt (wpAny_bind (wpAny_mono (turn n s hI) (fun r s₁ h₁=>?_) fun _ _ h'=>h'.elim)));cases r with
 | none=>exact wpAny_pure h₁
 | some v =>
  refine wpAny_bind (wpAny_mono h₁ (fun _ s₀ h₀=>?_) fun _ _ h'=>h'.elim);refine wpAny_bind (wpAny_mono h₀ (fun _ s₂ h₂=>wpAny_bind (wpAny_mono h₂ (fun ok s₃ h₃=>?_) fun _ _ h'=>h'.elim)) fun _ _ h'=>h'.elim);cases ok with
  | false=>exact wpAny_pure ⟨rfl,h₃⟩
  | true =>
   exact wpAny_bind (wpAny_bind (wpAny_mono h₃ (fun x s₄ h₄=>wpAny_bind (wpAny_mono h₄ (fun _ s₅ h₅=>wpAny_pure (wpAny_pure ⟨rfl,h₅⟩)) fun _ _ h'=>h'.elim)) fun _ _ h'=>h'.elim))
end
def Jt (cs:List Nat) (σ:St):St:=cs.map fun j=>(σ[j]?).getD none
def cxC (X:Cx) (scope:Scope) (N:List Str) (s:Shared) (H:Hp) (ex:List Addr):Cx :=
 { X with N:=N,s₀:=s,H₀:=H,env:=compEnvC scope (Pk X.env scope.names) s.heap.objs.size X.env,outer:=X.stack,stack:=X.stack,ex:=ex,fn:=fun _=>false,pn:=[],xe:=fun _ _=>False }
def PTs (X:Cx) (ifs:List Expr) (t:TT):Prop :=
 ∀ (pins:List (Addr×Obj)) (s:Shared) (σ:St) (H:Hp) (Q:Bool->Hp->Prop),Inv X pins σ H s->t σ H Q->wpAny (model X.prog X.w) X.A (Pq ifs X.env) (TP X pins σ Q) X.xe s
def tYes:TT:=fun _ H Q=>Q true H
theorem BH {X:Cx}:PTs X [] tYes:=fun _ _ _ H _ I h=>wpAny_tests_nil ⟨H,I,h⟩
theorem PK {X:Cx} {c:Expr} {t:TT} (h:PT X c t):PTs X [c] t:=fun pins s σ H Q I q=>wpAny_tests_one (h pins s σ H Q I q)
structure Bn (X:Cx) (scope:Scope) (N:List Str) (k:Nat) (cs:List Nat):Prop where
 cell:∀ y ∈ scope.names,y.2≠.cell
 kind:scope.kind=.function
 names:∀ y ∈ scope.names,y.2=.local->scope.names.lookup y.1=some .local
 free:∀ y ∈ scope.names,y.2=.free->X.env.scope.names.lookup y.1=some .cell\/X.env.scope.names.lookup y.1=some .free
 len:N.length=k+cs.length
 cap:∀ j,j < cs.length->∃ x,N[k+j]?=some x/\X.N[cs.getD j 0]?=some x/\scope.names.lookup x=some .free
def FU (k:Nat) (cs:List Nat) (g:TG) (tc:TT) (te:TE) (J:It) (σ:St) (H1:Hp) (fin:List V->Hp->Prop):Prop :=
 ∃ W:Nat->Nat->List V->Hp->Prop,(∃ m,W 0 m [] H1)/\∀ i m acc H,W i m acc H ->
  (J.stop i H/\fin acc H)\/(J.go i H/\∃ Nx:List V->Hp->Prop,(∀ acc' H',Nx acc' H'->∃ m',m' < m/\W (i+1) m' acc' H')/\∀ x H',J.yld i H x H'->g x (List.replicate k none ++ Jt cs σ) H' fun σ2 H2=>(∃ ts:St,ts.length=k/\σ2=ts ++ Jt cs σ)/\acc.length < sizeLine /\
   tc σ2 H2 fun b H3=>if b=true then te σ2 H3 fun v H4=>Nx (acc ++ [v]) H4 else Nx acc H3)
def tComp (k:Nat) (cs:List Nat) (wi:TI) (g:TG) (tc:TT) (te:TE):TE:=fun σ H Q=>wi σ H fun J H1=>FU k cs g tc te J σ H1 fun acc H2=>∀ p,H2 p=none->Q (.ref p) (upd H2 p (.lst acc))
section
variable {X:Cx} {tg iter elt:Expr} {ifs:List Expr} {scope:Scope} {pos:Pos} {wi:TI} {g:TG} {tc:TT} {te:TE} {N:List Str} {k:Nat} {cs:List Nat}
theorem Inv.block {pins:List (Addr×Obj)} {σ:St} {H:Hp} {s s':Shared} {ex:List Addr} (hc:X.calm=true) (S:Bn X scope N k cs) (I:Inv X pins σ H s)
  (hex:∀ b ∈ ex,Go X pins H b/\∃ o,s.heap.get? b=some o) (hos:s'.os=s.os) (hg:AllBare s'.gens) (hk:∀ b o,s.heap.get? b=some o->s'.heap.get? b=some o) (hn:∃ m,s'.heap.Ns s.heap.objs.size m) :
  Inv (cxC X scope N s H ex) [] (List.replicate k none ++ Jt cs σ) H s':=by
 have lk:∀ {x c},(Pk X.env scope.names).lookup x=some c->X.env.cells.lookup x=some c:=fun {x c} h=>by
  rcases Mm X.env _ _ h with z | ⟨z,e⟩
  ·simp at z
  ·obtain ⟨a,ha⟩:=I.ok.has x (S.free _ z rfl);rw [e,ha]; rfl
 have nex:∀ b,b ∈ ex->b≠s.heap.objs.size:=fun b hb z=>by
  obtain ⟨_,o,ho⟩:=hex b hb;exact absurd (Heap.lt_size ho) (by rw [z]; exact Nat.lt_irrefl _)
 refine ⟨⟨I.ok.mod,S.kind,I.ok.glob,I.ok.blt,Nat.le_refl _,fun x y c h1 h2=>I.ok.inj x y c (lk h1) (lk h2),fun x hx=>?_,fun x c h _=>(nomatch h),I.ok.hd,I.ok.frames,.inl rfl,fun b hb=>⟨nex b hb,fun x c h=>?_⟩,I.bs,?_,fun b o e hb=>?_,fun b hb hf=>?_,I.stack,I.stkFree⟩,
  hos,hg,Un.kept hk,?_,fun x c h=>?_,I.hok.fresh (Nat.le_refl _),fun x c h=>I.freeC x c (lk h),fun p hp=>absurd (show p ∈ ([]:List (Addr×Obj)) from hp) (by simp),I.hok.kept hk,?_⟩
 ·exact Pj X.env _ _ (JT S.cell hx)
 ·exact (hex b hb).1.2.2.2.2.1 x c (lk h)
 ·exact Nat.le_trans I.ok.bsz I.sz
 ·rcases (hex b hb).1.2.2.2.1 with z | z
  ·exact I.ok.noex b o e z
  ·exact absurd (Nat.lt_of_lt_of_le (Heap.lt_size e) (Nat.le_trans I.ok.bsz z)) (Nat.lt_irrefl _)
 ·rcases List.mem_cons.mp (I.stkSub b hf) with z | z
  ·exact (hex b hb).1.2.1 z
  ·exact (hex b hb).1.2.2.1 z
 ·obtain ⟨m,hm⟩:=hn;obtain ⟨mo,hmo,hlo⟩:=I.loc;refine ⟨m,hm,fun i x v h1 h2 h3=>?_⟩;have hi:k<=i:=by
   by_cases z:i < k
   ·rw [List.getElem?_append_left (by simpa using z),List.getElem?_replicate,if_pos z] at h2;cases h2
   ·lia
  obtain ⟨j,rfl⟩:∃ j,i=k+j:=⟨i - k,by lia⟩
  rw [List.getElem?_append_right (by simp),List.length_replicate,Nat.add_sub_cancel_left] at h2;unfold Jt at h2;rw [List.getElem?_map] at h2;have hj:j < cs.length:=by
   by_cases z:j < cs.length
   ·exact z
   ·rw [List.getElem?_eq_none (by lia)] at h2;cases h2
  obtain ⟨x',e1,e2,e3⟩:=S.cap j hj;rw [show N[k+j]?=some x from h1] at e1;cases e1;rw [List.getElem?_eq_getElem hj] at h2;have h2':(σ[cs[j]]?).getD none=some v:=Option.some.inj h2;rw [List.getD_eq_getElem?_getD,List.getElem?_eq_getElem hj] at e2;have h4:σ[cs[j]]?=some (some v):=by
   cases q:σ[cs[j]]? with
   | none=>rw [q] at h2'; cases h2'
   | some w=>rw [q] at h2'; rw [show w=some v from h2']
  have kO:=S.free (x,.free) (PySem.mem_of_lookup e3) rfl;obtain ⟨u,ru,l⟩:=hlo _ x v e2 h4 (.inr kO);refine ⟨u,ru,?_⟩;rcases l with ⟨z,_⟩ | ⟨_,c,hc',z⟩
  ·have z':X.env.scope.names.lookup x=some .local:=z;rcases kO with q | q<;>· rw [z'] at q; cases q
  ·obtain ⟨c',h5⟩:=Pj X.env _ [] (PySem.mem_of_lookup e3);have h6:=lk h5;rw [hc'] at h6;cases h6;obtain ⟨o,ho,hd⟩:=z;exact .inr ⟨Iq e3,c,h5,o,hk _ _ ho,hd⟩
 ·obtain ⟨v,o,ho,hd⟩:=I.cell x c (lk h);exact ⟨v,o,hk _ _ ho,hd⟩
 ·show (List.replicate k none ++ Jt cs σ).length=N.length;rw [List.length_append,List.length_replicate,S.len];unfold Jt;rw [List.length_map]
end
end L2
namespace L2
open PySem PySem.Spec PyProof.Rows
section
variable {X:Cx} {tg iter elt:Expr} {ifs:List Expr} {scope:Scope} {pos:Pos} {wi:TI} {g:TG} {tc:TT} {te:TE} {N:List Str} {k:Nat} {cs:List Nat} {fin:List V->Hp->Prop}
theorem QY {pins:List (Addr×Obj)} {σ:St} {H2:Hp} {sD s1:Shared} {it D:Addr} {fp:List Addr} {tn:Nat->Heap->Prop} {J:It} {n0:Nat} {RR:Result->Shared->Prop} (hc:X.calm=true) (S:Bn X scope N k cs)
  (hg:∀ s H ex,PG (cxC X scope N s H ex) tg g) (ht:∀ s H ex,PTs (cxC X scope N s H ex) ifs tc) (he:∀ s H ex,PE (cxC X scope N s H ex) elt te)
  (ID:Inv X pins σ H2 sD) (hD:sD.heap.get? D=some { cls:=.type "list",data:=.seq ([]:List Value).toArray n0 }) (hD0:X.s₀.heap.objs.size<=D) (fD:Go X pins H2 D) (nfp:D ∉ fp)
  (T:LO X.prog X.w X.K tg J fp it tn) (st:tn 0 sD.heap) (f2:∀ b ∈ fp,Go X pins H2 b) (hb:FU k cs g tc te J σ H2 fin)
  (hos:s1.os=sD.os) (hgn:AllBare s1.gens) (hk:∀ b o,sD.heap.get? b=some o->s1.heap.get? b=some o) (hn:∃ m,s1.heap.Ns sD.heap.objs.size m)
  (hRR:∀ (H':Hp) (acc:List V) (s4:Shared),fin acc H'->H' D=none->Inv X pins σ (upd H' D (.lst acc)) s4->(∃ m,s4.heap.Ns sD.heap.objs.size m)->Go X pins (upd H' D (.lst acc)) sD.heap.objs.size->RR (.ok .next) s4) :
  codeAny (model X.prog X.w) X.A (.compLoop (.ListComp elt [⟨tg,iter,ifs,0⟩] scope pos) 0 (.ref it) (.ref D) (compEnvC scope (Pk X.env scope.names) sD.heap.objs.size X.env)) RR s1:=by
 obtain ⟨W,⟨m0,w0⟩,turn⟩:=hb;have hobj:∀ b,b ∈ D :: fp->∃ o,sD.heap.get? b=some o:=fun b hb=>by
  rcases List.mem_cons.mp hb with rfl | z
  ·exact ⟨_,hD⟩
  ·obtain ⟨o,e,_⟩:=T.obj _ _ st b z;exact ⟨o,e⟩
 have hexx:∀ b ∈ D :: fp,Go X pins H2 b/\∃ o,sD.heap.get? b=some o:=fun b hb=>⟨by
  rcases List.mem_cons.mp hb with rfl | z
  ·exact fD
  ·exact f2 b z,hobj b hb⟩
 have neC:∀ b,b ∈ D :: fp->b≠sD.heap.objs.size:=fun b hb z=>by
  obtain ⟨o,e⟩:=hobj b hb;exact absurd (Heap.lt_size e) (by rw [z]; exact Nat.lt_irrefl _)
 have nfr:∀ b,b ∈ D :: fp->b ∉ frs X.stack:=fun b hb hf=>by
  rcases List.mem_cons.mp (ID.stkSub b hf) with z | z
  ·exact (hexx b hb).1.2.1 z
  ·exact (hexx b hb).1.2.2.1 z
 have I0:=ID.block hc S hexx hos hgn hk hn;have I0ok:=I0.ok;have cells:∀ b,b ∈ D :: fp->∀ x c,(Pk X.env scope.names).lookup x=some c->c≠b:=fun b hb x c h=>(I0ok.exf b hb).2 x c h;have fpok:∀ {H':Hp} {pl:List (Addr×Obj)},(∀ b ∈ fp,H' b=none)->(∀ p ∈ pl,p.1=D)->∀ b ∈ fp,Go (cxC X scope N sD H2 (D :: fp)) pl H' b:=fun hn hp b hb =>
  ⟨hn b hb,neC b (.tail _ hb),nfr b (.tail _ hb),.inl (.tail _ hb),cells b (.tail _ hb),fun p hp' z=>nfp (by
   have:=hp p hp';rw [<-this,z]; exact hb)⟩
 refine Og (fun n s'=>∃ (i:Nat) (acc:List V) (its:List Value) (nn:Nat) (H':Hp),Inv (cxC X scope N sD H2 (D :: fp)) [] (List.replicate k none ++ Jt cs σ) H' s'/\tn i s'.heap/\(∀ b ∈ fp,H' b=none)/\H' D=none/\acc.length<=sizeLine/\AS acc its /\
  s'.heap.get? D=some { cls:=.type "list",data:=.seq its.toArray nn }/\W i n acc H') ?_ m0
  ⟨0,[],[],n0,H2,I0,T.keep _ _ _ st (fun b _ o e=>hk b o e),fun b hb=>(f2 b hb).1,fD.1,Nat.zero_le _,.nil,hk _ _ hD,w0⟩
 rintro n s3 ⟨i,acc,its,nn,H3,I3,st3,fr3,nD3,hl3,v3,e3,w3⟩;have I3p:Inv (cxC X scope N sD H2 (D :: fp)) [(D,{ cls:=.type "list",data:=.seq its.toArray nn })] (List.replicate k none ++ Jt cs σ) H3 s3:=I3.pins_of fun p hp=>by
  rw [List.mem_singleton] at hp;subst hp;exact ⟨e3,nD3,neC D (.head _),nfr D (.head _),fun v z=>by cases z⟩
 have one:∀ p ∈ [((D,{ cls:=.type "list",data:=.seq its.toArray nn }):Addr×Obj)],p.1=D:=fun p hp=>by
  rw [List.mem_singleton] at hp;subst hp;rfl
 rcases turn i n acc H3 w3 with ⟨stop,qf⟩ | ⟨go,Nx,hNx,step⟩
 ·refine thn (T.done (cxC X scope N sD H2 (D :: fp)) rfl rfl rfl hc i _ s3 _ H3 _ I3p (fpok fr3 one) st3 stop) fun r s4 ⟨hr,I4⟩=>?_;subst hr;have IX:Inv X pins σ H3 s4:=ID.call' (ch:=D :: fp) I4.os I4.base I4.hok I4.bare fun b hb=>⟨(hexx b hb).1.2.2.2.1,(hexx b hb).1.2.1,(hexx b hb).1.2.2.2.2.1,(hexx b hb).1.2.2.2.2.2⟩
  have p4:=(I4.pin (D,{ cls:=.type "list",data:=.seq its.toArray nn }) (by show _ ∈ [] ++ [_]; simp)).1;have IY:Inv X pins σ (upd H3 D (.lst acc)) s4:=by
   refine IX.track nD3 (Heap.get?_none_of_le hD0) (Heap.get?_none_of_le (Nat.le_trans ID.ok.bsz hD0)) (Ne.symm fD.2.1) fD.2.2.2.2.1 fD.2.2.2.2.2 (fun b hb z=>fD.2.2.1 (z ▸ hb)) ?_;exact ⟨hl3,its,nn,v3,p4⟩
  refine hRR H3 acc s4 qf nD3 IY ?_ (ID.fpOk (Nat.le_refl _) ?_)
  ·obtain ⟨m,hm,_⟩:=I4.loc;exact ⟨m,hm⟩
  ·rw [As (Ne.symm (neC D (.head _)))];exact I4.free
 ·refine thn (T.item (cxC X scope N sD H2 (D :: fp)) rfl rfl rfl hc i _ s3 _ H3 (fun _ _=>False) I3p (fpok fr3 one) st3 go) fun r s4 ⟨u,hr,h4⟩=>?_;subst hr;refine thn h4 fun _ s5 ⟨x,H5,I5,r5,y5,st5,fr5⟩=>?_;have I5':=I5.pinned (fpok fr5 one) (T.obj _ _ st5);refine thn (hg sD H2 (D :: fp) _ s5 _ H5 x u _ I5' r5 (step x H5 y5)) fun _ s6 ⟨σ6,H6,I6,⟨ts,tl,eσ⟩,hz6,q6⟩=>?_;refine thn (ht sD H2 (D :: fp) _ s6 σ6 H6 _ I6 q6) fun b s7 ⟨H7,I7,q7⟩=>?_;have weak:∀ {pl:List (Addr×Obj)} {H':Hp} {s':Shared},Inv (cxC X scope N sD H2 (D :: fp)) pl σ6 H' s'->Inv (cxC X scope N sD H2 (D :: fp)) [] (List.replicate k none ++ Jt cs σ) H' s':=fun {pl H' s'} J=>by
   refine (J.weak (σ':=List.replicate k none ++ Jt cs σ) ?_ fun j v e=>?_).pins_of fun p hp=>absurd hp (by simp)
   ·rw [eσ,List.length_append,List.length_append,List.length_replicate,tl]
   ·by_cases z:j < k
    ·rw [List.getElem?_append_left (by simpa using z),List.getElem?_replicate,if_pos z] at e;cases e
    ·rw [List.getElem?_append_right (by rw [List.length_replicate]; lia),List.length_replicate] at e;rw [eσ,List.getElem?_append_right (by lia),tl];exact e
  have later:∀ {pl:List (Addr×Obj)} {σ':St} {H':Hp} {s':Shared},Inv (cxC X scope N sD H2 (D :: fp)) (pl ++ IP fp s5.heap) σ' H' s'->tn (i+1) s'.heap/\∀ b ∈ fp,H' b=none:=fun {pl σ' H' s'} J =>
   ⟨T.keep _ _ _ st5 fun b hb o e=>(J.pin (b,o) (List.mem_append_right _ (List.mem_append_right _ (Gb hb e)))).1,fun b hb=>by
    obtain ⟨o,e,_⟩:=T.obj _ _ st5 b hb;exact (J.pin (b,o) (List.mem_append_right _ (List.mem_append_right _ (Gb hb e)))).2.1⟩
  cases b with
  | false =>
   have q7':Nx acc H7:=by simpa using q7
   obtain ⟨m',hm,w7⟩:=hNx _ _ q7';rw [if_neg Bool.false_ne_true];have p7:=I7.pin (D,{ cls:=.type "list",data:=.seq its.toArray nn }) (List.mem_append_right _ (List.mem_append_left _ (List.mem_singleton.mpr rfl)));exact ⟨m',hm,i+1,acc,its,nn,H7,weak I7,(later I7).1,(later I7).2,p7.2.1,hl3,v3,p7.1,w7⟩
  | true =>
   rw [if_pos rfl] at q7;rw [if_pos rfl];refine thn (he sD H2 (D :: fp) _ s7 σ6 H7 _ I7 q7) fun y s8 ⟨v,H8,I8,r8,q8⟩=>?_;obtain ⟨m',hm,w8⟩:=hNx _ _ q8;have p8:=I8.pin (D,{ cls:=.type "list",data:=.seq its.toArray nn }) (List.mem_append_right _ (List.mem_append_left _ (List.mem_singleton.mpr rfl)));have hlen:=v3.length;refine call_meets F.slot_list_append ⟨_,p8.1,rfl⟩ F.entry_list_append (F.args_list_append_2 _ _) (PySem.list_append D its.toArray nn y (by rw [List.size_toArray]; lia)) ⟨p8.1,?_⟩;have q:=PySem.IsL.update p8.1 (·.push y);have eq:its.toArray.push y=(its ++ [y]).toArray:=by simp
   dsimp only at q;rw [eq] at q;have I8':Inv (cxC X scope N sD H2 (D :: fp)) ([] ++ IP fp s5.heap) σ6 H8 s8:=I8.pins_of fun p hp=>I8.pin p (List.mem_append_right _ (List.mem_append_right _ hp));have I9:=I8'.turned (t':=s8.toks) (it:=D) (h':=s8.heap.update D (Obj.mapSeq (·.push y))) (fun b o hb e=>(Heap.get?_update_other s8.heap (Obj.mapSeq (·.push y)) (Ne.symm hb)).trans e) p8.2.1 (neC D (.head _)) (.inl (.head _)) (cells D (.head _))
    (fun p hp z=>nfp (by
     have:=(LX (fp:=fp) (h:=s5.heap) (p:=p) (by simpa [cxC] using hp)).1;rw [z] at this;exact this))
   refine ⟨m',hm,i+1,acc ++ [v],its ++ [y],_,H8,weak I9,(later I9).1,(later I9).2,p8.2.1,?_,v3.append (.cons r8 .nil),q,w8⟩;rw [List.length_append,List.length_singleton];lia
theorem Lw {pins:List (Addr×Obj)} {σ:St} {H2:Hp} {s2:Shared} {it:Addr} {fp:List Addr} {tn:Nat->Heap->Prop} {J:It} {RR:Value->Addr->Result->Shared->Prop} {E:Value->Shared->Prop} (hc:X.calm=true) (S:Bn X scope N k cs)
  (hg:∀ s H ex,PG (cxC X scope N s H ex) tg g) (ht:∀ s H ex,PTs (cxC X scope N s H ex) ifs tc) (he:∀ s H ex,PE (cxC X scope N s H ex) elt te)
  (I2:Inv X pins σ H2 s2) (T:LO X.prog X.w X.K tg J fp it tn) (st:tn 0 s2.heap) (f2:∀ b ∈ fp,Go X pins H2 b) (hb:FU k cs g tc te J σ H2 fin)
  (hRR:∀ (D C:Addr) (H':Hp) (acc:List V) (s4:Shared),fin acc H'->H' D=none->Inv X pins σ (upd H' D (.lst acc)) s4->(∃ m,s4.heap.Ns C m)->Go X pins (upd H' D (.lst acc)) C->RR (.ref D) C (.ok .next) s4) :
  wpAny (model X.prog X.w) X.A (newList []) (fun acc s₃=>wpAny (model X.prog X.w) X.A (newFunctionEnv scope X.env.globals (Pk X.env scope.names) [] X.env.qual none .none (some X.env)) (fun cenv s₄ =>
   codeAny (model X.prog X.w) X.A (.compStart (.ListComp elt [⟨tg,iter,ifs,0⟩] scope pos) 0 (.ref it) acc { cenv with scope:=relabel scope X.env }) (RR acc cenv.locals) s₄) E s₃) E s2:=by
 refine wpAny_newObj_type (wpAny_newFunctionEnv S.cell (by intro y hy; simp at hy) (fun h₁ hns₁ hsb₁=>?_) S.kind);dsimp only at hns₁ hsb₁ ⊢;have keepD:∀ b o,s2.heap.get? b=some o->(s2.heap.push { cls:=.type "list",dict:=none,data:=.seq ([]:List Value).toArray }).get? b=some o:=fun b o e=>Heap.get?_push_of_some _ e;have ID:Inv X pins σ H2 { s2 with heap:=s2.heap.push { cls:=.type "list",dict:=none,data:=.seq ([]:List Value).toArray } }:=I2.kept (t':=s2.toks) keepD;have hD:(s2.heap.push { cls:=.type "list",dict:=none,data:=.seq ([]:List Value).toArray }).get? s2.heap.objs.size=some { cls:=.type "list",data:=.seq ([]:List Value).toArray }:=Heap.get?_push_size _ rfl;have nfp:s2.heap.objs.size ∉ fp:=fun z=>by
  obtain ⟨o,e,_⟩:=T.obj _ _ st _ z;exact absurd (Heap.lt_size e) (Nat.lt_irrefl _)
 have stD:tn 0 (s2.heap.push { cls:=.type "list",dict:=none,data:=.seq ([]:List Value).toArray }):=T.keep _ _ _ st fun b _ o e=>keepD b o e;have hk:∀ b o,(s2.heap.push { cls:=.type "list",dict:=none,data:=.seq ([]:List Value).toArray }).get? b=some o->h₁.get? b=some o:=fun b o e=>hsb₁.extBut b o (Nat.ne_of_lt (Heap.lt_size e)) (Heap.get?_push_of_some _ e);have loop:∀ s₃:Shared,s₃={ s2 with heap:=h₁,toks:=s2.toks+([]:List (Str×Value)).length } ->
   codeAny (model X.prog X.w) X.A (.compLoop (.ListComp elt [⟨tg,iter,ifs,0⟩] scope pos) 0 (.ref it) (.ref s2.heap.objs.size) (compEnvC scope (Pk X.env scope.names) (s2.heap.push { cls:=.type "list",dict:=none,data:=.seq ([]:List Value).toArray }).objs.size X.env))
    (RR (.ref s2.heap.objs.size) (s2.heap.push { cls:=.type "list",dict:=none,data:=.seq ([]:List Value).toArray }).objs.size) s₃:=by
  rintro s₃ rfl;exact QY (sD:={ s2 with heap:=s2.heap.push { cls:=.type "list",dict:=none,data:=.seq ([]:List Value).toArray } }) hc S hg ht he ID hD I2.sz (I2.fpOk (Nat.le_refl _) I2.fresh) nfp T stD f2 hb rfl I2.bare hk ⟨_,hns₁⟩ fun H' acc s4=>hRR _ _ H' acc s4
 exact codeAny_compStart_list (loop _ rfl) (T.self _ 0 _ _ _ (T.keep _ _ _ stD fun b _ o e=>hk b o e) (loop _ rfl))
theorem BT (hc:X.calm=true) (S:Bn X scope N k cs) (hi:PI X tg iter wi) (hg:∀ s H ex,PG (cxC X scope N s H ex) tg g) (ht:∀ s H ex,PTs (cxC X scope N s H ex) ifs tc) (he:∀ s H ex,PE (cxC X scope N s H ex) elt te)
  (hs:∀ x,foldedSetIterable iter X.env x=pure x:=by intro _; rfl):PE X (.ListComp elt [⟨tg,iter,ifs,0⟩] scope pos) (tComp k cs wi g tc te):=by
 intro pins s σ H Q I h;rw [eval_ListComp];refine wpAny_comprehension_free (use:=none) rfl hs (Lx fun y hy hf=>I.ok.has _ (S.free y hy hf)) S.kind S.names (thn (hi pins s σ H _ I h) fun v s1 h1=>thn h1 fun itv s2 h2=>?_);obtain ⟨it,fp,tn,J,H2,rfl,I2,T,st2,f2,hb⟩:=h2;refine Lw (RR:=fun acc C=>compPost (model X.prog X.w) X.A X.xe none (EP X pins σ Q) acc C) hc S hg ht he I2 T st2 f2 hb fun D C H' acc s4 qf nD J4 hn fC=>?_;obtain ⟨m,hm⟩:=hn;refine ⟨m,hm,fun h' sb=>⟨.ref D,upd H' D (.lst acc),?_,rfl,qf D nD⟩⟩;exact J4.turned (t':=s4.toks) (it:=C) (fun b o hb e=>(sb.2 b hb).trans e) fC.1 fC.2.1 fC.2.2.2.1 fC.2.2.2.2.1 fC.2.2.2.2.2
def Ri (i k:Nat) (cs:List Nat) (wi:TI) (g:TG) (tc:TT) (te:TE):TS:=fun D σ H=>wi σ H fun J H1=>FU k cs g tc te J σ H1 fun acc H2=>∀ p,H2 p=none->D.nx (σ.set i (some (.ref p))) (upd H2 p (.lst acc))
theorem Fw {i:Nat} {y:Str} {py spos:Pos} (hc:X.calm=true) (hN:X.N.Nodup) (hi':X.N[i]?=some y) (hy:X.env.scope.names.lookup y=some .local) (S:Bn X scope N k cs) (hi:PI X tg iter wi)
  (hg:∀ s H ex,PG (cxC X scope N s H ex) tg g) (ht:∀ s H ex,PTs (cxC X scope N s H ex) ifs tc) (he:∀ s H ex,PE (cxC X scope N s H ex) elt te)
  (hsw:swapsWith (.ListComp elt [⟨tg,iter,ifs,0⟩] scope pos) (some (.Name y py)) spos.line X.env=pure true:=by rfl) (hs:∀ x,foldedSetIterable iter X.env x=pure x:=by intro _; rfl) :
  PS X (.Assign [.Name y py] (.ListComp elt [⟨tg,iter,ifs,0⟩] scope pos) spos) (Ri i k cs wi g tc te):=by
 intro pins s σ H D I h;rw [exec_Assign_Name_used _ _ _ _ hsw];refine wpAny_bind (wpAny_standAt (wpAny_bind ?_));show wpAny _ X.A (do let _ <-comprehension (.ListComp elt [⟨tg,iter,ifs,0⟩] scope pos) scope X.env _ (newList []) false (eval iter X.env) (some (assign (.Name y py) X.env))) _ _ s;refine wpAny_bind (wpAny_mono (wpAny_comprehension_free (use:=some (assign (.Name y py) X.env)) (Q:=fun _ s'=>SP X pins D .next s') rfl hs (Lx fun y hy hf=>I.ok.has _ (S.free y hy hf)) S.kind S.names
  (thn (hi pins s σ H _ I h) fun v s1 h1=>thn h1 fun itv s2 h2=>?_)) (fun _ s' hq=>wpAny_pure (wpAny_pure hq)) fun _ _ e=>e)
 obtain ⟨it,fp,tn,J,H2,rfl,I2,T,st2,f2,hb⟩:=h2;refine Lw (RR:=fun acc C=>compPost (model X.prog X.w) X.A X.xe (some (assign (.Name y py) X.env)) (fun _ s'=>SP X pins D .next s') acc C) hc S hg ht he I2 T st2 f2 hb fun L C H' acc s4 qf nD J4 hn fC=>?_;obtain ⟨m,hm⟩:=hn;show wpAny _ X.A (assign (.Name y py) X.env (.ref L)) _ _ _;refine wpAny_assign_Name (LT J4 hN hi' (.inl hy) (v:=.ref L) rfl (fun s5 J5 hsb=>?_) (.inr hy));obtain ⟨a,sb,ha⟩:=hsb;have nCa:C≠a:=by
  rcases ha with z | z
  ·rw [z]; exact fC.2.1
  ·exact fun q=>fC.2.2.2.2.1 y a z q.symm
 refine ⟨m,hm.sameBut sb nCa,fun h' sb'=>⟨σ.set i (some (.ref L)),upd H' L (.lst acc),?_,qf L nD⟩⟩;exact J5.turned (t':=s5.toks) (it:=C) (fun b o hb e=>(sb'.2 b hb).trans e) fC.1 fC.2.1 fC.2.2.2.1 fC.2.2.2.2.1 fC.2.2.2.2.2
end
section
variable {K:PySem.W.Frag} {k:Nat} {cs:List Nat} {g:TG} {tc:TT} {te:TE} {σ:St} {H:Hp} {fin:List V->Hp->Prop}
abbrev Bt (k:Nat) (cs:List Nat) (g:TG) (tc:TT) (te:TE) (σ:St) (x:V) (acc:List V) (H:Hp) (Nx:List V->Hp->Prop):Prop :=
 g x (List.replicate k none ++ Jt cs σ) H fun σ2 H2=>(∃ ts:St,ts.length=k/\σ2=ts ++ Jt cs σ)/\acc.length < sizeLine/\tc σ2 H2 fun b H3=>if b=true then te σ2 H3 fun v H4=>Nx (acc ++ [v]) H4 else Nx acc H3
theorem Ck {a:Addr} {xs:List V} (Pv:Nat->List V->Hp->Prop) (h0:Pv 0 [] H) (hl:∀ i acc H,i<=xs.length->Pv i acc H->SqL K H a xs)
  (hs:∀ i x acc H,xs[i]?=some x->Pv i acc H->Bt k cs g tc te σ x acc H (Pv (i+1))) (hd:∀ acc H,Pv xs.length acc H->fin acc H):FU k cs g tc te (Itl K a) σ H fin:=by
 refine ⟨fun i m acc H=>m=xs.length - i/\i<=xs.length/\Pv i acc H,⟨xs.length,by simp,Nat.zero_le _,h0⟩,?_⟩;rintro i m acc H ⟨rfl,hi,p⟩;have q:=hl i acc H hi p;by_cases hlt:i < xs.length
 ·refine .inr ⟨⟨xs,xs[i],q,by simp [hlt]⟩,Pv (i+1),fun acc' H' p'=>⟨xs.length - (i+1),by lia,rfl,hlt,p'⟩,fun x H' y=>?_⟩;obtain ⟨e,y⟩:=y;subst e;exact hs i x acc _ (y xs q) p
 ·have e:i=xs.length:=by lia
  subst e;exact .inl ⟨⟨xs,q,Nat.le_refl _⟩,hd acc H p⟩
theorem Nj {a:Addr} {xs:List V} (Pv:Nat->List V->Hp->Prop) (h0:Pv 0 [] H) (hl:∀ i acc H,i<=xs.length->Pv i acc H->SqT K H a xs)
  (hs:∀ i x acc H,xs[i]?=some x->Pv i acc H->Bt k cs g tc te σ x acc H (Pv (i+1))) (hd:∀ acc H,Pv xs.length acc H->fin acc H):FU k cs g tc te (Itt K a) σ H fin:=by
 refine ⟨fun i m acc H=>m=xs.length - i/\i<=xs.length/\Pv i acc H,⟨xs.length,by simp,Nat.zero_le _,h0⟩,?_⟩;rintro i m acc H ⟨rfl,hi,p⟩;have q:=hl i acc H hi p;by_cases hlt:i < xs.length
 ·refine .inr ⟨⟨xs,xs[i],q,by simp [hlt]⟩,Pv (i+1),fun acc' H' p'=>⟨xs.length - (i+1),by lia,rfl,hlt,p'⟩,fun x H' y=>?_⟩;obtain ⟨e,y⟩:=y;subst e;exact hs i x acc _ (y xs q) p
 ·have e:i=xs.length:=by lia
  subst e;exact .inl ⟨⟨xs,q,Nat.le_refl _⟩,hd acc H p⟩
theorem GX {lo:Int} {n:Nat} (Pv:Nat->List V->Hp->Prop) (h0:Pv 0 [] H) (hs:∀ i acc H,i < n->Pv i acc H->Bt k cs g tc te σ (.int (lo+i)) acc H (Pv (i+1))) (hd:∀ acc H,Pv n acc H->fin acc H):FU k cs g tc te (Itr lo n) σ H fin:=by
 refine ⟨fun i m acc H=>m=n - i/\i<=n/\Pv i acc H,⟨n,by simp,Nat.zero_le _,h0⟩,?_⟩;rintro i m acc H ⟨rfl,hi,p⟩;by_cases hlt:i < n
 ·refine .inr ⟨hlt,Pv (i+1),fun acc' H' p'=>⟨n - (i+1),by lia,rfl,hlt,p'⟩,fun x H' y=>?_⟩;obtain ⟨e,y⟩:=y;subst e y;exact hs i acc _ hlt p
 ·have e:i=n:=by lia
  subst e;exact .inl ⟨Nat.le_refl _,hd acc H p⟩
end
end L2
namespace L2
open PySem PySem.Spec PyProof.Rows
section
variable {prog:Program} {w:World} {A:Around} {E:Value->Shared->Prop} {s:Shared}
theorem IA {I t:Addr} {k:Nat} {vs:Array Value} {v:Value} {Q:Value->Shared->Prop} (hI:s.heap.IsTupleIter I t k) (hV:s.heap.IsTuple t vs) (hv:vs[k]?=some v)
  (q:∀ g,g.IsTupleIter I t (k+1)->Heap.SameBut I s.heap g->Q v { s with heap:=g }):wpAny (model prog w) A (Builtin.SmallTypes.nextOf (.ref I)) Q E s:=by
 obtain ⟨oI,eI,cI,dI⟩:=id hI;obtain ⟨oV,eV,_,nV,dV⟩:=hV;unfold Builtin.SmallTypes.nextOf;refine wpAny_bind (wpAny_callSpecial?_slot (name:=Str.ofString "__next__") hI.typeIs F.slot_tuple_iterator_next (wpAny_call_entry F.slot_tuple_iterator_next hI.typeIs F.entry_tuple_iterator_next ?_ (F.args_tuple_iterator_next_1 _)));show wpAny _ _ (field (.ref I) 0 >>= _) _ _ s;refine wpAny_bind (wpAny_field eI dI (x:=.ref t) rfl ?_);show wpAny _ _ (if (Value.ref t == Value.none)=true then _ else _) _ _ s;rw [if_neg (fun z:(Value.ref t == Value.none)=true=>Bool.false_ne_true z)];show wpAny _ _ (field (.ref I) 1 >>= _) _ _ s;refine wpAny_bind (wpAny_field eI dI (x:=.int k 0) rfl ?_);show wpAny _ _ (seqItems? (.ref t) >>= _) _ _ s;refine wpAny_bind (wpAny_seqItems eV dV ?_);simp only [Int.toNat_natCast,hv];refine wpAny_bind (wpAny_setField eI dI (by simp) (wpAny_pure ⟨v,rfl,wpAny_pure (q _ ?_ (Heap.SameBut.update ..))⟩));exact ⟨_,Heap.get?_update_self _ eI (Obj.isFreed_of_fields (Obj.data_mapFields dI _)),(Obj.cls_mapFields ..).trans cI,by rw [Obj.data_mapFields dI]; simp [rawInt]⟩
theorem IS {I t:Addr} {k:Nat} {vs:Array Value} {Q:Value->Shared->Prop} (hA:A.handled=none) (hI:s.heap.IsTupleIter I t k) (hV:s.heap.IsTuple t vs) (hv:vs[k]?=none)
  (q:∀ g e,Heap.ExtBut I s.heap g->(∃ o,g.get? e=some o/\o.cls=.type "StopIteration")->E (.ref e) { s with heap:=g }):wpAny (model prog w) A (Builtin.SmallTypes.nextOf (.ref I)) Q E s:=by
 obtain ⟨oI,eI,cI,dI⟩:=id hI;obtain ⟨oV,eV,_,nV,dV⟩:=hV;unfold Builtin.SmallTypes.nextOf;refine wpAny_bind (wpAny_callSpecial?_slot (name:=Str.ofString "__next__") hI.typeIs F.slot_tuple_iterator_next (wpAny_call_entry F.slot_tuple_iterator_next hI.typeIs F.entry_tuple_iterator_next ?_ (F.args_tuple_iterator_next_1 _)));show wpAny _ _ (field (.ref I) 0 >>= _) _ _ s;refine wpAny_bind (wpAny_field eI dI (x:=.ref t) rfl ?_);show wpAny _ _ (if (Value.ref t == Value.none)=true then _ else _) _ _ s;rw [if_neg (fun z:(Value.ref t == Value.none)=true=>Bool.false_ne_true z)];show wpAny _ _ (field (.ref I) 1 >>= _) _ _ s;refine wpAny_bind (wpAny_field eI dI (x:=.int k 0) rfl ?_);show wpAny _ _ (seqItems? (.ref t) >>= _) _ _ s;refine wpAny_bind (wpAny_seqItems eV dV ?_);simp only [Int.toNat_natCast,hv];refine wpAny_bind (wpAny_rule (wpAny_bind (wpAny_setField eI dI (by simp) ?_)));show wpAny _ _ (newExc (.type "StopIteration") [] >>= _) _ _ _;refine wpAny_bind ?_;simp only [newExc,newTuple];refine wpAny_bind (wpAny_newObj_type ?_ (by size_fits));refine wpAny_bind (m:=firstArgMember _ _) (wpAny_of_eq (a:=Value.none) (by first | rfl | (simp only [firstArgMember]; rfl)) (wpAny_newObj_type ?_ (by size_fits)));simp only [raiseNew];refine wpAny_bind (wpAny_handled ?_)
 first | rw [show A.in1.handled=none from hA] | rw [hA]
 refine wpAny_bind (wpAny_pure (wpAny_throw (q _ _ (((Heap.SameBut.update ..).extBut.push _).push _) ⟨_,Heap.get?_push_size _ rfl,rfl⟩)))
def CU:Bool->Heap->Addr->Addr->Nat->Prop
 | true,h,I,l,k=>h.IsTupleIter I l k
 | false,h,I,l,k=>h.IsListIter I l k
def Ep:Bool->Heap->Addr->Array Value->Prop
 | true,h,l,vs=>h.IsTuple l vs
 | false,h,l,vs=>h.IsList l vs
def SqX (K:PySem.W.Frag):Bool->Hp->Addr->List V->Prop
 | true,H,a,xs=>SqT K H a xs
 | false,H,a,xs=>SqL K H a xs
theorem CU.move {b:Bool} {h g:Heap} {I l:Addr} {k:Nat} (x:CU b h I l k) (e:∀ o,h.get? I=some o->g.get? I=some o):CU b g I l k:=by
 cases b with
 | true=>obtain ⟨o,ho,r⟩:=x; exact ⟨o,e _ ho,r⟩
 | false=>obtain ⟨o,ho,r⟩:=x; exact ⟨o,e _ ho,r⟩
theorem CU.there {b:Bool} {h:Heap} {I l:Addr} {k:Nat} (x:CU b h I l k):∃ o,h.get? I=some o/\∀ v,o.data≠.cell v:=by
 cases b with
 | true=>obtain ⟨o,ho,_,d⟩:=x; exact ⟨o,ho,fun v z=>by rw [d] at z; cases z⟩
 | false=>obtain ⟨o,ho,_,d⟩:=x; exact ⟨o,ho,fun v z=>by rw [d] at z; cases z⟩
theorem Ep.move {b:Bool} {h g:Heap} {l:Addr} {vs:Array Value} (x:Ep b h l vs) (e:∀ o,h.get? l=some o->g.get? l=some o):Ep b g l vs:=by
 cases b with
 | true=>obtain ⟨o,ho,r⟩:=x; exact ⟨o,e _ ho,r⟩
 | false=>obtain ⟨o,ho,r⟩:=x; exact ⟨o,e _ ho,r⟩
theorem Ea {b:Bool} {I l:Addr} {k:Nat} {vs:Array Value} {v:Value} {Q:Value->Shared->Prop} (hI:CU b s.heap I l k) (hV:Ep b s.heap l vs) (hv:vs[k]?=some v)
  (q:∀ g,CU b g I l (k+1)->Heap.SameBut I s.heap g->Q v { s with heap:=g }):wpAny (model prog w) A (Builtin.SmallTypes.nextOf (.ref I)) Q E s:=by
 cases b with
 | true=>exact IA hI hV hv q
 | false=>exact wpAny_nextOf_list_item hI hV hv q
theorem FB {b:Bool} {I l:Addr} {k:Nat} {vs:Array Value} {Q:Value->Shared->Prop} (hA:A.handled=none) (hI:CU b s.heap I l k) (hV:Ep b s.heap l vs) (hv:vs[k]?=none)
  (q:∀ g e,Heap.ExtBut I s.heap g->(∃ o,g.get? e=some o/\o.cls=.type "StopIteration")->E (.ref e) { s with heap:=g }):wpAny (model prog w) A (Builtin.SmallTypes.nextOf (.ref I)) Q E s:=by
 cases b with
 | true=>exact IS hA hI hV hv q
 | false=>exact wpAny_nextOf_list_end hA hI hV hv q
theorem Fv {b:Bool} {l:Addr} {vs:Array Value} {Q:Value->Shared->Prop} (hV:Ep b s.heap l vs)
  (q:∀ g,CU b g s.heap.objs.size l 0->g.objs.size=s.heap.objs.size+1->(∀ c o,s.heap.get? c=some o->g.get? c=some o)->Q (.ref s.heap.objs.size) { s with heap:=g }):wpAny (model prog w) A (pyIter (.ref l)) Q E s:=by
 cases b with
 | true=>exact wpAny_pyIter_tuple hV (q _ ⟨_,Heap.get?_push_size _ rfl,rfl,rfl⟩ (Heap.size_push ..) fun c o e=>Heap.get?_push_of_some _ e)
 | false=>exact wpAny_pyIter_list hV (q _ ⟨_,Heap.get?_push_size _ rfl,rfl,rfl⟩ (Heap.size_push ..) fun c o e=>Heap.get?_push_of_some _ e)
structure Qp (z U O i j l m:Addr):Prop where
 nd:[z,U,O,i,j].Nodup
 l:l ∉ [z,O,i,j]
 m:m ∉ [z,O,i,j]
theorem Re {b c:Bool} {z U O i j l m:Addr} {k:Nat} {xs ys:Array Value} {x y p q:Value} {Q:Value->Shared->Prop} (D:Qp z U O i j l m) (hZ:IsZip s.heap z U O .none) (hU:IsPair s.heap U (.ref i) (.ref j)) (hO:IsPair s.heap O p q)
  (hi:CU b s.heap i l k) (hj:CU c s.heap j m k) (hl:Ep b s.heap l xs) (hm:Ep c s.heap m ys) (hx:xs[k]?=some x) (hy:ys[k]?=some y)
  (fin:∀ g,IsZip g z U O (rawInt s.heap.objs.size)->IsPair g O x y->CU b g i l (k+1)->CU c g j m (k+1)->IsPair g s.heap.objs.size x y->g.objs.size=s.heap.objs.size+1 ->
   (∀ a o,a ∉ [z,O,i,j]->s.heap.get? a=some o->g.get? a=some o)->Q (.ref s.heap.objs.size) { s with heap:=g }) :
  wpAny (model prog w) A (Builtin.«zip.__next__» ⟨[.ref z],[]⟩) (fun r s'=>∃ v,r=.done (.ret v)/\Q v s') E s:=by
 obtain ⟨nd,nl,nm⟩:=D;simp only [List.nodup_cons,List.mem_cons,List.not_mem_nil,or_false,not_or,List.nodup_nil,and_true,not_false_eq_true] at nd nl nm;obtain ⟨⟨zU,zO,zi,zj⟩,⟨UO,Ui,Uj⟩,⟨Oi,Oj⟩,ij⟩:=nd;obtain ⟨lz,lO,li,lj⟩:=nl;obtain ⟨mz,mO,mi,mj⟩:=nm;show wpAny _ _ (field (.ref z) 2 >>= _) _ _ _;refine wpAny_bind (wpAny_field hZ rfl (x:=.bool false) rfl ?_);show wpAny _ _ (field (.ref z) 3 >>= _) _ _ _;refine wpAny_bind (wpAny_field hZ rfl (x:=.ref U) rfl (wpAny_bind (wpAny_seqItems hU rfl ?_)));show wpAny _ _ (Builtin.SmallTypes.ownedTupleIsFree (.ref z) >>= _) _ _ _;refine wpAny_bind ?_;unfold Builtin.SmallTypes.ownedTupleIsFree;refine wpAny_bind (wpAny_field hZ rfl (x:=.none) rfl (wpAny_pure ?_));simp only [if_true];refine wpAny_bind (wpAny_rule (wpAny_bind (wpAny_field hZ rfl (x:=.ref O) rfl (wpAny_bind (wpAny_setField_rec hZ (by simp) fun h1 hZ1 s1=>?_)))));replace hZ1:IsZip h1 z U O .ellipsis:=hZ1;refine wpAny_bind ?_;simp only [List.zipIdx_cons,List.zipIdx_nil,List.forIn_cons,List.forIn_nil];refine wpAny_bind (wpAny_bind (wpAny_onRaise ?_));show wpAny _ _ (Builtin.SmallTypes.nextOf (.ref i) >>= _) _ _ _;refine wpAny_bind (Ea (hi.move fun o e=>s1.extBut _ _ (Ne.symm zi) e) (hl.move fun o e=>s1.extBut _ _ lz e) hx fun h2 hi2 s2=>wpAny_pure ?_);have hO2:IsPair h2 O p q:=s2.extBut _ _ Oi (s1.extBut _ _ (Ne.symm zO) hO);refine wpAny_bind (wpAny_seqItems hO2 rfl (wpAny_bind (wpAny_updateSeq_pair hO2 fun h3 hO3 s3=>?_)));replace hO3:IsPair h3 O x q:=hO3;refine wpAny_bind (wpAny_letGo (wpAny_pure (wpAny_bind (wpAny_bind (wpAny_onRaise ?_)))));show wpAny _ _ (Builtin.SmallTypes.nextOf (.ref j) >>= _) _ _ _;refine wpAny_bind (Ea (hj.move fun o e=>s3.extBut _ _ (Ne.symm Oj) (s2.extBut _ _ (Ne.symm ij) (s1.extBut _ _ (Ne.symm zj) e))) (hm.move fun o e=>s3.extBut _ _ mO (s2.extBut _ _ mi (s1.extBut _ _ mz e))) hy fun h4 hj4 s4=>wpAny_pure ?_);have hO4:IsPair h4 O x q:=s4.extBut _ _ Oj hO3;refine wpAny_bind (wpAny_seqItems hO4 rfl (wpAny_bind (wpAny_updateSeq_pair hO4 fun h5 hO5 s5=>?_)));replace hO5:IsPair h5 O x y:=hO5;refine wpAny_bind (wpAny_letGo (wpAny_pure (wpAny_pure (wpAny_bind (wpAny_seqItems hO5 rfl (wpAny_bind (wpAny_newTuple ?_)))))));have sz:h5.objs.size=s.heap.objs.size:=by rw [s5.1,s4.1,s3.1,s2.1,s1.1]
 have hZ5:IsZip h5 z U O .ellipsis:=s5.extBut _ _ zO (s4.extBut _ _ zj (s3.extBut _ _ zO (s2.extBut _ _ zi hZ1)));have kp:∀ a o,a ∉ [z,O,i,j]->s.heap.get? a=some o->h5.get? a=some o:=fun a o ha e=>by
  simp only [List.mem_cons,List.not_mem_nil,or_false,not_or] at ha;exact s5.extBut _ _ ha.2.1 (s4.extBut _ _ ha.2.2.2 (s3.extBut _ _ ha.2.1 (s2.extBut _ _ ha.2.2.1 (s1.extBut _ _ ha.1 e))))
 have hi5:CU b h5 i l (k+1):=hi2.move fun o e=>s5.extBut _ _ (Ne.symm Oi) (s4.extBut _ _ ij (s3.extBut _ _ (Ne.symm Oi) e));have hj5:CU c h5 j m (k+1):=hj4.move fun o e=>s5.extBut _ _ (Ne.symm Oj) e;have zlt:z < h5.objs.size:=Heap.lt_size hZ5;show wpAny _ _ (Builtin.SmallTypes.ownedTupleHandOut (.ref z) (.ref h5.objs.size) >>= _) _ _ _;refine wpAny_bind ?_;unfold Builtin.SmallTypes.ownedTupleHandOut;have hZ6:IsZip (h5.push { cls:=.type "tuple",data:=.seq #[x,y] }) z U O .ellipsis:=Heap.get?_push_of_some _ hZ5;refine wpAny_bind (wpAny_setField_rec hZ6 (by simp) fun h7 hZ7 s7=>?_);replace hZ7:IsZip h7 z U O (rawInt h5.objs.size):=hZ7;refine wpAny_setField_rec hZ7 (by simp) fun h8 hZ8 s8=>?_;replace hZ8:IsZip h8 z U O (rawInt h5.objs.size):=hZ8;have up:∀ a o,a≠z->h5.get? a=some o->h8.get? a=some o:=fun a o na e=>s8.extBut _ _ na (s7.extBut _ _ na (Heap.get?_push_of_some _ e));have hT:IsPair h8 h5.objs.size x y:=s8.extBut _ _ (Nat.ne_of_gt zlt) (s7.extBut _ _ (Nat.ne_of_gt zlt) (Heap.get?_push_size _ rfl));have sz8:h8.objs.size=h5.objs.size+1:=by rw [s8.1,s7.1,Heap.size_push]
 rw [sz] at hZ8 hT sz8;refine wpAny_pure ⟨_,rfl,?_⟩;show Q (.ref h5.objs.size) _;rw [sz];refine fin h8 hZ8 (up _ _ (Ne.symm zO) hO5) (hi5.move fun o e=>up _ o (Ne.symm zi) e) (hj5.move fun o e=>up _ o (Ne.symm zj) e) hT sz8 fun a o ha e=>up a o ?_ (kp a o ha e);simp only [List.mem_cons,List.not_mem_nil,or_false,not_or] at ha;exact ha.1
theorem Rc {b c:Bool} {z U O i j l m:Addr} {k:Nat} {xs ys:Array Value} {p q:Value} {Q:Fin->Shared->Prop} (hA:A.handled=none) (D:Qp z U O i j l m) (hZ:IsZip s.heap z U O .none) (hU:IsPair s.heap U (.ref i) (.ref j)) (hO:IsPair s.heap O p q)
  (hi:CU b s.heap i l k) (hj:CU c s.heap j m k) (hl:Ep b s.heap l xs) (hm:Ep c s.heap m ys) (hend:xs[k]?=none\/ys[k]?=none)
  (fin:∀ g e,(∀ a o,a ∉ [z,O,i,j]->s.heap.get? a=some o->g.get? a=some o)->(∃ o,g.get? e=some o/\o.cls=.type "StopIteration")->E (.ref e) { s with heap:=g }) :
  wpAny (model prog w) A (Builtin.«zip.__next__» ⟨[.ref z],[]⟩) Q E s:=by
 obtain ⟨nd,nl,nm⟩:=D;simp only [List.nodup_cons,List.mem_cons,List.not_mem_nil,or_false,not_or,List.nodup_nil,and_true,not_false_eq_true] at nd nl nm;obtain ⟨⟨zU,zO,zi,zj⟩,⟨UO,Ui,Uj⟩,⟨Oi,Oj⟩,ij⟩:=nd;obtain ⟨lz,lO,li,lj⟩:=nl;obtain ⟨mz,mO,mi,mj⟩:=nm;show wpAny _ _ (field (.ref z) 2 >>= _) _ _ _;refine wpAny_bind (wpAny_field hZ rfl (x:=.bool false) rfl ?_);show wpAny _ _ (field (.ref z) 3 >>= _) _ _ _;refine wpAny_bind (wpAny_field hZ rfl (x:=.ref U) rfl (wpAny_bind (wpAny_seqItems hU rfl ?_)));show wpAny _ _ (Builtin.SmallTypes.ownedTupleIsFree (.ref z) >>= _) _ _ _;refine wpAny_bind ?_;unfold Builtin.SmallTypes.ownedTupleIsFree;refine wpAny_bind (wpAny_field hZ rfl (x:=.none) rfl (wpAny_pure ?_));simp only [if_true];refine wpAny_bind (wpAny_rule (wpAny_bind (wpAny_field hZ rfl (x:=.ref O) rfl (wpAny_bind (wpAny_setField_rec hZ (by simp) fun h1 hZ1 s1=>?_)))));replace hZ1:IsZip h1 z U O .ellipsis:=hZ1;refine wpAny_bind ?_;simp only [List.zipIdx_cons,List.zipIdx_nil,List.forIn_cons,List.forIn_nil];refine wpAny_bind (wpAny_bind (wpAny_onRaise ?_));show wpAny _ _ (Builtin.SmallTypes.nextOf (.ref i) >>= _) _ _ _;have out:∀ {a:Addr},a ∉ [z,O,i,j]->a≠z/\a≠O/\a≠i/\a≠j:=fun ha=>by simpa only [List.mem_cons,List.not_mem_nil,or_false,not_or] using ha
 cases hx:xs[k]? with
 | none =>
  refine wpAny_bind (FB hA (hi.move fun o e=>s1.extBut _ _ (Ne.symm zi) e) (hl.move fun o e=>s1.extBut _ _ lz e) hx fun h2 e s2 he=>?_);obtain ⟨oe,hoe,hce⟩:=he;have hZ2:IsZip h2 z U O .ellipsis:=s2 _ _ zi hZ1;have ez:e≠z:=fun t=>by subst t; rw [hZ2] at hoe; cases hoe; simp at hce
  exact wpAny_setField_rec hZ2 (by simp) fun h3 _ s3=>fin h3 e (fun a o ha t=>s3.extBut _ _ (out ha).1 (s2 _ _ (out ha).2.2.1 (s1.extBut _ _ (out ha).1 t))) ⟨oe,s3.extBut _ _ ez hoe,hce⟩
 | some x =>
  have hy:ys[k]?=none:=by
   rcases hend with t | t
   ·rw [hx] at t; cases t
   ·exact t
  refine wpAny_bind (Ea (hi.move fun o e=>s1.extBut _ _ (Ne.symm zi) e) (hl.move fun o e=>s1.extBut _ _ lz e) hx fun h2 hi2 s2=>wpAny_pure ?_);have hO2:IsPair h2 O p q:=s2.extBut _ _ Oi (s1.extBut _ _ (Ne.symm zO) hO);refine wpAny_bind (wpAny_seqItems hO2 rfl (wpAny_bind (wpAny_updateSeq_pair hO2 fun h3 hO3 s3=>?_)));refine wpAny_bind (wpAny_letGo (wpAny_pure (wpAny_bind (wpAny_bind (wpAny_onRaise ?_)))));show wpAny _ _ (Builtin.SmallTypes.nextOf (.ref j) >>= _) _ _ _;refine wpAny_bind (FB hA (hj.move fun o e=>s3.extBut _ _ (Ne.symm Oj) (s2.extBut _ _ (Ne.symm ij) (s1.extBut _ _ (Ne.symm zj) e))) (hm.move fun o e=>s3.extBut _ _ mO (s2.extBut _ _ mi (s1.extBut _ _ mz e))) hy fun h4 e s4 he=>?_);obtain ⟨oe,hoe,hce⟩:=he;have hZ4:IsZip h4 z U O .ellipsis:=s4 _ _ zj (s3.extBut _ _ zO (s2.extBut _ _ zi hZ1));have ez:e≠z:=fun t=>by subst t; rw [hZ4] at hoe; cases hoe; simp at hce
  exact wpAny_setField_rec hZ4 (by simp) fun h5 _ s5=>fin h5 e (fun a o ha t=>s5.extBut _ _ (out ha).1 (s4 _ _ (out ha).2.2.2 (s3.extBut _ _ (out ha).2.1 (s2.extBut _ _ (out ha).2.2.1 (s1.extBut _ _ (out ha).1 t))))) ⟨oe,s5.extBut _ _ ez hoe,hce⟩
theorem Rf (g2:Heap) (n:Nat) (e2:g2.objs.size=n+2) (i j:Value):∃ g5,g5=((g2.push { cls:=.type "tuple",data:=.seq #[i,j] }).push { cls:=.type "tuple",data:=.seq #[.none,.none] }).push
   { cls:=.type "zip",data:=.fields #[.none,.bool false,.bool false,.ref g2.objs.size,.ref (g2.push { cls:=.type "tuple",data:=.seq #[i,j] }).objs.size] } /\
  IsZip g5 (n+4) (n+2) (n+3) .none/\IsPair g5 (n+2) i j/\IsPair g5 (n+3) .none .none/\(∀ a o,g2.get? a=some o->g5.get? a=some o) /\
  ((g2.push { cls:=.type "tuple",data:=.seq #[i,j] }).push { cls:=.type "tuple",data:=.seq #[.none,.none] }).objs.size=n+4:=by
 have e3:(g2.push { cls:=.type "tuple",data:=.seq #[i,j] }).objs.size=n+3:=by rw [Heap.size_push,e2]
 have e4:((g2.push { cls:=.type "tuple",data:=.seq #[i,j] }).push { cls:=.type "tuple",data:=.seq #[.none,.none] }).objs.size=n+4:=by rw [Heap.size_push,e3]
 refine ⟨_,rfl,?_,?_,?_,fun a o e=>Heap.get?_push_of_some _ (Heap.get?_push_of_some _ (Heap.get?_push_of_some _ e)),e4⟩
 ·have q:=Heap.get?_push_size ((g2.push { cls:=.type "tuple",data:=.seq #[i,j] }).push { cls:=.type "tuple",data:=.seq #[.none,.none] }) (o:={ cls:=.type "zip",data:=.fields #[.none,.bool false,.bool false,.ref g2.objs.size,.ref (g2.push { cls:=.type "tuple",data:=.seq #[i,j] }).objs.size] }) rfl;rw [e4] at q;show _=some _;rw [q,e2,e3]
 ·have q:=Heap.get?_push_of_some { cls:=.type "zip",data:=.fields #[.none,.bool false,.bool false,.ref g2.objs.size,.ref (g2.push { cls:=.type "tuple",data:=.seq #[i,j] }).objs.size] } (Heap.get?_push_of_some { cls:=.type "tuple",data:=.seq #[.none,.none] } (Heap.get?_push_size g2 (o:={ cls:=.type "tuple",data:=.seq #[i,j] }) rfl));rw [<-e2];exact q
 ·have q:=Heap.get?_push_of_some { cls:=.type "zip",data:=.fields #[.none,.bool false,.bool false,.ref g2.objs.size,.ref (g2.push { cls:=.type "tuple",data:=.seq #[i,j] }).objs.size] } (Heap.get?_push_size (g2.push { cls:=.type "tuple",data:=.seq #[i,j] }) (o:={ cls:=.type "tuple",data:=.seq #[.none,.none] }) rfl);rw [<-e3];exact q
theorem QI {b c:Bool} (l m:Addr) (xs ys:Array Value):Meets (Builtin.«zip.__new__» ⟨[.type "zip",.ref l,.ref m],[]⟩) (fun _ R s=>Ep b s.heap l xs/\Ep c s.heap m ys /\
   ∀ g,IsZip g (s.heap.objs.size+4) (s.heap.objs.size+2) (s.heap.objs.size+3) .none->IsPair g (s.heap.objs.size+2) (.ref s.heap.objs.size) (.ref (s.heap.objs.size+1))->IsPair g (s.heap.objs.size+3) .none .none ->
    CU b g s.heap.objs.size l 0->CU c g (s.heap.objs.size+1) m 0->(∀ a o,s.heap.get? a=some o->g.get? a=some o)->R (.ok (.ret (.ref (s.heap.objs.size+4)))) { s with heap:=g }) :=
 .of_wp fun prog w A R s h=>by
  obtain ⟨hp,g,d,tk,os⟩:=s;obtain ⟨hl,hm,h⟩:=h;have hsub:=sub_zip
  wp_walk using Fv hl
  intro g1 i1 z1 k1;have hm1:Ep c (Shared.heap ⟨g1,g,d,tk,os⟩) m ys:=hm.move fun o e=>k1 _ o e
  wp_walk using Fv hm1
  intro g2 i2 z2 k2
  wp_walk
  refine ⟨_,rfl,?_⟩;have e1:g1.objs.size=hp.objs.size+1:=z1;have e2:g2.objs.size=hp.objs.size+2:=by rw [show g2.objs.size=g1.objs.size+1 from z2,e1]
  obtain ⟨g5,e5,a1,a2,a3,k5,s5⟩:=Rf g2 hp.objs.size e2 (.ref hp.objs.size) (.ref g1.objs.size);have a2':IsPair g5 (hp.objs.size+2) (.ref hp.objs.size) (.ref (hp.objs.size+1)):=by rw [<-e1]; exact a2
  have i2':CU c g2 (hp.objs.size+1) m 0:=by rw [<-e1]; exact i2
  have key:=h g5 a1 a2' a3 ((i1.move fun o e=>k2 _ o e).move fun o e=>k5 _ o e) (i2'.move fun o e=>k5 _ o e) fun a o e=>k5 _ _ (k2 _ _ (k1 _ _ e));dsimp only at key;rw [e5,<-s5] at key;exact key
theorem Inv.turnedL {X:Cx} {pins:List (Addr×Obj)} {σ:St} {H:Hp} {s:Shared} {g:Heap} {tk:Nat} {ch:List Addr} (I:Inv X pins σ H s) (k:∀ b o,b ∉ ch->s.heap.get? b=some o->g.get? b=some o) (hch:∀ b ∈ ch,Go X pins H b):Inv X pins σ H { s with heap:=g,toks:=tk }:=by
 have nch:∀ b u,H b=some u->b ∉ ch:=fun b u e z=>by rw [(hch b z).1] at e; cases e
 refine I.step (g':=s.gens) (d':=s.drawn) (ch:=ch) (fun b hb=>⟨(hch b hb).2.2.2.1,(hch b hb).2.1,(hch b hb).2.2.2.2.1,(hch b hb).2.2.2.2.2⟩) (fun b o _ _ hc e _=>k b o hc e) (fun b o _ _ hc e _=>⟨o.slots,k b o hc e⟩) (fun _ _ _ _ n=>n)
  (fun b o hc e=>⟨o,k b o hc e⟩) (fun _ _ e=>e) (fun _ _ _ e=>e) (fun b ps e=>⟨#[],by rw [e]; simp⟩) (fun m hm=>?_) (fun b u e=>?_) I.bare
 ·obtain ⟨o,es,ep,ho,r⟩:=hm;exact ⟨o,es,ep,k _ o (fun z=>(hch _ z).2.1 rfl) ho,r⟩
 ·refine (I.hok b u e).stay (fun c v hc q=>k c v ?_ q) (fun _ q=>q) fun _ _ q=>q;rcases hc with z | z
  ·rw [z]; exact nch b u e
  ·exact nch c _ z
theorem Inv.pair {X:Cx} {pins:List (Addr×Obj)} {σ:St} {H:Hp} {s:Shared} {g:Heap} {tk n:Nat} {ch:List Addr} {x y:V} {u v:Value} (I:Inv X pins σ H s) (k:∀ b o,b ∉ ch->s.heap.get? b=some o->g.get? b=some o) (hch:∀ b ∈ ch,Go X pins H b)
  (rx:Be x u) (ry:Be y v) (e:g.get? s.heap.objs.size=some { cls:=.type "tuple",data:=.seq #[u,v] n }):H s.heap.objs.size=none/\Inv X pins σ (upd H s.heap.objs.size (.tup [x,y])) { s with heap:=g,toks:=tk }:=by
 have f:=I.fpOk (Nat.le_refl _) I.fresh;refine ⟨f.1,(I.turnedL (tk:=tk) k hch).track f.1 (Heap.get?_none_of_le I.sz) (Heap.get?_none_of_le (Nat.le_trans I.ok.bsz I.sz)) (Ne.symm f.2.1) f.2.2.2.2.1 f.2.2.2.2.2 (fun b hb z=>f.2.2.1 (z ▸ hb)) ?_⟩;exact ⟨by show 2<=sizeLine; decide,[u,v],.cons rx (.cons ry .nil),_,e,rfl,n,rfl⟩
theorem Inv.sq {X:Cx} {pins:List (Addr×Obj)} {σ:St} {H:Hp} {s:Shared} {b:Bool} {a:Addr} {xs:List V} (I:Inv X pins σ H s) (h:SqX X.K b H a xs):∃ its:List Value,AS xs its/\Ep b s.heap a its.toArray:=by
 cases b with
 | true =>
  obtain ⟨its,r,p,_⟩:=I.tuple h;exact ⟨its,r,p⟩
 | false =>
  obtain ⟨its,r,p,_⟩:=I.list h;exact ⟨its,r,p.isList⟩
theorem Inv.sq_inj {X:Cx} {pins:List (Addr×Obj)} {σ:St} {H:Hp} {s:Shared} {b:Bool} {a:Addr} {xs ys:List V} (I:Inv X pins σ H s) (h:SqX X.K b H a xs) (h':SqX X.K b H a ys):xs=ys:=by
 cases b with
 | true=>exact I.tuple_inj h h'
 | false=>exact I.list_inj h h'
def Itz (K:PySem.W.Frag) (b c:Bool) (l m:Addr):It :=
 ⟨fun i H=>∃ xs ys x y,SqX K b H l xs/\SqX K c H m ys/\xs[i]?=some x/\ys[i]?=some y,
  fun i H v H'=>∃ (T:Addr) (x y:V),v=.ref T/\H T=none/\H'=upd H T (.tup [x,y])/\(∀ xs,SqX K b H l xs->xs[i]?=some x)/\∀ ys,SqX K c H m ys->ys[i]?=some y,
  fun i H=>∃ xs ys,SqX K b H l xs/\SqX K c H m ys/\(xs.length<=i\/ys.length<=i)⟩
def ZipTn (b c:Bool) (z U O i j l m:Addr) (k:Nat) (h:Heap):Prop:=IsZip h z U O .none/\IsPair h U (.ref i) (.ref j)/\(∃ p q,IsPair h O p q)/\CU b h i l k/\CU c h j m k
theorem Rh {P:Program} {w:World} {K:PySem.W.Frag} {es:List Expr} {n:Nat} {tpos:Pos} {b c:Bool} {z U O i j l m:Addr} (D:Qp z U O i j l m):LO P w K (.Tuple es n tpos) (Itz K b c l m) [z,U,O,i,j] z (ZipTn b c z U O i j l m) where
 mem:=by simp
 obj:=fun k h st a ha=>by
  obtain ⟨hZ,hU,⟨p,q,hO⟩,hi,hj⟩:=st;simp only [List.mem_cons,List.not_mem_nil,or_false] at ha;rcases ha with rfl | rfl | rfl | rfl | rfl
  ·exact ⟨_,hZ,fun v t=>by cases t⟩
  ·exact ⟨_,hU,fun v t=>by cases t⟩
  ·exact ⟨_,hO,fun v t=>by cases t⟩
  ·exact hi.there
  ·exact hj.there
 keep:=fun k h h' st kp=>by
  obtain ⟨hZ,hU,⟨p,q,hO⟩,hi,hj⟩:=st;exact ⟨kp z (by simp) _ hZ,kp U (by simp) _ hU,⟨p,q,kp O (by simp) _ hO⟩,hi.move fun o e=>kp i (by simp) o e,hj.move fun o e=>kp j (by simp) o e⟩
 item:=by
  intro X hP hw hK hc k pins s σ H E I hf st hg;subst hP hw hK;obtain ⟨hZ,hU,⟨p,q,hO⟩,hi,hj⟩:=st;obtain ⟨xs,ys,x,y,sx,sy,hx,hy⟩:=hg;obtain ⟨us,ru,ou⟩:=I.sq sx;obtain ⟨vs,rv,ov⟩:=I.sq sy;obtain ⟨u,hu,rxu⟩:=ru.get hx;obtain ⟨v,hv,ryv⟩:=rv.get hy;have hT:s.TypeIs (.ref z) "zip" := ⟨_,hZ,rfl⟩
  unfold pyNext;refine wpAny_bind (wpAny_attempt (wpAny_callSpecial?_slot (name:=Str.ofString "__next__") hT F.slot_zip_next (wpAny_call_entry F.slot_zip_next hT F.entry_zip_next (Re D hZ hU hO hi hj ou ov (by simpa using hu) (by simpa using hv) fun g gZ gO gi gj gT gs gk=>wpAny_pure ⟨_,rfl,?_⟩) (F.args_zip_next_1 _))));refine wpAny_letOwnedTupleGo_zip (s:={ s with heap:=g }) gZ fun g2 gZ2 sb=>?_;obtain ⟨nd,nl,nm⟩:=D;simp only [List.nodup_cons,List.mem_cons,List.not_mem_nil,or_false,not_or,List.nodup_nil,and_true,not_false_eq_true] at nd;obtain ⟨⟨zU,zO,zi,zj⟩,⟨UO,Ui,Uj⟩,⟨Oi,Oj⟩,ij⟩:=nd;have zlt:z < s.heap.objs.size:=Heap.lt_size hZ;have kk:∀ a o,a ∉ [z,O,i,j]->s.heap.get? a=some o->g2.get? a=some o:=fun a o ha e=>(sb.2 a (fun t=>ha (by simp [t]))).trans (gk a o ha e);have fch:∀ a ∈ [z,O,i,j],Go X pins H a:=fun a ha=>hf a (by
   simp only [List.mem_cons,List.not_mem_nil,or_false] at ha ⊢;rcases ha with t | t | t | t<;>simp [t])
  obtain ⟨nT,J⟩:=I.pair (tk:=s.toks) kk fch rxu ryv ((sb.2 _ (Nat.ne_of_gt zlt)).trans gT);refine ⟨.ref s.heap.objs.size,_,J,rfl,⟨_,x,y,rfl,nT,rfl,fun xs' q'=>by rw [I.sq_inj q' sx]; exact hx,fun ys' q'=>by rw [I.sq_inj q' sy]; exact hy⟩,⟨gZ2,kk U _ ?_ hU,⟨u,v,(sb.2 O (Ne.symm zO)).trans gO⟩,gi.move fun o e=>(sb.2 i (Ne.symm zi)).trans e,gj.move fun o e=>(sb.2 j (Ne.symm zj)).trans e⟩,fun a ha=>?_⟩
  ·simp only [List.mem_cons,List.not_mem_nil,or_false,not_or];exact ⟨Ne.symm zU,UO,Ui,Uj⟩
  ·have e:=(hf a ha).1;have lt:a≠s.heap.objs.size:=by
    simp only [List.mem_cons,List.not_mem_nil,or_false] at ha;rcases ha with t | t | t | t | t<;>subst t
    ·exact Nat.ne_of_lt zlt
    ·exact Nat.ne_of_lt (Heap.lt_size hU)
    ·exact Nat.ne_of_lt (Heap.lt_size hO)
    ·obtain ⟨o,e,_⟩:=hi.there; exact Nat.ne_of_lt (Heap.lt_size e)
    ·obtain ⟨o,e,_⟩:=hj.there; exact Nat.ne_of_lt (Heap.lt_size e)
   rw [As lt];exact e
 done:=by
  intro X hP hw hK hc k pins s σ H E I hf st hg;subst hP hw hK;obtain ⟨hZ,hU,⟨p,q,hO⟩,hi,hj⟩:=st;obtain ⟨xs,ys,sx,sy,hend⟩:=hg;obtain ⟨us,ru,ou⟩:=I.sq sx;obtain ⟨vs,rv,ov⟩:=I.sq sy;have lu:=ru.length;have lv:=rv.length;have hT:s.TypeIs (.ref z) "zip" := ⟨_,hZ,rfl⟩
  have he:us.toArray[k]?=none\/vs.toArray[k]?=none:=hend.imp (fun t=>by simp; lia) (fun t=>by simp; lia);unfold pyNext;refine wpAny_bind (wpAny_attempt (wpAny_callSpecial?_slot (name:=Str.ofString "__next__") hT F.slot_zip_next (wpAny_call_entry F.slot_zip_next hT F.entry_zip_next (Rc (I.ok.hd hc) D hZ hU hO hi hj ou ov he fun g e gk ge=>?_) (F.args_zip_next_1 _))));obtain ⟨o,ho,hcl⟩:=ge;refine wpAny_bind (wpAny_isInstance (T:="StopIteration") (b:=true) ⟨o,ho,hcl⟩ isSubtype_stop (wpAny_pure ⟨rfl,?_⟩));exact I.turnedL (tk:=s.toks) gk fun a ha=>hf a (by
   simp only [List.mem_cons,List.not_mem_nil,or_false] at ha ⊢;rcases ha with t | t | t | t<;>simp [t])
 self:=fun _ _ _ _ _ st h=>wpAny_pyIter_zip st.1 h
end
end L2
namespace L2
open PySem PySem.Spec PyProof.Rows
theorem Ep.obj {b:Bool} {h:Heap} {l:Addr} {vs:Array Value} (x:Ep b h l vs):∃ o,h.get? l=some o:=by
 cases b with
 | true=>obtain ⟨o,e,_⟩:=x; exact ⟨o,e⟩
 | false=>obtain ⟨o,e,_⟩:=x; exact ⟨o,e⟩
theorem QU (g1:Heap) (n:Nat) (e1:g1.objs.size=n+1):∃ g2,g2=g1.push { cls:=.type "enumerate",data:=.fields #[.none,.bool false,.ref n,rawInt 0,.none,.none] }/\IsEnum g2 (n+1) n 0 .none/\∀ a o,g1.get? a=some o->g2.get? a=some o:=by
 refine ⟨_,rfl,?_,fun a o e=>Heap.get?_push_of_some _ e⟩;have q:=Heap.get?_push_size g1 (o:={ cls:=.type "enumerate",data:=.fields #[.none,.bool false,.ref n,rawInt 0,.none,.none] }) rfl;rw [e1] at q;exact q
set_option maxHeartbeats 1000000 in
theorem OY {b:Bool} (l:Addr) (xs:Array Value):Meets (Builtin.«enumerate.__new__» ⟨[.type "enumerate",.ref l],[]⟩) (fun _ R s=>Ep b s.heap l xs /\
   ∀ g,IsEnum g (s.heap.objs.size+1) s.heap.objs.size 0 .none->CU b g s.heap.objs.size l 0->(∀ a o,s.heap.get? a=some o->g.get? a=some o)->R (.ok (.ret (.ref (s.heap.objs.size+1)))) { s with heap:=g }) :=
 .of_wp fun prog w A R s h=>by
  obtain ⟨hp,g,d,tk,os⟩:=s;obtain ⟨hl,h⟩:=h;obtain ⟨ol,eol⟩:=hl.obj;have hsub:=sub_enumerate;have fin:∀ g1,CU b g1 hp.objs.size l 0->g1.objs.size=hp.objs.size+1->(∀ c o,hp.get? c=some o->g1.get? c=some o)->∃ v,Fin.done (Flow.ret (.ref g1.objs.size))=Fin.done (Flow.ret v)/\R (.ok (.ret v)) ⟨g1.push { cls:=.type "enumerate",data:=.fields #[.none,.bool false,.ref hp.objs.size,rawInt 0,.none,.none] },g,d,tk,os⟩:=fun g1 i1 z1 k1=>by
   obtain ⟨g2,e2,a1,k2⟩:=QU g1 hp.objs.size z1;refine ⟨_,rfl,?_⟩;have key:=h g2 a1 (i1.move fun o e=>k2 _ o e) fun a o e=>k2 _ _ (k1 _ _ e);dsimp only at key;rw [e2,<-z1] at key;exact key
  wp_walk using AutoSeq1.wpAny_loadPart' eol
  refine wpAny_stack_any fun st=>wpAny_pure ?_;split
  ·rename_i c' _ _ _ _ _;cases (c' == Value.type "enumerate")
   ·wp_walk using AutoSeq1.wpAny_loadPart' eol,Fv hl
    intro g1 i1 z1 k1
    wp_walk
    exact fin g1 i1 z1 k1
   ·wp_walk using AutoSeq1.wpAny_loadPart' eol,Fv hl
    intro g1 i1 z1 k1
    wp_walk
    exact fin g1 i1 z1 k1
  ·wp_walk using AutoSeq1.wpAny_loadPart' eol,Fv hl
   intro g1 i1 z1 k1
   wp_walk
   exact fin g1 i1 z1 k1
theorem Mi {prog:Program} {w:World} {A:Around} {b:Bool} (hA:A.handled=none) (I l:Addr) (ne:l≠I) (vs:Array Value) :
  Draws prog w A I [I,l] vs.size (fun k v=>vs[k]?=some v) (fun k h=>CU b h I l k/\Ep b h l vs) where
 live:=fun _ _ st=>let ⟨o,ho,_⟩:=st.1.there; ⟨o,ho⟩
 frame:=fun _ _ _ st hk=>⟨st.1.move fun o e=>hk I (by simp) o e,st.2.move fun o e=>hk l (by simp) o e⟩
 item:=fun k s Q E hi st hQ=>Ea st.1 st.2 (v:=vs[k]) (by simp [hi]) fun g hI sb=>hQ _ g s.toks (by simp [hi]) ⟨hI,st.2.move fun o e=>(sb.2 l ne).trans e⟩ sb
 done:=fun s Q E st hE=>FB hA st.1 st.2 (by simp) hE
def Ite (K:PySem.W.Frag) (b:Bool) (l:Addr):It :=
 ⟨fun i H=>∃ xs x,SqX K b H l xs/\xs[i]?=some x,
  fun i H v H'=>∃ (T:Addr) (x:V),v=.ref T/\H T=none/\H'=upd H T (.tup [.int i,x])/\∀ xs,SqX K b H l xs->xs[i]?=some x,
  fun i H=>∃ xs,SqX K b H l xs/\xs.length=i⟩
theorem Qr {P:Program} {w:World} {K:PySem.W.Frag} {es:List Expr} {n:Nat} {tpos:Pos} {b:Bool} {e I l:Addr} (eI:e≠I) (le:l≠e) (lI:l≠I) :
  LO P w K (.Tuple es n tpos) (Ite K b l) [e,I] e (fun k h=>(∃ old,IsEnum h e I k old)/\CU b h I l k) where
 mem:=by simp
 obj:=fun k h st a ha=>by
  obtain ⟨⟨old,he⟩,hI⟩:=st;simp only [List.mem_cons,List.not_mem_nil,or_false] at ha;rcases ha with rfl | rfl
  ·exact ⟨_,he,fun v t=>by cases t⟩
  ·exact hI.there
 keep:=fun k h h' st kp=>by
  obtain ⟨⟨old,he⟩,hI⟩:=st;exact ⟨⟨old,kp e (by simp) _ he⟩,hI.move fun o t=>kp I (by simp) o t⟩
 item:=by
  intro X hP hw hK hc k pins s σ H E J hf st hg;subst hP hw hK;obtain ⟨⟨old,he⟩,hI⟩:=st;obtain ⟨xs,x,sx,hx⟩:=hg;obtain ⟨us,ru,ou⟩:=J.sq sx;have lu:=ru.length;have hk:k < xs.length:=(List.getElem?_eq_some_iff.mp hx).1;refine wpAny_pyNext_enum_itemD (Mi (b:=b) (A:=X.A.in1) (J.ok.hd hc) I l lI us.toArray) he ⟨hI,ou⟩ (by simp; lia) eI (by simp [eI,Ne.symm le]) fun u g tk hu gE gS gT gs gk=>⟨_,rfl,?_⟩
  obtain ⟨u',hu',rxu⟩:=ru.get hx;have eu:u=u':=by
   have:us[k]?=some u:=by simpa using hu
   rw [hu'] at this;exact (Option.some.inj this).symm
  subst eu;refine wpAny_letOwnedTupleGo_enum (s:={ s with heap:=g,toks:=tk+1 }) gE fun g2 gE2 sb=>?_;have elt:e < s.heap.objs.size:=Heap.lt_size he;have kk:∀ a o,a ∉ [e,I]->s.heap.get? a=some o->g2.get? a=some o:=fun a o ha t=>(sb.2 a (fun z=>ha (by simp [z]))).trans (gk a o (fun z=>ha (by simp [z])) (fun z=>ha (by simp [z])) t);obtain ⟨nT,J2⟩:=J.pair (tk:=tk+1) (x:=.int k) (u:=.int k tk) kk hf ⟨tk,rfl⟩ rxu ((sb.2 _ (Nat.ne_of_gt elt)).trans gT);refine ⟨.ref s.heap.objs.size,_,J2,rfl,⟨_,x,rfl,nT,rfl,fun xs' q'=>by rw [J.sq_inj q' sx]; exact hx⟩,⟨⟨_,by simpa using gE2⟩,gS.1.move fun o t=>(sb.2 I (Ne.symm eI)).trans t⟩,fun a ha=>?_⟩;have t:=(hf a ha).1;have lt:a≠s.heap.objs.size:=by
   simp only [List.mem_cons,List.not_mem_nil,or_false] at ha;rcases ha with z | z<;>subst z
   ·exact Nat.ne_of_lt elt
   ·obtain ⟨o,t,_⟩:=hI.there; exact Nat.ne_of_lt (Heap.lt_size t)
  rw [As lt];exact t
 done:=by
  intro X hP hw hK hc k pins s σ H E J hf st hg;subst hP hw hK;obtain ⟨⟨old,he⟩,hI⟩:=st;obtain ⟨xs,sx,hend⟩:=hg;obtain ⟨us,ru,ou⟩:=J.sq sx;have lu:=ru.length;have ek:k=us.toArray.size:=by simp; lia
  refine wpAny_pyNext_enum_endD (Mi (b:=b) (A:=X.A.in1) (J.ok.hd hc) I l lI us.toArray) he ⟨ek ▸ hI,ou⟩ fun g gk=>⟨rfl,?_⟩
  exact J.turnedL (tk:=s.toks) (ch:=[e,I]) (fun a o ha t=>gk a o (fun z=>ha (by simp [z])) t) hf
 self:=fun A i s Q E st h=>by
  obtain ⟨⟨old,he⟩,_⟩:=st;exact wpAny_pyIter_enum he h
section
variable {X:Cx} {es:List Expr} {n:Nat} {tpos p pos:Pos} {e1 e2:Expr} {t:TA}
def iZip (b c:Bool) (K:PySem.W.Frag) (t:TA):TI:=fun σ H R=>t σ H fun vs H1=>∃ (l m:Addr),vs=[.ref l,.ref m]/\(∃ xs,SqX K b H1 l xs)/\(∃ ys,SqX K c H1 m ys)/\R (Itz K b c l m) H1
theorem Ep.lt {b:Bool} {h:Heap} {l:Addr} {vs:Array Value} (x:Ep b h l vs):l < h.objs.size:=by
 cases b with
 | true=>obtain ⟨o,e,_⟩:=x; exact Heap.lt_size e
 | false=>obtain ⟨o,e,_⟩:=x; exact Heap.lt_size e
theorem apart5 (n l m:Nat) (hl:l < n) (hm:m < n):Qp (n+4) (n+2) (n+3) n (n+1) l m:=by
 refine ⟨(show ([n+4,n+2,n+3,n,n+1]:List Nat).Nodup from ?_),(show l ∉ ([n+4,n+3,n,n+1]:List Nat) from ?_),(show m ∉ ([n+4,n+3,n,n+1]:List Nat) from ?_)⟩
 ·simp only [List.nodup_cons,List.mem_cons,List.not_mem_nil,or_false,not_or,List.nodup_nil,and_true,not_false_eq_true];lia
 ·simp only [List.mem_cons,List.not_mem_nil,or_false,not_or];lia
 ·simp only [List.mem_cons,List.not_mem_nil,or_false,not_or];lia
theorem OO (b c:Bool) (hg:Gl X "zip") (hm:X.mg "zip" = none) (ha:PA X [e1,e2] t) (hs:starEach [e1,e2] X.env=[(false,eval e1 X.env),(false,eval e2 X.env)]:=by rfl) (hs2:starEach [e2] X.env=[(false,eval e2 X.env)]:=by rfl) :
  PI X (.Tuple es n tpos) (.Call (.Name "zip" p) [e1,e2] [] pos) (iZip b c X.K t):=by
 intro pins s σ H R I h;refine Call_ (GF I hg hm PyProof.Rows.boot_zip (PyProof.Rows.callWith_type1 (thn (ha pos pins s σ H _ I h) fun us s1 ⟨vs,H1,I1,r1,q1⟩=>?_) (by rw [hs,hs2]) (by rw [hs2]; rfl)));obtain ⟨l,m,rfl,⟨xs,sx⟩,⟨ys,sy⟩,q⟩:=q1;obtain ⟨u,v,rfl,ru,rv⟩:=r1.two;cases (show u=Value.ref l from ru);cases (show v=Value.ref m from rv);obtain ⟨ul,_,ol⟩:=I1.sq sx;obtain ⟨um,_,om⟩:=I1.sq sy;refine callType_new F.called_zip (by decide) (F.typeCall_zip_2 _ _) (F.newCall_zip_2 _ _) (fun obj=>F.args_object_init_3 obj _ _) F.entry_zip_new (QI (b:=b) (c:=c) l m ul.toArray um.toArray) ⟨ol,om,fun g gZ gU gO gi gj gk=>?_⟩;refine ⟨⟨_,gZ,rfl⟩,wpAny_pyIter_zip (s:={ s1 with heap:=g }) gZ ?_⟩;have ll:=ol.lt;have lm:=om.lt;have hA:=apart5 s1.heap.objs.size l m ll lm;refine ⟨s1.heap.objs.size+4,_,_,_,H1,rfl,I1.kept (t':=s1.toks) gk,Rh hA,⟨gZ,gU,⟨_,_,gO⟩,gi,gj⟩,fun a ha=>?_,q⟩;have le:s1.heap.objs.size<=a:=by
  simp only [List.mem_cons,List.not_mem_nil,or_false] at ha;rcases ha with t | t | t | t | t<;>rw [t]<;>first | exact Nat.le_refl _ | exact Nat.le_add_right _ _
 exact I1.fpOk le (I1.hok.fresh le)
def iEnum (b:Bool) (K:PySem.W.Frag) (t:TA):TI:=fun σ H R=>t σ H fun vs H1=>∃ (l:Addr),vs=[.ref l]/\(∃ xs,SqX K b H1 l xs)/\R (Ite K b l) H1
theorem pi_enum (b:Bool) (hg:Gl X "enumerate") (hm:X.mg "enumerate" = none) (ha:PA X [e1] t) (hs:starEach [e1] X.env=[(false,eval e1 X.env)]:=by rfl) :
  PI X (.Tuple es n tpos) (.Call (.Name "enumerate" p) [e1] [] pos) (iEnum b X.K t):=by
 intro pins s σ H R I h;refine Call_ (GF I hg hm PyProof.Rows.boot_enumerate (PyProof.Rows.callWith_type1 (thn (ha pos pins s σ H _ I h) fun us s1 ⟨vs,H1,I1,r1,q1⟩=>?_) hs rfl));obtain ⟨l,rfl,⟨xs,sx⟩,q⟩:=q1;obtain ⟨u,rfl,ru⟩:=r1.one;cases (show u=Value.ref l from ru);obtain ⟨ul,_,ol⟩:=I1.sq sx;refine callType_new F.called_enumerate (by decide) (F.typeCall_enumerate_1 _) (F.newCall_enumerate_1 _) (fun obj=>F.args_object_init_2 obj _) F.entry_enumerate_new (OY (b:=b) l ul.toArray) ⟨ol,fun g gE gi gk=>?_⟩;refine ⟨⟨_,gE,rfl⟩,wpAny_pyIter_enum (s:={ s1 with heap:=g }) gE ?_⟩;have ll:=ol.lt;refine ⟨s1.heap.objs.size+1,_,_,_,H1,rfl,I1.kept (t':=s1.toks) gk,Qr (e:=s1.heap.objs.size+1) (I:=s1.heap.objs.size) (l:=l) (Nat.succ_ne_self _) (Nat.ne_of_lt (Nat.lt_succ_of_lt ll)) (Nat.ne_of_lt ll),⟨⟨_,gE⟩,gi⟩,fun a ha=>?_,q⟩;have le:s1.heap.objs.size<=a:=by
  simp only [List.mem_cons,List.not_mem_nil,or_false] at ha;rcases ha with t | t<;>rw [t]<;>first | exact Nat.le_refl _ | exact Nat.le_add_right _ _
 exact I1.fpOk le (I1.hok.fresh le)
end
section
variable {K:PySem.W.Frag} {b c:Bool} {l m:Addr} {xs ys:List V} {σ:St} {H:Hp}
theorem IE {K:PySem.W.Frag} {i j:Nat} {T:Addr} {x y:V} {σ:St} {H:Hp} {Q:St->Hp->Prop} (h:H T=some (.tup [x,y])) (q:Q ((σ.set i (some x)).set j (some y)) H):gTup K 2 (Od (Lq i) (Od (Lq j) gNil)) (.ref T) σ H Q :=
 ⟨T,_,rfl,SqT.of h,rfl,x,_,rfl,y,_,rfl,rfl,q⟩
theorem Sx {g:TG} {tb:TS} {D:Ju} (Pv:Nat->St->Hp->Prop) (h0:Pv 0 σ H) (hl:∀ i σ H,i<=xs.length->Pv i σ H->SqX K b H l xs)
  (hs:∀ i x σ H T,xs[i]?=some x->Pv i σ H->H T=none->g (.ref T) σ (upd H T (.tup [.int i,x])) fun σ2 H2=>tb { D with nx:=Pv (i+1),ct:=Pv (i+1),bk:=D.nx } σ2 H2) (hd:∀ σ H,Pv xs.length σ H->D.nx σ H) :
  ∃ W:Nat->Nat->St->Hp->Prop,(∃ m,W 0 m σ H)/\∀ i m σ H,W i m σ H ->
   ((Ite K b l).stop i H/\D.nx σ H)\/((Ite K b l).go i H/\∃ N:St->Hp->Prop,(∀ σ' H',N σ' H'->∃ m',m' < m/\W (i+1) m' σ' H')/\∀ x H',(Ite K b l).yld i H x H'->g x σ H' fun σ2 H2=>tb { D with nx:=N,ct:=N,bk:=D.nx } σ2 H2):=by
 refine ⟨fun i m σ H=>m=xs.length - i/\i<=xs.length/\Pv i σ H,⟨xs.length,by simp,Nat.zero_le _,h0⟩,?_⟩;rintro i m σ H ⟨rfl,hi,p⟩;have q:=hl i σ H hi p;by_cases hlt:i < xs.length
 ·refine .inr ⟨⟨xs,xs[i],q,by simp [hlt]⟩,Pv (i+1),fun σ' H' p'=>⟨xs.length - (i+1),by lia,rfl,hlt,p'⟩,fun x H' y=>?_⟩;obtain ⟨T,z,rfl,nT,rfl,hz⟩:=y;exact hs i z σ _ T (hz xs q) p nT
 ·have e:i=xs.length:=by lia
  subst e;exact .inl ⟨⟨xs,q,rfl⟩,hd σ H p⟩
theorem Qc {g:TG} {tb:TS} {D:Ju} (Pv:Nat->St->Hp->Prop) (h0:Pv 0 σ H) (hl:∀ i σ H,Pv i σ H->SqX K b H l xs/\SqX K c H m ys)
  (hs:∀ i x y σ H T,xs[i]?=some x->ys[i]?=some y->Pv i σ H->H T=none->g (.ref T) σ (upd H T (.tup [x,y])) fun σ2 H2=>tb { D with nx:=Pv (i+1),ct:=Pv (i+1),bk:=D.nx } σ2 H2) (hd:∀ σ H,Pv (min xs.length ys.length) σ H->D.nx σ H) :
  ∃ W:Nat->Nat->St->Hp->Prop,(∃ m,W 0 m σ H)/\∀ i n σ H,W i n σ H ->
   ((Itz K b c l m).stop i H/\D.nx σ H)\/((Itz K b c l m).go i H/\∃ N:St->Hp->Prop,(∀ σ' H',N σ' H'->∃ m',m' < n/\W (i+1) m' σ' H')/\∀ x H',(Itz K b c l m).yld i H x H'->g x σ H' fun σ2 H2=>tb { D with nx:=N,ct:=N,bk:=D.nx } σ2 H2):=by
 refine ⟨fun i n σ H=>n=min xs.length ys.length - i/\i<=min xs.length ys.length/\Pv i σ H,⟨min xs.length ys.length,by simp,Nat.zero_le _,h0⟩,?_⟩;rintro i n σ H ⟨rfl,hi,p⟩;obtain ⟨qx,qy⟩:=hl i σ H p;by_cases hlt:i < min xs.length ys.length
 ·have lx:i < xs.length:=by lia
  have ly:i < ys.length:=by lia
  refine .inr ⟨⟨xs,ys,xs[i],ys[i],qx,qy,by simp [lx],by simp [ly]⟩,Pv (i+1),fun σ' H' p'=>⟨min xs.length ys.length - (i+1),by lia,rfl,hlt,p'⟩,fun x H' y=>?_⟩;obtain ⟨T,z,z',rfl,nT,rfl,hz,hz'⟩:=y;exact hs i z z' σ _ T (hz xs qx) (hz' ys qy) p nT
 ·have e:i=min xs.length ys.length:=by lia
  subst e;exact .inl ⟨⟨xs,ys,qx,qy,by lia⟩,hd σ H p⟩
variable {k:Nat} {cs:List Nat} {g:TG} {tc:TT} {te:TE} {fin:List V->Hp->Prop}
theorem blk_zip (Pv:Nat->List V->Hp->Prop) (h0:Pv 0 [] H) (hl:∀ i acc H,Pv i acc H->SqX K b H l xs/\SqX K c H m ys)
  (hs:∀ i x y acc H T,xs[i]?=some x->ys[i]?=some y->Pv i acc H->H T=none->Bt k cs g tc te σ (.ref T) acc (upd H T (.tup [x,y])) (Pv (i+1))) (hd:∀ acc H,Pv (min xs.length ys.length) acc H->fin acc H):FU k cs g tc te (Itz K b c l m) σ H fin:=by
 refine ⟨fun i n acc H=>n=min xs.length ys.length - i/\i<=min xs.length ys.length/\Pv i acc H,⟨min xs.length ys.length,by simp,Nat.zero_le _,h0⟩,?_⟩;rintro i n acc H ⟨rfl,hi,p⟩;obtain ⟨qx,qy⟩:=hl i acc H p;by_cases hlt:i < min xs.length ys.length
 ·have lx:i < xs.length:=by lia
  have ly:i < ys.length:=by lia
  refine .inr ⟨⟨xs,ys,xs[i],ys[i],qx,qy,by simp [lx],by simp [ly]⟩,Pv (i+1),fun acc' H' p'=>⟨min xs.length ys.length - (i+1),by lia,rfl,hlt,p'⟩,fun x H' y=>?_⟩;obtain ⟨T,z,z',rfl,nT,rfl,hz,hz'⟩:=y;exact hs i z z' acc _ T (hz xs qx) (hz' ys qy) p nT
 ·have e:i=min xs.length ys.length:=by lia
  subst e;exact .inl ⟨⟨xs,ys,qx,qy,by lia⟩,hd acc H p⟩
theorem blk_str {x:Str} (Pv:Nat->List V->Hp->Prop) (h0:Pv 0 [] H) (hs:∀ i ch acc H,x.cps.toList[i]?=some ch->Pv i acc H->Bt k cs g tc te σ (.str ⟨#[ch]⟩) acc H (Pv (i+1))) (hd:∀ acc H,Pv x.cps.toList.length acc H->fin acc H):FU k cs g tc te (Its x) σ H fin:=by
 have e0:x.cps.toList.length=x.cps.size:=by simp
 refine ⟨fun i m acc H=>m=x.cps.size - i/\i<=x.cps.size/\Pv i acc H,⟨x.cps.size,by simp,Nat.zero_le _,h0⟩,?_⟩;rintro i m acc H ⟨rfl,hi,p⟩;by_cases hlt:i < x.cps.size
 ·refine .inr ⟨hlt,Pv (i+1),fun acc' H' p'=>⟨x.cps.size - (i+1),by lia,rfl,hlt,p'⟩,fun v H' y=>?_⟩;obtain ⟨e,ch,hch,rfl⟩:=y;subst e;exact hs i ch acc _ (by simpa using hch) p
 ·have e:i=x.cps.size:=by lia
  subst e;exact .inl ⟨rfl,hd acc H (by rw [e0]; exact p)⟩
end
end L2
namespace L2
open PySem PySem.Spec PyProof.Rows
theorem PE.or {X:Cx} {e:Expr} {t u:TE} (h:PE X e t) (h':PE X e u):PE X e (fun σ H Q=>t σ H Q\/u σ H Q):=by
 intro pins s σ H Q I q;rcases q with q | q
 ·exact h pins s σ H Q I q
 ·exact h' pins s σ H Q I q
theorem rm {a b:Nat} {A:Around} (h:Eg b A) (hle:a<=b:=by first | decide | lia):Eg a A:=h.mono hle
structure Cal (P:Program) (w:World) (K:PySem.W.Frag) (mg:Str->Option Value) (base:Heap) (CX:CXT) (k:Nat) (x:Str) (ps:List Str) (sp:Sp):Prop where
 ex:∃ (f:Addr) (fd:FuncData),AU P w K mg base CX k f fd ps sp/\mg x=some (.ref f)/\PySem.W.keepIn K (.ref f)=true/\FG K fd ps []
structure BK (P:Program) (w:World) (K:PySem.W.Frag) (mg:Str->Option Value) (base:Heap) (CX:CXT) (k:Nat) (C:Addr) (m:Str) (ps:List Str) (sp:Sp):Prop where
 ex:∃ (f:Addr) (fd:FuncData),AU P w K mg base CX k f fd ps sp/\Fg K C m f/\FG K fd ps []
 cl:Cls K C
structure IK (P:Program) (w:World) (K:PySem.W.Frag) (mg:Str->Option Value) (base:Heap) (CX:CXT) (k:Nat) (x:Str) (C:Addr) (ps:List Str) (sp:Sp):Prop where
 ex:∃ (f:Addr) (fd:FuncData),AU P w K mg base CX k f fd ps sp/\Mk K C f/\mg x=some (.ref C)/\FG K fd ps []
section
variable {X:Cx} {CX:CXT} {k:Nat} {C:Addr} {ps:List Str} {sp:Sp} {E:XK} {x m:Str} {p pos apos:Pos} {e o:Expr} {es:List Expr} {ta:TE} {t:TA}
theorem Az (c:Cal X.prog X.w X.K X.mg X.base CX k x ps sp) (hr:Eg k X.A) (hg:Gl X x) (hx:FF CX X E) (ha:PA X (e :: es) t) (hdb:(x == ("__debug__" : Str))=false:=by decide)
  (he:starEach (e :: es) X.env=(false,eval e X.env) :: starEach es X.env:=by rfl) (hpl:(backTo pos (starEach es X.env)).any (·.1)=false:=by rfl):PE X (.Call (.Name x p) (e :: es) [] pos) (tCall sp [] E t):=by
 obtain ⟨f,fd,F,hm,hk,hb⟩:=c.ex;exact pe_call F hr hg hm hk hb .nil hx ha hdb he hpl
theorem AF {pl:Sem Bool} (he:PE X o ta) (c:BK X.prog X.w X.K X.mg X.base CX k C m ps sp) (hr:Eg k X.A) (hx:FF CX X E) (ha:PA X (e :: es) t)
  (hst:starEach (e :: es) X.env=(false,eval e X.env) :: starEach es X.env:=by rfl) (hpl:(backTo pos (starEach es X.env)).any (·.1)=false:=by rfl)
  (ht:eval (.Call (.Attribute o m apos) (e :: es) [] pos) X.env=(do
   let ov <-eval o X.env; standAt apos.atName;let (f,first) <-holding [ov] (getMethod ov m pl); callWith pos f first (backTo pos (starEach (e :: es) X.env)) (backToKw pos (keywordEach [] X.env))):=by rfl):PE X (.Call (.Attribute o m apos) (e :: es) [] pos) (tMeth C m sp [] E ta t):=by
 obtain ⟨f,fd,F,hm,hb⟩:=c.ex;exact pe_meth he c.cl hm F hr hb .nil hx ha hst hpl ht
theorem GR (c:IK X.prog X.w X.K X.mg X.base CX k x C ps sp) (hr:Eg (k+1) X.A) (hg:Gl X x) (hx:FF CX X E) (ha:PA X (e :: es) t) (hdb:(x == ("__debug__" : Str))=false:=by decide)
  (he:starEach (e :: es) X.env=(false,eval e X.env) :: starEach es X.env:=by rfl) (hpl:(backTo pos (starEach es X.env)).any (·.1)=false:=by rfl):PE X (.Call (.Name x p) (e :: es) [] pos) (Pr C sp [] E t):=by
 obtain ⟨f,fd,F,M,hm,hb⟩:=c.ex;exact pe_make M F hr hg hm hb .nil hx ha hdb he hpl
theorem RP (c:IK X.prog X.w X.K X.mg X.base CX k x C ps sp) (hr:Eg (k+1) X.A) (hg:Gl X x) (hx:FF CX X E) (hdb:(x == ("__debug__" : Str))=false:=by decide):PE X (.Call (.Name x p) [] [] pos) (Pr C sp [] E Rj):=by
 obtain ⟨f,fd,F,M,hm,hb⟩:=c.ex;exact RN M F hr hg hm hb .nil hx hdb
theorem Ev {i:Int} (hg:Gl X x) (hm:∃ tk,X.mg x=some (.int i tk)) (hd:(x == ("__debug__" : Str))=false:=by decide):PE X (.Name x pos) (tC (.int i)):=by
 obtain ⟨tk,hm⟩:=hm;exact PM hg hm ⟨tk,rfl⟩ hd
theorem Jz {z:Str} (hg:Gl X x) (hm:∃ tk,X.mg x=some (.str z tk)) (hd:(x == ("__debug__" : Str))=false:=by decide):PE X (.Name x pos) (tC (.str z)):=by
 obtain ⟨tk,hm⟩:=hm;exact PM hg hm ⟨tk,rfl⟩ hd
end
def cOk (So:Scope) (No:List Str) (scope:Scope) (N:List Str) (k:Nat) (cs:List Nat):Bool :=
 scope.names.all (fun y=>y.2 != .cell) && (scope.kind == .function && (scope.names.all (fun y=>y.2 != .local || scope.names.lookup y.1 == some .local) && (scope.names.all (fun y=>y.2 != .free || (So.names.lookup y.1 == some .cell || So.names.lookup y.1 == some .free)) &&
  (N.length == k+cs.length && (List.range cs.length).all fun j=>match N[k+j]?,No[cs.getD j 0]? with
   | some x,some y=>x == y && scope.names.lookup x == some .free
   | _,_=>false))))
theorem Bn.of {X:Cx} {So:Scope} {No:List Str} {scope:Scope} {N:List Str} {k:Nat} {cs:List Nat} (hS:X.env.scope=So) (hN:X.N=No) (h:cOk So No scope N k cs=true):Bn X scope N k cs:=by
 subst hS hN;unfold cOk at h;simp only [Bool.and_eq_true,List.all_eq_true,bne_iff_ne,ne_eq,Bool.or_eq_true,beq_iff_eq,List.mem_range] at h;obtain ⟨h1,h2,h3,h4,h5,h6⟩:=h;refine ⟨h1,h2,fun y hy e=>?_,fun y hy e=>?_,h5,fun j hj=>?_⟩
 ·rcases h3 y hy with z | z
  ·exact absurd e z
  ·exact z
 ·rcases h4 y hy with z | z
  ·exact absurd e z
  ·exact z
 ·have z:=h6 j hj;split at z
  ·rename_i x y e1 e2;simp only [Bool.and_eq_true,beq_iff_eq] at z;obtain ⟨z1,z2⟩:=z;subst z1;exact ⟨x,e1,e2,z2⟩
  ·cases z
theorem FH {σ:St} {H:Hp} {A B:Hp->Prop} (h:A H):tYes σ H fun b H3=>if b=true then A H3 else B H3:=by
 show if true=true then A H else B H;exact EC h
section
variable {X:Cx} {scope:Scope} {N:List Str} {s:Shared} {H:Hp} {ex:List Addr} {x y:Str} {px py pos:Pos} {k:Nat}
theorem AV {i:Nat} (hN:N.Nodup) (hi:N[i]?=some x) (hl:(relabel scope X.env).names.lookup x=some .local):PG (cxC X scope N s H ex) (.Name x pos) (Lq i):=AQ (X:=cxC X scope N s H ex) hN hi (.inl hl) (.inr hl)
theorem RK {i j:Nat} (hc:X.calm=true) (hN:N.Nodup) (hi:N[i]?=some x) (hj:N[j]?=some y) (hl:(relabel scope X.env).names.lookup x=some .local) (hm:(relabel scope X.env).names.lookup y=some .local) :
  PG (cxC X scope N s H ex) (.Tuple [.Name x px,.Name y py] k pos) (gTup X.K 2 (Od (Lq i) (Od (Lq j) gNil))) :=
 FY (X:=cxC X scope N s H ex) hc (BJ (AV hN hi hl) (BJ (AV hN hj hm) Fl))
end
theorem AS.strs:∀ (l:List Str) (k:Nat),AS (l.map V.str) (strsFrom k l)
 | [],_=>.nil
 | x :: r,k=>.cons ⟨k,rfl⟩ (AS.strs r (k+1))
section
variable {X:Cx}
theorem NX:MtR X "str.split" (fun x xs H Q=>∃ a b,x=.str a/\xs=[.str b]/\(b.length == 0)=false/\a.length<=100000/\∀ p,H p=none->Q (.ref p) (upd H p (.lst ((Txt.split a b).map V.str)))):=by
 intro pins s σ H x xs v us Q I rx r h;obtain ⟨a,b,rfl,rfl,hb,ha,q⟩:=h;obtain ⟨t,rfl⟩:=rx;obtain ⟨u,rfl,hu⟩:=r.one;obtain ⟨tb,rfl⟩:=hu;have big:a.length+2<=sizeLine:=Nat.le_trans (Nat.add_le_add_right ha 2) (by decide);have fin:∀ (its:List Value) (tk:Nat),AS ((Txt.split a b).map V.str) its->EP X pins σ Q (.ref s.heap.objs.size) { s with heap:=s.heap.push { cls:=.type "list",data:=.seq its.toArray },toks:=tk }:=fun its tk hv =>
  ⟨.ref _,_,I.lnew (t':=tk) hv (by rw [List.length_map]; exact Nat.le_trans (split_le a b) big),rfl,q _ I.fresh⟩
 by_cases h1:(decide (a.length < b.length) || decide (Builtin.Str.strKind a < Builtin.Str.strKind b))=true
 ·refine call_meets F.slot_str_split (typeIs_str _ _ _) F.entry_str_split (F.args_str_split_2 _ _) (meets_str_split_cannot_occur a b t tb h1) ?_;refine fin _ s.toks ?_;unfold Txt.split;rw [if_pos h1];exact .cons ⟨t,rfl⟩ .nil
 ·have h1':=Bool.eq_false_iff.mpr h1;by_cases h2:(Builtin.Str.occurrences a b 0 a.length (a.length+1)).isEmpty=true
  ·refine call_meets F.slot_str_split (typeIs_str _ _ _) F.entry_str_split (F.args_str_split_2 _ _) (meets_str_split_not_found a b t tb h1' hb h2) ?_;refine fin _ s.toks ?_;unfold Txt.split;rw [if_neg h1,if_pos h2];exact .cons ⟨t,rfl⟩ .nil
  ·have e:Txt.split a b=Builtin.Str.partsBetween a (Builtin.Str.occurrences a b 0 a.length (a.length+1)) b.length:=by
    unfold Txt.split;rw [if_neg h1,if_neg h2]
   refine call_meets F.slot_str_split (typeIs_str _ _ _) F.entry_str_split (F.args_str_split_2 _ _) (meets_str_split_sep a b t tb h1' hb (Bool.eq_false_iff.mpr h2) (by lia) (by rw [<-e]; exact Nat.le_trans (split_le a b) big)) ?_;refine fin _ _ ?_;rw [e];exact AS.strs _ _
theorem MZ:MtR X "str.partition" (fun x xs H Q=>∃ a b,x=.str a/\xs=[.str b]/\(b.length == 0)=false/\a.length<=100000/\∀ p,H p=none->Q (.ref p) (upd H p (.tup [.str (Txt.partition a b).1,.str (Txt.partition a b).2.1,.str (Txt.partition a b).2.2]))):=by
 intro pins s σ H x xs v us Q I rx r h;obtain ⟨a,b,rfl,rfl,hb,ha,q⟩:=h;obtain ⟨t,rfl⟩:=rx;obtain ⟨u,rfl,hu⟩:=r.one;obtain ⟨tb,rfl⟩:=hu;have fin:∀ (its:List Value) (tk:Nat),AS [.str (Txt.partition a b).1,.str (Txt.partition a b).2.1,.str (Txt.partition a b).2.2] its->EP X pins σ Q (.ref s.heap.objs.size) { s with heap:=s.heap.push { cls:=.type "tuple",data:=.seq its.toArray },toks:=tk }:=fun its tk hv =>
  ⟨.ref _,_,I.laid (t':=tk) (o:=.tup [.str (Txt.partition a b).1,.str (Txt.partition a b).2.1,.str (Txt.partition a b).2.2]) (fun _ _ e=>Heap.get?_push_of_some _ e) (Nat.le_refl _) ⟨by show 3<=sizeLine; decide,its,hv,_,Heap.get?_push_size _ rfl,rfl,_,rfl⟩,rfl,q _ I.fresh⟩
 refine call_meets F.slot_str_partition (typeIs_str _ _ _) F.entry_str_partition (F.args_str_partition_2 _ _) (meets_str_partition a b t tb hb (Nat.le_trans ha (by decide))) ?_;show EP X pins σ Q _ _;cases e:Builtin.Str.occurrences a b 0 a.length 1 with
 | nil =>
  refine fin _ _ ?_;unfold Txt.partition;rw [e];exact .cons ⟨_,rfl⟩ (.cons ⟨_,rfl⟩ (.cons ⟨_,rfl⟩ .nil))
 | cons i l =>
  refine fin _ _ ?_;unfold Txt.partition;rw [e];exact .cons ⟨_,rfl⟩ (.cons ⟨_,rfl⟩ (.cons ⟨_,rfl⟩ .nil))
theorem AS.tstrs:∀ {l:List Str} {its:List Value},AS (l.map V.str) its->∃ ts:List (Str×Tok),its=strValues ts/\ts.map (·.1)=l
 | [],_,.nil=>⟨[],rfl,rfl⟩
 | x :: r,_,.cons ⟨t,e⟩ rr=>by
  obtain ⟨ts,e1,e2⟩:=AS.tstrs rr;subst e e1;exact ⟨(x,t) :: ts,rfl,by rw [List.map_cons,e2]⟩
theorem JA:MtR X "str.join" (fun x xs H Q=>∃ (sep:Str) (p:Addr) (l:List Str),x=.str sep/\xs=[.ref p]/\SqL X.K H p (l.map V.str)/\JoinOk sep l=true/\Q (.str (Str.join sep l)) H):=by
 intro pins s σ H x xs v us Q I rx r h;obtain ⟨sep,p,l,rfl,rfl,hl,hok,q⟩:=h;obtain ⟨t,rfl⟩:=rx;obtain ⟨u,rfl,hu⟩:=r.one;cases (show u=Value.ref p from hu);obtain ⟨its,rv,pl,_⟩:=I.list hl;obtain ⟨ts,rfl,e⟩:=AS.tstrs rv;refine SC.join (texts:=l) pl.isList e hok fun t' k=>⟨.str _,H,I.tok k,⟨t',rfl⟩,?_⟩
 have:Txt.join sep l=Str.join sep l:=StrLaws.glued_eq_join sep l;rw [this];exact q
theorem Oh (n:Int):∀ {ns:List Int} {its:List Value},AS (ns.map V.int) its->its.countP (fun y=>match y with | .int i _=>i == n | _=>false)=ns.countP (· == n)
 | [],_,.nil=>rfl
 | x :: r,_,.cons ⟨t,e⟩ rr=>by
  subst e;rw [List.countP_cons,List.countP_cons,Oh n rr]
theorem Rg {ns:List Int} {its:List Value} (h:AS (ns.map V.int) its) {y:Value} (hy:y ∈ its):∃ i t,y=.int i t:=by
 induction ns generalizing its with
 | nil=>cases h; simp at hy
 | cons n r ih =>
  cases h with
  | cons q qq =>
   obtain ⟨t,e⟩:=q;rcases List.mem_cons.mp hy with z | z
   ·exact ⟨n,t,z.trans e⟩
   ·exact ih qq z
theorem Sf:MtR X "list.count" (fun x xs H Q=>∃ (l:Addr) (ns:List Int) (n:Int),x=.ref l/\xs=[.int n]/\H l=some (.lst (ns.map V.int))/\Q (.int (ns.countP (· == n):Nat)) H):=by
 intro pins s σ H x xs v us Q I rx r h;obtain ⟨l,ns,n,rfl,rfl,hH,q⟩:=h;cases rx;obtain ⟨u,rfl,hu⟩:=r.one;obtain ⟨tk,rfl⟩:=hu;obtain ⟨z,its,k,rv,hl,e⟩:=I.lstM hH;refine call_meets F.slot_list_count ⟨_,e,rfl⟩ F.entry_list_count (F.args_list_count_2 _ _) (MeetsSeq.list_count l its.toArray k (.int n tk) (fun y=>match y with | .int i _=>i == n | _=>false) (fun y hy=>?_)) ⟨e,?_⟩
 ·obtain ⟨i,t,rfl⟩:=Rg rv (by simpa using hy);exact PySem.MeetsSeq.EqGives.int i n t tk
 ·refine ⟨.int _,H,I.tok _,⟨_,rfl⟩,?_⟩;have:(List.countP (fun y=>match y with | Value.int i _=>i == n | _=>false) its.toArray.toList)=ns.countP (· == n):=Oh n (by simpa using rv);rw [this];exact q
end
end L2
namespace L2
open PySem
section
variable {X:Cx} {es es':List Expr} {t t':TA} {pos:Pos}
theorem AN {i:Int} {j} (hr:PA X es t):PA X (.Constant (.int i) j pos :: es) (Jf (tC (.int i)) t):=Aa Af hr
theorem OP {z:Str} {j} (hr:PA X es t):PA X (.Constant (.str z) j pos :: es) (Jf (tC (.str z)) t):=Aa FZ hr
theorem MP (h:PA X es' t') (hr:PA X es t):PA X (.List es' pos :: es) (Jf (tLst t') t):=Aa (Bc h) hr
theorem Cf {x1} (h:PA X es' t') (hr:PA X es t):PA X (.Tuple es' x1 pos :: es) (Jf (tTup t') t):=Aa (JV h) hr
theorem Cp {op:Operator} {r:R2} {a b:Expr} {ta tb:TE} (ho:OpR X (binaryOp op) r) (ha:PE X a ta) (hb:PE X b tb) (hr:PA X es t):PA X (.BinOp a op b pos :: es) (Jf (tOp r ta tb) t):=Aa (AH ho ha hb) hr
theorem Ss {K:PySem.W.Frag} (h:X.K=K):IxR X (rIxL K):=h ▸ Au
end
end L2
namespace Nu
open PySem PySem.NumText PyProof.Rows
theorem ext {a b:Str} (h:a.cps.toList=b.cps.toList):a=b:=by
 obtain ⟨⟨l⟩⟩:=a;obtain ⟨⟨r⟩⟩:=b;cases h;rfl
theorem len (x:Str):x.length=x.cps.toList.length:=by simp [Str.length]
end Nu
namespace Tx
open PySem PySem.Builtin PySem.Builtin.Str PyProof.Rows
theorem Dd (a b:Str):(a ++ b).cps.toList=a.cps.toList ++ b.cps.toList:=cps_toList_append a b
def jl (sep:List Nat):List (List Nat)->List Nat
 | []=>[]
 | [x]=>x
 | x :: y :: r=>x ++ sep ++ jl sep (y :: r)
theorem EZ (sep:Str):∀ ts:List Str,(Str.join sep ts).cps.toList=jl sep.cps.toList (ts.map fun t=>t.cps.toList)
 | []=>rfl
 | [x]=>rfl
 | x :: y :: r=>by
  have e:Str.join sep (x :: y :: r)=x ++ sep ++ Str.join sep (y :: r):=rfl;rw [e,Dd,Dd,EZ sep (y :: r)];rfl
theorem Nl {c:Nat}:∀ {x y A B:List Nat},c ∉ x->c ∉ y->x ++ c :: A=y ++ c :: B->x=y/\A=B
 | [],[],A,B,_,_,h=>⟨rfl,by simpa using h⟩
 | [],y :: ys,A,B,_,hy,h=>by
  simp at h;exact absurd (by rw [h.1]; exact List.mem_cons_self) hy
 | x :: xs,[],A,B,hx,_,h=>by
  simp at h;exact absurd (by rw [<-h.1]; exact List.mem_cons_self) hx
 | x :: xs,y :: ys,A,B,hx,hy,h=>by
  simp at h;obtain ⟨e,h⟩:=h;obtain ⟨e2,e3⟩:=Nl (x:=xs) (y:=ys) (fun z=>hx (List.mem_cons_of_mem _ z)) (fun z=>hy (List.mem_cons_of_mem _ z)) h;exact ⟨by rw [e,e2],e3⟩
theorem Pe (c:Nat) (s:List Nat):∀ (as bs:List (List Nat)),as≠[]->bs≠[]->(∀ t ∈ as,c ∉ t)->(∀ t ∈ bs,c ∉ t)->jl (c :: s) as=jl (c :: s) bs->as=bs
 | [],_,h,_,_,_,_=>absurd rfl h
 | _,[],_,h,_,_,_=>absurd rfl h
 | [x],[y],_,_,_,_,e=>by
  have e':x=y:=e;rw [e']
 | [x],y :: z :: r,_,_,ha,_,e=>by
  have e':x=y ++ c :: s ++ jl (c :: s) (z :: r):=e;exact absurd (by rw [e']; simp) (ha x List.mem_cons_self)
 | x :: z :: r,[y],_,_,_,hb,e=>by
  have e':x ++ c :: s ++ jl (c :: s) (z :: r)=y:=e;exact absurd (by rw [<-e']; simp) (hb y List.mem_cons_self)
 | x :: x2 :: r,y :: y2 :: r',_,_,ha,hb,e=>by
  have e':x ++ c :: (s ++ jl (c :: s) (x2 :: r))=y ++ c :: (s ++ jl (c :: s) (y2 :: r')):=by
   have:x ++ c :: s ++ jl (c :: s) (x2 :: r)=y ++ c :: s ++ jl (c :: s) (y2 :: r'):=e
   simpa using this
  obtain ⟨e1,e2⟩:=Nl (ha x List.mem_cons_self) (hb y List.mem_cons_self) e';have e3:=List.append_cancel_left e2;rw [e1,Pe c s (x2 :: r) (y2 :: r') (by simp) (by simp) (fun t ht=>ha t (List.mem_cons_of_mem _ ht)) (fun t ht=>hb t (List.mem_cons_of_mem _ ht)) e3]
theorem Ma {as bs:List Str} (h:as.map (fun t=>t.cps.toList)=bs.map fun t=>t.cps.toList):as=bs:=by
 induction as generalizing bs with
 | nil=>cases bs with | nil=>rfl | cons=>simp at h
 | cons a r ih =>
  cases bs with
  | nil=>simp at h
  | cons b q =>
   simp at h;rw [Nu.ext (a:=a) (b:=b) (by simpa using h.1),ih (by simpa using h.2)]
theorem ND (c:Nat) (ts:List Str) (hne:ts≠[]) (hf:∀ t ∈ ts,c ∉ t.cps.toList):Txt.split (Str.join ⟨#[c]⟩ ts) ⟨#[c]⟩=ts:=by
 refine Ma (Pe c [] _ _ ?_ ?_ ?_ ?_ ?_)
 ·intro h;have:=split_pos (Str.join ⟨#[c]⟩ ts) ⟨#[c]⟩;have h2:(Txt.split (Str.join ⟨#[c]⟩ ts) ⟨#[c]⟩).length=0:=by simpa using congrArg List.length h
  omega
 ·simpa using hne
 ·intro t ht;obtain ⟨p,hp,rfl⟩:=List.mem_map.mp ht;exact StrLaws.split_free _ c p hp
 ·intro t ht;obtain ⟨p,hp,rfl⟩:=List.mem_map.mp ht;exact hf p hp
 ·have h:=congrArg (fun z:Str=>z.cps.toList) (StrLaws.join_split (Str.join ⟨#[c]⟩ ts) ⟨#[c]⟩);rw [EZ,EZ] at h;exact h
theorem part_at (c:Nat) (a b:Str) (h:c ∉ a.cps.toList):Txt.partition (a ++ ⟨#[c]⟩ ++ b) ⟨#[c]⟩=(a,⟨#[c]⟩,b):=by
 have hin:c ∈ (a ++ ⟨#[c]⟩ ++ b).cps.toList:=by rw [Dd,Dd]; simp
 have hs:=StrLaws.partition_sum (a ++ ⟨#[c]⟩ ++ b) ⟨#[c]⟩;have hh:=partition_head (a ++ ⟨#[c]⟩ ++ b) ⟨#[c]⟩;have ho:=StrLaws.found_one (a ++ ⟨#[c]⟩ ++ b) c;rw [decide_eq_true hin] at ho;have hp2:(Txt.partition (a ++ ⟨#[c]⟩ ++ b) ⟨#[c]⟩).2.1=⟨#[c]⟩:=by
  unfold Txt.partition;cases e:occurrences (a ++ ⟨#[c]⟩ ++ b) ⟨#[c]⟩ 0 (a ++ ⟨#[c]⟩ ++ b).length 1 with
  | nil=>rw [e] at ho; simp at ho
  | cons i l=>rfl
 have hp1:c ∉ (Txt.partition (a ++ ⟨#[c]⟩ ++ b) ⟨#[c]⟩).1.cps.toList:=by
  rcases hh with ⟨_,no⟩ | ⟨i,e,hA,no⟩
  ·obtain ⟨j,hj⟩:=List.getElem?_of_mem hin;exact absurd ((StrLaws.subAt_one _ c j).mpr hj) (no j)
  ·rw [e];exact StrLaws.part_free _ c 0 i (by have:i+1<=_:=hA.1; omega) fun k _ hk=>no k hk
 have e:(Txt.partition (a ++ ⟨#[c]⟩ ++ b) ⟨#[c]⟩).1.cps.toList ++ (Txt.partition (a ++ ⟨#[c]⟩ ++ b) ⟨#[c]⟩).2.1.cps.toList ++ (Txt.partition (a ++ ⟨#[c]⟩ ++ b) ⟨#[c]⟩).2.2.cps.toList=a.cps.toList ++ [c] ++ b.cps.toList:=by
  have e0:=congrArg (fun z:Str=>z.cps.toList) hs;rw [Dd,Dd,Dd,Dd] at e0;exact e0
 rw [hp2] at e;have e':(Txt.partition (a ++ ⟨#[c]⟩ ++ b) ⟨#[c]⟩).1.cps.toList ++ c :: (Txt.partition (a ++ ⟨#[c]⟩ ++ b) ⟨#[c]⟩).2.2.cps.toList=a.cps.toList ++ c :: b.cps.toList:=by simpa using e
 obtain ⟨e1,e2⟩:=Nl hp1 h e';exact Prod.ext (Nu.ext e1) (Prod.ext hp2 (Nu.ext e2))
theorem GK {n:Int} (h0:0<=n) (h1:n<=9):(Str.ofString (toString n))=(⟨#[48+n.toNat]⟩:Str):=by
 obtain ⟨m,rfl⟩:=Int.eq_ofNat_of_zero_le h0;exact (show ∀ m:Nat,m < 10->(Str.ofString (toString (m:Int)))=(⟨#[48+(m:Int).toNat]⟩:Str) by decide +kernel) m (by omega)
end Tx
namespace Tx
open PySem PySem.Builtin PySem.Builtin.Str PyProof.Rows
theorem Pd:∀ ts:List (List Nat),jl [] ts=ts.flatten
 | []=>rfl
 | [x]=>by simp [jl]
 | x :: y :: r=>by
  show x ++ [] ++ jl [] (y :: r)=_;rw [Pd (y :: r)];simp
theorem Qd (sep:Str) (m:Nat):∀ (l:List Str) (acc:Nat),(∀ t ∈ l,t.length<=m)->l.foldl (fun a t=>a+t.length+sep.length) acc<=acc+l.length * (m+sep.length)
 | [],acc,_=>by simp
 | t :: r,acc,h=>by
  have h1:=h t List.mem_cons_self;have h2:=Qd sep m r (acc+t.length+sep.length) fun z hz=>h z (List.mem_cons_of_mem _ hz);rw [List.foldl_cons,List.length_cons,Nat.succ_mul];omega
theorem JD {sep:Str} {l:List Str} (m:Nat) (h:∀ t ∈ l,t.length<=m) (hs:l.length * (m+sep.length)<=100000):JoinOk sep l=true:=by
 unfold JoinOk;have h2:=Qd sep m l 0 h;have e:l.toArray.foldl (fun a t=>a+t.length+sep.length) 0=l.foldl (fun a t=>a+t.length+sep.length) 0:=by simp
 rw [e];have:tooLong (l.foldl (fun a t=>a+t.length+sep.length) 0)=false:=by
  unfold tooLong;refine decide_eq_false ?_;have:(100000:Nat)<=sizeLine:=by decide
  omega
 rw [this];rfl
theorem app_len (a b:Str):(a ++ b).length=a.length+b.length:=by
 rw [Nu.len,Nu.len,Nu.len,Dd,List.length_append]
end Tx
namespace Tx
open PySem PySem.Builtin PySem.Builtin.Str PyProof.Rows
theorem SK (x:Str) (c d k:Nat) (h1:x.cps.toList[k]?=some c) (h2:x.cps.toList[k+1]?=some d):StrLaws.At x ⟨#[c,d]⟩ x.length k:=by
 have l:k+1 < x.cps.toList.length:=(List.getElem?_eq_some_iff.mp h2).1;refine ⟨?_,?_⟩
 ·show k+2<=x.length;rw [Nu.len];omega
 ·rw [StrLaws.subAt_eq];show ((x.cps.toList.drop k).take 2 == [c,d])=true;have e1:x.cps.toList.drop k=c :: d :: x.cps.toList.drop (k+2):=by
   rw [List.drop_eq_getElem_cons (by omega),(List.getElem?_eq_some_iff.mp h1).2,List.drop_eq_getElem_cons l,(List.getElem?_eq_some_iff.mp h2).2]
  rw [e1];simp
def Led (c d:Nat) (l:List Nat):Prop:=∀ k:Nat,l[k]?=some c->l[k+1]?=some d
theorem La {x:Str} {c d a b:Nat} (hx:Led c d x.cps.toList) (hb:b<=x.length) (hn:∀ k,a<=k->k < b->¬ StrLaws.At x ⟨#[c,d]⟩ x.length k):c ∉ (strSub x a b).cps.toList:=by
 intro hm;rw [StrLaws.strSub_toList] at hm;obtain ⟨j,hj⟩:=List.getElem?_of_mem hm;have hlt:j < b - a:=by
  have h1:j < ((x.cps.toList.drop a).take (b - a)).length:=(List.getElem?_eq_some_iff.mp hj).1;rw [List.length_take] at h1;omega
 rw [List.getElem?_take_of_lt hlt,List.getElem?_drop] at hj;exact hn (a+j) (by omega) (by omega) (SK x c d (a+j) hj (hx _ hj))
theorem Jh {x:Str} {c d:Nat} (hx:Led c d x.cps.toList):∀ (cuts:List Nat) (a f:Nat),StrLaws.ChainG x ⟨#[c,d]⟩ x.length a cuts f->(∀ k,f<=k->¬ StrLaws.At x ⟨#[c,d]⟩ x.length k)->∀ p ∈ StrLaws.partsFrom x 2 a cuts,c ∉ p.cps.toList
 | [],a,f,h,hn,p,hp=>by
  have e:f=a:=h;subst e;rw [List.mem_singleton.mp hp];exact La hx (Nat.le_refl _) fun k h1 _=>hn k h1
 | g :: r,a,f,h,hn,p,hp=>by
  rcases List.mem_cons.mp hp with rfl | hp'
  ·exact La hx (by have:g+2<=_:=h.2.1.1; omega) h.2.2.1
  ·exact Jh hx r _ f h.2.2.2 hn p hp'
theorem kind_le (x:Str):¬ Builtin.Str.strKind x < Builtin.Str.strKind (⟨#[59,32]⟩:Str):=by
 have e:Builtin.Str.strKind (⟨#[59,32]⟩:Str)=1:=by simp [Builtin.Str.strKind]
 rw [e];unfold Builtin.Str.strKind;split
 ·decide
 ·split<;>decide
theorem NE {x:Str} (hx:Led 59 32 x.cps.toList):∀ p ∈ Txt.split x ⟨#[59,32]⟩,59 ∉ p.cps.toList:=by
 obtain ⟨f,hG,hn⟩:=StrLaws.occ_tight x ⟨#[59,32]⟩ (by decide);have whole:59 ∈ x.cps.toList->∃ k,StrLaws.At x ⟨#[59,32]⟩ x.length k:=fun hm=>by
  obtain ⟨j,hj⟩:=List.getElem?_of_mem hm;exact ⟨j,SK x 59 32 j hj (hx j hj)⟩
 unfold Txt.split;split
 ·rename_i hc;intro p hp;rw [List.mem_singleton.mp hp];intro hm;obtain ⟨k,hk⟩:=whole hm;have h2:k+2<=x.length:=hk.1;rw [Bool.or_eq_true,decide_eq_true_eq,decide_eq_true_eq] at hc;rcases hc with h | h
  ·have h3:x.length < 2:=h;omega
  ·exact kind_le x h
 ·split
  ·rename_i he;intro p hp;rw [List.mem_singleton.mp hp];intro hm;obtain ⟨k,hk⟩:=whole hm;rw [List.isEmpty_iff.mp he] at hG;have ef:f=0:=hG;exact hn k (by omega) hk
  ·rw [StrLaws.partsBetween_eq];exact Jh hx _ 0 f hG hn
theorem Si {c d:Nat} (hcd:c≠d):∀ ts:List (List Nat),(∀ t ∈ ts,c ∉ t)->Led c d (jl [c,d] ts)
 | [],_=>fun k h=>by simp [jl] at h
 | [x],hf=>fun k h=>absurd (List.mem_of_getElem? (show x[k]?=some c from h)) (hf x List.mem_cons_self)
 | x :: y :: r,hf=>fun k h=>by
  have ih:=Si hcd (y :: r) fun t ht=>hf t (List.mem_cons_of_mem _ ht);have e:jl [c,d] (x :: y :: r)=x ++ (c :: d :: jl [c,d] (y :: r)):=by
   show x ++ [c,d] ++ jl [c,d] (y :: r)=_;simp
  rw [e] at h ⊢;by_cases h1:k < x.length
  ·rw [List.getElem?_append_left h1] at h;exact absurd (List.mem_of_getElem? h) (hf x List.mem_cons_self)
  ·rw [List.getElem?_append_right (by omega)] at h;rw [List.getElem?_append_right (by omega)];obtain ⟨m,hm⟩:∃ m,k - x.length=m:=⟨_,rfl⟩
   rw [show k+1 - x.length=m+1 by omega];rw [hm] at h;cases m with
   | zero=>rfl
   | succ m =>
    cases m with
    | zero =>
     have:some d=some c:=h;exact absurd (Option.some.inj this).symm hcd
    | succ m =>
     rw [List.getElem?_cons_succ,List.getElem?_cons_succ] at h ⊢;exact ih m h
theorem NC (ts:List Str) (hne:ts≠[]) (hf:∀ t ∈ ts,59 ∉ t.cps.toList):Txt.split (Str.join ⟨#[59,32]⟩ ts) ⟨#[59,32]⟩=ts:=by
 have led:Led 59 32 (Str.join ⟨#[59,32]⟩ ts).cps.toList:=by
  rw [EZ];refine Si (by decide) _ fun t ht=>?_;obtain ⟨p,hp,rfl⟩:=List.mem_map.mp ht;exact hf p hp
 refine Ma (Pe 59 [32] _ _ ?_ ?_ ?_ ?_ ?_)
 ·intro h;have:=split_pos (Str.join ⟨#[59,32]⟩ ts) ⟨#[59,32]⟩;have h2:(Txt.split (Str.join ⟨#[59,32]⟩ ts) ⟨#[59,32]⟩).length=0:=by simpa using congrArg List.length h
  omega
 ·simpa using hne
 ·intro t ht;obtain ⟨p,hp,rfl⟩:=List.mem_map.mp ht;exact NE led p hp
 ·intro t ht;obtain ⟨p,hp,rfl⟩:=List.mem_map.mp ht;exact hf p hp
 ·have h:=congrArg (fun z:Str=>z.cps.toList) (StrLaws.join_split (Str.join ⟨#[59,32]⟩ ts) ⟨#[59,32]⟩);rw [EZ,EZ] at h;exact h
end Tx
namespace L2
open PySem PySem.Spec PyProof.Rows
section
variable {X:Cx}
theorem SJ (hc:X.calm=true):GN X (.builtin "any") (fun xs H Q=>∃ (p:Addr) (bs:List Bool),xs=[.ref p]/\SqL X.K H p (bs.map V.bl)/\Q (.bl (bs.any id)) H):=by
 intro pins s σ H xs us Q I r h;obtain ⟨p,bs,rfl,hq,q⟩:=h;cases r with
 | cons r1 r2 =>
  cases r2;cases (show _=Value.ref p from r1);obtain ⟨its,rv,pl,hz⟩:=I.list hq;have hne:p≠s.heap.objs.size:=Nat.ne_of_lt (by obtain ⟨o,n,e,_⟩:=pl; exact Heap.lt_size e);refine call_any_walk (wpAny_pyIter_list pl.isList ?_);have vals:∀ (i:Nat) v,its[i]?=some v->∃ b,bs[i]?=some b/\v=.bool b:=fun i v e=>by
   cases eb:bs[i]? with
   | none =>
    have:its[i]?=none:=rv.none_of (by rw [List.getElem?_map,eb]; rfl);rw [e] at this;cases this
   | some b =>
    obtain ⟨u,hu,ru⟩:=rv.get (i:=i) (x:=V.bl b) (by rw [List.getElem?_map,eb]; rfl);rw [e] at hu;cases hu;exact ⟨b,rfl,ru⟩
  refine ⟨s.heap.objs.size,_,_,_,_,_,fun i=>bs.getD i false,rfl,Walks.list (A:=X.A.in1) (I.ok.hd hc) s.heap.objs.size p hne its.toArray,⟨⟨_,Heap.get?_push_size _ rfl,rfl,rfl⟩,?_⟩,?_,?_⟩
  ·exact pl.isList.at fun o e=>Heap.get?_push_of_some _ e
  ·intro i v s2 Q2 E2 hP hQ;obtain ⟨b,eb,rfl⟩:=vals i v (by simpa using hP);have e2:bs.getD i false=b:=by rw [List.getD_eq_getElem?_getD,eb]; rfl
   have hQ:Q2 (bs.getD i false) s2:=hQ;rw [e2] at hQ;exact wpAny_truthy_bool hQ
  ·intro h' tk kk;have I2:Inv X pins σ H { s with heap:=h',toks:=tk }:=I.kept fun b o e=>kk b o (by intro z; exact Nat.ne_of_lt (Heap.lt_size e) (by simpa using z)) (Heap.get?_push_of_some _ e);have len:its.toArray.size=bs.length:=by rw [List.size_toArray,<-rv.length,List.length_map]
   have e3:(List.range its.toArray.size).any (fun i=>bs.getD i false)=bs.any id:=by
    rw [len,Bool.eq_iff_iff,List.any_eq_true,List.any_eq_true];constructor
    ·rintro ⟨i,hi,e⟩;have hi':=List.mem_range.mp hi;rw [List.getD_eq_getElem?_getD,List.getElem?_eq_getElem hi'] at e;exact ⟨_,List.getElem_mem hi',e⟩
    ·rintro ⟨b,hb,e⟩;obtain ⟨i,hi,e2⟩:=List.mem_iff_getElem.mp hb;refine ⟨i,List.mem_range.mpr hi,?_⟩;rw [List.getD_eq_getElem?_getD,List.getElem?_eq_getElem hi,e2];exact e
   rw [e3];exact ⟨.bl _,H,I2,rfl,q⟩
theorem MO {K:PySem.W.Frag} {e:Expr} {f:Str} {ta:TE} {pos:Pos} (hK:X.K=K) (he:PE X e ta) (hb:attributeBase e f X.env (eval e X.env)=eval e X.env):PE X (.Attribute e f pos) (tFld K ta f):=hK ▸ AG he hb
end
end L2
namespace L2
open PySem PySem.Spec PyProof.Rows
section
variable {X:Cx}
end
end L2
namespace L2
open PySem PySem.Spec PyProof.Rows
section
variable {X:Cx}
end
section
variable {prog:Program} {w:World} {κ:Type} [DecidableEq κ] {knd:HeapKind prog w κ} {A:Around} {E:Value->Shared->Prop} {s:Shared}
end
section
variable {X:Cx} {pins:List (Addr×Obj)} {σ:St} {H:Hp} {s:Shared} {a:Addr} {y v:V} {u r:Value} {o:Option V} {A:Around} {E:Value->Shared->Prop}
end
section
variable {X:Cx} {o e f:Expr} {apos cpos:Pos} {td ty tx:TE}
end
end L2
namespace L2
open PySem PySem.Spec PyProof.Rows
section
variable {prog:Program} {w:World} {A:Around} {E:Value->Shared->Prop} {s:Shared} {d it:Addr} {o:Obj} {es:Array DictEntry} {ep i:Nat}
end
end L2
namespace L2
open PySem PySem.W PySem.Spec PyProof.Rows
end L2
namespace L2
open PySem PySem.Spec PyProof.Rows
section
variable {X:Cx} {CX:CXT} {k:Nat} {ps:List Str} {sp:Sp} {E:XK} {x:Str} {p pos:Pos} {e:Expr} {es:List Expr} {t:TA} {S:St->Prop}
end
section
variable {X:Cx}
end
end L2
namespace L2
open PySem PySem.Spec PyProof.Rows
section
variable {X:Cx}
end
end L2
namespace L2
open PySem PySem.Spec PyProof.Rows
section
variable {X:Cx}
theorem Qw (hu:X.A.units+64 < cLine):OpR X (compareOp .NotEq) (fun x y H Q=>∃ (a b:Addr) (xs:List V),x=.ref a/\y=.ref b/\SqL X.K H a xs/\SqL X.K H b []/\Q (.bl (!decide (xs.length=0))) H):=by
 intro pins s σ H x y v u Q I rx ry h;obtain ⟨a,b,xs,rfl,rfl,h1,h2,q⟩:=h;cases rx;cases ry;obtain ⟨is,r1,p1,_⟩:=I.list h1;obtain ⟨ys,r2,p2,_⟩:=I.list h2;cases r2;have hl:=r1.length;cases xs with
 | nil =>
  cases r1;exact PySem.SeqAt.RcNeAt.lists (e:=fun _=>true) p1.isList p2.isList rfl (by lia) (fun j h1 h2=>absurd h1 (Nat.not_lt_zero _)) _ _ _ _ ⟨.bl _,H,I,rfl,q⟩
 | cons x xs =>
  cases is with
  | nil=>cases hl
  | cons i is=>exact PySem.SeqAt.RcNeAt.lists_lengths p1.isList p2.isList rfl (by lia) _ _ _ _ ⟨.bl _,H,I,rfl,q⟩
end
end L2
namespace L2
open PySem PySem.Spec PyProof.Rows
section
variable {X:Cx}
theorem NN {K:PySem.W.Frag} {tg l:Expr} {tl:TE} (h:X.K=K) (hl:PE X l tl):PI X tg l (iList K tl):=h ▸ BB hl
theorem RC {K:PySem.W.Frag} (h:X.K=K):SlR X (rSlL K):=h ▸ FJ
end
end L2
namespace J
open PySem L2
def top (i:Nat):Stmt:=PySem.Challenge.pw_jumpfield_k52_squares_of_levels_3_and_4.main.body.getD i (.Pass ⟨0,0,0,0⟩)
abbrev EF:Stmt:=top 10
abbrev OU:List Str:=["thing"]
abbrev Ed:List Str:=["thing"]
theorem NF:Ay OU Ed (Ag EF):=⟨rfl,rfl,rfl,by decide +kernel,rfl,by decide +kernel,by decide +kernel⟩
abbrev EG:Stmt:=top 17
abbrev OV:List Str:=["thing"]
abbrev Fx:List Str:=["thing"]
theorem NG:Ay OV Fx (Ag EG):=⟨rfl,rfl,rfl,by decide +kernel,rfl,by decide +kernel,by decide +kernel⟩
abbrev GP:Stmt:=top 18
abbrev kB:List Str:=["wanted","state"]
abbrev GT:List Str:=["wanted","state"]
theorem RE:Ay kB GT (Ag GP):=⟨rfl,rfl,rfl,by decide +kernel,rfl,by decide +kernel,by decide +kernel⟩
abbrev Cw:Stmt:=top 22
abbrev Ib:List Str:=["text","words","cell","conditions"]
abbrev DV:List Str:=["text"]
theorem Es:Ay Ib DV (Ag Cw):=⟨rfl,rfl,rfl,by decide +kernel,rfl,by decide +kernel,by decide +kernel⟩
abbrev DJ:Stmt:=top 23
abbrev MS:List Str:=["word"]
abbrev Da:List Str:=["word"]
theorem LG:Ay MS Da (Ag DJ):=⟨rfl,rfl,rfl,by decide +kernel,rfl,by decide +kernel,by decide +kernel⟩
abbrev Dh:Stmt:=top 24
abbrev LJ:List Str:=["word"]
abbrev Dm:List Str:=["word"]
theorem JK:Ay LJ Dm (Ag Dh):=⟨rfl,rfl,rfl,by decide +kernel,rfl,by decide +kernel,by decide +kernel⟩
abbrev BU:Stmt:=top 25
abbrev IT:List Str:=["word"]
abbrev CO:List Str:=["word"]
theorem Ik:Ay IT CO (Ag BU):=⟨rfl,rfl,rfl,by decide +kernel,rfl,by decide +kernel,by decide +kernel⟩
abbrev CF:Stmt:=top 26
abbrev Lg:List Str:=["word","parts"]
abbrev Dy:List Str:=["word"]
theorem Ge:Ay Lg Dy (Ag CF):=⟨rfl,rfl,rfl,by decide +kernel,rfl,by decide +kernel,by decide +kernel⟩
abbrev CD:Stmt:=top 27
abbrev Lf:List Str:=["signs","numbers","sign"]
abbrev Dx:List Str:=["signs"]
theorem Fb:Ay Lf Dx (Ag CD):=⟨rfl,rfl,rfl,by decide +kernel,rfl,by decide +kernel,by decide +kernel⟩
abbrev Cv:Stmt:=top 28
abbrev Ia:List Str:=["word"]
abbrev DU:List Str:=["word"]
theorem JL:Ay Ia DU (Ag Cv):=⟨rfl,rfl,rfl,by decide +kernel,rfl,by decide +kernel,by decide +kernel⟩
abbrev CG:Stmt:=top 35
abbrev Lh:List Str:=["text"]
abbrev Dz:List Str:=["text"]
theorem Jo:Ay Lh Dz (Ag CG):=⟨rfl,rfl,rfl,by decide +kernel,rfl,by decide +kernel,by decide +kernel⟩
abbrev Eh:Stmt:=top 36
abbrev NU:List Str:=["text","rule"]
abbrev ET:List Str:=["text"]
theorem Ij:Ay NU ET (Ag Eh):=⟨rfl,rfl,rfl,by decide +kernel,rfl,by decide +kernel,by decide +kernel⟩
abbrev EI:Stmt:=top 37
abbrev OX:List Str:=["rule","cell","around","number","clause"]
abbrev Fy:List Str:=["rule","cell","around"]
theorem Gq:Ay OX Fy (Ag EI):=⟨rfl,rfl,rfl,by decide +kernel,rfl,by decide +kernel,by decide +kernel⟩
abbrev Fp:Stmt:=top 38
abbrev QG:List Str:=["rule","cell","around","number"]
abbrev Fs:List Str:=["rule","cell","around"]
theorem JM:Ay QG Fs (Ag Fp):=⟨rfl,rfl,rfl,by decide +kernel,rfl,by decide +kernel,by decide +kernel⟩
abbrev DI:Stmt:=top 39
abbrev MR:List Str:=["rule"]
abbrev Ew:List Str:=["rule"]
theorem LF:Ay MR Ew (Ag DI):=⟨rfl,rfl,rfl,by decide +kernel,rfl,by decide +kernel,by decide +kernel⟩
abbrev DK:Stmt:=top 42
abbrev MT:List Str:=["grove","square","parts","a","b","c","d"]
abbrev Db:List Str:=["grove","square"]
theorem Df:Ay MT Db (Ag DK):=⟨rfl,rfl,rfl,by decide +kernel,rfl,by decide +kernel,by decide +kernel⟩
abbrev EH:Stmt:=top 43
abbrev OW:List Str:=["nine"]
abbrev Ee:List Str:=["nine"]
theorem NH:Ay OW Ee (Ag EH):=⟨rfl,rfl,rfl,by decide +kernel,rfl,by decide +kernel,by decide +kernel⟩
abbrev BC:Stmt:=top 44
abbrev GY:List Str:=["grove","four","parts"]
abbrev BD:List Str:=["grove","four"]
theorem EO:Ay GY BD (Ag BC):=⟨rfl,rfl,rfl,by decide +kernel,rfl,by decide +kernel,by decide +kernel⟩
abbrev Fq:Stmt:=top 47
abbrev QH:List Str:=["_law_script","_law_k"]
abbrev Ft:List Str:=["_law_script","_law_k"]
theorem OM:Ay QH Ft (Ag Fq):=⟨rfl,rfl,rfl,by decide +kernel,rfl,by decide +kernel,by decide +kernel⟩
abbrev Ej:Stmt:=top 48
abbrev NW:List Str:=["_law_found","_law_due_here"]
abbrev Em:List Str:=["_law_found","_law_due_here"]
theorem MJ:Ay NW Em (Ag Ej):=⟨rfl,rfl,rfl,by decide +kernel,rfl,by decide +kernel,by decide +kernel⟩
abbrev Ei:Stmt:=top 49
abbrev NV:List Str:=["_law_cell","_law_k","_law_value"]
abbrev El:List Str:=["_law_cell","_law_k"]
theorem FW:Ay NV El (Ag Ei):=⟨rfl,rfl,rfl,by decide +kernel,rfl,by decide +kernel,by decide +kernel⟩
abbrev BV:Stmt:=top 50
abbrev IU:List Str:=["_law_cell","_law_few","_law_taken","_law_amounts","_law_k","_law_wishes","_law_place"]
abbrev CP:List Str:=["_law_cell","_law_few"]
theorem Bx:Ay IU CP (Ag BV):=⟨rfl,rfl,rfl,by decide +kernel,rfl,by decide +kernel,by decide +kernel⟩
abbrev Du:Stmt:=top 51
abbrev Jm:List Str:=["_law_clause","_law_cell","_law_around","_law_state","_law_mask","_law_many","_law_place"]
abbrev EX:List Str:=["_law_clause","_law_cell","_law_around"]
theorem DH:Ay Jm EX (Ag Du):=⟨rfl,rfl,rfl,by decide +kernel,rfl,by decide +kernel,by decide +kernel⟩
abbrev CJ:Stmt:=top 52
abbrev Ll:List Str:=["_law_clauses","_law_cell","_law_around","_law_clause"]
abbrev CQ:List Str:=["_law_clauses","_law_cell","_law_around"]
theorem Gf:Ay Ll CQ (Ag CJ):=⟨rfl,rfl,rfl,by decide +kernel,rfl,by decide +kernel,by decide +kernel⟩
abbrev CW:Stmt:=top 53
abbrev IB:List Str:=["_law_clause","_law_words_here","_law_state","_law_mask","_law_signs","_law_place"]
abbrev Ex:List Str:=["_law_clause"]
theorem Cu:Ay IB Ex (Ag CW):=⟨rfl,rfl,rfl,by decide +kernel,rfl,by decide +kernel,by decide +kernel⟩
abbrev Ds:Stmt:=top 54
abbrev Jk:List Str:=["_law_clauses"]
abbrev EV:List Str:=["_law_clauses"]
theorem MI:Ay Jk EV (Ag Ds):=⟨rfl,rfl,rfl,by decide +kernel,rfl,by decide +kernel,by decide +kernel⟩
abbrev Bz:Stmt:=top 55
abbrev FL:List Str:=["_law_cells","_law_few","_law_clauses"]
abbrev Cq:List Str:=["_law_cells","_law_few"]
theorem Eb:Ay FL Cq (Ag Bz):=⟨rfl,rfl,rfl,by decide +kernel,rfl,by decide +kernel,by decide +kernel⟩
abbrev CI:Stmt:=top 56
abbrev Lj:List Str:=["_law_script","_law_wide","_law_few","_law_share","_law_grid","_law_y","_law_cell","_law_row","_law_x","_law_state"]
abbrev DB:List Str:=["_law_script","_law_wide","_law_few"]
theorem Bj:Ay Lj DB (Ag CI):=⟨rfl,rfl,rfl,by decide +kernel,rfl,by decide +kernel,by decide +kernel⟩
abbrev Dt:Stmt:=top 57
abbrev Jl:List Str:=["_law_grove","_law_grid","_law_rows","_law_above","_law_y","_law_made","_law_x"]
abbrev EW:List Str:=["_law_grove","_law_grid"]
theorem CV:Ay Jl EW (Ag Dt):=⟨rfl,rfl,rfl,by decide +kernel,rfl,by decide +kernel,by decide +kernel⟩
abbrev Dr:Stmt:=top 58
abbrev Jj:List Str:=["_law_grove","_law_square","_law_level","_law_rows","_law_k","_law_below","_law_row","_law_upper","_law_lower","_law_one","_law_four"]
abbrev EU:List Str:=["_law_grove","_law_square","_law_level"]
theorem Bb:Ay Jj EU (Ag Dr):=⟨rfl,rfl,rfl,by decide +kernel,rfl,by decide +kernel,by decide +kernel⟩
abbrev CH:Stmt:=top 59
abbrev Li:List Str:=["_law_clauses","_law_grid","_law_after","_law_y","_law_row","_law_x","_law_around"]
abbrev DA:List Str:=["_law_clauses","_law_grid"]
theorem BE:Ay Li DA (Ag CH):=⟨rfl,rfl,rfl,by decide +kernel,rfl,by decide +kernel,by decide +kernel⟩
abbrev Ec:Stmt:=top 60
abbrev Lk:List Str:=["_law_clauses","_law_grid","_law_e","_law_wide","_law_k","_law_edge"]
abbrev Fz:List Str:=["_law_clauses","_law_grid","_law_e"]
theorem EQ:Ay Lk Fz (Ag Ec):=⟨rfl,rfl,rfl,by decide +kernel,rfl,by decide +kernel,by decide +kernel⟩
abbrev DL:Stmt:=top 61
abbrev MU:List Str:=["_law_grove","_law_made","_law_level","_law_due_here","_law_found","_law_row","_law_other","_law_one","_law_state"]
abbrev Ey:List Str:=["_law_grove","_law_made","_law_level","_law_due_here"]
theorem Dg:Ay MU Ey (Ag DL):=⟨rfl,rfl,rfl,by decide +kernel,rfl,by decide +kernel,by decide +kernel⟩
abbrev Gr:Stmt:=top 62
abbrev Se:List Str:=["_law_script","_law_grove","_law_few","_law_clauses","_law_many","_law_others","_law_first","_law_second","_law_level","_law_steps","_law_grid","_law_square","_law_rows","_law_e","_law_made","_law_turned"]
abbrev p_law:List Str:=["_law_script"]
theorem Ct:Ay Se p_law (Ag Gr):=⟨rfl,rfl,rfl,by decide +kernel,rfl,by decide +kernel,by decide +kernel⟩
abbrev CL:Stmt:=Bk (top 19) 0
abbrev Ln:List Str:=["self","state","numbers"]
abbrev DF:List Str:=["self","state","numbers"]
theorem Jq:Ay Ln DF (Ag CL):=⟨rfl,rfl,rfl,by decide +kernel,rfl,by decide +kernel,by decide +kernel⟩
abbrev Co:Stmt:=Bk (top 19) 1
abbrev Jr:List Str:=["self","around"]
abbrev De:List Str:=["self","around"]
theorem IO:Ay Jr De (Ag Co):=⟨rfl,rfl,rfl,by decide +kernel,rfl,by decide +kernel,by decide +kernel⟩
abbrev Di:Stmt:=Bk (top 20) 0
abbrev LK:List Str:=["self","wanted"]
abbrev DW:List Str:=["self","wanted"]
theorem JN:Ay LK DW (Ag Di):=⟨rfl,rfl,rfl,by decide +kernel,rfl,by decide +kernel,by decide +kernel⟩
abbrev Cc:Stmt:=Bk (top 20) 1
abbrev Gx:List Str:=["self","around"]
abbrev DC:List Str:=["self","around"]
theorem Jp:Ay Gx DC (Ag Cc):=⟨rfl,rfl,rfl,by decide +kernel,rfl,by decide +kernel,by decide +kernel⟩
abbrev Dl:Stmt:=Bk (top 21) 0
abbrev LN:List Str:=["self","cell","conditions","makes"]
abbrev DY:List Str:=["self","cell","conditions","makes"]
theorem JP:Ay LN DY (Ag Dl):=⟨rfl,rfl,rfl,by decide +kernel,rfl,by decide +kernel,by decide +kernel⟩
abbrev Cy:Stmt:=Bk (top 21) 1
abbrev Ic:List Str:=["self","cell","around"]
abbrev DZ:List Str:=["self","cell","around"]
theorem JQ:Ay Ic DZ (Ag Cy):=⟨rfl,rfl,rfl,by decide +kernel,rfl,by decide +kernel,by decide +kernel⟩
abbrev DP:Stmt:=Bk (top 31) 0
abbrev MY:List Str:=["self","state","level","bare"]
abbrev EA:List Str:=["self"]
theorem EM:Ay MY EA (Ag DP):=⟨rfl,rfl,rfl,by decide +kernel,rfl,by decide +kernel,by decide +kernel⟩
abbrev DO:Stmt:=Bk (top 31) 1
abbrev MX:List Str:=["self","parts","level","number"]
abbrev DR:List Str:=["self","parts","level"]
theorem GZ:Ay MX DR (Ag DO):=⟨rfl,rfl,rfl,by decide +kernel,rfl,by decide +kernel,by decide +kernel⟩
abbrev CK:Stmt:=Bk (top 31) 2
abbrev Lm:List Str:=["self","parts","number"]
abbrev AY:List Str:=["self","parts"]
theorem Gh:Ay Lm AY (Ag CK):=⟨rfl,rfl,rfl,by decide +kernel,rfl,by decide +kernel,by decide +kernel⟩
abbrev Bp:Stmt:=Bk (top 31) 3
abbrev GE:List Str:=["self","square"]
abbrev Bv:List Str:=["self","square"]
theorem Gm:Ay GE Bv (Ag Bp):=⟨rfl,rfl,rfl,by decide +kernel,rfl,by decide +kernel,by decide +kernel⟩
abbrev DN:Stmt:=Bk (top 31) 4
abbrev MW:List Str:=["self","state"]
abbrev DQ:List Str:=["self","state"]
theorem LI:Ay MW DQ (Ag DN):=⟨rfl,rfl,rfl,by decide +kernel,rfl,by decide +kernel,by decide +kernel⟩
abbrev Ce:Stmt:=Bk (top 31) 5
abbrev GD:List Str:=["self","a","b","c","d","square","level"]
abbrev DE:List Str:=["self","a","b","c","d"]
theorem Fc:Ay GD DE (Ag Ce):=⟨rfl,rfl,rfl,by decide +kernel,rfl,by decide +kernel,by decide +kernel⟩
abbrev BY:Stmt:=Bk (top 31) 7
abbrev Ja:List Str:=["self","square"]
abbrev Bu:List Str:=["self","square"]
theorem Io:Ay Ja Bu (Ag BY):=⟨rfl,rfl,rfl,by decide +kernel,rfl,by decide +kernel,by decide +kernel⟩
abbrev BX:Stmt:=Bk (top 31) 8
abbrev IZ:List Str:=["self","square"]
abbrev CS:List Str:=["self","square"]
theorem Im:Ay IZ CS (Ag BX):=⟨rfl,rfl,rfl,by decide +kernel,rfl,by decide +kernel,by decide +kernel⟩
abbrev BW:Stmt:=Bk (top 31) 9
abbrev IW:List Str:=["self","square"]
abbrev Ca:List Str:=["self","square"]
theorem Il:Ay IW Ca (Ag BW):=⟨rfl,rfl,rfl,by decide +kernel,rfl,by decide +kernel,by decide +kernel⟩
abbrev Dv:Stmt:=Bk (top 34) 0
abbrev Jn:List Str:=["self","text"]
abbrev EY:List Str:=["self","text"]
theorem MK:Ay Jn EY (Ag Dv):=⟨rfl,rfl,rfl,by decide +kernel,rfl,by decide +kernel,by decide +kernel⟩
abbrev DM:Stmt:=Bk (top 45) 0
abbrev MV:List Str:=["self","grove","rule"]
abbrev Ez:List Str:=["self","grove","rule"]
theorem LH:Ay MV Ez (Ag DM):=⟨rfl,rfl,rfl,by decide +kernel,rfl,by decide +kernel,by decide +kernel⟩
abbrev Cd:Stmt:=Bk (top 45) 1
abbrev GC:List Str:=["self","rule","text"]
abbrev DD:List Str:=["self","rule"]
theorem Gg:Ay GC DD (Ag Cd):=⟨rfl,rfl,rfl,by decide +kernel,rfl,by decide +kernel,by decide +kernel⟩
abbrev Dk:Stmt:=Bk (top 45) 2
abbrev LM:List Str:=["self","square","e"]
abbrev DX:List Str:=["self","square","e"]
theorem JO:Ay LM DX (Ag Dk):=⟨rfl,rfl,rfl,by decide +kernel,rfl,by decide +kernel,by decide +kernel⟩
abbrev BM:Stmt:=Bk (top 45) 3
abbrev Ie:List Str:=["self","square","e","level"]
abbrev Cg:List Str:=["self","square","e"]
theorem Fj:Ay Ie Cg (Ag BM):=⟨rfl,rfl,rfl,by decide +kernel,rfl,by decide +kernel,by decide +kernel⟩
abbrev BL:Stmt:=Bk (top 45) 4
abbrev IV:List Str:=["self","square","e","result"]
abbrev AX:List Str:=["self","square","e"]
theorem Et:Ay IV AX (Ag BL):=⟨rfl,rfl,rfl,by decide +kernel,rfl,by decide +kernel,by decide +kernel⟩
abbrev Bw:Stmt:=Bk (top 45) 5
abbrev EN:List Str:=["self","square","e","grove","level","nine"]
abbrev Dn:List Str:=["self","square","e"]
theorem Eu:Ay EN Dn (Ag Bw):=⟨rfl,rfl,rfl,by decide +kernel,rfl,by decide +kernel,by decide +kernel⟩
abbrev AO:Stmt:=Bk (top 45) 6
abbrev DG:List Str:=["self","square","e","nine"]
abbrev Br:List Str:=["self","square","e"]
theorem ED:Ay DG Br (Ag AO):=⟨rfl,rfl,rfl,by decide +kernel,rfl,by decide +kernel,by decide +kernel⟩
abbrev Bo:Stmt:=Bk (top 45) 7
abbrev GB:List Str:=["self","square","parts","a","b","c","d"]
abbrev Bq:List Str:=["self","square"]
theorem Bh:Ay GB Bq (Ag Bo):=⟨rfl,rfl,rfl,by decide +kernel,rfl,by decide +kernel,by decide +kernel⟩
abbrev Bm:Stmt:=Bk (top 45) 8
abbrev FC:List Str:=["self","leaves","leaf","states"]
abbrev Ch:List Str:=["self","leaves"]
theorem CC:Ay FC Ch (Ag Bm):=⟨rfl,rfl,rfl,by decide +kernel,rfl,by decide +kernel,by decide +kernel⟩
structure Ad where
 c_Amounts:Addr
 c_Places:Addr
 c_Clause:Addr
 c_Grove:Addr
 c_Rule:Addr
 c_Jumps:Addr
structure Top (K:PySem.W.Frag) (mg:Str->Option Value) (a:Ad):Prop where
 b_all:mg "all" = none
 b_any:mg "any" = none
 b_bool:mg "bool" = none
 b_enumerate:mg "enumerate" = none
 b_int:mg "int" = none
 b_isinstance:mg "isinstance" = none
 b_len:mg "len" = none
 b_min:mg "min" = none
 b_range:mg "range" = none
 b_str:mg "str" = none
 b_tuple:mg "tuple" = none
 b_zip:mg "zip" = none
 k_STATES:∃ t,mg "STATES" = some (.int 8 t)
 k_NEIGHBOURS:∃ t,mg "NEIGHBOURS" = some (.int 8 t)
 k_STATE_FIGURES:∃ t,mg "STATE_FIGURES" = some (.str (Str.ofString "01234567") t)
 k_AMOUNT_FIGURES:∃ t,mg "AMOUNT_FIGURES" = some (.str (Str.ofString "012345678") t)
 k_ANY_SIGN:∃ t,mg "ANY_SIGN" = some (.str (Str.ofString "*") t)
 k_TOP_LEVEL:∃ t,mg "TOP_LEVEL" = some (.int 48 t)
 k_CLAUSE_MARK:∃ t,mg "CLAUSE_MARK" = some (.str (Str.ofString "; ") t)
 k_LEAST_JUMPED:∃ t,mg "LEAST_JUMPED" = some (.int 2 t)
 m_Amounts:mg "Amounts" = some (.ref a.c_Amounts)
 cl_Amounts:Cls K a.c_Amounts
 na_Amounts_state:BR K a.c_Amounts "state"
 na_Amounts_numbers:BR K a.c_Amounts "numbers"
 m_Places:mg "Places" = some (.ref a.c_Places)
 cl_Places:Cls K a.c_Places
 na_Places_wanted:BR K a.c_Places "wanted"
 m_Clause:mg "Clause" = some (.ref a.c_Clause)
 cl_Clause:Cls K a.c_Clause
 na_Clause_cell:BR K a.c_Clause "cell"
 na_Clause_conditions:BR K a.c_Clause "conditions"
 na_Clause_makes:BR K a.c_Clause "makes"
 m_Grove:mg "Grove" = some (.ref a.c_Grove)
 cl_Grove:Cls K a.c_Grove
 na_Grove_levels:BR K a.c_Grove "levels"
 na_Grove_parts:BR K a.c_Grove "parts"
 na_Grove_numbers:BR K a.c_Grove "numbers"
 na_Grove_bares:BR K a.c_Grove "bares"
 na_Grove_amounts:BR K a.c_Grove "amounts"
 na_Grove_boxes:BR K a.c_Grove "boxes"
 m_Rule:mg "Rule" = some (.ref a.c_Rule)
 cl_Rule:Cls K a.c_Rule
 na_Rule_text:BR K a.c_Rule "text"
 na_Rule_clauses:BR K a.c_Rule "clauses"
 m_Jumps:mg "Jumps" = some (.ref a.c_Jumps)
 cl_Jumps:Cls K a.c_Jumps
 na_Jumps_grove:BR K a.c_Jumps "grove"
 na_Jumps_memories:BR K a.c_Jumps "memories"
 na_Jumps_rule:BR K a.c_Jumps "rule"
 na_Jumps_known_squares:BR K a.c_Jumps "known_squares"
 na_Jumps_known_cells:BR K a.c_Jumps "known_cells"
end J
namespace J
open PySem L2
seal L2.PA L2.PE L2.PS L2.PSs L2.PT L2.PW
inductive Cn where
 | am (s:Int) (ns:List Int)
 | pl (ws:List (Option Int))
structure Bg where
 cell:Option Int
 conds:List Cn
 makes:Int
abbrev AM:=List Bg
def FO:Option Int->V
 | none=>.non
 | some i=>.int i
def Er (w:Option Int) (s:Int):Bool:=match w with
 | none=>true
 | some i=>decide (i=s)
def Cn.holds (ar:List Int):Cn->Bool
 | .am s ns=>ns.any fun n=>decide (n=((ar.countP (· == s):Nat):Int))
 | .pl ws=>(ws.zip ar).all fun p=>Er p.1 p.2
def Bg.fits (cell:Int) (ar:List Int) (c:Bg):Bool:=Er c.cell cell && c.conds.all (Cn.holds ar)
def Lv (r:AM) (cell:Int) (ar:List Int):Option Nat:=r.findIdx? (Bg.fits cell ar)
def DS (r:AM) (cell:Int) (ar:List Int):Int:=match r.find? (Bg.fits cell ar) with
 | none=>cell
 | some c=>c.makes
def fl1 (f:Str) (a:V):List (Str×V):=AK f a []
def fl2 (f g:Str) (a b:V):List (Str×V):=AK g b (AK f a [])
def fl3 (f g h:Str) (a b c:V):List (Str×V):=AK h c (AK g b (AK f a []))
theorem fl1_1 {f:Str} {a:V}:(fl1 f a).lookup f=some a:=by unfold fl1; rw [Ak,if_pos rfl]
theorem Nh {f m:Str} {a:V} (h:¬ m=f):(fl1 f a).lookup m=none:=by unfold fl1; rw [Ak,if_neg h]; rfl
theorem SA {f g:Str} {a b:V} (h:¬ f=g):(fl2 f g a b).lookup f=some a:=by unfold fl2; rw [Ak,if_neg h,Ak,if_pos rfl]
theorem Sz {f g:Str} {a b:V}:(fl2 f g a b).lookup g=some b:=by unfold fl2; rw [Ak,if_pos rfl]
theorem fl2_no {f g m:Str} {a b:V} (h1:¬ m=f) (h2:¬ m=g):(fl2 f g a b).lookup m=none:=by unfold fl2; rw [Ak,if_neg h2,Ak,if_neg h1]; rfl
theorem fl3_1 {f g h:Str} {a b c:V} (h1:¬ f=g) (h2:¬ f=h):(fl3 f g h a b c).lookup f=some a:=by unfold fl3; rw [Ak,if_neg h2,Ak,if_neg h1,Ak,if_pos rfl]
theorem fl3_2 {f g h:Str} {a b c:V} (h1:¬ g=h):(fl3 f g h a b c).lookup g=some b:=by unfold fl3; rw [Ak,if_neg h1,Ak,if_pos rfl]
theorem fl3_3 {f g h:Str} {a b c:V}:(fl3 f g h a b c).lookup h=some c:=by unfold fl3; rw [Ak,if_pos rfl]
theorem fl3_no {f g h m:Str} {a b c:V} (h1:¬ m=f) (h2:¬ m=g) (h3:¬ m=h):(fl3 f g h a b c).lookup m=none:=by unfold fl3; rw [Ak,if_neg h3,Ak,if_neg h2,Ak,if_neg h1]; rfl
theorem NL (f:Str) (v:V):∀ l:List (Str×V),(AK f v l).length<=l.length+1
 | []=>Nat.le_refl _
 | (g,w) :: r=>by
  unfold AK;split
  ·exact Nat.le_succ _
  ·rw [List.length_cons,List.length_cons];exact Nat.succ_le_succ (NL f v r)
theorem Ah {H:Hp} {p:Addr} {o:HO} (h:H p=none):An H (upd H p o):=fun b u e=>by
 rw [As (Am e h)];exact e
inductive DT (a:Ad) (H:Hp):Addr->Cn->Prop where
 | am {p t dx:Addr} {s:Int} {ns:List Int} (h:H p=some (.ins a.c_Amounts dx (fl2 "state" "numbers" (.int s) (.ref t)))) (ht:H t=some (.tup (ns.map V.int))):DT a H p (.am s ns)
 | pl {p t dx:Addr} {ws:List (Option Int)} (h:H p=some (.ins a.c_Places dx (fl1 "wanted" (.ref t)))) (ht:H t=some (.tup (ws.map FO))):DT a H p (.pl ws)
structure Cl (a:Ad) (H:Hp) (p:Addr) (c:Bg):Prop where
 ex:∃ (dx t:Addr) (cs:List Addr),H p=some (.ins a.c_Clause dx (fl3 "cell" "conditions" "makes" (FO c.cell) (.ref t) (.int c.makes)))/\H t=some (.tup (cs.map V.ref))/\Paired (DT a H) cs c.conds
structure CA (a:Ad) (H:Hp) (p:Addr) (x:Str) (r:AM):Prop where
 ex:∃ (dx t:Addr) (cs:List Addr),H p=some (.ins a.c_Rule dx (fl2 "text" "clauses" (.str x) (.ref t)))/\H t=some (.tup (cs.map V.ref))/\Paired (Cl a H) cs r
theorem Paired.imp {α β:Type} {F G:α->β->Prop} (h:∀ x y,F x y->G x y):∀ {l:List α} {m:List β},Paired F l m->Paired G l m
 | _,_,.nil=>.nil
 | _,_,.cons r t=>.cons (h _ _ r) (Paired.imp h t)
theorem Paired.get {α β:Type} {F:α->β->Prop}:∀ {l:List α} {m:List β} {i:Nat} {x:α},Paired F l m->l[i]?=some x->∃ y,m[i]?=some y/\F x y
 | _,_,_,_,.nil,e=>by simp at e
 | _,_,0,_,.cons r _,e=>by simp at e; subst e; exact ⟨_,rfl,r⟩
 | _,_,i+1,x,.cons _ t,e=>by
  obtain ⟨y,h1,h2⟩:=Paired.get (i:=i) (x:=x) t (by simpa using e);exact ⟨y,by simpa using h1,h2⟩
theorem DT.same {a:Ad} {H H':Hp} {p:Addr} {c:Cn} (s:An H H') (h:DT a H p c):DT a H' p c:=by
 cases h with
 | am h ht=>exact .am (s _ _ h) (s _ _ ht)
 | pl h ht=>exact .pl (s _ _ h) (s _ _ ht)
theorem Cl.same {a:Ad} {H H':Hp} {p:Addr} {c:Bg} (s:An H H') (h:Cl a H p c):Cl a H' p c:=by
 obtain ⟨dx,t,cs,h1,h2,h3⟩:=h.ex;exact ⟨dx,t,cs,s _ _ h1,s _ _ h2,Paired.imp (fun _ _ z=>z.same s) h3⟩
theorem CA.same {a:Ad} {H H':Hp} {p:Addr} {x:Str} {r:AM} (s:An H H') (h:CA a H p x r):CA a H' p x r:=by
 obtain ⟨dx,t,cs,h1,h2,h3⟩:=h.ex;exact ⟨dx,t,cs,s _ _ h1,s _ _ h2,Paired.imp (fun _ _ z=>z.same s) h3⟩
theorem in_ints (n:Int) (ns:List Int):inV (.int n) (ns.map V.int)=ns.any fun m=>decide (m=n):=by
 unfold inV;rw [List.any_map];congr 1
theorem QR (ns:List Int):(ns.map V.int).all IF=true:=by
 rw [List.all_map];exact List.all_eq_true.mpr fun _ _=>rfl
theorem GV (i j:Int):decide (V.int i=V.int j)=decide (i=j):=by
 by_cases h:i=j
 ·rw [decide_eq_true h,decide_eq_true (by rw [h])]
 ·rw [decide_eq_false h,decide_eq_false fun z=>h (by injection z)]
section
variable {P:Program} {w:World} {K:PySem.W.Frag} {mg:Str->Option Value} {base:Heap} {a:Ad}
inductive Qk (vs:List V) (H:Hp) (Q:VK):Prop
 | mk (x:Option Int) (s:Int) (_:vs=[FO x,.int s]) (_:Q (.bl (Er x s)) H):Qk vs H Q
def Jv:Sp:=fun vs H Q _=>Qk vs H Q
theorem RV {f:Addr} {fd:FuncData} (F:Fun K "takes" "takes" GP f fd):AU P w K mg base CX0 1 f fd GT Jv:=by
 refine F.ok RE (fun vs H Q E h=>?_) (fun cdv A outer s H vs Q E hr h=>?_)
 ·obtain ⟨x,s,rfl,_⟩:=h;rfl
 ·obtain ⟨x,s,rfl,k⟩:=h;refine ⟨_,(Aj (AA (pe_or (Iv Lb (pv 0) Id (AT _)) (JX (Iv FA (pv 0) (pv 1) (AT _)))))),?_⟩
  try dsimp only [cxK]
  refine ⟨_,rfl,rfl,_,rfl,?_⟩;cases x with
  | none=>exact EC k
  | some i =>
   have e:decide (FO (some i)=V.int s)=Er (some i) s:=GV i s;rw [<-e] at k;exact Cz ⟨_,rfl,_,rfl,rfl,k⟩
inductive Oy (a:Ad) (vs:List V) (H:Hp) (Q:VK):Prop
 | mk (p t dx:Addr) (s:Int) (_:vs=[.ref p,.int s,.ref t]) (_:H p=some (.ins a.c_Amounts dx [])) (_:Q .non (upd H p (.ins a.c_Amounts dx (fl2 "state" "numbers" (.int s) (.ref t))))):Oy a vs H Q
def JJ (a:Ad):Sp:=fun vs H Q _=>Oy a vs H Q
theorem QC {f:Addr} {fd:FuncData} (F:Fun K "__init__" "Amounts.__init__" CL f fd) (T:Top K mg a):AU P w K mg base CX0 1 f fd DF (JJ a):=by
 refine F.ok Jq (fun vs H Q E h=>?_) (fun cdv A outer s H vs Q E hr h=>?_)
 ·obtain ⟨p,t,dx,s,rfl,_⟩:=h;rfl
 ·obtain ⟨p,t,dx,s,rfl,hp,k⟩:=h;refine ⟨_,(Ae (CY (pv 0) (pv 1) rfl) (Aj (CY (pv 0) (pv 2) rfl))),?_⟩
  try dsimp only [cxK]
  refine ⟨_,rfl,_,rfl,p,_,dx,[],rfl,hp,T.cl_Amounts,T.na_Amounts_state,(by show 0 < 1000; decide),_,rfl,_,rfl,p,_,dx,_,rfl,Ab,T.cl_Amounts,T.na_Amounts_numbers,(by show 1 < 1000; decide),?_⟩;rw [FI];exact k
inductive Ow (a:Ad) (vs:List V) (H:Hp) (Q:VK):Prop
 | mk (p t dx:Addr) (_:vs=[.ref p,.ref t]) (_:H p=some (.ins a.c_Places dx [])) (_:Q .non (upd H p (.ins a.c_Places dx (fl1 "wanted" (.ref t))))):Ow a vs H Q
def JG (a:Ad):Sp:=fun vs H Q _=>Ow a vs H Q
theorem QA {f:Addr} {fd:FuncData} (F:Fun K "__init__" "Places.__init__" Di f fd) (T:Top K mg a):AU P w K mg base CX0 1 f fd DW (JG a):=by
 refine F.ok JN (fun vs H Q E h=>?_) (fun cdv A outer s H vs Q E hr h=>?_)
 ·obtain ⟨p,t,dx,rfl,_⟩:=h;rfl
 ·obtain ⟨p,t,dx,rfl,hp,k⟩:=h;refine ⟨_,(Aj (CY (pv 0) (pv 1) rfl)),?_⟩
  try dsimp only [cxK]
  exact ⟨_,rfl,_,rfl,p,_,dx,[],rfl,hp,T.cl_Places,T.na_Places_wanted,(by show 0 < 1000; decide),k⟩
inductive Ox (a:Ad) (vs:List V) (H:Hp) (Q:VK):Prop
 | mk (p t dx:Addr) (c:Option Int) (m:Int) (_:vs=[.ref p,FO c,.ref t,.int m]) (_:H p=some (.ins a.c_Clause dx [])) (_:Q .non (upd H p (.ins a.c_Clause dx (fl3 "cell" "conditions" "makes" (FO c) (.ref t) (.int m))))):Ox a vs H Q
def JI (a:Ad):Sp:=fun vs H Q _=>Ox a vs H Q
theorem QB {f:Addr} {fd:FuncData} (F:Fun K "__init__" "Clause.__init__" Dl f fd) (T:Top K mg a):AU P w K mg base CX0 1 f fd DY (JI a):=by
 refine F.ok JP (fun vs H Q E h=>?_) (fun cdv A outer s H vs Q E hr h=>?_)
 ·obtain ⟨p,t,dx,c,m,rfl,_⟩:=h;rfl
 ·obtain ⟨p,t,dx,c,m,rfl,hp,k⟩:=h;refine ⟨_,(Ae (CY (pv 0) (pv 1) rfl) (Ae (CY (pv 0) (pv 2) rfl) (Aj (CY (pv 0) (pv 3) rfl)))),?_⟩
  try dsimp only [cxK]
  refine ⟨_,rfl,_,rfl,p,_,dx,[],rfl,hp,T.cl_Clause,T.na_Clause_cell,(by show 0 < 1000; decide),_,rfl,_,rfl,p,_,dx,_,rfl,Ab,T.cl_Clause,T.na_Clause_conditions,(by show 1 < 1000; decide),_,rfl,_,rfl,p,_,dx,_,rfl,Ab,T.cl_Clause,T.na_Clause_makes,
   Nat.lt_of_le_of_lt (NL _ _ _) (by show 2 < 1000; decide),?_⟩
  rw [FI,FI];exact k
def IN (a:Ad):Sp:=fun vs H Q E=>(∃ (p l t dx:Addr) (s:Int) (ns ar:List Int),vs=[.ref p,.ref l]/\H p=some (.ins a.c_Amounts dx (fl2 "state" "numbers" (.int s) (.ref t)))/\H t=some (.tup (ns.map V.int))/\H l=some (.lst (ar.map V.int))/\Q (.bl (Cn.holds ar (.am s ns))) H)
theorem OT {f:Addr} {fd:FuncData} (F:Fun K "holds" "Amounts.holds" Co f fd) (T:Top K mg a):AU P w K mg base CX0 1 f fd De (IN a):=by
 refine F.ok IO (fun vs H Q E h=>?_) (fun cdv A outer s H vs Q E hr h=>?_)
 ·obtain ⟨p,l,t,dx,s,ns,ar,rfl,_⟩:=h;rfl
 ·obtain ⟨p,l,t,dx,s,ns,ar,rfl,hp,ht,hl,k⟩:=h;refine ⟨_,(Aj (AA (Iv Qy (Dw PySem.F.plainAttrs_list PySem.F.slot_list_count PySem.F.type_list_count Sf (pv 1) (Aa (AG (pv 0) rfl) Ac)) (AG (pv 0) rfl) rfl))),?_⟩
  try dsimp only [cxK]
  refine ⟨_,rfl,.inl ⟨rfl,_,SqL.of hl⟩,_,rfl,p,_,dx,_,_,rfl,hp,T.cl_Amounts,T.na_Amounts_state,SA (by decide +kernel),l,ar,s,rfl,rfl,hl,_,rfl,p,_,dx,_,_,rfl,hp,T.cl_Amounts,T.na_Amounts_numbers,Sz,t,_,rfl,.inr (SqT.of ht),rfl,QR ns,?_⟩;show Q (.bl (inV _ _)) H;rw [in_ints];exact k
inductive Mt (a:Ad) (vs:List V) (H:Hp) (Q:VK):Prop
 | mk (p l t dx:Addr) (ws:List (Option Int)) (ar:List Int) (_:vs=[.ref p,.ref l]) (_:H p=some (.ins a.c_Places dx (fl1 "wanted" (.ref t)))) (_:H t=some (.tup (ws.map FO))) (_:H l=some (.lst (ar.map V.int))) (_:ws.length<=100) (_:∀ H',An H H'->Q (.bl (Cn.holds ar (.pl ws))) H'):Mt a vs H Q
def IM (a:Ad):Sp:=fun vs H Q _=>Mt a vs H Q
theorem OS {f:Addr} {fd:FuncData} (F:Fun K "holds" "Places.holds" Cc f fd) (T:Top K mg a) (dO:Cal P w K mg base CX0 1 "takes" GT Jv):AU P w K mg base CX0 2 f fd DC (IM a):=by
 refine F.ok Jp (fun vs H Q E h=>?_) (fun cdv A outer s H vs Q E hr h=>?_)
 ·obtain ⟨p,l,t,dx,ws,ar,rfl,_⟩:=h;rfl
 ·obtain ⟨p,l,t,dx,ws,ar,rfl,hp,ht,hl,hw,k⟩:=h;refine ⟨_,(Aj (AA (AW (Op rfl) rfl T.b_all PyProof.Rows.boot_all (Aa (BT rfl (Bn.of (So:=Ag Cc) (No:=Gx) (N:=["one","state"]) (k:=2) (cs:=[]) rfl rfl (by decide +kernel)) (OO true false rfl T.b_zip (Aa (AG (pv 0) rfl) (Aa (pv 1) Ac))) (fun _ _ _=>(RK (i:=0) (j:=1) rfl (by decide +kernel) rfl rfl rfl rfl)) (fun _ _ _=>BH) (fun _ _ _=>(Az dO (rm hr) rfl Ar (Aa (pv 0) (Aa (pv 1) Ac))))) Ac)))),?_⟩
  try dsimp only [cxK]
  refine ⟨_,rfl,p,_,dx,_,_,rfl,hp,T.cl_Places,T.na_Places_wanted,fl1_1,_,rfl,t,l,rfl,⟨_,SqT.of ht⟩,⟨_,SqL.of hl⟩,?_⟩;refine blk_zip (xs:=ws.map FO) (ys:=ar.map V.int) (fun i acc H2=>An H H2/\acc=(((ws.zip ar).take i).map fun p=>V.bl (Er p.1 p.2))) ⟨An.refl H,rfl⟩ (fun i acc H2 z=>⟨SqT.of (z.1 _ _ ht),SqL.of (z.1 _ _ hl)⟩) ?_ ?_
  ·rintro i x y acc H2 T' hx hy ⟨sm,rfl⟩ nT;rw [List.getElem?_map] at hx hy;obtain ⟨o,eo,rfl⟩:=Option.map_eq_some_iff.mp hx;obtain ⟨m,em,rfl⟩:=Option.map_eq_some_iff.mp hy;have ez:(ws.zip ar)[i]?=some (o,m):=by rw [List.getElem?_zip_eq_some]; exact ⟨eo,em⟩
   refine IE Ab ⟨⟨[some (FO o),some (.int m)],rfl,rfl⟩,?_,?_⟩
   ·have:((((ws.zip ar).take i).map fun p=>V.bl (Er p.1 p.2))).length<=ws.length:=by
     rw [List.length_map,List.length_take,List.length_zip]; omega
    exact Nat.lt_of_le_of_lt (Nat.le_trans this hw) (by decide)
   ·refine FH ?_;refine ⟨_,rfl,_,rfl,o,m,rfl,sm.trans (Ah nT),?_⟩;rw [List.take_add_one,ez,List.map_append];rfl
  ·rintro acc H2 ⟨sm,rfl⟩ q nq;have len:min (ws.map FO).length (ar.map V.int).length=(ws.zip ar).length:=by rw [List.length_map,List.length_map,List.length_zip]
   rw [len,List.take_length];refine ⟨q,(ws.zip ar).map (fun p=>Er p.1 p.2),rfl,SqL.of (by rw [Ab,List.map_map]; rfl),?_⟩;have e:((ws.zip ar).map (fun p=>Er p.1 p.2)).all id=Cn.holds ar (.pl ws):=by rw [List.all_map]; rfl
   rw [e];exact k _ (sm.trans (Ah nq))
inductive Tf (a:Ad) (vs:List V) (H:Hp) (Q:VK):Prop
 | mk (p l:Addr) (c:Bg) (cell:Int) (ar:List Int) (_:vs=[.ref p,.int cell,.ref l]) (_:Cl a H p c) (_:c.conds.length<=100) (_:(∀ d ∈ c.conds,∀ ws,d=Cn.pl ws->ws.length<=100)) (_:H l=some (.lst (ar.map V.int))) (_:∀ H',An H H'->Q (.bl (c.fits cell ar)) H'):Tf a vs H Q
def OJ (a:Ad):Sp:=fun vs H Q _=>Tf a vs H Q
theorem ok_Fits {f:Addr} {fd:FuncData} (F:Fun K "fits" "Clause.fits" Cy f fd) (T:Top K mg a) (dO:Cal P w K mg base CX0 1 "takes" GT Jv) (M_Am:BK P w K mg base CX0 1 a.c_Amounts "holds" De (IN a)) (M_Pl:BK P w K mg base CX0 2 a.c_Places "holds" DC (IM a)) :
  AU P w K mg base CX0 3 f fd DZ (OJ a):=by
 refine F.ok JQ (fun vs H Q E h=>?_) (fun cdv A outer s H vs Q E hr h=>?_)
 ·obtain ⟨p,l,c,cell,ar,rfl,_⟩:=h;rfl
 ·obtain ⟨p,l,c,cell,ar,rfl,hC,hn,hn2,hl,k⟩:=h;obtain ⟨dx,t,cs,hp,ht,hcs⟩:=hC.ex;refine ⟨_,(Aj (AA (JZ (Az dO (rm hr) rfl Ar (Aa (AG (pv 0) rfl) (Aa (pv 1) Ac))) (JX (AW (Op rfl) rfl T.b_all PyProof.Rows.boot_all (Aa (BT rfl (Bn.of (So:=Ag Cy) (No:=Ic) (N:=["condition","around"]) (k:=1) (cs:=[2]) rfl rfl (by decide +kernel)) (MN (AG (pv 0) rfl)) (fun _ _ _=>(AV (i:=0) (by decide +kernel) rfl rfl)) (fun _ _ _=>BH) (fun _ _ _=>(PE.or (AF (pv 0) M_Am (rm hr) Ar (Aa (pv 1) Ac)) (AF (pv 0) M_Pl (rm hr) Ar (Aa (pv 1) Ac))))) Ac)))))),?_⟩
  try dsimp only [cxK]
  refine ⟨_,rfl,p,_,dx,_,_,rfl,hp,T.cl_Clause,T.na_Clause_cell,fl3_1 (by decide +kernel) (by decide +kernel),_,rfl,c.cell,cell,rfl,Er c.cell cell,rfl,?_⟩;cases et:Er c.cell cell with
  | false =>
   refine Cz ?_;have:=k H (An.refl H);unfold Bg.fits at this;rw [et] at this;exact this
  | true =>
   refine EC ?_;have ln:cs.length=c.conds.length:=Paired.length hcs;refine ⟨_,rfl,p,_,dx,_,_,rfl,hp,T.cl_Clause,T.na_Clause_conditions,fl3_2 (by decide +kernel),t,rfl,⟨_,SqT.of ht⟩,?_⟩;refine Nj (xs:=cs.map V.ref) (fun i acc H2=>An H H2/\acc=((c.conds.take i).map fun d=>V.bl (Cn.holds ar d))) ⟨An.refl H,rfl⟩ (fun i acc H2 _ z=>SqT.of (z.1 _ _ ht)) ?_ ?_
   ·rintro i x acc H2 hx ⟨sm,rfl⟩;rw [List.getElem?_map] at hx;obtain ⟨q,eq,rfl⟩:=Option.map_eq_some_iff.mp hx;obtain ⟨d,ed,hd⟩:=Paired.get hcs eq;have hd2:=hd.same sm;refine ⟨⟨[some (.ref q)],rfl,rfl⟩,?_,?_⟩
    ·have:((c.conds.take i).map fun d=>V.bl (Cn.holds ar d)).length<=c.conds.length:=by
      rw [List.length_map,List.length_take]; omega
     exact Nat.lt_of_le_of_lt (Nat.le_trans this hn) (by decide)
    ·refine FH ?_;have nx:∀ H4,An H2 H4->An H H4/\((c.conds.take i).map fun d=>V.bl (Cn.holds ar d)) ++ [V.bl (Cn.holds ar d)]=((c.conds.take (i+1)).map fun d=>V.bl (Cn.holds ar d)):=fun H4 s4=>⟨sm.trans s4,by
      rw [List.take_add_one,ed,List.map_append]; rfl⟩
     have md:d ∈ c.conds:=List.mem_of_getElem? ed;cases hd2 with
     | @am t2 dx2 s ns h1 h2=>exact .inl ⟨_,rfl,q,dx2,_,rfl,h1,fl2_no (by decide +kernel) (by decide +kernel),_,rfl,q,l,t2,dx2,s,ns,ar,rfl,h1,h2,sm _ _ hl,nx H2 (An.refl H2)⟩
     | @pl t2 dx2 ws h1 h2=>exact .inr ⟨_,rfl,q,dx2,_,rfl,h1,Nh (by decide +kernel),_,rfl,q,l,t2,dx2,ws,ar,rfl,h1,h2,sm _ _ hl,hn2 _ md ws rfl,fun H4 s4=>nx H4 s4⟩
   ·rintro acc H2 ⟨sm,rfl⟩ q nq;rw [List.length_map,ln,List.take_length];refine ⟨q,c.conds.map (Cn.holds ar),rfl,SqL.of (by rw [Ab,List.map_map]; rfl),?_⟩;have e:(c.conds.map (Cn.holds ar)).all id=c.fits cell ar:=by
     unfold Bg.fits;rw [et,List.all_map]; rfl
    rw [e];exact k _ (sm.trans (Ah nq))
def ROk (r:AM):Prop:=r.length<=5000/\∀ c ∈ r,c.conds.length<=100/\∀ d ∈ c.conds,∀ ws,d=Cn.pl ws->ws.length<=100
def decV (o:Option Nat):V:=match o with
 | none=>.non
 | some n=>.int n
inductive SpDec (a:Ad) (vs:List V) (H:Hp) (Q:VK):Prop
 | mk (p l:Addr) (z:Str) (r:AM) (cell:Int) (ar:List Int) (_:vs=[.ref p,.int cell,.ref l]) (_:CA a H p z r) (_:ROk r) (_:H l=some (.lst (ar.map V.int))) (_:∀ H',An H H'->Q (decV (Lv r cell ar)) H'):SpDec a vs H Q
def Rx (a:Ad):Sp:=fun vs H Q _=>SpDec a vs H Q
theorem ok_dec {f:Addr} {fd:FuncData} (F:Fun K "deciding" "deciding" EI f fd) (T:Top K mg a) (bX:BK P w K mg base CX0 3 a.c_Clause "fits" DZ (OJ a)):AU P w K mg base CX0 4 f fd Fy (Rx a):=by
 refine F.ok Gq (fun vs H Q E h=>?_) (fun cdv A outer s H vs Q E hr h=>?_)
 ·obtain ⟨p,l,z,r,cell,ar,rfl,_⟩:=h;rfl
 ·obtain ⟨p,l,z,r,cell,ar,rfl,hR,hn,hl,k⟩:=h;obtain ⟨dx,t,cs,hp,ht,hcs⟩:=hR.ex;have ln:cs.length=r.length:=Paired.length hcs;refine ⟨_,(Ae (BP PassesOwn.never rfl (pi_enum true rfl T.b_enumerate (Aa (AG (pv 0) rfl) Ac)) (FY rfl (BJ (AQ (i:=3) Gq.nd rfl (Or.inl rfl)) (BJ (AQ (i:=4) Gq.nd rfl (Or.inl rfl)) Fl))) (Aj (Ba (EK (AF (pv 4) bX (rm hr) Ar (Aa (pv 1) (Aa (pv 2) Ac)))) (Aj (AA (pv 3))) AE))) (Aj (AA Id))),?_⟩
  try dsimp only [cxK]
  refine ⟨_,rfl,p,_,dx,_,_,rfl,hp,T.cl_Rule,T.na_Rule_clauses,Sz,t,rfl,⟨_,SqT.of ht⟩,?_⟩;refine Sx (b:=true) (xs:=cs.map V.ref) (fun i σ H2=>An H H2/\(∃ u v,σ=[some (.ref p),some (.int cell),some (.ref l),u,v])/\∀ c ∈ r.take i,c.fits cell ar=false) ⟨An.refl H,⟨none,none,rfl⟩,fun c hc=>by simp at hc⟩ (fun i σ H2 _ q=>SqT.of (q.1 _ _ ht)) ?_ ?_
  ·rintro i x σ H2 T' hx ⟨sm,⟨u,v,rfl⟩,no⟩ nT;rw [List.getElem?_map] at hx;obtain ⟨q,eq,rfl⟩:=Option.map_eq_some_iff.mp hx;obtain ⟨c,ec,hc⟩:=Paired.get hcs eq;have s3:=sm.trans (Ah (o:=.tup [.int i,.ref q]) nT);have hc3:=hc.same s3;obtain ⟨dx2,t2,cs2,h1,_⟩:=hc3.ex;refine IE Ab ?_;have mc:=List.mem_of_getElem? ec;refine ⟨_,rfl,q,dx2,_,rfl,h1,fl3_no (by decide +kernel) (by decide +kernel) (by decide +kernel),_,rfl,_,rfl,q,l,c,cell,ar,rfl,hc3,(hn.2 c mc).1,(hn.2 c mc).2,s3 _ _ hl,fun H4 s4=>⟨_,rfl,?_⟩⟩;cases ef:c.fits cell ar with
   | true =>
    refine EC ?_;refine ⟨_,rfl,?_⟩;have e:Lv r cell ar=some i:=by
     unfold Lv;rw [List.findIdx?_eq_some_iff_getElem];have hi:i < r.length:=(List.getElem?_eq_some_iff.mp ec).1;refine ⟨hi,?_,fun j hj=>?_⟩
     ·rw [(List.getElem?_eq_some_iff.mp ec).2]; exact ef
     ·have:=no r[j] (List.mem_take_iff_getElem.mpr ⟨j,by omega,rfl⟩);rw [this]; exact Bool.false_ne_true
    have:=k H4 (s3.trans s4);rw [e] at this;exact this
   | false =>
    refine Cz ⟨s3.trans s4,⟨_,_,rfl⟩,fun d hd=>?_⟩;rw [List.take_add_one,ec] at hd;rcases List.mem_append.mp hd with z | z
    ·exact no d z
    ·have:d=c:=by simpa using z
     rw [this]; exact ef
  ·rintro σ H2 ⟨sm,⟨u,v,rfl⟩,no⟩;rw [List.length_map,ln,List.take_length] at no;have e:Lv r cell ar=none:=by
    unfold Lv;rw [List.findIdx?_eq_none_iff];exact no
   have:=k H2 sm;rw [e] at this;exact this
inductive SpBec (a:Ad) (vs:List V) (H:Hp) (Q:VK):Prop
 | mk (p l:Addr) (z:Str) (r:AM) (cell:Int) (ar:List Int) (_:vs=[.ref p,.int cell,.ref l]) (_:CA a H p z r) (_:ROk r) (_:H l=some (.lst (ar.map V.int))) (_:∀ H',An H H'->Q (.int (DS r cell ar)) H'):SpBec a vs H Q
def Py (a:Ad):Sp:=fun vs H Q _=>SpBec a vs H Q
theorem Os {r:AM} {cell:Int} {ar:List Int} (h:Lv r cell ar=none):DS r cell ar=cell:=by
 unfold Lv at h;rw [List.findIdx?_eq_none_iff] at h;unfold DS;rw [List.find?_eq_none.mpr fun c hc=>by rw [h c hc]; exact Bool.false_ne_true]
theorem Oq {r:AM} {cell:Int} {ar:List Int} {i:Nat} (h:Lv r cell ar=some i):∃ c,r[i]?=some c/\DS r cell ar=c.makes:=by
 unfold Lv at h;rw [List.findIdx?_eq_some_iff_getElem] at h;obtain ⟨hi,h1,h2⟩:=h;refine ⟨r[i],List.getElem?_eq_getElem hi,?_⟩;unfold DS;have:r.find? (Bg.fits cell ar)=some r[i]:=by
  rw [List.find?_eq_some_iff_getElem];exact ⟨h1,i,hi,rfl,fun j hj=>by simpa using h2 j hj⟩
 rw [this]
theorem ok_bec {f:Addr} {fd:FuncData} (F:Fun K "becomes" "becomes" Fp f fd) (T:Top K mg a) (eP:Cal P w K mg base CX0 4 "deciding" Fy (Rx a)):AU P w K mg base CX0 5 f fd Fs (Py a):=by
 refine F.ok JM (fun vs H Q E h=>?_) (fun cdv A outer s H vs Q E hr h=>?_)
 ·obtain ⟨p,l,z,r,cell,ar,rfl,_⟩:=h;rfl
 ·obtain ⟨p,l,z,r,cell,ar,rfl,hR,hn,hl,k⟩:=h;refine ⟨_,(Ae (Av (i:=3) JM.nd rfl (Or.inl rfl) (Az eP (rm hr) rfl Ar (Aa (pv 0) (Aa (pv 1) (Aa (pv 2) Ac))))) (Ae (Ba (AJ Lb (pv 3) Id (AT _)) (Aj (AA (pv 1))) AE) (Aj (AA (AG (Al Ao (AG (pv 0) rfl) (pv 3) (fun _ _=>rfl)) rfl))))),?_⟩
  try dsimp only [cxK]
  refine ⟨_,rfl,_,rfl,_,rfl,p,l,z,r,cell,ar,rfl,hR,hn,hl,fun H2 s2=>?_⟩;refine ⟨_,rfl,rfl,_,rfl,?_⟩;cases e:Lv r cell ar with
  | none =>
   refine EC ⟨_,rfl,?_⟩;have:=k H2 s2;rw [Os e] at this;exact this
  | some i =>
   obtain ⟨c,ec,em⟩:=Oq e;obtain ⟨dx,t,cs,hp,ht,hcs⟩:=hR.ex;obtain ⟨q,eq⟩:∃ q,cs[i]?=some q:=by
    have ln:cs.length=r.length:=Paired.length hcs;have:i < cs.length:=by rw [ln]; exact (List.getElem?_eq_some_iff.mp ec).1
    exact ⟨_,List.getElem?_eq_getElem this⟩
   obtain ⟨c',ec',hc⟩:=Paired.get hcs eq;rw [ec] at ec';cases ec';obtain ⟨dx2,t2,cs2,h1,_⟩:=(hc.same s2).ex;refine Cz ⟨_,rfl,p,_,dx,_,_,rfl,s2 _ _ hp,T.cl_Rule,T.na_Rule_clauses,Sz,_,rfl,t,_,i,.ref q,rfl,rfl,SqT.of (s2 _ _ ht),Ai (by rw [List.getElem?_map,eq]; rfl),q,_,dx2,_,_,rfl,h1,T.cl_Clause,T.na_Clause_makes,fl3_3,?_⟩;have:=k H2 s2;rw [em] at this;exact this
end
end J
namespace J
open PySem L2
seal L2.PA L2.PE L2.PS L2.PSs L2.PT L2.PW
def sgD (d:Int):Str:=⟨#[48+d.toNat]⟩
def wC:Option Int->Nat
 | none=>42
 | some d=>48+d.toNat
def wS (x:Option Int):Str:=⟨#[wC x]⟩
def Eo (ns:List Int):Str:=⟨(ns.map fun n=>48+n.toNat).toArray⟩
def Bd:Cn->Str
 | .am s ns=>sgD s ++ ⟨#[61]⟩ ++ Eo ns
 | .pl ws=>⟨(ws.map wC).toArray⟩
def BI (c:Bg):Str:=Str.join ⟨#[32]⟩ (wS c.cell :: (c.conds.map Bd ++ [sgD c.makes]))
def LZ:Str:=⟨#[59,32]⟩
def Ek (r:AM):Str:=Str.join LZ (r.map BI)
def Dq (d:Int):Prop:=0<=d/\d < 8
def wOk:Option Int->Prop
 | none=>True
 | some d=>Dq d
def Cn.ok:Cn->Prop
 | .am s ns=>Dq s/\ns≠[]/\(∀ n ∈ ns,0<=n/\n<=8)/\ns.Pairwise (· < ·)
 | .pl ws=>ws.length=8/\∀ w ∈ ws,wOk w
structure Bg.ok (c:Bg):Prop where
 cell:wOk c.cell
 makes:Dq c.makes
 few:c.conds.length<=50
 conds:∀ d ∈ c.conds,d.ok
theorem eight {d:Int} (h:Dq d):d=0\/d=1\/d=2\/d=3\/d=4\/d=5\/d=6\/d=7:=by
 obtain ⟨m,rfl⟩:=Int.eq_ofNat_of_zero_le h.1;have h1:=h.2;exact (show ∀ m:Nat,m < 8->((m:Int)=0\/(m:Int)=1\/(m:Int)=2\/(m:Int)=3\/(m:Int)=4\/(m:Int)=5\/(m:Int)=6\/(m:Int)=7) by decide) m (by omega)
abbrev figs8:Str:=Str.ofString "01234567"
abbrev figs9:Str:=Str.ofString "012345678"
theorem Rm {d:Int} (h:Dq d):PySem.intText? (sgD d)=some d/\(!(Builtin.Str.occurrences figs8 (sgD d) 0 figs8.length 1).isEmpty)=true:=by
 rcases eight h with rfl | rfl | rfl | rfl | rfl | rfl | rfl | rfl<;>exact ⟨by decide +kernel,by decide +kernel⟩
theorem nine {d:Int} (h0:0<=d) (h1:d<=8):d=0\/d=1\/d=2\/d=3\/d=4\/d=5\/d=6\/d=7\/d=8:=by
 obtain ⟨m,rfl⟩:=Int.eq_ofNat_of_zero_le h0;exact (show ∀ m:Nat,m < 9->((m:Int)=0\/(m:Int)=1\/(m:Int)=2\/(m:Int)=3\/(m:Int)=4\/(m:Int)=5\/(m:Int)=6\/(m:Int)=7\/(m:Int)=8) by decide) m (by omega)
theorem SN {d:Int} (h0:0<=d) (h1:d<=8):PySem.intText? (⟨#[48+d.toNat]⟩:Str)=some d/\(!(Builtin.Str.occurrences figs9 (⟨#[48+d.toNat]⟩:Str) 0 figs9.length 1).isEmpty)=true:=by
 rcases nine h0 h1 with rfl | rfl | rfl | rfl | rfl | rfl | rfl | rfl | rfl<;>exact ⟨by decide +kernel,by decide +kernel⟩
theorem star_no {d:Int} (h:Dq d):decide (V.str (wS (some d))=V.str (Str.ofString "*"))=false:=by
 rcases eight h with rfl | rfl | rfl | rfl | rfl | rfl | rfl | rfl<;>decide +kernel
theorem LQ {x:Option Int} (h:wOk x):wC x≠61/\wC x≠32/\wC x≠59:=by
 cases x with
 | none=>exact ⟨by decide,by decide,by decide⟩
 | some d =>
  have:=h.1;have:=h.2;show 48+d.toNat≠61/\48+d.toNat≠32/\48+d.toNat≠59;refine ⟨?_,?_,?_⟩<;>omega
theorem Ml {d:Cn} (h:d.ok):32 ∉ (Bd d).cps.toList/\59 ∉ (Bd d).cps.toList:=by
 cases d with
 | am s ns =>
  obtain ⟨⟨s0,s1⟩,_,hn,_⟩:=h;have e:(Bd (.am s ns)).cps.toList=(48+s.toNat) :: 61 :: ns.map fun n=>48+n.toNat:=by
   show (sgD s ++ ⟨#[61]⟩ ++ Eo ns).cps.toList=_;rw [Tx.Dd,Tx.Dd];rfl
  rw [e];constructor
  ·intro z;rcases List.mem_cons.mp z with z | z
   ·omega
   ·rcases List.mem_cons.mp z with z | z
    ·omega
    ·obtain ⟨n,hn',e⟩:=List.mem_map.mp z;have:=hn n hn';omega
  ·intro z;rcases List.mem_cons.mp z with z | z
   ·omega
   ·rcases List.mem_cons.mp z with z | z
    ·omega
    ·obtain ⟨n,hn',e⟩:=List.mem_map.mp z;have:=hn n hn';omega
 | pl ws =>
  have e:(Bd (.pl ws)).cps.toList=ws.map wC:=rfl;rw [e];constructor
  ·intro z;obtain ⟨x,hx,e⟩:=List.mem_map.mp z;exact (LQ (h.2 x hx)).2.1 e
  ·intro z;obtain ⟨x,hx,e⟩:=List.mem_map.mp z;exact (LQ (h.2 x hx)).2.2 e
theorem IJ:∀ (ns:List Int) (lo:Int),lo<=9->(∀ n ∈ ns,lo<=n/\n<=8)->ns.Pairwise (· < ·)->(ns.length:Int)<=9 - lo
 | [],lo,h,_,_=>by show (0:Int)<=9 - lo; omega
 | n :: r,lo,_,hn,hp=>by
  have h1:=hn n List.mem_cons_self;have h2:=IJ r (n+1) (by omega) (fun m hm=>⟨by have:=(List.pairwise_cons.mp hp).1 m hm; omega,(hn m (List.mem_cons_of_mem _ hm)).2⟩) (List.pairwise_cons.mp hp).2;rw [List.length_cons];omega
theorem IH {d:Cn} (h:d.ok):(Bd d).length<=11:=by
 cases d with
 | am s ns =>
  obtain ⟨_,_,hn,hp⟩:=h;have hl:=IJ ns 0 (by decide) hn hp;rw [Nu.len];show (sgD s ++ ⟨#[61]⟩ ++ Eo ns).cps.toList.length<=11;rw [Tx.Dd,Tx.Dd,List.length_append,List.length_append];show 1+1+(ns.map fun n=>48+n.toNat).length<=11;rw [List.length_map];omega
 | pl ws =>
  rw [Nu.len];show (ws.map wC).length<=11;rw [List.length_map,h.1];decide
section
variable {P:Program} {w:World} {K:PySem.W.Frag} {mg:Str->Option Value} {base:Heap} {a:Ad}
theorem Ps (K:PySem.W.Frag):PySem.W.kitOne K (.type "str") (.type "str")=some true:=by kernel_rfl
inductive SpRS (vs:List V) (H:Hp) (Q:VK):Prop
 | mk (d:Int) (_:vs=[.str (sgD d)]) (_:Dq d) (_:Q (.int d) H):SpRS vs H Q
def Rr:Sp:=fun vs H Q _=>SpRS vs H Q
theorem ok_rs {f:Addr} {fd:FuncData} (F:Fun K "read_state" "read_state" DJ f fd) (T:Top K mg a):AU P w K mg base CX0 1 f fd Da Rr:=by
 refine F.ok LG (fun vs H Q E h=>?_) (fun cdv A outer s H vs Q E hr h=>?_)
 ·obtain ⟨d,rfl,_⟩:=h;rfl
 ·obtain ⟨d,rfl,hd,k⟩:=h;obtain ⟨e1,e2⟩:=Rm hd;refine ⟨_,(Ae (Ba (PW.pt (PH (AJ Ix (AW Gd rfl T.b_len PySem.boot_len (Aa (pv 0) Ac)) Af (AT _)) (ML (AJ Iw (pv 0) (Jz rfl T.k_STATE_FIGURES) rfl)))) (Aj BS) AE) (Aj (AA (BZ FQ rfl T.b_int PyProof.Rows.boot_int (Aa (pv 0) Ac))))),?_⟩
  try dsimp only [cxK]
  refine ⟨_,rfl,_,rfl,(by show 1<=sizeLine; decide),rfl,_,rfl,?_⟩;refine Qa rfl ⟨_,rfl,_,_,rfl,rfl,_,rfl,?_⟩;rw [e2];exact Cz ⟨_,rfl,_,d,rfl,e1,(by show 1<=640; decide),k⟩
inductive SpRW (vs:List V) (H:Hp) (Q:VK):Prop
 | mk (x:Option Int) (_:vs=[.str (wS x)]) (_:wOk x) (_:Q (FO x) H):SpRW vs H Q
def spRW:Sp:=fun vs H Q _=>SpRW vs H Q
theorem ok_rw {f:Addr} {fd:FuncData} (F:Fun K "read_wanted" "read_wanted" Dh f fd) (T:Top K mg a) (aK:Cal P w K mg base CX0 1 "read_state" Da Rr):AU P w K mg base CX0 2 f fd Dm spRW:=by
 refine F.ok JK (fun vs H Q E h=>?_) (fun cdv A outer s H vs Q E hr h=>?_)
 ·obtain ⟨x,rfl,_⟩:=h;rfl
 ·obtain ⟨x,rfl,hx,k⟩:=h;refine ⟨_,(Ae (Ba (AJ FA (pv 0) (Jz rfl T.k_ANY_SIGN) (AT _)) (Aj (AA Id)) AE) (Aj (AA (Az aK (rm hr) rfl Ar (Aa (pv 0) Ac))))),?_⟩
  try dsimp only [cxK]
  refine ⟨_,rfl,rfl,_,rfl,?_⟩;cases x with
  | none=>exact EC k
  | some d =>
   rw [star_no hx];exact Cz ⟨_,rfl,d,rfl,hx,k⟩
inductive SpRN (vs:List V) (H:Hp) (Q:VK):Prop
 | mk (ns:List Int) (_:vs=[.str (Eo ns)]) (_:ns≠[]) (_:ns.length<=100) (_:(∀ n ∈ ns,0<=n/\n<=8)) (_:ns.Pairwise (· < ·)) (_:∀ (t:Addr) (H':Hp),An H H'->H' t=some (.tup (ns.map V.int))->Q (.ref t) H'):SpRN vs H Q
def spRN:Sp:=fun vs H Q _=>SpRN vs H Q
theorem ok_rn {f:Addr} {fd:FuncData} (F:Fun K "read_numbers" "read_numbers" CD f fd) (T:Top K mg a):AU P w K mg base CX0 1 f fd Dx spRN:=by
 refine F.ok Fb (fun vs H Q E h=>?_) (fun cdv A outer s H vs Q E hr h=>?_)
 ·obtain ⟨ns,rfl,_⟩:=h;rfl
 ·obtain ⟨ns,rfl,hne,hl,hn,hp,k⟩:=h;have el:(Eo ns).length=ns.length:=by rw [Nu.len]; show (ns.map _).length=_; rw [List.length_map]
  have ec:(Eo ns).cps.toList=ns.map fun n=>48+n.toNat:=rfl;have pos:0 < ns.length:=List.length_pos_iff.mpr hne;refine ⟨_,(Ae (Ba (AJ FA (AW Gd rfl T.b_len PySem.boot_len (Aa (pv 0) Ac)) Af (AT _)) (Aj BS) AE) (Ae (Av (i:=1) Fb.nd rfl (Or.inl rfl) (Bc Ac)) (Ae (BP PassesOwn.never rfl (RJ (pv 0)) (AQ (i:=2) Fb.nd rfl (Or.inl rfl)) (Ae (Ba (AJ Iw (pv 2) (Jz rfl T.k_AMOUNT_FIGURES) rfl) (Aj BS) AE) (Ae (Ba (PW.pt (RH (AJ RT (AW Bl rfl T.b_len PySem.boot_len (Aa (pv 1) Ac)) Af (AT _)) (PJ (AJ NP (BZ FQ rfl T.b_int PyProof.Rows.boot_int (Aa (pv 2) Ac)) (Al Au (pv 1) (PL Mv Af) (fun _ _=>rfl)) (AT _))))) (Aj BS) AE) (Aj (BQ (Dw PySem.F.plainAttrs_list PySem.F.slot_list_append PySem.F.type_list_append BN (pv 1) (Aa (BZ FQ rfl T.b_int PyProof.Rows.boot_int (Aa (pv 2) Ac)) Ac))))))) (Aj (AA (BZ Dp rfl T.b_tuple PyProof.Rows.boot_tuple (Aa (pv 1) Ac))))))),?_⟩
  try dsimp only [cxK]
  refine ⟨_,rfl,_,rfl,(by rw [el]; exact Nat.le_trans hl (by decide)),rfl,_,rfl,?_⟩;have nz:decide (V.int ((Eo ns).length:Int)=V.int 0)=false:=decide_eq_false fun z=>by
   injection z with z
   omega
  rw [nz];refine Cz ⟨(by show 0<=sizeLine; decide),fun l hl0=>?_⟩;refine ⟨_,rfl,_,rfl,?_⟩;refine for_str (fun i σ H2=>∃ v,σ=[some (.str (Eo ns)),some (.ref l),v]/\H2=upd H l (.lst ((ns.take i).map V.int))) ⟨none,rfl,rfl⟩ ?_ ?_
  ·rintro i ch σ H2 hch ⟨v,rfl,rfl⟩;have hch':(ns.map fun n=>48+n.toNat)[i]?=some ch:=by rw [<-ec]; simpa using hch
   rw [List.getElem?_map] at hch';obtain ⟨n,en,rfl⟩:=Option.map_eq_some_iff.mp hch';have mn:=List.mem_of_getElem? en;obtain ⟨f1,f2⟩:=SN (hn n mn).1 (hn n mn).2;have hi:i < ns.length:=(List.getElem?_eq_some_iff.mp en).1;have tl:(ns.take i).length=i:=by rw [List.length_take]; omega
   refine ⟨_,rfl,_,_,rfl,rfl,_,rfl,?_⟩;rw [f2];refine Cz ⟨_,rfl,l,_,rfl,.inl (SqL.of Ab),_,_,rfl,rfl,_,rfl,?_⟩;have nx:∃ v,([some (V.str (Eo ns)),some (.ref l),some (.str ⟨#[48+n.toNat]⟩)]:St)=[some (.str (Eo ns)),some (.ref l),v]/\upd (upd H l (.lst ((ns.take i).map V.int))) l (.lst ((ns.take i).map V.int ++ [V.int n]))=upd H l (.lst ((ns.take (i+1)).map V.int)):=by
    refine ⟨_,rfl,?_⟩;rw [FI,List.take_add_one,en,List.map_append];rfl
   have app:tDrop (tBM K "list" PF (tVar 1) (Jf (tCB (fun xs H Q=>∃ x n,xs=[.str x]/\PySem.intText? x=some n/\x.length<=640/\Q (.int n) H) (Jf (tVar 2) Rj)) Rj))
     { nx:=fun σ H2=>∃ v,σ=[some (.str (Eo ns)),some (.ref l),v]/\H2=upd H l (.lst ((ns.take (i+1)).map V.int)),rt:=Q,bk:=fun _ _=>False,ct:=fun σ H2=>∃ v,σ=[some (.str (Eo ns)),some (.ref l),v]/\H2=upd H l (.lst ((ns.take (i+1)).map V.int)) }
     [some (.str (Eo ns)),some (.ref l),some (.str ⟨#[48+n.toNat]⟩)] (upd H l (.lst ((ns.take i).map V.int))) :=
    ⟨_,rfl,.inl ⟨rfl,_,SqL.of Ab⟩,_,rfl,_,n,rfl,f1,(by show 1<=640; decide),l,_,_,rfl,rfl,Ab,(by rw [List.length_map,tl]; exact Nat.lt_of_lt_of_le hi (Nat.le_trans hl (by decide))),nx⟩
   by_cases i0:i=0
   ·subst i0;exact Cz app
   ·have ip:0 < i:=by omega
    have lt0:decide ((0:Int) < (((ns.take i).map V.int).length:Int))=true:=decide_eq_true (by rw [List.length_map,tl]; omega);rw [lt0];have hm:i - 1 < ns.length:=by omega
    have hlt:ns[i - 1] < n:=by
     have:=List.pairwise_iff_getElem.mp hp (i - 1) i hm hi (by omega);rw [(List.getElem?_eq_some_iff.mp en).2] at this;exact this
    have at1:atI ((ns.take i).map V.int) (-1)=some (V.int ns[i - 1]):=by
     have:((ns.take i).map V.int)[i - 1]?=some (V.int ns[i - 1]):=by
      rw [List.getElem?_map,List.getElem?_take_of_lt (by omega),List.getElem?_eq_getElem hm]; rfl
     have e1:((ns.take i).map V.int).length=i:=by rw [List.length_map,tl]
     unfold atI ixN;rw [e1,if_neg (by decide),if_pos (by omega)];show ((ns.take i).map V.int)[((-1:Int)+(i:Nat)).toNat]?=_;rw [show ((-1:Int)+(i:Nat)).toNat=i - 1 by omega];exact this
    refine EC ⟨_,rfl,_,n,rfl,f1,(by show 1<=640; decide),_,rfl,_,rfl,l,_,_,_,rfl,rfl,SqL.of Ab,at1,_,_,rfl,rfl,_,rfl,?_⟩;rw [decide_eq_false (by omega:¬ n<=ns[i - 1])];exact Cz app
  ·rintro σ H2 ⟨v,rfl,rfl⟩;have e:(Eo ns).cps.size=ns.length:=by
    have:(Eo ns).cps.toList.length=ns.length:=by rw [ec,List.length_map]
    simpa using this
   rw [e,List.take_length];refine ⟨_,rfl,l,_,rfl,.inl ⟨SqL.of Ab,fun t ht=>?_⟩⟩;exact k t _ ((Ah hl0).trans (Ah ht)) Ab
end
end J
namespace J
open PySem L2
seal L2.PA L2.PE L2.PS L2.PSs L2.PT L2.PW
section
variable {P:Program} {w:World} {K:PySem.W.Frag} {mg:Str->Option Value} {base:Heap} {a:Ad}
theorem eq_in (x:Str):(!(Builtin.Str.occurrences x (Str.ofString "=") 0 x.length 1).isEmpty)=decide (61 ∈ x.cps.toList):=by
 have:Str.ofString "=" = (⟨#[61]⟩:Str):=by decide +kernel
 rw [this];exact StrLaws.found_one x 61
inductive Ql (a:Ad) (vs:List V) (H:Hp) (Q:VK):Prop
 | mk (d:Cn) (_:vs=[.str (Bd d)]) (_:d.ok) (_:∀ (p:Addr) (H':Hp),An H H'->DT a H' p d->Q (.ref p) H'):Ql a vs H Q
def Mz (a:Ad):Sp:=fun vs H Q _=>Ql a vs H Q
inductive SpRAm (a:Ad) (vs:List V) (H:Hp) (Q:VK):Prop
 | mk (s:Int) (ns:List Int) (_:vs=[.str (Bd (.am s ns))]) (_:(Cn.am s ns).ok) (_:∀ (p:Addr) (H':Hp),An H H'->DT a H' p (.am s ns)->Q (.ref p) H'):SpRAm a vs H Q
def Rt (a:Ad):Sp:=fun vs H Q _=>SpRAm a vs H Q
theorem ok_ram {f:Addr} {fd:FuncData} (F:Fun K "read_amounts" "read_amounts" CF f fd) (T:Top K mg a) (aK:Cal P w K mg base CX0 1 "read_state" Da Rr) (bQ:Cal P w K mg base CX0 1 "read_numbers" Dx spRN)
  (fP:IK P w K mg base CX0 1 "Amounts" a.c_Amounts DF (JJ a)):AU P w K mg base CX0 3 f fd Dy (Rt a):=by
 refine F.ok Ge (fun vs H Q E h=>?_) (fun cdv A outer s H vs Q E hr h=>?_)
 ·obtain ⟨s,ns,rfl,_⟩:=h;rfl
 ·obtain ⟨d,ns,rfl,ho,k⟩:=h;have hlen:=IH ho;obtain ⟨hd,hne,hn,hp⟩:=ho;have hl:=IJ ns 0 (by decide) hn hp;have e61:Str.ofString "=" = (⟨#[61]⟩:Str):=by decide +kernel
  have ep:Txt.partition (Bd (.am d ns)) (Str.ofString "=")=(sgD d,⟨#[61]⟩,Eo ns):=by
   rw [e61];refine Tx.part_at 61 (sgD d) (Eo ns) ?_;intro z;have:61=48+d.toNat:=by simpa [sgD] using z
   have:=hd.2;omega
  refine ⟨_,(Ae (Av (i:=1) Ge.nd rfl (Or.inl rfl) (Dw PySem.F.plainAttrs_str PySem.F.slot_str_partition PySem.F.type_str_partition MZ (pv 0) (OP Ac))) (Aj (AA (GR fP (rm hr) rfl Ar (Aa (Az aK (rm hr) rfl Ar (Aa (Al Ao (pv 1) Af (fun _ _=>rfl)) Ac)) (Aa (Az bQ (rm hr) rfl Ar (Aa (Al Ao (pv 1) Af (fun _ _=>rfl)) Ac)) Ac)))))),?_⟩
  try dsimp only [cxK]
  refine ⟨_,rfl,rfl,_,_,rfl,rfl,(by decide +kernel),(by omega),fun t ht=>?_⟩;rw [ep];refine ⟨_,rfl,t,_,0,_,rfl,rfl,SqT.of Ab,rfl,d,rfl,hd,_,rfl,t,_,2,_,rfl,rfl,SqT.of Ab,rfl,ns,rfl,hne,by omega,hn,hp,fun t2 H2 s2 ht2=>?_⟩;intro x dx nx ndx nex;have sx:An H2 (upd (upd H2 dx (.own x)) x (.ins a.c_Amounts dx [])):=(Ah ndx).trans (Ah (by rw [As (Ne.symm nex)]; exact nx));refine ⟨x,t2,dx,d,rfl,Ab,rfl,?_⟩;have nx2:(upd H2 dx (.own x)) x=none:=by rw [As (Ne.symm nex)]; exact nx
  rw [FI];have sy:An H2 (upd (upd H2 dx (.own x)) x (.ins a.c_Amounts dx (fl2 "state" "numbers" (.int d) (.ref t2)))):=(Ah ndx).trans (Ah nx2);exact k x _ (((Ah ht).trans s2).trans sy) (.am Ab (sy _ _ ht2))
inductive SpRPl (a:Ad) (vs:List V) (H:Hp) (Q:VK):Prop
 | mk (ws:List (Option Int)) (_:vs=[.str (Bd (.pl ws))]) (_:(Cn.pl ws).ok) (_:∀ (p:Addr) (H':Hp),An H H'->DT a H' p (.pl ws)->Q (.ref p) H'):SpRPl a vs H Q
def Rs (a:Ad):Sp:=fun vs H Q _=>SpRPl a vs H Q
theorem ok_rpl {f:Addr} {fd:FuncData} (F:Fun K "read_places" "read_places" Cv f fd) (T:Top K mg a) (aS:Cal P w K mg base CX0 2 "read_wanted" Dm spRW)
  (gR:IK P w K mg base CX0 1 "Places" a.c_Places DW (JG a)):AU P w K mg base CX0 3 f fd DU (Rs a):=by
 refine F.ok JL (fun vs H Q E h=>?_) (fun cdv A outer s H vs Q E hr h=>?_)
 ·obtain ⟨ws,rfl,_⟩:=h;rfl
 ·obtain ⟨ws,rfl,ho,k⟩:=h;have hlen:=IH ho;obtain ⟨h8,hw⟩:=ho;have el:(Bd (.pl ws)).length=8:=by rw [Nu.len]; show (ws.map wC).length=8; rw [List.length_map,h8]
  have ec:(Bd (.pl ws)).cps.toList=ws.map wC:=rfl;refine ⟨_,(Ae (Ba (AJ Ix (AW Gd rfl T.b_len PySem.boot_len (Aa (pv 0) Ac)) (Ev rfl T.k_NEIGHBOURS) (AT _)) (Aj BS) AE) (Aj (AA (GR gR (rm hr) rfl Ar (Aa (BZ Dp rfl T.b_tuple PyProof.Rows.boot_tuple (Aa (BT rfl (Bn.of (So:=Ag Cv) (No:=Ia) (N:=["sign"]) (k:=1) (cs:=[]) rfl rfl (by decide +kernel)) (RJ (pv 0)) (fun _ _ _=>(AV (i:=0) (by decide +kernel) rfl rfl)) (fun _ _ _=>BH) (fun _ _ _=>(Az aS (rm hr) rfl Ar (Aa (pv 0) Ac)))) Ac)) Ac))))),?_⟩
  try dsimp only [cxK]
  refine ⟨_,rfl,_,rfl,Nat.le_trans hlen (by decide),rfl,_,rfl,?_⟩;rw [el];refine Qa rfl ⟨_,rfl,_,rfl,?_⟩;refine blk_str (fun i acc H2=>H2=H/\acc=(ws.take i).map FO) ⟨rfl,rfl⟩ ?_ ?_
  ·rintro i ch acc H2 hch ⟨rfl,rfl⟩;rw [ec,List.getElem?_map] at hch;obtain ⟨x,ex,rfl⟩:=Option.map_eq_some_iff.mp hch;refine ⟨⟨[some (.str ⟨#[wC x]⟩)],rfl,rfl⟩,?_,?_⟩
   ·rw [List.length_map,List.length_take];exact Nat.lt_of_le_of_lt (Nat.min_le_right _ _) (by rw [h8]; decide)
   ·refine FH ⟨_,rfl,x,rfl,hw x (List.mem_of_getElem? ex),rfl,?_⟩;rw [List.take_add_one,ex,List.map_append];rfl
  ·rintro acc H2 ⟨rfl,rfl⟩ q nq;rw [ec,List.length_map,List.take_length];refine ⟨q,_,rfl,.inl ⟨SqL.of Ab,fun t ht=>?_⟩⟩;intro x dx nx ndx nex;have nx2:∀ o,(upd (upd (upd H2 q (.lst (ws.map FO))) t (.tup (ws.map FO))) dx o) x=none:=fun o=>by rw [As (Ne.symm nex)]; exact nx
   refine ⟨x,t,dx,rfl,Ab,rfl,?_⟩;rw [FI];have s1:An H2 (upd (upd H2 q (.lst (ws.map FO))) t (.tup (ws.map FO))):=(Ah nq).trans (Ah ht);have s2:An (upd (upd H2 q (.lst (ws.map FO))) t (.tup (ws.map FO))) (upd (upd (upd (upd H2 q (.lst (ws.map FO))) t (.tup (ws.map FO))) dx (.own x)) x (.ins a.c_Places dx (fl1 "wanted" (.ref t)))):=(Ah ndx).trans (Ah (nx2 _));exact k x _ (s1.trans s2) (.pl Ab (s2 _ _ Ab))
theorem RW {f:Addr} {fd:FuncData} (F:Fun K "read_condition" "read_condition" BU f fd) (T:Top K mg a) (bR:Cal P w K mg base CX0 3 "read_amounts" Dy (Rt a)) (cB:Cal P w K mg base CX0 3 "read_places" DU (Rs a)) :
  AU P w K mg base CX0 4 f fd CO (Mz a):=by
 refine F.ok Ik (fun vs H Q E h=>?_) (fun cdv A outer s H vs Q E hr h=>?_)
 ·obtain ⟨d,rfl,_⟩:=h;rfl
 ·obtain ⟨d,rfl,ho,k⟩:=h;refine ⟨_,(Ae (Ba (AJ Qx FZ (pv 0) rfl) (Aj (AA (Az bR (rm hr) rfl Ar (Aa (pv 0) Ac)))) AE) (Aj (AA (Az cB (rm hr) rfl Ar (Aa (pv 0) Ac))))),?_⟩
  try dsimp only [cxK]
  refine ⟨_,rfl,_,_,rfl,rfl,_,rfl,?_⟩;rw [eq_in];cases d with
  | am s ns =>
   have m:61 ∈ (Bd (.am s ns)).cps.toList:=by
    show 61 ∈ (sgD s ++ ⟨#[61]⟩ ++ Eo ns).cps.toList;rw [Tx.Dd,Tx.Dd];simp
   rw [decide_eq_true m];exact EC ⟨_,rfl,s,ns,rfl,ho,k⟩
  | pl ws =>
   have m:¬ 61 ∈ (Bd (.pl ws)).cps.toList:=fun z=>by
    obtain ⟨x,hx,e⟩:=List.mem_map.mp (show 61 ∈ ws.map wC from z);exact (LQ (ho.2 x hx)).1 e
   rw [decide_eq_false m];exact Cz ⟨_,rfl,ws,rfl,ho,k⟩
inductive SpRC (a:Ad) (vs:List V) (H:Hp) (Q:VK):Prop
 | mk (c:Bg) (_:vs=[.str (BI c)]) (_:c.ok) (_:∀ (p:Addr) (H':Hp),An H H'->Cl a H' p c->Q (.ref p) H'):SpRC a vs H Q
def spRC (a:Ad):Sp:=fun vs H Q _=>SpRC a vs H Q
theorem Ih {c:Bg} (h:c.ok):(BI c).length<=1000:=by
 have j:=StrLaws.join_length_le ⟨#[32]⟩ (wS c.cell :: (c.conds.map Bd ++ [sgD c.makes]));have b:∀ l:List Cn,(∀ d ∈ l,d.ok)->((l.map Bd).map (·.length)).sum<=11 * l.length:=by
  intro l;induction l with
  | nil=>intro _; exact Nat.zero_le _
  | cons d r ih =>
   intro hd;have h1:=IH (hd d List.mem_cons_self);have h2:=ih fun e he=>hd e (List.mem_cons_of_mem _ he);simp only [List.map_cons,List.sum_cons,List.length_cons];omega
 have b1:=b c.conds h.conds;have h50:=h.few;simp only [List.map_cons,List.map_append,List.map_nil,List.sum_cons,List.sum_append,List.sum_nil,List.length_cons,List.length_append,List.length_nil,List.length_map] at j;have l1:(wS c.cell).length=1:=rfl;have l2:(sgD c.makes).length=1:=rfl;have l3:(⟨#[32]⟩:Str).length=1:=rfl;rw [l1,l2,l3] at j;unfold BI;omega
theorem GW (x:Option Int) (h:wOk x):32 ∉ (wS x).cps.toList/\59 ∉ (wS x).cps.toList:=by
 have:=LQ h;constructor
 ·intro z;have:32=wC x:=by simpa [wS] using z
  exact (LQ h).2.1 this.symm
 ·intro z;have:59=wC x:=by simpa [wS] using z
  exact (LQ h).2.2 this.symm
theorem Ni {c:Bg} (h:c.ok):Txt.split (BI c) (Str.ofString " ")=wS c.cell :: (c.conds.map Bd ++ [sgD c.makes]):=by
 have e:Str.ofString " " = (⟨#[32]⟩:Str):=by decide +kernel
 rw [e];refine Tx.ND 32 _ (by simp) fun t ht=>?_;rcases List.mem_cons.mp ht with rfl | ht
 ·exact (GW _ h.cell).1
 ·rcases List.mem_append.mp ht with ht | ht
  ·obtain ⟨d,hd,rfl⟩:=List.mem_map.mp ht;exact (Ml (h.conds d hd)).1
  ·rw [List.mem_singleton.mp ht];exact (GW (some c.makes) h.makes).1
theorem cut_mid (x z:V) (ys:List V):IG (x :: (ys ++ [z])) (some 1) (some (-1))=ys:=by
 have n:(x :: (ys ++ [z])).length=ys.length+2:=by simp
 unfold IG;rw [n];have h1:HT.sIx (ys.length+2) 0 (some 1)=1:=by
  show (if (1:Int) < 0 then ((1:Int)+((ys.length+2:Nat):Int)).toNat else min (1:Int).toNat (ys.length+2))=1;rw [if_neg (by decide)];show min 1 (ys.length+2)=1;omega
 have h2:HT.sIx (ys.length+2) (ys.length+2) (some (-1))=ys.length+1:=by
  show (if (-1:Int) < 0 then ((-1:Int)+((ys.length+2:Nat):Int)).toNat else min (-1:Int).toNat (ys.length+2))=ys.length+1;rw [if_pos (by decide)];omega
 rw [h1,h2];show (ys ++ [z]).take (ys.length+1 - 1)=ys;rw [Nat.add_sub_cancel,List.take_left' rfl]
theorem at_last (x:V) (ys:List V) (z:V):atI (x :: (ys ++ [z])) (-1)=some z:=by
 have n:(x :: (ys ++ [z])).length=ys.length+2:=by simp
 unfold atI ixN;rw [n,if_neg (by decide),if_pos (by omega)];show (x :: (ys ++ [z]))[((-1:Int)+((ys.length+2:Nat):Int)).toNat]?=some z;rw [show ((-1:Int)+((ys.length+2:Nat):Int)).toNat=ys.length+1 by omega,List.getElem?_cons_succ,List.getElem?_append_right (Nat.le_refl _),Nat.sub_self];rfl
theorem ok_rc {f:Addr} {fd:FuncData} (F:Fun K "read_clause" "read_clause" Cw f fd) (T:Top K mg a) (aK:Cal P w K mg base CX0 1 "read_state" Da Rr) (aS:Cal P w K mg base CX0 2 "read_wanted" Dm spRW)
  (b9:Cal P w K mg base CX0 4 "read_condition" CO (Mz a)) (gW:IK P w K mg base CX0 1 "Clause" a.c_Clause DY (JI a)):AU P w K mg base CX0 5 f fd DV (spRC a):=by
 refine F.ok Es (fun vs H Q E h=>?_) (fun cdv A outer s H vs Q E hr h=>?_)
 ·obtain ⟨c,rfl,_⟩:=h;rfl
 ·obtain ⟨c,rfl,ho,k⟩:=h;have hlen:=Ih ho;have f50:=ho.few;refine ⟨_,(Ae (Ba (Fd (EK (AW FT rfl T.b_isinstance PyProof.Rows.boot_isinstance (Aa (pv 0) (Aa (GS (v:=.ty "str") rfl T.b_str PyProof.Rows.boot_str rfl) Ac))))) (Aj BS) AE) (Ae (Av (i:=1) Es.nd rfl (Or.inl rfl) (Dw PySem.F.plainAttrs_str PySem.F.slot_str_split PySem.F.type_str_split NX (pv 0) (OP Ac))) (Ae (Ba (AJ Ji (AW Bl rfl T.b_len PySem.boot_len (Aa (pv 1) Ac)) Af (AT _)) (Aj BS) AE) (Ae (Av (i:=2) Es.nd rfl (Or.inl rfl) (Az aS (rm hr) rfl Ar (Aa (Al Au (pv 1) Af (fun _ _=>rfl)) Ac))) (Ae (Av (i:=3) Es.nd rfl (Or.inl rfl) (BZ Dp rfl T.b_tuple PyProof.Rows.boot_tuple (Aa (BT rfl (Bn.of (So:=Ag Cw) (No:=Ib) (N:=["word"]) (k:=1) (cs:=[]) rfl rfl (by decide +kernel)) (BB (ES FJ (pv 1) (CZ Af) (CZ (PL Mv Af)))) (fun _ _ _=>(AV (i:=0) (by decide +kernel) rfl rfl)) (fun _ _ _=>BH) (fun _ _ _=>(Az b9 (rm hr) rfl Ar (Aa (pv 0) Ac)))) Ac))) (Aj (AA (GR gW (rm hr) rfl Ar (Aa (pv 2) (Aa (pv 3) (Aa (Az aK (rm hr) rfl Ar (Aa (Al Au (pv 1) (PL Mv Af) (fun _ _=>rfl)) Ac)) Ac))))))))))),?_⟩
  try dsimp only [cxK]
  refine ⟨_,rfl,_,_,_,.type "str",true,rfl,rfl,.of (.str _),Ps K,true,rfl,?_⟩;refine Cz ⟨_,rfl,rfl,_,_,rfl,rfl,(by decide +kernel),(by omega),fun l hl=>?_⟩;rw [Ni ho];have eW:((wS c.cell :: (c.conds.map Bd ++ [sgD c.makes])).map V.str)=V.str (wS c.cell) :: ((c.conds.map fun d=>V.str (Bd d)) ++ [V.str (sgD c.makes)]):=by
   rw [List.map_cons,List.map_append,List.map_map];rfl
  rw [eW];have hL:∀ o,upd H l o l=some o:=fun o=>Ab;refine ⟨_,rfl,l,_,rfl,.inl (SqL.of Ab),_,_,rfl,rfl,_,rfl,?_⟩;rw [decide_eq_false (by simp; omega:¬ ((((V.str (wS c.cell) :: ((c.conds.map fun d=>V.str (Bd d)) ++ [V.str (sgD c.makes)])).length:Nat):Int) < 2))];refine Cz ⟨_,rfl,l,_,0,.str (wS c.cell),rfl,rfl,SqL.of Ab,Ai (j:=0) rfl,c.cell,rfl,ho.cell,?_⟩;refine ⟨_,rfl,_,rfl,_,rfl,_,rfl,l,_,rfl,SqL.of Ab,fun q hq=>⟨q,rfl,⟨_,SqL.of Ab⟩,?_⟩⟩;rw [cut_mid];have s0:An H (upd (upd H l (.lst (V.str (wS c.cell) :: ((c.conds.map fun d=>V.str (Bd d)) ++ [V.str (sgD c.makes)])))) q (.lst (c.conds.map fun d=>V.str (Bd d)))):=(Ah hl).trans (Ah hq);have nlq:l≠q:=fun z=>by rw [<-z,Ab] at hq; cases hq
  generalize hH1:upd (upd H l (.lst (V.str (wS c.cell) :: ((c.conds.map fun d=>V.str (Bd d)) ++ [V.str (sgD c.makes)])))) q (.lst (c.conds.map fun d=>V.str (Bd d)))=H1;rw [hH1] at s0;have hq1:H1 q=some (.lst (c.conds.map fun d=>V.str (Bd d))):=by rw [<-hH1]; exact Ab
  have hl1:H1 l=some (.lst (V.str (wS c.cell) :: ((c.conds.map fun d=>V.str (Bd d)) ++ [V.str (sgD c.makes)]))):=by rw [<-hH1,As nlq]; exact Ab
  refine Ck (xs:=c.conds.map fun d=>V.str (Bd d)) (fun i acc H2=>∃ ps:List Addr,acc=ps.map V.ref/\An H1 H2/\Paired (DT a H2) ps (c.conds.take i)) ⟨[],rfl,An.refl H1,.nil⟩ (fun i acc H2 _ ⟨ps,_,sm,_⟩=>SqL.of (sm _ _ hq1)) ?_ ?_
  ·rintro i x acc H2 hx ⟨ps,rfl,sm,pr⟩;rw [List.getElem?_map] at hx;obtain ⟨d,ed,rfl⟩:=Option.map_eq_some_iff.mp hx;refine ⟨⟨[some (.str (Bd d))],rfl,rfl⟩,?_,?_⟩
   ·have e1:=Paired.length pr;rw [List.length_take] at e1;rw [List.length_map,e1];exact Nat.lt_of_le_of_lt (Nat.min_le_right _ _) (Nat.lt_of_le_of_lt f50 (by decide))
   ·refine FH ⟨_,rfl,d,rfl,ho.conds d (List.mem_of_getElem? ed),fun p H3 s3 hp=>⟨ps ++ [p],by rw [List.map_append]; rfl,sm.trans s3,?_⟩⟩;rw [List.take_add_one,ed];exact Paired.snoc (Paired.imp (fun _ _ z=>z.same s3) pr) hp
  ·rintro acc H2 ⟨ps,rfl,sm,pr⟩ r nr;rw [List.length_map,List.take_length] at pr;refine ⟨r,_,rfl,.inl ⟨SqL.of Ab,fun t ht=>?_⟩⟩;have s3:An H1 (upd (upd H2 r (.lst (ps.map V.ref))) t (.tup (ps.map V.ref))):=(sm.trans (Ah nr)).trans (Ah ht);generalize hH3:upd (upd H2 r (.lst (ps.map V.ref))) t (.tup (ps.map V.ref))=H3;have ht3:H3 t=some (.tup (ps.map V.ref)):=by rw [<-hH3]; exact Ab
   have s23:An H2 H3:=by rw [<-hH3]; exact (Ah nr).trans (Ah ht)
   rw [hH3] at s3;refine ⟨_,rfl,_,rfl,_,rfl,_,rfl,l,_,_,_,rfl,rfl,SqL.of (s3 _ _ hl1),at_last _ _ _,c.makes,rfl,ho.makes,?_⟩;intro x dx nx ndx nex;have nx2:∀ o,(upd H3 dx o) x=none:=fun o=>by rw [As (Ne.symm nex)]; exact nx
   refine ⟨x,t,dx,c.cell,c.makes,rfl,Ab,rfl,?_⟩;rw [FI];have s4:An H3 (upd (upd H3 dx (.own x)) x (.ins a.c_Clause dx (fl3 "cell" "conditions" "makes" (FO c.cell) (.ref t) (.int c.makes)))):=(Ah ndx).trans (Ah (nx2 _));exact k x _ ((s0.trans s3).trans s4) ⟨dx,t,ps,Ab,s4 _ _ ht3,Paired.imp (fun _ _ z=>(z.same s23).same s4) pr⟩
theorem Ol {c:Bg} (h:c.ok):59 ∉ (BI c).cps.toList:=by
 intro z;unfold BI at z;rw [PyProof.Rows.mem_join] at z;rcases z with ⟨t,ht,z⟩ | ⟨_,z⟩
 ·rcases List.mem_cons.mp ht with rfl | ht
  ·exact (GW _ h.cell).2 z
  ·rcases List.mem_append.mp ht with ht | ht
   ·obtain ⟨d,hd,rfl⟩:=List.mem_map.mp ht;exact (Ml (h.conds d hd)).2 z
   ·rw [List.mem_singleton.mp ht] at z;exact (GW (some c.makes) h.makes).2 z
 ·have:59=32:=by simpa using z
  omega
end
end J
namespace J
open PySem L2
seal L2.PA L2.PE L2.PS L2.PSs L2.PT L2.PW
structure Nn (r:AM):Prop where
 few:r.length<=50
 ok:∀ c ∈ r,c.ok
theorem Nn.rok {r:AM} (h:Nn r):ROk r:=⟨Nat.le_trans h.few (by decide),fun c hc=>⟨Nat.le_trans (h.ok c hc).few (by decide),fun d hd ws e=>by
 subst e;rw [((h.ok c hc).conds _ hd).1];decide⟩⟩
theorem NJ {r:AM} (h:Nn r):(Ek r).length<=60000:=by
 have j:=StrLaws.join_length_le LZ (r.map BI);have b:∀ l:List Bg,(∀ c ∈ l,c.ok)->((l.map BI).map (·.length)).sum<=1000 * l.length:=by
  intro l;induction l with
  | nil=>intro _; exact Nat.zero_le _
  | cons d r ih =>
   intro hd;have h1:=Ih (hd d List.mem_cons_self);have h2:=ih fun e he=>hd e (List.mem_cons_of_mem _ he);simp only [List.map_cons,List.sum_cons,List.length_cons];omega
 have b1:=b r h.ok;have h50:=h.few;have l3:LZ.length=2:=rfl;rw [l3,List.length_map] at j;unfold Ek;omega
theorem rule_ne {r:AM} (h:r≠[]):decide (V.str (Ek r)=V.str (Str.ofString ""))=false:=by
 refine decide_eq_false fun z=>?_;injection z with z
 obtain ⟨c,hc⟩:=List.exists_mem_of_ne_nil r h;have h1:=PySem.join_mem_le LZ (r.map BI) (BI c) (List.mem_map.mpr ⟨c,hc,rfl⟩);have h2:=PySem.join_mem_le ⟨#[32]⟩ (wS c.cell :: (c.conds.map Bd ++ [sgD c.makes])) (wS c.cell) List.mem_cons_self;have h3:(wS c.cell).length=1:=rfl;have h4:(Ek r).length=0:=by rw [z]; decide +kernel
 unfold Ek at h4;have h5:(BI c).length=(Str.join ⟨#[32]⟩ (wS c.cell :: (c.conds.map Bd ++ [sgD c.makes]))).length:=rfl;omega
theorem DT.put {a:Ad} {H:Hp} {p q:Addr} {o u:HO} {c:Cn} (h:DT a H q c) (hp:H p=some u) (n:∀ C d fs,u=HO.ins C d fs->fs.lookup ("state" : Str)=none/\fs.lookup ("wanted" : Str)=none/\fs.lookup ("makes" : Str)=none) (nt:∀ xs,u≠.tup xs):DT a (upd H p o) q c:=by
 have other:∀ {b v},H b=some v->v≠u->upd H p o b=some v:=fun {b v} e d=>by rw [As (AC e hp d)]; exact e
 cases h with
 | am h ht =>
  refine .am (other h fun z=>?_) (other ht fun z=>nt _ z.symm);have:=(n _ _ _ z.symm).1;rw [SA (by decide +kernel)] at this;cases this
 | pl h ht =>
  refine .pl (other h fun z=>?_) (other ht fun z=>nt _ z.symm);have:=(n _ _ _ z.symm).2.1;rw [fl1_1] at this;cases this
theorem Cl.put {a:Ad} {H:Hp} {p q:Addr} {o u:HO} {c:Bg} (h:Cl a H q c) (hp:H p=some u) (n:∀ C d fs,u=HO.ins C d fs->fs.lookup ("state" : Str)=none/\fs.lookup ("wanted" : Str)=none/\fs.lookup ("makes" : Str)=none) (nt:∀ xs,u≠.tup xs):Cl a (upd H p o) q c:=by
 have other:∀ {b v},H b=some v->v≠u->upd H p o b=some v:=fun {b v} e d=>by rw [As (AC e hp d)]; exact e
 obtain ⟨dx,t,cs,h1,h2,h3⟩:=h.ex;refine ⟨dx,t,cs,other h1 fun z=>?_,other h2 fun z=>nt _ z.symm,Paired.imp (fun _ _ z=>z.put hp n nt) h3⟩;have:=(n _ _ _ z.symm).2.2;rw [fl3_3] at this;cases this
section
variable {P:Program} {w:World} {K:PySem.W.Frag} {mg:Str->Option Value} {base:Heap} {a:Ad}
inductive SpCT (vs:List V) (H:Hp) (Q:VK):Prop
 | mk (r:AM) (_:vs=[.str (Ek r)]) (_:Nn r) (_:∀ (l:Addr) (H':Hp),An H H'->H' l=some (.lst (r.map fun c=>V.str (BI c)))->Q (.ref l) H'):SpCT vs H Q
def spCT:Sp:=fun vs H Q _=>SpCT vs H Q
theorem ok_ct {f:Addr} {fd:FuncData} (F:Fun K "clause_texts" "clause_texts" CG f fd) (T:Top K mg a):AU P w K mg base CX0 1 f fd Dz spCT:=by
 refine F.ok Jo (fun vs H Q E h=>?_) (fun cdv A outer s H vs Q E hr h=>?_)
 ·obtain ⟨r,rfl,_⟩:=h;rfl
 ·obtain ⟨r,rfl,ho,k⟩:=h;have hlen:=NJ ho;refine ⟨_,(Ae (Ba (AJ FA (pv 0) FZ (AT _)) (Aj (AA (Bc Ac))) AE) (Aj (AA (Dw PySem.F.plainAttrs_str PySem.F.slot_str_split PySem.F.type_str_split NX (pv 0) (Aa (Jz rfl T.k_CLAUSE_MARK) Ac))))),?_⟩
  try dsimp only [cxK]
  refine ⟨_,rfl,rfl,_,rfl,?_⟩;by_cases hr0:r=[]
  ·subst hr0;refine EC ⟨(by show 0<=sizeLine; decide),fun l hl=>?_⟩;exact k l _ (Ah hl) Ab
  ·rw [rule_ne hr0];refine Cz ⟨_,rfl,rfl,_,_,rfl,rfl,(by decide +kernel),(by omega),fun l hl=>?_⟩;have em:Str.ofString "; " = (⟨#[59,32]⟩:Str):=by decide +kernel
   have e:Txt.split (Ek r) (Str.ofString "; ")=r.map BI:=by
    rw [em];refine Tx.NC _ (by simpa using hr0) fun t ht=>?_;obtain ⟨c,hc,rfl⟩:=List.mem_map.mp ht;exact Ol (ho.ok c hc)
   rw [e,List.map_map];exact k l _ (Ah hl) Ab
inductive SpRI (a:Ad) (vs:List V) (H:Hp) (Q:VK):Prop
 | mk (p dx:Addr) (r:AM) (_:vs=[.ref p,.str (Ek r)]) (_:H p=some (.ins a.c_Rule dx [])) (_:Nn r) (_:∀ H',(∀ b o,H b=some o->b≠p->H' b=some o)->CA a H' p (Ek r) r->Q .non H'):SpRI a vs H Q
def spRI (a:Ad):Sp:=fun vs H Q _=>SpRI a vs H Q
theorem ok_ri {f:Addr} {fd:FuncData} (F:Fun K "__init__" "Rule.__init__" Dv f fd) (T:Top K mg a) (bS:Cal P w K mg base CX0 1 "clause_texts" Dz spCT) (cC:Cal P w K mg base CX0 5 "read_clause" DV (spRC a)) :
  AU P w K mg base CX0 6 f fd EY (spRI a):=by
 refine F.ok MK (fun vs H Q E h=>?_) (fun cdv A outer s H vs Q E hr h=>?_)
 ·obtain ⟨p,dx,r,rfl,_⟩:=h;rfl
 ·obtain ⟨p,dx,r,rfl,hp,ho,k⟩:=h;have hlen:=NJ ho;have f50:=ho.few;refine ⟨_,(Ae (CY (pv 0) (pv 1) rfl) (Aj (CY (pv 0) (BZ Dp rfl T.b_tuple PyProof.Rows.boot_tuple (Aa (BT rfl (Bn.of (So:=Ag Dv) (No:=Jn) (N:=["part"]) (k:=1) (cs:=[]) rfl rfl (by decide +kernel)) (BB (Az bS (rm hr) rfl Ar (Aa (pv 1) Ac))) (fun _ _ _=>(AV (i:=0) (by decide +kernel) rfl rfl)) (fun _ _ _=>BH) (fun _ _ _=>(Az cC (rm hr) rfl Ar (Aa (pv 0) Ac)))) Ac)) rfl))),?_⟩
  try dsimp only [cxK]
  refine ⟨_,rfl,_,rfl,p,_,dx,[],rfl,hp,T.cl_Rule,T.na_Rule_text,(by show 0 < 1000; decide),?_⟩;generalize hH1:upd H p (.ins a.c_Rule dx (AK "text" (.str (Ek r)) []))=H1;have hp1:H1 p=some (.ins a.c_Rule dx (AK "text" (.str (Ek r)) [])):=by rw [<-hH1]; exact Ab
  have k1:∀ b o,H b=some o->b≠p->H1 b=some o:=fun b o e n=>by rw [<-hH1,As n]; exact e
  refine ⟨_,rfl,r,rfl,ho,fun l H2 s2 hl=>⟨l,rfl,⟨_,SqL.of hl⟩,?_⟩⟩;refine Ck (xs:=r.map fun c=>V.str (BI c)) (fun i acc H3=>∃ ps:List Addr,acc=ps.map V.ref/\An H2 H3/\Paired (Cl a H3) ps (r.take i)) ⟨[],rfl,An.refl H2,.nil⟩ (fun i acc H3 _ ⟨ps,_,sm,_⟩=>SqL.of (sm _ _ hl)) ?_ ?_
  ·rintro i x acc H3 hx ⟨ps,rfl,sm,pr⟩;rw [List.getElem?_map] at hx;obtain ⟨c,ec,rfl⟩:=Option.map_eq_some_iff.mp hx;refine ⟨⟨[some (.str (BI c))],rfl,rfl⟩,?_,?_⟩
   ·have e1:=Paired.length pr;rw [List.length_take] at e1;rw [List.length_map,e1];exact Nat.lt_of_le_of_lt (Nat.min_le_right _ _) (Nat.lt_of_le_of_lt f50 (by decide))
   ·refine FH ⟨_,rfl,c,rfl,ho.ok c (List.mem_of_getElem? ec),fun q H4 s4 hq=>⟨ps ++ [q],by rw [List.map_append]; rfl,sm.trans s4,?_⟩⟩;rw [List.take_add_one,ec];exact Paired.snoc (Paired.imp (fun _ _ z=>z.same s4) pr) hq
  ·rintro acc H3 ⟨ps,rfl,sm,pr⟩ q nq;rw [List.length_map,List.take_length] at pr;refine ⟨q,_,rfl,.inl ⟨SqL.of Ab,fun t ht=>?_⟩⟩;generalize hH4:upd (upd H3 q (.lst (ps.map V.ref))) t (.tup (ps.map V.ref))=H4;have s34:An H3 H4:=by rw [<-hH4]; exact (Ah nq).trans (Ah ht)
   have ht4:H4 t=some (.tup (ps.map V.ref)):=by rw [<-hH4]; exact Ab
   have s14:An H1 H4:=(s2.trans sm).trans s34;have ntp:t≠p:=fun z=>by rw [z,s14 _ _ hp1] at ht4; cases ht4
   refine ⟨_,rfl,p,_,dx,_,rfl,s14 _ _ hp1,T.cl_Rule,T.na_Rule_clauses,(by show 1 < 1000; decide),?_⟩;have up:∀ b o,H4 b=some o->b≠p->upd H4 p (.ins a.c_Rule dx (fl2 "text" "clauses" (.str (Ek r)) (.ref t))) b=some o:=fun b o e n=>by rw [As n]; exact e
   have cl:∀ q' c,Cl a H4 q' c->Cl a (upd H4 p (.ins a.c_Rule dx (fl2 "text" "clauses" (.str (Ek r)) (.ref t)))) q' c:=fun q' c hc=>by
    exact hc.put (s14 _ _ hp1) (fun C d fs e=>by
     cases e;exact ⟨Nh (by decide +kernel),Nh (by decide +kernel),Nh (by decide +kernel)⟩) (fun xs z=>by cases z)
   exact k _ (fun b o e n=>up _ _ (s14 _ _ (k1 b o e n)) n) ⟨dx,t,ps,Ab,up _ _ ht4 ntp,Paired.imp (fun q' c z=>cl q' c (z.same s34)) pr⟩
def EE:List Int:=[0,0,0,0,0,0,0,0]
inductive SpRR (a:Ad) (vs:List V) (H:Hp) (Q:VK):Prop
 | mk (r:AM) (_:vs=[.str (Ek r)]) (_:Nn r) (_:DS r 0 EE=0) (_:∀ (p:Addr) (H':Hp),An H H'->CA a H' p (Ek r) r->Q (.ref p) H'):SpRR a vs H Q
def spRR (a:Ad):Sp:=fun vs H Q _=>SpRR a vs H Q
theorem ok_rr {f:Addr} {fd:FuncData} (F:Fun K "read_rule" "read_rule" Eh f fd) (T:Top K mg a) (jT:IK P w K mg base CX0 6 "Rule" a.c_Rule EY (spRI a)) (bF:Cal P w K mg base CX0 5 "becomes" Fs (Py a)) :
  AU P w K mg base CX0 8 f fd ET (spRR a):=by
 refine F.ok Ij (fun vs H Q E h=>?_) (fun cdv A outer s H vs Q E hr h=>?_)
 ·obtain ⟨r,rfl,_⟩:=h;rfl
 ·obtain ⟨r,rfl,ho,hz,k⟩:=h;refine ⟨_,(Ae (Ba (Fd (EK (AW FT rfl T.b_isinstance PyProof.Rows.boot_isinstance (Aa (pv 0) (Aa (GS (v:=.ty "str") rfl T.b_str PyProof.Rows.boot_str rfl) Ac))))) (Aj BS) AE) (Ae (Av (i:=1) Ij.nd rfl (Or.inl rfl) (GR jT (rm hr) rfl Ar (Aa (pv 0) Ac))) (Ae (Ba (AJ Ix (Az bF (rm hr) rfl Ar (Aa (pv 1) (AN (Cp RS (Bc (AN Ac)) (Ev rfl T.k_NEIGHBOURS) Ac)))) Af (AT _)) (Aj BS) AE) (Aj (AA (pv 1)))))),?_⟩
  try dsimp only [cxK]
  refine ⟨_,rfl,_,_,_,.type "str",true,rfl,rfl,.of (.str _),Ps K,true,rfl,?_⟩;refine Cz ⟨_,rfl,?_⟩;intro x dx nx ndx nex;refine ⟨x,dx,r,rfl,Ab,ho,fun H2 kp hR=>⟨rfl,?_⟩⟩;have s2:An H H2:=fun b o e=>kp b o (by rw [As (Am e nx),As (Am e ndx)]; exact e) (Am e nx);refine ⟨_,rfl,(by show 1<=sizeLine; decide),fun l hl=>?_⟩;refine ⟨l,8,_,rfl,rfl,Ab,(by decide),(by decide),(by decide),fun m hm=>?_⟩;have s3:=(s2.trans (Ah (o:=.lst [.int 0]) hl)).trans (Ah (o:=.lst (EE.map V.int)) hm);have s23:=(Ah (o:=.lst [.int 0]) hl).trans (Ah (o:=.lst (EE.map V.int)) hm);refine ⟨x,m,_,r,0,EE,rfl,hR.same s23,ho.rok,Ab,fun H4 s4=>?_⟩;refine ⟨rfl,_,rfl,?_⟩;rw [hz];refine Qa rfl ⟨_,rfl,?_⟩;exact k x H4 (s3.trans s4) ((hR.same s23).same s4)
end
end J
namespace J
open PySem L2
seal L2.PA L2.PE L2.PS L2.PSs L2.PT L2.PW
def atN (ns:List Int) (k:Int):Int:=ns.getD k.toNat 0
section
variable {P:Program} {w:World} {K:PySem.W.Frag} {mg:Str->Option Value} {base:Heap} {a:Ad}
inductive SpAt (K:PySem.W.Frag) (vs:List V) (H:Hp) (Q:VK):Prop
 | mk (l:Addr) (ns:List Int) (k:Int) (_:vs=[.ref l,.int k]) (_:SqL K H l (ns.map V.int)) (_:0<=k) (_:Q (.int (atN ns k)) H):SpAt K vs H Q
def spAt (K:PySem.W.Frag):Sp:=fun vs H Q _=>SpAt K vs H Q
theorem ok_at {f:Addr} {fd:FuncData} (F:Fun K "_law_at" "_law_at" Fq f fd) (T:Top K mg a):AU P w K mg base CX0 1 f fd Ft (spAt K):=by
 refine F.ok OM (fun vs H Q E h=>?_) (fun cdv A outer s H vs Q E hr h=>?_)
 ·obtain ⟨l,ns,k,rfl,_⟩:=h;rfl
 ·obtain ⟨l,ns,k,rfl,hS,h0,q⟩:=h;refine ⟨_,(Ae (Ba (AJ Ji (pv 1) (AW Bl rfl T.b_len PySem.boot_len (Aa (pv 0) Ac)) (AT _)) (Aj (AA (Al Au (pv 0) (pv 1) (fun _ _=>rfl)))) AE) (Aj (AA Af))),?_⟩
  try dsimp only [cxK]
  refine ⟨_,rfl,_,rfl,l,_,rfl,.inl hS,_,_,rfl,rfl,_,rfl,?_⟩;obtain ⟨n,rfl⟩:=Int.eq_ofNat_of_zero_le h0;refine Jd (fun hc=>?_) (fun hc=>?_)
  ·have hc':n < ns.length:=by
    have:=of_decide_eq_true hc;rw [List.length_map] at this;omega
   refine ⟨_,rfl,_,rfl,l,_,n,.int ns[n],rfl,rfl,hS,Ai (by rw [List.getElem?_map,List.getElem?_eq_getElem hc']; rfl),?_⟩;have e:atN ns (n:Int)=ns[n]:=by
    unfold atN;rw [Int.toNat_natCast,List.getD_eq_getElem?_getD,List.getElem?_eq_getElem hc'];rfl
   rw [e] at q;exact q
  ·have hc':ns.length<=n:=by
    have:¬ (n:Int) < ((ns.map V.int).length:Int):=fun z=>hc (decide_eq_true z);rw [List.length_map] at this;omega
   have e:atN ns (n:Int)=0:=by
    unfold atN;rw [Int.toNat_natCast,List.getD_eq_getElem?_getD,List.getElem?_eq_none hc'];rfl
   rw [e] at q;exact q
end
theorem GO {d:Int} (h0:0<=d) (h1:d<=9):d.natAbs.log2 < 1920:=by
 obtain ⟨m,rfl⟩:=Int.eq_ofNat_of_zero_le h0;exact (show ∀ m:Nat,m < 10->(m:Int).natAbs.log2 < 1920 by decide +kernel) m (by omega)
theorem Gc {n:Nat} (h:n<=100000):n<=sizeLine:=Nat.le_trans h (by decide)
abbrev Rl:Str:=Str.ofString "01234567*"
theorem star_at:∀ m:Nat,m < 9->Rl.cps.toList[m]?=some (if m=8 then 42 else 48+m):=by decide +kernel
inductive SpLaw (K:PySem.W.Frag) (vs:List V) (H:Hp) (Q:VK):Prop
 | mk (a:Addr) (ns:List Int) (_:vs=[.ref a]) (_:SqL K H a (ns.map V.int)) (_:ns.length<=63) (_:∀ H',Q (.bl true) H'):SpLaw K vs H Q
def Pw (K:PySem.W.Frag):Sp:=fun vs H Q _=>SpLaw K vs H Q
def FD (n:Int) (k:Nat):Bool:=decide (V.int (Builtin.bitAnd (n / 2 ^ k) 1)=V.int 1)
def Cj (n:Int):List Int:=((List.range 9).filter (FD n)).map fun (k:Nat)=>(k:Int)
theorem nums_ne:∀ m:Nat,m < 511->Cj ((m:Int)+1)≠[]:=by decide +kernel
theorem NQ (n:Int):(Cj n).Pairwise (· < ·):=by
 unfold Cj;rw [List.pairwise_map];have:((List.range 9).filter (FD n)).Pairwise (· < ·):=List.pairwise_lt_range.sublist List.filter_sublist;exact this.imp fun h=>by omega
theorem PQ (n:Int):∀ m ∈ Cj n,0<=m/\m<=8:=fun m hm=>by
 obtain ⟨k,hk,rfl⟩:=List.mem_map.mp hm;have:=List.mem_range.mp (List.mem_filter.mp hk).1;omega
end J
namespace J
open PySem L2
seal L2.PA L2.PE L2.PS L2.PSs L2.PT L2.PW
structure LC4 where
 tk:Int
 ams:List (Int×Int)
 wis:List (Int×Int)
 ms:Int
structure LC4.Ok (c:LC4):Prop where
 tk:0<=c.tk/\c.tk<=8
 ams:∀ p ∈ c.ams,Dq p.1/\1<=p.2/\p.2<=511
 few:c.ams.length<=2
 wis:∀ p ∈ c.wis,(0<=p.1/\p.1 < 8)/\Dq p.2
 asc:c.wis.Pairwise fun p q=>p.1 < q.1
 ms:Dq c.ms
def Fk (wis:List (Int×Int)):List (Option Int):=(List.range 8).map fun (k:Nat)=>(wis.find? fun p=>decide (p.1=(k:Int))).map (·.2)
def LC4.a (c:LC4):Bg:=⟨if c.tk=8 then none else some c.tk,c.ams.map (fun p=>.am p.1 (Cj p.2)) ++ (if c.wis=[] then [] else [.pl (Fk c.wis)]),c.ms⟩
theorem IL (wis:List (Int×Int)):(Fk wis).length=8:=by
 unfold Fk;rw [List.length_map,List.length_range]
theorem nums_ne' {m:Int} (h1:1<=m) (h2:m<=511):Cj m≠[]:=by
 have:=nums_ne (m.toNat - 1) (by lia);rw [show (((m.toNat - 1:Nat):Int)+1)=m by lia] at this;exact this
theorem LC4.Ok.a {c:LC4} (h:c.Ok):c.a.ok:=by
 refine ⟨?_,h.ms,?_,?_⟩
 ·unfold LC4.a;dsimp only;have:=h.tk;split
  ·trivial
  ·exact ⟨by lia,by lia⟩
 ·unfold LC4.a;dsimp only;have:=h.few;rw [List.length_append,List.length_map];split
  ·rw [List.length_nil];lia
  ·rw [List.length_singleton];lia
 ·intro d hd;unfold LC4.a at hd;dsimp only at hd;rcases List.mem_append.mp hd with z | z
  ·obtain ⟨p,hp,rfl⟩:=List.mem_map.mp z;obtain ⟨h1,h2,h3⟩:=h.ams p hp;exact ⟨h1,nums_ne' h2 h3,PQ _,NQ _⟩
  ·split at z
   ·cases z
   ·rw [List.mem_singleton.mp z];refine ⟨IL _,fun w hw=>?_⟩;unfold Fk at hw;obtain ⟨k,_,rfl⟩:=List.mem_map.mp hw;cases e:c.wis.find? fun p=>decide (p.1=(k:Int)) with
    | none=>trivial
    | some p=>exact (h.wis p (List.mem_of_find?_eq_some e)).2
def LP (H:Hp) (t:Addr) (p:Int×Int):Prop:=H t=some (.tup [.int p.1,.int p.2])
inductive Gj (H:Hp) (q:Addr) (c:LC4):Prop
 | mk (la lw:Addr) (tas tws:List Addr) (_:H q=some (.tup [.int c.tk,.ref la,.ref lw,.int c.ms])) (_:H la=some (.lst (tas.map V.ref))) (_:Paired (LP H) tas c.ams) (_:H lw=some (.lst (tws.map V.ref))) (_:Paired (LP H) tws c.wis)
theorem Gj.same {H H':Hp} {q:Addr} {c:LC4} (s:An H H') (h:Gj H q c):Gj H' q c:=by
 obtain ⟨la,lw,tas,tws,h1,h2,h3,h4,h5⟩:=h;exact ⟨la,lw,tas,tws,s _ _ h1,s _ _ h2,Paired.imp (fun t p e=>s _ _ e) h3,s _ _ h4,Paired.imp (fun t p e=>s _ _ e) h5⟩
inductive Gi (H:Hp) (q:Addr) (r:List LC4):Prop
 | mk (ts:List Addr) (_:H q=some (.lst (ts.map V.ref))) (_:Paired (Gj H) ts r)
theorem Gi.same {H H':Hp} {q:Addr} {r:List LC4} (s:An H H') (h:Gi H q r):Gi H' q r:=by
 obtain ⟨ts,h1,h2⟩:=h;exact ⟨ts,s _ _ h1,Paired.imp (fun t c e=>e.same s) h2⟩
structure Np (r:List LC4):Prop where
 few:r.length<=10
 ok:∀ c ∈ r,c.Ok
section
variable {P:Program} {w:World} {K:PySem.W.Frag} {mg:Str->Option Value} {base:Heap} {a:Ad}
inductive SR (vs:List V) (H:Hp) (Q:VK):Prop
 | mk (c k:Int) (_:vs=[.int c,.int k]) (_:0<=k) (_:k<=1000) (_:∀ i:Int,0<=i->Q (.int i) H):SR vs H Q
def Mw:Sp:=fun vs H Q _=>SR vs H Q
theorem ok_stir {f:Addr} {fd:FuncData} (F:Fun K "_law_stir" "_law_stir" Ei f fd) (T:Top K mg a):AU P w K mg base CX0 1 f fd El Mw:=by
 refine F.ok FW (fun vs H Q E h=>?_) (fun cdv A outer s H vs Q E hr h=>?_)
 ·obtain ⟨c,k,rfl,_⟩:=h;rfl
 ·obtain ⟨c,k',rfl,k0,k1,k⟩:=h;refine ⟨_,(Ae (Av (i:=2) FW.nd rfl (Or.inl rfl) (AH Ci (AH BG (AH BG (AH Ci (pv 0) Af) (AH OR Af (pv 1))) Af) Af)) (Ae (Av (i:=2) FW.nd rfl (Or.inl rfl) (AH Ci (AH OR (pv 2) (pv 2)) Af)) (Aj (AA (AH Fm (AH Ci (AH BG (AH OR (pv 2) Af) (pv 1)) Af) Af))))),?_⟩
  try dsimp only [cxK]
  refine ⟨_,rfl,_,_,rfl,rfl,(by show (0:Int) < 2147483629; decide),_,rfl,_,_,rfl,rfl,.inl ⟨by decide,by decide⟩,_,_,rfl,rfl,_,_,rfl,rfl,_,_,rfl,rfl,(by show (0:Int) < 2147483629; decide),?_⟩;have h0:=Int.emod_nonneg (c % 2147483629+7919 * k'+11) (show (2147483629:Int)≠0 by decide);have h1:=Int.emod_lt_of_pos (c % 2147483629+7919 * k'+11) (show (0:Int) < 2147483629 by decide);obtain ⟨v,hv⟩:∃ v,(c % 2147483629+7919 * k'+11) % 2147483629=v:=⟨_,rfl⟩
  rw [hv] at h0 h1;rw [show (fun (i j:Int)=>V.int (i % j)) (c % 2147483629+7919 * k'+11) 2147483629=V.int v from congrArg V.int hv];refine ⟨_,rfl,_,rfl,_,_,rfl,rfl,.inl ⟨by lia,by lia⟩,_,_,rfl,rfl,(by show (0:Int) < 2147483587; decide),?_⟩;have g0:=Int.emod_nonneg (v * v) (show (2147483587:Int)≠0 by decide);have g1:=Int.emod_lt_of_pos (v * v) (show (0:Int) < 2147483587 by decide);obtain ⟨u,hu⟩:∃ u,v * v % 2147483587=u:=⟨_,rfl⟩
  rw [hu] at g0 g1;rw [show (fun (i j:Int)=>V.int (i % j)) (v * v) 2147483587=V.int u from congrArg V.int hu];refine ⟨_,rfl,_,_,rfl,rfl,.inl ⟨by lia,by lia⟩,_,rfl,_,_,rfl,rfl,_,_,rfl,rfl,(by show (0:Int) < 2147483563; decide),_,_,rfl,rfl,⟨by decide,by decide⟩,k _ ?_⟩;have:=Int.emod_nonneg (u * 48271+k') (show (2147483563:Int)≠0 by decide);show 0<=(u * 48271+k') % 2147483563 / 13;lia
inductive Nq (H:Hp) (q:Addr):Prop
 | mk (x y z u:Int) (_:H q=some (.lst [.int x,.int y,.int z,.int u])) (_:Dq x/\Dq y/\Dq z/\Dq u)
theorem Nq.same {H H':Hp} {q:Addr} (s:An H H') (h:Nq H q):Nq H' q:=by
 obtain ⟨x,y,z,u,h1,h2⟩:=h;exact ⟨x,y,z,u,s _ _ h1,h2⟩
theorem Nq.get {H:Hp} {q:Addr} (h:Nq H q):∃ xs:List V,H q=some (.lst xs)/\∀ i:Int,0<=i->∃ d:Int,Dq d/\atI xs (i % 4)=some (.int d):=by
 obtain ⟨x,y,z,u,h1,h2,h3,h4,h5⟩:=h;refine ⟨_,h1,fun i hi=>?_⟩;have e:i % 4=((i % 4).toNat:Int):=by lia
 have l:(i % 4).toNat < 4:=by lia
 rw [e];generalize (i % 4).toNat=j at l
 match j,l with
 | 0,_=>exact ⟨x,h2,Ai rfl⟩
 | 1,_=>exact ⟨y,h3,Ai rfl⟩
 | 2,_=>exact ⟨z,h4,Ai rfl⟩
 | 3,_=>exact ⟨u,h5,Ai rfl⟩
end
end J
namespace J
open PySem L2
seal L2.PA L2.PE L2.PS L2.PSs L2.PT L2.PW
theorem An.noneN {H H':Hp} (s:An H H') {x:Addr} (n:H' x=none):H x=none:=by
 cases e:H x with
 | none=>rfl
 | some o=>rw [s _ _ e] at n; cases n
theorem IC {T:St->Hp->Prop} {C:Prop} (P:St->Hp->Prop) (h:(∀ σ H,P σ H->T σ H)->C) (k:∀ σ H,P σ H->T σ H):C:=h k
section
variable {P:Program} {w:World} {K:PySem.W.Frag} {mg:Str->Option Value} {base:Heap} {a:Ad}
inductive SpCb4 (vs:List V) (H:Hp) (Q:VK):Prop
 | mk (c:Int) (fw:Addr) (_:vs=[.int c,.ref fw]) (_:Nq H fw) (_:∀ (q:Addr) (d:LC4) (H':Hp),An H H'->Gj H' q d->d.Ok->Q (.ref q) H'):SpCb4 vs H Q
def RB:Sp:=fun vs H Q _=>SpCb4 vs H Q
theorem ok_cb4 {f:Addr} {fd:FuncData} (F:Fun K "_law_clause_by" "_law_clause_by" BV f fd) (T:Top K mg a) (aD:Cal P w K mg base CX0 1 "_law_stir" El Mw):AU P w K mg base CX0 2 f fd CP RB:=by
 refine F.ok Bx (fun vs H Q E h=>?_) (fun cdv A outer s H vs Q E hr h=>?_)
 ·obtain ⟨c,fw,rfl,_⟩:=h;rfl
 ·obtain ⟨c,fw,rfl,hf,k⟩:=h;refine ⟨_,(Ae (Av (i:=2) Bx.nd rfl (Or.inl rfl) Af) (Ae (Ba (AJ RT (AH Ci (Az aD (rm hr) rfl Ar (Aa (pv 0) (AN Ac))) Af) Af (AT _)) (Aj (Av (i:=2) Bx.nd rfl (Or.inl rfl) (Al Au (pv 1) (AH Ci (Az aD (rm hr) rfl Ar (Aa (pv 0) (AN Ac))) Af) (fun _ _=>rfl)))) AE) (Ae (Av (i:=3) Bx.nd rfl (Or.inl rfl) (Bc Ac)) (Ae (BP PassesOwn.never rfl (CN rfl T.b_range (Cp Ci (Az aD (rm hr) rfl Ar (Aa (pv 0) (AN Ac))) Af Ac)) (AQ (i:=4) Bx.nd rfl (Or.inl rfl)) (Aj (BQ (Dw PySem.F.plainAttrs_list PySem.F.slot_list_append PySem.F.type_list_append BN (pv 3) (Cf (Aa (Al Au (pv 1) (AH Ci (Az aD (rm hr) rfl Ar (Aa (pv 0) (Cp BG Af (pv 4) Ac))) Af) (fun _ _=>rfl)) (Cp BG Af (AH Ci (Az aD (rm hr) rfl Ar (Aa (pv 0) (Cp BG Af (pv 4) Ac))) Af) Ac)) Ac))))) (Ae (Av (i:=5) Bx.nd rfl (Or.inl rfl) (Bc Ac)) (Ae (BP PassesOwn.never rfl (CN rfl T.b_range (AN Ac)) (AQ (i:=6) Bx.nd rfl (Or.inl rfl)) (Aj (Ba (AJ FA (AH Ci (Az aD (rm hr) rfl Ar (Aa (pv 0) (Cp BG Af (pv 6) Ac))) Af) Af (AT _)) (Aj (BQ (Dw PySem.F.plainAttrs_list PySem.F.slot_list_append PySem.F.type_list_append BN (pv 5) (Cf (Aa (pv 6) (Aa (Al Au (pv 1) (AH Ci (Az aD (rm hr) rfl Ar (Aa (pv 0) (Cp BG Af (pv 6) Ac))) Af) (fun _ _=>rfl)) Ac)) Ac)))) AE))) (Aj (AA (JV (Aa (pv 2) (Aa (pv 3) (Aa (pv 5) (Aa (Al Au (pv 1) (AH Ci (Az aD (rm hr) rfl Ar (Aa (pv 0) (AN Ac))) Af) (fun _ _=>rfl)) Ac))))))))))))),?_⟩
  try dsimp only [cxK]
  obtain ⟨xs,hx,hget⟩:=hf.get;apply IC (fun σ H'=>H=H'/\∃ tk:Int,(0<=tk/\tk<=8)/\σ=[some (.int c),some (.ref fw),some (.int tk),none,none,none,none])
  ·intro rest;refine ⟨_,rfl,_,_,rfl,by decide,by decide,fun i hi=>?_⟩;refine ⟨_,_,rfl,rfl,(by show (0:Int) < 4; decide),_,_,rfl,rfl,_,rfl,?_⟩;refine (fun (h1:_) h2=>Jd h2 h1) (fun _=>rest _ _ ⟨rfl,8,by decide,rfl⟩) (fun _=>?_);refine ⟨_,rfl,_,rfl,_,_,rfl,by decide,by decide,fun j hj=>?_⟩;obtain ⟨d,dok,ed⟩:=hget j hj;refine ⟨_,_,rfl,rfl,(by show (0:Int) < 4; decide),fw,xs,_,_,rfl,rfl,SqL.of hx,ed,rest _ _ ⟨rfl,d,⟨dok.1,by have:=dok.2; lia⟩,rfl⟩⟩
  rintro σ H' ⟨rfl,tk,tkr,rfl⟩;refine ⟨(by show 0<=sizeLine; decide),fun LA hLA=>?_⟩;have s1:=Ah (o:=.lst []) hLA;have hA1:upd H LA (.lst []) LA=some (.lst []):=Ab;generalize upd H LA (.lst [])=H1 at s1 hA1 ⊢;refine ⟨_,rfl,_,_,rfl,by decide,by decide,fun i hi=>?_⟩;obtain ⟨m,hm⟩:∃ m:Nat,i % 3=(m:Int):=⟨(i % 3).toNat,by lia⟩
  have m3:m < 3:=by lia
  refine ⟨_,_,rfl,rfl,(by show (0:Int) < 3; decide),(m:Int),congrArg (fun z=>[V.int z]) hm,by lia,by lia,?_⟩;rw [Int.toNat_natCast];refine Do (n:=m) (fun j σ H3=>∃ (tas:List Addr) (ams:List (Int×Int)) (u4:Option V),σ=[some (.int c),some (.ref fw),some (.int tk),some (.ref LA),u4,none,none]/\An H H3/\H3 LA=some (.lst (tas.map V.ref))/\Paired (LP H3) tas ams/\ams.length=j/\∀ p ∈ ams,Dq p.1/\1<=p.2/\p.2<=511) ⟨[],[],none,rfl,s1,hA1,.nil,rfl,fun p hp=>(nomatch hp)⟩ ?_ ?_
  ·rintro j σ H3 hj ⟨tas,ams,u4,rfl,sm,hA3,pr,lc,oks⟩;have lts:=Paired.length pr;refine ⟨_,rfl,.inl ⟨rfl,_,SqL.of hA3⟩,_,rfl,_,rfl,_,rfl,_,_,rfl,rfl,_,_,rfl,by show 0<=3+(0+(j:Int)); lia,by show 3+(0+(j:Int))<=1000; lia,fun i1 hi1=>?_⟩;obtain ⟨d,dok,ed⟩:=hget i1 hi1;refine ⟨_,_,rfl,rfl,(by show (0:Int) < 4; decide),fw,xs,_,_,rfl,rfl,SqL.of (sm _ _ hx),ed,?_⟩;refine ⟨_,rfl,_,rfl,_,_,rfl,rfl,_,_,rfl,by show 0<=6+(0+(j:Int)); lia,by show 6+(0+(j:Int))<=1000; lia,fun i2 hi2=>?_⟩;refine ⟨_,_,rfl,rfl,(by show (0:Int) < 511; decide),_,_,rfl,rfl,(by show 2<=sizeLine; decide),fun t ht=>?_⟩;have s6:=Ah (o:=.tup [.int d,.int (1+i2 % 511)]) ht;have ht6:LP (upd H3 t (.tup [.int d,.int (1+i2 % 511)])) t (d,1+i2 % 511):=Ab;show ∃ _,_;generalize upd H3 t (.tup [.int d,.int (1+i2 % 511)])=H6 at s6 ht6 ⊢;have hA6:=s6 _ _ hA3;refine ⟨LA,_,_,rfl,rfl,hA6,by rw [List.length_map]; exact Nat.lt_of_le_of_lt (show tas.length<=100 by lia) (by decide),?_⟩;have tp:∀ {b:Addr} {ys:List V},H6 b=some (.tup ys)->upd H6 LA (.lst (tas.map V.ref ++ [.ref t])) b=some (.tup ys):=fun {b ys} e=>by rw [As (AC e hA6 (by intro z; cases z))]; exact e
   refine ⟨tas ++ [t],ams ++ [(d,1+i2 % 511)],_,rfl,fun b o e=>?_,by rw [Ab,List.map_append]; rfl,Paired.snoc (Paired.imp (fun b c z=>tp (s6 _ _ z)) pr) (show LP _ t (d,1+i2 % 511) from tp ht6),by rw [List.length_append,lc]; rfl,fun p hp=>?_⟩
   ·rw [As (Am e hLA)];exact s6 _ _ (sm _ _ e)
   ·rcases List.mem_append.mp hp with z | z
    ·exact oks p z
    ·rw [List.mem_singleton.mp z];exact ⟨dok,by show 1<=1+i2 % 511; lia,by show 1+i2 % 511<=511; lia⟩
  rintro σ H3 ⟨tas,ams,u4,rfl,sm,hA3,pr,lc,oks⟩;refine ⟨(by show 0<=sizeLine; decide),fun LW hLW=>?_⟩;have s4:=Ah (o:=.lst []) hLW;have hW4:upd H3 LW (.lst []) LW=some (.lst []):=Ab;have nW:H LW=none:=An.noneN sm hLW;generalize upd H3 LW (.lst [])=H4 at s4 hW4 ⊢;have hA4:=s4 _ _ hA3;have pr4:Paired (LP H4) tas ams:=Paired.imp (fun b c z=>s4 _ _ z) pr;have sH4:=sm.trans s4;have nAW:LA≠LW:=fun z=>by rw [z] at hA3; rw [hA3] at hLW; cases hLW
  clear hA3 pr sm s4 hA1 s1;refine ⟨8,rfl,by decide,by decide,?_⟩;refine Do (n:=8) (fun j σ H5=>∃ (tws:List Addr) (wis:List (Int×Int)) (u6:Option V),σ=[some (.int c),some (.ref fw),some (.int tk),some (.ref LA),u4,some (.ref LW),u6]/\An H H5/\H5 LA=some (.lst (tas.map V.ref))/\Paired (LP H5) tas ams/\H5 LW=some (.lst (tws.map V.ref))/\Paired (LP H5) tws wis/\wis.length<=j/\(∀ p ∈ wis,(0<=p.1/\p.1 < (j:Int))/\Dq p.2)/\wis.Pairwise fun p q=>p.1 < q.1) ⟨[],[],none,rfl,sH4,hA4,pr4,hW4,.nil,Nat.le_refl _,fun p hp=>(nomatch hp),.nil⟩ ?_ ?_
  ·rintro j σ H5 hj ⟨tws,wis,u6,rfl,sm,hA5,prA,hW5,prW,lw,okw,asc⟩;have lts:=Paired.length prW;refine ⟨_,rfl,_,rfl,_,_,rfl,rfl,_,_,rfl,by show 0<=9+(0+(j:Int)); lia,by show 9+(0+(j:Int))<=1000; lia,fun i1 hi1=>?_⟩;refine ⟨_,_,rfl,rfl,(by show (0:Int) < 9; decide),rfl,_,rfl,Jd (fun _=>?_) (fun _=>?_)⟩
   ·refine ⟨_,rfl,.inl ⟨rfl,_,SqL.of hW5⟩,_,rfl,_,rfl,_,rfl,_,rfl,_,_,rfl,rfl,_,_,rfl,by show 0<=20+(0+(j:Int)); lia,by show 20+(0+(j:Int))<=1000; lia,fun i2 hi2=>?_⟩;obtain ⟨d,dok,ed⟩:=hget i2 hi2;refine ⟨_,_,rfl,rfl,(by show (0:Int) < 4; decide),fw,xs,_,_,rfl,rfl,SqL.of (sm _ _ hx),ed,(by show 2<=sizeLine; decide),fun t ht=>?_⟩;have s6:=Ah (o:=.tup [.int (0+(j:Int)),.int d]) ht;have ht6:LP (upd H5 t (.tup [.int (0+(j:Int)),.int d])) t (0+(j:Int),d):=Ab;show ∃ _,_;generalize upd H5 t (.tup [.int (0+(j:Int)),.int d])=H6 at s6 ht6 ⊢;have hW6:=s6 _ _ hW5;refine ⟨LW,_,_,rfl,rfl,hW6,by rw [List.length_map]; exact Nat.lt_of_le_of_lt (show tws.length<=100 by lia) (by decide),?_⟩;have tp:∀ {b:Addr} {ys:List V},H6 b=some (.tup ys)->upd H6 LW (.lst (tws.map V.ref ++ [.ref t])) b=some (.tup ys):=fun {b ys} e=>by rw [As (AC e hW6 (by intro z; cases z))]; exact e
    refine ⟨tws ++ [t],wis ++ [(0+(j:Int),d)],_,rfl,fun b o e=>?_,by rw [As nAW]; exact s6 _ _ hA5,Paired.imp (fun b c z=>tp (s6 _ _ z)) prA,by rw [Ab,List.map_append]; rfl,Paired.snoc (Paired.imp (fun b c z=>tp (s6 _ _ z)) prW) (show LP _ t (0+(j:Int),d) from tp ht6),by rw [List.length_append,List.length_singleton]; lia,fun p hp=>?_,?_⟩
    ·rw [As (Am e nW)];exact s6 _ _ (sm _ _ e)
    ·rcases List.mem_append.mp hp with z | z
     ·have:=okw p z;exact ⟨⟨by lia,by lia⟩,this.2⟩
     ·rw [List.mem_singleton.mp z];exact ⟨⟨by show 0<=0+(j:Int); lia,by show 0+(j:Int) < _; lia⟩,dok⟩
    ·rw [List.pairwise_append];refine ⟨asc,List.pairwise_singleton _ _,fun p hp q hq=>?_⟩;rw [List.mem_singleton.mp hq];have:=okw p hp;show p.1 < 0+(j:Int)
     lia
   ·exact ⟨tws,wis,_,rfl,sm,hA5,prA,hW5,prW,by lia,fun p hp=>⟨⟨(okw p hp).1.1,by have:=(okw p hp).1.2; lia⟩,(okw p hp).2⟩,asc⟩
  rintro σ H5 ⟨tws,wis,u6,rfl,sm,hA5,prA,hW5,prW,lw,okw,asc⟩;refine ⟨_,rfl,_,rfl,_,rfl,_,rfl,_,rfl,_,_,rfl,by decide,by decide,fun i3 hi3=>?_⟩;obtain ⟨d,dok,ed⟩:=hget i3 hi3;refine ⟨_,_,rfl,rfl,(by show (0:Int) < 4; decide),fw,xs,_,_,rfl,rfl,SqL.of (sm _ _ hx),ed,(by show 4<=sizeLine; decide),fun q hq=>?_⟩;have s6:=Ah (o:=.tup [.int tk,.ref LA,.ref LW,.int d]) hq;exact k q ⟨tk,ams,wis,d⟩ _ (sm.trans s6) ⟨LA,LW,tas,tws,Ab,s6 _ _ hA5,Paired.imp (fun b c z=>s6 _ _ z) prA,s6 _ _ hW5,Paired.imp (fun b c z=>s6 _ _ z) prW⟩ ⟨tkr,oks,by show ams.length<=2; lia,fun p hp=>okw p hp,asc,dok⟩
end
end J
namespace J
open PySem L2
theorem bit_and:∀ m:Nat,m < 512->Builtin.bitAnd (m:Int) 1=((m % 2:Nat):Int):=by decide +kernel
theorem Sa (m:Int) {k:Nat} (hk:k<=8):((Cj m).any fun n=>decide (n=(k:Int)))=FD m k:=by
 unfold Cj;rw [List.any_map];cases e:FD m k with
 | true =>
  rw [List.any_eq_true];exact ⟨k,List.mem_filter.mpr ⟨List.mem_range.mpr (by lia),e⟩,by simp⟩
 | false =>
  rw [List.any_eq_false];intro j hj z;have:=of_decide_eq_true z;have ej:j=k:=by
   have:(j:Int)=(k:Int):=this;lia
  rw [ej] at hj;rw [(List.mem_filter.mp hj).2] at e;cases e
def II (ar:List Int) (s:Int):Nat:=ar.countP (· == s)
def Ou (ar:List Int) (p:Int×Int):Bool:=FD p.2 (II ar p.1)
def Oz (ar:List Int) (p:Int×Int):Bool:=decide (ar[p.1.toNat]?=some p.2)
theorem ws_all {wis:List (Int×Int)} {ar:List Int} (h8:ar.length=8) (hw:∀ p ∈ wis,(0<=p.1/\p.1 < 8)/\Dq p.2) (asc:wis.Pairwise fun p q=>p.1 < q.1):(((Fk wis).zip ar).all fun p=>Er p.1 p.2)=wis.all (Oz ar):=by
 have ga:∀ k:Nat,k < 8->∃ x,ar[k]?=some x:=fun k hk=>⟨_,List.getElem?_eq_getElem (by lia)⟩
 have gw:∀ k:Nat,k < 8->(Fk wis)[k]?=some ((wis.find? fun p=>decide (p.1=(k:Int))).map (·.2)):=fun k hk=>by
  unfold Fk;rw [List.getElem?_map,List.getElem?_range hk];rfl
 cases e:wis.all (Oz ar) with
 | true =>
  rw [List.all_eq_true] at e;rw [List.all_eq_true];intro q hq;obtain ⟨k,hk⟩:=List.getElem?_of_mem hq;rw [List.getElem?_zip_eq_some] at hk;have k8:k < 8:=by
   have:=(List.getElem?_eq_some_iff.mp hk.2).1;lia
  rw [gw k k8] at hk;cases ef:wis.find? fun p=>decide (p.1=(k:Int)) with
  | none =>
   rw [ef] at hk;have:=Option.some.inj hk.1;unfold Er;rw [<-this];rfl
  | some p =>
   rw [ef] at hk;have h1:some p.2=q.1:=Option.some.inj hk.1;have hp:=e p (List.mem_of_find?_eq_some ef);have h2:p.1=(k:Int):=by
    have:=List.find?_some ef;exact of_decide_eq_true this
   have h3:ar[p.1.toNat]?=some p.2:=of_decide_eq_true hp;rw [h2,Int.toNat_natCast,hk.2] at h3;unfold Er;rw [<-h1];exact decide_eq_true (Option.some.inj h3).symm
 | false =>
  rw [List.all_eq_false] at e;obtain ⟨p,hp,np⟩:=e;rw [List.all_eq_false];have pr:=(hw p hp).1;have k8:p.1.toNat < 8:=by lia
  obtain ⟨x,hx⟩:=ga _ k8;have fi:(wis.find? fun q=>decide (q.1=((p.1.toNat:Nat):Int)))=some p:=by
   cases ef:wis.find? fun q=>decide (q.1=((p.1.toNat:Nat):Int)) with
   | none =>
    have:=List.find?_eq_none.mp ef p hp;exact absurd (decide_eq_true (show p.1=((p.1.toNat:Nat):Int) by lia)) this
   | some q =>
    have h1:q.1=((p.1.toNat:Nat):Int):=by
     have:=List.find?_some ef;exact of_decide_eq_true this
    have hq:=List.mem_of_find?_eq_some ef;have h2:q.1=p.1:=by lia
    have one:∀ {l:List (Int×Int)},l.Pairwise (fun p q=>p.1 < q.1)->∀ {x y:Int×Int},x ∈ l->y ∈ l->x.1=y.1->x=y:=fun {l}=>by
     induction l with
     | nil =>
      intro _ x y hx;cases hx
     | cons z l ih =>
      intro hp x y hx hy exy;rw [List.pairwise_cons] at hp;rcases List.mem_cons.mp hx with ex | hx'
      ·rcases List.mem_cons.mp hy with ey | hy'
       ·rw [ex,ey]
       ·have:=hp.1 _ hy';rw [ex] at exy;lia
      ·rcases List.mem_cons.mp hy with ey | hy'
       ·have:=hp.1 _ hx';rw [ey] at exy;lia
       ·exact ih hp.2 hx' hy' exy
    rw [one asc hq hp h2]
  refine ⟨(some p.2,x),List.mem_of_getElem? (i:=p.1.toNat) ?_,?_⟩
  ·rw [List.getElem?_zip_eq_some];refine ⟨?_,hx⟩;rw [gw _ k8,fi];rfl
  ·intro z;have z:p.2=x:=of_decide_eq_true z;exact np (decide_eq_true (by rw [hx,z]))
theorem fits4 {c:LC4} (ok:c.Ok) {ar:List Int} (h8:ar.length=8) (cell:Int):c.a.fits cell ar=((decide (c.tk=8) || decide (c.tk=cell)) && (c.ams.all (Ou ar) && c.wis.all (Oz ar))):=by
 unfold Bg.fits LC4.a;dsimp only;congr 1
 ·unfold Er;by_cases z:c.tk=8
  ·rw [if_pos z,decide_eq_true z];rfl
  ·rw [if_neg z,decide_eq_false z];rfl
 ·rw [List.all_append,List.all_map];congr 1
  ·refine List.all_congr rfl fun p=>?_;show ((Cj p.2).any fun n=>decide (n=((ar.countP (· == p.1):Nat):Int)))=FD p.2 (II ar p.1);have:ar.countP (· == p.1)<=8:=by
    rw [<-h8];exact List.countP_le_length
   exact Sa _ this
  ·by_cases z:c.wis=[]
   ·rw [if_pos z,z];rfl
   ·rw [if_neg z];show (Cn.holds ar (.pl (Fk c.wis)) && true)=_;rw [Bool.and_true];exact ws_all h8 ok.wis ok.asc
end J
namespace J
open PySem L2
seal L2.PA L2.PE L2.PS L2.PSs L2.PT L2.PW
theorem ON (l:Nat):((2 ^ l:Nat):Int)=(2:Int) ^ l:=Int.natCast_pow 2 l
section
variable {P:Program} {w:World} {K:PySem.W.Frag} {mg:Str->Option Value} {base:Heap} {a:Ad}
inductive SpFi4 (vs:List V) (H:Hp) (Q:VK):Prop
 | mk (q m:Addr) (c:LC4) (cell:Int) (ar:List Int) (_:vs=[.ref q,.int cell,.ref m]) (_:Gj H q c) (_:c.Ok) (_:H m=some (.lst (ar.map V.int))) (_:ar.length=8) (_:∀ H',An H H'->Q (.bl (c.a.fits cell ar)) H'):SpFi4 vs H Q
def Rw:Sp:=fun vs H Q _=>SpFi4 vs H Q
theorem ok_fi4 {f:Addr} {fd:FuncData} (F:Fun K "_law_fits" "_law_fits" Du f fd) (T:Top K mg a):AU P w K mg base CX0 1 f fd EX Rw:=by
 refine F.ok DH (fun vs H Q E h=>?_) (fun cdv A outer s H vs Q E hr h=>?_)
 ·obtain ⟨q,m,c,cell,ar,rfl,_⟩:=h;rfl
 ·obtain ⟨q,m,c,cell,ar,rfl,hq,ok,hm,h8,k⟩:=h;refine ⟨_,(Ae (Ba (PW.pt (RH (AJ Ix (Al Ao (pv 0) Af (fun _ _=>rfl)) Af (AT _)) (PJ (AJ Ix (Al Ao (pv 0) Af (fun _ _=>rfl)) (pv 1) (AT _))))) (Aj (AA Gu)) AE) (Ae (BP PassesOwn.never rfl (BB (Al Ao (pv 0) Af (fun _ _=>rfl))) (FY rfl (BJ (AQ (i:=3) DH.nd rfl (Or.inr rfl)) (BJ (AQ (i:=4) DH.nd rfl (Or.inl rfl)) Fl))) (Ae (Av (i:=5) DH.nd rfl (Or.inl rfl) (AW Bl rfl T.b_len PySem.boot_len (Aa (BT rfl (Bn.of (So:=Ag Du) (No:=Jm) (N:=["_law_one","_law_state"]) (k:=1) (cs:=[3]) rfl rfl (by decide +kernel)) (BB (pv 2)) (fun _ _ _=>(AV (i:=0) (by decide +kernel) rfl rfl)) (fun _ _ _=>(PK (AJ FA (pv 0) (pv 1) (AT _)))) (fun _ _ _=>(pv 0))) Ac))) (Aj (Ba (AJ FA (AH RU (AH RQ (pv 4) (pv 5)) Af) Af (AT _)) (Aj (AA Gu)) AE)))) (Ae (BP PassesOwn.never rfl (BB (Al Ao (pv 0) Af (fun _ _=>rfl))) (FY rfl (BJ (AQ (i:=6) DH.nd rfl (Or.inl rfl)) (BJ (AQ (i:=3) DH.nd rfl (Or.inr rfl)) Fl))) (Aj (Ba (AJ Ix (Al Au (pv 2) (pv 6) (fun _ _=>rfl)) (pv 3) (AT _)) (Aj (AA Gu)) AE))) (Aj (AA Gu))))),?_⟩
  try dsimp only [cxK]
  obtain ⟨la,lw,tas,tws,h1,h2,h3,h4,h5⟩:=hq;rw [fits4 ok h8] at k;have di:∀ x y:Int,decide (V.int x=V.int y)=decide (x=y):=GV;apply IC (fun σ H'=>H=H'/\σ=[some (.ref q),some (.int cell),some (.ref m),none,none,none,none]/\(decide (c.tk=8) || decide (c.tk=cell))=true)
  ·intro rest;refine ⟨_,rfl,q,_,0,.int c.tk,rfl,rfl,SqT.of h1,Ai (j:=0) rfl,rfl,_,rfl,?_⟩;rw [di];by_cases z:c.tk=8
   ·rw [decide_eq_true z];exact Cz (Cz (rest _ _ ⟨rfl,rfl,by rw [decide_eq_true z]; rfl⟩))
   ·rw [decide_eq_false z];refine EC ⟨_,rfl,q,_,0,.int c.tk,rfl,rfl,SqT.of h1,Ai (j:=0) rfl,_,rfl,rfl,_,rfl,?_⟩;rw [di];by_cases y:c.tk=cell
    ·rw [decide_eq_true y];exact Cz (rest _ _ ⟨rfl,rfl,by rw [decide_eq_true y,Bool.or_true]⟩)
    ·rw [decide_eq_false y];refine EC ?_;have:=k H (An.refl H);rw [decide_eq_false z,decide_eq_false y] at this;exact this
  rintro σ H' ⟨rfl,rfl,tt⟩;rw [tt,Bool.true_and] at k;have lta:=Paired.length h3;have ltw:=Paired.length h5;refine ⟨_,rfl,q,_,1,.ref la,rfl,rfl,SqT.of h1,Ai (j:=1) rfl,la,rfl,⟨_,SqL.of h2⟩,?_⟩;refine EB (xs:=tas.map V.ref) (fun j σ H2=>∃ u3 u4 u5:Option V,σ=[some (.ref q),some (.int cell),some (.ref m),u3,u4,u5,none]/\An H H2/\(c.ams.take j).all (Ou ar)=true) ⟨none,none,none,rfl,An.refl H,rfl⟩ (fun j σ H2 _ z=>by obtain ⟨_,_,_,_,sm,_⟩:=z; exact SqL.of (sm _ _ h2)) ?_ ?_
  ·rintro j v σ H2 ev ⟨u3,u4,u5,rfl,sm,al⟩;rw [List.getElem?_map] at ev;obtain ⟨t,et,rfl⟩:=Option.map_eq_some_iff.mp ev;obtain ⟨p,ep,hp⟩:=Paired.get h3 et;have mp:=List.mem_of_getElem? ep;obtain ⟨sp,m1,m2⟩:=ok.ams p mp;refine IE (sm _ _ hp) ?_;have hm2:=sm _ _ hm;refine ⟨_,rfl,m,rfl,⟨_,SqL.of hm2⟩,?_⟩;refine Ck (xs:=ar.map V.int) (fun i acc H3=>An H2 H3/\acc=((ar.take i).filter (· == p.1)).map V.int) ⟨An.refl H2,rfl⟩ (fun i acc H3 _ z=>SqL.of (z.1 _ _ hm2)) ?_ ?_
   ·rintro i x acc H3 hx ⟨s3,rfl⟩;rw [List.getElem?_map] at hx;obtain ⟨n,en,rfl⟩:=Option.map_eq_some_iff.mp hx;refine ⟨⟨[some (.int n)],rfl,rfl⟩,?_,?_⟩
    ·rw [List.length_map];refine Nat.lt_of_le_of_lt (List.length_filter_le _ _) ?_;rw [List.length_take];exact Nat.lt_of_le_of_lt (show min i ar.length<=8 by lia) (by decide)
    ·refine ⟨_,rfl,_,rfl,rfl,_,rfl,?_⟩;rw [di];have step:(ar.take (i+1)).filter (· == p.1)=(ar.take i).filter (· == p.1) ++ if n=p.1 then [n] else []:=by
      rw [List.take_add_one,en,Option.toList_some,List.filter_append];congr 1;by_cases z:n=p.1
      ·rw [if_pos z,List.filter_cons,if_pos (by rw [z]; simp),List.filter_nil]
      ·rw [if_neg z,List.filter_cons,if_neg (by simpa using z),List.filter_nil]
     by_cases z:n=p.1
     ·rw [decide_eq_true z];refine EC ⟨_,rfl,s3,?_⟩;rw [step,if_pos z,List.map_append];rfl
     ·rw [decide_eq_false z];refine Cz ⟨s3,?_⟩;rw [step,if_neg z,List.append_nil]
   ·rintro acc H3 ⟨s3,rfl⟩ L hL;rw [List.length_map,List.take_length];have s4:=Ah (o:=.lst ((ar.filter (· == p.1)).map V.int)) hL;have hL4:upd H3 L (.lst ((ar.filter (· == p.1)).map V.int)) L=some (.lst ((ar.filter (· == p.1)).map V.int)):=Ab;generalize upd H3 L (.lst ((ar.filter (· == p.1)).map V.int))=H4 at s4 hL4 ⊢;refine ⟨L,_,rfl,.inl (SqL.of hL4),?_⟩;have ec:(((ar.filter (· == p.1)).map V.int).length:Int)=((II ar p.1:Nat):Int):=by
     rw [List.length_map];unfold II;rw [List.countP_eq_length_filter]
    rw [ec];have c8:II ar p.1<=8:=by
     unfold II;rw [<-h8];exact List.countP_le_length
    have sm4:=(sm.trans s3).trans s4;obtain ⟨v,hv⟩:∃ v:Nat,p.2 / 2 ^ (((II ar p.1:Nat):Int)).toNat=(v:Int):=⟨(p.2 / 2 ^ (((II ar p.1:Nat):Int)).toNat).toNat,by
     have:0<=p.2 / 2 ^ (((II ar p.1:Nat):Int)).toNat:=Int.ediv_nonneg (by lia) (by rw [<-ON]; lia);lia⟩
    have v5:v < 512:=by
     have:p.2 / 2 ^ (((II ar p.1:Nat):Int)).toNat<=p.2:=Int.ediv_le_self _ (by lia);lia
    have hb:=bit_and v v5;refine ⟨_,rfl,_,rfl,_,_,rfl,rfl,(by show (0:Int)<=((II ar p.1:Nat):Int); lia),_,_,rfl,rfl,rfl,_,rfl,?_⟩;have am:Ou ar p=decide (v % 2=1):=by
     unfold Ou FD;rw [show p.2 / 2 ^ II ar p.1=(v:Int) from hv,hb,di];by_cases z:v % 2=1
     ·rw [decide_eq_true z,decide_eq_true (by rw [z]; rfl)]
     ·rw [decide_eq_false z,decide_eq_false (by lia)]
    have tst:decide (V.int (Builtin.bitAnd (p.2 / 2 ^ (((II ar p.1:Nat):Int)).toNat) 1)=V.int 0)=!(Ou ar p):=by
     rw [am,hv,hb,di];by_cases z:v % 2=1
     ·rw [decide_eq_true z,decide_eq_false (by lia)];rfl
     ·rw [decide_eq_false z,decide_eq_true (by lia)];rfl
    have tst':decide ((fun (i j:Int)=>V.int (Builtin.bitAnd i j)) ((fun (i j:Int)=>i / 2 ^ j.toNat) p.2 ((II ar p.1:Nat):Int)) 1=V.int 0)=!(Ou ar p):=tst;cases ea:Ou ar p with
    | false =>
     rw [ea] at tst';refine (fun (h1:_)=>Jd (fun _=>h1) (fun z=>absurd tst' z)) ?_;have e0:c.ams.all (Ou ar)=false:=List.all_eq_false.mpr ⟨p,mp,by rw [ea]; decide⟩;rw [e0,Bool.false_and] at k;exact k _ sm4
    | true =>
     rw [ea] at tst';refine (fun (h1:_)=>Jd (fun z=>absurd (tst'.symm.trans z) (by decide)) (fun _=>h1)) ?_;refine ⟨_,_,_,rfl,sm4,?_⟩;rw [List.take_add_one,ep,Option.toList_some,List.all_append,al,List.all_cons,ea];rfl
  rintro σ H2 ⟨u3,u4,u5,rfl,sm,al⟩;rw [List.length_map,lta,List.take_length] at al;rw [al,Bool.true_and] at k;refine ⟨_,rfl,q,_,2,.ref lw,rfl,rfl,SqT.of (sm _ _ h1),Ai (j:=2) rfl,lw,rfl,⟨_,SqL.of (sm _ _ h4)⟩,?_⟩;refine EB (xs:=tws.map V.ref) (fun j σ H3=>∃ u3 u4 u5 u6:Option V,σ=[some (.ref q),some (.int cell),some (.ref m),u3,u4,u5,u6]/\An H H3/\(c.wis.take j).all (Oz ar)=true) ⟨_,_,_,none,rfl,sm,rfl⟩ (fun j σ H3 _ z=>by obtain ⟨_,_,_,_,_,sm,_⟩:=z; exact SqL.of (sm _ _ h4)) ?_ ?_
  ·rintro j v σ H3 ev ⟨u3,u4,u5,u6,rfl,sm,al⟩;rw [List.getElem?_map] at ev;obtain ⟨t,et,rfl⟩:=Option.map_eq_some_iff.mp ev;obtain ⟨p,ep,hp⟩:=Paired.get h5 et;have mp:=List.mem_of_getElem? ep;obtain ⟨⟨p0,p8⟩,_⟩:=ok.wis p mp;refine IE (sm _ _ hp) ?_;obtain ⟨x,hx⟩:∃ x,ar[p.1.toNat]?=some x:=⟨_,List.getElem?_eq_getElem (by lia)⟩
   have ix:p.1=((p.1.toNat:Nat):Int):=by lia
   refine ⟨_,rfl,_,rfl,m,_,p.1,.int x,rfl,rfl,SqL.of (sm _ _ hm),(by rw [ix]; exact Ai (by rw [List.getElem?_map,hx]; rfl)),_,rfl,rfl,_,rfl,?_⟩;rw [di];have wi:Oz ar p=decide (x=p.2):=by
    unfold Oz;rw [hx];by_cases z:x=p.2
    ·rw [decide_eq_true z,decide_eq_true (by rw [z])]
    ·rw [decide_eq_false z,decide_eq_false (fun q=>z (Option.some.inj q))]
   by_cases z:x=p.2
   ·rw [decide_eq_true z];refine Cz ⟨_,_,_,_,rfl,sm,?_⟩;rw [List.take_add_one,ep,Option.toList_some,List.all_append,al,List.all_cons,wi,decide_eq_true z];rfl
   ·rw [decide_eq_false z];refine EC ?_;have e0:c.wis.all (Oz ar)=false:=List.all_eq_false.mpr ⟨p,mp,by rw [wi,decide_eq_false z]; decide⟩;rw [e0] at k;exact k _ sm
  ·rintro σ H3 ⟨u3,u4,u5,u6,rfl,sm,al⟩;rw [List.length_map,ltw,List.take_length] at al;rw [al] at k;exact k _ sm
inductive SpBe4 (vs:List V) (H:Hp) (Q:VK):Prop
 | mk (q m:Addr) (r:List LC4) (cell:Int) (ar:List Int) (_:vs=[.ref q,.int cell,.ref m]) (_:Gi H q r) (_:Np r) (_:H m=some (.lst (ar.map V.int))) (_:ar.length=8) (_:∀ H',An H H'->Q (.int (DS (r.map LC4.a) cell ar)) H'):SpBe4 vs H Q
def Pz:Sp:=fun vs H Q _=>SpBe4 vs H Q
theorem QS {r:List LC4} {cell:Int} {ar:List Int} {j:Nat} {c:LC4} (ec:r[j]?=some c) (no:∀ d ∈ r.take j,d.a.fits cell ar=false) (yes:c.a.fits cell ar=true):DS (r.map LC4.a) cell ar=c.ms:=by
 unfold DS;have e:(r.map LC4.a).find? (Bg.fits cell ar)=some c.a:=by
  have hr:r=r.take j ++ (c :: r.drop (j+1)):=by
   conv=>lhs; rw [<-List.take_append_drop j r]
   rw [List.drop_eq_getElem_cons (List.getElem?_eq_some_iff.mp ec).1,(List.getElem?_eq_some_iff.mp ec).2]
  rw [hr,List.map_append,List.find?_append,List.map_cons,List.find?_cons,yes];have n:((r.take j).map LC4.a).find? (Bg.fits cell ar)=none:=by
   rw [List.find?_eq_none];intro x hx;obtain ⟨d,hd,rfl⟩:=List.mem_map.mp hx;rw [no d hd];decide
  rw [n];rfl
 rw [e];rfl
theorem ok_be4 {f:Addr} {fd:FuncData} (F:Fun K "_law_becomes" "_law_becomes" CJ f fd) (T:Top K mg a) (dN:Cal P w K mg base CX0 1 "_law_fits" EX Rw):AU P w K mg base CX0 2 f fd CQ Pz:=by
 refine F.ok Gf (fun vs H Q E h=>?_) (fun cdv A outer s H vs Q E hr h=>?_)
 ·obtain ⟨q,m,r,cell,ar,rfl,_⟩:=h;rfl
 ·obtain ⟨q,m,r,cell,ar,rfl,hq,ok,hm,h8,k⟩:=h;refine ⟨_,(Ae (BP PassesOwn.never rfl (BB (pv 0)) (AQ (i:=3) Gf.nd rfl (Or.inl rfl)) (Aj (Ba (EK (Az dN (rm hr) rfl Ar (Aa (pv 3) (Aa (pv 1) (Aa (pv 2) Ac))))) (Aj (AA (Al Ao (pv 3) Af (fun _ _=>rfl)))) AE))) (Aj (AA (pv 1)))),?_⟩
  try dsimp only [cxK]
  obtain ⟨ts,h1,h2⟩:=hq;have lt:=Paired.length h2;refine ⟨_,rfl,q,rfl,⟨_,SqL.of h1⟩,?_⟩;refine EB (xs:=ts.map V.ref) (fun j σ H2=>∃ u3:Option V,σ=[some (.ref q),some (.int cell),some (.ref m),u3]/\An H H2/\∀ d ∈ r.take j,d.a.fits cell ar=false) ⟨none,rfl,An.refl H,fun d hd=>(by rw [List.take_zero] at hd; cases hd)⟩ (fun j σ H2 _ z=>by obtain ⟨_,_,sm,_⟩:=z; exact SqL.of (sm _ _ h1)) ?_ ?_
  ·rintro j v σ H2 ev ⟨u3,rfl,sm,no⟩;rw [List.getElem?_map] at ev;obtain ⟨t,et,rfl⟩:=Option.map_eq_some_iff.mp ev;obtain ⟨c,ec,hc⟩:=Paired.get h2 et;have mc:=List.mem_of_getElem? ec;refine ⟨_,rfl,_,rfl,_,rfl,t,m,c,cell,ar,rfl,hc.same sm,ok.ok c mc,sm _ _ hm,h8,fun H3 s3=>⟨_,rfl,?_⟩⟩;have sm3:=sm.trans s3;cases ef:c.a.fits cell ar with
   | true =>
    obtain ⟨la,lw,tas,tws,g1,_⟩:=hc.same sm3;refine EC ⟨_,rfl,t,_,3,.int c.ms,rfl,rfl,SqT.of g1,Ai (j:=3) rfl,?_⟩;rw [<-QS ec no ef];exact k H3 sm3
   | false =>
    refine Cz ⟨_,rfl,sm3,fun d hd=>?_⟩;rw [List.take_add_one,ec,Option.toList_some] at hd;rcases List.mem_append.mp hd with z | z
    ·exact no d z
    ·rw [List.mem_singleton.mp z];exact ef
  ·rintro σ H2 ⟨u3,rfl,sm,no⟩;rw [List.length_map,lt,List.take_length] at no;have e:DS (r.map LC4.a) cell ar=cell:=by
    unfold DS;have n:(r.map LC4.a).find? (Bg.fits cell ar)=none:=by
     rw [List.find?_eq_none];intro x hx;obtain ⟨d,hd,rfl⟩:=List.mem_map.mp hx;rw [no d hd];decide
    rw [n]
   have:=k H2 sm;rw [e] at this;exact ⟨_,rfl,this⟩
end
end J
namespace J
open PySem L2
seal L2.PA L2.PE L2.PS L2.PSs L2.PT L2.PW
theorem join_w4 (ws:List (Option Int)):Str.join (Str.ofString "") (ws.map wS)=Bd (.pl ws):=by
 have e3:Str.ofString "" = (⟨#[]⟩:Str):=by decide +kernel
 rw [e3];refine Nu.ext ?_;rw [Tx.EZ,Tx.Pd,List.map_map];show (ws.map _).flatten=ws.map wC;induction ws with
 | nil=>rfl
 | cons x r ih=>rw [List.map_cons,List.flatten_cons,ih,List.map_cons]; rfl
theorem PY {ns:List Int} (h:∀ m ∈ ns,0<=m/\m<=8):Str.join (Str.ofString "") (ns.map fun n=>Str.ofString (toString n))=Eo ns:=by
 have e3:Str.ofString "" = (⟨#[]⟩:Str):=by decide +kernel
 rw [e3];refine Nu.ext ?_;rw [Tx.EZ,Tx.Pd,List.map_map];show (ns.map _).flatten=ns.map fun n=>48+n.toNat;induction ns with
 | nil=>rfl
 | cons n r ih =>
  have h1:=h n List.mem_cons_self;rw [List.map_cons,List.flatten_cons,ih fun m hm=>h m (List.mem_cons_of_mem _ hm)];show (Str.ofString (toString n)).cps.toList ++ _=_;rw [Tx.GK h1.1 (by lia)];rfl
theorem Lu {d:Int} (h0:0<=d) (h1:d<=9):(Str.ofString (toString d)).length=1:=by rw [Tx.GK h0 h1]; rfl
theorem star4 {t:Int} (h0:0<=t) (h1:t<=8):atI Rl.cps.toList t=some (wC (if t=8 then none else some t)):=by
 obtain ⟨n,rfl⟩:=Int.eq_ofNat_of_zero_le h0;have:=star_at n (by lia);by_cases z:n=8
 ·rw [if_pos z] at this;rw [if_pos (by rw [z]; rfl)];exact Ai this
 ·rw [if_neg z] at this;rw [if_neg (by lia)];exact Ai this
theorem ws_set {l:List (Int×Int)} {p:Int×Int} (h0:0<=p.1) (h8:p.1 < 8) (lt:∀ q ∈ l,q.1 < p.1):Fk (l ++ [p])=(Fk l).set p.1.toNat (some p.2):=by
 have gw:∀ (l:List (Int×Int)) (k:Nat),k < 8->(Fk l)[k]?=some ((l.find? fun p=>decide (p.1=(k:Int))).map (·.2)):=fun l k hk=>by
  unfold Fk;rw [List.getElem?_map,List.getElem?_range hk];rfl
 refine List.ext_getElem? fun k=>?_;by_cases hk:k < 8
 ·rw [List.getElem?_set,gw _ k hk,gw _ k hk,List.find?_append,IL];by_cases e:p.1.toNat=k
  ·rw [if_pos e,if_pos (by lia)];have n:(l.find? fun q=>decide (q.1=(k:Int)))=none:=by
    rw [List.find?_eq_none];intro q hq z;have:=of_decide_eq_true z;have:=lt q hq;lia
   rw [n,List.find?_cons,decide_eq_true (show p.1=(k:Int) by lia)];rfl
  ·rw [if_neg e,List.find?_cons,decide_eq_false (show ¬ p.1=(k:Int) by lia)];show some (Option.map _ (Option.or _ none))=_;rw [Option.or_none]
 ·rw [List.getElem?_eq_none (by rw [IL]; lia),List.getElem?_eq_none (by rw [List.length_set,IL]; lia)]
theorem ws_nil:(List.replicate (8:Int).toNat [V.str (Str.ofString "*")]).flatten=(Fk []).map fun w=>V.str (wS w):=by
 have e:Str.ofString "*" = (⟨#[42]⟩:Str):=by decide +kernel
 rw [e];rfl
theorem ws_ok {l:List (Int×Int)} (h:∀ p ∈ l,Dq p.2):∀ w ∈ Fk l,wOk w:=fun w hw=>by
 unfold Fk at hw;obtain ⟨k,_,rfl⟩:=List.mem_map.mp hw;cases e:l.find? fun p=>decide (p.1=(k:Int)) with
 | none=>trivial
 | some p=>exact h p (List.mem_of_find?_eq_some e)
section
variable {P:Program} {w:World} {K:PySem.W.Frag} {mg:Str->Option Value} {base:Heap} {a:Ad}
inductive SpWs4 (vs:List V) (H:Hp) (Q:VK):Prop
 | mk (q:Addr) (c:LC4) (_:vs=[.ref q]) (_:Gj H q c) (_:c.Ok) (_:∀ H',An H H'->Q (.str (BI c.a)) H'):SpWs4 vs H Q
def Rn:Sp:=fun vs H Q _=>SpWs4 vs H Q
theorem ok_ws4 {f:Addr} {fd:FuncData} (F:Fun K "_law_words" "_law_words" CW f fd) (T:Top K mg a):AU P w K mg base CX0 1 f fd Ex Rn:=by
 refine F.ok Cu (fun vs H Q E h=>?_) (fun cdv A outer s H vs Q E hr h=>?_)
 ·obtain ⟨q,c,rfl,_⟩:=h;rfl
 ·obtain ⟨q,c,rfl,hq,ok,k⟩:=h;refine ⟨_,(Ae (Av (i:=1) Cu.nd rfl (Or.inl rfl) (Bc (Aa (Al ix_str FZ (Al Ao (pv 0) Af (fun _ _=>rfl)) (fun _ _=>rfl)) Ac))) (Ae (BP PassesOwn.never rfl (BB (Al Ao (pv 0) Af (fun _ _=>rfl))) (FY rfl (BJ (AQ (i:=2) Cu.nd rfl (Or.inl rfl)) (BJ (AQ (i:=3) Cu.nd rfl (Or.inr rfl)) Fl))) (Aj (BQ (Dw PySem.F.plainAttrs_list PySem.F.slot_list_append PySem.F.type_list_append BN (pv 1) (Cp Lc (AH Lc (BZ Fn rfl T.b_str PyProof.Rows.boot_str (Aa (pv 2) Ac)) FZ) (Dw PySem.F.plainAttrs_str PySem.F.slot_str_join PySem.F.type_str_join JA FZ (Aa (BT rfl (Bn.of (So:=Ag CW) (No:=IB) (N:=["_law_k","_law_mask"]) (k:=1) (cs:=[3]) rfl rfl (by decide +kernel)) (CN rfl T.b_range (AN Ac)) (fun _ _ _=>(AV (i:=0) (by decide +kernel) rfl rfl)) (fun _ _ _=>(PK (AJ FA (AH RU (AH RQ (pv 1) (pv 0)) Af) Af (AT _)))) (fun _ _ _=>(BZ Fn rfl T.b_str PyProof.Rows.boot_str (Aa (pv 0) Ac)))) Ac)) Ac))))) (Ae (Av (i:=4) Cu.nd rfl (Or.inl rfl) (AH RS (Bc (OP Ac)) Af)) (Ae (BP PassesOwn.never rfl (BB (Al Ao (pv 0) Af (fun _ _=>rfl))) (FY rfl (BJ (AQ (i:=5) Cu.nd rfl (Or.inl rfl)) (BJ (AQ (i:=2) Cu.nd rfl (Or.inl rfl)) Fl))) (Aj (ps_asg (BZ Fn rfl T.b_str PyProof.Rows.boot_str (Aa (pv 2) Ac)) (pg_sub (pv 4) (pv 5) RD)))) (Ae (Ba (AJ (Qw hr.units) (Al Ao (pv 0) Af (fun _ _=>rfl)) (Bc Ac) (AT _)) (Aj (BQ (Dw PySem.F.plainAttrs_list PySem.F.slot_list_append PySem.F.type_list_append BN (pv 1) (Aa (Dw PySem.F.plainAttrs_str PySem.F.slot_str_join PySem.F.type_str_join JA FZ (Aa (pv 4) Ac)) Ac)))) AE) (Aj (AA (Dw PySem.F.plainAttrs_str PySem.F.slot_str_join PySem.F.type_str_join JA FZ (Cp Gw (pv 1) (Bc (Aa (BZ Fn rfl T.b_str PyProof.Rows.boot_str (Aa (Al Ao (pv 0) Af (fun _ _=>rfl)) Ac)) Ac)) Ac))))))))),?_⟩
  try dsimp only [cxK]
  obtain ⟨la,lw,tas,tws,h1,h2,h3,h4,h5⟩:=hq;have l0:(Str.ofString "").length=0:=by decide +kernel
  have lta:=Paired.length h3;have ltw:=Paired.length h5;have few:=ok.few;have md9:c.ms<=9:=by have:=ok.ms.2; lia
  have wok:=ws_ok fun p hp=>(ok.wis p hp).2;obtain ⟨hd,ehd⟩:∃ hd:Option Int,hd=if c.tk=8 then none else some c.tk:=⟨_,rfl⟩
  refine ⟨_,rfl,q,_,0,.int c.tk,rfl,rfl,SqT.of h1,Ai (j:=0) rfl,Rl,_,wC hd,rfl,rfl,(by decide +kernel),(by rw [ehd]; exact star4 ok.tk.1 ok.tk.2),(by show 1<=sizeLine; decide),fun LW hLW=>?_⟩;have s1:=Ah (o:=.lst [.str (wS hd)]) hLW;have hW1:upd H LW (.lst [.str (wS hd)]) LW=some (.lst [.str (wS hd)]):=Ab;show ∃ _,_;have eS:(.lst [.str ⟨#[wC hd]⟩]:HO)=.lst [.str (wS hd)]:=rfl;rw [eS];generalize upd H LW (.lst [.str (wS hd)])=H1 at s1 hW1 ⊢;refine ⟨_,rfl,q,_,1,.ref la,rfl,rfl,SqT.of (s1 _ _ h1),Ai (j:=1) rfl,la,rfl,⟨_,SqL.of (s1 _ _ h2)⟩,?_⟩;refine EB (xs:=tas.map V.ref) (fun j σ H2=>∃ u2 u3:Option V,σ=[some (.ref q),some (.ref LW),u2,u3,none,none]/\An H H2/\H2 LW=some (.lst ((wS hd :: (c.ams.take j).map fun p=>Bd (.am p.1 (Cj p.2))).map V.str))) ⟨none,none,rfl,s1,hW1⟩ (fun j σ H2 _ z=>by obtain ⟨_,_,_,sm,_⟩:=z; exact SqL.of (sm _ _ h2)) ?_ ?_
  ·rintro j v σ H2 ev ⟨u2,u3,rfl,sm,hW2⟩;rw [List.getElem?_map] at ev;obtain ⟨t,et,rfl⟩:=Option.map_eq_some_iff.mp ev;obtain ⟨p,ep,hp⟩:=Paired.get h3 et;have mp:=List.mem_of_getElem? ep;obtain ⟨sp,m1,m2⟩:=ok.ams p mp;have sp9:p.1<=9:=by have:=sp.2; lia
   have hn:=PQ p.2;have hlen:=IJ (Cj p.2) 0 (by decide) hn (NQ _);refine IE (sm _ _ hp) ?_;refine ⟨_,rfl,.inl ⟨rfl,_,SqL.of hW2⟩,_,rfl,p.1,rfl,GO sp.1 sp9,_,_,rfl,rfl,Gc (by erw [Lu sp.1 sp9]; decide),rfl,9,rfl,by decide,by decide,?_⟩;refine GX (n:=9) (fun i acc H3=>H2=H3/\acc=((((List.range i).filter (FD p.2)).map fun (k:Nat)=>(k:Int)).map fun n=>Str.ofString (toString n)).map V.str) ⟨rfl,rfl⟩ ?_ ?_
   ·rintro i acc H3 hi ⟨rfl,rfl⟩;have lt:(((((List.range i).filter (FD p.2)).map fun (k:Nat)=>(k:Int)).map fun n=>Str.ofString (toString n)).map V.str).length < sizeLine:=by
     rw [List.length_map,List.length_map,List.length_map];have:=List.length_filter_le (FD p.2) (List.range i);rw [List.length_range] at this;exact Nat.lt_of_le_of_lt (Nat.le_trans this (Nat.le_of_lt hi)) (by decide)
    refine ⟨⟨[some (.int (0+(i:Int)))],rfl,rfl⟩,lt,?_⟩;refine ⟨_,rfl,_,rfl,_,_,rfl,rfl,(by show (0:Int)<=0+(i:Int); lia),_,_,rfl,rfl,rfl,_,rfl,?_⟩;have ei:(0+(i:Int)).toNat=i:=by lia
    have e:(List.range (i+1)).filter (FD p.2)=(List.range i).filter (FD p.2) ++ if FD p.2 i=true then [i] else []:=by
     rw [List.range_succ,List.filter_append,List.filter_cons,List.filter_nil]
    rw [ei];show if FD p.2 i=true then _ else _;refine Jd (fun hb=>?_) (fun hb=>?_)
    ·refine ⟨_,rfl,_,rfl,GO (by lia) (by lia),rfl,?_⟩;rw [e,if_pos hb,List.map_append,List.map_append,List.map_append];show _ ++ [V.str (Str.ofString (toString (0+(i:Int))))]=_ ++ [V.str (Str.ofString (toString (i:Int)))]
     rw [Int.zero_add]
    ·refine ⟨rfl,?_⟩;rw [e,if_neg hb,List.append_nil]
   ·rintro acc H3 ⟨rfl,rfl⟩ l hl;have enum:(((List.range 9).filter (FD p.2)).map fun (k:Nat)=>(k:Int))=Cj p.2:=rfl;rw [enum];have s3:=Ah (o:=.lst (((Cj p.2).map fun n=>Str.ofString (toString n)).map V.str)) hl;have hl3:upd H2 l (.lst (((Cj p.2).map fun n=>Str.ofString (toString n)).map V.str)) l=some (.lst (((Cj p.2).map fun n=>Str.ofString (toString n)).map V.str)):=Ab;generalize upd H2 l (.lst (((Cj p.2).map fun n=>Str.ofString (toString n)).map V.str))=H3 at s3 hl3 ⊢;have hjok:JoinOk (Str.ofString "") ((Cj p.2).map fun n=>Str.ofString (toString n))=true:=by
     refine Tx.JD 1 (fun t ht=>?_) ?_
     ·obtain ⟨n,hn2,rfl⟩:=List.mem_map.mp ht;have:=hn n hn2;rw [Lu this.1 (by lia)];decide
     ·rw [List.length_map,l0];lia
    refine ⟨_,l,_,rfl,rfl,SqL.of hl3,hjok,_,_,rfl,rfl,Gc ?_,?_⟩
    ·rw [PY hn];have e1:(Eo (Cj p.2)).length=(Cj p.2).length:=by rw [Nu.len]; show ((Cj p.2).map _).length=_; rw [List.length_map]
     have e2:(Str.ofString "=").length=1:=by decide +kernel
     rw [Tx.app_len,e1,e2]
     erw [Lu sp.1 sp9]
     lia
    ·have e:Str.ofString (toString p.1) ++ Str.ofString "=" ++ Str.join (Str.ofString "") ((Cj p.2).map fun n=>Str.ofString (toString n))=Bd (.am p.1 (Cj p.2)):=by
      rw [PY hn,Tx.GK sp.1 sp9,show Str.ofString "=" = (⟨#[61]⟩:Str) by decide +kernel];rfl
     have hW3:=s3 _ _ hW2;refine ⟨LW,_,_,rfl,rfl,hW3,?_,?_⟩
     ·rw [List.length_map,List.length_cons,List.length_map,List.length_take];exact Nat.lt_of_le_of_lt (show min j c.ams.length+1<=3 by lia) (by decide)
     ·refine ⟨_,_,rfl,fun b o z=>?_,?_⟩
      ·rw [As (Am z hLW)];exact s3 _ _ (sm _ _ z)
      ·rw [Ab,List.take_add_one,ep,Option.toList_some,List.map_append,List.map_cons,List.map_cons,List.map_append];show some (HO.lst (_ ++ [V.str _]))=_
       erw [e]
       rfl
  rintro σ H2 ⟨u2,u3,rfl,sm,hW2⟩;rw [List.length_map,lta,List.take_length] at hW2;obtain ⟨ws0,ew0⟩:∃ ws0:List Str,ws0=wS hd :: c.ams.map fun p=>Bd (.am p.1 (Cj p.2)):=⟨_,rfl⟩
  rw [<-ew0] at hW2;have lw0:ws0.length<=3:=by rw [ew0,List.length_cons,List.length_map]; lia
  refine ⟨(by show 1<=sizeLine; decide),fun L1 hL1=>?_⟩;have s3:=Ah (o:=.lst [.str (Str.ofString "*")]) hL1;have hL13:upd H2 L1 (.lst [.str (Str.ofString "*")]) L1=some (.lst [.str (Str.ofString "*")]):=Ab;generalize upd H2 L1 (.lst [.str (Str.ofString "*")])=H3 at s3 hL13 ⊢;refine ⟨L1,8,_,rfl,rfl,hL13,by decide,by decide,(by show 1 * 8<=sizeLine; decide),fun SG hSG=>?_⟩;rw [ws_nil];have s4:=Ah (o:=.lst ((Fk []).map fun w=>V.str (wS w))) hSG;have hSG4:upd H3 SG (.lst ((Fk []).map fun w=>V.str (wS w))) SG=some (.lst ((Fk []).map fun w=>V.str (wS w))):=Ab;have nSG:H SG=none:=An.noneN (sm.trans s3) hSG;have nWS:LW≠SG:=fun z=>by rw [z] at hW2; rw [s3 _ _ hW2] at hSG; cases hSG
  generalize upd H3 SG (.lst ((Fk []).map fun w=>V.str (wS w)))=H4 at s4 hSG4 ⊢;have sm4:=(sm.trans s3).trans s4;have hW4:=s4 _ _ (s3 _ _ hW2);refine ⟨_,rfl,q,_,2,.ref lw,rfl,rfl,SqT.of (sm4 _ _ h1),Ai (j:=2) rfl,lw,rfl,⟨_,SqL.of (sm4 _ _ h4)⟩,?_⟩;refine EB (xs:=tws.map V.ref) (fun j σ H5=>∃ u2 u5:Option V,σ=[some (.ref q),some (.ref LW),u2,u3,some (.ref SG),u5]/\An H H5/\H5 LW=some (.lst (ws0.map V.str))/\H5 SG=some (.lst ((Fk (c.wis.take j)).map fun w=>V.str (wS w)))) ⟨u2,none,rfl,sm4,hW4,hSG4⟩ (fun j σ H5 _ z=>by obtain ⟨_,_,_,sm,_⟩:=z; exact SqL.of (sm _ _ h4)) ?_ ?_
  ·rintro j v σ H5 ev ⟨u2,u5,rfl,sm,hW5,hS5⟩;rw [List.getElem?_map] at ev;obtain ⟨t,et,rfl⟩:=Option.map_eq_some_iff.mp ev;obtain ⟨p,ep,hp⟩:=Paired.get h5 et;have mp:=List.mem_of_getElem? ep;obtain ⟨⟨p0,p8⟩,sp⟩:=ok.wis p mp;have sp9:p.2<=9:=by have:=sp.2; lia
   refine IE (sm _ _ hp) ?_;refine ⟨_,rfl,p.2,rfl,GO sp.1 sp9,_,rfl,_,rfl,SG,_,p.1,p.1.toNat,rfl,rfl,hS5,(by unfold ixN; rw [if_pos p0,if_pos (by rw [List.length_map,IL]; exact p8)]),?_⟩;refine ⟨_,_,rfl,fun b o z=>?_,by rw [As nWS]; exact hW5,?_⟩
   ·rw [As (Am z nSG)];exact sm _ _ z
   ·have asc:∀ q ∈ c.wis.take j,q.1 < p.1:=by
     intro q hq;have hpw:=ok.asc;have:c.wis.take (j+1)=c.wis.take j ++ [p]:=by rw [List.take_add_one,ep,Option.toList_some]
     have h9:=hpw.sublist (List.take_sublist (j+1) c.wis);rw [this,List.pairwise_append] at h9;exact h9.2.2 q hq p List.mem_cons_self
    rw [Ab,List.take_add_one,ep,Option.toList_some,ws_set p0 p8 asc,List.map_set,Tx.GK sp.1 sp9];rfl
  rintro σ H5 ⟨u2,u5,rfl,sm,hW5,hS5⟩;rw [List.length_map,ltw,List.take_length] at hS5;have close:∀ (ws1:List Str) (σ:St) (H6:Hp),True->True:=fun _ _ _ _=>trivial;apply IC (fun σ H6=>An H H6/\(∃ a2 a5,σ=[some (.ref q),some (.ref LW),a2,u3,some (.ref SG),a5])/\H6 LW=some (.lst ((wS c.a.cell :: c.a.conds.map Bd).map V.str)))
  ·intro rest;refine ⟨_,rfl,q,_,2,.ref lw,rfl,rfl,SqT.of (sm _ _ h1),Ai (j:=2) rfl,(by show 0<=sizeLine; decide),fun L0 hL0=>?_⟩;have s6:=Ah (o:=.lst []) hL0;have hL06:upd H5 L0 (.lst []) L0=some (.lst []):=Ab;generalize upd H5 L0 (.lst [])=H6 at s6 hL06 ⊢;have sm6:=sm.trans s6;refine ⟨lw,L0,_,rfl,rfl,SqL.of (sm6 _ _ h4),SqL.of hL06,_,rfl,?_⟩;rw [List.length_map,ltw];have ec:(wS c.a.cell :: c.a.conds.map Bd)=ws0 ++ (if c.wis=[] then [] else [Bd (.pl (Fk c.wis))]):=by
    rw [ew0];unfold LC4.a;dsimp only;rw [List.map_append,List.map_map,<-ehd,List.cons_append];split<;>rfl
   by_cases z:c.wis=[]
   ·rw [z];refine Cz (rest _ _ ⟨sm6,⟨_,_,rfl⟩,?_⟩);rw [ec,if_pos z,List.append_nil];exact s6 _ _ hW5
   ·have nz:c.wis.length≠0:=fun y=>z (List.length_eq_zero_iff.mp y);rw [decide_eq_false nz];have e2:(Fk c.wis).map (fun w=>V.str (wS w))=((Fk c.wis).map wS).map V.str:=by rw [List.map_map]; rfl
    have hS6:=s6 _ _ hS5;rw [e2] at hS6;have hjok:JoinOk (Str.ofString "") ((Fk c.wis).map wS)=true:=by
     refine Tx.JD 1 (fun t ht=>?_) ?_
     ·obtain ⟨n,hn2,rfl⟩:=List.mem_map.mp ht;exact Nat.le_refl 1
     ·rw [List.length_map,l0,IL];decide
    refine EC ⟨_,rfl,.inl ⟨rfl,_,SqL.of (s6 _ _ hW5)⟩,rfl,_,rfl,_,SG,_,rfl,rfl,SqL.of hS6,hjok,?_⟩;rw [join_w4];refine ⟨LW,_,_,rfl,rfl,s6 _ _ hW5,?_,rest _ _ ⟨fun b o y=>?_,⟨_,_,rfl⟩,?_⟩⟩
    ·rw [List.length_map];exact Nat.lt_of_le_of_lt lw0 (by decide)
    ·rw [As (Am y hLW)];exact sm6 _ _ y
    ·rw [Ab,ec,if_neg z,List.map_append];rfl
  clear hS5 hW5 sm;rintro σ H6 ⟨sm,⟨a2,a5,rfl⟩,hW⟩;have aok:=ok.a;have f3:=aok.few;refine ⟨rfl,_,rfl,_,rfl,q,_,3,.int c.ms,rfl,rfl,SqT.of (sm _ _ h1),Ai (j:=3) rfl,c.ms,rfl,GO ok.ms.1 md9,(by show 1<=sizeLine; decide),fun w4 hw4=>?_⟩;have s7:=Ah (o:=.lst [.str (Str.ofString (toString c.ms))]) hw4;have hw47:upd H6 w4 (.lst [.str (Str.ofString (toString c.ms))]) w4=some (.lst [.str (Str.ofString (toString c.ms))]):=Ab;generalize upd H6 w4 (.lst [.str (Str.ofString (toString c.ms))])=H7 at s7 hw47 ⊢;refine ⟨LW,w4,_,_,rfl,rfl,s7 _ _ hW,hw47,Gc (by simp only [List.length_cons,List.length_nil,List.length_map]; lia),fun w5 hw5=>?_⟩;have eL:(wS c.a.cell :: c.a.conds.map Bd).map V.str ++ [.str (Str.ofString (toString c.ms))]=(wS c.a.cell :: (c.a.conds.map Bd ++ [sgD c.a.makes])).map V.str:=by
   rw [Tx.GK ok.ms.1 md9,<-List.cons_append,List.map_append];rfl
  rw [eL];have s8:=Ah (o:=.lst ((wS c.a.cell :: (c.a.conds.map Bd ++ [sgD c.a.makes])).map V.str)) hw5;have hw58:upd H7 w5 (.lst ((wS c.a.cell :: (c.a.conds.map Bd ++ [sgD c.a.makes])).map V.str)) w5=some (.lst ((wS c.a.cell :: (c.a.conds.map Bd ++ [sgD c.a.makes])).map V.str)):=Ab;generalize upd H7 w5 (.lst ((wS c.a.cell :: (c.a.conds.map Bd ++ [sgD c.a.makes])).map V.str))=H8 at s8 hw58 ⊢;have lb:(Str.ofString " ").length=1:=by decide +kernel
  have hjok:JoinOk (Str.ofString " ") (wS c.a.cell :: (c.a.conds.map Bd ++ [sgD c.a.makes]))=true:=by
   refine Tx.JD 11 (fun t ht=>?_) ?_
   ·rcases List.mem_cons.mp ht with rfl | ht
    ·show 1<=11; decide
    ·rcases List.mem_append.mp ht with ht | ht
     ·obtain ⟨d,hd,rfl⟩:=List.mem_map.mp ht;exact IH (aok.conds d hd)
     ·rw [List.mem_singleton.mp ht]; show 1<=11; decide
   ·rw [lb,List.length_cons,List.length_append,List.length_map,List.length_cons,List.length_nil];lia
  refine ⟨_,w5,_,rfl,rfl,SqL.of hw58,hjok,?_⟩;have eC:Str.join (Str.ofString " ") (wS c.a.cell :: (c.a.conds.map Bd ++ [sgD c.a.makes]))=BI c.a:=by
   rw [show Str.ofString " " = (⟨#[32]⟩:Str) by decide +kernel];rfl
  rw [eC];exact k _ ((sm.trans s7).trans s8)
theorem Np.t {r:List LC4} (h:Np r):Nn (r.map LC4.a):=⟨by rw [List.length_map]; have:=h.few; lia,fun c hc=>by obtain ⟨d,hd,rfl⟩:=List.mem_map.mp hc; exact (h.ok d hd).a⟩
inductive SpTx4 (vs:List V) (H:Hp) (Q:VK):Prop
 | mk (q:Addr) (r:List LC4) (_:vs=[.ref q]) (_:Gi H q r) (_:Np r) (_:∀ H',An H H'->Q (.str (Ek (r.map LC4.a))) H'):SpTx4 vs H Q
def Ro:Sp:=fun vs H Q _=>SpTx4 vs H Q
theorem ok_tx4 {f:Addr} {fd:FuncData} (F:Fun K "_law_text" "_law_text" Ds f fd) (T:Top K mg a) (cQ:Cal P w K mg base CX0 1 "_law_words" Ex Rn):AU P w K mg base CX0 2 f fd EV Ro:=by
 refine F.ok MI (fun vs H Q E h=>?_) (fun cdv A outer s H vs Q E hr h=>?_)
 ·obtain ⟨q,r,rfl,_⟩:=h;rfl
 ·obtain ⟨q,r,rfl,hq,ok,k⟩:=h;refine ⟨_,(Aj (AA (Dw PySem.F.plainAttrs_str PySem.F.slot_str_join PySem.F.type_str_join JA FZ (Aa (BT rfl (Bn.of (So:=Ag Ds) (No:=Jk) (N:=["_law_clause"]) (k:=1) (cs:=[]) rfl rfl (by decide +kernel)) (BB (pv 0)) (fun _ _ _=>(AV (i:=0) (by decide +kernel) rfl rfl)) (fun _ _ _=>BH) (fun _ _ _=>(Az cQ (rm hr) rfl Ar (Aa (pv 0) Ac)))) Ac)))),?_⟩
  try dsimp only [cxK]
  obtain ⟨ts,h1,h2⟩:=hq;have lt:=Paired.length h2;have few:=ok.few;refine ⟨rfl,_,rfl,q,rfl,⟨_,SqL.of h1⟩,?_⟩;refine Ck (xs:=ts.map V.ref) (fun i acc H4=>An H H4/\acc=((r.take i).map fun c=>BI c.a).map V.str) ⟨An.refl H,rfl⟩ (fun i acc H4 _ z=>SqL.of (z.1 _ _ h1)) ?_ ?_
  ·rintro i x acc H4 hx ⟨sm,rfl⟩;rw [List.getElem?_map] at hx;obtain ⟨t,et,rfl⟩:=Option.map_eq_some_iff.mp hx;obtain ⟨c,ec,hc⟩:=Paired.get h2 et;refine ⟨⟨[some (.ref t)],rfl,rfl⟩,?_,FH ⟨_,rfl,t,c,rfl,hc.same sm,ok.ok c (List.mem_of_getElem? ec),fun H5 s5=>⟨sm.trans s5,?_⟩⟩⟩
   ·rw [List.length_map,List.length_map,List.length_take];exact Nat.lt_of_le_of_lt (show min i r.length<=10 by lia) (by decide)
   ·rw [List.take_add_one,ec,Option.toList_some,List.map_append,List.map_append];rfl
  ·rintro acc H4 ⟨sm,rfl⟩ p hp;rw [List.length_map,lt,List.take_length];have eM:(r.map fun c=>BI c.a)=(r.map LC4.a).map BI:=by rw [List.map_map]; rfl
   rw [eM];have em:Str.ofString "; " = LZ:=by decide +kernel
   have hjok:JoinOk (Str.ofString "; ") ((r.map LC4.a).map BI)=true:=by
    refine Tx.JD 1000 (fun t ht=>?_) ?_
    ·obtain ⟨c,hc,rfl⟩:=List.mem_map.mp ht;exact Ih (ok.t.ok c hc)
    ·rw [List.length_map,List.length_map,em,show LZ.length=2 from rfl];lia
   refine ⟨_,p,_,rfl,rfl,SqL.of Ab,hjok,?_⟩;rw [em];exact k _ (sm.trans (Ah hp))
end
end J
namespace J
open PySem L2
seal L2.PA L2.PE L2.PS L2.PSs L2.PT L2.PW
def c000:LC4:=⟨0,[(0,256)],[],0⟩
theorem c000_ok:c000.Ok where
 tk:=⟨by decide,by decide⟩
 ams:=fun p hp=>by rw [List.mem_singleton.mp hp]; exact ⟨⟨by decide,by decide⟩,by decide,by decide⟩
 few:=by decide
 wis:=fun p hp=>nomatch hp
 asc:=.nil
 ms:=⟨by decide,by decide⟩
theorem Ra (r:AM):DS (c000.a :: r) 0 EE=0:=by
 unfold DS;rw [List.find?_cons];have:c000.a.fits 0 EE=true:=by decide
 rw [this];rfl
section
variable {P:Program} {w:World} {K:PySem.W.Frag} {mg:Str->Option Value} {base:Heap} {a:Ad}
inductive SpCs4 (vs:List V) (H:Hp) (Q:VK):Prop
 | mk (cl fw:Addr) (ns:List Int) (_:vs=[.ref cl,.ref fw]) (_:H cl=some (.lst (ns.map V.int))) (_:ns.length<=8) (_:Nq H fw) (_:∀ (q:Addr) (r:List LC4) (H':Hp),An H H'->Gi H' q r->Np r->DS (r.map LC4.a) 0 EE=0->Q (.ref q) H'):SpCs4 vs H Q
def Ry:Sp:=fun vs H Q _=>SpCs4 vs H Q
theorem ok_cs4 {f:Addr} {fd:FuncData} (F:Fun K "_law_clauses_by" "_law_clauses_by" Bz f fd) (T:Top K mg a) (bA:Cal P w K mg base CX0 2 "_law_clause_by" CP RB) (aO:Cal P w K mg base CX0 2 "_law_becomes" CQ Pz):AU P w K mg base CX0 3 f fd Cq Ry:=by
 refine F.ok Eb (fun vs H Q E h=>?_) (fun cdv A outer s H vs Q E hr h=>?_)
 ·obtain ⟨cl,fw,ns,rfl,_⟩:=h;rfl
 ·obtain ⟨cl,fw,ns,rfl,hcl,n6,hf,k⟩:=h;refine ⟨_,(Ae (Fw (i:=2) rfl Eb.nd rfl rfl (Bn.of (So:=Ag Bz) (No:=FL) (N:=["_law_cell","_law_few"]) (k:=1) (cs:=[1]) rfl rfl (by decide +kernel)) (BB (pv 0)) (fun _ _ _=>(AV (i:=0) (by decide +kernel) rfl rfl)) (fun _ _ _=>BH) (fun _ _ _=>(Az bA (rm hr) rfl Ar (Aa (pv 0) (Aa (pv 1) Ac))))) (Ae (Ba (AJ Ix (Az aO (rm hr) rfl Ar (Aa (pv 2) (AN (MP (AN (AN (AN (AN (AN (AN (AN (AN Ac)))))))) Ac)))) Af (AT _)) (Aj (Av (i:=2) Eb.nd rfl (Or.inl rfl) (AH Gw (Bc (Cf (AN (MP (Cf (AN (AN Ac)) Ac) (MP Ac (AN Ac)))) Ac)) (pv 2)))) AE) (Aj (AA (pv 2))))),?_⟩
  try dsimp only [cxK]
  refine ⟨_,rfl,cl,rfl,⟨_,SqL.of hcl⟩,?_⟩;refine Ck (xs:=ns.map V.int) (fun i acc H4=>An H H4/\∃ (ts:List Addr) (r:List LC4),acc=ts.map V.ref/\Paired (Gj H4) ts r/\r.length=i/\∀ c ∈ r,c.Ok) ⟨An.refl H,[],[],rfl,.nil,rfl,fun c hc=>nomatch hc⟩ (fun i acc H4 _ z=>SqL.of (z.1 _ _ hcl)) ?_ ?_
  ·rintro i x acc H4 hx ⟨sm,ts,r,rfl,pr,ln,oks⟩;have lts:=Paired.length pr;have i6:i < ns.length:=by have:=(List.getElem?_eq_some_iff.mp hx).1; rw [List.length_map] at this; exact this
   rw [List.getElem?_map] at hx;obtain ⟨n,en,rfl⟩:=Option.map_eq_some_iff.mp hx;refine ⟨⟨[some (.int n)],rfl,rfl⟩,?_,FH ⟨_,rfl,_,rfl,n,fw,rfl,hf.same sm,fun q d H5 s5 hd dok=>⟨sm.trans s5,ts ++ [q],r ++ [d],by rw [List.map_append]; rfl,Paired.snoc (Paired.imp (fun b c z=>z.same s5) pr) hd,by rw [List.length_append,ln]; rfl,fun c hc=>?_⟩⟩⟩
   ·rw [List.length_map];exact Nat.lt_of_le_of_lt (show ts.length<=8 by lia) (by decide)
   ·rcases List.mem_append.mp hc with z | z
    ·exact oks c z
    ·rw [List.mem_singleton.mp z]; exact dok
  ·rintro acc H4 ⟨sm,ts,r,rfl,pr,ln,oks⟩ L hL;rw [List.length_map] at ln;have lts:=Paired.length pr;have s1:=Ah (o:=.lst (ts.map V.ref)) hL;have hL1:upd H4 L (.lst (ts.map V.ref)) L=some (.lst (ts.map V.ref)):=Ab;generalize upd H4 L (.lst (ts.map V.ref))=H1 at s1 hL1 ⊢;have hR:Gi H1 L r:=⟨ts,hL1,Paired.imp (fun b c z=>z.same s1) pr⟩
   have rk:Np r:=⟨by lia,oks⟩
   refine ⟨_,rfl,(by show 8<=sizeLine; decide),fun z8 hz8=>?_⟩;have s3:=Ah (o:=.lst (EE.map V.int)) hz8;refine ⟨L,z8,r,0,EE,rfl,hR.same s3,rk,Ab,rfl,fun H5 s4=>?_⟩;have s14:An H H5:=((sm.trans s1).trans s3).trans s4;have hR4:=(hR.same s3).same s4;refine ⟨rfl,_,rfl,?_⟩;rw [GV];by_cases hz:DS (r.map LC4.a) 0 EE=0
   ·rw [decide_eq_true hz];exact Cz ⟨_,rfl,k L r H5 s14 hR4 rk hz⟩
   ·rw [decide_eq_false hz];refine EC ?_;refine ⟨(by show 2<=sizeLine; decide),fun b1 hb1=>⟨(by show 1<=sizeLine; decide),fun b2 hb2=>⟨(by show 0<=sizeLine; decide),fun b3 hb3=>⟨(by show 4<=sizeLine; decide),fun b4 hb4=>⟨(by show 1<=sizeLine; decide),fun b5 hb5=>?_⟩⟩⟩⟩⟩;generalize hH6:upd (upd (upd (upd (upd H5 b1 (.tup [.int 0,.int 256])) b2 (.lst [.ref b1])) b3 (.lst [])) b4 (.tup [.int 0,.ref b2,.ref b3,.int 0])) b5 (.lst [.ref b4])=H6;have s5:An H5 H6:=by rw [<-hH6]; exact (((Ah hb1).trans (Ah hb2)).trans (Ah hb3)).trans ((Ah hb4).trans (Ah hb5))
    have e1:H6 b1=some (.tup [.int 0,.int 256]):=by rw [<-hH6]; exact Ah hb5 _ _ (Ah hb4 _ _ (Ah hb3 _ _ (Ah hb2 _ _ Ab)))
    have e2:H6 b2=some (.lst [.ref b1]):=by rw [<-hH6]; exact Ah hb5 _ _ (Ah hb4 _ _ (Ah hb3 _ _ Ab))
    have e3:H6 b3=some (.lst []):=by rw [<-hH6]; exact Ah hb5 _ _ (Ah hb4 _ _ Ab)
    have e4:H6 b4=some (.tup [.int 0,.ref b2,.ref b3,.int 0]):=by rw [<-hH6]; exact Ah hb5 _ _ Ab
    have e5:H6 b5=some (.lst [.ref b4]):=by rw [<-hH6]; exact Ab
    obtain ⟨cs4,hcl4,pr4⟩:=hR4.same s5;have ld4:=Paired.length pr4;refine ⟨_,rfl,b5,L,_,_,rfl,rfl,e5,hcl4,Gc (by simp only [List.length_cons,List.length_nil,List.length_map]; lia),fun q hq=>?_⟩;have s6:=Ah (o:=.lst ([V.ref b4] ++ cs4.map V.ref)) hq;have c0:Gj H6 b4 c000:=⟨b2,b3,[b1],[],e4,e2,.cons e1 .nil,e3,.nil⟩
    refine ⟨_,rfl,k q (c000 :: r) _ ((s14.trans s5).trans s6) ⟨b4 :: cs4,Ab,.cons (c0.same s6) (Paired.imp (fun _ _ z=>z.same s6) pr4)⟩ ⟨by rw [List.length_cons]; lia,fun c hc=>?_⟩ (Ra _)⟩;rcases List.mem_cons.mp hc with z | z
    ·rw [z]; exact c000_ok
    ·exact oks c z
end
end J
namespace J
open PySem L2
structure Sq where
 parts:List Int
 lev:Int
abbrev Gv:=List Sq
structure GA where
 p:Addr
 dx:Addr
 lv:Addr
 pt:Addr
 nm:Addr
 br:Addr
 am:Addr
 bx:Addr
def fl6 (g:GA):List (Str×V):=AK "boxes" (.ref g.bx) (AK "amounts" (.ref g.am) (AK "bares" (.ref g.br) (AK "numbers" (.ref g.nm) (AK "parts" (.ref g.pt) (AK "levels" (.ref g.lv) [])))))
theorem GJ (g:GA):(fl6 g).lookup ("levels" : Str)=some (V.ref g.lv):=by
 unfold fl6;rw [Ak,if_neg (by decide +kernel),Ak,if_neg (by decide +kernel),Ak,if_neg (by decide +kernel),Ak,if_neg (by decide +kernel),Ak,if_neg (by decide +kernel),Ak,if_pos rfl]
theorem EL (g:GA):(fl6 g).lookup ("parts" : Str)=some (V.ref g.pt):=by
 unfold fl6;rw [Ak,if_neg (by decide +kernel),Ak,if_neg (by decide +kernel),Ak,if_neg (by decide +kernel),Ak,if_neg (by decide +kernel),Ak,if_pos rfl]
theorem Sy (g:GA):(fl6 g).lookup ("numbers" : Str)=some (V.ref g.nm):=by
 unfold fl6;rw [Ak,if_neg (by decide +kernel),Ak,if_neg (by decide +kernel),Ak,if_neg (by decide +kernel),Ak,if_pos rfl]
theorem Ng (g:GA):(fl6 g).lookup ("bares" : Str)=some (V.ref g.br):=by
 unfold fl6;rw [Ak,if_neg (by decide +kernel),Ak,if_neg (by decide +kernel),Ak,if_pos rfl]
theorem fl6_am (g:GA):(fl6 g).lookup ("amounts" : Str)=some (V.ref g.am):=by
 unfold fl6;rw [Ak,if_neg (by decide +kernel),Ak,if_pos rfl]
theorem GI (g:GA) {m:Str} (h1:¬ m=("boxes" : Str)) (h2:¬ m=("amounts" : Str)) (h3:¬ m=("bares" : Str)) (h4:¬ m=("numbers" : Str)) (h5:¬ m=("parts" : Str)) (h6:¬ m=("levels" : Str)):(fl6 g).lookup m=none:=by
 unfold fl6;rw [Ak,if_neg h1,Ak,if_neg h2,Ak,if_neg h3,Ak,if_neg h4,Ak,if_neg h5,Ak,if_neg h6];rfl
theorem MQ (g:GA):(fl6 g).lookup ("kept" : Str)=none:=GI g (by decide +kernel) (by decide +kernel) (by decide +kernel) (by decide +kernel) (by decide +kernel) (by decide +kernel)
theorem CT (g:GA):(fl6 g).lookup ("linked" : Str)=none:=GI g (by decide +kernel) (by decide +kernel) (by decide +kernel) (by decide +kernel) (by decide +kernel) (by decide +kernel)
theorem NT (g:GA):(fl6 g).lookup ("check_square" : Str)=none:=GI g (by decide +kernel) (by decide +kernel) (by decide +kernel) (by decide +kernel) (by decide +kernel) (by decide +kernel)
theorem PR (g:GA):(fl6 g).lookup ("leaf" : Str)=none:=GI g (by decide +kernel) (by decide +kernel) (by decide +kernel) (by decide +kernel) (by decide +kernel) (by decide +kernel)
theorem Ga (g:GA):(fl6 g).lookup ("level_of" : Str)=none:=GI g (by decide +kernel) (by decide +kernel) (by decide +kernel) (by decide +kernel) (by decide +kernel) (by decide +kernel)
theorem QD (g:GA):(fl6 g).lookup ("joined" : Str)=none:=GI g (by decide +kernel) (by decide +kernel) (by decide +kernel) (by decide +kernel) (by decide +kernel) (by decide +kernel)
theorem NS (g:GA):(fl6 g).lookup ("quarters" : Str)=none:=GI g (by decide +kernel) (by decide +kernel) (by decide +kernel) (by decide +kernel) (by decide +kernel) (by decide +kernel)
theorem Ld (g:GA):(fl6 g).lookup ("state_of" : Str)=none:=GI g (by decide +kernel) (by decide +kernel) (by decide +kernel) (by decide +kernel) (by decide +kernel) (by decide +kernel)
def kOf (ps:List Int):List Key:=ps.map Sum.inl
theorem Sl (ps:List Int):(kOf ps).map kV=ps.map V.int:=by unfold kOf; rw [List.map_map]; rfl
theorem Nb:∀ {ps qs:List Int},kOf ps=kOf qs->ps=qs
 | [],[],_=>rfl
 | [],_ :: _,h=>by cases h
 | _ :: _,[],h=>by cases h
 | x :: r,y :: t,h=>by
  have h:Sum.inl x :: kOf r=(Sum.inl y:Key) :: kOf t:=h;injection h with h1 h2
  injection h1 with h1
  rw [h1,Nb h2]
def GG:Nat->Gv->List (List Key×V)
 | _,[]=>[]
 | n,q :: r=>(kOf q.parts,.int (n:Int)) :: GG (n+1) r
theorem Oa:∀ (G:Gv) (n:Nat),(GG n G).length=G.length
 | [],_=>rfl
 | q :: r,n=>by show (GG (n+1) r).length+1=r.length+1; rw [Oa r]
theorem Mc (q:Sq):∀ (G:Gv) (n:Nat),GG n (G ++ [q])=GG n G ++ [(kOf q.parts,.int ((n+G.length:Nat):Int))]
 | [],_=>rfl
 | p :: r,n=>by
  show (kOf p.parts,V.int (n:Int)) :: GG (n+1) (r ++ [q])=_;rw [Mc q r (n+1)];show _=(kOf p.parts,V.int (n:Int)) :: (GG (n+1) r ++ [(kOf q.parts,V.int ((n+(r.length+1):Nat):Int))]);rw [show n+1+r.length=n+(r.length+1) by lia]
theorem Na (ps:List Int):∀ (G:Gv) (n:Nat),(∃ (i:Nat) (q:Sq),G[i]?=some q/\q.parts=ps/\CB (GG n G) (kOf ps)=some (.int ((n+i:Nat):Int)))\/(CB (GG n G) (kOf ps)=none/\∀ q ∈ G,q.parts≠ps)
 | [],n=>.inr ⟨rfl,fun q hq=>by simp at hq⟩
 | p :: r,n=>by
  by_cases e:p.parts=ps
  ·exact .inl ⟨0,p,rfl,e,Cb (by rw [e])⟩
  ·have ne:¬ (kOf p.parts,V.int (n:Int)).1=kOf ps:=fun z=>e (Nb z);rcases Na ps r (n+1) with ⟨i,q,h1,h2,h3⟩ | ⟨h1,h2⟩
   ·refine .inl ⟨i+1,q,h1,h2,?_⟩;show CB ((kOf p.parts,V.int (n:Int)) :: GG (n+1) r) (kOf ps)=_;rw [BO ne,h3,show n+1+i=n+(i+1) by lia]
   ·refine .inr ⟨?_,fun q hq=>?_⟩
    ·show CB ((kOf p.parts,V.int (n:Int)) :: GG (n+1) r) (kOf ps)=_;rw [BO ne,h1]
    ·rcases List.mem_cons.mp hq with rfl | hq
     ·exact e
     ·exact h2 q hq
def TupAt (H:Hp) (t:Addr) (q:Sq):Prop:=H t=some (.tup (q.parts.map V.int))
structure AI (a:Ad) (H:Hp) (g:GA) (G:Gv):Prop where
 hp:H g.p=some (.ins a.c_Grove g.dx (fl6 g))
 lv:H g.lv=some (.lst (G.map fun q=>.int q.lev))
 pt:∃ ts:List Addr,H g.pt=some (.lst (ts.map V.ref))/\Paired (TupAt H) ts G
 nm:H g.nm=some (.dT (GG 0 G))
 ne:g.lv≠g.pt
def Fr (g:GA) (H H':Hp):Prop:=∀ b o,H b=some o->b≠g.lv->b≠g.pt->b≠g.nm->H' b=some o
theorem Fr.refl (g:GA) (H:Hp):Fr g H H:=fun _ _ e _ _ _=>e
theorem Fr.trans {g:GA} {H1 H2 H3:Hp} (h:Fr g H1 H2) (h2:Fr g H2 H3):Fr g H1 H3:=fun b o e n1 n2 n3=>h2 b o (h b o e n1 n2 n3) n1 n2 n3
theorem An.fr {g:GA} {H1 H2:Hp} (h:An H1 H2):Fr g H1 H2:=fun b o e _ _ _=>h b o e
theorem PairedM.imp {α β:Type} {F G:α->β->Prop} (h:∀ x y,F x y->G x y):∀ {l:List α} {m:List β},Paired F l m->Paired G l m
 | _,_,.nil=>.nil
 | _,_,.cons r t=>.cons (h _ _ r) (PairedM.imp h t)
theorem PairedM.get {α β:Type} {F:α->β->Prop}:∀ {l:List α} {m:List β} {i:Nat} {y:β},Paired F l m->m[i]?=some y->∃ x,l[i]?=some x/\F x y
 | _,_,_,_,.nil,e=>by simp at e
 | _,_,0,_,.cons r _,e=>by simp at e; subst e; exact ⟨_,rfl,r⟩
 | _,_,i+1,y,.cons _ t,e=>by
  obtain ⟨x,h1,h2⟩:=PairedM.get (i:=i) (y:=y) t (by simpa using e);exact ⟨x,by simpa using h1,h2⟩
theorem FK {H:Hp} {p:Addr} {o:HO} (h:H p=none):An H (upd H p o):=fun b u e=>by
 rw [As (Am e h)];exact e
theorem AI.same {a:Ad} {H H':Hp} {g:GA} {G:Gv} (s:An H H') (h:AI a H g G):AI a H' g G:=by
 obtain ⟨h1,h2,⟨ts,h3,h4⟩,h5,h6⟩:=h;exact ⟨s _ _ h1,s _ _ h2,⟨ts,s _ _ h3,PairedM.imp (fun t q z=>s _ _ z) h4⟩,s _ _ h5,h6⟩
theorem AI.put {a:Ad} {H:Hp} {g:GA} {G:Gv} {l:Addr} {xs:List V} {o:HO} (hl:H l=some (.lst xs)) (n1:l≠g.lv) (n2:l≠g.pt) (h:AI a H g G):AI a (upd H l o) g G:=by
 obtain ⟨h1,h2,⟨ts,h3,h4⟩,h5,h6⟩:=h;have other:∀ {b v},H b=some v->v≠.lst xs->upd H l o b=some v:=fun {b v} e n=>by rw [As (AC e hl n)]; exact e
 exact ⟨other h1 (by intro z; cases z),by rw [As (Ne.symm n1)]; exact h2,⟨ts,by rw [As (Ne.symm n2)]; exact h3,PairedM.imp (fun t q z=>other z (by intro z; cases z)) h4⟩,other h5 (by intro z; cases z),h6⟩
def Aq (G:Gv) (x:Nat) (l:Int):Prop:=∃ q,G[x]?=some q/\q.lev=l
structure GOk (G:Gv):Prop where
 leaf:∀ s:Nat,s < 8->G[s]?=some ⟨[(s:Int)],0⟩
 node:∀ (i:Nat) q,G[i]?=some q->8<=i->∃ x y z w:Nat,q.parts=[(x:Int),(y:Int),(z:Int),(w:Int)]/\(Aq G x (q.lev - 1)/\Aq G y (q.lev - 1)/\Aq G z (q.lev - 1)/\Aq G w (q.lev - 1))/\1<=q.lev/\q.lev<=48
 nd:(G.map Sq.parts).Nodup
theorem Aq.lt {G:Gv} {x:Nat} {l:Int} (h:Aq G x l):x < G.length:=by
 obtain ⟨q,h,_⟩:=h;exact (List.getElem?_eq_some_iff.mp h).1
theorem Nd {G r:Gv} {x:Nat} {q:Sq} (h:G[x]?=some q):(G ++ r)[x]?=some q:=by
 rw [List.getElem?_append_left (List.getElem?_eq_some_iff.mp h).1];exact h
theorem Aq.app {G r:Gv} {x:Nat} {l:Int} (h:Aq G x l):Aq (G ++ r) x l:=by
 obtain ⟨q,h,e⟩:=h;exact ⟨q,Nd h,e⟩
theorem GOk.lev {G:Gv} (h:GOk G) {i:Nat} {q:Sq} (e:G[i]?=some q):0<=q.lev/\q.lev<=48:=by
 by_cases h8:i < 8
 ·rw [h.leaf i h8] at e;cases e;exact ⟨Int.le_refl 0,by show (0:Int)<=48; decide⟩
 ·obtain ⟨x,y,z,w,_,_,h1,h2⟩:=h.node i q e (by lia);exact ⟨by lia,h2⟩
theorem GOk.snoc {G:Gv} (h:GOk G) {x y z w:Nat} {l:Int} (hx:Aq G x l) (hy:Aq G y l) (hz:Aq G z l) (hw:Aq G w l) (h47:l<=47) (new:∀ q ∈ G,q.parts≠[(x:Int),(y:Int),(z:Int),(w:Int)]):GOk (G ++ [⟨[(x:Int),(y:Int),(z:Int),(w:Int)],l+1⟩]) where
 leaf:=fun s hs=>Nd (h.leaf s hs)
 node:=fun i q e hi=>by
  by_cases hl:i < G.length
  ·rw [List.getElem?_append_left hl] at e;obtain ⟨x,y,z,w,h1,⟨a1,a2,a3,a4⟩,h3⟩:=h.node i q e hi;exact ⟨x,y,z,w,h1,⟨a1.app,a2.app,a3.app,a4.app⟩,h3⟩
  ·rw [List.getElem?_append_right (by lia)] at e;have:i - G.length=0:=by
    by_cases z:i - G.length=0
    ·exact z
    ·rw [List.getElem?_eq_none (by rw [List.length_singleton]; lia)] at e; cases e
   rw [this] at e;cases e;obtain ⟨q0,e0,l0⟩:=hx;have:=(h.lev e0).1;have el:l+1 - 1=l:=by lia
   refine ⟨x,y,z,w,rfl,?_,?_,?_⟩
   ·show Aq _ x (l+1 - 1)/\Aq _ y (l+1 - 1)/\Aq _ z (l+1 - 1)/\Aq _ w (l+1 - 1);rw [el];exact ⟨Aq.app ⟨q0,e0,l0⟩,hy.app,hz.app,hw.app⟩
   ·show 1<=l+1; lia
   ·show l+1<=48; lia
 nd:=by
  rw [List.map_append,List.nodup_append];refine ⟨h.nd,by simp,fun p hp p' hp'=>?_⟩;obtain ⟨q,hq,rfl⟩:=List.mem_map.mp hp;rw [show p'=[(x:Int),(y:Int),(z:Int),(w:Int)] by simpa using hp'];exact new q hq
theorem GOk.one {G:Gv} (h:GOk G) {i j:Nat} {p q:Sq} (hi:G[i]?=some p) (hj:G[j]?=some q) (e:p.parts=q.parts):i=j:=by
 have li:=(List.getElem?_eq_some_iff.mp hi).1;have lj:=(List.getElem?_eq_some_iff.mp hj).1;have h1:(G.map Sq.parts)[i]'(by rw [List.length_map]; exact li)=(G.map Sq.parts)[j]'(by rw [List.length_map]; exact lj):=by
  rw [List.getElem_map,List.getElem_map,(List.getElem?_eq_some_iff.mp hi).2,(List.getElem?_eq_some_iff.mp hj).2,e]
 exact (List.getElem_inj h.nd).mp h1
end J
namespace J
open PySem L2
seal L2.PA L2.PE L2.PS L2.PSs L2.PT L2.PW
theorem Mb {n:Nat} (h:n < 10000000):n < sizeLine:=Nat.lt_of_lt_of_le h (by decide)
theorem PX (K:PySem.W.Frag):PySem.W.kitOne K (.type "int") (.type "int")=some true/\PySem.W.kitOne K (.type "int") (.type "bool")=some false:=⟨by kernel_rfl,by kernel_rfl⟩
section
variable {P:Program} {w:World} {K:PySem.W.Frag} {mg:Str->Option Value} {base:Heap} {a:Ad}
inductive SpIW (vs:List V) (H:Hp) (Q:VK):Prop
 | mk (i:Int) (_:vs=[.int i]) (_:Q (.bl true) H):SpIW vs H Q
def Rv:Sp:=fun vs H Q _=>SpIW vs H Q
theorem ok_iw {f:Addr} {fd:FuncData} (F:Fun K "is_whole" "is_whole" EF f fd) (T:Top K mg a):AU P w K mg base CX0 1 f fd Ed Rv:=by
 refine F.ok NF (fun vs H Q E h=>?_) (fun cdv A outer s H vs Q E hr h=>?_)
 ·obtain ⟨i,rfl,_⟩:=h;rfl
 ·obtain ⟨i,rfl,k⟩:=h;exact ⟨_,(Aj (AA (JZ (AW FT rfl T.b_isinstance PyProof.Rows.boot_isinstance (Aa (pv 0) (Aa (GS (v:=.ty "int") rfl T.b_int PyProof.Rows.boot_int rfl) Ac))) (JX (RM (AW FT rfl T.b_isinstance PyProof.Rows.boot_isinstance (Aa (pv 0) (Aa (GS (v:=.ty "bool") rfl T.b_bool PyProof.Rows.boot_bool rfl) Ac)))))))),_,rfl,_,_,_,.type "int",true,rfl,rfl,.of (.int i),(PX K).1,true,rfl,EC ⟨_,rfl,_,_,_,.type "int",false,rfl,rfl,.of (.int i),(PX K).2,false,rfl,k⟩⟩
inductive SpIS (vs:List V) (H:Hp) (Q:VK):Prop
 | mk (i:Int) (_:vs=[.int i]) (_:0<=i) (_:i < 8) (_:Q (.bl true) H):SpIS vs H Q
def spIS:Sp:=fun vs H Q _=>SpIS vs H Q
theorem ok_is {f:Addr} {fd:FuncData} (F:Fun K "is_state" "is_state" EG f fd) (T:Top K mg a) (aQ:Cal P w K mg base CX0 1 "is_whole" Ed Rv):AU P w K mg base CX0 2 f fd Fx spIS:=by
 refine F.ok NG (fun vs H Q E h=>?_) (fun cdv A outer s H vs Q E hr h=>?_)
 ·obtain ⟨i,rfl,_⟩:=h;rfl
 ·obtain ⟨i,rfl,h0,h1,k⟩:=h;refine ⟨_,(Aj (AA (JZ (Az aQ (rm hr) rfl Ar (Aa (pv 0) Ac)) (JX (RO NP Ji Af (pv 0) (Ev rfl T.k_STATES)))))),?_⟩
  try dsimp only [cxK]
  refine ⟨_,rfl,i,rfl,true,rfl,EC ⟨_,rfl,_,_,rfl,rfl,_,rfl,?_⟩⟩;rw [decide_eq_true h0];refine EC ⟨_,_,rfl,rfl,?_⟩;show Q (.bl (decide (i < 8))) H;rw [decide_eq_true h1];exact k
inductive Tb (a:Ad) (vs:List V) (H:Hp) (Q:VK):Prop
 | mk (g:GA) (G:Gv) (t:Addr) (ps:List Int) (l:Int) (_:vs=[.ref g.p,.ref t,.int l]) (_:AI a H g G) (_:H t=some (.tup (ps.map V.int))) (_:(∀ q ∈ G,q.parts≠ps)) (_:G.length < 9000000) (_:∀ H',Fr g H H'->AI a H' g (G ++ [⟨ps,l⟩])->Q (.int (G.length:Int)) H'):Tb a vs H Q
def ME (a:Ad):Sp:=fun vs H Q _=>Tb a vs H Q
theorem ok_kept {f:Addr} {fd:FuncData} (F:Fun K "kept" "Grove.kept" DO f fd) (T:Top K mg a):AU P w K mg base CX0 1 f fd DR (ME a):=by
 refine F.ok GZ (fun vs H Q E h=>?_) (fun cdv A outer s H vs Q E hr h=>?_)
 ·obtain ⟨g,G,t,ps,l,rfl,_⟩:=h;rfl
 ·obtain ⟨g,G,t,ps,l,rfl,hg,ht,new,few,k⟩:=h;obtain ⟨h1,h2,⟨ts,h3,h4⟩,h5,h6⟩:=hg;have lt:ts.length=G.length:=Paired.length h4;refine ⟨_,(Ae (Av (i:=3) GZ.nd rfl (Or.inl rfl) (AW Bl rfl T.b_len PySem.boot_len (Aa (AG (pv 0) rfl) Ac))) (Ae (Ir (GH hr) (AG (pv 0) rfl) (pv 1) (pv 3) rfl) (Ae (BQ (Dw PySem.F.plainAttrs_list PySem.F.slot_list_append PySem.F.type_list_append BN (AG (pv 0) rfl) (Aa (pv 2) Ac))) (Ae (BQ (Dw PySem.F.plainAttrs_list PySem.F.slot_list_append PySem.F.type_list_append BN (AG (pv 0) rfl) (Aa (pv 1) Ac))) (Aj (AA (pv 3))))))),?_⟩
  try dsimp only [cxK]
  refine ⟨_,rfl,g.p,_,g.dx,_,_,rfl,h1,T.cl_Grove,T.na_Grove_levels,GJ g,g.lv,_,rfl,.inl (SqL.of h2),?_⟩;rw [List.length_map];have ne1:g.p≠g.nm:=AC h1 h5 (by intro z; cases z);have ne2:g.lv≠g.nm:=AC h2 h5 (by intro z; cases z);have ne3:g.pt≠g.nm:=AC h3 h5 (by intro z; cases z);have ne4:g.p≠g.lv:=AC h1 h2 (by intro z; cases z);have ne5:g.p≠g.pt:=AC h1 h3 (by intro z; cases z);have vn:CB (GG 0 G) (kOf ps)=none:=by
   rcases Na ps G 0 with ⟨i,q,e1,e2,_⟩ | ⟨e,_⟩
   ·exact absurd e2 (new q (List.mem_of_getElem? e1))
   ·exact e
  refine ⟨_,rfl,_,rfl,g.p,_,g.dx,_,_,rfl,h1,T.cl_Grove,T.na_Grove_numbers,Sy g,_,rfl,g.nm,_,rfl,LD.t (k:=kOf ps) h5 (by rw [Sl]; exact ht) (by rw [Oa]; exact Mb (by lia)),?_⟩;rw [JU _ vn];have e5:GG 0 G ++ [(kOf ps,V.int (G.length:Int))]=GG 0 (G ++ [⟨ps,l⟩]):=by rw [Mc,Nat.zero_add]
  rw [e5];generalize hH1:upd H g.nm (.dT (GG 0 (G ++ [⟨ps,l⟩])))=H1;have k1:∀ b o,H b=some o->b≠g.nm->H1 b=some o:=fun b o e n=>by rw [<-hH1,As n]; exact e
  have n1:H1 g.nm=some (.dT (GG 0 (G ++ [⟨ps,l⟩]))):=by rw [<-hH1]; exact Ab
  refine ⟨_,rfl,g.p,_,g.dx,_,_,rfl,k1 _ _ h1 ne1,T.cl_Grove,T.na_Grove_levels,GJ g,.inl ⟨rfl,_,SqL.of (k1 _ _ h2 ne2)⟩,_,rfl,g.lv,_,_,rfl,rfl,k1 _ _ h2 ne2,by rw [List.length_map]; exact Mb (by lia),?_⟩;generalize hH2:upd H1 g.lv (.lst ((G.map fun q=>V.int q.lev) ++ [.int l]))=H2;have k2:∀ b o,H1 b=some o->b≠g.lv->H2 b=some o:=fun b o e n=>by rw [<-hH2,As n]; exact e
  have n2:H2 g.lv=some (.lst ((G ++ [(⟨ps,l⟩:Sq)]).map fun q=>V.int q.lev)):=by rw [<-hH2,Ab,List.map_append]; rfl
  have h3':=k2 _ _ (k1 _ _ h3 ne3) (Ne.symm h6);refine ⟨_,rfl,g.p,_,g.dx,_,_,rfl,k2 _ _ (k1 _ _ h1 ne1) ne4,T.cl_Grove,T.na_Grove_parts,EL g,.inl ⟨rfl,_,SqL.of h3'⟩,_,rfl,g.pt,_,_,rfl,rfl,h3',by rw [List.length_map,lt]; exact Mb (by lia),?_⟩;generalize hH3:upd H2 g.pt (.lst (ts.map V.ref ++ [.ref t]))=H3;have k3:∀ b o,H2 b=some o->b≠g.pt->H3 b=some o:=fun b o e n=>by rw [<-hH3,As n]; exact e
  have n3:H3 g.pt=some (.lst ((ts ++ [t]).map V.ref)):=by rw [<-hH3,Ab,List.map_append]; rfl
  have fr:Fr g H H3:=fun b o e m1 m2 m3=>k3 _ _ (k2 _ _ (k1 _ _ e m3) m1) m2;have tp:∀ (c:Addr) (xs:List V),H c=some (.tup xs)->H3 c=some (.tup xs):=fun c xs e=>fr _ _ e (AC e h2 (by intro z; cases z)) (AC e h3 (by intro z; cases z)) (AC e h5 (by intro z; cases z));refine ⟨_,rfl,k H3 fr ⟨fr _ _ h1 ne4 ne5 ne1,k3 _ _ n2 h6,⟨ts ++ [t],n3,Paired.snoc (PairedM.imp (fun c q z=>tp c _ z) h4) (tp t _ ht)⟩,k3 _ _ (k2 _ _ n1 (Ne.symm ne2)) (Ne.symm ne3),h6⟩⟩
structure AZ (G G':Gv) (n:Nat):Prop where
 ok:GOk G'
 pre:∃ r,G'=G ++ r
 few:G'.length<=G.length+n
theorem AZ.refl {G:Gv} (h:GOk G):AZ G G 0:=⟨h,⟨[],by simp⟩,Nat.le_refl _⟩
theorem AZ.trans {G G' G'':Gv} {n m:Nat} (h:AZ G G' n) (h2:AZ G' G'' m):AZ G G'' (n+m):=by
 obtain ⟨r,e⟩:=h.pre;obtain ⟨t,e2⟩:=h2.pre;have f1:=h.few;have f2:=h2.few;exact ⟨h2.ok,⟨r ++ t,by rw [e2,e,List.append_assoc]⟩,by lia⟩
theorem AZ.get {G G':Gv} {n x:Nat} {q:Sq} (h:AZ G G' n) (e:G[x]?=some q):G'[x]?=some q:=by
 obtain ⟨r,e2⟩:=h.pre;rw [e2];exact Nd e
theorem AZ.lev {G G':Gv} {n x:Nat} {l:Int} (h:AZ G G' n) (e:Aq G x l):Aq G' x l:=by
 obtain ⟨q,e,z⟩:=e;exact ⟨q,h.get e,z⟩
inductive SY (a:Ad) (vs:List V) (H:Hp) (Q:VK):Prop
 | mk (g:GA) (G:Gv) (t:Addr) (x y z w:Nat) (l:Int) (_:vs=[.ref g.p,.ref t]) (_:AI a H g G) (_:GOk G) (_:H t=some (.tup [.int x,.int y,.int z,.int w])) (_:(Aq G x l/\Aq G y l/\Aq G z l/\Aq G w l)) (_:l<=47) (_:G.length < 9000000) (_:∀ (n:Nat) (G':Gv) (H':Hp),Fr g H H'->AI a H' g G'->AZ G G' 1->G'[n]?=some ⟨[(x:Int),(y:Int),(z:Int),(w:Int)],l+1⟩->Q (.int n) H'):SY a vs H Q
def FV (a:Ad):Sp:=fun vs H Q _=>SY a vs H Q
theorem ok_link {f:Addr} {fd:FuncData} (F:Fun K "linked" "Grove.linked" CK f fd) (T:Top K mg a) (aP:BK P w K mg base CX0 1 a.c_Grove "kept" DR (ME a)):AU P w K mg base CX0 2 f fd AY (FV a):=by
 refine F.ok Gh (fun vs H Q E h=>?_) (fun cdv A outer s H vs Q E hr h=>?_)
 ·obtain ⟨g,G,t,x,y,z,w,l,rfl,_⟩:=h;rfl
 ·obtain ⟨g,G,t,x,y,z,w,l,rfl,hg,ok,ht,⟨hx,hy,hz,hw⟩,h47,few,k⟩:=h;have hg0:=hg;obtain ⟨h1,h2,⟨ts,h3,h4⟩,h5,h6⟩:=hg;refine ⟨_,(Ae (Av (i:=2) Gh.nd rfl (Or.inl rfl) (JY (GH hr) (AG (pv 0) rfl) (pv 1) ⟨rfl,rfl,rfl,rfl⟩)) (Ae (Ba (AJ Lb (pv 2) Id (AT _)) (Aj (AA (AF (pv 0) aP (rm hr) Ar (Aa (pv 1) (Cp BG (Al Au (AG (pv 0) rfl) (Al Ao (pv 1) Af (fun _ _=>rfl)) (fun _ _=>rfl)) Af Ac))))) AE) (Aj (AA (pv 2))))),?_⟩
  try dsimp only [cxK]
  refine ⟨_,rfl,g.p,_,g.dx,_,_,rfl,h1,T.cl_Grove,T.na_Grove_numbers,Sy g,g.nm,rfl,.inr ⟨_,.inl h5⟩,_,rfl,_,GM.t (k:=kOf [(x:Int),(y:Int),(z:Int),(w:Int)]) h5 (by rw [Sl]; exact ht),?_⟩;rcases Na [(x:Int),(y:Int),(z:Int),(w:Int)] G 0 with ⟨i,q,e1,e2,e3⟩ | ⟨e,new⟩
  ·rw [e3];refine ⟨_,rfl,rfl,_,rfl,Cz ⟨_,rfl,?_⟩⟩;rw [Nat.zero_add];refine k i G H (Fr.refl g H) hg0 ⟨ok,⟨[],by simp⟩,by lia⟩ ?_;have h8:8<=i:=by
    refine Nat.le_of_not_lt fun z'=>?_;rw [ok.leaf i z'] at e1;cases e1;cases e2
   obtain ⟨x',y',z',w',p1,⟨lx,_⟩,_⟩:=ok.node i q e1 h8;have exx:x'=x:=by
    rw [p1] at e2;injection e2 with e2 _
    exact Int.ofNat.inj e2
   rw [exx] at lx;obtain ⟨qa,a1,a2⟩:=lx;obtain ⟨qb,b1,b2⟩:=hx;rw [a1] at b1;cases b1;have el:q.lev=l+1:=by lia
   rw [e1];cases q with
   | mk pp ll=>cases e2; cases el; rfl
  ·rw [e];refine ⟨_,rfl,rfl,_,rfl,EC ?_⟩;obtain ⟨q,e1,e2⟩:=id hx;refine ⟨_,rfl,g.p,g.dx,_,rfl,h1,MQ g,_,rfl,_,rfl,g.p,_,g.dx,_,_,rfl,h1,T.cl_Grove,T.na_Grove_levels,GJ g,_,rfl,t,_,0,.int x,rfl,rfl,SqT.of ht,Ai (j:=0) rfl,g.lv,_,(x:Int),.int q.lev,rfl,rfl,SqL.of h2,Ai (by rw [List.getElem?_map,e1]; rfl),_,_,rfl,rfl,?_⟩;refine ⟨g,G,t,[(x:Int),(y:Int),(z:Int),(w:Int)],l+1,by rw [<-e2]; rfl,hg0,ht,new,few,fun H' fr hg'=>?_⟩;refine k G.length _ H' fr hg' ⟨ok.snoc hx hy hz hw h47 new,⟨_,rfl⟩,by rw [List.length_append]; exact Nat.le_refl _⟩ ?_;rw [List.getElem?_append_right (Nat.le_refl _),Nat.sub_self];rfl
inductive SpChk (a:Ad) (vs:List V) (H:Hp) (Q:VK):Prop
 | mk (g:GA) (G:Gv) (i:Nat) (_:vs=[.ref g.p,.int i]) (_:AI a H g G) (_:i < G.length) (_:Q .non H):SpChk a vs H Q
def Px (a:Ad):Sp:=fun vs H Q _=>SpChk a vs H Q
theorem ok_chk {f:Addr} {fd:FuncData} (F:Fun K "check_square" "Grove.check_square" Bp f fd) (T:Top K mg a) (aQ:Cal P w K mg base CX0 1 "is_whole" Ed Rv):AU P w K mg base CX0 2 f fd Bv (Px a):=by
 refine F.ok Gm (fun vs H Q E h=>?_) (fun cdv A outer s H vs Q E hr h=>?_)
 ·obtain ⟨g,G,i,rfl,_⟩:=h;rfl
 ·obtain ⟨g,G,i,rfl,hg,hi,k⟩:=h;refine ⟨_,(Aj (Ba (PW.pt (PH (Fd (EK (Az aQ (rm hr) rfl Ar (Aa (pv 1) Ac)))) (ML (Fd (NM NP Ji Af (pv 1) (AW Bl rfl T.b_len PySem.boot_len (Aa (AG (pv 0) rfl) Ac))))))) (Aj BS) AE)),?_⟩
  try dsimp only [cxK]
  refine ⟨_,rfl,_,rfl,true,rfl,Cz ⟨_,rfl,_,_,rfl,rfl,_,rfl,?_⟩⟩;rw [decide_eq_true (by lia:(0:Int)<=(i:Int))];refine EC ⟨_,rfl,g.p,_,g.dx,_,_,rfl,hg.hp,T.cl_Grove,T.na_Grove_levels,GJ g,g.lv,_,rfl,.inl (SqL.of hg.lv),_,_,rfl,rfl,_,rfl,?_⟩;rw [List.length_map,decide_eq_true (by lia:(i:Int) < (G.length:Int))];exact Cz k
inductive SZ (a:Ad) (vs:List V) (H:Hp) (Q:VK):Prop
 | mk (p:Addr) (i:Int) (_:vs=[.ref p,.int i]) (_:0<=i) (_:i < 8) (_:Q (.int i) H):SZ a vs H Q
def MC (a:Ad):Sp:=fun vs H Q _=>SZ a vs H Q
theorem ok_leaf {f:Addr} {fd:FuncData} (F:Fun K "leaf" "Grove.leaf" DN f fd) (T:Top K mg a) (eO:Cal P w K mg base CX0 2 "is_state" Fx spIS):AU P w K mg base CX0 3 f fd DQ (MC a):=by
 refine F.ok LI (fun vs H Q E h=>?_) (fun cdv A outer s H vs Q E hr h=>?_)
 ·obtain ⟨g,i,rfl,_⟩:=h;rfl
 ·obtain ⟨g,i,rfl,h0,h1,k⟩:=h;exact ⟨_,(Ae (Ba (Fd (EK (Az eO (rm hr) rfl Ar (Aa (pv 1) Ac)))) (Aj BS) AE) (Aj (AA (pv 1)))),_,rfl,i,rfl,h0,h1,true,rfl,Cz ⟨_,rfl,k⟩⟩
inductive SpLev (a:Ad) (vs:List V) (H:Hp) (Q:VK):Prop
 | mk (g:GA) (G:Gv) (i:Nat) (q:Sq) (_:vs=[.ref g.p,.int i]) (_:AI a H g G) (_:G[i]?=some q) (_:Q (.int q.lev) H):SpLev a vs H Q
def LU (a:Ad):Sp:=fun vs H Q _=>SpLev a vs H Q
theorem ok_lev {f:Addr} {fd:FuncData} (F:Fun K "level_of" "Grove.level_of" BY f fd) (T:Top K mg a) (aG:BK P w K mg base CX0 2 a.c_Grove "check_square" Bv (Px a)):AU P w K mg base CX0 3 f fd Bu (LU a):=by
 refine F.ok Io (fun vs H Q E h=>?_) (fun cdv A outer s H vs Q E hr h=>?_)
 ·obtain ⟨g,G,i,q,rfl,_⟩:=h;rfl
 ·obtain ⟨g,G,i,q,rfl,hg,hi,k⟩:=h;refine ⟨_,(Ae (BQ (AF (pv 0) aG (rm hr) Ar (Aa (pv 1) Ac))) (Aj (AA (Al Au (AG (pv 0) rfl) (pv 1) (fun _ _=>rfl))))),?_⟩
  try dsimp only [cxK]
  refine ⟨_,rfl,g.p,g.dx,_,rfl,hg.hp,NT g,_,rfl,g,G,i,rfl,hg,(List.getElem?_eq_some_iff.mp hi).1,?_⟩;exact ⟨_,rfl,g.p,_,g.dx,_,_,rfl,hg.hp,T.cl_Grove,T.na_Grove_levels,GJ g,_,rfl,g.lv,_,(i:Int),.int q.lev,rfl,rfl,SqL.of hg.lv,Ai (by rw [List.getElem?_map,hi]; rfl),k⟩
inductive SpQua (a:Ad) (vs:List V) (H:Hp) (Q:VK):Prop
 | mk (g:GA) (G:Gv) (i:Nat) (q:Sq) (_:vs=[.ref g.p,.int i]) (_:AI a H g G) (_:G[i]?=some q) (_:q.lev≠0) (_:∀ t,H t=some (.tup (q.parts.map V.int))->Q (.ref t) H):SpQua a vs H Q
def Ru (a:Ad):Sp:=fun vs H Q _=>SpQua a vs H Q
theorem ok_qua {f:Addr} {fd:FuncData} (F:Fun K "quarters" "Grove.quarters" BX f fd) (T:Top K mg a) (aC:BK P w K mg base CX0 3 a.c_Grove "level_of" Bu (LU a)):AU P w K mg base CX0 4 f fd CS (Ru a):=by
 refine F.ok Im (fun vs H Q E h=>?_) (fun cdv A outer s H vs Q E hr h=>?_)
 ·obtain ⟨g,G,i,q,rfl,_⟩:=h;rfl
 ·obtain ⟨g,G,i,q,rfl,hg,hi,h0,k⟩:=h;refine ⟨_,(Ae (Ba (AJ FA (AF (pv 0) aC (rm hr) Ar (Aa (pv 1) Ac)) Af (AT _)) (Aj BS) AE) (Aj (AA (Al Au (AG (pv 0) rfl) (pv 1) (fun _ _=>rfl))))),?_⟩
  try dsimp only [cxK]
  refine ⟨_,rfl,g.p,g.dx,_,rfl,hg.hp,Ga g,_,rfl,g,G,i,q,rfl,hg,hi,rfl,_,rfl,?_⟩;rw [decide_eq_false (by intro z; injection z with z; exact h0 z)];obtain ⟨ts,h3,h4⟩:=hg.pt;obtain ⟨t,et,ht⟩:=PairedM.get h4 hi;exact Cz ⟨_,rfl,g.p,_,g.dx,_,_,rfl,hg.hp,T.cl_Grove,T.na_Grove_parts,EL g,_,rfl,g.pt,_,(i:Int),.ref t,rfl,rfl,SqL.of h3,Ai (by rw [List.getElem?_map,et]; rfl),k t ht⟩
inductive SpSta (a:Ad) (vs:List V) (H:Hp) (Q:VK):Prop
 | mk (g:GA) (G:Gv) (i:Nat) (q:Sq) (_:vs=[.ref g.p,.int i]) (_:AI a H g G) (_:G[i]?=some q) (_:q.lev=0) (_:Q (.int i) H):SpSta a vs H Q
def Pt (a:Ad):Sp:=fun vs H Q _=>SpSta a vs H Q
theorem ok_sta {f:Addr} {fd:FuncData} (F:Fun K "state_of" "Grove.state_of" BW f fd) (T:Top K mg a) (aC:BK P w K mg base CX0 3 a.c_Grove "level_of" Bu (LU a)):AU P w K mg base CX0 4 f fd Ca (Pt a):=by
 refine F.ok Il (fun vs H Q E h=>?_) (fun cdv A outer s H vs Q E hr h=>?_)
 ·obtain ⟨g,G,i,q,rfl,_⟩:=h;rfl
 ·obtain ⟨g,G,i,q,rfl,hg,hi,h0,k⟩:=h;refine ⟨_,(Ae (Ba (AJ Ix (AF (pv 0) aC (rm hr) Ar (Aa (pv 1) Ac)) Af (AT _)) (Aj BS) AE) (Aj (AA (pv 1)))),?_⟩
  try dsimp only [cxK]
  refine ⟨_,rfl,g.p,g.dx,_,rfl,hg.hp,Ga g,_,rfl,g,G,i,q,rfl,hg,hi,rfl,_,rfl,?_⟩;rw [h0];exact Qa rfl ⟨_,rfl,k⟩
end
end J
namespace J
open PySem L2
seal L2.PA L2.PE L2.PS L2.PSs L2.PT L2.PW
section
variable {P:Program} {w:World} {K:PySem.W.Frag} {mg:Str->Option Value} {base:Heap} {a:Ad}
inductive Tc (a:Ad) (vs:List V) (H:Hp) (Q:VK):Prop
 | mk (g:GA) (G:Gv) (x y z w:Nat) (l:Int) (_:vs=[.ref g.p,.int x,.int y,.int z,.int w]) (_:AI a H g G) (_:GOk G) (_:(Aq G x l/\Aq G y l/\Aq G z l/\Aq G w l)) (_:l<=47) (_:G.length < 9000000) (_:∀ (n:Nat) (G':Gv) (H':Hp),Fr g H H'->AI a H' g G'->AZ G G' 1->G'[n]?=some ⟨[(x:Int),(y:Int),(z:Int),(w:Int)],l+1⟩->Q (.int n) H'):Tc a vs H Q
def OG (a:Ad):Sp:=fun vs H Q _=>Tc a vs H Q
theorem ok_join {f:Addr} {fd:FuncData} (F:Fun K "joined" "Grove.joined" Ce f fd) (T:Top K mg a) (aG:BK P w K mg base CX0 2 a.c_Grove "check_square" Bv (Px a)) (aB:BK P w K mg base CX0 2 a.c_Grove "linked" AY (FV a)):AU P w K mg base CX0 4 f fd DE (OG a):=by
 refine F.ok Fc (fun vs H Q E h=>?_) (fun cdv A outer s H vs Q E hr h=>?_)
 ·obtain ⟨g,G,x,y,z,w,l,rfl,_⟩:=h;rfl
 ·obtain ⟨g,G,x,y,z,w,l,rfl,hg,ok,⟨hx,hy,hz,hw⟩,h47,few,k⟩:=h;refine ⟨_,(Ae (BP PassesOwn.never rfl (MN (JV (Aa (pv 1) (Aa (pv 2) (Aa (pv 3) (Aa (pv 4) Ac)))))) (AQ (i:=5) Fc.nd rfl (Or.inl rfl)) (Aj (BQ (AF (pv 0) aG (rm hr) Ar (Aa (pv 5) Ac))))) (Ae (Av (i:=6) Fc.nd rfl (Or.inr rfl) (Al Au (AG (pv 0) rfl) (pv 1) (fun _ _=>rfl))) (Ae (Ba (PW.pt (PH (AJ FA (pv 6) (Ev rfl T.k_TOP_LEVEL) (AT _)) (ML (EK (AW (SJ rfl) rfl T.b_any PyProof.Rows.boot_any (Aa (BT rfl (Bn.of (So:=Ag Ce) (No:=GD) (N:=["square","self","level"]) (k:=1) (cs:=[0,6]) rfl rfl (by decide +kernel)) (MN (JV (Aa (pv 2) (Aa (pv 3) (Aa (pv 4) Ac))))) (fun _ _ _=>(AV (i:=0) (by decide +kernel) rfl rfl)) (fun _ _ _=>BH) (fun _ _ _=>(Iv Ix (Al (Ss (K:=K) rfl) (MO (K:=K) rfl (pv 1) rfl) (pv 0) (fun _ _=>rfl)) (pv 2) (AT _)))) Ac)))))) (Aj BS) AE) (Aj (AA (AF (pv 0) aB (rm hr) Ar (Cf (Aa (pv 1) (Aa (pv 2) (Aa (pv 3) (Aa (pv 4) Ac)))) Ac))))))),?_⟩
  try dsimp only [cxK]
  refine ⟨_,rfl,_,rfl,_,rfl,_,rfl,(by show 4<=sizeLine; decide),fun t1 ht1=>⟨t1,rfl,⟨_,SqT.of Ab⟩,?_⟩⟩;have s1:=FK (o:=.tup [.int x,.int y,.int z,.int w]) ht1;have ht1':upd H t1 (.tup [.int x,.int y,.int z,.int w]) t1=some (.tup [.int x,.int y,.int z,.int w]):=Ab;generalize upd H t1 (.tup [.int x,.int y,.int z,.int w])=H1 at s1 ht1' ⊢;have hg1:=hg.same s1;have mem:∀ (i:Nat) v,[V.int (x:Int),V.int (y:Int),V.int (z:Int),V.int (w:Int)][i]?=some v->∃ n:Nat,v=.int n/\n < G.length:=fun i v e=>by
   have:=List.mem_of_getElem? e;simp only [List.mem_cons,List.not_mem_nil,or_false] at this;rcases this with rfl | rfl | rfl | rfl
   ·exact ⟨x,rfl,hx.lt⟩
   ·exact ⟨y,rfl,hy.lt⟩
   ·exact ⟨z,rfl,hz.lt⟩
   ·exact ⟨w,rfl,hw.lt⟩
  refine for_tup (xs:=[.int x,.int y,.int z,.int w]) (fun i σ H2=>H1=H2/\∃ u5:Option V,σ=[some (.ref g.p),some (.int x),some (.int y),some (.int z),some (.int w),u5,none]) ⟨rfl,none,rfl⟩ (fun i σ H2 _ q=>q.1 ▸ SqT.of ht1') ?_ ?_
  ·rintro i v σ H2 ev ⟨rfl,u5,rfl⟩;obtain ⟨n,rfl,hn⟩:=mem i v ev;exact ⟨_,rfl,g.p,g.dx,_,rfl,hg1.hp,NT g,_,rfl,g,G,n,rfl,hg1,hn,rfl,_,rfl⟩
  ·rintro σ H2 ⟨rfl,u5,rfl⟩;obtain ⟨qx,ex,lx⟩:=id hx;refine ⟨_,rfl,g.p,_,g.dx,_,_,rfl,hg1.hp,T.cl_Grove,T.na_Grove_levels,GJ g,_,rfl,g.lv,_,(x:Int),.int qx.lev,rfl,rfl,SqL.of hg1.lv,Ai (by rw [List.getElem?_map,ex]; rfl),?_⟩;rw [lx];refine ⟨_,rfl,rfl,_,rfl,?_⟩;rw [decide_eq_false (by intro z; injection z with z; lia)];refine Cz ⟨_,rfl,_,rfl,_,rfl,(by show 3<=sizeLine; decide),fun t2 ht2=>⟨t2,rfl,⟨_,SqT.of Ab⟩,?_⟩⟩;have s2:=FK (o:=.tup [.int y,.int z,.int w]) ht2;have ht2':upd H1 t2 (.tup [.int y,.int z,.int w]) t2=some (.tup [.int y,.int z,.int w]):=Ab;generalize upd H1 t2 (.tup [.int y,.int z,.int w])=H2 at s2 ht2' ⊢;have hg2:=hg1.same s2;have mem2:∀ (i:Nat) v,[V.int (y:Int),V.int (z:Int),V.int (w:Int)][i]?=some v->∃ (n:Nat) (q:Sq),v=.int n/\G[n]?=some q/\q.lev=l:=fun i v e=>by
    have:=List.mem_of_getElem? e;simp only [List.mem_cons,List.not_mem_nil,or_false] at this;rcases this with rfl | rfl | rfl
    ·obtain ⟨q,e1,e2⟩:=hy; exact ⟨y,q,rfl,e1,e2⟩
    ·obtain ⟨q,e1,e2⟩:=hz; exact ⟨z,q,rfl,e1,e2⟩
    ·obtain ⟨q,e1,e2⟩:=hw; exact ⟨w,q,rfl,e1,e2⟩
   refine Nj (xs:=[.int y,.int z,.int w]) (fun i acc H4=>H2=H4/\acc=(List.replicate i false).map V.bl/\i<=3) ⟨rfl,rfl,by lia⟩ (fun i acc H4 _ z=>z.1 ▸ SqT.of ht2') ?_ ?_
   ·rintro i v acc H4 ev ⟨rfl,rfl,h3⟩;obtain ⟨n,q,rfl,en,lq⟩:=mem2 i v ev;have hi:i < 3:=(List.getElem?_eq_some_iff.mp ev).1;refine ⟨⟨[some (.int n)],rfl,rfl⟩,by rw [List.length_map,List.length_replicate]; exact Mb (by lia),FH ⟨_,rfl,g.p,_,g.dx,_,_,rfl,hg2.hp,T.cl_Grove,T.na_Grove_levels,GJ g,_,rfl,g.lv,_,(n:Int),.int q.lev,rfl,rfl,SqL.of hg2.lv,Ai (by rw [List.getElem?_map,en]; rfl),_,rfl,rfl,rfl,?_,hi⟩⟩;rw [lq,decide_eq_true rfl,List.replicate_succ',List.map_append];rfl
   ·rintro acc H4 ⟨rfl,rfl,_⟩ q hq;refine ⟨q,List.replicate 3 false,rfl,SqL.of Ab,_,rfl,Cz ?_⟩;have s3:=FK (o:=.lst ((List.replicate 3 false).map V.bl)) hq;refine ⟨_,rfl,g.p,g.dx,_,rfl,(hg2.same s3).hp,CT g,_,rfl,_,rfl,_,rfl,_,rfl,(by show 4<=sizeLine; decide),fun t4 ht4=>?_⟩;have s4:=s3.trans (FK (o:=.tup [.int x,.int y,.int z,.int w]) ht4);exact ⟨g,G,t4,x,y,z,w,l,rfl,hg2.same s4,ok,Ab,⟨hx,hy,hz,hw⟩,h47,few,fun n G' H' fr hg' go e=>k n G' H' ((An.fr (s1.trans (s2.trans s4))).trans fr) hg' go e⟩
end
end J
namespace J
open PySem L2
def bareN:Nat->Nat
 | 0=>0
 | j+1=>8+j
def En (n:Nat):Gv:=(List.range n).map fun (s:Nat)=>(⟨[(s:Int)],0⟩:Sq)
def FE (n:Nat):Gv:=(List.range n).map fun (j:Nat)=>(⟨[(bareN j:Int),(bareN j:Int),(bareN j:Int),(bareN j:Int)],(j:Int)+1⟩:Sq)
def G0:Gv:=En 8 ++ FE 48
theorem Pc (n:Nat):En (n+1)=En n ++ [⟨[(n:Int)],0⟩]:=by unfold En; rw [List.range_succ,List.map_append]; rfl
theorem LB (n:Nat):FE (n+1)=FE n ++ [⟨[(bareN n:Int),(bareN n:Int),(bareN n:Int),(bareN n:Int)],(n:Int)+1⟩]:=by unfold FE; rw [List.range_succ,List.map_append]; rfl
theorem Fu (n:Nat):(En n).length=n:=by unfold En; rw [List.length_map,List.length_range]
theorem Ms (n:Nat):(FE n).length=n:=by unfold FE; rw [List.length_map,List.length_range]
theorem Rb {i j:Nat} (h:bareN i=bareN j):i=j:=by
 cases i<;>cases j
 ·rfl
 ·have:0=8+_:=h; lia
 ·have:8+_=0:=h; lia
 ·have:8+_=8+_:=h; lia
theorem QK (n:Nat):∀ q ∈ En n,q.parts≠[(n:Int)]:=fun q hq z=>by
 obtain ⟨s,hs,rfl⟩:=List.mem_map.mp hq;have:=List.mem_range.mp hs;injection z with z _
 have:s=n:=Int.ofNat.inj z;lia
theorem Mr (n:Nat):∀ q ∈ En 8 ++ FE n,q.parts≠[(bareN n:Int),(bareN n:Int),(bareN n:Int),(bareN n:Int)]:=fun q hq z=>by
 rcases List.mem_append.mp hq with hq | hq
 ·obtain ⟨s,hs,rfl⟩:=List.mem_map.mp hq;cases z
 ·obtain ⟨s,hs,rfl⟩:=List.mem_map.mp hq;have:=List.mem_range.mp hs;injection z with z _
  have:=Rb (Int.ofNat.inj z);lia
theorem Ph:G0.length=56:=by unfold G0; rw [List.length_append,Fu,Ms]
theorem Nf (j:Nat) (h:j < 48):G0[8+j]?=some ⟨[(bareN j:Int),(bareN j:Int),(bareN j:Int),(bareN j:Int)],(j:Int)+1⟩:=by
 unfold G0;rw [List.getElem?_append_right (by rw [Fu]; lia),Fu,show 8+j - 8=j by lia];unfold FE;rw [List.getElem?_map,List.getElem?_range h];rfl
theorem Qb (s:Nat) (h:s < 8):G0[s]?=some ⟨[(s:Int)],0⟩:=by
 unfold G0;rw [List.getElem?_append_left (by rw [Fu]; exact h)];unfold En;rw [List.getElem?_map,List.getElem?_range h];rfl
theorem g0_lev (j:Nat) (h:j<=48):Aq G0 (bareN j) (j:Int):=by
 cases j with
 | zero=>exact ⟨_,Qb 0 (by decide),rfl⟩
 | succ j=>exact ⟨_,Nf j (by lia),rfl⟩
theorem g0_nd:∀ n,((En 8 ++ FE n).map Sq.parts).Nodup
 | 0=>by decide
 | n+1=>by
  rw [LB,<-List.append_assoc,List.map_append,List.nodup_append];refine ⟨g0_nd n,by simp,fun p hp p' hp'=>?_⟩;obtain ⟨q,hq,rfl⟩:=List.mem_map.mp hp;rw [show p'=[(bareN n:Int),(bareN n:Int),(bareN n:Int),(bareN n:Int)] by simpa using hp'];exact Mr n q hq
theorem g0_ok:GOk G0 where
 leaf:=Qb
 node:=fun i q e h8=>by
  have hi:i < 56:=by rw [<-Ph]; exact (List.getElem?_eq_some_iff.mp e).1
  obtain ⟨j,rfl⟩:∃ j,i=8+j:=⟨i - 8,by lia⟩
  rw [Nf j (by lia)] at e;cases e;have:=g0_lev j (by lia);refine ⟨bareN j,bareN j,bareN j,bareN j,rfl,?_,?_,?_⟩
  ·show Aq G0 _ ((j:Int)+1 - 1)/\Aq G0 _ ((j:Int)+1 - 1)/\Aq G0 _ ((j:Int)+1 - 1)/\Aq G0 _ ((j:Int)+1 - 1);rw [show (j:Int)+1 - 1=(j:Int) by lia];exact ⟨this,this,this,this⟩
  ·show 1<=(j:Int)+1; lia
  ·show (j:Int)+1<=48; lia
 nd:=g0_nd 48
def amK (n:Nat):List (Key×V):=(List.range n).map fun (s:Nat)=>(Sum.inl (s:Int),V.int (if (1:Int) < (s:Int) then 1 else (s:Int)))
theorem Ov (n:Nat):amK (n+1)=amK n ++ [(Sum.inl (n:Int),V.int (if (1:Int) < (n:Int) then 1 else (n:Int)))]:=by unfold amK; rw [List.range_succ,List.map_append]; rfl
theorem amK_len (n:Nat):(amK n).length=n:=by unfold amK; rw [List.length_map,List.length_range]
theorem Mu {κ:Type} [DecidableEq κ] {k:κ}:∀ {l m:List (κ×V)},CB l k=none->CB (l ++ m) k=CB m k
 | [],_,_=>rfl
 | p :: r,m,h=>by
  by_cases e:p.1=k
  ·rw [Cb e] at h; cases h
  ·rw [BO e] at h;show CB (p :: (r ++ m)) k=_;rw [BO e];exact Mu h
theorem SO (n:Nat):∀ m,n<=m->CB (amK n) (Sum.inl (m:Int))=none:=by
 induction n with
 | zero=>intro m _; rfl
 | succ n ih =>
  intro m hm;rw [Ov,Mu (ih m (by lia)),BO (by intro z; injection z with z; have:=Int.ofNat.inj z; lia)];rfl
def Fa (n:Nat):List Int:=(List.range (n+1)).map fun j=>((bareN j:Nat):Int)
theorem LC (n:Nat):Fa (n+1)=Fa n ++ [((bareN (n+1):Nat):Int)]:=by unfold Fa; rw [List.range_succ,List.map_append]; rfl
theorem Pl (n:Nat):(Fa n).getLast?=some ((bareN n:Nat):Int):=by
 cases n with
 | zero=>rfl
 | succ n=>rw [LC,List.getLast?_append]; rfl
theorem SM {xs:List V} {x:V} (h:xs.getLast?=some x):atI xs (-1)=some x:=by
 obtain ⟨ys,rfl⟩:=List.getLast?_eq_some_iff.mp h;unfold atI ixN;rw [if_neg (by decide),if_pos (by rw [List.length_append,List.length_singleton]; lia)];show (ys ++ [x])[((-1:Int)+((ys ++ [x]).length:Nat)).toNat]?=some x;rw [List.length_append,List.length_singleton,show ((-1:Int)+((ys.length+1:Nat):Int)).toNat=ys.length by lia,List.getElem?_append_right (Nat.le_refl _),Nat.sub_self];rfl
end J
namespace J
open PySem L2
seal L2.PA L2.PE L2.PS L2.PSs L2.PT L2.PW
structure Th (a:Ad) (H H':Hp) (g:GA) (G:Gv) (B:List Int) (am:List (Key×V)):Prop where
 kp:∀ b o,H b=some o->b≠g.p->H' b=some o
 at':AI a H' g G
 br:H' g.br=some (.lst (B.map V.int))
 am:H' g.am=some (.dK am)
 bx:H' g.bx=some (.dK [])
 fresh:H g.lv=none/\H g.pt=none/\H g.nm=none/\H g.br=none/\H g.am=none/\H g.bx=none
 n1:g.br≠g.lv
 n2:g.br≠g.pt
 n3:g.am≠g.bx
section
variable {P:Program} {w:World} {K:PySem.W.Frag} {mg:Str->Option Value} {base:Heap} {a:Ad}
inductive Qn (a:Ad) (vs:List V) (H:Hp) (Q:VK):Prop
 | mk (p dx:Addr) (_:vs=[.ref p]) (_:H p=some (.ins a.c_Grove dx [])) (_:∀ (g:GA) (H':Hp),g.p=p->Th a H H' g G0 (Fa 48) (amK 8)->Q .non H'):Qn a vs H Q
def MG (a:Ad):Sp:=fun vs H Q _=>Qn a vs H Q
theorem RY {f:Addr} {fd:FuncData} (F:Fun K "__init__" "Grove.__init__" DP f fd) (T:Top K mg a) (aP:BK P w K mg base CX0 1 a.c_Grove "kept" DR (ME a)):AU P w K mg base CX0 2 f fd EA (MG a):=by
 refine F.ok EM (fun vs H Q E h=>?_) (fun cdv A outer s H vs Q E hr h=>?_)
 ·obtain ⟨p,dx,rfl,_⟩:=h;rfl
 ·obtain ⟨p,dx,rfl,hp,k⟩:=h;refine ⟨_,(Ae (CY (pv 0) (Bc Ac) rfl) (Ae (CY (pv 0) (Bc Ac) rfl) (Ae (CY (pv 0) NO rfl) (Ae (CY (pv 0) (Bc (AN Ac)) rfl) (Ae (CY (pv 0) Iu rfl) (Ae (CY (pv 0) Iu rfl) (Ae (BP PassesOwn.never rfl (CN rfl T.b_range (Aa (Ev rfl T.k_STATES) Ac)) (AQ (i:=1) EM.nd rfl (Or.inl rfl)) (Ae (BQ (AF (pv 0) aP (rm hr) Ar (Cf (Aa (pv 1) Ac) (AN Ac)))) (Aj (Ir (GH hr) (AG (pv 0) rfl) (pv 1) (AW (QZ rfl) rfl T.b_min PyProof.Rows.boot_min (Aa (pv 1) (AN Ac))) rfl)))) (Aj (BP PassesOwn.never rfl (IQ rfl T.b_range (AN (Cp BG (Ev rfl T.k_TOP_LEVEL) Af Ac))) (AQ (i:=2) EM.nd rfl (Or.inl rfl)) (Ae (Av (i:=3) EM.nd rfl (Or.inl rfl) (Al Au (AG (pv 0) rfl) (PL Mv Af) (fun _ _=>rfl))) (Aj (BQ (Dw PySem.F.plainAttrs_list PySem.F.slot_list_append PySem.F.type_list_append BN (AG (pv 0) rfl) (Aa (AF (pv 0) aP (rm hr) Ar (Cf (Aa (pv 3) (Aa (pv 3) (Aa (pv 3) (Aa (pv 3) Ac)))) (Aa (pv 2) Ac))) Ac)))))))))))))),?_⟩
  try dsimp only [cxK]
  have stp:∀ {Hk:Hp} {x:Addr} {o:HO} {fs fs':List (Str×V)},Hk p=some (.ins a.c_Grove dx fs)->Hk x=none->(∀ b v,Hk b=some v->b≠p->upd (upd Hk x o) p (.ins a.c_Grove dx fs') b=some v)/\upd (upd Hk x o) p (.ins a.c_Grove dx fs') x=some o/\upd (upd Hk x o) p (.ins a.c_Grove dx fs') p=some (.ins a.c_Grove dx fs')/\upd Hk x o p=some (.ins a.c_Grove dx fs):=fun {Hk x o fs fs'} e1 e2=>by
   have n:x≠p:=fun z=>by rw [z,e1] at e2; cases e2
   exact ⟨fun b v e nb=>by rw [As nb,As (Am e e2)]; exact e,by rw [As n]; exact Ab,Ab,by rw [As (Ne.symm n)]; exact e1⟩
  refine ⟨(by show 0<=sizeLine; decide),fun lv hlv=>?_⟩;obtain ⟨k1,x1,p1,q1⟩:=stp (o:=.lst []) (fs':=AK "levels" (.ref lv) []) hp hlv;refine ⟨_,rfl,p,_,dx,[],rfl,q1,T.cl_Grove,T.na_Grove_levels,(by show 0 < 1000; decide),?_⟩;generalize upd (upd H lv (.lst [])) p (.ins a.c_Grove dx (AK "levels" (.ref lv) []))=H1 at k1 x1 p1 ⊢;refine ⟨(by show 0<=sizeLine; decide),fun pt hpt=>?_⟩;obtain ⟨k2,x2,p2,q2⟩:=stp (o:=.lst []) (fs':=AK "parts" (.ref pt) (AK "levels" (.ref lv) [])) p1 hpt;refine ⟨_,rfl,p,_,dx,_,rfl,q2,T.cl_Grove,T.na_Grove_parts,(by show 1 < 1000; decide),?_⟩;generalize upd (upd H1 pt (.lst [])) p (.ins a.c_Grove dx (AK "parts" (.ref pt) (AK "levels" (.ref lv) [])))=H2 at k2 x2 p2 ⊢;intro nm hnm;obtain ⟨k3,x3,p3,q3⟩:=stp (o:=.dT []) (fs':=AK "numbers" (.ref nm) (AK "parts" (.ref pt) (AK "levels" (.ref lv) []))) p2 hnm;refine ⟨_,rfl,p,_,dx,_,rfl,q3,T.cl_Grove,T.na_Grove_numbers,(by show 2 < 1000; decide),?_⟩;generalize upd (upd H2 nm (.dT [])) p (.ins a.c_Grove dx (AK "numbers" (.ref nm) (AK "parts" (.ref pt) (AK "levels" (.ref lv) []))))=H3 at k3 x3 p3 ⊢;refine ⟨(by show 1<=sizeLine; decide),fun br hbr=>?_⟩;obtain ⟨k4,x4,p4,q4⟩:=stp (o:=.lst [.int 0]) (fs':=AK "bares" (.ref br) (AK "numbers" (.ref nm) (AK "parts" (.ref pt) (AK "levels" (.ref lv) [])))) p3 hbr;refine ⟨_,rfl,p,_,dx,_,rfl,q4,T.cl_Grove,T.na_Grove_bares,(by show 3 < 1000; decide),?_⟩;generalize upd (upd H3 br (.lst [.int 0])) p (.ins a.c_Grove dx (AK "bares" (.ref br) (AK "numbers" (.ref nm) (AK "parts" (.ref pt) (AK "levels" (.ref lv) [])))))=H4 at k4 x4 p4 ⊢;intro am ham;obtain ⟨k5,x5,p5,q5⟩:=stp (o:=.dK []) (fs':=AK "amounts" (.ref am) (AK "bares" (.ref br) (AK "numbers" (.ref nm) (AK "parts" (.ref pt) (AK "levels" (.ref lv) []))))) p4 ham;refine ⟨_,rfl,p,_,dx,_,rfl,q5,T.cl_Grove,T.na_Grove_amounts,(by show 4 < 1000; decide),?_⟩;generalize upd (upd H4 am (.dK [])) p (.ins a.c_Grove dx (AK "amounts" (.ref am) (AK "bares" (.ref br) (AK "numbers" (.ref nm) (AK "parts" (.ref pt) (AK "levels" (.ref lv) []))))))=H5 at k5 x5 p5 ⊢;intro bx hbx;obtain ⟨k6,x6,p6,q6⟩:=stp (o:=.dK []) (fs':=fl6 ⟨p,dx,lv,pt,nm,br,am,bx⟩) p5 hbx;refine ⟨_,rfl,p,_,dx,_,rfl,q6,T.cl_Grove,T.na_Grove_boxes,(by show 5 < 1000; decide),?_⟩;show (tSeq _ _) _ _ (upd (upd H5 bx (.dK [])) p (.ins a.c_Grove dx (fl6 ⟨p,dx,lv,pt,nm,br,am,bx⟩)));generalize upd (upd H5 bx (.dK [])) p (.ins a.c_Grove dx (fl6 ⟨p,dx,lv,pt,nm,br,am,bx⟩))=H6 at k6 x6 p6 ⊢;have f26:∀ b v,H1 b=some v->b≠p->H6 b=some v:=fun b v e n=>k6 _ _ (k5 _ _ (k4 _ _ (k3 _ _ (k2 _ _ e n) n) n) n) n;have f36:∀ b v,H2 b=some v->b≠p->H6 b=some v:=fun b v e n=>k6 _ _ (k5 _ _ (k4 _ _ (k3 _ _ e n) n) n) n;have f46:∀ b v,H3 b=some v->b≠p->H6 b=some v:=fun b v e n=>k6 _ _ (k5 _ _ (k4 _ _ e n) n) n;have f56:∀ b v,H4 b=some v->b≠p->H6 b=some v:=fun b v e n=>k6 _ _ (k5 _ _ e n) n;have np:∀ {Hk:Hp} {x:Addr} {fs:List (Str×V)},Hk p=some (.ins a.c_Grove dx fs)->Hk x=none->x≠p:=fun {Hk x fs} e1 e2 z=>by rw [z,e1] at e2; cases e2
  have no:∀ {Hk Hm:Hp} {x y:Addr} {v:HO},Hk x=some v->Hk y=none->x≠y:=fun {Hk Hm x y v} e1 e2=>Am e1 e2;have nlv:=np hp hlv;have npt:=np p1 hpt;have nnm:=np p2 hnm;have nbr:=np p3 hbr;have nam:=np p4 ham;have nbx:=np p5 hbx;have y1:=f26 _ _ x1 nlv;have y2:=f36 _ _ x2 npt;have y3:=f46 _ _ x3 nnm;have y4:=f56 _ _ x4 nbr;have y5:=k6 _ _ x5 nam;have back:∀ {Hk:Hp} {x:Addr},(∀ b v,H b=some v->b≠p->Hk b=some v)->x≠p->Hk x=none->H x=none:=fun {Hk x} kp n e=>by
   cases h:H x with
   | none=>rfl
   | some v=>rw [kp _ _ h n] at e; cases e
  have c2:∀ b v,H b=some v->b≠p->H2 b=some v:=fun b v e n=>k2 _ _ (k1 _ _ e n) n;have c3:∀ b v,H b=some v->b≠p->H3 b=some v:=fun b v e n=>k3 _ _ (c2 _ _ e n) n;have c4:∀ b v,H b=some v->b≠p->H4 b=some v:=fun b v e n=>k4 _ _ (c3 _ _ e n) n;have c5:∀ b v,H b=some v->b≠p->H5 b=some v:=fun b v e n=>k5 _ _ (c4 _ _ e n) n;have c6:∀ b v,H b=some v->b≠p->H6 b=some v:=fun b v e n=>k6 _ _ (c5 _ _ e n) n;have d1:lv≠pt:=Am x1 hpt;have d2:br≠lv:=Ne.symm (Am (k3 _ _ (k2 _ _ x1 nlv) nlv) hbr);have d3:br≠pt:=Ne.symm (Am (k3 _ _ x2 npt) hbr);have d4:am≠bx:=Am x5 hbx;have N0:Th a H H6 ⟨p,dx,lv,pt,nm,br,am,bx⟩ (En 0) (Fa 0) (amK 0):=⟨c6,⟨p6,y1,⟨[],y2,.nil⟩,y3,d1⟩,y4,y5,x6,⟨hlv,back k1 npt hpt,back c2 nnm hnm,back c3 nbr hbr,back c4 nam ham,back c5 nbx hbx⟩,d2,d3,d4⟩
  have k':=k ⟨p,dx,lv,pt,nm,br,am,bx⟩;have gp:(⟨p,dx,lv,pt,nm,br,am,bx⟩:GA).p=p:=rfl;generalize (⟨p,dx,lv,pt,nm,br,am,bx⟩:GA)=g at N0 k' gp;subst gp;clear k p6 q6 q5 q4 q3 q2 q1 y1 y2 y3 y4 y5 x6 c6 c5 c4 c3 c2 f26 f36 f46 f56 k1 k2 k3 k4 k5 k6 x1 x2 x3 x4 x5 p1 p2 p3 p4 p5 d1 d2 d3 d4 nlv npt nnm nbr nam nbx hbx ham hbr hnm hpt hlv back no np stp;refine ⟨8,rfl,by decide,by decide,?_⟩;refine Do (n:=8) (fun i σ H7=>∃ u1:Option V,σ=[some (.ref g.p),u1,none,none]/\Th a H H7 g (En i) (Fa 0) (amK i)) ⟨none,rfl,N0⟩ ?_ ?_
  ·rintro i σ H7 hi ⟨u1,rfl,N⟩;obtain ⟨kp,at',hbr,ham,hbx,fresh,n1,n2,n3⟩:=N;have cl:(i:Int)=0+(i:Int):=(Int.zero_add _).symm;refine ⟨_,rfl,g.p,g.dx,_,rfl,at'.hp,MQ g,_,rfl,(by show 1<=sizeLine; decide),fun t ht=>?_⟩;have s1:=FK (o:=.tup [.int (0+(i:Int))]) ht;refine ⟨g,En i,t,[0+(i:Int)],0,rfl,at'.same s1,Ab,by rw [<-cl]; exact QK i,by rw [Fu]; lia,fun H8 fr at8=>?_⟩;rw [<-cl,<-Pc] at at8;have fr':Fr g H7 H8:=(An.fr s1).trans fr;obtain ⟨ts,h3,h4⟩:=at'.pt;have kd:∀ (b:Addr) (kvs:List (Key×V)),H7 b=some (.dK kvs)->H8 b=some (.dK kvs):=fun b kvs e=>fr' _ _ e (AC e at'.lv (by intro z; cases z)) (AC e h3 (by intro z; cases z)) (AC e at'.nm (by intro z; cases z));have ham8:=kd _ _ ham;refine ⟨_,rfl,_,_,rfl,_,rfl,g.p,_,g.dx,_,_,rfl,at8.hp,T.cl_Grove,T.na_Grove_amounts,fl6_am g,_,rfl,g.am,_,rfl,LD.k (k:=Sum.inl (0+(i:Int))) ham8 (by rw [amK_len]; exact Mb (by lia)),?_⟩;rw [<-cl,JU _ (SO i i (Nat.le_refl _)),<-Ov];have other:∀ {b:Addr} {v:HO},H8 b=some v->b≠g.am->upd H8 g.am (.dK (amK (i+1))) b=some v:=fun {b v} e n=>by rw [As n]; exact e
   have na:∀ {b:Addr} {v:HO},H8 b=some v->v≠.dK (amK i)->b≠g.am:=fun {b v} e n=>AC e ham8 n;obtain ⟨ts8,h38,h48⟩:=at8.pt;refine ⟨_,rfl,?_,⟨other at8.hp (na at8.hp (by intro z; cases z)),other at8.lv (na at8.lv (by intro z; cases z)),⟨ts8,other h38 (na h38 (by intro z; cases z)),PairedM.imp (fun c q z=>other z (na z (by intro z; cases z))) h48⟩,other at8.nm (na at8.nm (by intro z; cases z)),at8.ne⟩,?_,Ab,?_,fresh,n1,n2,n3⟩
   ·intro b v e nb;have e8:H8 b=some v:=fr' _ _ (kp _ _ e nb) (Am e fresh.1) (Am e fresh.2.1) (Am e fresh.2.2.1);exact other e8 (Am e fresh.2.2.2.2.1)
   ·have e8:H8 g.br=_:=fr' _ _ hbr n1 n2 (AC hbr at'.nm (by intro z; cases z));exact other e8 (na e8 (by intro z; cases z))
   ·exact other (kd _ _ hbx) (Ne.symm n3)
  ·rintro σ H7 ⟨u1,rfl,N⟩;refine ⟨_,_,rfl,rfl,1,49,rfl,⟨by decide,by decide,by decide,by decide⟩,?_⟩;have N0:Th a H H7 g (En 8 ++ FE 0) (Fa 0) (amK 8):=by rw [show En 8 ++ FE 0=En 8 from List.append_nil _]; exact N
   clear N;refine Do (lo:=1) (n:=48) (fun j σ H8=>∃ u2 u3:Option V,σ=[some (.ref g.p),u1,u2,u3]/\Th a H H8 g (En 8 ++ FE j) (Fa j) (amK 8)) ⟨none,none,rfl,N0⟩ ?_ ?_
   ·rintro j σ H8 hj ⟨u2,u3,rfl,N⟩;obtain ⟨kp,at',hbr,ham,hbx,fresh,n1,n2,n3⟩:=N;refine ⟨_,rfl,g.p,_,g.dx,_,_,rfl,at'.hp,T.cl_Grove,T.na_Grove_bares,Ng g,_,rfl,g.br,_,-1,.int (bareN j:Int),rfl,rfl,SqL.of hbr,SM (by rw [List.getLast?_map,Pl]; rfl),?_⟩;refine ⟨_,rfl,g.p,_,g.dx,_,_,rfl,at'.hp,T.cl_Grove,T.na_Grove_bares,Ng g,.inl ⟨rfl,_,SqL.of hbr⟩,_,rfl,g.p,g.dx,_,rfl,at'.hp,MQ g,_,rfl,_,rfl,_,rfl,_,rfl,(by show 4<=sizeLine; decide),fun t ht=>⟨_,rfl,?_⟩⟩;have s1:=FK (o:=.tup [.int (bareN j:Int),.int (bareN j:Int),.int (bareN j:Int),.int (bareN j:Int)]) ht;have ln:(En 8 ++ FE j).length=8+j:=by rw [List.length_append,Fu,Ms]
    refine ⟨g,En 8 ++ FE j,t,[(bareN j:Int),(bareN j:Int),(bareN j:Int),(bareN j:Int)],1+(j:Int),rfl,at'.same s1,Ab,Mr j,by rw [ln]; lia,fun H9 fr at9=>?_⟩;rw [show (1:Int)+(j:Int)=(j:Int)+1 by lia,List.append_assoc,<-LB] at at9;have fr':Fr g H8 H9:=(An.fr s1).trans fr;obtain ⟨ts,h3,h4⟩:=at'.pt;have kd:∀ (b:Addr) (kvs:List (Key×V)),H8 b=some (.dK kvs)->H9 b=some (.dK kvs):=fun b kvs e=>fr' _ _ e (AC e at'.lv (by intro z; cases z)) (AC e h3 (by intro z; cases z)) (AC e at'.nm (by intro z; cases z));have hbr9:H9 g.br=_:=fr' _ _ hbr n1 n2 (AC hbr at'.nm (by intro z; cases z));refine ⟨g.br,_,_,rfl,rfl,hbr9,by rw [List.length_map]; unfold Fa; rw [List.length_map,List.length_range]; exact Mb (by lia),?_⟩;have eb:(Fa j).map V.int ++ [V.int ((En 8 ++ FE j).length:Int)]=(Fa (j+1)).map V.int:=by rw [LC,List.map_append,ln]; rfl
    rw [eb];have other:∀ {b:Addr} {v:HO},H9 b=some v->v≠.lst ((Fa j).map V.int)->upd H9 g.br (.lst ((Fa (j+1)).map V.int)) b=some v:=fun {b v} e n=>by rw [As (AC e hbr9 n)]; exact e
    refine ⟨_,_,rfl,?_,at9.put hbr9 n1 n2,Ab,other (kd _ _ ham) (by intro z; cases z),other (kd _ _ hbx) (by intro z; cases z),fresh,n1,n2,n3⟩;intro b v e nb;rw [As (Am e fresh.2.2.2.1)];exact fr' _ _ (kp _ _ e nb) (Am e fresh.1) (Am e fresh.2.1) (Am e fresh.2.2.1)
   ·rintro σ H8 ⟨u2,u3,rfl,N⟩;exact k' H8 rfl N
end
end J
namespace J
open PySem L2
seal L2.PA L2.PE L2.PS L2.PSs L2.PT L2.PW
structure MA where
 tp:Addr
 l:Addr
 kc:Addr
 ds:List Addr
def jf2 (gp mem:Addr):List (Str×V):=AK "memories" (.ref mem) (AK "grove" (.ref gp) [])
def jf5 (gp mem pr l kc:Addr):List (Str×V):=AK "known_cells" (.ref kc) (AK "known_squares" (.ref l) (AK "rule" (.ref pr) (jf2 gp mem)))
theorem jf2_mem (gp mem:Addr):(jf2 gp mem).lookup ("memories" : Str)=some (V.ref mem):=by
 unfold jf2;rw [Ak,if_pos rfl]
theorem Sr (gp mem:Addr) {m:Str} (h1:¬ m=("memories" : Str)) (h2:¬ m=("grove" : Str)):(jf2 gp mem).lookup m=none:=by
 unfold jf2;rw [Ak,if_neg h1,Ak,if_neg h2];rfl
section
variable (gp mem pr l kc:Addr)
theorem Sn:(jf5 gp mem pr l kc).lookup ("known_cells" : Str)=some (V.ref kc):=by
 unfold jf5;rw [Ak,if_pos rfl]
theorem Sm:(jf5 gp mem pr l kc).lookup ("known_squares" : Str)=some (V.ref l):=by
 unfold jf5;rw [Ak,if_neg (by decide +kernel),Ak,if_pos rfl]
theorem jf5_ru:(jf5 gp mem pr l kc).lookup ("rule" : Str)=some (V.ref pr):=by
 unfold jf5;rw [Ak,if_neg (by decide +kernel),Ak,if_neg (by decide +kernel),Ak,if_pos rfl]
theorem Fe:(jf5 gp mem pr l kc).lookup ("grove" : Str)=some (V.ref gp):=by
 unfold jf5 jf2;rw [Ak,if_neg (by decide +kernel),Ak,if_neg (by decide +kernel),Ak,if_neg (by decide +kernel),Ak,if_neg (by decide +kernel),Ak,if_pos rfl]
theorem Ig {m:Str} (h1:¬ m=("known_cells" : Str)) (h2:¬ m=("known_squares" : Str)) (h3:¬ m=("rule" : Str)) (h4:¬ m=("memories" : Str)) (h5:¬ m=("grove" : Str)):(jf5 gp mem pr l kc).lookup m=none:=by
 unfold jf5;rw [Ak,if_neg h1,Ak,if_neg h2,Ak,if_neg h3,Sr _ _ h4 h5]
theorem IR:(jf5 gp mem pr l kc).lookup ("after" : Str)=none:=Ig _ _ _ _ _ (by decide +kernel) (by decide +kernel) (by decide +kernel) (by decide +kernel) (by decide +kernel)
theorem QF:(jf5 gp mem pr l kc).lookup ("check_jump" : Str)=none:=Ig _ _ _ _ _ (by decide +kernel) (by decide +kernel) (by decide +kernel) (by decide +kernel) (by decide +kernel)
theorem Iy:(jf5 gp mem pr l kc).lookup ("reckoned" : Str)=none:=Ig _ _ _ _ _ (by decide +kernel) (by decide +kernel) (by decide +kernel) (by decide +kernel) (by decide +kernel)
theorem QE:(jf5 gp mem pr l kc).lookup ("fresh" : Str)=none:=Ig _ _ _ _ _ (by decide +kernel) (by decide +kernel) (by decide +kernel) (by decide +kernel) (by decide +kernel)
theorem Sc:(jf5 gp mem pr l kc).lookup ("four_halfway" : Str)=none:=Ig _ _ _ _ _ (by decide +kernel) (by decide +kernel) (by decide +kernel) (by decide +kernel) (by decide +kernel)
theorem noJ_mid:(jf5 gp mem pr l kc).lookup ("middle_after" : Str)=none:=Ig _ _ _ _ _ (by decide +kernel) (by decide +kernel) (by decide +kernel) (by decide +kernel) (by decide +kernel)
theorem Iz:(jf5 gp mem pr l kc).lookup ("cell_after" : Str)=none:=Ig _ _ _ _ _ (by decide +kernel) (by decide +kernel) (by decide +kernel) (by decide +kernel) (by decide +kernel)
end
inductive Nv:HO->Prop
 | tup {xs:List V}:Nv (.tup xs)
 | ins {C dx:Addr} {fs:List (Str×V)} (h1:1<=fs.length) (h2:fs.length<=3):Nv (.ins C dx fs)
theorem Jy (f:Str) (v:V):∀ fs:List (Str×V),1<=(AK f v fs).length
 | []=>Nat.le_refl 1
 | (g,x) :: r=>by
  unfold AK;split
  ·rw [List.length_cons]; lia
  ·rw [List.length_cons]; lia
theorem DT.kp {a:Ad} {H H':Hp} {p:Addr} {c:Cn} (k:∀ b o,H b=some o->Nv o->H' b=some o) (h:DT a H p c):DT a H' p c:=by
 cases h with
 | am h ht=>exact .am (k _ _ h (.ins (Jy _ _ _) (Nat.le_trans (BF _ _ _) (Nat.succ_le_succ (Nat.le_trans (BF _ _ _) (by show 0+1<=2; decide)))))) (k _ _ ht .tup)
 | pl h ht=>exact .pl (k _ _ h (.ins (Jy _ _ _) (Nat.le_trans (BF _ _ _) (by show 0+1<=3; decide)))) (k _ _ ht .tup)
theorem Cl.kp {a:Ad} {H H':Hp} {p:Addr} {c:Bg} (k:∀ b o,H b=some o->Nv o->H' b=some o) (h:Cl a H p c):Cl a H' p c:=by
 obtain ⟨dx,t,cs,h1,h2,h3⟩:=h.ex;exact ⟨dx,t,cs,k _ _ h1 (.ins (Jy _ _ _) (Nat.le_trans (BF _ _ _) (Nat.succ_le_succ (Nat.le_trans (BF _ _ _) (Nat.succ_le_succ (Nat.le_trans (BF _ _ _) (by show 0+1<=1; decide))))))),k _ _ h2 .tup,Paired.imp (fun _ _ z=>z.kp k) h3⟩
theorem CA.kp {a:Ad} {H H':Hp} {p:Addr} {x:Str} {r:AM} (k:∀ b o,H b=some o->Nv o->H' b=some o) (h:CA a H p x r):CA a H' p x r:=by
 obtain ⟨dx,t,cs,h1,h2,h3⟩:=h.ex;exact ⟨dx,t,cs,k _ _ h1 (.ins (Jy _ _ _) (Nat.le_trans (BF _ _ _) (Nat.succ_le_succ (Nat.le_trans (BF _ _ _) (by show 0+1<=2; decide))))),k _ _ h2 .tup,Paired.imp (fun _ _ z=>z.kp k) h3⟩
def mK (ms:List (Str×MA)):List (Key×V):=ms.map fun e=>(Sum.inr e.1,V.ref e.2.tp)
theorem PV (t:Str):∀ ms:List (Str×MA),(∃ m,(t,m) ∈ ms/\CB (mK ms) (Sum.inr t)=some (.ref m.tp))\/(CB (mK ms) (Sum.inr t)=none/\∀ e ∈ ms,e.1≠t)
 | []=>.inr ⟨rfl,fun e he=>nomatch he⟩
 | e :: r=>by
  by_cases h:e.1=t
  ·refine .inl ⟨e.2,?_,?_⟩
   ·rw [<-h];exact List.mem_cons_self
   ·exact Cb (p:=(Sum.inr e.1,V.ref e.2.tp)) (r:=mK r) (by rw [h])
  ·have n:CB (mK (e :: r)) (Sum.inr t)=CB (mK r) (Sum.inr t):=BO (p:=(Sum.inr e.1,V.ref e.2.tp)) (r:=mK r) fun z=>h (Sum.inr.inj z);rcases PV t r with ⟨m,h1,h2⟩ | ⟨h1,h2⟩
   ·exact .inl ⟨m,List.mem_cons_of_mem _ h1,n.trans h2⟩
   ·refine .inr ⟨n.trans h1,fun x hx=>?_⟩;rcases List.mem_cons.mp hx with z | z
    ·rw [z]; exact h
    ·exact h2 x z
inductive ChgR (H H':Hp) (t:Str) (ms ms':List (Str×MA)) (m:MA):Prop
 | old (_:(t,m) ∈ ms) (_:ms'=ms):ChgR H H' t ms ms' m
 | new (_:ms'=ms ++ [(t,m)]) (_:∀ e ∈ ms,e.1≠t) (_:H m.tp=none/\H m.l=none/\H m.kc=none/\∀ d ∈ m.ds,H d=none) (_:H' m.tp=some (.tup [.ref m.l,.ref m.kc])) (_:H' m.l=some (.lst (m.ds.map V.ref))) (_:H' m.kc=some (.dT [])) (_:∀ d ∈ m.ds,H' d=some (.dK [])) (_:m.ds.length=47) (_:m.ds.Nodup):ChgR H H' t ms ms' m
section
variable {P:Program} {w:World} {K:PySem.W.Frag} {mg:Str->Option Value} {base:Heap} {a:Ad}
inductive SS (a:Ad) (vs:List V) (H:Hp) (Q:VK):Prop
 | mk (p:Addr) (t:Str) (r:AM) (_:vs=[.ref p]) (_:CA a H p t r) (_:Q (.str t) H):SS a vs H Q
def OE (a:Ad):Sp:=fun vs H Q _=>SS a vs H Q
theorem ok_show {f:Addr} {fd:FuncData} (F:Fun K "shown_rule" "shown_rule" DI f fd) (T:Top K mg a):AU P w K mg base CX0 1 f fd Ew (OE a):=by
 refine F.ok LF (fun vs H Q E h=>?_) (fun cdv A outer s H vs Q E hr h=>?_)
 ·obtain ⟨p,t,r,rfl,_⟩:=h;rfl
 ·obtain ⟨p,t,r,rfl,hR,k⟩:=h;obtain ⟨dx,tt,cs,h1,h2,h3⟩:=hR.ex;refine ⟨_,(Aj (AA (AG (pv 0) rfl))),?_⟩
  try dsimp only [cxK]
  exact ⟨_,rfl,p,_,dx,_,_,rfl,h1,T.cl_Rule,T.na_Rule_text,SA (by decide +kernel),k⟩
inductive SpChg (a:Ad) (vs:List V) (H:Hp) (Q:VK):Prop
 | mk (p dx mem pr:Addr) (fs:List (Str×V)) (t:Str) (r:AM) (ms:List (Str×MA)) (_:vs=[.ref p,.ref pr]) (_:H p=some (.ins a.c_Jumps dx fs)) (_:fs.lookup ("memories" : Str)=some (.ref mem)) (_:fs.length<=10) (_:H mem=some (.dK (mK ms))) (_:ms.length<=1000) (_:∀ e ∈ ms,H e.2.tp=some (.tup [.ref e.2.l,.ref e.2.kc])) (_:CA a H pr t r) (_:∀ (H':Hp) (m:MA) (ms':List (Str×MA)),(∀ b o,H b=some o->b≠p->b≠mem->H' b=some o)->H' p=some (.ins a.c_Jumps dx (AK "known_cells" (.ref m.kc) (AK "known_squares" (.ref m.l) (AK "rule" (.ref pr) fs))))->H' mem=some (.dK (mK ms'))->ChgR H H' t ms ms' m->Q .non H'):SpChg a vs H Q
def Rz (a:Ad):Sp:=fun vs H Q _=>SpChg a vs H Q
theorem ok_chg {f:Addr} {fd:FuncData} (F:Fun K "change" "Jumps.change" Cd f fd) (T:Top K mg a) (cP:Cal P w K mg base CX0 1 "shown_rule" Ew (OE a)):AU P w K mg base CX0 2 f fd DD (Rz a):=by
 refine F.ok Gg (fun vs H Q E h=>?_) (fun cdv A outer s H vs Q E hr h=>?_)
 ·obtain ⟨p,dx,mem,pr,fs,t,r,ms,rfl,_⟩:=h;rfl
 ·obtain ⟨p,dx,mem,pr,fs,t,r,ms,rfl,hp,hmem,hfs,hm,few,tps,hR,k⟩:=h;refine ⟨_,(Ae (Av (i:=2) Gg.nd rfl (Or.inl rfl) (Az cP (rm hr) rfl Ar (Aa (pv 1) Ac))) (Ae (Ba (pt_cmp (Qv (GH hr) (pv 2) (AG (pv 0) rfl))) (Aj (Ir (GH hr) (AG (pv 0) rfl) (pv 2) (JV (Aa (BT rfl (Bn.of (So:=Ag Cd) (No:=GC) (N:=["e"]) (k:=1) (cs:=[]) rfl rfl (by decide +kernel)) (CN rfl T.b_range (Cp Ef (Ev rfl T.k_TOP_LEVEL) Af Ac)) (fun _ _ _=>(AV (i:=0) (by decide +kernel) rfl rfl)) (fun _ _ _=>BH) (fun _ _ _=>Iu)) (Aa NO Ac))) rfl)) AE) (Ae (CY (pv 0) (pv 1) rfl) (Ae (CY (pv 0) (Al Ao (PN (GH hr) (AG (pv 0) rfl) (pv 2) (fun _ _=>rfl)) Af (fun _ _=>rfl)) rfl) (Aj (CY (pv 0) (Al Ao (PN (GH hr) (AG (pv 0) rfl) (pv 2) (fun _ _=>rfl)) Af (fun _ _=>rfl)) rfl)))))),?_⟩
  try dsimp only [cxK]
  have npm:p≠mem:=AC hp hm (by intro z; cases z);refine ⟨_,rfl,pr,t,r,rfl,hR,?_⟩;apply IC (fun σ H1=>σ=[some (.ref p),some (.ref pr),some (.str t)]/\∃ (m:MA) (ms':List (Str×MA)),(∀ b o,H b=some o->b≠mem->H1 b=some o)/\H1 mem=some (.dK (mK ms'))/\CB (mK ms') (Sum.inr t)=some (.ref m.tp)/\H1 m.tp=some (.tup [.ref m.l,.ref m.kc])/\ChgR H H1 t ms ms' m/\m.tp≠p/\(H m.tp=none->m.l≠p/\m.kc≠p/\∀ d ∈ m.ds,d≠p))
  ·intro rest;refine ⟨_,rfl,_,rfl,p,_,dx,_,_,rfl,hp,T.cl_Jumps,T.na_Jumps_memories,hmem,mem,_,rfl,GM.k (k:=Sum.inr t) hm,_,rfl,?_⟩;rcases PV t ms with ⟨m,m1,m2⟩ | ⟨no,nk⟩
   ·rw [m2];refine Cz (rest _ _ ⟨rfl,m,ms,fun b o e _=>e,hm,m2,tps _ m1,.old m1 rfl,AC (tps _ m1) hp (by intro z; cases z),fun z=>?_⟩);rw [tps _ m1] at z;cases z
   ·rw [no];refine EC ?_;refine ⟨_,_,rfl,rfl,_,rfl,by decide,by decide,?_⟩;refine GX (n:=47) (fun i acc H2=>An H H2/\∃ ds:List Addr,acc=ds.map V.ref/\ds.length=i/\(∀ d ∈ ds,H2 d=some (.dK []))/\(∀ d ∈ ds,H d=none)/\ds.Nodup) ⟨An.refl H,[],rfl,rfl,fun d hd=>(nomatch hd),fun d hd=>(nomatch hd),.nil⟩ ?_ ?_
    ·rintro i acc H2 hi ⟨sm,ds,rfl,ln,c1,c2,nd⟩;refine ⟨⟨[some (.int (0+(i:Int)))],rfl,rfl⟩,?_,FH fun d hd=>⟨sm.trans (Ah hd),ds ++ [d],by rw [List.map_append]; rfl,by rw [List.length_append,ln]; rfl,fun x hx=>?_,fun x hx=>?_,?_⟩⟩
     ·rw [List.length_map,ln];exact Nat.lt_of_lt_of_le hi (by decide)
     ·rcases List.mem_append.mp hx with z | z
      ·exact Ah hd _ _ (c1 x z)
      ·rw [List.mem_singleton.mp z]; exact Ab
     ·rcases List.mem_append.mp hx with z | z
      ·exact c2 x z
      ·rw [List.mem_singleton.mp z]; exact An.noneN sm hd
     ·rw [List.nodup_append];refine ⟨nd,by simp,fun x hx y hy z=>?_⟩;rw [List.mem_singleton.mp hy] at z;rw [<-z,c1 x hx] at hd;cases hd
    ·rintro acc H2 ⟨sm,ds,rfl,ln,c1,c2,nd⟩ l hl;have s3:=Ah (o:=.lst (ds.map V.ref)) hl;have hl3:upd H2 l (.lst (ds.map V.ref)) l=some (.lst (ds.map V.ref)):=Ab;generalize upd H2 l (.lst (ds.map V.ref))=H3 at s3 hl3 ⊢;intro kc hkc;have s4:=Ah (o:=.dT []) hkc;have hk4:upd H3 kc (.dT []) kc=some (.dT []):=Ab;generalize upd H3 kc (.dT [])=H4 at s4 hk4 ⊢;refine ⟨(by show 2<=sizeLine; decide),fun tp htp=>?_⟩;have s5:=Ah (o:=.tup [.ref l,.ref kc]) htp;have ht5:upd H4 tp (.tup [.ref l,.ref kc]) tp=some (.tup [.ref l,.ref kc]):=Ab;show ∃ _,_;generalize upd H4 tp (.tup [.ref l,.ref kc])=H5 at s5 ht5 ⊢;have n1:H l=none:=An.noneN sm hl;have n2:H kc=none:=An.noneN (sm.trans s3) hkc;have n3:H tp=none:=An.noneN ((sm.trans s3).trans s4) htp;have s05:=((sm.trans s3).trans s4).trans s5;have hm5:=s05 _ _ hm;refine ⟨_,rfl,p,_,dx,_,_,rfl,s05 _ _ hp,T.cl_Jumps,T.na_Jumps_memories,hmem,_,rfl,mem,_,rfl,LD.k (k:=Sum.inr t) hm5 ?_,?_⟩
     ·unfold mK;rw [List.length_map];exact Nat.lt_of_le_of_lt few (by decide)
     ·rw [JU _ no];have e6:mK ms ++ [(Sum.inr t,V.ref tp)]=mK (ms ++ [(t,⟨tp,l,kc,ds⟩)]):=by unfold mK; rw [List.map_append]; rfl
      rw [e6];have k6:∀ b o,H5 b=some o->b≠mem->upd H5 mem (.dK (mK (ms ++ [(t,⟨tp,l,kc,ds⟩)]))) b=some o:=fun b o e n=>by rw [As n]; exact e
      have hm6:upd H5 mem (.dK (mK (ms ++ [(t,⟨tp,l,kc,ds⟩)]))) mem=some (.dK (mK (ms ++ [(t,⟨tp,l,kc,ds⟩)]))):=Ab;generalize upd H5 mem (.dK (mK (ms ++ [(t,⟨tp,l,kc,ds⟩)])))=H6 at k6 hm6 ⊢;have nm:∀ {x:Addr},H x=none->x≠mem:=fun z y=>by rw [y,hm] at z; cases z
      have np:∀ {x:Addr},H x=none->x≠p:=fun z y=>by rw [y,hp] at z; cases z
      refine rest _ _ ⟨rfl,⟨tp,l,kc,ds⟩,ms ++ [(t,⟨tp,l,kc,ds⟩)],fun b o e n=>k6 _ _ (s05 _ _ e) n,hm6,?_,k6 _ _ ht5 (nm n3),.new rfl nk ⟨n3,n1,n2,c2⟩ (k6 _ _ ht5 (nm n3)) (k6 _ _ (s5 _ _ (s4 _ _ hl3)) (nm n1)) (k6 _ _ (s5 _ _ hk4) (nm n2)) (fun d hd=>k6 _ _ (s5 _ _ (s4 _ _ (s3 _ _ (c1 d hd)))) (nm (c2 d hd))) ln nd,np n3,fun _=>⟨np n1,np n2,fun d hd=>np (c2 d hd)⟩⟩;rw [<-e6];rw [Mu no];exact Cb rfl
  rintro σ H1 ⟨rfl,m,ms',k1,hm1,vv,ht1,chg,ntp,nnew⟩;have hp1:=k1 _ _ hp npm;have lf:fs.length < 1000:=by lia
  have put:∀ {Hk:Hp} {fs':List (Str×V)} (fs'':List (Str×V)),Hk p=some (.ins a.c_Jumps dx fs')->(∀ b o,Hk b=some o->b≠p->upd Hk p (.ins a.c_Jumps dx fs'') b=some o)/\upd Hk p (.ins a.c_Jumps dx fs'') p=some (.ins a.c_Jumps dx fs''):=fun {Hk fs'} fs'' e=>⟨fun b o e n=>by rw [As n]; exact e,Ab⟩
  refine ⟨_,rfl,_,rfl,p,_,dx,fs,rfl,hp1,T.cl_Jumps,T.na_Jumps_rule,lf,?_⟩;obtain ⟨k2,hp2⟩:=put (AK "rule" (.ref pr) fs) hp1;generalize upd H1 p (.ins a.c_Jumps dx (AK "rule" (.ref pr) fs))=H2 at k2 hp2 ⊢;have l2:=BF ("rule" : Str) (.ref pr) fs;have look2:(AK "rule" (.ref pr) fs).lookup ("memories" : Str)=some (.ref mem):=by rw [Ak,if_neg (by decide +kernel)]; exact hmem
  have hm2:=k2 _ _ hm1 (Ne.symm npm);have ht2:=k2 _ _ ht1 ntp;refine ⟨_,rfl,p,_,dx,_,_,rfl,hp2,T.cl_Jumps,T.na_Jumps_memories,look2,_,rfl,mem,.ref m.tp,rfl,vv ▸ GM.k (k:=Sum.inr t) hm2,m.tp,_,0,.ref m.l,rfl,rfl,SqT.of ht2,Ai (j:=0) rfl,_,rfl,p,_,dx,_,rfl,hp2,T.cl_Jumps,T.na_Jumps_known_squares,by lia,?_⟩;obtain ⟨k3,hp3⟩:=put (AK "known_squares" (.ref m.l) (AK "rule" (.ref pr) fs)) hp2;generalize upd H2 p (.ins a.c_Jumps dx (AK "known_squares" (.ref m.l) (AK "rule" (.ref pr) fs)))=H3 at k3 hp3 ⊢;have l3:=BF ("known_squares" : Str) (.ref m.l) (AK "rule" (.ref pr) fs);have look3:(AK "known_squares" (.ref m.l) (AK "rule" (.ref pr) fs)).lookup ("memories" : Str)=some (.ref mem):=by rw [Ak,if_neg (by decide +kernel)]; exact look2
  have hm3:=k3 _ _ hm2 (Ne.symm npm);have ht3:=k3 _ _ ht2 ntp;refine ⟨_,rfl,p,_,dx,_,_,rfl,hp3,T.cl_Jumps,T.na_Jumps_memories,look3,_,rfl,mem,.ref m.tp,rfl,vv ▸ GM.k (k:=Sum.inr t) hm3,m.tp,_,1,.ref m.kc,rfl,rfl,SqT.of ht3,Ai (j:=1) rfl,_,rfl,p,_,dx,_,rfl,hp3,T.cl_Jumps,T.na_Jumps_known_cells,by lia,?_⟩;obtain ⟨k4,hp4⟩:=put (AK "known_cells" (.ref m.kc) (AK "known_squares" (.ref m.l) (AK "rule" (.ref pr) fs))) hp3;have k14:∀ b o,H1 b=some o->b≠p->upd H3 p (.ins a.c_Jumps dx (AK "known_cells" (.ref m.kc) (AK "known_squares" (.ref m.l) (AK "rule" (.ref pr) fs)))) b=some o:=fun b o e n=>k4 _ _ (k3 _ _ (k2 _ _ e n) n) n;refine k _ m ms' (fun b o e n1 n2=>k14 _ _ (k1 _ _ e n2) n1) hp4 (k14 _ _ hm1 (Ne.symm npm)) ?_;cases chg with
  | old h1 h2=>exact .old h1 h2
  | new h1 h2 h3 h4 h5 h6 h7 h8 h9 =>
   obtain ⟨y1,y2,y3⟩:=nnew h3.1;exact .new h1 h2 h3 (k14 _ _ h4 ntp) (k14 _ _ h5 y1) (k14 _ _ h6 y2) (fun d hd=>k14 _ _ (h7 d hd) (y3 d hd)) h8 h9
inductive Qm (a:Ad) (vs:List V) (H:Hp) (Q:VK):Prop
 | mk (p dx gp pr:Addr) (t:Str) (r:AM) (_:vs=[.ref p,.ref gp,.ref pr]) (_:H p=some (.ins a.c_Jumps dx [])) (_:CA a H pr t r) (_:∀ (H':Hp) (mem:Addr) (m:MA),(∀ b o,H b=some o->b≠p->H' b=some o)->H mem=none->H' p=some (.ins a.c_Jumps dx (jf5 gp mem pr m.l m.kc))->H' mem=some (.dK (mK [(t,m)]))->(H m.tp=none/\H m.l=none/\H m.kc=none/\∀ d ∈ m.ds,H d=none)->H' m.tp=some (.tup [.ref m.l,.ref m.kc])->H' m.l=some (.lst (m.ds.map V.ref))->H' m.kc=some (.dT [])->(∀ d ∈ m.ds,H' d=some (.dK []))->m.ds.length=47->m.ds.Nodup->(∀ d ∈ m.ds,d≠mem)->Q .non H'):Qm a vs H Q
def MF (a:Ad):Sp:=fun vs H Q _=>Qm a vs H Q
theorem RX {f:Addr} {fd:FuncData} (F:Fun K "__init__" "Jumps.__init__" DM f fd) (T:Top K mg a) (bG:BK P w K mg base CX0 2 a.c_Jumps "change" DD (Rz a)):AU P w K mg base CX0 3 f fd Ez (MF a):=by
 refine F.ok LH (fun vs H Q E h=>?_) (fun cdv A outer s H vs Q E hr h=>?_)
 ·obtain ⟨p,dx,gp,pr,t,r,rfl,_⟩:=h;rfl
 ·obtain ⟨p,dx,gp,pr,t,r,rfl,hp,hR,k⟩:=h;refine ⟨_,(Ae (CY (pv 0) (pv 1) rfl) (Ae (CY (pv 0) Iu rfl) (Aj (BQ (AF (pv 0) bG (rm hr) Ar (Aa (pv 2) Ac)))))),?_⟩
  try dsimp only [cxK]
  refine ⟨_,rfl,_,rfl,p,_,dx,[],rfl,hp,T.cl_Jumps,T.na_Jumps_grove,(by show 0 < 1000; decide),?_⟩;have k1:∀ b o,H b=some o->b≠p->upd H p (.ins a.c_Jumps dx (AK "grove" (.ref gp) [])) b=some o:=fun b o e n=>by rw [As n]; exact e
  have hp1:upd H p (.ins a.c_Jumps dx (AK "grove" (.ref gp) [])) p=some (.ins a.c_Jumps dx (AK "grove" (.ref gp) [])):=Ab;have kn:∀ b,upd H p (.ins a.c_Jumps dx (AK "grove" (.ref gp) [])) b=none->H b=none:=fun b e=>by
   by_cases z:b=p
   ·rw [z,hp1] at e; cases e
   ·rw [As z] at e; exact e
  generalize upd H p (.ins a.c_Jumps dx (AK "grove" (.ref gp) []))=H1 at k1 hp1 kn ⊢;intro mem hmem;have s2:=Ah (o:=.dK []) hmem;have hm2:upd H1 mem (.dK []) mem=some (.dK []):=Ab;generalize upd H1 mem (.dK [])=H2 at s2 hm2 ⊢;have nmp:mem≠p:=fun z=>by rw [z,hp1] at hmem; cases hmem
  refine ⟨_,rfl,p,_,dx,_,rfl,s2 _ _ hp1,T.cl_Jumps,T.na_Jumps_memories,(by show 1 < 1000; decide),?_⟩;have k3:∀ b o,H2 b=some o->b≠p->upd H2 p (.ins a.c_Jumps dx (jf2 gp mem)) b=some o:=fun b o e n=>by rw [As n]; exact e
  have hp3:upd H2 p (.ins a.c_Jumps dx (jf2 gp mem)) p=some (.ins a.c_Jumps dx (jf2 gp mem)):=Ab;have kn3:∀ b,upd H2 p (.ins a.c_Jumps dx (jf2 gp mem)) b=none->H b=none:=fun b e=>by
   by_cases z:b=p
   ·rw [z,hp3] at e; cases e
   ·rw [As z] at e; exact kn _ (An.noneN s2 e)
  rw [show AK ("memories" : Str) (V.ref mem) (AK ("grove" : Str) (V.ref gp) [])=jf2 gp mem from rfl];generalize upd H2 p (.ins a.c_Jumps dx (jf2 gp mem))=H3 at k3 hp3 kn3 ⊢;have k03:∀ b o,H b=some o->b≠p->H3 b=some o:=fun b o e n=>k3 _ _ (s2 _ _ (k1 _ _ e n)) n;have hm3:=k3 _ _ hm2 nmp;have hR3:CA a H3 pr t r:=by
   refine hR.kp fun b o e n=>k03 _ _ e fun z=>?_;rw [z,hp] at e;cases e;cases n with
   | ins h1 _=>cases h1
  refine ⟨_,rfl,p,dx,_,rfl,hp3,Sr _ _ (by decide +kernel) (by decide +kernel),_,rfl,p,dx,mem,pr,jf2 gp mem,t,r,[],rfl,hp3,jf2_mem _ _,by rw [show (jf2 gp mem).length=2 from rfl]; decide,hm3,Nat.zero_le _,fun e he=>(nomatch he),hR3,fun H' m ms' fr hp' hm' chg=>?_⟩;cases chg with
  | old h1 _=>cases h1
  | new h1 h2 h3 h4 h5 h6 h7 h8 h9 =>
   rw [h1] at hm';refine k H' mem m (fun b o e n=>fr _ _ (k03 _ _ e n) n ?_) (kn _ hmem) hp' hm' ⟨kn3 _ h3.1,kn3 _ h3.2.1,kn3 _ h3.2.2.1,fun d hd=>kn3 _ (h3.2.2.2 d hd)⟩ h4 h5 h6 h7 h8 h9 fun d hd z=>?_
   ·intro z;rw [z] at e;rw [kn _ hmem] at e;cases e
   ·have:=h3.2.2.2 d hd;rw [z,hm3] at this;cases this
end
end J
namespace J
open PySem L2
seal L2.PA L2.PE L2.PS L2.PSs L2.PT L2.PW
def qO (G:Gv) (n k:Nat):Nat:=match G[n]? with
 | some q=>(q.parts.getD k 0).toNat
 | none=>0
def cel (G:Gv):Nat->Nat->Nat->Nat->Nat
 | 0,n,_,_=>n
 | l+1,n,x,y=>cel G l (qO G n ((x / 2 ^ l) % 2+2 * ((y / 2 ^ l) % 2))) x y
def stp (r:AM) (c:Nat->Nat->Int):Nat->Nat->Int:=fun x y=>DS r (c x y) [c (x - 1) (y - 1),c x (y - 1),c (x+1) (y - 1),c (x - 1) y,c (x+1) y,c (x - 1) (y+1),c x (y+1),c (x+1) (y+1)]
def AR (r:AM):Nat->(Nat->Nat->Int)->Nat->Nat->Int
 | 0,c=>c
 | n+1,c=>stp r (AR r n c)
def Ap (G:Gv) (l n:Nat):Nat->Nat->Int:=fun x y=>(cel G l n x y:Int)
def JR (r:AM) (G:Gv) (e n m:Nat):Prop:=∃ l:Nat,Aq G n ((l+2:Nat):Int)/\e<=l/\Aq G m ((l+1:Nat):Int)/\∀ x y,x < 2 ^ (l+1)->y < 2 ^ (l+1)->Ap G (l+1) m x y=AR r (2 ^ e) (Ap G (l+2) n) (x+2 ^ l) (y+2 ^ l)
theorem GOk.four {G:Gv} (ok:GOk G) {n l:Nat} (h:Aq G n ((l+1:Nat):Int)):∃ x y z w:Nat,G[n]?=some ⟨[(x:Int),(y:Int),(z:Int),(w:Int)],((l+1:Nat):Int)⟩/\Aq G x (l:Int)/\Aq G y (l:Int)/\Aq G z (l:Int)/\Aq G w (l:Int):=by
 obtain ⟨q,e,el⟩:=h;have h8:8<=n:=by
  refine Nat.le_of_not_lt fun z=>?_;rw [ok.leaf n z] at e;cases e;have:(0:Int)=((l+1:Nat):Int):=el;lia
 obtain ⟨x,y,z,w,p,⟨l1,l2,l3,l4⟩,_⟩:=ok.node n q e h8;have e1:q.lev - 1=(l:Int):=by lia
 rw [e1] at l1 l2 l3 l4;refine ⟨x,y,z,w,?_,l1,l2,l3,l4⟩;rw [e];cases q with
 | mk pp ll=>cases p; cases el; rfl
theorem GOk.cell {G:Gv} (ok:GOk G) {n:Nat} (h:Aq G n 0):n < 8:=by
 obtain ⟨q,e,el⟩:=h;refine Nat.lt_of_not_le fun z=>?_;obtain ⟨_,_,_,_,_,_,h1,_⟩:=ok.node n q e z;lia
theorem CM {G:Gv} {n x y z w:Nat} {l:Int} (e:G[n]?=some ⟨[(x:Int),(y:Int),(z:Int),(w:Int)],l⟩):qO G n 0=x/\qO G n 1=y/\qO G n 2=z/\qO G n 3=w:=by
 unfold qO;rw [e];exact ⟨rfl,rfl,rfl,rfl⟩
theorem Gs {G:Gv} (ok:GOk G) {n l:Nat} (h:Aq G n ((l+1:Nat):Int)) {k:Nat} (hk:k < 4):Aq G (qO G n k) (l:Int):=by
 obtain ⟨x,y,z,w,e,h1,h2,h3,h4⟩:=ok.four h;obtain ⟨q1,q2,q3,q4⟩:=CM e
 match k,hk with
 | 0,_=>rw [q1]; exact h1
 | 1,_=>rw [q2]; exact h2
 | 2,_=>rw [q3]; exact h3
 | 3,_=>rw [q4]; exact h4
theorem Oo {G G':Gv} {i:Nat} (ok:GOk G) (go:AZ G G' i):∀ (l n:Nat),Aq G n (l:Int)->∀ x y,cel G' l n x y=cel G l n x y
 | 0,n,_,x,y=>rfl
 | l+1,n,h,x,y=>by
  have e:∀ k,qO G' n k=qO G n k:=fun k=>by
   obtain ⟨q,e,_⟩:=h;unfold qO;rw [go.get e,e]
  show cel G' l (qO G' n _) x y=cel G l (qO G n _) x y;rw [e];exact Oo ok go l _ (Gs ok h (by lia)) x y
theorem FS {G G':Gv} {i:Nat} (ok:GOk G) (go:AZ G G' i) {l n:Nat} (h:Aq G n (l:Int)):Ap G' l n=Ap G l n:=by
 funext x y
 unfold Ap;rw [Oo ok go l n h]
theorem JR.goes {r:AM} {G G':Gv} {i e n m:Nat} (ok:GOk G) (go:AZ G G' i) (h:JR r G e n m):JR r G' e n m:=by
 obtain ⟨l,h1,h2,h3,h4⟩:=h;refine ⟨l,go.lev h1,h2,go.lev h3,fun x y hx hy=>?_⟩;rw [FS ok go h1,FS ok go h3];exact h4 x y hx hy
def Bs (G:Gv):Prop:=∀ j:Nat,j < 48->G[8+j]?=some ⟨[(bareN j:Int),(bareN j:Int),(bareN j:Int),(bareN j:Int)],(j:Int)+1⟩
theorem Bs.goes {G G':Gv} {i:Nat} (h:Bs G) (go:AZ G G' i):Bs G':=fun j hj=>go.get (h j hj)
theorem Bs.zero {G:Gv} (h:Bs G):∀ (l:Nat),l<=48->∀ x y,cel G l (bareN l) x y=0
 | 0,_,x,y=>rfl
 | l+1,hl,x,y=>by
  obtain ⟨q1,q2,q3,q4⟩:=CM (h l (by lia));have e:∀ k,k < 4->qO G (8+l) k=bareN l:=fun k hk=>by
   match k,hk with
   | 0,_=>exact q1
   | 1,_=>exact q2
   | 2,_=>exact q3
   | 3,_=>exact q4
  show cel G l (qO G (8+l) _) x y=0;rw [e _ (by lia)];exact h.zero l (by lia) x y
theorem Nz {r:AM} (h:DS r 0 EE=0):∀ k,AR r k (fun _ _=>0)=fun _ _=>0
 | 0=>rfl
 | k+1=>by
  show stp r (AR r k _)=_;rw [Nz h k]
  funext x y
  exact h
theorem Bs.lev {G:Gv} (ok:GOk G) (h:Bs G):∀ l:Nat,l<=48->Aq G (bareN l) (l:Int)
 | 0,_=>⟨_,ok.leaf 0 (by decide),rfl⟩
 | l+1,hl=>⟨_,h l (by lia),by show (l:Int)+1=((l+1:Nat):Int); lia⟩
theorem JR.bare {r:AM} {G:Gv} (ok:GOk G) (h:Bs G) (re:DS r 0 EE=0) {l e:Nat} (hl:l+2<=48) (he:e<=l):JR r G e (bareN (l+2)) (bareN (l+1)):=by
 refine ⟨l,h.lev ok _ hl,he,h.lev ok _ (by lia),fun x y _ _=>?_⟩;have z:∀ k,k<=48->Ap G k (bareN k)=fun _ _=>0:=fun k hk=>by
  funext x y
  unfold Ap;rw [h.zero k hk x y];rfl
 rw [z _ hl,z _ (by lia),Nz re]
theorem Lz {r:AM} (h:Nn r) {cell:Int} (hc:Dq cell) (ar:List Int):Dq (DS r cell ar):=by
 cases e:Lv r cell ar with
 | none=>rw [Os e]; exact hc
 | some i =>
  obtain ⟨c,h1,h2⟩:=Oq e;rw [h2];exact (h.ok c (List.mem_of_getElem? h1)).makes
theorem SE:∀ xs:List Int,xs.length=8->∃ a b c d e f g h,xs=[a,b,c,d,e,f,g,h]
 | [a,b,c,d,e,f,g,h],_=>⟨a,b,c,d,e,f,g,h,rfl⟩
structure Fi (H:Hp) (g:GA) (G:Gv) (N M:Nat) (r:AM) (m:MA):Prop where
 tp:H m.tp=some (.tup [.ref m.l,.ref m.kc])
 l:H m.l=some (.lst (m.ds.map V.ref))
 ap:m.l≠g.lv/\m.l≠g.pt/\m.kc≠g.nm
 len:m.ds.length=47
 nd:m.ds.Nodup
 sq:∀ (e:Nat) d,m.ds[e]?=some d->∃ kv,H d=some (.dK kv)/\kv.length<=N/\(∀ p ∈ kv,∃ i,p.1=Sum.inl i)/\∀ (n:Nat) v,CB kv (Sum.inl (n:Int))=some v->∃ k:Nat,v=.int (k:Int)/\JR r G e n k
 ce:∃ kc,H m.kc=some (.dT kc)/\kc.length<=M/\∀ (ks:List Int) v,CB kc (kOf ks)=some v->∃ c ar,ks=c :: ar/\v=.int (DS r c ar)
theorem Fi.mono {H:Hp} {g:GA} {G:Gv} {N M N' M':Nat} {r:AM} {m:MA} (h:Fi H g G N M r m) (e1:N<=N') (e2:M<=M'):Fi H g G N' M' r m:=by
 refine ⟨h.tp,h.l,h.ap,h.len,h.nd,fun e d ed=>?_,?_⟩
 ·obtain ⟨kv,h1,h2,h3,h4⟩:=h.sq e d ed;exact ⟨kv,h1,Nat.le_trans h2 e1,h3,h4⟩
 ·obtain ⟨kc,h1,h2,h3⟩:=h.ce;exact ⟨kc,h1,Nat.le_trans h2 e2,h3⟩
theorem Fi.kp {H H':Hp} {g:GA} {G G':Gv} {N M i:Nat} {r:AM} {m:MA} (h:Fi H g G N M r m) (ok:GOk G) (go:AZ G G' i) (k:∀ b o,H b=some o->b=m.tp\/b=m.l\/b ∈ m.ds\/b=m.kc->H' b=some o):Fi H' g G' N M r m:=by
 refine ⟨k _ _ h.tp (.inl rfl),k _ _ h.l (.inr (.inl rfl)),h.ap,h.len,h.nd,fun e d ed=>?_,?_⟩
 ·obtain ⟨kv,h1,h2,h3,h4⟩:=h.sq e d ed;refine ⟨kv,k _ _ h1 (.inr (.inr (.inl (List.mem_of_getElem? ed)))),h2,h3,fun n v hv=>?_⟩;obtain ⟨x,e1,e2⟩:=h4 n v hv;exact ⟨x,e1,e2.goes ok go⟩
 ·obtain ⟨kc,h1,h2,h3⟩:=h.ce;exact ⟨kc,k _ _ h1 (.inr (.inr (.inr rfl))),h2,h3⟩
structure JW (a:Ad) (H:Hp) (g:GA) (G:Gv) (N M:Nat) (p dx mem pr:Addr) (r:AM) (m:MA):Prop where
 gr:AI a H g G
 ok:GOk G
 bs:Bs G
 br:H g.br=some (.lst ((Fa 48).map V.int))
 nbr:g.br≠g.lv/\g.br≠g.pt
 hp:H p=some (.ins a.c_Jumps dx (jf5 g.p mem pr m.l m.kc))
 ru:CA a H pr (Ek r) r
 rok:Nn r
 rest:DS r 0 EE=0
 me:Fi H g G N M r m
theorem JW.same {a:Ad} {H H':Hp} {g:GA} {G:Gv} {N M:Nat} {p dx mem pr:Addr} {r:AM} {m:MA} (s:An H H') (h:JW a H g G N M p dx mem pr r m):JW a H' g G N M p dx mem pr r m :=
 ⟨h.gr.same s,h.ok,h.bs,s _ _ h.br,h.nbr,s _ _ h.hp,h.ru.same s,h.rok,h.rest,h.me.kp h.ok (AZ.refl h.ok) fun b o e _=>s _ _ e⟩
theorem JW.mono {a:Ad} {H:Hp} {g:GA} {G:Gv} {N M N' M':Nat} {p dx mem pr:Addr} {r:AM} {m:MA} (h:JW a H g G N M p dx mem pr r m) (e1:N<=N') (e2:M<=M'):JW a H g G N' M' p dx mem pr r m :=
 ⟨h.gr,h.ok,h.bs,h.br,h.nbr,h.hp,h.ru,h.rok,h.rest,h.me.mono e1 e2⟩
theorem Fi.fr {a:Ad} {H H':Hp} {g:GA} {G G':Gv} {N M i:Nat} {r:AM} {m:MA} (h:Fi H g G N M r m) (hg:AI a H g G) (ok:GOk G) (f:Fr g H H') (go:AZ G G' i):Fi H' g G' N M r m:=by
 obtain ⟨ts,h3,_⟩:=hg.pt;refine h.kp ok go fun b o e w=>?_;rcases w with z | z | z | z
 ·have e2:=h.tp;rw [<-z,e] at e2;cases e2;exact f _ _ e (AC e hg.lv (by intro z; cases z)) (AC e h3 (by intro z; cases z)) (AC e hg.nm (by intro z; cases z))
 ·have e2:=h.l;rw [z] at e ⊢;rw [e] at e2;cases e2;exact f _ _ e h.ap.1 h.ap.2.1 (AC e hg.nm (by intro z; cases z))
 ·obtain ⟨j,hj⟩:=List.getElem?_of_mem z;obtain ⟨kv,e2,_⟩:=h.sq j b hj;rw [e] at e2;cases e2;exact f _ _ e (AC e hg.lv (by intro z; cases z)) (AC e h3 (by intro z; cases z)) (AC e hg.nm (by intro z; cases z))
 ·obtain ⟨kc,e2,_⟩:=h.ce;rw [z] at e ⊢;rw [e] at e2;cases e2;exact f _ _ e (AC e hg.lv (by intro z; cases z)) (AC e h3 (by intro z; cases z)) h.ap.2.2
theorem CA.fr {a:Ad} {H H':Hp} {g:GA} {G:Gv} {p:Addr} {x:Str} {r:AM} (h:CA a H p x r) (hg:AI a H g G) (f:Fr g H H'):CA a H' p x r:=by
 obtain ⟨ts,h3,_⟩:=hg.pt;exact h.kp fun b o e n=>f _ _ e (AC e hg.lv (by intro z; rw [z] at n; cases n)) (AC e h3 (by intro z; rw [z] at n; cases n)) (AC e hg.nm (by intro z; rw [z] at n; cases n))
theorem JW.fr {a:Ad} {H H':Hp} {g:GA} {G G':Gv} {N M i:Nat} {p dx mem pr:Addr} {r:AM} {m:MA} (h:JW a H g G N M p dx mem pr r m) (f:Fr g H H') (hg':AI a H' g G') (go:AZ G G' i):JW a H' g G' N M p dx mem pr r m:=by
 obtain ⟨ts,h3,_⟩:=h.gr.pt;refine ⟨hg',go.ok,h.bs.goes go,f _ _ h.br h.nbr.1 h.nbr.2 (AC h.br h.gr.nm (by intro z; cases z)),h.nbr,f _ _ h.hp (AC h.hp h.gr.lv (by intro z; cases z)) (AC h.hp h3 (by intro z; cases z)) (AC h.hp h.gr.nm (by intro z; cases z)),h.ru.fr h.gr f,h.rok,h.rest,h.me.fr h.gr h.ok f go⟩
def FrJ (g:GA) (m:MA) (H H':Hp):Prop:=∀ b o,H b=some o->b≠g.lv->b≠g.pt->b≠g.nm->b≠m.kc->b ∉ m.ds->H' b=some o
theorem FrJ.trans {g:GA} {m:MA} {H1 H2 H3:Hp} (h:FrJ g m H1 H2) (k:FrJ g m H2 H3):FrJ g m H1 H3:=fun b o e n1 n2 n3 n4 n5=>k _ _ (h _ _ e n1 n2 n3 n4 n5) n1 n2 n3 n4 n5
theorem Fr.j {g:GA} {m:MA} {H1 H2:Hp} (h:Fr g H1 H2):FrJ g m H1 H2:=fun b o e n1 n2 n3 _ _=>h _ _ e n1 n2 n3
theorem An.j {g:GA} {m:MA} {H1 H2:Hp} (h:An H1 H2):FrJ g m H1 H2:=fun b o e _ _ _ _ _=>h _ _ e
theorem JW.putC {a:Ad} {H:Hp} {g:GA} {G:Gv} {N M:Nat} {p dx mem pr:Addr} {r:AM} {m:MA} {kc:List (List Key×V)} (h:JW a H g G N M p dx mem pr r m) (len:kc.length<=M+1) (sem:∀ (ks:List Int) v,CB kc (kOf ks)=some v->∃ c ar,ks=c :: ar/\v=.int (DS r c ar)):JW a (upd H m.kc (.dT kc)) g G N (M+1) p dx mem pr r m:=by
 obtain ⟨kc0,hk,_⟩:=h.me.ce;have other:∀ {b v},H b=some v->(∀ kk,v≠.dT kk)->upd H m.kc (.dT kc) b=some v:=fun {b v} e n=>by rw [As (AC e hk (n _))]; exact e
 obtain ⟨ts,h3,h4⟩:=h.gr.pt;refine ⟨⟨other h.gr.hp (by intro _ z; cases z),other h.gr.lv (by intro _ z; cases z),⟨ts,other h3 (by intro _ z; cases z),PairedM.imp (fun t q z=>other z (by intro _ z; cases z)) h4⟩,by rw [As (Ne.symm h.me.ap.2.2)]; exact h.gr.nm,h.gr.ne⟩,h.ok,h.bs,other h.br (by intro _ z; cases z),h.nbr,other h.hp (by intro _ z; cases z),h.ru.kp fun b o e n=>other e fun kk z=>(by rw [z] at n; cases n),h.rok,h.rest,⟨other h.me.tp (by intro _ z; cases z),other h.me.l (by intro _ z; cases z),h.me.ap,h.me.len,h.me.nd,fun e d ed=>?_,⟨kc,Ab,len,sem⟩⟩⟩;obtain ⟨kv,q1,q2,q3,q4⟩:=h.me.sq e d ed;exact ⟨kv,other q1 (by intro _ z; cases z),q2,q3,q4⟩
theorem JW.putS {a:Ad} {H:Hp} {g:GA} {G:Gv} {N M:Nat} {p dx mem pr:Addr} {r:AM} {m:MA} {e:Nat} {d:Addr} {kv:List (Key×V)} {n k:Nat} (h:JW a H g G N M p dx mem pr r m) (ed:m.ds[e]?=some d) (hd:H d=some (.dK kv)) (jr:JR r G e n k):JW a (upd H d (.dK (FX kv (Sum.inl (n:Int)) (.int (k:Int))))) g G (N+1) M p dx mem pr r m:=by
 have other:∀ {b v},H b=some v->(∀ kk,v≠.dK kk)->upd H d (.dK (FX kv (Sum.inl (n:Int)) (.int (k:Int)))) b=some v:=fun {b v} e n=>by rw [As (AC e hd (n _))]; exact e
 obtain ⟨ts,h3,h4⟩:=h.gr.pt;obtain ⟨kc,c1,c2,c3⟩:=h.me.ce;refine ⟨⟨other h.gr.hp (by intro _ z; cases z),other h.gr.lv (by intro _ z; cases z),⟨ts,other h3 (by intro _ z; cases z),PairedM.imp (fun t q z=>other z (by intro _ z; cases z)) h4⟩,other h.gr.nm (by intro _ z; cases z),h.gr.ne⟩,h.ok,h.bs,other h.br (by intro _ z; cases z),h.nbr,other h.hp (by intro _ z; cases z),h.ru.kp fun b o e n=>other e fun kk z=>(by rw [z] at n; cases n),h.rok,h.rest,⟨other h.me.tp (by intro _ z; cases z),other h.me.l (by intro _ z; cases z),h.me.ap,h.me.len,h.me.nd,fun e' d' ed'=>?_,⟨kc,other c1 (by intro _ z; cases z),c2,c3⟩⟩⟩;obtain ⟨kv',q1,q2,q3,q4⟩:=h.me.sq e' d' ed';by_cases z:e'=e
 ·rw [z,ed] at ed';cases ed';rw [hd] at q1;cases q1;subst z;refine ⟨_,Ab,Nat.le_trans (FM _ _ _) (by lia),fun q hq=>?_,fun n' v hv=>?_⟩
  ·unfold FX at hq;split at hq
   ·obtain ⟨q0,h0,rfl⟩:=List.mem_map.mp hq;split
    ·exact q3 q0 h0
    ·exact q3 q0 h0
   ·rcases List.mem_append.mp hq with y | y
    ·exact q3 q y
    ·rw [List.mem_singleton.mp y]; exact ⟨_,rfl⟩
  ·rw [Nr] at hv;split at hv
   ·rename_i y;have:n'=n:=by have:=Sum.inl.inj y; lia
    rw [this];cases hv;exact ⟨k,rfl,jr⟩
   ·exact q4 n' v hv
 ·have nd:d'≠d:=fun y=>z (by
   rw [y] at ed';exact (List.getElem?_inj (List.getElem?_eq_some_iff.mp ed').1 h.me.nd).mp (ed'.trans ed.symm))
  exact ⟨kv',by rw [As nd]; exact q1,Nat.le_trans q2 (by lia),q3,q4⟩
section
variable {P:Program} {w:World} {K:PySem.W.Frag} {mg:Str->Option Value} {base:Heap} {a:Ad}
inductive SpCel (a:Ad) (vs:List V) (H:Hp) (Q:VK):Prop
 | mk (p dx mem pr t:Addr) (g:GA) (G:Gv) (N M:Nat) (r:AM) (m:MA) (c:Int) (ar:List Int) (_:vs=[.ref p,.ref t]) (_:JW a H g G N M p dx mem pr r m) (_:H t=some (.tup ((c :: ar).map V.int))) (_:ar.length=8) (_:∀ x ∈ c :: ar,Dq x) (_:M < 1000000) (_:∀ H',(∀ b o,H b=some o->b≠m.kc->H' b=some o)->JW a H' g G N (M+1) p dx mem pr r m->Q (.int (DS r c ar)) H'):SpCel a vs H Q
def RA (a:Ad):Sp:=fun vs H Q _=>SpCel a vs H Q
theorem ok_cel {f:Addr} {fd:FuncData} (F:Fun K "cell_after" "Jumps.cell_after" Bm f fd) (T:Top K mg a) (aN:BK P w K mg base CX0 4 a.c_Grove "state_of" Ca (Pt a)) (aV:BK P w K mg base CX0 3 a.c_Grove "leaf" DQ (MC a)) (bF:Cal P w K mg base CX0 5 "becomes" Fs (Py a)):AU P w K mg base CX0 6 f fd Ch (RA a):=by
 refine F.ok CC (fun vs H Q E h=>?_) (fun cdv A outer s H vs Q E hr h=>?_)
 ·obtain ⟨p,dx,mem,pr,t,g,G,N,M,r,m,c,ar,rfl,_⟩:=h;rfl
 ·obtain ⟨p,dx,mem,pr,t,g,G,N,M,r,m,c,ar,rfl,hj,ht,h8,sts,few,k⟩:=h;obtain ⟨kc,c1,c2,c3⟩:=hj.me.ce;have htk:H t=some (.tup ((kOf (c :: ar)).map kV)):=by rw [Sl]; exact ht
  refine ⟨_,(Ae (Av (i:=2) CC.nd rfl (Or.inl rfl) (JY (GH hr) (AG (pv 0) rfl) (pv 1) ⟨rfl,rfl,rfl,rfl⟩)) (Ae (Ba (AJ Lb (pv 2) Id (AT _)) (Ae (Fw (i:=3) rfl CC.nd rfl rfl (Bn.of (So:=Ag Bm) (No:=FC) (N:=["one","self"]) (k:=1) (cs:=[0]) rfl rfl (by decide +kernel)) (MN (pv 1)) (fun _ _ _=>(AV (i:=0) (by decide +kernel) rfl rfl)) (fun _ _ _=>BH) (fun _ _ _=>(AF (MO (K:=K) rfl (pv 1) rfl) aN (rm hr) Ar (Aa (pv 0) Ac)))) (Ae (Av (i:=2) CC.nd rfl (Or.inl rfl) (AF (AG (pv 0) rfl) aV (rm hr) Ar (Aa (Az bF (rm hr) rfl Ar (Aa (AG (pv 0) rfl) (Aa (Al Au (pv 3) Af (fun _ _=>rfl)) (Aa (ES FJ (pv 3) (CZ Af) po_none) Ac)))) Ac))) (Aj (Ir (GH hr) (AG (pv 0) rfl) (pv 1) (pv 2) rfl)))) AE) (Aj (AA (pv 2))))),?_⟩
  try dsimp only [cxK]
  refine ⟨_,rfl,p,_,dx,_,_,rfl,hj.hp,T.cl_Jumps,T.na_Jumps_known_cells,Sn _ _ _ _ _,m.kc,rfl,.inr ⟨_,.inl c1⟩,_,rfl,_,GM.t (k:=kOf (c :: ar)) c1 htk,?_⟩;cases ev:CB kc (kOf (c :: ar)) with
  | some v =>
   obtain ⟨c',ar',e1,e2⟩:=c3 _ v ev;cases e1;rw [e2];exact ⟨_,rfl,rfl,_,rfl,Cz ⟨_,rfl,k H (fun b o e _=>e) (hj.mono (Nat.le_refl _) (Nat.le_succ _))⟩⟩
  | none =>
   refine ⟨_,rfl,rfl,_,rfl,EC ?_⟩;refine ⟨_,rfl,t,rfl,⟨_,SqT.of ht⟩,?_⟩;refine Nj (xs:=(c :: ar).map V.int) (fun i acc H2=>H=H2/\acc=((c :: ar).take i).map V.int) ⟨rfl,rfl⟩ (fun i acc H2 _ z=>z.1 ▸ SqT.of ht) ?_ ?_
   ·rintro i v acc H2 ev2 ⟨rfl,rfl⟩;rw [List.getElem?_map] at ev2;obtain ⟨x,ex,rfl⟩:=Option.map_eq_some_iff.mp ev2;obtain ⟨x0,x8⟩:=sts x (List.mem_of_getElem? ex);obtain ⟨n,rfl⟩:=Int.eq_ofNat_of_zero_le x0;refine ⟨⟨[some (.int (n:Int))],rfl,rfl⟩,?_,FH ⟨_,rfl,p,_,dx,_,_,rfl,hj.hp,T.cl_Jumps,T.na_Jumps_grove,Fe _ _ _ _ _,g.p,g.dx,_,rfl,hj.gr.hp,Ld g,_,rfl,g,G,n,_,rfl,hj.gr,hj.ok.leaf n (by lia),rfl,rfl,?_⟩⟩
    ·rw [List.length_map,List.length_take];exact Nat.lt_of_le_of_lt (Nat.min_le_right _ _) (by rw [List.length_cons,h8]; decide)
    ·rw [List.take_add_one,ex,Option.toList_some,List.map_append];rfl
   ·rintro acc H2 ⟨rfl,rfl⟩ L hL;rw [List.length_map,List.take_length];have s1:=Ah (o:=.lst ((c :: ar).map V.int)) hL;have hL1:upd H L (.lst ((c :: ar).map V.int)) L=some (.lst ((c :: ar).map V.int)):=Ab;generalize upd H L (.lst ((c :: ar).map V.int))=H1 at s1 hL1 ⊢;have hj1:=hj.same s1;refine ⟨_,rfl,p,_,dx,_,_,rfl,hj1.hp,T.cl_Jumps,T.na_Jumps_grove,Fe _ _ _ _ _,g.p,g.dx,_,rfl,hj1.gr.hp,PR g,_,rfl,p,_,dx,_,_,rfl,hj1.hp,T.cl_Jumps,T.na_Jumps_rule,jf5_ru _ _ _ _ _,_,rfl,L,_,0,.int c,rfl,rfl,SqL.of hL1,Ai (j:=0) rfl,?_⟩;refine ⟨_,rfl,1,rfl,L,_,rfl,SqL.of hL1,fun SL hSL=>?_⟩;have ecut:IG ((c :: ar).map V.int) (some 1) none=ar.map V.int:=by
     obtain ⟨x1,x2,x3,x4,x5,x6,x7,x8,rfl⟩:=SE ar h8;rfl
    rw [ecut];have s2:=Ah (o:=.lst (ar.map V.int)) hSL;have hS2:upd H1 SL (.lst (ar.map V.int)) SL=some (.lst (ar.map V.int)):=Ab;generalize upd H1 SL (.lst (ar.map V.int))=H2 at s2 hS2 ⊢;have hj2:=hj1.same s2;refine ⟨pr,SL,_,r,c,ar,rfl,hj2.ru,hj2.rok.rok,hS2,fun H3 s3=>?_⟩;have hj3:=hj2.same s3;have s03:=(s1.trans s2).trans s3;have bst:=Lz hj.rok (sts c List.mem_cons_self) ar;refine ⟨g.p,_,rfl,bst.1,bst.2,?_⟩;refine ⟨_,rfl,_,rfl,p,_,dx,_,_,rfl,hj3.hp,T.cl_Jumps,T.na_Jumps_known_cells,Sn _ _ _ _ _,_,rfl,m.kc,_,rfl,LD.t (k:=kOf (c :: ar)) (s03 _ _ c1) (s03 _ _ htk) (Nat.lt_of_le_of_lt (show kc.length<=1000000 by lia) (by decide)),?_⟩;refine ⟨_,rfl,k _ (fun b o e n=>by rw [As n]; exact s03 _ _ e) (hj3.putC (Nat.le_trans (FM _ _ _) (by lia)) fun ks v hv=>?_)⟩;rw [Nr] at hv;split at hv
    ·rename_i y;rw [Nb y];cases hv;exact ⟨c,ar,rfl,rfl⟩
    ·exact c3 ks v hv
end
end J
namespace J
open PySem L2
seal L2.PA L2.PE L2.PS L2.PSs L2.PT L2.PW
def spNo:Sp:=fun _ _ _ _=>False
theorem AU.no {P:Program} {w:World} {K:PySem.W.Frag} {mg:Str->Option Value} {base:Heap} {CX:CXT} {k:Nat} {f:Addr} {fd:FuncData} {ps:List Str}:AU P w K mg base CX k f fd ps spNo :=
 ⟨fun _ _ _ _ h=>h.elim,fun _ _ _ _ _ _ _ _ _ _ _ _ _ h=>h.elim⟩
theorem AZ.mono {G G':Gv} {n m:Nat} (h:AZ G G' n) (e:n<=m):AZ G G' m:=⟨h.ok,h.pre,Nat.le_trans h.few (by lia)⟩
theorem bareJ {l:Nat} (h:l<=48):((Fa 48).map V.int)[l]?=some (.int (bareN l:Int)):=by
 unfold Fa;rw [List.getElem?_map,List.getElem?_map,List.getElem?_range (by lia)];rfl
section
variable {P:Program} {w:World} {K:PySem.W.Frag} {mg:Str->Option Value} {base:Heap} {a:Ad}
inductive SX (a:Ad) (vs:List V) (H:Hp) (Q:VK):Prop
 | mk (p dx mem pr:Addr) (g:GA) (G:Gv) (N M:Nat) (r:AM) (m:MA) (n:Nat) (_:vs=[.ref p,.int n]) (_:JW a H g G N M p dx mem pr r m) (_:Aq G n ((1+1:Nat):Int)) (_:M < 900000) (_:G.length < 8000000) (_:∀ (k:Nat) (G':Gv) (H':Hp),FrJ g m H H'->JW a H' g G' N (M+4) p dx mem pr r m->AZ G G' 1->JR r G' 0 n k->Q (.int k) H'):SX a vs H Q
def MB (a:Ad):Sp:=fun vs H Q _=>SX a vs H Q
theorem ok_mid2 {f:Addr} {fd:FuncData} (F:Fun K "middle_after" "Jumps.middle_after" Bo f fd) (T:Top K mg a) (aB:BK P w K mg base CX0 2 a.c_Grove "linked" AY (FV a)) (aJ:BK P w K mg base CX0 6 a.c_Jumps "cell_after" Ch (RA a)):AU P w K mg base CX0 7 f fd Bq (MB a):=by
 refine F.ok Bh (fun vs H Q E h=>?_) (fun cdv A outer s H vs Q E hr h=>?_)
 ·obtain ⟨p,dx,mem,pr,g,G,N,M,r,m,n,rfl,_⟩:=h;rfl
 ·obtain ⟨p,dx,mem,pr,g,G,N,M,r,m,n,rfl,hj,hl,fewM,few,k⟩:=h;obtain ⟨qa,qb,qc,qd,en,la,lb,lc,ld⟩:=hj.ok.four hl;obtain ⟨a0,a1,a2,a3,ea,la0,la1,la2,la3⟩:=hj.ok.four (l:=0) la;obtain ⟨b0,b1,b2,b3,eb,lb0,lb1,lb2,lb3⟩:=hj.ok.four (l:=0) lb;obtain ⟨c0,c1,c2,c3,ec,lc0,lc1,lc2,lc3⟩:=hj.ok.four (l:=0) lc;obtain ⟨d0,d1,d2,d3,ed,ld0,ld1,ld2,ld3⟩:=hj.ok.four (l:=0) ld;obtain ⟨ts,h3,h4⟩:=hj.gr.pt;obtain ⟨t,et,ht⟩:=PairedM.get h4 en;obtain ⟨ta,eta,hta⟩:=PairedM.get h4 ea;obtain ⟨tb,etb,htb⟩:=PairedM.get h4 eb;obtain ⟨tc,etc,htc⟩:=PairedM.get h4 ec;obtain ⟨td,etd,htd⟩:=PairedM.get h4 ed;refine ⟨_,(Ae (Av (i:=2) Bh.nd rfl (Or.inl rfl) (Al Au (AG (AG (pv 0) rfl) rfl) (pv 1) (fun _ _=>rfl))) (Ae (Av (i:=3) Bh.nd rfl (Or.inl rfl) (Al Au (AG (AG (pv 0) rfl) rfl) (Al Ao (pv 2) Af (fun _ _=>rfl)) (fun _ _=>rfl))) (Ae (Av (i:=4) Bh.nd rfl (Or.inl rfl) (Al Au (AG (AG (pv 0) rfl) rfl) (Al Ao (pv 2) Af (fun _ _=>rfl)) (fun _ _=>rfl))) (Ae (Av (i:=5) Bh.nd rfl (Or.inl rfl) (Al Au (AG (AG (pv 0) rfl) rfl) (Al Ao (pv 2) Af (fun _ _=>rfl)) (fun _ _=>rfl))) (Ae (Av (i:=6) Bh.nd rfl (Or.inl rfl) (Al Au (AG (AG (pv 0) rfl) rfl) (Al Ao (pv 2) Af (fun _ _=>rfl)) (fun _ _=>rfl))) (Aj (AA (AF (AG (pv 0) rfl) aB (rm hr) Ar (Cf (Aa (AF (pv 0) aJ (rm hr) Ar (Cf (Aa (Al Ao (pv 3) Af (fun _ _=>rfl)) (Aa (Al Ao (pv 3) Af (fun _ _=>rfl)) (Aa (Al Ao (pv 3) Af (fun _ _=>rfl)) (Aa (Al Ao (pv 4) Af (fun _ _=>rfl)) (Aa (Al Ao (pv 3) Af (fun _ _=>rfl)) (Aa (Al Ao (pv 4) Af (fun _ _=>rfl)) (Aa (Al Ao (pv 5) Af (fun _ _=>rfl)) (Aa (Al Ao (pv 5) Af (fun _ _=>rfl)) (Aa (Al Ao (pv 6) Af (fun _ _=>rfl)) Ac))))))))) Ac)) (Aa (AF (pv 0) aJ (rm hr) Ar (Cf (Aa (Al Ao (pv 4) Af (fun _ _=>rfl)) (Aa (Al Ao (pv 3) Af (fun _ _=>rfl)) (Aa (Al Ao (pv 4) Af (fun _ _=>rfl)) (Aa (Al Ao (pv 4) Af (fun _ _=>rfl)) (Aa (Al Ao (pv 3) Af (fun _ _=>rfl)) (Aa (Al Ao (pv 4) Af (fun _ _=>rfl)) (Aa (Al Ao (pv 5) Af (fun _ _=>rfl)) (Aa (Al Ao (pv 6) Af (fun _ _=>rfl)) (Aa (Al Ao (pv 6) Af (fun _ _=>rfl)) Ac))))))))) Ac)) (Aa (AF (pv 0) aJ (rm hr) Ar (Cf (Aa (Al Ao (pv 5) Af (fun _ _=>rfl)) (Aa (Al Ao (pv 3) Af (fun _ _=>rfl)) (Aa (Al Ao (pv 3) Af (fun _ _=>rfl)) (Aa (Al Ao (pv 4) Af (fun _ _=>rfl)) (Aa (Al Ao (pv 5) Af (fun _ _=>rfl)) (Aa (Al Ao (pv 6) Af (fun _ _=>rfl)) (Aa (Al Ao (pv 5) Af (fun _ _=>rfl)) (Aa (Al Ao (pv 5) Af (fun _ _=>rfl)) (Aa (Al Ao (pv 6) Af (fun _ _=>rfl)) Ac))))))))) Ac)) (Aa (AF (pv 0) aJ (rm hr) Ar (Cf (Aa (Al Ao (pv 6) Af (fun _ _=>rfl)) (Aa (Al Ao (pv 3) Af (fun _ _=>rfl)) (Aa (Al Ao (pv 4) Af (fun _ _=>rfl)) (Aa (Al Ao (pv 4) Af (fun _ _=>rfl)) (Aa (Al Ao (pv 5) Af (fun _ _=>rfl)) (Aa (Al Ao (pv 6) Af (fun _ _=>rfl)) (Aa (Al Ao (pv 5) Af (fun _ _=>rfl)) (Aa (Al Ao (pv 6) Af (fun _ _=>rfl)) (Aa (Al Ao (pv 6) Af (fun _ _=>rfl)) Ac))))))))) Ac)) Ac)))) Ac))))))))),?_⟩
  try dsimp only [cxK]
  refine ⟨_,rfl,p,_,dx,_,_,rfl,hj.hp,T.cl_Jumps,T.na_Jumps_grove,Fe _ _ _ _ _,g.p,_,g.dx,_,_,rfl,hj.gr.hp,T.cl_Grove,T.na_Grove_parts,EL g,_,rfl,g.pt,_,(n:Int),.ref t,rfl,rfl,SqL.of h3,Ai (by rw [List.getElem?_map,et]; rfl),?_⟩;refine ⟨_,rfl,p,_,dx,_,_,rfl,hj.hp,T.cl_Jumps,T.na_Jumps_grove,Fe _ _ _ _ _,g.p,_,g.dx,_,_,rfl,hj.gr.hp,T.cl_Grove,T.na_Grove_parts,EL g,_,rfl,t,_,0,.int (qa:Int),rfl,rfl,SqT.of ht,Ai (j:=0) rfl,g.pt,_,(qa:Int),.ref ta,rfl,rfl,SqL.of h3,Ai (by rw [List.getElem?_map,eta]; rfl),?_⟩;refine ⟨_,rfl,p,_,dx,_,_,rfl,hj.hp,T.cl_Jumps,T.na_Jumps_grove,Fe _ _ _ _ _,g.p,_,g.dx,_,_,rfl,hj.gr.hp,T.cl_Grove,T.na_Grove_parts,EL g,_,rfl,t,_,1,.int (qb:Int),rfl,rfl,SqT.of ht,Ai (j:=1) rfl,g.pt,_,(qb:Int),.ref tb,rfl,rfl,SqL.of h3,Ai (by rw [List.getElem?_map,etb]; rfl),?_⟩;refine ⟨_,rfl,p,_,dx,_,_,rfl,hj.hp,T.cl_Jumps,T.na_Jumps_grove,Fe _ _ _ _ _,g.p,_,g.dx,_,_,rfl,hj.gr.hp,T.cl_Grove,T.na_Grove_parts,EL g,_,rfl,t,_,2,.int (qc:Int),rfl,rfl,SqT.of ht,Ai (j:=2) rfl,g.pt,_,(qc:Int),.ref tc,rfl,rfl,SqL.of h3,Ai (by rw [List.getElem?_map,etc]; rfl),?_⟩;refine ⟨_,rfl,p,_,dx,_,_,rfl,hj.hp,T.cl_Jumps,T.na_Jumps_grove,Fe _ _ _ _ _,g.p,_,g.dx,_,_,rfl,hj.gr.hp,T.cl_Grove,T.na_Grove_parts,EL g,_,rfl,t,_,3,.int (qd:Int),rfl,rfl,SqT.of ht,Ai (j:=3) rfl,g.pt,_,(qd:Int),.ref td,rfl,rfl,SqL.of h3,Ai (by rw [List.getElem?_map,etd]; rfl),?_⟩;refine ⟨_,rfl,p,_,dx,_,_,rfl,hj.hp,T.cl_Jumps,T.na_Jumps_grove,Fe _ _ _ _ _,g.p,g.dx,_,rfl,hj.gr.hp,CT g,?_⟩;have st:∀ {x:Nat},Aq G x ((0:Nat):Int)->Dq (x:Int):=fun {x} h=>by
   have:=hj.ok.cell h;exact ⟨by lia,by lia⟩
  obtain ⟨k0,ek0,kl0⟩:∃ k:Nat,DS r (a3:Int) [(a0:Int),(a1:Int),(b0:Int),(a2:Int),(b2:Int),(c0:Int),(c1:Int),(d0:Int)]=(k:Int)/\k < 8:=by
   obtain ⟨z1,z2⟩:=Lz hj.rok (st la3) [(a0:Int),(a1:Int),(b0:Int),(a2:Int),(b2:Int),(c0:Int),(c1:Int),(d0:Int)];obtain ⟨k,e⟩:=Int.eq_ofNat_of_zero_le z1;exact ⟨k,e,by lia⟩
  obtain ⟨k1,ek1,kl1⟩:∃ k:Nat,DS r (b2:Int) [(a1:Int),(b0:Int),(b1:Int),(a3:Int),(b3:Int),(c1:Int),(d0:Int),(d1:Int)]=(k:Int)/\k < 8:=by
   obtain ⟨z1,z2⟩:=Lz hj.rok (st lb2) [(a1:Int),(b0:Int),(b1:Int),(a3:Int),(b3:Int),(c1:Int),(d0:Int),(d1:Int)];obtain ⟨k,e⟩:=Int.eq_ofNat_of_zero_le z1;exact ⟨k,e,by lia⟩
  obtain ⟨k2,ek2,kl2⟩:∃ k:Nat,DS r (c1:Int) [(a2:Int),(a3:Int),(b2:Int),(c0:Int),(d0:Int),(c2:Int),(c3:Int),(d2:Int)]=(k:Int)/\k < 8:=by
   obtain ⟨z1,z2⟩:=Lz hj.rok (st lc1) [(a2:Int),(a3:Int),(b2:Int),(c0:Int),(d0:Int),(c2:Int),(c3:Int),(d2:Int)];obtain ⟨k,e⟩:=Int.eq_ofNat_of_zero_le z1;exact ⟨k,e,by lia⟩
  obtain ⟨k3,ek3,kl3⟩:∃ k:Nat,DS r (d0:Int) [(a3:Int),(b2:Int),(b3:Int),(c1:Int),(d1:Int),(c3:Int),(d2:Int),(d3:Int)]=(k:Int)/\k < 8:=by
   obtain ⟨z1,z2⟩:=Lz hj.rok (st ld0) [(a3:Int),(b2:Int),(b3:Int),(c1:Int),(d1:Int),(c3:Int),(d2:Int),(d3:Int)];obtain ⟨k,e⟩:=Int.eq_ofNat_of_zero_le z1;exact ⟨k,e,by lia⟩
  refine ⟨_,rfl,p,dx,_,rfl,hj.hp,Iz _ _ _ _ _,_,rfl,ta,_,3,.int (a3:Int),rfl,rfl,SqT.of hta,Ai (j:=3) rfl,_,rfl,ta,_,0,.int (a0:Int),rfl,rfl,SqT.of hta,Ai (j:=0) rfl,_,rfl,ta,_,1,.int (a1:Int),rfl,rfl,SqT.of hta,Ai (j:=1) rfl,_,rfl,tb,_,0,.int (b0:Int),rfl,rfl,SqT.of htb,Ai (j:=0) rfl,_,rfl,ta,_,2,.int (a2:Int),rfl,rfl,SqT.of hta,Ai (j:=2) rfl,_,rfl,tb,_,2,.int (b2:Int),rfl,rfl,SqT.of htb,Ai (j:=2) rfl,_,rfl,tc,_,0,.int (c0:Int),rfl,rfl,SqT.of htc,Ai (j:=0) rfl,_,rfl,tc,_,1,.int (c1:Int),rfl,rfl,SqT.of htc,Ai (j:=1) rfl,_,rfl,td,_,0,.int (d0:Int),rfl,rfl,SqT.of htd,Ai (j:=0) rfl,(by show 9<=sizeLine; decide),fun u0 hu0=>?_⟩;have s0:=Ah (o:=.tup [.int (a3:Int),.int (a0:Int),.int (a1:Int),.int (b0:Int),.int (a2:Int),.int (b2:Int),.int (c0:Int),.int (c1:Int),.int (d0:Int)]) hu0;have hv0:upd H u0 (.tup [.int (a3:Int),.int (a0:Int),.int (a1:Int),.int (b0:Int),.int (a2:Int),.int (b2:Int),.int (c0:Int),.int (c1:Int),.int (d0:Int)]) u0=some (.tup [.int (a3:Int),.int (a0:Int),.int (a1:Int),.int (b0:Int),.int (a2:Int),.int (b2:Int),.int (c0:Int),.int (c1:Int),.int (d0:Int)]):=Ab;generalize upd H u0 (.tup [.int (a3:Int),.int (a0:Int),.int (a1:Int),.int (b0:Int),.int (a2:Int),.int (b2:Int),.int (c0:Int),.int (c1:Int),.int (d0:Int)])=X0 at s0 hv0 ⊢;have i0:=hj.same s0;have sts0:∀ x ∈ ([(a3:Int),(a0:Int),(a1:Int),(b0:Int),(a2:Int),(b2:Int),(c0:Int),(c1:Int),(d0:Int)]:List Int),Dq x:=by
   intro x hx;simp only [List.mem_cons,List.not_mem_nil,or_false] at hx;rcases hx with rfl | rfl | rfl | rfl | rfl | rfl | rfl | rfl | rfl
   ·exact st la3
   ·exact st la0
   ·exact st la1
   ·exact st lb0
   ·exact st la2
   ·exact st lb2
   ·exact st lc0
   ·exact st lc1
   ·exact st ld0
  refine ⟨p,dx,mem,pr,u0,g,G,N,M,r,m,(a3:Int),[(a0:Int),(a1:Int),(b0:Int),(a2:Int),(b2:Int),(c0:Int),(c1:Int),(d0:Int)],rfl,i0,hv0,rfl,sts0,by lia,fun Y0 fr0 hj0=>?_⟩;have nk0:∀ {b:Addr} {xs:List V},X0 b=some (.tup xs)->Y0 b=some (.tup xs):=fun {b xs} e=>by
   obtain ⟨kc,c1,_⟩:=i0.me.ce;exact fr0 _ _ e (AC e c1 (by intro z; cases z))
  have hta0:=nk0 (s0 _ _ hta);have htb0:=nk0 (s0 _ _ htb);have htc0:=nk0 (s0 _ _ htc);have htd0:=nk0 (s0 _ _ htd);have f0:FrJ g m H Y0:=fun b o e _ _ _ n4 _=>fr0 _ _ (s0 _ _ e) n4;refine ⟨_,rfl,p,dx,_,rfl,hj0.hp,Iz _ _ _ _ _,_,rfl,tb,_,2,.int (b2:Int),rfl,rfl,SqT.of htb0,Ai (j:=2) rfl,_,rfl,ta,_,1,.int (a1:Int),rfl,rfl,SqT.of hta0,Ai (j:=1) rfl,_,rfl,tb,_,0,.int (b0:Int),rfl,rfl,SqT.of htb0,Ai (j:=0) rfl,_,rfl,tb,_,1,.int (b1:Int),rfl,rfl,SqT.of htb0,Ai (j:=1) rfl,_,rfl,ta,_,3,.int (a3:Int),rfl,rfl,SqT.of hta0,Ai (j:=3) rfl,_,rfl,tb,_,3,.int (b3:Int),rfl,rfl,SqT.of htb0,Ai (j:=3) rfl,_,rfl,tc,_,1,.int (c1:Int),rfl,rfl,SqT.of htc0,Ai (j:=1) rfl,_,rfl,td,_,0,.int (d0:Int),rfl,rfl,SqT.of htd0,Ai (j:=0) rfl,_,rfl,td,_,1,.int (d1:Int),rfl,rfl,SqT.of htd0,Ai (j:=1) rfl,(by show 9<=sizeLine; decide),fun u1 hu1=>?_⟩;have s1:=Ah (o:=.tup [.int (b2:Int),.int (a1:Int),.int (b0:Int),.int (b1:Int),.int (a3:Int),.int (b3:Int),.int (c1:Int),.int (d0:Int),.int (d1:Int)]) hu1;have hv1:upd Y0 u1 (.tup [.int (b2:Int),.int (a1:Int),.int (b0:Int),.int (b1:Int),.int (a3:Int),.int (b3:Int),.int (c1:Int),.int (d0:Int),.int (d1:Int)]) u1=some (.tup [.int (b2:Int),.int (a1:Int),.int (b0:Int),.int (b1:Int),.int (a3:Int),.int (b3:Int),.int (c1:Int),.int (d0:Int),.int (d1:Int)]):=Ab;generalize upd Y0 u1 (.tup [.int (b2:Int),.int (a1:Int),.int (b0:Int),.int (b1:Int),.int (a3:Int),.int (b3:Int),.int (c1:Int),.int (d0:Int),.int (d1:Int)])=X1 at s1 hv1 ⊢;have i1:=hj0.same s1;have sts1:∀ x ∈ ([(b2:Int),(a1:Int),(b0:Int),(b1:Int),(a3:Int),(b3:Int),(c1:Int),(d0:Int),(d1:Int)]:List Int),Dq x:=by
   intro x hx;simp only [List.mem_cons,List.not_mem_nil,or_false] at hx;rcases hx with rfl | rfl | rfl | rfl | rfl | rfl | rfl | rfl | rfl
   ·exact st lb2
   ·exact st la1
   ·exact st lb0
   ·exact st lb1
   ·exact st la3
   ·exact st lb3
   ·exact st lc1
   ·exact st ld0
   ·exact st ld1
  refine ⟨p,dx,mem,pr,u1,g,G,N,(M+1),r,m,(b2:Int),[(a1:Int),(b0:Int),(b1:Int),(a3:Int),(b3:Int),(c1:Int),(d0:Int),(d1:Int)],rfl,i1,hv1,rfl,sts1,by lia,fun Y1 fr1 hj1=>?_⟩;have nk1:∀ {b:Addr} {xs:List V},X1 b=some (.tup xs)->Y1 b=some (.tup xs):=fun {b xs} e=>by
   obtain ⟨kc,c1,_⟩:=i1.me.ce;exact fr1 _ _ e (AC e c1 (by intro z; cases z))
  have hta1:=nk1 (s1 _ _ hta0);have htb1:=nk1 (s1 _ _ htb0);have htc1:=nk1 (s1 _ _ htc0);have htd1:=nk1 (s1 _ _ htd0);have f1:FrJ g m Y0 Y1:=fun b o e _ _ _ n4 _=>fr1 _ _ (s1 _ _ e) n4;refine ⟨_,rfl,p,dx,_,rfl,hj1.hp,Iz _ _ _ _ _,_,rfl,tc,_,1,.int (c1:Int),rfl,rfl,SqT.of htc1,Ai (j:=1) rfl,_,rfl,ta,_,2,.int (a2:Int),rfl,rfl,SqT.of hta1,Ai (j:=2) rfl,_,rfl,ta,_,3,.int (a3:Int),rfl,rfl,SqT.of hta1,Ai (j:=3) rfl,_,rfl,tb,_,2,.int (b2:Int),rfl,rfl,SqT.of htb1,Ai (j:=2) rfl,_,rfl,tc,_,0,.int (c0:Int),rfl,rfl,SqT.of htc1,Ai (j:=0) rfl,_,rfl,td,_,0,.int (d0:Int),rfl,rfl,SqT.of htd1,Ai (j:=0) rfl,_,rfl,tc,_,2,.int (c2:Int),rfl,rfl,SqT.of htc1,Ai (j:=2) rfl,_,rfl,tc,_,3,.int (c3:Int),rfl,rfl,SqT.of htc1,Ai (j:=3) rfl,_,rfl,td,_,2,.int (d2:Int),rfl,rfl,SqT.of htd1,Ai (j:=2) rfl,(by show 9<=sizeLine; decide),fun u2 hu2=>?_⟩;have s2:=Ah (o:=.tup [.int (c1:Int),.int (a2:Int),.int (a3:Int),.int (b2:Int),.int (c0:Int),.int (d0:Int),.int (c2:Int),.int (c3:Int),.int (d2:Int)]) hu2;have hv2:upd Y1 u2 (.tup [.int (c1:Int),.int (a2:Int),.int (a3:Int),.int (b2:Int),.int (c0:Int),.int (d0:Int),.int (c2:Int),.int (c3:Int),.int (d2:Int)]) u2=some (.tup [.int (c1:Int),.int (a2:Int),.int (a3:Int),.int (b2:Int),.int (c0:Int),.int (d0:Int),.int (c2:Int),.int (c3:Int),.int (d2:Int)]):=Ab;generalize upd Y1 u2 (.tup [.int (c1:Int),.int (a2:Int),.int (a3:Int),.int (b2:Int),.int (c0:Int),.int (d0:Int),.int (c2:Int),.int (c3:Int),.int (d2:Int)])=X2 at s2 hv2 ⊢;have i2:=hj1.same s2;have sts2:∀ x ∈ ([(c1:Int),(a2:Int),(a3:Int),(b2:Int),(c0:Int),(d0:Int),(c2:Int),(c3:Int),(d2:Int)]:List Int),Dq x:=by
   intro x hx;simp only [List.mem_cons,List.not_mem_nil,or_false] at hx;rcases hx with rfl | rfl | rfl | rfl | rfl | rfl | rfl | rfl | rfl
   ·exact st lc1
   ·exact st la2
   ·exact st la3
   ·exact st lb2
   ·exact st lc0
   ·exact st ld0
   ·exact st lc2
   ·exact st lc3
   ·exact st ld2
  refine ⟨p,dx,mem,pr,u2,g,G,N,((M+1)+1),r,m,(c1:Int),[(a2:Int),(a3:Int),(b2:Int),(c0:Int),(d0:Int),(c2:Int),(c3:Int),(d2:Int)],rfl,i2,hv2,rfl,sts2,by lia,fun Y2 fr2 hj2=>?_⟩;have nk2:∀ {b:Addr} {xs:List V},X2 b=some (.tup xs)->Y2 b=some (.tup xs):=fun {b xs} e=>by
   obtain ⟨kc,c1,_⟩:=i2.me.ce;exact fr2 _ _ e (AC e c1 (by intro z; cases z))
  have hta2:=nk2 (s2 _ _ hta1);have htb2:=nk2 (s2 _ _ htb1);have htc2:=nk2 (s2 _ _ htc1);have htd2:=nk2 (s2 _ _ htd1);have f2:FrJ g m Y1 Y2:=fun b o e _ _ _ n4 _=>fr2 _ _ (s2 _ _ e) n4;refine ⟨_,rfl,p,dx,_,rfl,hj2.hp,Iz _ _ _ _ _,_,rfl,td,_,0,.int (d0:Int),rfl,rfl,SqT.of htd2,Ai (j:=0) rfl,_,rfl,ta,_,3,.int (a3:Int),rfl,rfl,SqT.of hta2,Ai (j:=3) rfl,_,rfl,tb,_,2,.int (b2:Int),rfl,rfl,SqT.of htb2,Ai (j:=2) rfl,_,rfl,tb,_,3,.int (b3:Int),rfl,rfl,SqT.of htb2,Ai (j:=3) rfl,_,rfl,tc,_,1,.int (c1:Int),rfl,rfl,SqT.of htc2,Ai (j:=1) rfl,_,rfl,td,_,1,.int (d1:Int),rfl,rfl,SqT.of htd2,Ai (j:=1) rfl,_,rfl,tc,_,3,.int (c3:Int),rfl,rfl,SqT.of htc2,Ai (j:=3) rfl,_,rfl,td,_,2,.int (d2:Int),rfl,rfl,SqT.of htd2,Ai (j:=2) rfl,_,rfl,td,_,3,.int (d3:Int),rfl,rfl,SqT.of htd2,Ai (j:=3) rfl,(by show 9<=sizeLine; decide),fun u3 hu3=>?_⟩;have s3:=Ah (o:=.tup [.int (d0:Int),.int (a3:Int),.int (b2:Int),.int (b3:Int),.int (c1:Int),.int (d1:Int),.int (c3:Int),.int (d2:Int),.int (d3:Int)]) hu3;have hv3:upd Y2 u3 (.tup [.int (d0:Int),.int (a3:Int),.int (b2:Int),.int (b3:Int),.int (c1:Int),.int (d1:Int),.int (c3:Int),.int (d2:Int),.int (d3:Int)]) u3=some (.tup [.int (d0:Int),.int (a3:Int),.int (b2:Int),.int (b3:Int),.int (c1:Int),.int (d1:Int),.int (c3:Int),.int (d2:Int),.int (d3:Int)]):=Ab;generalize upd Y2 u3 (.tup [.int (d0:Int),.int (a3:Int),.int (b2:Int),.int (b3:Int),.int (c1:Int),.int (d1:Int),.int (c3:Int),.int (d2:Int),.int (d3:Int)])=X3 at s3 hv3 ⊢;have i3:=hj2.same s3;have sts3:∀ x ∈ ([(d0:Int),(a3:Int),(b2:Int),(b3:Int),(c1:Int),(d1:Int),(c3:Int),(d2:Int),(d3:Int)]:List Int),Dq x:=by
   intro x hx;simp only [List.mem_cons,List.not_mem_nil,or_false] at hx;rcases hx with rfl | rfl | rfl | rfl | rfl | rfl | rfl | rfl | rfl
   ·exact st ld0
   ·exact st la3
   ·exact st lb2
   ·exact st lb3
   ·exact st lc1
   ·exact st ld1
   ·exact st lc3
   ·exact st ld2
   ·exact st ld3
  refine ⟨p,dx,mem,pr,u3,g,G,N,(((M+1)+1)+1),r,m,(d0:Int),[(a3:Int),(b2:Int),(b3:Int),(c1:Int),(d1:Int),(c3:Int),(d2:Int),(d3:Int)],rfl,i3,hv3,rfl,sts3,by lia,fun Y3 fr3 hj3=>?_⟩;have nk3:∀ {b:Addr} {xs:List V},X3 b=some (.tup xs)->Y3 b=some (.tup xs):=fun {b xs} e=>by
   obtain ⟨kc,c1,_⟩:=i3.me.ce;exact fr3 _ _ e (AC e c1 (by intro z; cases z))
  have hta3:=nk3 (s3 _ _ hta2);have htb3:=nk3 (s3 _ _ htb2);have htc3:=nk3 (s3 _ _ htc2);have htd3:=nk3 (s3 _ _ htd2);have f3:FrJ g m Y2 Y3:=fun b o e _ _ _ n4 _=>fr3 _ _ (s3 _ _ e) n4;rw [ek0,ek1,ek2,ek3];refine ⟨(by show 4<=sizeLine; decide),fun u hu=>?_⟩;have su:An Y3 (upd Y3 u (.tup [.int (k0:Int),.int (k1:Int),.int (k2:Int),.int (k3:Int)])):=Ah hu;have hv:upd Y3 u (.tup [.int (k0:Int),.int (k1:Int),.int (k2:Int),.int (k3:Int)]) u=some (.tup [.int (k0:Int),.int (k1:Int),.int (k2:Int),.int (k3:Int)]):=Ab;have i:=hj3.same su;have lf:∀ {k:Nat},k < 8->Aq G k ((0:Nat):Int):=fun {k} h=>⟨_,hj.ok.leaf k h,rfl⟩
  refine ⟨g,G,u,k0,k1,k2,k3,((0:Nat):Int),rfl,i.gr,i.ok,hv,⟨lf kl0,lf kl1,lf kl2,lf kl3⟩,by decide,by lia,fun x G' H' fr hg' go e=>?_⟩;refine k x G' H' ((f0.trans (f1.trans (f2.trans f3))).trans ((An.j su).trans fr.j)) (i.fr fr hg' go) go ⟨0,go.lev hl,Nat.le_refl 0,⟨_,e,rfl⟩,?_⟩;have ga:=CM (go.get ea);have gb:=CM (go.get eb);have gc:=CM (go.get ec);have gd:=CM (go.get ed);obtain ⟨w0,w1,w2,w3⟩:=CM (go.get en);obtain ⟨v0,v1,v2,v3⟩:=CM e;have z00:Ap G' 2 n 0 0=(a0:Int):=by
   show ((qO G' (qO G' n 0) 0:Nat):Int)=_;rw [w0,ga.1]
  have z10:Ap G' 2 n 1 0=(a1:Int):=by
   show ((qO G' (qO G' n 0) 1:Nat):Int)=_;rw [w0,ga.2.1]
  have z20:Ap G' 2 n 2 0=(b0:Int):=by
   show ((qO G' (qO G' n 1) 0:Nat):Int)=_;rw [w1,gb.1]
  have z30:Ap G' 2 n 3 0=(b1:Int):=by
   show ((qO G' (qO G' n 1) 1:Nat):Int)=_;rw [w1,gb.2.1]
  have z01:Ap G' 2 n 0 1=(a2:Int):=by
   show ((qO G' (qO G' n 0) 2:Nat):Int)=_;rw [w0,ga.2.2.1]
  have z11:Ap G' 2 n 1 1=(a3:Int):=by
   show ((qO G' (qO G' n 0) 3:Nat):Int)=_;rw [w0,ga.2.2.2]
  have z21:Ap G' 2 n 2 1=(b2:Int):=by
   show ((qO G' (qO G' n 1) 2:Nat):Int)=_;rw [w1,gb.2.2.1]
  have z31:Ap G' 2 n 3 1=(b3:Int):=by
   show ((qO G' (qO G' n 1) 3:Nat):Int)=_;rw [w1,gb.2.2.2]
  have z02:Ap G' 2 n 0 2=(c0:Int):=by
   show ((qO G' (qO G' n 2) 0:Nat):Int)=_;rw [w2,gc.1]
  have z12:Ap G' 2 n 1 2=(c1:Int):=by
   show ((qO G' (qO G' n 2) 1:Nat):Int)=_;rw [w2,gc.2.1]
  have z22:Ap G' 2 n 2 2=(d0:Int):=by
   show ((qO G' (qO G' n 3) 0:Nat):Int)=_;rw [w3,gd.1]
  have z32:Ap G' 2 n 3 2=(d1:Int):=by
   show ((qO G' (qO G' n 3) 1:Nat):Int)=_;rw [w3,gd.2.1]
  have z03:Ap G' 2 n 0 3=(c2:Int):=by
   show ((qO G' (qO G' n 2) 2:Nat):Int)=_;rw [w2,gc.2.2.1]
  have z13:Ap G' 2 n 1 3=(c3:Int):=by
   show ((qO G' (qO G' n 2) 3:Nat):Int)=_;rw [w2,gc.2.2.2]
  have z23:Ap G' 2 n 2 3=(d2:Int):=by
   show ((qO G' (qO G' n 3) 2:Nat):Int)=_;rw [w3,gd.2.2.1]
  have z33:Ap G' 2 n 3 3=(d3:Int):=by
   show ((qO G' (qO G' n 3) 3:Nat):Int)=_;rw [w3,gd.2.2.2]
  have y0:Ap G' 1 x 0 0=AR r 1 (Ap G' 2 n) 1 1:=by
   have e1:Ap G' 1 x 0 0=(k0:Int):=by
    show ((qO G' x 0:Nat):Int)=_;rw [v0]
   rw [e1];show _=DS r (Ap G' 2 n 1 1) [Ap G' 2 n 0 0,Ap G' 2 n 1 0,Ap G' 2 n 2 0,Ap G' 2 n 0 1,Ap G' 2 n 2 1,Ap G' 2 n 0 2,Ap G' 2 n 1 2,Ap G' 2 n 2 2];rw [z11,z00,z10,z20,z01,z21,z02,z12,z22];exact ek0.symm
  have y1:Ap G' 1 x 1 0=AR r 1 (Ap G' 2 n) 2 1:=by
   have e1:Ap G' 1 x 1 0=(k1:Int):=by
    show ((qO G' x 1:Nat):Int)=_;rw [v1]
   rw [e1];show _=DS r (Ap G' 2 n 2 1) [Ap G' 2 n 1 0,Ap G' 2 n 2 0,Ap G' 2 n 3 0,Ap G' 2 n 1 1,Ap G' 2 n 3 1,Ap G' 2 n 1 2,Ap G' 2 n 2 2,Ap G' 2 n 3 2];rw [z21,z10,z20,z30,z11,z31,z12,z22,z32];exact ek1.symm
  have y2:Ap G' 1 x 0 1=AR r 1 (Ap G' 2 n) 1 2:=by
   have e1:Ap G' 1 x 0 1=(k2:Int):=by
    show ((qO G' x 2:Nat):Int)=_;rw [v2]
   rw [e1];show _=DS r (Ap G' 2 n 1 2) [Ap G' 2 n 0 1,Ap G' 2 n 1 1,Ap G' 2 n 2 1,Ap G' 2 n 0 2,Ap G' 2 n 2 2,Ap G' 2 n 0 3,Ap G' 2 n 1 3,Ap G' 2 n 2 3];rw [z12,z01,z11,z21,z02,z22,z03,z13,z23];exact ek2.symm
  have y3:Ap G' 1 x 1 1=AR r 1 (Ap G' 2 n) 2 2:=by
   have e1:Ap G' 1 x 1 1=(k3:Int):=by
    show ((qO G' x 3:Nat):Int)=_;rw [v3]
   rw [e1];show _=DS r (Ap G' 2 n 2 2) [Ap G' 2 n 1 1,Ap G' 2 n 2 1,Ap G' 2 n 3 1,Ap G' 2 n 1 2,Ap G' 2 n 3 2,Ap G' 2 n 1 3,Ap G' 2 n 2 3,Ap G' 2 n 3 3];rw [z22,z11,z21,z31,z12,z32,z13,z23,z33];exact ek3.symm
  intro x' y' hx hy
  match x',hx,y',hy with
  | 0,_,0,_=>exact y0
  | 1,_,0,_=>exact y1
  | 0,_,1,_=>exact y2
  | 1,_,1,_=>exact y3
inductive SpCj (a:Ad) (vs:List V) (H:Hp) (Q:VK):Prop
 | mk (p dx gp mem pr l kc:Addr) (g:GA) (G:Gv) (n e:Nat) (q:Sq) (_:vs=[.ref p,.int n,.int e]) (_:H p=some (.ins a.c_Jumps dx (jf5 g.p mem pr l kc))) (_:AI a H g G) (_:G[n]?=some q) (_:2+(e:Int)<=q.lev) (_:Q .non H):SpCj a vs H Q
def spCj (a:Ad):Sp:=fun vs H Q _=>SpCj a vs H Q
theorem ok_cj {f:Addr} {fd:FuncData} (F:Fun K "check_jump" "Jumps.check_jump" BM f fd) (T:Top K mg a) (aC:BK P w K mg base CX0 3 a.c_Grove "level_of" Bu (LU a)) (aQ:Cal P w K mg base CX0 1 "is_whole" Ed Rv):AU P w K mg base CX0 4 f fd Cg (spCj a):=by
 refine F.ok Fj (fun vs H Q E h=>?_) (fun cdv A outer s H vs Q E hr h=>?_)
 ·obtain ⟨p,dx,gp,mem,pr,l,kc,g,G,n,e,q,rfl,_⟩:=h;rfl
 ·obtain ⟨p,dx,gp,mem,pr,l,kc,g,G,n,e,q,rfl,hp,hg,eq,hl,k⟩:=h;refine ⟨_,(Ae (Av (i:=3) Fj.nd rfl (Or.inl rfl) (AF (AG (pv 0) rfl) aC (rm hr) Ar (Aa (pv 1) Ac))) (Ae (Ba (AJ Ji (pv 3) (Ev rfl T.k_LEAST_JUMPED) (AT _)) (Aj BS) AE) (Aj (Ba (PW.pt (PH (Fd (EK (Az aQ (rm hr) rfl Ar (Aa (pv 2) Ac)))) (ML (Fd (NM NP NP Af (pv 2) (AH Ef (pv 3) (Ev rfl T.k_LEAST_JUMPED))))))) (Aj BS) AE)))),?_⟩
  try dsimp only [cxK]
  refine ⟨_,rfl,p,_,dx,_,_,rfl,hp,T.cl_Jumps,T.na_Jumps_grove,Fe _ _ _ _ _,g.p,g.dx,_,rfl,hg.hp,Ga g,_,rfl,g,G,n,q,rfl,hg,eq,?_⟩;refine ⟨_,rfl,_,_,rfl,rfl,_,rfl,?_⟩;rw [decide_eq_false (by lia:¬ q.lev < 2)];refine Cz ?_;refine ⟨_,rfl,_,rfl,true,rfl,Cz ⟨_,rfl,_,_,rfl,rfl,_,rfl,?_⟩⟩;rw [decide_eq_true (by lia:(0:Int)<=(e:Int))];refine EC ⟨_,rfl,_,_,rfl,rfl,_,_,rfl,rfl,_,rfl,?_⟩;rw [decide_eq_true (by lia:(e:Int)<=q.lev - 2)];exact Cz k
end
end J
namespace J
open PySem L2
def Sv (o:HO):Prop:=Nv o\/∃ xs:List V,o=.lst xs/\xs.length<=50
def KpS (H H':Hp):Prop:=∀ b o,H b=some o->Sv o->H' b=some o
theorem Sv.lst {xs:List V} (h:xs.length<=50):Sv (.lst xs):=.inr ⟨xs,rfl,h⟩
theorem KpS.refl (H:Hp):KpS H H:=fun _ _ e _=>e
theorem KpS.trans {H1 H2 H3:Hp} (h:KpS H1 H2) (k:KpS H2 H3):KpS H1 H3:=fun b o e s=>k b o (h b o e s) s
theorem An.kps {H H':Hp} (h:An H H'):KpS H H':=fun b o e _=>h b o e
theorem Bs.long {G:Gv} (h:Bs G):56<=G.length:=(List.getElem?_eq_some_iff.mp (h 47 (by decide))).1
theorem Sv.nl {b x:Addr} {H:Hp} {o:HO} {xs:List V} (s:Sv o) (e:H b=some o) (ex:H x=some (.lst xs)) (lx:50 < xs.length):b≠x:=fun z=>by
 rw [z,ex] at e;cases e;rcases s with s | ⟨ys,ey,ly⟩
 ·cases s
 ·cases ey;lia
theorem Sv.nt {b x:Addr} {H:Hp} {o:HO} {k:List (List Key×V)} (s:Sv o) (e:H b=some o) (ex:H x=some (.dT k)):b≠x:=fun z=>by
 rw [z,ex] at e;cases e;rcases s with s | ⟨ys,ey,ly⟩
 ·cases s
 ·cases ey
theorem Sv.nk {b x:Addr} {H:Hp} {o:HO} {k:List (Key×V)} (s:Sv o) (e:H b=some o) (ex:H x=some (.dK k)):b≠x:=fun z=>by
 rw [z,ex] at e;cases e;rcases s with s | ⟨ys,ey,ly⟩
 ·cases s
 ·cases ey
theorem Fr.kps {a:Ad} {H H':Hp} {g:GA} {G:Gv} (f:Fr g H H') (hg:AI a H g G) (l56:56<=G.length):KpS H H':=by
 intro b o e s;obtain ⟨ts,h3,h4⟩:=hg.pt;have lt:ts.length=G.length:=Paired.length h4;exact f _ _ e (s.nl e hg.lv (by rw [List.length_map]; lia)) (s.nl e h3 (by rw [List.length_map]; lia)) (s.nt e hg.nm)
theorem FrJ.kps {a:Ad} {H H':Hp} {g:GA} {G:Gv} {N M:Nat} {r:AM} {m:MA} (f:FrJ g m H H') (hg:AI a H g G) (l56:56<=G.length) (hm:Fi H g G N M r m):KpS H H':=by
 intro b o e s;obtain ⟨ts,h3,h4⟩:=hg.pt;obtain ⟨kc,c1,_⟩:=hm.ce;have lt:ts.length=G.length:=Paired.length h4;refine f _ _ e (s.nl e hg.lv (by rw [List.length_map]; lia)) (s.nl e h3 (by rw [List.length_map]; lia)) (s.nt e hg.nm) (s.nt e c1) fun z=>?_;obtain ⟨j,hj⟩:=List.getElem?_of_mem z;obtain ⟨kv,e2,_⟩:=hm.sq j b hj;exact s.nk e e2 rfl
theorem Paired.impM {α β:Type} {F G:α->β->Prop}:∀ {l:List α} {m:List β},(∀ x y,y ∈ m->F x y->G x y)->Paired F l m->Paired G l m
 | _,_,_,.nil=>.nil
 | _,_,h,.cons r t=>.cons (h _ _ List.mem_cons_self r) (Paired.impM (fun x y hy=>h x y (List.mem_cons_of_mem _ hy)) t)
theorem Gj.kps {H H':Hp} {q:Addr} {c:LC4} (k:KpS H H') (ok:c.Ok) (h:Gj H q c):Gj H' q c:=by
 obtain ⟨la,lw,tas,tws,h1,h2,h3,h4,h5⟩:=h;have l3:=Paired.length h3;have l5:=Paired.length h5;have f2:=ok.few;have a8:((c.wis.map fun p=>p.1).length:Int)<=9 - 0:=IJ (c.wis.map fun p=>p.1) 0 (by decide) (fun n hn=>by
  obtain ⟨p,hp,rfl⟩:=List.mem_map.mp hn;have:=(ok.wis p hp).1;lia) (by
   rw [List.pairwise_map];exact ok.asc)
 rw [List.length_map] at a8;exact ⟨la,lw,tas,tws,k _ _ h1 (.inl .tup),k _ _ h2 (.lst (by rw [List.length_map]; lia)),Paired.imp (fun t p e=>k _ _ e (.inl .tup)) h3,k _ _ h4 (.lst (by rw [List.length_map]; lia)),Paired.imp (fun t p e=>k _ _ e (.inl .tup)) h5⟩
theorem Gi.kps {H H':Hp} {q:Addr} {r:List LC4} (k:KpS H H') (ok:Np r) (h:Gi H q r):Gi H' q r:=by
 obtain ⟨ts,h1,h2⟩:=h;have l2:=Paired.length h2;have f:=ok.few;exact ⟨ts,k _ _ h1 (.lst (by rw [List.length_map]; lia)),Paired.impM (fun t c hc e=>e.kps k (ok.ok c hc)) h2⟩
theorem CA.kps {a:Ad} {H H':Hp} {p:Addr} {x:Str} {r:AM} (k:KpS H H') (h:CA a H p x r):CA a H' p x r:=h.kp fun b o e n=>k b o e (.inl n)
def Dj (m m':MA):Prop:=m.kc≠m'.kc/\∀ d ∈ m.ds,d ∉ m'.ds
theorem Dj.symm {m m':MA} (h:Dj m m'):Dj m' m:=⟨Ne.symm h.1,fun d hd z=>h.2 d z hd⟩
theorem Fi.nds {H:Hp} {g:GA} {G:Gv} {N M:Nat} {r:AM} {m:MA} (h:Fi H g G N M r m) {b:Addr} {o:HO} (e:H b=some o) (n:∀ kk,o≠.dK kk):b ∉ m.ds:=fun z=>by
 obtain ⟨j,hj⟩:=List.getElem?_of_mem z;obtain ⟨kv,e2,_⟩:=h.sq j b hj;rw [e] at e2;cases e2;exact n _ rfl
theorem Fi.frJ {a:Ad} {H H':Hp} {g:GA} {G G':Gv} {N M N' M' i:Nat} {r r':AM} {m m':MA} (h:Fi H g G N M r m) (h':Fi H g G N' M' r' m') (hg:AI a H g G) (ok:GOk G) (dj:Dj m m') (f:FrJ g m' H H') (go:AZ G G' i):Fi H' g G' N M r m:=by
 obtain ⟨ts,h3,_⟩:=hg.pt;obtain ⟨kc',c1',_⟩:=h'.ce;refine h.kp ok go fun b o e w=>?_;rcases w with z | z | z | z
 ·have e2:=h.tp;rw [<-z,e] at e2;cases e2;exact f _ _ e (AC e hg.lv (by intro z; cases z)) (AC e h3 (by intro z; cases z)) (AC e hg.nm (by intro z; cases z)) (AC e c1' (by intro z; cases z)) (h'.nds e (by intro _ z; cases z))
 ·have e2:=h.l;rw [z] at e ⊢;rw [e] at e2;cases e2;exact f _ _ e h.ap.1 h.ap.2.1 (AC e hg.nm (by intro z; cases z)) (AC e c1' (by intro z; cases z)) (h'.nds e (by intro _ z; cases z))
 ·obtain ⟨j,hj⟩:=List.getElem?_of_mem z;obtain ⟨kv,e2,_⟩:=h.sq j b hj;rw [e] at e2;cases e2;exact f _ _ e (AC e hg.lv (by intro z; cases z)) (AC e h3 (by intro z; cases z)) (AC e hg.nm (by intro z; cases z)) (AC e c1' (by intro z; cases z)) (dj.2 _ z)
 ·obtain ⟨kc,e2,_⟩:=h.ce;rw [z] at e ⊢;rw [e] at e2;cases e2;exact f _ _ e (AC e hg.lv (by intro z; cases z)) (AC e h3 (by intro z; cases z)) h.ap.2.2 dj.1 (h'.nds e (by intro _ z; cases z))
theorem JW.oth {a:Ad} {H H':Hp} {g:GA} {G G':Gv} {N M N' M' i:Nat} {p dx mem pr:Addr} {r r':AM} {m m':MA} (h:JW a H g G N M p dx mem pr r m) (h':Fi H g G N' M' r' m') (dj:Dj m m') (f:FrJ g m' H H') (hg':AI a H' g G') (go:AZ G G' i):JW a H' g G' N M p dx mem pr r m:=by
 obtain ⟨ts,h3,_⟩:=h.gr.pt;obtain ⟨kc',c1',_⟩:=h'.ce;exact ⟨hg',go.ok,h.bs.goes go,f _ _ h.br h.nbr.1 h.nbr.2 (AC h.br h.gr.nm (by intro z; cases z)) (AC h.br c1' (by intro z; cases z)) (h'.nds h.br (by intro _ z; cases z)),h.nbr,f _ _ h.hp (AC h.hp h.gr.lv (by intro z; cases z)) (AC h.hp h3 (by intro z; cases z)) (AC h.hp h.gr.nm (by intro z; cases z)) (AC h.hp c1' (by intro z; cases z)) (h'.nds h.hp (by intro _ z; cases z)),h.ru.kps (f.kps h.gr h.bs.long h'),h.rok,h.rest,h.me.frJ h' h.gr h.ok dj f go⟩
theorem JW.putL {a:Ad} {H:Hp} {g:GA} {G:Gv} {N M:Nat} {p dx mem pr x:Addr} {r:AM} {m:MA} {xs:List V} {o:HO} (h:JW a H g G N M p dx mem pr r m) (hx:H x=some (.lst xs)) (n1:x≠g.lv) (n2:x≠g.pt) (n3:x≠g.br) (n4:x≠m.l):JW a (upd H x o) g G N M p dx mem pr r m:=by
 have other:∀ {b v},H b=some v->(∀ l,v≠.lst l)->upd H x o b=some v:=fun {b v} e n=>by rw [As (AC e hx (n _))]; exact e
 refine ⟨h.gr.put hx n1 n2,h.ok,h.bs,by rw [As (Ne.symm n3)]; exact h.br,h.nbr,other h.hp (by intro _ z; cases z),h.ru.kp fun b o e n=>other e fun l z=>(by rw [z] at n; cases n),h.rok,h.rest,h.me.kp h.ok (AZ.refl h.ok) fun b o e w=>?_⟩;rcases w with z | z | z | z
 ·have e2:=h.me.tp;rw [<-z,e] at e2;cases e2;exact other e (by intro _ z; cases z)
 ·rw [z] at e ⊢;rw [As (Ne.symm n4)];exact e
 ·obtain ⟨j,hj⟩:=List.getElem?_of_mem z;obtain ⟨kv,e2,_⟩:=h.me.sq j b hj;rw [e] at e2;cases e2;exact other e (by intro _ z; cases z)
 ·obtain ⟨kc,e2,_⟩:=h.me.ce;rw [z] at e ⊢;rw [e] at e2;cases e2;exact other e (by intro _ z; cases z)
theorem Fi.new {a:Ad} {H H':Hp} {g:GA} {G:Gv} {N M:Nat} {r:AM} {m:MA} (hg:AI a H g G) (nl:H m.l=none) (nk:H m.kc=none) (h4:H' m.tp=some (.tup [.ref m.l,.ref m.kc])) (h5:H' m.l=some (.lst (m.ds.map V.ref))) (h6:H' m.kc=some (.dT [])) (h7:∀ d ∈ m.ds,H' d=some (.dK [])) (h8:m.ds.length=47) (h9:m.ds.Nodup):Fi H' g G N M r m:=by
 obtain ⟨ts,h3,_⟩:=hg.pt;exact ⟨h4,h5,⟨Ne.symm (Am hg.lv nl),Ne.symm (Am h3 nl),Ne.symm (Am hg.nm nk)⟩,h8,h9,fun e d ed=>⟨[],h7 d (List.mem_of_getElem? ed),Nat.zero_le _,fun p hp=>(nomatch hp),fun n v hv=>by cases hv⟩,⟨[],h6,Nat.zero_le _,fun ks v hv=>by cases hv⟩⟩
structure JB where
 p:Addr
 dx:Addr
 mem:Addr
 pr:Addr
 rl:List LC4
 m:MA
def JB.r (b:JB):AM:=b.rl.map LC4.a
def JWB (a:Ad) (H:Hp) (g:GA) (G:Gv) (N M:Nat) (b:JB):Prop:=JW a H g G N M b.p b.dx b.mem b.pr b.r b.m
structure FR (a:Ad) (H:Hp) (g:GA) (G:Gv) (N M:Nat) (b1 b2:JB):Prop where
 j1:JWB a H g G N M b1
 j2:JWB a H g G N M b2
 dj:Dj b1.m b2.m
 hm:H b1.mem=some (.dK (mK [(Ek b1.r,b1.m)]))
 n1:b1.mem ∉ b1.m.ds
 n2:b1.mem ∉ b2.m.ds
theorem FrJ.mem {a:Ad} {H H':Hp} {g:GA} {G:Gv} {N M:Nat} {r:AM} {m:MA} {x:Addr} {k:List (Key×V)} (f:FrJ g m H H') (hg:AI a H g G) (hm:Fi H g G N M r m) (e:H x=some (.dK k)) (n:x ∉ m.ds):H' x=some (.dK k):=by
 obtain ⟨ts,h3,_⟩:=hg.pt;obtain ⟨kc,c1,_⟩:=hm.ce;exact f _ _ e (AC e hg.lv (by intro z; cases z)) (AC e h3 (by intro z; cases z)) (AC e hg.nm (by intro z; cases z)) (AC e c1 (by intro z; cases z)) n
section
variable {a:Ad} {H H':Hp} {g:GA} {G G':Gv} {N M i:Nat} {b1 b2:JB}
theorem FR.same (h:FR a H g G N M b1 b2) (s:An H H'):FR a H' g G N M b1 b2:=⟨JW.same s h.j1,JW.same s h.j2,h.dj,s _ _ h.hm,h.n1,h.n2⟩
theorem FR.fr (h:FR a H g G N M b1 b2) (f:Fr g H H') (hg':AI a H' g G') (go:AZ G G' i):FR a H' g G' N M b1 b2:=by
 have j1:JW a H g G N M b1.p b1.dx b1.mem b1.pr b1.r b1.m:=h.j1;have j2:JW a H g G N M b2.p b2.dx b2.mem b2.pr b2.r b2.m:=h.j2;exact ⟨j1.fr f hg' go,j2.fr f hg' go,h.dj,f.j.mem j1.gr j1.me h.hm h.n1,h.n1,h.n2⟩
theorem FR.putL {x:Addr} {xs:List V} {o:HO} (h:FR a H g G N M b1 b2) (hx:H x=some (.lst xs)) (n1:x≠g.lv) (n2:x≠g.pt) (n3:x≠g.br) (n4:x≠b1.m.l) (n5:x≠b2.m.l):FR a (upd H x o) g G N M b1 b2:=by
 refine ⟨JW.putL h.j1 hx n1 n2 n3 n4,JW.putL h.j2 hx n1 n2 n3 n5,h.dj,?_,h.n1,h.n2⟩;rw [As (AC h.hm hx (by intro z; cases z))];exact h.hm
end
section
variable {a:Ad} {H H':Hp} {g:GA} {G G':Gv} {N M i:Nat} {b b1 b2:JB} {ms ms':List (Str×MA)}
end
end J
namespace J
open PySem L2
theorem Qi (G:Gv):∀ (l n x y i j:Nat),cel G l n (x+2 ^ l * i) (y+2 ^ l * j)=cel G l n x y
 | 0,n,x,y,i,j=>rfl
 | l+1,n,x,y,i,j=>by
  show cel G l (qO G n (((x+2 ^ (l+1) * i) / 2 ^ l) % 2+2 * (((y+2 ^ (l+1) * j) / 2 ^ l) % 2))) (x+2 ^ (l+1) * i) (y+2 ^ (l+1) * j)=cel G l (qO G n ((x / 2 ^ l) % 2+2 * ((y / 2 ^ l) % 2))) x y;have p:0 < 2 ^ l:=Nat.pow_pos (by decide);have e:∀ i:Nat,2 ^ (l+1) * i=2 ^ l * (2 * i):=fun i=>by rw [Nat.pow_succ,Nat.mul_assoc]
  rw [e i,e j,Nat.add_mul_div_left _ _ p,Nat.add_mul_div_left _ _ p,Nat.add_mul_mod_self_left,Nat.add_mul_mod_self_left];exact Qi G l _ x y (2 * i) (2 * j)
theorem Ly (G:Gv) (l n:Nat) {x y i j:Nat} (hx:x < 2 ^ l) (hy:y < 2 ^ l) (hi:i < 2) (hj:j < 2):Ap G (l+1) n (x+2 ^ l * i) (y+2 ^ l * j)=Ap G l (qO G n (i+2 * j)) x y:=by
 unfold Ap;show ((cel G l (qO G n (((x+2 ^ l * i) / 2 ^ l) % 2+2 * (((y+2 ^ l * j) / 2 ^ l) % 2))) (x+2 ^ l * i) (y+2 ^ l * j):Nat):Int)=_;have p:0 < 2 ^ l:=Nat.pow_pos (by decide);rw [Nat.add_mul_div_left _ _ p,Nat.add_mul_div_left _ _ p,Nat.div_eq_of_lt hx,Nat.div_eq_of_lt hy,Nat.zero_add,Nat.zero_add,Nat.mod_eq_of_lt hi,Nat.mod_eq_of_lt hj,Qi]
theorem NA (r:AM) (c:Nat->Nat->Int) (n:Nat):∀ m,AR r (m+n) c=AR r m (AR r n c)
 | 0=>by rw [Nat.zero_add]; rfl
 | m+1=>by
  rw [show m+1+n=(m+n)+1 by lia];show stp r (AR r (m+n) c)=stp r (AR r m (AR r n c));rw [NA r c n m]
theorem JF (r:AM) {c d:Nat->Nat->Int} {X Y:Nat}:∀ (k x y:Nat),k<=x->k<=y->(∀ u v,x - k<=u->u<=x+k->y - k<=v->v<=y+k->c u v=d (u+X) (v+Y))->AR r k c x y=AR r k d (x+X) (y+Y)
 | 0,x,y,_,_,h=>h x y (by lia) (by lia) (by lia) (by lia)
 | k+1,x,y,hx,hy,h=>by
  have ih:∀ u v,x - 1<=u->u<=x+1->y - 1<=v->v<=y+1->AR r k c u v=AR r k d (u+X) (v+Y):=fun u v h1 h2 h3 h4=>JF r k u v (by lia) (by lia) fun a b q1 q2 q3 q4=>h a b (by lia) (by lia) (by lia) (by lia);show DS r (AR r k c x y) [AR r k c (x - 1) (y - 1),AR r k c x (y - 1),AR r k c (x+1) (y - 1),AR r k c (x - 1) y,AR r k c (x+1) y,AR r k c (x - 1) (y+1),AR r k c x (y+1),AR r k c (x+1) (y+1)]=DS r (AR r k d (x+X) (y+Y)) [AR r k d (x+X - 1) (y+Y - 1),AR r k d (x+X) (y+Y - 1),AR r k d (x+X+1) (y+Y - 1),AR r k d (x+X - 1) (y+Y),AR r k d (x+X+1) (y+Y),AR r k d (x+X - 1) (y+Y+1),AR r k d (x+X) (y+Y+1),AR r k d (x+X+1) (y+Y+1)];rw [ih x y (by lia) (by lia) (by lia) (by lia),ih (x - 1) (y - 1) (by lia) (by lia) (by lia) (by lia),ih x (y - 1) (by lia) (by lia) (by lia) (by lia),ih (x+1) (y - 1) (by lia) (by lia) (by lia) (by lia),ih (x - 1) y (by lia) (by lia) (by lia) (by lia),ih (x+1) y (by lia) (by lia) (by lia) (by lia),ih (x - 1) (y+1) (by lia) (by lia) (by lia) (by lia),ih x (y+1) (by lia) (by lia) (by lia) (by lia),ih (x+1) (y+1) (by lia) (by lia) (by lia) (by lia)];rw [show x - 1+X=x+X - 1 by lia,show y - 1+Y=y+Y - 1 by lia,show x+1+X=x+X+1 by lia,show y+1+Y=y+Y+1 by lia]
def Vw (G:Gv) (c:Nat->Nat->Int) (l m X Y:Nat):Prop:=∀ x y,x < 2 ^ l->y < 2 ^ l->Ap G l m x y=c (x+X) (y+Y)
theorem Vw.q {G:Gv} {c:Nat->Nat->Int} {l m X Y i j:Nat} (h:Vw G c (l+1) m X Y) (hi:i < 2) (hj:j < 2):Vw G c l (qO G m (i+2 * j)) (X+2 ^ l * i) (Y+2 ^ l * j):=fun x y hx hy=>by
 rw [<-Ly G l m hx hy hi hj,h _ _ ?_ ?_]
 ·rw [show x+2 ^ l * i+X=x+(X+2 ^ l * i) by lia,show y+2 ^ l * j+Y=y+(Y+2 ^ l * j) by lia]
 ·rw [Nat.pow_succ];have:2 ^ l * i<=2 ^ l * 1:=Nat.mul_le_mul_left _ (by lia);lia
 ·rw [Nat.pow_succ];have:2 ^ l * j<=2 ^ l * 1:=Nat.mul_le_mul_left _ (by lia);lia
theorem Vw.of {G:Gv} {c:Nat->Nat->Int} {l m X Y:Nat} (h0:Vw G c l (qO G m 0) X Y) (h1:Vw G c l (qO G m 1) (X+2 ^ l) Y) (h2:Vw G c l (qO G m 2) X (Y+2 ^ l)) (h3:Vw G c l (qO G m 3) (X+2 ^ l) (Y+2 ^ l)):Vw G c (l+1) m X Y:=fun x y hx hy=>by
 rw [Nat.pow_succ] at hx hy;by_cases zx:x < 2 ^ l
 ·by_cases zy:y < 2 ^ l
  ·have:=Ly G l m zx zy (i:=0) (j:=0) (by decide) (by decide);rw [show x+2 ^ l * 0=x by lia,show y+2 ^ l * 0=y by lia] at this;rw [this];exact h0 x y zx zy
  ·have:=Ly G l m zx (y:=y - 2 ^ l) (by lia) (i:=0) (j:=1) (by decide) (by decide);rw [show x+2 ^ l * 0=x by lia,show y - 2 ^ l+2 ^ l * 1=y by lia] at this;rw [this,h2 x (y - 2 ^ l) zx (by lia),show y - 2 ^ l+(Y+2 ^ l)=y+Y by lia]
 ·by_cases zy:y < 2 ^ l
  ·have:=Ly G l m (x:=x - 2 ^ l) (by lia) zy (i:=1) (j:=0) (by decide) (by decide);rw [show y+2 ^ l * 0=y by lia,show x - 2 ^ l+2 ^ l * 1=x by lia] at this;rw [this,h1 (x - 2 ^ l) y (by lia) zy,show x - 2 ^ l+(X+2 ^ l)=x+X by lia]
  ·have:=Ly G l m (x:=x - 2 ^ l) (y:=y - 2 ^ l) (by lia) (by lia) (i:=1) (j:=1) (by decide) (by decide);rw [show x - 2 ^ l+2 ^ l * 1=x by lia,show y - 2 ^ l+2 ^ l * 1=y by lia] at this;rw [this,h3 (x - 2 ^ l) (y - 2 ^ l) (by lia) (by lia),show x - 2 ^ l+(X+2 ^ l)=x+X by lia,show y - 2 ^ l+(Y+2 ^ l)=y+Y by lia]
theorem Vw.jump {G:Gv} {r:AM} {c:Nat->Nat->Int} {l e m k X Y:Nat} (h:Vw G c (l+2) m X Y) (he:e<=l) (j:∀ x y,x < 2 ^ (l+1)->y < 2 ^ (l+1)->Ap G (l+1) k x y=AR r (2 ^ e) (Ap G (l+2) m) (x+2 ^ l) (y+2 ^ l)):Vw G (AR r (2 ^ e) c) (l+1) k (X+2 ^ l) (Y+2 ^ l):=fun x y hx hy=>by
 have p:2 ^ e<=2 ^ l:=Nat.pow_le_pow_right (by decide) he;have p1:2 ^ (l+1)=2 ^ l * 2:=Nat.pow_succ ..;have p2:2 ^ (l+2)=2 ^ l * 2 * 2:=by rw [Nat.pow_succ,Nat.pow_succ]
 rw [j x y hx hy,JF r (X:=X) (Y:=Y) (2 ^ e) (x+2 ^ l) (y+2 ^ l) (by lia) (by lia) fun u v h1 h2 h3 h4=>h u v (by lia) (by lia)];rw [show x+2 ^ l+X=x+(X+2 ^ l) by lia,show y+2 ^ l+Y=y+(Y+2 ^ l) by lia]
end J
namespace J
open PySem L2
seal L2.PA L2.PE L2.PS L2.PSs L2.PT L2.PW
theorem Vw.at' {G:Gv} {c:Nat->Nat->Int} {l m X Y X' Y':Nat} (h:Vw G c l m X Y) (e1:X=X') (e2:Y=Y'):Vw G c l m X' Y':=by
 subst e1;subst e2;exact h
theorem Vw.goes {G G':Gv} {c:Nat->Nat->Int} {l m X Y i:Nat} (h:Vw G c l m X Y) (ok:GOk G) (go:AZ G G' i) (lv:Aq G m (l:Int)):Vw G' c l m X Y:=fun x y hx hy=>by
 rw [FS ok go lv];exact h x y hx hy
section
variable {P:Program} {w:World} {K:PySem.W.Frag} {mg:Str->Option Value} {base:Heap} {a:Ad}
inductive SW (a:Ad) (vs:List V) (H:Hp) (Q:VK):Prop
 | mk (g:GA) (G:Gv) (n l:Nat) (_:vs=[.ref g.p,.int n]) (_:AI a H g G) (_:GOk G) (_:Aq G n ((l+1+1:Nat):Int)) (_:l<=46) (_:G.length < 8000000) (_:∀ (L:Addr) (ks:List Nat) (G':Gv) (H':Hp),Fr g H H'->AI a H' g G'->AZ G G' 5->H' L=some (.lst (ks.map fun (k:Nat)=>V.int (k:Int)))->ks.length=9->(∀ i j,i < 3->j < 3->∃ k,ks[i+3 * j]?=some k/\Aq G' k ((l+1:Nat):Int)/\Vw G' (Ap G (l+2) n) (l+1) k (2 ^ l * i) (2 ^ l * j))->Q (.ref L) H'):SW a vs H Q
def JH (a:Ad):Sp:=fun vs H Q _=>SW a vs H Q
theorem ok_nine {f:Addr} {fd:FuncData} (F:Fun K "nine_parts" "nine_parts" DK f fd) (T:Top K mg a) (aB:BK P w K mg base CX0 2 a.c_Grove "linked" AY (FV a)):AU P w K mg base CX0 3 f fd Db (JH a):=by
 refine F.ok Df (fun vs H Q E h=>?_) (fun cdv A outer s H vs Q E hr h=>?_)
 ·obtain ⟨g,G,n,l,rfl,_⟩:=h;rfl
 ·obtain ⟨g,G,n,l,rfl,hg,ok,hl,l46,few,k⟩:=h;obtain ⟨qa,qb,qc,qd,en,la,lb,lc,ld⟩:=ok.four hl;obtain ⟨a0,a1,a2,a3,ea,la0,la1,la2,la3⟩:=ok.four la;obtain ⟨b0,b1,b2,b3,eb,lb0,lb1,lb2,lb3⟩:=ok.four lb;obtain ⟨c0,c1,c2,c3,ec,lc0,lc1,lc2,lc3⟩:=ok.four lc;obtain ⟨d0,d1,d2,d3,ed,ld0,ld1,ld2,ld3⟩:=ok.four ld;obtain ⟨ts,h3,h4⟩:=hg.pt;obtain ⟨t,et,ht⟩:=PairedM.get h4 en;obtain ⟨ta,eta,hta⟩:=PairedM.get h4 ea;obtain ⟨tb,etb,htb⟩:=PairedM.get h4 eb;obtain ⟨tc,etc,htc⟩:=PairedM.get h4 ec;obtain ⟨td,etd,htd⟩:=PairedM.get h4 ed;refine ⟨_,(Ae (Av (i:=2) Df.nd rfl (Or.inl rfl) (Al Au (AG (pv 0) rfl) (pv 1) (fun _ _=>rfl))) (Ae (Av (i:=3) Df.nd rfl (Or.inl rfl) (Al Au (AG (pv 0) rfl) (Al Ao (pv 2) Af (fun _ _=>rfl)) (fun _ _=>rfl))) (Ae (Av (i:=4) Df.nd rfl (Or.inl rfl) (Al Au (AG (pv 0) rfl) (Al Ao (pv 2) Af (fun _ _=>rfl)) (fun _ _=>rfl))) (Ae (Av (i:=5) Df.nd rfl (Or.inl rfl) (Al Au (AG (pv 0) rfl) (Al Ao (pv 2) Af (fun _ _=>rfl)) (fun _ _=>rfl))) (Ae (Av (i:=6) Df.nd rfl (Or.inl rfl) (Al Au (AG (pv 0) rfl) (Al Ao (pv 2) Af (fun _ _=>rfl)) (fun _ _=>rfl))) (Aj (AA (Bc (Aa (Al Ao (pv 2) Af (fun _ _=>rfl)) (Aa (AF (pv 0) aB (rm hr) Ar (Cf (Aa (Al Ao (pv 3) Af (fun _ _=>rfl)) (Aa (Al Ao (pv 4) Af (fun _ _=>rfl)) (Aa (Al Ao (pv 3) Af (fun _ _=>rfl)) (Aa (Al Ao (pv 4) Af (fun _ _=>rfl)) Ac)))) Ac)) (Aa (Al Ao (pv 2) Af (fun _ _=>rfl)) (Aa (AF (pv 0) aB (rm hr) Ar (Cf (Aa (Al Ao (pv 3) Af (fun _ _=>rfl)) (Aa (Al Ao (pv 3) Af (fun _ _=>rfl)) (Aa (Al Ao (pv 5) Af (fun _ _=>rfl)) (Aa (Al Ao (pv 5) Af (fun _ _=>rfl)) Ac)))) Ac)) (Aa (AF (pv 0) aB (rm hr) Ar (Cf (Aa (Al Ao (pv 3) Af (fun _ _=>rfl)) (Aa (Al Ao (pv 4) Af (fun _ _=>rfl)) (Aa (Al Ao (pv 5) Af (fun _ _=>rfl)) (Aa (Al Ao (pv 6) Af (fun _ _=>rfl)) Ac)))) Ac)) (Aa (AF (pv 0) aB (rm hr) Ar (Cf (Aa (Al Ao (pv 4) Af (fun _ _=>rfl)) (Aa (Al Ao (pv 4) Af (fun _ _=>rfl)) (Aa (Al Ao (pv 6) Af (fun _ _=>rfl)) (Aa (Al Ao (pv 6) Af (fun _ _=>rfl)) Ac)))) Ac)) (Aa (Al Ao (pv 2) Af (fun _ _=>rfl)) (Aa (AF (pv 0) aB (rm hr) Ar (Cf (Aa (Al Ao (pv 5) Af (fun _ _=>rfl)) (Aa (Al Ao (pv 6) Af (fun _ _=>rfl)) (Aa (Al Ao (pv 5) Af (fun _ _=>rfl)) (Aa (Al Ao (pv 6) Af (fun _ _=>rfl)) Ac)))) Ac)) (Aa (Al Ao (pv 2) Af (fun _ _=>rfl)) Ac))))))))))))))))),?_⟩
  try dsimp only [cxK]
  refine ⟨_,rfl,g.p,_,g.dx,_,_,rfl,hg.hp,T.cl_Grove,T.na_Grove_parts,EL g,_,rfl,g.pt,_,(n:Int),.ref t,rfl,rfl,SqL.of h3,Ai (by rw [List.getElem?_map,et]; rfl),?_⟩;refine ⟨_,rfl,g.p,_,g.dx,_,_,rfl,hg.hp,T.cl_Grove,T.na_Grove_parts,EL g,_,rfl,t,_,0,.int (qa:Int),rfl,rfl,SqT.of ht,Ai (j:=0) rfl,g.pt,_,(qa:Int),.ref ta,rfl,rfl,SqL.of h3,Ai (by rw [List.getElem?_map,eta]; rfl),?_⟩;refine ⟨_,rfl,g.p,_,g.dx,_,_,rfl,hg.hp,T.cl_Grove,T.na_Grove_parts,EL g,_,rfl,t,_,1,.int (qb:Int),rfl,rfl,SqT.of ht,Ai (j:=1) rfl,g.pt,_,(qb:Int),.ref tb,rfl,rfl,SqL.of h3,Ai (by rw [List.getElem?_map,etb]; rfl),?_⟩;refine ⟨_,rfl,g.p,_,g.dx,_,_,rfl,hg.hp,T.cl_Grove,T.na_Grove_parts,EL g,_,rfl,t,_,2,.int (qc:Int),rfl,rfl,SqT.of ht,Ai (j:=2) rfl,g.pt,_,(qc:Int),.ref tc,rfl,rfl,SqL.of h3,Ai (by rw [List.getElem?_map,etc]; rfl),?_⟩;refine ⟨_,rfl,g.p,_,g.dx,_,_,rfl,hg.hp,T.cl_Grove,T.na_Grove_parts,EL g,_,rfl,t,_,3,.int (qd:Int),rfl,rfl,SqT.of ht,Ai (j:=3) rfl,g.pt,_,(qd:Int),.ref td,rfl,rfl,SqL.of h3,Ai (by rw [List.getElem?_map,etd]; rfl),?_⟩;refine ⟨_,rfl,t,_,0,.int (qa:Int),rfl,rfl,SqT.of ht,Ai (j:=0) rfl,_,rfl,g.p,g.dx,_,rfl,hg.hp,CT g,_,rfl,ta,_,1,.int (a1:Int),rfl,rfl,SqT.of hta,Ai (j:=1) rfl,_,rfl,tb,_,0,.int (b0:Int),rfl,rfl,SqT.of htb,Ai (j:=0) rfl,_,rfl,ta,_,3,.int (a3:Int),rfl,rfl,SqT.of hta,Ai (j:=3) rfl,_,rfl,tb,_,2,.int (b2:Int),rfl,rfl,SqT.of htb,Ai (j:=2) rfl,(by show 4<=sizeLine; decide),fun u1 hu1=>?_⟩;have s1:=Ah (o:=.tup [.int (a1:Int),.int (b0:Int),.int (a3:Int),.int (b2:Int)]) hu1;have hv1:upd H u1 (.tup [.int (a1:Int),.int (b0:Int),.int (a3:Int),.int (b2:Int)]) u1=some (.tup [.int (a1:Int),.int (b0:Int),.int (a3:Int),.int (b2:Int)]):=Ab;have i1:=hg.same s1;have fw1:G.length < 8000000+0:=few;refine ⟨g,G,u1,a1,b0,a3,b2,(l:Int),rfl,i1,ok,hv1,⟨la1,lb0,la3,lb2⟩,by lia,by lia,fun m1 G1 H1 fr1 hg1 go1 e1=>?_⟩;have f1:Fr g H H1:=(An.fr s1).trans fr1;have kt1:∀ {b:Addr} {xs:List V},H b=some (.tup xs)->H1 b=some (.tup xs):=fun {b xs} e=>by
   obtain ⟨us,q3,_⟩:=i1.pt;have e':=s1 _ _ e;exact fr1 _ _ e' (AC e' i1.lv (by intro z; cases z)) (AC e' q3 (by intro z; cases z)) (AC e' i1.nm (by intro z; cases z))
  have ht_1:=kt1 ht;have hta_1:=kt1 hta;have htb_1:=kt1 htb;have htc_1:=kt1 htc;have htd_1:=kt1 htd;have gq1:=go1;have fq1:=f1;refine ⟨_,rfl,t,_,1,.int (qb:Int),rfl,rfl,SqT.of ht_1,Ai (j:=1) rfl,_,rfl,g.p,g.dx,_,rfl,hg1.hp,CT g,_,rfl,ta,_,2,.int (a2:Int),rfl,rfl,SqT.of hta_1,Ai (j:=2) rfl,_,rfl,ta,_,3,.int (a3:Int),rfl,rfl,SqT.of hta_1,Ai (j:=3) rfl,_,rfl,tc,_,0,.int (c0:Int),rfl,rfl,SqT.of htc_1,Ai (j:=0) rfl,_,rfl,tc,_,1,.int (c1:Int),rfl,rfl,SqT.of htc_1,Ai (j:=1) rfl,(by show 4<=sizeLine; decide),fun u3 hu3=>?_⟩;have s3:=Ah (o:=.tup [.int (a2:Int),.int (a3:Int),.int (c0:Int),.int (c1:Int)]) hu3;have hv3:upd H1 u3 (.tup [.int (a2:Int),.int (a3:Int),.int (c0:Int),.int (c1:Int)]) u3=some (.tup [.int (a2:Int),.int (a3:Int),.int (c0:Int),.int (c1:Int)]):=Ab;have i3:=hg1.same s3;have fw3:G1.length < 8000000+1:=by have:=(go1).few; lia
  refine ⟨g,G1,u3,a2,a3,c0,c1,(l:Int),rfl,i3,go1.ok,hv3,⟨(go1).lev la2,(go1).lev la3,(go1).lev lc0,(go1).lev lc1⟩,by lia,by lia,fun m3 G3 H3 fr3 hg3 go3 e3=>?_⟩;have f3:Fr g H1 H3:=(An.fr s3).trans fr3;have kt3:∀ {b:Addr} {xs:List V},H1 b=some (.tup xs)->H3 b=some (.tup xs):=fun {b xs} e=>by
   obtain ⟨us,q3,_⟩:=i3.pt;have e':=s3 _ _ e;exact fr3 _ _ e' (AC e' i3.lv (by intro z; cases z)) (AC e' q3 (by intro z; cases z)) (AC e' i3.nm (by intro z; cases z))
  have ht_3:=kt3 ht_1;have hta_3:=kt3 hta_1;have htb_3:=kt3 htb_1;have htc_3:=kt3 htc_1;have htd_3:=kt3 htd_1;have gq3:=go1.trans go3;have fq3:=fq1.trans f3;refine ⟨_,rfl,g.p,g.dx,_,rfl,hg3.hp,CT g,_,rfl,ta,_,3,.int (a3:Int),rfl,rfl,SqT.of hta_3,Ai (j:=3) rfl,_,rfl,tb,_,2,.int (b2:Int),rfl,rfl,SqT.of htb_3,Ai (j:=2) rfl,_,rfl,tc,_,1,.int (c1:Int),rfl,rfl,SqT.of htc_3,Ai (j:=1) rfl,_,rfl,td,_,0,.int (d0:Int),rfl,rfl,SqT.of htd_3,Ai (j:=0) rfl,(by show 4<=sizeLine; decide),fun u4 hu4=>?_⟩;have s4:=Ah (o:=.tup [.int (a3:Int),.int (b2:Int),.int (c1:Int),.int (d0:Int)]) hu4;have hv4:upd H3 u4 (.tup [.int (a3:Int),.int (b2:Int),.int (c1:Int),.int (d0:Int)]) u4=some (.tup [.int (a3:Int),.int (b2:Int),.int (c1:Int),.int (d0:Int)]):=Ab;have i4:=hg3.same s4;have fw4:G3.length < 8000000+2:=by have:=(gq3).few; lia
  refine ⟨g,G3,u4,a3,b2,c1,d0,(l:Int),rfl,i4,go3.ok,hv4,⟨(gq3).lev la3,(gq3).lev lb2,(gq3).lev lc1,(gq3).lev ld0⟩,by lia,by lia,fun m4 G4 H4 fr4 hg4 go4 e4=>?_⟩;have f4:Fr g H3 H4:=(An.fr s4).trans fr4;have kt4:∀ {b:Addr} {xs:List V},H3 b=some (.tup xs)->H4 b=some (.tup xs):=fun {b xs} e=>by
   obtain ⟨us,q3,_⟩:=i4.pt;have e':=s4 _ _ e;exact fr4 _ _ e' (AC e' i4.lv (by intro z; cases z)) (AC e' q3 (by intro z; cases z)) (AC e' i4.nm (by intro z; cases z))
  have ht_4:=kt4 ht_3;have hta_4:=kt4 hta_3;have htb_4:=kt4 htb_3;have htc_4:=kt4 htc_3;have htd_4:=kt4 htd_3;have gq4:=gq3.trans go4;have fq4:=fq3.trans f4;refine ⟨_,rfl,g.p,g.dx,_,rfl,hg4.hp,CT g,_,rfl,tb,_,2,.int (b2:Int),rfl,rfl,SqT.of htb_4,Ai (j:=2) rfl,_,rfl,tb,_,3,.int (b3:Int),rfl,rfl,SqT.of htb_4,Ai (j:=3) rfl,_,rfl,td,_,0,.int (d0:Int),rfl,rfl,SqT.of htd_4,Ai (j:=0) rfl,_,rfl,td,_,1,.int (d1:Int),rfl,rfl,SqT.of htd_4,Ai (j:=1) rfl,(by show 4<=sizeLine; decide),fun u5 hu5=>?_⟩;have s5:=Ah (o:=.tup [.int (b2:Int),.int (b3:Int),.int (d0:Int),.int (d1:Int)]) hu5;have hv5:upd H4 u5 (.tup [.int (b2:Int),.int (b3:Int),.int (d0:Int),.int (d1:Int)]) u5=some (.tup [.int (b2:Int),.int (b3:Int),.int (d0:Int),.int (d1:Int)]):=Ab;have i5:=hg4.same s5;have fw5:G4.length < 8000000+3:=by have:=(gq4).few; lia
  refine ⟨g,G4,u5,b2,b3,d0,d1,(l:Int),rfl,i5,go4.ok,hv5,⟨(gq4).lev lb2,(gq4).lev lb3,(gq4).lev ld0,(gq4).lev ld1⟩,by lia,by lia,fun m5 G5 H5 fr5 hg5 go5 e5=>?_⟩;have f5:Fr g H4 H5:=(An.fr s5).trans fr5;have kt5:∀ {b:Addr} {xs:List V},H4 b=some (.tup xs)->H5 b=some (.tup xs):=fun {b xs} e=>by
   obtain ⟨us,q3,_⟩:=i5.pt;have e':=s5 _ _ e;exact fr5 _ _ e' (AC e' i5.lv (by intro z; cases z)) (AC e' q3 (by intro z; cases z)) (AC e' i5.nm (by intro z; cases z))
  have ht_5:=kt5 ht_4;have hta_5:=kt5 hta_4;have htb_5:=kt5 htb_4;have htc_5:=kt5 htc_4;have htd_5:=kt5 htd_4;have gq5:=gq4.trans go5;have fq5:=fq4.trans f5;refine ⟨_,rfl,t,_,2,.int (qc:Int),rfl,rfl,SqT.of ht_5,Ai (j:=2) rfl,_,rfl,g.p,g.dx,_,rfl,hg5.hp,CT g,_,rfl,tc,_,1,.int (c1:Int),rfl,rfl,SqT.of htc_5,Ai (j:=1) rfl,_,rfl,td,_,0,.int (d0:Int),rfl,rfl,SqT.of htd_5,Ai (j:=0) rfl,_,rfl,tc,_,3,.int (c3:Int),rfl,rfl,SqT.of htc_5,Ai (j:=3) rfl,_,rfl,td,_,2,.int (d2:Int),rfl,rfl,SqT.of htd_5,Ai (j:=2) rfl,(by show 4<=sizeLine; decide),fun u7 hu7=>?_⟩;have s7:=Ah (o:=.tup [.int (c1:Int),.int (d0:Int),.int (c3:Int),.int (d2:Int)]) hu7;have hv7:upd H5 u7 (.tup [.int (c1:Int),.int (d0:Int),.int (c3:Int),.int (d2:Int)]) u7=some (.tup [.int (c1:Int),.int (d0:Int),.int (c3:Int),.int (d2:Int)]):=Ab;have i7:=hg5.same s7;have fw7:G5.length < 8000000+4:=by have:=(gq5).few; lia
  refine ⟨g,G5,u7,c1,d0,c3,d2,(l:Int),rfl,i7,go5.ok,hv7,⟨(gq5).lev lc1,(gq5).lev ld0,(gq5).lev lc3,(gq5).lev ld2⟩,by lia,by lia,fun m7 G7 H7 fr7 hg7 go7 e7=>?_⟩;have f7:Fr g H5 H7:=(An.fr s7).trans fr7;have kt7:∀ {b:Addr} {xs:List V},H5 b=some (.tup xs)->H7 b=some (.tup xs):=fun {b xs} e=>by
   obtain ⟨us,q3,_⟩:=i7.pt;have e':=s7 _ _ e;exact fr7 _ _ e' (AC e' i7.lv (by intro z; cases z)) (AC e' q3 (by intro z; cases z)) (AC e' i7.nm (by intro z; cases z))
  have ht_7:=kt7 ht_5;have hta_7:=kt7 hta_5;have htb_7:=kt7 htb_5;have htc_7:=kt7 htc_5;have htd_7:=kt7 htd_5;have gq7:=gq5.trans go7;have fq7:=fq5.trans f7;refine ⟨_,rfl,t,_,3,.int (qd:Int),rfl,rfl,SqT.of ht_7,Ai (j:=3) rfl,(by show 9<=sizeLine; decide),fun L hL=>?_⟩;have gz:AZ G G7 5:=gq7;have sL:=Ah (o:=.lst (([qa,m1,qb,m3,m4,m5,qc,m7,qd]:List Nat).map fun (k:Nat)=>V.int (k:Int))) hL;refine k L [qa,m1,qb,m3,m4,m5,qc,m7,qd] G7 _ (fq7.trans (An.fr sL)) (hg7.same sL) gz Ab rfl ?_;have v0:Vw G (Ap G (l+2) n) (l+1+1) n 0 0:=fun x y _ _=>rfl;obtain ⟨w0,w1,w2,w3⟩:=CM en;have p1:2 ^ (l+1)=2 ^ l * 2:=Nat.pow_succ ..;have va:Vw G (Ap G (l+2) n) (l+1) qa (2 ^ l * 0) (2 ^ l * 0):=(w0 ▸ v0.q (i:=0) (j:=0) (by decide) (by decide):Vw G (Ap G (l+2) n) (l+1) qa (0+2 ^ (l+1) * 0) (0+2 ^ (l+1) * 0)).at' (by lia) (by lia);obtain ⟨wa0,wa1,wa2,wa3⟩:=CM ea;have vb:Vw G (Ap G (l+2) n) (l+1) qb (2 ^ l * 2) (2 ^ l * 0):=(w1 ▸ v0.q (i:=1) (j:=0) (by decide) (by decide):Vw G (Ap G (l+2) n) (l+1) qb (0+2 ^ (l+1) * 1) (0+2 ^ (l+1) * 0)).at' (by lia) (by lia);obtain ⟨wb0,wb1,wb2,wb3⟩:=CM eb;have vc:Vw G (Ap G (l+2) n) (l+1) qc (2 ^ l * 0) (2 ^ l * 2):=(w2 ▸ v0.q (i:=0) (j:=1) (by decide) (by decide):Vw G (Ap G (l+2) n) (l+1) qc (0+2 ^ (l+1) * 0) (0+2 ^ (l+1) * 1)).at' (by lia) (by lia);obtain ⟨wc0,wc1,wc2,wc3⟩:=CM ec;have vd:Vw G (Ap G (l+2) n) (l+1) qd (2 ^ l * 2) (2 ^ l * 2):=(w3 ▸ v0.q (i:=1) (j:=1) (by decide) (by decide):Vw G (Ap G (l+2) n) (l+1) qd (0+2 ^ (l+1) * 1) (0+2 ^ (l+1) * 1)).at' (by lia) (by lia);obtain ⟨wd0,wd1,wd2,wd3⟩:=CM ed;have va0:Vw G7 (Ap G (l+2) n) l a0 (2 ^ l * 0) (2 ^ l * 0):=((wa0 ▸ va.q (i:=0) (j:=0) (by decide) (by decide):Vw G (Ap G (l+2) n) l a0 (2 ^ l * 0+2 ^ l * 0) (2 ^ l * 0+2 ^ l * 0)).at' (by lia) (by lia)).goes ok gz la0;have va1:Vw G7 (Ap G (l+2) n) l a1 (2 ^ l * 1) (2 ^ l * 0):=((wa1 ▸ va.q (i:=1) (j:=0) (by decide) (by decide):Vw G (Ap G (l+2) n) l a1 (2 ^ l * 0+2 ^ l * 1) (2 ^ l * 0+2 ^ l * 0)).at' (by lia) (by lia)).goes ok gz la1;have va2:Vw G7 (Ap G (l+2) n) l a2 (2 ^ l * 0) (2 ^ l * 1):=((wa2 ▸ va.q (i:=0) (j:=1) (by decide) (by decide):Vw G (Ap G (l+2) n) l a2 (2 ^ l * 0+2 ^ l * 0) (2 ^ l * 0+2 ^ l * 1)).at' (by lia) (by lia)).goes ok gz la2;have va3:Vw G7 (Ap G (l+2) n) l a3 (2 ^ l * 1) (2 ^ l * 1):=((wa3 ▸ va.q (i:=1) (j:=1) (by decide) (by decide):Vw G (Ap G (l+2) n) l a3 (2 ^ l * 0+2 ^ l * 1) (2 ^ l * 0+2 ^ l * 1)).at' (by lia) (by lia)).goes ok gz la3;have vb0:Vw G7 (Ap G (l+2) n) l b0 (2 ^ l * 2) (2 ^ l * 0):=((wb0 ▸ vb.q (i:=0) (j:=0) (by decide) (by decide):Vw G (Ap G (l+2) n) l b0 (2 ^ l * 2+2 ^ l * 0) (2 ^ l * 0+2 ^ l * 0)).at' (by lia) (by lia)).goes ok gz lb0;have vb1:Vw G7 (Ap G (l+2) n) l b1 (2 ^ l * 3) (2 ^ l * 0):=((wb1 ▸ vb.q (i:=1) (j:=0) (by decide) (by decide):Vw G (Ap G (l+2) n) l b1 (2 ^ l * 2+2 ^ l * 1) (2 ^ l * 0+2 ^ l * 0)).at' (by lia) (by lia)).goes ok gz lb1;have vb2:Vw G7 (Ap G (l+2) n) l b2 (2 ^ l * 2) (2 ^ l * 1):=((wb2 ▸ vb.q (i:=0) (j:=1) (by decide) (by decide):Vw G (Ap G (l+2) n) l b2 (2 ^ l * 2+2 ^ l * 0) (2 ^ l * 0+2 ^ l * 1)).at' (by lia) (by lia)).goes ok gz lb2;have vb3:Vw G7 (Ap G (l+2) n) l b3 (2 ^ l * 3) (2 ^ l * 1):=((wb3 ▸ vb.q (i:=1) (j:=1) (by decide) (by decide):Vw G (Ap G (l+2) n) l b3 (2 ^ l * 2+2 ^ l * 1) (2 ^ l * 0+2 ^ l * 1)).at' (by lia) (by lia)).goes ok gz lb3;have vc0:Vw G7 (Ap G (l+2) n) l c0 (2 ^ l * 0) (2 ^ l * 2):=((wc0 ▸ vc.q (i:=0) (j:=0) (by decide) (by decide):Vw G (Ap G (l+2) n) l c0 (2 ^ l * 0+2 ^ l * 0) (2 ^ l * 2+2 ^ l * 0)).at' (by lia) (by lia)).goes ok gz lc0;have vc1:Vw G7 (Ap G (l+2) n) l c1 (2 ^ l * 1) (2 ^ l * 2):=((wc1 ▸ vc.q (i:=1) (j:=0) (by decide) (by decide):Vw G (Ap G (l+2) n) l c1 (2 ^ l * 0+2 ^ l * 1) (2 ^ l * 2+2 ^ l * 0)).at' (by lia) (by lia)).goes ok gz lc1;have vc2:Vw G7 (Ap G (l+2) n) l c2 (2 ^ l * 0) (2 ^ l * 3):=((wc2 ▸ vc.q (i:=0) (j:=1) (by decide) (by decide):Vw G (Ap G (l+2) n) l c2 (2 ^ l * 0+2 ^ l * 0) (2 ^ l * 2+2 ^ l * 1)).at' (by lia) (by lia)).goes ok gz lc2;have vc3:Vw G7 (Ap G (l+2) n) l c3 (2 ^ l * 1) (2 ^ l * 3):=((wc3 ▸ vc.q (i:=1) (j:=1) (by decide) (by decide):Vw G (Ap G (l+2) n) l c3 (2 ^ l * 0+2 ^ l * 1) (2 ^ l * 2+2 ^ l * 1)).at' (by lia) (by lia)).goes ok gz lc3;have vd0:Vw G7 (Ap G (l+2) n) l d0 (2 ^ l * 2) (2 ^ l * 2):=((wd0 ▸ vd.q (i:=0) (j:=0) (by decide) (by decide):Vw G (Ap G (l+2) n) l d0 (2 ^ l * 2+2 ^ l * 0) (2 ^ l * 2+2 ^ l * 0)).at' (by lia) (by lia)).goes ok gz ld0;have vd1:Vw G7 (Ap G (l+2) n) l d1 (2 ^ l * 3) (2 ^ l * 2):=((wd1 ▸ vd.q (i:=1) (j:=0) (by decide) (by decide):Vw G (Ap G (l+2) n) l d1 (2 ^ l * 2+2 ^ l * 1) (2 ^ l * 2+2 ^ l * 0)).at' (by lia) (by lia)).goes ok gz ld1;have vd2:Vw G7 (Ap G (l+2) n) l d2 (2 ^ l * 2) (2 ^ l * 3):=((wd2 ▸ vd.q (i:=0) (j:=1) (by decide) (by decide):Vw G (Ap G (l+2) n) l d2 (2 ^ l * 2+2 ^ l * 0) (2 ^ l * 2+2 ^ l * 1)).at' (by lia) (by lia)).goes ok gz ld2;have vd3:Vw G7 (Ap G (l+2) n) l d3 (2 ^ l * 3) (2 ^ l * 3):=((wd3 ▸ vd.q (i:=1) (j:=1) (by decide) (by decide):Vw G (Ap G (l+2) n) l d3 (2 ^ l * 2+2 ^ l * 1) (2 ^ l * 2+2 ^ l * 1)).at' (by lia) (by lia)).goes ok gz ld3;have g1:G7[m1]?=some ⟨[(a1:Int),(b0:Int),(a3:Int),(b2:Int)],(l:Int)+1⟩:=go7.get (go5.get (go4.get (go3.get e1)));obtain ⟨x10,x11,x12,x13⟩:=CM g1;have y1:Vw G7 (Ap G (l+2) n) (l+1) m1 (2 ^ l * 1) (2 ^ l * 0):=Vw.of (x10.symm ▸ va1.at' (by lia) (by lia):Vw G7 (Ap G (l+2) n) l (qO G7 m1 0) (2 ^ l * 1) (2 ^ l * 0)) (x11.symm ▸ vb0.at' (by lia) (by lia):Vw G7 (Ap G (l+2) n) l (qO G7 m1 1) (2 ^ l * 1+2 ^ l) (2 ^ l * 0)) (x12.symm ▸ va3.at' (by lia) (by lia):Vw G7 (Ap G (l+2) n) l (qO G7 m1 2) (2 ^ l * 1) (2 ^ l * 0+2 ^ l)) (x13.symm ▸ vb2.at' (by lia) (by lia):Vw G7 (Ap G (l+2) n) l (qO G7 m1 3) (2 ^ l * 1+2 ^ l) (2 ^ l * 0+2 ^ l));have g3:G7[m3]?=some ⟨[(a2:Int),(a3:Int),(c0:Int),(c1:Int)],(l:Int)+1⟩:=go7.get (go5.get (go4.get e3));obtain ⟨x30,x31,x32,x33⟩:=CM g3;have y3:Vw G7 (Ap G (l+2) n) (l+1) m3 (2 ^ l * 0) (2 ^ l * 1):=Vw.of (x30.symm ▸ va2.at' (by lia) (by lia):Vw G7 (Ap G (l+2) n) l (qO G7 m3 0) (2 ^ l * 0) (2 ^ l * 1)) (x31.symm ▸ va3.at' (by lia) (by lia):Vw G7 (Ap G (l+2) n) l (qO G7 m3 1) (2 ^ l * 0+2 ^ l) (2 ^ l * 1)) (x32.symm ▸ vc0.at' (by lia) (by lia):Vw G7 (Ap G (l+2) n) l (qO G7 m3 2) (2 ^ l * 0) (2 ^ l * 1+2 ^ l)) (x33.symm ▸ vc1.at' (by lia) (by lia):Vw G7 (Ap G (l+2) n) l (qO G7 m3 3) (2 ^ l * 0+2 ^ l) (2 ^ l * 1+2 ^ l));have g4:G7[m4]?=some ⟨[(a3:Int),(b2:Int),(c1:Int),(d0:Int)],(l:Int)+1⟩:=go7.get (go5.get e4);obtain ⟨x40,x41,x42,x43⟩:=CM g4;have y4:Vw G7 (Ap G (l+2) n) (l+1) m4 (2 ^ l * 1) (2 ^ l * 1):=Vw.of (x40.symm ▸ va3.at' (by lia) (by lia):Vw G7 (Ap G (l+2) n) l (qO G7 m4 0) (2 ^ l * 1) (2 ^ l * 1)) (x41.symm ▸ vb2.at' (by lia) (by lia):Vw G7 (Ap G (l+2) n) l (qO G7 m4 1) (2 ^ l * 1+2 ^ l) (2 ^ l * 1)) (x42.symm ▸ vc1.at' (by lia) (by lia):Vw G7 (Ap G (l+2) n) l (qO G7 m4 2) (2 ^ l * 1) (2 ^ l * 1+2 ^ l)) (x43.symm ▸ vd0.at' (by lia) (by lia):Vw G7 (Ap G (l+2) n) l (qO G7 m4 3) (2 ^ l * 1+2 ^ l) (2 ^ l * 1+2 ^ l));have g5:G7[m5]?=some ⟨[(b2:Int),(b3:Int),(d0:Int),(d1:Int)],(l:Int)+1⟩:=go7.get e5;obtain ⟨x50,x51,x52,x53⟩:=CM g5;have y5:Vw G7 (Ap G (l+2) n) (l+1) m5 (2 ^ l * 2) (2 ^ l * 1):=Vw.of (x50.symm ▸ vb2.at' (by lia) (by lia):Vw G7 (Ap G (l+2) n) l (qO G7 m5 0) (2 ^ l * 2) (2 ^ l * 1)) (x51.symm ▸ vb3.at' (by lia) (by lia):Vw G7 (Ap G (l+2) n) l (qO G7 m5 1) (2 ^ l * 2+2 ^ l) (2 ^ l * 1)) (x52.symm ▸ vd0.at' (by lia) (by lia):Vw G7 (Ap G (l+2) n) l (qO G7 m5 2) (2 ^ l * 2) (2 ^ l * 1+2 ^ l)) (x53.symm ▸ vd1.at' (by lia) (by lia):Vw G7 (Ap G (l+2) n) l (qO G7 m5 3) (2 ^ l * 2+2 ^ l) (2 ^ l * 1+2 ^ l));have g7:G7[m7]?=some ⟨[(c1:Int),(d0:Int),(c3:Int),(d2:Int)],(l:Int)+1⟩:=e7;obtain ⟨x70,x71,x72,x73⟩:=CM g7;have y7:Vw G7 (Ap G (l+2) n) (l+1) m7 (2 ^ l * 1) (2 ^ l * 2):=Vw.of (x70.symm ▸ vc1.at' (by lia) (by lia):Vw G7 (Ap G (l+2) n) l (qO G7 m7 0) (2 ^ l * 1) (2 ^ l * 2)) (x71.symm ▸ vd0.at' (by lia) (by lia):Vw G7 (Ap G (l+2) n) l (qO G7 m7 1) (2 ^ l * 1+2 ^ l) (2 ^ l * 2)) (x72.symm ▸ vc3.at' (by lia) (by lia):Vw G7 (Ap G (l+2) n) l (qO G7 m7 2) (2 ^ l * 1) (2 ^ l * 2+2 ^ l)) (x73.symm ▸ vd2.at' (by lia) (by lia):Vw G7 (Ap G (l+2) n) l (qO G7 m7 3) (2 ^ l * 1+2 ^ l) (2 ^ l * 2+2 ^ l));intro i j hi hj
  match i,hi,j,hj with
  | 0,_,0,_=>exact ⟨qa,rfl,gz.lev la,va.goes ok gz la⟩
  | 1,_,0,_=>exact ⟨m1,rfl,⟨_,g1,rfl⟩,y1⟩
  | 2,_,0,_=>exact ⟨qb,rfl,gz.lev lb,vb.goes ok gz lb⟩
  | 0,_,1,_=>exact ⟨m3,rfl,⟨_,g3,rfl⟩,y3⟩
  | 1,_,1,_=>exact ⟨m4,rfl,⟨_,g4,rfl⟩,y4⟩
  | 2,_,1,_=>exact ⟨m5,rfl,⟨_,g5,rfl⟩,y5⟩
  | 0,_,2,_=>exact ⟨qc,rfl,gz.lev lc,vc.goes ok gz lc⟩
  | 1,_,2,_=>exact ⟨m7,rfl,⟨_,g7,rfl⟩,y7⟩
  | 2,_,2,_=>exact ⟨qd,rfl,gz.lev ld,vd.goes ok gz ld⟩
inductive Qo (vs:List V) (H:Hp) (Q:VK):Prop
 | mk (L:Addr) (k0 k1 k2 k3 k4 k5 k6 k7 k8:Nat) (_:vs=[.ref L]) (_:H L=some (.lst [.int k0,.int k1,.int k2,.int k3,.int k4,.int k5,.int k6,.int k7,.int k8])) (_:∀ (M t0 t1 t2 t3:Addr) (H':Hp),An H H'->H' M=some (.lst [.ref t0,.ref t1,.ref t2,.ref t3])->H' t0=some (.tup [.int k0,.int k1,.int k3,.int k4])->H' t1=some (.tup [.int k1,.int k2,.int k4,.int k5])->H' t2=some (.tup [.int k3,.int k4,.int k6,.int k7])->H' t3=some (.tup [.int k4,.int k5,.int k7,.int k8])->Q (.ref M) H'):Qo vs H Q
def Ii:Sp:=fun vs H Q _=>Qo vs H Q
theorem RZ {f:Addr} {fd:FuncData} (F:Fun K "fours_of" "fours_of" EH f fd) (T:Top K mg a):AU P w K mg base CX0 1 f fd Ee Ii:=by
 refine F.ok NH (fun vs H Q E h=>?_) (fun cdv A outer s H vs Q E hr h=>?_)
 ·obtain ⟨L,k0,k1,k2,k3,k4,k5,k6,k7,k8,rfl,_⟩:=h;rfl
 ·obtain ⟨L,k0,k1,k2,k3,k4,k5,k6,k7,k8,rfl,hL,k⟩:=h;refine ⟨_,(Aj (AA (Bc (Cf (Aa (Al Au (pv 0) Af (fun _ _=>rfl)) (Aa (Al Au (pv 0) Af (fun _ _=>rfl)) (Aa (Al Au (pv 0) Af (fun _ _=>rfl)) (Aa (Al Au (pv 0) Af (fun _ _=>rfl)) Ac)))) (Cf (Aa (Al Au (pv 0) Af (fun _ _=>rfl)) (Aa (Al Au (pv 0) Af (fun _ _=>rfl)) (Aa (Al Au (pv 0) Af (fun _ _=>rfl)) (Aa (Al Au (pv 0) Af (fun _ _=>rfl)) Ac)))) (Cf (Aa (Al Au (pv 0) Af (fun _ _=>rfl)) (Aa (Al Au (pv 0) Af (fun _ _=>rfl)) (Aa (Al Au (pv 0) Af (fun _ _=>rfl)) (Aa (Al Au (pv 0) Af (fun _ _=>rfl)) Ac)))) (Cf (Aa (Al Au (pv 0) Af (fun _ _=>rfl)) (Aa (Al Au (pv 0) Af (fun _ _=>rfl)) (Aa (Al Au (pv 0) Af (fun _ _=>rfl)) (Aa (Al Au (pv 0) Af (fun _ _=>rfl)) Ac)))) Ac))))))),?_⟩
  try dsimp only [cxK]
  refine ⟨_,rfl,L,_,0,.int (k0:Int),rfl,rfl,SqL.of hL,Ai (j:=0) rfl,_,rfl,L,_,1,.int (k1:Int),rfl,rfl,SqL.of hL,Ai (j:=1) rfl,_,rfl,L,_,3,.int (k3:Int),rfl,rfl,SqL.of hL,Ai (j:=3) rfl,_,rfl,L,_,4,.int (k4:Int),rfl,rfl,SqL.of hL,Ai (j:=4) rfl,(by show 4<=sizeLine; decide),fun t0 ht0=>?_⟩;have s0:=Ah (o:=.tup [.int (k0:Int),.int (k1:Int),.int (k3:Int),.int (k4:Int)]) ht0;have h0:upd H t0 (.tup [.int (k0:Int),.int (k1:Int),.int (k3:Int),.int (k4:Int)]) t0=some (.tup [.int (k0:Int),.int (k1:Int),.int (k3:Int),.int (k4:Int)]):=Ab;generalize hX0:upd H t0 (.tup [.int (k0:Int),.int (k1:Int),.int (k3:Int),.int (k4:Int)])=X0 at s0 h0;have hL0:=s0 _ _ hL
  first | rw [hX0] | (show ∃ _,_; rw [hX0]) | skip
  refine ⟨_,rfl,L,_,1,.int (k1:Int),rfl,rfl,SqL.of hL0,Ai (j:=1) rfl,_,rfl,L,_,2,.int (k2:Int),rfl,rfl,SqL.of hL0,Ai (j:=2) rfl,_,rfl,L,_,4,.int (k4:Int),rfl,rfl,SqL.of hL0,Ai (j:=4) rfl,_,rfl,L,_,5,.int (k5:Int),rfl,rfl,SqL.of hL0,Ai (j:=5) rfl,(by show 4<=sizeLine; decide),fun t1 ht1=>?_⟩;have s1:=Ah (o:=.tup [.int (k1:Int),.int (k2:Int),.int (k4:Int),.int (k5:Int)]) ht1;have h1:upd X0 t1 (.tup [.int (k1:Int),.int (k2:Int),.int (k4:Int),.int (k5:Int)]) t1=some (.tup [.int (k1:Int),.int (k2:Int),.int (k4:Int),.int (k5:Int)]):=Ab;generalize hX1:upd X0 t1 (.tup [.int (k1:Int),.int (k2:Int),.int (k4:Int),.int (k5:Int)])=X1 at s1 h1;have hL1:=s1 _ _ hL0
  first | rw [hX1] | (show ∃ _,_; rw [hX1]) | skip
  refine ⟨_,rfl,L,_,3,.int (k3:Int),rfl,rfl,SqL.of hL1,Ai (j:=3) rfl,_,rfl,L,_,4,.int (k4:Int),rfl,rfl,SqL.of hL1,Ai (j:=4) rfl,_,rfl,L,_,6,.int (k6:Int),rfl,rfl,SqL.of hL1,Ai (j:=6) rfl,_,rfl,L,_,7,.int (k7:Int),rfl,rfl,SqL.of hL1,Ai (j:=7) rfl,(by show 4<=sizeLine; decide),fun t2 ht2=>?_⟩;have s2:=Ah (o:=.tup [.int (k3:Int),.int (k4:Int),.int (k6:Int),.int (k7:Int)]) ht2;have h2:upd X1 t2 (.tup [.int (k3:Int),.int (k4:Int),.int (k6:Int),.int (k7:Int)]) t2=some (.tup [.int (k3:Int),.int (k4:Int),.int (k6:Int),.int (k7:Int)]):=Ab;generalize hX2:upd X1 t2 (.tup [.int (k3:Int),.int (k4:Int),.int (k6:Int),.int (k7:Int)])=X2 at s2 h2;have hL2:=s2 _ _ hL1
  first | rw [hX2] | (show ∃ _,_; rw [hX2]) | skip
  refine ⟨_,rfl,L,_,4,.int (k4:Int),rfl,rfl,SqL.of hL2,Ai (j:=4) rfl,_,rfl,L,_,5,.int (k5:Int),rfl,rfl,SqL.of hL2,Ai (j:=5) rfl,_,rfl,L,_,7,.int (k7:Int),rfl,rfl,SqL.of hL2,Ai (j:=7) rfl,_,rfl,L,_,8,.int (k8:Int),rfl,rfl,SqL.of hL2,Ai (j:=8) rfl,(by show 4<=sizeLine; decide),fun t3 ht3=>?_⟩;have s3:=Ah (o:=.tup [.int (k4:Int),.int (k5:Int),.int (k7:Int),.int (k8:Int)]) ht3;have h3:upd X2 t3 (.tup [.int (k4:Int),.int (k5:Int),.int (k7:Int),.int (k8:Int)]) t3=some (.tup [.int (k4:Int),.int (k5:Int),.int (k7:Int),.int (k8:Int)]):=Ab;generalize hX3:upd X2 t3 (.tup [.int (k4:Int),.int (k5:Int),.int (k7:Int),.int (k8:Int)])=X3 at s3 h3;have hL3:=s3 _ _ hL2
  first | rw [hX3] | (show ∃ _,_; rw [hX3]) | skip
  refine ⟨(by show 4<=sizeLine; decide),fun M hM=>?_⟩;have s4:=Ah (o:=.lst [.ref t0,.ref t1,.ref t2,.ref t3]) hM;exact k M t0 t1 t2 t3 _ ((((s0.trans s1).trans s2).trans s3).trans s4) Ab (s4 _ _ (s3 _ _ (s2 _ _ (s1 _ _ h0)))) (s4 _ _ (s3 _ _ (s2 _ _ h1))) (s4 _ _ (s3 _ _ h2)) (s4 _ _ h3)
inductive SpMet (a:Ad) (vs:List V) (H:Hp) (Q:VK):Prop
 | mk (g:GA) (G:Gv) (t:Addr) (f0 f1 f2 f3 l:Nat) (_:vs=[.ref g.p,.ref t]) (_:AI a H g G) (_:GOk G) (_:H t=some (.tup [.int f0,.int f1,.int f2,.int f3])) (_:Aq G f0 ((l+1:Nat):Int)/\Aq G f1 ((l+1:Nat):Int)/\Aq G f2 ((l+1:Nat):Int)/\Aq G f3 ((l+1:Nat):Int)) (_:l<=47) (_:G.length < 9000000) (_:∀ (k:Nat) (G':Gv) (H':Hp),Fr g H H'->AI a H' g G'->AZ G G' 1->G'[k]?=some ⟨[((qO G f0 3:Nat):Int),((qO G f1 2:Nat):Int),((qO G f2 1:Nat):Int),((qO G f3 0:Nat):Int)],(l:Int)+1⟩->Q (.int k) H'):SpMet a vs H Q
def Pu (a:Ad):Sp:=fun vs H Q _=>SpMet a vs H Q
theorem ok_met {f:Addr} {fd:FuncData} (F:Fun K "met_in_the_middle" "met_in_the_middle" BC f fd) (T:Top K mg a) (aB:BK P w K mg base CX0 2 a.c_Grove "linked" AY (FV a)):AU P w K mg base CX0 3 f fd BD (Pu a):=by
 refine F.ok EO (fun vs H Q E h=>?_) (fun cdv A outer s H vs Q E hr h=>?_)
 ·obtain ⟨g,G,t,f0,f1,f2,f3,l,rfl,_⟩:=h;rfl
 ·obtain ⟨g,G,t,f0,f1,f2,f3,l,rfl,hg,ok,ht,⟨l0,l1,l2,l3⟩,h47,few,k⟩:=h;obtain ⟨ts,h3,h4⟩:=hg.pt;obtain ⟨x00,x01,x02,x03,e0,m00,m01,m02,m03⟩:=ok.four l0;obtain ⟨u0,eu0,hu0⟩:=PairedM.get h4 e0;obtain ⟨y00,y01,y02,y03⟩:=CM e0;obtain ⟨x10,x11,x12,x13,e1,m10,m11,m12,m13⟩:=ok.four l1;obtain ⟨u1,eu1,hu1⟩:=PairedM.get h4 e1;obtain ⟨y10,y11,y12,y13⟩:=CM e1;obtain ⟨x20,x21,x22,x23,e2,m20,m21,m22,m23⟩:=ok.four l2;obtain ⟨u2,eu2,hu2⟩:=PairedM.get h4 e2;obtain ⟨y20,y21,y22,y23⟩:=CM e2;obtain ⟨x30,x31,x32,x33,e3,m30,m31,m32,m33⟩:=ok.four l3;obtain ⟨u3,eu3,hu3⟩:=PairedM.get h4 e3;obtain ⟨y30,y31,y32,y33⟩:=CM e3;rw [y03,y12,y21,y30] at k;refine ⟨_,(Ae (Av (i:=2) EO.nd rfl (Or.inl rfl) (AG (pv 0) rfl)) (Aj (AA (AF (pv 0) aB (rm hr) Ar (Cf (Aa (Al Ao (Al Au (pv 2) (Al Ao (pv 1) Af (fun _ _=>rfl)) (fun _ _=>rfl)) Af (fun _ _=>rfl)) (Aa (Al Ao (Al Au (pv 2) (Al Ao (pv 1) Af (fun _ _=>rfl)) (fun _ _=>rfl)) Af (fun _ _=>rfl)) (Aa (Al Ao (Al Au (pv 2) (Al Ao (pv 1) Af (fun _ _=>rfl)) (fun _ _=>rfl)) Af (fun _ _=>rfl)) (Aa (Al Ao (Al Au (pv 2) (Al Ao (pv 1) Af (fun _ _=>rfl)) (fun _ _=>rfl)) Af (fun _ _=>rfl)) Ac)))) Ac))))),?_⟩
  try dsimp only [cxK]
  refine ⟨_,rfl,g.p,_,g.dx,_,_,rfl,hg.hp,T.cl_Grove,T.na_Grove_parts,EL g,?_⟩;refine ⟨_,rfl,g.p,g.dx,_,rfl,hg.hp,CT g,_,rfl,_,rfl,t,_,0,.int (f0:Int),rfl,rfl,SqT.of ht,Ai (j:=0) rfl,g.pt,_,(f0:Int),.ref u0,rfl,rfl,SqL.of h3,Ai (by rw [List.getElem?_map,eu0]; rfl),u0,_,3,.int (x03:Int),rfl,rfl,SqT.of hu0,Ai (j:=3) rfl,_,rfl,_,rfl,t,_,1,.int (f1:Int),rfl,rfl,SqT.of ht,Ai (j:=1) rfl,g.pt,_,(f1:Int),.ref u1,rfl,rfl,SqL.of h3,Ai (by rw [List.getElem?_map,eu1]; rfl),u1,_,2,.int (x12:Int),rfl,rfl,SqT.of hu1,Ai (j:=2) rfl,_,rfl,_,rfl,t,_,2,.int (f2:Int),rfl,rfl,SqT.of ht,Ai (j:=2) rfl,g.pt,_,(f2:Int),.ref u2,rfl,rfl,SqL.of h3,Ai (by rw [List.getElem?_map,eu2]; rfl),u2,_,1,.int (x21:Int),rfl,rfl,SqT.of hu2,Ai (j:=1) rfl,_,rfl,_,rfl,t,_,3,.int (f3:Int),rfl,rfl,SqT.of ht,Ai (j:=3) rfl,g.pt,_,(f3:Int),.ref u3,rfl,rfl,SqL.of h3,Ai (by rw [List.getElem?_map,eu3]; rfl),u3,_,0,.int (x30:Int),rfl,rfl,SqT.of hu3,Ai (j:=0) rfl,(by show 4<=sizeLine; decide),fun u hu=>?_⟩;have s1:=Ah (o:=.tup [.int (x03:Int),.int (x12:Int),.int (x21:Int),.int (x30:Int)]) hu;exact ⟨g,G,u,x03,x12,x21,x30,(l:Int),rfl,hg.same s1,ok,Ab,⟨m03,m12,m21,m30⟩,by lia,few,fun n G' H' fr hg' go e=>k n G' H' ((An.fr s1).trans fr) hg' go e⟩
end
end J
namespace J
open PySem L2
seal L2.PA L2.PE L2.PS L2.PSs L2.PT L2.PW
def cst:Nat->Nat
 | 0=>5
 | l+1=>13 * cst l+11
theorem Qh:∀ l,5<=cst l
 | 0=>Nat.le_refl 5
 | l+1=>by
  show 5<=13 * cst l+11;lia
theorem Aq.one {G:Gv} {n:Nat} {i j:Int} (h:Aq G n i) (k:Aq G n j):i=j:=by
 obtain ⟨q,e1,e2⟩:=h;obtain ⟨p,f1,f2⟩:=k;rw [e1] at f1;cases f1;exact e2.symm.trans f2
theorem JR.view {r:AM} {G:Gv} {c:Nat->Nat->Int} {e n m l X Y:Nat} (h:JR r G e n m) (lv:Aq G n ((l+2:Nat):Int)) (v:Vw G c (l+2) n X Y):Aq G m ((l+1:Nat):Int)/\e<=l/\Vw G (AR r (2 ^ e) c) (l+1) m (X+2 ^ l) (Y+2 ^ l):=by
 obtain ⟨l',h1,h2,h3,h4⟩:=h;have e':l'=l:=by
  have:=h1.one lv;lia
 subst e';exact ⟨h3,h2,v.jump h2 h4⟩
theorem Vw.jr {r:AM} {G:Gv} {e n m l:Nat} (lv:Aq G n ((l+1+2:Nat):Int)) (he:e<=l+1) (lm:Aq G m ((l+1+1:Nat):Int)) (v:Vw G (AR r (2 ^ e) (Ap G (l+1+2) n)) (l+1+1) m (2 ^ (l+1)) (2 ^ (l+1))):JR r G e n m:=⟨l+1,lv,he,lm,v⟩
theorem Sg {G G':Gv} {c:Nat->Nat->Int} {l f0 f1 f2 f3 z X Y i:Nat} (ok:GOk G) (go:AZ G G' i) (l0:Aq G f0 ((l+1:Nat):Int)) (l1:Aq G f1 ((l+1:Nat):Int)) (l2:Aq G f2 ((l+1:Nat):Int)) (l3:Aq G f3 ((l+1:Nat):Int)) (v0:Vw G c (l+1) f0 X Y) (v1:Vw G c (l+1) f1 (X+2 ^ (l+1)) Y) (v2:Vw G c (l+1) f2 X (Y+2 ^ (l+1))) (v3:Vw G c (l+1) f3 (X+2 ^ (l+1)) (Y+2 ^ (l+1))) (e:G'[z]?=some ⟨[((qO G f0 3:Nat):Int),((qO G f1 2:Nat):Int),((qO G f2 1:Nat):Int),((qO G f3 0:Nat):Int)],(l:Int)+1⟩):Vw G' c (l+1) z (X+2 ^ l) (Y+2 ^ l):=by
 have p1:2 ^ (l+1)=2 ^ l * 2:=Nat.pow_succ ..;obtain ⟨w0,w1,w2,w3⟩:=CM e;have u0:=(v0.q (i:=1) (j:=1) (by decide) (by decide)).goes ok go (Gs ok l0 (by decide));have u1:=(v1.q (i:=0) (j:=1) (by decide) (by decide)).goes ok go (Gs ok l1 (by decide));have u2:=(v2.q (i:=1) (j:=0) (by decide) (by decide)).goes ok go (Gs ok l2 (by decide));have u3:=(v3.q (i:=0) (j:=0) (by decide) (by decide)).goes ok go (Gs ok l3 (by decide));refine Vw.of ?_ ?_ ?_ ?_
 ·rw [w0];exact u0.at' (by lia) (by lia)
 ·rw [w1];exact u1.at' (by lia) (by lia)
 ·rw [w2];exact u2.at' (by lia) (by lia)
 ·rw [w3];exact u3.at' (by lia) (by lia)
theorem GU {G G':Gv} {c:Nat->Nat->Int} {l f0 f1 f2 f3 z X Y i:Nat} {L:Int} (ok:GOk G) (go:AZ G G' i) (l0:Aq G f0 (l:Int)) (l1:Aq G f1 (l:Int)) (l2:Aq G f2 (l:Int)) (l3:Aq G f3 (l:Int)) (v0:Vw G c l f0 X Y) (v1:Vw G c l f1 (X+2 ^ l) Y) (v2:Vw G c l f2 X (Y+2 ^ l)) (v3:Vw G c l f3 (X+2 ^ l) (Y+2 ^ l)) (e:G'[z]?=some ⟨[(f0:Int),(f1:Int),(f2:Int),(f3:Int)],L⟩):Vw G' c (l+1) z X Y:=by
 obtain ⟨w0,w1,w2,w3⟩:=CM e;refine Vw.of ?_ ?_ ?_ ?_
 ·rw [w0];exact v0.goes ok go l0
 ·rw [w1];exact v1.goes ok go l1
 ·rw [w2];exact v2.goes ok go l2
 ·rw [w3];exact v3.goes ok go l3
theorem PU:∀ xs:List Nat,xs.length=9->∃ a b c d e f g h i,xs=[a,b,c,d,e,f,g,h,i]
 | [a,b,c,d,e,f,g,h,i],_=>⟨a,b,c,d,e,f,g,h,i,rfl⟩
theorem Lr:∀ xs:List Nat,xs.length=4->∃ a b c d,xs=[a,b,c,d]
 | [a,b,c,d],_=>⟨a,b,c,d,rfl⟩
def toV (k:Nat):V:=.int (k:Int)
def Nine (G:Gv) (c:Nat->Nat->Int) (l X:Nat) (ys:List Nat):Prop:=∀ i j,i < 3->j < 3->∃ y,ys[i+3 * j]?=some y/\Aq G y (l:Int)/\Vw G c l y (2 ^ l * i+X) (2 ^ l * j+X)
theorem LY {r:AM} {G3 G5:Gv} {c:Nat->Nat->Int} {l e x:Nat} {ks ys:List Nat} (ok:GOk G3) (go:AZ G3 G5 x) (h:∀ i j,i < 3->j < 3->∃ k,ks[i+3 * j]?=some k/\Aq G3 k ((l+1+1:Nat):Int)/\Vw G3 c (l+1+1) k (2 ^ (l+1) * i) (2 ^ (l+1) * j)) (pr:Paired (fun k y=>JR r G5 e k y) ks ys):Nine G5 (AR r (2 ^ e) c) (l+1) (2 ^ l) ys:=fun i j hi hj=>by
 obtain ⟨k,h1,h2,h3⟩:=h i j hi hj;obtain ⟨y,h4,h5⟩:=Paired.get pr h1;obtain ⟨q1,_,q3⟩:=h5.view (go.lev h2) (h3.goes ok go h2);exact ⟨y,h4,q1,q3⟩
section
variable {P:Program} {w:World} {K:PySem.W.Frag} {mg:Str->Option Value} {base:Heap} {a:Ad}
inductive SV (a:Ad) (L:Nat) (vs:List V) (H:Hp) (Q:VK):Prop
 | mk (p dx mem pr:Addr) (g:GA) (G:Gv) (N M:Nat) (r:AM) (m:MA) (n l e:Nat) (_:vs=[.ref p,.int n,.int e]) (_:JW a H g G N M p dx mem pr r m) (_:Aq G n ((l+2:Nat):Int)) (_:l < L) (_:e<=l) (_:N+cst l < 900000) (_:M+cst l < 900000) (_:G.length+cst l < 7000000) (_:∀ (k:Nat) (G':Gv) (H':Hp),FrJ g m H H'->JW a H' g G' (N+cst l) (M+cst l) p dx mem pr r m->AZ G G' (cst l)->JR r G' e n k->Q (.int k) H'):SV a L vs H Q
def FN (a:Ad) (L:Nat):Sp:=fun vs H Q _=>SV a L vs H Q
inductive Te (a:Ad) (L:Nat) (vs:List V) (H:Hp) (Q:VK):Prop
 | mk (p dx mem pr:Addr) (g:GA) (G:Gv) (N M:Nat) (r:AM) (m:MA) (n l e:Nat) (_:vs=[.ref p,.int n,.int e]) (_:JW a H g G N M p dx mem pr r m) (_:Aq G n ((l+2:Nat):Int)) (_:l < L) (_:e<=l) (_:N+cst l < 900000) (_:M+cst l < 900000) (_:G.length+cst l < 7000000) (_:∀ (k:Nat) (G':Gv) (H':Hp),FrJ g m H H'->JW a H' g G' (N+(cst l - 1)) (M+(cst l - 1)) p dx mem pr r m->AZ G G' (cst l - 1)->JR r G' e n k->Q (.int k) H'):Te a L vs H Q
def OI (a:Ad) (L:Nat):Sp:=fun vs H Q _=>Te a L vs H Q
inductive Td (a:Ad) (L:Nat) (vs:List V) (H:Hp) (Q:VK):Prop
 | mk (p dx mem pr:Addr) (g:GA) (G:Gv) (N M:Nat) (r:AM) (m:MA) (n l:Nat) (_:vs=[.ref p,.int n,.int ((l+1:Nat):Int)]) (_:JW a H g G N M p dx mem pr r m) (_:Aq G n ((l+1+2:Nat):Int)) (_:l < L) (_:N+9 * cst l < 900000) (_:M+9 * cst l < 900000) (_:G.length+9 * cst l+5 < 7000000) (_:∀ (A:Addr) (f0 f1 f2 f3:Nat) (G':Gv) (H':Hp),FrJ g m H H'->JW a H' g G' (N+9 * cst l) (M+9 * cst l) p dx mem pr r m->AZ G G' (9 * cst l+9)->H' A=some (.lst [toV f0,toV f1,toV f2,toV f3])->(Aq G' f0 ((l+2:Nat):Int)/\Aq G' f1 ((l+2:Nat):Int)/\Aq G' f2 ((l+2:Nat):Int)/\Aq G' f3 ((l+2:Nat):Int))->(Vw G' (AR r (2 ^ l) (Ap G (l+1+2) n)) (l+2) f0 (2 ^ l) (2 ^ l)/\Vw G' (AR r (2 ^ l) (Ap G (l+1+2) n)) (l+2) f1 (2 ^ l+2 ^ (l+1)) (2 ^ l)/\Vw G' (AR r (2 ^ l) (Ap G (l+1+2) n)) (l+2) f2 (2 ^ l) (2 ^ l+2 ^ (l+1))/\Vw G' (AR r (2 ^ l) (Ap G (l+1+2) n)) (l+2) f3 (2 ^ l+2 ^ (l+1)) (2 ^ l+2 ^ (l+1)))->Q (.ref A) H'):Td a L vs H Q
def OH (a:Ad) (L:Nat):Sp:=fun vs H Q _=>Td a L vs H Q
theorem ok_half {L d:Nat} {f:Addr} {fd:FuncData} (F:Fun K "four_halfway" "Jumps.four_halfway" AO f fd) (T:Top K mg a) (d3:3<=d) (aL:Cal P w K mg base CX0 3 "nine_parts" Db (JH a)) (aR:Cal P w K mg base CX0 1 "fours_of" Ee Ii) (aB:BK P w K mg base CX0 2 a.c_Grove "linked" AY (FV a)) (aE:BK P w K mg base CX0 d a.c_Jumps "reckoned" AX (FN a L)):AU P w K mg base CX0 (d+1) f fd Br (OH a L):=by
 refine F.ok ED (fun vs H Q E h=>?_) (fun cdv A outer s H vs Q E hr h=>?_)
 ·obtain ⟨p,dx,mem,pr,g,G,N,M,r,m,n,l,rfl,_⟩:=h;rfl
 ·obtain ⟨p,dx,mem,pr,g,G,N,M,r,m,n,l,rfl,hj,hl,hL,fewN,fewM,few,k⟩:=h;have c5:=Qh l;refine ⟨_,(Ae (Fw (i:=3) rfl ED.nd rfl rfl (Bn.of (So:=Ag AO) (No:=DG) (N:=["part","self","e"]) (k:=1) (cs:=[0,2]) rfl rfl (by decide +kernel)) (BB (Az aL (rm hr) rfl Ar (Aa (AG (pv 0) rfl) (Aa (pv 1) Ac)))) (fun _ _ _=>(AV (i:=0) (by decide +kernel) rfl rfl)) (fun _ _ _=>BH) (fun _ _ _=>(AF (pv 1) aE (rm hr) Ar (Aa (pv 0) (Cp Ef (pv 2) Af Ac))))) (Aj (AA (BT rfl (Bn.of (So:=Ag AO) (No:=DG) (N:=["four","self"]) (k:=1) (cs:=[0]) rfl rfl (by decide +kernel)) (BB (Az aR (rm hr) rfl Ar (Aa (pv 3) Ac))) (fun _ _ _=>(AV (i:=0) (by decide +kernel) rfl rfl)) (fun _ _ _=>BH) (fun _ _ _=>(AF (MO (K:=K) rfl (pv 1) rfl) aB (rm hr) Ar (Aa (pv 0) Ac))))))),?_⟩
  try dsimp only [cxK]
  obtain ⟨q9,eq9,el9⟩:=id hl;have l46:l<=45:=by have:=(hj.ok.lev eq9).2; lia
  refine ⟨_,rfl,p,_,dx,_,_,rfl,hj.hp,T.cl_Jumps,T.na_Jumps_grove,Fe _ _ _ _ _,_,rfl,g,G,n,l+1,rfl,hj.gr,hj.ok,hl,by lia,by lia,fun A9 ks G3 H3 fr3 hg3 go3 hA3 l9 nine=>?_⟩;have hj3:=hj.fr fr3 hg3 go3;have gf3:=go3.few;have lv9:∀ (t k:Nat),ks[t]?=some k->Aq G3 k ((l+2:Nat):Int):=fun t k e=>by
   have ht:=(List.getElem?_eq_some_iff.mp e).1;obtain ⟨k',e1,e2,_⟩:=nine (t % 3) (t / 3) (by lia) (by lia);rw [show t % 3+3 * (t / 3)=t by lia,e] at e1;cases e1;exact e2
  refine ⟨A9,rfl,⟨_,SqL.of hA3⟩,?_⟩;refine Ck (xs:=ks.map fun (k:Nat)=>V.int (k:Int)) (fun i acc H5=>∃ (G5:Gv) (ys:List Nat),acc=ys.map toV/\ys.length=i/\FrJ g m H3 H5/\JW a H5 g G5 (N+i * cst l) (M+i * cst l) p dx mem pr r m/\AZ G3 G5 (i * cst l)/\Paired (fun k y=>JR r G5 l k y) (ks.take i) ys) ⟨G3,[],rfl,rfl,fun b o e _ _ _ _ _=>e,(by rw [Nat.zero_mul]; exact hj3),(by rw [Nat.zero_mul]; exact AZ.refl hj3.ok),.nil⟩ (fun i acc H5 _ z=>by obtain ⟨_,_,_,_,fr,_⟩:=z; exact SqL.of ((fr.kps hj3.gr hj3.bs.long hj3.me) _ _ hA3 (.lst (by rw [List.length_map]; lia)))) ?_ ?_
  ·rintro i v acc H5 ev ⟨G5,ys,rfl,ly,fr5,hj5,go5,pr5⟩;rw [List.getElem?_map] at ev;obtain ⟨k5,ek,rfl⟩:=Option.map_eq_some_iff.mp ev;have i9:i < 9:=by have:=(List.getElem?_eq_some_iff.mp ek).1; lia
   have ic:i * cst l+cst l<=9 * cst l:=by
    have:=Nat.mul_le_mul_right (cst l) (show i+1<=9 by lia);rw [Nat.succ_mul] at this;exact this
   have gf5:=go5.few;refine ⟨⟨[some (.int (k5:Int))],rfl,rfl⟩,by rw [List.length_map,ly]; exact Nat.lt_trans i9 (by decide),FH ⟨_,rfl,p,dx,_,rfl,hj5.hp,Iy _ _ _ _ _,_,rfl,_,rfl,_,_,rfl,rfl,p,dx,mem,pr,g,G5,_,_,r,m,k5,l,l,(show [V.ref p,V.int (k5:Int),V.int (((l+1:Nat):Int) - 1)]=[V.ref p,V.int (k5:Int),V.int (l:Int)] by rw [show ((l+1:Nat):Int) - 1=(l:Int) by lia]),hj5,go5.lev (lv9 i k5 ek),hL,Nat.le_refl l,by lia,by lia,by lia,fun y G6 H6 fr6 hj6 go6 jr6=>⟨G6,ys ++ [y],by rw [List.map_append]; rfl,by rw [List.length_append,ly]; rfl,fr5.trans fr6,(by rw [Nat.succ_mul,<-Nat.add_assoc,<-Nat.add_assoc]; exact hj6),(by rw [Nat.succ_mul]; exact go5.trans go6),?_⟩⟩⟩;rw [List.take_add_one,ek,Option.toList_some];exact Paired.snoc (Paired.imp (fun k y z=>z.goes hj5.ok go6) pr5) jr6
  rintro acc H5 ⟨G5,ys,rfl,ly,fr5,hj5,go5,pr5⟩ A5 hA5;rw [List.length_map,l9] at ly hj5 go5;rw [List.length_map,List.take_length] at pr5;have nj:=LY hj3.ok go5 nine pr5;obtain ⟨y0,y1,y2,y3,y4,y5,y6,y7,y8,rfl⟩:=PU ys ly;have gf5:=go5.few;have s5:An H5 (upd H5 A5 (.lst ([y0,y1,y2,y3,y4,y5,y6,y7,y8].map toV))):=Ah hA5;have hA5':upd H5 A5 (.lst ([y0,y1,y2,y3,y4,y5,y6,y7,y8].map toV)) A5=some (.lst ([y0,y1,y2,y3,y4,y5,y6,y7,y8].map toV)):=Ab;generalize upd H5 A5 (.lst ([y0,y1,y2,y3,y4,y5,y6,y7,y8].map toV))=H6 at s5 hA5' ⊢;have hj6:=hj5.same s5;have f06:FrJ g m H H6:=(Fr.j fr3).trans (fr5.trans (An.j s5));obtain ⟨lv0,vw0⟩:Aq G5 y0 ((l+1:Nat):Int)/\Vw G5 (AR r (2 ^ l) (Ap G (l+1+2) n)) (l+1) y0 (2 ^ (l+1) * 0+2 ^ l) (2 ^ (l+1) * 0+2 ^ l):=by
   obtain ⟨y,q1,q2,q3⟩:=nj 0 0 (by decide) (by decide);cases q1;exact ⟨q2,q3⟩
  obtain ⟨lv1,vw1⟩:Aq G5 y1 ((l+1:Nat):Int)/\Vw G5 (AR r (2 ^ l) (Ap G (l+1+2) n)) (l+1) y1 (2 ^ (l+1) * 1+2 ^ l) (2 ^ (l+1) * 0+2 ^ l):=by
   obtain ⟨y,q1,q2,q3⟩:=nj 1 0 (by decide) (by decide);cases q1;exact ⟨q2,q3⟩
  obtain ⟨lv2,vw2⟩:Aq G5 y2 ((l+1:Nat):Int)/\Vw G5 (AR r (2 ^ l) (Ap G (l+1+2) n)) (l+1) y2 (2 ^ (l+1) * 2+2 ^ l) (2 ^ (l+1) * 0+2 ^ l):=by
   obtain ⟨y,q1,q2,q3⟩:=nj 2 0 (by decide) (by decide);cases q1;exact ⟨q2,q3⟩
  obtain ⟨lv3,vw3⟩:Aq G5 y3 ((l+1:Nat):Int)/\Vw G5 (AR r (2 ^ l) (Ap G (l+1+2) n)) (l+1) y3 (2 ^ (l+1) * 0+2 ^ l) (2 ^ (l+1) * 1+2 ^ l):=by
   obtain ⟨y,q1,q2,q3⟩:=nj 0 1 (by decide) (by decide);cases q1;exact ⟨q2,q3⟩
  obtain ⟨lv4,vw4⟩:Aq G5 y4 ((l+1:Nat):Int)/\Vw G5 (AR r (2 ^ l) (Ap G (l+1+2) n)) (l+1) y4 (2 ^ (l+1) * 1+2 ^ l) (2 ^ (l+1) * 1+2 ^ l):=by
   obtain ⟨y,q1,q2,q3⟩:=nj 1 1 (by decide) (by decide);cases q1;exact ⟨q2,q3⟩
  obtain ⟨lv5,vw5⟩:Aq G5 y5 ((l+1:Nat):Int)/\Vw G5 (AR r (2 ^ l) (Ap G (l+1+2) n)) (l+1) y5 (2 ^ (l+1) * 2+2 ^ l) (2 ^ (l+1) * 1+2 ^ l):=by
   obtain ⟨y,q1,q2,q3⟩:=nj 2 1 (by decide) (by decide);cases q1;exact ⟨q2,q3⟩
  obtain ⟨lv6,vw6⟩:Aq G5 y6 ((l+1:Nat):Int)/\Vw G5 (AR r (2 ^ l) (Ap G (l+1+2) n)) (l+1) y6 (2 ^ (l+1) * 0+2 ^ l) (2 ^ (l+1) * 2+2 ^ l):=by
   obtain ⟨y,q1,q2,q3⟩:=nj 0 2 (by decide) (by decide);cases q1;exact ⟨q2,q3⟩
  obtain ⟨lv7,vw7⟩:Aq G5 y7 ((l+1:Nat):Int)/\Vw G5 (AR r (2 ^ l) (Ap G (l+1+2) n)) (l+1) y7 (2 ^ (l+1) * 1+2 ^ l) (2 ^ (l+1) * 2+2 ^ l):=by
   obtain ⟨y,q1,q2,q3⟩:=nj 1 2 (by decide) (by decide);cases q1;exact ⟨q2,q3⟩
  obtain ⟨lv8,vw8⟩:Aq G5 y8 ((l+1:Nat):Int)/\Vw G5 (AR r (2 ^ l) (Ap G (l+1+2) n)) (l+1) y8 (2 ^ (l+1) * 2+2 ^ l) (2 ^ (l+1) * 2+2 ^ l):=by
   obtain ⟨y,q1,q2,q3⟩:=nj 2 2 (by decide) (by decide);cases q1;exact ⟨q2,q3⟩
  refine ⟨_,rfl,A5,y0,y1,y2,y3,y4,y5,y6,y7,y8,rfl,hA5',fun MM t0 t1 t2 t3 H7 s7 hM ht0 ht1 ht2 ht3=>?_⟩;have hj7:=hj6.same s7;refine ⟨MM,rfl,⟨_,SqL.of hM⟩,?_⟩;have p1:2 ^ (l+1)=2 ^ l * 2:=Nat.pow_succ ..;have four:∀ (t:Nat) (tt:Addr),[t0,t1,t2,t3][t]?=some tt->∃ f0 f1 f2 f3:Nat,H7 tt=some (.tup [.int f0,.int f1,.int f2,.int f3])/\(Aq G5 f0 ((l+1:Nat):Int)/\Aq G5 f1 ((l+1:Nat):Int)/\Aq G5 f2 ((l+1:Nat):Int)/\Aq G5 f3 ((l+1:Nat):Int))/\Vw G5 (AR r (2 ^ l) (Ap G (l+1+2) n)) (l+1) f0 (2 ^ (l+1) * (t % 2)+2 ^ l) (2 ^ (l+1) * (t / 2)+2 ^ l)/\Vw G5 (AR r (2 ^ l) (Ap G (l+1+2) n)) (l+1) f1 (2 ^ (l+1) * (t % 2)+2 ^ l+2 ^ (l+1)) (2 ^ (l+1) * (t / 2)+2 ^ l)/\Vw G5 (AR r (2 ^ l) (Ap G (l+1+2) n)) (l+1) f2 (2 ^ (l+1) * (t % 2)+2 ^ l) (2 ^ (l+1) * (t / 2)+2 ^ l+2 ^ (l+1))/\Vw G5 (AR r (2 ^ l) (Ap G (l+1+2) n)) (l+1) f3 (2 ^ (l+1) * (t % 2)+2 ^ l+2 ^ (l+1)) (2 ^ (l+1) * (t / 2)+2 ^ l+2 ^ (l+1)):=fun t tt et=>by
   match t,et with
   | 0,et=>cases et; exact ⟨y0,y1,y3,y4,ht0,⟨lv0,lv1,lv3,lv4⟩,vw0.at' (by lia) (by lia),vw1.at' (by lia) (by lia),vw3.at' (by lia) (by lia),vw4.at' (by lia) (by lia)⟩
   | 1,et=>cases et; exact ⟨y1,y2,y4,y5,ht1,⟨lv1,lv2,lv4,lv5⟩,vw1.at' (by lia) (by lia),vw2.at' (by lia) (by lia),vw4.at' (by lia) (by lia),vw5.at' (by lia) (by lia)⟩
   | 2,et=>cases et; exact ⟨y3,y4,y6,y7,ht2,⟨lv3,lv4,lv6,lv7⟩,vw3.at' (by lia) (by lia),vw4.at' (by lia) (by lia),vw6.at' (by lia) (by lia),vw7.at' (by lia) (by lia)⟩
   | 3,et=>cases et; exact ⟨y4,y5,y7,y8,ht3,⟨lv4,lv5,lv7,lv8⟩,vw4.at' (by lia) (by lia),vw5.at' (by lia) (by lia),vw7.at' (by lia) (by lia),vw8.at' (by lia) (by lia)⟩
   | j+4,et=>cases et
  have okG5:=hj7.ok;refine Ck (xs:=[t0,t1,t2,t3].map V.ref) (fun i acc H8=>∃ (G8:Gv) (zs:List Nat),acc=zs.map toV/\zs.length=i/\Fr g H7 H8/\JW a H8 g G8 (N+9 * cst l) (M+9 * cst l) p dx mem pr r m/\AZ G5 G8 i/\∀ (t z:Nat),zs[t]?=some z->Aq G8 z ((l+2:Nat):Int)/\Vw G8 (AR r (2 ^ l) (Ap G (l+1+2) n)) (l+1+1) z (2 ^ (l+1) * (t % 2)+2 ^ l) (2 ^ (l+1) * (t / 2)+2 ^ l)) ⟨G5,[],rfl,rfl,Fr.refl g H7,hj7,AZ.refl okG5,fun t z e=>(nomatch e)⟩ (fun i acc H8 _ z=>by obtain ⟨_,_,_,_,fr,_⟩:=z; exact SqL.of ((fr.kps hj7.gr hj7.bs.long) _ _ hM (.lst (by show 4<=50; decide)))) ?_ ?_
  ·rintro i v acc H8 ev ⟨G8,zs,rfl,lz,fr8,hj8,go8,vz⟩;rw [List.getElem?_map] at ev;obtain ⟨tt,et,rfl⟩:=Option.map_eq_some_iff.mp ev;have i4:i < 4:=(List.getElem?_eq_some_iff.mp et).1;obtain ⟨f0,f1,f2,f3,htt,⟨m0,m1,m2,m3⟩,w0,w1,w2,w3⟩:=four i tt et;have gf8:=go8.few;refine ⟨⟨[some (.ref tt)],rfl,rfl⟩,by rw [List.length_map,lz]; exact Nat.lt_trans i4 (by decide),FH ⟨_,rfl,p,_,dx,_,_,rfl,hj8.hp,T.cl_Jumps,T.na_Jumps_grove,Fe _ _ _ _ _,g.p,g.dx,_,rfl,hj8.gr.hp,CT g,_,rfl,g,G8,tt,f0,f1,f2,f3,((l+1:Nat):Int),rfl,hj8.gr,hj8.ok,(fr8.kps hj7.gr hj7.bs.long) _ _ htt (.inl .tup),⟨go8.lev m0,go8.lev m1,go8.lev m2,go8.lev m3⟩,by lia,by lia,fun z G9 H9 fr9 hg9 go9 e9=>⟨G9,zs ++ [z],by rw [List.map_append]; rfl,by rw [List.length_append,lz]; rfl,fr8.trans fr9,hj8.fr fr9 hg9 go9,go8.trans go9,fun t z' e=>?_⟩⟩⟩;by_cases ti:t < i
   ·rw [List.getElem?_append_left (by lia)] at e;obtain ⟨q1,q2⟩:=vz t z' e;exact ⟨go9.lev q1,q2.goes hj8.ok go9 q1⟩
   ·have:t=i:=by
     have:=(List.getElem?_eq_some_iff.mp e).1;rw [List.length_append,lz] at this;have:t < i+1:=this;lia
    subst this;rw [List.getElem?_append_right (by lia),lz,Nat.sub_self] at e;cases e;exact ⟨⟨_,e9,by show ((l+1:Nat):Int)+1=((l+2:Nat):Int); lia⟩,GU okG5 (go8.trans go9) m0 m1 m2 m3 w0 w1 w2 w3 e9⟩
  rintro acc H8 ⟨G8,zs,rfl,lz,fr8,hj8,go8,vz⟩ A8 hA8;obtain ⟨z0,z1,z2,z3,rfl⟩:=Lr zs lz;have s8:An H8 (upd H8 A8 (.lst ([z0,z1,z2,z3].map toV))):=Ah hA8;have go4:AZ G5 G8 4:=go8;obtain ⟨q0,x0⟩:=vz 0 z0 rfl;obtain ⟨q1,x1⟩:=vz 1 z1 rfl;obtain ⟨q2,x2⟩:=vz 2 z2 rfl;obtain ⟨q3,x3⟩:=vz 3 z3 rfl;refine k A8 z0 z1 z2 z3 G8 _ (f06.trans ((An.j s7).trans ((Fr.j fr8).trans (An.j s8)))) (hj8.same s8) (((go3.trans go5).trans go4).mono (by lia)) Ab ⟨q0,q1,q2,q3⟩ ⟨x0.at' (by lia) (by lia),x1.at' (by lia) (by lia),x2.at' (by lia) (by lia),x3.at' (by lia) (by lia)⟩
theorem ok_freG {L d:Nat} {f:Addr} {fd:FuncData} (F:Fun K "fresh" "Jumps.fresh" Bw f fd) (T:Top K mg a) (d7:7<=d) (aF:BK P w K mg base CX0 7 a.c_Jumps "middle_after" Bq (MB a)) (aB:BK P w K mg base CX0 2 a.c_Grove "linked" AY (FV a)) (aL:Cal P w K mg base CX0 3 "nine_parts" Db (JH a)) (aR:Cal P w K mg base CX0 1 "fours_of" Ee Ii) (aH:Cal P w K mg base CX0 3 "met_in_the_middle" BD (Pu a)) (aE:BK P w K mg base CX0 d a.c_Jumps "reckoned" AX (FN a L)) (d5:BK P w K mg base CX0 (d+1) a.c_Jumps "four_halfway" Br (OH a L)):AU P w K mg base CX0 (d+2) f fd Dn (OI a (L+1)):=by
 refine F.ok Eu (fun vs H Q E h=>?_) (fun cdv A outer s H vs Q E hr h=>?_)
 ·obtain ⟨p,dx,mem,pr,g,G,N,M,r,m,n,l,e,rfl,_⟩:=h;rfl
 ·obtain ⟨p,dx,mem,pr,g,G,N,M,r,m,n,l,e,rfl,hj,hl,hL,he,fewN,fewM,few,k⟩:=h;obtain ⟨q,eq,el⟩:=id hl;have l48:=(hj.ok.lev eq).2;have l46:l<=46:=by lia
  refine ⟨_,(Ae (Av (i:=3) Eu.nd rfl (Or.inr rfl) (AG (pv 0) rfl)) (Ae (Av (i:=4) Eu.nd rfl (Or.inl rfl) (Al Au (AG (pv 3) rfl) (pv 1) (fun _ _=>rfl))) (Ae (Ba (AJ FA (pv 1) (Al Au (AG (pv 3) rfl) (pv 4) (fun _ _=>rfl)) (AT _)) (Aj (AA (Al Au (AG (pv 3) rfl) (AH Ef (pv 4) Af) (fun _ _=>rfl)))) AE) (Ae (Ba (AJ FA (pv 4) (Ev rfl T.k_LEAST_JUMPED) (AT _)) (Aj (AA (AF (pv 0) aF (rm hr) Ar (Aa (pv 1) Ac)))) AE) (Ae (Ba (AJ Ji (pv 2) (AH Ef (pv 4) (Ev rfl T.k_LEAST_JUMPED)) (AT _)) (Ae (Fw (i:=5) rfl Eu.nd rfl rfl (Bn.of (So:=Ag Bw) (No:=EN) (N:=["part","self","e"]) (k:=1) (cs:=[0,2]) rfl rfl (by decide +kernel)) (BB (Az aL (rm hr) rfl Ar (Aa (pv 3) (Aa (pv 1) Ac)))) (fun _ _ _=>(AV (i:=0) (by decide +kernel) rfl rfl)) (fun _ _ _=>BH) (fun _ _ _=>(AF (pv 1) aE (rm hr) Ar (Aa (pv 0) (Aa (pv 2) Ac))))) (Aj (AA (AF (pv 3) aB (rm hr) Ar (Aa (BZ Dp rfl T.b_tuple PyProof.Rows.boot_tuple (Aa (BT rfl (Bn.of (So:=Ag Bw) (No:=EN) (N:=["four","grove"]) (k:=1) (cs:=[3]) rfl rfl (by decide +kernel)) (BB (Az aR (rm hr) rfl Ar (Aa (pv 5) Ac))) (fun _ _ _=>(AV (i:=0) (by decide +kernel) rfl rfl)) (fun _ _ _=>BH) (fun _ _ _=>(Az aH (rm hr) rfl Ar (Aa (pv 1) (Aa (pv 0) Ac))))) Ac)) Ac))))) AE) (Aj (AA (AF (pv 3) aB (rm hr) Ar (Aa (BZ Dp rfl T.b_tuple PyProof.Rows.boot_tuple (Aa (BT rfl (Bn.of (So:=Ag Bw) (No:=EN) (N:=["four","self","e"]) (k:=1) (cs:=[0,2]) rfl rfl (by decide +kernel)) (BB (AF (pv 0) d5 (rm hr) Ar (Aa (pv 1) (Aa (pv 2) Ac)))) (fun _ _ _=>(AV (i:=0) (by decide +kernel) rfl rfl)) (fun _ _ _=>BH) (fun _ _ _=>(AF (pv 1) aE (rm hr) Ar (Aa (pv 0) (Cp Ef (pv 2) Af Ac))))) Ac)) Ac))))))))),?_⟩
  try dsimp only [cxK]
  refine ⟨_,rfl,p,_,dx,_,_,rfl,hj.hp,T.cl_Jumps,T.na_Jumps_grove,Fe _ _ _ _ _,?_⟩;refine ⟨_,rfl,g.p,_,g.dx,_,_,rfl,hj.gr.hp,T.cl_Grove,T.na_Grove_levels,GJ g,_,rfl,g.lv,_,(n:Int),.int ((l+2:Nat):Int),rfl,rfl,SqL.of hj.gr.lv,Ai (by rw [List.getElem?_map,eq,<-el]; rfl),?_⟩;refine ⟨_,rfl,_,rfl,g.p,_,g.dx,_,_,rfl,hj.gr.hp,T.cl_Grove,T.na_Grove_bares,Ng g,_,rfl,g.br,_,((l+2:Nat):Int),.int (bareN (l+2):Int),rfl,rfl,SqL.of hj.br,Ai (bareJ (by lia)),rfl,_,rfl,?_⟩;have c5:=Qh l;refine Jd (fun hc=>?_) (fun hc=>?_)
  ·have ei:n=bareN (l+2):=by
    have:=of_decide_eq_true hc;injection this with this
    exact Int.ofNat.inj this
   refine ⟨_,rfl,g.p,_,g.dx,_,_,rfl,hj.gr.hp,T.cl_Grove,T.na_Grove_bares,Ng g,_,rfl,_,_,rfl,rfl,g.br,_,((l+2:Nat):Int) - 1,.int (bareN (l+1):Int),rfl,rfl,SqL.of hj.br,(by rw [show ((l+2:Nat):Int) - 1=((l+1:Nat):Int) by lia]; exact Ai (bareJ (by lia))),?_⟩;refine k (bareN (l+1)) G H (fun b o e _ _ _ _ _=>e) (hj.mono (by lia) (by lia)) ((AZ.refl hj.ok).mono (by lia)) ?_;rw [ei];exact JR.bare hj.ok hj.bs hj.rest (by lia) he
  refine ⟨_,rfl,rfl,_,rfl,?_⟩;cases l with
  | zero =>
   refine (show ∀ {b:Bool} {A B:Prop},b=true->A->(if b=true then A else B) from fun h x=>by rw [h]; exact EC x) (decide_eq_true rfl) ?_;have e0:e=0:=by lia
   subst e0;exact ⟨_,rfl,p,dx,_,rfl,hj.hp,noJ_mid _ _ _ _ _,_,rfl,p,dx,mem,pr,g,G,N,M,r,m,n,rfl,hj,hl,by lia,by lia,fun k' G' H' fr hj' go jr=>k k' G' H' fr (hj'.mono (by lia) (by show M+4<=M+(5 - 1); lia)) (go.mono (by show 1<=5 - 1; decide)) jr⟩
  | succ l =>
   refine (show ∀ {b:Bool} {A B:Prop},b=false->B->(if b=true then A else B) from fun h x=>by rw [h]; exact Cz x) (decide_eq_false (by intro z; injection z with z; have z:((l+1+2:Nat):Int)=2:=z; lia)) ?_;have cs:cst (l+1)=13 * cst l+11:=rfl;have c5:=Qh l;have hL:l < L:=by lia
   have p1:2 ^ (l+1)=2 ^ l * 2:=Nat.pow_succ ..;refine ⟨_,rfl,_,rfl,_,_,rfl,rfl,_,_,rfl,rfl,_,rfl,?_⟩;refine Jd (fun hc=>?_) (fun hc=>?_)
   ·have el':e<=l:=by
     have hc:=of_decide_eq_true hc;have hc:(e:Int) < ((l+1+2:Nat):Int) - 2:=hc;lia
    obtain ⟨q9,eq9,el9⟩:=id hl;have l46:l<=45:=by have:=(hj.ok.lev eq9).2; lia
    refine ⟨_,rfl,_,rfl,g,G,n,l+1,rfl,hj.gr,hj.ok,hl,by lia,by lia,fun A9 ks G3 H3 fr3 hg3 go3 hA3 l9 nine=>?_⟩;have hj3:=hj.fr fr3 hg3 go3;have gf3:=go3.few;have lv9:∀ (t k:Nat),ks[t]?=some k->Aq G3 k ((l+2:Nat):Int):=fun t k e=>by
     have ht:=(List.getElem?_eq_some_iff.mp e).1;obtain ⟨k',e1,e2,_⟩:=nine (t % 3) (t / 3) (by lia) (by lia);rw [show t % 3+3 * (t / 3)=t by lia,e] at e1;cases e1;exact e2
    refine ⟨A9,rfl,⟨_,SqL.of hA3⟩,?_⟩;refine Ck (xs:=ks.map fun (k:Nat)=>V.int (k:Int)) (fun i acc H5=>∃ (G5:Gv) (ys:List Nat),acc=ys.map toV/\ys.length=i/\FrJ g m H3 H5/\JW a H5 g G5 (N+i * cst l) (M+i * cst l) p dx mem pr r m/\AZ G3 G5 (i * cst l)/\Paired (fun k y=>JR r G5 e k y) (ks.take i) ys) ⟨G3,[],rfl,rfl,fun b o e _ _ _ _ _=>e,(by rw [Nat.zero_mul]; exact hj3),(by rw [Nat.zero_mul]; exact AZ.refl hj3.ok),.nil⟩ (fun i acc H5 _ z=>by obtain ⟨_,_,_,_,fr,_⟩:=z; exact SqL.of ((fr.kps hj3.gr hj3.bs.long hj3.me) _ _ hA3 (.lst (by rw [List.length_map]; lia)))) ?_ ?_
    ·rintro i v acc H5 ev ⟨G5,ys,rfl,ly,fr5,hj5,go5,pr5⟩;rw [List.getElem?_map] at ev;obtain ⟨k5,ek,rfl⟩:=Option.map_eq_some_iff.mp ev;have i9:i < 9:=by have:=(List.getElem?_eq_some_iff.mp ek).1; lia
     have ic:i * cst l+cst l<=9 * cst l:=by
      have:=Nat.mul_le_mul_right (cst l) (show i+1<=9 by lia);rw [Nat.succ_mul] at this;exact this
     have gf5:=go5.few;refine ⟨⟨[some (.int (k5:Int))],rfl,rfl⟩,by rw [List.length_map,ly]; exact Nat.lt_trans i9 (by decide),FH ⟨_,rfl,p,dx,_,rfl,hj5.hp,Iy _ _ _ _ _,_,rfl,_,rfl,p,dx,mem,pr,g,G5,_,_,r,m,k5,l,e,rfl,hj5,go5.lev (lv9 i k5 ek),hL,el',by lia,by lia,by lia,fun y G6 H6 fr6 hj6 go6 jr6=>⟨G6,ys ++ [y],by rw [List.map_append]; rfl,by rw [List.length_append,ly]; rfl,fr5.trans fr6,(by rw [Nat.succ_mul,<-Nat.add_assoc,<-Nat.add_assoc]; exact hj6),(by rw [Nat.succ_mul]; exact go5.trans go6),?_⟩⟩⟩;rw [List.take_add_one,ek,Option.toList_some];exact Paired.snoc (Paired.imp (fun k y z=>z.goes hj5.ok go6) pr5) jr6
    rintro acc H5 ⟨G5,ys,rfl,ly,fr5,hj5,go5,pr5⟩ A5 hA5;rw [List.length_map,l9] at ly hj5 go5;rw [List.length_map,List.take_length] at pr5;have nj:=LY hj3.ok go5 nine pr5;obtain ⟨y0,y1,y2,y3,y4,y5,y6,y7,y8,rfl⟩:=PU ys ly;have gf5:=go5.few;have s5:An H5 (upd H5 A5 (.lst ([y0,y1,y2,y3,y4,y5,y6,y7,y8].map toV))):=Ah hA5;have hA5':upd H5 A5 (.lst ([y0,y1,y2,y3,y4,y5,y6,y7,y8].map toV)) A5=some (.lst ([y0,y1,y2,y3,y4,y5,y6,y7,y8].map toV)):=Ab;generalize upd H5 A5 (.lst ([y0,y1,y2,y3,y4,y5,y6,y7,y8].map toV))=H6 at s5 hA5' ⊢;have hj6:=hj5.same s5;have f06:FrJ g m H H6:=(Fr.j fr3).trans (fr5.trans (An.j s5));obtain ⟨lv0,vw0⟩:Aq G5 y0 ((l+1:Nat):Int)/\Vw G5 (AR r (2 ^ e) (Ap G (l+1+2) n)) (l+1) y0 (2 ^ (l+1) * 0+2 ^ l) (2 ^ (l+1) * 0+2 ^ l):=by
     obtain ⟨y,q1,q2,q3⟩:=nj 0 0 (by decide) (by decide);cases q1;exact ⟨q2,q3⟩
    obtain ⟨lv1,vw1⟩:Aq G5 y1 ((l+1:Nat):Int)/\Vw G5 (AR r (2 ^ e) (Ap G (l+1+2) n)) (l+1) y1 (2 ^ (l+1) * 1+2 ^ l) (2 ^ (l+1) * 0+2 ^ l):=by
     obtain ⟨y,q1,q2,q3⟩:=nj 1 0 (by decide) (by decide);cases q1;exact ⟨q2,q3⟩
    obtain ⟨lv2,vw2⟩:Aq G5 y2 ((l+1:Nat):Int)/\Vw G5 (AR r (2 ^ e) (Ap G (l+1+2) n)) (l+1) y2 (2 ^ (l+1) * 2+2 ^ l) (2 ^ (l+1) * 0+2 ^ l):=by
     obtain ⟨y,q1,q2,q3⟩:=nj 2 0 (by decide) (by decide);cases q1;exact ⟨q2,q3⟩
    obtain ⟨lv3,vw3⟩:Aq G5 y3 ((l+1:Nat):Int)/\Vw G5 (AR r (2 ^ e) (Ap G (l+1+2) n)) (l+1) y3 (2 ^ (l+1) * 0+2 ^ l) (2 ^ (l+1) * 1+2 ^ l):=by
     obtain ⟨y,q1,q2,q3⟩:=nj 0 1 (by decide) (by decide);cases q1;exact ⟨q2,q3⟩
    obtain ⟨lv4,vw4⟩:Aq G5 y4 ((l+1:Nat):Int)/\Vw G5 (AR r (2 ^ e) (Ap G (l+1+2) n)) (l+1) y4 (2 ^ (l+1) * 1+2 ^ l) (2 ^ (l+1) * 1+2 ^ l):=by
     obtain ⟨y,q1,q2,q3⟩:=nj 1 1 (by decide) (by decide);cases q1;exact ⟨q2,q3⟩
    obtain ⟨lv5,vw5⟩:Aq G5 y5 ((l+1:Nat):Int)/\Vw G5 (AR r (2 ^ e) (Ap G (l+1+2) n)) (l+1) y5 (2 ^ (l+1) * 2+2 ^ l) (2 ^ (l+1) * 1+2 ^ l):=by
     obtain ⟨y,q1,q2,q3⟩:=nj 2 1 (by decide) (by decide);cases q1;exact ⟨q2,q3⟩
    obtain ⟨lv6,vw6⟩:Aq G5 y6 ((l+1:Nat):Int)/\Vw G5 (AR r (2 ^ e) (Ap G (l+1+2) n)) (l+1) y6 (2 ^ (l+1) * 0+2 ^ l) (2 ^ (l+1) * 2+2 ^ l):=by
     obtain ⟨y,q1,q2,q3⟩:=nj 0 2 (by decide) (by decide);cases q1;exact ⟨q2,q3⟩
    obtain ⟨lv7,vw7⟩:Aq G5 y7 ((l+1:Nat):Int)/\Vw G5 (AR r (2 ^ e) (Ap G (l+1+2) n)) (l+1) y7 (2 ^ (l+1) * 1+2 ^ l) (2 ^ (l+1) * 2+2 ^ l):=by
     obtain ⟨y,q1,q2,q3⟩:=nj 1 2 (by decide) (by decide);cases q1;exact ⟨q2,q3⟩
    obtain ⟨lv8,vw8⟩:Aq G5 y8 ((l+1:Nat):Int)/\Vw G5 (AR r (2 ^ e) (Ap G (l+1+2) n)) (l+1) y8 (2 ^ (l+1) * 2+2 ^ l) (2 ^ (l+1) * 2+2 ^ l):=by
     obtain ⟨y,q1,q2,q3⟩:=nj 2 2 (by decide) (by decide);cases q1;exact ⟨q2,q3⟩
    refine ⟨_,rfl,g.p,g.dx,_,rfl,hj6.gr.hp,CT g,?_⟩;refine ⟨_,rfl,A5,y0,y1,y2,y3,y4,y5,y6,y7,y8,rfl,hA5',fun MM t0 t1 t2 t3 H7 s7 hM ht0 ht1 ht2 ht3=>?_⟩;have hj7:=hj6.same s7;refine ⟨MM,rfl,⟨_,SqL.of hM⟩,?_⟩;have four:∀ (t:Nat) (tt:Addr),[t0,t1,t2,t3][t]?=some tt->∃ f0 f1 f2 f3:Nat,H7 tt=some (.tup [.int f0,.int f1,.int f2,.int f3])/\(Aq G5 f0 ((l+1:Nat):Int)/\Aq G5 f1 ((l+1:Nat):Int)/\Aq G5 f2 ((l+1:Nat):Int)/\Aq G5 f3 ((l+1:Nat):Int))/\Vw G5 (AR r (2 ^ e) (Ap G (l+1+2) n)) (l+1) f0 (2 ^ (l+1) * (t % 2)+2 ^ l) (2 ^ (l+1) * (t / 2)+2 ^ l)/\Vw G5 (AR r (2 ^ e) (Ap G (l+1+2) n)) (l+1) f1 (2 ^ (l+1) * (t % 2)+2 ^ l+2 ^ (l+1)) (2 ^ (l+1) * (t / 2)+2 ^ l)/\Vw G5 (AR r (2 ^ e) (Ap G (l+1+2) n)) (l+1) f2 (2 ^ (l+1) * (t % 2)+2 ^ l) (2 ^ (l+1) * (t / 2)+2 ^ l+2 ^ (l+1))/\Vw G5 (AR r (2 ^ e) (Ap G (l+1+2) n)) (l+1) f3 (2 ^ (l+1) * (t % 2)+2 ^ l+2 ^ (l+1)) (2 ^ (l+1) * (t / 2)+2 ^ l+2 ^ (l+1)):=fun t tt et=>by
     match t,et with
     | 0,et=>cases et; exact ⟨y0,y1,y3,y4,ht0,⟨lv0,lv1,lv3,lv4⟩,vw0.at' (by lia) (by lia),vw1.at' (by lia) (by lia),vw3.at' (by lia) (by lia),vw4.at' (by lia) (by lia)⟩
     | 1,et=>cases et; exact ⟨y1,y2,y4,y5,ht1,⟨lv1,lv2,lv4,lv5⟩,vw1.at' (by lia) (by lia),vw2.at' (by lia) (by lia),vw4.at' (by lia) (by lia),vw5.at' (by lia) (by lia)⟩
     | 2,et=>cases et; exact ⟨y3,y4,y6,y7,ht2,⟨lv3,lv4,lv6,lv7⟩,vw3.at' (by lia) (by lia),vw4.at' (by lia) (by lia),vw6.at' (by lia) (by lia),vw7.at' (by lia) (by lia)⟩
     | 3,et=>cases et; exact ⟨y4,y5,y7,y8,ht3,⟨lv4,lv5,lv7,lv8⟩,vw4.at' (by lia) (by lia),vw5.at' (by lia) (by lia),vw7.at' (by lia) (by lia),vw8.at' (by lia) (by lia)⟩
     | j+4,et=>cases et
    have okG5:=hj7.ok;refine Ck (xs:=[t0,t1,t2,t3].map V.ref) (fun i acc H8=>∃ (G8:Gv) (zs:List Nat),acc=zs.map toV/\zs.length=i/\Fr g H7 H8/\JW a H8 g G8 (N+9 * cst l) (M+9 * cst l) p dx mem pr r m/\AZ G5 G8 i/\∀ (t z:Nat),zs[t]?=some z->Aq G8 z ((l+1:Nat):Int)/\Vw G8 (AR r (2 ^ e) (Ap G (l+1+2) n)) (l+1) z (2 ^ (l+1) * (t % 2)+2 ^ (l+1)) (2 ^ (l+1) * (t / 2)+2 ^ (l+1))) ⟨G5,[],rfl,rfl,Fr.refl g H7,hj7,AZ.refl okG5,fun t z e=>(nomatch e)⟩ (fun i acc H8 _ z=>by obtain ⟨_,_,_,_,fr,_⟩:=z; exact SqL.of ((fr.kps hj7.gr hj7.bs.long) _ _ hM (.lst (by show 4<=50; decide)))) ?_ ?_
    ·rintro i v acc H8 ev ⟨G8,zs,rfl,lz,fr8,hj8,go8,vz⟩;rw [List.getElem?_map] at ev;obtain ⟨tt,et,rfl⟩:=Option.map_eq_some_iff.mp ev;have i4:i < 4:=(List.getElem?_eq_some_iff.mp et).1;obtain ⟨f0,f1,f2,f3,htt,⟨m0,m1,m2,m3⟩,w0,w1,w2,w3⟩:=four i tt et;have gf8:=go8.few;have qg:∀ {f:Nat} (j:Nat),Aq G5 f ((l+1:Nat):Int)->qO G8 f j=qO G5 f j:=fun {f} j h=>by
      obtain ⟨q,e,_⟩:=h;unfold qO;rw [go8.get e,e]
     refine ⟨⟨[some (.ref tt)],rfl,rfl⟩,by rw [List.length_map,lz]; exact Nat.lt_trans i4 (by decide),FH ⟨_,rfl,_,rfl,g,G8,tt,f0,f1,f2,f3,l,rfl,hj8.gr,hj8.ok,(fr8.kps hj7.gr hj7.bs.long) _ _ htt (.inl .tup),⟨go8.lev m0,go8.lev m1,go8.lev m2,go8.lev m3⟩,by lia,by lia,fun z G9 H9 fr9 hg9 go9 e9=>⟨G9,zs ++ [z],by rw [List.map_append]; rfl,by rw [List.length_append,lz]; rfl,fr8.trans fr9,hj8.fr fr9 hg9 go9,go8.trans go9,fun t z' e=>?_⟩⟩⟩;rw [qg 3 m0,qg 2 m1,qg 1 m2,qg 0 m3] at e9;by_cases ti:t < i
     ·rw [List.getElem?_append_left (by lia)] at e;obtain ⟨q1,q2⟩:=vz t z' e;exact ⟨go9.lev q1,q2.goes hj8.ok go9 q1⟩
     ·have:t=i:=by
       have:=(List.getElem?_eq_some_iff.mp e).1;rw [List.length_append,lz] at this;have:t < i+1:=this;lia
      subst this;rw [List.getElem?_append_right (by lia),lz,Nat.sub_self] at e;cases e;exact ⟨⟨_,e9,by show (l:Int)+1=((l+1:Nat):Int); lia⟩,(Sg okG5 (go8.trans go9) m0 m1 m2 m3 w0 w1 w2 w3 e9).at' (by lia) (by lia)⟩
    rintro acc H8 ⟨G8,zs,rfl,lz,fr8,hj8,go8,vz⟩ A8 hA8;obtain ⟨z0,z1,z2,z3,rfl⟩:=Lr zs lz;have go4:AZ G5 G8 4:=go8;have go08:=(go3.trans go5).trans go4;have f08:FrJ g m H H8:=f06.trans ((An.j s7).trans (Fr.j fr8));have s8:An H8 (upd H8 A8 (.lst ([z0,z1,z2,z3].map toV))):=Ah hA8;have hA8':upd H8 A8 (.lst ([z0,z1,z2,z3].map toV)) A8=some (.lst ([z0,z1,z2,z3].map toV)):=Ab;generalize upd H8 A8 (.lst ([z0,z1,z2,z3].map toV))=H9 at s8 hA8' ⊢;refine ⟨A8,_,rfl,.inl ⟨SqL.of hA8',fun u hu=>?_⟩⟩;have s9:An H9 (upd H9 u (.tup ([z0,z1,z2,z3].map toV))):=Ah hu;have hu9:upd H9 u (.tup ([z0,z1,z2,z3].map toV)) u=some (.tup ([z0,z1,z2,z3].map toV)):=Ab;generalize upd H9 u (.tup ([z0,z1,z2,z3].map toV))=H10 at s9 hu9 ⊢;have hj10:=(hj8.same s8).same s9;obtain ⟨q0,x0⟩:=vz 0 z0 rfl;obtain ⟨q1,x1⟩:=vz 1 z1 rfl;obtain ⟨q2,x2⟩:=vz 2 z2 rfl;obtain ⟨q3,x3⟩:=vz 3 z3 rfl;have gf08:=go08.few;refine ⟨g,G8,u,z0,z1,z2,z3,((l+1:Nat):Int),rfl,hj10.gr,hj10.ok,hu9,⟨q0,q1,q2,q3⟩,by lia,by lia,fun z G11 H11 fr11 hg11 go11 e11=>?_⟩;refine k z G11 H11 (f08.trans ((An.j s8).trans ((An.j s9).trans (Fr.j fr11)))) ((hj10.fr fr11 hg11 go11).mono (by lia) (by lia)) ((go08.trans go11).mono (by lia)) ?_;have goz:=go08.trans go11;refine Vw.jr (goz.lev hl) he ⟨_,e11,by show ((l+1:Nat):Int)+1=((l+1+1:Nat):Int); lia⟩ ?_;rw [FS hj.ok goz hl];exact GU hj10.ok go11 q0 q1 q2 q3 (x0.at' (by lia) (by lia)) (x1.at' (by lia) (by lia)) (x2.at' (by lia) (by lia)) (x3.at' (by lia) (by lia)) e11
   ·have el':e=l+1:=by
     have hc:¬ (e:Int) < ((l+1+2:Nat):Int) - 2:=fun z=>hc (decide_eq_true z);lia
    subst el';refine ⟨_,rfl,g.p,g.dx,_,rfl,hj.gr.hp,CT g,?_⟩;refine ⟨_,rfl,p,dx,_,rfl,hj.hp,Sc _ _ _ _ _,_,rfl,_,rfl,p,dx,mem,pr,g,G,N,M,r,m,n,l,rfl,hj,hl,hL,by lia,by lia,by lia,fun A7 f0 f1 f2 f3 G5 H7 f07 hj7 go5 hA7 lvs vws=>?_⟩;obtain ⟨m0,m1,m2,m3⟩:=lvs;obtain ⟨w0,w1,w2,w3⟩:=vws;have gf5:=go5.few;refine ⟨A7,rfl,⟨_,SqL.of hA7⟩,?_⟩;have okG5:=hj7.ok;have four:∀ (t f:Nat),[f0,f1,f2,f3][t]?=some f->Aq G5 f ((l+2:Nat):Int)/\Vw G5 (AR r (2 ^ l) (Ap G (l+1+2) n)) (l+2) f (2 ^ (l+1) * (t % 2)+2 ^ l) (2 ^ (l+1) * (t / 2)+2 ^ l):=fun t f et=>by
     match t,et with
     | 0,et=>cases et; exact ⟨m0,w0.at' (by lia) (by lia)⟩
     | 1,et=>cases et; exact ⟨m1,w1.at' (by lia) (by lia)⟩
     | 2,et=>cases et; exact ⟨m2,w2.at' (by lia) (by lia)⟩
     | 3,et=>cases et; exact ⟨m3,w3.at' (by lia) (by lia)⟩
     | j+4,et=>cases et
    have dbl:AR r (2 ^ l) (AR r (2 ^ l) (Ap G (l+1+2) n))=AR r (2 ^ (l+1)) (Ap G (l+1+2) n):=by
     rw [<-NA,p1,Nat.mul_two]
    refine Ck (xs:=[f0,f1,f2,f3].map toV) (fun i acc H8=>∃ (G8:Gv) (zs:List Nat),acc=zs.map toV/\zs.length=i/\FrJ g m H7 H8/\JW a H8 g G8 (N+9 * cst l+i * cst l) (M+9 * cst l+i * cst l) p dx mem pr r m/\AZ G5 G8 (i * cst l)/\∀ (t z:Nat),zs[t]?=some z->Aq G8 z ((l+1:Nat):Int)/\Vw G8 (AR r (2 ^ (l+1)) (Ap G (l+1+2) n)) (l+1) z (2 ^ (l+1) * (t % 2)+2 ^ (l+1)) (2 ^ (l+1) * (t / 2)+2 ^ (l+1))) ⟨G5,[],rfl,rfl,fun b o e _ _ _ _ _=>e,(by rw [Nat.zero_mul]; exact hj7),(by rw [Nat.zero_mul]; exact AZ.refl okG5),fun t z e=>(nomatch e)⟩ (fun i acc H8 _ z=>by obtain ⟨_,_,_,_,fr,_⟩:=z; exact SqL.of ((fr.kps hj7.gr hj7.bs.long hj7.me) _ _ hA7 (.lst (by show 4<=50; decide)))) ?_ ?_
    ·rintro i v acc H8 ev ⟨G8,zs,rfl,lz,fr8,hj8,go8,vz⟩;rw [List.getElem?_map] at ev;obtain ⟨ff,et,rfl⟩:=Option.map_eq_some_iff.mp ev;have i4:i < 4:=(List.getElem?_eq_some_iff.mp et).1;obtain ⟨mf,wf⟩:=four i ff et;have gf8:=go8.few;have ic:i * cst l+cst l<=4 * cst l:=by
      have:=Nat.mul_le_mul_right (cst l) (show i+1<=4 by lia);rw [Nat.succ_mul] at this;exact this
     refine ⟨⟨[some (toV ff)],rfl,rfl⟩,by rw [List.length_map,lz]; exact Nat.lt_trans i4 (by decide),FH ⟨_,rfl,p,dx,_,rfl,hj8.hp,Iy _ _ _ _ _,_,rfl,_,rfl,_,_,rfl,rfl,p,dx,mem,pr,g,G8,_,_,r,m,ff,l,l,(show [V.ref p,V.int (ff:Int),V.int (((l+1:Nat):Int) - 1)]=[V.ref p,V.int (ff:Int),V.int (l:Int)] by rw [show ((l+1:Nat):Int) - 1=(l:Int) by lia]),hj8,go8.lev mf,hL,Nat.le_refl l,by lia,by lia,by lia,fun z G9 H9 fr9 hj9 go9 jr9=>⟨G9,zs ++ [z],by rw [List.map_append]; rfl,by rw [List.length_append,lz]; rfl,fr8.trans fr9,(by rw [show (i+1) * cst l=i * cst l+cst l from Nat.succ_mul ..,<-Nat.add_assoc,<-Nat.add_assoc]; exact hj9),(by rw [Nat.succ_mul]; exact go8.trans go9),fun t z' e=>?_⟩⟩⟩;by_cases ti:t < i
     ·rw [List.getElem?_append_left (by lia)] at e;obtain ⟨q1,q2⟩:=vz t z' e;exact ⟨go9.lev q1,q2.goes hj8.ok go9 q1⟩
     ·have:t=i:=by
       have:=(List.getElem?_eq_some_iff.mp e).1;rw [List.length_append,lz] at this;have:t < i+1:=this;lia
      subst this;rw [List.getElem?_append_right (by lia),lz,Nat.sub_self] at e;cases e;obtain ⟨r1,_,r3⟩:=jr9.view ((go8.trans go9).lev mf) (wf.goes okG5 (go8.trans go9) mf);rw [dbl] at r3;exact ⟨r1,r3.at' (by lia) (by lia)⟩
    rintro acc H8 ⟨G8,zs,rfl,lz,fr8,hj8,go8,vz⟩ A8 hA8;obtain ⟨z0,z1,z2,z3,rfl⟩:=Lr zs lz;have go4:AZ G5 G8 (4 * cst l):=go8;have go08:=go5.trans go4;have f08:FrJ g m H H8:=f07.trans fr8;have hj8:JW a H8 g G8 (N+9 * cst l+4 * cst l) (M+9 * cst l+4 * cst l) p dx mem pr r m:=hj8;have s8:An H8 (upd H8 A8 (.lst ([z0,z1,z2,z3].map toV))):=Ah hA8;have hA8':upd H8 A8 (.lst ([z0,z1,z2,z3].map toV)) A8=some (.lst ([z0,z1,z2,z3].map toV)):=Ab;generalize upd H8 A8 (.lst ([z0,z1,z2,z3].map toV))=H9 at s8 hA8' ⊢;refine ⟨A8,_,rfl,.inl ⟨SqL.of hA8',fun u hu=>?_⟩⟩;have s9:An H9 (upd H9 u (.tup ([z0,z1,z2,z3].map toV))):=Ah hu;have hu9:upd H9 u (.tup ([z0,z1,z2,z3].map toV)) u=some (.tup ([z0,z1,z2,z3].map toV)):=Ab;generalize upd H9 u (.tup ([z0,z1,z2,z3].map toV))=H10 at s9 hu9 ⊢;have hj10:=(hj8.same s8).same s9;obtain ⟨q0,x0⟩:=vz 0 z0 rfl;obtain ⟨q1,x1⟩:=vz 1 z1 rfl;obtain ⟨q2,x2⟩:=vz 2 z2 rfl;obtain ⟨q3,x3⟩:=vz 3 z3 rfl;have gf08:=go08.few;refine ⟨g,G8,u,z0,z1,z2,z3,((l+1:Nat):Int),rfl,hj10.gr,hj10.ok,hu9,⟨q0,q1,q2,q3⟩,by lia,by lia,fun z G11 H11 fr11 hg11 go11 e11=>?_⟩;refine k z G11 H11 (f08.trans ((An.j s8).trans ((An.j s9).trans (Fr.j fr11)))) ((hj10.fr fr11 hg11 go11).mono (by lia) (by lia)) ((go08.trans go11).mono (by lia)) ?_;have goz:=go08.trans go11;refine Vw.jr (goz.lev hl) he ⟨_,e11,by show ((l+1:Nat):Int)+1=((l+1+1:Nat):Int); lia⟩ ?_;rw [FS hj.ok goz hl];exact GU hj10.ok go11 q0 q1 q2 q3 (x0.at' (by lia) (by lia)) (x1.at' (by lia) (by lia)) (x2.at' (by lia) (by lia)) (x3.at' (by lia) (by lia)) e11
theorem ok_recS {L d:Nat} {f:Addr} {fd:FuncData} (F:Fun K "reckoned" "Jumps.reckoned" BL f fd) (T:Top K mg a) (iJ:BK P w K mg base CX0 d a.c_Jumps "fresh" Dn (OI a L)):AU P w K mg base CX0 (d+1) f fd AX (FN a L):=by
 refine F.ok Et (fun vs H Q E h=>?_) (fun cdv A outer s H vs Q E hr h=>?_)
 ·obtain ⟨p,dx,mem,pr,g,G,N,M,r,m,n,l,e,rfl,_⟩:=h;rfl
 ·obtain ⟨p,dx,mem,pr,g,G,N,M,r,m,n,l,e,rfl,hj,hl,hL,he,fewN,fewM,few,k⟩:=h;have c5:=Qh l;obtain ⟨q,eq,el⟩:=id hl;have l48:=(hj.ok.lev eq).2;have e47:e < m.ds.length:=by rw [hj.me.len]; lia
  obtain ⟨d,ed⟩:∃ d,m.ds[e]?=some d:=⟨m.ds[e]'e47,List.getElem?_eq_getElem _⟩
  obtain ⟨kv,hd,dl,dk,dv⟩:=hj.me.sq e d ed;refine ⟨_,(Ae (Av (i:=3) Et.nd rfl (Or.inl rfl) (JY (GH hr) (Al Au (AG (pv 0) rfl) (pv 2) (fun _ _=>rfl)) (pv 1) ⟨rfl,rfl,rfl,rfl⟩)) (Ae (Ba (AJ Lb (pv 3) Id (AT _)) (Ae (Av (i:=3) Et.nd rfl (Or.inl rfl) (AF (pv 0) iJ (rm hr) Ar (Aa (pv 1) (Aa (pv 2) Ac)))) (Aj (Ir (GH hr) (Al Au (AG (pv 0) rfl) (pv 2) (fun _ _=>rfl)) (pv 1) (pv 3) rfl))) AE) (Aj (AA (pv 3))))),?_⟩
  try dsimp only [cxK]
  have ed':atI (m.ds.map V.ref) (e:Int)=some (.ref d):=Ai (by rw [List.getElem?_map,ed]; rfl);refine ⟨_,rfl,p,_,dx,_,_,rfl,hj.hp,T.cl_Jumps,T.na_Jumps_known_squares,Sm _ _ _ _ _,_,rfl,m.l,_,(e:Int),.ref d,rfl,rfl,SqL.of hj.me.l,ed',d,rfl,.inl ⟨_,.inl hd⟩,_,rfl,_,GM.k (k:=Sum.inl (n:Int)) hd,?_⟩;apply IC (fun σ H1=>∃ (x:Nat) (G':Gv),σ=[some (.ref p),some (.int (n:Int)),some (.int (e:Int)),some (.int (x:Int))]/\FrJ g m H H1/\JW a H1 g G' (N+cst l) (M+cst l) p dx mem pr r m/\AZ G G' (cst l)/\JR r G' e n x)
  ·intro rest;refine ⟨_,rfl,rfl,_,rfl,?_⟩;cases ev:CB kv (Sum.inl (n:Int)) with
   | some v =>
    obtain ⟨x,rfl,jr⟩:=dv n v ev;exact Cz (rest _ _ ⟨x,G,rfl,fun b o e _ _ _ _ _=>e,hj.mono (by lia) (by lia),(AZ.refl hj.ok).mono (by lia),jr⟩)
   | none =>
    refine EC ?_;refine ⟨_,rfl,p,dx,_,rfl,hj.hp,QE _ _ _ _ _,_,rfl,_,rfl,p,dx,mem,pr,g,G,N,M,r,m,n,l,e,rfl,hj,hl,hL,he,fewN,fewM,few,fun x G' H' fr hj' go jr=>?_⟩;obtain ⟨kv',hd',dl',dk',dv'⟩:=hj'.me.sq e d ed;refine ⟨_,rfl,_,rfl,p,_,dx,_,_,rfl,hj'.hp,T.cl_Jumps,T.na_Jumps_known_squares,Sm _ _ _ _ _,_,rfl,m.l,_,(e:Int),.ref d,rfl,rfl,SqL.of hj'.me.l,ed',_,rfl,d,_,rfl,LD.k (k:=Sum.inl (n:Int)) hd' (Nat.lt_of_le_of_lt (show kv'.length<=1000000 by lia) (by decide)),?_⟩;exact rest _ _ ⟨x,G',rfl,fun b o e n1 n2 n3 n4 n5=>by rw [As (fun z=>n5 (by rw [z]; exact List.mem_of_getElem? ed))]; exact fr _ _ e n1 n2 n3 n4 n5,(hj'.putS ed hd' jr).mono (by lia) (by lia),go.mono (by lia),jr⟩
  rintro σ H1 ⟨x,G',rfl,fr,hj',go,jr⟩;exact ⟨_,rfl,k x G' H1 fr hj' go jr⟩
theorem PP {f fh ff:Addr} {fd fdh fdf:FuncData} (F:Fun K "reckoned" "Jumps.reckoned" BL f fd) (Fh:Fun K "four_halfway" "Jumps.four_halfway" AO fh fdh) (Ff:Fun K "fresh" "Jumps.fresh" Bw ff fdf) (T:Top K mg a) (Me:Fg K a.c_Jumps "reckoned" f) (Bi:FG K fd AX []) (Meh:Fg K a.c_Jumps "four_halfway" fh) (Bih:FG K fdh Br []) (Mef:Fg K a.c_Jumps "fresh" ff) (Bif:FG K fdf Dn []) (aF:BK P w K mg base CX0 7 a.c_Jumps "middle_after" Bq (MB a)) (aB:BK P w K mg base CX0 2 a.c_Grove "linked" AY (FV a)) (aL:Cal P w K mg base CX0 3 "nine_parts" Db (JH a)) (aR:Cal P w K mg base CX0 1 "fours_of" Ee Ii) (aH:Cal P w K mg base CX0 3 "met_in_the_middle" BD (Pu a)):∀ L,AU P w K mg base CX0 (10+3 * L) f fd AX (FN a L)
 | 0=>(AU.no (k:=10)).imp fun vs H Q E h=>by
  obtain ⟨p,dx,mem,pr,g,G,N,M,r,m,n,l,e,_,_,_,hL,_⟩:=h;exact absurd hL (Nat.not_lt_zero l)
 | L+1=>by
  have ih:=PP F Fh Ff T Me Bi Meh Bih Mef Bif aF aB aL aR aH L;have M1:BK P w K mg base CX0 (10+3 * L) a.c_Jumps "reckoned" AX (FN a L):=⟨⟨_,_,ih,Me,Bi⟩,T.cl_Jumps⟩
  have h2:=ok_half Fh T (by lia) aL aR aB M1;have M2:BK P w K mg base CX0 (10+3 * L+1) a.c_Jumps "four_halfway" Br (OH a L):=⟨⟨_,_,h2,Meh,Bih⟩,T.cl_Jumps⟩
  have h3:=ok_freG Ff T (by lia) aF aB aL aR aH M1 M2;have M3:BK P w K mg base CX0 (10+3 * L+2) a.c_Jumps "fresh" Dn (OI a (L+1)):=⟨⟨_,_,h3,Mef,Bif⟩,T.cl_Jumps⟩
  exact ok_recS F T M3
theorem Qz {L d:Nat} {f:Addr} {fd:FuncData} (F:Fun K "after" "Jumps.after" Dk f fd) (T:Top K mg a) (d4:4<=d) (aY:BK P w K mg base CX0 4 a.c_Jumps "check_jump" Cg (spCj a)) (aE:BK P w K mg base CX0 d a.c_Jumps "reckoned" AX (FN a L)):AU P w K mg base CX0 (d+1) f fd DX (FN a L):=by
 refine F.ok JO (fun vs H Q E h=>?_) (fun cdv A outer s H vs Q E hr h=>?_)
 ·obtain ⟨p,dx,mem,pr,g,G,N,M,r,m,n,l,e,rfl,_⟩:=h;rfl
 ·obtain ⟨p,dx,mem,pr,g,G,N,M,r,m,n,l,e,rfl,hj,hl,hL,he,fewN,fewM,few,k⟩:=h;obtain ⟨q,eq,el⟩:=id hl;refine ⟨_,(Ae (BQ (AF (pv 0) aY (rm hr) Ar (Aa (pv 1) (Aa (pv 2) Ac)))) (Aj (AA (AF (pv 0) aE (rm hr) Ar (Aa (pv 1) (Aa (pv 2) Ac)))))),?_⟩
  try dsimp only [cxK]
  refine ⟨_,rfl,p,dx,_,rfl,hj.hp,QF _ _ _ _ _,_,rfl,_,rfl,p,dx,g.p,mem,pr,m.l,m.kc,g,G,n,e,q,rfl,hj.hp,hj.gr,eq,by rw [el]; lia,?_⟩;exact ⟨_,rfl,p,dx,_,rfl,hj.hp,Iy _ _ _ _ _,_,rfl,_,rfl,p,dx,mem,pr,g,G,N,M,r,m,n,l,e,rfl,hj,hl,hL,he,fewN,fewM,few,k⟩
end
end J
namespace J
open PySem L2
seal L2.PA L2.PE L2.PS L2.PSs L2.PT L2.PW
section
variable {α:Type} {v:α->V} {f g:Nat->α} {W:Nat}
def Cm (v:α->V) (f:Nat->α) (W:Nat):List V:=(List.range W).map fun x=>v (f x)
theorem BA:(Cm v f W).length=W:=by unfold Cm; rw [List.length_map,List.length_range]
theorem EJ:Cm v f (W+1)=Cm v f W ++ [v (f W)]:=by unfold Cm; rw [List.range_succ,List.map_append]; rfl
theorem ER {x:Nat} (h:x < W):(Cm v f W)[x]?=some (v (f x)):=by unfold Cm; rw [List.getElem?_map,List.getElem?_range h]; rfl
theorem PD {x:Nat} (h:W<=x):(Cm v f W)[x]?=none:=List.getElem?_eq_none (by rw [BA]; exact h)
theorem Jx {x:Nat} (h:x < W):atI (Cm v f W) (x:Int)=some (v (f x)):=Ai (ER h)
theorem JS (h:∀ x,x < W->f x=g x):Cm v f W=Cm v g W:=by
 unfold Cm;refine List.map_congr_left fun x hx=>?_;rw [h x (List.mem_range.mp hx)]
theorem PB (row:List α) (d:α):row.map v=Cm v (fun x=>row.getD x d) row.length:=by
 refine List.ext_getElem? fun j=>?_;by_cases h:j < row.length
 ·rw [ER h,List.getElem?_map,List.getD_eq_getElem?_getD,List.getElem?_eq_getElem h];rfl
 ·rw [PD (by lia),List.getElem?_eq_none (by rw [List.length_map]; lia)]
theorem Ip {i k:Nat} (h:i+k<=W):IG (Cm v f W) (some (i:Int)) (some ((i+k:Nat):Int))=Cm v (fun x=>f (x+i)) k:=by
 unfold IG;rw [HT.Jw,HT.Jw,BA,Nat.min_eq_left (by lia),Nat.min_eq_left (by lia),Nat.add_sub_cancel_left];refine List.ext_getElem? fun j=>?_;rw [List.getElem?_take];by_cases hj:j < k
 ·rw [if_pos hj,List.getElem?_drop,ER (by lia),ER hj,Nat.add_comm]
 ·rw [if_neg hj,PD (by lia)]
theorem RG {ts:List Addr} {i k:Nat} (h:i+k<=ts.length):IG (ts.map V.ref) (some (i:Int)) (some ((i+k:Nat):Int))=((ts.drop i).take k).map V.ref:=by
 unfold IG;rw [HT.Jw,HT.Jw,List.length_map,Nat.min_eq_left (by lia),Nat.min_eq_left (by lia),Nat.add_sub_cancel_left,List.map_take,List.map_drop]
end
inductive Fo {α:Type} (v:α->V) (H:Hp) (q:Addr) (Wx Wy:Nat) (f:Nat->Nat->α):Prop
 | mk (ts:List Addr) (_:H q=some (.lst (ts.map V.ref))) (_:ts.length=Wy) (_:∀ (y:Nat) t,ts[y]?=some t->H t=some (.lst (Cm v (fun x=>f x y) Wx))):Fo v H q Wx Wy f
section
variable {α:Type} {v:α->V} {H H':Hp} {q:Addr} {Wx Wy:Nat} {f g:Nat->Nat->α}
theorem Fo.kps (h:Fo v H q Wx Wy f) (k:KpS H H') (w1:Wx<=50) (w2:Wy<=50):Fo v H' q Wx Wy f:=by
 obtain ⟨ts,h1,h2,h3⟩:=h;exact ⟨ts,k _ _ h1 (.lst (by rw [List.length_map]; lia)),h2,fun y t e=>k _ _ (h3 y t e) (.lst (by rw [BA]; exact w1))⟩
theorem Fo.congr (h:Fo v H q Wx Wy f) (e:∀ x y,x < Wx->y < Wy->f x y=g x y):Fo v H q Wx Wy g:=by
 obtain ⟨ts,h1,h2,h3⟩:=h;refine ⟨ts,h1,h2,fun y t et=>?_⟩;have hy:y < Wy:=by have:=(List.getElem?_eq_some_iff.mp et).1; lia
 rw [h3 y t et];exact congrArg (fun l=>some (HO.lst l)) (JS fun x hx=>e x y hx hy)
end
section
variable {P:Program} {w:World} {K:PySem.W.Frag} {mg:Str->Option Value} {base:Heap} {a:Ad}
inductive SpGb (K:PySem.W.Frag) (vs:List V) (H:Hp) (Q:VK):Prop
 | mk (l fw:Addr) (ns:List Int) (W:Nat) (_:vs=[.ref l,.int (W:Int),.ref fw]) (_:SqL K H l (ns.map V.int)) (_:W<=16) (_:Nq H fw) (_:∀ (q:Addr) (f:Nat->Nat->Int) (H':Hp),An H H'->Fo V.int H' q W W f->(∀ x y,Dq (f x y))->Q (.ref q) H'):SpGb K vs H Q
def spGb (K:PySem.W.Frag):Sp:=fun vs H Q _=>SpGb K vs H Q
theorem ok_gb {f:Addr} {fd:FuncData} (F:Fun K "_law_grid_by" "_law_grid_by" CI f fd) (T:Top K mg a) (aI:Cal P w K mg base CX0 1 "_law_at" Ft (spAt K)) (aD:Cal P w K mg base CX0 1 "_law_stir" El Mw):AU P w K mg base CX0 2 f fd DB (spGb K):=by
 refine F.ok Bj (fun vs H Q E h=>?_) (fun cdv A outer s H vs Q E hr h=>?_)
 ·obtain ⟨l,fw,ns,W,rfl,_⟩:=h;rfl
 ·obtain ⟨l,fw,ns,W,rfl,hS,w16,hf,k⟩:=h;refine ⟨_,(Ae (Av (i:=3) Bj.nd rfl (Or.inl rfl) (AH BG Af (AH Ci (Az aI (rm hr) rfl Ar (Aa (pv 0) (AN Ac))) Af))) (Ae (Av (i:=4) Bj.nd rfl (Or.inl rfl) (Bc Ac)) (Ae (BP PassesOwn.never rfl (CN rfl T.b_range (Aa (pv 1) Ac)) (AQ (i:=5) Bj.nd rfl (Or.inl rfl)) (Ae (Av (i:=6) Bj.nd rfl (Or.inl rfl) (Az aI (rm hr) rfl Ar (Aa (pv 0) (Cp BG Af (pv 5) Ac)))) (Ae (Av (i:=7) Bj.nd rfl (Or.inl rfl) (Bc Ac)) (Ae (BP PassesOwn.never rfl (CN rfl T.b_range (Aa (pv 1) Ac)) (AQ (i:=8) Bj.nd rfl (Or.inl rfl)) (Ae (Av (i:=9) Bj.nd rfl (Or.inl rfl) Af) (Ae (Ba (AJ Ji (AH Ci (Az aD (rm hr) rfl Ar (Aa (pv 6) (Cp BG Af (pv 8) Ac))) Af) (pv 3) (AT _)) (Aj (Av (i:=9) Bj.nd rfl (Or.inl rfl) (Al Au (pv 2) (AH Ci (Az aD (rm hr) rfl Ar (Aa (pv 6) (Aa (pv 8) Ac))) Af) (fun _ _=>rfl)))) AE) (Aj (BQ (Dw PySem.F.plainAttrs_list PySem.F.slot_list_append PySem.F.type_list_append BN (pv 7) (Aa (pv 9) Ac))))))) (Aj (BQ (Dw PySem.F.plainAttrs_list PySem.F.slot_list_append PySem.F.type_list_append BN (pv 4) (Aa (pv 7) Ac)))))))) (Aj (AA (pv 4)))))),?_⟩
  try dsimp only [cxK]
  obtain ⟨xs,hx,hget⟩:=hf.get;refine ⟨_,rfl,l,ns,4,rfl,hS,by decide,_,_,rfl,rfl,(by show (0:Int) < 4; decide),_,_,rfl,rfl,?_⟩;refine ⟨(by show 0<=sizeLine; decide),fun GL hGL=>?_⟩;have s1:An H (upd H GL (.lst [])):=Ah hGL;have hG1:upd H GL (.lst []) GL=some (.lst []):=Ab;generalize upd H GL (.lst [])=H1 at s1 hG1 ⊢;refine ⟨_,rfl,(W:Int),rfl,by lia,by lia,?_⟩;rw [Int.toNat_natCast];refine Do (n:=W) (fun i σ Hx=>∃ (ts:List Addr) (rows:List (List Int)) (u5 u6 u7 u8 u9:Option V),σ=[some (.ref l),some (.int (W:Int)),some (.ref fw),some (.int (1+atN ns 4 % 4)),some (.ref GL),u5,u6,u7,u8,u9]/\An H Hx/\Hx GL=some (.lst (ts.map V.ref))/\Paired (fun t row=>t≠GL/\Hx t=some (.lst (row.map V.int))/\row.length=W/\∀ x ∈ row,Dq x) ts rows/\ts.length=i) ⟨[],[],none,none,none,none,none,rfl,s1,hG1,.nil,rfl⟩ ?_ ?_
  ·rintro i σ Hx hi ⟨ts,rows,u5,u6,u7,u8,u9,rfl,sx,hGx,prx,lx⟩;refine ⟨_,rfl,_,rfl,_,_,rfl,rfl,l,ns,_,rfl,sx.seq hS,by lia,?_⟩;refine ⟨(by show 0<=sizeLine; decide),fun R hR=>?_⟩;refine ⟨_,rfl,(W:Int),rfl,by lia,by lia,?_⟩;rw [Int.toNat_natCast];have nRG:R≠GL:=fun z=>by rw [z,hGx] at hR; cases hR
   refine Do (n:=W) (fun j σ H2=>∃ (ys:List Int) (u8 u9:Option V),σ=[some (.ref l),some (.int (W:Int)),some (.ref fw),some (.int (1+atN ns 4 % 4)),some (.ref GL),some (.int (0+(i:Int))),some (.int (atN ns (11+(0+(i:Int))))),some (.ref R),u8,u9]/\H2=upd Hx R (.lst (ys.map V.int))/\ys.length=j/\∀ x ∈ ys,Dq x) ⟨[],_,_,rfl,rfl,rfl,fun x hx=>nomatch hx⟩ ?_ ?_
   ·rintro j σ H2 hj ⟨ys,u8,u9,rfl,rfl,ln,oks⟩;have sm:An Hx (upd Hx R (.lst (ys.map V.int))):=Ah hR;have hR2:upd Hx R (.lst (ys.map V.int)) R=some (.lst (ys.map V.int)):=Ab;have lt:(ys.map V.int).length < sizeLine:=by rw [List.length_map,ln]; exact Nat.lt_of_lt_of_le hj (Nat.le_trans w16 (by decide))
    apply IC (fun σ H'=>upd Hx R (.lst (ys.map V.int))=H'/\∃ d:Int,Dq d/\σ=[some (.ref l),some (.int (W:Int)),some (.ref fw),some (.int (1+atN ns 4 % 4)),some (.ref GL),some (.int (0+(i:Int))),some (.int (atN ns (11+(0+(i:Int))))),some (.ref R),some (.int (0+(j:Int))),some (.int d)])
    ·intro rest;refine ⟨_,rfl,_,rfl,_,_,rfl,rfl,_,_,rfl,by show 0<=40+(0+(j:Int)); lia,by show 40+(0+(j:Int))<=1000; lia,fun v1 hv1=>?_⟩;refine ⟨_,_,rfl,rfl,(by show (0:Int) < 4; decide),_,rfl,_,_,rfl,rfl,_,rfl,?_⟩;refine Jd (fun _=>?_) (fun _=>rest _ _ ⟨rfl,0,⟨by decide,by decide⟩,rfl⟩);refine ⟨_,rfl,_,rfl,_,rfl,_,_,rfl,by lia,by lia,fun v2 hv2=>?_⟩;obtain ⟨d,dok,ed⟩:=hget v2 hv2;exact ⟨_,_,rfl,rfl,(by show (0:Int) < 4; decide),fw,xs,_,_,rfl,rfl,SqL.of (sm _ _ (sx _ _ hx)),ed,rest _ _ ⟨rfl,d,dok,rfl⟩⟩
    rintro σ H' ⟨rfl,d,dok,rfl⟩;refine ⟨_,rfl,.inl ⟨rfl,_,SqL.of hR2⟩,_,rfl,R,_,_,rfl,rfl,hR2,lt,ys ++ [d],_,_,rfl,by rw [FI,List.map_append]; rfl,by rw [List.length_append,ln]; rfl,fun x hx=>?_⟩;rcases List.mem_append.mp hx with z | z
    ·exact oks x z
    ·rw [List.mem_singleton.mp z]; exact dok
   ·rintro σ H2 ⟨ys,u8,u9,rfl,rfl,ln,oks⟩;have sm:An Hx (upd Hx R (.lst (ys.map V.int))):=Ah hR;have hR2:upd Hx R (.lst (ys.map V.int)) R=some (.lst (ys.map V.int)):=Ab;generalize upd Hx R (.lst (ys.map V.int))=H3 at sm hR2 ⊢;have hG3:=sm _ _ hGx;refine ⟨_,rfl,.inl ⟨rfl,_,SqL.of hG3⟩,_,rfl,GL,_,_,rfl,rfl,hG3,by rw [List.length_map]; exact Nat.lt_of_le_of_lt (show ts.length<=16 by lia) (by decide),?_⟩;have up:∀ {b:Addr} {o:HO},H3 b=some o->b≠GL->upd H3 GL (.lst (ts.map V.ref ++ [.ref R])) b=some o:=fun {b o} e n=>by rw [As n]; exact e
    refine ⟨ts ++ [R],rows ++ [ys],_,_,_,_,_,rfl,fun b o e=>up (sm _ _ (sx _ _ e)) (Am e hGL),by rw [Ab,List.map_append]; rfl,Paired.snoc (Paired.imp (fun t row z=>⟨z.1,up (sm _ _ z.2.1) z.1,z.2.2⟩) prx) ⟨nRG,up hR2 nRG,ln,oks⟩,by rw [List.length_append,lx]; rfl⟩
  ·rintro σ Hx ⟨ts,rows,u5,u6,u7,u8,u9,rfl,sx,hGx,prx,lx⟩;refine ⟨_,rfl,k GL (fun x y=>(rows.getD y []).getD x 0) Hx sx ⟨ts,hGx,lx,fun y t et=>?_⟩ fun x y=>?_⟩
   ·obtain ⟨row,er,_,h2,h3,_⟩:=Paired.get prx et;rw [h2,PB row 0,h3,List.getD_eq_getElem?_getD,er];rfl
   ·show Dq ((rows.getD y []).getD x 0);rw [List.getD_eq_getElem?_getD (l:=rows)];cases er:rows[y]? with
    | none =>
     show Dq (([]:List Int).getD x 0);rw [List.getD_nil];exact ⟨by decide,by decide⟩
    | some row =>
     obtain ⟨t,et,_,_,_,h4⟩:=PairedM.get prx er;show Dq (row.getD x 0);rw [List.getD_eq_getElem?_getD];cases ex:row[x]? with
     | none=>exact ⟨by decide,by decide⟩
     | some d=>exact h4 d (List.mem_of_getElem? ex)
inductive SpStp (vs:List V) (H:Hp) (Q:VK):Prop
 | mk (q m:Addr) (r:List LC4) (W:Nat) (f:Nat->Nat->Int) (_:vs=[.ref q,.ref m]) (_:Gi H q r) (_:Np r) (_:Fo V.int H m (W+2) (W+2) f) (_:W<=40) (_:∀ (b:Addr) (H':Hp),An H H'->Fo V.int H' b W W (fun x y=>stp (r.map LC4.a) f (x+1) (y+1))->Q (.ref b) H'):SpStp vs H Q
def Rp:Sp:=fun vs H Q _=>SpStp vs H Q
theorem ok_stp {f:Addr} {fd:FuncData} (F:Fun K "_law_stepped" "_law_stepped" CH f fd) (T:Top K mg a) (aO:Cal P w K mg base CX0 2 "_law_becomes" CQ Pz):AU P w K mg base CX0 3 f fd DA Rp:=by
 refine F.ok BE (fun vs H Q E h=>?_) (fun cdv A outer s H vs Q E hr h=>?_)
 ·obtain ⟨q,m,r,W,f,rfl,_⟩:=h;rfl
 ·obtain ⟨q,m,r,W,f,rfl,hq,ok,⟨ts,hm,lt,hts⟩,w40,k⟩:=h;refine ⟨_,(Ae (Av (i:=2) BE.nd rfl (Or.inl rfl) (Bc Ac)) (Ae (BP PassesOwn.never rfl (IQ rfl T.b_range (AN (Cp Ef (AW Bl rfl T.b_len PySem.boot_len (Aa (pv 1) Ac)) Af Ac))) (AQ (i:=3) BE.nd rfl (Or.inl rfl)) (Ae (Av (i:=4) BE.nd rfl (Or.inl rfl) (Bc Ac)) (Ae (BP PassesOwn.never rfl (IQ rfl T.b_range (AN (Cp Ef (AW Bl rfl T.b_len PySem.boot_len (Aa (pv 1) Ac)) Af Ac))) (AQ (i:=5) BE.nd rfl (Or.inl rfl)) (Ae (Av (i:=6) BE.nd rfl (Or.inl rfl) (ES FJ (Al Au (pv 1) (AH Ef (pv 3) Af) (fun _ _=>rfl)) (CZ (AH Ef (pv 5) Af)) (CZ (AH BG (pv 5) Af)))) (Ae (Av (i:=6) BE.nd rfl (Or.inl rfl) (AH Gw (AH Gw (pv 6) (ES FJ (Al Au (pv 1) (pv 3) (fun _ _=>rfl)) (CZ (AH Ef (pv 5) Af)) (CZ (pv 5)))) (ES FJ (Al Au (pv 1) (pv 3) (fun _ _=>rfl)) (CZ (AH BG (pv 5) Af)) (CZ (AH BG (pv 5) Af))))) (Ae (Av (i:=6) BE.nd rfl (Or.inl rfl) (AH Gw (pv 6) (ES FJ (Al Au (pv 1) (AH BG (pv 3) Af) (fun _ _=>rfl)) (CZ (AH Ef (pv 5) Af)) (CZ (AH BG (pv 5) Af))))) (Aj (BQ (Dw PySem.F.plainAttrs_list PySem.F.slot_list_append PySem.F.type_list_append BN (pv 4) (Aa (Az aO (rm hr) rfl Ar (Aa (pv 0) (Aa (Al Au (Al Au (pv 1) (pv 3) (fun _ _=>rfl)) (pv 5) (fun _ _=>rfl)) (Aa (pv 6) Ac)))) Ac)))))))) (Aj (BQ (Dw PySem.F.plainAttrs_list PySem.F.slot_list_append PySem.F.type_list_append BN (pv 2) (Aa (pv 4) Ac))))))) (Aj (AA (pv 2))))),?_⟩
  try dsimp only [cxK]
  refine ⟨(by show 0<=sizeLine; decide),fun AL hAL=>?_⟩;have s1:An H (upd H AL (.lst [])):=Ah hAL;have hA1:upd H AL (.lst []) AL=some (.lst []):=Ab;generalize upd H AL (.lst [])=H1 at s1 hA1 ⊢;have ll:((ts.map V.ref).length:Int) - 1=1+(W:Int):=by rw [List.length_map,lt]; lia
  have lw:(((ts.map V.ref).length:Int) - 1 - 1).toNat=W:=by rw [ll]; lia
  refine ⟨_,rfl,m,_,rfl,.inl (SqL.of (s1 _ _ hm)),_,_,rfl,rfl,1,((ts.map V.ref).length:Int) - 1,rfl,⟨by decide,by decide,by lia,by lia⟩,?_⟩;rw [lw];refine Do (lo:=1) (n:=W) (fun i σ Hx=>∃ (us:List Addr) (u3 u4 u5 u6:Option V),σ=[some (.ref q),some (.ref m),some (.ref AL),u3,u4,u5,u6]/\An H Hx/\Hx AL=some (.lst (us.map V.ref))/\us.length=i/\∀ (y:Nat) t,us[y]?=some t->t≠AL/\Hx t=some (.lst (Cm V.int (fun x=>stp (r.map LC4.a) f (x+1) (y+1)) W))) ⟨[],none,none,none,none,rfl,s1,hA1,rfl,fun y t e=>(nomatch e)⟩ ?_ ?_
  ·rintro i σ Hx hi ⟨us,u3,u4,u5,u6,rfl,sx,hAx,lx,hus⟩;refine ⟨(by show 0<=sizeLine; decide),fun R hR=>?_⟩;have s2:An Hx (upd Hx R (.lst [])):=Ah hR;have hR1:upd Hx R (.lst []) R=some (.lst []):=Ab;generalize upd Hx R (.lst [])=H2 at s2 hR1 ⊢;have nRA:R≠AL:=fun z=>by rw [z,hAx] at hR; cases hR
   refine ⟨_,rfl,m,_,rfl,.inl (SqL.of (s2 _ _ (sx _ _ hm))),_,_,rfl,rfl,1,((ts.map V.ref).length:Int) - 1,rfl,⟨by decide,by decide,by lia,by lia⟩,?_⟩;rw [lw];obtain ⟨t0,e0⟩:∃ t,ts[i]?=some t:=⟨ts[i]'(by lia),List.getElem?_eq_getElem _⟩
   obtain ⟨t1,e1⟩:∃ t,ts[i+1]?=some t:=⟨ts[i+1]'(by lia),List.getElem?_eq_getElem _⟩
   obtain ⟨t2,e2⟩:∃ t,ts[i+2]?=some t:=⟨ts[i+2]'(by lia),List.getElem?_eq_getElem _⟩
   have a0:atI (ts.map V.ref) (1+(i:Int) - 1)=some (.ref t0):=by rw [show 1+(i:Int) - 1=(i:Int) by lia]; exact Ai (by rw [List.getElem?_map,e0]; rfl)
   have a1:atI (ts.map V.ref) (1+(i:Int))=some (.ref t1):=by rw [show 1+(i:Int)=((i+1:Nat):Int) by lia]; exact Ai (by rw [List.getElem?_map,e1]; rfl)
   have a2:atI (ts.map V.ref) (1+(i:Int)+1)=some (.ref t2):=by rw [show 1+(i:Int)+1=((i+2:Nat):Int) by lia]; exact Ai (by rw [List.getElem?_map,e2]; rfl)
   refine Do (lo:=1) (n:=W) (fun j σ Hy=>∃ (u5 u6:Option V),σ=[some (.ref q),some (.ref m),some (.ref AL),some (.int (1+(i:Int))),some (.ref R),u5,u6]/\An Hx Hy/\Hy R=some (.lst (Cm V.int (fun x=>stp (r.map LC4.a) f (x+1) (i+1)) j))) ⟨_,_,rfl,s2,hR1⟩ ?_ ?_
   ·rintro j σ Hy hj ⟨u5,u6,rfl,sy,hRy⟩;have sxy:=sx.trans sy;have c3:∀ (y:Nat),IG (Cm V.int (fun x=>f x y) (W+2)) (some (1+(j:Int) - 1)) (some (1+(j:Int)+2))=([f j y,f (j+1) y,f (j+2) y]:List Int).map V.int:=fun y=>by
     rw [show 1+(j:Int) - 1=(j:Int) by lia,show 1+(j:Int)+2=((j+3:Nat):Int) by lia,Ip (by lia)];show [V.int (f (0+j) y),V.int (f (1+j) y),V.int (f (2+j) y)]=_;rw [Nat.zero_add,Nat.add_comm 1 j,Nat.add_comm 2 j];rfl
    have c1:∀ (y:Nat),IG (Cm V.int (fun x=>f x y) (W+2)) (some (1+(j:Int) - 1)) (some (1+(j:Int)))=([f j y]:List Int).map V.int:=fun y=>by
     rw [show 1+(j:Int) - 1=(j:Int) by lia,show 1+(j:Int)=((j+1:Nat):Int) by lia,Ip (by lia)];show [V.int (f (0+j) y)]=_;rw [Nat.zero_add];rfl
    have c2:∀ (y:Nat),IG (Cm V.int (fun x=>f x y) (W+2)) (some (1+(j:Int)+1)) (some (1+(j:Int)+2))=([f (j+2) y]:List Int).map V.int:=fun y=>by
     rw [show 1+(j:Int)+1=((j+2:Nat):Int) by lia,show 1+(j:Int)+2=((j+2+1:Nat):Int) by lia,Ip (by lia)];show [V.int (f (0+(j+2)) y)]=_;rw [Nat.zero_add];rfl
    have g0:=hts i t0 e0;have g1:=hts (i+1) t1 e1;have g2:=hts (i+2) t2 e2;refine ⟨_,rfl,_,rfl,_,_,rfl,rfl,m,_,_,.ref t0,rfl,rfl,SqL.of (sxy _ _ hm),a0,_,rfl,_,_,rfl,rfl,_,rfl,_,rfl,_,_,rfl,rfl,_,rfl,t0,_,rfl,SqL.of (sxy _ _ g0),fun C1 hC1=>?_⟩;rw [c3 i];have s3:An Hy (upd Hy C1 (.lst (([f j i,f (j+1) i,f (j+2) i]:List Int).map V.int))):=Ah hC1;have h3:upd Hy C1 (.lst (([f j i,f (j+1) i,f (j+2) i]:List Int).map V.int)) C1=some (.lst (([f j i,f (j+1) i,f (j+2) i]:List Int).map V.int)):=Ab;generalize upd Hy C1 (.lst (([f j i,f (j+1) i,f (j+2) i]:List Int).map V.int))=H3 at s3 h3 ⊢;have sx3:=sxy.trans s3;refine ⟨_,rfl,_,rfl,_,rfl,m,_,_,.ref t1,rfl,rfl,SqL.of (sx3 _ _ hm),a1,_,rfl,_,_,rfl,rfl,_,rfl,_,rfl,_,rfl,t1,_,rfl,SqL.of (sx3 _ _ g1),fun C2 hC2=>?_⟩;rw [c1 (i+1)];have s4:An H3 (upd H3 C2 (.lst (([f j (i+1)]:List Int).map V.int))):=Ah hC2;have h4:upd H3 C2 (.lst (([f j (i+1)]:List Int).map V.int)) C2=some (.lst (([f j (i+1)]:List Int).map V.int)):=Ab;generalize upd H3 C2 (.lst (([f j (i+1)]:List Int).map V.int))=H4 at s4 h4 ⊢;refine ⟨C1,C2,_,_,rfl,rfl,s4 _ _ h3,h4,(by show 4<=sizeLine; decide),fun C3 hC3=>?_⟩;rw [<-List.map_append];have s5:An H4 (upd H4 C3 (.lst (([f j i,f (j+1) i,f (j+2) i] ++ [f j (i+1)]:List Int).map V.int))):=Ah hC3;have h5:upd H4 C3 (.lst (([f j i,f (j+1) i,f (j+2) i] ++ [f j (i+1)]:List Int).map V.int)) C3=some (.lst (([f j i,f (j+1) i,f (j+2) i] ++ [f j (i+1)]:List Int).map V.int)):=Ab;generalize upd H4 C3 (.lst (([f j i,f (j+1) i,f (j+2) i] ++ [f j (i+1)]:List Int).map V.int))=H5 at s5 h5 ⊢;have sx5:=(sx3.trans s4).trans s5;refine ⟨_,rfl,_,rfl,m,_,_,.ref t1,rfl,rfl,SqL.of (sx5 _ _ hm),a1,_,rfl,_,_,rfl,rfl,_,rfl,_,rfl,_,_,rfl,rfl,_,rfl,t1,_,rfl,SqL.of (sx5 _ _ g1),fun C4 hC4=>?_⟩;rw [c2 (i+1)];have s6:An H5 (upd H5 C4 (.lst (([f (j+2) (i+1)]:List Int).map V.int))):=Ah hC4;have h6:upd H5 C4 (.lst (([f (j+2) (i+1)]:List Int).map V.int)) C4=some (.lst (([f (j+2) (i+1)]:List Int).map V.int)):=Ab;generalize upd H5 C4 (.lst (([f (j+2) (i+1)]:List Int).map V.int))=H6 at s6 h6 ⊢;refine ⟨C3,C4,_,_,rfl,rfl,s6 _ _ h5,h6,(by show 5<=sizeLine; decide),fun C5 hC5=>?_⟩;rw [<-List.map_append];have s7:An H6 (upd H6 C5 (.lst (([f j i,f (j+1) i,f (j+2) i] ++ [f j (i+1)] ++ [f (j+2) (i+1)]:List Int).map V.int))):=Ah hC5;have h7:upd H6 C5 (.lst (([f j i,f (j+1) i,f (j+2) i] ++ [f j (i+1)] ++ [f (j+2) (i+1)]:List Int).map V.int)) C5=some (.lst (([f j i,f (j+1) i,f (j+2) i] ++ [f j (i+1)] ++ [f (j+2) (i+1)]:List Int).map V.int)):=Ab;generalize upd H6 C5 (.lst (([f j i,f (j+1) i,f (j+2) i] ++ [f j (i+1)] ++ [f (j+2) (i+1)]:List Int).map V.int))=H7 at s7 h7 ⊢;have sx7:=(sx5.trans s6).trans s7;refine ⟨_,rfl,_,rfl,_,rfl,_,_,rfl,rfl,m,_,_,.ref t2,rfl,rfl,SqL.of (sx7 _ _ hm),a2,_,rfl,_,_,rfl,rfl,_,rfl,_,rfl,_,_,rfl,rfl,_,rfl,t2,_,rfl,SqL.of (sx7 _ _ g2),fun C6 hC6=>?_⟩;rw [c3 (i+2)];have s8:An H7 (upd H7 C6 (.lst (([f j (i+2),f (j+1) (i+2),f (j+2) (i+2)]:List Int).map V.int))):=Ah hC6;have h8:upd H7 C6 (.lst (([f j (i+2),f (j+1) (i+2),f (j+2) (i+2)]:List Int).map V.int)) C6=some (.lst (([f j (i+2),f (j+1) (i+2),f (j+2) (i+2)]:List Int).map V.int)):=Ab;generalize upd H7 C6 (.lst (([f j (i+2),f (j+1) (i+2),f (j+2) (i+2)]:List Int).map V.int))=H8 at s8 h8 ⊢;refine ⟨C5,C6,_,_,rfl,rfl,s8 _ _ h7,h8,(by show 8<=sizeLine; decide),fun C7 hC7=>?_⟩;rw [<-List.map_append];have s9:An H8 (upd H8 C7 (.lst (([f j i,f (j+1) i,f (j+2) i] ++ [f j (i+1)] ++ [f (j+2) (i+1)] ++ [f j (i+2),f (j+1) (i+2),f (j+2) (i+2)]:List Int).map V.int))):=Ah hC7;have h9:upd H8 C7 (.lst (([f j i,f (j+1) i,f (j+2) i] ++ [f j (i+1)] ++ [f (j+2) (i+1)] ++ [f j (i+2),f (j+1) (i+2),f (j+2) (i+2)]:List Int).map V.int)) C7=some (.lst (([f j i,f (j+1) i,f (j+2) i] ++ [f j (i+1)] ++ [f (j+2) (i+1)] ++ [f j (i+2),f (j+1) (i+2),f (j+2) (i+2)]:List Int).map V.int)):=Ab;generalize upd H8 C7 (.lst (([f j i,f (j+1) i,f (j+2) i] ++ [f j (i+1)] ++ [f (j+2) (i+1)] ++ [f j (i+2),f (j+1) (i+2),f (j+2) (i+2)]:List Int).map V.int))=H9 at s9 h9 ⊢;have sy9:An Hy H9:=(((((s3.trans s4).trans s5).trans s6).trans s7).trans s8).trans s9;have sx9:=sxy.trans sy9;have hR9:=sy9 _ _ hRy;have a3:atI (Cm V.int (fun x=>f x (i+1)) (W+2)) (1+(j:Int))=some (.int (f (j+1) (i+1))):=by rw [show 1+(j:Int)=((j+1:Nat):Int) by lia]; exact Jx (by lia)
    refine ⟨_,rfl,.inl ⟨rfl,_,SqL.of hR9⟩,_,rfl,_,rfl,_,rfl,m,_,_,.ref t1,rfl,rfl,SqL.of (sx9 _ _ hm),a1,_,rfl,t1,_,_,_,rfl,rfl,SqL.of (sx9 _ _ g1),a3,_,rfl,q,C7,r,_,_,rfl,hq.same sx9,ok,h9,rfl,fun H10 s10=>?_⟩;have hR10:=s10 _ _ hR9;refine ⟨R,_,_,rfl,rfl,hR10,by rw [BA]; exact Nat.lt_of_lt_of_le hj (Nat.le_trans w40 (by decide)),_,_,rfl,fun b o e=>?_,?_⟩
    ·rw [As (Am e hR)];exact s10 _ _ (sy9 _ _ (sy _ _ e))
    ·rw [Ab,EJ];rfl
   ·rintro σ Hy ⟨u5,u6,rfl,sy,hRy⟩;have hAy:=sy _ _ hAx;refine ⟨_,rfl,.inl ⟨rfl,_,SqL.of hAy⟩,_,rfl,AL,_,_,rfl,rfl,hAy,by rw [List.length_map]; exact Nat.lt_of_le_of_lt (show us.length<=40 by lia) (by decide),?_⟩;have up:∀ {b:Addr} {o:HO},Hy b=some o->b≠AL->upd Hy AL (.lst (us.map V.ref ++ [.ref R])) b=some o:=fun {b o} e n=>by rw [As n]; exact e
    refine ⟨us ++ [R],_,_,_,_,rfl,fun b o e=>up (sy _ _ (sx _ _ e)) (Am e hAL),by rw [Ab,List.map_append]; rfl,by rw [List.length_append,lx]; rfl,fun y t et=>?_⟩;by_cases hy:y < i
    ·rw [List.getElem?_append_left (by lia)] at et;obtain ⟨n1,n2⟩:=hus y t et;exact ⟨n1,up (sy _ _ n2) n1⟩
    ·have:y=i:=by
      have:=(List.getElem?_eq_some_iff.mp et).1;rw [List.length_append,lx] at this;have:y < i+1:=this;lia
     subst this;rw [List.getElem?_append_right (by lia),lx,Nat.sub_self] at et;cases et;exact ⟨nRA,up hRy nRA⟩
  ·rintro σ Hx ⟨us,u3,u4,u5,u6,rfl,sx,hAx,lx,hus⟩;exact ⟨_,rfl,k AL Hx sx ⟨us,hAx,lx,fun y t et=>(hus y t et).2⟩⟩
end
end J
namespace J
open PySem L2
seal L2.PA L2.PE L2.PS L2.PSs L2.PT L2.PW
def ndF (G:Gv) (n:Nat):Nat->Nat->Nat->Nat
 | 0,_,_=>n
 | k+1,x,y=>qO G (ndF G n k (x / 2) (y / 2)) (x % 2+2 * (y % 2))
theorem Le {G:Gv} (ok:GOk G) {n l:Nat} (h:Aq G n (l:Int)):∀ k,k<=l->∀ x y,x < 2 ^ k->y < 2 ^ k->Aq G (ndF G n k x y) ((l - k:Nat):Int)/\Vw G (Ap G l n) (l - k) (ndF G n k x y) (2 ^ (l - k) * x) (2 ^ (l - k) * y)
 | 0,_,x,y,hx,hy=>by
  have ex:x=0:=Nat.lt_one_iff.mp hx;have ey:y=0:=Nat.lt_one_iff.mp hy;subst ex;subst ey;exact ⟨h,fun u v _ _=>rfl⟩
 | k+1,hk,x,y,hx,hy=>by
  rw [Nat.pow_succ] at hx hy;obtain ⟨h1,h2⟩:=Le ok h k (by lia) (x / 2) (y / 2) (by lia) (by lia);obtain ⟨m,hm⟩:∃ m,l - k=m+1:=⟨l - k - 1,by lia⟩
  have hm':l - (k+1)=m:=by lia
  rw [hm] at h1 h2;rw [hm'];refine ⟨Gs ok h1 (by lia),(h2.q (i:=x % 2) (j:=y % 2) (by lia) (by lia)).at' ?_ ?_⟩
  ·rw [Nat.pow_succ,Nat.mul_assoc,<-Nat.mul_add];rw [show 2 * (x / 2)+x % 2=x by lia]
  ·rw [Nat.pow_succ,Nat.mul_assoc,<-Nat.mul_add];rw [show 2 * (y / 2)+y % 2=y by lia]
theorem Sd {G:Gv} (ok:GOk G) {n l:Nat} (h:Aq G n (l:Int)) {x y:Nat} (hx:x < 2 ^ l) (hy:y < 2 ^ l):Aq G (ndF G n l x y) 0/\Ap G l n x y=(ndF G n l x y:Int):=by
 obtain ⟨h1,h2⟩:=Le ok h l (Nat.le_refl l) x y hx hy;rw [Nat.sub_self] at h1 h2;refine ⟨h1,?_⟩;have:=h2 0 0 (by decide) (by decide);rw [show 0+2 ^ 0 * x=x by lia,show 0+2 ^ 0 * y=y by lia] at this;exact this.symm
theorem Qs (r:AM) (c:Nat->Nat->Int) (k x y:Nat):stp r (fun x y=>AR r k c (x+k) (y+k)) (x+1) (y+1)=AR r (k+1) c (x+(k+1)) (y+(k+1)):=by
 have:=JF r (c:=fun x y=>AR r k c (x+k) (y+k)) (d:=AR r k c) (X:=k) (Y:=k) 1 (x+1) (y+1) (by lia) (by lia) fun u v _ _ _ _=>rfl;rw [show x+1+k=x+(k+1) by lia,show y+1+k=y+(k+1) by lia] at this;exact this
section
variable {P:Program} {w:World} {K:PySem.W.Frag} {mg:Str->Option Value} {base:Heap} {a:Ad}
inductive Tg (vs:List V) (H:Hp) (Q:VK):Prop
 | mk (q m:Addr) (r:List LC4) (l e:Nat) (f:Nat->Nat->Int) (_:vs=[.ref q,.ref m,.int (e:Int)]) (_:Gi H q r) (_:Np r) (_:Fo V.int H m (4 * 2 ^ l) (4 * 2 ^ l) f) (_:e<=l) (_:l<=2) (_:∀ (b:Addr) (H':Hp),An H H'->Fo V.int H' b (2 * 2 ^ l) (2 * 2 ^ l) (fun x y=>AR (r.map LC4.a) (2 ^ e) f (x+2 ^ l) (y+2 ^ l))->Q (.ref b) H'):Tg vs H Q
def OK:Sp:=fun vs H Q _=>Tg vs H Q
theorem ok_dueG {f:Addr} {fd:FuncData} (F:Fun K "_law_due" "_law_due" Ec f fd) (T:Top K mg a) (bT:Cal P w K mg base CX0 3 "_law_stepped" DA Rp):AU P w K mg base CX0 4 f fd Fz OK:=by
 refine F.ok EQ (fun vs H Q E h=>?_) (fun cdv A outer s H vs Q E hr h=>?_)
 ·obtain ⟨q,m,r,l,e,f,rfl,_⟩:=h;rfl
 ·obtain ⟨q,m,r,l,e,f,rfl,hq,ok,hg,he,hl,k⟩:=h;have pe:2 ^ e<=2 ^ l:=Nat.pow_le_pow_right (by decide) he;have pl:2 ^ l<=2 ^ 2:=Nat.pow_le_pow_right (by decide) hl;have sh:(1:Int) * 2 ^ (e:Int).toNat=((2 ^ e:Nat):Int):=by rw [Int.one_mul,Int.toNat_natCast,ON]
  obtain ⟨ts,hm,lt,hts⟩:=id hg;refine ⟨_,(Ae (Av (i:=3) EQ.nd rfl (Or.inr rfl) (AW Bl rfl T.b_len PySem.boot_len (Aa (pv 1) Ac))) (Ae (BP PassesOwn.never rfl (CN rfl T.b_range (Cp OQ Af (pv 2) Ac)) (AQ (i:=4) EQ.nd rfl (Or.inl rfl)) (Aj (Av (i:=1) EQ.nd rfl (Or.inl rfl) (Az bT (rm hr) rfl Ar (Aa (pv 0) (Aa (pv 1) Ac)))))) (Ae (Av (i:=5) EQ.nd rfl (Or.inr rfl) (AH Ef (AH Fm (pv 3) Af) (AH OQ Af (pv 2)))) (Aj (AA (BT rfl (Bn.of (So:=Ag Ec) (No:=Lk) (N:=["_law_row","_law_wide","_law_edge"]) (k:=1) (cs:=[3,5]) rfl rfl (by decide +kernel)) (BB (ES FJ (pv 1) (CZ (pv 5)) (CZ (AH BG (pv 5) (AH Fm (pv 3) Af))))) (fun _ _ _=>(AV (i:=0) (by decide +kernel) rfl rfl)) (fun _ _ _=>BH) (fun _ _ _=>(ES (RC (K:=K) rfl) (pv 0) (CZ (pv 2)) (CZ (AH BG (pv 2) (AH Fm (pv 1) Af))))))))))),?_⟩
  try dsimp only [cxK]
  refine ⟨_,rfl,m,_,rfl,.inl (SqL.of hm),?_⟩;rw [List.length_map,lt];generalize hh:2 ^ l=h at *
  have h4:h<=4:=pl;refine ⟨_,rfl,_,_,rfl,rfl,⟨by lia,by lia,by decide⟩,((2 ^ e:Nat):Int),congrArg (fun z=>[V.int z]) sh,by lia,by lia,?_⟩;rw [Int.toNat_natCast];refine Do (n:=2 ^ e) (fun i σ Hx=>∃ (m':Addr) (u4:Option V),σ=[some (.ref q),some (.ref m'),some (.int (e:Int)),some (.int ((4 * h:Nat):Int)),u4,none]/\An H Hx/\Fo V.int Hx m' (4 * h - 2 * i) (4 * h - 2 * i) (fun x y=>AR (r.map LC4.a) i f (x+i) (y+i))) ⟨m,none,rfl,An.refl H,hg⟩ ?_ ?_
  ·rintro i σ Hx hi ⟨m',u4,rfl,sx,gx⟩;have gx':Fo V.int Hx m' (4 * h - 2 * (i+1)+2) (4 * h - 2 * (i+1)+2) (fun x y=>AR (r.map LC4.a) i f (x+i) (y+i)):=by
    rw [show 4 * h - 2 * (i+1)+2=4 * h - 2 * i by lia];exact gx
   refine ⟨_,rfl,_,rfl,q,m',r,_,_,rfl,hq.same sx,ok,gx',by lia,fun b H' s' g'=>⟨b,_,rfl,sx.trans s',g'.congr fun x y _ _=>Qs _ _ _ _ _⟩⟩
  ·rintro σ Hx ⟨m',u4,rfl,sx,gx⟩;obtain ⟨us,hm',lu,hus⟩:=gx;obtain ⟨d,hd⟩:∃ d:Nat,h=d+2 ^ e:=⟨h - 2 ^ e,by lia⟩
   have d1:((4 * h:Nat):Int) / 4 - 1 * 2 ^ (e:Int).toNat=(d:Int):=by rw [sh]; lia
   have d2:(d:Int)+((4 * h:Nat):Int) / 2=((d+2 * h:Nat):Int):=by lia
   refine ⟨_,rfl,_,_,rfl,rfl,⟨by decide,by decide⟩,_,rfl,_,_,rfl,rfl,⟨by lia,by lia,by decide⟩,_,_,rfl,rfl,?_⟩;refine ⟨_,rfl,_,rfl,_,rfl,_,rfl,_,rfl,_,_,rfl,rfl,⟨by decide,by decide⟩,_,_,rfl,rfl,_,rfl,m',_,rfl,SqL.of hm',fun LL hLL=>⟨LL,rfl,⟨_,SqL.of Ab⟩,?_⟩⟩;rw [d1,d2,RG (by lia)];have s4:An Hx (upd Hx LL (.lst (((us.drop d).take (2 * h)).map V.ref))):=Ah hLL;have h4':upd Hx LL (.lst (((us.drop d).take (2 * h)).map V.ref)) LL=some (.lst (((us.drop d).take (2 * h)).map V.ref)):=Ab;generalize upd Hx LL (.lst (((us.drop d).take (2 * h)).map V.ref))=H4 at s4 h4' ⊢;have lc:((us.drop d).take (2 * h)).length=2 * h:=by rw [List.length_take,List.length_drop]; lia
   refine Ck (xs:=((us.drop d).take (2 * h)).map V.ref) (fun i acc H5=>∃ bs:List Addr,acc=bs.map V.ref/\bs.length=i/\An H4 H5/\∀ (y:Nat) t,bs[y]?=some t->H5 t=some (.lst (Cm V.int (fun x=>AR (r.map LC4.a) (2 ^ e) f (x+h) (y+h)) (2 * h)))) ⟨[],rfl,rfl,An.refl H4,fun y t e=>(nomatch e)⟩ (fun i acc H5 _ ⟨_,_,_,s5,_⟩=>SqL.of (s5 _ _ h4')) ?_ ?_
   ·rintro i v acc H5 ev ⟨bs,rfl,lb,s5,hbs⟩;rw [List.getElem?_map] at ev;obtain ⟨t,et,rfl⟩:=Option.map_eq_some_iff.mp ev;have i2:i < 2 * h:=by have:=(List.getElem?_eq_some_iff.mp et).1; lia
    rw [List.getElem?_take,if_pos i2,List.getElem?_drop] at et;have ht:=s5 _ _ (s4 _ _ (hus _ t et));refine ⟨⟨[some (.ref t)],rfl,rfl⟩,by rw [List.length_map,lb]; exact Nat.lt_of_lt_of_le i2 (Nat.le_trans (show 2 * h<=8 by lia) (by decide)),FH ⟨_,rfl,_,rfl,_,rfl,_,rfl,_,rfl,_,_,rfl,rfl,⟨by decide,by decide⟩,_,_,rfl,rfl,_,rfl,t,_,rfl,SqL.of ht,fun C hC=>?_⟩⟩;rw [d1,d2,Ip (by lia)];refine ⟨bs ++ [C],by rw [List.map_append]; rfl,by rw [List.length_append,lb]; rfl,s5.trans (Ah hC),fun y u eu=>?_⟩;by_cases hy:y < i
    ·rw [List.getElem?_append_left (by lia)] at eu;exact Ah hC _ _ (hbs y u eu)
    ·have:y=i:=by
      have:=(List.getElem?_eq_some_iff.mp eu).1;rw [List.length_append,lb] at this;have:y < i+1:=this;lia
     subst this;rw [List.getElem?_append_right (by lia),lb,Nat.sub_self] at eu;cases eu;rw [Ab];refine congrArg (fun z=>some (HO.lst z)) (JS fun x _=>?_);rw [show x+d+2 ^ e=x+h by lia,show d+y+2 ^ e=y+h by lia]
   ·rintro acc H5 ⟨bs,rfl,lb,s5,hbs⟩ B hB;rw [List.length_map,lc] at lb;have s6:An H5 (upd H5 B (.lst (bs.map V.ref))):=Ah hB;exact k B _ (((sx.trans s4).trans s5).trans s6) ⟨bs,Ab,lb,fun y t et=>s6 _ _ (hbs y t et)⟩
inductive SQ (a:Ad) (vs:List V) (H:Hp) (Q:VK):Prop
 | mk (g:GA) (G:Gv) (n l:Nat) (_:vs=[.ref g.p,.int (n:Int),.int (l:Int)]) (_:AI a H g G) (_:GOk G) (_:Aq G n (l:Int)) (_:l<=4) (_:∀ (b:Addr) (H':Hp),An H H'->Fo V.int H' b (2 ^ l) (2 ^ l) (Ap G l n)->Q (.ref b) H'):SQ a vs H Q
def OD (a:Ad):Sp:=fun vs H Q _=>SQ a vs H Q
theorem ok_told {f:Addr} {fd:FuncData} (F:Fun K "_law_told" "_law_told" Dr f fd) (T:Top K mg a) (b6:BK P w K mg base CX0 4 a.c_Grove "quarters" CS (Ru a)) (aN:BK P w K mg base CX0 4 a.c_Grove "state_of" Ca (Pt a)):AU P w K mg base CX0 5 f fd EU (OD a):=by
 refine F.ok Bb (fun vs H Q E h=>?_) (fun cdv A outer s H vs Q E hr h=>?_)
 ·obtain ⟨g,G,n,l,rfl,_⟩:=h;rfl
 ·obtain ⟨g,G,n,l,rfl,hg,ok,hl,l4,k⟩:=h;have p4:∀ i,i<=l->2 ^ i<=2 ^ 4:=fun i hi=>Nat.pow_le_pow_right (by decide) (by lia);refine ⟨_,(Ae (Av (i:=3) Bb.nd rfl (Or.inl rfl) (Bc (MP (Aa (pv 1) Ac) Ac))) (Ae (BP PassesOwn.never rfl (CN rfl T.b_range (Aa (pv 2) Ac)) (AQ (i:=4) Bb.nd rfl (Or.inl rfl)) (Ae (Av (i:=5) Bb.nd rfl (Or.inl rfl) (Bc Ac)) (Ae (BP PassesOwn.never rfl (BB (pv 3)) (AQ (i:=6) Bb.nd rfl (Or.inl rfl)) (Ae (Av (i:=7) Bb.nd rfl (Or.inl rfl) (Bc Ac)) (Ae (Av (i:=8) Bb.nd rfl (Or.inl rfl) (Bc Ac)) (Ae (BP PassesOwn.never rfl (BB (pv 6)) (AQ (i:=9) Bb.nd rfl (Or.inl rfl)) (Ae (Av (i:=10) Bb.nd rfl (Or.inl rfl) (AF (pv 0) b6 (rm hr) Ar (Aa (pv 9) Ac))) (Ae (Av (i:=7) Bb.nd rfl (Or.inl rfl) (AH Gw (pv 7) (Bc (Aa (Al Ao (pv 10) Af (fun _ _=>rfl)) (Aa (Al Ao (pv 10) Af (fun _ _=>rfl)) Ac))))) (Aj (Av (i:=8) Bb.nd rfl (Or.inl rfl) (AH Gw (pv 8) (Bc (Aa (Al Ao (pv 10) Af (fun _ _=>rfl)) (Aa (Al Ao (pv 10) Af (fun _ _=>rfl)) Ac))))))))) (Aj (Av (i:=5) Bb.nd rfl (Or.inl rfl) (AH Gw (pv 5) (Bc (Aa (pv 7) (Aa (pv 8) Ac)))))))))) (Aj (Av (i:=3) Bb.nd rfl (Or.inl rfl) (pv 5)))))) (Aj (AA (BT rfl (Bn.of (So:=Ag Dr) (No:=Jj) (N:=["_law_row","_law_grove"]) (k:=1) (cs:=[0]) rfl rfl (by decide +kernel)) (BB (pv 3)) (fun _ _ _=>(AV (i:=0) (by decide +kernel) rfl rfl)) (fun _ _ _=>BH) (fun _ _ _=>(BT rfl (Bn.of (So:={ kind:=PySem.ScopeKind.function,names:=[(".0",PySem.NameKind.local),("_law_row",PySem.NameKind.local),("_law_grove",PySem.NameKind.cell)],isGenerator:=false,isCoroutine:=false }) (No:=["_law_row","_law_grove"]) (N:=["_law_one","_law_grove"]) (k:=1) (cs:=[1]) rfl rfl (by decide +kernel)) (NN (K:=K) rfl (pv 0)) (fun _ _ _=>(AV (i:=0) (by decide +kernel) rfl rfl)) (fun _ _ _=>BH) (fun _ _ _=>(AF (pv 1) aN (rm hr) Ar (Aa (pv 0) Ac)))))))))),?_⟩
  try dsimp only [cxK]
  refine ⟨_,rfl,(by show 1<=sizeLine; decide),fun I hI=>?_⟩;have s1:An H (upd H I (.lst [.int (n:Int)])):=Ah hI;have h1:upd H I (.lst [.int (n:Int)]) I=some (.lst [.int (n:Int)]):=Ab;show _/\_;generalize upd H I (.lst [.int (n:Int)])=H1 at s1 h1 ⊢;refine ⟨(by show 1<=sizeLine; decide),fun R0 hR0=>?_⟩;have s2:An H1 (upd H1 R0 (.lst [.ref I])):=Ah hR0;have h2:upd H1 R0 (.lst [.ref I]) R0=some (.lst [.ref I]):=Ab;generalize upd H1 R0 (.lst [.ref I])=H2 at s2 h2 ⊢;have g0:Fo toV H2 R0 (2 ^ 0) (2 ^ 0) (ndF G n 0):=⟨[I],h2,rfl,fun y t et=>by
   match y,et with
   | 0,et =>
    cases et;exact s2 _ _ h1
   | y+1,et=>cases et⟩
  refine ⟨_,rfl,(l:Int),rfl,by lia,by lia,?_⟩;rw [Int.toNat_natCast];refine Do (n:=l) (fun i σ Hx=>∃ (R:Addr) (u4 u5 u6 u7 u8 u9 u10:Option V),σ=[some (.ref g.p),some (.int (n:Int)),some (.int (l:Int)),some (.ref R),u4,u5,u6,u7,u8,u9,u10]/\An H Hx/\Fo toV Hx R (2 ^ i) (2 ^ i) (ndF G n i)) ⟨R0,none,none,none,none,none,none,none,rfl,s1.trans s2,g0⟩ ?_ ?_
  ·rintro i σ Hx hi ⟨R,u4,u5,u6,u7,u8,u9,u10,rfl,sx,⟨ts,hR,lt,hts⟩⟩;have pi:=p4 (i+1) hi;have p2:2 ^ (i+1)=2 * 2 ^ i:=by rw [Nat.pow_succ,Nat.mul_comm]
   refine ⟨(by show 0<=sizeLine; decide),fun B0 hB0=>?_⟩;have s3:An Hx (upd Hx B0 (.lst [])):=Ah hB0;have h3:upd Hx B0 (.lst []) B0=some (.lst []):=Ab;generalize upd Hx B0 (.lst [])=H3 at s3 h3 ⊢;refine ⟨_,rfl,R,rfl,⟨_,SqL.of (s3 _ _ hR)⟩,?_⟩;refine EB (xs:=ts.map V.ref) (fun j σ Hy=>∃ (B:Addr) (us:List Addr) (u6 u7 u8 u9 u10:Option V),σ=[some (.ref g.p),some (.int (n:Int)),some (.int (l:Int)),some (.ref R),some (.int (0+(i:Int))),some (.ref B),u6,u7,u8,u9,u10]/\An Hx Hy/\Hy B=some (.lst (us.map V.ref))/\us.length=2 * j/\∀ (y:Nat) t,us[y]?=some t->Hy t=some (.lst (Cm toV (fun x=>ndF G n (i+1) x y) (2 ^ (i+1))))) ⟨B0,[],_,_,_,_,_,rfl,s3,h3,rfl,fun y t e=>(nomatch e)⟩ (fun j σ Hy _ z=>by obtain ⟨_,_,_,_,_,_,_,_,z,_⟩:=z; exact SqL.of (z _ _ hR)) ?_ ?_
   ·rintro j v σ Hy ev ⟨B,us,u6,u7,u8,u9,u10,rfl,sy,hB,lu,hus⟩;rw [List.getElem?_map] at ev;obtain ⟨t,et,rfl⟩:=Option.map_eq_some_iff.mp ev;have j2:j < 2 ^ i:=by have:=(List.getElem?_eq_some_iff.mp et).1; lia
    have ht:=hts j t et;refine ⟨(by show 0<=sizeLine; decide),fun U0 hU0=>?_⟩;have s4:An Hy (upd Hy U0 (.lst [])):=Ah hU0;have h4:upd Hy U0 (.lst []) U0=some (.lst []):=Ab;generalize upd Hy U0 (.lst [])=H4 at s4 h4 ⊢;refine ⟨(by show 0<=sizeLine; decide),fun L0 hL0=>?_⟩;have s5:An H4 (upd H4 L0 (.lst [])):=Ah hL0;have h5:upd H4 L0 (.lst []) L0=some (.lst []):=Ab;generalize upd H4 L0 (.lst [])=H5 at s5 h5 ⊢;have s45:=s4.trans s5;refine ⟨_,rfl,t,rfl,⟨_,SqL.of (s45 _ _ (sy _ _ ht))⟩,?_⟩;refine EB (xs:=Cm toV (fun x=>ndF G n i x j) (2 ^ i)) (fun c σ Hz=>∃ (U L:Addr) (u9 u10:Option V),σ=[some (.ref g.p),some (.int (n:Int)),some (.int (l:Int)),some (.ref R),some (.int (0+(i:Int))),some (.ref B),some (.ref t),some (.ref U),some (.ref L),u9,u10]/\An Hy Hz/\Hz U=some (.lst (Cm toV (fun x=>ndF G n (i+1) x (2 * j)) (2 * c)))/\Hz L=some (.lst (Cm toV (fun x=>ndF G n (i+1) x (2 * j+1)) (2 * c)))) ⟨U0,L0,_,_,rfl,s45,s5 _ _ h4,h5⟩ (fun c σ Hz _ z=>by obtain ⟨_,_,_,_,_,z,_⟩:=z; exact SqL.of (z _ _ (sy _ _ ht))) ?_ ?_
    ·rintro c v σ Hz ev ⟨U,L,u9,u10,rfl,sz,hU,hL⟩;have c2:c < 2 ^ i:=by have:=(List.getElem?_eq_some_iff.mp ev).1; rw [BA] at this; exact this
     rw [ER c2] at ev;cases ev;obtain ⟨lv,_⟩:=Le ok hl i (by lia) c j c2 j2;obtain ⟨x,y,z,w,e,_,_,_,_⟩:=ok.four (n:=ndF G n i c j) (l:=l - i - 1) (by rw [show l - i - 1+1=l - i by lia]; exact lv);obtain ⟨q0,q1,q2,q3⟩:=CM e;have n0:ndF G n (i+1) (2 * c) (2 * j)=x:=by
      show qO G (ndF G n i (2 * c / 2) (2 * j / 2)) (2 * c % 2+2 * (2 * j % 2))=x;rw [show 2 * c / 2=c by lia,show 2 * j / 2=j by lia,show 2 * c % 2+2 * (2 * j % 2)=0 by lia];exact q0
     have n1:ndF G n (i+1) (2 * c+1) (2 * j)=y:=by
      show qO G (ndF G n i ((2 * c+1) / 2) (2 * j / 2)) ((2 * c+1) % 2+2 * (2 * j % 2))=y;rw [show (2 * c+1) / 2=c by lia,show 2 * j / 2=j by lia,show (2 * c+1) % 2+2 * (2 * j % 2)=1 by lia];exact q1
     have n2:ndF G n (i+1) (2 * c) (2 * j+1)=z:=by
      show qO G (ndF G n i (2 * c / 2) ((2 * j+1) / 2)) (2 * c % 2+2 * ((2 * j+1) % 2))=z;rw [show 2 * c / 2=c by lia,show (2 * j+1) / 2=j by lia,show 2 * c % 2+2 * ((2 * j+1) % 2)=2 by lia];exact q2
     have n3:ndF G n (i+1) (2 * c+1) (2 * j+1)=w:=by
      show qO G (ndF G n i ((2 * c+1) / 2) ((2 * j+1) / 2)) ((2 * c+1) % 2+2 * ((2 * j+1) % 2))=w;rw [show (2 * c+1) / 2=c by lia,show (2 * j+1) / 2=j by lia,show (2 * c+1) % 2+2 * ((2 * j+1) % 2)=3 by lia];exact q3
     have hgz:=hg.same ((sx.trans sy).trans sz);refine ⟨_,rfl,g.p,g.dx,_,rfl,hgz.hp,NS g,_,rfl,g,G,_,_,rfl,hgz,e,(by show ((l - i - 1+1:Nat):Int)≠0; lia),fun tq htq=>?_⟩;have htq:Hz tq=some (.tup [toV x,toV y,toV z,toV w]):=htq;refine ⟨_,rfl,_,rfl,tq,_,0,toV x,rfl,rfl,SqT.of htq,Ai (j:=0) rfl,_,rfl,tq,_,1,toV y,rfl,rfl,SqT.of htq,Ai (j:=1) rfl,(by show 2<=sizeLine; decide),fun C1 hC1=>?_⟩;have s6:An Hz (upd Hz C1 (.lst [toV x,toV y])):=Ah hC1;have h6:upd Hz C1 (.lst [toV x,toV y]) C1=some (.lst [toV x,toV y]):=Ab;generalize upd Hz C1 (.lst [toV x,toV y])=H6 at s6 h6 ⊢;refine ⟨U,C1,_,_,rfl,rfl,s6 _ _ hU,h6,Gc (by rw [BA]; show 2 * c+2<=100000; lia),fun U1 hU1=>?_⟩;have eu:Cm toV (fun x=>ndF G n (i+1) x (2 * j)) (2 * c) ++ [toV x,toV y]=Cm toV (fun x=>ndF G n (i+1) x (2 * j)) (2 * (c+1)):=by
      rw [show 2 * (c+1)=2 * c+1+1 by lia,EJ,EJ,n0,n1,List.append_assoc];rfl
     rw [eu];have s7:An H6 (upd H6 U1 (.lst (Cm toV (fun x=>ndF G n (i+1) x (2 * j)) (2 * (c+1))))):=Ah hU1;have h7:upd H6 U1 (.lst (Cm toV (fun x=>ndF G n (i+1) x (2 * j)) (2 * (c+1)))) U1=some (.lst (Cm toV (fun x=>ndF G n (i+1) x (2 * j)) (2 * (c+1)))):=Ab;generalize upd H6 U1 (.lst (Cm toV (fun x=>ndF G n (i+1) x (2 * j)) (2 * (c+1))))=H7 at s7 h7 ⊢;have htq7:=s7 _ _ (s6 _ _ htq);refine ⟨_,rfl,_,rfl,tq,_,2,toV z,rfl,rfl,SqT.of htq7,Ai (j:=2) rfl,_,rfl,tq,_,3,toV w,rfl,rfl,SqT.of htq7,Ai (j:=3) rfl,(by show 2<=sizeLine; decide),fun C2 hC2=>?_⟩;have s8:An H7 (upd H7 C2 (.lst [toV z,toV w])):=Ah hC2;have h8:upd H7 C2 (.lst [toV z,toV w]) C2=some (.lst [toV z,toV w]):=Ab;generalize upd H7 C2 (.lst [toV z,toV w])=H8 at s8 h8 ⊢;refine ⟨L,C2,_,_,rfl,rfl,s8 _ _ (s7 _ _ (s6 _ _ hL)),h8,Gc (by rw [BA]; show 2 * c+2<=100000; lia),fun L1 hL1=>?_⟩;have el:Cm toV (fun x=>ndF G n (i+1) x (2 * j+1)) (2 * c) ++ [toV z,toV w]=Cm toV (fun x=>ndF G n (i+1) x (2 * j+1)) (2 * (c+1)):=by
      rw [show 2 * (c+1)=2 * c+1+1 by lia,EJ,EJ,n2,n3,List.append_assoc];rfl
     rw [el];have s9:An H8 (upd H8 L1 (.lst (Cm toV (fun x=>ndF G n (i+1) x (2 * j+1)) (2 * (c+1))))):=Ah hL1;exact ⟨U1,L1,_,_,rfl,(((sz.trans s6).trans s7).trans s8).trans s9,s9 _ _ (s8 _ _ h7),Ab⟩
    ·rintro σ Hz ⟨U,L,u9,u10,rfl,sz,hU,hL⟩;rw [BA,<-p2] at hU hL;refine ⟨_,rfl,_,rfl,_,rfl,(by show 2<=sizeLine; decide),fun C hC=>?_⟩;have s6:An Hz (upd Hz C (.lst [.ref U,.ref L])):=Ah hC;have h6:upd Hz C (.lst [.ref U,.ref L]) C=some (.lst [.ref U,.ref L]):=Ab;generalize upd Hz C (.lst [.ref U,.ref L])=H6 at s6 h6 ⊢;refine ⟨B,C,_,_,rfl,rfl,s6 _ _ (sz _ _ hB),h6,Gc (by rw [List.length_map]; show us.length+2<=100000; lia),fun B1 hB1=>?_⟩;have s7:An H6 (upd H6 B1 (.lst (us.map V.ref ++ [.ref U,.ref L]))):=Ah hB1;refine ⟨B1,us ++ [U,L],_,_,_,_,_,rfl,((sy.trans sz).trans s6).trans s7,by rw [Ab,List.map_append]; rfl,by rw [List.length_append,lu]; show 2 * j+2=_; lia,fun y u eu=>?_⟩;by_cases hy:y < 2 * j
     ·rw [List.getElem?_append_left (by lia)] at eu;exact s7 _ _ (s6 _ _ (sz _ _ (hus y u eu)))
     ·rw [List.getElem?_append_right (by lia),lu] at eu;by_cases hy2:y=2 * j
      ·subst hy2;rw [Nat.sub_self] at eu;cases eu;exact s7 _ _ (s6 _ _ hU)
      ·obtain ⟨d,hd⟩:∃ d,y - 2 * j=d+1:=⟨y - 2 * j - 1,by lia⟩
       rw [hd] at eu
       match d,eu with
       | 0,eu =>
        cases eu;have:y=2 * j+1:=by lia
        subst this;exact s7 _ _ (s6 _ _ hL)
       | d+1,eu=>cases eu
   ·rintro σ Hy ⟨B,us,u6,u7,u8,u9,u10,rfl,sy,hB,lu,hus⟩;rw [List.length_map,lt] at lu;exact ⟨_,rfl,B,_,_,_,_,_,_,_,rfl,sx.trans sy,⟨us,hB,by lia,hus⟩⟩
  ·rintro σ Hx ⟨R,u4,u5,u6,u7,u8,u9,u10,rfl,sx,⟨ts,hR,lt,hts⟩⟩;have pl:=p4 l (Nat.le_refl l);have hgx:=hg.same sx;refine ⟨_,rfl,R,rfl,⟨_,SqL.of hR⟩,?_⟩;refine Ck (xs:=ts.map V.ref) (fun i acc H5=>∃ bs:List Addr,acc=bs.map V.ref/\bs.length=i/\An Hx H5/\∀ (y:Nat) t,bs[y]?=some t->H5 t=some (.lst (Cm V.int (fun x=>Ap G l n x y) (2 ^ l)))) ⟨[],rfl,rfl,An.refl Hx,fun y t e=>(nomatch e)⟩ (fun i acc H5 _ ⟨_,_,_,s5,_⟩=>SqL.of (s5 _ _ hR)) ?_ ?_
   ·rintro i v acc H5 ev ⟨bs,rfl,lb,s5,hbs⟩;rw [List.getElem?_map] at ev;obtain ⟨t,et,rfl⟩:=Option.map_eq_some_iff.mp ev;have i2:i < 2 ^ l:=by have:=(List.getElem?_eq_some_iff.mp et).1; lia
    have ht:=s5 _ _ (hts i t et);have hg5:=hgx.same s5;refine ⟨⟨[some (.ref t)],rfl,rfl⟩,by rw [List.length_map,lb]; exact Nat.lt_of_lt_of_le i2 (Nat.le_trans pl (by decide)),FH ⟨_,rfl,t,rfl,⟨_,SqL.of ht⟩,?_⟩⟩;refine Ck (xs:=Cm toV (fun x=>ndF G n l x i) (2 ^ l)) (fun c acc H6=>H5=H6/\acc=Cm V.int (fun x=>Ap G l n x i) c) ⟨rfl,rfl⟩ (fun c acc H6 _ z=>z.1 ▸ SqL.of ht) ?_ ?_
    ·rintro c v acc H6 ev ⟨rfl,rfl⟩;have c2:c < 2 ^ l:=by have:=(List.getElem?_eq_some_iff.mp ev).1; rw [BA] at this; exact this
     rw [ER c2] at ev;cases ev;obtain ⟨⟨q,e1,e2⟩,e3⟩:=Sd ok hl c2 i2;refine ⟨⟨[some (toV (ndF G n l c i))],rfl,rfl⟩,by rw [BA]; exact Nat.lt_of_lt_of_le c2 (Nat.le_trans pl (by decide)),FH ⟨_,rfl,g.p,g.dx,_,rfl,hg5.hp,Ld g,_,rfl,g,G,_,q,rfl,hg5,e1,e2,rfl,?_⟩⟩;rw [EJ,e3]
    ·rintro acc H6 ⟨rfl,rfl⟩ C hC;rw [BA];refine ⟨bs ++ [C],by rw [List.map_append]; rfl,by rw [List.length_append,lb]; rfl,s5.trans (Ah hC),fun y u eu=>?_⟩;by_cases hy:y < i
     ·rw [List.getElem?_append_left (by lia)] at eu;exact Ah hC _ _ (hbs y u eu)
     ·have:y=i:=by
       have:=(List.getElem?_eq_some_iff.mp eu).1;rw [List.length_append,lb] at this;have:y < i+1:=this;lia
      subst this;rw [List.getElem?_append_right (by lia),lb,Nat.sub_self] at eu;cases eu;exact Ab
   ·rintro acc H5 ⟨bs,rfl,lb,s5,hbs⟩ B hB;rw [List.length_map,lt] at lb;have s6:An H5 (upd H5 B (.lst (bs.map V.ref))):=Ah hB;exact k B _ ((sx.trans s5).trans s6) ⟨bs,Ab,lb,fun y t et=>s6 _ _ (hbs y t et)⟩
end
end J
namespace J
open PySem L2
seal L2.PA L2.PE L2.PS L2.PSs L2.PT L2.PW
theorem rng2:∀ v:Nat,v<=8->Builtin.Range.small 0 ((2 * v:Nat):Int) 2=true/\Builtin.Range.rangeSize 0 ((2 * v:Nat):Int) 2=(v:Int):=by decide +kernel
def KN (G:Gv) (f:Nat->Nat->Int) (k W:Nat) (F:Nat->Nat->Nat):Prop:=∀ x y,x < W->y < W->Aq G (F x y) (k:Int)/\Vw G f k (F x y) (2 ^ k * x) (2 ^ k * y)
section
variable {P:Program} {w:World} {K:PySem.W.Frag} {mg:Str->Option Value} {base:Heap} {a:Ad}
inductive SU (vs:List V) (H:Hp) (Q:VK):Prop
 | mk (i:Int) (_:vs=[.int i,.int i]) (_:Q (.bl true) H):SU vs H Q
def Mx:Sp:=fun vs H Q _=>SU vs H Q
theorem ok_same {f:Addr} {fd:FuncData} (F:Fun K "_law_same" "_law_same" Ej f fd) (T:Top K mg a):AU P w K mg base CX0 1 f fd Em Mx:=by
 refine F.ok MJ (fun vs H Q E h=>?_) (fun cdv A outer s H vs Q E hr h=>?_)
 ·obtain ⟨i,rfl,_⟩:=h;rfl
 ·obtain ⟨i,rfl,k⟩:=h;refine ⟨_,(Aj (AA (JZ (AW FT rfl T.b_isinstance PyProof.Rows.boot_isinstance (Aa (pv 0) (Aa (GS (v:=.ty "int") rfl T.b_int PyProof.Rows.boot_int rfl) Ac))) (JZ (RM (AW FT rfl T.b_isinstance PyProof.Rows.boot_isinstance (Aa (pv 0) (Aa (GS (v:=.ty "bool") rfl T.b_bool PyProof.Rows.boot_bool rfl) Ac)))) (JX (Iv FA (pv 0) (pv 1) (AT _))))))),?_⟩
  try dsimp only [cxK]
  refine ⟨_,rfl,_,_,_,.type "int",true,rfl,rfl,.of (.int i),(PX K).1,true,rfl,EC ⟨_,rfl,_,_,_,.type "int",false,rfl,rfl,.of (.int i),(PX K).2,false,rfl,true,rfl,EC ⟨_,rfl,_,rfl,rfl,?_⟩⟩⟩;rw [decide_eq_true rfl];exact k
inductive Ta (a:Ad) (vs:List V) (H:Hp) (Q:VK):Prop
 | mk (g:GA) (G:Gv) (q:Addr) (l:Nat) (f:Nat->Nat->Int) (_:vs=[.ref g.p,.ref q]) (_:AI a H g G) (_:GOk G) (_:56<=G.length) (_:Fo V.int H q (2 ^ l) (2 ^ l) f) (_:∀ x y,Dq (f x y)) (_:l<=4) (_:G.length < 1000000) (_:∀ (n:Nat) (G':Gv) (H':Hp),Fr g H H'->AI a H' g G'->AZ G G' 256->Aq G' n (l:Int)->Vw G' f l n 0 0->Q (.int n) H'):Ta a vs H Q
def OF (a:Ad):Sp:=fun vs H Q _=>Ta a vs H Q
theorem ok_knit {f:Addr} {fd:FuncData} (F:Fun K "_law_knit" "_law_knit" Dt f fd) (T:Top K mg a) (aV:BK P w K mg base CX0 3 a.c_Grove "leaf" DQ (MC a)) (bH:BK P w K mg base CX0 4 a.c_Grove "joined" DE (OG a)):AU P w K mg base CX0 5 f fd EW (OF a):=by
 refine F.ok CV (fun vs H Q E h=>?_) (fun cdv A outer s H vs Q E hr h=>?_)
 ·obtain ⟨g,G,q,l,f,rfl,_⟩:=h;rfl
 ·obtain ⟨g,G,q,l,f,rfl,hg,ok,l56,⟨ts,hq,lt,hts⟩,sts,l4,few,k⟩:=h;have p4:∀ i,i<=l->2 ^ i<=2 ^ 4:=fun i hi=>Nat.pow_le_pow_right (by decide) (by lia);have pl:=p4 l (Nat.le_refl l);have cast:∀ x y,f x y=(((f x y).toNat:Nat):Int)/\(f x y).toNat < 8:=fun x y=>by
   obtain ⟨h1,h2⟩:=sts x y;exact ⟨by lia,by lia⟩
  refine ⟨_,(Ae (Fw (i:=2) rfl CV.nd rfl rfl (Bn.of (So:=Ag Dt) (No:=Jl) (N:=["_law_row","_law_grove"]) (k:=1) (cs:=[0]) rfl rfl (by decide +kernel)) (BB (pv 1)) (fun _ _ _=>(AV (i:=0) (by decide +kernel) rfl rfl)) (fun _ _ _=>BH) (fun _ _ _=>(BT rfl (Bn.of (So:={ kind:=PySem.ScopeKind.function,names:=[(".0",PySem.NameKind.local),("_law_row",PySem.NameKind.local),("_law_grove",PySem.NameKind.cell)],isGenerator:=false,isCoroutine:=false }) (No:=["_law_row","_law_grove"]) (N:=["_law_state","_law_grove"]) (k:=1) (cs:=[1]) rfl rfl (by decide +kernel)) (NN (K:=K) rfl (pv 0)) (fun _ _ _=>(AV (i:=0) (by decide +kernel) rfl rfl)) (fun _ _ _=>BH) (fun _ _ _=>(AF (pv 1) aV (rm hr) Ar (Aa (pv 0) Ac)))))) (Ae (RI PassesOwn.never (AJ RT (AW Bl rfl T.b_len PySem.boot_len (Aa (pv 2) Ac)) Af (AT _)) (Ae (Av (i:=3) CV.nd rfl (Or.inl rfl) (Bc Ac)) (Ae (BP PassesOwn.never rfl (LV rfl T.b_range (AN (Aa (AW Bl rfl T.b_len PySem.boot_len (Aa (pv 2) Ac)) (AN Ac)))) (AQ (i:=4) CV.nd rfl (Or.inl rfl)) (Ae (Av (i:=5) CV.nd rfl (Or.inl rfl) (Bc Ac)) (Ae (BP PassesOwn.never rfl (LV rfl T.b_range (AN (Aa (AW Bl rfl T.b_len PySem.boot_len (Aa (pv 2) Ac)) (AN Ac)))) (AQ (i:=6) CV.nd rfl (Or.inl rfl)) (Aj (BQ (Dw PySem.F.plainAttrs_list PySem.F.slot_list_append PySem.F.type_list_append BN (pv 5) (Aa (AF (pv 0) bH (rm hr) Ar (Aa (Al Au (Al Au (pv 2) (pv 4) (fun _ _=>rfl)) (pv 6) (fun _ _=>rfl)) (Aa (Al Au (Al Au (pv 2) (pv 4) (fun _ _=>rfl)) (AH BG (pv 6) Af) (fun _ _=>rfl)) (Aa (Al Au (Al Au (pv 2) (AH BG (pv 4) Af) (fun _ _=>rfl)) (pv 6) (fun _ _=>rfl)) (Aa (Al Au (Al Au (pv 2) (AH BG (pv 4) Af) (fun _ _=>rfl)) (AH BG (pv 6) Af) (fun _ _=>rfl)) Ac))))) Ac))))) (Aj (BQ (Dw PySem.F.plainAttrs_list PySem.F.slot_list_append PySem.F.type_list_append BN (pv 3) (Aa (pv 5) Ac))))))) (Aj (Av (i:=2) CV.nd rfl (Or.inl rfl) (pv 3)))))) (Aj (AA (Al Au (Al Au (pv 2) Af (fun _ _=>rfl)) Af (fun _ _=>rfl)))))),?_⟩
  try dsimp only [cxK]
  refine ⟨_,rfl,q,rfl,⟨_,SqL.of hq⟩,?_⟩;refine Ck (xs:=ts.map V.ref) (fun i acc H5=>∃ bs:List Addr,acc=bs.map V.ref/\bs.length=i/\An H H5/\∀ (y:Nat) t,bs[y]?=some t->H5 t=some (.lst (Cm toV (fun x=>(f x y).toNat) (2 ^ l)))) ⟨[],rfl,rfl,An.refl H,fun y t e=>(nomatch e)⟩ (fun i acc H5 _ ⟨_,_,_,s5,_⟩=>SqL.of (s5 _ _ hq)) ?_ ?_
  ·rintro i v acc H5 ev ⟨bs,rfl,lb,s5,hbs⟩;rw [List.getElem?_map] at ev;obtain ⟨t,et,rfl⟩:=Option.map_eq_some_iff.mp ev;have i2:i < 2 ^ l:=by have:=(List.getElem?_eq_some_iff.mp et).1; lia
   have ht:=s5 _ _ (hts i t et);have hg5:=hg.same s5;refine ⟨⟨[some (.ref t)],rfl,rfl⟩,by rw [List.length_map,lb]; exact Nat.lt_of_lt_of_le i2 (Nat.le_trans pl (by decide)),FH ⟨_,rfl,t,rfl,⟨_,SqL.of ht⟩,?_⟩⟩;refine Ck (xs:=Cm V.int (fun x=>f x i) (2 ^ l)) (fun c acc H6=>H5=H6/\acc=Cm toV (fun x=>(f x i).toNat) c) ⟨rfl,rfl⟩ (fun c acc H6 _ z=>z.1 ▸ SqL.of ht) ?_ ?_
   ·rintro c v acc H6 ev ⟨rfl,rfl⟩;have c2:c < 2 ^ l:=by have:=(List.getElem?_eq_some_iff.mp ev).1; rw [BA] at this; exact this
    rw [ER c2] at ev;cases ev;refine ⟨⟨[some (.int (f c i))],rfl,rfl⟩,by rw [BA]; exact Nat.lt_of_lt_of_le c2 (Nat.le_trans pl (by decide)),FH ⟨_,rfl,g.p,g.dx,_,rfl,hg5.hp,PR g,_,rfl,g.p,_,rfl,(sts c i).1,(sts c i).2,rfl,?_⟩⟩;rw [EJ];show _=_ ++ [V.int (((f c i).toNat:Nat):Int)]
    rw [<-(cast c i).1]
   ·rintro acc H6 ⟨rfl,rfl⟩ C hC;rw [BA];refine ⟨bs ++ [C],by rw [List.map_append]; rfl,by rw [List.length_append,lb]; rfl,s5.trans (Ah hC),fun y u eu=>?_⟩;by_cases hy:y < i
    ·rw [List.getElem?_append_left (by lia)] at eu;exact Ah hC _ _ (hbs y u eu)
    ·have:y=i:=by
      have:=(List.getElem?_eq_some_iff.mp eu).1;rw [List.length_append,lb] at this;have:y < i+1:=this;lia
     subst this;rw [List.getElem?_append_right (by lia),lb,Nat.sub_self] at eu;cases eu;exact Ab
  rintro acc H5 ⟨bs,rfl,lb,s5,hbs⟩ R0 hR0;rw [List.length_map,lt] at lb;have s6:An H5 (upd H5 R0 (.lst (bs.map V.ref))):=Ah hR0;have h6:upd H5 R0 (.lst (bs.map V.ref)) R0=some (.lst (bs.map V.ref)):=Ab;generalize upd H5 R0 (.lst (bs.map V.ref))=H6 at s6 h6 ⊢;have s06:=s5.trans s6;have g0:Fo toV H6 R0 (2 ^ (l - 0)) (2 ^ (l - 0)) (fun x y=>(f x y).toNat):=⟨bs,h6,lb,fun y t et=>s6 _ _ (hbs y t et)⟩
  have kn0:KN G f 0 (2 ^ (l - 0)) (fun x y=>(f x y).toNat):=fun x y _ _=>⟨⟨_,ok.leaf _ (cast x y).2,rfl⟩,fun u v hu hv=>by
   have eu:u=0:=Nat.lt_one_iff.mp hu;have ev:v=0:=Nat.lt_one_iff.mp hv;subst eu;subst ev;rw [show 0+2 ^ 0 * x=x by lia,show 0+2 ^ 0 * y=y by lia];exact (cast x y).1.symm⟩
  refine ⟨fun m σ Hx=>∃ (c:Nat) (R:Addr) (F:Nat->Nat->Nat) (Gk:Gv) (u3 u4 u5 u6:Option V),m+c=l/\σ=[some (.ref g.p),some (.ref q),some (.ref R),u3,u4,u5,u6]/\Fr g H Hx/\AI a Hx g Gk/\AZ G Gk (64 * c)/\Fo toV Hx R (2 ^ (l - c)) (2 ^ (l - c)) F/\KN Gk f c (2 ^ (l - c)) F,⟨l,0,R0,_,G,none,none,none,none,rfl,rfl,An.fr s06,hg.same s06,AZ.refl ok,g0,kn0⟩,?_⟩;rintro m σ Hx ⟨c,R,F,Gk,u3,u4,u5,u6,hmc,rfl,fr,hgk,go,⟨us,hR,lu,hus⟩,kn⟩;have gk56:56<=Gk.length:=by
   obtain ⟨r,e⟩:=go.pre;rw [e,List.length_append];lia
  have gkf:=go.few;refine ⟨_,rfl,R,_,rfl,.inl (SqL.of hR),_,_,rfl,rfl,_,rfl,?_⟩;rw [List.length_map,lu];refine Jd (fun hc=>?_) (fun hc=>?_)
  ·have hc:((2 ^ (l - c):Nat):Int) > 1:=of_decide_eq_true hc;have cl:c < l:=by
    refine Nat.lt_of_not_le fun z=>?_;rw [show l - c=0 by lia] at hc;exact absurd hc (by decide)
   obtain ⟨d,hd⟩:∃ d,l - c=d+1:=⟨l - c - 1,by lia⟩
   have hd':l - (c+1)=d:=by lia
   rw [hd] at lu hus kn;obtain ⟨v,hv⟩:∃ v,2 ^ d=v:=⟨_,rfl⟩
   have v8:v<=8:=by
    rw [<-hv];exact Nat.pow_le_pow_right (show 0 < 2 by decide) (show d<=3 by lia)
   have hw:2 ^ (d+1)=2 * v:=by rw [Nat.pow_succ,hv,Nat.mul_comm]
   rw [hw] at lu hus kn;refine ⟨fun σ' H'=>∃ (R:Addr) (F:Nat->Nat->Nat) (Gk:Gv) (u3 u4 u5 u6:Option V),σ'=[some (.ref g.p),some (.ref q),some (.ref R),u3,u4,u5,u6]/\Fr g H H'/\AI a H' g Gk/\AZ G Gk (64 * (c+1))/\Fo toV H' R v v F/\KN Gk f (c+1) v F,fun σ' H' z=>⟨m - 1,by lia,?_⟩,?_⟩
   ·obtain ⟨R,F,Gk,u3,u4,u5,u6,z1,z2,z3,z4,z5,z6⟩:=z;rw [<-hv,<-hd'] at z5 z6;exact ⟨c+1,R,F,Gk,u3,u4,u5,u6,by lia,z1,z2,z3,z4,z5,z6⟩
   obtain ⟨r1,r2⟩:=rng2 v v8;have p1:2 ^ (c+1)=2 ^ c * 2:=Nat.pow_succ ..;refine ⟨(by show 0<=sizeLine; decide),fun AB hAB=>?_⟩;have s7:An Hx (upd Hx AB (.lst [])):=Ah hAB;have h7:upd Hx AB (.lst []) AB=some (.lst []):=Ab;have aA:AB≠g.lv/\AB≠g.pt/\AB≠g.nm:=by
    obtain ⟨tt,h3,_⟩:=hgk.pt;exact ⟨Ne.symm (Am hgk.lv hAB),Ne.symm (Am h3 hAB),Ne.symm (Am hgk.nm hAB)⟩
   generalize upd Hx AB (.lst [])=H7 at s7 h7 ⊢;refine ⟨_,rfl,R,_,rfl,.inl (SqL.of (s7 _ _ hR)),0,((2 * v:Nat):Int),2,v,by rw [List.length_map,lu],by decide,by lia,by decide,r1,r2,?_⟩;refine Ls (n:=v) (fun j σ Hy=>∃ (as:List Addr) (rws:List (List Nat)) (Gy:Gv) (u4 u5 u6:Option V),σ=[some (.ref g.p),some (.ref q),some (.ref R),some (.ref AB),u4,u5,u6]/\Fr g Hx Hy/\AI a Hy g Gy/\AZ Gk Gy (8 * j)/\Hy AB=some (.lst (as.map V.ref))/\as.length=j/\Paired (fun t row=>t≠AB/\Hy t=some (.lst (row.map toV))/\row.length=v) as rws/\∀ (y:Nat) row,rws[y]?=some row->∀ (x z:Nat),row[x]?=some z->Aq Gy z ((c+1:Nat):Int)/\Vw Gy f (c+1) z (2 ^ (c+1) * x) (2 ^ (c+1) * y)) ⟨[],[],Gk,_,_,_,rfl,An.fr s7,hgk.same s7,AZ.refl go.ok,h7,rfl,.nil,fun y row e=>(nomatch e)⟩ ?_ ?_
   ·rintro j σ Hy hj ⟨as,rws,Gy,u4,u5,u6,rfl,fry,hgy,goy,hAy,la,pra,vwa⟩;have gyf:=goy.few;have ky:=fry.kps hgk gk56;have gy56:56<=Gy.length:=by
     obtain ⟨r,e⟩:=goy.pre;rw [e,List.length_append];lia
    refine ⟨(by show 0<=sizeLine; decide),fun MD hMD=>?_⟩;have s8:An Hy (upd Hy MD (.lst [])):=Ah hMD;have h8:upd Hy MD (.lst []) MD=some (.lst []):=Ab;have aM:MD≠g.lv/\MD≠g.pt/\MD≠g.nm:=by
     obtain ⟨tt,h3,_⟩:=hgy.pt;exact ⟨Ne.symm (Am hgy.lv hMD),Ne.symm (Am h3 hMD),Ne.symm (Am hgy.nm hMD)⟩
    have nMA:MD≠AB:=fun z=>by rw [z,hAy] at hMD; cases hMD
    generalize upd Hy MD (.lst [])=H8 at s8 h8 ⊢;have hRy:=ky _ _ hR (.lst (by rw [List.length_map]; lia));refine ⟨_,rfl,R,_,rfl,.inl (SqL.of (s8 _ _ hRy)),0,((2 * v:Nat):Int),2,v,by rw [List.length_map,lu],by decide,by lia,by decide,r1,r2,?_⟩;obtain ⟨t0,et0⟩:∃ t,us[2 * j]?=some t:=⟨us[2 * j]'(by lia),List.getElem?_eq_getElem _⟩
    obtain ⟨t1,et1⟩:∃ t,us[2 * j+1]?=some t:=⟨us[2 * j+1]'(by lia),List.getElem?_eq_getElem _⟩
    have a0:atI (us.map V.ref) (0+(j:Int) * 2)=some (.ref t0):=by rw [show 0+(j:Int) * 2=((2 * j:Nat):Int) by lia]; exact Ai (by rw [List.getElem?_map,et0]; rfl)
    have a1:atI (us.map V.ref) (0+(j:Int) * 2+1)=some (.ref t1):=by rw [show 0+(j:Int) * 2+1=((2 * j+1:Nat):Int) by lia]; exact Ai (by rw [List.getElem?_map,et1]; rfl)
    have y0:=ky _ _ (hus _ t0 et0) (.lst (by rw [BA]; lia));have y1:=ky _ _ (hus _ t1 et1) (.lst (by rw [BA]; lia));refine Ls (n:=v) (fun i σ Hz=>∃ (zs:List Nat) (Gz:Gv) (u6:Option V),σ=[some (.ref g.p),some (.ref q),some (.ref R),some (.ref AB),some (.int (0+(j:Int) * 2)),some (.ref MD),u6]/\Fr g Hy Hz/\AI a Hz g Gz/\AZ Gy Gz i/\Hz MD=some (.lst (zs.map toV))/\zs.length=i/\∀ (x z:Nat),zs[x]?=some z->Aq Gz z ((c+1:Nat):Int)/\Vw Gz f (c+1) z (2 ^ (c+1) * x) (2 ^ (c+1) * j)) ⟨[],Gy,_,rfl,An.fr s8,hgy.same s8,AZ.refl goy.ok,h8,rfl,fun x z e=>(nomatch e)⟩ ?_ ?_
    ·rintro i σ Hz hi ⟨zs,Gz,u6,rfl,frz,hgz,goz,hMz,lz,vwz⟩;have gzf:=goz.few;have kz:=frz.kps hgy gy56;have hRz:=kz _ _ hRy (.lst (by rw [List.length_map]; lia));have z0:=kz _ _ y0 (.lst (by rw [BA]; lia));have z1:=kz _ _ y1 (.lst (by rw [BA]; lia));have b0:∀ (y:Nat),atI (Cm toV (fun x=>F x y) (2 * v)) (0+(i:Int) * 2)=some (toV (F (2 * i) y)):=fun y=>by rw [show 0+(i:Int) * 2=((2 * i:Nat):Int) by lia]; exact Jx (by lia)
     have b1:∀ (y:Nat),atI (Cm toV (fun x=>F x y) (2 * v)) (0+(i:Int) * 2+1)=some (toV (F (2 * i+1) y)):=fun y=>by rw [show 0+(i:Int) * 2+1=((2 * i+1:Nat):Int) by lia]; exact Jx (by lia)
     refine ⟨_,rfl,.inl ⟨rfl,_,SqL.of hMz⟩,_,rfl,g.p,g.dx,_,rfl,hgz.hp,QD g,_,rfl,_,rfl,R,_,_,.ref t0,rfl,rfl,SqL.of hRz,a0,_,rfl,t0,_,_,toV (F (2 * i) (2 * j)),rfl,rfl,SqL.of z0,b0 _,?_⟩;refine ⟨_,rfl,_,rfl,R,_,_,.ref t0,rfl,rfl,SqL.of hRz,a0,_,rfl,_,_,rfl,rfl,t0,_,_,toV (F (2 * i+1) (2 * j)),rfl,rfl,SqL.of z0,b1 _,?_⟩;refine ⟨_,rfl,_,rfl,_,_,rfl,rfl,R,_,_,.ref t1,rfl,rfl,SqL.of hRz,a1,_,rfl,t1,_,_,toV (F (2 * i) (2 * j+1)),rfl,rfl,SqL.of z1,b0 _,?_⟩;refine ⟨_,rfl,_,rfl,_,_,rfl,rfl,R,_,_,.ref t1,rfl,rfl,SqL.of hRz,a1,_,rfl,_,_,rfl,rfl,t1,_,_,toV (F (2 * i+1) (2 * j+1)),rfl,rfl,SqL.of z1,b1 _,?_⟩;have gkz:=goy.trans goz;obtain ⟨m0,w0⟩:=kn (2 * i) (2 * j) (by lia) (by lia);obtain ⟨m1,w1⟩:=kn (2 * i+1) (2 * j) (by lia) (by lia);obtain ⟨m2,w2⟩:=kn (2 * i) (2 * j+1) (by lia) (by lia);obtain ⟨m3,w3⟩:=kn (2 * i+1) (2 * j+1) (by lia) (by lia);refine ⟨g,Gz,_,_,_,_,(c:Int),rfl,hgz,goz.ok,⟨gkz.lev m0,gkz.lev m1,gkz.lev m2,gkz.lev m3⟩,by lia,by lia,fun z G9 H9 fr9 hg9 go9 e9=>?_⟩;have hM9:H9 MD=_:=fr9 _ _ hMz aM.1 aM.2.1 aM.2.2;refine ⟨MD,_,_,rfl,rfl,hM9,by rw [List.length_map,lz]; exact Nat.lt_of_lt_of_le hi (Nat.le_trans v8 (by decide)),?_⟩;refine ⟨zs ++ [z],G9,_,rfl,fun b o e n1 n2 n3=>?_,hg9.put hM9 aM.1 aM.2.1,goz.trans go9,by rw [Ab,List.map_append]; rfl,by rw [List.length_append,lz]; rfl,fun x z' e=>?_⟩
     ·rw [As (Am e hMD)];exact fr9 _ _ (frz _ _ e n1 n2 n3) n1 n2 n3
     ·by_cases xi:x < i
      ·rw [List.getElem?_append_left (by lia)] at e;obtain ⟨q1,q2⟩:=vwz x z' e;exact ⟨go9.lev q1,q2.goes goz.ok go9 q1⟩
      ·have:x=i:=by
        have:=(List.getElem?_eq_some_iff.mp e).1;rw [List.length_append,lz] at this;have:x < i+1:=this;lia
       subst this;rw [List.getElem?_append_right (by lia),lz,Nat.sub_self] at e;cases e;have gk9:=gkz.trans go9;have hp:∀ t:Nat,2 ^ c * (t+1)=2 ^ c * t+2 ^ c:=fun t=>Nat.mul_succ _ _;have ei:2 ^ c * (2 * x)=2 ^ (c+1) * x:=by rw [p1,Nat.mul_assoc]
       have ej:2 ^ c * (2 * j)=2 ^ (c+1) * j:=by rw [p1,Nat.mul_assoc]
       exact ⟨⟨_,e9,by show (c:Int)+1=((c+1:Nat):Int); lia⟩,GU go.ok gk9 m0 m1 m2 m3 (w0.at' ei ej) (w1.at' (by rw [hp,ei]) ej) (w2.at' ei (by rw [hp,ej])) (w3.at' (by rw [hp,ei]) (by rw [hp,ej])) e9⟩
    ·rintro σ Hz ⟨zs,Gz,u6,rfl,frz,hgz,goz,hMz,lz,vwz⟩;have hAz:Hz AB=_:=frz _ _ hAy aA.1 aA.2.1 aA.2.2;refine ⟨_,rfl,.inl ⟨rfl,_,SqL.of hAz⟩,_,rfl,AB,_,_,rfl,rfl,hAz,by rw [List.length_map]; exact Nat.lt_of_le_of_lt (show as.length<=8 by lia) (by decide),?_⟩;have up:∀ {b:Addr} {o:HO},Hz b=some o->b≠AB->upd Hz AB (.lst (as.map V.ref ++ [.ref MD])) b=some o:=fun {b o} e n=>by rw [As n]; exact e
     have kz:=frz.kps hgy gy56;refine ⟨as ++ [MD],rws ++ [zs],Gz,_,_,_,rfl,fun b o e n1 n2 n3=>up (frz _ _ (fry _ _ e n1 n2 n3) n1 n2 n3) (Am e hAB),hgz.put hAz aA.1 aA.2.1,(goy.trans goz).mono (by lia),by rw [Ab,List.map_append]; rfl,by rw [List.length_append,la]; rfl,Paired.snoc (Paired.imp (fun t row z=>⟨z.1,up (kz _ _ z.2.1 (.lst (by rw [List.length_map]; lia))) z.1,z.2.2⟩) pra) ⟨nMA,up hMz nMA,lz⟩,fun y row ey x z ex=>?_⟩;have lr:=Paired.length pra;by_cases yj:y < j
     ·rw [List.getElem?_append_left (by lia)] at ey;obtain ⟨q1,q2⟩:=vwa y row ey x z ex;exact ⟨goz.lev q1,q2.goes goy.ok goz q1⟩
     ·have:y=j:=by
       have:=(List.getElem?_eq_some_iff.mp ey).1;rw [List.length_append] at this;have:y < rws.length+1:=this;lia
      subst this;rw [List.getElem?_append_right (by lia),show y - rws.length=0 by lia] at ey;cases ey;exact vwz x z ex
   ·rintro σ Hy ⟨as,rws,Gy,u4,u5,u6,rfl,fry,hgy,goy,hAy,la,pra,vwa⟩;have lr:=Paired.length pra;refine ⟨_,rfl,AB,fun x y=>(rws.getD y []).getD x 0,Gy,_,_,_,_,rfl,fr.trans fry,hgy,(go.trans goy).mono (by lia),⟨as,hAy,la,fun y t et=>?_⟩,fun x y hx hy=>?_⟩
    ·obtain ⟨row,er,_,h2,h3⟩:=Paired.get pra et;rw [h2,PB row 0,h3,List.getD_eq_getElem?_getD,er];rfl
    ·have hy':y < rws.length:=by lia
     obtain ⟨t,et,_,_,h3⟩:=PairedM.get pra (List.getElem?_eq_getElem hy');have e1:(rws.getD y []).getD x 0=rws[y][x]'(by lia):=by
      rw [List.getD_eq_getElem?_getD (l:=rws),List.getElem?_eq_getElem hy'];show rws[y].getD x 0=_;rw [List.getD_eq_getElem?_getD,List.getElem?_eq_getElem (by lia)];rfl
     show Aq Gy ((rws.getD y []).getD x 0) _/\Vw Gy f (c+1) ((rws.getD y []).getD x 0) _ _;rw [e1];exact vwa y _ (List.getElem?_eq_getElem hy') x _ (List.getElem?_eq_getElem (by lia))
  ·have cl:c=l:=by
    refine Nat.le_antisymm (by lia) (Nat.le_of_not_lt fun z=>?_);obtain ⟨d,hd⟩:∃ d,l - c=d+1:=⟨l - c - 1,by lia⟩
    have:0 < 2 ^ d:=Nat.pow_pos (by decide);refine hc (decide_eq_true ?_);rw [hd,Nat.pow_succ];lia
   subst cl;rw [Nat.sub_self] at lu hus kn;obtain ⟨t,et⟩:∃ t,us[0]?=some t:=⟨us[0]'(by rw [lu]; decide),List.getElem?_eq_getElem _⟩
   obtain ⟨m0,w0⟩:=kn 0 0 (by decide) (by decide);exact ⟨_,rfl,R,_,0,.ref t,rfl,rfl,SqL.of hR,Ai (j:=0) (by rw [List.getElem?_map,et]; rfl),t,_,0,toV (F 0 0),rfl,rfl,SqL.of (hus 0 t et),Jx (x:=0) (by decide),k _ Gk Hx fr hgk (go.mono (by lia)) m0 (w0.at' (Nat.mul_zero _) (Nat.mul_zero _))⟩
end
end J
namespace J
open PySem L2
seal L2.PA L2.PE L2.PS L2.PSs L2.PT L2.PW
theorem Qj {G:Gv} (ok:GOk G):∀ (l:Nat) {n m:Nat},Aq G n (l:Int)->Aq G m (l:Int)->(∀ x y,x < 2 ^ l->y < 2 ^ l->Ap G l n x y=Ap G l m x y)->n=m
 | 0,n,m,_,_,h=>Int.ofNat.inj (h 0 0 (by decide) (by decide))
 | l+1,n,m,hn,hm,h=>by
  have part:∀ i j,i < 2->j < 2->qO G n (i+2 * j)=qO G m (i+2 * j):=fun i j hi hj=>by
   refine Qj ok l (Gs ok hn (by lia)) (Gs ok hm (by lia)) fun x y hx hy=>?_;rw [<-Ly G l n hx hy hi hj,<-Ly G l m hx hy hi hj];have bi:2 ^ l * i<=2 ^ l * 1:=Nat.mul_le_mul_left _ (by lia);have bj:2 ^ l * j<=2 ^ l * 1:=Nat.mul_le_mul_left _ (by lia);exact h _ _ (by rw [Nat.pow_succ]; lia) (by rw [Nat.pow_succ]; lia)
  obtain ⟨x,y,z,w,e,_⟩:=ok.four hn;obtain ⟨x',y',z',w',e',_⟩:=ok.four hm;obtain ⟨a0,a1,a2,a3⟩:=CM e;obtain ⟨b0,b1,b2,b3⟩:=CM e';have p0:=part 0 0 (by decide) (by decide);have p1:=part 1 0 (by decide) (by decide);have p2:=part 0 1 (by decide) (by decide);have p3:=part 1 1 (by decide) (by decide);have p0:x=x':=a0.symm.trans (p0.trans b0);have p1:y=y':=a1.symm.trans (p1.trans b1);have p2:z=z':=a2.symm.trans (p2.trans b2);have p3:w=w':=a3.symm.trans (p3.trans b3);refine ok.one e e' ?_;rw [p0,p1,p2,p3]
theorem JR.one {r:AM} {G:Gv} {e n k k':Nat} (ok:GOk G) (h:JR r G e n k) (h':JR r G e n k'):k=k':=by
 obtain ⟨l,h1,_,h3,h4⟩:=h;obtain ⟨l',g1,_,g3,g4⟩:=h';have el:l'=l:=by
  have:=g1.one h1;lia
 subst el;exact Qj ok _ h3 g3 fun x y hx hy=>(h4 x y hx hy).trans (g4 x y hx hy).symm
section
variable {a:Ad} {H H':Hp} {g:GA} {G G':Gv} {N M i:Nat} {b1 b2:JB}
theorem FR.c1 {C:Nat} (h:FR a H g G N M b1 b2) (f:FrJ g b1.m H H') (j:JW a H' g G' (N+C) (M+C) b1.p b1.dx b1.mem b1.pr b1.r b1.m) (go:AZ G G' i):FR a H' g G' (N+C) (M+C) b1 b2:=by
 have j1:JW a H g G N M b1.p b1.dx b1.mem b1.pr b1.r b1.m:=h.j1;have j2:JW a H g G N M b2.p b2.dx b2.mem b2.pr b2.r b2.m:=h.j2;exact ⟨j,(j2.oth j1.me h.dj.symm f j.gr go).mono (by lia) (by lia),h.dj,f.mem j1.gr j1.me h.hm h.n1,h.n1,h.n2⟩
theorem FR.c2 {C:Nat} (h:FR a H g G N M b1 b2) (f:FrJ g b2.m H H') (j:JW a H' g G' (N+C) (M+C) b2.p b2.dx b2.mem b2.pr b2.r b2.m) (go:AZ G G' i):FR a H' g G' (N+C) (M+C) b1 b2:=by
 have j1:JW a H g G N M b1.p b1.dx b1.mem b1.pr b1.r b1.m:=h.j1;have j2:JW a H g G N M b2.p b2.dx b2.mem b2.pr b2.r b2.m:=h.j2;exact ⟨(j1.oth j2.me h.dj f j.gr go).mono (by lia) (by lia),j,h.dj,f.mem j1.gr j2.me h.hm h.n2,h.n1,h.n2⟩
theorem FR.mono {N' M':Nat} (h:FR a H g G N M b1 b2) (e1:N<=N') (e2:M<=M'):FR a H g G N' M' b1 b2:=⟨JW.mono h.j1 e1 e2,JW.mono h.j2 e1 e2,h.dj,h.hm,h.n1,h.n2⟩
end
section
variable {P:Program} {w:World} {K:PySem.W.Frag} {mg:Str->Option Value} {base:Heap} {a:Ad}
inductive SpRtG (a:Ad) (vs:List V) (H:Hp) (Q:VK):Prop
 | mk (g:GA) (G:Gv) (k l:Nat) (d:Addr) (_:vs=[.ref g.p,.int (k:Int),.int ((l+1:Nat):Int),.ref d]) (_:AI a H g G) (_:GOk G) (_:Aq G k (l:Int)) (_:l<=3) (_:Fo V.int H d (2 ^ l) (2 ^ l) (Ap G l k)) (_:∀ H',An H H'->Q (.bl true) H'):SpRtG a vs H Q
def Rq (a:Ad):Sp:=fun vs H Q _=>SpRtG a vs H Q
theorem ok_rtG {f:Addr} {fd:FuncData} (F:Fun K "_law_right" "_law_right" DL f fd) (T:Top K mg a) (aU:Cal P w K mg base CX0 1 "_law_same" Em Mx) (aC:BK P w K mg base CX0 3 a.c_Grove "level_of" Bu (LU a)) (dL:Cal P w K mg base CX0 5 "_law_told" EU (OD a)):AU P w K mg base CX0 6 f fd Ey (Rq a):=by
 refine F.ok Dg (fun vs H Q E h=>?_) (fun cdv A outer s H vs Q E hr h=>?_)
 ·obtain ⟨g,G,k',l,d,rfl,_⟩:=h;rfl
 ·obtain ⟨g,G,k',l,d,rfl,hg,ok,lk,l3,⟨us,hd,lu,hus⟩,k⟩:=h;obtain ⟨q,eq,el⟩:=id lk;have e1:((l+1:Nat):Int) - 1=(l:Int):=by lia
  refine ⟨_,(Ae (Ba (Fd (EK (Az aU (rm hr) rfl Ar (Aa (AF (pv 0) aC (rm hr) Ar (Aa (pv 1) Ac)) (Cp Ef (pv 2) Af Ac))))) (Aj (AA Gu)) AE) (Ae (Av (i:=4) Dg.nd rfl (Or.inl rfl) (Az dL (rm hr) rfl Ar (Aa (pv 0) (Aa (pv 1) (Cp Ef (pv 2) Af Ac))))) (Ae (BP PassesOwn.never rfl (OO false false rfl T.b_zip (Aa (pv 4) (Aa (pv 3) Ac))) (FY rfl (BJ (AQ (i:=5) Dg.nd rfl (Or.inl rfl)) (BJ (AQ (i:=6) Dg.nd rfl (Or.inl rfl)) Fl))) (Aj (BP PassesOwn.never rfl (OO false false rfl T.b_zip (Aa (pv 5) (Aa (pv 6) Ac))) (FY rfl (BJ (AQ (i:=7) Dg.nd rfl (Or.inl rfl)) (BJ (AQ (i:=8) Dg.nd rfl (Or.inl rfl)) Fl))) (Aj (Ba (Fd (EK (Az aU (rm hr) rfl Ar (Aa (pv 7) (Aa (pv 8) Ac))))) (Aj (AA Gu)) AE))))) (Aj (AA Gu))))),?_⟩
  try dsimp only [cxK]
  refine ⟨_,rfl,g.p,g.dx,_,rfl,hg.hp,Ga g,_,rfl,g,G,k',q,rfl,hg,eq,_,rfl,_,_,rfl,rfl,(l:Int),(show [V.int q.lev,V.int (((l+1:Nat):Int) - 1)]=[V.int (l:Int),V.int (l:Int)] by rw [el,e1]),true,rfl,Cz ?_⟩;refine ⟨_,rfl,_,rfl,_,rfl,_,_,rfl,rfl,g,G,k',l,(show [V.ref g.p,V.int (k':Int),V.int (((l+1:Nat):Int) - 1)]=[V.ref g.p,V.int (k':Int),V.int (l:Int)] by rw [e1]),hg,ok,lk,by lia,fun b H2 s2 gb=>?_⟩;obtain ⟨ts,hb,lt,hts⟩:=gb;have hd2:=s2 _ _ hd;refine ⟨_,rfl,_,rfl,b,d,rfl,⟨_,SqL.of hb⟩,⟨_,SqL.of hd2⟩,?_⟩;refine Qc (xs:=ts.map V.ref) (ys:=us.map V.ref) (fun i σ Hx=>An H2 Hx/\∃ u5 u6 u7 u8:Option V,σ=[some (.ref g.p),some (.int (k':Int)),some (.int ((l+1:Nat):Int)),some (.ref d),some (.ref b),u5,u6,u7,u8]) ⟨An.refl H2,none,none,none,none,rfl⟩ (fun i σ Hx z=>⟨SqL.of (z.1 _ _ hb),SqL.of (z.1 _ _ hd2)⟩) ?_ ?_
  ·rintro i x y σ Hx T' hx hy ⟨sx,u5,u6,u7,u8,rfl⟩ nT;rw [List.getElem?_map] at hx hy;obtain ⟨t,et,rfl⟩:=Option.map_eq_some_iff.mp hx;obtain ⟨u,eu,rfl⟩:=Option.map_eq_some_iff.mp hy;have s3:An Hx (upd Hx T' (.tup [.ref t,.ref u])):=FK nT;have ht:=s3 _ _ (sx _ _ (hts i t et));have hu:=s3 _ _ (sx _ _ (s2 _ _ (hus i u eu)));refine IE Ab ⟨_,rfl,_,rfl,t,u,rfl,⟨_,SqL.of ht⟩,⟨_,SqL.of hu⟩,?_⟩;refine Qc (xs:=Cm V.int (fun x=>Ap G l k' x i) (2 ^ l)) (ys:=Cm V.int (fun x=>Ap G l k' x i) (2 ^ l)) (fun j σ Hy=>An (upd Hx T' (.tup [.ref t,.ref u])) Hy/\∃ u7 u8:Option V,σ=[some (.ref g.p),some (.int (k':Int)),some (.int ((l+1:Nat):Int)),some (.ref d),some (.ref b),some (.ref t),some (.ref u),u7,u8]) ⟨An.refl _,_,_,rfl⟩ (fun j σ Hy z=>⟨SqL.of (z.1 _ _ ht),SqL.of (z.1 _ _ hu)⟩) ?_ ?_
   ·rintro j x y σ Hy T2 hx hy ⟨sy,u7,u8,rfl⟩ nT2;rw [hx] at hy;cases hy;have j2:j < 2 ^ l:=by have:=(List.getElem?_eq_some_iff.mp hx).1; rw [BA] at this; exact this
    rw [ER j2] at hx;cases hx;exact IE Ab ⟨_,rfl,_,rfl,_,rfl,true,rfl,Cz ⟨sy.trans (FK nT2),_,_,rfl⟩⟩
   ·rintro σ Hy ⟨sy,u7,u8,rfl⟩;exact ⟨(sx.trans s3).trans sy,_,_,_,_,rfl⟩
  ·rintro σ Hx ⟨sx,u5,u6,u7,u8,rfl⟩;exact k Hx (s2.trans sx)
end
end J
namespace J
open PySem L2
seal L2.PA L2.PE L2.PS L2.PSs L2.PT L2.PW
theorem cst_le {l:Nat} (h:l<=2):cst l<=999:=by
 match l,h with
 | 0,_=>decide
 | 1,_=>decide
 | 2,_=>decide
section
variable {P:Program} {w:World} {K:PySem.W.Frag} {mg:Str->Option Value} {base:Heap} {a:Ad}
theorem ok_law {f:Addr} {fd:FuncData} (F:Fun K "law" "law" Gr f fd) (T:Top K mg a) (j3:IK P w K mg base CX0 2 "Grove" a.c_Grove EA (MG a)) (aI:Cal P w K mg base CX0 1 "_law_at" Ft (spAt K)) (aT:Cal P w K mg base CX0 3 "_law_clauses_by" Cq Ry) (bW:Cal P w K mg base CX0 2 "_law_text" EV Ro) (bV:Cal P w K mg base CX0 8 "read_rule" ET (spRR a)) (fU:IK P w K mg base CX0 3 "Jumps" a.c_Jumps Ez (MF a)) (bU:Cal P w K mg base CX0 2 "_law_grid_by" DB (spGb K)) (dM:Cal P w K mg base CX0 5 "_law_knit" EW (OF a)) (aX:BK P w K mg base CX0 20 a.c_Jumps "after" DX (FN a 3)) (cR:Cal P w K mg base CX0 4 "_law_due" Fz OK) (bE:Cal P w K mg base CX0 6 "_law_right" Ey (Rq a)) (aU:Cal P w K mg base CX0 1 "_law_same" Em Mx):AU P w K mg base CX0 30 f fd ["_law_script"] (Pw K):=by
 refine F.ok (ps:=["_law_script"]) Ct (fun vs H Q E h=>?_) (fun cdv A outer s H vs Q E hr h=>?_)
 ·obtain ⟨l,ns,rfl,_⟩:=h;rfl
 ·obtain ⟨l,ns,rfl,hS,hlen,k⟩:=h;refine ⟨_,(Ae (Av (i:=1) Ct.nd rfl (Or.inl rfl) (RP j3 (rm hr) rfl Ar)) (Ae (Av (i:=2) Ct.nd rfl (Or.inl rfl) (Bc (AN (Cp BG Af (AH Ci (Az aI (rm hr) rfl Ar (Aa (pv 0) (AN Ac))) Af) (Cp BG Af (AH Ci (Az aI (rm hr) rfl Ar (Aa (pv 0) (AN Ac))) Af) (Cp Ci (Az aI (rm hr) rfl Ar (Aa (pv 0) (AN Ac))) Af Ac)))))) (Ae (Av (i:=3) Ct.nd rfl (Or.inl rfl) (Az aT (rm hr) rfl Ar (Aa (BT rfl (Bn.of (So:=Ag Gr) (No:=Se) (N:=["_law_k","_law_script"]) (k:=1) (cs:=[0]) rfl rfl (by decide +kernel)) (CN rfl T.b_range (Cp Ci (Az aI (rm hr) rfl Ar (Aa (pv 0) (AN Ac))) Af Ac)) (fun _ _ _=>(AV (i:=0) (by decide +kernel) rfl rfl)) (fun _ _ _=>BH) (fun _ _ _=>(Az aI (rm hr) rfl Ar (Aa (pv 1) (Cp BG Af (pv 0) Ac))))) (Aa (pv 2) Ac)))) (Ae (Av (i:=4) Ct.nd rfl (Or.inl rfl) (AH Ci (AH Fm (Az aI (rm hr) rfl Ar (Aa (pv 0) (AN Ac))) Af) Af)) (Ae (Av (i:=5) Ct.nd rfl (Or.inl rfl) (Az aT (rm hr) rfl Ar (Aa (BT rfl (Bn.of (So:=Ag Gr) (No:=Se) (N:=["_law_k","_law_script"]) (k:=1) (cs:=[0]) rfl rfl (by decide +kernel)) (CN rfl T.b_range (Aa (pv 4) Ac)) (fun _ _ _=>(AV (i:=0) (by decide +kernel) rfl rfl)) (fun _ _ _=>BH) (fun _ _ _=>(AH Fm (Az aI (rm hr) rfl Ar (Aa (pv 1) (Cp BG Af (pv 0) Ac))) Af))) (Aa (pv 2) Ac)))) (Ae (Av (i:=6) Ct.nd rfl (Or.inl rfl) (GR fU (rm hr) rfl Ar (Aa (pv 1) (Aa (Az bV (rm hr) rfl Ar (Aa (Az bW (rm hr) rfl Ar (Aa (pv 3) Ac)) Ac)) Ac)))) (Ae (Av (i:=7) Ct.nd rfl (Or.inl rfl) (GR fU (rm hr) rfl Ar (Aa (pv 1) (Aa (Az bV (rm hr) rfl Ar (Aa (Az bW (rm hr) rfl Ar (Aa (pv 5) Ac)) Ac)) Ac)))) (Ae (Av (i:=8) Ct.nd rfl (Or.inl rfl) Af) (Ae (Av (i:=9) Ct.nd rfl (Or.inl rfl) (Bc (AN (AN Ac)))) (Ae (Ba (AJ FA (AH Ci (AH Fm (Az aI (rm hr) rfl Ar (Aa (pv 0) (AN Ac))) Af) Af) Af (AT _)) (Aj (Av (i:=9) Ct.nd rfl (Or.inl rfl) (Bc (AN (AN Ac))))) AE) (Ae (Ba (AJ FA (AH Ci (AH Fm (Az aI (rm hr) rfl Ar (Aa (pv 0) (AN Ac))) Af) Af) Af (AT _)) (Ae (Av (i:=8) Ct.nd rfl (Or.inl rfl) Af) (Aj (Av (i:=9) Ct.nd rfl (Or.inl rfl) (Bc (Cp Ci (AH Fm (Az aI (rm hr) rfl Ar (Aa (pv 0) (AN Ac))) Af) Af Ac))))) AE) (Ae (Av (i:=10) Ct.nd rfl (Or.inl rfl) (Az bU (rm hr) rfl Ar (Aa (pv 0) (Cp OQ Af (pv 8) (Aa (pv 2) Ac))))) (Ae (Av (i:=11) Ct.nd rfl (Or.inl rfl) (Az dM (rm hr) rfl Ar (Aa (pv 1) (Aa (pv 10) Ac)))) (Ae (Av (i:=12) Ct.nd rfl (Or.inl rfl) (Bc Ac)) (Ae (BP PassesOwn.never rfl (BB (pv 9)) (AQ (i:=13) Ct.nd rfl (Or.inl rfl)) (Ae (Av (i:=14) Ct.nd rfl (Or.inl rfl) (AF (pv 6) aX (rm hr) Ar (Aa (pv 11) (Aa (pv 13) Ac)))) (Ae (Ba (Fd (EK (Az bE (rm hr) rfl Ar (Aa (pv 1) (Aa (pv 14) (Aa (pv 8) (Aa (Az cR (rm hr) rfl Ar (Aa (pv 3) (Aa (pv 10) (Aa (pv 13) Ac)))) Ac))))))) (Aj (AA Gu)) AE) (Ae (Ba (AJ Ji (pv 13) Af (AT _)) (Ae (Av (i:=15) Ct.nd rfl (Or.inl rfl) (AF (pv 7) aX (rm hr) Ar (Aa (pv 11) (Aa (pv 13) Ac)))) (Aj (Ba (Fd (EK (Az bE (rm hr) rfl Ar (Aa (pv 1) (Aa (pv 15) (Aa (pv 8) (Aa (Az cR (rm hr) rfl Ar (Aa (pv 5) (Aa (pv 10) (Aa (pv 13) Ac)))) Ac))))))) (Aj (AA Gu)) AE))) AE) (Aj (BQ (Dw PySem.F.plainAttrs_list PySem.F.slot_list_append PySem.F.type_list_append BN (pv 12) (Cf (Aa (pv 13) (Aa (pv 14) Ac)) Ac)))))))) (Ae (BP PassesOwn.never rfl (BB (pv 12)) (FY rfl (BJ (AQ (i:=13) Ct.nd rfl (Or.inl rfl)) (BJ (AQ (i:=14) Ct.nd rfl (Or.inl rfl)) Fl))) (Aj (Ba (Fd (EK (Az aU (rm hr) rfl Ar (Aa (AF (pv 6) aX (rm hr) Ar (Aa (pv 11) (Aa (pv 13) Ac))) (Aa (pv 14) Ac))))) (Aj (AA Gu)) AE))) (Aj (AA Gu)))))))))))))))))),?_⟩
  try dsimp only [cxK]
  intro x dx nx ndx nex;refine ⟨x,dx,rfl,Ab,fun g H1 gp N=>⟨rfl,?_⟩⟩;have s1:An H H1:=fun b o e=>N.kp b o (by rw [As (Am e nx),As (Am e ndx)]; exact e) (gp ▸ Am e nx);subst gp;have hg1:=N.at';have hbr1:=N.br;have nb:=And.intro N.n1 N.n2;clear N;have hS1:=s1.seq hS;refine ⟨_,rfl,l,ns,0,rfl,hS1,by decide,_,_,rfl,rfl,(by show (0:Int) < 7; decide),_,_,rfl,rfl,_,rfl,l,ns,1,rfl,hS1,by decide,_,_,rfl,rfl,(by show (0:Int) < 7; decide),_,_,rfl,rfl,_,rfl,l,ns,2,rfl,hS1,by decide,_,_,rfl,rfl,(by show (0:Int) < 8; decide),(by show 4<=sizeLine; decide),fun fw hfw=>?_⟩;have s2:An H1 (upd H1 fw (.lst [.int 0,.int (1+atN ns 0 % 7),.int (1+atN ns 1 % 7),.int (atN ns 2 % 8)])):=Ah hfw;have hf2:Nq (upd H1 fw (.lst [.int 0,.int (1+atN ns 0 % 7),.int (1+atN ns 1 % 7),.int (atN ns 2 % 8)])) fw:=⟨_,_,_,_,Ab,⟨by decide,by decide⟩,⟨by lia,by lia⟩,⟨by lia,by lia⟩,⟨by lia,by lia⟩⟩
  show ∃ _,_;generalize upd H1 fw (.lst [.int 0,.int (1+atN ns 0 % 7),.int (1+atN ns 1 % 7),.int (atN ns 2 % 8)])=H2 at s2 hf2 ⊢;have hSa1:SqL K H2 l (ns.map V.int):=s2.seq hS1;obtain ⟨m1,hm1⟩:∃ m:Nat,atN ns 3 % 6=(m:Int):=⟨(atN ns 3 % 6).toNat,by lia⟩
  have ml1:m1 < 6:=by lia
  refine ⟨_,rfl,l,ns,3,rfl,hSa1,by decide,_,_,rfl,rfl,(by show (0:Int) < 6; decide),(m1:Int),congrArg (fun z=>[V.int z]) hm1,by lia,by lia,?_⟩;rw [Int.toNat_natCast];refine GX (n:=m1) (fun i acc Hx=>H2=Hx/\∃ ys:List Int,acc=ys.map V.int/\ys.length=i) ⟨rfl,[],rfl,rfl⟩ ?_ ?_
  ·rintro i acc Hx hi ⟨rfl,ys,rfl,ln⟩;refine ⟨⟨[some (.int (0+(i:Int)))],rfl,rfl⟩,?_,FH ⟨_,rfl,_,rfl,_,_,rfl,rfl,l,ns,_,rfl,hSa1,by lia,rfl,ys ++ [_],by rw [List.map_append]; rfl,by rw [List.length_append,ln]; rfl⟩⟩;rw [List.length_map,ln];exact Nat.lt_of_lt_of_le hi (Nat.le_trans (Nat.le_of_lt ml1) (by decide))
  rintro acc Hx ⟨rfl,ys1,rfl,ln1⟩ CL1 hCL1;refine ⟨_,rfl,CL1,fw,ys1,rfl,Ab,by lia,hf2.same (Ah hCL1),fun q1 r1 H3 s3 hq1 ok1 z1=>?_⟩;have s3:An H2 H3:=(show An H2 _ from Ah hCL1).trans s3;have hf3:=hf2.same s3;have hSa2:SqL K H3 l (ns.map V.int):=s3.seq hSa1;obtain ⟨m2,hm2⟩:∃ m:Nat,atN ns 3 / 6 % 6=(m:Int):=⟨(atN ns 3 / 6 % 6).toNat,by lia⟩
  have ml2:m2 < 6:=by lia
  refine ⟨_,rfl,l,ns,3,rfl,hSa2,by decide,_,_,rfl,rfl,⟨by decide,by decide⟩,_,_,rfl,rfl,(by show (0:Int) < 6; decide),?_⟩;refine ⟨_,rfl,(m2:Int),congrArg (fun z=>[V.int z]) hm2,by lia,by lia,?_⟩;rw [Int.toNat_natCast];refine GX (n:=m2) (fun i acc Hx=>H3=Hx/\∃ ys:List Int,acc=ys.map V.int/\ys.length=i) ⟨rfl,[],rfl,rfl⟩ ?_ ?_
  ·rintro i acc Hx hi ⟨rfl,ys,rfl,ln⟩;refine ⟨⟨[some (.int (0+(i:Int)))],rfl,rfl⟩,?_,FH ⟨_,rfl,_,rfl,_,_,rfl,rfl,l,ns,_,rfl,hSa2,by lia,_,_,rfl,rfl,⟨by decide,by decide⟩,rfl,ys ++ [_],by rw [List.map_append]; rfl,by rw [List.length_append,ln]; rfl⟩⟩;rw [List.length_map,ln];exact Nat.lt_of_lt_of_le hi (Nat.le_trans (Nat.le_of_lt ml2) (by decide))
  rintro acc Hx ⟨rfl,ys2,rfl,ln2⟩ CL2 hCL2;refine ⟨_,rfl,CL2,fw,ys2,rfl,Ab,by lia,hf3.same (Ah hCL2),fun q2 r2 H4 s4 hq2 ok2 z2=>?_⟩;have s4:An H3 H4:=(show An H3 _ from Ah hCL2).trans s4;have hf4:=hf3.same s4;have bs0:Bs G0:=Nf;have s04:=((s1.trans s2).trans s3).trans s4;have s14:=(s2.trans s3).trans s4;have hg4:=hg1.same s14;have hbr4:=s14 _ _ hbr1;have hq14:=hq1.same s4;refine ⟨_,rfl,_,rfl,q1,r1,rfl,hq14,ok1,fun Ht1 st1=>⟨r1.map LC4.a,rfl,ok1.t,z1,fun pr1 Ha1 sa1 hR1=>?_⟩⟩;have sp1:=st1.trans sa1;have hga1:=hg4.same sp1;have hbra1:=sp1 _ _ hbr4;intro p1 dx1 np1 ndx1 nex1;have nq1:upd Ha1 dx1 (.own p1) p1=none:=by rw [As (Ne.symm nex1)]; exact np1
  have sj1:An Ha1 (upd (upd Ha1 dx1 (.own p1)) p1 (.ins a.c_Jumps dx1 [])):=(show An Ha1 _ from Ah ndx1).trans (Ah nq1);refine ⟨p1,dx1,g.p,pr1,Ek (r1.map LC4.a),r1.map LC4.a,rfl,Ab,hR1.same sj1,fun Hb mem1 m1' fr1 nm1 hp1 hmm1 fre1 htp1 hl1 hkc1 hds1 len1 nd1 nmd1=>⟨rfl,?_⟩⟩;have sk1:An Ha1 Hb:=fun b o e=>fr1 b o (sj1 b o e) (Am e np1);have mn1:∀ {y:Addr},upd (upd Ha1 dx1 (.own p1)) p1 (.ins a.c_Jumps dx1 []) y=none->Ha1 y=none:=fun {y} e=>An.noneN sj1 e;have hw1:Fi Hb g G0 0 0 (r1.map LC4.a) m1':=Fi.new hga1 (mn1 fre1.2.1) (mn1 fre1.2.2.1) htp1 hl1 hkc1 hds1 len1 nd1;have hgb:=hga1.same sk1;have hbrb:=sk1 _ _ hbra1;have s4b:=sp1.trans sk1;have jw1:JW a Hb g G0 0 0 p1 dx1 mem1 pr1 (r1.map LC4.a) m1':=⟨hgb,g0_ok,bs0,hbrb,nb,hp1,hR1.same sk1,ok1.t,z1,hw1⟩
  have hq1b:=hq14.same s4b;have hq2b:=hq2.same s4b;have hfb:=hf4.same s4b;have s0b:=s04.trans s4b;refine ⟨_,rfl,_,rfl,q2,r2,rfl,hq2b,ok2,fun Ht2 st2=>⟨r2.map LC4.a,rfl,ok2.t,z2,fun pr2 Ha2 sa2 hR2=>?_⟩⟩;have sp2:=st2.trans sa2;have hga2:=hgb.same sp2;have hbra2:=sp2 _ _ hbrb;intro p2 dx2 np2 ndx2 nex2;have nq2:upd Ha2 dx2 (.own p2) p2=none:=by rw [As (Ne.symm nex2)]; exact np2
  have sj2:An Ha2 (upd (upd Ha2 dx2 (.own p2)) p2 (.ins a.c_Jumps dx2 [])):=(show An Ha2 _ from Ah ndx2).trans (Ah nq2);refine ⟨p2,dx2,g.p,pr2,Ek (r2.map LC4.a),r2.map LC4.a,rfl,Ab,hR2.same sj2,fun H8 mem2 m2' fr2 nm2 hp2 hmm2 fre2 htp2 hl2 hkc2 hds2 len2 nd2 nmd2=>⟨rfl,?_⟩⟩;have sk2:An Ha2 H8:=fun b o e=>fr2 b o (sj2 b o e) (Am e np2);have mn2:∀ {y:Addr},upd (upd Ha2 dx2 (.own p2)) p2 (.ins a.c_Jumps dx2 []) y=none->Ha2 y=none:=fun {y} e=>An.noneN sj2 e;have hw2:Fi H8 g G0 0 0 (r2.map LC4.a) m2':=Fi.new hga2 (mn2 fre2.2.1) (mn2 fre2.2.2.1) htp2 hl2 hkc2 hds2 len2 nd2;have hg8:=hga2.same sk2;have hbr8:=sk2 _ _ hbra2;have sb8:=sp2.trans sk2;have jw2:JW a H8 g G0 0 0 p2 dx2 mem2 pr2 (r2.map LC4.a) m2':=⟨hg8,g0_ok,bs0,hbr8,nb,hp2,hR2.same sk2,ok2.t,z2,hw2⟩
  have hq18:=hq1b.same sb8;have hq28:=hq2b.same sb8;have hf8:=hfb.same sb8;have s08:=s0b.trans sb8;have jw18:=jw1.same sb8;have tw8:FR a H8 g G0 0 0 ⟨p1,dx1,mem1,pr1,r1,m1'⟩ ⟨p2,dx2,mem2,pr2,r2,m2'⟩:=by
   refine ⟨jw18,jw2,⟨?_,fun d hd z=>?_⟩,sb8 _ _ hmm1,fun z=>nmd1 _ z rfl,fun z=>?_⟩
   ·exact Am (sp2 _ _ hkc1) (mn2 fre2.2.2.1)
   ·have e:=mn2 (fre2.2.2.2 d z);rw [sp2 _ _ (hds1 d hd)] at e;cases e
   ·have e:=mn2 (fre2.2.2.2 _ z);rw [sp2 _ _ hmm1] at e;cases e
  have jl1:H8 m1'.l=some (.lst (m1'.ds.map V.ref)):=sb8 _ _ hl1;have jl2:=hl2;clear jw1 jw18 jw2 hw1 hw2 hp1 hp2 hR1 hR2 hq1 hq2 hq14 hq1b hq2b hf2 hf3 hf4 hfb hga1 hga2 hgb hg4 hg1 hbra1 hbra2 hbrb hbr4 hbr1 hmm1 hmm2 htp1 htp2 hkc1 hkc2 hds1 hds2 mn1 mn2 fr1 fr2 fre1 fre2 sj1 sj2 nmd1 nmd2 nd1 nd2 len1 len2;have hS8:=s08.seq hS;refine ⟨(by show 2<=sizeLine; decide),fun ST0 hST0=>?_⟩;have s9:An H8 (upd H8 ST0 (.lst ([0,1].map toV))):=Ah hST0;have h9:upd H8 ST0 (.lst ([0,1].map toV)) ST0=some (.lst ([0,1].map toV)):=Ab;show ∃ _,_;generalize hH9:upd H8 ST0 (.lst ([0,1].map toV))=H9 at s9 h9;have hH9':upd H8 ST0 (.lst [V.int 0,V.int 1])=H9:=hH9;rw [hH9'];apply IC (fun σ Hx=>∃ (ST:Addr) (es:List Nat),σ=[some (.ref l),some (.ref g.p),some (.ref fw),some (.ref q1),some (.int (atN ns 3 / 6 % 6)),some (.ref q2),some (.ref p1),some (.ref p2),some (.int 3),some (.ref ST),none,none,none,none,none,none]/\An H8 Hx/\Hx ST=some (.lst (es.map toV))/\es.length<=2/\∀ e ∈ es,e<=1)
  ·intro rest;refine ⟨_,rfl,l,ns,4,rfl,s9.seq hS8,by decide,_,_,rfl,rfl,⟨by decide,by decide⟩,_,_,rfl,rfl,(by show (0:Int) < 2; decide),rfl,_,rfl,?_⟩;refine Jd (fun _=>?_) (fun _=>rest _ _ ⟨ST0,[0,1],rfl,s9,h9,by decide,by decide⟩);refine ⟨(by show 2<=sizeLine; decide),fun ST1 hST1=>?_⟩;exact rest _ _ ⟨ST1,[1,0],rfl,s9.trans (Ah hST1),Ab,by decide,by decide⟩
  rintro σ Ha ⟨STa,esa,rfl,sa8,hSTa,lea,alla⟩;apply IC (fun σ Hx=>∃ (lv:Nat) (ST:Addr) (es:List Nat),σ=[some (.ref l),some (.ref g.p),some (.ref fw),some (.ref q1),some (.int (atN ns 3 / 6 % 6)),some (.ref q2),some (.ref p1),some (.ref p2),some (.int ((lv+2:Nat):Int)),some (.ref ST),none,none,none,none,none,none]/\An H8 Hx/\Hx ST=some (.lst (es.map toV))/\es.length<=2/\lv<=2/\∀ e ∈ es,e<=lv)
  ·intro rest;refine ⟨_,rfl,l,ns,4,rfl,sa8.seq hS8,by decide,_,_,rfl,rfl,⟨by decide,by decide⟩,_,_,rfl,rfl,(by show (0:Int) < 6; decide),rfl,_,rfl,?_⟩;refine Jd (fun _=>?_) (fun _=>rest _ _ ⟨1,STa,esa,rfl,sa8,hSTa,lea,by decide,alla⟩);refine ⟨_,rfl,l,ns,4,rfl,sa8.seq hS8,by decide,_,_,rfl,rfl,⟨by decide,by decide⟩,_,_,rfl,rfl,(by show (0:Int) < 3; decide),(by show 1<=sizeLine; decide),fun ST1 hST1=>?_⟩;obtain ⟨e0,he0⟩:∃ e:Nat,atN ns 4 / 48 % 3=(e:Int):=⟨(atN ns 4 / 48 % 3).toNat,by lia⟩
   have e03:e0<=2:=by lia
   refine rest _ _ ⟨2,ST1,[e0],rfl,sa8.trans (Ah hST1),?_,(by show 1<=2; decide),by decide,fun e he=>by rw [List.mem_singleton.mp he]; exact e03⟩;rw [Ab];exact congrArg (fun z=>some (HO.lst [V.int z])) he0
  rintro σ Hc ⟨lv,ST,es,rfl,sc8,hSTc,les,lv2,alle⟩;clear hSTa alla lea sa8 h9 s9 hH9 hH9';have w16:2 ^ (lv+2)<=16:=Nat.pow_le_pow_right (show 0 < 2 by decide) (show lv+2<=4 by lia);have sh:(1:Int) * 2 ^ (((lv+2:Nat):Int)).toNat=((2 ^ (lv+2):Nat):Int):=by rw [Int.one_mul,Int.toNat_natCast,ON]
  refine ⟨_,rfl,_,rfl,_,_,rfl,rfl,⟨by lia,by lia,by decide⟩,_,rfl,l,fw,ns,2 ^ (lv+2),(show [V.ref l,V.int (1 * 2 ^ (((lv+2:Nat):Int)).toNat),V.ref fw]=[V.ref l,V.int ((2 ^ (lv+2):Nat):Int),V.ref fw] by rw [sh]),sc8.seq hS8,w16,hf8.same sc8,fun GQ ff Hd sd gr sts=>?_⟩;have s8d:=sc8.trans sd;have twd:=tw8.same s8d;have jd:JW a Hd g G0 0 0 p1 dx1 mem1 pr1 (r1.map LC4.a) m1':=twd.j1;refine ⟨_,rfl,_,rfl,g,G0,GQ,lv+2,ff,rfl,jd.gr,jd.ok,jd.bs.long,gr,sts,by lia,by rw [Ph]; decide,fun n G1 He fre hge goe len vwn=>?_⟩;have kde:=fre.kps jd.gr jd.bs.long;have twe:=twd.fr fre hge goe;have gfe:=goe.few;rw [Ph] at gfe;have gre:=gr.kps kde (by lia) (by lia);have hSTe:=kde _ _ (sd _ _ hSTc) (.lst (by rw [List.length_map]; lia));have hq1e:=(hq18.same s8d).kps kde ok1;have hq2e:=(hq28.same s8d).kps kde ok2;refine ⟨(by show 0<=sizeLine; decide),fun RL hRL=>?_⟩;have je:JW a He g G1 0 0 p1 dx1 mem1 pr1 (r1.map LC4.a) m1':=twe.j1;obtain ⟨tse,hpte,_⟩:=je.gr.pt;have je2:JW a He g G1 0 0 p2 dx2 mem2 pr2 (r2.map LC4.a) m2':=twe.j2;have rn1:RL≠g.lv:=Ne.symm (Am je.gr.lv hRL);have rn2:RL≠g.pt:=Ne.symm (Am hpte hRL);have rn3:RL≠g.br:=Ne.symm (Am je.br hRL);have rn4:RL≠m1'.l:=Ne.symm (Am je.me.l hRL);have rn5:RL≠m2'.l:=Ne.symm (Am je2.me.l hRL);have sf:An He (upd He RL (.lst [])):=Ah hRL;have hRf:upd He RL (.lst []) RL=some (.lst []):=Ab;generalize upd He RL (.lst [])=Hf at sf hRf ⊢;have twf:=twe.same sf;have c999:=cst_le lv2;refine ⟨_,rfl,ST,rfl,⟨_,SqL.of (sf _ _ hSTe)⟩,?_⟩;refine EB (xs:=es.map toV) (fun i σ Hy=>∃ (G:Gv) (rts:List Addr) (rws:List (Nat×Nat)) (u13 u14 u15:Option V),σ=[some (.ref l),some (.ref g.p),some (.ref fw),some (.ref q1),some (.int (atN ns 3 / 6 % 6)),some (.ref q2),some (.ref p1),some (.ref p2),some (.int ((lv+2:Nat):Int)),some (.ref ST),some (.ref GQ),some (.int (n:Int)),some (.ref RL),u13,u14,u15]/\FR a Hy g G (2000 * i) (2000 * i) ⟨p1,dx1,mem1,pr1,r1,m1'⟩ ⟨p2,dx2,mem2,pr2,r2,m2'⟩/\KpS He Hy/\AZ G1 G (2000 * i)/\Hy RL=some (.lst (rts.map V.ref))/\rts.length=i/\Paired (fun t r=>Hy t=some (.tup [toV r.1,toV r.2])/\r.1<=lv/\JR (r1.map LC4.a) G r.1 n r.2) rts rws) ⟨G1,[],[],_,_,_,rfl,twf,An.kps sf,AZ.refl je.ok,hRf,rfl,.nil⟩ (fun i σ Hy _ z=>by obtain ⟨_,_,_,_,_,_,_,_,z,_⟩:=z; exact SqL.of (z _ _ hSTe (.lst (by rw [List.length_map]; lia)))) ?_ ?_
  ·rintro i v σ Hy ev ⟨G,rts,rws,u13,u14,u15,rfl,tw,ky,go,hRy,lr,prr⟩;rw [List.getElem?_map] at ev;obtain ⟨e,ee,rfl⟩:=Option.map_eq_some_iff.mp ev;have i2:i < 2:=Nat.lt_of_lt_of_le (List.getElem?_eq_some_iff.mp ee).1 les;have he:e<=lv:=alle e (List.mem_of_getElem? ee);have gof:=go.few;have j1:JW a Hy g G (2000 * i) (2000 * i) p1 dx1 mem1 pr1 (r1.map LC4.a) m1':=tw.j1;refine ⟨_,rfl,p1,dx1,_,rfl,j1.hp,IR _ _ _ _ _,_,rfl,_,rfl,p1,dx1,mem1,pr1,g,G,_,_,r1.map LC4.a,m1',n,lv,e,rfl,j1,go.lev len,by lia,he,by lia,by lia,by lia,fun k1 G2 Hk1 frk1 jk1 gok1 jrk1=>?_⟩;have gfk1:=gok1.few;have ksk1:=frk1.kps j1.gr j1.bs.long j1.me;have kkk1:=ky.trans ksk1;have ggk1:=go.trans gok1;obtain ⟨lkk1,_,vkk1⟩:=jrk1.view (ggk1.lev len) (vwn.goes je.ok ggk1 len);refine ⟨_,rfl,_,rfl,_,rfl,_,rfl,_,rfl,_,rfl,q1,GQ,r1,lv,e,ff,rfl,hq1e.kps kkk1 ok1,ok1,(by have:=gre.kps kkk1 (by lia) (by lia); rw [show 4 * 2 ^ lv=2 ^ (lv+2) by rw [Nat.pow_succ,Nat.pow_succ]; lia]; exact this),he,lv2,fun dk1 Dk1 sdk1 gdk1=>?_⟩;have gdk1':Fo V.int Dk1 dk1 (2 ^ (lv+1)) (2 ^ (lv+1)) (Ap G2 (lv+1) k1):=by
    rw [show 2 * 2 ^ lv=2 ^ (lv+1) by rw [Nat.pow_succ]; lia] at gdk1;refine gdk1.congr fun x y hx hy=>?_;rw [vkk1 x y hx hy,Nat.zero_add]
   refine ⟨g,G2,k1,lv+1,dk1,rfl,jk1.gr.same sdk1,jk1.ok,lkk1,by lia,gdk1',fun Ek1 sek1=>⟨true,rfl,Cz ?_⟩⟩;have stk1:=sdk1.trans sek1;have tw1:=(tw.c1 frk1 jk1 gok1).same stk1;have kq1:=kkk1.trans (An.kps stk1);have hR1:Ek1 RL=_:=stk1 _ _ (ksk1 _ _ hRy (.lst (by rw [List.length_map]; lia)));have prr1:Paired (fun t r=>Ek1 t=some (.tup [toV r.1,toV r.2])/\r.1<=lv/\JR (r1.map LC4.a) G2 r.1 n r.2) rts rws:=Paired.imp (fun t r z=>⟨stk1 _ _ (ksk1 _ _ z.1 (.inl .tup)),z.2.1,z.2.2.goes j1.ok gok1⟩) prr;apply IC (fun σ Hx=>∃ (G3:Gv) (u15:Option V),σ=[some (.ref l),some (.ref g.p),some (.ref fw),some (.ref q1),some (.int (atN ns 3 / 6 % 6)),some (.ref q2),some (.ref p1),some (.ref p2),some (.int ((lv+2:Nat):Int)),some (.ref ST),some (.ref GQ),some (.int (n:Int)),some (.ref RL),some (toV e),some (.int (k1:Int)),u15]/\FR a Hx g G3 (2000 * i+cst lv+cst lv) (2000 * i+cst lv+cst lv) ⟨p1,dx1,mem1,pr1,r1,m1'⟩ ⟨p2,dx2,mem2,pr2,r2,m2'⟩/\KpS Ek1 Hx/\AZ G2 G3 (cst lv))
   ·intro rest;refine ⟨_,rfl,_,_,rfl,rfl,_,rfl,?_⟩;refine Jd (fun _=>?_) (fun _=>rest _ _ ⟨G2,_,rfl,tw1.mono (by lia) (by lia),KpS.refl _,(AZ.refl jk1.ok).mono (by lia)⟩);have j2:JW a Ek1 g G2 (2000 * i+cst lv) (2000 * i+cst lv) p2 dx2 mem2 pr2 (r2.map LC4.a) m2':=tw1.j2;refine ⟨_,rfl,p2,dx2,_,rfl,j2.hp,IR _ _ _ _ _,_,rfl,_,rfl,p2,dx2,mem2,pr2,g,G2,_,_,r2.map LC4.a,m2',n,lv,e,rfl,j2,ggk1.lev len,by lia,he,by lia,by lia,by lia,fun k2 G3 Hk2 frk2 jk2 gok2 jrk2=>?_⟩;have gfk2:=gok2.few;have ksk2:=frk2.kps j2.gr j2.bs.long j2.me;have kkk2:=kq1.trans ksk2;have ggk2:=ggk1.trans gok2;obtain ⟨lkk2,_,vkk2⟩:=jrk2.view (ggk2.lev len) (vwn.goes je.ok ggk2 len);refine ⟨_,rfl,_,rfl,_,rfl,_,rfl,_,rfl,_,rfl,q2,GQ,r2,lv,e,ff,rfl,hq2e.kps kkk2 ok2,ok2,(by have:=gre.kps kkk2 (by lia) (by lia); rw [show 4 * 2 ^ lv=2 ^ (lv+2) by rw [Nat.pow_succ,Nat.pow_succ]; lia]; exact this),he,lv2,fun dk2 Dk2 sdk2 gdk2=>?_⟩;have gdk2':Fo V.int Dk2 dk2 (2 ^ (lv+1)) (2 ^ (lv+1)) (Ap G3 (lv+1) k2):=by
     rw [show 2 * 2 ^ lv=2 ^ (lv+1) by rw [Nat.pow_succ]; lia] at gdk2;refine gdk2.congr fun x y hx hy=>?_;rw [vkk2 x y hx hy,Nat.zero_add]
    refine ⟨g,G3,k2,lv+1,dk2,rfl,jk2.gr.same sdk2,jk2.ok,lkk2,by lia,gdk2',fun Ek2 sek2=>⟨true,rfl,Cz ?_⟩⟩;have stk2:=sdk2.trans sek2;exact rest _ _ ⟨G3,_,rfl,(tw1.c2 frk2 jk2 gok2).same stk2,ksk2.trans (An.kps stk2),gok2⟩
   rintro σ Hx ⟨G3,u15,rfl,tw3,k3,go3⟩;have gf3:=go3.few;have hR3:=k3 _ _ hR1 (.lst (by rw [List.length_map]; lia));refine ⟨_,rfl,.inl ⟨rfl,_,SqL.of hR3⟩,_,rfl,_,rfl,(by show 2<=sizeLine; decide),fun t ht=>⟨RL,_,_,rfl,rfl,Ah ht _ _ hR3,by rw [List.length_map]; exact Nat.lt_of_le_of_lt (show rts.length<=10 by lia) (by decide),?_⟩⟩;have st:An Hx (upd Hx t (.tup [toV e,toV k1])):=Ah ht;have ht2:upd Hx t (.tup [toV e,toV k1]) t=some (.tup [toV e,toV k1]):=Ab;have hrt:=st _ _ hR3;show ∃ _,_;generalize hHt:upd Hx t (.tup [toV e,toV k1])=Ht at st ht2 hrt;have hHt':upd Hx t (.tup [toV e,V.int (k1:Int)])=Ht:=hHt;rw [hHt'];have up:∀ {b:Addr} {o:HO},Ht b=some o->b≠RL->upd Ht RL (.lst (rts.map V.ref ++ [.ref t])) b=some o:=fun {b o} e n=>by rw [As n]; exact e
   have tup:∀ {b:Addr} {xs:List V},Ht b=some (.tup xs)->upd Ht RL (.lst (rts.map V.ref ++ [.ref t])) b=some (.tup xs):=fun {b xs} e=>up e (AC e hrt (by intro z; cases z));have ok3:GOk G3:=JW.ok tw3.j1;refine ⟨G3,rts ++ [t],rws ++ [(e,k1)],_,_,_,rfl,((tw3.same st).putL hrt rn1 rn2 rn3 rn4 rn5).mono (by lia) (by lia),fun b o e s=>up (st _ _ (k3 _ _ (kq1 _ _ e s) s)) (Am e hRL),((go.trans gok1).trans go3).mono (by lia),by rw [Ab,List.map_append]; rfl,by rw [List.length_append,lr]; rfl,Paired.snoc (Paired.imp (fun t r z=>⟨tup (st _ _ (k3 _ _ z.1 (.inl .tup))),z.2.1,z.2.2.goes gok1.ok go3⟩) prr1) ⟨tup ht2,he,jrk1.goes gok1.ok go3⟩⟩
  rintro σ Hy ⟨G,rts,rws,u13,u14,u15,rfl,tw,ky,go,hRy,lr,prr⟩;rw [List.length_map] at tw go lr;have gof:=go.few;have l2000:2000 * es.length<=4000:=by lia
  refine ⟨_,rfl,RL,rfl,⟨_,SqL.of hRy⟩,?_⟩;refine EB (xs:=rts.map V.ref) (fun i σ Hz=>∃ (G2:Gv) (N M:Nat) (u13 u14:Option V),σ=[some (.ref l),some (.ref g.p),some (.ref fw),some (.ref q1),some (.int (atN ns 3 / 6 % 6)),some (.ref q2),some (.ref p1),some (.ref p2),some (.int ((lv+2:Nat):Int)),some (.ref ST),some (.ref GQ),some (.int (n:Int)),some (.ref RL),u13,u14,u15]/\JW a Hz g G2 N M p1 dx1 mem1 pr1 (r1.map LC4.a) m1'/\N<=4000+999 * i/\M<=4000+999 * i/\AZ G G2 (999 * i)/\KpS Hy Hz) ⟨G,_,_,_,_,rfl,tw.j1,by lia,by lia,AZ.refl (JW.ok tw.j1),KpS.refl Hy⟩ (fun i σ Hz _ z=>by obtain ⟨_,_,_,_,_,_,_,_,_,_,z⟩:=z; exact SqL.of (z _ _ hRy (.lst (by rw [List.length_map]; lia)))) ?_ ?_
  ·rintro i v σ Hz ev ⟨G2,N,M,u13,u14,rfl,jz,lN,lM,goz,kz⟩;rw [List.getElem?_map] at ev;obtain ⟨t,et,rfl⟩:=Option.map_eq_some_iff.mp ev;have i2:i < 2:=by have:=(List.getElem?_eq_some_iff.mp et).1; lia
   obtain ⟨⟨e,k1⟩,er,ht,he,jr⟩:=Paired.get prr et;have ht:Hy t=some (.tup [toV e,toV k1]):=ht;have he:e<=lv:=he;have jr:JR (r1.map LC4.a) G e n k1:=jr;have gzf:=goz.few;refine IE (kz _ _ ht (.inl .tup)) ?_;refine ⟨_,rfl,p1,dx1,_,rfl,jz.hp,IR _ _ _ _ _,_,rfl,_,rfl,p1,dx1,mem1,pr1,g,G2,N,M,r1.map LC4.a,m1',n,lv,e,rfl,jz,goz.lev (go.lev len),by lia,he,by lia,by lia,by lia,fun k2 G3 Hk2 frk2 jk2 gok2 jrk2=>?_⟩;have ek:k2=k1:=JR.one gok2.ok jrk2 (jr.goes (JW.ok tw.j1) (goz.trans gok2));subst ek;exact ⟨_,rfl,(k2:Int),rfl,true,rfl,Cz ⟨G3,_,_,_,_,rfl,jk2,by lia,by lia,(goz.trans gok2).mono (by lia),kz.trans (frk2.kps jz.gr jz.bs.long jz.me)⟩⟩
  ·rintro σ Hz ⟨G2,N,M,u13,u14,rfl,_⟩;exact k _
end
end J
namespace J
open PySem L2
theorem ar1 {α:Type}:∀ us:List α,us.length=1->∃ a0,us=[a0]
 | [a0],_=>⟨a0,rfl⟩
theorem ar2 {α:Type}:∀ us:List α,us.length=2->∃ a0 a1,us=[a0,a1]
 | [a0,a1],_=>⟨a0,a1,rfl⟩
theorem ar3 {α:Type}:∀ us:List α,us.length=3->∃ a0 a1 a2,us=[a0,a1,a2]
 | [a0,a1,a2],_=>⟨a0,a1,a2,rfl⟩
theorem ar4 {α:Type}:∀ us:List α,us.length=4->∃ a0 a1 a2 a3,us=[a0,a1,a2,a3]
 | [a0,a1,a2,a3],_=>⟨a0,a1,a2,a3,rfl⟩
theorem ar5 {α:Type}:∀ us:List α,us.length=5->∃ a0 a1 a2 a3 a4,us=[a0,a1,a2,a3,a4]
 | [a0,a1,a2,a3,a4],_=>⟨a0,a1,a2,a3,a4,rfl⟩
theorem fin {l:PySem.W.OpenLaw} {w:World} {K:PySem.W.Frag} {h:Heap} {mg:Str->Option Value} {fa:Addr} (X:K.In h) (G:h.Ns mainGlobals mg) (hfa:mg "law" = some (.ref fa))
  {c_Amounts:Addr} {c_Places:Addr} {c_Clause:Addr} {c_Grove:Addr} {c_Rule:Addr} {c_Jumps:Addr} {f0:Addr} {od0 an0:Option Addr} {sl0:Array (Option Value)} {oc0 kV0 dc0 pm0 cd0 ct0:Value} {f1:Addr} {od1 an1:Option Addr} {sl1:Array (Option Value)} {oc1 kV1 dc1 pm1 cd1 ct1:Value} {f2:Addr} {od2 an2:Option Addr} {sl2:Array (Option Value)} {oc2 kV2 dc2 pm2 cd2 ct2:Value} {f3:Addr} {od3 an3:Option Addr} {sl3:Array (Option Value)} {oc3 kV3 dc3 pm3 cd3 ct3:Value} {f4:Addr} {od4 an4:Option Addr} {sl4:Array (Option Value)} {oc4 kV4 dc4 pm4 cd4 ct4:Value} {f5:Addr} {od5 an5:Option Addr} {sl5:Array (Option Value)} {oc5 kV5 dc5 pm5 cd5 ct5:Value} {f6:Addr} {od6 an6:Option Addr} {sl6:Array (Option Value)} {oc6 kV6 dc6 pm6 cd6 ct6:Value} {f7:Addr} {od7 an7:Option Addr} {sl7:Array (Option Value)} {oc7 kV7 dc7 pm7 cd7 ct7:Value} {f8:Addr} {od8 an8:Option Addr} {sl8:Array (Option Value)} {oc8 kV8 dc8 pm8 cd8 ct8:Value} {f9:Addr} {od9 an9:Option Addr} {sl9:Array (Option Value)} {oc9 kV9 dc9 pm9 cd9 ct9:Value} {f10:Addr} {od10 an10:Option Addr} {sl10:Array (Option Value)} {oc10 kV10 dc10 pm10 cd10 ct10:Value} {f11:Addr} {od11 an11:Option Addr} {sl11:Array (Option Value)} {oc11 kV11 dc11 pm11 cd11 ct11:Value} {f12:Addr} {od12 an12:Option Addr} {sl12:Array (Option Value)} {oc12 kV12 dc12 pm12 cd12 ct12:Value} {f13:Addr} {od13 an13:Option Addr} {sl13:Array (Option Value)} {oc13 kV13 dc13 pm13 cd13 ct13:Value} {f14:Addr} {od14 an14:Option Addr} {sl14:Array (Option Value)} {oc14 kV14 dc14 pm14 cd14 ct14:Value} {f15:Addr} {od15 an15:Option Addr} {sl15:Array (Option Value)} {oc15 kV15 dc15 pm15 cd15 ct15:Value} {f16:Addr} {od16 an16:Option Addr} {sl16:Array (Option Value)} {oc16 kV16 dc16 pm16 cd16 ct16:Value} {f17:Addr} {od17 an17:Option Addr} {sl17:Array (Option Value)} {oc17 kV17 dc17 pm17 cd17 ct17:Value} {f18:Addr} {od18 an18:Option Addr} {sl18:Array (Option Value)} {oc18 kV18 dc18 pm18 cd18 ct18:Value} {f19:Addr} {od19 an19:Option Addr} {sl19:Array (Option Value)} {oc19 kV19 dc19 pm19 cd19 ct19:Value} {f20:Addr} {od20 an20:Option Addr} {sl20:Array (Option Value)} {oc20 kV20 dc20 pm20 cd20 ct20:Value} {f21:Addr} {od21 an21:Option Addr} {sl21:Array (Option Value)} {oc21 kV21 dc21 pm21 cd21 ct21:Value} {f22:Addr} {od22 an22:Option Addr} {sl22:Array (Option Value)} {oc22 kV22 dc22 pm22 cd22 ct22:Value} {f23:Addr} {od23 an23:Option Addr} {sl23:Array (Option Value)} {oc23 kV23 dc23 pm23 cd23 ct23:Value} {f24:Addr} {od24 an24:Option Addr} {sl24:Array (Option Value)} {oc24 kV24 dc24 pm24 cd24 ct24:Value} {f25:Addr} {od25 an25:Option Addr} {sl25:Array (Option Value)} {oc25 kV25 dc25 pm25 cd25 ct25:Value} {f26:Addr} {od26 an26:Option Addr} {sl26:Array (Option Value)} {oc26 kV26 dc26 pm26 cd26 ct26:Value} {f27:Addr} {od27 an27:Option Addr} {sl27:Array (Option Value)} {oc27 kV27 dc27 pm27 cd27 ct27:Value} {f28:Addr} {od28 an28:Option Addr} {sl28:Array (Option Value)} {oc28 kV28 dc28 pm28 cd28 ct28:Value} {f29:Addr} {od29 an29:Option Addr} {sl29:Array (Option Value)} {oc29 kV29 dc29 pm29 cd29 ct29:Value} {f30:Addr} {od30 an30:Option Addr} {sl30:Array (Option Value)} {oc30 kV30 dc30 pm30 cd30 ct30:Value} {f31:Addr} {od31 an31:Option Addr} {sl31:Array (Option Value)} {oc31 kV31 dc31 pm31 cd31 ct31:Value} {f32:Addr} {od32 an32:Option Addr} {sl32:Array (Option Value)} {oc32 kV32 dc32 pm32 cd32 ct32:Value} {f33:Addr} {od33 an33:Option Addr} {sl33:Array (Option Value)} {oc33 kV33 dc33 pm33 cd33 ct33:Value} {f34:Addr} {od34 an34:Option Addr} {sl34:Array (Option Value)} {oc34 kV34 dc34 pm34 cd34 ct34:Value} {f35:Addr} {od35 an35:Option Addr} {sl35:Array (Option Value)} {oc35 kV35 dc35 pm35 cd35 ct35:Value} {f36:Addr} {od36 an36:Option Addr} {sl36:Array (Option Value)} {oc36 kV36 dc36 pm36 cd36 ct36:Value} {f37:Addr} {od37 an37:Option Addr} {sl37:Array (Option Value)} {oc37 kV37 dc37 pm37 cd37 ct37:Value} {f38:Addr} {od38 an38:Option Addr} {sl38:Array (Option Value)} {oc38 kV38 dc38 pm38 cd38 ct38:Value} {f39:Addr} {od39 an39:Option Addr} {sl39:Array (Option Value)} {oc39 kV39 dc39 pm39 cd39 ct39:Value} {f40:Addr} {od40 an40:Option Addr} {sl40:Array (Option Value)} {oc40 kV40 dc40 pm40 cd40 ct40:Value} {f41:Addr} {od41 an41:Option Addr} {sl41:Array (Option Value)} {oc41 kV41 dc41 pm41 cd41 ct41:Value} {f42:Addr} {od42 an42:Option Addr} {sl42:Array (Option Value)} {oc42 kV42 dc42 pm42 cd42 ct42:Value} {f43:Addr} {od43 an43:Option Addr} {sl43:Array (Option Value)} {oc43 kV43 dc43 pm43 cd43 ct43:Value} {f44:Addr} {od44 an44:Option Addr} {sl44:Array (Option Value)} {oc44 kV44 dc44 pm44 cd44 ct44:Value} {f45:Addr} {od45 an45:Option Addr} {sl45:Array (Option Value)} {oc45 kV45 dc45 pm45 cd45 ct45:Value} {f46:Addr} {od46 an46:Option Addr} {sl46:Array (Option Value)} {oc46 kV46 dc46 pm46 cd46 ct46:Value} {f47:Addr} {od47 an47:Option Addr} {sl47:Array (Option Value)} {oc47 kV47 dc47 pm47 cd47 ct47:Value} {f48:Addr} {od48 an48:Option Addr} {sl48:Array (Option Value)} {oc48 kV48 dc48 pm48 cd48 ct48:Value} {f49:Addr} {od49 an49:Option Addr} {sl49:Array (Option Value)} {oc49 kV49 dc49 pm49 cd49 ct49:Value} {f50:Addr} {od50 an50:Option Addr} {sl50:Array (Option Value)} {oc50 kV50 dc50 pm50 cd50 ct50:Value} {f51:Addr} {od51 an51:Option Addr} {sl51:Array (Option Value)} {oc51 kV51 dc51 pm51 cd51 ct51:Value} {f52:Addr} {od52 an52:Option Addr} {sl52:Array (Option Value)} {oc52 kV52 dc52 pm52 cd52 ct52:Value} {f53:Addr} {od53 an53:Option Addr} {sl53:Array (Option Value)} {oc53 kV53 dc53 pm53 cd53 ct53:Value} {f54:Addr} {od54 an54:Option Addr} {sl54:Array (Option Value)} {oc54 kV54 dc54 pm54 cd54 ct54:Value} {f55:Addr} {od55 an55:Option Addr} {sl55:Array (Option Value)} {oc55 kV55 dc55 pm55 cd55 ct55:Value} {f56:Addr} {od56 an56:Option Addr} {sl56:Array (Option Value)} {oc56 kV56 dc56 pm56 cd56 ct56:Value} {f57:Addr} {od57 an57:Option Addr} {sl57:Array (Option Value)} {oc57 kV57 dc57 pm57 cd57 ct57:Value} {f58:Addr} {od58 an58:Option Addr} {sl58:Array (Option Value)} {oc58 kV58 dc58 pm58 cd58 ct58:Value} {t_STATES:Tok} {t_NEIGHBOURS:Tok} {t_STATE_FIGURES:Tok} {x_STATE_FIGURES:Str} {t_AMOUNT_FIGURES:Tok} {x_AMOUNT_FIGURES:Str} {t_ANY_SIGN:Tok} {x_ANY_SIGN:Str} {t_TOP_LEVEL:Tok} {t_CLAUSE_MARK:Tok} {x_CLAUSE_MARK:Str} {t_LEAST_JUMPED:Tok}
  (cT:PySem.W.nsIn K mainGlobals "Amounts" = some (some (.ref c_Amounts)))
  (pg_Amounts:PySem.W.plainGet K c_Amounts Str.empty=true)
  (hd_Amounts:PySem.W.hasDictIn K c_Amounts=true)
  (po_Amounts:PySem.W.plainOver K c_Amounts=true)
  (sa_Amounts:PySem.W.findIn K (.ref c_Amounts) "__setattr__" = some (some (.builtin "object.__setattr__")))
  (mk_Amounts:PySem.W.makesIn K c_Amounts=true)
  (kc_Amounts:PySem.W.keepIn K (.ref c_Amounts)=true)
  (na_Amounts_state:PySem.W.findIn K (.ref c_Amounts) "state" = some none)
  (na_Amounts_numbers:PySem.W.findIn K (.ref c_Amounts) "numbers" = some none)
  (dY:PySem.W.nsIn K mainGlobals "Places" = some (some (.ref c_Places)))
  (pg_Places:PySem.W.plainGet K c_Places Str.empty=true)
  (hd_Places:PySem.W.hasDictIn K c_Places=true)
  (po_Places:PySem.W.plainOver K c_Places=true)
  (sa_Places:PySem.W.findIn K (.ref c_Places) "__setattr__" = some (some (.builtin "object.__setattr__")))
  (mk_Places:PySem.W.makesIn K c_Places=true)
  (kc_Places:PySem.W.keepIn K (.ref c_Places)=true)
  (na_Places_wanted:PySem.W.findIn K (.ref c_Places) "wanted" = some none)
  (dZ:PySem.W.nsIn K mainGlobals "Clause" = some (some (.ref c_Clause)))
  (pg_Clause:PySem.W.plainGet K c_Clause Str.empty=true)
  (hd_Clause:PySem.W.hasDictIn K c_Clause=true)
  (po_Clause:PySem.W.plainOver K c_Clause=true)
  (sa_Clause:PySem.W.findIn K (.ref c_Clause) "__setattr__" = some (some (.builtin "object.__setattr__")))
  (mk_Clause:PySem.W.makesIn K c_Clause=true)
  (kc_Clause:PySem.W.keepIn K (.ref c_Clause)=true)
  (na_Clause_cell:PySem.W.findIn K (.ref c_Clause) "cell" = some none)
  (na_Clause_conditions:PySem.W.findIn K (.ref c_Clause) "conditions" = some none)
  (na_Clause_makes:PySem.W.findIn K (.ref c_Clause) "makes" = some none)
  (fA:PySem.W.nsIn K mainGlobals "Grove" = some (some (.ref c_Grove)))
  (pg_Grove:PySem.W.plainGet K c_Grove Str.empty=true)
  (hd_Grove:PySem.W.hasDictIn K c_Grove=true)
  (po_Grove:PySem.W.plainOver K c_Grove=true)
  (sa_Grove:PySem.W.findIn K (.ref c_Grove) "__setattr__" = some (some (.builtin "object.__setattr__")))
  (mk_Grove:PySem.W.makesIn K c_Grove=true)
  (kc_Grove:PySem.W.keepIn K (.ref c_Grove)=true)
  (na_Grove_levels:PySem.W.findIn K (.ref c_Grove) "levels" = some none)
  (na_Grove_parts:PySem.W.findIn K (.ref c_Grove) "parts" = some none)
  (na_Grove_numbers:PySem.W.findIn K (.ref c_Grove) "numbers" = some none)
  (na_Grove_bares:PySem.W.findIn K (.ref c_Grove) "bares" = some none)
  (na_Grove_amounts:PySem.W.findIn K (.ref c_Grove) "amounts" = some none)
  (na_Grove_boxes:PySem.W.findIn K (.ref c_Grove) "boxes" = some none)
  (fV:PySem.W.nsIn K mainGlobals "Rule" = some (some (.ref c_Rule)))
  (pg_Rule:PySem.W.plainGet K c_Rule Str.empty=true)
  (hd_Rule:PySem.W.hasDictIn K c_Rule=true)
  (po_Rule:PySem.W.plainOver K c_Rule=true)
  (sa_Rule:PySem.W.findIn K (.ref c_Rule) "__setattr__" = some (some (.builtin "object.__setattr__")))
  (mk_Rule:PySem.W.makesIn K c_Rule=true)
  (kc_Rule:PySem.W.keepIn K (.ref c_Rule)=true)
  (na_Rule_text:PySem.W.findIn K (.ref c_Rule) "text" = some none)
  (na_Rule_clauses:PySem.W.findIn K (.ref c_Rule) "clauses" = some none)
  (eZ:PySem.W.nsIn K mainGlobals "Jumps" = some (some (.ref c_Jumps)))
  (pg_Jumps:PySem.W.plainGet K c_Jumps Str.empty=true)
  (hd_Jumps:PySem.W.hasDictIn K c_Jumps=true)
  (po_Jumps:PySem.W.plainOver K c_Jumps=true)
  (sa_Jumps:PySem.W.findIn K (.ref c_Jumps) "__setattr__" = some (some (.builtin "object.__setattr__")))
  (mk_Jumps:PySem.W.makesIn K c_Jumps=true)
  (kc_Jumps:PySem.W.keepIn K (.ref c_Jumps)=true)
  (na_Jumps_grove:PySem.W.findIn K (.ref c_Jumps) "grove" = some none)
  (na_Jumps_memories:PySem.W.findIn K (.ref c_Jumps) "memories" = some none)
  (na_Jumps_rule:PySem.W.findIn K (.ref c_Jumps) "rule" = some none)
  (na_Jumps_known_squares:PySem.W.findIn K (.ref c_Jumps) "known_squares" = some none)
  (na_Jumps_known_cells:PySem.W.findIn K (.ref c_Jumps) "known_cells" = some none)
  (a0:PySem.W.nsIn K mainGlobals "is_whole" = some (some (.ref f0)))
  (l0:K.lookup f0=some ⟨oc0,od0,.func (PySem.W.fnOf "is_whole" "is_whole" (Ax EF) (Aw EF) (Ag EF) .none kV0 dc0 pm0 an0 cd0 ct0),sl0⟩)
  (c0:PySem.W.codeIn K cd0 "is_whole" = true)
  (k0:PySem.W.keepIn K (.ref f0)=true)
  (a1:PySem.W.nsIn K mainGlobals "is_state" = some (some (.ref f1)))
  (l1:K.lookup f1=some ⟨oc1,od1,.func (PySem.W.fnOf "is_state" "is_state" (Ax EG) (Aw EG) (Ag EG) .none kV1 dc1 pm1 an1 cd1 ct1),sl1⟩)
  (c1:PySem.W.codeIn K cd1 "is_state" = true)
  (k1:PySem.W.keepIn K (.ref f1)=true)
  (a2:PySem.W.nsIn K mainGlobals "takes" = some (some (.ref f2)))
  (l2:K.lookup f2=some ⟨oc2,od2,.func (PySem.W.fnOf "takes" "takes" (Ax GP) (Aw GP) (Ag GP) .none kV2 dc2 pm2 an2 cd2 ct2),sl2⟩)
  (c2:PySem.W.codeIn K cd2 "takes" = true)
  (k2:PySem.W.keepIn K (.ref f2)=true)
  (a3:PySem.W.nsIn K mainGlobals "read_clause" = some (some (.ref f3)))
  (l3:K.lookup f3=some ⟨oc3,od3,.func (PySem.W.fnOf "read_clause" "read_clause" (Ax Cw) (Aw Cw) (Ag Cw) .none kV3 dc3 pm3 an3 cd3 ct3),sl3⟩)
  (c3:PySem.W.codeIn K cd3 "read_clause" = true)
  (k3:PySem.W.keepIn K (.ref f3)=true)
  (a4:PySem.W.nsIn K mainGlobals "read_state" = some (some (.ref f4)))
  (l4:K.lookup f4=some ⟨oc4,od4,.func (PySem.W.fnOf "read_state" "read_state" (Ax DJ) (Aw DJ) (Ag DJ) .none kV4 dc4 pm4 an4 cd4 ct4),sl4⟩)
  (c4:PySem.W.codeIn K cd4 "read_state" = true)
  (k4:PySem.W.keepIn K (.ref f4)=true)
  (a5:PySem.W.nsIn K mainGlobals "read_wanted" = some (some (.ref f5)))
  (l5:K.lookup f5=some ⟨oc5,od5,.func (PySem.W.fnOf "read_wanted" "read_wanted" (Ax Dh) (Aw Dh) (Ag Dh) .none kV5 dc5 pm5 an5 cd5 ct5),sl5⟩)
  (c5:PySem.W.codeIn K cd5 "read_wanted" = true)
  (k5:PySem.W.keepIn K (.ref f5)=true)
  (a6:PySem.W.nsIn K mainGlobals "read_condition" = some (some (.ref f6)))
  (l6:K.lookup f6=some ⟨oc6,od6,.func (PySem.W.fnOf "read_condition" "read_condition" (Ax BU) (Aw BU) (Ag BU) .none kV6 dc6 pm6 an6 cd6 ct6),sl6⟩)
  (c6:PySem.W.codeIn K cd6 "read_condition" = true)
  (k6:PySem.W.keepIn K (.ref f6)=true)
  (a7:PySem.W.nsIn K mainGlobals "read_amounts" = some (some (.ref f7)))
  (l7:K.lookup f7=some ⟨oc7,od7,.func (PySem.W.fnOf "read_amounts" "read_amounts" (Ax CF) (Aw CF) (Ag CF) .none kV7 dc7 pm7 an7 cd7 ct7),sl7⟩)
  (c7:PySem.W.codeIn K cd7 "read_amounts" = true)
  (k7:PySem.W.keepIn K (.ref f7)=true)
  (a8:PySem.W.nsIn K mainGlobals "read_numbers" = some (some (.ref f8)))
  (l8:K.lookup f8=some ⟨oc8,od8,.func (PySem.W.fnOf "read_numbers" "read_numbers" (Ax CD) (Aw CD) (Ag CD) .none kV8 dc8 pm8 an8 cd8 ct8),sl8⟩)
  (c8:PySem.W.codeIn K cd8 "read_numbers" = true)
  (k8:PySem.W.keepIn K (.ref f8)=true)
  (a9:PySem.W.nsIn K mainGlobals "read_places" = some (some (.ref f9)))
  (l9:K.lookup f9=some ⟨oc9,od9,.func (PySem.W.fnOf "read_places" "read_places" (Ax Cv) (Aw Cv) (Ag Cv) .none kV9 dc9 pm9 an9 cd9 ct9),sl9⟩)
  (c9:PySem.W.codeIn K cd9 "read_places" = true)
  (k9:PySem.W.keepIn K (.ref f9)=true)
  (a10:PySem.W.nsIn K mainGlobals "clause_texts" = some (some (.ref f10)))
  (l10:K.lookup f10=some ⟨oc10,od10,.func (PySem.W.fnOf "clause_texts" "clause_texts" (Ax CG) (Aw CG) (Ag CG) .none kV10 dc10 pm10 an10 cd10 ct10),sl10⟩)
  (c10:PySem.W.codeIn K cd10 "clause_texts" = true)
  (k10:PySem.W.keepIn K (.ref f10)=true)
  (a11:PySem.W.nsIn K mainGlobals "read_rule" = some (some (.ref f11)))
  (l11:K.lookup f11=some ⟨oc11,od11,.func (PySem.W.fnOf "read_rule" "read_rule" (Ax Eh) (Aw Eh) (Ag Eh) .none kV11 dc11 pm11 an11 cd11 ct11),sl11⟩)
  (c11:PySem.W.codeIn K cd11 "read_rule" = true)
  (k11:PySem.W.keepIn K (.ref f11)=true)
  (a12:PySem.W.nsIn K mainGlobals "deciding" = some (some (.ref f12)))
  (l12:K.lookup f12=some ⟨oc12,od12,.func (PySem.W.fnOf "deciding" "deciding" (Ax EI) (Aw EI) (Ag EI) .none kV12 dc12 pm12 an12 cd12 ct12),sl12⟩)
  (c12:PySem.W.codeIn K cd12 "deciding" = true)
  (k12:PySem.W.keepIn K (.ref f12)=true)
  (a13:PySem.W.nsIn K mainGlobals "becomes" = some (some (.ref f13)))
  (l13:K.lookup f13=some ⟨oc13,od13,.func (PySem.W.fnOf "becomes" "becomes" (Ax Fp) (Aw Fp) (Ag Fp) .none kV13 dc13 pm13 an13 cd13 ct13),sl13⟩)
  (c13:PySem.W.codeIn K cd13 "becomes" = true)
  (k13:PySem.W.keepIn K (.ref f13)=true)
  (a14:PySem.W.nsIn K mainGlobals "shown_rule" = some (some (.ref f14)))
  (l14:K.lookup f14=some ⟨oc14,od14,.func (PySem.W.fnOf "shown_rule" "shown_rule" (Ax DI) (Aw DI) (Ag DI) .none kV14 dc14 pm14 an14 cd14 ct14),sl14⟩)
  (c14:PySem.W.codeIn K cd14 "shown_rule" = true)
  (k14:PySem.W.keepIn K (.ref f14)=true)
  (a15:PySem.W.nsIn K mainGlobals "nine_parts" = some (some (.ref f15)))
  (l15:K.lookup f15=some ⟨oc15,od15,.func (PySem.W.fnOf "nine_parts" "nine_parts" (Ax DK) (Aw DK) (Ag DK) .none kV15 dc15 pm15 an15 cd15 ct15),sl15⟩)
  (c15:PySem.W.codeIn K cd15 "nine_parts" = true)
  (k15:PySem.W.keepIn K (.ref f15)=true)
  (a16:PySem.W.nsIn K mainGlobals "fours_of" = some (some (.ref f16)))
  (l16:K.lookup f16=some ⟨oc16,od16,.func (PySem.W.fnOf "fours_of" "fours_of" (Ax EH) (Aw EH) (Ag EH) .none kV16 dc16 pm16 an16 cd16 ct16),sl16⟩)
  (c16:PySem.W.codeIn K cd16 "fours_of" = true)
  (k16:PySem.W.keepIn K (.ref f16)=true)
  (a17:PySem.W.nsIn K mainGlobals "met_in_the_middle" = some (some (.ref f17)))
  (l17:K.lookup f17=some ⟨oc17,od17,.func (PySem.W.fnOf "met_in_the_middle" "met_in_the_middle" (Ax BC) (Aw BC) (Ag BC) .none kV17 dc17 pm17 an17 cd17 ct17),sl17⟩)
  (c17:PySem.W.codeIn K cd17 "met_in_the_middle" = true)
  (k17:PySem.W.keepIn K (.ref f17)=true)
  (a18:PySem.W.nsIn K mainGlobals "_law_at" = some (some (.ref f18)))
  (l18:K.lookup f18=some ⟨oc18,od18,.func (PySem.W.fnOf "_law_at" "_law_at" (Ax Fq) (Aw Fq) (Ag Fq) .none kV18 dc18 pm18 an18 cd18 ct18),sl18⟩)
  (c18:PySem.W.codeIn K cd18 "_law_at" = true)
  (k18:PySem.W.keepIn K (.ref f18)=true)
  (a19:PySem.W.nsIn K mainGlobals "_law_same" = some (some (.ref f19)))
  (l19:K.lookup f19=some ⟨oc19,od19,.func (PySem.W.fnOf "_law_same" "_law_same" (Ax Ej) (Aw Ej) (Ag Ej) .none kV19 dc19 pm19 an19 cd19 ct19),sl19⟩)
  (c19:PySem.W.codeIn K cd19 "_law_same" = true)
  (k19:PySem.W.keepIn K (.ref f19)=true)
  (a20:PySem.W.nsIn K mainGlobals "_law_stir" = some (some (.ref f20)))
  (l20:K.lookup f20=some ⟨oc20,od20,.func (PySem.W.fnOf "_law_stir" "_law_stir" (Ax Ei) (Aw Ei) (Ag Ei) .none kV20 dc20 pm20 an20 cd20 ct20),sl20⟩)
  (c20:PySem.W.codeIn K cd20 "_law_stir" = true)
  (k20:PySem.W.keepIn K (.ref f20)=true)
  (a21:PySem.W.nsIn K mainGlobals "_law_clause_by" = some (some (.ref f21)))
  (l21:K.lookup f21=some ⟨oc21,od21,.func (PySem.W.fnOf "_law_clause_by" "_law_clause_by" (Ax BV) (Aw BV) (Ag BV) .none kV21 dc21 pm21 an21 cd21 ct21),sl21⟩)
  (c21:PySem.W.codeIn K cd21 "_law_clause_by" = true)
  (k21:PySem.W.keepIn K (.ref f21)=true)
  (a22:PySem.W.nsIn K mainGlobals "_law_fits" = some (some (.ref f22)))
  (l22:K.lookup f22=some ⟨oc22,od22,.func (PySem.W.fnOf "_law_fits" "_law_fits" (Ax Du) (Aw Du) (Ag Du) .none kV22 dc22 pm22 an22 cd22 ct22),sl22⟩)
  (c22:PySem.W.codeIn K cd22 "_law_fits" = true)
  (k22:PySem.W.keepIn K (.ref f22)=true)
  (a23:PySem.W.nsIn K mainGlobals "_law_becomes" = some (some (.ref f23)))
  (l23:K.lookup f23=some ⟨oc23,od23,.func (PySem.W.fnOf "_law_becomes" "_law_becomes" (Ax CJ) (Aw CJ) (Ag CJ) .none kV23 dc23 pm23 an23 cd23 ct23),sl23⟩)
  (c23:PySem.W.codeIn K cd23 "_law_becomes" = true)
  (k23:PySem.W.keepIn K (.ref f23)=true)
  (a24:PySem.W.nsIn K mainGlobals "_law_words" = some (some (.ref f24)))
  (l24:K.lookup f24=some ⟨oc24,od24,.func (PySem.W.fnOf "_law_words" "_law_words" (Ax CW) (Aw CW) (Ag CW) .none kV24 dc24 pm24 an24 cd24 ct24),sl24⟩)
  (c24:PySem.W.codeIn K cd24 "_law_words" = true)
  (k24:PySem.W.keepIn K (.ref f24)=true)
  (a25:PySem.W.nsIn K mainGlobals "_law_text" = some (some (.ref f25)))
  (l25:K.lookup f25=some ⟨oc25,od25,.func (PySem.W.fnOf "_law_text" "_law_text" (Ax Ds) (Aw Ds) (Ag Ds) .none kV25 dc25 pm25 an25 cd25 ct25),sl25⟩)
  (c25:PySem.W.codeIn K cd25 "_law_text" = true)
  (k25:PySem.W.keepIn K (.ref f25)=true)
  (a26:PySem.W.nsIn K mainGlobals "_law_clauses_by" = some (some (.ref f26)))
  (l26:K.lookup f26=some ⟨oc26,od26,.func (PySem.W.fnOf "_law_clauses_by" "_law_clauses_by" (Ax Bz) (Aw Bz) (Ag Bz) .none kV26 dc26 pm26 an26 cd26 ct26),sl26⟩)
  (c26:PySem.W.codeIn K cd26 "_law_clauses_by" = true)
  (k26:PySem.W.keepIn K (.ref f26)=true)
  (a27:PySem.W.nsIn K mainGlobals "_law_grid_by" = some (some (.ref f27)))
  (l27:K.lookup f27=some ⟨oc27,od27,.func (PySem.W.fnOf "_law_grid_by" "_law_grid_by" (Ax CI) (Aw CI) (Ag CI) .none kV27 dc27 pm27 an27 cd27 ct27),sl27⟩)
  (c27:PySem.W.codeIn K cd27 "_law_grid_by" = true)
  (k27:PySem.W.keepIn K (.ref f27)=true)
  (a28:PySem.W.nsIn K mainGlobals "_law_knit" = some (some (.ref f28)))
  (l28:K.lookup f28=some ⟨oc28,od28,.func (PySem.W.fnOf "_law_knit" "_law_knit" (Ax Dt) (Aw Dt) (Ag Dt) .none kV28 dc28 pm28 an28 cd28 ct28),sl28⟩)
  (c28:PySem.W.codeIn K cd28 "_law_knit" = true)
  (k28:PySem.W.keepIn K (.ref f28)=true)
  (a29:PySem.W.nsIn K mainGlobals "_law_told" = some (some (.ref f29)))
  (l29:K.lookup f29=some ⟨oc29,od29,.func (PySem.W.fnOf "_law_told" "_law_told" (Ax Dr) (Aw Dr) (Ag Dr) .none kV29 dc29 pm29 an29 cd29 ct29),sl29⟩)
  (c29:PySem.W.codeIn K cd29 "_law_told" = true)
  (k29:PySem.W.keepIn K (.ref f29)=true)
  (a30:PySem.W.nsIn K mainGlobals "_law_stepped" = some (some (.ref f30)))
  (l30:K.lookup f30=some ⟨oc30,od30,.func (PySem.W.fnOf "_law_stepped" "_law_stepped" (Ax CH) (Aw CH) (Ag CH) .none kV30 dc30 pm30 an30 cd30 ct30),sl30⟩)
  (c30:PySem.W.codeIn K cd30 "_law_stepped" = true)
  (k30:PySem.W.keepIn K (.ref f30)=true)
  (a31:PySem.W.nsIn K mainGlobals "_law_due" = some (some (.ref f31)))
  (l31:K.lookup f31=some ⟨oc31,od31,.func (PySem.W.fnOf "_law_due" "_law_due" (Ax Ec) (Aw Ec) (Ag Ec) .none kV31 dc31 pm31 an31 cd31 ct31),sl31⟩)
  (c31:PySem.W.codeIn K cd31 "_law_due" = true)
  (k31:PySem.W.keepIn K (.ref f31)=true)
  (a32:PySem.W.nsIn K mainGlobals "_law_right" = some (some (.ref f32)))
  (l32:K.lookup f32=some ⟨oc32,od32,.func (PySem.W.fnOf "_law_right" "_law_right" (Ax DL) (Aw DL) (Ag DL) .none kV32 dc32 pm32 an32 cd32 ct32),sl32⟩)
  (c32:PySem.W.codeIn K cd32 "_law_right" = true)
  (k32:PySem.W.keepIn K (.ref f32)=true)
  (a33:PySem.W.nsIn K mainGlobals "law" = some (some (.ref f33)))
  (l33:K.lookup f33=some ⟨oc33,od33,.func (PySem.W.fnOf "law" "law" (Ax Gr) (Aw Gr) (Ag Gr) .none kV33 dc33 pm33 an33 cd33 ct33),sl33⟩)
  (c33:PySem.W.codeIn K cd33 "law" = true)
  (k33:PySem.W.keepIn K (.ref f33)=true)
  (a34:PySem.W.findIn K (.ref c_Amounts) "__init__" = some (some (.ref f34)))
  (i34:PySem.W.isFn K (.ref f34)=true)
  (l34:K.lookup f34=some ⟨oc34,od34,.func (PySem.W.fnOf "__init__" "Amounts.__init__" (Ax CL) (Aw CL) (Ag CL) .none kV34 dc34 pm34 an34 cd34 ct34),sl34⟩)
  (c34:PySem.W.codeIn K cd34 "Amounts.__init__" = true)
  (k34:PySem.W.keepIn K (.ref f34)=true)
  (a35:PySem.W.findIn K (.ref c_Amounts) "holds" = some (some (.ref f35)))
  (i35:PySem.W.isFn K (.ref f35)=true)
  (l35:K.lookup f35=some ⟨oc35,od35,.func (PySem.W.fnOf "holds" "Amounts.holds" (Ax Co) (Aw Co) (Ag Co) .none kV35 dc35 pm35 an35 cd35 ct35),sl35⟩)
  (c35:PySem.W.codeIn K cd35 "Amounts.holds" = true)
  (k35:PySem.W.keepIn K (.ref f35)=true)
  (a36:PySem.W.findIn K (.ref c_Places) "__init__" = some (some (.ref f36)))
  (i36:PySem.W.isFn K (.ref f36)=true)
  (l36:K.lookup f36=some ⟨oc36,od36,.func (PySem.W.fnOf "__init__" "Places.__init__" (Ax Di) (Aw Di) (Ag Di) .none kV36 dc36 pm36 an36 cd36 ct36),sl36⟩)
  (c36:PySem.W.codeIn K cd36 "Places.__init__" = true)
  (k36:PySem.W.keepIn K (.ref f36)=true)
  (a37:PySem.W.findIn K (.ref c_Places) "holds" = some (some (.ref f37)))
  (i37:PySem.W.isFn K (.ref f37)=true)
  (l37:K.lookup f37=some ⟨oc37,od37,.func (PySem.W.fnOf "holds" "Places.holds" (Ax Cc) (Aw Cc) (Ag Cc) .none kV37 dc37 pm37 an37 cd37 ct37),sl37⟩)
  (c37:PySem.W.codeIn K cd37 "Places.holds" = true)
  (k37:PySem.W.keepIn K (.ref f37)=true)
  (a38:PySem.W.findIn K (.ref c_Clause) "__init__" = some (some (.ref f38)))
  (i38:PySem.W.isFn K (.ref f38)=true)
  (l38:K.lookup f38=some ⟨oc38,od38,.func (PySem.W.fnOf "__init__" "Clause.__init__" (Ax Dl) (Aw Dl) (Ag Dl) .none kV38 dc38 pm38 an38 cd38 ct38),sl38⟩)
  (c38:PySem.W.codeIn K cd38 "Clause.__init__" = true)
  (k38:PySem.W.keepIn K (.ref f38)=true)
  (a39:PySem.W.findIn K (.ref c_Clause) "fits" = some (some (.ref f39)))
  (i39:PySem.W.isFn K (.ref f39)=true)
  (l39:K.lookup f39=some ⟨oc39,od39,.func (PySem.W.fnOf "fits" "Clause.fits" (Ax Cy) (Aw Cy) (Ag Cy) .none kV39 dc39 pm39 an39 cd39 ct39),sl39⟩)
  (c39:PySem.W.codeIn K cd39 "Clause.fits" = true)
  (k39:PySem.W.keepIn K (.ref f39)=true)
  (a40:PySem.W.findIn K (.ref c_Grove) "__init__" = some (some (.ref f40)))
  (i40:PySem.W.isFn K (.ref f40)=true)
  (l40:K.lookup f40=some ⟨oc40,od40,.func (PySem.W.fnOf "__init__" "Grove.__init__" (Ax DP) (Aw DP) (Ag DP) .none kV40 dc40 pm40 an40 cd40 ct40),sl40⟩)
  (c40:PySem.W.codeIn K cd40 "Grove.__init__" = true)
  (k40:PySem.W.keepIn K (.ref f40)=true)
  (a41:PySem.W.findIn K (.ref c_Grove) "kept" = some (some (.ref f41)))
  (i41:PySem.W.isFn K (.ref f41)=true)
  (l41:K.lookup f41=some ⟨oc41,od41,.func (PySem.W.fnOf "kept" "Grove.kept" (Ax DO) (Aw DO) (Ag DO) .none kV41 dc41 pm41 an41 cd41 ct41),sl41⟩)
  (c41:PySem.W.codeIn K cd41 "Grove.kept" = true)
  (k41:PySem.W.keepIn K (.ref f41)=true)
  (a42:PySem.W.findIn K (.ref c_Grove) "linked" = some (some (.ref f42)))
  (i42:PySem.W.isFn K (.ref f42)=true)
  (l42:K.lookup f42=some ⟨oc42,od42,.func (PySem.W.fnOf "linked" "Grove.linked" (Ax CK) (Aw CK) (Ag CK) .none kV42 dc42 pm42 an42 cd42 ct42),sl42⟩)
  (c42:PySem.W.codeIn K cd42 "Grove.linked" = true)
  (k42:PySem.W.keepIn K (.ref f42)=true)
  (a43:PySem.W.findIn K (.ref c_Grove) "check_square" = some (some (.ref f43)))
  (i43:PySem.W.isFn K (.ref f43)=true)
  (l43:K.lookup f43=some ⟨oc43,od43,.func (PySem.W.fnOf "check_square" "Grove.check_square" (Ax Bp) (Aw Bp) (Ag Bp) .none kV43 dc43 pm43 an43 cd43 ct43),sl43⟩)
  (c43:PySem.W.codeIn K cd43 "Grove.check_square" = true)
  (k43:PySem.W.keepIn K (.ref f43)=true)
  (a44:PySem.W.findIn K (.ref c_Grove) "leaf" = some (some (.ref f44)))
  (i44:PySem.W.isFn K (.ref f44)=true)
  (l44:K.lookup f44=some ⟨oc44,od44,.func (PySem.W.fnOf "leaf" "Grove.leaf" (Ax DN) (Aw DN) (Ag DN) .none kV44 dc44 pm44 an44 cd44 ct44),sl44⟩)
  (c44:PySem.W.codeIn K cd44 "Grove.leaf" = true)
  (k44:PySem.W.keepIn K (.ref f44)=true)
  (a45:PySem.W.findIn K (.ref c_Grove) "joined" = some (some (.ref f45)))
  (i45:PySem.W.isFn K (.ref f45)=true)
  (l45:K.lookup f45=some ⟨oc45,od45,.func (PySem.W.fnOf "joined" "Grove.joined" (Ax Ce) (Aw Ce) (Ag Ce) .none kV45 dc45 pm45 an45 cd45 ct45),sl45⟩)
  (c45:PySem.W.codeIn K cd45 "Grove.joined" = true)
  (k45:PySem.W.keepIn K (.ref f45)=true)
  (a46:PySem.W.findIn K (.ref c_Grove) "level_of" = some (some (.ref f46)))
  (i46:PySem.W.isFn K (.ref f46)=true)
  (l46:K.lookup f46=some ⟨oc46,od46,.func (PySem.W.fnOf "level_of" "Grove.level_of" (Ax BY) (Aw BY) (Ag BY) .none kV46 dc46 pm46 an46 cd46 ct46),sl46⟩)
  (c46:PySem.W.codeIn K cd46 "Grove.level_of" = true)
  (k46:PySem.W.keepIn K (.ref f46)=true)
  (a47:PySem.W.findIn K (.ref c_Grove) "quarters" = some (some (.ref f47)))
  (i47:PySem.W.isFn K (.ref f47)=true)
  (l47:K.lookup f47=some ⟨oc47,od47,.func (PySem.W.fnOf "quarters" "Grove.quarters" (Ax BX) (Aw BX) (Ag BX) .none kV47 dc47 pm47 an47 cd47 ct47),sl47⟩)
  (c47:PySem.W.codeIn K cd47 "Grove.quarters" = true)
  (k47:PySem.W.keepIn K (.ref f47)=true)
  (a48:PySem.W.findIn K (.ref c_Grove) "state_of" = some (some (.ref f48)))
  (i48:PySem.W.isFn K (.ref f48)=true)
  (l48:K.lookup f48=some ⟨oc48,od48,.func (PySem.W.fnOf "state_of" "Grove.state_of" (Ax BW) (Aw BW) (Ag BW) .none kV48 dc48 pm48 an48 cd48 ct48),sl48⟩)
  (c48:PySem.W.codeIn K cd48 "Grove.state_of" = true)
  (k48:PySem.W.keepIn K (.ref f48)=true)
  (a49:PySem.W.findIn K (.ref c_Rule) "__init__" = some (some (.ref f49)))
  (i49:PySem.W.isFn K (.ref f49)=true)
  (l49:K.lookup f49=some ⟨oc49,od49,.func (PySem.W.fnOf "__init__" "Rule.__init__" (Ax Dv) (Aw Dv) (Ag Dv) .none kV49 dc49 pm49 an49 cd49 ct49),sl49⟩)
  (c49:PySem.W.codeIn K cd49 "Rule.__init__" = true)
  (k49:PySem.W.keepIn K (.ref f49)=true)
  (a50:PySem.W.findIn K (.ref c_Jumps) "__init__" = some (some (.ref f50)))
  (i50:PySem.W.isFn K (.ref f50)=true)
  (l50:K.lookup f50=some ⟨oc50,od50,.func (PySem.W.fnOf "__init__" "Jumps.__init__" (Ax DM) (Aw DM) (Ag DM) .none kV50 dc50 pm50 an50 cd50 ct50),sl50⟩)
  (c50:PySem.W.codeIn K cd50 "Jumps.__init__" = true)
  (k50:PySem.W.keepIn K (.ref f50)=true)
  (a51:PySem.W.findIn K (.ref c_Jumps) "change" = some (some (.ref f51)))
  (i51:PySem.W.isFn K (.ref f51)=true)
  (l51:K.lookup f51=some ⟨oc51,od51,.func (PySem.W.fnOf "change" "Jumps.change" (Ax Cd) (Aw Cd) (Ag Cd) .none kV51 dc51 pm51 an51 cd51 ct51),sl51⟩)
  (c51:PySem.W.codeIn K cd51 "Jumps.change" = true)
  (k51:PySem.W.keepIn K (.ref f51)=true)
  (a52:PySem.W.findIn K (.ref c_Jumps) "after" = some (some (.ref f52)))
  (i52:PySem.W.isFn K (.ref f52)=true)
  (l52:K.lookup f52=some ⟨oc52,od52,.func (PySem.W.fnOf "after" "Jumps.after" (Ax Dk) (Aw Dk) (Ag Dk) .none kV52 dc52 pm52 an52 cd52 ct52),sl52⟩)
  (c52:PySem.W.codeIn K cd52 "Jumps.after" = true)
  (k52:PySem.W.keepIn K (.ref f52)=true)
  (a53:PySem.W.findIn K (.ref c_Jumps) "check_jump" = some (some (.ref f53)))
  (i53:PySem.W.isFn K (.ref f53)=true)
  (l53:K.lookup f53=some ⟨oc53,od53,.func (PySem.W.fnOf "check_jump" "Jumps.check_jump" (Ax BM) (Aw BM) (Ag BM) .none kV53 dc53 pm53 an53 cd53 ct53),sl53⟩)
  (c53:PySem.W.codeIn K cd53 "Jumps.check_jump" = true)
  (k53:PySem.W.keepIn K (.ref f53)=true)
  (a54:PySem.W.findIn K (.ref c_Jumps) "reckoned" = some (some (.ref f54)))
  (i54:PySem.W.isFn K (.ref f54)=true)
  (l54:K.lookup f54=some ⟨oc54,od54,.func (PySem.W.fnOf "reckoned" "Jumps.reckoned" (Ax BL) (Aw BL) (Ag BL) .none kV54 dc54 pm54 an54 cd54 ct54),sl54⟩)
  (c54:PySem.W.codeIn K cd54 "Jumps.reckoned" = true)
  (k54:PySem.W.keepIn K (.ref f54)=true)
  (a55:PySem.W.findIn K (.ref c_Jumps) "fresh" = some (some (.ref f55)))
  (i55:PySem.W.isFn K (.ref f55)=true)
  (l55:K.lookup f55=some ⟨oc55,od55,.func (PySem.W.fnOf "fresh" "Jumps.fresh" (Ax Bw) (Aw Bw) (Ag Bw) .none kV55 dc55 pm55 an55 cd55 ct55),sl55⟩)
  (c55:PySem.W.codeIn K cd55 "Jumps.fresh" = true)
  (k55:PySem.W.keepIn K (.ref f55)=true)
  (a56:PySem.W.findIn K (.ref c_Jumps) "four_halfway" = some (some (.ref f56)))
  (i56:PySem.W.isFn K (.ref f56)=true)
  (l56:K.lookup f56=some ⟨oc56,od56,.func (PySem.W.fnOf "four_halfway" "Jumps.four_halfway" (Ax AO) (Aw AO) (Ag AO) .none kV56 dc56 pm56 an56 cd56 ct56),sl56⟩)
  (c56:PySem.W.codeIn K cd56 "Jumps.four_halfway" = true)
  (k56:PySem.W.keepIn K (.ref f56)=true)
  (a57:PySem.W.findIn K (.ref c_Jumps) "middle_after" = some (some (.ref f57)))
  (i57:PySem.W.isFn K (.ref f57)=true)
  (l57:K.lookup f57=some ⟨oc57,od57,.func (PySem.W.fnOf "middle_after" "Jumps.middle_after" (Ax Bo) (Aw Bo) (Ag Bo) .none kV57 dc57 pm57 an57 cd57 ct57),sl57⟩)
  (c57:PySem.W.codeIn K cd57 "Jumps.middle_after" = true)
  (k57:PySem.W.keepIn K (.ref f57)=true)
  (a58:PySem.W.findIn K (.ref c_Jumps) "cell_after" = some (some (.ref f58)))
  (i58:PySem.W.isFn K (.ref f58)=true)
  (l58:K.lookup f58=some ⟨oc58,od58,.func (PySem.W.fnOf "cell_after" "Jumps.cell_after" (Ax Bm) (Aw Bm) (Ag Bm) .none kV58 dc58 pm58 an58 cd58 ct58),sl58⟩)
  (c58:PySem.W.codeIn K cd58 "Jumps.cell_after" = true)
  (k58:PySem.W.keepIn K (.ref f58)=true)
  (z_all:PySem.W.nsIn K mainGlobals "all" = some none)
  (z_any:PySem.W.nsIn K mainGlobals "any" = some none)
  (z_bool:PySem.W.nsIn K mainGlobals "bool" = some none)
  (z_enumerate:PySem.W.nsIn K mainGlobals "enumerate" = some none)
  (z_int:PySem.W.nsIn K mainGlobals "int" = some none)
  (z_isinstance:PySem.W.nsIn K mainGlobals "isinstance" = some none)
  (z_len:PySem.W.nsIn K mainGlobals "len" = some none)
  (z_min:PySem.W.nsIn K mainGlobals "min" = some none)
  (z_range:PySem.W.nsIn K mainGlobals "range" = some none)
  (z_str:PySem.W.nsIn K mainGlobals "str" = some none)
  (z_tuple:PySem.W.nsIn K mainGlobals "tuple" = some none)
  (z_zip:PySem.W.nsIn K mainGlobals "zip" = some none)
  (g_STATES:PySem.W.nsIn K mainGlobals "STATES" = some (some (.int 8 t_STATES)))
  (g_NEIGHBOURS:PySem.W.nsIn K mainGlobals "NEIGHBOURS" = some (some (.int 8 t_NEIGHBOURS)))
  (g_STATE_FIGURES:PySem.W.nsIn K mainGlobals "STATE_FIGURES" = some (some (.str x_STATE_FIGURES t_STATE_FIGURES)))
  (gx_STATE_FIGURES:x_STATE_FIGURES=Str.ofString "01234567")
  (g_AMOUNT_FIGURES:PySem.W.nsIn K mainGlobals "AMOUNT_FIGURES" = some (some (.str x_AMOUNT_FIGURES t_AMOUNT_FIGURES)))
  (gx_AMOUNT_FIGURES:x_AMOUNT_FIGURES=Str.ofString "012345678")
  (g_ANY_SIGN:PySem.W.nsIn K mainGlobals "ANY_SIGN" = some (some (.str x_ANY_SIGN t_ANY_SIGN)))
  (gx_ANY_SIGN:x_ANY_SIGN=Str.ofString "*")
  (g_TOP_LEVEL:PySem.W.nsIn K mainGlobals "TOP_LEVEL" = some (some (.int 48 t_TOP_LEVEL)))
  (g_CLAUSE_MARK:PySem.W.nsIn K mainGlobals "CLAUSE_MARK" = some (some (.str x_CLAUSE_MARK t_CLAUSE_MARK)))
  (gx_CLAUSE_MARK:x_CLAUSE_MARK=Str.ofString "; ")
  (g_LEAST_JUMPED:PySem.W.nsIn K mainGlobals "LEAST_JUMPED" = some (some (.int 2 t_LEAST_JUMPED)))
  : ∃ fd:FuncData,(∀ (s:Shared) (v:Value),BindsTo s fd ⟨[v],[]⟩ [("_law_script",v)])/\∀ base:Heap,K.In base->base.Ns mainGlobals mg->AU l.prog w K mg base CX0 30 fa fd ["_law_script"] (Pw K):=by
 have e:=hfa.symm.trans (PySem.W.mg_of X G a33);cases e;have no:∀ {x:Str},PySem.W.nsIn K mainGlobals x=some none->mg x=none:=fun z=>PySem.W.mg_none_of X G z;subst gx_CLAUSE_MARK;subst gx_ANY_SIGN;subst gx_AMOUNT_FIGURES;subst gx_STATE_FIGURES;have T:Top K mg (⟨c_Amounts,c_Places,c_Clause,c_Grove,c_Rule,c_Jumps⟩:Ad):=⟨no z_all,no z_any,no z_bool,no z_enumerate,no z_int,no z_isinstance,no z_len,no z_min,no z_range,no z_str,no z_tuple,no z_zip,⟨t_STATES,PySem.W.mg_of X G g_STATES⟩,⟨t_NEIGHBOURS,PySem.W.mg_of X G g_NEIGHBOURS⟩,⟨t_STATE_FIGURES,PySem.W.mg_of X G g_STATE_FIGURES⟩,⟨t_AMOUNT_FIGURES,PySem.W.mg_of X G g_AMOUNT_FIGURES⟩,⟨t_ANY_SIGN,PySem.W.mg_of X G g_ANY_SIGN⟩,⟨t_TOP_LEVEL,PySem.W.mg_of X G g_TOP_LEVEL⟩,⟨t_CLAUSE_MARK,PySem.W.mg_of X G g_CLAUSE_MARK⟩,⟨t_LEAST_JUMPED,PySem.W.mg_of X G g_LEAST_JUMPED⟩,PySem.W.mg_of X G cT,⟨pg_Amounts,hd_Amounts,po_Amounts,sa_Amounts⟩,na_Amounts_state,na_Amounts_numbers,PySem.W.mg_of X G dY,⟨pg_Places,hd_Places,po_Places,sa_Places⟩,na_Places_wanted,PySem.W.mg_of X G dZ,⟨pg_Clause,hd_Clause,po_Clause,sa_Clause⟩,na_Clause_cell,na_Clause_conditions,na_Clause_makes,PySem.W.mg_of X G fA,⟨pg_Grove,hd_Grove,po_Grove,sa_Grove⟩,na_Grove_levels,na_Grove_parts,na_Grove_numbers,na_Grove_bares,na_Grove_amounts,na_Grove_boxes,PySem.W.mg_of X G fV,⟨pg_Rule,hd_Rule,po_Rule,sa_Rule⟩,na_Rule_text,na_Rule_clauses,PySem.W.mg_of X G eZ,⟨pg_Jumps,hd_Jumps,po_Jumps,sa_Jumps⟩,na_Jumps_grove,na_Jumps_memories,na_Jumps_rule,na_Jumps_known_squares,na_Jumps_known_cells⟩
 have eF:=AD (x:="is_whole") (qual:="is_whole") (st:=EF) l0 c0 k0;have jO:=eF.binds (ps:=Ed) fun _ _ _ _ _ _ us hl=>by obtain ⟨x0,rfl⟩:=ar1 us hl; exact rfl
 have jJ:=PySem.W.mg_of X G a0;have eG:=AD (x:="is_state") (qual:="is_state") (st:=EG) l1 c1 k1;have jP:=eG.binds (ps:=Fx) fun _ _ _ _ _ _ us hl=>by obtain ⟨x0,rfl⟩:=ar1 us hl; exact rfl
 have jK:=PySem.W.mg_of X G a1;have j0:=AD (x:="takes") (qual:="takes") (st:=GP) l2 c2 k2;have kD:=j0.binds (ps:=GT) fun _ _ _ _ _ _ us hl=>by obtain ⟨x0,x1,rfl⟩:=ar2 us hl; exact rfl
 have kC:=PySem.W.mg_of X G a2;have cA:=AD (x:="read_clause") (qual:="read_clause") (st:=Cw) l3 c3 k3;have iD:=cA.binds (ps:=DV) fun _ _ _ _ _ _ us hl=>by obtain ⟨x0,rfl⟩:=ar1 us hl; exact rfl
 have hJ:=PySem.W.mg_of X G a3;have cL:=AD (x:="read_state") (qual:="read_state") (st:=DJ) l4 c4 k4;have iS:=cL.binds (ps:=Da) fun _ _ _ _ _ _ us hl=>by obtain ⟨x0,rfl⟩:=ar1 us hl; exact rfl
 have iL:=PySem.W.mg_of X G a4;have bY:=AD (x:="read_wanted") (qual:="read_wanted") (st:=Dh) l5 c5 k5;have iB:=bY.binds (ps:=Dm) fun _ _ _ _ _ _ us hl=>by obtain ⟨x0,rfl⟩:=ar1 us hl; exact rfl
 have gX:=PySem.W.mg_of X G a5;have b7:=AD (x:="read_condition") (qual:="read_condition") (st:=BU) l6 c6 k6;have fI:=b7.binds (ps:=CO) fun _ _ _ _ _ _ us hl=>by obtain ⟨x0,rfl⟩:=ar1 us hl; exact rfl
 have fB:=PySem.W.mg_of X G a6;have bJ:=AD (x:="read_amounts") (qual:="read_amounts") (st:=CF) l7 c7 k7;have gF:=bJ.binds (ps:=Dy) fun _ _ _ _ _ _ us hl=>by obtain ⟨x0,rfl⟩:=ar1 us hl; exact rfl
 have fX:=PySem.W.mg_of X G a7;have bI:=AD (x:="read_numbers") (qual:="read_numbers") (st:=CD) l8 c8 k8;have gD:=bI.binds (ps:=Dx) fun _ _ _ _ _ _ us hl=>by obtain ⟨x0,rfl⟩:=ar1 us hl; exact rfl
 have fW:=PySem.W.mg_of X G a8;have bZ:=AD (x:="read_places") (qual:="read_places") (st:=Cv) l9 c9 k9;have iC:=bZ.binds (ps:=DU) fun _ _ _ _ _ _ us hl=>by obtain ⟨x0,rfl⟩:=ar1 us hl; exact rfl
 have gY:=PySem.W.mg_of X G a9;have bK:=AD (x:="clause_texts") (qual:="clause_texts") (st:=CG) l10 c10 k10;have gG:=bK.binds (ps:=Dz) fun _ _ _ _ _ _ us hl=>by obtain ⟨x0,rfl⟩:=ar1 us hl; exact rfl
 have fY:=PySem.W.mg_of X G a10;have d6:=AD (x:="read_rule") (qual:="read_rule") (st:=Eh) l11 c11 k11;have jB:=d6.binds (ps:=ET) fun _ _ _ _ _ _ us hl=>by obtain ⟨x0,rfl⟩:=ar1 us hl; exact rfl
 have j4:=PySem.W.mg_of X G a11;have eK:=AD (x:="deciding") (qual:="deciding") (st:=EI) l12 c12 k12;have jR:=eK.binds (ps:=Fy) fun _ _ _ _ _ _ us hl=>by obtain ⟨x0,x1,x2,rfl⟩:=ar3 us hl; exact rfl
 have jM:=PySem.W.mg_of X G a12;have fN:=AD (x:="becomes") (qual:="becomes") (st:=Fp) l13 c13 k13;have jW:=fN.binds (ps:=Fs) fun _ _ _ _ _ _ us hl=>by obtain ⟨x0,x1,x2,rfl⟩:=ar3 us hl; exact rfl
 have jU:=PySem.W.mg_of X G a13;have cK:=AD (x:="shown_rule") (qual:="shown_rule") (st:=DI) l14 c14 k14;have iR:=cK.binds (ps:=Ew) fun _ _ _ _ _ _ us hl=>by obtain ⟨x0,rfl⟩:=ar1 us hl; exact rfl
 have iK:=PySem.W.mg_of X G a14;have cM:=AD (x:="nine_parts") (qual:="nine_parts") (st:=DK) l15 c15 k15;have iT:=cM.binds (ps:=Db) fun _ _ _ _ _ _ us hl=>by obtain ⟨x0,x1,rfl⟩:=ar2 us hl; exact rfl
 have iM:=PySem.W.mg_of X G a15;have eJ:=AD (x:="fours_of") (qual:="fours_of") (st:=EH) l16 c16 k16;have jQ:=eJ.binds (ps:=Ee) fun _ _ _ _ _ _ us hl=>by obtain ⟨x0,rfl⟩:=ar1 us hl; exact rfl
 have jL:=PySem.W.mg_of X G a16;have aW:=AD (x:="met_in_the_middle") (qual:="met_in_the_middle") (st:=BC) l17 c17 k17;have dQ:=aW.binds (ps:=BD) fun _ _ _ _ _ _ us hl=>by obtain ⟨x0,x1,rfl⟩:=ar2 us hl; exact rfl
 have dP:=PySem.W.mg_of X G a17;have fO:=AD (x:="_law_at") (qual:="_law_at") (st:=Fq) l18 c18 k18;have jX:=fO.binds (ps:=Ft) fun _ _ _ _ _ _ us hl=>by obtain ⟨x0,x1,rfl⟩:=ar2 us hl; exact rfl
 have jV:=PySem.W.mg_of X G a18;have dB:=AD (x:="_law_same") (qual:="_law_same") (st:=Ej) l19 c19 k19;have jF:=dB.binds (ps:=Em) fun _ _ _ _ _ _ us hl=>by obtain ⟨x0,x1,rfl⟩:=ar2 us hl; exact rfl
 have j8:=PySem.W.mg_of X G a19;have dA:=AD (x:="_law_stir") (qual:="_law_stir") (st:=Ei) l20 c20 k20;have jE:=dA.binds (ps:=El) fun _ _ _ _ _ _ us hl=>by obtain ⟨x0,x1,rfl⟩:=ar2 us hl; exact rfl
 have j7:=PySem.W.mg_of X G a20;have b8:=AD (x:="_law_clause_by") (qual:="_law_clause_by") (st:=BV) l21 c21 k21;have fJ:=b8.binds (ps:=CP) fun _ _ _ _ _ _ us hl=>by obtain ⟨x0,x1,rfl⟩:=ar2 us hl; exact rfl
 have fE:=PySem.W.mg_of X G a21;have dD:=AD (x:="_law_fits") (qual:="_law_fits") (st:=Du) l22 c22 k22;have jH:=dD.binds (ps:=EX) fun _ _ _ _ _ _ us hl=>by obtain ⟨x0,x1,x2,rfl⟩:=ar3 us hl; exact rfl
 have jA:=PySem.W.mg_of X G a22;have bN:=AD (x:="_law_becomes") (qual:="_law_becomes") (st:=CJ) l23 c23 k23;have gJ:=bN.binds (ps:=CQ) fun _ _ _ _ _ _ us hl=>by obtain ⟨x0,x1,x2,rfl⟩:=ar3 us hl; exact rfl
 have g8:=PySem.W.mg_of X G a23;have cN:=AD (x:="_law_words") (qual:="_law_words") (st:=CW) l24 c24 k24;have iU:=cN.binds (ps:=Ex) fun _ _ _ _ _ _ us hl=>by obtain ⟨x0,rfl⟩:=ar1 us hl; exact rfl
 have iN:=PySem.W.mg_of X G a24;have d9:=AD (x:="_law_text") (qual:="_law_text") (st:=Ds) l25 c25 k25;have jD:=d9.binds (ps:=EV) fun _ _ _ _ _ _ us hl=>by obtain ⟨x0,rfl⟩:=ar1 us hl; exact rfl
 have j6:=PySem.W.mg_of X G a25;have aZ:=AD (x:="_law_clauses_by") (qual:="_law_clauses_by") (st:=Bz) l26 c26 k26;have eR:=aZ.binds (ps:=Cq) fun _ _ _ _ _ _ us hl=>by obtain ⟨x0,x1,rfl⟩:=ar2 us hl; exact rfl
 have eQ:=PySem.W.mg_of X G a26;have bM:=AD (x:="_law_grid_by") (qual:="_law_grid_by") (st:=CI) l27 c27 k27;have gI:=bM.binds (ps:=DB) fun _ _ _ _ _ _ us hl=>by obtain ⟨x0,x1,x2,rfl⟩:=ar3 us hl; exact rfl
 have g6:=PySem.W.mg_of X G a27;have dC:=AD (x:="_law_knit") (qual:="_law_knit") (st:=Dt) l28 c28 k28;have jG:=dC.binds (ps:=EW) fun _ _ _ _ _ _ us hl=>by obtain ⟨x0,x1,rfl⟩:=ar2 us hl; exact rfl
 have j9:=PySem.W.mg_of X G a28;have d8:=AD (x:="_law_told") (qual:="_law_told") (st:=Dr) l29 c29 k29;have jC:=d8.binds (ps:=EU) fun _ _ _ _ _ _ us hl=>by obtain ⟨x0,x1,x2,rfl⟩:=ar3 us hl; exact rfl
 have j5:=PySem.W.mg_of X G a29;have bL:=AD (x:="_law_stepped") (qual:="_law_stepped") (st:=CH) l30 c30 k30;have gH:=bL.binds (ps:=DA) fun _ _ _ _ _ _ us hl=>by obtain ⟨x0,x1,rfl⟩:=ar2 us hl; exact rfl
 have fZ:=PySem.W.mg_of X G a30;have eN:=AD (x:="_law_due") (qual:="_law_due") (st:=Ec) l31 c31 k31;have jS:=eN.binds (ps:=Fz) fun _ _ _ _ _ _ us hl=>by obtain ⟨x0,x1,x2,rfl⟩:=ar3 us hl; exact rfl
 have jN:=PySem.W.mg_of X G a31;have cO:=AD (x:="_law_right") (qual:="_law_right") (st:=DL) l32 c32 k32;have iV:=cO.binds (ps:=Ey) fun _ _ _ _ _ _ us hl=>by obtain ⟨x0,x1,x2,x3,rfl⟩:=ar4 us hl; exact rfl
 have iO:=PySem.W.mg_of X G a32;have F_law:=AD (x:="law") (qual:="law") (st:=Gr) l33 c33 k33;have m_law:=PySem.W.mg_of X G a33;have dJ:=AD (x:="__init__") (qual:="Amounts.__init__") (st:=CL) l34 c34 k34;have gP:=dJ.binds (ps:=DF) fun _ _ _ _ _ _ us hl=>by obtain ⟨x0,x1,x2,rfl⟩:=ar3 us hl; exact rfl
 have jY:Mk K c_Amounts f34:=⟨mk_Amounts,a34,i34,kc_Amounts⟩
 have cS:=AD (x:="holds") (qual:="Amounts.holds") (st:=Co) l35 c35 k35;have fS:=cS.binds (ps:=De) fun _ _ _ _ _ _ us hl=>by obtain ⟨x0,x1,rfl⟩:=ar2 us hl; exact rfl
 have fR:Fg K c_Amounts "holds" f35:=⟨a35,i35,k35⟩
 have dR:=AD (x:="__init__") (qual:="Places.__init__") (st:=Di) l36 c36 k36;have iE:=dR.binds (ps:=DW) fun _ _ _ _ _ _ us hl=>by obtain ⟨x0,x1,rfl⟩:=ar2 us hl; exact rfl
 have jZ:Mk K c_Places f36:=⟨mk_Places,a36,i36,kc_Places⟩
 have dE:=AD (x:="holds") (qual:="Places.holds") (st:=Cc) l37 c37 k37;have gK:=dE.binds (ps:=DC) fun _ _ _ _ _ _ us hl=>by obtain ⟨x0,x1,rfl⟩:=ar2 us hl; exact rfl
 have g9:Fg K c_Places "holds" f37:=⟨a37,i37,k37⟩
 have dW:=AD (x:="__init__") (qual:="Clause.__init__") (st:=Dl) l38 c38 k38;have iH:=dW.binds (ps:=DY) fun _ _ _ _ _ _ us hl=>by obtain ⟨x0,x1,x2,x3,rfl⟩:=ar4 us hl; exact rfl
 have kA:Mk K c_Clause f38:=⟨mk_Clause,a38,i38,kc_Clause⟩
 have dX:=AD (x:="fits") (qual:="Clause.fits") (st:=Cy) l39 c39 k39;have iI:=dX.binds (ps:=DZ) fun _ _ _ _ _ _ us hl=>by obtain ⟨x0,x1,x2,rfl⟩:=ar3 us hl; exact rfl
 have iA:Fg K c_Clause "fits" f39:=⟨a39,i39,k39⟩
 have eY:=AD (x:="__init__") (qual:="Grove.__init__") (st:=DP) l40 c40 k40;have iZ:=eY.binds (ps:=EA) fun _ _ _ _ _ _ us hl=>by obtain ⟨x0,rfl⟩:=ar1 us hl; exact rfl
 have kF:Mk K c_Grove f40:=⟨mk_Grove,a40,i40,kc_Grove⟩
 have eX:=AD (x:="kept") (qual:="Grove.kept") (st:=DO) l41 c41 k41;have iY:=eX.binds (ps:=DR) fun _ _ _ _ _ _ us hl=>by obtain ⟨x0,x1,x2,rfl⟩:=ar3 us hl; exact rfl
 have iQ:Fg K c_Grove "kept" f41:=⟨a41,i41,k41⟩
 have dG:=AD (x:="linked") (qual:="Grove.linked") (st:=CK) l42 c42 k42;have gM:=dG.binds (ps:=AY) fun _ _ _ _ _ _ us hl=>by obtain ⟨x0,x1,rfl⟩:=ar2 us hl; exact rfl
 have gB:Fg K c_Grove "linked" f42:=⟨a42,i42,k42⟩
 have bD:=AD (x:="check_square") (qual:="Grove.check_square") (st:=Bp) l43 c43 k43;have cZ:=bD.binds (ps:=Bv) fun _ _ _ _ _ _ us hl=>by obtain ⟨x0,x1,rfl⟩:=ar2 us hl; exact rfl
 have cW:Fg K c_Grove "check_square" f43:=⟨a43,i43,k43⟩
 have eU:=AD (x:="leaf") (qual:="Grove.leaf") (st:=DN) l44 c44 k44;have iX:=eU.binds (ps:=DQ) fun _ _ _ _ _ _ us hl=>by obtain ⟨x0,x1,rfl⟩:=ar2 us hl; exact rfl
 have iP:Fg K c_Grove "leaf" f44:=⟨a44,i44,k44⟩
 have dH:=AD (x:="joined") (qual:="Grove.joined") (st:=Ce) l45 c45 k45;have gN:=dH.binds (ps:=DE) fun _ _ _ _ _ _ us hl=>by obtain ⟨x0,x1,x2,x3,x4,rfl⟩:=ar5 us hl; exact rfl
 have gC:Fg K c_Grove "joined" f45:=⟨a45,i45,k45⟩
 have cJ:=AD (x:="level_of") (qual:="Grove.level_of") (st:=BY) l46 c46 k46;have fM:=cJ.binds (ps:=Bu) fun _ _ _ _ _ _ us hl=>by obtain ⟨x0,x1,rfl⟩:=ar2 us hl; exact rfl
 have fH:Fg K c_Grove "level_of" f46:=⟨a46,i46,k46⟩
 have cH:=AD (x:="quarters") (qual:="Grove.quarters") (st:=BX) l47 c47 k47;have fL:=cH.binds (ps:=CS) fun _ _ _ _ _ _ us hl=>by obtain ⟨x0,x1,rfl⟩:=ar2 us hl; exact rfl
 have fG:Fg K c_Grove "quarters" f47:=⟨a47,i47,k47⟩
 have cG:=AD (x:="state_of") (qual:="Grove.state_of") (st:=BW) l48 c48 k48;have fK:=cG.binds (ps:=Ca) fun _ _ _ _ _ _ us hl=>by obtain ⟨x0,x1,rfl⟩:=ar2 us hl; exact rfl
 have fF:Fg K c_Grove "state_of" f48:=⟨a48,i48,k48⟩
 have fQ:=AD (x:="__init__") (qual:="Rule.__init__") (st:=Dv) l49 c49 k49;have jI:=fQ.binds (ps:=EY) fun _ _ _ _ _ _ us hl=>by obtain ⟨x0,x1,rfl⟩:=ar2 us hl; exact rfl
 have kG:Mk K c_Rule f49:=⟨mk_Rule,a49,i49,kc_Rule⟩
 have eT:=AD (x:="__init__") (qual:="Jumps.__init__") (st:=DM) l50 c50 k50;have iW:=eT.binds (ps:=Ez) fun _ _ _ _ _ _ us hl=>by obtain ⟨x0,x1,x2,rfl⟩:=ar3 us hl; exact rfl
 have kE:Mk K c_Jumps f50:=⟨mk_Jumps,a50,i50,kc_Jumps⟩
 have dF:=AD (x:="change") (qual:="Jumps.change") (st:=Cd) l51 c51 k51;have gL:=dF.binds (ps:=DD) fun _ _ _ _ _ _ us hl=>by obtain ⟨x0,x1,rfl⟩:=ar2 us hl; exact rfl
 have gA:Fg K c_Jumps "change" f51:=⟨a51,i51,k51⟩
 have dU:=AD (x:="after") (qual:="Jumps.after") (st:=Dk) l52 c52 k52;have iG:=dU.binds (ps:=DX) fun _ _ _ _ _ _ us hl=>by obtain ⟨x0,x1,x2,rfl⟩:=ar3 us hl; exact rfl
 have i8:Fg K c_Jumps "after" f52:=⟨a52,i52,k52⟩
 have bO:=AD (x:="check_jump") (qual:="Jumps.check_jump") (st:=BM) l53 c53 k53;have eD:=bO.binds (ps:=Cg) fun _ _ _ _ _ _ us hl=>by obtain ⟨x0,x1,x2,rfl⟩:=ar3 us hl; exact rfl
 have eA:Fg K c_Jumps "check_jump" f53:=⟨a53,i53,k53⟩
 have cF:=AD (x:="reckoned") (qual:="Jumps.reckoned") (st:=BL) l54 c54 k54;have cE:=cF.binds (ps:=AX) fun _ _ _ _ _ _ us hl=>by obtain ⟨x0,x1,x2,rfl⟩:=ar3 us hl; exact rfl
 have cD:Fg K c_Jumps "reckoned" f54:=⟨a54,i54,k54⟩
 have dS:=AD (x:="fresh") (qual:="Jumps.fresh") (st:=Bw) l55 c55 k55;have iF:=dS.binds (ps:=Dn) fun _ _ _ _ _ _ us hl=>by obtain ⟨x0,x1,x2,rfl⟩:=ar3 us hl; exact rfl
 have hX:Fg K c_Jumps "fresh" f55:=⟨a55,i55,k55⟩
 have bC:=AD (x:="four_halfway") (qual:="Jumps.four_halfway") (st:=AO) l56 c56 k56;have cY:=bC.binds (ps:=Br) fun _ _ _ _ _ _ us hl=>by obtain ⟨x0,x1,x2,rfl⟩:=ar3 us hl; exact rfl
 have cV:Fg K c_Jumps "four_halfway" f56:=⟨a56,i56,k56⟩
 have bB:=AD (x:="middle_after") (qual:="Jumps.middle_after") (st:=Bo) l57 c57 k57;have cX:=bB.binds (ps:=Bq) fun _ _ _ _ _ _ us hl=>by obtain ⟨x0,x1,rfl⟩:=ar2 us hl; exact rfl
 have cU:Fg K c_Jumps "middle_after" f57:=⟨a57,i57,k57⟩
 have bP:=AD (x:="cell_after") (qual:="Jumps.cell_after") (st:=Bm) l58 c58 k58;have eE:=bP.binds (ps:=Ch) fun _ _ _ _ _ _ us hl=>by obtain ⟨x0,x1,rfl⟩:=ar2 us hl; exact rfl
 have eB:Fg K c_Jumps "cell_after" f58:=⟨a58,i58,k58⟩
 refine ⟨PySem.W.fnOf "law" "law" (Ax Gr) (Aw Gr) (Ag Gr) .none kV33 dc33 pm33 an33 cd33 ct33,fun s v=>.of_eq rfl,fun base _ _=>?_⟩;have aQ:Cal l.prog w K mg base CX0 1 "is_whole" Ed Rv:=⟨_,_,ok_iw eF T,jJ,eF.kp,jO⟩
 have eO:Cal l.prog w K mg base CX0 2 "is_state" Fx spIS:=⟨_,_,ok_is eG T aQ,jK,eG.kp,jP⟩
 have aP:BK l.prog w K mg base CX0 1 c_Grove "kept" DR (ME _):=⟨⟨_,_,ok_kept eX T,iQ,iY⟩,T.cl_Grove⟩
 have j3:IK l.prog w K mg base CX0 2 "Grove" c_Grove EA (MG _):=⟨_,_,RY eY T aP,kF,T.m_Grove,iZ⟩
 have aB:BK l.prog w K mg base CX0 2 c_Grove "linked" AY (FV _):=⟨⟨_,_,ok_link dG T aP,gB,gM⟩,T.cl_Grove⟩
 have aG:BK l.prog w K mg base CX0 2 c_Grove "check_square" Bv (Px _):=⟨⟨_,_,ok_chk bD T aQ,cW,cZ⟩,T.cl_Grove⟩
 have aV:BK l.prog w K mg base CX0 3 c_Grove "leaf" DQ (MC _):=⟨⟨_,_,ok_leaf eU T eO,iP,iX⟩,T.cl_Grove⟩
 have aC:BK l.prog w K mg base CX0 3 c_Grove "level_of" Bu (LU _):=⟨⟨_,_,ok_lev cJ T aG,fH,fM⟩,T.cl_Grove⟩
 have b6:BK l.prog w K mg base CX0 4 c_Grove "quarters" CS (Ru _):=⟨⟨_,_,ok_qua cH T aC,fG,fL⟩,T.cl_Grove⟩
 have aN:BK l.prog w K mg base CX0 4 c_Grove "state_of" Ca (Pt _):=⟨⟨_,_,ok_sta cG T aC,fF,fK⟩,T.cl_Grove⟩
 have bH:BK l.prog w K mg base CX0 4 c_Grove "joined" DE (OG _):=⟨⟨_,_,ok_join dH T aG aB,gC,gN⟩,T.cl_Grove⟩
 have dO:Cal l.prog w K mg base CX0 1 "takes" GT Jv:=⟨_,_,RV j0,kC,j0.kp,kD⟩
 have fP:IK l.prog w K mg base CX0 1 "Amounts" c_Amounts DF (JJ _):=⟨_,_,QC dJ T,jY,T.m_Amounts,gP⟩
 have gR:IK l.prog w K mg base CX0 1 "Places" c_Places DW (JG _):=⟨_,_,QA dR T,jZ,T.m_Places,iE⟩
 have gW:IK l.prog w K mg base CX0 1 "Clause" c_Clause DY (JI _):=⟨_,_,QB dW T,kA,T.m_Clause,iH⟩
 have fT:BK l.prog w K mg base CX0 1 c_Amounts "holds" De (IN _):=⟨⟨_,_,OT cS T,fR,fS⟩,T.cl_Amounts⟩
 have gQ:BK l.prog w K mg base CX0 2 c_Places "holds" DC (IM _):=⟨⟨_,_,OS dE T dO,g9,gK⟩,T.cl_Places⟩
 have bX:BK l.prog w K mg base CX0 3 c_Clause "fits" DZ (OJ _):=⟨⟨_,_,ok_Fits dX T dO fT gQ,iA,iI⟩,T.cl_Clause⟩
 have eP:Cal l.prog w K mg base CX0 4 "deciding" Fy (Rx _):=⟨_,_,ok_dec eK T bX,jM,eK.kp,jR⟩
 have bF:Cal l.prog w K mg base CX0 5 "becomes" Fs (Py _):=⟨_,_,ok_bec fN T eP,jU,fN.kp,jW⟩
 have aK:Cal l.prog w K mg base CX0 1 "read_state" Da Rr:=⟨_,_,ok_rs cL T,iL,cL.kp,iS⟩
 have aS:Cal l.prog w K mg base CX0 2 "read_wanted" Dm spRW:=⟨_,_,ok_rw bY T aK,gX,bY.kp,iB⟩
 have bQ:Cal l.prog w K mg base CX0 1 "read_numbers" Dx spRN:=⟨_,_,ok_rn bI T,fW,bI.kp,gD⟩
 have bR:Cal l.prog w K mg base CX0 3 "read_amounts" Dy (Rt _):=⟨_,_,ok_ram bJ T aK bQ fP,fX,bJ.kp,gF⟩
 have cB:Cal l.prog w K mg base CX0 3 "read_places" DU (Rs _):=⟨_,_,ok_rpl bZ T aS gR,gY,bZ.kp,iC⟩
 have b9:Cal l.prog w K mg base CX0 4 "read_condition" CO (Mz _):=⟨_,_,RW b7 T bR cB,fB,b7.kp,fI⟩
 have cC:Cal l.prog w K mg base CX0 5 "read_clause" DV (spRC _):=⟨_,_,ok_rc cA T aK aS b9 gW,hJ,cA.kp,iD⟩
 have bS:Cal l.prog w K mg base CX0 1 "clause_texts" Dz spCT:=⟨_,_,ok_ct bK T,fY,bK.kp,gG⟩
 have jT:IK l.prog w K mg base CX0 6 "Rule" c_Rule EY (spRI _):=⟨_,_,ok_ri fQ T bS cC,kG,T.m_Rule,jI⟩
 have bV:Cal l.prog w K mg base CX0 8 "read_rule" ET (spRR _):=⟨_,_,ok_rr d6 T jT bF,j4,d6.kp,jB⟩
 have cP:Cal l.prog w K mg base CX0 1 "shown_rule" Ew (OE _):=⟨_,_,ok_show cK T,iK,cK.kp,iR⟩
 have bG:BK l.prog w K mg base CX0 2 c_Jumps "change" DD (Rz _):=⟨⟨_,_,ok_chg dF T cP,gA,gL⟩,T.cl_Jumps⟩
 have fU:IK l.prog w K mg base CX0 3 "Jumps" c_Jumps Ez (MF _):=⟨_,_,RX eT T bG,kE,T.m_Jumps,iW⟩
 have aJ:BK l.prog w K mg base CX0 6 c_Jumps "cell_after" Ch (RA _):=⟨⟨_,_,ok_cel bP T aN aV bF,eB,eE⟩,T.cl_Jumps⟩
 have aF:BK l.prog w K mg base CX0 7 c_Jumps "middle_after" Bq (MB _):=⟨⟨_,_,ok_mid2 bB T aB aJ,cU,cX⟩,T.cl_Jumps⟩
 have aL:Cal l.prog w K mg base CX0 3 "nine_parts" Db (JH _):=⟨_,_,ok_nine cM T aB,iM,cM.kp,iT⟩
 have aR:Cal l.prog w K mg base CX0 1 "fours_of" Ee Ii:=⟨_,_,RZ eJ T,jL,eJ.kp,jQ⟩
 have aH:Cal l.prog w K mg base CX0 3 "met_in_the_middle" BD (Pu _):=⟨_,_,ok_met aW T aB,dP,aW.kp,dQ⟩
 have aE:BK l.prog w K mg base CX0 19 c_Jumps "reckoned" AX (FN _ 3):=⟨⟨_,_,PP cF bC dS T cD cE cV cY hX iF aF aB aL aR aH 3,cD,cE⟩,T.cl_Jumps⟩
 have aY:BK l.prog w K mg base CX0 4 c_Jumps "check_jump" Cg (spCj _):=⟨⟨_,_,ok_cj bO T aC aQ,eA,eD⟩,T.cl_Jumps⟩
 have aX:BK l.prog w K mg base CX0 20 c_Jumps "after" DX (FN _ 3):=⟨⟨_,_,Qz dU T (by decide) aY aE,i8,iG⟩,T.cl_Jumps⟩
 have aI:Cal l.prog w K mg base CX0 1 "_law_at" Ft (spAt K):=⟨_,_,ok_at fO T,jV,fO.kp,jX⟩
 have aU:Cal l.prog w K mg base CX0 1 "_law_same" Em Mx:=⟨_,_,ok_same dB T,j8,dB.kp,jF⟩
 have aD:Cal l.prog w K mg base CX0 1 "_law_stir" El Mw:=⟨_,_,ok_stir dA T,j7,dA.kp,jE⟩
 have bA:Cal l.prog w K mg base CX0 2 "_law_clause_by" CP RB:=⟨_,_,ok_cb4 b8 T aD,fE,b8.kp,fJ⟩
 have dN:Cal l.prog w K mg base CX0 1 "_law_fits" EX Rw:=⟨_,_,ok_fi4 dD T,jA,dD.kp,jH⟩
 have aO:Cal l.prog w K mg base CX0 2 "_law_becomes" CQ Pz:=⟨_,_,ok_be4 bN T dN,g8,bN.kp,gJ⟩
 have cQ:Cal l.prog w K mg base CX0 1 "_law_words" Ex Rn:=⟨_,_,ok_ws4 cN T,iN,cN.kp,iU⟩
 have bW:Cal l.prog w K mg base CX0 2 "_law_text" EV Ro:=⟨_,_,ok_tx4 d9 T cQ,j6,d9.kp,jD⟩
 have aT:Cal l.prog w K mg base CX0 3 "_law_clauses_by" Cq Ry:=⟨_,_,ok_cs4 aZ T bA aO,eQ,aZ.kp,eR⟩
 have bU:Cal l.prog w K mg base CX0 2 "_law_grid_by" DB (spGb K):=⟨_,_,ok_gb bM T aI aD,g6,bM.kp,gI⟩
 have dM:Cal l.prog w K mg base CX0 5 "_law_knit" EW (OF _):=⟨_,_,ok_knit dC T aV bH,j9,dC.kp,jG⟩
 have dL:Cal l.prog w K mg base CX0 5 "_law_told" EU (OD _):=⟨_,_,ok_told d8 T b6 aN,j5,d8.kp,jC⟩
 have bT:Cal l.prog w K mg base CX0 3 "_law_stepped" DA Rp:=⟨_,_,ok_stp bL T aO,fZ,bL.kp,gH⟩
 have cR:Cal l.prog w K mg base CX0 4 "_law_due" Fz OK:=⟨_,_,ok_dueG eN T bT,jN,eN.kp,jS⟩
 have bE:Cal l.prog w K mg base CX0 6 "_law_right" Ey (Rq _):=⟨_,_,ok_rtG cO T aU aC dL,iO,cO.kp,iV⟩
 exact ok_law F_law T j3 aI aT bW bV fU bU dM aX cR bE aU
theorem walk {l:PySem.W.OpenLaw} {q:Program} {loose:List Str} {XP:(Str->Option Value)->Heap->Prop} {YP:World->Heap->Prop} {d:DefRec} {K:Params->PySem.W.Frag} (hn:l.most=some 63) (hdf:d.params.defaults=[])
  (hY:∀ (w:World) (h:Heap),YP w h->(K w.params).In h)
  (F:∀ (w:World) (mg:Str->Option Value) (fa:Addr) (h:Heap),(K w.params).In h->h.Ns mainGlobals mg->mg d.name=some (.ref fa) ->
   ∃ fd:FuncData,(∀ (s:Shared) (u:Value),BindsTo s fd ⟨[u],[]⟩ [("_law_script",u)])/\∀ base:Heap,(K w.params).In base->base.Ns mainGlobals mg->AU l.prog w (K w.params) mg base CX0 30 fa fd ["_law_script"] (Pw (K w.params))) :
  PySem.W.WalkO q loose XP YP l.row.toRowW d [] (fun f vs=>PySem.call f vs) :=
 L2.Po (n:=63) (k:=30) (x:="_law_script") (CX:=fun _=>CX0) (sp:=fun w=>Pw (K w.params)) hn (by decide) hdf ⟨rfl,by decide,by decide⟩ hY F (fun _ _ a ns hl _ hS=>⟨a,ns,rfl,hS,hl,fun _=>rfl⟩) fun _ _ _ _ _ z=>z
end J
theorem PySem.W.Fast.tw16277567383348834965:True:=True.intro
theorem PySem.W.Fast.tw4646247217106177100:True:=True.intro
theorem PySem.W.Fast.tw5299911788724888121:True:=True.intro
theorem PySem.W.Fast.tw8159421943847017851:True:=True.intro
theorem PySem.W.Fast.tw6295401212139222225:True:=True.intro
theorem PySem.W.Fast.tw10081265733129044529:True:=True.intro
theorem PySem.W.Fast.tw15365882314749194863:True:=True.intro
theorem PySem.W.Fast.tw14224528335809514461:True:=True.intro
theorem PySem.W.Fast.tw4829881909401765936:True:=True.intro
theorem PySem.W.Fast.tw2523243352289352958:True:=True.intro
theorem PySem.W.Fast.tw4444416791549587730:True:=True.intro
theorem PySem.W.Fast.tw8078210938538348167:True:=True.intro
theorem PySem.W.Fast.tw9455603144457087040:True:=True.intro
theorem PySem.W.Fast.tw9042469242892502439:True:=True.intro
theorem PySem.W.Fast.tw13246557322088559181:True:=True.intro
theorem PySem.W.Fast.tw16384235132275165237:True:=True.intro
theorem PySem.W.Fast.tw4459775780364345363:True:=True.intro
theorem PySem.W.Fast.tw15020143009843039679:True:=True.intro
theorem PySem.W.Fast.tw10277084646199675697:True:=True.intro
theorem PySem.W.Fast.tw16351130685371803318:True:=True.intro
theorem PySem.W.Fast.tw4800522624239497862:True:=True.intro
theorem PySem.W.Fast.tw11578983929428917601:True:=True.intro
theorem PySem.W.Fast.tw3058658022582432462:True:=True.intro
theorem PySem.W.Fast.tw14941335198704349877:True:=True.intro
theorem PySem.W.Fast.tw18017018545271218335:True:=True.intro
theorem PySem.W.Fast.tw4527223335516515295:True:=True.intro
theorem PySem.W.Fast.tw7017742723486417130:True:=True.intro
theorem PySem.W.Fast.tw2708909427763518753:True:=True.intro
theorem PySem.W.Fast.tw8911340715264973305:True:=True.intro
theorem PySem.W.Fast.tw13640156410995422790:True:=True.intro
theorem PySem.W.Fast.tw18047595171703322428:True:=True.intro
theorem PySem.W.Fast.tw15728205299801654677:True:=True.intro
theorem PySem.W.Fast.tw17938334235313496987:True:=True.intro
theorem PySem.W.Fast.tw16994609290681913151:True:=True.intro
theorem PySem.W.Fast.tw12184493727873726750:True:=True.intro
theorem PySem.W.Fast.tw4079275619924453415:True:=True.intro
theorem PySem.W.Fast.tw17329534024667435861:True:=True.intro
theorem PySem.W.Fast.tw3966743762275417721:True:=True.intro
theorem PySem.W.Fast.tw1371837923881069245:True:=True.intro
theorem PySem.W.Fast.tw11876998882089872903:True:=True.intro
theorem PySem.W.Fast.tw14601122983271905875:True:=True.intro
theorem PySem.W.Fast.tw14314526156500449564:True:=True.intro
theorem PySem.W.Fast.tw18303316856168672010:True:=True.intro
theorem PySem.W.Fast.tw839350802448805909:True:=True.intro
theorem PySem.W.Fast.tw11724359044691384644:True:=True.intro
theorem PySem.W.Fast.tw10814704911130698251:True:=True.intro
theorem PySem.W.Fast.tw13503188485751250681:True:=True.intro
theorem PySem.W.Fast.tw14092114157391240382:True:=True.intro
theorem PySem.W.Fast.tw754333145669775798:True:=True.intro
theorem PySem.W.Fast.tw251596244422434136:True:=True.intro
theorem PySem.W.Fast.tw13900488655419316271:True:=True.intro
theorem PySem.W.Fast.tw10169612333047531804:True:=True.intro
theorem PySem.W.Fast.tw11302119497978498628:True:=True.intro
theorem PySem.W.Fast.tw11838926820646198896:True:=True.intro
theorem PySem.W.Fast.tw18362799497453999384:True:=True.intro
theorem PySem.W.Fast.tw4599776133546044605:True:=True.intro
theorem PySem.W.Fast.tw4513088045727905266:True:=True.intro
theorem PySem.W.Fast.tw12476949729975051179:True:=True.intro
theorem PySem.W.Fast.tw7145015096146929080:True:=True.intro
theorem PySem.W.Fast.tw12450509793358688174:True:=True.intro
theorem PySem.W.Fast.tw11080887600665398588:True:=True.intro
theorem PySem.W.Fast.tw9240950469303358788:True:=True.intro
theorem PySem.W.Fast.tw9657170340978370089:True:=True.intro
theorem PySem.W.Fast.tw9869444874090957158:True:=True.intro
theorem PySem.W.Fast.tw147114702577183414:True:=True.intro
theorem PySem.W.Fast.tw6510328855759032457:True:=True.intro
theorem PySem.W.Fast.tw8400051973519194376:True:=True.intro
theorem PySem.W.Fast.tw7761238663597021630:True:=True.intro
theorem PySem.W.Fast.tw10731958980801923038:True:=True.intro
theorem PySem.W.Fast.tw2209830465206250784:True:=True.intro
theorem PySem.W.Fast.tw9852306706012462496:True:=True.intro
theorem PySem.W.Fast.tw15030297530319593323:True:=True.intro
theorem PySem.W.Fast.tw14157964655008352481:True:=True.intro
theorem PySem.W.Fast.tw2334945468981557235:True:=True.intro
theorem PySem.W.Fast.tw7340648369842501390:True:=True.intro
theorem PySem.W.Fast.tw3634253063446265632:True:=True.intro
theorem PySem.W.Fast.tw15504513110990050442:True:=True.intro
theorem PySem.W.Fast.tw16355728532171224591:True:=True.intro
theorem PySem.W.Fast.tw2948682222814875379:True:=True.intro
theorem PySem.W.Fast.tw12721489224278414902:True:=True.intro
theorem PySem.W.Fast.tw9138589320560639270:True:=True.intro
theorem PySem.W.Fast.tw3367015613731177546:True:=True.intro
theorem PySem.W.Fast.tw13557672892705090834:True:=True.intro
theorem PySem.W.Fast.tw16307501731716680450:True:=True.intro
theorem PySem.W.Fast.tw11431733652382008556:True:=True.intro
theorem PySem.W.Fast.tw9095234768463402948:True:=True.intro
theorem PySem.W.Fast.tw12228938031098722940:True:=True.intro
theorem PySem.W.Fast.tw11113998522124833696:True:=True.intro
theorem PySem.W.Fast.tw17281322166564289018:True:=True.intro
theorem PySem.W.Fast.tw2836590615165135948:True:=True.intro
theorem PySem.W.Fast.tw18114840734168006605:True:=True.intro
theorem PySem.W.Fast.tw9789684391619272641:True:=True.intro
theorem PySem.W.Fast.tw6017950699970094044:True:=True.intro
theorem PySem.W.Fast.tw8845539578861647970:True:=True.intro
theorem PySem.W.Fast.tw16823330974703075460:True:=True.intro
theorem PySem.W.Fast.tw13717599962911210131:True:=True.intro
theorem PySem.W.Fast.tw16900384942488673832:True:=True.intro
theorem PySem.W.Fast.tw2375872842260097859:True:=True.intro
theorem PySem.W.Fast.tw9289934488713714687:True:=True.intro
theorem PySem.W.Fast.tw7839939814623351077:True:=True.intro
theorem PySem.W.Fast.tw4343302623118936033:True:=True.intro
theorem PySem.W.Fast.tw6633083404883583091:True:=True.intro
theorem PySem.W.Fast.tw12822921388755617820:True:=True.intro
open PySem PySem.W PyProof.Rows
set_option maxRecDepth 100000 in
set_option maxHeartbeats 0 in
theorem PySem.Challenge.cw_jumpfield_k52_squares_of_levels_3_and_4_holds : PySem.Challenge.rw_jumpfield_k52_squares_of_levels_3_and_4.Holds := by
 w_on; o_law; k_head; (case hw=>w_witness2)
 k_fill
 refine J.walk (l:=PySem.Challenge.rw_jumpfield_k52_squares_of_levels_3_and_4) rfl rfl (fun w h Y=>PySem.W.kIn_of Y) ?F
 case F =>
  intro w mg fa h KX G hmg;refine' J.fin KX G hmg ?cT ?pg_Amounts ?hd_Amounts ?po_Amounts ?sa_Amounts ?mk_Amounts ?kc_Amounts ?na_Amounts_state ?na_Amounts_numbers ?dY ?pg_Places ?hd_Places ?po_Places ?sa_Places ?mk_Places ?kc_Places ?na_Places_wanted ?dZ ?pg_Clause ?hd_Clause ?po_Clause ?sa_Clause ?mk_Clause ?kc_Clause ?na_Clause_cell ?na_Clause_conditions ?na_Clause_makes ?fA ?pg_Grove ?hd_Grove ?po_Grove ?sa_Grove ?mk_Grove ?kc_Grove ?na_Grove_levels ?na_Grove_parts ?na_Grove_numbers ?na_Grove_bares ?na_Grove_amounts ?na_Grove_boxes ?fV ?pg_Rule ?hd_Rule ?po_Rule ?sa_Rule ?mk_Rule ?kc_Rule ?na_Rule_text ?na_Rule_clauses ?eZ ?pg_Jumps ?hd_Jumps ?po_Jumps ?sa_Jumps ?mk_Jumps ?kc_Jumps ?na_Jumps_grove ?na_Jumps_memories ?na_Jumps_rule ?na_Jumps_known_squares ?na_Jumps_known_cells ?a0 ?l0 ?c0 ?k0 ?a1 ?l1 ?c1 ?k1 ?a2 ?l2 ?c2 ?k2 ?a3 ?l3 ?c3 ?k3 ?a4 ?l4 ?c4 ?k4 ?a5 ?l5 ?c5 ?k5 ?a6 ?l6 ?c6 ?k6 ?a7 ?l7 ?c7 ?k7 ?a8 ?l8 ?c8 ?k8 ?a9 ?l9 ?c9 ?k9 ?a10 ?l10 ?c10 ?k10 ?a11 ?l11 ?c11 ?k11 ?a12 ?l12 ?c12 ?k12 ?a13 ?l13 ?c13 ?k13 ?a14 ?l14 ?c14 ?k14 ?a15 ?l15 ?c15 ?k15 ?a16 ?l16 ?c16 ?k16 ?a17 ?l17 ?c17 ?k17 ?a18 ?l18 ?c18 ?k18 ?a19 ?l19 ?c19 ?k19 ?a20 ?l20 ?c20 ?k20 ?a21 ?l21 ?c21 ?k21 ?a22 ?l22 ?c22 ?k22 ?a23 ?l23 ?c23 ?k23 ?a24 ?l24 ?c24 ?k24 ?a25 ?l25 ?c25 ?k25 ?a26 ?l26 ?c26 ?k26 ?a27 ?l27 ?c27 ?k27 ?a28 ?l28 ?c28 ?k28 ?a29 ?l29 ?c29 ?k29 ?a30 ?l30 ?c30 ?k30 ?a31 ?l31 ?c31 ?k31 ?a32 ?l32 ?c32 ?k32 ?a33 ?l33 ?c33 ?k33 ?a34 ?i34 ?l34 ?c34 ?k34 ?a35 ?i35 ?l35 ?c35 ?k35 ?a36 ?i36 ?l36 ?c36 ?k36 ?a37 ?i37 ?l37 ?c37 ?k37 ?a38 ?i38 ?l38 ?c38 ?k38 ?a39 ?i39 ?l39 ?c39 ?k39 ?a40 ?i40 ?l40 ?c40 ?k40 ?a41 ?i41 ?l41 ?c41 ?k41 ?a42 ?i42 ?l42 ?c42 ?k42 ?a43 ?i43 ?l43 ?c43 ?k43 ?a44 ?i44 ?l44 ?c44 ?k44 ?a45 ?i45 ?l45 ?c45 ?k45 ?a46 ?i46 ?l46 ?c46 ?k46 ?a47 ?i47 ?l47 ?c47 ?k47 ?a48 ?i48 ?l48 ?c48 ?k48 ?a49 ?i49 ?l49 ?c49 ?k49 ?a50 ?i50 ?l50 ?c50 ?k50 ?a51 ?i51 ?l51 ?c51 ?k51 ?a52 ?i52 ?l52 ?c52 ?k52 ?a53 ?i53 ?l53 ?c53 ?k53 ?a54 ?i54 ?l54 ?c54 ?k54 ?a55 ?i55 ?l55 ?c55 ?k55 ?a56 ?i56 ?l56 ?c56 ?k56 ?a57 ?i57 ?l57 ?c57 ?k57 ?a58 ?i58 ?l58 ?c58 ?k58 ?z_all ?z_any ?z_bool ?z_enumerate ?z_int ?z_isinstance ?z_len ?z_min ?z_range ?z_str ?z_tuple ?z_zip ?g_STATES ?g_NEIGHBOURS ?g_STATE_FIGURES ?gx_STATE_FIGURES ?g_AMOUNT_FIGURES ?gx_AMOUNT_FIGURES ?g_ANY_SIGN ?gx_ANY_SIGN ?g_TOP_LEVEL ?g_CLAUSE_MARK ?gx_CLAUSE_MARK ?g_LEAST_JUMPED
  (case cT=>k_is)
  (case pg_Amounts=>k_is)
  (case hd_Amounts=>k_is)
  (case po_Amounts=>k_is)
  (case sa_Amounts=>k_is)
  (case mk_Amounts=>k_is)
  (case kc_Amounts=>k_is)
  (case na_Amounts_state=>k_is)
  (case na_Amounts_numbers=>k_is)
  (case dY=>k_is)
  (case pg_Places=>k_is)
  (case hd_Places=>k_is)
  (case po_Places=>k_is)
  (case sa_Places=>k_is)
  (case mk_Places=>k_is)
  (case kc_Places=>k_is)
  (case na_Places_wanted=>k_is)
  (case dZ=>k_is)
  (case pg_Clause=>k_is)
  (case hd_Clause=>k_is)
  (case po_Clause=>k_is)
  (case sa_Clause=>k_is)
  (case mk_Clause=>k_is)
  (case kc_Clause=>k_is)
  (case na_Clause_cell=>k_is)
  (case na_Clause_conditions=>k_is)
  (case na_Clause_makes=>k_is)
  (case fA=>k_is)
  (case pg_Grove=>k_is)
  (case hd_Grove=>k_is)
  (case po_Grove=>k_is)
  (case sa_Grove=>k_is)
  (case mk_Grove=>k_is)
  (case kc_Grove=>k_is)
  (case na_Grove_levels=>k_is)
  (case na_Grove_parts=>k_is)
  (case na_Grove_numbers=>k_is)
  (case na_Grove_bares=>k_is)
  (case na_Grove_amounts=>k_is)
  (case na_Grove_boxes=>k_is)
  (case fV=>k_is)
  (case pg_Rule=>k_is)
  (case hd_Rule=>k_is)
  (case po_Rule=>k_is)
  (case sa_Rule=>k_is)
  (case mk_Rule=>k_is)
  (case kc_Rule=>k_is)
  (case na_Rule_text=>k_is)
  (case na_Rule_clauses=>k_is)
  (case eZ=>k_is)
  (case pg_Jumps=>k_is)
  (case hd_Jumps=>k_is)
  (case po_Jumps=>k_is)
  (case sa_Jumps=>k_is)
  (case mk_Jumps=>k_is)
  (case kc_Jumps=>k_is)
  (case na_Jumps_grove=>k_is)
  (case na_Jumps_memories=>k_is)
  (case na_Jumps_rule=>k_is)
  (case na_Jumps_known_squares=>k_is)
  (case na_Jumps_known_cells=>k_is)
  (case a0=>k_is)
  (case l0=>k_is)
  (case c0=>k_is)
  (case k0=>k_is)
  (case a1=>k_is)
  (case l1=>k_is)
  (case c1=>k_is)
  (case k1=>k_is)
  (case a2=>k_is)
  (case l2=>k_is)
  (case c2=>k_is)
  (case k2=>k_is)
  (case a3=>k_is)
  (case l3=>k_is)
  (case c3=>k_is)
  (case k3=>k_is)
  (case a4=>k_is)
  (case l4=>k_is)
  (case c4=>k_is)
  (case k4=>k_is)
  (case a5=>k_is)
  (case l5=>k_is)
  (case c5=>k_is)
  (case k5=>k_is)
  (case a6=>k_is)
  (case l6=>k_is)
  (case c6=>k_is)
  (case k6=>k_is)
  (case a7=>k_is)
  (case l7=>k_is)
  (case c7=>k_is)
  (case k7=>k_is)
  (case a8=>k_is)
  (case l8=>k_is)
  (case c8=>k_is)
  (case k8=>k_is)
  (case a9=>k_is)
  (case l9=>k_is)
  (case c9=>k_is)
  (case k9=>k_is)
  (case a10=>k_is)
  (case l10=>k_is)
  (case c10=>k_is)
  (case k10=>k_is)
  (case a11=>k_is)
  (case l11=>k_is)
  (case c11=>k_is)
  (case k11=>k_is)
  (case a12=>k_is)
  (case l12=>k_is)
  (case c12=>k_is)
  (case k12=>k_is)
  (case a13=>k_is)
  (case l13=>k_is)
  (case c13=>k_is)
  (case k13=>k_is)
  (case a14=>k_is)
  (case l14=>k_is)
  (case c14=>k_is)
  (case k14=>k_is)
  (case a15=>k_is)
  (case l15=>k_is)
  (case c15=>k_is)
  (case k15=>k_is)
  (case a16=>k_is)
  (case l16=>k_is)
  (case c16=>k_is)
  (case k16=>k_is)
  (case a17=>k_is)
  (case l17=>k_is)
  (case c17=>k_is)
  (case k17=>k_is)
  (case a18=>k_is)
  (case l18=>k_is)
  (case c18=>k_is)
  (case k18=>k_is)
  (case a19=>k_is)
  (case l19=>k_is)
  (case c19=>k_is)
  (case k19=>k_is)
  (case a20=>k_is)
  (case l20=>k_is)
  (case c20=>k_is)
  (case k20=>k_is)
  (case a21=>k_is)
  (case l21=>k_is)
  (case c21=>k_is)
  (case k21=>k_is)
  (case a22=>k_is)
  (case l22=>k_is)
  (case c22=>k_is)
  (case k22=>k_is)
  (case a23=>k_is)
  (case l23=>k_is)
  (case c23=>k_is)
  (case k23=>k_is)
  (case a24=>k_is)
  (case l24=>k_is)
  (case c24=>k_is)
  (case k24=>k_is)
  (case a25=>k_is)
  (case l25=>k_is)
  (case c25=>k_is)
  (case k25=>k_is)
  (case a26=>k_is)
  (case l26=>k_is)
  (case c26=>k_is)
  (case k26=>k_is)
  (case a27=>k_is)
  (case l27=>k_is)
  (case c27=>k_is)
  (case k27=>k_is)
  (case a28=>k_is)
  (case l28=>k_is)
  (case c28=>k_is)
  (case k28=>k_is)
  (case a29=>k_is)
  (case l29=>k_is)
  (case c29=>k_is)
  (case k29=>k_is)
  (case a30=>k_is)
  (case l30=>k_is)
  (case c30=>k_is)
  (case k30=>k_is)
  (case a31=>k_is)
  (case l31=>k_is)
  (case c31=>k_is)
  (case k31=>k_is)
  (case a32=>k_is)
  (case l32=>k_is)
  (case c32=>k_is)
  (case k32=>k_is)
  (case a33=>k_is)
  (case l33=>k_is)
  (case c33=>k_is)
  (case k33=>k_is)
  (case a34=>k_is)
  (case i34=>k_is)
  (case l34=>k_is)
  (case c34=>k_is)
  (case k34=>k_is)
  (case a35=>k_is)
  (case i35=>k_is)
  (case l35=>k_is)
  (case c35=>k_is)
  (case k35=>k_is)
  (case a36=>k_is)
  (case i36=>k_is)
  (case l36=>k_is)
  (case c36=>k_is)
  (case k36=>k_is)
  (case a37=>k_is)
  (case i37=>k_is)
  (case l37=>k_is)
  (case c37=>k_is)
  (case k37=>k_is)
  (case a38=>k_is)
  (case i38=>k_is)
  (case l38=>k_is)
  (case c38=>k_is)
  (case k38=>k_is)
  (case a39=>k_is)
  (case i39=>k_is)
  (case l39=>k_is)
  (case c39=>k_is)
  (case k39=>k_is)
  (case a40=>k_is)
  (case i40=>k_is)
  (case l40=>k_is)
  (case c40=>k_is)
  (case k40=>k_is)
  (case a41=>k_is)
  (case i41=>k_is)
  (case l41=>k_is)
  (case c41=>k_is)
  (case k41=>k_is)
  (case a42=>k_is)
  (case i42=>k_is)
  (case l42=>k_is)
  (case c42=>k_is)
  (case k42=>k_is)
  (case a43=>k_is)
  (case i43=>k_is)
  (case l43=>k_is)
  (case c43=>k_is)
  (case k43=>k_is)
  (case a44=>k_is)
  (case i44=>k_is)
  (case l44=>k_is)
  (case c44=>k_is)
  (case k44=>k_is)
  (case a45=>k_is)
  (case i45=>k_is)
  (case l45=>k_is)
  (case c45=>k_is)
  (case k45=>k_is)
  (case a46=>k_is)
  (case i46=>k_is)
  (case l46=>k_is)
  (case c46=>k_is)
  (case k46=>k_is)
  (case a47=>k_is)
  (case i47=>k_is)
  (case l47=>k_is)
  (case c47=>k_is)
  (case k47=>k_is)
  (case a48=>k_is)
  (case i48=>k_is)
  (case l48=>k_is)
  (case c48=>k_is)
  (case k48=>k_is)
  (case a49=>k_is)
  (case i49=>k_is)
  (case l49=>k_is)
  (case c49=>k_is)
  (case k49=>k_is)
  (case a50=>k_is)
  (case i50=>k_is)
  (case l50=>k_is)
  (case c50=>k_is)
  (case k50=>k_is)
  (case a51=>k_is)
  (case i51=>k_is)
  (case l51=>k_is)
  (case c51=>k_is)
  (case k51=>k_is)
  (case a52=>k_is)
  (case i52=>k_is)
  (case l52=>k_is)
  (case c52=>k_is)
  (case k52=>k_is)
  (case a53=>k_is)
  (case i53=>k_is)
  (case l53=>k_is)
  (case c53=>k_is)
  (case k53=>k_is)
  (case a54=>k_is)
  (case i54=>k_is)
  (case l54=>k_is)
  (case c54=>k_is)
  (case k54=>k_is)
  (case a55=>k_is)
  (case i55=>k_is)
  (case l55=>k_is)
  (case c55=>k_is)
  (case k55=>k_is)
  (case a56=>k_is)
  (case i56=>k_is)
  (case l56=>k_is)
  (case c56=>k_is)
  (case k56=>k_is)
  (case a57=>k_is)
  (case i57=>k_is)
  (case l57=>k_is)
  (case c57=>k_is)
  (case k57=>k_is)
  (case a58=>k_is)
  (case i58=>k_is)
  (case l58=>k_is)
  (case c58=>k_is)
  (case k58=>k_is)
  (case z_all=>k_is)
  (case z_any=>k_is)
  (case z_bool=>k_is)
  (case z_enumerate=>k_is)
  (case z_int=>k_is)
  (case z_isinstance=>k_is)
  (case z_len=>k_is)
  (case z_min=>k_is)
  (case z_range=>k_is)
  (case z_str=>k_is)
  (case z_tuple=>k_is)
  (case z_zip=>k_is)
  (case g_STATES=>k_is)
  (case g_NEIGHBOURS=>k_is)
  (case g_STATE_FIGURES=>k_is)
  (case gx_STATE_FIGURES=>decide +kernel)
  (case g_AMOUNT_FIGURES=>k_is)
  (case gx_AMOUNT_FIGURES=>decide +kernel)
  (case g_ANY_SIGN=>k_is)
  (case gx_ANY_SIGN=>decide +kernel)
  (case g_TOP_LEVEL=>k_is)
  (case g_CLAUSE_MARK=>k_is)
  (case gx_CLAUSE_MARK=>decide +kernel)
  (case g_LEAST_JUMPED=>k_is)
