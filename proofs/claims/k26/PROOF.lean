import PyProof.Rows.All
import Wide.All
import OpenK.AllK
import Wide.FinOn
import Lean
import PyProof.EqAt
import PyProof.EqKinds
import PyProof.TupleCall
import PyProof.Rows.CatFin
import PyProof.StrLawsIn
import KE.IntTextLaws
import KE.IntTextText
import PyProof.SumAny
import PyProof.SeqI3
import PyProof.WalkInts
import PyProof.NeKinds
import KE.KDictLaws
import PyProof.DictIter
import PyProof.DictWalks
import PyProof.Rows.DictUnroll
import KE.KSortTup
import KE.KDictSum
import KE.KSortKey
import PyProof.Rows.SortRuns
import PySem.Challenge.RW_jumpfield_k26_fields_refused
set_option Elab.async false
set_option linter.all false
set_option maxRecDepth 100000
set_option maxHeartbeats 8000000
namespace L2
open PySem PySem.Spec PyProof.Rows
abbrev Key:=Sum Int Str
def Js:Key->Value->Bool
 | .inl k,v=>Value.isInt k v
 | .inr x,v=>Value.isStrOf x v
def keyH (w:World):Key->Int
 | .inl k=>hashInt k
 | .inr x=>hashStr w x
theorem BL:∀ {k:Key} {v:Value},Js k v=true->(∃ i t,k=Sum.inl i/\v=Value.int i t)\/(∃ x t,k=Sum.inr x/\v=Value.str x t)
 | .inl i,v,h=>by
  obtain ⟨t,e⟩:=Value.isInt_shape (k:=i) (v:=v) h;exact .inl ⟨i,t,rfl,e⟩
 | .inr x,v,h=>by
  obtain ⟨t,e⟩:=Value.isStrOf_shape (x:=x) (v:=v) h;exact .inr ⟨x,t,rfl,e⟩
theorem Pa (i:Int) (t:Tok):Js (.inl i) (.int i t)=true:=by simp [Js,Value.isInt]
theorem OZ (x:Str) (t:Tok):Js (.inr x) (.str x t)=true:=by simp [Js,Value.isStrOf]
theorem key_ll (a b:Int):decide ((Sum.inl a:Key)=Sum.inl b)=(a == b):=by
 by_cases e:a=b
 ·subst e; simp
 ·have h:¬ (Sum.inl a:Key)=Sum.inl b:=fun q=>e (Sum.inl.inj q);rw [decide_eq_false h];exact (beq_eq_false_iff_ne.mpr e).symm
theorem key_rr (a b:Str):decide ((Sum.inr a:Key)=Sum.inr b)=decide (a=b):=by
 by_cases e:a=b
 ·subst e; simp
 ·have h:¬ (Sum.inr a:Key)=Sum.inr b:=fun q=>e (Sum.inr.inj q);rw [decide_eq_false h,decide_eq_false e]
theorem key_lr (a:Int) (b:Str):decide ((Sum.inl a:Key)=Sum.inr b)=false:=decide_eq_false (fun q=>nomatch q)
theorem key_rl (a:Str) (b:Int):decide ((Sum.inr a:Key)=Sum.inl b)=false:=decide_eq_false (fun q=>nomatch q)
def Cf (prog:Program) (w:World):PySem.KeyKind prog w Key where
 is:=Js
 hash:=keyH w
 inj:=fun v a b ha hb=>by
  rcases BL ha with ⟨i,t,rfl,rfl⟩ | ⟨x,t,rfl,rfl⟩
  ·rcases BL hb with ⟨j,u,rfl,e⟩ | ⟨y,u,rfl,e⟩
   ·injection e with e1 _; rw [e1]
   ·exact nomatch e
  ·rcases BL hb with ⟨j,u,rfl,e⟩ | ⟨y,u,rfl,e⟩
   ·exact nomatch e
   ·injection e with e1 _; rw [e1]
 byValue:=fun k v h=>by
  rcases BL h with ⟨i,t,rfl,rfl⟩ | ⟨x,t,rfl,rfl⟩<;>rfl
 pyHash:=fun hv h=>by
  rcases BL hv with ⟨i,t,rfl,rfl⟩ | ⟨x,t,rfl,rfl⟩
  ·exact wpAny_pyHash_int h
  ·exact wpAny_pyHash_str h
 eqBool:=fun hu hv h=>by
  rcases BL hu with ⟨i,t,rfl,rfl⟩ | ⟨x,t,rfl,rfl⟩
  ·rcases BL hv with ⟨j,u,rfl,rfl⟩ | ⟨y,u,rfl,rfl⟩
   ·rw [key_ll] at h; exact wpAny_eqBool_int h
   ·rw [key_lr] at h; exact SeqAt.EqAt.int_str i t y u _ _ _ _ h
  ·rcases BL hv with ⟨j,u,rfl,rfl⟩ | ⟨y,u,rfl,rfl⟩
   ·rw [key_rl] at h; exact SeqAt.EqAt.str_int x t j u _ _ _ _ h
   ·rw [key_rr] at h; exact wpAny_eqBool_str h
 «strs»:=fun k x t v h=>by
  rcases BL h with ⟨i,u,rfl,e⟩ | ⟨y,u,rfl,e⟩
  ·exact nomatch e
  ·injection e with e1 _
   subst e1;cases v<;>rfl
theorem Ma (prog:Program) (w:World) (i:Int) (t:Tok):(Cf prog w).is (.inl i) (.int i t)=true:=Pa i t
theorem LZ (prog:Program) (w:World) (x:Str) (t:Tok):(Cf prog w).is (.inr x) (.str x t)=true:=OZ x t
end L2
namespace L2
open PySem PySem.Spec PyProof.Rows
inductive V where
 | non | bl (b:Bool) | int (i:Int) | str (x:Str) | byt (b:Array UInt8) | flt (b:UInt64) | ref (a:Addr) | ty (n:String)
 deriving DecidableEq
def AR:V->Value->Prop
 | .non,u=>u=Value.none
 | .bl b,u=>u=Value.bool b
 | .int i,u=>∃ t,u=Value.int i t
 | .str x,u=>∃ t,u=Value.str x t
 | .byt b,u=>∃ t,u=Value.bytes b t
 | .flt b,u=>∃ t,u=Value.float b t
 | .ref a,u=>u=Value.ref a
 | .ty n,u=>u=Value.type n
abbrev AG:List V->List Value->Prop:=Paired AR
theorem AG.length {xs:List V} {us:List Value} (r:AG xs us):xs.length=us.length:=Paired.length r
theorem AG.get:∀ {xs:List V} {us:List Value} {i:Nat} {x:V},AG xs us->xs[i]?=some x->∃ u,us[i]?=some u/\AR x u
 | _,_,_,_,.nil,e=>by simp at e
 | _,_,0,_,.cons r _,e=>by simp at e; subst e; exact ⟨_,rfl,r⟩
 | _,_,i+1,x,.cons _ t,e=>by
  obtain ⟨u,h1,h2⟩:=AG.get (i:=i) (x:=x) t (by simpa using e);exact ⟨u,by simpa using h1,h2⟩
theorem AG.set {x:V} {u:Value} (r:AR x u):∀ {xs:List V} {us:List Value} (i:Nat),AG xs us->AG (xs.set i x) (us.set i u)
 | _,_,_,.nil=>.nil
 | _,_,0,.cons _ t=>.cons r t
 | _,_,i+1,.cons q t=>.cons q (AG.set r i t)
theorem AG.append:∀ {xs ys:List V} {us ws:List Value},AG xs us->AG ys ws->AG (xs ++ ys) (us ++ ws)
 | _,_,_,_,.nil,s=>s
 | _,_,_,_,.cons r t,s=>.cons r (AG.append t s)
theorem AG.take:∀ {xs:List V} {us:List Value} (n:Nat),AG xs us->AG (xs.take n) (us.take n)
 | _,_,0,_=>.nil
 | _,_,_+1,.nil=>.nil
 | _,_,n+1,.cons r t=>.cons r (AG.take n t)
theorem AG.drop:∀ {xs:List V} {us:List Value} (n:Nat),AG xs us->AG (xs.drop n) (us.drop n)
 | _,_,0,r=>r
 | _,_,_+1,.nil=>.nil
 | _,_,n+1,.cons _ t=>AG.drop n t
theorem AG.none_of:∀ {xs:List V} {us:List Value} {i:Nat},AG xs us->xs[i]?=none->us[i]?=none:=fun {xs us i} r e=>by
 have h1:=r.length;have h2:xs.length<=i:=List.getElem?_eq_none_iff.mp e;exact List.getElem?_eq_none_iff.mpr (by lia)
def Fq:Option V->Option Value->Prop
 | some v,some u=>AR v u
 | none,none=>True
 | _,_=>False
def KV {κ:Type}:List (κ×V)->List (κ×Value)->Prop:=Paired fun (p:κ×V) (q:κ×Value)=>p.1=q.1/\AR p.2 q.2
def kV:Key->V
 | .inl i=>.int i
 | .inr x=>.str x
inductive HO where
 /-- a list -/
 | lst (xs:List V)
 /-- a tuple (never changes) -/
 | tup (xs:List V)
 /-- a dict whose keys are ints and texts; one whose keys are tuples of ints and texts (the empty one is both) -/
 | dK (kvs:List (Key×V)) | dT (kvs:List (List Key×V))
 /-- a set of ints: its members,its size -/
 | set (S:Int->Bool) (n:Nat)
 /-- an instance of the class at C,its dict at dx,its attributes -/
 | ins (C dx:Addr) (fs:List (Str×V))
 /-- the dict of the instance at x -/
 | own (x:Addr)
 /-- the dict of an exception -/
 | xd (fs:List (Str×V))
 /-- a bound method,f of x -/
 | met (f x:Addr)
 /-- a range object lo,lo+1,.. below hi -/
 | rng (lo hi:Int)
 /-- a thing that is known to the object (the script; a dict while a loop walks it): read,never written while it is so -/
 | frz (o:Obj) (u:HO)
 /-- a code object's table -/
 | tbl (ps:Array Value)
 /-- any other thing,by what is true of its one object (a def of one's own: SetO a S n:=HO.ext fun h=>..) -/
 | ext (φ:Heap->Prop)
abbrev Hp:=Addr->Option HO
def upd (H:Hp) (a:Addr) (o:HO):Hp:=fun b=>if b=a then some o else H b
theorem Ah {H:Hp} {a:Addr} {o:HO}:upd H a o a=some o:=by unfold upd; rw [if_pos rfl]
theorem Ak {H:Hp} {a b:Addr} {o:HO} (h:b≠a):upd H a o b=H b:=by unfold upd; rw [if_neg h]
theorem Bb {H:Hp} {a b:Addr} {o u:HO} (h:H a=some o) (h':H b=some u) (d:o≠u):a≠b:=by
 intro e; subst e; rw [h] at h'; exact d (Option.some.inj h')
theorem An {H:Hp} {a b:Addr} {o:HO} (h:H a=some o) (h':H b=none):a≠b:=by
 intro e; subst e; rw [h] at h'; cases h'
section
variable (P:Program) (w:World)
def AS (H:Hp) (h:Heap) (a:Addr):HO->Prop
 | .lst xs=>xs.length<=sizeLine/\∃ (its:List Value) (n:Nat),AG xs its/\h.get? a=some { cls:=.type "list",data:=.seq its.toArray n }
 | .tup xs=>xs.length<=sizeLine/\∃ its:List Value,AG xs its/\IsTup h a its.toArray
 | .dK kvs=>kvs.length<=sizeLine/\(a == sysModules)=false/\∃ vs,KV kvs vs/\h.DictOf (Cf P w) a vs
 | .dT kvs=>kvs.length<=sizeLine/\(a == sysModules)=false/\∃ xs:List (List Key×Addr×Value),
   Paired (fun (p:List Key×V) (q:List Key×Addr×Value)=>p.1=q.1/\H q.2.1=some (.tup (p.1.map kV))/\AR p.2 q.2.2) kvs xs /\
   ∃ o es ep,h.get? a=some o/\o.ExactDict/\o.data=.dict es ep/\es.toList=xs.map (entryOfKey (tupleKind (Cf P w)))/\(xs.map (·.1)).Nodup
 | .set S n=>h.SetOf (intKind P w) a S n
 | .ins C dx fs=>H dx=some (.own a)/\fs.length<=1000/\dx≠a/\h.get? a=some (PySem.W.instObj C dx) /\
   ∃ mA,h.Ns1 dx mA/\(∀ f,Fq (fs.lookup f) (mA f))/\PySem.Within mA (fs.map (·.1))
 | .own _=>∃ o,h.get? a=some o
 | .xd fs=>∃ mA,h.Ns1 a mA/\∀ f,Fq (fs.lookup f) (mA f)
 | .rng lo hi=>∃ t u v,h.get? a=some { cls:=.type "range",data:=.fields #[.int lo t,.int hi u,.int 1 v] }
 | .frz o u=>h.get? a=some o/\AS H h a u
 | .tbl ps=>h.get? a=some { cls:=.none,data:=.fields ps }
 | .met f x=>h.get? a=some (PySem.W.methodObj (.ref f) (.ref x))
 | .ext φ=>φ h/\(∃ o,h.get? a=some o)/\∀ h1 h2:Heap,φ h1->(∀ o,h1.get? a=some o->h2.get? a=some o)->φ h2
def HOk (H:Hp) (h:Heap):Prop:=∀ a o,H a=some o->AS P w H h a o
end
section
variable {P:Program} {w:World} {H H':Hp} {h h':Heap} {a:Addr} {o:HO}
theorem AS.lt (x:AS P w H h a o):a < h.objs.size:=by
 cases o with
 | lst xs=>obtain ⟨_,_,_,_,e⟩:=x; exact Heap.lt_size e
 | tup xs=>obtain ⟨_,_,_,p⟩:=x; exact p.lt
 | dK kvs=>obtain ⟨_,_,_,_,o,_,_,e,_⟩:=x; exact Heap.lt_size e
 | dT kvs=>obtain ⟨_,_,_,_,o,_,_,e,_⟩:=x; exact Heap.lt_size e
 | set S n=>obtain ⟨o,_,_,_,e,_⟩:=x; exact Heap.lt_size e
 | ins C dx fs=>obtain ⟨_,_,_,e,_⟩:=x; exact Heap.lt_size e
 | own y=>obtain ⟨_,e⟩:=x; exact Heap.lt_size e
 | xd fs=>obtain ⟨_,⟨_,_,_,e,_⟩,_⟩:=x; exact Heap.lt_size e
 | rng lo hi=>obtain ⟨_,_,_,e⟩:=x; exact Heap.lt_size e
 | frz ob u=>obtain ⟨e,_⟩:=x; exact Heap.lt_size e
 | tbl ps=>exact Heap.lt_size (show h.get? a=some _ from x)
 | met f y=>exact Heap.lt_size (show h.get? a=some _ from x)
 | ext φ=>obtain ⟨_,⟨_,e⟩,_⟩:=x; exact Heap.lt_size e
theorem Paired.mapP {α β:Type} {F G:α->β->Prop}:∀ {l₁:List α} {l₂:List β},Paired F l₁ l₂->(∀ a b,F a b->G a b)->Paired G l₁ l₂
 | _,_,.nil,_=>.nil
 | _,_,.cons r t,f=>.cons (f _ _ r) (Paired.mapP t f)
theorem AS.stay (x:AS P w H h a o) (k:∀ b u,(b=a\/H b=some (.own a))->h.get? b=some u->h'.get? b=some u)
  (ho:∀ b,H b=some (.own a)->H' b=some (.own a)) (ht:∀ b xs,H b=some (.tup xs)->H' b=some (.tup xs)):AS P w H' h' a o:=by
 induction o with
 | lst xs=>obtain ⟨z,its,n,r,e⟩:=x; exact ⟨z,its,n,r,k _ _ (.inl rfl) e⟩
 | tup xs=>obtain ⟨z,its,r,ob,e,c⟩:=x; exact ⟨z,its,r,ob,k _ _ (.inl rfl) e,c⟩
 | dK kvs=>obtain ⟨z,y,vs,r,ob,es,ep,e,c⟩:=x; exact ⟨z,y,vs,r,ob,es,ep,k _ _ (.inl rfl) e,c⟩
 | dT kvs =>
  obtain ⟨z,y,xs,r,ob,es,ep,e,c⟩:=x;exact ⟨z,y,xs,Paired.mapP r fun p q z=>⟨z.1,ht _ _ z.2.1,z.2.2⟩,ob,es,ep,k _ _ (.inl rfl) e,c⟩
 | set S n=>obtain ⟨ob,es,ep,t,e,c⟩:=x; exact ⟨ob,es,ep,t,k _ _ (.inl rfl) e,c⟩
 | ins C dx fs =>
  obtain ⟨d,z,ne,e,mA,⟨od,es,ep,e2,c⟩,r⟩:=x;exact ⟨ho _ d,z,ne,k _ _ (.inl rfl) e,mA,⟨od,es,ep,k _ _ (.inr d) e2,c⟩,r⟩
 | own y=>obtain ⟨ob,e⟩:=x; exact ⟨ob,k _ _ (.inl rfl) e⟩
 | xd fs=>obtain ⟨mA,⟨od,es,ep,e,c⟩,r⟩:=x; exact ⟨mA,⟨od,es,ep,k _ _ (.inl rfl) e,c⟩,r⟩
 | rng lo hi=>obtain ⟨t,u,v,e⟩:=x; exact ⟨t,u,v,k _ _ (.inl rfl) e⟩
 | frz ob u ih=>obtain ⟨e,q⟩:=x; exact ⟨k _ _ (.inl rfl) e,ih q⟩
 | tbl ps =>
  have e:h.get? a=some { cls:=.none,data:=.fields ps }:=x;show h'.get? a=some { cls:=.none,data:=.fields ps };exact k a _ (.inl rfl) e
 | met f y =>
  have e:h.get? a=some (PySem.W.methodObj (.ref f) (.ref y)):=x;show h'.get? a=some (PySem.W.methodObj (.ref f) (.ref y));exact k a _ (.inl rfl) e
 | ext φ=>obtain ⟨p,⟨o,e⟩,st⟩:=x; exact ⟨st _ _ p fun o q=>k _ _ (.inl rfl) q,⟨o,k _ _ (.inl rfl) e⟩,st⟩
theorem HOk.lt (x:HOk P w H h) (e:H a=some o):a < h.objs.size:=(x a o e).lt
theorem HOk.fresh (x:HOk P w H h) (e:h.objs.size<=a):H a=none:=by
 cases q:H a with
 | none=>rfl
 | some u=>exact absurd (Nat.lt_of_lt_of_le (x.lt q) e) (Nat.lt_irrefl _)
theorem HOk.kept (x:HOk P w H h) (k:∀ b u,h.get? b=some u->h'.get? b=some u):HOk P w H h':=fun a o e =>
 (x a o e).stay (fun b u _ q=>k b u q) (fun _ q=>q) fun _ _ q=>q
theorem HOk.laid (x:HOk P w H h) (k:∀ b u,h.get? b=some u->h'.get? b=some u) (hp:h.objs.size<=a) (new:AS P w (upd H a o) h' a o):HOk P w (upd H a o) h':=fun b u e=>by
 have hn:=x.fresh hp;by_cases hb:b=a
 ·subst hb; rw [Ah] at e; cases e; exact new
 ·rw [Ak hb] at e;exact (x b u e).stay (fun c v _ q=>k c v q) (fun c q=>by rw [Ak (An q hn)]; exact q) fun c xs q=>by rw [Ak (An q hn)]; exact q
end
def Rd (H:Hp) (a:Addr) (u:HO):Prop:=H a=some u\/∃ o,H a=some (.frz o u)
theorem Rd.ok {P:Program} {w:World} {H:Hp} {h:Heap} {a:Addr} {u:HO} (r:Rd H a u) (x:HOk P w H h):AS P w H h a u:=by
 rcases r with r | ⟨o,r⟩
 ·exact x a u r
 ·obtain ⟨_,q⟩:=x a _ r;exact q
def Mut:Option HO->Prop
 | some (.lst _)=>True
 | some (.dK _)=>True
 | some (.dT _)=>True
 | some (.set _ _)=>True
 | some (.ins _ _ _)=>True
 | some (.ext _)=>True
 | _=>False
section
variable {P:Program} {w:World} {H:Hp} {h h':Heap} {x e:Addr} {o':HO}
theorem HOk.write (ok:HOk P w H h) (mu:Mut (H x)) (he:e=x\/H e=some (.own x)) (k:∀ b u,b≠e->h.get? b=some u->h'.get? b=some u) (heo:∃ u,h'.get? e=some u)
  (new:AS P w (upd H x o') h' x o'):HOk P w (upd H x o') h':=fun b u q=>by
 have nown:∀ c y,H c=some (.own y)->c≠x:=fun c y r z=>by subst z; rw [r] at mu; exact mu
 have ntup:∀ c xs,H c=some (.tup xs)->c≠x:=fun c xs r z=>by subst z; rw [r] at mu; exact mu
 by_cases hb:b=x
 ·subst hb; rw [Ah] at q; cases q; exact new
 ·rw [Ak hb] at q;by_cases hbe:b=e
  ·have q':H b=some (.own x):=by
    rcases he with z | z
    ·exact absurd (hbe.trans z) hb
    ·rw [hbe]; exact z
   rw [q] at q'; cases q';obtain ⟨v,hv⟩:=heo;exact ⟨v,by rw [hbe]; exact hv⟩
  ·refine (ok b u q).stay (fun c v hc r=>k c v ?_ r) (fun c r=>by rw [Ak (nown c b r)]; exact r) fun c xs r=>by rw [Ak (ntup c xs r)]; exact r
   rcases hc with rfl | hc
   ·exact hbe
   ·rintro rfl;rcases he with z | z
    ·exact nown c b hc z
    ·rw [hc] at z; cases z; exact hb rfl
end
structure Un (fs ex:List Addr) (H H':Hp) (h h':Heap):Prop where
 keep:∀ b o,h.get? b=some o->H b=none->b ∉ fs->b ∉ ex->h'.get? b=some o
 slot:∀ b o,h.get? b=some o->H b=none->b ∈ fs->b ∉ ex->∃ sl,h'.get? b=some { o with slots:=sl }
 free:∀ b o,h.get? b=some o->H b=none->b ∉ ex->H' b=none
 there:∀ b o,h.get? b=some o->b ∉ ex->∃ o',h'.get? b=some o'
 tups:∀ b xs,H b=some (.tup xs)->H' b=some (.tup xs)
 frzs:∀ b o u,H b=some (.frz o u)->H' b=some (.frz o u)
 tbls:∀ b ps,H b=some (.tbl ps)->∃ more,H' b=some (.tbl (ps ++ more))
section
variable {fs fs' ex ex':List Addr} {H H1 H2:Hp} {h h1 h2 h':Heap} {a x e:Addr} {o:HO}
theorem Un.any (u:Un fs ex H H1 h h1) {b:Addr} {ob:Obj} (q:h.get? b=some ob) (n:H b=none) (hx:b ∉ ex):∃ sl,h1.get? b=some { ob with slots:=sl }:=by
 by_cases hb:b ∈ fs
 ·exact u.slot b ob q n hb hx
 ·exact ⟨ob.slots,u.keep b ob q n hb hx⟩
theorem Un.kept (k:∀ b u,h.get? b=some u->h'.get? b=some u):Un fs ex H H h h' :=
 ⟨fun b ob q _ _ _=>k b ob q,fun b ob q _ _ _=>⟨ob.slots,k b ob q⟩,fun _ _ _ n _=>n,fun b ob q _=>⟨ob,k b ob q⟩,fun _ _ q=>q,fun _ _ _ q=>q,fun _ ps q=>⟨#[],by rw [q]; simp⟩⟩
theorem Un.refl:Un fs ex H H h h:=Un.kept fun _ _ q=>q
theorem Un.laid (k:∀ b u,h.get? b=some u->h'.get? b=some u) (hp:h.objs.size<=a) (hn:H a=none):Un fs ex H (upd H a o) h h' where
 keep:=fun b u q _ _ _=>k b u q
 slot:=fun b u q _ _ _=>⟨u.slots,k b u q⟩
 free:=fun b u q n _=>by rw [Ak (Nat.ne_of_lt (Nat.lt_of_lt_of_le (Heap.lt_size q) hp))]; exact n
 there:=fun b u q _=>⟨u,k b u q⟩
 tups:=fun b xs q=>by rw [Ak (An q hn)]; exact q
 frzs:=fun b u xs q=>by rw [Ak (An q hn)]; exact q
 tbls:=fun b ps q=>⟨#[],by rw [Ak (An q hn),q]; simp⟩
theorem Un.write (mu:Mut (H x)) (he:e=x\/H e=some (.own x)) (k:∀ b u,b≠e->h.get? b=some u->h'.get? b=some u) (heo:∃ u,h'.get? e=some u):Un fs ex H (upd H x o) h h':=by
 have hx:∀ b,H b=none->b≠x:=fun b n z=>by subst z; rw [n] at mu; exact mu
 have hb:∀ b,H b=none->b≠e:=fun b n z=>by
  subst z;rcases he with r | r
  ·exact hx b n r
  ·rw [n] at r; cases r
 have hm:∀ b u,H b=some u->¬ Mut (some u)->b≠x:=fun b u q nm z=>by subst z; rw [q] at mu; exact nm mu
 refine ⟨fun b u q n _ _=>k b u (hb b n) q,fun b u q n _ _=>⟨u.slots,k b u (hb b n) q⟩,fun b u q n _=>by rw [Ak (hx b n)]; exact n,fun b u q _=>?_,
  fun b xs q=>by rw [Ak (hm b _ q fun z=>z)]; exact q,fun b u xs q=>by rw [Ak (hm b _ q fun z=>z)]; exact q,fun b ps q=>⟨#[],by rw [Ak (hm b _ q fun z=>z),q]; simp⟩⟩
 by_cases hbe:b=e
 ·subst hbe; exact heo
 ·exact ⟨u,k b u hbe q⟩
end
def trk (h:Heap) (H:Hp):List Addr:=(List.range h.objs.size).filter fun a=>(H a).isSome
def IE (h:Heap) (H:Hp):Heap:=PySem.W.hideAll h (trk h H)
theorem Pc (h:Heap) (H:Hp):(IE h H).objs.size=h.objs.size:=PySem.W.hideAll_size _ _
theorem QP {h:Heap} {H:Hp} {b:Addr} {o:Obj} (e:h.get? b=some o) (n:H b=none):(IE h H).get? b=some o :=
 PySem.W.hideAll_get _ e fun hm=>by
  have q:(H b).isSome=true:=(List.mem_filter.mp hm).2;rw [n] at q; simp at q
theorem of_hidT {h:Heap} {H:Hp} {b:Addr} {o:Obj} (e:(IE h H).get? b=some o):h.get? b=some o/\H b=none:=by
 have e':h.get? b=some o:=PySem.W.of_hideAll (trk h H) e;refine ⟨e',?_⟩;cases q:H b with
 | none=>rfl
 | some x =>
  have hm:b ∈ trk h H:=List.mem_filter.mpr ⟨List.mem_range.mpr (Heap.lt_size e'),by simp [q]⟩;have z:(IE h H).get? b=none:=PySem.W.hideAll_none (trk h H) hm;rw [z] at e; cases e
end L2
namespace L2
open PySem PySem.Spec PyProof.Rows
structure Mod (K:PySem.W.Frag) (mg:Str->Option Value) (base:Heap):Prop where
 kin:K.In base
 glob:base.Ns mainGlobals mg
 blt:∃ mb,base.Ns builtinsNs mb/\∀ x:Str,x≠"__name__" -> mb x=bootBuiltins x
 nolimit:base.NoLimit
/-- the context: a def's body (or a comprehension's block) running. base: fixed through the whole law; s₀,H₀: the entry; outer: the frames whose slots others may change (a def's callers); stack: all frames that run;
 ex: iterators that were made ahead of the entry and are walked here (a comprehension's); fn: the names whose cells were made at the entry (a def: all; a comprehension's block: its own); calm: not within an except suite; pn: pins that every state bears; xe: what is wanted of an exception that leaves the code -/
structure Cx where
 prog:Program
 w:World
 K:PySem.W.Frag
 mg:Str->Option Value
 base:Heap
 A:Around
 N:List Str
 s₀:Shared
 H₀:Hp
 env:Env
 outer:List Env
 stack:List Env
 ex:List Addr
 fn:Str->Bool
 calm:Bool
 pn:List (Addr×Obj)
 xe:Value->Shared->Prop
def frs (l:List Env):List Addr:=l.filterMap (·.frame)
abbrev Cx.fs (X:Cx):List Addr:=frs X.outer
def Vis (sc:Scope) (x:Str):Prop:=sc.names.lookup x=some .local\/sc.names.lookup x=some .cell\/sc.names.lookup x=some .free
def Loc (sc:Scope) (x:Str):Prop:=sc.names.lookup x=some .local\/sc.names.lookup x=some .cell
def Look (env:Env) (h:Heap) (m:Str->Option Value) (x:Str) (u:Value):Prop :=
 (env.kindOf x=some .local/\m x=some u)\/((env.kindOf x=some .cell\/env.kindOf x=some .free)/\∃ c,env.cells.lookup x=some c/\h.IsCell c (some u))
structure Cx.Ok (X:Cx):Prop where
 mod:Mod X.K X.mg X.base
 kind:X.env.scope.kind=.function
 glob:X.env.globals=mainGlobals
 blt:X.env.builtins=builtinsNs
 above:X.s₀.heap.objs.size<=X.env.locals
 inj:∀ x y c,X.env.cells.lookup x=some c->X.env.cells.lookup y=some c->x=y
 has:∀ x,(X.env.kindOf x=some .cell\/X.env.kindOf x=some .free)->∃ c,X.env.cells.lookup x=some c
 cab:∀ x c,X.fn x=true->X.env.cells.lookup x=some c->X.s₀.heap.objs.size<=c
 hd:X.calm=true->X.A.handled=none
 frames:X.A.frames=some X.stack
 stk:X.stack=X.outer\/(X.stack=X.env :: X.outer/\X.env.frame=some X.env.locals)
 exf:∀ b ∈ X.ex,b≠X.env.locals/\∀ x c,X.env.cells.lookup x=some c->c≠b
 bs:∀ b o,X.base.get? b=some o->X.s₀.heap.get? b=some o/\X.H₀ b=none
 bsz:X.base.objs.size<=X.s₀.heap.objs.size
 noex:∀ b o,X.base.get? b=some o->b ∉ X.ex
 exfs:∀ b ∈ X.ex,b ∉ X.fs
 funs:X.s₀.heap.FunFrames X.base X.outer
 frf:∀ b ∈ X.fs,X.H₀ b=none
structure Inv (X:Cx) (pins:List (Addr×Obj)) (σ:List (Option V)) (H:Hp) (s:Shared):Prop where
 ok:X.Ok
 os:s.os=X.s₀.os
 bare:AllBare s.gens
 base:Un X.fs X.ex X.H₀ H X.s₀.heap s.heap
 loc:∃ m,s.heap.Ns X.env.locals m/\∀ (i:Nat) (x:Str) (v:V),X.N[i]?=some x->σ[i]?=some (some v)->Vis X.env.scope x->∃ u,AR v u/\Look X.env s.heap m x u
 cell:∀ x c,X.env.cells.lookup x=some c->∃ v,s.heap.IsCell c v
 free:H X.env.locals=none
 freeC:∀ x c,X.env.cells.lookup x=some c->H c=none
 pin:∀ p ∈ X.pn ++ pins,s.heap.get? p.1=some p.2/\H p.1=none/\p.1≠X.env.locals/\p.1 ∉ X.fs/\∀ v,p.2.data≠.cell v
 hok:HOk X.prog X.w H s.heap
 len:σ.length=X.N.length
section
variable {X:Cx} {pins:List (Addr×Obj)} {σ:List (Option V)} {H H':Hp} {s:Shared} {h':Heap}
theorem Cx.Ok.nofr (ok:X.Ok) {b:Addr} {o:Obj} (e:X.base.get? b=some o):b ∉ X.fs:=fun hb=>by
 have:=(ok.funs.mem hb).1;rw [e] at this; cases this
theorem Inv.bs (I:Inv X pins σ H s):∀ b o,X.base.get? b=some o->s.heap.get? b=some o/\H b=none:=fun b o e =>
 ⟨I.base.keep b o (I.ok.bs b o e).1 (I.ok.bs b o e).2 (I.ok.nofr e) (I.ok.noex b o e),I.base.free b o (I.ok.bs b o e).1 (I.ok.bs b o e).2 (I.ok.noex b o e)⟩
theorem Inv.bk (I:Inv X pins σ H s):∀ b o,X.base.get? b=some o->s.heap.get? b=some o:=fun b o e=>(I.bs b o e).1
theorem Inv.mod (I:Inv X pins σ H s):Mod X.K X.mg X.base:=I.ok.mod
theorem Inv.kIn (I:Inv X pins σ H s):X.K.In s.heap:=I.ok.mod.kin.keeps I.bk
theorem Inv.lt (I:Inv X pins σ H s):X.env.locals < s.heap.objs.size:=let ⟨_,hn,_⟩:=I.loc; hn.lt
theorem Inv.sz (I:Inv X pins σ H s):X.s₀.heap.objs.size<=s.heap.objs.size:=Nat.le_trans I.ok.above (Nat.le_of_lt I.lt)
theorem Inv.nofs (I:Inv X pins σ H s) {a:Addr} (h:s.heap.objs.size<=a):a ∉ X.fs:=fun hb=>by
 obtain ⟨_,o,ho,_⟩:=I.ok.funs.mem hb;exact absurd (Nat.lt_of_lt_of_le (Heap.lt_size ho) (Nat.le_trans I.sz h)) (Nat.lt_irrefl _)
theorem Inv.cne (I:Inv X pins σ H s):∀ x c,X.env.cells.lookup x=some c->c≠X.env.locals:=fun x c e z=>by
 obtain ⟨v,o,ho,hd⟩:=I.cell x c e;obtain ⟨m,⟨o',es,ep,ho',hd',_⟩,_⟩:=I.loc;rw [z,ho'] at ho; cases ho; rw [hd'] at hd; cases hd
theorem Inv.funs (I:Inv X pins σ H s):s.heap.FunFrames X.base X.outer:=by
 have all:∀ (l:List Env),(∀ b ∈ frs l,b ∈ X.fs)->X.s₀.heap.FunFrames X.base l->s.heap.FunFrames X.base l:=by
  intro l;induction l with
  | nil=>intro _ _; trivial
  | cons env r ih =>
   intro hs hl;obtain ⟨hk,⟨L,o,hf,hn,ho,hd⟩,hr⟩:=hl;have hL:L ∈ X.fs:=hs L (by unfold frs; rw [List.filterMap_cons,hf]; exact List.mem_cons_self);obtain ⟨sl,e⟩:=I.base.slot L o ho (I.ok.frf L hL) hL fun z=>I.ok.exfs L z hL;exact ⟨hk,⟨L,_,hf,hn,e,hd⟩,ih (fun b hb=>hs b (by unfold frs; rw [List.filterMap_cons,hf]; exact List.mem_cons_of_mem _ hb)) hr⟩
 exact all X.outer (fun _ hb=>hb) I.ok.funs
theorem Inv.stack (I:Inv X pins σ H s):s.heap.FunFrames X.base X.stack:=by
 rcases I.ok.stk with e | ⟨e,hf⟩
 ·rw [e]; exact I.funs
 ·rw [e];obtain ⟨m,hn,_⟩:=I.loc;refine .cons (by rw [I.ok.kind]; decide) hf hn ?_ I.funs;exact Heap.get?_none_of_le (Nat.le_trans I.ok.bsz I.ok.above)
theorem Inv.stkSub (I:Inv X pins σ H s):∀ b ∈ frs X.stack,b ∈ X.env.locals :: X.fs:=fun b hb=>by
 rcases I.ok.stk with e | ⟨e,hf⟩
 ·rw [e] at hb; exact List.mem_cons_of_mem _ hb
 ·rw [e] at hb;unfold frs at hb;rw [List.filterMap_cons,hf] at hb;exact hb
theorem Inv.stkFree (I:Inv X pins σ H s):∀ b ∈ frs X.stack,H b=none:=fun b hb=>by
 rcases List.mem_cons.mp (I.stkSub b hb) with e | hb
 ·rw [e]; exact I.free
 ·obtain ⟨_,o,ho,_⟩:=I.ok.funs.mem hb;exact I.base.free b o ho (I.ok.frf b hb) fun z=>I.ok.exfs b z hb
theorem Inv.step {g':Array GenState} {t':Nat} {d':Drawn} {ch:List Addr} (I:Inv X pins σ H s)
  (hch:∀ b ∈ ch,(b ∈ X.ex\/X.s₀.heap.objs.size<=b)/\b≠X.env.locals/\(∀ x c,X.env.cells.lookup x=some c->c≠b)/\∀ p ∈ X.pn ++ pins,p.1≠b)
  (keep:∀ b o,b≠X.env.locals->b ∉ X.fs->b ∉ ch->s.heap.get? b=some o->H b=none->h'.get? b=some o)
  (slot:∀ b o,b≠X.env.locals->b ∈ X.fs->b ∉ ch->s.heap.get? b=some o->H b=none->∃ sl,h'.get? b=some { o with slots:=sl }) (free:∀ b o,b ∉ ch->s.heap.get? b=some o->H b=none->H' b=none)
  (there:∀ b o,b ∉ ch->s.heap.get? b=some o->∃ o',h'.get? b=some o')
  (tups:∀ b xs,H b=some (.tup xs)->H' b=some (.tup xs)) (frzs:∀ b o u,H b=some (.frz o u)->H' b=some (.frz o u)) (tbls:∀ b ps,H b=some (.tbl ps)->∃ more,H' b=some (.tbl (ps ++ more)))
  (ns:∀ m,s.heap.Ns X.env.locals m->h'.Ns X.env.locals m) (hok:HOk X.prog X.w H' h') (hg:AllBare g') :
  Inv X pins σ H' { s with heap:=h',gens:=g',drawn:=d',toks:=t' }:=by
 have neL:∀ b o,X.s₀.heap.get? b=some o->b≠X.env.locals:=fun b o e=>Nat.ne_of_lt (Nat.lt_of_lt_of_le (Heap.lt_size e) I.ok.above);have neC:∀ b o,X.s₀.heap.get? b=some o->b ∉ X.ex->b ∉ ch:=fun b o e hx hb=>by
  rcases (hch b hb).1 with z | z
  ·exact hx z
  ·exact absurd (Nat.lt_of_lt_of_le (Heap.lt_size e) z) (Nat.lt_irrefl _)
 have cellK:∀ x c,X.env.cells.lookup x=some c->∀ v,s.heap.IsCell c v->h'.IsCell c v:=fun x c e v ⟨o,ho,hd⟩=>by
  have nch:c ∉ ch:=fun z=>(hch c z).2.2.1 x c e rfl;by_cases hc:c ∈ X.fs
  ·obtain ⟨sl,q⟩:=slot c o (I.cne x c e) hc nch ho (I.freeC x c e);exact ⟨_,q,hd⟩
  ·exact ⟨o,keep c o (I.cne x c e) hc nch ho (I.freeC x c e),hd⟩
 refine ⟨I.ok,I.os,hg,⟨fun b o e n hb hx=>?_,fun b o e n hb hx=>?_,fun b o e n hx=>?_,fun b o e hx=>?_,fun b xs e=>tups b xs (I.base.tups b xs e),fun b o xs e=>frzs b o xs (I.base.frzs b o xs e),fun b ps e=>?_⟩,?_,fun x c e=>?_,?_,fun x c e=>?_,fun p hp=>?_,hok,I.len⟩
 ·exact keep b o (neL b o e) hb (neC b o e hx) (I.base.keep b o e n hb hx) (I.base.free b o e n hx)
 ·obtain ⟨sl,e1⟩:=I.base.slot b o e n hb hx;obtain ⟨sl',e2⟩:=slot b _ (neL b o e) hb (neC b o e hx) e1 (I.base.free b o e n hx);exact ⟨sl',e2⟩
 ·obtain ⟨o',e1⟩:=I.base.there b o e hx;exact free b o' (neC b o e hx) e1 (I.base.free b o e n hx)
 ·obtain ⟨o',e1⟩:=I.base.there b o e hx;exact there b o' (neC b o e hx) e1
 ·obtain ⟨m1,e1⟩:=I.base.tbls b ps e;obtain ⟨m2,e2⟩:=tbls b _ e1;exact ⟨m1 ++ m2,by rw [e2,Array.append_assoc]⟩
 ·obtain ⟨m,hn,hl⟩:=I.loc;refine ⟨m,ns m hn,fun i x v e1 e2 e3=>?_⟩;obtain ⟨u,r,l⟩:=hl i x v e1 e2 e3;refine ⟨u,r,?_⟩;rcases l with l | ⟨k,c,e,z⟩
  ·exact .inl l
  ·exact .inr ⟨k,c,e,cellK x c e _ z⟩
 ·obtain ⟨v,z⟩:=I.cell x c e;exact ⟨v,cellK x c e v z⟩
 ·obtain ⟨m,⟨o,_,_,ho,_⟩,_⟩:=I.loc;exact free _ o (fun z=>(hch _ z).2.1 rfl) ho I.free
 ·obtain ⟨v,o,ho,hd⟩:=I.cell x c e;exact free c o (fun z=>(hch c z).2.2.1 x c e rfl) ho (I.freeC x c e)
 ·obtain ⟨e,n,ne,nf,d⟩:=I.pin p hp;have nch:p.1 ∉ ch:=fun z=>(hch p.1 z).2.2.2 p hp rfl;exact ⟨keep p.1 p.2 ne nf nch e n,free p.1 p.2 nch e n,ne,nf,d⟩
theorem Inv.un {t':Nat} (I:Inv X pins σ H s) (u:Un X.fs [] H H' s.heap h') (hok:HOk X.prog X.w H' h'):Inv X pins σ H' { s with heap:=h',toks:=t' }:=by
 obtain ⟨m,⟨o,es,ep,ho,r⟩,_⟩:=id I.loc;obtain ⟨sl,hL⟩:=u.any ho I.free (by simp);exact I.step (g':=s.gens) (d':=s.drawn) (ch:=[]) (fun _ z=>nomatch z) (fun b o _ hb _ e n=>u.keep b o e n hb (by simp)) (fun b o _ hb _ e n=>u.slot b o e n hb (by simp)) (fun b o _ e n=>u.free b o e n (by simp)) (fun b o _ e=>u.there b o e (by simp)) u.tups u.frzs u.tbls (fun m' hm=>by
  obtain ⟨o',es',ep',ho',r'⟩:=hm;rw [ho] at ho'; cases ho';exact ⟨_,es',ep',hL,r'⟩) hok I.bare
theorem Inv.call {g':Array GenState} {t':Nat} {d':Drawn} {ch:List Addr} (I:Inv X pins σ H s) (u:Un (frs X.stack) ch H H' s.heap h') (hok:HOk X.prog X.w H' h') (hg:AllBare g')
  (hch:∀ b ∈ ch,(b ∈ X.ex\/X.s₀.heap.objs.size<=b)/\b≠X.env.locals/\(∀ x c,X.env.cells.lookup x=some c->c≠b)/\∀ p ∈ X.pn ++ pins,p.1≠b) :
  Inv X pins σ H' { s with heap:=h',gens:=g',drawn:=d',toks:=t' }:=by
 obtain ⟨m,⟨o,es,ep,ho,r⟩,_⟩:=id I.loc;obtain ⟨sl,hL⟩:=u.any ho I.free fun z=>(hch _ z).2.1 rfl;exact I.step (ch:=ch) hch (fun b o hL hb hc e n=>u.keep b o e n (fun z=>(List.mem_cons.mp (I.stkSub b z)).elim hL hb) hc) (fun b o _ _ hc e n=>u.any e n hc) (fun b o hc e n=>u.free b o e n hc) (fun b o hc e=>u.there b o e hc) u.tups u.frzs u.tbls (fun m' hm=>by
  obtain ⟨o',es',ep',ho',r'⟩:=hm;rw [ho] at ho'; cases ho';exact ⟨_,es',ep',hL,r'⟩) hok hg
theorem Inv.turned {t':Nat} {it:Addr} (I:Inv X pins σ H s) (k:∀ b o,b≠it->s.heap.get? b=some o->h'.get? b=some o) (hn:H it=none) (hL:it≠X.env.locals)
  (h1:it ∈ X.ex\/X.s₀.heap.objs.size<=it) (h2:∀ x c,X.env.cells.lookup x=some c->c≠it) (h3:∀ p ∈ X.pn ++ pins,p.1≠it):Inv X pins σ H { s with heap:=h',toks:=t' }:=by
 have nit:∀ b u,H b=some u->b≠it:=fun b u e z=>by rw [z,hn] at e; cases e
 refine I.step (g':=s.gens) (d':=s.drawn) (ch:=[it]) (fun b hb=>?_) (fun b o _ _ hc e _=>k b o (fun z=>hc (by simp [z])) e) (fun b o _ _ hc e _=>⟨o.slots,k b o (fun z=>hc (by simp [z])) e⟩) (fun _ _ _ _ n=>n)
  (fun b o hc e=>⟨o,k b o (fun z=>hc (by simp [z])) e⟩) (fun _ _ e=>e) (fun _ _ _ e=>e) (fun b ps e=>⟨#[],by rw [e]; simp⟩) (fun m hm=>?_) (fun b u e=>?_) I.bare
 ·have e:b=it:=by simpa using hb
  subst e;exact ⟨h1,hL,h2,h3⟩
 ·obtain ⟨o,es,ep,ho,r⟩:=hm;exact ⟨o,es,ep,k _ o (Ne.symm hL) ho,r⟩
 ·refine (I.hok b u e).stay (fun c v hc q=>k c v ?_ q) (fun _ q=>q) fun _ _ q=>q;rcases hc with z | z
  ·rw [z]; exact nit b u e
  ·exact nit c _ z
theorem Inv.tok (I:Inv X pins σ H s) (t:Nat):Inv X pins σ H { s with toks:=t }:=I.un (h':=s.heap) (t':=t) Un.refl I.hok
theorem Inv.kept {t':Nat} (I:Inv X pins σ H s) (k:∀ b u,s.heap.get? b=some u->h'.get? b=some u):Inv X pins σ H { s with heap:=h',toks:=t' }:=I.un (Un.kept k) (I.hok.kept k)
theorem Inv.laid {a:Addr} {o:HO} {t':Nat} (I:Inv X pins σ H s) (k:∀ b u,s.heap.get? b=some u->h'.get? b=some u) (hp:s.heap.objs.size<=a) (new:AS X.prog X.w (upd H a o) h' a o) :
  Inv X pins σ (upd H a o) { s with heap:=h',toks:=t' }:=I.un (Un.laid k hp (I.hok.fresh hp)) (I.hok.laid k hp new)
theorem Inv.write {x e:Addr} {o:HO} {t':Nat} (I:Inv X pins σ H s) (mu:Mut (H x)) (he:e=x\/H e=some (.own x)) (k:∀ b u,b≠e->s.heap.get? b=some u->h'.get? b=some u) (heo:∃ u,h'.get? e=some u)
  (new:AS X.prog X.w (upd H x o) h' x o):Inv X pins σ (upd H x o) { s with heap:=h',toks:=t' }:=I.un (Un.write mu he k heo) (I.hok.write mu he k heo new)
theorem Inv.weak {σ':List (Option V)} (I:Inv X pins σ H s) (hl:σ'.length=σ.length) (w:∀ (i:Nat) v,σ'[i]?=some (some v)->σ[i]?=some (some v)):Inv X pins σ' H s :=
 ⟨I.ok,I.os,I.bare,I.base,let ⟨m,hn,hl'⟩:=I.loc; ⟨m,hn,fun i x v e1 e2 e3=>hl' i x v e1 (w i v e2) e3⟩,I.cell,I.free,I.freeC,I.pin,I.hok,hl.trans I.len⟩
theorem Inv.pins_of {pins':List (Addr×Obj)} (I:Inv X pins σ H s) (h:∀ p ∈ pins',s.heap.get? p.1=some p.2/\H p.1=none/\p.1≠X.env.locals/\p.1 ∉ X.fs/\∀ v,p.2.data≠.cell v):Inv X pins' σ H s :=
 ⟨I.ok,I.os,I.bare,I.base,I.loc,I.cell,I.free,I.freeC,fun p hp=>(List.mem_append.mp hp).elim (fun z=>I.pin p (List.mem_append_left _ z)) (h p),I.hok,I.len⟩
theorem Ip {N:List Str} (hN:N.Nodup) {i j:Nat} {x:Str} (a:N[i]?=some x) (b:N[j]?=some x):i=j:=by
 obtain ⟨h1,e1⟩:=List.getElem?_eq_some_iff.mp a;obtain ⟨h2,e2⟩:=List.getElem?_eq_some_iff.mp b;exact (List.getElem_inj hN).mp (e1.trans e2.symm)
theorem Jj {M:Model} {A:Around} {E:Value->Shared->Prop} {i:Nat} {x:Str} {v:V} {u:Value} {Q:Unit->Shared->Prop} (I:Inv X pins σ H s) (hN:X.N.Nodup) (hi:X.N[i]?=some x) (hx:Loc X.env.scope x) (r:AR v u)
  (h:∀ s',Inv X pins (σ.set i (some v)) H s'->(∃ a,Heap.SameBut a s.heap s'.heap/\(a=X.env.locals\/X.env.cells.lookup x=some a))->Q () s') (hf:X.fn x=true\/X.env.scope.names.lookup x=some .local:=by first | exact .inl rfl | exact .inr rfl | assumption):wpAny M A (storeName X.env x u) Q E s:=by
 obtain ⟨m,hn,hl⟩:=id I.loc;have hcls:(X.env.scope.kind == .class || (X.env.scope.kind == .module && X.env.locals != X.env.globals))=false:=by rw [I.ok.kind]; rfl
 have hiσ:i < σ.length:=by rw [I.len]; exact (List.getElem?_eq_some_iff.mp hi).1
 have cne:=I.cne;have tracked:∀ {a:Addr} {h':Heap},(∃ o,s.heap.get? a=some o/\H a=none)->Heap.SameBut a s.heap h'->HOk X.prog X.w H h':=fun {a h'} ha hs b ob e=>by
  obtain ⟨_,_,hfree⟩:=ha;refine (I.hok b ob e).stay (fun c w' hc q=>(hs.2 c ?_).trans q) (fun _ q=>q) fun _ _ q=>q;rintro rfl;rcases hc with rfl | hc
  ·rw [hfree] at e; cases e
  ·rw [hfree] at hc; cases hc
 rcases hx with hk | hk
 ·refine wpAny_storeName_local hk hn (fun h' hn' hs=>?_) hcls;obtain ⟨oL,_,_,hoL,_⟩:=id hn;refine h _ ⟨I.ok,I.os,I.bare,⟨fun b o e n hb hx=>?_,fun b o e n hb hx=>?_,I.base.free,fun b o e hx=>?_,I.base.tups,I.base.frzs,I.base.tbls⟩,⟨_,hn',fun j y v' e1 e2 e3=>?_⟩,fun y c e=>?_,I.free,I.freeC,fun p hp=>?_,tracked ⟨oL,hoL,I.free⟩ hs,by simpa using I.len⟩ ⟨_,hs,.inl rfl⟩
  ·exact (hs.2 b (Nat.ne_of_lt (Nat.lt_of_lt_of_le (Heap.lt_size e) I.ok.above))).trans (I.base.keep b o e n hb hx)
  ·obtain ⟨sl,e1⟩:=I.base.slot b o e n hb hx;exact ⟨sl,(hs.2 b (Nat.ne_of_lt (Nat.lt_of_lt_of_le (Heap.lt_size e) I.ok.above))).trans e1⟩
  ·obtain ⟨o',e1⟩:=I.base.there b o e hx;exact ⟨o',(hs.2 b (Nat.ne_of_lt (Nat.lt_of_lt_of_le (Heap.lt_size e) I.ok.above))).trans e1⟩
  ·by_cases hj:j=i
   ·subst hj;rw [hi] at e1; cases e1;rw [List.getElem?_set_self hiσ] at e2;cases e2;exact ⟨u,r,.inl ⟨hk,by simp⟩⟩
   ·rw [List.getElem?_set_ne (Ne.symm hj)] at e2;obtain ⟨u',r',q⟩:=hl j y v' e1 e2 e3;refine ⟨u',r',?_⟩;rcases q with ⟨k,e⟩ | ⟨k,c,e,z⟩
    ·refine .inl ⟨k,?_⟩;have:y≠x:=fun e=>hj (Ip hN e1 (e ▸ hi));simp [this,e]
    ·exact .inr ⟨k,c,e,z.sameBut hs (cne y c e)⟩
  ·obtain ⟨w',z⟩:=I.cell y c e;exact ⟨w',z.sameBut hs (cne y c e)⟩
  ·obtain ⟨e,n,ne,nf,d⟩:=I.pin p hp;exact ⟨(hs.2 p.1 ne).trans e,n,ne,nf,d⟩
 ·have hfn:X.fn x=true:=by
   rcases hf with z | z
   ·exact z
   ·rw [z] at hk; cases hk
  obtain ⟨c,hc⟩:=I.ok.has x (.inl hk);obtain ⟨w',z⟩:=I.cell x c hc;refine wpAny_storeName_cell I.ok.kind hk hc z (fun h' hc' hs=>?_);obtain ⟨oc,hoc,hocd⟩:=id z;refine h { s with heap:=h' } ⟨I.ok,I.os,I.bare,⟨fun b o e n hb hx=>?_,fun b o e n hb hx=>?_,I.base.free,fun b o e hx=>?_,I.base.tups,I.base.frzs,I.base.tbls⟩,⟨m,hn.sameBut hs (Ne.symm (cne x c hc)),fun j y v' e1 e2 e3=>?_⟩,fun y c' e=>?_,I.free,I.freeC,fun p hp=>?_,tracked ⟨oc,hoc,I.freeC x c hc⟩ hs,by simpa using I.len⟩ ⟨c,hs,.inr hc⟩
  ·exact (hs.2 b (Nat.ne_of_lt (Nat.lt_of_lt_of_le (Heap.lt_size e) (I.ok.cab x c hfn hc)))).trans (I.base.keep b o e n hb hx)
  ·obtain ⟨sl,e1⟩:=I.base.slot b o e n hb hx;exact ⟨sl,(hs.2 b (Nat.ne_of_lt (Nat.lt_of_lt_of_le (Heap.lt_size e) (I.ok.cab x c hfn hc)))).trans e1⟩
  ·obtain ⟨o',e1⟩:=I.base.there b o e hx;exact ⟨o',(hs.2 b (Nat.ne_of_lt (Nat.lt_of_lt_of_le (Heap.lt_size e) (I.ok.cab x c hfn hc)))).trans e1⟩
  ·by_cases hj:j=i
   ·subst hj;rw [hi] at e1; cases e1;rw [List.getElem?_set_self hiσ] at e2;cases e2;exact ⟨u,r,.inr ⟨.inl hk,c,hc,hc'⟩⟩
   ·rw [List.getElem?_set_ne (Ne.symm hj)] at e2;obtain ⟨u',r',q⟩:=hl j y v' e1 e2 e3;refine ⟨u',r',?_⟩;rcases q with q | ⟨k,c',e,z'⟩
    ·exact .inl q
    ·refine .inr ⟨k,c',e,z'.sameBut hs ?_⟩;rintro rfl;exact hj (Ip hN e1 (I.ok.inj _ _ _ e hc ▸ hi))
  ·by_cases hcc:c'=c
   ·subst hcc; exact ⟨_,hc'⟩
   ·obtain ⟨w2,z2⟩:=I.cell y c' e;exact ⟨w2,z2.sameBut hs hcc⟩
  ·obtain ⟨e,n,ne,nf,d⟩:=I.pin p hp;refine ⟨(hs.2 p.1 ?_).trans e,n,ne,nf,d⟩;intro q;rw [q,hoc] at e;have q':oc=p.2:=Option.some.inj e;exact d w' (by rw [<-q']; exact hocd)
theorem Ie {M:Model} {A:Around} {E:Value->Shared->Prop} {i:Nat} {x:Str} {v:V} {u:Value} {Q:Unit->Shared->Prop} (I:Inv X pins σ H s) (hN:X.N.Nodup) (hi:X.N[i]?=some x) (hx:Loc X.env.scope x) (r:AR v u)
  (h:∀ s',Inv X pins (σ.set i (some v)) H s'->Q () s') (hf:X.fn x=true\/X.env.scope.names.lookup x=some .local:=by first | exact .inl rfl | exact .inr rfl | assumption):wpAny M A (storeName X.env x u) Q E s :=
 Jj I hN hi hx r (fun s' I' _=>h s' I') hf
theorem Inv.call' {s':Shared} {ch:List Addr} (I:Inv X pins σ H s) (ho:s'.os=s.os) (u:Un (frs X.stack) ch H H' s.heap s'.heap) (hok:HOk X.prog X.w H' s'.heap) (hg:AllBare s'.gens)
  (hch:∀ b ∈ ch,(b ∈ X.ex\/X.s₀.heap.objs.size<=b)/\b≠X.env.locals/\(∀ x c,X.env.cells.lookup x=some c->c≠b)/\∀ p ∈ X.pn ++ pins,p.1≠b):Inv X pins σ H' s':=by
 obtain ⟨h',g',d',t',o'⟩:=s';have e:o'=s.os:=ho;subst e;exact I.call (g':=g') (t':=t') (d':=d') u hok hg hch
end
abbrev XK:=Value->Option Addr->Hp->Prop
abbrev St:=List (Option V)
abbrev VK:=V->Hp->Prop
abbrev TE:=St->Hp->VK->Prop
abbrev TT:=St->Hp->(Bool->Hp->Prop)->Prop
abbrev TA:=St->Hp->(List V->Hp->Prop)->Prop
structure GT where
 nx:St->Hp->Prop
 rt:VK
 bk:St->Hp->Prop:=fun _ _=>False
 ct:St->Hp->Prop:=fun _ _=>False
abbrev TS:=GT->St->Hp->Prop
def EP (X:Cx) (pins:List (Addr×Obj)) (σ:St) (Q:VK) (u:Value) (s':Shared):Prop:=∃ v H',Inv X pins σ H' s'/\AR v u/\Q v H'
def TP (X:Cx) (pins:List (Addr×Obj)) (σ:St) (Q:Bool->Hp->Prop) (b:Bool) (s':Shared):Prop:=∃ H',Inv X pins σ H' s'/\Q b H'
def AP (X:Cx) (pins:List (Addr×Obj)) (σ:St) (Q:List V->Hp->Prop) (us:List Value) (s':Shared):Prop:=∃ vs H',Inv X pins σ H' s'/\AG vs us/\Q vs H'
def SP (X:Cx) (pins:List (Addr×Obj)) (D:GT) (f:Flow) (s':Shared):Prop :=
 match f with
 | .next=>∃ σ' H',Inv X pins σ' H' s'/\D.nx σ' H'
 | .brk=>∃ σ' H',Inv X pins σ' H' s'/\D.bk σ' H'
 | .cont=>∃ σ' H',Inv X pins σ' H' s'/\D.ct σ' H'
 | .ret u=>∃ v σ' H',Inv X pins σ' H' s'/\AR v u/\D.rt v H'
def PE (X:Cx) (e:Expr) (t:TE):Prop :=
 ∀ (pins:List (Addr×Obj)) (s:Shared) (σ:St) (H:Hp) (Q:VK),Inv X pins σ H s->t σ H Q->wpAny (model X.prog X.w) X.A (eval e X.env) (EP X pins σ Q) X.xe s
def PT (X:Cx) (e:Expr) (t:TT):Prop :=
 ∀ (pins:List (Addr×Obj)) (s:Shared) (σ:St) (H:Hp) (Q:Bool->Hp->Prop),Inv X pins σ H s->t σ H Q->wpAny (model X.prog X.w) X.A (isTrue e X.env (eval e X.env)) (TP X pins σ Q) X.xe s
def PW (X:Cx) (e:Expr) (t:TT):Prop :=
 ∀ (whole:Sem Value) (pins:List (Addr×Obj)) (s:Shared) (σ:St) (H:Hp) (Q:Bool->Hp->Prop),Inv X pins σ H s->t σ H Q->wpAny (model X.prog X.w) X.A (isTrue e X.env whole) (TP X pins σ Q) X.xe s
theorem PW.pt {X:Cx} {e:Expr} {t:TT} (h:PW X e t):PT X e t:=h _
def PA (X:Cx) (es:List Expr) (t:TA):Prop :=
 ∀ (pos:Pos) (pins:List (Addr×Obj)) (s:Shared) (σ:St) (H:Hp) (Q:List V->Hp->Prop),Inv X pins σ H s->t σ H Q->wpAny (model X.prog X.w) X.A (spliced (backTo pos (starEach es X.env))) (AP X pins σ Q) X.xe s
def PS (X:Cx) (st:Stmt) (t:TS):Prop :=
 ∀ (pins:List (Addr×Obj)) (s:Shared) (σ:St) (H:Hp) (D:GT),Inv X pins σ H s->t D σ H->wpAny (model X.prog X.w) X.A (exec st X.env) (SP X pins D) X.xe s
def PSs (X:Cx) (st:List Stmt) (t:TS):Prop :=
 ∀ (pins:List (Addr×Obj)) (s:Shared) (σ:St) (H:Hp) (D:GT),Inv X pins σ H s->t D σ H->wpAny (model X.prog X.w) X.A (execs st X.env) (SP X pins D) X.xe s
theorem thn {α:Type} {t:Sem α} {Q Q':α->Shared->Prop} {M:Model} {A:Around} {E:Value->Shared->Prop} {s:Shared} (h:wpAny M A t Q E s) (hQ:∀ a s,Q a s->Q' a s):wpAny M A t Q' E s:=wpAny_mono h hQ fun _ _ x=>x
end L2
namespace L2
open PySem PySem.Spec PyProof.Rows
section
variable {X:Cx}
def tVar (i:Nat):TE:=fun σ H Q=>∃ v,σ[i]?=some (some v)/\Q v H
def tC (v:V):TE:=fun _ H Q=>Q v H
theorem pe_var {i:Nat} {x:Str} {pos:Pos} (hN:X.N[i]?=some x) (hv:Vis X.env.scope x) (hd:(x == ("__debug__" : Str))=false:=by decide) (hcd:(x == ("__classdict__" : Str))=false:=by decide):PE X (.Name x pos) (tVar i):=by
 intro pins s σ H Q I h;obtain ⟨v,e,h⟩:=h;obtain ⟨m,hn,hl⟩:=I.loc;obtain ⟨u,r,l⟩:=hl i x v hN e hv;have fin:EP X pins σ Q u s:=⟨v,H,I,r,h⟩
 rcases l with ⟨hk,hm⟩ | ⟨hk,c,hc,hcell⟩
 ·exact wpAny_Name (wpAny_loadName_local I.ok.kind hk hn hm fin) hd
 ·rcases hk with hk | hk
  ·exact wpAny_Name (wpAny_loadName_cell I.ok.kind hk hc hcell fin) hd
  ·exact wpAny_Name (wpAny_loadName_free I.ok.kind hk hc hcell fin hcd) hd
theorem Af {i j pos}:PE X (.Constant (.int i) j pos) (tC (.int i)):=fun _ _ _ H _ I h=>wpAny_Constant_int ⟨.int i,H,I.tok _,⟨_,rfl⟩,h⟩
theorem DF {b j pos}:PE X (.Constant (.bool b) j pos) (tC (.bl b)):=fun _ _ _ H _ I h=>Constant_bool ⟨.bl b,H,I,rfl,h⟩
theorem JT {j pos}:PE X (.Constant .none j pos) (tC .non):=fun _ _ _ H _ I h=>Constant_none ⟨.non,H,I,rfl,h⟩
theorem pe_str {x j pos}:PE X (.Constant (.str x) j pos) (tC (.str x)):=fun _ _ _ H _ I h=>Calls.Constant_str ⟨.str x,H,I.tok _,⟨_,rfl⟩,h⟩
def Gl (X:Cx) (x:Str):Prop:=X.env.kindOf x=some .globalImplicit
theorem Fp {E:Value->Shared->Prop} {pins:List (Addr×Obj)} {s:Shared} {σ:St} {H:Hp} {x:Str} {u:Value} {pos:Pos} {Q:Value->Shared->Prop} (I:Inv X pins σ H s) (hg:Gl X x) (hm:X.mg x=some u) (h:Q u s)
  (hd:(x == ("__debug__" : Str))=false:=by decide):wpAny (model X.prog X.w) X.A (eval (.Name x pos) X.env) Q E s :=
 Calls.Name_function_global I.ok.kind hg (Calls.loadGlobal_global (by rw [I.ok.glob]; exact I.mod.glob.keeps I.bk) hm h) hd
theorem Fb {E:Value->Shared->Prop} {pins:List (Addr×Obj)} {s:Shared} {σ:St} {H:Hp} {x:Str} {u:Value} {pos:Pos} {Q:Value->Shared->Prop} (I:Inv X pins σ H s) (hg:Gl X x) (hm:X.mg x=none) (hv:bootBuiltins x=some u) (h:Q u s)
  (hn:x≠"__name__" := by decide) (hd:(x == ("__debug__" : Str))=false:=by decide):wpAny (model X.prog X.w) X.A (eval (.Name x pos) X.env) Q E s:=by
 obtain ⟨mb,h1,h2⟩:=I.mod.blt;exact Calls.Name_function_global I.ok.kind hg (Calls.loadGlobal_builtin (by rw [I.ok.glob]; exact I.mod.glob.keeps I.bk) hm (by rw [I.ok.blt]; exact h1.keeps I.bk) ((h2 x hn).trans hv) h) hd
theorem NW {x:Str} {v:V} {u:Value} {pos:Pos} (hg:Gl X x) (hm:X.mg x=some u) (r:AR v u) (hd:(x == ("__debug__" : Str))=false:=by decide):PE X (.Name x pos) (tC v) :=
 fun _ _ _ H _ I h=>Fp I hg hm ⟨v,H,I,r,h⟩ hd
theorem EF {x:Str} {v:V} {u:Value} {pos:Pos} (hg:Gl X x) (hm:X.mg x=none) (hv:bootBuiltins x=some u) (r:AR v u) (hn:x≠"__name__" := by decide) (hd:(x == ("__debug__" : Str))=false:=by decide):PE X (.Name x pos) (tC v) :=
 fun _ _ _ H _ I h=>Fb I hg hm hv ⟨v,H,I,r,h⟩ hn hd
variable {a b:Expr} {ta tb:TE} {pos:Pos}
def tB (t:TE):TT:=fun σ H Q=>t σ H fun x H1=>∃ c,x=.bl c/\Q c H1
theorem BV {e:Expr} {t:TE} (h:PE X e t) (he:∀ whole,isTrue e X.env whole=(do let v <-whole; standAt e.pos; holding [v] (truthy v)):=by intro _; rfl):PT X e (tB t):=by
 intro pins s σ H Q I hw;refine isTrue_plain (thn (h pins s σ H _ I hw) fun v s1 ⟨x,H1,I1,r1,q1⟩=>?_) (he _);obtain ⟨d,rfl,q⟩:=q1;cases r1;exact wpAny_truthy_bool ⟨H1,I1,q⟩
variable {tA tB':TT} {rest:List Expr}
def tAnd (t u:TT):TT:=fun σ H Q=>t σ H fun c H1=>if c=true then u σ H1 Q else Q false H1
def tOr (t u:TT):TT:=fun σ H Q=>t σ H fun c H1=>if c=true then Q true H1 else u σ H1 Q
def tNot (t:TT):TT:=fun σ H Q=>t σ H fun c H1=>Q (!c) H1
theorem JQ (ha:PT X a tA):PW X (.BoolOp .And [a] pos) tA:=by
 intro wh pins s σ H Q I h;refine isTrue_and (thn (ha pins s σ H Q I h) fun c s1 e=>?_);cases c with
 | true=>exact isTrue_and_nil e
 | false=>exact e
theorem EC (ha:PT X a tA):PW X (.BoolOp .Or [a] pos) tA:=by
 intro wh pins s σ H Q I h;refine isTrue_or (thn (ha pins s σ H Q I h) fun c s1 e=>?_);cases c with
 | false=>exact isTrue_or_nil e
 | true=>exact e
theorem MN (ha:PT X a tA) (hb:PW X (.BoolOp .And (b :: rest) pos) tB'):PW X (.BoolOp .And (a :: b :: rest) pos) (tAnd tA tB'):=by
 intro wh pins s σ H Q I h;refine isTrue_and (thn (ha pins s σ H _ I h) fun c s1 ⟨H1,I1,q1⟩=>?_);cases c with
 | true=>exact hb wh pins s1 σ H1 Q I1 q1
 | false=>exact ⟨H1,I1,q1⟩
theorem FN (ha:PT X a tA) (hb:PW X (.BoolOp .Or (b :: rest) pos) tB'):PW X (.BoolOp .Or (a :: b :: rest) pos) (tOr tA tB'):=by
 intro wh pins s σ H Q I h;refine isTrue_or (thn (ha pins s σ H _ I h) fun c s1 ⟨H1,I1,q1⟩=>?_);cases c with
 | true=>exact ⟨H1,I1,q1⟩
 | false=>exact hb wh pins s1 σ H1 Q I1 q1
theorem BM (ha:PT X a tA):PT X (.UnaryOp .Not a pos) (tNot tA):=by
 intro pins s σ H Q I h;exact isTrue_not (ha pins s σ H (fun c H1=>Q (!c) H1) I h)
def tAndV (ta tb:TE):TE:=fun σ H Q=>ta σ H fun x H1=>∃ c,x=.bl c/\if c=true then tb σ H1 Q else Q (.bl false) H1
def tNotV (ta:TE):TE:=fun σ H Q=>ta σ H fun x H1=>∃ c,x=.bl c/\Q (.bl (!c)) H1
theorem FF {op} {t:TE} (h:PE X a t):PE X (.BoolOp op [a] pos) t:=fun pins s σ H Q I hw=>BoolOp_one (h pins s σ H Q I hw)
theorem EG (ha:PE X a ta) (hb:PE X (.BoolOp .And (b :: rest) pos) tb):PE X (.BoolOp .And (a :: b :: rest) pos) (tAndV ta tb):=by
 intro pins s σ H Q I h;refine BoolOp_and (thn (ha pins s σ H _ I h) fun v s1 ⟨x,H1,I1,r1,q1⟩=>?_);obtain ⟨c,rfl,q1⟩:=q1;cases r1;refine wpAny_truthy_bool ?_;cases c with
 | true=>exact hb pins s1 σ H1 Q I1 q1
 | false=>exact ⟨.bl false,H1,I1,rfl,q1⟩
theorem Qi (ha:PE X a ta):PE X (.UnaryOp .Not a pos) (tNotV ta):=by
 intro pins s σ H Q I h;refine UnaryOp_ (thn (ha pins s σ H _ I h) fun v s1 ⟨x,H1,I1,r1,q1⟩=>?_);obtain ⟨c,rfl,q1⟩:=q1;cases r1;exact not_of (wpAny_truthy_bool ⟨.bl (!c),H1,I1,rfl,q1⟩)
end
end L2
namespace L2
open PySem PySem.Spec PyProof.Rows
def SqL (K:PySem.W.Frag) (H:Hp) (a:Addr) (xs:List V):Prop :=
 Rd H a (.lst xs) \/
  ∃ (o:Obj) (its:Array Value) (n:Nat),K.lookup a=some o/\o.cls=.type "list" /\ o.dict=none/\o.data=.seq its n/\its.size<=sizeLine/\AG xs its.toList
def SqT (K:PySem.W.Frag) (H:Hp) (a:Addr) (xs:List V):Prop :=
 Rd H a (.tup xs) \/
  ∃ (o:Obj) (its:Array Value) (n:Nat),K.lookup a=some o/\o.cls=.type "tuple" /\ o.data=.seq its n/\its.size<=sizeLine/\AG xs its.toList
def absV:Value->Option V
 | .none=>some .non
 | .bool b=>some (.bl b)
 | .int i _=>some (.int i)
 | .str x _=>some (.str x)
 | .bytes b _=>some (.byt b)
 | .float b _=>some (.flt b)
 | .ref a=>some (.ref a)
 | .type n=>some (.ty n)
 | _=>none
theorem AR.abs {x:V} {u:Value} (r:AR x u):absV u=some x:=by
 cases x with
 | non=>cases r; rfl
 | bl _=>cases r; rfl
 | int _=>obtain ⟨t,rfl⟩:=r; rfl
 | str _=>obtain ⟨t,rfl⟩:=r; rfl
 | byt _=>obtain ⟨t,rfl⟩:=r; rfl
 | flt _=>obtain ⟨t,rfl⟩:=r; rfl
 | ref _=>cases r; rfl
 | ty _=>cases r; rfl
theorem AR.inj {x y:V} {u:Value} (r:AR x u) (q:AR y u):x=y:=Option.some.inj (r.abs.symm.trans q.abs)
theorem AG.inj:∀ {xs ys:List V} {us:List Value},AG xs us->AG ys us->xs=ys
 | _,_,_,.nil,.nil=>rfl
 | _,_,_,.cons r t,.cons r' t'=>by rw [r.inj r',AG.inj t t']
section
variable {X:Cx} {pins:List (Addr×Obj)} {σ:St} {H:Hp} {s:Shared} {a:Addr} {xs ys:List V}
theorem SqL.of {K:PySem.W.Frag} (h:H a=some (.lst xs)):SqL K H a xs:=.inl (.inl h)
theorem SqT.of {K:PySem.W.Frag} (h:H a=some (.tup xs)):SqT K H a xs:=.inl (.inl h)
theorem Inv.list (I:Inv X pins σ H s) (h:SqL X.K H a xs):∃ its:List Value,AG xs its/\PlainL s.heap a its.toArray/\xs.length<=sizeLine:=by
 rcases h with h | ⟨o,its,n,hk,hc,hd,hs,hz,r⟩
 ·obtain ⟨z,its,n,r,e⟩:=h.ok I.hok;exact ⟨its,r,⟨_,n,e,rfl,rfl,rfl⟩,z⟩
 ·refine ⟨its.toList,r,⟨o,n,I.kIn a o hk,hc,hd,by simpa using hs⟩,?_⟩;have e:=r.length;simp only [Array.length_toList] at e;lia
theorem Inv.tuple (I:Inv X pins σ H s) (h:SqT X.K H a xs):∃ its:List Value,AG xs its/\IsTup s.heap a its.toArray/\xs.length<=sizeLine:=by
 rcases h with h | ⟨o,its,n,hk,hc,hs,hz,r⟩
 ·obtain ⟨z,its,r,p⟩:=h.ok I.hok;exact ⟨its,r,p,z⟩
 ·refine ⟨its.toList,r,⟨o,I.kIn a o hk,hc,n,by simpa using hs⟩,?_⟩;have e:=r.length;simp only [Array.length_toList] at e;lia
theorem Inv.list_inj (I:Inv X pins σ H s) (h:SqL X.K H a xs) (h':SqL X.K H a ys):xs=ys:=by
 obtain ⟨its,r,⟨o,n,e,_,_,d⟩,_⟩:=I.list h;obtain ⟨its',r',⟨o',n',e',_,_,d'⟩,_⟩:=I.list h';rw [e] at e'; cases e';rw [d] at d';injection d' with d1 _
 have:its=its':=by simpa using congrArg Array.toList d1
 subst this;exact r.inj r'
theorem Inv.tuple_inj (I:Inv X pins σ H s) (h:SqT X.K H a xs) (h':SqT X.K H a ys):xs=ys:=by
 obtain ⟨its,r,⟨o,e,_,n,d⟩,_⟩:=I.tuple h;obtain ⟨its',r',⟨o',e',_,n',d'⟩,_⟩:=I.tuple h';rw [e] at e'; cases e';rw [d] at d';injection d' with d1 _
 have:its=its':=by simpa using congrArg Array.toList d1
 subst this;exact r.inj r'
end
abbrev Cx.wish (X:Cx) (E:Value->Shared->Prop):Cx:={ X with xe:=E }
abbrev Cx.nox (X:Cx):Cx:=X.wish fun _ _=>False
theorem Cx.Ok.wish {X:Cx} (ok:X.Ok) (E:Value->Shared->Prop):(X.wish E).Ok :=
 ⟨ok.mod,ok.kind,ok.glob,ok.blt,ok.above,ok.inj,ok.has,ok.cab,ok.hd,ok.frames,ok.stk,ok.exf,ok.bs,ok.bsz,ok.noex,ok.exfs,ok.funs,ok.frf⟩
theorem Cx.Ok.unwish {X:Cx} {E:Value->Shared->Prop} (ok:(X.wish E).Ok):X.Ok :=
 ⟨ok.mod,ok.kind,ok.glob,ok.blt,ok.above,ok.inj,ok.has,ok.cab,ok.hd,ok.frames,ok.stk,ok.exf,ok.bs,ok.bsz,ok.noex,ok.exfs,ok.funs,ok.frf⟩
section
variable {X:Cx} {pins:List (Addr×Obj)} {σ:St} {H:Hp} {s:Shared} {E:Value->Shared->Prop}
theorem Inv.wish (I:Inv X pins σ H s) (E:Value->Shared->Prop):Inv (X.wish E) pins σ H s:=⟨I.ok.wish E,I.os,I.bare,I.base,I.loc,I.cell,I.free,I.freeC,I.pin,I.hok,I.len⟩
theorem Inv.unwish (I:Inv (X.wish E) pins σ H s):Inv X pins σ H s:=⟨I.ok.unwish,I.os,I.bare,I.base,I.loc,I.cell,I.free,I.freeC,I.pin,I.hok,I.len⟩
theorem SP.unwish {D:GT} {f:Flow} {s':Shared} (h:SP (X.wish E) pins D f s'):SP X pins D f s':=by
 cases f with
 | next=>obtain ⟨σ',H',I,q⟩:=h; exact ⟨σ',H',I.unwish,q⟩
 | brk=>obtain ⟨σ',H',I,q⟩:=h; exact ⟨σ',H',I.unwish,q⟩
 | cont=>obtain ⟨σ',H',I,q⟩:=h; exact ⟨σ',H',I.unwish,q⟩
 | ret u=>obtain ⟨v,σ',H',I,r,q⟩:=h; exact ⟨v,σ',H',I.unwish,r,q⟩
theorem PSs.nox {st:List Stmt} {t:TS} (h:PSs X.nox st t):PSs X st t:=fun pins s σ H D I hw =>
 wpAny_mono (h pins s σ H D (I.wish _) hw) (fun _ _ q=>q.unwish) fun _ _ z=>False.elim z
end
section
variable {X:Cx} {st:Stmt} {rest:List Stmt} {t u:TS} {e:Expr} {te:TE} {pos:Pos}
def tNext:TS:=fun D σ H=>D.nx σ H
def tSeq (t u:TS):TS:=fun D σ H=>t { D with nx:=u D } σ H
theorem At:PSs X [] tNext:=fun _ _ σ H _ I h=>wpAny_execs_nil ⟨σ,H,I,h⟩
theorem Ac (h1:PS X st t) (h2:PSs X rest u):PSs X (st :: rest) (tSeq t u):=by
 intro pins s σ H D I h;refine wpAny_execs_cons (thn (h1 pins s σ H { D with nx:=u D } I h) fun f s1 q=>?_);cases f with
 | next =>
  obtain ⟨σ',H',I',q⟩:=q;exact h2 pins s1 σ' H' D I' q
 | ret v=>exact q
 | brk=>exact q
 | cont=>exact q
theorem Ag (h1:PS X st t):PSs X [st] t:=by
 intro pins s σ H D I h;refine wpAny_execs_cons (thn (h1 pins s σ H D I h) fun f s1 q=>?_);cases f with
 | next=>exact wpAny_execs_nil q
 | ret v=>exact q
 | brk=>exact q
 | cont=>exact q
theorem Inv.quiet {pins:List (Addr×Obj)} {σ:St} {H:Hp} {s:Shared} (I:Inv X pins σ H s):interactive X.env=false:=by simp [interactive,I.ok.kind]
def tDrop (te:TE):TS:=fun D σ H=>te σ H fun _ H1=>D.nx σ H1
theorem Cu (he:PE X e te) (hs:swapsWith e none pos.line X.env=pure false:=by rfl):PS X (.Expr e pos) (tDrop te):=by
 intro pins s σ H D I h;exact wpAny_Expr_any (thn (he pins s σ H _ I h) fun v s1 ⟨x,H1,I1,r1,q1⟩=>⟨σ,H1,I1,q1⟩) I.quiet hs
def tRet (te:TE):TS:=fun D σ H=>te σ H D.rt
theorem Aq (he:PE X e te):PS X (.Return (some e) pos) (tRet te):=by
 intro pins s σ H D I h;exact wpAny_Return_some (thn (he pins s σ H _ I h) fun v s1 ⟨x,H1,I1,r1,q1⟩=>⟨x,σ,H1,I1,r1,q1⟩)
def tRetN:TS:=fun D _ H=>D.rt .non H
theorem NS:PS X (.Return none pos) tRetN:=fun _ _ σ H _ I h=>wpAny_Return_none ⟨.non,σ,H,I,rfl,h⟩
def tIfS (c:TT) (t u:TS):TS:=fun D σ H=>c σ H fun b H1=>if b=true then t D σ H1 else u D σ H1
theorem AO {c:Expr} {a b:List Stmt} {tc:TT} (hc:PT X c tc) (ha:PSs X a t) (hb:PSs X b u):PS X (.If c a b pos) (tIfS tc t u):=by
 intro pins s σ H D I h;refine wpAny_If (thn (hc pins s σ H _ I h) fun d s1 ⟨H1,I1,q1⟩=>?_);cases d with
 | true=>exact ha pins s1 σ H1 D I1 q1
 | false=>exact hb pins s1 σ H1 D I1 q1
def tNever:TS:=fun _ _ _=>False
theorem Dh:PS X st tNever:=fun _ _ _ _ _ _ h=>h.elim
end
abbrev TG:=V->St->Hp->(St->Hp->Prop)->Prop
abbrev TGs:=List V->St->Hp->(St->Hp->Prop)->Prop
def PG (X:Cx) (target:Expr) (t:TG):Prop :=
 ∀ (pins:List (Addr×Obj)) (s:Shared) (σ:St) (H:Hp) (v:V) (u:Value) (Q:St->Hp->Prop),Inv X pins σ H s->AR v u->t v σ H Q ->
  wpAny (model X.prog X.w) X.A (assign target X.env u) (fun _ s'=>∃ σ' H',Inv X pins σ' H' s'/\Q σ' H') X.xe s
def PGs (X:Cx) (ts:List Expr) (t:TGs):Prop :=
 ∀ (pins:List (Addr×Obj)) (s:Shared) (σ:St) (H:Hp) (vs:List V) (us:List Value) (Q:St->Hp->Prop),Inv X pins σ H s->AG vs us->t vs σ H Q ->
  wpAny (model X.prog X.w) X.A (assignInOrder ((assignEach ts X.env).map (·.2)) us) (fun _ s'=>∃ σ' H',Inv X pins σ' H' s'/\Q σ' H') X.xe s
abbrev TSet:=V->V->V->Hp->(Hp->Prop)->Prop
def PSet (X:Cx) (t:TSet):Prop :=
 ∀ (pins:List (Addr×Obj)) (s:Shared) (σ:St) (H:Hp) (o i v:V) (ov iv u:Value) (Q:Hp->Prop),Inv X pins σ H s->AR o ov->AR i iv->AR v u->t o i v H Q ->
  wpAny (model X.prog X.w) X.A (setItem ov iv u) (fun _ s'=>∃ H',Inv X pins σ H' s'/\Q H') X.xe s
section
variable {X:Cx} {pos:Pos}
def Fd (i:Nat):TG:=fun v σ H Q=>Q (σ.set i (some v)) H
theorem AY {i:Nat} {x:Str} (hN:X.N.Nodup) (hi:X.N[i]?=some x) (hx:Loc X.env.scope x) (hf:X.fn x=true\/X.env.scope.names.lookup x=some .local:=by first | exact .inl rfl | exact .inr rfl | assumption):PG X (.Name x pos) (Fd i):=by
 intro pins s σ H v u Q I r h;exact wpAny_assign_Name (Ie I hN hi hx r (fun s' I'=>⟨_,H,I',h⟩) hf)
def gNil:TGs:=fun vs σ H Q=>vs=[]/\Q σ H
def FX (t:TG) (u:TGs):TGs:=fun vs σ H Q=>∃ v r,vs=v :: r/\t v σ H fun σ' H'=>u r σ' H' Q
theorem Ee:PGs X [] gNil:=by
 intro pins s σ H vs us Q I r h;obtain ⟨e,h⟩:=h;subst e;cases r;exact assignInOrder_nil ⟨σ,H,I,h⟩
theorem Bd {e:Expr} {es:List Expr} {t:TG} {u:TGs} (h1:PG X e t) (h2:PGs X es u)
  (hs:(assignEach (e :: es) X.env).map (·.2)=assign e X.env :: (assignEach es X.env).map (·.2):=by rfl):PGs X (e :: es) (FX t u):=by
 intro pins s σ H vs us Q I r h;obtain ⟨v,vr,e1,h⟩:=h;subst e1;cases r with
 | cons r rr =>
  rw [hs];refine assignInOrder_cons (thn (h1 pins s σ H _ _ _ I r h) fun _ s1 ⟨σ1,H1,I1,q1⟩=>?_);exact h2 pins s1 σ1 H1 _ _ Q I1 rr q1
def gTup (K:PySem.W.Frag) (n:Nat) (t:TGs):TG:=fun v σ H Q=>∃ a xs,v=.ref a/\SqT K H a xs/\xs.length=n/\t xs σ H Q
theorem EY {es:List Expr} {k:Nat} {t:TGs} {n:Nat} (hc:X.calm=true) (h:PGs X es t)
  (hn:(assignEach es X.env).length=n:=by rfl) (hst:(assignEach es X.env).findIdx? (·.1)=none:=by rfl):PG X (.Tuple es k pos) (gTup X.K n t):=by
 intro pins s σ H v u Q I r hw;obtain ⟨a,xs,e1,hq,hl,hw⟩:=hw;subst e1;cases r;obtain ⟨its,rv,ht,hz⟩:=I.tuple hq;refine assign_Tuple_tuple (I.ok.hd hc) ht (by simp [hn,<-hl,rv.length]) hst fun h' hx=>?_;have I1:Inv X pins σ H { s with heap:=h' }:=I.kept (t':=s.toks) fun b o e=>hx b o (Nat.ne_of_lt (Heap.lt_size e)) e;exact h pins _ σ H xs _ Q I1 (by simpa using rv) hw
def gSub (to ti:TE) (t:TSet):TG:=fun v σ H Q=>to σ H fun o H1=>ti σ H1 fun i H2=>t o i v H2 fun H3=>Q σ H3
theorem pg_sub {o i:Expr} {to ti:TE} {t:TSet} (ho:PE X o to) (hi:PE X i ti) (hs:PSet X t)
  (ha:∀ v,assign (.Subscript o i pos) X.env v=(do
   let ov <-holding [v] (eval o X.env);let iv <-holding [v,ov] (eval i X.env)
   standAt pos
   holding [v,ov,iv] (setItem ov iv v)
   release [v,ov,iv] []):=by intro _; rfl):PG X (.Subscript o i pos) (gSub to ti t):=by
 intro pins s σ H v u Q I r h;rw [ha];refine wpAny_bind (wpAny_holding (thn (ho pins s σ H _ I h) fun ov s1 ⟨x,H1,I1,r1,q1⟩=>?_));refine wpAny_bind (wpAny_holding (thn (hi pins s1 σ H1 _ I1 q1) fun iv s2 ⟨y,H2,I2,r2,q2⟩=>?_));refine wpAny_bind (wpAny_standAt (wpAny_bind (wpAny_holding (thn (hs pins s2 σ H2 x y v ov iv u _ I2 r1 r2 r q2) fun _ s3 ⟨H3,I3,q3⟩=>?_))));exact wpAny_release ⟨σ,H3,I3,q3⟩
def tAsg (te:TE) (g:TG):TS:=fun D σ H=>te σ H fun x H1=>g x σ H1 D.nx
theorem MP {tg e:Expr} {te:TE} {g:TG} (he:PE X e te) (hg:PG X tg g) (hs:swapsWithSole [tg] e pos.line X.env=pure false:=by rfl) (hw:swappedStores [tg] e X.env=pure none:=by rfl)
  (h1:(assignEach [tg] X.env).map (·.2)=[assign tg X.env]:=by rfl):PS X (.Assign [tg] e pos) (tAsg te g):=by
 intro pins s σ H D I h;refine wpAny_Assign_stores (thn (he pins s σ H _ I h) fun v s1 ⟨x,H1,I1,r1,q1⟩=>?_) hs hw;rw [h1];exact thn (hg pins s1 σ H1 x v _ I1 r1 q1) fun _ s2 q=>q
theorem Ar {i:Nat} {x:Str} {e:Expr} {te:TE} {pos':Pos} (hN:X.N.Nodup) (hi:X.N[i]?=some x) (hx:Loc X.env.scope x) (he:PE X e te) (hs:swapsWith e (some (.Name x pos')) pos.line X.env=pure false:=by rfl) (hf:X.fn x=true\/X.env.scope.names.lookup x=some .local:=by first | exact .inl rfl | exact .inr rfl | assumption) :
  PS X (.Assign [.Name x pos'] e pos) (tAsg te (Fd i)):=by
 intro pins s σ H D I h;refine wpAny_Assign_Name (thn (he pins s σ H _ I h) fun v s1 ⟨y,H1,I1,r1,q1⟩=>?_) hs;exact Ie I1 hN hi hx r1 (fun s2 I2=>⟨_,H1,I2,q1⟩) hf
end
section
variable {X:Cx} {pos:Pos}
def tWhile (c:TT) (tb:TS):TS:=fun D σ H=>∃ W:Nat->St->Hp->Prop,(∃ m,W m σ H)/\∀ m σ H,W m σ H ->
 c σ H fun b H1=>if b=true then ∃ N:St->Hp->Prop,(∀ σ' H',N σ' H'->∃ m',m' < m/\W m' σ' H')/\tb { D with nx:=N,ct:=N,bk:=D.nx } σ H1 else D.nx σ H1
theorem Il {c:Expr} {body:List Stmt} {tc:TT} {tb:TS} (hp:PassesOwn (model X.prog X.w) X.A X.env X.xe) (hc:PT X c tc) (hb:PSs X body tb):PS X (.While c body [] pos) (tWhile tc tb):=by
 intro pins s σ H D I h;obtain ⟨W,⟨m0,w0⟩,turn⟩:=h;refine wpAny_While (codeAny_whileLoop (fun n s'=>∃ σ' H',Inv X pins σ' H' s'/\W n σ' H') ?_ m0 ⟨σ,H,I,w0⟩);rintro n s1 ⟨σ1,H1,I1,w1⟩;refine wpAny_passesOwn hp (thn (hc pins s1 σ1 H1 _ I1 (turn n σ1 H1 w1)) fun b s2 ⟨H2,I2,q2⟩=>?_);cases b with
 | true =>
  obtain ⟨N,hN,q2⟩:=q2;rw [if_pos rfl];refine wpAny_passesOwn hp (thn (hb pins s2 σ1 H2 _ I2 q2) fun f s3 q3=>?_);cases f with
  | next =>
   obtain ⟨σ3,H3,I3,n3⟩:=q3;obtain ⟨m',hm,w3⟩:=hN σ3 H3 n3;exact ⟨m',hm,σ3,H3,I3,w3⟩
  | cont =>
   obtain ⟨σ3,H3,I3,n3⟩:=q3;obtain ⟨m',hm,w3⟩:=hN σ3 H3 n3;exact ⟨m',hm,σ3,H3,I3,w3⟩
  | brk=>exact q3
  | ret v=>exact q3
 | false =>
  rw [if_neg Bool.false_ne_true];exact wpAny_execs_nil ⟨σ1,H2,I2,q2⟩
end
structure It where
 go:Nat->Hp->Prop
 yld:Nat->Hp->V->Hp->Prop
 stop:Nat->Hp->Prop
def CY (X:Cx) (pins:List (Addr×Obj)) (H:Hp) (b:Addr):Prop :=
 H b=none/\b≠X.env.locals/\b ∉ X.fs/\(b ∈ X.ex\/X.s₀.heap.objs.size<=b)/\(∀ x c,X.env.cells.lookup x=some c->c≠b)/\∀ p ∈ X.pn ++ pins,p.1≠b
theorem Inv.fpOk {X:Cx} {pins:List (Addr×Obj)} {σ:St} {H H':Hp} {s:Shared} {b:Addr} (I:Inv X pins σ H s) (hb:s.heap.objs.size<=b) (hn:H' b=none):CY X pins H' b:=by
 refine ⟨hn,Nat.ne_of_gt (Nat.lt_of_lt_of_le I.lt hb),I.nofs hb,.inr (Nat.le_trans I.sz hb),fun x c e z=>?_,fun p hp z=>?_⟩
 ·obtain ⟨v,q⟩:=I.cell x c e;exact absurd (Nat.lt_of_lt_of_le q.lt (by rw [z]; exact hb)) (Nat.lt_irrefl _)
 ·exact absurd (Nat.lt_of_lt_of_le (Heap.lt_size (I.pin p hp).1) (by rw [z]; exact hb)) (Nat.lt_irrefl _)
structure NA (P:Program) (w:World) (K:PySem.W.Frag) (tg:Expr) (J:It) (fp:List Addr) (it:Addr) (tn:Nat->Heap->Prop):Prop where
 mem:it ∈ fp
 obj:∀ i h,tn i h->∀ b ∈ fp,∃ o,h.get? b=some o/\∀ v,o.data≠.cell v
 keep:∀ i h h',tn i h->(∀ b ∈ fp,∀ o,h.get? b=some o->h'.get? b=some o)->tn i h'
 item:∀ (X:Cx),X.prog=P->X.w=w->X.K=K->X.calm=true->∀ (i:Nat) (pins:List (Addr×Obj)) (s:Shared) (σ:St) (H:Hp) (E:Value->Shared->Prop),Inv X pins σ H s->(∀ b ∈ fp,CY X pins H b)->tn i s.heap->J.go i H ->
  wpAny (model P w) X.A (pyNext (.ref it)) (fun r s1=>∃ u,r=some u /\
   wpAny (model P w) X.A (letOwnedTupleGo tg (.ref it) u) (fun _ s2=>∃ x H',Inv X pins σ H' s2/\AR x u/\J.yld i H x H'/\tn (i+1) s2.heap/\∀ b ∈ fp,H' b=none) E s1) E s
 done:∀ (X:Cx),X.prog=P->X.w=w->X.K=K->X.calm=true->∀ (i:Nat) (pins:List (Addr×Obj)) (s:Shared) (σ:St) (H:Hp) (E:Value->Shared->Prop),Inv X pins σ H s->(∀ b ∈ fp,CY X pins H b)->tn i s.heap->J.stop i H ->
  wpAny (model P w) X.A (pyNext (.ref it)) (fun r s1=>r=none/\Inv X pins σ H s1) E s
 self:∀ (A:Around) (i:Nat) (s:Shared) (Q:Value->Shared->Prop) (E:Value->Shared->Prop),tn i s.heap->Q (.ref it) s->wpAny (model P w) A (pyIter (.ref it)) Q E s
abbrev TI:=St->Hp->(It->Hp->Prop)->Prop
def PIE (X:Cx) (pins:List (Addr×Obj)) (σ:St) (tg:Expr) (R:It->Hp->Prop) (itv:Value) (s2:Shared):Prop :=
 ∃ (it:Addr) (fp:List Addr) (tn:Nat->Heap->Prop) (J:It) (H':Hp),itv=.ref it/\Inv X pins σ H' s2/\NA X.prog X.w X.K tg J fp it tn/\tn 0 s2.heap/\(∀ b ∈ fp,CY X pins H' b)/\R J H'
def PI (X:Cx) (tg iter:Expr) (wi:TI):Prop :=
 ∀ (pins:List (Addr×Obj)) (s:Shared) (σ:St) (H:Hp) (R:It->Hp->Prop),Inv X pins σ H s->wi σ H R ->
  wpAny (model X.prog X.w) X.A (eval iter X.env) (fun v s1=>wpAny (model X.prog X.w) X.A (pyIter v) (PIE X pins σ tg R) X.xe s1) X.xe s
theorem Og {M:Model} {A:Around} {E:Value->Shared->Prop} {s:Shared} {tg:Expr} {it:Addr} {u:Value} {o:Obj} {n:String} {vs:Array Value} {Q:Unit->Shared->Prop} (ho:s.heap.get? it=some o) (hc:o.cls=.type n) (hd:o.data=.fields vs)
    (hn:["enumerate","zip","dict_itemiterator","dict_reverseitemiterator","odict_iterator","itertools.zip_longest","itertools.pairwise"].contains n=false) (hQ:Q () s):wpAny M A (letOwnedTupleGo tg (.ref it) u) Q E s:=by
  unfold letOwnedTupleGo;cases tg<;>first
    | exact wpAny_pure hQ
    | (cases u<;>first
        | exact wpAny_pure hQ
        | (refine wpAny_bind (wpAny_load ho ?_)
           rw [hc,hd];show wpAny M A (if (["enumerate","zip","dict_itemiterator","dict_reverseitemiterator","odict_iterator","itertools.zip_longest","itertools.pairwise"].contains n && vs[0]? == some (rawInt _))=true then _ else _) Q E s;rw [if_neg (by intro h; rw [hn,Bool.false_and] at h; cases h)];exact wpAny_pure hQ))
def Itl (K:PySem.W.Frag) (a:Addr):It :=
 ⟨fun i H=>∃ xs x,SqL K H a xs/\xs[i]?=some x,fun i H x H'=>H'=H/\∀ xs,SqL K H a xs->xs[i]?=some x,fun i H=>∃ xs,SqL K H a xs/\xs.length<=i⟩
def Itt (K:PySem.W.Frag) (a:Addr):It :=
 ⟨fun i H=>∃ xs x,SqT K H a xs/\xs[i]?=some x,fun i H x H'=>H'=H/\∀ xs,SqT K H a xs->xs[i]?=some x,fun i H=>∃ xs,SqT K H a xs/\xs.length<=i⟩
def Itr (lo:Int) (n:Nat):It:=⟨fun i _=>i < n,fun i H x H'=>H'=H/\x=.int (lo+i),fun i _=>n<=i⟩
theorem OC {P:Program} {w:World} {K:PySem.W.Frag} {tg:Expr} (a it:Addr):NA P w K tg (Itl K a) [it] it (fun i h=>h.IsListIter it a i) where
 mem:=by simp
 obj:=fun i h st b hb=>by
  have e:b=it:=by simpa using hb
  subst e;obtain ⟨o,e,c,d⟩:=st;exact ⟨o,e,fun v z=>by rw [d] at z; cases z⟩
 keep:=fun i h h' st k=>st.at fun o e=>k it (by simp) o e
 item:=by
  intro X hP hw hK hc i pins s σ H E I hf st hg;subst hP hw hK;obtain ⟨xs,x,hq,hx⟩:=hg;obtain ⟨its,rv,p,hz⟩:=I.list hq;obtain ⟨u,hu,ru⟩:=rv.get hx;obtain ⟨f0,f1,f2,f3,f4,f5⟩:=hf it (by simp);refine wpAny_pyNext_list_item st p.isList (x:=u) (by simpa using hu) fun h' st' sb=>?_;have I1:Inv X pins σ H { s with heap:=h' }:=I.turned (t':=s.toks) (fun b o hb e=>(sb.2 b hb).trans e) f0 f1 f3 f4 f5;obtain ⟨o,e,c,d⟩:=id st';exact ⟨u,rfl,Og (s:={ s with heap:=h' }) e c d (by decide) ⟨x,H,I1,ru,⟨rfl,fun ys hy=>by rw [I.list_inj hy hq]; exact hx⟩,st',fun b hb=>(hf b hb).1⟩⟩
 done:=by
  intro X hP hw hK hc i pins s σ H E I hf st hg;subst hP hw hK;obtain ⟨xs,hq,hx⟩:=hg;obtain ⟨its,rv,p,hz⟩:=I.list hq;obtain ⟨f0,f1,f2,f3,f4,f5⟩:=hf it (by simp);have hl:=rv.length;exact wpAny_pyNext_list_end (I.ok.hd hc) st p.isList (by simp; lia) fun h' eb=>⟨rfl,I.turned (t':=s.toks) (fun b o hb e=>eb b o hb e) f0 f1 f3 f4 f5⟩
 self:=fun _ _ _ _ _ st h=>wpAny_pyIter_listiter st h
theorem ME {P:Program} {w:World} {K:PySem.W.Frag} {tg:Expr} (a it:Addr):NA P w K tg (Itt K a) [it] it (fun i h=>h.IsTupleIter it a i) where
 mem:=by simp
 obj:=fun i h st b hb=>by
  have e:b=it:=by simpa using hb
  subst e;obtain ⟨o,e,c,d⟩:=st;exact ⟨o,e,fun v z=>by rw [d] at z; cases z⟩
 keep:=fun i h h' st k=>st.at fun o e=>k it (by simp) o e
 item:=by
  intro X hP hw hK hc i pins s σ H E I hf st hg;subst hP hw hK;obtain ⟨xs,x,hq,hx⟩:=hg;obtain ⟨its,rv,p,hz⟩:=I.tuple hq;obtain ⟨u,hu,ru⟩:=rv.get hx;obtain ⟨f0,f1,f2,f3,f4,f5⟩:=hf it (by simp);refine wpAny_pyNext_tuple_item st (show s.heap.IsTuple a its.toArray from p) (x:=u) (by simpa using hu) fun h' st' sb=>?_;have I1:Inv X pins σ H { s with heap:=h' }:=I.turned (t':=s.toks) (fun b o hb e=>(sb.2 b hb).trans e) f0 f1 f3 f4 f5;obtain ⟨o,e,c,d⟩:=id st';exact ⟨u,rfl,Og (s:={ s with heap:=h' }) e c d (by decide) ⟨x,H,I1,ru,⟨rfl,fun ys hy=>by rw [I.tuple_inj hy hq]; exact hx⟩,st',fun b hb=>(hf b hb).1⟩⟩
 done:=by
  intro X hP hw hK hc i pins s σ H E I hf st hg;subst hP hw hK;obtain ⟨xs,hq,hx⟩:=hg;obtain ⟨its,rv,p,hz⟩:=I.tuple hq;obtain ⟨f0,f1,f2,f3,f4,f5⟩:=hf it (by simp);have hl:=rv.length;exact wpAny_pyNext_tuple_end (I.ok.hd hc) st (show s.heap.IsTuple a its.toArray from p) (by simp; lia) fun h' eb=>⟨rfl,I.turned (t':=s.toks) (fun b o hb e=>eb b o hb e) f0 f1 f3 f4 f5⟩
 self:=fun _ _ _ _ _ st h=>wpAny_pyIter_tupleiter st h
theorem EA {P:Program} {w:World} {K:PySem.W.Frag} {tg:Expr} (it:Addr) (lo:Int) (n:Nat):NA P w K tg (Itr lo n) [it] it (fun i h=>IsRangeIter h it (lo+(i:Nat) * 1) ((n:Int) - (i:Nat)) 1) where
 mem:=by simp
 obj:=fun i h st b hb=>by
  have e:b=it:=by simpa using hb
  subst e;exact ⟨_,st,fun v z=>by
   have z':Data.fields _=Data.cell v:=z;cases z'⟩
 keep:=fun i h h' st k=>k it (by simp) _ st
 item:=by
  intro X hP hw hK hc i pins s σ H E I hf st hg;subst hP hw hK;obtain ⟨f0,f1,f2,f3,f4,f5⟩:=hf it (by simp);have W:=Walks.range (prog:=X.prog) (w:=X.w) (I.ok.hd hc) it lo 1 n;refine W.item i s _ _ hg st fun v h' tk hv st' kk=>?_;obtain ⟨t,rfl⟩:=hv;have I1:Inv X pins σ H { s with heap:=h',toks:=tk }:=I.turned (fun b o hb e=>kk b o (by simpa using hb) e) f0 f1 f3 f4 f5;refine ⟨_,rfl,Og (s:={ s with heap:=h',toks:=tk }) (n:="range_iterator") st' rfl rfl (by decide) ⟨.int (lo+i),H,I1,⟨t,?_⟩,⟨rfl,rfl⟩,st',fun b hb=>(hf b hb).1⟩⟩;rw [Int.mul_one]
 done:=by
  intro X hP hw hK hc i pins s σ H E I hf st hg;subst hP hw hK;obtain ⟨f0,f1,f2,f3,f4,f5⟩:=hf it (by simp);exact wpAny_pyNext_range_end (I.ok.hd hc) st (by have:n<=i:=hg; lia) fun h' eb=>⟨rfl,I.turned (t':=s.toks) (fun b o hb e=>eb b o hb e) f0 f1 f3 f4 f5⟩
 self:=fun _ _ _ _ _ st h=>wpAny_pyIter_rangeiter st h
end L2
namespace L2
open PySem PySem.Spec PyProof.Rows
section
variable {X:Cx} {tg:Expr}
def iList (K:PySem.W.Frag) (tl:TE):TI:=fun σ H R=>tl σ H fun x H1=>∃ a,x=.ref a/\(∃ xs,SqL K H1 a xs)/\R (Itl K a) H1
def iTup (K:PySem.W.Frag) (tl:TE):TI:=fun σ H R=>tl σ H fun x H1=>∃ a,x=.ref a/\(∃ xs,SqT K H1 a xs)/\R (Itt K a) H1
theorem Fk {l:Expr} {tl:TE} (hl:PE X l tl):PI X tg l (iList X.K tl):=by
 intro pins s σ H R I h;refine thn (hl pins s σ H _ I h) fun v s1 ⟨x,H1,I1,r1,q1⟩=>?_;obtain ⟨a,e,⟨xs,hq⟩,q⟩:=q1;subst e;cases r1;obtain ⟨its,rv,p,hz⟩:=I1.list hq;refine wpAny_pyIter_list p.isList ?_;refine ⟨s1.heap.objs.size,[s1.heap.objs.size],_,_,H1,rfl,I1.kept (t':=s1.toks) fun b o e=>Heap.get?_push_of_some _ e,OC a _,⟨_,Heap.get?_push_size _ rfl,rfl,rfl⟩,fun b hb=>?_,q⟩;have e:b=s1.heap.objs.size:=by simpa using hb
 subst e;exact I1.fpOk (Nat.le_refl _) (I1.hok.fresh (Nat.le_refl _))
theorem Qg {l:Expr} {tl:TE} (hl:PE X l tl):PI X tg l (iTup X.K tl):=by
 intro pins s σ H R I h;refine thn (hl pins s σ H _ I h) fun v s1 ⟨x,H1,I1,r1,q1⟩=>?_;obtain ⟨a,e,⟨xs,hq⟩,q⟩:=q1;subst e;cases r1;obtain ⟨its,rv,p,hz⟩:=I1.tuple hq;refine wpAny_pyIter_tuple (show s1.heap.IsTuple a its.toArray from p) ?_;refine ⟨s1.heap.objs.size,[s1.heap.objs.size],_,_,H1,rfl,I1.kept (t':=s1.toks) fun b o e=>Heap.get?_push_of_some _ e,ME a _,⟨_,Heap.get?_push_size _ rfl,rfl,rfl⟩,fun b hb=>?_,q⟩;have e:b=s1.heap.objs.size:=by simpa using hb
 subst e;exact I1.fpOk (Nat.le_refl _) (I1.hok.fresh (Nat.le_refl _))
theorem LN {pins:List (Addr×Obj)} {σ:St} {H:Hp} {s:Shared} {R:It->Hp->Prop} {E:Value->Shared->Prop} {lo hi:Int} {t u v:Tok} {tk:Nat} (I:Inv X pins σ H s) (h1:-(2 ^ 62)<=lo) (h2:lo < 2 ^ 62) (h3:-(2 ^ 62)<=hi) (h4:hi < 2 ^ 62)
  (q:R (Itr lo (hi - lo).toNat) H):wpAny (model X.prog X.w) X.A (pyIter (.ref s.heap.objs.size)) (PIE X pins σ tg R) E { s with heap:=s.heap.push { cls:=.type "range",data:=.fields #[.int lo t,.int hi u,.int 1 v] },toks:=tk }:=by
 refine wpAny_pyIter_range (IsRange.new ..) (small_one h1 h2 h3 h4) ?_;have I1:Inv X pins σ H { s with heap:=s.heap.push { cls:=.type "range",data:=.fields #[.int lo t,.int hi u,.int 1 v] },toks:=tk }:=I.kept fun b o e=>Heap.get?_push_of_some _ e;refine ⟨(s.heap.push { cls:=.type "range",data:=.fields #[.int lo t,.int hi u,.int 1 v] }).objs.size,[(s.heap.push { cls:=.type "range",data:=.fields #[.int lo t,.int hi u,.int 1 v] }).objs.size],_,_,H,rfl,
  I1.kept (t':=tk) fun b o e=>Heap.get?_push_of_some _ e,EA _ lo (hi - lo).toNat,?_,fun b hb=>?_,q⟩
 ·have e1:lo+((0:Nat):Int) * 1=lo:=by simp
  have e2:(((hi - lo).toNat:Nat):Int) - ((0:Nat):Int)=Builtin.Range.rangeSize lo hi 1:=by rw [rangeSize_one]; split<;>lia
  show IsRangeIter _ _ (lo+((0:Nat):Int) * 1) ((((hi - lo).toNat:Nat):Int) - ((0:Nat):Int)) 1;rw [e1,e2];exact Heap.get?_push_size _ rfl
 ·have e:b=(s.heap.push { cls:=.type "range",data:=.fields #[.int lo t,.int hi u,.int 1 v] }).objs.size:=by simpa using hb
  subst e;exact I1.fpOk (Nat.le_refl _) (I1.hok.fresh (Nat.le_refl _))
def iRng1 (ta:TA):TI:=fun σ H R=>ta σ H fun vs H1=>∃ j:Int,vs=[.int j]/\-(2 ^ 62)<=j/\j < 2 ^ 62/\R (Itr 0 j.toNat) H1
def iRng2 (ta:TA):TI:=fun σ H R=>ta σ H fun vs H1=>∃ i j:Int,vs=[.int i,.int j]/\(-(2 ^ 62)<=i/\i < 2 ^ 62/\-(2 ^ 62)<=j/\j < 2 ^ 62)/\R (Itr i (j - i).toNat) H1
theorem Fj {a:Expr} {ta:TA} {p pos:Pos} (hg:Gl X "range") (hm:X.mg "range" = none) (ha:PA X [a] ta) (hs:starEach [a] X.env=[(false,eval a X.env)]:=by rfl):PI X tg (.Call (.Name "range" p) [a] [] pos) (iRng1 ta):=by
 intro pins s σ H R I h;refine Call_ (Fb I hg hm boot_range (PyProof.Rows.callWith_type1 (thn (ha pos pins s σ H _ I h) fun us s1 ⟨vs,H1,I1,r1,q1⟩=>?_) hs rfl));obtain ⟨j,e,q1,q2,q⟩:=q1;subst e;cases r1 with
 | cons r rr =>
  cases rr;obtain ⟨t,rfl⟩:=r;exact call_range_1 (LN I1 (by lia) (by lia) q1 q2 (by simpa using q))
theorem Jm {a b:Expr} {ta:TA} {p pos:Pos} (hg:Gl X "range") (hm:X.mg "range" = none) (ha:PA X [a,b] ta) (hs:starEach [a,b] X.env=[(false,eval a X.env),(false,eval b X.env)]:=by rfl) (hs2:starEach [b] X.env=[(false,eval b X.env)]:=by rfl) :
  PI X tg (.Call (.Name "range" p) [a,b] [] pos) (iRng2 ta):=by
 intro pins s σ H R I h;refine Call_ (Fb I hg hm boot_range (PyProof.Rows.callWith_type1 (thn (ha pos pins s σ H _ I h) fun us s1 ⟨vs,H1,I1,r1,q1⟩=>?_) (by rw [hs,hs2]) (by rw [hs2]; rfl)));obtain ⟨i,j,e,⟨q1,q2,q3,q4⟩,q⟩:=q1;subst e;cases r1 with
 | cons r rr =>
  cases rr with
  | cons r' rr =>
   cases rr;obtain ⟨t,rfl⟩:=r;obtain ⟨t',rfl⟩:=r';exact call_range_2 (LN I1 q1 q2 q3 q4 q)
def tFor (wi:TI) (g:TG) (tb:TS):TS:=fun D σ H=>wi σ H fun J H1=>∃ W:Nat->Nat->St->Hp->Prop,(∃ m,W 0 m σ H1)/\∀ i m σ H,W i m σ H ->
 (J.stop i H/\D.nx σ H)\/(J.go i H/\∃ N:St->Hp->Prop,(∀ σ' H',N σ' H'->∃ m',m' < m/\W (i+1) m' σ' H')/\∀ x H',J.yld i H x H'->g x σ H' fun σ2 H2=>tb { D with nx:=N,ct:=N,bk:=D.nx } σ2 H2)
def Gc (fp:List Addr) (h:Heap):List (Addr×Obj):=fp.filterMap fun b=>(h.get? b).map fun o=>(b,o)
theorem EK {fp:List Addr} {h:Heap} {b:Addr} {o:Obj} (hb:b ∈ fp) (e:h.get? b=some o):(b,o) ∈ Gc fp h:=List.mem_filterMap.mpr ⟨b,hb,by rw [e]; rfl⟩
theorem Jp {fp:List Addr} {h:Heap} {p:Addr×Obj} (hp:p ∈ Gc fp h):p.1 ∈ fp/\h.get? p.1=some p.2:=by
 obtain ⟨b,hb,e⟩:=List.mem_filterMap.mp hp;cases q:h.get? b with
 | none=>rw [q] at e; cases e
 | some o =>
  rw [q] at e;have e':(b,o)=p:=Option.some.inj e;subst e';exact ⟨hb,q⟩
theorem Inv.pinned {pins:List (Addr×Obj)} {σ:St} {H:Hp} {s:Shared} {fp:List Addr} (I:Inv X pins σ H s) (hf:∀ b ∈ fp,CY X pins H b) (ho:∀ b ∈ fp,∃ o,s.heap.get? b=some o/\∀ v,o.data≠.cell v):Inv X (pins ++ Gc fp s.heap) σ H s :=
 I.pins_of fun p hp=>(List.mem_append.mp hp).elim (fun z=>I.pin p (List.mem_append_right _ z)) fun z=>by
  obtain ⟨hb,e⟩:=Jp z;obtain ⟨f0,f1,f2,_⟩:=hf p.1 hb;obtain ⟨o,e',d⟩:=ho p.1 hb;rw [e] at e'; cases e';exact ⟨e,f0,f1,f2,d⟩
theorem Inv.unpinned {pins pl:List (Addr×Obj)} {σ:St} {H:Hp} {s:Shared} (I:Inv X (pins ++ pl) σ H s):Inv X pins σ H s:=I.pins_of fun p hp=>I.pin p (List.mem_append_right _ (List.mem_append_left _ hp))
theorem Dx {iter:Expr} {body:List Stmt} {wi:TI} {g:TG} {tb:TS} {pos:Pos} (hp:PassesOwn (model X.prog X.w) X.A X.env X.xe) (hc:X.calm=true) (hi:PI X tg iter wi) (hg:PG X tg g) (hb:PSs X body tb)
  (hs:∀ x,foldedSetIterable iter X.env x=pure x:=by intro _; rfl):PS X (.For tg iter body [] pos) (tFor wi g tb):=by
 intro pins s σ H D I h;refine wpAny_For (thn (hi pins s σ H _ I h) fun v s1 h1=>thn h1 fun itv s2 h2=>?_) hs;obtain ⟨it,fp,tn,J,H2,e,I2,T,st2,f2,W,⟨m0,w0⟩,turn⟩:=h2;subst e;have stat:∀ {H':Hp},(∀ b ∈ fp,H' b=none)->∀ b ∈ fp,CY X pins H' b:=fun hn b hb=>⟨hn b hb,(f2 b hb).2⟩
 refine codeAny_forLoop_any (fun n s'=>∃ i σ' H',Inv X pins σ' H' s'/\tn i s'.heap/\(∀ b ∈ fp,H' b=none)/\W i n σ' H') ?_ m0 ⟨0,σ,H2,I2,st2,fun b hb=>(f2 b hb).1,w0⟩;rintro n s3 ⟨i,σ3,H3,I3,st3,fr3,w3⟩;rcases turn i n σ3 H3 w3 with ⟨stop,qn⟩ | ⟨go,N,hN,step⟩
 ·refine wpAny_passesOwn hp (thn (T.done X rfl rfl rfl hc i pins s3 σ3 H3 X.xe I3 (stat fr3) st3 stop) fun r s4 ⟨hr,I4⟩=>?_);subst hr;exact wpAny_execs_nil ⟨σ3,H3,I4,qn⟩
 ·refine wpAny_passesOwn hp (thn (T.item X rfl rfl rfl hc i pins s3 σ3 H3 X.xe I3 (stat fr3) st3 go) fun r s4 ⟨u,hr,h4⟩=>?_);subst hr;refine wpAny_passesOwn hp (thn h4 fun _ s5 ⟨x,H5,I5,r5,y5,st5,fr5⟩=>?_);have I5':=I5.pinned (stat fr5) (T.obj _ _ st5);refine wpAny_passesOwn hp (thn (hg _ s5 σ3 H5 x u _ I5' r5 (step x H5 y5)) fun _ s6 ⟨σ6,H6,I6,q6⟩=>?_);refine wpAny_passesOwn hp (thn (hb _ s6 σ6 H6 _ I6 q6) fun f s7 q7=>?_);have again:∀ {σ7:St} {H7:Hp},Inv X (pins ++ Gc fp s5.heap) σ7 H7 s7->N σ7 H7->∃ m,m < n/\∃ i σ' H',Inv X pins σ' H' s7/\tn i s7.heap/\(∀ b ∈ fp,H' b=none)/\W i m σ' H':=fun {σ7 H7} I7 n7=>by
   obtain ⟨m',hm,w7⟩:=hN σ7 H7 n7;refine ⟨m',hm,i+1,σ7,H7,I7.unpinned,T.keep _ _ _ st5 fun b hb o e=>(I7.pin (b,o) (List.mem_append_right _ (List.mem_append_right _ (EK hb e)))).1,fun b hb=>?_,w7⟩;obtain ⟨o,e,d⟩:=T.obj _ _ st5 b hb;exact (I7.pin (b,o) (List.mem_append_right _ (List.mem_append_right _ (EK hb e)))).2.1
  cases f with
  | next=>obtain ⟨σ7,H7,I7,n7⟩:=q7; exact again I7 n7
  | cont=>obtain ⟨σ7,H7,I7,n7⟩:=q7; exact again I7 n7
  | brk=>obtain ⟨σ7,H7,I7,q7⟩:=q7; exact ⟨σ7,H7,I7.unpinned,q7⟩
  | ret v=>obtain ⟨x7,σ7,H7,I7,r7,q7⟩:=q7; exact ⟨x7,σ7,H7,I7.unpinned,r7,q7⟩
end
theorem FY {K:PySem.W.Frag} {a:Addr} {xs:List V} {g:TG} {tb:TS} {D:GT} {σ:St} {H:Hp} (Pv:Nat->St->Hp->Prop) (h0:Pv 0 σ H) (hl:∀ i σ H,i<=xs.length->Pv i σ H->SqL K H a xs)
  (hs:∀ i x σ H,xs[i]?=some x->Pv i σ H->g x σ H fun σ2 H2=>tb { D with nx:=Pv (i+1),ct:=Pv (i+1),bk:=D.nx } σ2 H2) (hd:∀ σ H,Pv xs.length σ H->D.nx σ H) :
  ∃ W:Nat->Nat->St->Hp->Prop,(∃ m,W 0 m σ H)/\∀ i m σ H,W i m σ H ->
   ((Itl K a).stop i H/\D.nx σ H)\/((Itl K a).go i H/\∃ N:St->Hp->Prop,(∀ σ' H',N σ' H'->∃ m',m' < m/\W (i+1) m' σ' H')/\∀ x H',(Itl K a).yld i H x H'->g x σ H' fun σ2 H2=>tb { D with nx:=N,ct:=N,bk:=D.nx } σ2 H2):=by
 refine ⟨fun i m σ H=>m=xs.length - i/\i<=xs.length/\Pv i σ H,⟨xs.length,by simp,Nat.zero_le _,h0⟩,?_⟩;rintro i m σ H ⟨rfl,hi,p⟩;have q:=hl i σ H hi p;by_cases hlt:i < xs.length
 ·refine .inr ⟨⟨xs,xs[i],q,by simp [hlt]⟩,Pv (i+1),fun σ' H' p'=>⟨xs.length - (i+1),by lia,rfl,hlt,p'⟩,fun x H' y=>?_⟩;obtain ⟨e,y⟩:=y;subst e;exact hs i x σ _ (y xs q) p
 ·have e:i=xs.length:=by lia
  subst e;exact .inl ⟨⟨xs,q,Nat.le_refl _⟩,hd σ H p⟩
theorem DS {lo:Int} {n:Nat} {g:TG} {tb:TS} {D:GT} {σ:St} {H:Hp} (Pv:Nat->St->Hp->Prop) (h0:Pv 0 σ H)
  (hs:∀ i σ H,i < n->Pv i σ H->g (.int (lo+i)) σ H fun σ2 H2=>tb { D with nx:=Pv (i+1),ct:=Pv (i+1),bk:=D.nx } σ2 H2) (hd:∀ σ H,Pv n σ H->D.nx σ H) :
  ∃ W:Nat->Nat->St->Hp->Prop,(∃ m,W 0 m σ H)/\∀ i m σ H,W i m σ H ->
   ((Itr lo n).stop i H/\D.nx σ H)\/((Itr lo n).go i H/\∃ N:St->Hp->Prop,(∀ σ' H',N σ' H'->∃ m',m' < m/\W (i+1) m' σ' H')/\∀ x H',(Itr lo n).yld i H x H'->g x σ H' fun σ2 H2=>tb { D with nx:=N,ct:=N,bk:=D.nx } σ2 H2):=by
 refine ⟨fun i m σ H=>m=n - i/\i<=n/\Pv i σ H,⟨n,by simp,Nat.zero_le _,h0⟩,?_⟩;rintro i m σ H ⟨rfl,hi,p⟩;by_cases hlt:i < n
 ·refine .inr ⟨hlt,Pv (i+1),fun σ' H' p'=>⟨n - (i+1),by lia,rfl,hlt,p'⟩,fun x H' y=>?_⟩;obtain ⟨e,y⟩:=y;subst e y;exact hs i σ _ hlt p
 ·have e:i=n:=by lia
  subst e;exact .inl ⟨Nat.le_refl _,hd σ H p⟩
end L2
namespace L2
open PySem PySem.Spec PyProof.Rows
abbrev R2:=V->V->Hp->VK->Prop
def OpR (X:Cx) (f:Value->Value->Sem Value) (r:R2):Prop :=
 ∀ (pins:List (Addr×Obj)) (s:Shared) (σ:St) (H:Hp) (x y:V) (v u:Value) (Q:VK),Inv X pins σ H s->AR x v->AR y u->r x y H Q ->
  wpAny (model X.prog X.w) X.A (f v u) (EP X pins σ Q) X.xe s
def UnR (X:Cx) (f:Value->Sem Value) (r:V->Hp->VK->Prop):Prop :=
 ∀ (pins:List (Addr×Obj)) (s:Shared) (σ:St) (H:Hp) (x:V) (v:Value) (Q:VK),Inv X pins σ H s->AR x v->r x H Q ->
  wpAny (model X.prog X.w) X.A (f v) (EP X pins σ Q) X.xe s
def Fh (X:Cx) (f:Value) (r:List V->Hp->VK->Prop):Prop :=
 ∀ (pins:List (Addr×Obj)) (s:Shared) (σ:St) (H:Hp) (xs:List V) (us:List Value) (Q:VK),Inv X pins σ H s->AG xs us->r xs H Q ->
  wpAny (model X.prog X.w) X.A (call f us) (EP X pins σ Q) X.xe s
def tOp (r:R2) (ta tb:TE):TE:=fun σ H Q=>ta σ H fun x H1=>tb σ H1 fun y H2=>r x y H2 Q
def tUn (r:V->Hp->VK->Prop) (ta:TE):TE:=fun σ H Q=>ta σ H fun x H1=>r x H1 Q
def rI (C:Int->Int->Prop) (g:Int->Int->V):R2:=fun x y H Q=>∃ i j,x=.int i/\y=.int j/\C i j/\Q (g i j) H
def rI0 (g:Int->Int->V):R2:=fun x y H Q=>∃ i j,x=.int i/\y=.int j/\Q (g i j) H
def rU (g:Int->V):V->Hp->VK->Prop:=fun x H Q=>∃ i,x=.int i/\Q (g i) H
section
variable {X:Cx} {a b c:Expr} {ta tb tc:TE} {pos:Pos}
theorem binT (ha:PE X a ta) (hb:PE X b tb) {pins:List (Addr×Obj)} {s:Shared} {σ:St} {H:Hp} {R:V->V->Hp->Prop} (I:Inv X pins σ H s)
  (h:ta σ H fun x H1=>tb σ H1 fun y H2=>R x y H2) {Q:Value->Shared->Prop} {f:Value->Value->Sem Value}
  (hf:∀ v u s2 x y H2,Inv X pins σ H2 s2->AR x v->AR y u->R x y H2->wpAny (model X.prog X.w) X.A (f v u) Q X.xe s2) :
  wpAny (model X.prog X.w) X.A (eval a X.env) (fun v s₁=>wpAny (model X.prog X.w) X.A (eval b X.env) (fun u s₂=>wpAny (model X.prog X.w) X.A (f v u) Q X.xe s₂) X.xe s₁) X.xe s:=by
 refine thn (ha pins s σ H _ I h) fun v s1 ⟨x,H1,I1,r1,q1⟩=>?_;refine thn (hb pins s1 σ H1 _ I1 q1) fun u s2 ⟨y,H2,I2,r2,q2⟩=>?_;exact hf v u s2 x y H2 I2 r1 r2 q2
theorem As {op:Operator} {r:R2} (ho:OpR X (binaryOp op) r) (ha:PE X a ta) (hb:PE X b tb):PE X (.BinOp a op b pos) (tOp r ta tb):=by
 intro pins s σ H Q I h;exact wpAny_BinOp (binT ha hb I h fun v u s2 x y H2 I2 rx ry q=>ho pins s2 σ H2 x y v u Q I2 rx ry q)
theorem Ft {op:UnaryOp} {r:V->Hp->VK->Prop} (ho:UnR X (unaryOp op) r) (ha:PE X a ta):PE X (.UnaryOp op a pos) (tUn r ta):=by
 intro pins s σ H Q I h;exact UnaryOp_ (thn (ha pins s σ H _ I h) fun v s1 ⟨x,H1,I1,r1,q1⟩=>ho pins s1 σ H1 x v Q I1 r1 q1)
theorem opI {f:Value->Value->Sem Value} {C:Int->Int->Prop} {g:Int->Int->Int}
  (rule:∀ (i j:Int) (t u:Tok) (s:Shared) (Q:Value->Shared->Prop) (E:Value->Shared->Prop),C i j->Q (.int (g i j) s.toks) { s with toks:=s.toks+1 }->wpAny (model X.prog X.w) X.A (f (.int i t) (.int j u)) Q E s) :
  OpR X f (rI C fun i j=>.int (g i j)):=by
 intro pins s σ H x y v u Q I rx ry h;obtain ⟨i,j,rfl,rfl,hc,q⟩:=h;obtain ⟨t,rfl⟩:=rx;obtain ⟨t',rfl⟩:=ry;exact rule i j t t' s _ _ hc ⟨.int (g i j),H,I.tok _,⟨_,rfl⟩,q⟩
theorem opI0 {f:Value->Value->Sem Value} {g:Int->Int->Int}
  (rule:∀ (i j:Int) (t u:Tok) (s:Shared) (Q:Value->Shared->Prop) (E:Value->Shared->Prop),Q (.int (g i j) s.toks) { s with toks:=s.toks+1 }->wpAny (model X.prog X.w) X.A (f (.int i t) (.int j u)) Q E s) :
  OpR X f (rI0 fun i j=>.int (g i j)):=by
 intro pins s σ H x y v u Q I rx ry h;obtain ⟨i,j,rfl,rfl,q⟩:=h;obtain ⟨t,rfl⟩:=rx;obtain ⟨t',rfl⟩:=ry;exact rule i j t t' s _ _ ⟨.int (g i j),H,I.tok _,⟨_,rfl⟩,q⟩
theorem opB0 {f:Value->Value->Sem Value} {g:Int->Int->Bool}
  (rule:∀ (i j:Int) (t u:Tok) (s:Shared) (Q:Value->Shared->Prop) (E:Value->Shared->Prop),Q (.bool (g i j)) s->wpAny (model X.prog X.w) X.A (f (.int i t) (.int j u)) Q E s) :
  OpR X f (rI0 fun i j=>.bl (g i j)):=by
 intro pins s σ H x y v u Q I rx ry h;obtain ⟨i,j,rfl,rfl,q⟩:=h;obtain ⟨t,rfl⟩:=rx;obtain ⟨t',rfl⟩:=ry;exact rule i j t t' s _ _ ⟨.bl (g i j),H,I,rfl,q⟩
def CDiv (i j:Int):Prop:=0 < j/\j < 1073741824
def CPow (i j:Int):Prop:=0<=j/\j<=1000000/\i.natAbs < 2 ^ 64
def CMul (i j:Int):Prop:=(-(2 ^ 64) < i/\i < 2 ^ 64)\/(-(2 ^ 64) < j/\j < 2 ^ 64)
theorem CMul.ok {i j:Int} (h:CMul i j):IntMulOk i j:=by
 rcases h with ⟨h1,h2⟩ | ⟨h1,h2⟩
 ·exact .of_left (intBits_le_64 h1 h2)
 ·exact .of_right (intBits_le_64 h1 h2)
theorem Bo:OpR X (binaryOp .Add) (rI0 fun i j=>.int (i+j)):=opI0 fun _ _ _ _ _ _ _ q=>add_int q
theorem Cs:OpR X (binaryOp .Sub) (rI0 fun i j=>.int (i - j)):=opI0 fun _ _ _ _ _ _ _ q=>sub_int q
theorem JW:OpR X (binaryOp .Mult) (rI CMul fun i j=>.int (i * j)):=opI fun _ _ _ _ _ _ _ hc q=>mul_int q hc.ok
theorem CQ:OpR X (binaryOp .FloorDiv) (rI CDiv fun i j=>.int (i / j)):=opI fun i j _ _ _ _ _ hc q=>by
 have h1:(0:Int) < j:=hc.1;have h2:j < 1073741824:=hc.2;exact floordiv_int (by lia) (by rw [Int.fdiv_eq_ediv_of_nonneg i (by lia)]; exact q) (.inl (PyProof.noPylong_small (by lia)))
theorem AT:OpR X (binaryOp .Mod) (rI (fun _ j=>0 < j) fun i j=>.int (i % j)):=opI fun i j _ _ _ _ _ hc q=>by
 have h1:(0:Int) < j:=hc;exact mod_int' (by lia) (by rw [Int.fmod_eq_emod_of_nonneg i (by lia)]; exact q)
theorem EI:OpR X (binaryOp .Pow) (rI CPow fun i j=>.int (i ^ j.toNat)):=opI fun _ _ _ _ _ _ _ hc q=>pow_int_small hc.1 hc.2.1 hc.2.2 q
theorem MQ:OpR X (binaryOp .LShift) (rI CPow fun i j=>.int (i * 2 ^ j.toNat)):=opI fun _ _ _ _ _ _ _ hc q=>lshift_int_small hc.1 hc.2.1 hc.2.2 q
theorem unI {f:Value->Sem Value} {g:Int->Int}
  (rule:∀ (i:Int) (t:Tok) (s:Shared) (Q:Value->Shared->Prop) (E:Value->Shared->Prop),Q (.int (g i) s.toks) { s with toks:=s.toks+1 }->wpAny (model X.prog X.w) X.A (f (.int i t)) Q E s) :
  UnR X f (rU fun i=>.int (g i)):=by
 intro pins s σ H x v Q I rx h;obtain ⟨i,rfl,q⟩:=h;obtain ⟨t,rfl⟩:=rx;exact rule i t s _ _ ⟨.int (g i),H,I.tok _,⟨_,rfl⟩,q⟩
theorem Ej:UnR X (unaryOp .USub) (rU fun i=>.int (-i)):=unI fun _ _ _ _ _ q=>neg_int q
end
def scal:V->V->Bool
 | .non,.non=>true | .non,.int _=>true | .int _,.non=>true | .non,.bl _=>true | .bl _,.non=>true | .non,.str _=>true | .str _,.non=>true
 | .int _,.int _=>true | .bl _,.bl _=>true | .str _,.str _=>true | .byt _,.byt _=>true
 | .int _,.str _=>true | .str _,.int _=>true | .bl _,.str _=>true | .str _,.bl _=>true
 | _,_=>false
def rEq:R2:=fun x y H Q=>scal x y=true/\Q (.bl (decide (x=y))) H
def rNe:R2:=fun x y H Q=>scal x y=true/\Q (.bl (!decide (x=y))) H
theorem Oj {i j:Int}:decide (V.int i=V.int j)=(i == j):=by
 rw [Bool.eq_iff_iff];simp
theorem QZ {i j:Bool}:decide (V.bl i=V.bl j)=(i == j):=by
 rw [Bool.eq_iff_iff];simp
theorem Oi {i j:Str}:decide (V.str i=V.str j)=(i == j):=by
 rw [Bool.eq_iff_iff];simp
theorem Ol {i j:Array UInt8}:decide (V.byt i=V.byt j)=(i.toList == j.toList):=by
 rw [Bool.eq_iff_iff];cases i;cases j;simp
section
variable {X:Cx} {a b c:Expr} {ta tb tc:TE} {pos:Pos}
theorem AU {pins:List (Addr×Obj)} {σ:St} {H:Hp} {s:Shared} {Q:VK} {k k':Bool} (I:Inv X pins σ H s) (q:Q (.bl k) H) (e:k=k'):EP X pins σ Q (.bool k') s:=by
 subst e;exact ⟨.bl k,H,I,rfl,q⟩
theorem DH:OpR X (compareOp .Eq) rEq:=by
 intro pins s σ H x y v u Q I rx ry h;obtain ⟨hs,q⟩:=h;cases x with
 | non =>
  cases rx;cases y with
  | non=>cases ry; exact PySem.EqNone.eq_none_none (AU I q (by simp))
  | bl j=>cases ry; exact PySem.EqNone.eq_none_bool (AU I q (by simp))
  | int j=>obtain ⟨t',rfl⟩:=ry; exact PySem.EqNone.eq_none_int (AU I q (by simp))
  | str j=>obtain ⟨t',rfl⟩:=ry; exact PySem.EqNone.eq_none_str (AU I q (by simp))
  | _=>exact absurd (show false=true from hs) Bool.false_ne_true
 | bl i =>
  cases rx;cases y with
  | non=>cases ry; exact PySem.EqNone.eq_bool_none (AU I q (by simp))
  | bl j=>cases ry; exact eq_bool (AU I q QZ)
  | str j=>obtain ⟨t',rfl⟩:=ry; exact PySem.EqMixed.eq_bool_str (AU I q (by simp))
  | _=>exact absurd (show false=true from hs) Bool.false_ne_true
 | int i =>
  obtain ⟨t,rfl⟩:=rx;cases y with
  | non=>cases ry; exact PySem.EqNone.eq_int_none (AU I q (by simp))
  | int j=>obtain ⟨t',rfl⟩:=ry; exact eq_int (AU I q Oj)
  | str j=>obtain ⟨t',rfl⟩:=ry; exact PySem.EqMixed.eq_int_str (AU I q (by simp))
  | _=>exact absurd (show false=true from hs) Bool.false_ne_true
 | str i =>
  obtain ⟨t,rfl⟩:=rx;cases y with
  | non=>cases ry; exact PySem.EqNone.eq_str_none (AU I q (by simp))
  | bl j=>cases ry; exact PySem.EqMixed.eq_str_bool (AU I q (by simp))
  | int j=>obtain ⟨t',rfl⟩:=ry; exact PySem.EqMixed.eq_str_int (AU I q (by simp))
  | str j=>obtain ⟨t',rfl⟩:=ry; exact eq_str (AU I q Oi)
  | _=>exact absurd (show false=true from hs) Bool.false_ne_true
 | byt i =>
  obtain ⟨t,rfl⟩:=rx;cases y with
  | byt j=>obtain ⟨t',rfl⟩:=ry; exact PySem.W.eq_bytes (AU I q Ol)
  | _=>exact absurd (show false=true from hs) Bool.false_ne_true
 | _=>cases y<;>exact absurd (show false=true from hs) Bool.false_ne_true
theorem GI:OpR X (compareOp .NotEq) rNe:=by
 intro pins s σ H x y v u Q I rx ry h;obtain ⟨hs,q⟩:=h;cases x with
 | non =>
  cases rx;cases y with
  | non=>cases ry; exact PySem.EqNone.ne_none_none (AU I q (by simp))
  | bl j=>cases ry; exact PySem.EqNone.ne_none_bool (AU I q (by simp))
  | int j=>obtain ⟨t',rfl⟩:=ry; exact PySem.EqNone.ne_none_int (AU I q (by simp))
  | str j=>obtain ⟨t',rfl⟩:=ry; exact PySem.EqNone.ne_none_str (AU I q (by simp))
  | _=>exact absurd (show false=true from hs) Bool.false_ne_true
 | bl i =>
  cases rx;cases y with
  | non=>cases ry; exact PySem.EqNone.ne_bool_none (AU I q (by simp))
  | bl j=>cases ry; exact ne_bool (AU I q (congrArg not QZ))
  | str j=>obtain ⟨t',rfl⟩:=ry; exact PySem.EqMixed.ne_bool_str (AU I q (by simp))
  | _=>exact absurd (show false=true from hs) Bool.false_ne_true
 | int i =>
  obtain ⟨t,rfl⟩:=rx;cases y with
  | non=>cases ry; exact PySem.EqNone.ne_int_none (AU I q (by simp))
  | int j=>obtain ⟨t',rfl⟩:=ry; exact ne_int (AU I q (congrArg not Oj))
  | str j=>obtain ⟨t',rfl⟩:=ry; exact PySem.EqMixed.ne_int_str (AU I q (by simp))
  | _=>exact absurd (show false=true from hs) Bool.false_ne_true
 | str i =>
  obtain ⟨t,rfl⟩:=rx;cases y with
  | non=>cases ry; exact PySem.EqNone.ne_str_none (AU I q (by simp))
  | bl j=>cases ry; exact PySem.EqMixed.ne_str_bool (AU I q (by simp))
  | int j=>obtain ⟨t',rfl⟩:=ry; exact PySem.EqMixed.ne_str_int (AU I q (by simp))
  | str j=>obtain ⟨t',rfl⟩:=ry; exact ne_str (AU I q (congrArg not Oi))
  | _=>exact absurd (show false=true from hs) Bool.false_ne_true
 | byt i =>
  obtain ⟨t,rfl⟩:=rx;cases y with
  | byt j=>obtain ⟨t',rfl⟩:=ry; exact PySem.W.ne_bytes (AU I q (congrArg not Ol))
  | _=>exact absurd (show false=true from hs) Bool.false_ne_true
 | _=>cases y<;>exact absurd (show false=true from hs) Bool.false_ne_true
theorem FQ:OpR X (compareOp .Lt) (rI0 fun i j=>.bl (decide (i < j))):=opB0 fun _ _ _ _ _ _ _ q=>lt_int q
theorem Fu:OpR X (compareOp .LtE) (rI0 fun i j=>.bl (decide (i<=j))):=opB0 fun _ _ _ _ _ _ _ q=>le_int q
theorem NY:OpR X (compareOp .Gt) (rI0 fun i j=>.bl (decide (j < i))):=opB0 fun _ _ _ _ _ _ _ q=>gt_int q
theorem Qp:OpR X (compareOp .Is) (fun x y H Q=>y=.non/\Q (.bl (decide (x=.non))) H):=by
 intro pins s σ H x y v u Q I rx ry h;obtain ⟨rfl,q⟩:=h;cases ry;refine is_none_gen (AU I q ?_);cases x<;>first
  | (cases rx; rfl)
  | (obtain ⟨t,rfl⟩:=rx; rfl)
theorem AE (b:Expr) {op:CmpOp} (h:op≠.In:=by decide) (h2:op≠.NotIn:=by decide):behindInMarks op b=false:=by
 have e1:(op == CmpOp.In)=false:=by cases op<;>first | rfl | exact absurd rfl h
 have e2:(op == CmpOp.NotIn)=false:=by cases op<;>first | rfl | exact absurd rfl h2
 cases b<;>simp [behindInMarks,e1,e2]
theorem Ef {op:CmpOp} {r:R2} (ho:OpR X (compareOp op) r) (ha:PE X a ta) (hb:PE X b tb) (hm:behindInMarks op b=false):PE X (.Compare a [op] [b] pos) (tOp r ta tb):=by
 intro pins s σ H Q I h;exact wpAny_Compare1 (binT ha hb I h fun v u s2 x y H2 I2 rx ry q=>ho pins s2 σ H2 x y v u Q I2 rx ry q) hm
def tTest (t:TE):TT:=fun σ H Q=>t σ H fun x H'=>∃ k,x=.bl k/\Q k H'
theorem AB {op:CmpOp} {r:R2} (ho:OpR X (compareOp op) r) (ha:PE X a ta) (hb:PE X b tb) (hm:behindInMarks op b=false):PT X (.Compare a [op] [b] pos) (tTest (tOp r ta tb)):=by
 intro pins s σ H Q I h;refine wpAny_isTrue_Compare1 (thn (ha pins s σ H _ I h) fun v s1 ⟨x,H1,I1,r1,q1⟩=>thn (hb pins s1 σ H1 _ I1 q1) fun u s2 ⟨y,H2,I2,r2,q2⟩ =>
  thn (ho pins s2 σ H2 x y v u _ I2 r1 r2 q2) fun c s3 ⟨z,H3,I3,r3,k,e,q3⟩=>?_) hm
 subst e;cases r3;exact wpAny_truthy_bool ⟨H3,I3,q3⟩
def Pz (r r':R2) (ta tb tc:TE):TE:=fun σ H Q=>ta σ H fun x H1=>tb σ H1 fun y H2=>r x y H2 fun z H3=>∃ k,z=.bl k /\
 (if k=true then tc σ H3 fun w' H4=>r' y w' H4 Q else Q (.bl false) H3)
theorem LT {op op':CmpOp} {r r':R2} (ho:OpR X (compareOp op) r) (ho':OpR X (compareOp op') r') (ha:PE X a ta) (hb:PE X b tb) (hc:PE X c tc)
  (hm:lastMarks [op,op'] [b,c]=false:=by with_unfolding_all rfl):PE X (.Compare a [op,op'] [b,c] pos) (Pz r r' ta tb tc):=by
 intro pins s σ H Q I h;refine Compare_chain (thn (ha pins s σ H _ I h) fun v s1 ⟨x,H1,I1,r1,q1⟩=>chain_link (thn (hb pins s1 σ H1 _ I1 q1) fun u s2 ⟨y,H2,I2,r2,q2⟩ =>
  thn (ho pins s2 σ H2 x y v u _ I2 r1 r2 q2) fun d s3 ⟨z,H3,I3,r3,k,e,q3⟩=>?_)) hm
 subst e;cases r3;refine wpAny_truthy_bool ?_;cases k with
 | false=>exact ite_ff ⟨.bl false,H3,I3,rfl,q3⟩
 | true=>exact ite_tt (chain_last (thn (hc pins s3 σ H3 _ I3 q3) fun w' s4 ⟨z',H4,I4,r4,q4⟩=>ho' pins s4 σ H4 y z' u w' Q I4 r2 r4 q4))
theorem Ik {op op':CmpOp} {r r':R2} (ho:OpR X (compareOp op) r) (ho':OpR X (compareOp op') r') (ha:PE X a ta) (hb:PE X b tb) (hc:PE X c tc)
  (hm:lastMarks [op,op'] [b,c]=false:=by with_unfolding_all rfl):PT X (.Compare a [op,op'] [b,c] pos) (tTest (Pz r r' ta tb tc)):=by
 intro pins s σ H Q I h;refine isTrue_chain (thn (ha pins s σ H _ I h) fun v s1 ⟨x,H1,I1,r1,q1⟩=>test_link (thn (hb pins s1 σ H1 _ I1 q1) fun u s2 ⟨y,H2,I2,r2,q2⟩ =>
  thn (ho pins s2 σ H2 x y v u _ I2 r1 r2 q2) fun d s3 ⟨z,H3,I3,r3,k,e,q3⟩=>?_)) hm
 subst e;cases r3;refine wpAny_truthy_bool ?_;cases k with
 | false =>
  obtain ⟨k',e',q'⟩:=q3;cases e';exact ite_ff ⟨H3,I3,q'⟩
 | true =>
  refine ite_tt (test_last (thn (hc pins s3 σ H3 _ I3 q3) fun w' s4 ⟨z',H4,I4,r4,q4⟩=>thn (ho' pins s4 σ H4 y z' u w' _ I4 r2 r4 q4) fun d' s5 ⟨z2,H5,I5,r5,k2,e2,q5⟩=>?_));subst e2;cases r5;exact wpAny_truthy_bool ⟨H5,I5,q5⟩
theorem Lf:(sizeLine:Nat) < 2 ^ 63:=by rw [sizeLine_eq]; decide
theorem Pp {x:V} {us:List Value} (r:AG [x] us):∃ u,us=[u]/\AR x u:=by
 cases r with
 | cons r1 r2=>cases r2; exact ⟨_,rfl,r1⟩
theorem vals2 {x y:V} {us:List Value} (r:AG [x,y] us):∃ u w',us=[u,w']/\AR x u/\AR y w':=by
 cases r with
 | cons r1 r2 =>
  cases r2 with
  | cons r3 r4=>cases r4; exact ⟨_,_,rfl,r1,r3⟩
theorem Pl (hc:X.calm=true):Fh X (.builtin "max") (fun xs H Q=>∃ i j,xs=[.int i,.int j]/\Q (.int (if j > i then j else i)) H):=by
 intro pins s σ H xs us Q I r h;obtain ⟨i,j,rfl,q⟩:=h;obtain ⟨u,w',rfl,⟨t,rfl⟩,⟨t',rfl⟩⟩:=vals2 r;refine max_two_ints (I.ok.hd hc) fun h' tk k=>⟨_,H,I.kept k,?_,q⟩
 by_cases hj:j > i
 ·rw [if_pos hj,if_pos hj]; exact ⟨_,rfl⟩
 ·rw [if_neg hj,if_neg hj]; exact ⟨_,rfl⟩
theorem JA (hc:X.calm=true):Fh X (.builtin "min") (fun xs H Q=>∃ i j,xs=[.int i,.int j]/\Q (.int (if j < i then j else i)) H):=by
 intro pins s σ H xs us Q I r h;obtain ⟨i,j,rfl,q⟩:=h;obtain ⟨u,w',rfl,⟨t,rfl⟩,⟨t',rfl⟩⟩:=vals2 r;refine min_two_ints (I.ok.hd hc) fun h' tk k=>⟨_,H,I.kept k,?_,q⟩
 by_cases hj:j < i
 ·rw [if_pos hj,if_pos hj]; exact ⟨_,rfl⟩
 ·rw [if_neg hj,if_neg hj]; exact ⟨_,rfl⟩
end
end L2
namespace L2
open PySem PySem.Spec PyProof.Rows
structure NC (h:Heap) (x dx C:Addr) (mA:Str->Option Value):Prop where
 obj:h.get? x=some (PySem.W.instObj C dx)
 ns:h.Ns1 dx mA
 ne:dx≠x
theorem OS {h:Heap} {dx:Addr} {mA:Str->Option Value} (n:h.Ns1 dx mA):∃ od,h.get? dx=some od/\∀ name,PySem.W.lookIn name od=some (mA name):=by
 obtain ⟨o,es,ep,ho,hd,hk,_,hm⟩:=n;refine ⟨o,ho,fun name=>?_⟩;have e:=hm name;unfold nsFind findBy at e;rw [<-Array.find?_toList] at e;unfold PySem.W.lookIn;rw [hd];dsimp only;split
 ·rename_i y q;rw [q] at e;exact congrArg some e
 ·rename_i q;rw [q] at e;have a:es.toList.any (·.refKey)=false:=by
   rw [List.any_eq_false];intro y hy;obtain ⟨z,t,hkey⟩:=hk y (Array.mem_toList_iff.mp hy);simp [DictEntry.refKey,hkey]
  have a':¬ es.toList.any (·.refKey)=true:=by rw [a]; exact Bool.false_ne_true
  rw [if_neg a'];exact congrArg some e
theorem NC.look {h:Heap} {x dx C:Addr} {mA:Str->Option Value} (I:NC h x dx C mA):∃ od,PySem.W.InstAt h x (PySem.W.instObj C dx) C (some od)/\∀ name,PySem.W.lookIn name od=some (mA name) :=
 let ⟨od,ho,hl⟩:=OS I.ns
 ⟨od,⟨I.obj,rfl,rfl,ho⟩,hl⟩
section
variable {prog:Program} {w:World} {A:Around} {E:Value->Shared->Prop} {s:Shared} {K:PySem.W.Frag} {x dx C f:Addr} {mA:Str->Option Value} {name:Str} {v:Value}
theorem get_map {expr:Bool} {Q:Value->Shared->Prop} (X:K.In s.heap) (I:NC s.heap x dx C mA) (hg:PySem.W.plainGet K C name=true) (hh:PySem.W.hasDictIn K C=true)
  (ha:PySem.W.findIn K (.ref C) name=some none) (hv:mA name=some v) (hv':PySem.W.handedIn v=true) (h:Q v { s with toks:=s.toks+1 }) :
  wpAny (model prog w) A (getAttr (.ref x) name expr) Q E s:=by
 obtain ⟨od,J,hl⟩:=I.look;exact PySem.W.get_value X J (PySem.W.plainGet_of hg).1 (PySem.W.findObj_own hh ha rfl (by rw [hl,hv])) hv' h
theorem QQ {pl:Sem Bool} {Q:Value×List Value->Shared->Prop} (X:K.In s.heap) (I:NC s.heap x dx C mA) (hg:PySem.W.plainGet K C name=true)
  (hf:PySem.W.findIn K (.ref C) name=some (some (.ref f))) (ht:PySem.W.isFn K (.ref f)=true) (hv:mA name=none) (h:Q (.ref f,[.ref x]) s) :
  wpAny (model prog w) A (getMethod (.ref x) name pl) Q E s:=by
 obtain ⟨od,J,hl⟩:=I.look;exact PySem.W.method_fn X J (PySem.W.plainGet_of hg).1 (PySem.W.plainGet_of hg).2 hf (beq_iff_eq.mp ht) (by show (PySem.W.lookIn name od).map (·.isSome)=some false; rw [hl,hv]; rfl) h
theorem set_map {ns:List Str} {Q:Unit->Shared->Prop} (X:K.In s.heap) (I:NC s.heap x dx C mA)
  (hs:PySem.W.findIn K (.ref C) "__setattr__" = some (some (.builtin "object.__setattr__"))) (hp:PySem.W.plainOver K C=true) (ht:PySem.W.takerIn K C name=some none) (hh:PySem.W.hasDictIn K C=true)
  (hw:PySem.Within mA ns) (hsz:ns.length<=sizeLine)
  (h:∀ h',NC h' x dx C (fun y=>if y=name then some v else mA y)->Heap.SameBut dx s.heap h'->Q () { s with heap:=h',toks:=s.toks+2 }) :
  wpAny (model prog w) A (setAttr (.ref x) name v) Q E s:=by
 obtain ⟨od,J,hl⟩:=I.look;refine PySem.W.set_plain X J hs (PySem.W.osa_open (s:={ s with toks:=s.toks+1 }) (r:=none) X J hp ht fun b=>?_)
 obtain ⟨cd,hc,hd'⟩:=PySem.W.any_some hh;have hx:s.heap.get? x=some ⟨.ref C,some dx,.plain,#[]⟩:=I.obj;refine wpAny_bind (wpAny_pure (wpAny_bind (wpAny_bind (wpAny_loadPart hx (wpAny_bind (PySem.W.Looks.here (s:={ s with toks:=s.toks+1 }) (PySem.W.looks_clsIn X hc) ?_))))))
 rw [hd'];refine wpAny_pure (a:=some dx) (wpAny_bind (wpAny_pure (wpAny_bind ?_)));refine wpAny_nsSet1 (s:={ s with toks:=s.toks+1 }) I.ns fun h' hn2 hs2=>?_;obtain ⟨oD,esD,epD,hoD,hdD,hcD⟩:=hn2.count (PySem.Within.cons name v hw);refine wpAny_bind (wpAny_lookBehind hoD (by rw [hdD]; exact pastItsLine_dict (Nat.le_trans hcD (by rw [List.length_cons]; lia))) ?_);exact wpAny_pure (h _ ⟨(hs2.2 _ (Ne.symm I.ne)).trans I.obj,hn2,I.ne⟩ hs2)
theorem QE {R:Result->Shared->Prop} {vs:List Value} {kw:List (Str×Value)} (X:K.In s.heap) (hm:PySem.W.makesIn K C=true)
  (hi:PySem.W.findIn K (.ref C) "__init__" = some (some (.ref f))) (hf:PySem.W.typeIn K (.ref f)=some (.type "function"))
  (h:codeAny (model prog w) (A.under (.builtin "type.__call__" ⟨.ref C :: vs,kw⟩)) (.call (.ref f) ⟨.ref (s.heap.objs.size+1) :: vs,kw⟩) (PySem.W.InitBack (s.heap.objs.size+1) R)
   { s with heap:=(s.heap.push PySem.W.emptyDict).push (PySem.W.instObj C s.heap.objs.size) }) :
  codeAny (model prog w) A (.call (.ref C) ⟨vs,kw⟩) R s:=by
 obtain ⟨hh,g,d,t,os⟩:=s;exact PySem.W.make_core (PySem.W.makes_of X hm) (PySem.W.looks_findIn X hi) (fun self=>PySem.W.bind_fn X self hf) (.inl rfl) h
end
def Cr (f:Str) (v:V):List (Str×V)->List (Str×V)
 | []=>[(f,v)]
 | (g,x) :: r=>if g=f then (g,v) :: r else (g,x) :: Cr f v r
theorem Ao (f g:Str) (v:V):∀ fs:List (Str×V),(Cr f v fs).lookup g=if g=f then some v else fs.lookup g
 | []=>by
  show List.lookup g [(f,v)]=_;by_cases h:g=f
  ·have hb:(g == f)=true:=beq_iff_eq.mpr h;simp only [List.lookup,hb,if_pos h]
  ·have hb:(g == f)=false:=beq_eq_false_iff_ne.mpr h;simp only [List.lookup,hb,if_neg h]
 | (k,x) :: r=>by
  have ih:=Ao f g v r;rw [show Cr f v ((k,x) :: r)=(if k=f then (k,v) :: r else (k,x) :: Cr f v r) from rfl];by_cases hk:k=f
  ·rw [if_pos hk];by_cases h:g=k
   ·have hb:(g == k)=true:=beq_iff_eq.mpr h;simp only [List.lookup,hb,if_pos (h.trans hk)]
   ·have hb:(g == k)=false:=beq_eq_false_iff_ne.mpr h;simp only [List.lookup,hb,if_neg (fun e:g=f=>h (e.trans hk.symm))]
  ·rw [if_neg hk];by_cases h:g=k
   ·have hb:(g == k)=true:=beq_iff_eq.mpr h;simp only [List.lookup,hb,if_neg (fun e:g=f=>hk (h.symm.trans e))]
   ·have hb:(g == k)=false:=beq_eq_false_iff_ne.mpr h;simp only [List.lookup,hb];exact ih
theorem Gm (f:Str) (v:V):∀ fs:List (Str×V),f ∈ (Cr f v fs).map (·.1)/\∀ g,g ∈ fs.map (·.1)->g ∈ (Cr f v fs).map (·.1)
 | []=>⟨by simp [Cr],fun g h=>by simp at h⟩
 | (k,x) :: r=>by
  obtain ⟨i1,i2⟩:=Gm f v r;rw [show Cr f v ((k,x) :: r)=(if k=f then (k,v) :: r else (k,x) :: Cr f v r) from rfl];by_cases hk:k=f
  ·rw [if_pos hk];subst hk;exact ⟨by simp,fun g h=>by simpa using h⟩
  ·rw [if_neg hk];refine ⟨?_,fun g h=>?_⟩
   ·rw [List.map_cons];exact List.mem_cons_of_mem _ i1
   ·rw [List.map_cons] at h ⊢;rcases List.mem_cons.mp h with e | e
    ·exact List.mem_cons.mpr (.inl e)
    ·exact List.mem_cons_of_mem _ (i2 g e)
theorem GM (f:Str) (v:V):∀ fs:List (Str×V),(Cr f v fs).length<=fs.length+1
 | []=>by simp [Cr]
 | (k,x) :: r=>by
  have ih:=GM f v r;rw [show Cr f v ((k,x) :: r)=(if k=f then (k,v) :: r else (k,x) :: Cr f v r) from rfl];by_cases hk:k=f
  ·rw [if_pos hk,List.length_cons,List.length_cons]; lia
  ·rw [if_neg hk,List.length_cons,List.length_cons]; lia
theorem Fq.some_of {v:V} {o:Option Value} (r:Fq (some v) o):∃ u,o=some u/\AR v u:=by
 cases o with
 | none=>exact (show False from r).elim
 | some u=>exact ⟨u,rfl,r⟩
theorem Fq.none_of {o:Option Value} (r:Fq none o):o=none:=by
 cases o with
 | none=>rfl
 | some u=>exact (show False from r).elim
theorem Pd {v:V} {u:Value} (r:AR v u):PySem.W.handedIn u=true:=by
 cases v with
 | non=>cases (show u=Value.none from r); rfl
 | bl b=>cases (show u=Value.bool b from r); rfl
 | int i=>obtain ⟨t,e⟩:=(show ∃ t,u=Value.int i t from r); cases e; rfl
 | str x=>obtain ⟨t,e⟩:=(show ∃ t,u=Value.str x t from r); cases e; rfl
 | byt b=>obtain ⟨t,e⟩:=(show ∃ t,u=Value.bytes b t from r); cases e; rfl
 | flt b=>obtain ⟨t,e⟩:=(show ∃ t,u=Value.float b t from r); cases e; rfl
 | ref a=>cases (show u=Value.ref a from r); rfl
 | ty n=>cases (show u=Value.type n from r); rfl
section
variable {P:Program} {w:World} {H H':Hp} {h h':Heap} {a C dx:Addr} {fs fs':List (Str×V)}
theorem Ia (hok:HOk P w H h) (e:H a=some (.ins C dx fs)):∃ mA,NC h a dx C mA/\(∀ f,Fq (fs.lookup f) (mA f))/\PySem.Within mA (fs.map (·.1))/\fs.length<=1000/\H dx=some (.own a):=by
 obtain ⟨d,z,ne,ob,mA,n,r,q⟩:=(show AS P w H h a (.ins C dx fs) from hok a _ e)
 exact ⟨mA,⟨ob,n,ne⟩,r,q,z,d⟩
end
structure Cls (K:PySem.W.Frag) (C:Addr):Prop where
 pg:PySem.W.plainGet K C Str.empty=true
 hd:PySem.W.hasDictIn K C=true
 po:PySem.W.plainOver K C=true
 sa:PySem.W.findIn K (.ref C) "__setattr__" = some (some (.builtin "object.__setattr__"))
theorem Cls.get {K:PySem.W.Frag} {C:Addr} (c:Cls K C) (f:Str):PySem.W.plainGet K C f=true:=c.pg
def Dk (K:PySem.W.Frag) (C:Addr) (f:Str):Prop:=PySem.W.findIn K (.ref C) f=some none
theorem Dk.taker {K:PySem.W.Frag} {C:Addr} {f:Str} (n:Dk K C f):PySem.W.takerIn K C f=some none:=by
 unfold PySem.W.takerIn;rw [show PySem.W.findIn K (.ref C) f=some none from n];rfl
structure GB (K:PySem.W.Frag) (C:Addr) (m:Str) (f:Addr):Prop where
 at_:PySem.W.findIn K (.ref C) m=some (some (.ref f))
 fn:PySem.W.isFn K (.ref f)=true
 kp:PySem.W.keepIn K (.ref f)=true
section
variable {X:Cx} {pins:List (Addr×Obj)} {σ:St} {H:Hp} {s:Shared} {a C dx:Addr} {fs:List (Str×V)} {f:Str} {v:V} {A:Around} {E:Value->Shared->Prop}
theorem Nn {b:Bool} {Q:Value->Shared->Prop} (I:Inv X pins σ H s) (e:H a=some (.ins C dx fs)) (c:Cls X.K C) (n:Dk X.K C f) (l:fs.lookup f=some v)
  (h:∀ u s',Inv X pins σ H s'->AR v u->Q u s'):wpAny (model X.prog X.w) A (getAttr (.ref a) f b) Q E s:=by
 obtain ⟨mA,O,r,_,_,_⟩:=Ia I.hok e;obtain ⟨u,hu,ru⟩:=Fq.some_of (v:=v) (o:=mA f) (by rw [<-l]; exact r f);exact get_map I.kIn O (c.get f) c.hd n hu (Pd ru) (h u _ (I.tok _) ru)
theorem Nm {m:Str} {g:Addr} {pl:Sem Bool} {Q:Value×List Value->Shared->Prop} (I:Inv X pins σ H s) (e:H a=some (.ins C dx fs)) (c:Cls X.K C) (k:GB X.K C m g) (l:fs.lookup m=none)
  (h:Q (.ref g,[.ref a]) s):wpAny (model X.prog X.w) A (getMethod (.ref a) m pl) Q E s:=by
 obtain ⟨mA,O,r,_,_,_⟩:=Ia I.hok e;have hn:mA m=none:=Fq.none_of (by rw [<-l]; exact r m);exact QQ I.kIn O (c.get m) k.at_ k.fn hn h
theorem MJ {y:V} {u:Value} {Q:Unit->Shared->Prop} (I:Inv X pins σ H s) (e:H a=some (.ins C dx fs)) (c:Cls X.K C) (n:Dk X.K C f) (hl:fs.length < 1000) (ry:AR y u)
  (h:∀ s',Inv X pins σ (upd H a (.ins C dx (Cr f y fs))) s'->Q () s'):wpAny (model X.prog X.w) A (setAttr (.ref a) f u) Q E s:=by
 obtain ⟨mA,O,r,wi,_,ho⟩:=Ia I.hok e;have hz:(fs.map (·.1)).length<=sizeLine:=by rw [List.length_map,sizeLine_eq]; lia
 refine set_map I.kIn O c.sa c.po n.taker c.hd wi hz fun h' O' sb=>h _ ?_;have hd:∃ o,h'.get? dx=some o:=let ⟨o,_,_,e',_⟩:=O'.ns; ⟨o,e'⟩;refine I.write (x:=a) (e:=dx) (by rw [e]; exact True.intro) (.inr ho) (fun b q hb z=>(sb.2 b hb).trans z) hd ?_;refine ⟨by rw [Ak O.ne]; exact ho,?_,O.ne,O'.obj,_,O'.ns,fun g=>?_,fun g hg=>?_⟩
 ·have:=GM f y fs; lia
 ·show Fq ((Cr f y fs).lookup g) (if g=f then some u else mA g);rw [Ao];by_cases q:g=f
  ·rw [if_pos q,if_pos q]; exact ry
  ·rw [if_neg q,if_neg q]; exact r g
 ·by_cases q:g=f
  ·rw [q]; exact (Gm f y fs).1
  ·refine (Gm f y fs).2 g (wi g fun z=>hg ?_);show (if g=f then some u else mA g)=none;rw [if_neg q]; exact z
theorem Inv.made (I:Inv X pins σ H s):Inv X pins σ (upd (upd H s.heap.objs.size (.own (s.heap.objs.size+1))) (s.heap.objs.size+1) (.ins C s.heap.objs.size []))
  { s with heap:=(s.heap.push PySem.W.emptyDict).push (PySem.W.instObj C s.heap.objs.size) }:=by
 have e1:(s.heap.push PySem.W.emptyDict).get? s.heap.objs.size=some PySem.W.emptyDict:=Heap.get?_push_size s.heap rfl;have e2:((s.heap.push PySem.W.emptyDict).push (PySem.W.instObj C s.heap.objs.size)).get? (s.heap.objs.size+1)=some (PySem.W.instObj C s.heap.objs.size):=by
  have:=Heap.get?_push_size (s.heap.push PySem.W.emptyDict) (o:=PySem.W.instObj C s.heap.objs.size) rfl
  rwa [Heap.size_push] at this
 have e3:(s.heap.push PySem.W.emptyDict).Ns s.heap.objs.size (fun _=>none):=⟨PySem.W.emptyDict,#[],_,e1,rfl,(fun e he=>absurd he (by simp)),fun _=>rfl⟩
 have I1:=I.laid (a:=s.heap.objs.size) (o:=.own (s.heap.objs.size+1)) (h':=s.heap.push PySem.W.emptyDict) (t':=s.toks) (fun b u q=>Heap.get?_push_of_some _ q) (Nat.le_refl _) ⟨_,e1⟩;refine I1.laid (a:=s.heap.objs.size+1) (o:=.ins C s.heap.objs.size []) (t':=s.toks) (fun b u q=>Heap.get?_push_of_some _ q) (Nat.le_of_eq (Heap.size_push _ _)) ?_;have ne:s.heap.objs.size≠s.heap.objs.size+1:=Nat.ne_of_lt (Nat.lt_succ_self _);refine ⟨by rw [Ak ne,Ah],Nat.zero_le _,ne,e2,fun _=>none,(Heap.Ns1.of_empty e3).at fun o q=>Heap.get?_push_of_some _ q,fun _=>True.intro,fun y hy=>absurd rfl hy⟩
theorem attr_of {prog:Program} {w:World} {env:Env} {e:Expr} {f:Str} {pos:Pos} {s:Shared} {Q:Value->Shared->Prop} (hb:attributeBase e f env (eval e env)=eval e env)
  (h:wpAny (model prog w) A (eval e env) (fun o s₁=>wpAny (model prog w) A (getAttr o f true) Q E s₁) E s):wpAny (model prog w) A (eval (.Attribute e f pos) env) Q E s :=
 Attribute_any_ h (by rw [arm_eval_Attribute,hb])
end
def tFld (K:PySem.W.Frag) (ta:TE) (f:Str):TE:=fun σ H Q=>ta σ H fun x H1=>∃ a C dx fs v,x=.ref a/\H1 a=some (.ins C dx fs)/\Cls K C/\Dk K C f/\fs.lookup f=some v/\Q v H1
def sFld (K:PySem.W.Frag) (ta tv:TE) (f:Str):TS:=fun D σ H=>tv σ H fun y H1=>ta σ H1 fun x H2=>∃ a C dx fs,x=.ref a/\H2 a=some (.ins C dx fs)/\Cls K C/\Dk K C f/\fs.length < 1000 /\
 D.nx σ (upd H2 a (.ins C dx (Cr f y fs)))
section
variable {X:Cx} {o e value:Expr} {f:Str} {pos pos' tpos:Pos} {ta tv:TE}
theorem AL (he:PE X e ta) (hb:attributeBase e f X.env (eval e X.env)=eval e X.env):PE X (.Attribute e f pos) (tFld X.K ta f):=by
 intro pins s σ H Q I h;refine attr_of hb (thn (he pins s σ H _ I h) fun u s1 ⟨x,H1,I1,rx,a,C,dx,fs,v,ex,ea,c,n,l,q⟩=>?_);subst ex;obtain rfl:u=Value.ref a:=rx;exact Nn I1 ea c n l fun u' s2 I2 ru=>⟨v,H1,I2,ru,q⟩
theorem Gb (ha:PE X o ta) (hv:PE X value tv) (hs:swapsWith value (some (.Attribute o f pos')) pos.line X.env=pure false):PS X (.Assign [.Attribute o f pos'] value pos) (sFld X.K ta tv f):=by
 intro pins s σ H D I h;refine plainObj_wpAny_Assign_Attribute (thn (hv pins s σ H _ I h) fun u s1 ⟨y,H1,I1,ry,q⟩=>thn (ha pins s1 σ H1 _ I1 q) fun ov s2 ⟨x,H2,I2,rx,a,C,dx,fs,ex,ea,c,n,l,q2⟩=>?_) hs;subst ex;obtain rfl:ov=Value.ref a:=rx;exact MJ I2 ea c n l ry fun s3 I3=>⟨σ,_,I3,q2⟩
end
section
variable {X:Cx} {pins:List (Addr×Obj)} {σ:St} {H:Hp} {s:Shared} {A:Around} {E:Value->Shared->Prop} {Q:Value->Shared->Prop} {c:Value} {b:Bool}
inductive Gz (K:PySem.W.Frag) (H:Hp):V->Value->Prop where
 | non:Gz K H .non (.type "NoneType")
 | bl (x:Bool):Gz K H (.bl x) (.type "bool")
 | int (i:Int):Gz K H (.int i) (.type "int")
 | str (x:Str):Gz K H (.str x) (.type "str")
 | flt (x:UInt64):Gz K H (.flt x) (.type "float")
 | lst {a:Addr} {xs:List V} (e:H a=some (.lst xs)):Gz K H (.ref a) (.type "list")
 | frz {a:Addr} {o:Obj} {xs:List V} (e:H a=some (.frz o (.lst xs))):Gz K H (.ref a) (.type "list")
 | tup {a:Addr} {xs:List V} (e:H a=some (.tup xs)):Gz K H (.ref a) (.type "tuple")
 | dK {a:Addr} {kvs:List (Key×V)} (e:H a=some (.dK kvs)):Gz K H (.ref a) (.type "dict")
 | dT {a:Addr} {kvs:List (List Key×V)} (e:H a=some (.dT kvs)):Gz K H (.ref a) (.type "dict")
 | ins {a C dx:Addr} {fs:List (Str×V)} (e:H a=some (.ins C dx fs)) (cl:Cls K C) (ha:PySem.W.findIn K (.ref C) "__class__" = some (some (.builtin "object.__class__")))
   (hn:PySem.W.specialIn K (.builtin "object.__class__") "__get__" = some (some (.builtin "getset_descriptor.__get__"))) (htk:PySem.W.takesIn K (.builtin "object.__class__")=some true)
   (hm:PySem.W.mroIn K C (.type "object")=some true):Gz K H (.ref a) (.ref C)
theorem Pb {x:V} {u t:Value} (I:Inv X pins σ H s) (rx:AR x u) (ty:Gz X.K H x t) (e:PySem.W.kitOne X.K t c=some b) (h:∀ tk,Q (.bool b) { s with toks:=tk }) :
  wpAny (model X.prog X.w) A (call (.builtin "isinstance") [u,c]) Q E s:=by
 cases ty with
 | non=>cases (show u=Value.none from rx); exact PySem.W.kia_one PySem.W.kitx_none I.kIn True.intro e (fun z=>nomatch z) h
 | bl y=>cases (show u=Value.bool y from rx); exact PySem.W.kia_one PySem.W.kitx_bool I.kIn True.intro e (fun z=>nomatch z) h
 | int i=>obtain ⟨t,q⟩:=(show ∃ t,u=Value.int i t from rx); cases q; exact PySem.W.kia_one PySem.W.kitx_int I.kIn True.intro e (fun z=>nomatch z) h
 | str y=>obtain ⟨t,q⟩:=(show ∃ t,u=Value.str y t from rx); cases q; exact PySem.W.kia_one PySem.W.kitx_str I.kIn True.intro e (fun z=>nomatch z) h
 | flt y=>obtain ⟨t,q⟩:=(show ∃ t,u=Value.float y t from rx); cases q; exact PySem.W.kia_one PySem.W.kitx_float I.kIn True.intro e (fun z=>nomatch z) h
 | @lst a xs ea =>
  cases (show u=Value.ref a from rx);obtain ⟨_,_,n,_,h1⟩:=(show AS X.prog X.w H s.heap a (.lst xs) from I.hok a _ ea)
  exact PySem.W.kia_one PySem.W.kitx_list I.kIn ⟨_,h1,rfl⟩ e (fun z=>nomatch z) h
 | @frz a ob xs ea =>
  cases (show u=Value.ref a from rx);obtain ⟨_,_,_,n,_,h1⟩:=(show AS X.prog X.w H s.heap a (.frz ob (.lst xs)) from I.hok a _ ea)
  exact PySem.W.kia_one PySem.W.kitx_list I.kIn ⟨_,h1,rfl⟩ e (fun z=>nomatch z) h
 | @tup a xs ea =>
  cases (show u=Value.ref a from rx);obtain ⟨_,_,_,p⟩:=(show AS X.prog X.w H s.heap a (.tup xs) from I.hok a _ ea)
  obtain ⟨o,h1,h2,_⟩:=p;exact PySem.W.kia_one PySem.W.kitx_tuple I.kIn ⟨o,h1,h2⟩ e (fun z=>nomatch z) h
 | @dK a kvs ea =>
  cases (show u=Value.ref a from rx);obtain ⟨_,_,vs,_,p⟩:=(show AS X.prog X.w H s.heap a (.dK kvs) from I.hok a _ ea)
  obtain ⟨o,es,ep,h1,h2,_⟩:=p;exact PySem.W.kia_one PySem.W.kitx_dict I.kIn ⟨o,h1,h2.1⟩ e (fun z=>nomatch z) h
 | @dT a kvs ea =>
  cases (show u=Value.ref a from rx);obtain ⟨_,_,xs,_,o,es,ep,h1,h2,_⟩:=(show AS X.prog X.w H s.heap a (.dT kvs) from I.hok a _ ea)
  exact PySem.W.kia_one PySem.W.kitx_dict I.kIn ⟨o,h1,h2.1⟩ e (fun z=>nomatch z) h
 | @ins a C dx fs ea cl ha hn htk hm =>
  cases (show u=Value.ref a from rx);obtain ⟨mA,O,_⟩:=Ia I.hok ea;obtain ⟨od,J,_⟩:=O.look;exact PySem.W.kia_one (PySem.W.kitx_own (cl.get _) cl.hd ha hn htk hm) I.kIn J e (fun z=>nomatch z) h
end
end L2
namespace L2
open PySem PySem.Spec PyProof.Rows
structure BG (k:Nat) (A:Around):Prop where
 hd:A.handled=none
 dp:A.depth+3 * k+5 < recursionLimit
 un:A.units+16 * k+200 < cLine
theorem BG.mono {j k:Nat} {A:Around} (r:BG k A) (h:j<=k):BG j A:=⟨r.hd,by have:=r.dp; lia,by have:=r.un; lia⟩
theorem BG.deeper {k:Nat} {A:Around} (r:BG (k+1) A) (env:Env):BG k (A.deeper env) :=
 ⟨r.hd,by have:=r.dp; show A.depth+1+3 * k+5 < _; lia,by have:=r.un; show A.units+3+16 * k+200 < _; lia⟩
theorem BG.in1 {k:Nat} {A:Around} (r:BG (k+1) A):BG k A.in1 :=
 ⟨r.hd,by have:=r.dp; show A.depth+3 * k+5 < _; lia,by have:=r.un; show A.units+1+16 * k+200 < _; lia⟩
theorem Ng {A:Around} {C:Addr} {us:List Value} {kw:List (Str×Value)}:(A.under (.builtin "type.__call__" ⟨.ref C :: us,kw⟩)).depth=A.depth+1:=by
 first | rfl | simp [Around.under,Code.weight,Code.isCreation,Code.isGuard,Code.isCaller,Code.frames,Code.isFrame,guardIds]
theorem Nf {A:Around} {C:Addr} {us:List Value} {kw:List (Str×Value)}:(A.under (.builtin "type.__call__" ⟨.ref C :: us,kw⟩)).units=A.units+1:=by
 first | rfl | simp [Around.under,Code.cUnits,Code.frames,Code.isFrame]
theorem BG.make {k:Nat} {A:Around} (r:BG (k+1) A) (C:Addr) (us:List Value) (kw:List (Str×Value)):BG k (A.under (.builtin "type.__call__" ⟨.ref C :: us,kw⟩)) :=
 ⟨r.hd,by have:=r.dp; rw [Ng]; lia,by have:=r.un; rw [Nf]; lia⟩
theorem BG.depth {k:Nat} {A:Around} (r:BG k A):A.depth < recursionLimit:=by have:=r.dp; lia
theorem BG.units {k:Nat} {A:Around} (r:BG k A):A.units+64 < cLine:=by have:=r.un; lia
def Py:TA:=fun _ H Q=>Q [] H
def GC (ta:TE) (tr:TA):TA:=fun σ H Q=>ta σ H fun x H1=>tr σ H1 fun xs H2=>Q (x :: xs) H2
section
variable {X:Cx} {e:Expr} {es:List Expr} {te:TE} {t:TA} {pos:Pos}
theorem Ab:PA X [] Py:=fun _ _ _ _ H Q I h=>Calls.spliced_nil ⟨[],H,I,.nil,h⟩
theorem Aa (ha:PE X e te) (hr:PA X es t) (hs:starEach (e :: es) X.env=(false,eval e X.env) :: starEach es X.env:=by rfl):PA X (e :: es) (GC te t):=by
 intro pos pins s σ H Q I h;rw [hs];show wpAny _ _ (spliced ((false,eval e X.env) :: backTo pos (starEach es X.env))) _ _ s;refine Calls.spliced_cons (thn (ha pins s σ H _ I h) fun u s1 ⟨x,H1,I1,r1,q1⟩=>?_);exact thn (hr pos pins s1 σ H1 _ I1 q1) fun us s2 ⟨xs,H2,I2,r2,q2⟩=>⟨x :: xs,H2,I2,.cons r1 r2,q2⟩
def tTup (t:TA):TE:=fun σ H Q=>t σ H fun xs H1=>xs.length<=sizeLine/\∀ p,H1 p=none->Q (.ref p) (upd H1 p (.tup xs))
def tLst (t:TA):TE:=fun σ H Q=>t σ H fun xs H1=>xs.length<=sizeLine/\∀ p,H1 p=none->Q (.ref p) (upd H1 p (.lst xs))
theorem Dy {x1} (h:PA X es t):PE X (.Tuple es x1 pos) (tTup t):=by
 intro pins s σ H Q I hq;refine wpAny_Tuple_spliced (thn (h pos pins s σ H _ I hq) fun us s1 ⟨xs,H1,I1,r,z,q⟩=>⟨by rw [<-r.length]; exact z,?_⟩);have hf:H1 s1.heap.objs.size=none:=I1.hok.fresh (Nat.le_refl _);refine ⟨.ref s1.heap.objs.size,upd H1 s1.heap.objs.size (.tup xs),I1.laid (t':=s1.toks) (fun b u e=>Heap.get?_push_of_some _ e) (Nat.le_refl _) ?_,rfl,q _ hf⟩;exact ⟨z,us,r,⟨_,Heap.get?_push_size _ rfl,rfl,_,rfl⟩⟩
theorem Di (h:PA X es t):PE X (.List es pos) (tLst t):=by
 intro pins s σ H Q I hq;refine wpAny_List_spliced (thn (h pos pins s σ H _ I hq) fun us s1 ⟨xs,H1,I1,r,z,q⟩=>⟨by rw [<-r.length]; exact z,?_⟩);have hf:H1 s1.heap.objs.size=none:=I1.hok.fresh (Nat.le_refl _);refine ⟨.ref s1.heap.objs.size,upd H1 s1.heap.objs.size (.lst xs),I1.laid (t':=s1.toks) (fun b u e=>Heap.get?_push_of_some _ e) (Nat.le_refl _) ?_,rfl,q _ hf⟩;exact ⟨z,us,0,r,Heap.get?_push_size _ rfl⟩
end
abbrev Sp:=List V->Hp->VK->XK->Prop
abbrev CXT:=List Env->Hp->Shared->XK->Value->Shared->Prop
structure Ga (P:Program) (w:World) (K:PySem.W.Frag) (mg:Str->Option Value) (base:Heap) (A:Around) (outer:List Env) (s:Shared) (H:Hp):Prop where
 frames:A.frames=some outer
 mod:Mod K mg base
 bs:∀ b o,base.get? b=some o->s.heap.get? b=some o/\H b=none
 bsz:base.objs.size<=s.heap.objs.size
 funs:s.heap.FunFrames base outer
 frf:∀ b ∈ frs outer,H b=none
 hok:HOk P w H s.heap
 bare:AllBare s.gens
def CE (outer:List Env) (P:Program) (w:World) (H:Hp) (s:Shared) (Q:VK) (u:Value) (s':Shared):Prop :=
 ∃ v H',s'.os=s.os/\AllBare s'.gens/\Un (frs outer) [] H H' s.heap s'.heap/\HOk P w H' s'.heap/\AR v u/\Q v H'
def CR (CX:CXT) (outer:List Env) (P:Program) (w:World) (H:Hp) (s:Shared) (Q:VK) (E:XK) (r:Result) (s':Shared):Prop :=
 match r with
 | .ok (.ret u)=>CE outer P w H s Q u s'
 | .ok _=>False
 | .error e=>CX outer H s E e s'
structure AW (P:Program) (w:World) (K:PySem.W.Frag) (mg:Str->Option Value) (base:Heap) (CX:CXT) (k:Nat) (f:Addr) (fd:FuncData) (ps:List Str) (sp:Sp):Prop where
 len:∀ vs H Q E,sp vs H Q E->vs.length=ps.length
 run:∀ (A:Around) (outer:List Env) (s:Shared) (H:Hp) (args:Args) (us:List Value) (vs:List V) (Q:VK) (E:XK),BG k A->Ga P w K mg base A outer s H->BindsTo s fd args (ps.zip us)->AG vs us->sp vs H Q E ->
  codeAny (model P w) A (.call (.ref f) args) (CR CX outer P w H s Q E) s
theorem Ga.make {P:Program} {w:World} {K:PySem.W.Frag} {mg:Str->Option Value} {base:Heap} {A:Around} {outer:List Env} {s:Shared} {H:Hp} (e:Ga P w K mg base A outer s H) (C:Addr) (us:List Value) (kw:List (Str×Value)) :
  Ga P w K mg base (A.under (.builtin "type.__call__" ⟨.ref C :: us,kw⟩)) outer s H:=⟨by first | exact e.frames | (simpa [Around.under,Code.envs,Code.isFrame,pushEnvs] using e.frames),e.mod,e.bs,e.bsz,e.funs,e.frf,e.hok,e.bare⟩
theorem Ga.in1 {P:Program} {w:World} {K:PySem.W.Frag} {mg:Str->Option Value} {base:Heap} {A:Around} {outer:List Env} {s:Shared} {H:Hp} (e:Ga P w K mg base A outer s H) :
  Ga P w K mg base A.in1 outer s H:=⟨e.frames,e.mod,e.bs,e.bsz,e.funs,e.frf,e.hok,e.bare⟩
section
variable {X:Cx} {pins:List (Addr×Obj)} {σ:St} {H:Hp} {s s':Shared}
theorem Inv.env0 (I:Inv X pins σ H s):Ga X.prog X.w X.K X.mg X.base X.A X.stack s H :=
 ⟨I.ok.frames,I.ok.mod,I.bs,Nat.le_trans I.ok.bsz I.sz,I.stack,I.stkFree,I.hok,I.bare⟩
theorem Inv.after {Q:VK} {u:Value} (I:Inv X pins σ H s) (h:CE X.stack X.prog X.w H s Q u s'):EP X pins σ Q u s':=by
 obtain ⟨v,H',os,bare,un,hok,r,q⟩:=h;obtain ⟨hh,g,d,t,os'⟩:=s';obtain rfl:os'=s.os:=os;exact ⟨v,H',I.call (h':=hh) (g':=g) (d':=d) (t':=t) (ch:=[]) un hok bare (fun b z=>absurd z (by simp)),r,q⟩
end
def tCall (sp:Sp) (dvs:List V) (E:XK) (t:TA):TE:=fun σ H Q=>t σ H fun vs H1=>sp (vs ++ dvs) H1 Q E
def tMeth (C:Addr) (m:Str) (sp:Sp) (dvs:List V) (E:XK) (ta:TE) (t:TA):TE:=fun σ H Q=>ta σ H fun x H1=>∃ a dx fs,x=.ref a/\H1 a=some (.ins C dx fs)/\fs.lookup m=none /\
 t σ H1 fun vs H2=>sp (x :: (vs ++ dvs)) H2 Q E
def tMake (C:Addr) (sp:Sp) (dvs:List V) (E:XK) (t:TA):TE:=fun σ H Q=>t σ H fun vs H1=>∀ x dx,H1 x=none->H1 dx=none->dx≠x ->
 sp (.ref x :: (vs ++ dvs)) (upd (upd H1 dx (.own x)) x (.ins C dx [])) (fun v H2=>v=.non/\Q (.ref x) H2) E
def Do (K:PySem.W.Frag) (fd:FuncData) (ps:List Str) (ds:List Value):Prop :=
 ∀ (s:Shared) (us:List Value),K.In s.heap->(us ++ ds).length=ps.length->BindsTo s fd ⟨us,[]⟩ (ps.zip (us ++ ds))
theorem Do.all {K:PySem.W.Frag} {fd:FuncData} {ps:List Str} (h:∀ us:List Value,us.length=ps.length->bindArgs fd ⟨us,[]⟩=pure (ps.zip us)):Do K fd ps []:=fun s us _ hl=>by
 rw [List.append_nil] at hl ⊢;exact .of_eq (h us hl)
def DX (CX:CXT) (X:Cx) (E:XK):Prop:=∀ (pins:List (Addr×Obj)) (σ:St) (H:Hp) (s:Shared) (e:Value) (s':Shared),Inv X pins σ H s->CX X.stack H s E e s'->X.xe e s'
section
variable {X:Cx} {CX:CXT} {k:Nat} {f C:Addr} {fd:FuncData} {ps:List Str} {sp:Sp} {dvs:List V} {ds:List Value} {E:XK} {x m:Str} {p pos apos:Pos} {e o:Expr} {es:List Expr} {ta:TE} {t:TA}
theorem Qa {pins:List (Addr×Obj)} {σ:St} {H:Hp} {s:Shared} {Q:VK} {us:List Value} {vs:List V} (F:AW X.prog X.w X.K X.mg X.base CX k f fd ps sp) (hr:BG k X.A) (hb:Do X.K fd ps ds) (hd:AG dvs ds) (hx:DX CX X E)
  (I:Inv X pins σ H s) (r:AG vs us) (h:sp (vs ++ dvs) H Q E):wpAny (model X.prog X.w) X.A (call (.ref f) us) (EP X pins σ Q) X.xe s:=by
 have r2:AG (vs ++ dvs) (us ++ ds):=r.append hd;have hl:(us ++ ds).length=ps.length:=by rw [<-r2.length]; exact F.len _ _ _ _ h
 refine wpAny_call (codeAny_mono (F.run X.A X.stack s H ⟨us,[]⟩ (us ++ ds) (vs ++ dvs) Q E hr I.env0 (hb s us I.kIn hl) r2 h) fun r s' hq=>?_);cases r with
 | error e=>exact hx pins σ H s e s' I hq
 | ok fl =>
  cases fl with
  | ret u=>exact I.after hq
  | next=>exact False.elim hq
  | brk=>exact False.elim hq
  | cont=>exact False.elim hq
theorem pe_call (F:AW X.prog X.w X.K X.mg X.base CX k f fd ps sp) (hr:BG k X.A) (hg:Gl X x) (hm:X.mg x=some (.ref f)) (hk:PySem.W.keepIn X.K (.ref f)=true) (hb:Do X.K fd ps ds) (hd:AG dvs ds) (hx:DX CX X E)
  (ha:PA X (e :: es) t) (hdb:(x == ("__debug__" : Str))=false:=by decide) (he:starEach (e :: es) X.env=(false,eval e X.env) :: starEach es X.env:=by rfl) (hpl:(backTo pos (starEach es X.env)).any (·.1)=false:=by rfl) :
  PE X (.Call (.Name x p) (e :: es) [] pos) (tCall sp dvs E t):=by
 intro pins s σ H Q I h;refine wpAny_Call_Name_kw (Fp I hg hm ?_ hdb);refine PySem.W.callWith_K (h₀:=X.base) I.ok.mod.kin hk (thn (ha pos pins s σ H _ I h) fun us s1 ⟨vs,H1,I1,r,q⟩=>⟨I1.kIn,?_⟩) he hpl;exact Qa F hr hb hd hx I1 r q
theorem pe_meth {pl:Sem Bool} (he:PE X o ta) (c:Cls X.K C) (hm:GB X.K C m f) (F:AW X.prog X.w X.K X.mg X.base CX k f fd ps sp) (hr:BG k X.A) (hb:Do X.K fd ps ds) (hd:AG dvs ds) (hx:DX CX X E) (ha:PA X (e :: es) t)
  (hst:starEach (e :: es) X.env=(false,eval e X.env) :: starEach es X.env:=by rfl) (hpl:(backTo pos (starEach es X.env)).any (·.1)=false:=by rfl)
  (ht:eval (.Call (.Attribute o m apos) (e :: es) [] pos) X.env=(do
   let ov <-eval o X.env
   standAt apos.atName
   let (f,first) <-holding [ov] (getMethod ov m pl)
   callWith pos f first (backTo pos (starEach (e :: es) X.env)) (backToKw pos (keywordEach [] X.env))):=by rfl) :
  PE X (.Call (.Attribute o m apos) (e :: es) [] pos) (tMeth C m sp dvs E ta t):=by
 intro pins s σ H Q I h;refine PySem.W.methodCall_KW (pl:=pl) (thn (he pins s σ H _ I h) fun u s1 ⟨x,H1,I1,rx,a,dx,fs,ex,ea,l,q⟩=>?_) ht;subst ex;obtain rfl:u=Value.ref a:=rx;refine Nm I1 ea c hm l ?_;refine PySem.W.callWith_K (first:=[.ref a]) (h₀:=X.base) I.ok.mod.kin hm.kp (thn (ha pos pins s1 σ H1 _ I1 q) fun us s2 ⟨vs,H2,I2,r,q2⟩=>⟨I2.kIn,?_⟩) hst hpl;exact Qa (us:=.ref a :: us) (vs:=.ref a :: vs) F hr hb hd hx I2 (.cons rfl r) q2
structure Mk (K:PySem.W.Frag) (C f:Addr):Prop where
 makes:PySem.W.makesIn K C=true
 init:PySem.W.findIn K (.ref C) "__init__" = some (some (.ref f))
 fn:PySem.W.isFn K (.ref f)=true
 kp:PySem.W.keepIn K (.ref C)=true
theorem PZ {pins:List (Addr×Obj)} {σ:St} {H:Hp} {s:Shared} {Q:VK} {us:List Value} {vs:List V} (M:Mk X.K C f) (F:AW X.prog X.w X.K X.mg X.base CX k f fd ps sp) (hr:BG (k+1) X.A) (hb:Do X.K fd ps ds) (hd:AG dvs ds)
  (hx:DX CX X E) (I:Inv X pins σ H s) (r:AG vs us)
  (h:∀ x dx,H x=none->H dx=none->dx≠x->sp (.ref x :: (vs ++ dvs)) (upd (upd H dx (.own x)) x (.ins C dx [])) (fun v H2=>v=.non/\Q (.ref x) H2) E) :
  wpAny (model X.prog X.w) X.A (call (.ref C) us) (EP X pins σ Q) X.xe s:=by
 have hq:=h (s.heap.objs.size+1) s.heap.objs.size (I.hok.fresh (Nat.le_succ _)) (I.hok.fresh (Nat.le_refl _)) (Nat.ne_of_lt (Nat.lt_succ_self _));have I2:=Inv.made (C:=C) I;have r2:AG (V.ref (s.heap.objs.size+1) :: (vs ++ dvs)) (Value.ref (s.heap.objs.size+1) :: (us ++ ds)):=.cons rfl (r.append hd);have hl:(Value.ref (s.heap.objs.size+1) :: us ++ ds).length=ps.length:=by
  have e:=r2.length;rw [F.len _ _ _ _ hq] at e;exact e.symm
 refine wpAny_call (QE (f:=f) I.kIn M.makes M.init (beq_iff_eq.mp M.fn) (codeAny_mono (F.run _ X.stack _ _ ⟨Value.ref (s.heap.objs.size+1) :: us,[]⟩ (Value.ref (s.heap.objs.size+1) :: (us ++ ds)) _ _ E (hr.make C us [])
  (I2.env0.make C us []) (hb _ (Value.ref (s.heap.objs.size+1) :: us) I2.kIn hl) r2 hq) fun r s' hq'=>?_))
 cases r with
 | error e=>exact hx pins σ _ _ e s' I2 hq'
 | ok fl =>
  cases fl with
  | ret u =>
   obtain ⟨v,H',I3,rv,ev,q3⟩:=I2.after hq';subst ev;exact ⟨rv,⟨V.ref (s.heap.objs.size+1),H',I3,rfl,q3⟩⟩
  | next=>exact False.elim hq'
  | brk=>exact False.elim hq'
  | cont=>exact False.elim hq'
theorem Qj (M:Mk X.K C f) (F:AW X.prog X.w X.K X.mg X.base CX k f fd ps sp) (hr:BG (k+1) X.A) (hg:Gl X x) (hm:X.mg x=some (.ref C)) (hb:Do X.K fd ps ds) (hd:AG dvs ds) (hx:DX CX X E)
  (hdb:(x == ("__debug__" : Str))=false:=by decide):PE X (.Call (.Name x p) [] [] pos) (tMake C sp dvs E Py):=by
 intro pins s σ H Q I h;refine wpAny_Call_Name_kw (Fp I hg hm ?_ hdb);exact PySem.W.callWith_K0 I.kIn M.kp (PZ (us:=[]) M F hr hb hd hx I .nil h)
end
def PK (X:Cx) (kws:List Keyword) (t:TA):Prop :=
 ∀ (pos:Pos) (pins:List (Addr×Obj)) (s:Shared) (σ:St) (H:Hp) (Q:List V->Hp->Prop),Inv X pins σ H s->t σ H Q->wpAny (model X.prog X.w) X.A (evalAll ((backToKw pos (keywordEach kws X.env)).map (·.2))) (AP X pins σ Q) X.xe s
section
variable {X:Cx} {CX:CXT} {k:Nat} {f C:Addr} {fd:FuncData} {ps ks:List Str} {sp:Sp} {E:XK} {x m:Str} {p pos apos kpos:Pos} {e o:Expr} {es:List Expr} {kws:List Keyword} {te ta:TE} {t tk:TA} {nm:Option Str}
theorem pk_nil:PK X [] Py:=fun _ _ _ _ H Q I h=>wpAny_evalAll_nil ⟨[],H,I,.nil,h⟩
theorem pk_cons (ha:PE X e te) (hr:PK X kws t):PK X (⟨nm,e,kpos⟩ :: kws) (GC te t):=by
 intro pos pins s σ H Q I h;show wpAny _ _ (evalAll ((do let v <-eval e X.env; standAt pos; pure v) :: (backToKw pos (keywordEach kws X.env)).map (·.2))) _ _ s;refine wpAny_evalAll_cons (wpAny_bind (thn (ha pins s σ H _ I h) fun u s1 ⟨x,H1,I1,r1,q1⟩=>wpAny_bind (wpAny_standAt (wpAny_pure ?_))));exact thn (hr pos pins s1 σ H1 _ I1 q1) fun us s2 ⟨xs,H2,I2,r2,q2⟩=>⟨x :: xs,H2,I2,.cons r1 r2,q2⟩
variable {g:List Value->List Value->List Value} {gV:List V->List V->List V}
end
structure Av (N P:List Str) (sc:Scope):Prop where
 kind:sc.kind=.function
 co:sc.isCoroutine=false
 gen:sc.isGenerator=false
 nd:N.Nodup
 pre:N.take P.length=P
 par:∀ x ∈ P,sc.names.lookup x=some .local\/sc.names.lookup x=some .cell
 nofree:∀ y ∈ sc.names,y.2≠.free
theorem JB {kindOf:Str->Option NameKind} {x:Str}:∀ {binds:List (Str×Value)} {m:Str->Option Value},(∀ v,(x,v) ∉ binds)->bindL kindOf binds m x=m x
 | [],_,_=>rfl
 | (n,v) :: r,m,h=>by
  unfold bindL;rw [JB fun w hw=>h w (List.mem_cons_of_mem _ hw)];split
  ·have:x≠n:=by rintro rfl; exact h v List.mem_cons_self
   simp [this]
  ·rfl
theorem JD {kindOf:Str->Option NameKind} {x:Str}:∀ {binds:List (Str×Value)} {m:Str->Option Value},(∀ v,(x,v) ∉ binds)->bindC kindOf binds m x=m x
 | [],_,_=>rfl
 | (n,v) :: r,m,h=>by
  unfold bindC;rw [JD fun w hw=>h w (List.mem_cons_of_mem _ hw)];split
  ·rfl
  ·have:x≠n:=by rintro rfl; exact h v List.mem_cons_self
   simp [this]
theorem JC {kindOf:Str->Option NameKind} {x:Str} {v:Value}:∀ {P:List Str} {vs:List Value} {i:Nat} {m:Str->Option Value},P.Nodup->P[i]?=some x->vs[i]?=some v->kindOf x=some .local ->
  bindL kindOf (P.zip vs) m x=some v
 | [],_,_,_,_,h,_,_=>by simp at h
 | _ :: _,[],_,_,_,_,h,_=>by simp at h
 | p :: P,w :: vs,0,m,nd,h1,h2,hk=>by
  simp at h1 h2; subst h1; subst h2;show bindL kindOf ((p,w) :: P.zip vs) m p=_;unfold bindL;rw [JB fun v hv=>(List.nodup_cons.mp nd).1 (List.of_mem_zip hv).1,if_pos hk];simp
 | p :: P,w :: vs,i+1,m,nd,h1,h2,hk=>by
  show bindL kindOf ((p,w) :: P.zip vs) m x=_;unfold bindL;exact JC (i:=i) (List.nodup_cons.mp nd).2 (by simpa using h1) (by simpa using h2) hk
theorem JE {kindOf:Str->Option NameKind} {x:Str} {v:Value}:∀ {P:List Str} {vs:List Value} {i:Nat} {m:Str->Option Value},P.Nodup->P[i]?=some x->vs[i]?=some v->kindOf x≠some .local ->
  bindC kindOf (P.zip vs) m x=some v
 | [],_,_,_,_,h,_,_=>by simp at h
 | _ :: _,[],_,_,_,_,h,_=>by simp at h
 | p :: P,w :: vs,0,m,nd,h1,h2,hk=>by
  simp at h1 h2; subst h1; subst h2;show bindC kindOf ((p,w) :: P.zip vs) m p=_;unfold bindC;rw [JD fun v hv=>(List.nodup_cons.mp nd).1 (List.of_mem_zip hv).1,if_neg hk];simp
 | p :: P,w :: vs,i+1,m,nd,h1,h2,hk=>by
  show bindC kindOf ((p,w) :: P.zip vs) m x=_;unfold bindC;exact JE (i:=i) (List.nodup_cons.mp nd).2 (by simpa using h1) (by simpa using h2) hk
def En (N:List Str) (vs:List V):St:=vs.map some ++ List.replicate (N.length - vs.length) none
def EV (CX:CXT) (P:Program) (w:World) (K:PySem.W.Frag) (mg:Str->Option Value) (base:Heap) (N:List Str) (qual:Str) (scope:Scope) (f:Addr) (cd:Value) (A:Around) (outer:List Env) (s:Shared) (H:Hp) (E:XK):Cx where
 prog:=P
 w:=w
 K:=K
 mg:=mg
 base:=base
 A:=A.deeper (envOfC qual scope s.heap.objs.size f cd)
 N:=N
 s₀:=s
 H₀:=H
 env:=envOfC qual scope s.heap.objs.size f cd
 outer:=outer
 stack:=envOfC qual scope s.heap.objs.size f cd :: outer
 ex:=[]
 calm:=true
 fn:=fun _=>true
 pn:=[]
 xe:=fun e s'=>wpAny (model P w) (A.deeper (envOfC qual scope s.heap.objs.size f cd)) (leaving (envOfC qual scope s.heap.objs.size f cd) e) (fun _ s''=>CX outer H s E e s'') (fun e' s''=>CX outer H s E e' s'') s'
theorem Mp {sc:Scope} {n:Nat} {x:Str} (h:sc.names.lookup x=some .cell):∃ c,(cellsFrom n sc.names []).lookup x=some c:=by
 have q:=PySem.W.cellsFrom_some sc.names n [] (.inl h);exact Option.isSome_iff_exists.mp q
theorem Ju {CX:CXT} {P:Program} {w:World} {K:PySem.W.Frag} {mg:Str->Option Value} {base:Heap} {N ps:List Str} {qual:Str} {scope:Scope} {f:Addr} {cd:Value} {A:Around} {outer:List Env} {s s1:Shared} {H:Hp} {E:XK} {us:List Value} {vs:List V}
  (S:Av N ps scope) (hd:A.handled=none) (e0:Ga P w K mg base A outer s H) (hl:vs.length=ps.length) (r:AG vs us)
  (x:InCallC s s.heap.objs.size (bindL (envOfC qual scope s.heap.objs.size f cd).kindOf (ps.zip us) fun _=>none) (cellsFrom (s.heap.objs.size+1) scope.names []) (bindC (envOfC qual scope s.heap.objs.size f cd).kindOf (ps.zip us) fun _=>none) s1) :
  Inv (EV CX P w K mg base N qual scope f cd A outer s H E) [] (En N vs) H s1:=by
 have hpl:ps.length<=N.length:=by have:=congrArg List.length S.pre; rw [List.length_take] at this; lia
 obtain ⟨h1,tk,rfl,hk⟩:=x.done;have noA:∀ b:Addr,b ∉ (EV CX P w K mg base N qual scope f cd A outer s H E).ex:=fun b z=>absurd (show b ∈ ([]:List Addr) from z) (by simp);refine ⟨⟨e0.mod,S.kind,rfl,rfl,Nat.le_refl _,fun y z c h1 h2=>?_,fun y hy=>?_,fun y c _ h=>?_,fun _=>hd,Around.frames_deeper e0.frames,.inr ⟨rfl,rfl⟩,fun b z=>absurd z (noA b),e0.bs,e0.bsz,fun b _ _=>noA b,fun b z=>absurd z (noA b),e0.funs,e0.frf⟩,
  rfl,e0.bare,Un.kept hk,⟨_,x.toInCall.ns,fun i y v h1 h2 h3=>?_⟩,fun y c h=>⟨_,x.cell y c h⟩,e0.hok.fresh (Nat.le_refl _),fun y c h=>?_,fun p hp=>absurd (show p ∈ ([]:List (Addr×Obj)) from hp) (by simp),e0.hok.kept hk,?_⟩
 ·exact name_of_addr x.apart (PySem.mem_of_lookup h1) (PySem.mem_of_lookup h2)
 ·have hy:scope.names.lookup y=some .cell\/scope.names.lookup y=some .free:=hy;rcases hy with hy | hy
  ·exact Mp hy
  ·exact absurd rfl (S.nofree _ (PySem.mem_of_lookup hy))
 ·exact Nat.le_of_lt (x.above y c (PySem.mem_of_lookup h))
 ·have hi:i < vs.length:=by
   unfold En at h2;by_cases hi:i < vs.length
   ·exact hi
   ·rw [List.getElem?_append_right (by simpa using hi)] at h2;rw [List.getElem?_replicate] at h2;split at h2<;>cases h2
  have ha:vs[i]?=some v:=by
   unfold En at h2;rw [List.getElem?_append_left (by simpa using hi),List.getElem?_map] at h2;cases e:vs[i]? with
   | none=>rw [e] at h2; cases h2
   | some a=>rw [e] at h2; cases h2; rfl
  obtain ⟨u,hu,rv⟩:=r.get ha;have hp:ps[i]?=some y:=by
   rw [<-S.pre,List.getElem?_take_of_lt (by lia)]; exact h1
  have ndP:ps.Nodup:=by rw [<-S.pre]; exact S.nd.sublist (List.take_sublist _ _)
  refine ⟨u,rv,?_⟩;rcases S.par y (List.mem_of_getElem? hp) with k | k
  ·exact .inl ⟨k,JC ndP hp hu k⟩
  ·obtain ⟨c,e⟩:=Mp (n:=s.heap.objs.size+1) k;refine .inr ⟨.inl k,c,e,?_⟩;have q:=x.cell y c e;rw [JE ndP hp hu (by show scope.names.lookup y≠_; rw [k]; decide)] at q;exact q
 ·exact e0.hok.fresh (Nat.le_of_lt (x.above y c (PySem.mem_of_lookup h)))
 ·unfold En;show _=N.length;rw [List.length_append,List.length_map,List.length_replicate];lia
theorem Oh {CX:CXT} {P:Program} {w:World} {K:PySem.W.Frag} {mg:Str->Option Value} {base:Heap} {k:Nat} {f:Addr} {name qual:Str} {params:Arguments} {body:List Stmt} {scope:Scope} {dV kV doc pm cdv ct oc:Value} {an od:Option Addr}
  {osl:Array (Option Value)} {N ps:List Str} {sp:Sp} (lk:K.lookup f=some ⟨oc,od,.func (PySem.W.fnOf name qual params body scope dV kV doc pm an cdv ct),osl⟩) (hcd:PySem.W.codeIn K cdv qual=true) (S:Av N ps scope)
  (len:∀ vs H Q E,sp vs H Q E->vs.length=ps.length)
  (hbody:∀ (A:Around) (outer:List Env) (s:Shared) (H:Hp) (vs:List V) (Q:VK) (E:XK),BG k (A.deeper (envOfC qual scope s.heap.objs.size f cdv))->sp vs H Q E ->
   ∃ t,PSs (EV CX P w K mg base N qual scope f cdv A outer s H E) body t/\t { nx:=fun _ H'=>Q .non H',rt:=Q } (En N vs) H) :
  AW P w K mg base CX (k+1) f (PySem.W.fnOf name qual params body scope dV kV doc pm an cdv ct) ps sp:=by
 refine ⟨len,fun A outer s H args us vs Q E hr e0 hb r hsp=>?_⟩;have hl:=len _ _ _ _ hsp;have KX:K.In s.heap:=e0.mod.kin.keeps fun b o e=>(e0.bs b o e).1;have lim:s.heap.NoLimit:=e0.mod.nolimit.keeps fun b o e=>(e0.bs b o e).1;have hkind:∀ y ∈ ps.zip us,scope.names.lookup y.1=some .local\/(scope.names.lookup y.1=some .cell/\((cellsFrom (s.heap.objs.size+1) scope.names []).lookup y.1).isSome=true):=fun ⟨n,v⟩ hy=>by
  rcases S.par n (List.of_mem_zip hy).1 with q | q
  ·exact .inl q
  ·exact .inr ⟨q,PySem.W.cellsFrom_some _ _ _ (.inl q)⟩
 refine codeAny_call_function hr.depth (KX _ _ lk) rfl S.co S.gen rfl (PySem.W.codeRec_of KX hcd) (hb _ _ _ _ ?_);refine wpAny_newFunctionEnv_cells S.kind hkind fun env he s1 x=>?_;subst he;refine ⟨lim.keeps x.toInCall.keep,codeAny_func ?_⟩;obtain ⟨t,ht,hq⟩:=hbody A outer s H vs Q E (hr.deeper _) hsp;have I:Inv (EV CX P w K mg base N qual scope f cdv A outer s H E) [] (En N vs) H s1:=Ju S hr.hd e0 hl r x;refine wpAny_mono (ht [] s1 (En N vs) H _ I hq) (fun fl s' hs=>?_) fun e s' hs=>hs;have fin:∀ {σ':St} {H':Hp} {v:V} {u:Value},Inv (EV CX P w K mg base N qual scope f cdv A outer s H E) [] σ' H' s'->AR v u->Q v H'->CE outer P w H s Q u s' :=
  fun {σ' H' v u} J rv q=>⟨v,H',J.os,J.bare,J.base,J.hok,rv,q⟩
 cases fl with
 | ret u =>
  obtain ⟨v,σ',H',J,rv,q⟩:=hs;exact fin J rv q
 | next =>
  obtain ⟨σ',H',J,q⟩:=hs;exact fin (v:=V.non) (u:=Value.none) J rfl q
 | brk =>
  obtain ⟨_,_,_,q⟩:=hs;exact False.elim q
 | cont =>
  obtain ⟨_,_,_,q⟩:=hs;exact False.elim q
end L2
namespace L2
open PySem PySem.Spec PyProof.Rows
section
variable {X:Cx} {x:Str} {p pos:Pos} {e:Expr} {es:List Expr} {t:TA} {id T:String} {r:List V->Hp->VK->Prop}
def tCB (r:List V->Hp->VK->Prop) (t:TA):TE:=fun σ H Q=>t σ H fun vs H1=>r vs H1 Q
theorem AJ (hc:Fh X (.builtin id) r) (hg:Gl X x) (hm:X.mg x=none) (hv:bootBuiltins x=some (.builtin id)) (ha:PA X (e :: es) t) (hn:x≠"__name__" := by decide) (hdb:(x == ("__debug__" : Str))=false:=by decide)
  (he:starEach (e :: es) X.env=(false,eval e X.env) :: starEach es X.env:=by rfl) (hpl:(backTo pos (starEach es X.env)).any (·.1)=false:=by rfl):PE X (.Call (.Name x p) (e :: es) [] pos) (tCB r t):=by
 intro pins s σ H Q I h;refine wpAny_Call_Name_kw (Fb I hg hm hv ?_ hn hdb);exact PyProof.Rows.callWith_builtin1 (thn (ha pos pins s σ H _ I h) fun us s1 ⟨vs,H1,I1,r1,q1⟩=>hc pins s1 σ H1 vs us Q I1 r1 q1) he hpl
theorem Fm (hc:Fh X (.type T) r) (hg:Gl X x) (hm:X.mg x=none) (hv:bootBuiltins x=some (.type T)) (ha:PA X (e :: es) t) (hn:x≠"__name__" := by decide) (hdb:(x == ("__debug__" : Str))=false:=by decide)
  (he:starEach (e :: es) X.env=(false,eval e X.env) :: starEach es X.env:=by rfl) (hpl:(backTo pos (starEach es X.env)).any (·.1)=false:=by rfl):PE X (.Call (.Name x p) (e :: es) [] pos) (tCB r t):=by
 intro pins s σ H Q I h;refine wpAny_Call_Name_kw (Fb I hg hm hv ?_ hn hdb);exact PyProof.Rows.callWith_type1 (thn (ha pos pins s σ H _ I h) fun us s1 ⟨vs,H1,I1,r1,q1⟩=>hc pins s1 σ H1 vs us Q I1 r1 q1) he hpl
end
end L2
namespace HT
open PySem PyProof.Rows
section
open PySem.SeqAt
open PySem.AutoSeq1 (wpAny_loadPart')
open PySem.MeetsSeq PySem.MeetsSeq2 PySem.MeetsSeq3
end
section
variable {prog:Program} {w:World} {A:Around} {E:Value->Shared->Prop} {s:Shared}
end
end HT
namespace L2
open PySem PySem.Spec PyProof.Rows
section
variable {X:Cx} {e:Expr} {te:TE} {lo hi:Option Expr} {tl th:TO} {pos p2:Pos}
end
end L2
namespace L2
open PySem PySem.Spec PyProof.Rows
def ixN (n:Nat) (i:Int):Option Nat:=if 0<=i then (if i < n then some i.toNat else none) else if -(n:Int)<=i then some (i+n).toNat else none
def atI {α:Type} (xs:List α) (i:Int):Option α:=(ixN xs.length i).bind fun j=>xs[j]?
theorem Oe {n:Nat} {i:Int} {j:Nat} (h:ixN n i=some j):seqIndex? i n=some j/\j < n/\-(n:Int)<=i/\i < n:=by
 unfold ixN at h;by_cases h0:0<=i
 ·rw [if_pos h0] at h;by_cases h1:i < n
  ·rw [if_pos h1] at h;have e:i.toNat=j:=Option.some.inj h;exact ⟨by rw [seqIndex_of h0 h1,e],by lia,by lia,h1⟩
  ·rw [if_neg h1] at h; cases h
 ·rw [if_neg h0] at h;by_cases h1:-(n:Int)<=i
  ·rw [if_pos h1] at h;have e:(i+n).toNat=j:=Option.some.inj h;exact ⟨by rw [seqIndex_neg (by lia) h1,e],by lia,h1,by lia⟩
  ·rw [if_neg h1] at h; cases h
theorem Os {α:Type} {xs:List α} {i:Int} {v:α} (h:atI xs i=some v):∃ j,seqIndex? i xs.length=some j/\xs[j]?=some v/\j < xs.length/\-(xs.length:Int)<=i/\i < xs.length:=by
 unfold atI at h;cases e:ixN xs.length i with
 | none=>rw [e] at h; cases h
 | some j =>
  rw [e] at h;obtain ⟨h1,h2,h3,h4⟩:=Oe e;exact ⟨j,h1,h,h2,h3,h4⟩
theorem Ai {α:Type} {xs:List α} {j:Nat} {v:α} (h:xs[j]?=some v):atI xs (j:Int)=some v:=by
 have hj:j < xs.length:=(List.getElem?_eq_some_iff.mp h).1;have e:ixN xs.length (j:Int)=some j:=by
  unfold ixN;rw [if_pos (by lia),if_pos (by lia)]; simp
 unfold atI; rw [e]; exact h
def PlainIx (b:Expr):Prop:=∀ o i,subscripted b false o i=operate [o,i] (getItem o i)
def IxR (X:Cx) (r:R2):Prop :=
 ∀ (value slice:Expr) (pins:List (Addr×Obj)) (s:Shared) (σ:St) (H:Hp) (x y:V) (v u:Value) (Q:VK),Inv X pins σ H s->AR x v->AR y u->r x y H Q ->
  subscripted slice false v u=operate [v,u] (getItem v u)->wpAny (model X.prog X.w) X.A (subscriptTail value slice v u) (EP X pins σ Q) X.xe s
def MtR (X:Cx) (id:String) (r:V->List V->Hp->VK->Prop):Prop :=
 ∀ (pins:List (Addr×Obj)) (s:Shared) (σ:St) (H:Hp) (x:V) (xs:List V) (v:Value) (us:List Value) (Q:VK),Inv X pins σ H s->AR x v->AG xs us->r x xs H Q ->
  wpAny (model X.prog X.w) X.A (call (.builtin id) (v :: us)) (EP X pins σ Q) X.xe s
section
variable {X:Cx} {a b:Expr} {ta tb:TE} {pos:Pos}
theorem Aw {r:R2} (hr:IxR X r) (ha:PE X a ta) (hb:PE X b tb) (hs:PlainIx b):PE X (.Subscript a b pos) (tOp r ta tb):=by
 intro pins s σ H Q I h;exact Subscript_ (binT ha hb I h fun v u s2 x y H2 I2 rx ry q=>hr a b pins s2 σ H2 x y v u Q I2 rx ry q (hs _ _))
def rIxL (K:PySem.W.Frag):R2:=fun x y H Q=>∃ p xs i v,x=.ref p/\y=.int i/\SqL K H p xs/\atI xs i=some v/\Q v H
def rIxT (K:PySem.W.Frag):R2:=fun x y H Q=>∃ p xs i v,x=.ref p/\y=.int i/\SqT K H p xs/\atI xs i=some v/\Q v H
theorem AF:IxR X (rIxL X.K):=by
 intro value slice pins s σ H x y v u Q I rx ry h hs;obtain ⟨p,xs,i,z,rfl,rfl,hq,he,q⟩:=h;cases rx;obtain ⟨t,rfl⟩:=ry;obtain ⟨its,r,pl,hz⟩:=I.list hq;obtain ⟨j,h1,h2,h3,h4,h5⟩:=Os he;obtain ⟨w,ew,rw'⟩:=r.get h2;have hl:=r.length;have hn:=Lf;have fin:EP X pins σ Q w s:=⟨z,H,I,rw',q⟩
 by_cases h0:0<=i
 ·have hj:i.toNat=j:=by
   rw [seqIndex_of h0 h5] at h1;exact Option.some.inj h1
  exact item_listR pl.isList h0 (by lia) (by rw [hj]; simpa using ew) fin hs
 ·have hj:(i+(its.toArray.size:Int)).toNat=j:=by
   rw [seqIndex_neg (by lia) h4] at h1;rw [List.size_toArray,<-hl];exact Option.some.inj h1
  exact subscriptTail_builtinR (x:=w) pl.isList.typeIs slot_list_getitem.lookup
   (wpAny_getItem_list_neg (Q:=fun r s'=>r=w/\EP X pins σ Q r s') pl.isList (by lia) (by rw [List.size_toArray]<;>lia) (by lia) (by rw [hj]; simpa using ew) ⟨rfl,fin⟩) hs
theorem AQ:IxR X (rIxT X.K):=by
 intro value slice pins s σ H x y v u Q I rx ry h hs;obtain ⟨p,xs,i,z,rfl,rfl,hq,he,q⟩:=h;cases rx;obtain ⟨t,rfl⟩:=ry;obtain ⟨its,r,pl,hz⟩:=I.tuple hq;obtain ⟨j,h1,h2,h3,h4,h5⟩:=Os he;obtain ⟨w,ew,rw'⟩:=r.get h2;have hl:=r.length;have hn:=Lf;have fin:EP X pins σ Q w s:=⟨z,H,I,rw',q⟩
 exact subscriptTail_builtinR (x:=w) pl.typeIs slot_tuple_getitem.lookup
  (getItem_tuple (j:=j) (Q:=fun r s'=>r=w/\EP X pins σ Q r s') pl (by lia) (by lia) (by rw [List.size_toArray,<-hl]; exact h1) (by simpa using ew) ⟨rfl,fin⟩) hs
theorem Nd (its:List Value) (n j:Nat) (u:Value):Obj.mapSeq (·.setIfInBounds j u) { cls:=.type "list",data:=.seq its.toArray n }={ cls:=.type "list",data:=.seq (its.set j u).toArray n }:=by
 simp [Obj.mapSeq]
theorem Inv.lst {pins:List (Addr×Obj)} {σ:St} {H:Hp} {s:Shared} {p:Addr} {xs:List V} (I:Inv X pins σ H s) (h:H p=some (.lst xs)) :
  ∃ (its:List Value) (n:Nat),AG xs its/\s.heap.get? p=some { cls:=.type "list",data:=.seq its.toArray n }/\xs.length<=sizeLine:=by
 obtain ⟨z,its,n,r,e⟩:=I.hok p _ h;exact ⟨its,n,r,e,z⟩
theorem Inv.lstUpd {pins:List (Addr×Obj)} {σ:St} {H:Hp} {s:Shared} {p:Addr} {xs ys:List V} {its its':List Value} {n n':Nat} {f:Obj->Obj} (I:Inv X pins σ H s) (h:H p=some (.lst xs))
  (ho:s.heap.get? p=some { cls:=.type "list",data:=.seq its.toArray n }) (hf:f { cls:=.type "list",data:=.seq its.toArray n }={ cls:=.type "list",data:=.seq its'.toArray n' }) (r:AG ys its') (hz:ys.length<=sizeLine) (t:Nat) :
  Inv X pins σ (upd H p (.lst ys)) { s with heap:=s.heap.update p f,toks:=t }:=by
 have e:(s.heap.update p f).get? p=some { cls:=.type "list",data:=.seq its'.toArray n' }:=by
  rw [Heap.get?_update_self f ho (by rw [hf]<;>rfl),hf]
 refine I.write (x:=p) (e:=p) (by rw [h]; trivial) (.inl rfl) (fun b u hb q=>(Heap.get?_update_other _ _ (Ne.symm hb)).trans q) ⟨_,e⟩ ?_;exact ⟨hz,its',n',r,e⟩
def rSetL:V->V->V->Hp->(Hp->Prop)->Prop:=fun o i v H Q=>∃ p xs k j,o=.ref p/\i=.int k/\H p=some (.lst xs)/\ixN xs.length k=some j/\Q (upd H p (.lst (xs.set j v)))
theorem PY:PSet X rSetL:=by
 intro pins s σ H o i v ov iv u Q I ro ri rv h;obtain ⟨p,xs,k,j,rfl,rfl,hp,hj,q⟩:=h;cases ro;obtain ⟨t,rfl⟩:=ri;obtain ⟨its,n,r,ho,hz⟩:=I.lst hp;obtain ⟨h1,h2,h3,h4⟩:=Oe hj;have hl:=r.length;have hn:=Lf;have I':Inv X pins σ (upd H p (.lst (xs.set j v))) { s with heap:=s.heap.update p (Obj.mapSeq (·.setIfInBounds j u)) } :=
  I.lstUpd hp ho (Nd its n j u) (r.set rv j) (by rw [List.length_set]; exact hz) s.toks
 by_cases h0:0<=k
 ·have hk:k.toNat=j:=by
   rw [seqIndex_of h0 h4] at h1;exact Option.some.inj h1
  exact PySem.W.ki_setAt ho h0 (by lia) (by rw [List.size_toArray,<-hl]; exact h4) (by rw [hk]; exact ⟨_,I',q⟩)
 ·have hk:(k+(its.toArray.size:Int)).toNat=j:=by
   rw [seqIndex_neg (by lia) h3] at h1;rw [List.size_toArray,<-hl];exact Option.some.inj h1
  exact PySem.W.ki_setBack ho (by lia) (by rw [List.size_toArray,<-hl]; exact h3) (by lia) (by rw [hk]; exact ⟨_,I',q⟩)
theorem Cg:Fh X (.builtin "len") (fun xs H Q=>∃ p ys,xs=[.ref p]/\(SqL X.K H p ys\/SqT X.K H p ys)/\Q (.int ys.length) H):=by
 intro pins s σ H xs us Q I r h;obtain ⟨p,ys,rfl,hq,q⟩:=h;obtain ⟨u,rfl,rx⟩:=Pp r;cases rx;have hn:=Lf;rcases hq with hq | hq
 ·obtain ⟨its,r',pl,hz⟩:=I.list hq;have hlen:=r'.length;exact Calls.call_len_list pl.isList (by simp only [List.size_toArray]<;>lia) ⟨.int ys.length,H,I.tok _,⟨s.toks+1,by rw [List.size_toArray,hlen]⟩,q⟩
 ·obtain ⟨its,r',pl,hz⟩:=I.tuple hq;have hlen:=r'.length;exact len_tuple pl (by simp only [List.size_toArray]<;>lia) ⟨.int ys.length,H,I.tok _,⟨s.toks+1,by rw [List.size_toArray,hlen]⟩,q⟩
theorem ER:Fh X (.type "list") (fun xs H Q=>∃ p ys,xs=[.ref p]/\(SqL X.K H p ys\/SqT X.K H p ys)/\∀ l,H l=none->Q (.ref l) (upd H l (.lst ys))):=by
 intro pins s σ H xs us Q I r h;obtain ⟨p,ys,rfl,hq,q⟩:=h;obtain ⟨u,rfl,rx⟩:=Pp r;cases rx;have fin:∀ (its:List Value),AG ys its->ys.length<=sizeLine->∀ (h':Heap) (c':Nat),(∀ b o',s.heap.get? b=some o'->h'.get? b=some o') ->
   h'.get? s.heap.objs.size=some { cls:=.type "list",dict:=none,data:=.seq its.toArray c',slots:=#[] }->EP X pins σ Q (.ref s.heap.objs.size) { s with heap:=h' }:=fun its r' hz h' c' kp e =>
  ⟨.ref s.heap.objs.size,_,I.laid (t':=s.toks) kp (Nat.le_refl _) (show AS X.prog X.w _ h' _ (.lst ys) from ⟨hz,its,c',r',e⟩),rfl,q _ (I.hok.fresh (Nat.le_refl _))⟩
 rcases hq with hq | hq
 ·obtain ⟨its,r',pl,hz⟩:=I.list hq;have hlen:=r'.length;obtain ⟨o,ho,hc,n,hd⟩:=pl.isList;exact call_list_seq p (.inl rfl) ho hc hd (fun h' c' kp e=>fin its r' hz h' c' kp e) (by simp only [List.size_toArray]<;>lia)
 ·obtain ⟨its,r',pl,hz⟩:=I.tuple hq;have hlen:=r'.length;obtain ⟨o,ho,hc,n,hd⟩:=pl;exact call_list_seq p (.inr rfl) ho hc hd (fun h' c' kp e=>fin its r' hz h' c' kp e) (by simp only [List.size_toArray]<;>lia)
theorem Jc:Fh X (.type "tuple") (fun xs H Q=>∃ p ys,xs=[.ref p]/\((SqL X.K H p ys/\∀ l,H l=none->Q (.ref l) (upd H l (.tup ys)))\/(SqT X.K H p ys/\Q (.ref p) H))):=by
 intro pins s σ H xs us Q I r h;obtain ⟨p,ys,rfl,h⟩:=h;obtain ⟨u,rfl,rx⟩:=Pp r;cases rx;rcases h with ⟨hq,q⟩ | ⟨hq,q⟩
 ·obtain ⟨its,r',pl,hz⟩:=I.list hq;have hlen:=r'.length;refine call_tuple_list pl.isList (fun h' kp=>?_) (by simp only [List.size_toArray]<;>lia);have I1:Inv X pins σ H { s with heap:=h' }:=I.kept (t':=s.toks) kp
  have I2:Inv X pins σ (upd H h'.objs.size (.tup ys)) { s with heap:=h'.push { cls:=.type "tuple",data:=.seq its.toArray } } :=
   I1.laid (t':=s.toks) (fun b o e=>Heap.get?_push_of_some _ e) (Nat.le_refl _) (show AS X.prog X.w _ _ _ (.tup ys) from ⟨hz,its,r',IsTup.new _ _⟩)
  exact ⟨.ref h'.objs.size,_,I2,rfl,q _ (I1.hok.fresh (Nat.le_refl _))⟩
 ·obtain ⟨its,r',pl,hz⟩:=I.tuple hq;exact call_tuple_same pl ⟨.ref p,H,I,rfl,q⟩
def tyV (K:PySem.W.Frag) (T:String) (x:V) (H:Hp):Prop:=match x with
 | .str _=>T="str"
 | .int _=>T="int"
 | .ref p=>(T="list" /\ ∃ xs,SqL K H p xs)\/(T="tuple" /\ ∃ o,K.lookup p=some o/\o.cls=.type "tuple" /\ o.dict=none) \/
   (T="dict" /\ ((∃ kvs,H p=some (.dK kvs))\/∃ kvs,H p=some (.dT kvs)))\/(T="set" /\ ∃ S n,H p=some (.set S n))
 | _=>False
theorem tyV_is {pins:List (Addr×Obj)} {σ:St} {H:Hp} {s:Shared} {T:String} {x:V} {v:Value} (I:Inv X pins σ H s) (r:AR x v) (ty:tyV X.K T x H) :
  s.TypeIs v T/\∀ a,v=.ref a->∃ ob,s.heap.get? a=some ob/\ob.dict=none:=by
 cases x with
 | str z =>
  obtain ⟨t,rfl⟩:=r;cases (show T="str" from ty);exact ⟨typeIs_str s z t,fun _ e=>nomatch e⟩
 | int i =>
  obtain ⟨t,rfl⟩:=r;cases (show T="int" from ty);exact ⟨typeIs_int s i t,fun _ e=>nomatch e⟩
 | ref p =>
  cases r;rcases ty with ⟨rfl,xs,hq⟩ | ⟨rfl,o,hk,hc,hd⟩ | ⟨rfl,hk⟩ | ⟨rfl,S,n,hk⟩
  ·obtain ⟨its,_,pl,_⟩:=I.list hq;refine ⟨pl.isList.typeIs,fun a e=>?_⟩;cases e;obtain ⟨o,n,e,c,hd,_⟩:=pl;exact ⟨o,e,hd⟩
  ·refine ⟨⟨o,I.kIn p o hk,hc⟩,fun a e=>?_⟩;cases e;exact ⟨o,I.kIn _ o hk,hd⟩
  ·have z:∃ o,s.heap.get? p=some o/\o.ExactDict:=by
    rcases hk with ⟨kvs,hk⟩ | ⟨kvs,hk⟩
    ·obtain ⟨_,_,_,_,o,_,_,e,ex,_⟩:=I.hok p _ hk;exact ⟨o,e,ex⟩
    ·obtain ⟨_,_,_,_,o,_,_,e,ex,_⟩:=I.hok p _ hk;exact ⟨o,e,ex⟩
   obtain ⟨o,e,ex⟩:=z;refine ⟨⟨o,e,ex.1⟩,fun a e2=>?_⟩;cases e2;exact ⟨o,e,ex.2.1⟩
  ·obtain ⟨o,_,_,_,e,ex,_⟩:=I.hok p _ hk;refine ⟨⟨o,e,ex.1⟩,fun a e2=>?_⟩;cases e2;exact ⟨o,e,ex.2.1⟩
 | _=>exact False.elim ty
def tBM (K:PySem.W.Frag) (T:String) (r:V->List V->Hp->VK->Prop) (to:TE) (t:TA):TE:=fun σ H Q=>to σ H fun x H1=>tyV K T x H1/\t σ H1 fun xs H2=>r x xs H2 Q
variable {o e:Expr} {es:List Expr} {to:TE} {t:TA} {name:Str} {apos cpos:Pos} {T id:String} {r:V->List V->Hp->VK->Prop}
theorem Jo (pa:PlainAttrs T) (slot:Slot T name id) (hty:typeOf (.builtin id)=pure (.type "method_descriptor")) (hm:MtR X id r) (ho:PE X o to) (ha:PA X (e :: es) t)
  (hbase:attributeBase o name X.env (eval o X.env)=eval o X.env:=by rfl)
  (hfew:((backTo cpos (starEach (e :: es) X.env)).all (fun x=>!x.1) && (backToKw cpos (keywordEach [] X.env)).all (fun x=>x.1.isSome)
   && decide ((e :: es).length+([]:List Keyword).length+(if ([]:List Keyword).isEmpty then 0 else 1) < 30))=true:=by rfl)
  (hline:(apos.endLine == cpos.line)=true:=by rfl) (hs:starEach (e :: es) X.env=(false,eval e X.env) :: starEach es X.env:=by rfl) (hplain:(backTo cpos (starEach es X.env)).any (·.1)=false:=by rfl) :
  PE X (.Call (.Attribute o name apos) (e :: es) [] cpos) (tBM X.K T r to t):=by
 intro pins s σ H Q I h;refine wpAny_Call_method_late hbase hfew hline rfl (thn (ho pins s σ H _ I h) fun v s1 ⟨x,H1,I1,r1,ty,q1⟩=>?_);obtain ⟨h1,h2⟩:=tyV_is I1 r1 ty;refine ⟨T,id,pa,slot,hty,h1,h2,?_⟩;have hA:=ha cpos pins s1 σ H1 _ I1 q1;rw [hs] at hA ⊢;refine Calls.callWith_builtin (by show (false || (backTo cpos (starEach es X.env)).any (·.1))=false; rw [hplain]<;>rfl) (Calls.evalArgs_plain ?_);exact thn hA fun us s2 ⟨vs,H2,I2,r2,q2⟩=>hm pins s2 σ H2 x vs v us Q I2 r1 r2 q2
/- xs.append(e),list.index on a module's tuple .. are MtR facts of 06m -/
end
end L2
namespace L2
open PySem PySem.Spec PyProof.Rows
def MtM (X:Cx) (id:String) (r:V->List V->Hp->VK->Prop):Prop :=
 ∀ (pins:List (Addr×Obj)) (s:Shared) (σ:St) (H:Hp) (x:V) (xs:List V) (v:Value) (us:List Value) (Q:VK),Inv X pins σ H s->AR x v->AG xs us->r x xs H Q ->
  wpAny (model X.prog X.w) X.A (call (.builtin id) (v :: us)) (EP X pins σ Q) X.xe s
theorem AG.one:∀ {x:V} {us:List Value},AG [x] us->∃ u,us=[u]/\AR x u
 | _,_,.cons r .nil=>⟨_,rfl,r⟩
theorem AG.two:∀ {x y:V} {us:List Value},AG [x,y] us->∃ u v,us=[u,v]/\AR x u/\AR y v:=by
 intro x y us h; cases h with
 | cons r t=>cases t with
  | cons q t=>cases t; exact ⟨_,_,rfl,r,q⟩
section
variable {X:Cx} {pins:List (Addr×Obj)} {σ:St} {H:Hp} {s:Shared} {l b:Addr} {xs ys zs:List V}
theorem Inv.lset {its its':List Value} {n:Nat} {f:Array Value->Array Value} {t':Nat} (I:Inv X pins σ H s) (hH:H l=some (.lst xs))
  (e:s.heap.get? l=some { cls:=.type "list",data:=.seq its.toArray n }) (hf:f its.toArray=its'.toArray) (hv:AG ys its') (hz:ys.length<=sizeLine) :
  Inv X pins σ (upd H l (.lst ys)) { s with heap:=s.heap.update l (Obj.mapSeq f),toks:=t' }:=by
 have q:=PySem.IsL.update e f;rw [hf] at q;refine I.write (x:=l) (e:=l) (by rw [hH]; exact trivial) (.inl rfl) (fun b' u hb hu=>(Heap.get?_update_other s.heap (Obj.mapSeq f) (Ne.symm hb)).trans hu) ⟨_,q⟩ ?_;exact ⟨hz,its',_,hv,q⟩
theorem Inv.lnew {its:List Value} {t':Nat} (I:Inv X pins σ H s) (hv:AG ys its) (hz:ys.length<=sizeLine) :
  Inv X pins σ (upd H s.heap.objs.size (.lst ys)) { s with heap:=s.heap.push { cls:=.type "list",data:=.seq its.toArray },toks:=t' } :=
 I.laid (fun _ _ q=>Heap.get?_push_of_some _ q) (Nat.le_refl _) ⟨hz,its,0,hv,Heap.get?_push_size _ rfl⟩
theorem Inv.fresh (I:Inv X pins σ H s):H s.heap.objs.size=none:=I.hok.fresh (Nat.le_refl _)
theorem Inv.lstM (I:Inv X pins σ H s) (hH:H l=some (.lst xs)):xs.length<=sizeLine/\∃ (its:List Value) (n:Nat),AG xs its/\xs.length=its.length/\s.heap.get? l=some { cls:=.type "list",data:=.seq its.toArray n }:=by
 obtain ⟨z,its,n,r,e⟩:=I.hok l _ hH;exact ⟨z,its,n,r,r.length,e⟩
end
section
variable {X:Cx}
def rAppend:V->List V->Hp->VK->Prop:=fun x vs H Q=>∃ l xs y,x=.ref l/\vs=[y]/\H l=some (.lst xs)/\xs.length < sizeLine/\Q .non (upd H l (.lst (xs ++ [y])))
theorem Et:MtM X "list.append" rAppend:=by
 intro pins s σ H x vs v us Q I rx rv h;obtain ⟨l,xs,y,rfl,rfl,hH,hz,q⟩:=h;cases rx;obtain ⟨u,rfl,ru⟩:=rv.one;obtain ⟨z,its,n,r,hl,e⟩:=I.lstM hH;refine call_meets F.slot_list_append ⟨_,e,rfl⟩ F.entry_list_append (F.args_list_append_2 _ _) (PySem.list_append l its.toArray n u (by rw [List.size_toArray]; lia)) ⟨e,?_⟩;refine ⟨.non,_,I.lset (its':=its ++ [u]) hH e (by simp) (r.append (.cons ru .nil)) ?_,rfl,q⟩;rw [List.length_append,List.length_singleton];lia
def rCat:R2:=fun x y H Q=>∃ l b xs zs,x=.ref l/\y=.ref b/\H l=some (.lst xs)/\H b=some (.lst zs)/\xs.length+zs.length<=sizeLine/\∀ p,H p=none->Q (.ref p) (upd H p (.lst (xs ++ zs)))
theorem MR:OpR X (binaryOp .Add) rCat:=by
 intro pins s σ H x y v u Q I rx ry h;obtain ⟨l,b,xs,zs,rfl,rfl,hH,hB,hz,q⟩:=h;cases rx;cases ry;obtain ⟨z,its,n,r,hl,e⟩:=I.lstM hH;obtain ⟨z2,its2,n2,r2,hl2,e2⟩:=I.lstM hB;refine PySem.P.add_list e e2 ?_ (by rw [List.size_toArray,List.size_toArray]; lia);have ea:its.toArray ++ its2.toArray=(its ++ its2).toArray:=by simp
 rw [ea];exact ⟨.ref _,_,I.lnew (t':=s.toks) (r.append r2) (by rw [List.length_append]; lia),rfl,q _ I.fresh⟩
end
section
variable {prog:Program} {w:World} {A:Around} {E:Value->Shared->Prop} {s:Shared}
end
section
variable {X:Cx}
end
end L2
namespace Att
open PySem PySem.W PySem.Calls PyProof.Rows
theorem GS {P:Params} {h:Heap}:∀ (ns:List Int) (vs:List Value),WellAll P h vs (ns.map WData.int)->IntsAre vs ns:=by
 intro ns;induction ns with
 | nil =>
  intro vs w;rw [List.map_nil] at w;cases w;exact .nil
 | cons n ns ih =>
  intro vs w;rw [List.map_cons] at w;cases w with
  | cons a b =>
   cases a;exact .cons _ _ (ih _ b)
theorem OG {l:OpenLaw} {n:Nat} (hn:l.most=some n) {P:Params} {h:Heap} {args:List WData} {vals:List Value}
  (hpre:l.row.toRowW.claim.pre args=true) (hwl:WellAll P h vals args) :
  ∃ a vs ns,vals=[Value.ref a]/\args=[WData.list (ns.map WData.int)]/\h.get? a=some { cls:=.type "list",data:=.seq vs.toArray }/\IntsAre vs ns/\ns.length<=n:=by
 have hsh:WShape.hasAll [] args [.list .int]=true:=(pre_splitW hpre).1;have hc:l.pre.holds [] { args:=args }=true:=(pre_splitW hpre).2;obtain ⟨d,r,rfl,h1,h2⟩:=hasAllW_cons hsh;obtain rfl:=hasAllW_nil h2;obtain ⟨xs,rfl,h3⟩:=hasW_list h1;obtain ⟨ns,rfl⟩:=items_int h3;have hlen:ns.length<=n:=by
  unfold OpenLaw.pre at hc;have h4:(WTm.not (.lt (.lit (.int (n:Int))) (.len (.arg 0)))).holds [] { args:=[.list (ns.map .int)] }=true:=by
   have h4:=(holds_andW hc).1;rw [hn] at h4;exact h4
  have h5:=condW_of h4 (w_not (w_lt w_lit (w_len_list (w_arg rfl))));rw [List.length_map] at h5;refine Nat.le_of_not_lt fun q=>?_;have q':(n:Int) < ((ns.length:Nat):Int):=by lia
  first
   | (rw [decide_eq_true q'] at h5; exact absurd h5 (by decide))
   | (simp at h5; lia)
 cases hwl with
 | cons w1 w2 =>
  cases w2;cases w1 with
  | list ho hall=>exact ⟨_,_,ns,rfl,rfl,ho,GS ns _ hall,hlen⟩
theorem OI (l:OpenLaw) (args:List WData):l.row.toRowW.claim.post args (.bool true) args=true :=
 postW_of (r:=l.row.toRowW) (X:=(true == true))
  (show WShape.has [] (.bool true) .bool=true by first | rfl | decide | simp [WShape.has,WShape.arms,WShape.armsAll])
  (show (WTm.eq .res (.lit (.bool true))).value [] { args:=args,res:=some (.bool true),after:=args }=some (.bool (true == true)) from w_eq_bool (w_res rfl) w_lit) rfl
theorem Mu {l:OpenLaw} {n:Nat} {q:Program} {loose:List Str} {XP:(Str->Option Value)->Heap->Prop} {YP:World->Heap->Prop} {d:DefRec}
  (hn:l.most=some n) (hdf:d.params.defaults=[])
  (call:∀ (w:World) (s₀ s₁:Shared) (mg mb:Str->Option Value) (fa:Addr) (o:Obj) (pm cd doc:Value) (a:Addr) (vs:List Value) (ns:List Int),
   Ground q loose [] XP w s₀ mg mb s₁.heap->YP w s₁.heap ->
   s₁.heap.get? fa=some o->o.data=.func (docDef d.name d.params d.body d.scope pm cd doc)->s₁.heap.CodeRec cd d.name->mg d.name=some (.ref fa) ->
   s₁.heap.get? a=some { cls:=.type "list",data:=.seq vs.toArray }->IntsAre vs ns->ns.length<=n->s₁.gens=#[] ->
   codeAny (model l.prog w) callerA (.call (.ref fa) ⟨[.ref a],[]⟩) (fun r s'=>r=.ok (.ret (.bool true))/\OldK s₁.heap s'.heap/\s'.os=s₁.os/\AllBare s'.gens) s₁) :
  WalkO q loose XP YP l.row.toRowW d [] (fun f vs=>PySem.call f vs):=by
 intro w s₀ s₁ mg mb G Y fa o pm cd doc dV kV ho hd hcd hD hmg hg args vals as hpre hlay hrd hwl hlo;obtain rfl:dV=.none:=Dflts.none hD hdf;obtain rfl:kV=.none:=Dflts.noKw hD;obtain ⟨a,vs,ns,rfl,rfl,hobj,hints,hlen⟩:=OG hn hpre hwl;refine enter_call (codeAny_mono (call w s₀ s₁ mg mb fa o pm cd doc a vs ns G Y ho (fd_plain hd) hcd hmg hobj hints hlen hg) fun r s' hq=>?_);obtain ⟨rfl,h2,h3,h4⟩:=hq;exact ⟨.inl ⟨.bool true,.bool true,[],rfl,fun _=>rfl,.bool true,OI l _,fun _=>⟨List.Pairwise.nil,fun _ hm=>(nomatch hm)⟩⟩,h2,h3,h4⟩
section
variable {prog:Program} {w:World} {A:Around} {E:Value->Shared->Prop} {s:Shared} {K:Frag}
end
end Att
namespace L2
open PySem PySem.Spec PyProof.Rows
theorem Jf:∀ {vs:List Value} {ns:List Int},IntsAre vs ns->AG (ns.map V.int) vs
 | _,_,.nil=>.nil
 | _,_,.cons n t h=>.cons ⟨t,rfl⟩ (Jf h)
end L2
namespace L2
open PySem PySem.Spec PyProof.Rows
end L2
/- THE LAST THEOREM (shape; LID,My.* are yours):
 My.Adr: a structure of the addresses that your layer names (classes,functions); My.Txt K t: a structure (Prop) of the equations over K;
 My.txt_mk:{K} {implicit addresses ..} (e1:nsIn K mainGlobals "law" = some (some (.ref f))) (e2:K.lookup f=some ⟨oc,od,.func (fnOf "law" "law" params body scope dV kV doc pm an cdv ct),sl⟩) (e3:codeIn K cdv "law" = true) ..:∃ t,My.Txt K t
set_option maxRecDepth 100000 in
set_option maxHeartbeats 0 in
theorem PySem.Challenge.cw_LID_holds:PySem.Challenge.rw_LID.Holds:=by
 w_on; o_law; k_head; (case hw=>w_witness2)
 k_fill
 refine L2.walk_of (l:=PySem.Challenge.rw_LID) (n:=63) (k:=40) (x:="script") (CX:=fun w=>..) (sp:=fun _=>My.sp_law) rfl (by decide) rfl ⟨rfl,by decide,by decide⟩ (fun w h Y=>PySem.W.kIn_of Y) ?F ?S ?C
 case F =>
  intro w mg fa h KX G hmg;have T:∃ t,My.Txt (L2.KOf KX) t:=by
   dsimp only [L2.KOf]                          -- K must stand as «<heap const> w.params» for k_is;refine' My.txt_mk ?e1 ?e2 ?e3 ..
   (case e1=>PySem.W.k_is)                    -- in the order: a name->its address->its object->its parts
   (case e2=>PySem.W.k_is)
   ..
  obtain ⟨t,T⟩:=T;have e0:=hmg.symm.trans (PySem.W.mg_of KX G T.law);cases e0                                       -- fa is the law's own address;exact ⟨_,fun s u=>.of_eq rfl,fun base kb nb=>My.law_fn T kb nb⟩     -- if «.of_eq rfl» comes too early: refine' ⟨_,?b,fun base kb nb=>My.law_fn T kb nb⟩; exact fun s u=>.of_eq rfl
 case S=>exact fun w H a ns hl hO hS=>..
 case C=>exact ..
(the tactic k_is has no namespace: write k_is) -/
namespace L2
open PySem PySem.Spec PyProof.Rows
def DD (s:Stmt) (j:Nat):Stmt:=match s with
 | .ClassDef _ _ _ body _ _ _ _ _ _ _=>body.getD j (.Pass ⟨0,0,0,0⟩)
 | _=>.Pass ⟨0,0,0,0⟩
def Ax (s:Stmt):Arguments:=match s with
 | .FunctionDef _ a _ _ _ _ _ _ _ _=>a
 | _=>{ posonlyargs:=[],args:=[],vararg:=none,kwonlyargs:=[],kw_defaults:=[],kwarg:=none,defaults:=[] }
def Au (s:Stmt):List Stmt:=match s with
 | .FunctionDef _ _ b _ _ _ _ _ _ _=>b
 | _=>[]
def Ae (s:Stmt):Scope:=match s with
 | .FunctionDef _ _ _ _ _ _ sc _ _ _=>sc
 | _=>{ kind:=.function,names:=[],isGenerator:=false,isCoroutine:=false }
abbrev CX0:CXT:=fun _ _ _ _ _ _=>False
abbrev E0:XK:=fun _ _ _=>False
theorem Al {X:Cx}:DX CX0 X E0:=fun _ _ _ _ _ _ _ h=>h.elim
structure Fun (K:PySem.W.Frag) (x qual:Str) (st:Stmt) (f:Addr) (fd:FuncData):Prop where
 ex:∃ (oc:Value) (od:Option Addr) (kV doc pm:Value) (an:Option Addr) (cdv ct:Value) (osl:Array (Option Value)),
  fd=PySem.W.fnOf x qual (Ax st) (Au st) (Ae st) .none kV doc pm an cdv ct/\K.lookup f=some ⟨oc,od,.func fd,osl⟩/\PySem.W.codeIn K cdv qual=true
 kp:PySem.W.keepIn K (.ref f)=true
section
variable {P:Program} {w:World} {K:PySem.W.Frag} {mg:Str->Option Value} {base:Heap}
theorem Fun.ok {x qual:Str} {st:Stmt} {f:Addr} {fd:FuncData} {N ps:List Str} {k:Nat} {sp:Sp} (F:Fun K x qual st f fd) (S:Av N ps (Ae st)) (len:∀ vs H Q E,sp vs H Q E->vs.length=ps.length)
  (hbody:∀ (cdv:Value) (A:Around) (outer:List Env) (s:Shared) (H:Hp) (vs:List V) (Q:VK) (E:XK),BG k (A.deeper (envOfC qual (Ae st) s.heap.objs.size f cdv))->sp vs H Q E ->
   ∃ t,PSs (EV CX0 P w K mg base N qual (Ae st) f cdv A outer s H E).nox (Au st) t/\t { nx:=fun _ H'=>Q .non H',rt:=Q } (En N vs) H):AW P w K mg base CX0 (k+1) f fd ps sp:=by
 obtain ⟨oc,od,kV,doc,pm,an,cdv,ct,osl,rfl,lk,hcd⟩:=F.ex;refine Oh lk hcd S len fun A outer s H vs Q E hr hsp=>?_;obtain ⟨t,h,q⟩:=hbody cdv A outer s H vs Q E hr hsp;exact ⟨t,h.nox,q⟩
theorem Fun.binds {x qual:Str} {st:Stmt} {f:Addr} {fd:FuncData} {ps:List Str} (F:Fun K x qual st f fd)
  (h:∀ (kV doc pm:Value) (an:Option Addr) (cdv ct:Value) (us:List Value),us.length=ps.length->bindArgs (PySem.W.fnOf x qual (Ax st) (Au st) (Ae st) .none kV doc pm an cdv ct) ⟨us,[]⟩=pure (ps.zip us)):Do K fd ps []:=by
 obtain ⟨oc,od,kV,doc,pm,an,cdv,ct,osl,rfl,lk,hcd⟩:=F.ex;exact .all (h kV doc pm an cdv ct)
theorem AM {x qual:Str} {st:Stmt} {f:Addr} {oc:Value} {od an:Option Addr} {osl:Array (Option Value)} {kV doc pm cdv ct:Value} (l:K.lookup f=some ⟨oc,od,.func (PySem.W.fnOf x qual (Ax st) (Au st) (Ae st) .none kV doc pm an cdv ct),osl⟩)
  (c:PySem.W.codeIn K cdv qual=true) (k:PySem.W.keepIn K (.ref f)=true):Fun K x qual st f (PySem.W.fnOf x qual (Ax st) (Au st) (Ae st) .none kV doc pm an cdv ct):=⟨⟨oc,od,kV,doc,pm,an,cdv,ct,osl,rfl,l,c⟩,k⟩
end
theorem Mi {A:Around} {k:Nat} (hr:BG k A):A.units+1 < cLine:=Nat.lt_of_le_of_lt (Nat.add_le_add_left (by decide:1<=64) _) hr.units
section
variable {X:Cx}
theorem pv (i:Nat) {x:Str} {pos:Pos} (hN:X.N[i]?=some x:=by rfl) (hv:Vis X.env.scope x:=by first | exact Or.inl rfl | exact Or.inr (Or.inl rfl) | exact Or.inr (Or.inr rfl)) (hd:(x == ("__debug__" : Str))=false:=by decide)
  (hcd:(x == ("__classdict__" : Str))=false:=by decide):PE X (.Name x pos) (tVar i):=pe_var hN hv hd hcd
end
theorem Bv {A B:Prop} (h:B):if false=true then A else B:=by
 rw [if_neg Bool.false_ne_true];exact h
theorem Cw {A B:Prop} (h:A):if true=true then A else B:=by
 rw [if_pos rfl];exact h
theorem ite2 {c A B:Prop} [Decidable c] (h1:c->A) (h2:¬ c->B):if c then A else B:=by
 by_cases h:c
 ·rw [if_pos h];exact h1 h
 ·rw [if_neg h];exact h2 h
theorem Mg {c A B:Prop} [Decidable c] (hc:c) (h:B):if (!decide c)=true then A else B:=by
 rw [decide_eq_true hc];exact Bv h
def Az (H H':Hp):Prop:=∀ b o,H b=some o->H' b=some o
theorem Az.refl (H:Hp):Az H H:=fun _ _ h=>h
theorem Az.trans {H H1 H2:Hp} (a:Az H H1) (b:Az H1 H2):Az H H2:=fun c o h=>b c o (a c o h)
end L2
namespace L2
open PySem PySem.Spec PyProof.Rows
structure MC (hid fs:List Addr) (h h':Heap):Prop where
 keep:∀ b o,h.get? b=some o->b ∉ hid->h'.get? b=some o
 slot:∀ b o,b ∈ fs->h.get? b=some o->∃ sl,h'.get? b=some { o with slots:=sl }
 sub:∀ b,b ∈ fs->b ∈ hid
def Fy (a T:Addr) (cls fl:Value) (h:Heap):Prop :=
 ∃ (oe:Obj) (vs:Array Value) (oT:Obj) (ts:Array Value),h.get? a=some oe/\oe.cls=cls/\oe.data=.fields vs/\vs[1]?=some (.ref T)/\vs[2]?=some .none/\T≠a/\h.get? T=some oT/\oT.data=.fields ts/\ts[3]?=some fl
def Ro (a:Addr) (cls:Value) (h:Heap):Prop:=∃ (oe:Obj) (vs:Array Value),h.get? a=some oe/\oe.cls=cls/\oe.data=.fields vs/\vs[1]?=some .none/\vs[2]?=some .none
def Fz (a D:Addr) (h:Heap):Prop:=∃ o,h.get? a=some o/\o.cls=.ref D/\∃ vs,o.data=.fields vs/\vs[2]?=some .none
theorem Fy.exc {a T D:Addr} {fl:Value} {h:Heap} (x:Fy a T (.ref D) fl h):Fz a D h:=by
 obtain ⟨oe,vs,_,_,e1,e2,e3,_,e5,_⟩:=x;exact ⟨oe,e1,e2,vs,e3,e5⟩
theorem Fz.not {a D:Addr} {h:Heap} (x:Fz a D h):∃ o,h.get? a=some o/\o.cls=.ref D/\PySem.W.notCls o=true:=by
 obtain ⟨o,e,c,vs,d,_⟩:=x;exact ⟨o,e,c,by unfold PySem.W.notCls; rw [d]⟩
section
variable {M:Model} {A:Around} {E:Value->Shared->Prop} {s:Shared} {b0:Heap} {env:Env} {outer:List Env} {L a T:Addr} {cls fl:Value} {Q:Unit->Shared->Prop}
theorem Jx {oe:Obj} {vs:Array Value} {head:Value} {hn:Bool} (hfr:A.frames=some (env :: outer)) (hl:s.heap.FunFrames b0 (env :: outer)) (hf:env.frame=some L) (he:s.heap.get? a=some oe) (hd:oe.data=.fields vs) (h2:vs[2]?=some .none)
  (k:∀ h' T',Fy a T' oe.cls (rawInt L) h'->s.heap.get? T'=none->MC (a :: frs (env :: outer)) (frs (env :: outer)) s.heap h'->Q () { s with heap:=h' }) :
  wpAny M A (do let x <-frameOf env; let pl <-entryPlaceOf L hn; let b <-EntryCells.newEntry head x .none (rawInt L) .none pl; setField (.ref a) 1 b) Q E s:=by
 refine wpAny_bind (wpAny_frameOf_fun hfr hl hf fun g hs=>wpAny_bind (wpAny_entryPlaceOf fun pl hp=>?_));unfold EntryCells.newEntry newFields;refine wpAny_bind (wpAny_newObj_type ?_ (hp.sizeOk5 _ _ _ _ _));have na:a ∉ frs (env :: outer):=fun z=>by
  obtain ⟨_,o,ho,hn⟩:=hl.mem z;rw [he] at ho;cases ho;exact hn vs hd
 have e1:g.get? a=some oe:=(hs.2.1 a na).trans he;have sz:1 < vs.size:=by
  have:=(Array.getElem?_eq_some_iff.mp h2).1;omega
 have nT:g.objs.size≠a:=Nat.ne_of_gt (Heap.lt_size e1);have gn:∀ b o,s.heap.get? b=some o->∃ o',g.get? b=some o':=fun b o q=>by
  by_cases z:b ∈ frs (env :: outer)
  ·obtain ⟨sl,e⟩:=hs.2.2 b o q;exact ⟨_,e⟩
  ·exact ⟨o,(hs.2.1 b z).trans q⟩
 refine wpAny_setField (Heap.get?_push_of_some _ e1) hd sz (k _ g.objs.size ⟨_,_,_,_,Heap.get?_update_self _ (Heap.get?_push_of_some _ e1) (Obj.isFreed_of_fields (Obj.data_mapFields hd _)),Obj.cls_mapFields _ _,Obj.data_mapFields hd _,?_,?_,nT,(Heap.get?_update_other _ _ nT.symm).trans (Heap.get?_push_size _ rfl),rfl,?_⟩ ?_ ?_)
 ·simp [sz]
 ·rw [Array.getElem?_setIfInBounds_ne (by decide)];exact h2
 ·first | (simp; done) | (rcases hp with rfl | ⟨_,_,_,_,_,_,_,rfl⟩<;>simp)
 ·cases q:s.heap.get? g.objs.size with
  | none=>rfl
  | some o =>
   obtain ⟨o',q'⟩:=gn _ _ q;exact absurd (Heap.lt_size q') (Nat.lt_irrefl _)
 ·have kp:∀ (x:Obj) (f:Obj->Obj) b o,g.get? b=some o->b≠a->((g.push x).update a f).get? b=some o:=fun x f b o q z=>(Heap.get?_update_other _ _ (Ne.symm z)).trans (Heap.get?_push_of_some _ q);refine ⟨fun b o q z=>kp _ _ b o ((hs.2.1 b fun m=>z (.tail _ m)).trans q) fun y=>z (y ▸ .head _),fun b o m q=>?_,fun b m=>.tail _ m⟩;obtain ⟨sl,e⟩:=hs.2.2 b o q;exact ⟨sl,kp _ _ b _ e fun y=>na (y ▸ m)⟩
theorem LX (hfr:A.frames=some (env :: outer)) (hl:s.heap.FunFrames b0 (env :: outer)) (hf:env.frame=some L) (hx:Ro a cls s.heap\/Fy a T cls .none s.heap)
  (k:∀ h' T',Fy a T' cls (rawInt L) h'->s.heap.get? T'=none->MC (a :: T :: frs (env :: outer)) (frs (env :: outer)) s.heap h'->Q () { s with heap:=h' }):wpAny M A (noteFrame (.ref a) env) Q E s:=by
 unfold noteFrame;simp only [hf];rcases hx with ⟨oe,vs,e1,rfl,e3,e4,e5⟩ | ⟨oe,vs,oT,ts,e1,rfl,e3,e4,e5,e6,e7,e8,e9⟩
 ·refine wpAny_bind (wpAny_field e1 e3 e4 ?_);rw [if_neg (by decide)];refine Jx hfr hl hf e1 e3 e5 fun h' T' f n nr=>k h' T' f n ⟨fun b o q z=>nr.keep b o q fun m=>z ?_,nr.slot,fun b m=>.tail _ (.tail _ m)⟩;rcases List.mem_cons.mp m with y | y
  ·exact y ▸ .head _
  ·exact .tail _ (.tail _ y)
 ·refine wpAny_bind (wpAny_field e1 e3 e4 ?_);rw [if_pos (show (Value.ref T != Value.none)=true from by simp)];refine wpAny_bind (wpAny_field e7 e8 e9 ?_);rw [if_neg (by simp [rawInt])];refine wpAny_bind (wpAny_setField e7 e8 (Array.getElem?_eq_some_iff.mp e9).1 ?_);have ot:∀ b,b≠T->(s.heap.update T (Obj.mapFields (·.setIfInBounds 3 Value.none))).get? b=s.heap.get? b:=fun b z=>Heap.get?_update_other _ _ (Ne.symm z);have nf:∀ b o,s.heap.get? b=some o->(∀ vs,o.data≠.fields vs)->b≠T:=fun b o q d z=>by
   rw [z,e7] at q;cases q;exact d ts e8
  have fT:∀ b,b ∈ frs (env :: outer)->b≠T:=fun b m=>by
   obtain ⟨_,o,ho,d⟩:=hl.mem m;exact nf b o ho d
  refine Jx (s:={ s with heap:=s.heap.update T (Obj.mapFields (·.setIfInBounds 3 Value.none)) }) hfr (hl.of_keeps fun b o q d=>⟨o,(ot b (nf b o q d)).trans q,rfl⟩) hf ((ot a (Ne.symm e6)).trans e1) e3 e5 fun h' T' f n nr=>k h' T' f ?_ ⟨fun b o q z=>?_,fun b o m q=>nr.slot b o m ((ot b (fT b m)).trans q),fun b m=>.tail _ (.tail _ m)⟩
  ·by_cases z:T'=T
   ·rw [z,Heap.get?_update_self _ e7 (Obj.isFreed_of_fields (Obj.data_mapFields e8 _))] at n;cases n
   ·rw [<-ot T' z];exact n
  ·refine nr.keep b o ((ot b fun y=>z (y ▸ .tail _ (.head _))).trans q) fun m=>z ?_;rcases List.mem_cons.mp m with y | y
   ·exact y ▸ .head _
   ·exact .tail _ (.tail _ y)
theorem FH {fr:Option Addr} (hx:Fy a T cls fl s.heap) (k:∀ h',Fy a T cls (fr.elim .none fun f=>rawInt f) h'->(∀ b o,s.heap.get? b=some o->b≠T->h'.get? b=some o)->Q () { s with heap:=h' }):wpAny M A (setFlight (.ref a) fr) Q E s:=by
 obtain ⟨oe,vs,oT,ts,e1,rfl,e3,e4,e5,e6,e7,e8,e9⟩:=hx;unfold setFlight;refine wpAny_bind (wpAny_field e1 e3 e4 ?_);rw [if_pos (show (Value.ref T != Value.none)=true from by simp)];have z:=(Array.getElem?_eq_some_iff.mp e9).1;refine wpAny_setField e7 e8 z (k _ ⟨oe,vs,_,_,(Heap.get?_update_other _ _ e6).trans e1,rfl,e3,e4,e5,e6,Heap.get?_update_self _ e7 (Obj.isFreed_of_fields (Obj.data_mapFields e8 _)),Obj.data_mapFields e8 _,by simp [z]⟩ fun b o q y=>(Heap.get?_update_other _ _ (Ne.symm y)).trans q)
theorem Gj (hfr:A.frames=some (env :: outer)) (hl:s.heap.FunFrames b0 (env :: outer)) (hf:env.frame=some L) (hx:Ro a cls s.heap\/Fy a T cls .none s.heap)
  (k:∀ h' T',Fy a T' cls .none h'->s.heap.get? T'=none->MC (a :: T :: frs (env :: outer)) (frs (env :: outer)) s.heap h'->Q () { s with heap:=h' }):wpAny M A (leaving env (.ref a)) Q E s:=by
 unfold leaving;refine wpAny_bind (LX hfr hl hf hx fun h1 T' f n nr=>FH (s:={ s with heap:=h1 }) f fun h2 f2 kp=>k h2 T' f2 n ⟨fun b o q z=>kp b o (nr.keep b o q z) fun y=>?_,fun b o m q=>?_,nr.sub⟩)
 ·rw [y,n] at q;cases q
 ·obtain ⟨sl,e⟩:=nr.slot b o m q;exact ⟨sl,kp b _ e fun y=>by rw [y,n] at q; cases q⟩
end
end L2
namespace L2
open PySem PySem.Spec PyProof.Rows
section
variable {κ:Type} [DecidableEq κ]
def Cv (kvs:List (κ×V)) (k:κ):Option V:=(kvs.find? fun kv=>decide (kv.1=k)).map (·.2)
def ED (kvs:List (κ×V)) (k:κ) (v:V):List (κ×V) :=
 if (kvs.any fun kv=>decide (kv.1=k))=true then kvs.map (fun kv=>if kv.1=k then (kv.1,v) else kv) else kvs ++ [(k,v)]
theorem BQ {p:κ×V} {r:List (κ×V)} {k:κ} (e:p.1=k):Cv (p :: r) k=some p.2:=by simp [Cv,List.find?_cons,e]
theorem Bm {p:κ×V} {r:List (κ×V)} {k:κ} (e:¬ p.1=k):Cv (p :: r) k=Cv r k:=by simp [Cv,List.find?_cons,e]
theorem EX (k:κ):∀ kvs:List (κ×V),(kvs.any fun kv=>decide (kv.1=k))=(Cv kvs k).isSome
 | []=>rfl
 | p :: r=>by
  rw [List.any_cons];by_cases e:p.1=k
  ·simp only [BQ e,decide_eq_true e,Bool.true_or,Option.isSome_some]
  ·rw [Bm e,decide_eq_false e,Bool.false_or]; exact EX k r
theorem Ly (k j:κ) (y:V):∀ kvs:List (κ×V),Cv (kvs.map fun kv=>if kv.1=k then (kv.1,y) else kv) j=(Cv kvs j).map fun x=>if j=k then y else x
 | []=>rfl
 | p :: r=>by
  have ih:=Ly k j y r;rw [List.map_cons];by_cases h:p.1=k
  ·rw [if_pos h];by_cases e:p.1=j
   ·rw [BQ (p:=(p.1,y)) e,BQ e,Option.map_some,if_pos (e.symm.trans h)]
   ·rw [Bm (p:=(p.1,y)) e,Bm e,ih]
  ·rw [if_neg h];by_cases e:p.1=j
   ·rw [BQ (p:=p) e,BQ e,Option.map_some,if_neg (fun z=>h (e.trans z))]
   ·rw [Bm (p:=p) e,Bm e,ih]
theorem Jg (k j:κ) (y:V):∀ kvs:List (κ×V),Cv kvs k=none->Cv (kvs ++ [(k,y)]) j=if j=k then some y else Cv kvs j
 | [],_=>by
  by_cases e:k=j
  ·rw [if_pos e.symm]; exact BQ (p:=(k,y)) e
  ·rw [if_neg (fun z=>e z.symm)]; exact Bm (p:=(k,y)) e
 | p :: r,hn=>by
  rw [List.cons_append];have hk:¬ p.1=k:=fun z=>by rw [BQ z] at hn; cases hn
  rw [Bm hk] at hn;have ih:=Jg k j y r hn;by_cases e:p.1=j
  ·rw [BQ e,BQ e,if_neg (fun z=>hk (e.trans z))]
  ·rw [Bm e,Bm e,ih]
theorem Lx (kvs:List (κ×V)) (k j:κ) (y:V):Cv (ED kvs k y) j=if j=k then some y else Cv kvs j:=by
 unfold ED;by_cases a:(kvs.any fun kv=>decide (kv.1=k))=true
 ·rw [if_pos a,Ly];rw [EX] at a;by_cases e:j=k
  ·obtain ⟨x,hx⟩:=Option.isSome_iff_exists.mp a;rw [if_pos e,e,hx,Option.map_some,if_pos rfl]
  ·rw [if_neg e];cases Cv kvs j with
   | none=>rfl
   | some x=>rw [Option.map_some,if_neg e]
 ·rw [if_neg a];refine Jg k j y kvs ?_;rw [EX] at a;cases q:Cv kvs k with
  | none=>rfl
  | some x=>rw [q] at a; exact (a rfl).elim
theorem GL (kvs:List (κ×V)) (k:κ) (v:V):(ED kvs k v).length<=kvs.length+1:=by
 unfold ED;split
 ·rw [List.length_map]; lia
 ·rw [List.length_append,List.length_cons,List.length_nil]; lia
theorem LO {kvs:List (κ×V)} {k:κ} (v:V) (h:Cv kvs k=none):ED kvs k v=kvs ++ [(k,v)]:=by
 unfold ED;rw [EX,h];exact if_neg (by decide)
theorem Fq.isSome_eq {o:Option V} {u:Option Value} (r:Fq o u):o.isSome=u.isSome:=by
 cases o with
 | none=>cases u with
  | none=>rfl
  | some _=>exact (show False from r).elim
 | some _=>cases u with
  | none=>exact (show False from r).elim
  | some _=>rfl
theorem Fq.getD {o:Option V} {u:Option Value} {d:V} {d':Value} (r:Fq o u) (rd:AR d d'):AR (o.getD d) (u.getD d'):=by
 cases o with
 | none=>cases u with
  | none=>exact rd
  | some _=>exact (show False from r).elim
 | some _=>cases u with
  | none=>exact (show False from r).elim
  | some _=>exact r
theorem KV.val {kvs:List (κ×V)} {vs:List (κ×Value)} (r:KV kvs vs) (k:κ):Fq (Cv kvs k) (valueAt vs k):=by
 unfold KV at r;induction r with
 | nil=>exact True.intro
 | @cons p q ps qs h t ih =>
  obtain ⟨h1,h2⟩:=h;by_cases e:p.1=k
  ·have e':q.1=k:=h1.symm.trans e;have b:valueAt (q :: qs) k=some q.2:=by simp [valueAt,List.find?_cons,e']
   rw [BQ e,b]; exact h2
  ·have e':¬ q.1=k:=fun z=>e (h1.trans z);have b:valueAt (q :: qs) k=valueAt qs k:=by simp [valueAt,List.find?_cons,e']
   rw [Bm e,b]; exact ih
theorem KV.any {kvs:List (κ×V)} {vs:List (κ×Value)} (r:KV kvs vs) (k:κ):(kvs.any fun kv=>decide (kv.1=k))=vs.any fun kv=>decide (kv.1=k):=by
 unfold KV at r;induction r with
 | nil=>rfl
 | cons h t ih=>rw [List.any_cons,List.any_cons,ih,h.1]
theorem KV.repl {kvs:List (κ×V)} {vs:List (κ×Value)} (r:KV kvs vs) (k:κ) {y:V} {u:Value} (ry:AR y u) :
  KV (kvs.map fun kv=>if kv.1=k then (kv.1,y) else kv) (vs.map fun kv=>if kv.1=k then (kv.1,u) else kv):=by
 unfold KV at r ⊢;induction r with
 | nil=>exact .nil
 | @cons p q ps qs h t ih =>
  rw [List.map_cons,List.map_cons];refine .cons ?_ ih;obtain ⟨h1,h2⟩:=h;by_cases e:p.1=k
  ·rw [if_pos e,if_pos (h1.symm.trans e)]; exact ⟨h1,ry⟩
  ·rw [if_neg e,if_neg (fun z=>e (h1.trans z))]; exact ⟨h1,h2⟩
theorem KV.put {kvs:List (κ×V)} {vs:List (κ×Value)} (r:KV kvs vs) (k:κ) {y:V} {u:Value} (ry:AR y u):KV (ED kvs k y) (stored vs k u):=by
 unfold ED stored;rw [r.any k];by_cases e:(vs.any fun kv=>decide (kv.1=k))=true
 ·rw [if_pos e,if_pos e]; exact r.repl k ry
 ·rw [if_neg e,if_neg e]; exact Paired.snoc r ⟨rfl,ry⟩
theorem KV.length {kvs:List (κ×V)} {vs:List (κ×Value)} (r:KV kvs vs):kvs.length=vs.length:=Paired.length r
end
theorem QM {P:Program} {w:World} {k:Key} {u:Value} (r:AR (kV k) u):(Cf P w).is k u=true:=by
 cases k with
 | inl i=>obtain ⟨t,e⟩:=(show ∃ t,u=Value.int i t from r); subst e; exact Ma P w i t
 | inr x=>obtain ⟨t,e⟩:=(show ∃ t,u=Value.str x t from r); subst e; exact LZ P w x t
theorem Jt {P:Program} {w:World}:∀ {ks:List Key} {us:List Value},AG (ks.map kV) us->ItemsAre (Cf P w) ks us
 | [],_,r=>by rw [List.map_nil] at r; cases r; exact .nil
 | k :: ks,_,r=>by
  rw [List.map_cons] at r;cases r with
  | cons h t=>exact .cons (QM h) (Jt t)
abbrev KT (H:Hp):List (List Key×V)->List (List Key×Addr×Value)->Prop:=Paired fun p q=>p.1=q.1/\H q.2.1=some (.tup (p.1.map kV))/\AR p.2 q.2.2
theorem KT.val {H:Hp} {kvs:List (List Key×V)} {xs:List (List Key×Addr×Value)} (r:KT H kvs xs) (k:List Key):Fq (Cv kvs k) ((atKey xs k).map (·.2)):=by
 induction r with
 | nil=>exact True.intro
 | @cons p q ps qs h t ih =>
  obtain ⟨h1,_,h2⟩:=h;by_cases e:p.1=k
  ·have e':q.1=k:=h1.symm.trans e;have b:atKey (q :: qs) k=some q.2:=by simp [atKey,List.find?_cons,e']
   rw [BQ e,b]; exact h2
  ·have e':¬ q.1=k:=fun z=>e (h1.trans z);have b:atKey (q :: qs) k=atKey qs k:=by simp [atKey,List.find?_cons,e']
   rw [Bm e,b]; exact ih
theorem KT.repl {H:Hp} {kvs:List (List Key×V)} {xs:List (List Key×Addr×Value)} (r:KT H kvs xs) (k:List Key) {y:V} {u:Value} (ry:AR y u) :
  KT H (kvs.map fun kv=>if kv.1=k then (kv.1,y) else kv) (xs.map (putAt k u)):=by
 induction r with
 | nil=>exact .nil
 | @cons p q ps qs h t ih =>
  rw [List.map_cons,List.map_cons];refine .cons ?_ ih;obtain ⟨h1,h2,h3⟩:=h;unfold putAt;by_cases e:p.1=k
  ·rw [if_pos e,if_pos (h1.symm.trans e)]; exact ⟨h1,h2,ry⟩
  ·rw [if_neg e,if_neg (fun z=>e (h1.trans z))]; exact ⟨h1,h2,h3⟩
theorem KT.put {H:Hp} {kvs:List (List Key×V)} {xs:List (List Key×Addr×Value)} (r:KT H kvs xs) (k:List Key) {b:Addr} {y:V} {u:Value} (hb:H b=some (.tup (k.map kV))) (ry:AR y u) :
  KT H (ED kvs k y) (storedH xs k b u):=by
 have e:(kvs.any fun kv=>decide (kv.1=k))=(atKey xs k).isSome:=by
  rw [EX,(r.val k).isSome_eq,Option.isSome_map]
 unfold ED storedH;rw [e];by_cases q:(atKey xs k).isSome=true
 ·rw [if_pos q,if_pos q]; exact r.repl k ry
 ·rw [if_neg q,if_neg q]; exact Paired.snoc r ⟨rfl,hb,ry⟩
theorem KT.keeps {H H':Hp} {kvs:List (List Key×V)} {xs:List (List Key×Addr×Value)} (r:KT H kvs xs) (ht:∀ b ys,H b=some (.tup ys)->H' b=some (.tup ys)):KT H' kvs xs :=
 Paired.mapP r fun _ _ z=>⟨z.1,ht _ _ z.2.1,z.2.2⟩
section
variable {P:Program} {w:World} {H:Hp} {h:Heap} {a:Addr}
theorem rd_of {u:HO} (ok:HOk P w H h) (e:Rd H a u):AS P w H h a u:=e.ok ok
theorem QX {kvs:List (Key×V)} (ok:HOk P w H h) (e:Rd H a (.dK kvs)):kvs.length<=sizeLine/\(a == sysModules)=false/\∃ vs,KV kvs vs/\h.DictOf (Cf P w) a vs :=
 show AS P w H h a (.dK kvs) from rd_of ok e
theorem dk_of {kvs:List (Key×V)} (ok:HOk P w H h) (e:H a=some (.dK kvs)):kvs.length<=sizeLine/\(a == sysModules)=false/\∃ vs,KV kvs vs/\h.DictOf (Cf P w) a vs:=QX ok (.inl e)
theorem Nj {ks:List Key} (ok:HOk P w H h) (e:H a=some (.tup (ks.map kV))):(tupleKind (Cf P w)).is h ks a:=by
 obtain ⟨_,its,r,o,h1,h2,n,h3⟩:=(show AS P w H h a (.tup (ks.map kV)) from ok a _ e)
 exact ⟨o,its.toArray,n,h1,h2,h3,by simpa using Jt r⟩
theorem QV {kvs:List (List Key×V)} (ok:HOk P w H h) (e:Rd H a (.dT kvs)):kvs.length<=sizeLine/\(a == sysModules)=false /\
  ∃ xs,KT H kvs xs/\h.DictOfH (tupleKind (Cf P w)) a xs:=by
 obtain ⟨z,y,xs,r,o,es,ep,h1,h2,h3,h4,h5⟩:=(show AS P w H h a (.dT kvs) from rd_of ok e)
 refine ⟨z,y,xs,r,o,es,ep,h1,h2,h3,h4,fun x hx=>?_,h5⟩;have all:∀ {l:List (List Key×V)} {m:List (List Key×Addr×Value)},KT H l m->∀ x ∈ m,(tupleKind (Cf P w)).is h x.1 x.2.1:=by
  intro l m q;induction q with
  | nil=>intro x hx; exact nomatch hx
  | @cons p q ps qs hq t ih =>
   intro x hx;rcases List.mem_cons.mp hx with e | hx
   ·subst e;exact Nj ok (by rw [<-hq.1]; exact hq.2.1)
   ·exact ih x hx
 exact all r x hx
theorem dt_of {kvs:List (List Key×V)} (ok:HOk P w H h) (e:H a=some (.dT kvs)):kvs.length<=sizeLine/\(a == sysModules)=false /\
  ∃ xs,KT H kvs xs/\h.DictOfH (tupleKind (Cf P w)) a xs:=QV ok (.inl e)
end
def MD (H:Hp) (a:Addr) (y:V) (r:Option V):Prop :=
 (∃ kvs k,Rd H a (.dK kvs)/\y=kV k/\r=Cv kvs k)\/∃ kvs k b,Rd H a (.dT kvs)/\y=.ref b/\H b=some (.tup (k.map kV))/\r=Cv kvs k
def Lr (H:Hp) (a:Addr) (y v:V) (H':Hp):Prop :=
 (∃ kvs k,H a=some (.dK kvs)/\y=kV k/\kvs.length < sizeLine/\H'=upd H a (.dK (ED kvs k v))) \/
 ∃ kvs k b,H a=some (.dT kvs)/\y=.ref b/\H b=some (.tup (k.map kV))/\kvs.length < sizeLine/\H'=upd H a (.dT (ED kvs k v))
theorem MD.k {H:Hp} {a:Addr} {kvs:List (Key×V)} {k:Key} (e:H a=some (.dK kvs)):MD H a (kV k) (Cv kvs k):=.inl ⟨kvs,k,.inl e,rfl,rfl⟩
theorem MD.t {H:Hp} {a b:Addr} {kvs:List (List Key×V)} {k:List Key} (e:H a=some (.dT kvs)) (eb:H b=some (.tup (k.map kV))):MD H a (.ref b) (Cv kvs k):=.inr ⟨kvs,k,b,.inl e,rfl,eb,rfl⟩
theorem Lr.k {H:Hp} {a:Addr} {kvs:List (Key×V)} {k:Key} {v:V} (e:H a=some (.dK kvs)) (hl:kvs.length < sizeLine):Lr H a (kV k) v (upd H a (.dK (ED kvs k v))):=.inl ⟨kvs,k,e,rfl,hl,rfl⟩
theorem Lr.t {H:Hp} {a b:Addr} {kvs:List (List Key×V)} {k:List Key} {v:V} (e:H a=some (.dT kvs)) (eb:H b=some (.tup (k.map kV))) (hl:kvs.length < sizeLine) :
  Lr H a (.ref b) v (upd H a (.dT (ED kvs k v))):=.inr ⟨kvs,k,b,e,rfl,eb,hl,rfl⟩
section
variable {X:Cx} {pins:List (Addr×Obj)} {σ:St} {H:Hp} {s:Shared} {a:Addr} {y v:V} {u r:Value} {o:Option V} {A:Around} {E:Value->Shared->Prop}
theorem Inv.big (I:Inv X pins σ H s):sysModules < s.heap.objs.size:=by
 have h:mainGlobals < s.heap.objs.size:=(I.mod.glob.keeps I.bk).lt;exact Nat.lt_trans (by decide) h
theorem Om {h':Heap} {t':Nat} {ob:HO} (I:Inv X pins σ H s) (mu:Mut (H a)) (hs:Heap.SameBut a s.heap h') (he:∃ q,h'.get? a=some q) (new:AS X.prog X.w (upd H a ob) h' a ob) :
  Inv X pins σ (upd H a ob) { s with heap:=h',toks:=t' } :=
 I.write (x:=a) (e:=a) mu (.inl rfl) (fun b q hb z=>(hs.2 b hb).trans z) he new
theorem dk_new {P:Program} {w:World} {H':Hp} {h':Heap} {kvs:List (Key×V)} {vs:List (Key×Value)} (z:kvs.length<=sizeLine) (hd:(a == sysModules)=false) (rel:KV kvs vs) (dd:h'.DictOf (Cf P w) a vs) :
  AS P w H' h' a (.dK kvs):=⟨z,hd,vs,rel,dd⟩
theorem Pj {H':Hp} {Q:Unit->Shared->Prop} (hu:A.units+1 < cLine) (I:Inv X pins σ H s) (g:Lr H a y v H') (ry:AR y u) (rv:AR v r) (h:∀ s',Inv X pins σ H' s'->Q () s') :
  wpAny (model X.prog X.w) A (setItem (.ref a) u r) Q E s:=by
 rcases g with ⟨kvs,k,e,ey,l,eH⟩ | ⟨kvs,k,b,e,ey,eb,l,eH⟩
 ·subst ey eH;obtain ⟨z,hd,vs,rel,dd⟩:=dk_of I.hok e;have hz:vs.length<=sizeLine:=by rw [<-rel.length]; exact z
  have hl:(ED kvs k v).length<=sizeLine:=by have:=GL kvs k v; lia
  refine wpAny_setItem_pairs (hsz:=hz) (QM ry) dd fun h' dd' hs=>h _ ?_;have he:∃ q,h'.get? a=some q:=let ⟨q,_,_,hq,_⟩:=dd'; ⟨q,hq⟩;exact Om I (by rw [e]; exact True.intro) hs he (dk_new hl hd (rel.put k rv) dd')
 ·subst ey eH;cases (show u=Value.ref b from ry);obtain ⟨z,hd,xs,rel,dd⟩:=dt_of I.hok e;have hz:xs.length<=sizeLine:=by rw [<-Paired.length rel]; exact z
  have hl:(ED kvs k v).length<=sizeLine:=by have:=GL kvs k v; lia
  refine wpAny_setItem_heap (hsz:=hz) (tupleKind_room_in1 hu) (Nj I.hok eb) dd fun h' dd' hs=>h _ ?_;obtain ⟨q,es,ep,hq,h2,h3,h4,_,h5⟩:=dd';refine Om I (by rw [e]; exact True.intro) hs ⟨q,hq⟩ ⟨hl,hd,_,(rel.put k eb rv).keeps fun c ys ec=>?_,q,es,ep,hq,h2,h3,h4,h5⟩;rw [Ak (Bb ec e (fun z=>nomatch z))];exact ec
end
section
variable {X:Cx} {pins:List (Addr×Obj)} {σ:St} {H:Hp} {s:Shared} {a:Addr} {kvs:List (Key×V)} {k:Key} {u:Value} {A:Around} {E:Value->Shared->Prop}
end
def sDPut (td ty tv:TE):TS:=fun D σ H=>tv σ H fun v H1=>td σ H1 fun x H2=>ty σ H2 fun y H3=>∃ a H4,x=.ref a/\Lr H3 a y v H4/\D.nx σ H4
section
variable {X:Cx} {o i e value:Expr} {pos pos' tpos:Pos} {td ty tv:TE}
theorem JR (hu:X.A.units+1 < cLine) (ho:PE X o td) (hi:PE X i ty) (hv:PE X value tv) (hs:swapsWith value (some (.Subscript o i pos')) pos.line X.env=pure false) :
  PS X (.Assign [.Subscript o i pos'] value pos) (sDPut td ty tv):=by
 intro pins s σ H D I h;refine wpAny_Assign_Subscript (thn (hv pins s σ H _ I h) fun r s1 ⟨v,H1,I1,rv,q1⟩=>thn (ho pins s1 σ H1 _ I1 q1) fun u s2 ⟨x,H2,I2,rx,q2⟩=>thn (hi pins s2 σ H2 _ I2 q2) fun iv s3 ⟨y,H3,I3,ry,a,H4,ex,g,q3⟩=>?_) hs;subst ex;obtain rfl:u=Value.ref a:=rx;exact Pj hu I3 g ry rv fun s4 I4=>⟨σ,H4,I4,q3⟩
end
theorem QY {P:Program} {w:World} {H:Hp} (h:Heap) (hb:sysModules < h.objs.size):AS P w H (h.push { cls:=.type "dict",data:=.dict #[] }) h.objs.size (.dK []) :=
 ⟨Nat.zero_le _,beq_eq_false_iff_ne.mpr (Ne.symm (Nat.ne_of_lt hb)),[],.nil,Heap.DictOf.new h⟩
theorem QW {P:Program} {w:World} {H:Hp} (h:Heap) (hb:sysModules < h.objs.size):AS P w H (h.push { cls:=.type "dict",data:=.dict #[] }) h.objs.size (.dT []) :=
 ⟨Nat.zero_le _,beq_eq_false_iff_ne.mpr (Ne.symm (Nat.ne_of_lt hb)),[],.nil,_,#[],0,Heap.get?_push_size _ rfl,⟨rfl,rfl,rfl⟩,rfl,rfl,List.nodup_nil⟩
def tDNewK:TE:=fun _ H Q=>∀ p,H p=none->Q (.ref p) (upd H p (.dK []))
def tDNewT:TE:=fun _ H Q=>∀ p,H p=none->Q (.ref p) (upd H p (.dT []))
section
variable {X:Cx} {pos:Pos}
theorem LR:PE X (.Dict [] [] pos) tDNewK:=fun pins s σ H Q I h =>
 wpAny_Dict_empty ⟨.ref s.heap.objs.size,_,I.laid (a:=s.heap.objs.size) (o:=.dK []) (t':=s.toks) (fun _ _ q=>Heap.get?_push_of_some _ q) (Nat.le_refl _) (QY s.heap I.big),rfl,h _ (I.hok.fresh (Nat.le_refl _))⟩
theorem Qk:PE X (.Dict [] [] pos) tDNewT:=fun pins s σ H Q I h =>
 wpAny_Dict_empty ⟨.ref s.heap.objs.size,_,I.laid (a:=s.heap.objs.size) (o:=.dT []) (t':=s.toks) (fun _ _ q=>Heap.get?_push_of_some _ q) (Nat.le_refl _) (QW s.heap I.big),rfl,h _ (I.hok.fresh (Nat.le_refl _))⟩
end
structure M1 (X:Cx) (o:Expr) (m:Str) (apos:Pos) (e:Expr) (cpos:Pos):Prop where
 base:attributeBase o m X.env (eval o X.env)=eval o X.env
 few:((backTo cpos (starEach [e] X.env)).all (fun x=>!x.1) && (backToKw cpos (keywordEach [] X.env)).all (fun x=>x.1.isSome)
  && decide (([e]:List Expr).length+([]:List Keyword).length+(if ([]:List Keyword).isEmpty then 0 else 1) < 30))=true
 line:(apos.endLine == cpos.line)=true
 trees:backTo cpos (starEach [e] X.env)=[(false,eval e X.env)]
def IsD (H:Hp) (a:Addr):Prop:=(∃ kvs,Rd H a (.dK kvs))\/∃ kvs,Rd H a (.dT kvs)
theorem isD_at {X:Cx} {pins:List (Addr×Obj)} {σ:St} {H:Hp} {s:Shared} {a:Addr} (I:Inv X pins σ H s) (d:IsD H a) :
  s.TypeIs (.ref a) "dict" /\ (∀ b,Value.ref a=.ref b->∃ ob,s.heap.get? b=some ob/\ob.dict=none)/\(a == sysModules)=false:=by
 rcases d with ⟨kvs,e⟩ | ⟨kvs,e⟩
 ·obtain ⟨_,hd,vs,_,dd⟩:=QX I.hok e;refine ⟨dd.typeIs,fun b q=>?_,hd⟩;cases q;obtain ⟨ob,_,_,h1,h2,_⟩:=dd;exact ⟨ob,h1,h2.2.1⟩
 ·obtain ⟨_,hd,xs,_,dd⟩:=QV I.hok e;refine ⟨dd.typeIs,fun b q=>?_,hd⟩;cases q;obtain ⟨ob,_,_,h1,h2,_⟩:=dd;exact ⟨ob,h1,h2.2.1⟩
section
variable {X:Cx} {pins:List (Addr×Obj)} {σ:St} {H:Hp} {s:Shared} {a:Addr} {y d:V} {u r:Value} {o:Option V} {A:Around} {E:Value->Shared->Prop}
theorem d_get1 {Q:Value->Shared->Prop} (hu:A.units+1 < cLine) (I:Inv X pins σ H s) (g:MD H a y o) (ry:AR y u) (h:∀ w' s',Inv X pins σ H s'->AR (o.getD .non) w'->Q w' s') :
  wpAny (model X.prog X.w) A (call (.builtin "dict.get") [.ref a,u]) Q E s:=by
 rcases g with ⟨kvs,k,e,ey,l⟩ | ⟨kvs,k,b,e,ey,eb,l⟩
 ·subst ey;obtain ⟨z,hd,vs,rel,dd⟩:=QX I.hok e;refine call_meetsIn PySem.F.slot_dict_get dd.typeIs PySem.F.entry_dict_get (PySem.F.args_dict_get_2 _ _) (meets_dict_get (Cf X.prog X.w) a (QM ry) hd) ⟨_,dd.mapOf,h _ _ (I.tok _) ?_⟩;rw [l];exact (rel.val k).getD rfl
 ·subst ey;cases (show u=Value.ref b from ry);obtain ⟨z,hd,xs,rel,dd⟩:=QV I.hok e;refine call_meetsIn PySem.F.slot_dict_get dd.typeIs PySem.F.entry_dict_get (PySem.F.args_dict_get_2 _ _) (meetsH_dict_get (tupleKind (Cf X.prog X.w)) a b hd) ⟨tupleKind_room_in1 hu,k,xs,Nj I.hok eb,dd,h _ _ (I.tok _) ?_⟩;rw [l];exact (rel.val k).getD rfl
end
def tDGet1 (td ty:TE):TE:=fun σ H Q=>td σ H fun x H1=>∃ a,x=.ref a/\IsD H1 a/\ty σ H1 fun y H2=>∃ o,MD H2 a y o/\Q (o.getD .non) H2
section
variable {X:Cx} {o e f:Expr} {apos cpos:Pos} {td ty tx:TE}
theorem LS (hu:X.A.units+1 < cLine) (ho:PE X o td) (he:PE X e ty) (m:M1 X o "get" apos e cpos):PE X (.Call (.Attribute o "get" apos) [e] [] cpos) (tDGet1 td ty):=by
 intro pins s σ H Q I h;refine wpAny_Call_method m.base m.few m.line PySem.F.plainAttrs_dict PySem.F.slot_dict_get PySem.F.type_dict_get (thn (ho pins s σ H _ I h) fun u s1 ⟨x,H1,I1,rx,a,ex,d,q1⟩=>?_);subst ex;obtain rfl:u=Value.ref a:=rx;obtain ⟨t1,t2,_⟩:=isD_at I1 d;refine ⟨t1,t2,?_⟩;rw [m.trees];refine Calls.callWith_builtin rfl (Calls.evalArgs_plain (Calls.spliced_cons (thn (he pins s1 σ H1 _ I1 q1) fun iv s2 ⟨y,H2,I2,ry,ov,g,q2⟩=>Calls.spliced_nil ?_)));exact d_get1 hu I2 g ry fun w' s3 I3 rw'=>⟨_,H2,I3,rw',q2⟩
end
section
variable {X:Cx} {pins:List (Addr×Obj)} {σ:St} {H:Hp} {s:Shared} {a:Addr} {kvs:List (Key×V)} {A:Around} {E:Value->Shared->Prop}
end
section
variable {X:Cx} {pins:List (Addr×Obj)} {σ:St} {H:Hp} {s:Shared} {a:Addr} {y:V} {u:Value} {A:Around} {E:Value->Shared->Prop}
end
end L2
namespace L2
open PySem PySem.Spec PyProof.Rows
section
variable {X:Cx}
end
section
variable {κ:Type} [DecidableEq κ]
end
end L2
namespace L2
open PySem PySem.Spec PyProof.Rows
theorem AS.be {P:Program} {w:World} {H:Hp} {h:Heap} {a:Addr} {o:HO} (x:AS P w H h a o):∃ u,h.get? a=some u:=by
 cases o with
 | lst xs=>obtain ⟨_,_,_,_,e⟩:=x; exact ⟨_,e⟩
 | tup xs=>obtain ⟨_,_,_,u,e,_⟩:=x; exact ⟨u,e⟩
 | dK kvs=>obtain ⟨_,_,_,_,u,_,_,e,_⟩:=x; exact ⟨u,e⟩
 | dT kvs=>obtain ⟨_,_,_,_,u,_,_,e,_⟩:=x; exact ⟨u,e⟩
 | set S n=>obtain ⟨u,_,_,_,e,_⟩:=x; exact ⟨u,e⟩
 | ins C dx fs=>obtain ⟨_,_,_,e,_⟩:=x; exact ⟨_,e⟩
 | own y=>exact x
 | xd fs=>obtain ⟨_,⟨u,_,_,e,_⟩,_⟩:=x; exact ⟨u,e⟩
 | rng lo hi=>obtain ⟨_,_,_,e⟩:=x; exact ⟨_,e⟩
 | frz ob u=>exact ⟨_,x.1⟩
 | tbl ps=>exact ⟨_,x⟩
 | met f y=>exact ⟨_,x⟩
 | ext φ=>exact x.2.1
theorem FW {P:Program} {w:World} {H:Hp} {h h':Heap} {hid fs:List Addr} (hok:HOk P w H h) (n:MC hid fs h h') (free:∀ b,b ∈ hid->H b=none):HOk P w H h':=fun b u q =>
 (hok b u q).stay (fun c v hc r=>n.keep c v r fun m=>by
  have z:=free c m;rcases hc with rfl | hc
  ·rw [q] at z; cases z
  ·rw [hc] at z; cases z) (fun _ z=>z) fun _ _ z=>z
theorem GU {gs hid fs:List Addr} {H0 H:Hp} {g h h':Heap} (u:Un gs [] H0 H g h) (n:MC hid fs h h') (out:∀ b,b ∈ hid->b ∈ fs\/g.get? b=none) (inn:∀ b,b ∈ fs->b ∈ gs\/g.get? b=none):Un gs [] H0 H g h' where
 keep:=fun b o q m hb hx=>n.keep b o (u.keep b o q m hb hx) fun z=>by
  rcases out b z with y | y
  ·rcases inn b y with y | y
   ·exact hb y
   ·rw [q] at y; cases y
  ·rw [q] at y; cases y
 slot:=fun b o q m hb hx=>by
  obtain ⟨sl,e⟩:=u.slot b o q m hb hx;by_cases z:b ∈ hid
  ·rcases out b z with y | y
   ·obtain ⟨sl',e'⟩:=n.slot b _ y e;exact ⟨sl',e'⟩
   ·rw [q] at y; cases y
  ·exact ⟨sl,n.keep b _ e z⟩
 free:=u.free
 there:=fun b o q hx=>by
  obtain ⟨o',e⟩:=u.there b o q hx;by_cases z:b ∈ hid
  ·rcases out b z with y | y
   ·obtain ⟨sl',e'⟩:=n.slot b _ y e;exact ⟨_,e'⟩
   ·rw [q] at y; cases y
  ·exact ⟨_,n.keep b _ e z⟩
 tups:=u.tups
 frzs:=u.frzs
 tbls:=u.tbls
abbrev FlyT (a T:Addr) (cls:Value) (h:Heap):Prop:=Fy a T cls .none h
def CXE (P:Program) (w:World):CXT:=fun outer H s E e s' =>
 ∃ (a T:Addr) (cls:Value) (H':Hp),e=.ref a/\s'.os=s.os/\AllBare s'.gens/\Un (frs outer) [] H H' s.heap s'.heap/\HOk P w H' s'.heap /\
  FlyT a T cls s'.heap/\s.heap.get? a=none/\s.heap.get? T=none/\H' a=none/\H' T=none/\E cls none H'
section
variable {P:Program} {w:World} {K:PySem.W.Frag} {mg:Str->Option Value} {base:Heap} {N:List Str} {qual:Str} {scope:Scope} {f:Addr} {cd:Value} {A:Around} {outer:List Env} {s:Shared} {H:Hp} {E:XK}
def Rl (X:Cx) (E:XK):Prop:=∀ (pins:List (Addr×Obj)) (σ:St) (H:Hp) (s:Shared) (e:Addr) (cls:Value) (args:List Value) (h':Heap),Inv X pins σ H s->Heap.MadeExcOf s.heap h' e cls args->E cls none H->X.xe (.ref e) { s with heap:=h' }
theorem Inv.gk {X:Cx} {pins:List (Addr×Obj)} {σ:St} {H:Hp} {s:Shared} (I:Inv X pins σ H s) (hx:X.ex=[]):∀ b o,X.s₀.heap.get? b=some o->∃ o',s.heap.get? b=some o':=fun b o q=>I.base.there b o q (by rw [hx]; simp)
theorem Inv.gn {X:Cx} {pins:List (Addr×Obj)} {σ:St} {H:Hp} {s:Shared} (I:Inv X pins σ H s) (hx:X.ex=[]) {b:Addr} (q:s.heap.get? b=none):X.s₀.heap.get? b=none:=by
 cases e:X.s₀.heap.get? b with
 | none=>rfl
 | some o =>
  obtain ⟨o',e'⟩:=I.gk hx b o e;rw [q] at e';cases e'
theorem Inv.ownNew {X:Cx} {pins:List (Addr×Obj)} {σ:St} {H:Hp} {s:Shared} (I:Inv X pins σ H s):X.s₀.heap.get? X.env.locals=none:=Heap.get?_none_of_le I.ok.above
theorem Inv.frsOut {X:Cx} {pins:List (Addr×Obj)} {σ:St} {H:Hp} {s:Shared} (I:Inv X pins σ H s):∀ b,b ∈ frs X.stack->b ∈ frs X.outer\/X.s₀.heap.get? b=none:=fun b hb=>by
 rcases List.mem_cons.mp (I.stkSub b hb) with z | z
 ·right; rw [z]; exact I.ownNew
 ·exact .inl z
theorem Fi:Rl (EV (CXE P w) P w K mg base N qual scope f cd A outer s H E) E:=by
 intro pins σ H1 s1 e cls args h' I hx hE;obtain ⟨t,e1,_⟩:=hx.there;refine Gj (s:={ s1 with heap:=h' }) (T:=e) I.ok.frames (I.stack.of_keeps fun b o q d=>⟨o,hx.keeps b o q,rfl⟩) rfl (.inl ⟨_,_,e1,rfl,rfl,rfl,rfl⟩) fun h2 T fl n nr=>?_;have h1:∀ b o,s1.heap.get? b=some o->b≠e:=fun b o q z=>by
  rw [z,hx.new] at q;cases q
 have h3:∀ b o,s1.heap.get? b=some o->b≠T:=fun b o q z=>by
  have:=hx.keeps b o q;rw [z,show h'.get? T=none from n] at this;cases this
 have he:∀ b o,s1.heap.get? b=some o->b≠e/\b≠T:=fun b o q=>⟨h1 b o q,h3 b o q⟩
 have nr':MC (frs (EV (CXE P w) P w K mg base N qual scope f cd A outer s H E).stack) (frs (EV (CXE P w) P w K mg base N qual scope f cd A outer s H E).stack) s1.heap h2:=⟨fun b o q z=>nr.keep b o (hx.keeps b o q) fun m=>by
   rcases List.mem_cons.mp m with y | y
   ·exact (he b o q).1 y
   ·rcases List.mem_cons.mp y with y | y
    ·exact (he b o q).1 y
    ·exact z y,fun b o m q=>nr.slot b o m (hx.keeps b o q),fun _ z=>z⟩
 have hn:∀ b,(∀ o,s1.heap.get? b≠some o)->s.heap.get? b=none/\H1 b=none:=fun b z=>⟨I.gn rfl (by
  cases q:s1.heap.get? b with
  | none=>rfl
  | some o=>exact absurd q (z o)),by
  cases q:H1 b with
  | none=>rfl
  | some u =>
   obtain ⟨v,y⟩:=(I.hok b u q).be;exact absurd y (z v)⟩
 have hE1:=hn e fun o q=>(he e o q).1 rfl;have hT1:=hn T fun o q=>(he T o q).2 rfl;exact ⟨e,T,cls,H1,rfl,I.os,I.bare,GU I.base nr' (fun b z=>.inl z) I.frsOut,FW I.hok nr' I.stkFree,fl,hE1.1,hT1.1,hE1.2,hT1.2,hE⟩
theorem NX:DX (CXE P w) (EV (CXE P w) P w K mg base N qual scope f cd A outer s H E) E:=by
 intro pins σ H1 s1 e s' I h;obtain ⟨a,T,cls,H',rfl,os,bare,un,hok,fl,na,nT,ha,hT,hE⟩:=h;have J:Inv (EV (CXE P w) P w K mg base N qual scope f cd A outer s H E) pins σ H' s':=I.call' (ch:=[]) os un hok bare (fun b z=>absurd z (by simp));refine Gj J.ok.frames J.stack rfl (.inr fl) fun h2 T2 fl2 n2 nr=>?_;have ga:=I.gn rfl na;have gT:=I.gn rfl nT;have hid:∀ b,b ∈ a :: T :: frs (EV (CXE P w) P w K mg base N qual scope f cd A outer s H E).stack->b ∈ frs (EV (CXE P w) P w K mg base N qual scope f cd A outer s H E).stack\/(s.heap.get? b=none/\H' b=none):=fun b z=>by
  rcases List.mem_cons.mp z with rfl | z
  ·exact .inr ⟨ga,ha⟩
  ·rcases List.mem_cons.mp z with rfl | z
   ·exact .inr ⟨gT,hT⟩
   ·exact .inl z
 have nT2:H' T2=none:=by
  cases q:H' T2 with
  | none=>rfl
  | some u =>
   obtain ⟨v,y⟩:=(J.hok T2 u q).be;rw [n2] at y;cases y
 refine ⟨a,T2,cls,H',rfl,J.os,J.bare,GU J.base nr (fun b z=>(hid b z).imp id (·.1)) J.frsOut,FW J.hok nr (fun b z=>?_),fl2,ga,J.gn rfl n2,ha,nT2,hE⟩;rcases hid b z with y | y
 ·exact J.stkFree b y
 ·exact y.2
theorem Fun.okE {x:Str} {st:Stmt} {fd:FuncData} {ps:List Str} {k:Nat} {sp:Sp} (F:Fun K x qual st f fd) (S:Av N ps (Ae st)) (len:∀ vs H Q E,sp vs H Q E->vs.length=ps.length)
  (hbody:∀ (cdv:Value) (A:Around) (outer:List Env) (s:Shared) (H:Hp) (vs:List V) (Q:VK) (E:XK),BG k (A.deeper (envOfC qual (Ae st) s.heap.objs.size f cdv))->sp vs H Q E ->
   ∃ t,PSs (EV (CXE P w) P w K mg base N qual (Ae st) f cdv A outer s H E) (Au st) t/\t { nx:=fun _ H'=>Q .non H',rt:=Q } (En N vs) H):AW P w K mg base (CXE P w) (k+1) f fd ps sp:=by
 obtain ⟨oc,od,kV,doc,pm,an,cdv,ct,osl,rfl,lk,hcd⟩:=F.ex;exact Oh lk hcd S len fun A outer s H vs Q E hr hsp=>hbody cdv A outer s H vs Q E hr hsp
end
end L2
namespace L2
open PySem PySem.Spec PyProof.Rows
def vmro:List Value:=[.type "ValueError",.type "Exception",.type "BaseException",.type "object"]
abbrev Ez (K:PySem.W.Frag) (C:Addr):Prop:=PySem.W.excIn K C vmro "ValueError.__new__" = true
theorem Ln {K:PySem.W.Frag} {h:Heap} {C:Addr} {bmB:List Value} {newId:String} (X:K.In h) (q:PySem.W.excIn K C bmB newId=true) :
  ∃ (bm:List Value) (N:Addr) (nm qn:Str) (bs:List Value) (hd:Bool) (sn:List Str) (sub:List Value) (ab:Bool) (col:Option Bool) (dd:Option Addr) (k0 k1 k2 k3 k5:Option Value) (mN:Str->Option Value),
   h.get? C=some (excClassObj nm qn C N bs bm hd sn sub ab col dd k0 k1 k2 k3 k5 newId)/\h.Ns N mN/\mN "__init__" = none/\OwnTail h bmB bm/\∀ v,PySem.W.mroIn K C v=some ((Value.ref C :: bm).contains v):=by
 unfold PySem.W.excIn at q;split at q
 case h_2=>cases q
 rename_i dd cd sl ho;split at q
 case h_2=>cases q
 rename_i C' bm k0 k1 k2 k3 n k5 hm hs;simp only [Bool.and_eq_true,beq_iff_eq,Bool.not_eq_true'] at q;obtain ⟨⟨⟨⟨⟨q1,q2⟩,q3⟩,q4⟩,q5⟩,q6⟩:=q;subst q1 q2;have mro:∀ v,PySem.W.mroIn K C' v=some ((Value.ref C' :: bm).contains v):=fun v=>by
  unfold PySem.W.mroIn PySem.W.clsIn;rw [ho];show (if cd.mro.isEmpty=true then none else some (cd.mro.contains v))=_;rw [hm];rfl
 obtain ⟨nm,bs,mr,ns,qn,hd,sn,sub,ab,col,del⟩:=cd;dsimp only at hm q3 q5 q6;subst hm;subst q3;obtain ⟨l⟩:=sl;dsimp only at hs;subst hs;exact ⟨bm,ns,nm,qn,bs,hd,sn,sub,ab,col,dd,k0,k1,k2,k3,k5,_,X _ _ ho,.of_isNs (PySem.W.isNs_of_in X q5),PySem.W.nsMap_none_of_in X q5 q6,PySem.W.tail_of_in X q4,mro⟩
section
variable {X:Cx} {C:Addr} {x:Str} {np cpos pos:Pos} {e:Expr} {es:List Expr} {t:TA} {E:XK}
def tRaise (C:Addr) (E:XK) (t:TA):TS:=fun _ σ H=>t σ H fun vs H1=>vs.length<=100/\E (.ref C) none H1
theorem Ep (hx:Rl X E) (hc:X.calm=true) (hg:Gl X x) (hm:X.mg x=some (.ref C)) (hC:Ez X.K C) (ha:PA X (e :: es) t)
  (hdb:(x == ("__debug__" : Str))=false:=by decide) (he:starEach (e :: es) X.env=(false,eval e X.env) :: starEach es X.env:=by rfl) (hpl:(backTo cpos (starEach es X.env)).any (·.1)=false:=by rfl) :
  PS X (.Raise (some (.Call (.Name x np) (e :: es) [] cpos)) none pos) (tRaise C E t):=by
 intro pins s σ H D I h;obtain ⟨bm,N,nm,qn,bs,hd,sn,sub,ab,col,dd,k0,k1,k2,k3,k5,mN,hO,hN,hi,hT,hM⟩:=Ln I.mod.kin hC;have hbase:bm.contains (.type "BaseException")=true:=hT.hasType (by decide);refine wpAny_Raise_call_subU (C:=C) (nm:=nm) (q:=qn) (N:=N) (bs:=bs) (bm:=bm) (hdct:=hd) (sn:=sn) (sub:=sub) (ab:=ab) (col:=col) (dd:=dd) (k0:=k0) (k1:=k1) (k2:=k2) (k3:=k3) (k5:=k5) (newId:="ValueError.__new__") (mN:=mN)
  PySem.F.excBase_ValueError (by decide) PySem.F.excBase_ValueError hbase (I.ok.hd hc) (by rw [he]; show (false || (backTo cpos (starEach es X.env)).any (·.1))=false; rw [hpl]; rfl) hi (Fp I hg hm ⟨rfl,?_⟩ hdb)
 have hA:=ha cpos pins s σ H _ I h;rw [he] at hA ⊢;refine Calls.evalArgs_plain (thn hA fun us s1 ⟨vs,H1,I1,r1,hl,q1⟩=>?_);have k:∀ b o,X.base.get? b=some o->s1.heap.get? b=some o:=I1.bk;refine ⟨rfl,?_,k _ _ hO,hN.keeps k,hT.keeps k,fun h' e' hx'=>hx pins σ H1 s1 e' _ _ h' I1 hx' q1⟩;show us.length<=sizeLine;rw [<-r1.length];exact Nat.le_trans hl (by decide)
end
def Oy (CX:CXT) (X:Cx) (E:XK) (S:St->Prop):Prop:=∀ (pins:List (Addr×Obj)) (σ:St) (H:Hp) (s:Shared) (e:Value) (s':Shared),S σ->Inv X pins σ H s->CX X.stack H s E e s'->X.xe e s'
section
variable {X:Cx} {CX:CXT} {k:Nat} {f:Addr} {fd:FuncData} {ps:List Str} {sp:Sp} {dvs:List V} {ds:List Value} {E:XK} {x:Str} {p pos:Pos} {e:Expr} {es:List Expr} {t:TA} {S:St->Prop}
end
theorem Inv.re {X:Cx} {pins pins2 pn2:List (Addr×Obj)} {σ:St} {H:Hp} {s:Shared} {A2:Around} {c2:Bool} {xe2:Value->Shared->Prop} (I:Inv X pins σ H s) (hd:c2=true->A2.handled=none) (hf:A2.frames=X.A.frames)
  (hp:∀ p,p ∈ pn2 ++ pins2->p ∈ X.pn ++ pins):Inv { X with A:=A2,calm:=c2,xe:=xe2,pn:=pn2 } pins2 σ H s :=
 ⟨⟨I.ok.mod,I.ok.kind,I.ok.glob,I.ok.blt,I.ok.above,I.ok.inj,I.ok.has,I.ok.cab,hd,hf.trans I.ok.frames,I.ok.stk,I.ok.exf,I.ok.bs,I.ok.bsz,I.ok.noex,I.ok.exfs,I.ok.funs,I.ok.frf⟩,
  I.os,I.bare,I.base,I.loc,I.cell,I.free,I.freeC,fun p z=>I.pin p (hp p z),I.hok,I.len⟩
theorem Inv.un_re {X:Cx} {pins pins2 pn2:List (Addr×Obj)} {σ:St} {H:Hp} {s:Shared} {A2:Around} {c2:Bool} {xe2:Value->Shared->Prop} (I:Inv { X with A:=A2,calm:=c2,xe:=xe2,pn:=pn2 } pins2 σ H s) (hd:X.calm=true->X.A.handled=none)
  (hf:X.A.frames=A2.frames) (hp:∀ p,p ∈ X.pn ++ pins->p ∈ pn2 ++ pins2):Inv X pins σ H s :=
 ⟨⟨I.ok.mod,I.ok.kind,I.ok.glob,I.ok.blt,I.ok.above,I.ok.inj,I.ok.has,I.ok.cab,hd,hf.trans I.ok.frames,I.ok.stk,I.ok.exf,I.ok.bs,I.ok.bsz,I.ok.noex,I.ok.exfs,I.ok.funs,I.ok.frf⟩,
  I.os,I.bare,I.base,I.loc,I.cell,I.free,I.freeC,fun p z=>I.pin p (hp p z),I.hok,I.len⟩
theorem SP.map {X Y:Cx} {p q:List (Addr×Obj)} {D:GT} {f:Flow} {s:Shared} (k:∀ σ H,Inv X p σ H s->Inv Y q σ H s) (h:SP X p D f s):SP Y q D f s:=by
 cases f with
 | next=>obtain ⟨σ',H',I,z⟩:=h; exact ⟨σ',H',k _ _ I,z⟩
 | brk=>obtain ⟨σ',H',I,z⟩:=h; exact ⟨σ',H',k _ _ I,z⟩
 | cont=>obtain ⟨σ',H',I,z⟩:=h; exact ⟨σ',H',k _ _ I,z⟩
 | ret u=>obtain ⟨v,σ',H',I,r,z⟩:=h; exact ⟨v,σ',H',k _ _ I,r,z⟩
def Fw (a D:Addr):HO:=.ext (Fz a D)
theorem QO {P:Program} {w:World} {H:Hp} {h:Heap} {a D:Addr} (e:Fz a D h):AS P w H h a (Fw a D):=by
 obtain ⟨o,e,r⟩:=e;exact ⟨⟨o,e,r⟩,⟨o,e⟩,fun h1 h2 ⟨o1,e1,r1⟩ k=>⟨o1,k _ e1,r1⟩⟩
theorem Inv.track {X:Cx} {pins:List (Addr×Obj)} {σ:St} {H:Hp} {s:Shared} {a:Addr} {o:HO} (I:Inv X pins σ H s) (ha:H a=none) (h0:X.s₀.heap.get? a=none) (hb:X.base.get? a=none) (hL:X.env.locals≠a) (hc:∀ x c,X.env.cells.lookup x=some c->c≠a)
  (hp:∀ p,p ∈ X.pn ++ pins->p.1≠a) (hs:∀ b,b ∈ X.fs->b≠a) (new:AS X.prog X.w (upd H a o) s.heap a o):Inv X pins σ (upd H a o) s:=by
 have ne:∀ b u,H b=some u->b≠a:=fun b u q z=>by rw [z,ha] at q; cases q
 refine ⟨I.ok,I.os,I.bare,⟨I.base.keep,I.base.slot,fun b u q n x=>?_,I.base.there,fun b xs q=>?_,fun b u v q=>?_,fun b ps q=>?_⟩,I.loc,I.cell,?_,fun x c q=>?_,fun p z=>?_,fun b u q=>?_,I.len⟩
 ·rw [Ak (fun z=>by rw [z,h0] at q; cases q)];exact I.base.free b u q n x
 ·have z:=I.base.tups b xs q;rw [Ak (ne _ _ z)]; exact z
 ·have z:=I.base.frzs b u v q;rw [Ak (ne _ _ z)]; exact z
 ·obtain ⟨m,z⟩:=I.base.tbls b ps q;exact ⟨m,by rw [Ak (ne _ _ z)]; exact z⟩
 ·rw [Ak hL]; exact I.free
 ·rw [Ak (hc x c q)]; exact I.freeC x c q
 ·obtain ⟨e,n,r⟩:=I.pin p z;exact ⟨e,by rw [Ak (hp p z)]; exact n,r⟩
 ·by_cases z:b=a
  ·subst z;rw [Ah] at q;cases q;exact new
  ·rw [Ak z] at q;exact (I.hok b u q).stay (fun c v _ r=>r) (fun c r=>by rw [Ak (ne _ _ r)]; exact r) fun c xs r=>by rw [Ak (ne _ _ r)]; exact r
theorem Inv.gone {X:Cx} {pins:List (Addr×Obj)} {σ:St} {H:Hp} {s:Shared} {h':Heap} {n:Str} {i:Nat} {v:Option Value} {m:Str->Option Value} {tk:Nat} (I:Inv X pins σ H s) (hN:X.N.Nodup) (hi:X.N[i]?=some n) (hl:X.env.scope.names.lookup n=some .local)
  (hl0:∀ (i:Nat) (x:Str) (v:V),X.N[i]?=some x->σ[i]?=some (some v)->Vis X.env.scope x->∃ u,AR v u/\Look X.env s.heap m x u) (hn':h'.Ns X.env.locals (fun x=>if x=n then v else m x)) (sb:Heap.SameBut X.env.locals s.heap h'):Inv X pins (σ.set i none) H { s with heap:=h',toks:=tk }:=by
 have neL:∀ b o,X.s₀.heap.get? b=some o->b≠X.env.locals:=fun b o e=>Nat.ne_of_lt (Nat.lt_of_lt_of_le (Heap.lt_size e) I.ok.above);refine ⟨I.ok,I.os,I.bare,⟨fun b o e z hb hx=>?_,fun b o e z hb hx=>?_,I.base.free,fun b o e hx=>?_,I.base.tups,I.base.frzs,I.base.tbls⟩,⟨_,hn',fun j y v' e1 e2 e3=>?_⟩,fun y c e=>?_,I.free,I.freeC,fun p hp=>?_,fun b u q=>?_,by simpa using I.len⟩
 ·exact (sb.2 b (neL b o e)).trans (I.base.keep b o e z hb hx)
 ·obtain ⟨sl,q⟩:=I.base.slot b o e z hb hx;exact ⟨sl,(sb.2 b (neL b o e)).trans q⟩
 ·obtain ⟨o',q⟩:=I.base.there b o e hx;exact ⟨o',(sb.2 b (neL b o e)).trans q⟩
 ·by_cases hj:j=i
  ·subst hj;rw [List.getElem?_set_self (by rw [I.len]; exact (List.getElem?_eq_some_iff.mp hi).1)] at e2;cases e2
  ·rw [List.getElem?_set_ne (Ne.symm hj)] at e2;obtain ⟨u,r,l⟩:=hl0 j y v' e1 e2 e3;refine ⟨u,r,?_⟩;have ny:y≠n:=fun z=>hj (Ip hN e1 (z ▸ hi));rcases l with ⟨k,q⟩ | ⟨k,c,q,z⟩
   ·exact .inl ⟨k,by simp [ny,q]⟩
   ·exact .inr ⟨k,c,q,z.sameBut sb (I.cne y c q)⟩
 ·obtain ⟨w',z⟩:=I.cell y c e;exact ⟨w',z.sameBut sb (I.cne y c e)⟩
 ·obtain ⟨e,z,ne,r⟩:=I.pin p hp;exact ⟨(sb.2 p.1 ne).trans e,z,ne,r⟩
 ·have ne:∀ c v,H c=some v->c≠X.env.locals:=fun c v q z=>by rw [z,I.free] at q; cases q
  refine (I.hok b u q).stay (fun c v hc r=>(sb.2 c ?_).trans r) (fun _ z=>z) fun _ _ z=>z;rcases hc with rfl | hc
  ·exact ne _ _ q
  ·exact ne _ _ hc
end L2
namespace L2
open PySem PySem.Spec PyProof.Rows
theorem Pg {K:PySem.W.Frag} {M:Model} {A:Around} {E:Value->Shared->Prop} {s:Shared} {e C D:Addr} {oe:Obj} {Q:Bool->Shared->Prop} (X:K.In s.heap) (hC:Ez K C) (hD:Ez K D) (hs:PySem.W.mroIn K D (.ref C)=some true)
  (he:s.heap.get? e=some oe) (hcls:oe.cls=.ref D) (hq:Q true s):wpAny M A (excMatches (.ref e) (.ref C)) Q E s:=by
 obtain ⟨h,g,d,t,os⟩:=s;obtain ⟨bm,N,nm,qn,bs,hd,sn,sub,ab,col,dd,k0,k1,k2,k3,k5,mN,hO,hN,hi,hT,hM⟩:=Ln X hD;have hbase:bm.contains (.type "BaseException")=true:=hT.hasType (by decide);by_cases z:D=C
 ·subst z;exact wpAny_excMatches_sub_self hO he hcls hbase hq
 ·obtain ⟨bm',N',nm',qn',bs',hd',sn',sub',ab',col',dd',k0',k1',k2',k3',k5',mN',hO',hN',hi',hT',hM'⟩:=Ln X hC;have hcB:(Value.ref C :: bm').contains (.type "BaseException")=true:=by rw [List.contains_cons,hT'.hasType (X:="BaseException") (b:=true) (by decide),Bool.or_true]
  have hcC:(Value.ref D :: bm).contains (.ref C)=true:=Option.some.inj ((hM (.ref C)).symm.trans hs);have f:=tc_notTuple;unfold excMatches
  repeat (first
   | (with_reducible refine wpAny_loadPart_at he ?_; rw [hcls])
   | with_reducible refine wpAny_loadPart_at hO' ?_
   | (with_reducible refine wpAny_isSubtype_exc hO' ?_; rw [hcB])
   | (with_reducible refine wpAny_isSubtype_exc hO ?_; rw [hcC])
   | wp_step)
  exact hq
section
variable {X:Cx} {C:Addr} {x n:Str} {np hpos pos:Pos} {i:Nat} {b₀:Stmt} {suite body:List Stmt} {S:St->Prop} {tb:XK->TS} {th:TS}
theorem land {pins pins':List (Addr×Obj)} {σ:St} {H1:Hp} {s1 s':Shared} {e:Value} {E1:XK} {Q:Flow->Shared->Prop} {nm:Option Str} {xe1:Value->Shared->Prop}
  (hstk:X.stack=X.env :: X.outer) (hfr:X.env.frame=some X.env.locals) (hex:X.ex=[]) (hg:Gl X x) (hm:X.mg x=some (.ref C)) (hC:Ez X.K C) (hcalm:X.calm=true)
  (hE1:∀ cls d H',E1 cls d H'->∃ D,cls=.ref D/\Ez X.K D/\PySem.W.mroIn X.K D (.ref C)=some true)
  (J0:Inv { X with xe:=xe1,pn:=X.pn ++ pins } pins' σ H1 s1) (hcx:CXE X.prog X.w X.stack H1 s1 E1 e s')
  (go:∀ (a D:Addr) (H':Hp) (s2:Shared),e=.ref a->E1 (.ref D) none H'->H' a=none->Fz a D s2.heap->X.s₀.heap.get? a=none->X.base.get? a=none->X.env.locals≠a->(∀ x c,X.env.cells.lookup x=some c->c≠a) ->
   (∀ p,p ∈ X.pn ++ pins->p.1≠a)->(∀ b,b ∈ X.fs->b≠a)->Inv X pins σ H' s2 ->
   (∀ (Q':Unit->Shared->Prop) (E':Value->Shared->Prop),(∀ s3,Inv X pins σ H' s3->Fz a D s3.heap->Q' () s3)->wpAny (model X.prog X.w) (X.A.mark (some (.ref a))) (setFlight (.ref a) none) Q' E' s2) ->
   codeAny (model X.prog X.w) (X.A.mark (some (.ref a))) (.handlers (.ref a) [.ExceptHandler none nm (b₀ :: suite) hpos] X.env) (fun r s₂=>match r with
     | .ok f=>(match nm with
      | none=>Q f s₂
      | some n=>wpAny (model X.prog X.w) X.A (do bindName X.env n .none; unbindBehindTheSuite X.env n hpos) (fun _ s₃=>Q f s₃) X.xe s₂)
     | .error x=>cameBackBy (model X.prog X.w) X.A X.env X.xe x s₂) s2)
  (hdb:(x == ("__debug__" : Str))=false:=by decide) :
  wpAny (model X.prog X.w) X.A (noteFrame e X.env) (fun _ s₂=>wpAny (model X.prog X.w) X.A (setFlight e none) (fun _ s₃=>wpAny (model X.prog X.w) X.A (handleBy e X.env [.ExceptHandler (some (.Name x np)) nm (b₀ :: suite) hpos]) Q X.xe s₃) X.xe s₂) X.xe s':=by
 obtain ⟨a,T,cls,H',rfl,os,bare,un,hok,fl,na,nT,ha,hT,hE⟩:=hcx;obtain ⟨D,rfl,hD,hDC⟩:=hE1 _ _ _ hE;have hpin:∀ p,p ∈ X.pn ++ pins->p.1≠a:=fun p hp z=>by
  have q:=(J0.pin p (List.mem_append_left _ hp)).1;rw [z,na] at q;cases q
 have I0:Inv X pins σ H1 s1:=J0.un_re J0.ok.hd rfl (fun p hp=>List.mem_append_left _ hp);have J:Inv X pins σ H' s':=I0.call' (ch:=[]) os un hok bare (fun b z=>absurd z (by simp));have fr:=J.stack;have sub:∀ b,b ∈ frs X.stack->b ∈ a :: T :: frs X.stack:=fun b z=>.tail _ (.tail _ z);have hf2:X.A.frames=some (X.env :: X.outer):=J.ok.frames.trans (by rw [hstk]);have free:∀ b,b ∈ a :: T :: frs X.stack->H' b=none:=fun b z=>by
  rcases List.mem_cons.mp z with rfl | z
  ·exact ha
  ·rcases List.mem_cons.mp z with rfl | z
   ·exact hT
   ·exact J.stkFree b z
 have g0:∀ {b},s1.heap.get? b=none->X.s₀.heap.get? b=none:=fun q=>I0.gn hex q;have out:∀ b,b ∈ a :: T :: frs X.stack->b ∈ frs X.stack\/X.s₀.heap.get? b=none:=fun b z=>by
  rcases List.mem_cons.mp z with rfl | z
  ·exact .inr (g0 na)
  ·rcases List.mem_cons.mp z with rfl | z
   ·exact .inr (g0 nT)
   ·exact .inl z
 have out1:∀ b,b ∈ a :: T :: frs X.stack->b ∈ frs X.stack\/s1.heap.get? b=none:=fun b z=>by
  rcases List.mem_cons.mp z with rfl | z
  ·exact .inr na
  ·rcases List.mem_cons.mp z with rfl | z
   ·exact .inr nT
   ·exact .inl z
 have over:∀ h2,MC (a :: T :: frs X.stack) (frs X.stack) s'.heap h2->Inv X pins σ H' { s' with heap:=h2 }:=fun h2 nr =>
  I0.call' (s':={ s' with heap:=h2 }) (ch:=[]) os (GU un nr out1 fun b z=>.inl z) (FW hok nr free) bare (fun b z=>absurd z (by simp))
 have fr':=fr;rw [hstk] at fr';have efs:frs X.stack=frs (X.env :: X.outer):=by rw [hstk]
 refine LX hf2 fr' hfr (.inr fl) fun h4 T4 fl4 n4 nr4=>?_;rw [<-efs] at nr4;have kn:∀ {h2},(∀ b o,h4.get? b=some o->b≠T4->h2.get? b=some o)->MC (a :: T :: frs X.stack) (frs X.stack) s'.heap h2:=fun kp=>by
  have ne:∀ b o,s'.heap.get? b=some o->b≠T4:=fun b o q y=>by
   rw [y,n4] at q;cases q
  refine ⟨fun b o q z=>kp b o (nr4.keep b o q z) (ne b o q),fun b o m q=>?_,nr4.sub⟩;obtain ⟨sl,e⟩:=nr4.slot b o m q;exact ⟨sl,kp b _ e (ne b o q)⟩
 refine FH (s:={ s' with heap:=h4 }) fl4 fun h5 fw5 kp5=>?_;have J5:=over h5 (kn kp5);obtain ⟨oe5,_,_,_,q5,c5,_⟩:=id fw5;have M5:Inv { X with A:=X.A.mark (some (.ref a)),calm:=false,xe:=fun _ _=>False,pn:=X.pn } pins σ H' { s' with heap:=h5 }:=J5.re (fun z=>nomatch z) rfl (fun _ z=>z);refine wpAny_handleBy_cons (codeAny_handlers_test (Fp (X:={ X with A:=X.A.mark (some (.ref a)),calm:=false,xe:=fun _ _=>False,pn:=X.pn }) M5 hg hm ?_ hdb)) (by intro q; cases q);refine Pg M5.kIn hC hD hDC q5 c5 ?_;have nL:∀ {b o},s1.heap.get? b=some o->b≠a:=fun q z=>by rw [z,na] at q; cases q
 refine go a D H' { s' with heap:=h5 } rfl hE ha fw5.exc (g0 na) ?_ ?_ ?_ hpin ?_ J5 ?_
 ·cases q:X.base.get? a with
  | none=>rfl
  | some o =>
   have:=I0.bk a o q;rw [na] at this;cases this
 ·obtain ⟨m,⟨o,_,_,q,_⟩,_⟩:=I0.loc;exact nL q
 ·intro y c q;obtain ⟨v,o,ho,_⟩:=I0.cell y c q;exact nL ho
 ·intro b hb;obtain ⟨_,o,ho,_⟩:=I0.funs.mem hb;exact nL ho
 ·intro Q' E' hk;refine FH (s:={ s' with heap:=h5 }) fw5 fun h6 fw6 kp6=>hk _ (over h6 (kn fun b o q y=>kp6 b o (kp5 b o q y) y)) fw6.exc
abbrev Pr (X:Cx) (pins:List (Addr×Obj)) (D:GT) (hs:List ExceptHandler):Value->Shared->Prop:=fun e s₁ =>
 wpAny (model X.prog X.w) X.A (noteFrame e X.env) (fun _ s₂=>wpAny (model X.prog X.w) X.A (setFlight e none) (fun _ s₃=>wpAny (model X.prog X.w) X.A (handleBy e X.env hs) (SP X pins D) X.xe s₃) X.xe s₂) X.xe s₁
def tTryAsH (K:PySem.W.Frag) (C:Addr) (i:Nat) (S:St->Prop) (tb:XK->TS) (th:Addr->TS):TS:=fun D σ H =>
 tb (fun cls _ H'=>∃ D',cls=.ref D'/\Ez K D'/\PySem.W.mroIn K D' (.ref C)=some true/\∀ σ' a,S σ'->H' a=none ->
  th a { nx:=fun σ2 H2=>D.nx (σ2.set i none) H2,rt:=D.rt,bk:=fun σ2 H2=>D.bk (σ2.set i none) H2,ct:=fun σ2 H2=>D.ct (σ2.set i none) H2 } (σ'.set i (some (.ref a))) (upd H' a (Fw a D'))) D σ H
theorem OH {th:Addr->TS} (hstk:X.stack=X.env :: X.outer) (hfr:X.env.frame=some X.env.locals) (hex:X.ex=[]) (hcalm:X.calm=true) (hg:Gl X x) (hm:X.mg x=some (.ref C)) (hC:Ez X.K C) (hN:X.N.Nodup) (hi:X.N[i]?=some n) (hl:X.env.scope.names.lookup n=some .local)
  (hb:∀ (xe:Value->Shared->Prop) (pn:List (Addr×Obj)) (E1:XK),Oy (CXE X.prog X.w) { X with xe:=xe,pn:=pn } E1 S->PSs { X with xe:=xe,pn:=pn } body (tb E1))
  (hth:∀ (a:Addr),PSs { X with A:=X.A.mark (some (.ref a)),calm:=false,xe:=fun _ _=>False,pn:=X.pn } (b₀ :: suite) (th a)) (hdb:(x == ("__debug__" : Str))=false:=by decide) :
  PS X (.Try body [.ExceptHandler (some (.Name x np)) (some n) (b₀ :: suite) hpos] [] [] pos) (tTryAsH X.K C i S tb th):=by
 intro pins s σ H D I h;refine wpAny_Try_except ?_;have I1:Inv { X with xe:=Pr X pins D [.ExceptHandler (some (.Name x np)) (some n) (b₀ :: suite) hpos],pn:=X.pn ++ pins } [] σ H s :=
  I.re I.ok.hd rfl (fun p z=>by simpa using z)
 refine wpAny_mono (hb (Pr X pins D [.ExceptHandler (some (.Name x np)) (some n) (b₀ :: suite) hpos]) (X.pn ++ pins) _ ?pass [] s σ H D I1 h) (fun f s1 q=>?_) (fun e s1 q=>q)
 case pass =>
  intro pins' σ' H1 s1 e s' hS J hcx;refine land (pins:=pins) hstk hfr hex hg hm hC hcalm (fun cls d H' ⟨D',z,a,b,_⟩=>⟨D',z,a,b⟩) J hcx (fun a D' H' s2 _ hE ha ho g0 gb nL nC nP nF J5 hset=>?_) hdb;obtain ⟨D2,z,_,_,k⟩:=hE;cases z;refine codeAny_handlers_suite_as (hset _ _ fun s3 J3 L3=>?_);have J4:=J3.track (o:=Fw a D') ha g0 gb nL nC nP nF (QO L3);refine Ie J4 hN hi (.inl hl) (v:=.ref a) rfl (fun s4 K4=>?_) (.inr hl);have J6:Inv { X with A:=X.A.mark (some (.ref a)),calm:=false,xe:=fun _ _=>False,pn:=X.pn } pins (σ'.set i (some (.ref a))) (upd H' a (Fw a D')) s4:=K4.re (fun z=>nomatch z) rfl (fun _ z=>z);refine wpAny_mono (hth a pins s4 _ _ _ J6 (k σ' a hS ha)) (fun f s5 q=>?_) (fun _ _ z=>z.elim);have gone:∀ {σ5:St} {H5:Hp},Inv { X with A:=X.A.mark (some (.ref a)),calm:=false,xe:=fun _ _=>False,pn:=X.pn } pins σ5 H5 s5->∀ {Q:Unit->Shared->Prop},(∀ s6,Inv X pins (σ5.set i none) H5 s6->Q () s6) ->
    wpAny (model X.prog X.w) X.A (do bindName X.env n .none; unbindBehindTheSuite X.env n hpos) Q X.xe s5:=fun {σ5 H5} J7 Q hq=>by
   have J8:Inv X pins σ5 H5 s5:=J7.un_re J3.ok.hd rfl (fun _ z=>z);obtain ⟨m,hn,hl0⟩:=id J8.loc;exact wpAny_nameGoes_keeps hl hn (by rw [J8.ok.kind]; rfl) fun h' v hn' sb=>hq _ (J8.gone hN hi hl hl0 hn' sb)
  cases f with
  | next=>obtain ⟨σ5,H5,J7,q⟩:=q; exact gone J7 fun s6 J8=>⟨_,H5,J8,q⟩
  | brk=>obtain ⟨σ5,H5,J7,q⟩:=q; exact gone J7 fun s6 J8=>⟨_,H5,J8,q⟩
  | cont=>obtain ⟨σ5,H5,J7,q⟩:=q; exact gone J7 fun s6 J8=>⟨_,H5,J8,q⟩
  | ret u=>obtain ⟨v,σ5,H5,J7,r,q⟩:=q; exact gone J7 fun s6 J8=>⟨v,_,H5,J8,r,q⟩
 have back:∀ σ H,Inv { X with xe:=Pr X pins D [.ExceptHandler (some (.Name x np)) (some n) (b₀ :: suite) hpos],pn:=X.pn ++ pins } [] σ H s1->Inv X pins σ H s1 :=
  fun σ H J=>J.un_re J.ok.hd rfl (fun p z=>by simpa using z)
 cases f with
 | next=>exact wpAny_execs_nil (q.map back)
 | brk=>exact q.map back
 | cont=>exact q.map back
 | ret u=>exact q.map back
end
section
variable {P:Program} {w:World} {K:PySem.W.Frag} {mg:Str->Option Value} {base:Heap}
end
section
variable {X:Cx} {k:Nat} {f:Addr} {fd:FuncData} {ps:List Str} {sp:Sp} {x:Str} {p pos:Pos} {e:Expr} {es:List Expr} {t:TA}
end
end L2
namespace L2
open PySem PySem.Spec PyProof.Rows
section
variable {X:Cx} {tg:Expr}
end
end L2
namespace L2
open PySem PySem.Spec PyProof.Rows
section
variable {X:Cx} {iter:Expr} {ti:TE} {x G:Str} {px px1 px2 cpos pos:Pos} {scope:Scope} {g:Str}
end
structure IT (K:PySem.W.Frag) (D:Addr):Prop where
 hd:PySem.W.hasDictIn K D=true
 ga:PySem.W.findIn K (.ref D) "__getattribute__" = some (some (.builtin "BaseException.__getattribute__"))
 gt:PySem.W.findIn K (.ref D) "__getattr__" = some none
 cl:PySem.W.findIn K (.ref D) "__class__" = some (some (.builtin "object.__class__"))
 sp:PySem.W.specialIn K (.builtin "object.__class__") "__get__" = some (some (.builtin "getset_descriptor.__get__"))
 tk:PySem.W.takesIn K (.builtin "object.__class__")=some true
 mo:PySem.W.mroIn K D (.type "object")=some true
 mb:PySem.W.mroIn K D (.type "BaseException")=some true
section
variable {K:PySem.W.Frag} {prog:Program} {w:World} {A:Around} {E:Value->Shared->Prop} {s:Shared} {a D:Addr} {o:Obj}
open PySem.W Builtin Builtin.ObjectAttr Builtin.Getset_descriptor
theorem QU {M:Model} {h:Heap} (X:K.In h) (f:IT K D):Looks M h (find (.ref a) (.ref D) "__class__") (.bind (.builtin "getset_descriptor.__get__") (.builtin "object.__class__")) :=
 (looks_findIn X f.cl).andThen ((looks_specialIn X f.sp).andThen ((show Looks M h (dataDescriptor? (some (.builtin "object.__class__")) (some (.builtin "getset_descriptor.__get__"))) (some (.builtin "getset_descriptor.__get__",.builtin "object.__class__")) from (looks_takesIn X f.tk).andThen .now).andThen (Looks.tag .now)))
theorem exc_get {R:Result->Shared->Prop} {tp:Value} (X:K.In s.heap) (f:IT K D) (he:s.heap.get? a=some o) (hc:o.cls=.ref D) (hq:R (.ok (.ret (.ref D))) s) :
  codeAny (model prog w) A (.call (.builtin "getset_descriptor.__get__") ⟨[.builtin "object.__class__",.ref a,tp],[]⟩) R s:=by
 obtain ⟨h,g,d,t,os⟩:=s;have L0:Looks (model prog w) h (typeOf (.ref a)) (.ref D):=hc ▸ (Looks.ld he).andThen .now;have L1:=looks_mroIn (M:=model prog w) X f.mo;refine codeAny_call_builtin KF.slot_gs.plain KF.entry_gs (KF.slot_gs.check _ _ _ _ _ _ _ _ KF.type_class (KF.args_gs _ _ _) ?_);unfold Builtin.«getset_descriptor.__get__» descrGet;rw [dga_obj];refine wpAny_bind (wpAny_pure ?_);unfold descrGetter descrCheckInstance descrNameAndClass isInstance;simp only [KF.owner_class]
 repeat lk
 refine ⟨Code.quiet_builtin _ (by decide +kernel),codeAny_builtin KF.entry_class ?_⟩;unfold Builtin.«object.__class__» shownTypeOf
 repeat lk
 exact hq
theorem Ph {Q:Option Value->Shared->Prop} (X:K.In s.heap) (f:IT K D) (he:s.heap.get? a=some o) (hc:o.cls=.ref D) (hq:Q (some (.ref D)) { s with toks:=s.toks+1 }) :
  wpAny (model prog w) A (getAttr? (.ref a) "__class__") Q E s:=by
 obtain ⟨h,g,d,t,os⟩:=s;have L0:Looks (model prog w) h (typeOf (.ref a)) (.ref D):=hc ▸ (Looks.ld he).andThen .now;have L1:=looks_findIn (M:=model prog w) X f.ga;have L2:=looks_findIn (M:=model prog w) X f.gt;have L3:=QU (M:=model prog w) (a:=a) X f;have L4:Looks (model prog w) h (isInstance (.ref a) (.type "BaseException")) true:=L0.andThen (looks_mroIn X f.mb);unfold getAttr? getAttrBy? getAttrBy;refine wpAny_bind (wpAny_mkText (wpAny_bind (wpAny_attempt (wpAny_holding (wpAny_bind (L0.at (wpAny_bind (L1.at ?_))))))));dsimp only;have n0:(Value.builtin "BaseException.__getattribute__" == Value.builtin "object.__getattribute__")=false:=by decide +kernel
 rw [if_neg (by rw [n0,Bool.and_false]; exact Bool.false_ne_true)];unfold getAttrByItsOwn hookBefore;rw [if_pos (by rfl)];refine wpAny_bind (L2.at ?_);refine wpAny_bind (wpAny_attempt (wpAny_holding ?_));unfold callGetattribute;rw [if_neg (by decide)];unfold boundAndCalled;refine wpAny_bind (wpAny_of_eq (PySem.F.excAttr_ValueError.ga.bind (.ref a)) ?_);dsimp only;refine wpAny_call (codeAny_call_builtin PySem.F.excAttr_ValueError.ga.plain PySem.F.entry_bexc_ga ?_);have hk:builtinKind "BaseException.__getattribute__" = some .slot:=by decide +kernel
 have hsp:splitId "BaseException.__getattribute__" = some ("BaseException","__getattribute__"):=by decide +kernel
 have har:=PySem.F.args_bexc_ga (.ref a) (.str "__class__" t);simp only [checkBuiltinCall,hk,hsp];refine wpAny_bind (L4.at ?_);rw [if_neg (by decide)];refine wpAny_of_eq (a:=()) har ?_;unfold Builtin.«object.__getattribute__»;dsimp only at L3
 repeat ((fail_if_success (with_reducible show wpAny _ _ (call _ _) _ _ _)); lk)
 refine wpAny_call (exc_get (s:=⟨h,g,d,t+1,os⟩) X f he hc ?_);dsimp only
 repeat lk
 exact hq
end
end L2
namespace L2
open PySem PySem.Spec PyProof.Rows
inductive TyX (K:PySem.W.Frag) (H:Hp):V->Value->Prop where
 | of {x:V} {t:Value} (h:Gz K H x t):TyX K H x t
 | exc {a D:Addr} (e:H a=some (Fw a D)) (f:IT K D):TyX K H (.ref a) (.ref D)
theorem QK {K:PySem.W.Frag} {a D:Addr} (f:IT K D):PySem.W.KitX K (.ref a) (.ref D) (fun h=>∃ o,h.get? a=some o/\o.cls=.ref D/\PySem.W.notCls o=true) where
 ty:=fun M h X ⟨o,e,c,_⟩=>c ▸ (PySem.W.Looks.ld e).andThen .now
 it:=fun M h X _=>by
  obtain ⟨cd,hc,_⟩:=PySem.W.any_some f.hd;unfold PySem.W.clsIn at hc;split at hc
  ·rename_i c' d' cd' sl' ho;intro A' Q' E' s' k q;unfold isType loadHead;exact wpAny_bind (wpAny_loadPart (k _ _ (X _ _ ho)) (wpAny_pure q))
  ·cases hc
 ne:=fun h tp dd its n sl X htp=>by
  obtain ⟨cd,hc,_⟩:=PySem.W.any_some f.hd;refine Bool.eq_false_iff.mpr fun q=>?_;have e:D=tp:=Value.ref.inj (beq_iff_eq.mp q);subst e;unfold PySem.W.clsIn at hc;split at hc
  ·rename_i c' d' cd' sl' ho;have z:=(X _ _ ho).symm.trans htp;cases z
  ·cases hc
 ca:=fun X ⟨o,e,c,_⟩ k=>Ph X f e c k
def clsV:V->Option Value
 | .ty n=>some (.type n)
 | .ref C=>some (.ref C)
 | _=>none
theorem DV {X:Cx}:Fh X (.builtin "isinstance") (fun xs H Q=>∃ x c cv t b,xs=[x,c]/\clsV c=some cv/\TyX X.K H x t/\PySem.W.kitOne X.K t cv=some b/\Q (.bl b) H):=by
 intro pins s σ H xs us Q I r h;obtain ⟨x,c,cv,t,b,rfl,hc,ty,hk,q⟩:=h;cases r with
 | @cons _ u _ _ rx rr =>
  cases rr with
  | @cons _ v _ _ rc rn =>
   cases rn;have ev:v=cv:=by
    cases c with
    | ty n=>cases hc; exact rc
    | ref C=>cases hc; exact rc
    | _=>cases hc
   subst ev;cases ty with
   | of ty=>exact Pb I rx ty hk fun tk=>⟨.bl b,H,I.tok tk,rfl,q⟩
   | @exc a D e f =>
    cases (show u=Value.ref a from rx);obtain ⟨p,_,_⟩:=(show AS X.prog X.w H s.heap a (Fw a D) from I.hok a _ e)
    exact PySem.W.kia_one (QK f) I.kIn (Fz.not p) hk (fun z=>nomatch z) fun tk=>⟨.bl b,H,I.tok tk,rfl,q⟩
def rIsi (K:PySem.W.Frag):List V->Hp->VK->Prop:=fun xs H Q=>∃ x c cv t b,xs=[x,c]/\clsV c=some cv/\TyX K H x t/\PySem.W.kitOne K t cv=some b/\Q (.bl b) H
theorem DT {X:Cx} (K:PySem.W.Frag) (h:X.K=K):Fh X (.builtin "isinstance") (rIsi K):=by
 subst h;exact DV
section
variable {X:Cx} {c:Expr} {a b:List Stmt} {tc:TT} {t u:TS} {pos:Pos}
end
end L2
namespace L2
open PySem PySem.Spec PyProof.Rows
def El (env:Env) (a:List (Str×Addr)) (x:Str×NameKind):List (Str×Addr):=if (x.2 == NameKind.free)=true then (x.1,(env.cells.lookup x.1).getD 0) :: a else a
def IL (env:Env) (l:List (Str×NameKind)):List (Str×Addr):=l.foldl (El env) []
theorem Nq {α β:Type} {l:List α} {f:α->β->Sem (ForInStep β)} {g:β->α->β} (h:∀ x ∈ l,∀ b,f x b=pure (.yield (g b x))):∀ b,forIn l b f=pure (l.foldl g b):=by
 induction l with
 | nil=>intro b; rfl
 | cons x l ih =>
  intro b;rw [List.forIn_cons,h x List.mem_cons_self,pure_bind];exact ih (fun y hy=>h y (List.mem_cons_of_mem _ hy)) _
theorem EO {scope:Scope} {env:Env} (h:∀ y ∈ scope.names,y.2=.free->∃ c,env.cells.lookup y.1=some c):closureFor scope env=pure (IL env scope.names):=by
 simp only [closureFor];rw [Nq (g:=El env) (fun x hx c=>by
  obtain ⟨n,k⟩:=x;by_cases hk:k=.free
  ·subst hk;obtain ⟨a,ha⟩:=h _ hx rfl;have e:cellOf env n=pure a:=by unfold cellOf; rw [show env.cells.lookup n=some a from ha]
   simp only [El,beq_self_eq_true,if_true,e,show env.cells.lookup n=some a from ha,Option.getD_some];rfl
  ·have hb:(k == NameKind.free)=false:=by simpa using hk
   simp only [El,hb,Bool.false_eq_true,if_false])]
 rfl
theorem Gu (env:Env) {y:Str} {c:Addr}:∀ (l:List (Str×NameKind)) (a:List (Str×Addr)),(l.foldl (El env) a).lookup y=some c->a.lookup y=some c\/((y,NameKind.free) ∈ l/\c=(env.cells.lookup y).getD 0)
 | [],a,h=>.inl h
 | (n,k) :: r,a,h=>by
  rw [List.foldl_cons] at h;rcases Gu env r _ h with z | ⟨z,e⟩
  ·unfold El at z;split at z
   ·rename_i hk;have hk':k=.free:=by simpa using hk
    rw [List.lookup_cons] at z;split at z
    ·rename_i hy;have hy':y=n:=by simpa using hy
     subst hy' hk';exact .inr ⟨List.mem_cons_self,(Option.some.inj z).symm⟩
    ·exact .inl z
   ·exact .inl z
  ·exact .inr ⟨List.mem_cons_of_mem _ z,e⟩
theorem Mo (env:Env) {y:Str}:∀ (l:List (Str×NameKind)) (a:List (Str×Addr)),(∃ c,a.lookup y=some c)->∃ c,(l.foldl (El env) a).lookup y=some c
 | [],_,h=>h
 | (n,k) :: r,a,h=>by
  rw [List.foldl_cons];refine Mo env r _ ?_;unfold El;split
  ·rw [List.lookup_cons];split
   ·exact ⟨_,rfl⟩
   ·exact h
  ·exact h
theorem IK (env:Env) {y:Str}:∀ (l:List (Str×NameKind)) (a:List (Str×Addr)),(y,NameKind.free) ∈ l->∃ c,(l.foldl (El env) a).lookup y=some c
 | [],_,h=>by simp at h
 | (n,k) :: r,a,h=>by
  rw [List.foldl_cons];rcases List.mem_cons.mp h with e | h
  ·cases e;refine Mo env r _ ⟨(env.cells.lookup y).getD 0,?_⟩;unfold El;simp only [beq_self_eq_true,if_true,List.lookup_cons]
  ·exact IK env r _ h
theorem Ij {env:Env} {y:Str}:∀ {names:List (Str×NameKind)},(∀ z ∈ names,z.2≠.cell) ->
  ((names.map fun (n,k)=>if (k == NameKind.free && env.scope.kind == .function && env.kindOf n == some .cell) then (n,NameKind.cell) else (n,k)).lookup y=some .cell \/
   (names.map fun (n,k)=>if (k == NameKind.free && env.scope.kind == .function && env.kindOf n == some .cell) then (n,NameKind.cell) else (n,k)).lookup y=some .free)->(y,NameKind.free) ∈ names
 | [],_,h=>by simp at h
 | (n,k) :: r,hc,h=>by
  have ih:=@Ij env y r (fun z hz=>hc z (List.mem_cons_of_mem _ hz));have h':List.lookup y ((if (k == NameKind.free && env.scope.kind == .function && env.kindOf n == some .cell)=true then (n,NameKind.cell) else (n,k)) :: (r.map fun (n,k)=>if (k == NameKind.free && env.scope.kind == .function && env.kindOf n == some .cell) then (n,NameKind.cell) else (n,k)))=some .cell \/
   List.lookup y ((if (k == NameKind.free && env.scope.kind == .function && env.kindOf n == some .cell)=true then (n,NameKind.cell) else (n,k)) :: (r.map fun (n,k)=>if (k == NameKind.free && env.scope.kind == .function && env.kindOf n == some .cell) then (n,NameKind.cell) else (n,k)))=some .free:=h
  clear h;by_cases hb:(k == NameKind.free && env.scope.kind == .function && env.kindOf n == some .cell)=true
  ·rw [if_pos hb] at h';have hk:k=.free:=by
    simp only [Bool.and_eq_true,beq_iff_eq] at hb;exact hb.1.1
   simp only [List.lookup_cons] at h';cases hy:y == n with
   | true =>
    have:y=n:=by simpa using hy
    subst this hk;exact List.mem_cons_self
   | false =>
    rw [hy] at h';exact List.mem_cons_of_mem _ (ih h')
  ·rw [if_neg hb] at h';simp only [List.lookup_cons] at h';cases hy:y == n with
   | true =>
    rw [hy] at h';have:y=n:=by simpa using hy
    subst this;rcases h' with z | z
    ·exact absurd (Option.some.inj z) (hc (y,k) List.mem_cons_self)
    ·cases Option.some.inj z;exact List.mem_cons_self
   | false =>
    rw [hy] at h';exact List.mem_cons_of_mem _ (ih h')
theorem FM {env:Env} {y:Str}:∀ {names:List (Str×NameKind)},names.lookup y=some .free ->
  ((names.map fun (n,k)=>if (k == NameKind.free && env.scope.kind == .function && env.kindOf n == some .cell) then (n,NameKind.cell) else (n,k)).lookup y=some .cell \/
   (names.map fun (n,k)=>if (k == NameKind.free && env.scope.kind == .function && env.kindOf n == some .cell) then (n,NameKind.cell) else (n,k)).lookup y=some .free)
 | [],h=>by simp at h
 | (n,k) :: r,h=>by
  have ih:=@FM env y r;show List.lookup y ((if (k == NameKind.free && env.scope.kind == .function && env.kindOf n == some .cell)=true then (n,NameKind.cell) else (n,k)) :: (r.map fun (n,k)=>if (k == NameKind.free && env.scope.kind == .function && env.kindOf n == some .cell) then (n,NameKind.cell) else (n,k)))=some .cell \/
   List.lookup y ((if (k == NameKind.free && env.scope.kind == .function && env.kindOf n == some .cell)=true then (n,NameKind.cell) else (n,k)) :: (r.map fun (n,k)=>if (k == NameKind.free && env.scope.kind == .function && env.kindOf n == some .cell) then (n,NameKind.cell) else (n,k)))=some .free
  rw [List.lookup_cons] at h;by_cases hb:(k == NameKind.free && env.scope.kind == .function && env.kindOf n == some .cell)=true
  ·rw [if_pos hb];simp only [List.lookup_cons];cases hy:y == n with
   | true=>exact .inl rfl
   | false=>rw [hy] at h; exact ih h
  ·rw [if_neg hb];simp only [List.lookup_cons];cases hy:y == n with
   | true=>rw [hy] at h; exact .inr h
   | false=>rw [hy] at h; exact ih h
section
variable {prog:Program} {w:World} {A:Around} {R:Result->Shared->Prop} {s:Shared}
abbrev NH (ifs:List Expr) (env:Env):Sem Bool:=forIn ifs true fun c r=>if r=true then do let ok <-isTrue c env (eval c env); pure (ForInStep.yield ok) else pure (ForInStep.yield r)
theorem Mn {elt target iter:Expr} {ifs:List Expr} {scope:Scope} {pos:Pos} {it acc:Value} {env:Env} (I:Nat->Shared->Prop)
  (turn:∀ n s,I n s->wpAny (model prog w) A (pyNext it) (fun r s₁=>match r with
   | none=>R (.ok .next) s₁
   | some v=>wpAny (model prog w) A (letOwnedTupleGo target it v) (fun _ s₀=>wpAny (model prog w) A (assign target env v) (fun _ s₂ =>
     wpAny (model prog w) A (NH ifs env) (fun ok s₃ =>
      if ok=true then wpAny (model prog w) A (eval elt env) (fun x s₄ =>
       wpAny (model prog w) A (call (.builtin "list.append") [acc,x]) (fun _ s₅=>∃ m,m < n/\I m s₅) (fun _ _=>False) s₄) (fun _ _=>False) s₃
      else ∃ m,m < n/\I m s₃) (fun _ _=>False) s₂) (fun _ _=>False) s₀) (fun _ _=>False) s₁) (fun _ _=>False) s)
  (n:Nat) (h:I n s):codeAny (model prog w) A (.compLoop (.ListComp elt [⟨target,iter,ifs,0⟩] scope pos) 0 it acc env) R s:=by
 refine codeAny_loop rfl I (fun n s hI=>?_) n h;show wpAny _ A ((compTurn (.ListComp elt [⟨target,iter,ifs,0⟩] scope pos) 0 it acc env).onRaise (fun x=>do noteFrame x env; theTreesLotGoes x)) _ _ s;refine wpAny_noted ?_;rw [compTurn_list];refine wpAny_bind (wpAny_standAt (wpAny_bind (wpAny_mono (turn n s hI) (fun r s₁ h₁=>?_) fun _ _ h'=>h'.elim)));cases r with
 | none=>exact wpAny_pure h₁
 | some v =>
  refine wpAny_bind (wpAny_mono h₁ (fun _ s₀ h₀=>?_) fun _ _ h'=>h'.elim);refine wpAny_bind (wpAny_mono h₀ (fun _ s₂ h₂=>wpAny_bind (wpAny_mono h₂ (fun ok s₃ h₃=>?_) fun _ _ h'=>h'.elim)) fun _ _ h'=>h'.elim);cases ok with
  | false=>exact wpAny_pure ⟨rfl,h₃⟩
  | true =>
   exact wpAny_bind (wpAny_bind (wpAny_mono h₃ (fun x s₄ h₄=>wpAny_bind (wpAny_mono h₄ (fun _ s₅ h₅=>wpAny_pure (wpAny_pure ⟨rfl,h₅⟩)) fun _ _ h'=>h'.elim)) fun _ _ h'=>h'.elim))
end
def EW (cs:List Nat) (σ:St):St:=cs.map fun j=>(σ[j]?).getD none
def cxC (X:Cx) (scope:Scope) (N:List Str) (s:Shared) (H:Hp) (ex:List Addr):Cx :=
 { X with N:=N,s₀:=s,H₀:=H,env:=compEnvC scope (IL X.env scope.names) s.heap.objs.size X.env,outer:=X.stack,stack:=X.stack,ex:=ex,fn:=fun _=>false,pn:=[],xe:=fun _ _=>False }
def PTs (X:Cx) (ifs:List Expr) (t:TT):Prop :=
 ∀ (pins:List (Addr×Obj)) (s:Shared) (σ:St) (H:Hp) (Q:Bool->Hp->Prop),Inv X pins σ H s->t σ H Q->wpAny (model X.prog X.w) X.A (NH ifs X.env) (TP X pins σ Q) X.xe s
def tYes:TT:=fun _ H Q=>Q true H
theorem FO {X:Cx}:PTs X [] tYes:=fun _ _ _ H _ I h=>wpAny_tests_nil ⟨H,I,h⟩
structure AV (X:Cx) (scope:Scope) (N:List Str) (k:Nat) (cs:List Nat):Prop where
 cell:∀ y ∈ scope.names,y.2≠.cell
 kind:scope.kind=.function
 names:∀ y ∈ scope.names,y.2=.local->scope.names.lookup y.1=some .local
 free:∀ y ∈ scope.names,y.2=.free->X.env.scope.names.lookup y.1=some .cell\/X.env.scope.names.lookup y.1=some .free
 len:N.length=k+cs.length
 cap:∀ j,j < cs.length->∃ x,N[k+j]?=some x/\X.N[cs.getD j 0]?=some x/\scope.names.lookup x=some .free
def FA (k:Nat) (cs:List Nat) (g:TG) (tc:TT) (te:TE) (J:It) (σ:St) (H1:Hp) (fin:List V->Hp->Prop):Prop :=
 ∃ W:Nat->Nat->List V->Hp->Prop,(∃ m,W 0 m [] H1)/\∀ i m acc H,W i m acc H ->
  (J.stop i H/\fin acc H)\/(J.go i H/\∃ Nx:List V->Hp->Prop,(∀ acc' H',Nx acc' H'->∃ m',m' < m/\W (i+1) m' acc' H')/\∀ x H',J.yld i H x H'->g x (List.replicate k none ++ EW cs σ) H' fun σ2 H2=>(∃ ts:St,ts.length=k/\σ2=ts ++ EW cs σ)/\acc.length < sizeLine /\
   tc σ2 H2 fun b H3=>if b=true then te σ2 H3 fun v H4=>Nx (acc ++ [v]) H4 else Nx acc H3)
def tComp (k:Nat) (cs:List Nat) (wi:TI) (g:TG) (tc:TT) (te:TE):TE:=fun σ H Q=>wi σ H fun J H1=>FA k cs g tc te J σ H1 fun acc H2=>∀ p,H2 p=none->Q (.ref p) (upd H2 p (.lst acc))
section
variable {X:Cx} {tg iter elt:Expr} {ifs:List Expr} {scope:Scope} {pos:Pos} {wi:TI} {g:TG} {tc:TT} {te:TE} {N:List Str} {k:Nat} {cs:List Nat}
theorem Inv.block {pins:List (Addr×Obj)} {σ:St} {H:Hp} {s s':Shared} {ex:List Addr} (S:AV X scope N k cs) (I:Inv X pins σ H s)
  (hex:∀ b ∈ ex,CY X pins H b/\∃ o,s.heap.get? b=some o) (hos:s'.os=s.os) (hg:AllBare s'.gens) (hk:∀ b o,s.heap.get? b=some o->s'.heap.get? b=some o) (hn:∃ m,s'.heap.Ns s.heap.objs.size m) :
  Inv (cxC X scope N s H ex) [] (List.replicate k none ++ EW cs σ) H s':=by
 have lk:∀ {x c},(IL X.env scope.names).lookup x=some c->X.env.cells.lookup x=some c:=fun {x c} h=>by
  rcases Gu X.env _ _ h with z | ⟨z,e⟩
  ·simp at z
  ·obtain ⟨a,ha⟩:=I.ok.has x (S.free _ z rfl);rw [e,ha]; rfl
 have nex:∀ b,b ∈ ex->b≠s.heap.objs.size:=fun b hb z=>by
  obtain ⟨_,o,ho⟩:=hex b hb;exact absurd (Heap.lt_size ho) (by rw [z]; exact Nat.lt_irrefl _)
 refine ⟨⟨I.ok.mod,S.kind,I.ok.glob,I.ok.blt,Nat.le_refl _,fun x y c h1 h2=>I.ok.inj x y c (lk h1) (lk h2),fun x hx=>?_,fun x c h _=>(nomatch h),I.ok.hd,I.ok.frames,.inl rfl,fun b hb=>⟨nex b hb,fun x c h=>?_⟩,I.bs,?_,fun b o e hb=>?_,fun b hb hf=>?_,I.stack,I.stkFree⟩,
  hos,hg,Un.kept hk,?_,fun x c h=>?_,I.hok.fresh (Nat.le_refl _),fun x c h=>I.freeC x c (lk h),fun p hp=>absurd (show p ∈ ([]:List (Addr×Obj)) from hp) (by simp),I.hok.kept hk,?_⟩
 ·exact IK X.env _ _ (Ij S.cell hx)
 ·exact (hex b hb).1.2.2.2.2.1 x c (lk h)
 ·exact Nat.le_trans I.ok.bsz I.sz
 ·rcases (hex b hb).1.2.2.2.1 with z | z
  ·exact I.ok.noex b o e z
  ·exact absurd (Nat.lt_of_lt_of_le (Heap.lt_size e) (Nat.le_trans I.ok.bsz z)) (Nat.lt_irrefl _)
 ·rcases List.mem_cons.mp (I.stkSub b hf) with z | z
  ·exact (hex b hb).1.2.1 z
  ·exact (hex b hb).1.2.2.1 z
 ·obtain ⟨m,hm⟩:=hn;obtain ⟨mo,hmo,hlo⟩:=I.loc;refine ⟨m,hm,fun i x v h1 h2 h3=>?_⟩;have hi:k<=i:=by
   by_cases z:i < k
   ·rw [List.getElem?_append_left (by simpa using z),List.getElem?_replicate,if_pos z] at h2;cases h2
   ·lia
  obtain ⟨j,rfl⟩:∃ j,i=k+j:=⟨i - k,by lia⟩
  rw [List.getElem?_append_right (by simp),List.length_replicate,Nat.add_sub_cancel_left] at h2;unfold EW at h2;rw [List.getElem?_map] at h2;have hj:j < cs.length:=by
   by_cases z:j < cs.length
   ·exact z
   ·rw [List.getElem?_eq_none (by lia)] at h2;cases h2
  obtain ⟨x',e1,e2,e3⟩:=S.cap j hj;rw [show N[k+j]?=some x from h1] at e1;cases e1;rw [List.getElem?_eq_getElem hj] at h2;have h2':(σ[cs[j]]?).getD none=some v:=Option.some.inj h2;rw [List.getD_eq_getElem?_getD,List.getElem?_eq_getElem hj] at e2;have h4:σ[cs[j]]?=some (some v):=by
   cases q:σ[cs[j]]? with
   | none=>rw [q] at h2'; cases h2'
   | some w=>rw [q] at h2'; rw [show w=some v from h2']
  have kO:=S.free (x,.free) (PySem.mem_of_lookup e3) rfl;obtain ⟨u,ru,l⟩:=hlo _ x v e2 h4 (.inr kO);refine ⟨u,ru,?_⟩;rcases l with ⟨z,_⟩ | ⟨_,c,hc',z⟩
  ·have z':X.env.scope.names.lookup x=some .local:=z;rcases kO with q | q<;>· rw [z'] at q; cases q
  ·obtain ⟨c',h5⟩:=IK X.env _ [] (PySem.mem_of_lookup e3);have h6:=lk h5;rw [hc'] at h6;cases h6;obtain ⟨o,ho,hd⟩:=z;exact .inr ⟨FM e3,c,h5,o,hk _ _ ho,hd⟩
 ·obtain ⟨v,o,ho,hd⟩:=I.cell x c (lk h);exact ⟨v,o,hk _ _ ho,hd⟩
 ·show (List.replicate k none ++ EW cs σ).length=N.length;rw [List.length_append,List.length_replicate,S.len];unfold EW;rw [List.length_map]
end
end L2
namespace L2
open PySem PySem.Spec PyProof.Rows
structure MA (C:Cx->Prop) (P:Program) (w:World) (K:PySem.W.Frag) (tg:Expr) (J:It) (fp:List Addr) (it:Addr) (tn:Nat->Heap->Prop):Prop where
 obj:∀ i h,tn i h->∀ b ∈ fp,∃ o,h.get? b=some o/\∀ v,o.data≠.cell v
 keep:∀ i h h',tn i h->(∀ b ∈ fp,∀ o,h.get? b=some o->h'.get? b=some o)->tn i h'
 item:∀ (X:Cx),C X->X.prog=P->X.w=w->X.K=K->∀ (i:Nat) (pins:List (Addr×Obj)) (s:Shared) (σ:St) (H:Hp) (E:Value->Shared->Prop),Inv X pins σ H s->(∀ b ∈ fp,CY X pins H b)->tn i s.heap->J.go i H ->
  wpAny (model P w) X.A (pyNext (.ref it)) (fun r s1=>∃ u,r=some u/\wpAny (model P w) X.A (letOwnedTupleGo tg (.ref it) u) (fun _ s2=>∃ x H',Inv X pins σ H' s2/\AR x u/\J.yld i H x H'/\tn (i+1) s2.heap/\∀ b ∈ fp,H' b=none) E s1) E s
 done:∀ (X:Cx),C X->X.prog=P->X.w=w->X.K=K->∀ (i:Nat) (pins:List (Addr×Obj)) (s:Shared) (σ:St) (H:Hp) (E:Value->Shared->Prop),Inv X pins σ H s->(∀ b ∈ fp,CY X pins H b)->tn i s.heap->J.stop i H ->
  wpAny (model P w) X.A (pyNext (.ref it)) (fun r s1=>r=none/\Inv X pins σ H s1) E s
 self:∀ (A:Around) (i:Nat) (s:Shared) (Q:Value->Shared->Prop) (E:Value->Shared->Prop),tn i s.heap->Q (.ref it) s->wpAny (model P w) A (pyIter (.ref it)) Q E s
theorem NA.q {P:Program} {w:World} {K:PySem.W.Frag} {tg:Expr} {J:It} {fp:List Addr} {it:Addr} {tn:Nat->Heap->Prop} (T:NA P w K tg J fp it tn):MA (fun X=>X.calm=true) P w K tg J fp it tn :=
 ⟨T.obj,T.keep,fun X c p w k=>T.item X p w k c,fun X c p w k=>T.done X p w k c,T.self⟩
section
variable {X:Cx} {tg iter elt:Expr} {ifs:List Expr} {scope:Scope} {pos:Pos} {wi:TI} {g:TG} {tc:TT} {te:TE} {N:List Str} {k:Nat} {cs:List Nat} {fin:List V->Hp->Prop}
theorem Pk {pins:List (Addr×Obj)} {σ:St} {H2:Hp} {sD s1:Shared} {it D:Addr} {fp:List Addr} {tn:Nat->Heap->Prop} {J:It} {n0:Nat} {RR:Result->Shared->Prop} {Cq:Cx->Prop} (hc:∀ s H ex,Cq (cxC X scope N s H ex)) (S:AV X scope N k cs)
  (hg:∀ s H ex,PG (cxC X scope N s H ex) tg g) (ht:∀ s H ex,PTs (cxC X scope N s H ex) ifs tc) (he:∀ s H ex,PE (cxC X scope N s H ex) elt te)
  (ID:Inv X pins σ H2 sD) (hD:sD.heap.get? D=some { cls:=.type "list",data:=.seq ([]:List Value).toArray n0 }) (hD0:X.s₀.heap.objs.size<=D) (fD:CY X pins H2 D) (nfp:D ∉ fp)
  (T:MA Cq X.prog X.w X.K tg J fp it tn) (st:tn 0 sD.heap) (f2:∀ b ∈ fp,CY X pins H2 b) (hb:FA k cs g tc te J σ H2 fin)
  (hos:s1.os=sD.os) (hgn:AllBare s1.gens) (hk:∀ b o,sD.heap.get? b=some o->s1.heap.get? b=some o) (hn:∃ m,s1.heap.Ns sD.heap.objs.size m)
  (hRR:∀ (H':Hp) (acc:List V) (s4:Shared),fin acc H'->H' D=none->Inv X pins σ (upd H' D (.lst acc)) s4->(∃ m,s4.heap.Ns sD.heap.objs.size m)->CY X pins (upd H' D (.lst acc)) sD.heap.objs.size->RR (.ok .next) s4) :
  codeAny (model X.prog X.w) X.A (.compLoop (.ListComp elt [⟨tg,iter,ifs,0⟩] scope pos) 0 (.ref it) (.ref D) (compEnvC scope (IL X.env scope.names) sD.heap.objs.size X.env)) RR s1:=by
 obtain ⟨W,⟨m0,w0⟩,turn⟩:=hb;have hobj:∀ b,b ∈ D :: fp->∃ o,sD.heap.get? b=some o:=fun b hb=>by
  rcases List.mem_cons.mp hb with rfl | z
  ·exact ⟨_,hD⟩
  ·obtain ⟨o,e,_⟩:=T.obj _ _ st b z;exact ⟨o,e⟩
 have hexx:∀ b ∈ D :: fp,CY X pins H2 b/\∃ o,sD.heap.get? b=some o:=fun b hb=>⟨by
  rcases List.mem_cons.mp hb with rfl | z
  ·exact fD
  ·exact f2 b z,hobj b hb⟩
 have neC:∀ b,b ∈ D :: fp->b≠sD.heap.objs.size:=fun b hb z=>by
  obtain ⟨o,e⟩:=hobj b hb;exact absurd (Heap.lt_size e) (by rw [z]; exact Nat.lt_irrefl _)
 have nfr:∀ b,b ∈ D :: fp->b ∉ frs X.stack:=fun b hb hf=>by
  rcases List.mem_cons.mp (ID.stkSub b hf) with z | z
  ·exact (hexx b hb).1.2.1 z
  ·exact (hexx b hb).1.2.2.1 z
 have I0:=ID.block S hexx hos hgn hk hn;have I0ok:=I0.ok;have cells:∀ b,b ∈ D :: fp->∀ x c,(IL X.env scope.names).lookup x=some c->c≠b:=fun b hb x c h=>(I0ok.exf b hb).2 x c h;have fpok:∀ {H':Hp} {pl:List (Addr×Obj)},(∀ b ∈ fp,H' b=none)->(∀ p ∈ pl,p.1=D)->∀ b ∈ fp,CY (cxC X scope N sD H2 (D :: fp)) pl H' b:=fun hn hp b hb =>
  ⟨hn b hb,neC b (.tail _ hb),nfr b (.tail _ hb),.inl (.tail _ hb),cells b (.tail _ hb),fun p hp' z=>nfp (by
   have:=hp p hp';rw [<-this,z]; exact hb)⟩
 refine Mn (fun n s'=>∃ (i:Nat) (acc:List V) (its:List Value) (nn:Nat) (H':Hp),Inv (cxC X scope N sD H2 (D :: fp)) [] (List.replicate k none ++ EW cs σ) H' s'/\tn i s'.heap/\(∀ b ∈ fp,H' b=none)/\H' D=none/\acc.length<=sizeLine/\AG acc its /\
  s'.heap.get? D=some { cls:=.type "list",data:=.seq its.toArray nn }/\W i n acc H') ?_ m0
  ⟨0,[],[],n0,H2,I0,T.keep _ _ _ st (fun b _ o e=>hk b o e),fun b hb=>(f2 b hb).1,fD.1,Nat.zero_le _,.nil,hk _ _ hD,w0⟩
 rintro n s3 ⟨i,acc,its,nn,H3,I3,st3,fr3,nD3,hl3,v3,e3,w3⟩;have I3p:Inv (cxC X scope N sD H2 (D :: fp)) [(D,{ cls:=.type "list",data:=.seq its.toArray nn })] (List.replicate k none ++ EW cs σ) H3 s3:=I3.pins_of fun p hp=>by
  rw [List.mem_singleton] at hp;subst hp;exact ⟨e3,nD3,neC D (.head _),nfr D (.head _),fun v z=>by cases z⟩
 have one:∀ p ∈ [((D,{ cls:=.type "list",data:=.seq its.toArray nn }):Addr×Obj)],p.1=D:=fun p hp=>by
  rw [List.mem_singleton] at hp;subst hp;rfl
 rcases turn i n acc H3 w3 with ⟨stop,qf⟩ | ⟨go,Nx,hNx,step⟩
 ·refine thn (T.done (cxC X scope N sD H2 (D :: fp)) (hc _ _ _) rfl rfl rfl i _ s3 _ H3 _ I3p (fpok fr3 one) st3 stop) fun r s4 ⟨hr,I4⟩=>?_;subst hr;have IX:Inv X pins σ H3 s4:=ID.call' (ch:=D :: fp) I4.os I4.base I4.hok I4.bare fun b hb=>⟨(hexx b hb).1.2.2.2.1,(hexx b hb).1.2.1,(hexx b hb).1.2.2.2.2.1,(hexx b hb).1.2.2.2.2.2⟩
  have p4:=(I4.pin (D,{ cls:=.type "list",data:=.seq its.toArray nn }) (by show _ ∈ [] ++ [_]; simp)).1;have IY:Inv X pins σ (upd H3 D (.lst acc)) s4:=by
   refine IX.track nD3 (Heap.get?_none_of_le hD0) (Heap.get?_none_of_le (Nat.le_trans ID.ok.bsz hD0)) (Ne.symm fD.2.1) fD.2.2.2.2.1 fD.2.2.2.2.2 (fun b hb z=>fD.2.2.1 (z ▸ hb)) ?_;exact ⟨hl3,its,nn,v3,p4⟩
  refine hRR H3 acc s4 qf nD3 IY ?_ (ID.fpOk (Nat.le_refl _) ?_)
  ·obtain ⟨m,hm,_⟩:=I4.loc;exact ⟨m,hm⟩
  ·rw [Ak (Ne.symm (neC D (.head _)))];exact I4.free
 ·refine thn (T.item (cxC X scope N sD H2 (D :: fp)) (hc _ _ _) rfl rfl rfl i _ s3 _ H3 (fun _ _=>False) I3p (fpok fr3 one) st3 go) fun r s4 ⟨u,hr,h4⟩=>?_;subst hr;refine thn h4 fun _ s5 ⟨x,H5,I5,r5,y5,st5,fr5⟩=>?_;have I5':=I5.pinned (fpok fr5 one) (T.obj _ _ st5);refine thn (hg sD H2 (D :: fp) _ s5 _ H5 x u _ I5' r5 (step x H5 y5)) fun _ s6 ⟨σ6,H6,I6,⟨ts,tl,eσ⟩,hz6,q6⟩=>?_;refine thn (ht sD H2 (D :: fp) _ s6 σ6 H6 _ I6 q6) fun b s7 ⟨H7,I7,q7⟩=>?_;have weak:∀ {pl:List (Addr×Obj)} {H':Hp} {s':Shared},Inv (cxC X scope N sD H2 (D :: fp)) pl σ6 H' s'->Inv (cxC X scope N sD H2 (D :: fp)) [] (List.replicate k none ++ EW cs σ) H' s':=fun {pl H' s'} J=>by
   refine (J.weak (σ':=List.replicate k none ++ EW cs σ) ?_ fun j v e=>?_).pins_of fun p hp=>absurd hp (by simp)
   ·rw [eσ,List.length_append,List.length_append,List.length_replicate,tl]
   ·by_cases z:j < k
    ·rw [List.getElem?_append_left (by simpa using z),List.getElem?_replicate,if_pos z] at e;cases e
    ·rw [List.getElem?_append_right (by rw [List.length_replicate]; lia),List.length_replicate] at e;rw [eσ,List.getElem?_append_right (by lia),tl];exact e
  have later:∀ {pl:List (Addr×Obj)} {σ':St} {H':Hp} {s':Shared},Inv (cxC X scope N sD H2 (D :: fp)) (pl ++ Gc fp s5.heap) σ' H' s'->tn (i+1) s'.heap/\∀ b ∈ fp,H' b=none:=fun {pl σ' H' s'} J =>
   ⟨T.keep _ _ _ st5 fun b hb o e=>(J.pin (b,o) (List.mem_append_right _ (List.mem_append_right _ (EK hb e)))).1,fun b hb=>by
    obtain ⟨o,e,_⟩:=T.obj _ _ st5 b hb;exact (J.pin (b,o) (List.mem_append_right _ (List.mem_append_right _ (EK hb e)))).2.1⟩
  cases b with
  | false =>
   have q7':Nx acc H7:=by simpa using q7
   obtain ⟨m',hm,w7⟩:=hNx _ _ q7';rw [if_neg Bool.false_ne_true];have p7:=I7.pin (D,{ cls:=.type "list",data:=.seq its.toArray nn }) (List.mem_append_right _ (List.mem_append_left _ (List.mem_singleton.mpr rfl)));exact ⟨m',hm,i+1,acc,its,nn,H7,weak I7,(later I7).1,(later I7).2,p7.2.1,hl3,v3,p7.1,w7⟩
  | true =>
   rw [if_pos rfl] at q7;rw [if_pos rfl];refine thn (he sD H2 (D :: fp) _ s7 σ6 H7 _ I7 q7) fun y s8 ⟨v,H8,I8,r8,q8⟩=>?_;obtain ⟨m',hm,w8⟩:=hNx _ _ q8;have p8:=I8.pin (D,{ cls:=.type "list",data:=.seq its.toArray nn }) (List.mem_append_right _ (List.mem_append_left _ (List.mem_singleton.mpr rfl)));have hlen:=v3.length;refine call_meets F.slot_list_append ⟨_,p8.1,rfl⟩ F.entry_list_append (F.args_list_append_2 _ _) (PySem.list_append D its.toArray nn y (by rw [List.size_toArray]; lia)) ⟨p8.1,?_⟩;have q:=PySem.IsL.update p8.1 (·.push y);have eq:its.toArray.push y=(its ++ [y]).toArray:=by simp
   dsimp only at q;rw [eq] at q;have I8':Inv (cxC X scope N sD H2 (D :: fp)) ([] ++ Gc fp s5.heap) σ6 H8 s8:=I8.pins_of fun p hp=>I8.pin p (List.mem_append_right _ (List.mem_append_right _ hp));have I9:=I8'.turned (t':=s8.toks) (it:=D) (h':=s8.heap.update D (Obj.mapSeq (·.push y))) (fun b o hb e=>(Heap.get?_update_other s8.heap (Obj.mapSeq (·.push y)) (Ne.symm hb)).trans e) p8.2.1 (neC D (.head _)) (.inl (.head _)) (cells D (.head _))
    (fun p hp z=>nfp (by
     have:=(Jp (fp:=fp) (h:=s5.heap) (p:=p) (by simpa [cxC] using hp)).1;rw [z] at this;exact this))
   refine ⟨m',hm,i+1,acc ++ [v],its ++ [y],_,H8,weak I9,(later I9).1,(later I9).2,p8.2.1,?_,v3.append (.cons r8 .nil),q,w8⟩;rw [List.length_append,List.length_singleton];lia
theorem FI {pins:List (Addr×Obj)} {σ:St} {H2:Hp} {s2:Shared} {it:Addr} {fp:List Addr} {tn:Nat->Heap->Prop} {J:It} {RR:Value->Addr->Result->Shared->Prop} {E:Value->Shared->Prop} {Cq:Cx->Prop} (hc:∀ s H ex,Cq (cxC X scope N s H ex)) (S:AV X scope N k cs)
  (hg:∀ s H ex,PG (cxC X scope N s H ex) tg g) (ht:∀ s H ex,PTs (cxC X scope N s H ex) ifs tc) (he:∀ s H ex,PE (cxC X scope N s H ex) elt te)
  (I2:Inv X pins σ H2 s2) (T:MA Cq X.prog X.w X.K tg J fp it tn) (st:tn 0 s2.heap) (f2:∀ b ∈ fp,CY X pins H2 b) (hb:FA k cs g tc te J σ H2 fin)
  (hRR:∀ (D C:Addr) (H':Hp) (acc:List V) (s4:Shared),fin acc H'->H' D=none->Inv X pins σ (upd H' D (.lst acc)) s4->(∃ m,s4.heap.Ns C m)->CY X pins (upd H' D (.lst acc)) C->RR (.ref D) C (.ok .next) s4) :
  wpAny (model X.prog X.w) X.A (newList []) (fun acc s₃=>wpAny (model X.prog X.w) X.A (newFunctionEnv scope X.env.globals (IL X.env scope.names) [] X.env.qual none .none (some X.env)) (fun cenv s₄ =>
   codeAny (model X.prog X.w) X.A (.compStart (.ListComp elt [⟨tg,iter,ifs,0⟩] scope pos) 0 (.ref it) acc { cenv with scope:=relabel scope X.env }) (RR acc cenv.locals) s₄) E s₃) E s2:=by
 refine wpAny_newObj_type (wpAny_newFunctionEnv S.cell (by intro y hy; simp at hy) (fun h₁ hns₁ hsb₁=>?_) S.kind);dsimp only at hns₁ hsb₁ ⊢;have keepD:∀ b o,s2.heap.get? b=some o->(s2.heap.push { cls:=.type "list",dict:=none,data:=.seq ([]:List Value).toArray }).get? b=some o:=fun b o e=>Heap.get?_push_of_some _ e;have ID:Inv X pins σ H2 { s2 with heap:=s2.heap.push { cls:=.type "list",dict:=none,data:=.seq ([]:List Value).toArray } }:=I2.kept (t':=s2.toks) keepD;have hD:(s2.heap.push { cls:=.type "list",dict:=none,data:=.seq ([]:List Value).toArray }).get? s2.heap.objs.size=some { cls:=.type "list",data:=.seq ([]:List Value).toArray }:=Heap.get?_push_size _ rfl;have nfp:s2.heap.objs.size ∉ fp:=fun z=>by
  obtain ⟨o,e,_⟩:=T.obj _ _ st _ z;exact absurd (Heap.lt_size e) (Nat.lt_irrefl _)
 have stD:tn 0 (s2.heap.push { cls:=.type "list",dict:=none,data:=.seq ([]:List Value).toArray }):=T.keep _ _ _ st fun b _ o e=>keepD b o e;have hk:∀ b o,(s2.heap.push { cls:=.type "list",dict:=none,data:=.seq ([]:List Value).toArray }).get? b=some o->h₁.get? b=some o:=fun b o e=>hsb₁.extBut b o (Nat.ne_of_lt (Heap.lt_size e)) (Heap.get?_push_of_some _ e);have loop:∀ s₃:Shared,s₃={ s2 with heap:=h₁,toks:=s2.toks+([]:List (Str×Value)).length } ->
   codeAny (model X.prog X.w) X.A (.compLoop (.ListComp elt [⟨tg,iter,ifs,0⟩] scope pos) 0 (.ref it) (.ref s2.heap.objs.size) (compEnvC scope (IL X.env scope.names) (s2.heap.push { cls:=.type "list",dict:=none,data:=.seq ([]:List Value).toArray }).objs.size X.env))
    (RR (.ref s2.heap.objs.size) (s2.heap.push { cls:=.type "list",dict:=none,data:=.seq ([]:List Value).toArray }).objs.size) s₃:=by
  rintro s₃ rfl;exact Pk (sD:={ s2 with heap:=s2.heap.push { cls:=.type "list",dict:=none,data:=.seq ([]:List Value).toArray } }) hc S hg ht he ID hD I2.sz (I2.fpOk (Nat.le_refl _) I2.fresh) nfp T stD f2 hb rfl I2.bare hk ⟨_,hns₁⟩ fun H' acc s4=>hRR _ _ H' acc s4
 exact codeAny_compStart_list (loop _ rfl) (T.self _ 0 _ _ _ (T.keep _ _ _ stD fun b _ o e=>hk b o e) (loop _ rfl))
theorem JU (hc:X.calm=true) (S:AV X scope N k cs) (hi:PI X tg iter wi) (hg:∀ s H ex,PG (cxC X scope N s H ex) tg g) (ht:∀ s H ex,PTs (cxC X scope N s H ex) ifs tc) (he:∀ s H ex,PE (cxC X scope N s H ex) elt te)
  (hs:∀ x,foldedSetIterable iter X.env x=pure x:=by intro _; rfl):PE X (.ListComp elt [⟨tg,iter,ifs,0⟩] scope pos) (tComp k cs wi g tc te):=by
 intro pins s σ H Q I h;rw [eval_ListComp];refine wpAny_comprehension_free (use:=none) rfl hs (EO fun y hy hf=>I.ok.has _ (S.free y hy hf)) S.kind S.names (thn (hi pins s σ H _ I h) fun v s1 h1=>thn h1 fun itv s2 h2=>?_);obtain ⟨it,fp,tn,J,H2,rfl,I2,T,st2,f2,hb⟩:=h2;refine FI (RR:=fun acc C=>compPost (model X.prog X.w) X.A X.xe none (EP X pins σ Q) acc C) (Cq:=fun X=>X.calm=true) (fun _ _ _=>hc) S hg ht he I2 T.q st2 f2 hb fun D C H' acc s4 qf nD J4 hn fC=>?_;obtain ⟨m,hm⟩:=hn;refine ⟨m,hm,fun h' sb=>⟨.ref D,upd H' D (.lst acc),?_,rfl,qf D nD⟩⟩;exact J4.turned (t':=s4.toks) (it:=C) (fun b o hb e=>(sb.2 b hb).trans e) fC.1 fC.2.1 fC.2.2.2.1 fC.2.2.2.2.1 fC.2.2.2.2.2
def Px (i k:Nat) (cs:List Nat) (wi:TI) (g:TG) (tc:TT) (te:TE):TS:=fun D σ H=>wi σ H fun J H1=>FA k cs g tc te J σ H1 fun acc H2=>∀ p,H2 p=none->D.nx (σ.set i (some (.ref p))) (upd H2 p (.lst acc))
theorem MO {i:Nat} {y:Str} {py spos:Pos} (hc:X.calm=true) (hN:X.N.Nodup) (hi':X.N[i]?=some y) (hy:X.env.scope.names.lookup y=some .local) (S:AV X scope N k cs) (hi:PI X tg iter wi)
  (hg:∀ s H ex,PG (cxC X scope N s H ex) tg g) (ht:∀ s H ex,PTs (cxC X scope N s H ex) ifs tc) (he:∀ s H ex,PE (cxC X scope N s H ex) elt te)
  (hsw:swapsWith (.ListComp elt [⟨tg,iter,ifs,0⟩] scope pos) (some (.Name y py)) spos.line X.env=pure true:=by rfl) (hs:∀ x,foldedSetIterable iter X.env x=pure x:=by intro _; rfl) :
  PS X (.Assign [.Name y py] (.ListComp elt [⟨tg,iter,ifs,0⟩] scope pos) spos) (Px i k cs wi g tc te):=by
 intro pins s σ H D I h;rw [exec_Assign_Name_used _ _ _ _ hsw];refine wpAny_bind (wpAny_standAt (wpAny_bind ?_));show wpAny _ X.A (do let _ <-comprehension (.ListComp elt [⟨tg,iter,ifs,0⟩] scope pos) scope X.env _ (newList []) false (eval iter X.env) (some (assign (.Name y py) X.env))) _ _ s;refine wpAny_bind (wpAny_mono (wpAny_comprehension_free (use:=some (assign (.Name y py) X.env)) (Q:=fun _ s'=>SP X pins D .next s') rfl hs (EO fun y hy hf=>I.ok.has _ (S.free y hy hf)) S.kind S.names
  (thn (hi pins s σ H _ I h) fun v s1 h1=>thn h1 fun itv s2 h2=>?_)) (fun _ s' hq=>wpAny_pure (wpAny_pure hq)) fun _ _ e=>e)
 obtain ⟨it,fp,tn,J,H2,rfl,I2,T,st2,f2,hb⟩:=h2;refine FI (RR:=fun acc C=>compPost (model X.prog X.w) X.A X.xe (some (assign (.Name y py) X.env)) (fun _ s'=>SP X pins D .next s') acc C) (Cq:=fun X=>X.calm=true) (fun _ _ _=>hc) S hg ht he I2 T.q st2 f2 hb fun L C H' acc s4 qf nD J4 hn fC=>?_;obtain ⟨m,hm⟩:=hn;show wpAny _ X.A (assign (.Name y py) X.env (.ref L)) _ _ _;refine wpAny_assign_Name (Jj J4 hN hi' (.inl hy) (v:=.ref L) rfl (fun s5 J5 hsb=>?_) (.inr hy));obtain ⟨a,sb,ha⟩:=hsb;have nCa:C≠a:=by
  rcases ha with z | z
  ·rw [z]; exact fC.2.1
  ·exact fun q=>fC.2.2.2.2.1 y a z q.symm
 refine ⟨m,hm.sameBut sb nCa,fun h' sb'=>⟨σ.set i (some (.ref L)),upd H' L (.lst acc),?_,qf L nD⟩⟩;exact J5.turned (t':=s5.toks) (it:=C) (fun b o hb e=>(sb'.2 b hb).trans e) fC.1 fC.2.1 fC.2.2.2.1 fC.2.2.2.2.1 fC.2.2.2.2.2
end
section
variable {K:PySem.W.Frag} {k:Nat} {cs:List Nat} {g:TG} {tc:TT} {te:TE} {σ:St} {H:Hp} {fin:List V->Hp->Prop}
abbrev Bt (k:Nat) (cs:List Nat) (g:TG) (tc:TT) (te:TE) (σ:St) (x:V) (acc:List V) (H:Hp) (Nx:List V->Hp->Prop):Prop :=
 g x (List.replicate k none ++ EW cs σ) H fun σ2 H2=>(∃ ts:St,ts.length=k/\σ2=ts ++ EW cs σ)/\acc.length < sizeLine/\tc σ2 H2 fun b H3=>if b=true then te σ2 H3 fun v H4=>Nx (acc ++ [v]) H4 else Nx acc H3
theorem Mr {a:Addr} {xs:List V} (Pv:Nat->List V->Hp->Prop) (h0:Pv 0 [] H) (hl:∀ i acc H,i<=xs.length->Pv i acc H->SqL K H a xs)
  (hs:∀ i x acc H,xs[i]?=some x->Pv i acc H->Bt k cs g tc te σ x acc H (Pv (i+1))) (hd:∀ acc H,Pv xs.length acc H->fin acc H):FA k cs g tc te (Itl K a) σ H fin:=by
 refine ⟨fun i m acc H=>m=xs.length - i/\i<=xs.length/\Pv i acc H,⟨xs.length,by simp,Nat.zero_le _,h0⟩,?_⟩;rintro i m acc H ⟨rfl,hi,p⟩;have q:=hl i acc H hi p;by_cases hlt:i < xs.length
 ·refine .inr ⟨⟨xs,xs[i],q,by simp [hlt]⟩,Pv (i+1),fun acc' H' p'=>⟨xs.length - (i+1),by lia,rfl,hlt,p'⟩,fun x H' y=>?_⟩;obtain ⟨e,y⟩:=y;subst e;exact hs i x acc _ (y xs q) p
 ·have e:i=xs.length:=by lia
  subst e;exact .inl ⟨⟨xs,q,Nat.le_refl _⟩,hd acc H p⟩
theorem Op {a:Addr} {xs:List V} (Pv:Nat->List V->Hp->Prop) (h0:Pv 0 [] H) (hl:∀ i acc H,i<=xs.length->Pv i acc H->SqT K H a xs)
  (hs:∀ i x acc H,xs[i]?=some x->Pv i acc H->Bt k cs g tc te σ x acc H (Pv (i+1))) (hd:∀ acc H,Pv xs.length acc H->fin acc H):FA k cs g tc te (Itt K a) σ H fin:=by
 refine ⟨fun i m acc H=>m=xs.length - i/\i<=xs.length/\Pv i acc H,⟨xs.length,by simp,Nat.zero_le _,h0⟩,?_⟩;rintro i m acc H ⟨rfl,hi,p⟩;have q:=hl i acc H hi p;by_cases hlt:i < xs.length
 ·refine .inr ⟨⟨xs,xs[i],q,by simp [hlt]⟩,Pv (i+1),fun acc' H' p'=>⟨xs.length - (i+1),by lia,rfl,hlt,p'⟩,fun x H' y=>?_⟩;obtain ⟨e,y⟩:=y;subst e;exact hs i x acc _ (y xs q) p
 ·have e:i=xs.length:=by lia
  subst e;exact .inl ⟨⟨xs,q,Nat.le_refl _⟩,hd acc H p⟩
end
end L2
namespace L2
open PySem PySem.Spec PyProof.Rows
section
variable {prog:Program} {w:World} {A:Around} {E:Value->Shared->Prop} {s:Shared}
theorem FR {I t:Addr} {k:Nat} {vs:Array Value} {v:Value} {Q:Value->Shared->Prop} (hI:s.heap.IsTupleIter I t k) (hV:s.heap.IsTuple t vs) (hv:vs[k]?=some v)
  (q:∀ g,g.IsTupleIter I t (k+1)->Heap.SameBut I s.heap g->Q v { s with heap:=g }):wpAny (model prog w) A (Builtin.SmallTypes.nextOf (.ref I)) Q E s:=by
 obtain ⟨oI,eI,cI,dI⟩:=id hI;obtain ⟨oV,eV,_,nV,dV⟩:=hV;unfold Builtin.SmallTypes.nextOf;refine wpAny_bind (wpAny_callSpecial?_slot (name:=Str.ofString "__next__") hI.typeIs F.slot_tuple_iterator_next (wpAny_call_entry F.slot_tuple_iterator_next hI.typeIs F.entry_tuple_iterator_next ?_ (F.args_tuple_iterator_next_1 _)));show wpAny _ _ (field (.ref I) 0 >>= _) _ _ s;refine wpAny_bind (wpAny_field eI dI (x:=.ref t) rfl ?_);show wpAny _ _ (if (Value.ref t == Value.none)=true then _ else _) _ _ s;rw [if_neg (fun z:(Value.ref t == Value.none)=true=>Bool.false_ne_true z)];show wpAny _ _ (field (.ref I) 1 >>= _) _ _ s;refine wpAny_bind (wpAny_field eI dI (x:=.int k 0) rfl ?_);show wpAny _ _ (seqItems? (.ref t) >>= _) _ _ s;refine wpAny_bind (wpAny_seqItems eV dV ?_);simp only [Int.toNat_natCast,hv];refine wpAny_bind (wpAny_setField eI dI (by simp) (wpAny_pure ⟨v,rfl,wpAny_pure (q _ ?_ (Heap.SameBut.update ..))⟩));exact ⟨_,Heap.get?_update_self _ eI (Obj.isFreed_of_fields (Obj.data_mapFields dI _)),(Obj.cls_mapFields ..).trans cI,by rw [Obj.data_mapFields dI]; simp [rawInt]⟩
theorem Ge {I t:Addr} {k:Nat} {vs:Array Value} {Q:Value->Shared->Prop} (hA:A.handled=none) (hI:s.heap.IsTupleIter I t k) (hV:s.heap.IsTuple t vs) (hv:vs[k]?=none)
  (q:∀ g e,Heap.ExtBut I s.heap g->(∃ o,g.get? e=some o/\o.cls=.type "StopIteration")->E (.ref e) { s with heap:=g }):wpAny (model prog w) A (Builtin.SmallTypes.nextOf (.ref I)) Q E s:=by
 obtain ⟨oI,eI,cI,dI⟩:=id hI;obtain ⟨oV,eV,_,nV,dV⟩:=hV;unfold Builtin.SmallTypes.nextOf;refine wpAny_bind (wpAny_callSpecial?_slot (name:=Str.ofString "__next__") hI.typeIs F.slot_tuple_iterator_next (wpAny_call_entry F.slot_tuple_iterator_next hI.typeIs F.entry_tuple_iterator_next ?_ (F.args_tuple_iterator_next_1 _)));show wpAny _ _ (field (.ref I) 0 >>= _) _ _ s;refine wpAny_bind (wpAny_field eI dI (x:=.ref t) rfl ?_);show wpAny _ _ (if (Value.ref t == Value.none)=true then _ else _) _ _ s;rw [if_neg (fun z:(Value.ref t == Value.none)=true=>Bool.false_ne_true z)];show wpAny _ _ (field (.ref I) 1 >>= _) _ _ s;refine wpAny_bind (wpAny_field eI dI (x:=.int k 0) rfl ?_);show wpAny _ _ (seqItems? (.ref t) >>= _) _ _ s;refine wpAny_bind (wpAny_seqItems eV dV ?_);simp only [Int.toNat_natCast,hv];refine wpAny_bind (wpAny_rule (wpAny_bind (wpAny_setField eI dI (by simp) ?_)));show wpAny _ _ (newExc (.type "StopIteration") [] >>= _) _ _ _;refine wpAny_bind ?_;simp only [newExc,newTuple];refine wpAny_bind (wpAny_newObj_type ?_ (by size_fits));refine wpAny_bind (m:=firstArgMember _ _) (wpAny_of_eq (a:=Value.none) (by first | rfl | (simp only [firstArgMember]; rfl)) (wpAny_newObj_type ?_ (by size_fits)));simp only [raiseNew];refine wpAny_bind (wpAny_handled ?_)
 first | rw [show A.in1.handled=none from hA] | rw [hA]
 refine wpAny_bind (wpAny_pure (wpAny_throw (q _ _ (((Heap.SameBut.update ..).extBut.push _).push _) ⟨_,Heap.get?_push_size _ rfl,rfl⟩)))
def Ey:Bool->Heap->Addr->Addr->Nat->Prop
 | true,h,I,l,k=>h.IsTupleIter I l k
 | false,h,I,l,k=>h.IsListIter I l k
def Ex:Bool->Heap->Addr->Array Value->Prop
 | true,h,l,vs=>h.IsTuple l vs
 | false,h,l,vs=>h.IsList l vs
def SqX (K:PySem.W.Frag):Bool->Hp->Addr->List V->Prop
 | true,H,a,xs=>SqT K H a xs
 | false,H,a,xs=>SqL K H a xs
theorem Ey.move {b:Bool} {h g:Heap} {I l:Addr} {k:Nat} (x:Ey b h I l k) (e:∀ o,h.get? I=some o->g.get? I=some o):Ey b g I l k:=by
 cases b with
 | true=>obtain ⟨o,ho,r⟩:=x; exact ⟨o,e _ ho,r⟩
 | false=>obtain ⟨o,ho,r⟩:=x; exact ⟨o,e _ ho,r⟩
theorem Ey.there {b:Bool} {h:Heap} {I l:Addr} {k:Nat} (x:Ey b h I l k):∃ o,h.get? I=some o/\∀ v,o.data≠.cell v:=by
 cases b with
 | true=>obtain ⟨o,ho,_,d⟩:=x; exact ⟨o,ho,fun v z=>by rw [d] at z; cases z⟩
 | false=>obtain ⟨o,ho,_,d⟩:=x; exact ⟨o,ho,fun v z=>by rw [d] at z; cases z⟩
theorem Ex.move {b:Bool} {h g:Heap} {l:Addr} {vs:Array Value} (x:Ex b h l vs) (e:∀ o,h.get? l=some o->g.get? l=some o):Ex b g l vs:=by
 cases b with
 | true=>obtain ⟨o,ho,r⟩:=x; exact ⟨o,e _ ho,r⟩
 | false=>obtain ⟨o,ho,r⟩:=x; exact ⟨o,e _ ho,r⟩
theorem GO {b:Bool} {I l:Addr} {k:Nat} {vs:Array Value} {v:Value} {Q:Value->Shared->Prop} (hI:Ey b s.heap I l k) (hV:Ex b s.heap l vs) (hv:vs[k]?=some v)
  (q:∀ g,Ey b g I l (k+1)->Heap.SameBut I s.heap g->Q v { s with heap:=g }):wpAny (model prog w) A (Builtin.SmallTypes.nextOf (.ref I)) Q E s:=by
 cases b with
 | true=>exact FR hI hV hv q
 | false=>exact wpAny_nextOf_list_item hI hV hv q
theorem Iv {b:Bool} {I l:Addr} {k:Nat} {vs:Array Value} {Q:Value->Shared->Prop} (hA:A.handled=none) (hI:Ey b s.heap I l k) (hV:Ex b s.heap l vs) (hv:vs[k]?=none)
  (q:∀ g e,Heap.ExtBut I s.heap g->(∃ o,g.get? e=some o/\o.cls=.type "StopIteration")->E (.ref e) { s with heap:=g }):wpAny (model prog w) A (Builtin.SmallTypes.nextOf (.ref I)) Q E s:=by
 cases b with
 | true=>exact Ge hA hI hV hv q
 | false=>exact wpAny_nextOf_list_end hA hI hV hv q
theorem FE {b:Bool} {l:Addr} {vs:Array Value} {Q:Value->Shared->Prop} (hV:Ex b s.heap l vs)
  (q:∀ g,Ey b g s.heap.objs.size l 0->g.objs.size=s.heap.objs.size+1->(∀ c o,s.heap.get? c=some o->g.get? c=some o)->Q (.ref s.heap.objs.size) { s with heap:=g }):wpAny (model prog w) A (pyIter (.ref l)) Q E s:=by
 cases b with
 | true=>exact wpAny_pyIter_tuple hV (q _ ⟨_,Heap.get?_push_size _ rfl,rfl,rfl⟩ (Heap.size_push ..) fun c o e=>Heap.get?_push_of_some _ e)
 | false=>exact wpAny_pyIter_list hV (q _ ⟨_,Heap.get?_push_size _ rfl,rfl,rfl⟩ (Heap.size_push ..) fun c o e=>Heap.get?_push_of_some _ e)
theorem Inv.turnedL {X:Cx} {pins:List (Addr×Obj)} {σ:St} {H:Hp} {s:Shared} {g:Heap} {tk:Nat} {ch:List Addr} (I:Inv X pins σ H s) (k:∀ b o,b ∉ ch->s.heap.get? b=some o->g.get? b=some o) (hch:∀ b ∈ ch,CY X pins H b):Inv X pins σ H { s with heap:=g,toks:=tk }:=by
 have nch:∀ b u,H b=some u->b ∉ ch:=fun b u e z=>by rw [(hch b z).1] at e; cases e
 refine I.step (g':=s.gens) (d':=s.drawn) (ch:=ch) (fun b hb=>⟨(hch b hb).2.2.2.1,(hch b hb).2.1,(hch b hb).2.2.2.2.1,(hch b hb).2.2.2.2.2⟩) (fun b o _ _ hc e _=>k b o hc e) (fun b o _ _ hc e _=>⟨o.slots,k b o hc e⟩) (fun _ _ _ _ n=>n)
  (fun b o hc e=>⟨o,k b o hc e⟩) (fun _ _ e=>e) (fun _ _ _ e=>e) (fun b ps e=>⟨#[],by rw [e]; simp⟩) (fun m hm=>?_) (fun b u e=>?_) I.bare
 ·obtain ⟨o,es,ep,ho,r⟩:=hm;exact ⟨o,es,ep,k _ o (fun z=>(hch _ z).2.1 rfl) ho,r⟩
 ·refine (I.hok b u e).stay (fun c v hc q=>k c v ?_ q) (fun _ q=>q) fun _ _ q=>q;rcases hc with z | z
  ·rw [z]; exact nch b u e
  ·exact nch c _ z
theorem Inv.pair {X:Cx} {pins:List (Addr×Obj)} {σ:St} {H:Hp} {s:Shared} {g:Heap} {tk n:Nat} {ch:List Addr} {x y:V} {u v:Value} (I:Inv X pins σ H s) (k:∀ b o,b ∉ ch->s.heap.get? b=some o->g.get? b=some o) (hch:∀ b ∈ ch,CY X pins H b)
  (rx:AR x u) (ry:AR y v) (e:g.get? s.heap.objs.size=some { cls:=.type "tuple",data:=.seq #[u,v] n }):H s.heap.objs.size=none/\Inv X pins σ (upd H s.heap.objs.size (.tup [x,y])) { s with heap:=g,toks:=tk }:=by
 have f:=I.fpOk (Nat.le_refl _) I.fresh;refine ⟨f.1,(I.turnedL (tk:=tk) k hch).track f.1 (Heap.get?_none_of_le I.sz) (Heap.get?_none_of_le (Nat.le_trans I.ok.bsz I.sz)) (Ne.symm f.2.1) f.2.2.2.2.1 f.2.2.2.2.2 (fun b hb z=>f.2.2.1 (z ▸ hb)) ?_⟩;exact ⟨by show 2<=sizeLine; decide,[u,v],.cons rx (.cons ry .nil),_,e,rfl,n,rfl⟩
theorem Inv.sq {X:Cx} {pins:List (Addr×Obj)} {σ:St} {H:Hp} {s:Shared} {b:Bool} {a:Addr} {xs:List V} (I:Inv X pins σ H s) (h:SqX X.K b H a xs):∃ its:List Value,AG xs its/\Ex b s.heap a its.toArray:=by
 cases b with
 | true =>
  obtain ⟨its,r,p,_⟩:=I.tuple h;exact ⟨its,r,p⟩
 | false =>
  obtain ⟨its,r,p,_⟩:=I.list h;exact ⟨its,r,p.isList⟩
theorem Inv.sq_inj {X:Cx} {pins:List (Addr×Obj)} {σ:St} {H:Hp} {s:Shared} {b:Bool} {a:Addr} {xs ys:List V} (I:Inv X pins σ H s) (h:SqX X.K b H a xs) (h':SqX X.K b H a ys):xs=ys:=by
 cases b with
 | true=>exact I.tuple_inj h h'
 | false=>exact I.list_inj h h'
end
end L2
namespace L2
open PySem PySem.Spec PyProof.Rows
theorem Ex.obj {b:Bool} {h:Heap} {l:Addr} {vs:Array Value} (x:Ex b h l vs):∃ o,h.get? l=some o:=by
 cases b with
 | true=>obtain ⟨o,e,_⟩:=x; exact ⟨o,e⟩
 | false=>obtain ⟨o,e,_⟩:=x; exact ⟨o,e⟩
theorem Pi (g1:Heap) (n:Nat) (e1:g1.objs.size=n+1):∃ g2,g2=g1.push { cls:=.type "enumerate",data:=.fields #[.none,.bool false,.ref n,rawInt 0,.none,.none] }/\IsEnum g2 (n+1) n 0 .none/\∀ a o,g1.get? a=some o->g2.get? a=some o:=by
 refine ⟨_,rfl,?_,fun a o e=>Heap.get?_push_of_some _ e⟩;have q:=Heap.get?_push_size g1 (o:={ cls:=.type "enumerate",data:=.fields #[.none,.bool false,.ref n,rawInt 0,.none,.none] }) rfl;rw [e1] at q;exact q
set_option maxHeartbeats 1000000 in
theorem Nc {b:Bool} (l:Addr) (xs:Array Value):Meets (Builtin.«enumerate.__new__» ⟨[.type "enumerate",.ref l],[]⟩) (fun _ R s=>Ex b s.heap l xs /\
   ∀ g,IsEnum g (s.heap.objs.size+1) s.heap.objs.size 0 .none->Ey b g s.heap.objs.size l 0->(∀ a o,s.heap.get? a=some o->g.get? a=some o)->R (.ok (.ret (.ref (s.heap.objs.size+1)))) { s with heap:=g }) :=
 .of_wp fun prog w A R s h=>by
  obtain ⟨hp,g,d,tk,os⟩:=s;obtain ⟨hl,h⟩:=h;obtain ⟨ol,eol⟩:=hl.obj;have hsub:=sub_enumerate;have fin:∀ g1,Ey b g1 hp.objs.size l 0->g1.objs.size=hp.objs.size+1->(∀ c o,hp.get? c=some o->g1.get? c=some o)->∃ v,Fin.done (Flow.ret (.ref g1.objs.size))=Fin.done (Flow.ret v)/\R (.ok (.ret v)) ⟨g1.push { cls:=.type "enumerate",data:=.fields #[.none,.bool false,.ref hp.objs.size,rawInt 0,.none,.none] },g,d,tk,os⟩:=fun g1 i1 z1 k1=>by
   obtain ⟨g2,e2,a1,k2⟩:=Pi g1 hp.objs.size z1;refine ⟨_,rfl,?_⟩;have key:=h g2 a1 (i1.move fun o e=>k2 _ o e) fun a o e=>k2 _ _ (k1 _ _ e);dsimp only at key;rw [e2,<-z1] at key;exact key
  wp_walk using AutoSeq1.wpAny_loadPart' eol
  refine wpAny_stack_any fun st=>wpAny_pure ?_;split
  ·rename_i c' _ _ _ _ _;cases (c' == Value.type "enumerate")
   ·wp_walk using AutoSeq1.wpAny_loadPart' eol,FE hl
    intro g1 i1 z1 k1
    wp_walk
    exact fin g1 i1 z1 k1
   ·wp_walk using AutoSeq1.wpAny_loadPart' eol,FE hl
    intro g1 i1 z1 k1
    wp_walk
    exact fin g1 i1 z1 k1
  ·wp_walk using AutoSeq1.wpAny_loadPart' eol,FE hl
   intro g1 i1 z1 k1
   wp_walk
   exact fin g1 i1 z1 k1
theorem Jy {prog:Program} {w:World} {A:Around} {b:Bool} (hA:A.handled=none) (I l:Addr) (ne:l≠I) (vs:Array Value) :
  Draws prog w A I [I,l] vs.size (fun k v=>vs[k]?=some v) (fun k h=>Ey b h I l k/\Ex b h l vs) where
 live:=fun _ _ st=>let ⟨o,ho,_⟩:=st.1.there; ⟨o,ho⟩
 frame:=fun _ _ _ st hk=>⟨st.1.move fun o e=>hk I (by simp) o e,st.2.move fun o e=>hk l (by simp) o e⟩
 item:=fun k s Q E hi st hQ=>GO st.1 st.2 (v:=vs[k]) (by simp [hi]) fun g hI sb=>hQ _ g s.toks (by simp [hi]) ⟨hI,st.2.move fun o e=>(sb.2 l ne).trans e⟩ sb
 done:=fun s Q E st hE=>Iv hA st.1 st.2 (by simp) hE
def Ite (K:PySem.W.Frag) (b:Bool) (l:Addr):It :=
 ⟨fun i H=>∃ xs x,SqX K b H l xs/\xs[i]?=some x,
  fun i H v H'=>∃ (T:Addr) (x:V),v=.ref T/\H T=none/\H'=upd H T (.tup [.int i,x])/\∀ xs,SqX K b H l xs->xs[i]?=some x,
  fun i H=>∃ xs,SqX K b H l xs/\xs.length=i⟩
theorem OD {P:Program} {w:World} {K:PySem.W.Frag} {es:List Expr} {n:Nat} {tpos:Pos} {b:Bool} {e I l:Addr} (eI:e≠I) (le:l≠e) (lI:l≠I) :
  NA P w K (.Tuple es n tpos) (Ite K b l) [e,I] e (fun k h=>(∃ old,IsEnum h e I k old)/\Ey b h I l k) where
 mem:=by simp
 obj:=fun k h st a ha=>by
  obtain ⟨⟨old,he⟩,hI⟩:=st;simp only [List.mem_cons,List.not_mem_nil,or_false] at ha;rcases ha with rfl | rfl
  ·exact ⟨_,he,fun v t=>by cases t⟩
  ·exact hI.there
 keep:=fun k h h' st kp=>by
  obtain ⟨⟨old,he⟩,hI⟩:=st;exact ⟨⟨old,kp e (by simp) _ he⟩,hI.move fun o t=>kp I (by simp) o t⟩
 item:=by
  intro X hP hw hK hc k pins s σ H E J hf st hg;subst hP hw hK;obtain ⟨⟨old,he⟩,hI⟩:=st;obtain ⟨xs,x,sx,hx⟩:=hg;obtain ⟨us,ru,ou⟩:=J.sq sx;have lu:=ru.length;have hk:k < xs.length:=(List.getElem?_eq_some_iff.mp hx).1;refine wpAny_pyNext_enum_itemD (Jy (b:=b) (A:=X.A.in1) (J.ok.hd hc) I l lI us.toArray) he ⟨hI,ou⟩ (by simp; lia) eI (by simp [eI,Ne.symm le]) fun u g tk hu gE gS gT gs gk=>⟨_,rfl,?_⟩
  obtain ⟨u',hu',rxu⟩:=ru.get hx;have eu:u=u':=by
   have:us[k]?=some u:=by simpa using hu
   rw [hu'] at this;exact (Option.some.inj this).symm
  subst eu;refine wpAny_letOwnedTupleGo_enum (s:={ s with heap:=g,toks:=tk+1 }) gE fun g2 gE2 sb=>?_;have elt:e < s.heap.objs.size:=Heap.lt_size he;have kk:∀ a o,a ∉ [e,I]->s.heap.get? a=some o->g2.get? a=some o:=fun a o ha t=>(sb.2 a (fun z=>ha (by simp [z]))).trans (gk a o (fun z=>ha (by simp [z])) (fun z=>ha (by simp [z])) t);obtain ⟨nT,J2⟩:=J.pair (tk:=tk+1) (x:=.int k) (u:=.int k tk) kk hf ⟨tk,rfl⟩ rxu ((sb.2 _ (Nat.ne_of_gt elt)).trans gT);refine ⟨.ref s.heap.objs.size,_,J2,rfl,⟨_,x,rfl,nT,rfl,fun xs' q'=>by rw [J.sq_inj q' sx]; exact hx⟩,⟨⟨_,by simpa using gE2⟩,gS.1.move fun o t=>(sb.2 I (Ne.symm eI)).trans t⟩,fun a ha=>?_⟩;have t:=(hf a ha).1;have lt:a≠s.heap.objs.size:=by
   simp only [List.mem_cons,List.not_mem_nil,or_false] at ha;rcases ha with z | z<;>subst z
   ·exact Nat.ne_of_lt elt
   ·obtain ⟨o,t,_⟩:=hI.there; exact Nat.ne_of_lt (Heap.lt_size t)
  rw [Ak lt];exact t
 done:=by
  intro X hP hw hK hc k pins s σ H E J hf st hg;subst hP hw hK;obtain ⟨⟨old,he⟩,hI⟩:=st;obtain ⟨xs,sx,hend⟩:=hg;obtain ⟨us,ru,ou⟩:=J.sq sx;have lu:=ru.length;have ek:k=us.toArray.size:=by simp; lia
  refine wpAny_pyNext_enum_endD (Jy (b:=b) (A:=X.A.in1) (J.ok.hd hc) I l lI us.toArray) he ⟨ek ▸ hI,ou⟩ fun g gk=>⟨rfl,?_⟩
  exact J.turnedL (tk:=s.toks) (ch:=[e,I]) (fun a o ha t=>gk a o (fun z=>ha (by simp [z])) t) hf
 self:=fun A i s Q E st h=>by
  obtain ⟨⟨old,he⟩,_⟩:=st;exact wpAny_pyIter_enum he h
section
variable {X:Cx} {es:List Expr} {n:Nat} {tpos p pos:Pos} {e1 e2:Expr} {t:TA}
theorem Ex.lt {b:Bool} {h:Heap} {l:Addr} {vs:Array Value} (x:Ex b h l vs):l < h.objs.size:=by
 cases b with
 | true=>obtain ⟨o,e,_⟩:=x; exact Heap.lt_size e
 | false=>obtain ⟨o,e,_⟩:=x; exact Heap.lt_size e
def iEnum (b:Bool) (K:PySem.W.Frag) (t:TA):TI:=fun σ H R=>t σ H fun vs H1=>∃ (l:Addr),vs=[.ref l]/\(∃ xs,SqX K b H1 l xs)/\R (Ite K b l) H1
theorem JS (b:Bool) (hg:Gl X "enumerate") (hm:X.mg "enumerate" = none) (ha:PA X [e1] t) (hs:starEach [e1] X.env=[(false,eval e1 X.env)]:=by rfl) :
  PI X (.Tuple es n tpos) (.Call (.Name "enumerate" p) [e1] [] pos) (iEnum b X.K t):=by
 intro pins s σ H R I h;refine Call_ (Fb I hg hm PyProof.Rows.boot_enumerate (PyProof.Rows.callWith_type1 (thn (ha pos pins s σ H _ I h) fun us s1 ⟨vs,H1,I1,r1,q1⟩=>?_) hs rfl));obtain ⟨l,rfl,⟨xs,sx⟩,q⟩:=q1;obtain ⟨u,rfl,ru⟩:=r1.one;cases (show u=Value.ref l from ru);obtain ⟨ul,_,ol⟩:=I1.sq sx;refine callType_new F.called_enumerate (by decide) (F.typeCall_enumerate_1 _) (F.newCall_enumerate_1 _) (fun obj=>F.args_object_init_2 obj _) F.entry_enumerate_new (Nc (b:=b) l ul.toArray) ⟨ol,fun g gE gi gk=>?_⟩;refine ⟨⟨_,gE,rfl⟩,wpAny_pyIter_enum (s:={ s1 with heap:=g }) gE ?_⟩;have ll:=ol.lt;refine ⟨s1.heap.objs.size+1,_,_,_,H1,rfl,I1.kept (t':=s1.toks) gk,OD (e:=s1.heap.objs.size+1) (I:=s1.heap.objs.size) (l:=l) (Nat.succ_ne_self _) (Nat.ne_of_lt (Nat.lt_succ_of_lt ll)) (Nat.ne_of_lt ll),⟨⟨_,gE⟩,gi⟩,fun a ha=>?_,q⟩;have le:s1.heap.objs.size<=a:=by
  simp only [List.mem_cons,List.not_mem_nil,or_false] at ha;rcases ha with t | t<;>rw [t]<;>first | exact Nat.le_refl _ | exact Nat.le_add_right _ _
 exact I1.fpOk le (I1.hok.fresh le)
end
section
variable {K:PySem.W.Frag} {b c:Bool} {l m:Addr} {xs ys:List V} {σ:St} {H:Hp}
theorem IF {K:PySem.W.Frag} {i j:Nat} {T:Addr} {x y:V} {σ:St} {H:Hp} {Q:St->Hp->Prop} (h:H T=some (.tup [x,y])) (q:Q ((σ.set i (some x)).set j (some y)) H):gTup K 2 (FX (Fd i) (FX (Fd j) gNil)) (.ref T) σ H Q :=
 ⟨T,_,rfl,SqT.of h,rfl,x,_,rfl,y,_,rfl,rfl,q⟩
theorem IH {g:TG} {tb:TS} {D:GT} (Pv:Nat->St->Hp->Prop) (h0:Pv 0 σ H) (hl:∀ i σ H,i<=xs.length->Pv i σ H->SqX K b H l xs)
  (hs:∀ i x σ H T,xs[i]?=some x->Pv i σ H->H T=none->g (.ref T) σ (upd H T (.tup [.int i,x])) fun σ2 H2=>tb { D with nx:=Pv (i+1),ct:=Pv (i+1),bk:=D.nx } σ2 H2) (hd:∀ σ H,Pv xs.length σ H->D.nx σ H) :
  ∃ W:Nat->Nat->St->Hp->Prop,(∃ m,W 0 m σ H)/\∀ i m σ H,W i m σ H ->
   ((Ite K b l).stop i H/\D.nx σ H)\/((Ite K b l).go i H/\∃ N:St->Hp->Prop,(∀ σ' H',N σ' H'->∃ m',m' < m/\W (i+1) m' σ' H')/\∀ x H',(Ite K b l).yld i H x H'->g x σ H' fun σ2 H2=>tb { D with nx:=N,ct:=N,bk:=D.nx } σ2 H2):=by
 refine ⟨fun i m σ H=>m=xs.length - i/\i<=xs.length/\Pv i σ H,⟨xs.length,by simp,Nat.zero_le _,h0⟩,?_⟩;rintro i m σ H ⟨rfl,hi,p⟩;have q:=hl i σ H hi p;by_cases hlt:i < xs.length
 ·refine .inr ⟨⟨xs,xs[i],q,by simp [hlt]⟩,Pv (i+1),fun σ' H' p'=>⟨xs.length - (i+1),by lia,rfl,hlt,p'⟩,fun x H' y=>?_⟩;obtain ⟨T,z,rfl,nT,rfl,hz⟩:=y;exact hs i z σ _ T (hz xs q) p nT
 ·have e:i=xs.length:=by lia
  subst e;exact .inl ⟨⟨xs,q,rfl⟩,hd σ H p⟩
variable {k:Nat} {cs:List Nat} {g:TG} {tc:TT} {te:TE} {fin:List V->Hp->Prop}
end
end L2
namespace L2
open PySem PySem.Spec PyProof.Rows
theorem rm {a b:Nat} {A:Around} (h:BG b A) (hle:a<=b:=by first | decide | lia):BG a A:=h.mono hle
structure Cal (P:Program) (w:World) (K:PySem.W.Frag) (mg:Str->Option Value) (base:Heap) (CX:CXT) (k:Nat) (x:Str) (ps:List Str) (sp:Sp):Prop where
 ex:∃ (f:Addr) (fd:FuncData),AW P w K mg base CX k f fd ps sp/\mg x=some (.ref f)/\PySem.W.keepIn K (.ref f)=true/\Do K fd ps []
structure Ch (P:Program) (w:World) (K:PySem.W.Frag) (mg:Str->Option Value) (base:Heap) (CX:CXT) (k:Nat) (C:Addr) (m:Str) (ps:List Str) (sp:Sp):Prop where
 ex:∃ (f:Addr) (fd:FuncData),AW P w K mg base CX k f fd ps sp/\GB K C m f/\Do K fd ps []
 cl:Cls K C
structure CalC (P:Program) (w:World) (K:PySem.W.Frag) (mg:Str->Option Value) (base:Heap) (CX:CXT) (k:Nat) (x:Str) (C:Addr) (ps:List Str) (sp:Sp):Prop where
 ex:∃ (f:Addr) (fd:FuncData),AW P w K mg base CX k f fd ps sp/\Mk K C f/\mg x=some (.ref C)/\Do K fd ps []
section
variable {X:Cx} {CX:CXT} {k:Nat} {C:Addr} {ps:List Str} {sp:Sp} {E:XK} {x m:Str} {p pos apos:Pos} {e o:Expr} {es:List Expr} {ta:TE} {t:TA}
theorem Am (c:Cal X.prog X.w X.K X.mg X.base CX k x ps sp) (hr:BG k X.A) (hg:Gl X x) (hx:DX CX X E) (ha:PA X (e :: es) t) (hdb:(x == ("__debug__" : Str))=false:=by decide)
  (he:starEach (e :: es) X.env=(false,eval e X.env) :: starEach es X.env:=by rfl) (hpl:(backTo pos (starEach es X.env)).any (·.1)=false:=by rfl):PE X (.Call (.Name x p) (e :: es) [] pos) (tCall sp [] E t):=by
 obtain ⟨f,fd,F,hm,hk,hb⟩:=c.ex;exact pe_call F hr hg hm hk hb .nil hx ha hdb he hpl
theorem Ay {pl:Sem Bool} (he:PE X o ta) (c:Ch X.prog X.w X.K X.mg X.base CX k C m ps sp) (hr:BG k X.A) (hx:DX CX X E) (ha:PA X (e :: es) t)
  (hst:starEach (e :: es) X.env=(false,eval e X.env) :: starEach es X.env:=by rfl) (hpl:(backTo pos (starEach es X.env)).any (·.1)=false:=by rfl)
  (ht:eval (.Call (.Attribute o m apos) (e :: es) [] pos) X.env=(do
   let ov <-eval o X.env; standAt apos.atName;let (f,first) <-holding [ov] (getMethod ov m pl); callWith pos f first (backTo pos (starEach (e :: es) X.env)) (backToKw pos (keywordEach [] X.env))):=by rfl):PE X (.Call (.Attribute o m apos) (e :: es) [] pos) (tMeth C m sp [] E ta t):=by
 obtain ⟨f,fd,F,hm,hb⟩:=c.ex;exact pe_meth he c.cl hm F hr hb .nil hx ha hst hpl ht
theorem Qn (c:CalC X.prog X.w X.K X.mg X.base CX k x C ps sp) (hr:BG (k+1) X.A) (hg:Gl X x) (hx:DX CX X E) (hdb:(x == ("__debug__" : Str))=false:=by decide):PE X (.Call (.Name x p) [] [] pos) (tMake C sp [] E Py):=by
 obtain ⟨f,fd,F,M,hm,hb⟩:=c.ex;exact Qj M F hr hg hm hb .nil hx hdb
theorem Bg {i:Int} (hg:Gl X x) (hm:∃ tk,X.mg x=some (.int i tk)) (hd:(x == ("__debug__" : Str))=false:=by decide):PE X (.Name x pos) (tC (.int i)):=by
 obtain ⟨tk,hm⟩:=hm;exact NW hg hm ⟨tk,rfl⟩ hd
theorem Fl {a:Addr} (hg:Gl X x) (hm:X.mg x=some (.ref a)) (hd:(x == ("__debug__" : Str))=false:=by decide):PE X (.Name x pos) (tC (.ref a)):=NW hg hm rfl hd
end
def cOk (So:Scope) (No:List Str) (scope:Scope) (N:List Str) (k:Nat) (cs:List Nat):Bool :=
 scope.names.all (fun y=>y.2 != .cell) && (scope.kind == .function && (scope.names.all (fun y=>y.2 != .local || scope.names.lookup y.1 == some .local) && (scope.names.all (fun y=>y.2 != .free || (So.names.lookup y.1 == some .cell || So.names.lookup y.1 == some .free)) &&
  (N.length == k+cs.length && (List.range cs.length).all fun j=>match N[k+j]?,No[cs.getD j 0]? with
   | some x,some y=>x == y && scope.names.lookup x == some .free
   | _,_=>false))))
theorem AV.of {X:Cx} {So:Scope} {No:List Str} {scope:Scope} {N:List Str} {k:Nat} {cs:List Nat} (hS:X.env.scope=So) (hN:X.N=No) (h:cOk So No scope N k cs=true):AV X scope N k cs:=by
 subst hS hN;unfold cOk at h;simp only [Bool.and_eq_true,List.all_eq_true,bne_iff_ne,ne_eq,Bool.or_eq_true,beq_iff_eq,List.mem_range] at h;obtain ⟨h1,h2,h3,h4,h5,h6⟩:=h;refine ⟨h1,h2,fun y hy e=>?_,fun y hy e=>?_,h5,fun j hj=>?_⟩
 ·rcases h3 y hy with z | z
  ·exact absurd e z
  ·exact z
 ·rcases h4 y hy with z | z
  ·exact absurd e z
  ·exact z
 ·have z:=h6 j hj;split at z
  ·rename_i x y e1 e2;simp only [Bool.and_eq_true,beq_iff_eq] at z;obtain ⟨z1,z2⟩:=z;subst z1;exact ⟨x,e1,e2,z2⟩
  ·cases z
theorem Pq {σ:St} {H:Hp} {A B:Hp->Prop} (h:A H):tYes σ H fun b H3=>if b=true then A H3 else B H3:=by
 show if true=true then A H else B H;exact Cw h
theorem Lp {tb:TE} {σ:St} {H:Hp} {Q:VK} {b1 b2:Bool} (h2:b1=true->∀ Q':VK,Q' (.bl b2) H->tb σ H Q') (q:Q (.bl (b1 && b2)) H):∃ c,V.bl b1=.bl c/\if c=true then tb σ H Q else Q (.bl false) H:=by
 cases b1 with
 | true=>exact ⟨true,rfl,Cw (h2 rfl Q q)⟩
 | false=>exact ⟨false,rfl,Bv q⟩
theorem Pw {u:TT} {σ:St} {H:Hp} {Q:Bool->Hp->Prop} {b1 b2:Bool} (h2:b1=true->∀ Q':Bool->Hp->Prop,Q' b2 H->u σ H Q') (q:Q (b1 && b2) H):if b1=true then u σ H Q else Q false H:=by
 cases b1 with
 | true=>exact Cw (h2 rfl Q q)
 | false=>exact Bv q
section
variable {X:Cx} {scope:Scope} {N:List Str} {s:Shared} {H:Hp} {ex:List Addr} {x y:Str} {px py pos:Pos} {k:Nat}
theorem Es {i:Nat} (hN:N.Nodup) (hi:N[i]?=some x) (hl:(relabel scope X.env).names.lookup x=some .local):PG (cxC X scope N s H ex) (.Name x pos) (Fd i):=AY (X:=cxC X scope N s H ex) hN hi (.inl hl) (.inr hl)
end
section
variable {X:Cx}
end
end L2
namespace L2
open PySem
section
variable {X:Cx} {es es':List Expr} {t t':TA} {pos:Pos}
theorem AH {i:Int} {j} (hr:PA X es t):PA X (.Constant (.int i) j pos :: es) (GC (tC (.int i)) t):=Aa Af hr
theorem EH {z:Str} {j} (hr:PA X es t):PA X (.Constant (.str z) j pos :: es) (GC (tC (.str z)) t):=Aa pe_str hr
theorem Bk {x1} (h:PA X es' t') (hr:PA X es t):PA X (.Tuple es' x1 pos :: es) (GC (tTup t') t):=Aa (Dy h) hr
theorem Bh {op:Operator} {r:R2} {a b:Expr} {ta tb:TE} (ho:OpR X (binaryOp op) r) (ha:PE X a ta) (hb:PE X b tb) (hr:PA X es t):PA X (.BinOp a op b pos :: es) (GC (tOp r ta tb) t):=Aa (As ho ha hb) hr
theorem Lj {K:PySem.W.Frag} (h:X.K=K):IxR X (rIxT K):=h ▸ AQ
theorem QN {K:PySem.W.Frag} (h:X.K=K):IxR X (rIxL K):=h ▸ AF
end
theorem xq1 {α:Sort _} {a:α} {P Q:α->Prop} (h:P a) (k:Q a):∃ x,P x/\Q x:=⟨a,h,k⟩
theorem xq2 {α β:Sort _} {a:α} {b:β} {P Q R:α->β->Prop} (h:P a b) (h':Q a b) (k:R a b):∃ x y,P x y/\Q x y/\R x y:=⟨a,b,h,h',k⟩
theorem xq4 {α β γ δ:Sort _} {a:α} {b:β} {c:γ} {d:δ} {P Q R S T:α->β->γ->δ->Prop} (h:P a b c d) (h':Q a b c d) (h'':R a b c d) (h3:S a b c d) (k:T a b c d):∃ x y z w,P x y z w/\Q x y z w/\R x y z w/\S x y z w/\T x y z w:=⟨a,b,c,d,h,h',h'',h3,k⟩
theorem xq5 {K:PySem.W.Frag} {f:Str} {H:Hp} {a C dx:Addr} {fs:List (Str×V)} {v:V} {Q:V->Prop} (h:H a=some (.ins C dx fs)) (h2:Cls K C) (h3:Dk K C f) (h4:fs.lookup f=some v) (k:Q v):∃ b C dx fs w,V.ref a=.ref b/\H b=some (.ins C dx fs)/\Cls K C/\Dk K C f/\fs.lookup f=some w/\Q w:=⟨a,C,dx,fs,v,rfl,h,h2,h3,h4,k⟩
theorem xw2 {α β:Sort _} {a:α} {b:β} {P:α->Prop} {Q:α->β->Prop} {K:α->β->Prop} (h1:P a) (h2:Q a b) (k:K a b):∃ x0,P x0/\∃ x1,Q x0 x1/\K x0 x1:=⟨a,h1,b,h2,k⟩
theorem xw3 {α β γ:Sort _} {a:α} {b:β} {c:γ} {P:α->Prop} {Q:α->β->Prop} {R:α->β->γ->Prop} {K:α->β->γ->Prop} (h1:P a) (h2:Q a b) (h3:R a b c) (k:K a b c):∃ x0,P x0/\∃ x1,Q x0 x1/\∃ x2,R x0 x1 x2/\K x0 x1 x2:=⟨a,h1,b,h2,c,h3,k⟩
theorem xwb {α β γ:Sort _} {a:α} {b:β} {c:γ} {P:α->Prop} {Q:α->β->γ->Prop} {R:α->β->γ->Prop} {K:α->β->γ->Prop} (h1:P a) (h2:Q a b c) (h3:R a b c) (k:K a b c):∃ x0,P x0/\∃ x1 x2,Q x0 x1 x2/\R x0 x1 x2/\K x0 x1 x2:=⟨a,h1,b,c,h2,h3,k⟩
theorem xwm {α β γ δ:Sort _} {a:α} {b:β} {c:γ} {d:δ} {P:α->Prop} {Q:α->β->γ->δ->Prop} {R:α->β->γ->δ->Prop} {S:α->β->γ->δ->Prop} {K:α->β->γ->δ->Prop} (h1:P a) (h2:Q a b c d) (h3:R a b c d) (h4:S a b c d) (k:K a b c d):∃ x0,P x0/\∃ x1 x2 x3,Q x0 x1 x2 x3/\R x0 x1 x2 x3/\S x0 x1 x2 x3/\K x0 x1 x2 x3:=⟨a,h1,b,c,d,h2,h3,h4,k⟩
theorem xwi {α β γ δ ε:Sort _} {a:α} {b:β} {c:γ} {d:δ} {e:ε} {P:α->Prop} {Q:α->β->γ->δ->ε->Prop} {R:α->β->γ->δ->ε->Prop} {S:α->β->γ->δ->ε->Prop} {T:α->β->γ->δ->ε->Prop} {K:α->β->γ->δ->ε->Prop} (h1:P a) (h2:Q a b c d e) (h3:R a b c d e) (h4:S a b c d e) (h5:T a b c d e) (k:K a b c d e):∃ x0,P x0/\∃ x1 x2 x3 x4,Q x0 x1 x2 x3 x4/\R x0 x1 x2 x3 x4/\S x0 x1 x2 x3 x4/\T x0 x1 x2 x3 x4/\K x0 x1 x2 x3 x4:=⟨a,h1,b,c,d,e,h2,h3,h4,h5,k⟩
theorem xwf {α β γ δ ε ζ:Sort _} {a:α} {b:β} {c:γ} {d:δ} {e:ε} {f:ζ} {P:α->Prop} {Q:α->β->γ->δ->ε->ζ->Prop} {R:α->β->γ->δ->ε->ζ->Prop} {S:α->β->γ->δ->ε->ζ->Prop} {T:α->β->γ->δ->ε->ζ->Prop} {U:α->β->γ->δ->ε->ζ->Prop} {K:α->β->γ->δ->ε->ζ->Prop} (h1:P a) (h2:Q a b c d e f) (h3:R a b c d e f) (h4:S a b c d e f) (h5:T a b c d e f) (h6:U a b c d e f) (k:K a b c d e f):∃ x0,P x0/\∃ x1 x2 x3 x4 x5,Q x0 x1 x2 x3 x4 x5/\R x0 x1 x2 x3 x4 x5/\S x0 x1 x2 x3 x4 x5/\T x0 x1 x2 x3 x4 x5/\U x0 x1 x2 x3 x4 x5/\K x0 x1 x2 x3 x4 x5:=⟨a,h1,b,c,d,e,f,h2,h3,h4,h5,h6,k⟩
theorem xwn {α β γ δ ε:Sort _} {a:α} {b:β} {c:γ} {d:δ} {e:ε} {P:α->Prop} {Q:α->β->γ->δ->Prop} {R:α->β->γ->δ->Prop} {S:α->β->γ->δ->Prop} {T:α->β->γ->δ->ε->Prop} {K:α->β->γ->δ->ε->Prop} (h1:P a) (h2:Q a b c d) (h3:R a b c d) (h4:S a b c d) (h5:T a b c d e) (k:K a b c d e):∃ x0,P x0/\∃ x1 x2 x3,Q x0 x1 x2 x3/\R x0 x1 x2 x3/\S x0 x1 x2 x3/\∃ x4,T x0 x1 x2 x3 x4/\K x0 x1 x2 x3 x4:=⟨a,h1,b,c,d,h2,h3,h4,e,h5,k⟩
theorem xwj {α β γ δ ε ζ:Sort _} {a:α} {b:β} {c:γ} {d:δ} {e:ε} {f:ζ} {P:α->Prop} {Q:α->β->Prop} {R:α->β->γ->δ->ε->ζ->Prop} {S:α->β->γ->δ->ε->ζ->Prop} {T:α->β->γ->δ->ε->ζ->Prop} {U:α->β->γ->δ->ε->ζ->Prop} {K:α->β->γ->δ->ε->ζ->Prop} (h1:P a) (h2:Q a b) (h3:R a b c d e f) (h4:S a b c d e f) (h5:T a b c d e f) (h6:U a b c d e f) (k:K a b c d e f):∃ x0,P x0/\∃ x1,Q x0 x1/\∃ x2 x3 x4 x5,R x0 x1 x2 x3 x4 x5/\S x0 x1 x2 x3 x4 x5/\T x0 x1 x2 x3 x4 x5/\U x0 x1 x2 x3 x4 x5/\K x0 x1 x2 x3 x4 x5:=⟨a,h1,b,h2,c,d,e,f,h3,h4,h5,h6,k⟩
theorem BP {A B:TS} {D:GT} {σ:St} {H:Hp} (h:let r:=B D; let s:=σ; ∀ k:St->Hp->Prop,(∀ {σ H},r σ H->k σ H)->let E:GT:={ D with nx:=k }; A E s H):tSeq A B D σ H:=h _ fun z=>z
end L2
namespace Nu
open PySem PySem.NumText PyProof.Rows
end Nu
namespace L2
open PySem PySem.Spec PyProof.Rows
section
variable {X:Cx}
theorem pe_fldK {K:PySem.W.Frag} {e:Expr} {f:Str} {ta:TE} {pos:Pos} (hK:X.K=K) (he:PE X e ta) (hb:attributeBase e f X.env (eval e X.env)=eval e X.env):PE X (.Attribute e f pos) (tFld K ta f):=hK ▸ AL he hb
end
end L2
namespace L2
open PySem PySem.Spec PyProof.Rows
section
variable {X:Cx}
theorem GG (ns:List Int):∀ k,k<=ns.length->preSum (fun i=>ns.getD i 0) k=(ns.take k).sum
 | 0,_=>by simp [preSum]
 | k+1,h=>by
  have h':k < ns.length:=h;show preSum _ k+ns.getD k 0=_;rw [GG ns k (Nat.le_of_lt h'),List.take_add_one,List.getElem?_eq_getElem h',List.getD_eq_getElem?_getD,List.getElem?_eq_getElem h',List.sum_append];show _+ns[k]=_+(ns[k]+0)
  rw [Int.add_zero]
theorem IC {ns:List Int} {its:List Value} (rv:AG (ns.map V.int) its):∀ (i:Nat) v,its.toArray[i]?=some v->∃ t,v=.int (ns.getD i 0) t:=fun i v e=>by
 have e:its[i]?=some v:=by simpa using e
 cases eb:ns[i]? with
 | none =>
  have:its[i]?=none:=rv.none_of (by rw [List.getElem?_map,eb]; rfl);rw [e] at this;cases this
 | some b =>
  obtain ⟨u,hu,ru⟩:=rv.get (i:=i) (x:=V.int b) (by rw [List.getElem?_map,eb]; rfl);rw [e] at hu;cases hu;rw [List.getD_eq_getElem?_getD,eb];obtain ⟨t,rfl⟩:=ru;exact ⟨t,rfl⟩
theorem Ra (hc:X.calm=true):Fh X (.builtin "sum") (fun xs H Q=>∃ (p:Addr) (ns:List Int),xs=[.ref p]/\SqL X.K H p (ns.map V.int)/\Q (.int ns.sum) H):=by
 intro pins s σ H xs us Q I r h;obtain ⟨p,ns,rfl,hq,q⟩:=h;cases r with
 | cons r1 r2 =>
  cases r2;cases (show _=Value.ref p from r1);obtain ⟨its,rv,pl,hz⟩:=I.list hq;have hlt:p < s.heap.objs.size:=by obtain ⟨o,n,e,_⟩:=pl; exact Heap.lt_size e
  have hne:p≠s.heap.objs.size:=Nat.ne_of_lt hlt;have len:its.toArray.size=ns.length:=by rw [List.size_toArray,<-rv.length,List.length_map]
  refine call_sum_walkAnyS (wpAny_pyIter_list pl.isList ?_);refine ⟨s.heap.objs.size,_,_,_,_,_,_,fun i=>ns.getD i 0,rfl,(Walks.list (A:=X.A.in1) (I.ok.hd hc) s.heap.objs.size p hne its.toArray).toS,⟨⟨_,Heap.get?_push_size _ rfl,rfl,rfl⟩,?_⟩,?_,IC rv,?_⟩
  ·exact pl.isList.at fun o e=>Heap.get?_push_of_some _ e
  ·intro b hb;show b < (s.heap.push _).objs.size;rw [Heap.size_push];rcases List.mem_cons.mp hb with rfl | hb
   ·exact Nat.lt_succ_self _
   ·rcases List.mem_cons.mp hb with rfl | hb
    ·exact Nat.lt_succ_of_lt hlt
    ·cases hb
  ·intro s' t' mv;have I2:Inv X pins σ H { s with heap:=s'.heap,toks:=s'.toks }:=I.kept fun b o e=>mv.heap b o (by intro z; exact Nat.ne_of_lt (Heap.lt_size e) (by simpa using z)) (Heap.get?_push_of_some _ e);have es:s'={ s with heap:=s'.heap,toks:=s'.toks }:=by
    obtain ⟨m1,m2,m3,m4,m5⟩:=mv;cases s';simp only at m2 m3 m4;subst m2;subst m3;subst m4;rfl
   rw [es,len,GG ns _ (Nat.le_refl _),List.take_length];exact ⟨.int ns.sum,H,I2,⟨t',rfl⟩,q⟩
end
end L2
namespace L2
open PySem PySem.Spec PyProof.Rows
theorem Mz (ns ms:List Int):((List.range (min ns.length ms.length)).all (fun j=>ns.getD j 0 == ms.getD j 0) && ns.length == ms.length)=decide (ns=ms):=by
 rw [Bool.eq_iff_iff,Bool.and_eq_true,List.all_eq_true,beq_iff_eq,decide_eq_true_iff];constructor
 ·rintro ⟨h1,h2⟩;refine List.ext_getElem h2 fun i h3 h4=>?_;have:=h1 i (List.mem_range.mpr (by lia));rw [beq_iff_eq,List.getD_eq_getElem?_getD,List.getD_eq_getElem?_getD,List.getElem?_eq_getElem h3,List.getElem?_eq_getElem h4] at this;exact this
 ·rintro rfl;exact ⟨fun x _=>beq_iff_eq.mpr rfl,rfl⟩
section
variable {X:Cx}
theorem Jh {H:Hp} {ns:List Int} {its:List Value} (rv:AG (ns.map V.int) its) {A:Around} {s:Shared} {ms:List Int} {jts:List Value} (rw':AG (ms.map V.int) jts) (j:Nat) (h1:j < its.toArray.size) (h2:j < jts.toArray.size):PySem.SeqAt.EqAt A s its.toArray[j] jts.toArray[j] (ns.getD j 0 == ms.getD j 0):=by
 obtain ⟨t,e⟩:=IC rv j _ (Array.getElem?_eq_getElem h1);obtain ⟨u,e2⟩:=IC rw' j _ (Array.getElem?_eq_getElem h2);rw [e,e2];exact PySem.SeqAt.EqAt.int_int _ t _ u
theorem OK (hu:X.A.units+64 < cLine):OpR X (compareOp .NotEq) (fun x y H Q=>∃ (a b:Addr) (ns ms:List Int),x=.ref a/\y=.ref b/\SqT X.K H a (ns.map V.int)/\SqT X.K H b (ms.map V.int)/\Q (.bl (!decide (ns=ms))) H):=by
 intro pins s σ H x y v u Q I rx ry h;obtain ⟨a,b,ns,ms,rfl,rfl,h1,h2,q⟩:=h;cases rx;cases ry;obtain ⟨xs,r1,p1,_⟩:=I.tuple h1;obtain ⟨ys,r2,p2,_⟩:=I.tuple h2;refine PySem.SeqAt.RcNeAt.tuples p1 p2 (by lia) (fun j k1 k2=>Jh (H:=H) r1 r2 j k1 k2) _ _ _ _ ?_;rw [List.size_toArray,List.size_toArray,<-r1.length,<-r2.length,List.length_map,List.length_map,Mz];exact ⟨.bl _,H,I,rfl,q⟩
end
section
variable {prog:Program} {w:World} {κ:Type} [DecidableEq κ] {knd:HeapKind prog w κ} {A:Around} {E:Value->Shared->Prop} {s:Shared}
end
section
variable {X:Cx} {pins:List (Addr×Obj)} {σ:St} {H:Hp} {s:Shared} {a:Addr} {y v:V} {u r:Value} {o:Option V} {A:Around} {E:Value->Shared->Prop}
end
section
variable {X:Cx} {o e f:Expr} {apos cpos:Pos} {td ty tx:TE}
end
end L2
namespace L2
open PySem PySem.Spec PyProof.Rows
section
variable {prog:Program} {w:World} {A:Around} {E:Value->Shared->Prop} {s:Shared} {d it:Addr} {o:Obj} {es:Array DictEntry} {ep i:Nat}
end
end L2
namespace L2
open PySem PySem.Spec PyProof.Rows
section
variable {X:Cx}
def CDivB (i j:Int):Prop:=0 < j/\j < 2 ^ 64
theorem LV:OpR X (binaryOp .FloorDiv) (rI CDivB fun i j=>.int (i / j)):=opI fun i j _ _ _ _ _ hc q=>by
 have h1:(0:Int) < j:=hc.1;have h2:j < 2 ^ 64:=hc.2;refine floordiv_int (by lia) (by rw [Int.fdiv_eq_ediv_of_nonneg i (by lia)]; exact q) (.inl (PyProof.noPylong_of_log2 ?_));have h3:j.natAbs < 2 ^ 64:=by lia
 exact Nat.lt_of_lt_of_le ((Nat.log2_lt (by lia)).mpr h3) (by decide)
end
end L2
namespace L2
open PySem PySem.Spec PyProof.Rows
section
variable (P:Program) (w:World)
end
section
variable {P:Program} {w:World} {sh:List Bool} {h h':Heap}
variable {A:Around} {E:Value->Shared->Prop} {s:Shared}
end
section
variable {P:Program} {w:World} {sh:List Bool} {H H':Hp} {h h':Heap} {a b:Addr} {k:NK} {kvs:List (NK×V)}
end
section
variable {X:Cx} {sh:List Bool}
variable {o e:Expr} {apos cpos:Pos} {td ty:TE}
variable {i value:Expr} {pos pos':Pos} {tv:TE}
end
end L2
namespace L2
open PySem PySem.W PyProof.Rows
section
variable {rk:Nat->Int} {n:Nat}
structure JH (n:Nat) (p:Array Nat):Prop where
 sz:p.size=n
 pm:p.Perm (List.range n).toArray
def kk (rk:Nat->Int) (p:Array Nat) (i:Nat):Int:=rk (p.getD i 0)
def Up (rk:Nat->Int) (p:Array Nat) (m:Nat):Prop:=∀ i j,i<=j->j < m->kk rk p i<=kk rk p j
end
end L2
namespace L2
open PySem PySem.W PySem.Spec PyProof.Rows
def BO:List Int->List Int->Bool
 | [],[]=>false
 | [],_ :: _=>true
 | _ :: _,[]=>false
 | a :: as,b :: bs=>if a=b then BO as bs else decide (a < b)
theorem IB:∀ a,BO a a=false
 | []=>rfl
 | a :: as=>by unfold BO; rw [if_pos rfl]; exact IB as
theorem FU:∀ {a b c:List Int},BO a c=true->BO a b=true\/BO b c=true
 | [],[],_,h=>.inr h
 | [],_ :: _,_,_=>.inl rfl
 | _ :: _,_,[],h=>by cases h
 | a :: as,[],c :: cs,_=>.inr rfl
 | a :: as,b :: bs,c :: cs,h=>by
  unfold BO at h ⊢;by_cases ac:a=c
  ·subst ac;rw [if_pos rfl] at h;by_cases ab:a=b
   ·subst ab;rw [if_pos rfl,if_pos rfl];exact FU h
   ·rw [if_neg ab,if_neg (fun z=>ab z.symm)];rcases Int.lt_or_gt_of_ne ab with z | z
    ·exact .inl (decide_eq_true z)
    ·exact .inr (decide_eq_true z)
  ·rw [if_neg ac] at h;have h:=of_decide_eq_true h;by_cases ab:a=b
   ·subst ab;rw [if_neg ac];exact .inr (decide_eq_true h)
   ·rw [if_neg ab];by_cases z:a < b
    ·exact .inl (decide_eq_true z)
    ·by_cases bc:b=c
     ·lia
     ·rw [if_neg bc];exact .inr (decide_eq_true (by lia))
theorem Mb:∀ {a b:List Int},BO a b=false->BO b a=false->a=b
 | [],[],_,_=>rfl
 | [],_ :: _,h,_=>by cases h
 | _ :: _,[],_,h=>by cases h
 | a :: as,b :: bs,h,h'=>by
  unfold BO at h h';by_cases ab:a=b
  ·subst ab;rw [if_pos rfl] at h h';rw [Mb h h']
  ·rw [if_neg ab] at h;rw [if_neg (fun z=>ab z.symm)] at h';have:=of_decide_eq_false h;have:=of_decide_eq_false h';lia
theorem QG {a b:List Int} (h:BO a b=true):BO b a=false:=by
 cases e:BO b a with
 | false=>rfl
 | true =>
  rcases FU (b:=b) (show BO a b=true from h) with z | z
  ·-- both ways: through a
   have:BO a a=true\/BO a a=false:=by cases BO a a<;>simp
   exact absurd (lexI_two h e) (by simp)
  ·rw [IB] at z;cases z
where lexI_two:∀ {a b:List Int},BO a b=true->BO b a=true->false=true
 | [],[],h,_=>h
 | [],_ :: _,_,h=>h
 | _ :: _,[],h,_=>h
 | a :: as,b :: bs,h,h'=>by
  unfold BO at h h';by_cases ab:a=b
  ·subst ab;rw [if_pos rfl] at h h';exact lexI_two h h'
  ·rw [if_neg ab] at h;rw [if_neg (fun z=>ab z.symm)] at h';have:=of_decide_eq_true h;have:=of_decide_eq_true h';lia
def JO (rows:List (List Int)) (i:Nat):Int:=((rows.countP fun r=>BO r (rows.getD i []):Nat):Int)
theorem Jz {α:Type} {p q:α->Bool}:∀ {l:List α} {x:α},x ∈ l->(∀ y,p y=true->q y=true)->p x=false->q x=true->l.countP p < l.countP q
 | y :: l,x,hx,h,hp,hq=>by
  rw [List.countP_cons,List.countP_cons];have le:l.countP p<=l.countP q:=List.countP_mono_left fun z _=>h z;rcases List.mem_cons.mp hx with rfl | hx
  ·rw [hp,hq];simp only [Bool.false_eq_true,if_false,if_true];lia
  ·have:=Jz hx h hp hq;by_cases py:p y=true
   ·rw [py,h y py];lia
   ·rw [if_neg py];split<;>lia
theorem JN {rows:List (List Int)} {i j:Nat} (hi:i < rows.length):decide (JO rows i < JO rows j)=BO (rows.getD i []) (rows.getD j []):=by
 have mi:rows.getD i [] ∈ rows:=by
  rw [List.getD_eq_getElem?_getD,List.getElem?_eq_getElem hi];exact List.getElem_mem hi
 unfold JO;generalize rows.getD i []=a at *
 generalize rows.getD j []=b;cases h:BO a b with
 | true =>
  refine decide_eq_true ?_;have:=Jz (p:=fun r=>BO r a) (q:=fun r=>BO r b) mi (fun y hy=>?_) (IB a) h
  ·lia
  ·rcases FU (b:=b) hy with z | z
   ·exact z
   ·rw [QG h] at z;cases z
 | false =>
  refine decide_eq_false ?_;have:=List.countP_mono_left (l:=rows) (p:=fun r=>BO r b) (q:=fun r=>BO r a) fun y _ hy=>?_
  ·lia
  ·rcases FU (b:=a) hy with z | z
   ·exact z
   ·rw [h] at z;cases z
section
variable {prog:Program} {w:World} {A:Around} {E:Value->Shared->Prop}
theorem Lh {b:Bool} {Q:Bool->Shared->Prop} {s:Shared}:∀ {xs ys:List Int} {us vs:List Value} {i:Nat},AG (xs.map V.int) us->AG (ys.map V.int) vs->Q (BO xs ys) s->KatLex prog w A b (decide (xs.length < ys.length)) Q (us.zip vs) i s
 | [],[],_,_,i,.nil,.nil,q=>q
 | [],y :: ys,_,_,i,.nil,.cons _ _,q=>by
  show Q (decide (0 < ys.length+1)) s;rw [decide_eq_true (Nat.succ_pos _)];exact q
 | x :: xs,[],_,_,i,.cons _ _,.nil,q=>by
  show Q (decide (xs.length+1 < 0)) s;rw [decide_eq_false (Nat.not_lt_zero _)];exact q
 | x :: xs,y :: ys,u :: us,v :: vs,i,.cons r1 t1,.cons r2 t2,q=>by
  obtain ⟨t,rfl⟩:=(show ∃ t,u=.int x t from r1)
  obtain ⟨t',rfl⟩:=(show ∃ t,v=.int y t from r2)
  refine wpAny_eqBool_int ?_;unfold BO at q;by_cases e:x=y
  ·subst e;rw [if_pos rfl] at q;simp only [beq_self_eq_true,if_true];have h:=Lh (b:=b) (i:=i+1) t1 t2 q;rw [show decide ((x :: xs).length < (x :: ys).length)=decide (xs.length < ys.length) by simp];exact h
  ·rw [if_neg e] at q;have e':(x == y)=false:=by simpa using e
   simp only [e',Bool.false_eq_true,if_false];cases b && i == 0 with
   | true=>exact oneLt_int q
   | false =>
    exact kat_one _ _ (wpAny_lt_int q)
end
section
variable {X:Cx}
theorem GV {H:Hp} {h:Heap} (ok:HOk X.prog X.w H h) {items:List (Addr×List Int)} (hq:∀ q ∈ items,H q.1=some (.tup (q.2.map V.int))/\q.2≠[]) {i:Nat} (hi:i < items.length) :
  ∃ (b:Addr) (o:Obj) (us:List Value) (m:Nat),(items.map fun q=>Value.ref q.1).getD i Value.none=.ref b/\h.get? b=some o/\o.cls=.type "tuple" /\ o.data=.seq us.toArray m/\AG (((items.map (·.2)).getD i []).map V.int) us:=by
 have hm:=List.getElem_mem hi;obtain ⟨h1,h2⟩:=hq _ hm;obtain ⟨_,its,r,o,e,c,n,d⟩:=(show AS X.prog X.w H h _ (.tup _) from ok _ _ h1)
 refine ⟨_,o,its,n,?_,e,c,d,?_⟩
 ·rw [List.getD_eq_getElem?_getD,List.getElem?_map,List.getElem?_eq_getElem hi];rfl
 ·rw [List.getD_eq_getElem?_getD,List.getElem?_map,List.getElem?_eq_getElem hi];exact r
theorem Gp {H:Hp} {h:Heap} (ok:HOk X.prog X.w H h):∀ {items:List (Addr×List Int)},(∀ q ∈ items,H q.1=some (.tup (q.2.map V.int))/\q.2≠[])->∃ fs:List Value,KatTups h (items.map fun q=>Value.ref q.1) fs/\fs.length=items.length/\∀ v ∈ fs,∃ x t,v=.int x t
 | [],_=>⟨[],.nil,rfl,fun v hv=>nomatch hv⟩
 | q :: items,hq=>by
  obtain ⟨fs,h1,h2,h3⟩:=Gp ok fun q' hq'=>hq q' (List.mem_cons_of_mem _ hq');obtain ⟨e,ne⟩:=hq q (List.mem_cons_self ..);obtain ⟨_,its,r,o,e1,c,n,d⟩:=(show AS X.prog X.w H h _ (.tup _) from ok _ _ e)
  match hx:q.2,ne with
  | x :: xs,_ =>
   rw [hx] at r;cases r with
   | @cons _ u _ us r1 r2 =>
    obtain ⟨t,rfl⟩:=(show ∃ t,u=.int x t from r1)
    refine ⟨.int x t :: fs,.cons e1 c d (by simp) h1,by rw [List.length_cons,List.length_cons,h2],fun v hv=>?_⟩;rcases List.mem_cons.mp hv with rfl | hv
    ·exact ⟨x,t,rfl⟩
    ·exact h3 v hv
def NB:List (Addr×List Int)->Prop:=List.Pairwise fun p q=>BO q.2 p.2=false
end
end L2
namespace L2
open PySem PySem.Spec PyProof.Rows
section
variable {X:Cx}
theorem OE {H:Hp} {s:Shared} {A:Around} (ok:HOk X.prog X.w H s.heap) (hu:A.units < cLine) {a b:Addr} {ns:List Int} (h1:H a=some (.tup (ns.map V.int))) (h2:H b=some (.tup (ns.map V.int))):PySem.SeqAt.EqAt A s (.ref a) (.ref b) true:=by
 by_cases e:a=b
 ·subst e;exact PySem.SeqAt.EqAt.same _
 ·obtain ⟨_,its,r,pt⟩:=(show AS X.prog X.w H s.heap _ (.tup _) from ok _ _ h1)
  obtain ⟨_,jts,r',pt'⟩:=(show AS X.prog X.w H s.heap _ (.tup _) from ok _ _ h2)
  refine PySem.SeqAt.EqAt.of_refs e ?_;have:=PySem.SeqAt.RcAt.tuples (A:=A) (s:=s) (e:=fun j=>ns.getD j 0 == ns.getD j 0) pt pt' hu fun j k1 k2=>Jh (H:=H) r r' j k1 k2;rw [List.size_toArray,List.size_toArray,<-r.length,<-r'.length,List.length_map,Mz,decide_eq_true rfl] at this;exact this
theorem NR {H:Hp} {s:Shared} {A:Around} (ok:HOk X.prog X.w H s.heap) (hu:A.units < cLine):∀ {is js:List (Addr×List Int)},(∀ q ∈ is,H q.1=some (.tup (q.2.map V.int)))->(∀ q ∈ js,H q.1=some (.tup (q.2.map V.int)))->is.map (·.2)=js.map (·.2) ->
  ∀ {xs ys:List Value},AG (is.map fun q=>V.ref q.1) xs->AG (js.map fun q=>V.ref q.1) ys->xs.length=ys.length/\∀ j (h1:j < xs.length) (h2:j < ys.length),PySem.SeqAt.EqAt A s xs[j] ys[j] true
 | [],[],_,_,_,_,_,.nil,.nil=>⟨rfl,fun j h1=>absurd h1 (Nat.not_lt_zero _)⟩
 | [],_ :: _,_,_,e,_,_,_,_=>by cases e
 | _ :: _,[],_,_,e,_,_,_,_=>by cases e
 | i :: is,j :: js,h1,h2,e,x :: xs,y :: ys,.cons r1 t1,.cons r2 t2=>by
  rw [List.map_cons,List.map_cons] at e;injection e with e0 e1
  obtain ⟨l,k⟩:=NR ok hu (fun q hq=>h1 q (List.mem_cons_of_mem _ hq)) (fun q hq=>h2 q (List.mem_cons_of_mem _ hq)) e1 t1 t2;refine ⟨by rw [List.length_cons,List.length_cons,l],fun n p1 p2=>?_⟩;cases n with
  | zero =>
   cases (show x=Value.ref i.1 from r1);cases (show y=Value.ref j.1 from r2);have q1:=h1 i (List.mem_cons_self ..);have q2:=h2 j (List.mem_cons_self ..);rw [<-e0] at q2;exact OE ok hu q1 q2
  | succ n=>exact k n (by simpa using p1) (by simpa using p2)
theorem Mx (n:Nat):(List.range n).all (fun _=>true)=true:=List.all_eq_true.mpr fun _ _=>rfl
def AlikeT (K:PySem.W.Frag) (H:Hp) (x y:V):Prop:=∃ (a b:Addr) (is js:List (Addr×List Int)),x=.ref a/\y=.ref b/\SqL K H a (is.map fun q=>V.ref q.1)/\SqL K H b (js.map fun q=>V.ref q.1)/\(∀ q ∈ is,H q.1=some (.tup (q.2.map V.int)))/\(∀ q ∈ js,H q.1=some (.tup (q.2.map V.int)))/\is.map (·.2)=js.map (·.2)
theorem LU (hu:X.A.units+64 < cLine):OpR X (compareOp .NotEq) (fun x y H Q=>AlikeT X.K H x y/\Q (.bl false) H):=by
 intro pins s σ H x y v u Q I rx ry h;obtain ⟨⟨a,b,is,js,rfl,rfl,h1,h2,t1,t2,e⟩,q⟩:=h;cases rx;cases ry;obtain ⟨xs,r1,p1,_⟩:=I.list h1;obtain ⟨ys,r2,p2,_⟩:=I.list h2;obtain ⟨l,k⟩:=NR (A:=X.A.in1) I.hok (by show X.A.units+1 < _; lia) t1 t2 e r1 r2;refine PySem.SeqAt.RcNeAt.lists (e:=fun _=>true) p1.isList p2.isList (by rw [List.size_toArray,List.size_toArray,l]) (by lia) (fun j k1 k2=>?_) _ _ _ _ ?_
 ·simp only [List.size_toArray] at k1 k2
  simpa using k j k1 k2
 ·rw [Mx];exact ⟨.bl _,H,I,rfl,q⟩
end
end L2
namespace L2
open PySem PySem.W PySem.Spec PyProof.Rows
section
variable {prog:Program} {w:World} {A:Around} {E:Value->Shared->Prop} {s:Shared} {r d:Addr} {o:Obj} {es:Array DictEntry} {ep:Nat}
end
section
variable {X:Cx} {o:Expr} {apos cpos:Pos} {td:TE}
end
section
variable {X:Cx}
end
end L2
namespace L2
open PySem PySem.W PySem.Spec PyProof.Rows
end L2
namespace L2
open PySem PySem.Spec PyProof.Rows
theorem JI:∀ {bs:List Bool} {its:List Value},AG (bs.map V.bl) its->its=bs.map Value.bool
 | [],_,.nil=>rfl
 | b :: bs,_,.cons r t=>by
  cases (show _=Value.bool b from r);rw [JI t];rfl
section
variable {X:Cx} {CX:CXT} {k:Nat} {ps:List Str} {sp:Sp} {E:XK} {x:Str} {p pos:Pos} {e:Expr} {es:List Expr} {t:TA} {S:St->Prop}
end
def CMulW (i j:Int):Prop:=i.natAbs < 2 ^ 128/\j.natAbs < 2 ^ 128
theorem Ms {k:Int} (h:k.natAbs < 2 ^ 128):Builtin.Int.intBits k<=128:=by
 unfold Builtin.Int.intBits;split
 ·lia
 ·rename_i z;have z:k≠0:=fun q=>z (by rw [q]; rfl);have:=(Nat.log2_lt (by lia:k.natAbs≠0)).mpr h;lia
section
variable {X:Cx}
theorem op_mulW:OpR X (binaryOp .Mult) (rI CMulW fun i j=>.int (i * j)):=opI fun _ _ _ _ _ _ _ hc q=>mul_int q (.of_bits (Nat.le_trans (Ms hc.1) (by decide)) (Nat.le_trans (Ms hc.2) (by decide)))
end
end L2
namespace L2
open PySem PySem.Spec PyProof.Rows
section
variable {X:Cx}
end
end L2
namespace L2
open PySem PySem.Spec PyProof.Rows
section
variable {X:Cx}
end
end L2
namespace L2
open PySem PySem.Spec PyProof.Rows
section
variable {X:Cx}
end
end L2
namespace L2
open PySem PySem.W PySem.Spec PyProof.Rows
def GD:Sp:=fun vs H Q _=>∃ (t:Addr) (x y:Int) (r:List Int),vs=[.ref t]/\H t=some (.tup ((x :: y :: r).map V.int))/\∀ u,H u=none->Q (.ref u) (upd H u (.tup [.int y,.int x]))
structure It3 where
 a:Addr
 x:Int
 y:Int
 r:List Int
def It3.ns (q:It3):List Int:=q.x :: q.y :: q.r
section
variable {X:Cx} {pins:List (Addr×Obj)} {σ:St} {H H':Hp} {s:Shared} {k:Nat} {f b:Addr} {fd:FuncData} {ps:List Str}
theorem CY.stay (fp:CY X pins H b) (hn:H' b=none):CY X pins H' b:=⟨hn,fp.2⟩
theorem CY.turn {h':Heap} {t':Nat} (fp:CY X pins H b) (I:Inv X pins σ H s) (kp:∀ c o,c≠b->s.heap.get? c=some o->h'.get? c=some o):Inv X pins σ H { s with heap:=h',toks:=t' } :=
 I.turned kp fp.1 fp.2.1 fp.2.2.2.1 fp.2.2.2.2.1 fp.2.2.2.2.2
theorem CY.nost (fp:CY X pins H b) (I:Inv X pins σ H s):b ∉ frs X.stack:=fun z=>by
 rcases List.mem_cons.mp (I.stkSub b z) with y | y
 ·exact fp.2.1 y
 ·exact fp.2.2.1 y
theorem Ob {A2:Around} {P:PySem.Fin->Shared->Prop} {E:Value->Shared->Prop} (I:Inv X pins σ H s) {a kS:Addr} {e1 c:Nat} {ks out:Array Value} {st:SortSt} (fa:CY X pins H a) (fS:CY X pins H kS) (nka:kS≠a) (hk:s.heap.get? kS=some (seqObj "list" ks c)) (ha:s.heap.get? a=some (seqObj "list" #[] e1)) (eo:(arrOf st).map (·.2)=out) (hf:failedOf st=none) (hz:out.size<=sizeLine) (kz:ks.size<=sizeLine)
  (fin:∀ (h':Heap) (c':Nat),Inv X pins σ H { s with heap:=h' }->h'.get? a=some (seqObj "list" out c')->P (.done (.ret .none)) { s with heap:=h' }):wpAny (model X.prog X.w) A2 (ksk_tail a false e1 (.ref kS) st) P E s:=by
 unfold ksk_tail;have I1:Inv X pins σ H { s with heap:=s.heap.update kS (Obj.mapSeq fun _=>#[]) }:=fS.turn (t':=s.toks) I fun b o hb e=>by rw [Heap.get?_update_ne _ _ _ _ hb]; exact e
 have ha1:(s.heap.update kS (Obj.mapSeq fun _=>#[])).get? a=some (seqObj "list" #[] e1):=by rw [Heap.get?_update_ne _ _ _ _ (Ne.symm nka)]; exact ha
 refine wpAny_bind (listUpdate_at hk rfl (wpAny_bind (wpAny_letGo (wpAny_bind (seqEpoch_at ha1 rfl (wpAny_bind (listUpdate_at ha1 rfl ?_ (hsz2:=?_))))))) (hsz:=kz))
 ·rw [hf];simp only [bne_self_eq_false,Bool.false_eq_true,if_false];rw [eo];refine wpAny_pure (fin _ _ (fa.turn (s:={ s with heap:=s.heap.update kS (Obj.mapSeq fun _=>#[]) }) (t':=s.toks) I1 fun b o hb e=>by rw [Heap.get?_update_ne _ _ _ _ hb]; exact e) (get?_update_seq ha1 _))
 ·simp only [Bool.false_eq_true,if_false];rw [eo];exact Nat.le_succ_of_le hz
end
end L2
namespace PyProof.Rows
open PySem
def Lk:Bool->Keyed->Array Keyed->Nat->Nat->Nat->StateT SortSt Sem (Option Nat):=sortPriv% PySem.Builtin.gallop
section
variable {prog:Program} {w:World} {A:Around} {E:Value->Shared->Prop} {s:Shared}
def beyE (left:Bool) (key:Keyed) (arr:Array Keyed) (base i:Nat):StateT SortSt Sem (Option Bool):=elem' arr (base+i) >>= fun x=>if left=true then lt' x key else lt' key x >>= fun r=>pure (r.map fun b=>!b)
def BeyOk (prog:Program) (w:World) (A:Around) (E:Value->Shared->Prop) (s:Shared) (left:Bool) (key:Keyed) (st:SortSt) (x:Keyed) (b:Bool):Prop :=
 (left=true->∀ Q:Option Bool->SortSt->Prop,Q (some b) st->wpS (model prog w) A E s (lt' x key) Q st)/\(left=false->∀ Q:Option Bool->SortSt->Prop,Q (some (!b)) st->wpS (model prog w) A E s (lt' key x) Q st)
theorem IM {left:Bool} {key:Keyed} {arr:Array Keyed} {base n i:Nat} {st:SortSt} {B:Nat->Bool} {Q:Option Bool->SortSt->Prop} (hz:base+n<=arr.size) (hB:∀ i x,i < n->arr[base+i]?=some x->BeyOk prog w A E s left key st x (B i)) (hi:i < n) (h:Q (some (B i)) st):wpS (model prog w) A E s (beyE left key arr base i) Q st:=by
 unfold beyE;have hl:base+i < arr.size:=by omega
 refine wpS_bind ?_;rw [elem'_eq,Array.getElem?_eq_getElem hl];refine wpS_pure ?_;obtain ⟨h1,h2⟩:=hB i arr[base+i] hi (Array.getElem?_eq_getElem hl);cases left with
 | true =>
  rw [if_pos rfl];exact h1 rfl _ h
 | false =>
  rw [if_neg (by simp)];refine wpS_bind (h2 rfl _ (wpS_pure ?_));show Q (some (!!B i)) st;rw [Bool.not_not];exact h
theorem up_ok {γ:Type} {f:Nat->(Option γ×Nat×Nat)->StateT SortSt Sem (ForInStep (Option γ×Nat×Nat))} {m n:Nat} {C:Nat->Bool} {st:SortSt} (h1:m<=n+1)
  (hs:∀ x l o Q',(m<=o->Q' (.done (none,l,o)) st)->(o < m->C o=true->Q' (.yield (none,o,2 * o+1)) st)->(o < m->C o=false->Q' (.done (none,l,o)) st)->wpS (model prog w) A E s (f x (none,l,o)) Q' st) :
  wpS (model prog w) A E s (forIn [0:n] (none,0,1) f) (fun r st'=>st'=st/\∃ l o,r=(none,l,o)/\l < o/\(l=0\/(l < m/\C l=true))/\(m<=o\/C o=false)) st:=by
 refine wpS_forRange (I:=fun x r st'=>st'=st/\∃ l o,r=(none,l,o)/\x < o/\l < o/\(l=0\/(l < m/\C l=true))) ?_ ?_ ⟨rfl,0,1,rfl,by omega,by omega,.inl rfl⟩
 ·rintro x c st' _ _ ⟨rfl,l,o,rfl,hx,hl,hc⟩;refine hs x l o _ (fun z=>?_) (fun z y=>?_) (fun z y=>?_)
  ·exact ⟨rfl,l,o,rfl,hl,hc,.inl z⟩
  ·exact ⟨rfl,o,2 * o+1,rfl,by omega,by omega,.inr ⟨z,y⟩⟩
  ·exact ⟨rfl,l,o,rfl,hl,hc,.inr y⟩
 ·rintro c st' ⟨rfl,l,o,rfl,hx,hl,hc⟩;exact ⟨rfl,l,o,rfl,hl,hc,.inl (by omega)⟩
theorem Rb {γ:Type} {f:Nat->(Option γ×Nat×Nat)->StateT SortSt Sem (ForInStep (Option γ×Nat×Nat))} {n lo hi:Nat} {B:Nat->Bool} {st:SortSt} (hn:hi<=n) (hl:lo<=hi) (mono:∀ i j,i<=j->j < n->B j=true->B i=true) (h1:∀ i,i < lo->B i=true) (h2:∀ i,hi<=i->i < n->B i=false)
  (hs:∀ x l h Q',(h<=l->Q' (.done (none,l,h)) st)->(l < h->h<=n->B (l+(h - l) / 2)=true->Q' (.yield (none,l+(h - l) / 2+1,h)) st)->(l < h->h<=n->B (l+(h - l) / 2)=false->Q' (.yield (none,l,l+(h - l) / 2)) st)->(l < h->h<=n)->wpS (model prog w) A E s (f x (none,l,h)) Q' st) :
  wpS (model prog w) A E s (forIn [0:n] (none,lo,hi) f) (fun r st'=>st'=st/\∃ l h,r=(none,l,h)/\h<=n/\(∀ i,i < h->B i=true)/\(∀ i,h<=i->i < n->B i=false)) st:=by
 refine wpS_forRange (I:=fun x r st'=>st'=st/\∃ l h,r=(none,l,h)/\l<=h/\h - l<=n - x/\h<=n/\(∀ i,i < l->B i=true)/\(∀ i,h<=i->i < n->B i=false)) ?_ ?_ ⟨rfl,lo,hi,rfl,hl,by omega,hn,h1,h2⟩
 ·rintro x c st' _ hx ⟨rfl,l,h,rfl,lh,me,hh,i1,i2⟩;refine hs x l h _ (fun z=>?_) (fun z _ y=>?_) (fun z _ y=>?_) (fun _=>hh)
  ·exact ⟨rfl,l,h,rfl,hh,fun i hi=>i1 i (by omega),i2⟩
  ·exact ⟨rfl,_,h,rfl,by omega,by omega,hh,fun i hi=>mono i _ (by omega) (by omega) y,i2⟩
  ·refine ⟨rfl,l,_,rfl,by omega,by omega,by omega,i1,fun i hi hn=>?_⟩;cases e:B i with
   | false=>rfl
   | true=>rw [mono _ i hi hn e] at y; cases y
 ·rintro c st' ⟨rfl,l,h,rfl,lh,me,hh,i1,i2⟩;exact ⟨rfl,l,h,rfl,hh,fun i hi=>i1 i (by omega),i2⟩
theorem Jv {left:Bool} {key:Keyed} {arr:Array Keyed} {base n hint:Nat} {st:SortSt} {B:Nat->Bool} {Q:Option Nat->SortSt->Prop} (hz:base+n<=arr.size) (hh:hint < n) (hB:∀ i x,i < n->arr[base+i]?=some x->BeyOk prog w A E s left key st x (B i)) (mono:∀ i j,i<=j->j < n->B j=true->B i=true) (k:∀ h,h<=n->(∀ i,i < h->B i=true)->(∀ i,h<=i->i < n->B i=false)->Q (some h) st):wpS (model prog w) A E s (Lk left key arr base n hint) Q st:=by
 have monoF:∀ i j,i<=j->j < n->B i=false->B j=false:=fun i j h1 h2 z=>by
  cases e:B j with
  | false=>rfl
  | true=>rw [mono i j h1 h2 e] at z; cases z
 refine wpS_bind ?_;refine IM (i:=hint) hz hB hh ?_;dsimp only;cases hb:B hint with
 | true =>
  rw [if_pos rfl];refine wpS_bind (wpS_mono (up_ok (m:=n - hint) (C:=fun o=>B (hint+o)) (by omega) ?_) ?_)
  ·intro x l o Q' q1 q2 q3;dsimp only;by_cases z:o ≥ n - hint
   ·rw [if_pos z];exact wpS_pure (q1 z)
   rw [if_neg z];refine wpS_bind (IM (i:=hint+o) hz hB (by omega) ?_);dsimp only;cases e:B (hint+o) with
   | true=>exact wpS_pure (q2 (by omega) e)
   | false=>exact wpS_pure (q3 (by omega) e)
  ·rintro r st' ⟨rfl,l,o,rfl,lo,hl,ho⟩;dsimp only;refine wpS_bind (wpS_mono (Rb (lo:=hint+l+1) (hi:=hint+min o (n - hint)) (by omega) ?_ mono ?_ ?_ ?_) ?_)
   ·rcases hl with z | z<;>omega
   ·intro i hi;rcases hl with z | z
    ·exact mono i hint (by omega) hh hb
    ·exact mono i (hint+l) (by omega) (by omega) z.2
   ·intro i hi hn;rcases ho with z | z
    ·omega
    ·by_cases y:n - hint<=o
     ·omega
     ·exact monoF (hint+o) i (by omega) hn z
   ·intro x l h Q' q1 q2 q3 q4;dsimp only;by_cases z:l ≥ h
    ·rw [if_pos z];exact wpS_pure (q1 z)
    rw [if_neg z];have:=q4 (by omega);refine wpS_bind (IM (i:=l+(h - l) / 2) hz hB (by omega) ?_);dsimp only;cases e:B (l+(h - l) / 2) with
    | true=>exact wpS_pure (q2 (by omega) this e)
    | false=>exact wpS_pure (q3 (by omega) this e)
   ·rintro r st' ⟨rfl,l',h,rfl,hn,i1,i2⟩;exact wpS_pure (k h hn i1 i2)
 | false =>
  rw [if_neg (by simp)];refine wpS_bind (wpS_mono (up_ok (m:=hint+1) (C:=fun o=>!B (hint - o)) (by omega) ?_) ?_)
  ·intro x l o Q' q1 q2 q3;dsimp only;by_cases z:o ≥ hint+1
   ·rw [if_pos z];exact wpS_pure (q1 z)
   rw [if_neg z];refine wpS_bind (IM (i:=hint - o) hz hB (by omega) ?_);dsimp only;cases e:B (hint - o) with
   | true=>exact wpS_pure (q3 (by omega) (by rw [e]; rfl))
   | false=>exact wpS_pure (q2 (by omega) (by rw [e]; rfl))
  ·rintro r st' ⟨rfl,l,o,rfl,lo,hl,ho⟩;dsimp only;have hlF:B (hint - l)=false:=by
    rcases hl with z | z
    ·rw [z]; exact hb
    ·simpa using z.2
   refine wpS_bind (wpS_mono (Rb (lo:=hint+1 - min o (hint+1)) (hi:=hint - l) (by omega) ?_ mono ?_ ?_ ?_) ?_)
   ·rcases hl with z | z<;>omega
   ·intro i hi;rcases ho with z | z
    ·omega
    ·by_cases y:hint+1<=o
     ·omega
     ·have z:B (hint - o)=true:=by simpa using z
      exact mono i (hint - o) (by omega) (by omega) z
   ·intro i hi hn;exact monoF (hint - l) i hi hn hlF
   ·intro x l h Q' q1 q2 q3 q4;dsimp only;by_cases z:l ≥ h
    ·rw [if_pos z];exact wpS_pure (q1 z)
    rw [if_neg z];have:=q4 (by omega);refine wpS_bind (IM (i:=l+(h - l) / 2) hz hB (by omega) ?_);dsimp only;cases e:B (l+(h - l) / 2) with
    | true=>exact wpS_pure (q2 (by omega) this e)
    | false=>exact wpS_pure (q3 (by omega) this e)
   ·rintro r st' ⟨rfl,l',h,rfl,hn,i1,i2⟩;exact wpS_pure (k h hn i1 i2)
end
end PyProof.Rows
namespace PyProof.Rows
open PySem
def SoA (rk:Keyed->Nat) (a:Array Keyed):Prop:=∀ (i j:Nat) (x y:Keyed),i<=j->a[i]?=some x->a[j]?=some y->rk x<=rk y
structure MI (rk:Keyed->Nat) (a b out:Array Keyed) (ia ib:Nat):Prop where
 pm:out.toList.Perm (a.toList.take ia ++ b.toList.take ib)
 so:out.toList.Pairwise (fun x y=>rk x<=rk y)
 ba:∀ o ∈ out.toList,∀ i x,ia<=i->a[i]?=some x->rk o<=rk x
 bb:∀ o ∈ out.toList,∀ i x,ib<=i->b[i]?=some x->rk o<=rk x
section
variable {rk:Keyed->Nat} {a b out:Array Keyed} {ia ib:Nat}
theorem MI.nil:MI rk a b #[] 0 0:=⟨by simp,by simp,fun o h=>by simp at h,fun o h=>by simp at h⟩
theorem Ji {a:Array Keyed} {i:Nat} {x:Keyed} (h:a[i]?=some x):a.toList.take (i+1)=a.toList.take i ++ [x]:=by
 rw [List.take_add_one,Array.getElem?_toList,h];rfl
theorem MI.pushA {x:Keyed} (h:MI rk a b out ia ib) (sa:SoA rk a) (e:a[ia]?=some x) (le:∀ j y,ib<=j->b[j]?=some y->rk x<=rk y):MI rk a b (out.push x) (ia+1) ib:=by
 have me:∀ o,o ∈ (out.push x).toList->o ∈ out.toList\/o=x:=fun o ho=>by
  rw [Array.toList_push,List.mem_append,List.mem_singleton] at ho;exact ho
 refine ⟨?_,?_,fun o ho i y hi ey=>?_,fun o ho i y hi ey=>?_⟩
 ·rw [Array.toList_push,Ji e,List.append_assoc];refine (h.pm.append_right _).trans ?_;rw [List.append_assoc];exact List.Perm.append_left _ List.perm_append_comm
 ·rw [Array.toList_push,List.pairwise_append];refine ⟨h.so,by simp,fun o ho y hy=>?_⟩;rw [List.mem_singleton.mp hy];exact h.ba o ho ia x (Nat.le_refl _) e
 ·rcases me o ho with z | rfl
  ·exact h.ba o z i y (by lia) ey
  ·exact sa ia i _ y (by lia) e ey
 ·rcases me o ho with z | rfl
  ·exact h.bb o z i y hi ey
  ·exact le i y hi ey
theorem MI.pushB {x:Keyed} (h:MI rk a b out ia ib) (sb:SoA rk b) (e:b[ib]?=some x) (le:∀ j y,ia<=j->a[j]?=some y->rk x<=rk y):MI rk a b (out.push x) ia (ib+1):=by
 have me:∀ o,o ∈ (out.push x).toList->o ∈ out.toList\/o=x:=fun o ho=>by
  rw [Array.toList_push,List.mem_append,List.mem_singleton] at ho;exact ho
 refine ⟨?_,?_,fun o ho i y hi ey=>?_,fun o ho i y hi ey=>?_⟩
 ·rw [Array.toList_push,Ji e,<-List.append_assoc];exact h.pm.append_right _
 ·rw [Array.toList_push,List.pairwise_append];refine ⟨h.so,by simp,fun o ho y hy=>?_⟩;rw [List.mem_singleton.mp hy];exact h.bb o ho ib x (Nat.le_refl _) e
 ·rcases me o ho with z | rfl
  ·exact h.ba o z i y hi ey
  ·exact le i y hi ey
 ·rcases me o ho with z | rfl
  ·exact h.bb o z i y (by lia) ey
  ·exact sb ib i _ y (by lia) e ey
theorem Ml {a:Array Keyed} {i k:Nat} (h:i+k < a.size):a.extract i (i+(k+1))=(a.extract i (i+k)).push a[i+k]:=by
 apply Array.toList_inj.mp;rw [Array.toList_push,Array.toList_extract,Array.toList_extract];simp only [List.extract,Nat.add_sub_cancel_left];rw [List.take_add_one];congr 1;rw [List.getElem?_drop,Array.getElem?_toList,Array.getElem?_eq_getElem h];rfl
theorem MI.addA (sa:SoA rk a) (h:MI rk a b out ia ib):∀ {k:Nat},ia+k<=a.size->(∀ i x,ia<=i->i < ia+k->a[i]?=some x->∀ j y,ib<=j->b[j]?=some y->rk x<=rk y)->MI rk a b (out ++ a.extract ia (ia+k)) (ia+k) ib
 | 0,_,_=>by rw [Nat.add_zero,Array.extract_eq_empty_of_le (by lia),Array.append_empty]; exact h
 | k+1,hk,le=>by
  have hl:ia+k < a.size:=by lia
  have:=(MI.addA sa h (k:=k) (by lia) (fun i x h1 h2=>le i x h1 (by lia))).pushA sa (Array.getElem?_eq_getElem hl) (le _ _ (by lia) (by lia) (Array.getElem?_eq_getElem hl));rw [Ml hl,Array.append_push];exact this
theorem MI.addB (sb:SoA rk b) (h:MI rk a b out ia ib):∀ {k:Nat},ib+k<=b.size->(∀ i x,ib<=i->i < ib+k->b[i]?=some x->∀ j y,ia<=j->a[j]?=some y->rk x<=rk y)->MI rk a b (out ++ b.extract ib (ib+k)) ia (ib+k)
 | 0,_,_=>by rw [Nat.add_zero,Array.extract_eq_empty_of_le (by lia),Array.append_empty]; exact h
 | k+1,hk,le=>by
  have hl:ib+k < b.size:=by lia
  have:=(MI.addB sb h (k:=k) (by lia) (fun i x h1 h2=>le i x h1 (by lia))).pushB sb (Array.getElem?_eq_getElem hl) (le _ _ (by lia) (by lia) (Array.getElem?_eq_getElem hl));rw [Ml hl,Array.append_push];exact this
structure Mgd (rk:Keyed->Nat) (a b out:Array Keyed):Prop where
 pm:out.toList.Perm (a.toList ++ b.toList)
 so:out.toList.Pairwise (fun x y=>rk x<=rk y)
theorem MI.whole (h:MI rk a b out a.size b.size):Mgd rk a b out:=by
 refine ⟨?_,h.so⟩;have:=h.pm;rw [show a.size=a.toList.length from Array.length_toList.symm,show b.size=b.toList.length from Array.length_toList.symm,List.take_length,List.take_length] at this;exact this
theorem MI.doneA (sa:SoA rk a) (h:MI rk a b out ia b.size) (ha:ia<=a.size):Mgd rk a b (out ++ a.extract ia a.size ++ b.extract b.size b.size):=by
 have h1:=MI.addA sa h (k:=a.size - ia) (by lia) fun i x _ _ _ j y hj ey=>by
  rw [Array.getElem?_eq_none (by lia)] at ey;cases ey
 rw [show ia+(a.size - ia)=a.size by lia] at h1;have e:b.extract b.size b.size=#[]:=by simp
 rw [e,Array.append_empty];exact h1.whole
theorem MI.doneB (sb:SoA rk b) (h:MI rk a b out a.size ib) (hb:ib<=b.size):Mgd rk a b (out ++ a.extract a.size a.size ++ b.extract ib b.size):=by
 have e:a.extract a.size a.size=#[]:=by simp
 rw [e,Array.append_empty];have h1:=MI.addB sb h (k:=b.size - ib) (by lia) fun i x _ _ _ j y hj ey=>by
  rw [Array.getElem?_eq_none (by lia)] at ey;cases ey
 rw [show ib+(b.size - ib)=b.size by lia] at h1;exact h1.whole
theorem MI.lastA (sa:SoA rk a) (sb:SoA rk b) (h:MI rk a b out ia ib) (ha:ia<=a.size) (hb:ib<=b.size) (le:∀ i x,ib<=i->b[i]?=some x->∀ j y,ia<=j->a[j]?=some y->rk x<=rk y):Mgd rk a b (out ++ b.extract ib b.size ++ a.extract ia a.size):=by
 have h1:=MI.addB sb h (k:=b.size - ib) (by lia) fun i x h1 _=>le i x h1;rw [show ib+(b.size - ib)=b.size by lia] at h1;have h2:=MI.addA sa h1 (k:=a.size - ia) (by lia) fun i x _ _ _ j y hj ey=>by
  rw [Array.getElem?_eq_none (by lia)] at ey;cases ey
 rw [show ia+(a.size - ia)=a.size by lia] at h2;exact h2.whole
end
end PyProof.Rows
namespace PyProof.Rows
open PySem
section
variable {prog:Program} {w:World} {A:Around} {E:Value->Shared->Prop} {s:Shared} {rk:Keyed->Nat} {S:Keyed->Prop} {κ:SortKind}
def IS (prog:Program) (w:World) (A:Around) (E:Value->Shared->Prop) (s:Shared) (rk:Keyed->Nat) (S:Keyed->Prop) (κ:SortKind):Prop:=∀ x y st (Q:Option Bool->SortSt->Prop),S x->S y->kindOf st=κ->Q (some (decide (rk x < rk y))) st->wpS (model prog w) A E s (lt' x y) Q st
def DB (st st':SortSt):Prop:=∃ g,st'=SortSt.mk' (kindOf st) (arrOf st) (pendingOf st) g (failedOf st)
theorem DB.refl (st:SortSt):DB st st:=⟨gallopOf st,rfl⟩
theorem DB.kind {st st':SortSt} (h:DB st st'):kindOf st'=kindOf st:=by
 obtain ⟨g,rfl⟩:=h;rfl
theorem CM {arr:Array Keyed} {i:Nat} {x:Keyed} {st:SortSt} {Q:Keyed->SortSt->Prop} (e:arr[i]?=some x) (h:Q x st):wpS (model prog w) A E s (elem' arr i) Q st:=by
 rw [elem'_eq,e];exact wpS_pure h
theorem Gn {key:Keyed} {arr:Array Keyed} {base n hint:Nat} {st:SortSt} {Q:Option Nat->SortSt->Prop} (hl:IS prog w A E s rk S κ) (hk:kindOf st=κ) (Sk:S key) (Sa:∀ (i:Nat) x,base<=i->i < base+n->arr[i]?=some x->S x) (so:∀ (i j:Nat) x y,base<=i->i<=j->j < base+n->arr[i]?=some x->arr[j]?=some y->rk x<=rk y) (hz:base+n<=arr.size) (hh:hint < n)
  (k:∀ h,h<=n->(∀ (i:Nat) x,base<=i->i < base+h->arr[i]?=some x->rk x<=rk key)->(∀ (i:Nat) x,base+h<=i->i < base+n->arr[i]?=some x->rk key < rk x)->Q (some h) st):wpS (model prog w) A E s (Lk false key arr base n hint) Q st:=by
 refine Jv (B:=fun i=>(arr[base+i]?).any fun x=>!decide (rk key < rk x)) hz hh (fun i x hi e=>?_) (fun i j ij jn z=>?_) fun h hn h1 h2=>?_
 ·refine ⟨(fun z=>by cases z),fun _ Q' q=>hl _ _ _ _ Sk (Sa _ x (by omega) (by omega) e) hk ?_⟩;have:(some (decide (rk key < rk x)))=some (!((arr[base+i]?).any fun x=>!decide (rk key < rk x))):=by rw [e]; simp
  rw [this];exact q
 ·have e1:arr[base+i]?=some arr[base+i]:=Array.getElem?_eq_getElem (by omega);have e2:arr[base+j]?=some arr[base+j]:=Array.getElem?_eq_getElem (by omega);have:=so _ _ _ _ (by omega) (by omega:base+i<=base+j) (by omega) e1 e2;simp only [e1,e2,Option.any_some,Bool.not_eq_true',decide_eq_false_iff_not] at z ⊢;omega
 ·refine k h hn (fun i x b1 b2 e=>?_) (fun i x b1 b2 e=>?_)
  ·have:=h1 (i - base) (by omega);rw [show base+(i - base)=i by omega,e] at this;simp only [Option.any_some,Bool.not_eq_true',decide_eq_false_iff_not] at this;omega
  ·have:=h2 (i - base) (by omega) (by omega);rw [show base+(i - base)=i by omega,e] at this
   simpa using this
theorem IG {key:Keyed} {arr:Array Keyed} {base n hint:Nat} {st:SortSt} {Q:Option Nat->SortSt->Prop} (hl:IS prog w A E s rk S κ) (hk:kindOf st=κ) (Sk:S key) (Sa:∀ (i:Nat) x,base<=i->i < base+n->arr[i]?=some x->S x) (so:∀ (i j:Nat) x y,base<=i->i<=j->j < base+n->arr[i]?=some x->arr[j]?=some y->rk x<=rk y) (hz:base+n<=arr.size) (hh:hint < n)
  (k:∀ h,h<=n->(∀ (i:Nat) x,base<=i->i < base+h->arr[i]?=some x->rk x < rk key)->(∀ (i:Nat) x,base+h<=i->i < base+n->arr[i]?=some x->rk key<=rk x)->Q (some h) st):wpS (model prog w) A E s (Lk true key arr base n hint) Q st:=by
 refine Jv (B:=fun i=>(arr[base+i]?).any fun x=>decide (rk x < rk key)) hz hh (fun i x hi e=>?_) (fun i j ij jn z=>?_) fun h hn h1 h2=>?_
 ·refine ⟨fun _ Q' q=>hl _ _ _ _ (Sa _ x (by omega) (by omega) e) Sk hk ?_,fun z=>by cases z⟩;have:(some (decide (rk x < rk key)))=some ((arr[base+i]?).any fun x=>decide (rk x < rk key)):=by rw [e]; simp
  rw [this];exact q
 ·have e1:arr[base+i]?=some arr[base+i]:=Array.getElem?_eq_getElem (by omega);have e2:arr[base+j]?=some arr[base+j]:=Array.getElem?_eq_getElem (by omega);have:=so _ _ _ _ (by omega) (by omega:base+i<=base+j) (by omega) e1 e2;simp only [e1,e2,Option.any_some,decide_eq_true_eq] at z ⊢;omega
 ·refine k h hn (fun i x b1 b2 e=>?_) (fun i x b1 b2 e=>?_)
  ·have:=h1 (i - base) (by omega);rw [show base+(i - base)=i by omega,e] at this
   simpa using this
  ·have:=h2 (i - base) (by omega) (by omega);rw [show base+(i - base)=i by omega,e] at this
   simpa using this
end
end PyProof.Rows
namespace PyProof.Rows
open PySem
def QC:Array Keyed->Array Keyed->StateT SortSt Sem (Array Keyed):=sortPriv% PySem.Builtin.mergeLo
structure Lv (rk:Keyed->Nat) (a b out:Array Keyed) (ia ib:Nat):Prop where
 mi:MI rk a b out ia ib
 la:ia+1 < a.size
 lb:ib < b.size
section
variable {prog:Program} {w:World} {A:Around} {E:Value->Shared->Prop} {s:Shared} {rk:Keyed->Nat} {S:Keyed->Prop} {κ:SortKind}
theorem wpI {M:Model} {α:Type} {c:Prop} [Decidable c] {p q:StateT SortSt Sem α} {Q:α->SortSt->Prop} {st:SortSt} (h1:c->wpS M A E s p Q st) (h2:¬ c->wpS M A E s q Q st):wpS M A E s (if c then p else q) Q st:=by
 by_cases h:c
 ·rw [if_pos h];exact h1 h
 ·rw [if_neg h];exact h2 h
theorem wpE {M:Model} {α:Type} {x y:Nat} {p q:StateT SortSt Sem α} {Q:α->SortSt->Prop} {st:SortSt} (h1:x=y->wpS M A E s p Q st) (h2:x≠y->wpS M A E s q Q st):wpS M A E s (if (x == y)=true then p else q) Q st:=wpI (fun z=>h1 (eq_of_beq z)) fun z=>h2 fun e=>z (beq_iff_eq.mpr e)
theorem wpJ {M:Model} {α β:Type} {c:Prop} [Decidable c] {jp:Unit->β->StateT SortSt Sem α} {x y:β} {Q:α->SortSt->Prop} {st:SortSt} (h:∀ m,wpS M A E s (jp () m) Q st):wpS M A E s (if c then jp () x else jp () y) Q st:=wpI (fun _=>h x) fun _=>h y
theorem wpC {M:Model} {α:Type} {m:StateT SortSt Sem α} {Q:α->SortSt->Prop} {st:SortSt} (P:(α->SortSt->Prop)->SortSt->Prop) (h:P Q st) (k:P Q st->wpS M A E s m Q st):wpS M A E s m Q st:=k h
theorem wpR {M:Model} {α:Type} {m:StateT SortSt Sem α} {Q:α->SortSt->Prop} {st:SortSt} (F:(α->SortSt->Prop)->Prop) (h:F Q) (k:∀ R,F R->wpS M A E s m R st):wpS M A E s m Q st:=k Q h
theorem MZ {a b:Array Keyed} {st:SortSt} {Q:Array Keyed->SortSt->Prop} (hl:IS prog w A E s rk S κ) (hk:kindOf st=κ) (na:1<=a.size) (nb:1<=b.size) (Sa:∀ (i:Nat) x,a[i]?=some x->S x) (Sb:∀ (i:Nat) x,b[i]?=some x->S x) (sa:SoA rk a) (sb:SoA rk b) (first:∀ x y,b[0]?=some x->a[0]?=some y->rk x<=rk y) (last:∀ (i:Nat) x y,b[i]?=some x->a[a.size - 1]?=some y->rk x<=rk y) (k:∀ out st',Mgd rk a b out->DB st st'->Q out st'):wpS (model prog w) A E s (QC a b) Q st:=by
 have atA:∀ {i:Nat},i < a.size->∃ x,a[i]?=some x:=fun {i} h=>⟨_,Array.getElem?_eq_getElem h⟩
 have atB:∀ {i:Nat},i < b.size->∃ x,b[i]?=some x:=fun {i} h=>⟨_,Array.getElem?_eq_getElem h⟩
 have lastL:∀ {ia:Nat},ia+1=a.size->∀ {ib:Nat} (i:Nat) x,ib<=i->b[i]?=some x->∀ (j:Nat) y,ia<=j->a[j]?=some y->rk x<=rk y:=fun {ia} e {ib} i x _ ex j y hj ey=>by
  have jl:=(Array.getElem?_eq_some_iff.mp ey).1;have:j=a.size - 1:=by omega
  subst this;exact last i x y ex ey
 refine wpS_bind (wpS_lift (wpAny_rule ⟨rfl,?_⟩));obtain ⟨x0,e0⟩:=atB nb;refine wpS_bind (CM e0 ?_);have m0:MI rk a b #[x0] 0 1:=by
  have:=MI.pushB (MI.nil (rk:=rk) (a:=a) (b:=b)) sb e0 fun j y _ ey=>by
   obtain ⟨y0,f0⟩:=atA na;exact Nat.le_trans (first _ _ e0 f0) (sa 0 j _ _ (Nat.zero_le _) f0 ey)
  exact this
 refine wpE (fun z1=>?_) fun z1=>?_
 ·refine wpS_pure (k _ _ ?_ (DB.refl st));rw [z1] at m0;have:=m0.doneA sa (Nat.zero_le _);rw [<-z1] at this ⊢;exact this
 refine wpE (fun z2=>?_) fun z2=>?_
 ·exact wpS_pure (k _ _ (m0.lastA sa sb (Nat.zero_le _) nb (lastL z2)) (DB.refl st))
 have z1:1 < b.size:=by lia
 have z2:0+1 < a.size:=by lia
 refine wpS_bind (wpS_get ?_);refine wpS_bind (wpS_mono (wpS_forRange (I:=fun x r st'=>DB st st'/\∃ out ia ib g,r=(none,out,ia,ib,g)/\Lv rk a b out ia ib/\x<=ia+ib) (Q:=fun r st'=>DB st st'/\∃ o t,r=(some o,t)/\Mgd rk a b o) ?_ ?_ ⟨DB.refl st,_,_,_,_,rfl,⟨m0,z2,z1⟩,Nat.zero_le _⟩) ?_)
 ·rintro x c st1 _ hx ⟨sy,out,ia,ib,g,rfl,lv,le⟩;have hk1:kindOf st1=κ:=by rw [sy.kind,hk]
  refine wpS_bind (wpS_mono (wpS_forRange (I:=fun x r st'=>st'=st1/\∃ out' ia' ib' ac bc,r=(none,out',ia',ib',ac,bc)/\Lv rk a b out' ia' ib'/\ia+ib+x<=ia'+ib') (Q:=fun r st'=>st'=st1/\((∃ o t,r=(some o,t)/\Mgd rk a b o)\/∃ out' ia' ib' ac bc,r=(none,out',ia',ib',ac,bc)/\Lv rk a b out' ia' ib'/\ia+ib+1<=ia'+ib')) ?_ ?_ ⟨rfl,out,ia,ib,0,0,rfl,lv,Nat.le_refl _⟩) ?_)
  ·rintro x' c' st2 _ hx' ⟨rfl,out',ia',ib',ac,bc,rfl,lv',le'⟩;obtain ⟨mi0,la0,lb0⟩:=lv';obtain ⟨y,ey⟩:=atB lb0;obtain ⟨z,ez⟩:=atA (Nat.lt_of_succ_lt la0);refine wpS_bind (CM ey (wpS_bind (CM ez (wpS_bind (hl _ _ _ _ (Sb _ _ ey) (Sa _ _ ez) hk1 ?_)))));by_cases lt:rk y < rk z
   ·rw [decide_eq_true lt];have mi:=mi0.pushB sb ey fun j y' hj ey'=>by
     have:=sa _ _ _ _ hj ez ey';lia
    refine wpI (fun _=>wpS_bind (CM ey (wpE (fun q=>wpS_pure ⟨rfl,.inl ⟨_,_,rfl,?_⟩⟩) fun q=>?_))) fun h=>absurd rfl h
    ·rw [q] at mi ⊢;exact mi.doneA sa (by lia)
    have lv2:Lv rk a b (out'.push y) ia' (ib'+1):=⟨mi,la0,by lia⟩
    exact wpI (fun _=>wpS_pure ⟨rfl,.inr ⟨_,_,_,_,_,rfl,lv2,by lia⟩⟩) fun _=>wpS_pure ⟨rfl,_,_,_,_,_,rfl,lv2,by lia⟩
   ·rw [decide_eq_false lt];have mi:=mi0.pushA sa ez fun j y' hj ey'=>by
     have:=sb _ _ _ _ hj ey ey';lia
    refine wpI (fun h=>nomatch h) fun _=>wpS_bind (CM ez (wpE (fun q=>wpS_pure ⟨rfl,.inl ⟨_,_,rfl,mi.lastA sa sb (by lia) (Nat.le_of_lt lb0) (lastL q)⟩⟩) fun q=>?_));have lv2:Lv rk a b (out'.push z) (ia'+1) ib':=⟨mi,by lia,lb0⟩
    exact wpI (fun _=>wpS_pure ⟨rfl,.inr ⟨_,_,_,_,_,rfl,lv2,by lia⟩⟩) fun _=>wpS_pure ⟨rfl,_,_,_,_,_,rfl,lv2,by lia⟩
  ·rintro c' st2 ⟨rfl,out',ia',ib',ac,bc,rfl,lv',le'⟩;have:=lv'.la;have:=lv'.lb;lia
  rintro r st2 ⟨rfl,⟨o,t,rfl,mg⟩ | ⟨out',ia',ib',ac,bc,rfl,lv',le'⟩⟩
  ·exact wpS_pure ⟨sy,_,_,rfl,mg⟩
  refine wpS_bind (wpS_lift (wpAny_rule ⟨rfl,?_⟩));refine wpS_bind (wpS_mono (wpS_forRange (I:=fun x r st'=>DB st st'/\∃ out2 ia2 ib2 g2 ac2 bc2,r=(none,out2,ia2,ib2,g2,ac2,bc2)/\Lv rk a b out2 ia2 ib2/\ia'+ib'+x<=ia2+ib2) (Q:=fun r st'=>DB st st'/\((∃ o t,r=(some o,t)/\Mgd rk a b o)\/∃ out2 ia2 ib2 g2 ac2 bc2,r=(none,out2,ia2,ib2,g2,ac2,bc2)/\Lv rk a b out2 ia2 ib2/\ia'+ib'<=ia2+ib2)) ?_ ?_ ⟨sy,out',ia',ib',_,_,_,rfl,lv',Nat.le_refl _⟩) ?_)
  ·rintro x2 c2 st3 _ hx2 ⟨sy2,out2,ia2,ib2,g2,ac2,bc2,rfl,lv2,le2⟩;dsimp -zeta only
   extract_lets s1 out3 s2 ia3 s3 ib3 s4 m3 s5 ac3 bc3 ib4 jp m4
   refine wpR (fun R=>(∀ o t st',Mgd rk a b o->DB st st'->R (.done (some o,t)) st')/\∀ o i j g p q st',Lv rk a b o i j->ia'+ib'+(x2+1)<=i+j->DB st st'->R (.done (none,o,i,j,g,p,q)) st'/\R (.yield (none,o,i,j,g,p,q)) st') ⟨fun o t st' m s=>⟨s,.inl ⟨_,_,rfl,m⟩⟩,fun o i j g p q st' l e s=>⟨⟨s,.inr ⟨_,_,_,_,_,_,rfl,l,by lia⟩⟩,s,_,_,_,_,_,_,rfl,l,e⟩⟩ fun R ⟨Rd,Rn⟩=>?_;refine wpJ fun m=>?_;have sy3:DB st (SortSt.mk' (kindOf st3) (arrOf st3) (pendingOf st3) m (failedOf st3)):=by
    obtain ⟨gg,rfl⟩:=sy2;exact ⟨_,rfl⟩
   have hk3:=sy3.kind.trans hk;obtain ⟨mi0,la2,lb2⟩:=lv2;obtain ⟨y,ey⟩:=atB lb2;refine wpS_bind (wpS_modify (wpS_bind (CM ey (wpS_bind (Gn hl hk3 (Sb _ _ ey) (fun i x _ _ e=>Sa i x e) (fun i j x y _ h _=>sa i j x y h) (by lia) (by lia) fun kk hkk h1 h2=>?_)))));dsimp -zeta only
   extract_lets ac4 jp2 out4 ia4
   have h2:∀ (i:Nat) x,ia2+kk<=i->a[i]?=some x->rk y < rk x:=fun i x hi ex=>h2 i x hi (by have:=(Array.getElem?_eq_some_iff.mp ex).1; lia) ex;refine wpC (fun Q st=>∀ o i,MI rk a b o i ib2->i+1 < a.size->ia2<=i->(∀ (i':Nat) x,i<=i'->a[i']?=some x->rk y < rk x)->wpS (model prog w) A E s (jp2 () o i) Q st) (fun o i mi2 li lei gt=>?_) fun hj2=>?_
   ·have mi3:=mi2.pushB sb ey fun j y' hj ey'=>Nat.le_of_lt (gt j y' hj ey');refine wpS_bind (CM ey (wpE (fun q3=>wpS_pure (Rd _ _ _ ?_ sy3)) fun q3=>?_))
    ·have q3:ib2+1=b.size:=q3;show Mgd rk a b (o.push y ++ a.extract i a.size ++ b.extract (ib2+1) b.size);rw [q3] at mi3 ⊢;exact mi3.doneA sa (by lia)
    have q3:ib2+1≠b.size:=q3;obtain ⟨z,ez⟩:=atA (i:=i) (by lia);refine wpS_bind (CM ez (wpS_bind (IG hl hk3 (Sa _ _ ez) (fun i x _ _ e=>Sb i x e) (fun i j x y _ h _=>sb i j x y h) (by show ib2+1+(b.size - (ib2+1))<=b.size; lia) (by show 0 < b.size - (ib2+1); lia) fun k2 hk2 h3 h4=>?_)));dsimp -zeta only
    extract_lets bc4 ia5 jp3 out5 ib5
    have hk2:k2<=b.size - (ib2+1):=hk2;have h4:∀ (j:Nat) x,ib2+1+k2<=j->b[j]?=some x->rk z<=rk x:=fun j x hj ex=>h4 j x hj (by have:=(Array.getElem?_eq_some_iff.mp ex).1; show j < ib2+1+(b.size - (ib2+1)); lia) ex;refine wpC (fun Q st=>∀ o j,MI rk a b o i j->ib2+1<=j->j < b.size->(∀ (j':Nat) x,j<=j'->b[j']?=some x->rk z<=rk x)->wpS (model prog w) A E s (jp3 () o j) Q st) (fun o j mi4 lj ljb ge=>?_) fun hj3=>?_
    ·have mi5:=mi4.pushA sa ez ge;refine wpS_bind (CM ez (wpE (fun q5=>wpS_pure (Rd _ _ _ (mi5.lastA sa sb (by lia) (by lia) (lastL q5)) sy3)) fun q5=>?_));have lv3:Lv rk a b _ (i+1) j:=⟨mi5,by lia,ljb⟩
     exact wpI (fun _=>wpS_pure (Rn _ _ _ _ _ _ _ lv3 (by lia) sy3).1) fun _=>wpS_pure (Rn _ _ _ _ _ _ _ lv3 (by lia) sy3).2
    ·clear_value jp3
     refine wpI (fun zk=>?_) fun zk=>?_
     ·have mi4:=MI.addB sb mi3 (k:=k2) (by lia) fun i x h1' h2' ex j y' hj ey'=>Nat.le_trans (Nat.le_of_lt (h3 i x h1' h2' ex)) (sa _ _ _ _ hj ez ey');refine wpE (fun q4=>wpS_pure (Rd _ _ _ ?_ sy3)) fun q4=>hj3 _ _ mi4 (by lia) (by have q4:ib2+1+k2≠b.size:=q4; lia) h4;have q4:ib2+1+k2=b.size:=q4;show Mgd rk a b (o.push y ++ b.extract (ib2+1) (ib2+1+k2) ++ a.extract i a.size ++ b.extract (ib2+1+k2) b.size);have mi4':=mi4;rw [q4] at mi4' ⊢;exact mi4'.doneA sa (by lia)
     ·have zk:k2=0:=by lia
      subst zk;exact hj3 _ _ mi3 (Nat.le_refl _) (by lia) h4
   ·clear_value jp2
    refine wpI (fun zk=>?_) fun zk=>?_
    ·have mi2:=MI.addA sa mi0 (k:=kk) (by lia) fun i x h1' h2' ex j y' hj ey'=>Nat.le_trans (h1 i x h1' h2' ex) (sb _ _ _ _ hj ey ey');refine wpE (fun q1=>wpS_pure (Rd _ _ _ (mi2.lastA sa sb (by lia) (by lia) (lastL q1)) sy3)) fun q1=>wpE (fun q2=>wpS_pure (Rd _ _ _ ?_ sy3)) fun q2=>hj2 _ _ mi2 (by have q1:ia2+kk+1≠a.size:=q1; have q2:ia2+kk≠a.size:=q2; lia) (by lia) h2;have q2:ia2+kk=a.size:=q2;show Mgd rk a b (out2 ++ a.extract ia2 (ia2+kk) ++ a.extract (ia2+kk) a.size ++ b.extract ib2 b.size);have mi2':=mi2;rw [q2] at mi2' ⊢;exact mi2'.doneB sb (by lia)
    ·have zk:kk=0:=by lia
     subst zk;exact hj2 _ _ mi0 la2 (Nat.le_refl _) h2
  ·rintro c2 st3 ⟨sy2,out2,ia2,ib2,g2,ac2,bc2,rfl,lv2,le2⟩;have:=lv2.la;have:=lv2.lb;lia
  rintro r st3 ⟨sy2,⟨o,t,rfl,mg⟩ | ⟨out2,ia2,ib2,g2,ac2,bc2,rfl,lv2,le2⟩⟩
  ·exact wpS_pure ⟨sy2,_,_,rfl,mg⟩
  refine wpS_bind (wpS_modify (wpS_pure ?_));refine ⟨?_,_,_,_,_,rfl,lv2,by show x+1<=ia2+ib2; lia⟩;obtain ⟨gg,rfl⟩:=sy2;exact ⟨_,rfl⟩
 ·rintro c st1 ⟨sy,out,ia,ib,g,rfl,lv,le⟩;have:=lv.la;have:=lv.lb;lia
 ·rintro r st1 ⟨sy,o,t,rfl,mg⟩;exact wpS_pure (k _ _ mg sy)
end
end PyProof.Rows
namespace PyProof.Rows
open PySem
structure MH (rk:Keyed->Nat) (a b out:Array Keyed) (na nb:Nat):Prop where
 pm:out.toList.Perm (a.toList.drop na ++ b.toList.drop nb)
 so:out.toList.Pairwise (fun x y=>rk y<=rk x)
 ba:∀ o ∈ out.toList,∀ i x,i < na->a[i]?=some x->rk x<=rk o
 bb:∀ o ∈ out.toList,∀ i x,i < nb->b[i]?=some x->rk x<=rk o
section
variable {rk:Keyed->Nat} {a b out:Array Keyed} {na nb:Nat}
theorem MH.nil:MH rk a b #[] a.size b.size:=by
 refine ⟨?_,by simp,fun o h=>by simp at h,fun o h=>by simp at h⟩;rw [show a.size=a.toList.length from Array.length_toList.symm,show b.size=b.toList.length from Array.length_toList.symm,List.drop_length,List.drop_length];exact List.Perm.refl _
theorem Gr {a:Array Keyed} {i:Nat} {x:Keyed} (h:a[i]?=some x):a.toList.drop i=x :: a.toList.drop (i+1):=by
 obtain ⟨hl,e⟩:=Array.getElem?_eq_some_iff.mp h;rw [List.drop_eq_getElem_cons (by rw [Array.length_toList]; exact hl),Array.getElem_toList,e]
theorem MH.pushA {x:Keyed} (h:MH rk a b out (na+1) nb) (sa:SoA rk a) (e:a[na]?=some x) (le:∀ j y,j < nb->b[j]?=some y->rk y<=rk x):MH rk a b (out.push x) na nb:=by
 have me:∀ o,o ∈ (out.push x).toList->o ∈ out.toList\/o=x:=fun o ho=>by
  rw [Array.toList_push,List.mem_append,List.mem_singleton] at ho;exact ho
 refine ⟨?_,?_,fun o ho i y hi ey=>?_,fun o ho i y hi ey=>?_⟩
 ·rw [Array.toList_push,Gr e,List.cons_append];exact List.perm_append_singleton x _ |>.trans (h.pm.cons x)
 ·rw [Array.toList_push,List.pairwise_append];refine ⟨h.so,by simp,fun o ho y hy=>?_⟩;rw [List.mem_singleton.mp hy];exact h.ba o ho na x (by lia) e
 ·rcases me o ho with z | rfl
  ·exact h.ba o z i y (by lia) ey
  ·exact sa i na y _ (by lia) ey e
 ·rcases me o ho with z | rfl
  ·exact h.bb o z i y hi ey
  ·exact le i y hi ey
theorem MH.pushB {x:Keyed} (h:MH rk a b out na (nb+1)) (sb:SoA rk b) (e:b[nb]?=some x) (le:∀ j y,j < na->a[j]?=some y->rk y<=rk x):MH rk a b (out.push x) na nb:=by
 have me:∀ o,o ∈ (out.push x).toList->o ∈ out.toList\/o=x:=fun o ho=>by
  rw [Array.toList_push,List.mem_append,List.mem_singleton] at ho;exact ho
 refine ⟨?_,?_,fun o ho i y hi ey=>?_,fun o ho i y hi ey=>?_⟩
 ·rw [Array.toList_push,Gr e];exact (List.perm_append_singleton x _).trans ((h.pm.cons x).trans List.perm_middle.symm)
 ·rw [Array.toList_push,List.pairwise_append];refine ⟨h.so,by simp,fun o ho y hy=>?_⟩;rw [List.mem_singleton.mp hy];exact h.bb o ho nb x (by lia) e
 ·rcases me o ho with z | rfl
  ·exact h.ba o z i y hi ey
  ·exact le i y hi ey
 ·rcases me o ho with z | rfl
  ·exact h.bb o z i y (by lia) ey
  ·exact sb i nb y _ (by lia) ey e
theorem Mj {a:Array Keyed} {i j:Nat} {x:Keyed} (h:a[i]?=some x) (ij:i < j):(a.extract i j).reverse=(a.extract (i+1) j).reverse.push x:=by
 apply Array.toList_inj.mp;rw [Array.toList_push,Array.toList_reverse,Array.toList_reverse,Array.toList_extract,Array.toList_extract];simp only [List.extract];rw [Gr h,show j - i=(j - (i+1))+1 by lia,List.take_succ_cons,List.reverse_cons]
theorem MH.addA (sa:SoA rk a) {n:Nat} (h:MH rk a b out n nb) (hn:n<=a.size):∀ {k t:Nat},t+k=n->(∀ i x,t<=i->i < n->a[i]?=some x->∀ j y,j < nb->b[j]?=some y->rk y<=rk x)->MH rk a b (out ++ (a.extract t n).reverse) t nb
 | 0,t,e,_=>by
  have:t=n:=by lia
  subst this;rw [Array.extract_eq_empty_of_le (by lia),Array.reverse_empty,Array.append_empty];exact h
 | k+1,t,e,le=>by
  have hl:t < a.size:=by lia
  have ex:a[t]?=some a[t]:=Array.getElem?_eq_getElem hl;have:=(MH.addA sa h hn (k:=k) (t:=t+1) (by lia) (fun i x h1 h2=>le i x (by lia) h2)).pushA sa ex (le t _ (Nat.le_refl _) (by lia) ex);rw [Mj ex (by lia),Array.append_push];exact this
theorem MH.addB (sb:SoA rk b) {n:Nat} (h:MH rk a b out na n) (hn:n<=b.size):∀ {k t:Nat},t+k=n->(∀ i x,t<=i->i < n->b[i]?=some x->∀ j y,j < na->a[j]?=some y->rk y<=rk x)->MH rk a b (out ++ (b.extract t n).reverse) na t
 | 0,t,e,_=>by
  have:t=n:=by lia
  subst this;rw [Array.extract_eq_empty_of_le (by lia),Array.reverse_empty,Array.append_empty];exact h
 | k+1,t,e,le=>by
  have hl:t < b.size:=by lia
  have ex:b[t]?=some b[t]:=Array.getElem?_eq_getElem hl;have:=(MH.addB sb h hn (k:=k) (t:=t+1) (by lia) (fun i x h1 h2=>le i x (by lia) h2)).pushB sb ex (le t _ (Nat.le_refl _) (by lia) ex);rw [Mj ex (by lia),Array.append_push];exact this
theorem MH.whole (h:MH rk a b out 0 0):Mgd rk a b out.reverse:=by
 refine ⟨?_,?_⟩
 ·rw [Array.toList_reverse];exact (List.reverse_perm _).trans h.pm
 ·rw [Array.toList_reverse,List.pairwise_reverse];exact h.so
theorem MH.doneA (sa:SoA rk a) (h:MH rk a b out na 0) (hn:na<=a.size):Mgd rk a b (a.extract 0 na ++ b.extract 0 0 ++ out.reverse):=by
 have h1:=(MH.addA sa h hn (k:=na) (t:=0) (by lia) fun i x _ _ _ j y hj=>absurd hj (by lia)).whole;have e:b.extract 0 0=#[]:=by simp
 rw [e,Array.append_empty];rw [Array.reverse_append,Array.reverse_reverse] at h1;exact h1
theorem MH.doneB (sb:SoA rk b) (h:MH rk a b out 0 nb) (hn:nb<=b.size):Mgd rk a b (a.extract 0 0 ++ b.extract 0 nb ++ out.reverse):=by
 have h1:=(MH.addB sb h hn (k:=nb) (t:=0) (by lia) fun i x _ _ _ j y hj=>absurd hj (by lia)).whole;have e:a.extract 0 0=#[]:=by simp
 rw [e,Array.empty_append];rw [Array.reverse_append,Array.reverse_reverse] at h1;exact h1
theorem MH.firstB (sa:SoA rk a) (sb:SoA rk b) (h:MH rk a b out na nb) (ha:na<=a.size) (hb:nb<=b.size) (le:∀ i x,i < na->a[i]?=some x->∀ j y,j < nb->b[j]?=some y->rk y<=rk x):Mgd rk a b (b.extract 0 nb ++ a.extract 0 na ++ out.reverse):=by
 have h1:=MH.addA sa h ha (k:=na) (t:=0) (by lia) fun i x _ h2=>le i x h2;have h2:=(MH.addB sb h1 hb (k:=nb) (t:=0) (by lia) fun i x _ _ _ j y hj=>absurd hj (by lia)).whole;rw [Array.reverse_append,Array.reverse_append,Array.reverse_reverse,Array.reverse_reverse,<-Array.append_assoc] at h2;exact h2
end
end PyProof.Rows
namespace PyProof.Rows
open PySem
def QD:Array Keyed->Array Keyed->StateT SortSt Sem (Array Keyed):=sortPriv% PySem.Builtin.mergeHi
structure LvH (rk:Keyed->Nat) (a b out:Array Keyed) (na nb:Nat):Prop where
 mh:MH rk a b out na nb
 la:1<=na
 ka:na<=a.size
 lb:2<=nb
 kb:nb<=b.size
section
variable {prog:Program} {w:World} {A:Around} {E:Value->Shared->Prop} {s:Shared} {rk:Keyed->Nat} {S:Keyed->Prop} {κ:SortKind}
theorem Na {a b:Array Keyed} {st:SortSt} {Q:Array Keyed->SortSt->Prop} (hl:IS prog w A E s rk S κ) (hk:kindOf st=κ) (na:1<=a.size) (nb:1<=b.size) (Sa:∀ (i:Nat) x,a[i]?=some x->S x) (Sb:∀ (i:Nat) x,b[i]?=some x->S x) (sa:SoA rk a) (sb:SoA rk b) (first:∀ x y,b[0]?=some x->a[0]?=some y->rk x<=rk y) (last:∀ (i:Nat) x y,b[i]?=some x->a[a.size - 1]?=some y->rk x<=rk y) (k:∀ out st',Mgd rk a b out->DB st st'->Q out st'):wpS (model prog w) A E s (QD a b) Q st:=by
 have atA:∀ {i:Nat},i < a.size->∃ x,a[i]?=some x:=fun {i} h=>⟨_,Array.getElem?_eq_getElem h⟩
 have atB:∀ {i:Nat},i < b.size->∃ x,b[i]?=some x:=fun {i} h=>⟨_,Array.getElem?_eq_getElem h⟩
 obtain ⟨f0,ef0⟩:=atA na;have firstL:∀ {nb:Nat},nb=1->∀ {na:Nat} (i:Nat) x,i < na->a[i]?=some x->∀ (j:Nat) y,j < nb->b[j]?=some y->rk y<=rk x:=fun {nb} e {na} i x _ ex j y hj ey=>by
  have:j=0:=by lia
  subst this;exact Nat.le_trans (first _ _ ey ef0) (sa 0 i _ _ (Nat.zero_le _) ef0 ex)
 refine wpS_bind (wpS_lift (wpAny_rule ⟨rfl,?_⟩));obtain ⟨x0,e0⟩:=atA (i:=a.size - 1) (by lia);refine wpS_bind (CM e0 ?_);have m0:MH rk a b #[x0] (a.size - 1) b.size:=by
  have:=MH.pushA (na:=a.size - 1) (show MH rk a b #[] (a.size - 1+1) b.size by rw [Nat.sub_add_cancel na]; exact MH.nil) sa e0 fun j y _ ey=>last j y x0 ey e0;exact this
 refine wpE (fun z1=>wpS_pure (k _ _ ?_ (DB.refl st))) fun z1=>wpE (fun z2=>wpS_pure (k _ _ (m0.firstB sa sb (by lia) (Nat.le_refl _) (firstL z2)) (DB.refl st))) fun z2=>?_
 ·rw [z1] at m0 ⊢;exact m0.doneB sb (Nat.le_refl _)
 refine wpS_bind (wpS_get ?_);refine wpS_bind (wpS_mono (wpS_forRange (I:=fun x r st'=>DB st st'/\∃ na nb out g,r=(none,na,nb,out,g)/\LvH rk a b out na nb/\na+nb+x<=a.size+b.size) (Q:=fun r st'=>DB st st'/\∃ o t,r=(some o,t)/\Mgd rk a b o) ?_ ?_ ⟨DB.refl st,_,_,_,_,rfl,⟨m0,by lia,by lia,by lia,Nat.le_refl _⟩,by lia⟩) ?_)
 ·rintro x c st1 _ hx ⟨sy,na1,nb1,out,g,rfl,lv,le⟩;have hk1:kindOf st1=κ:=by rw [sy.kind,hk]
  refine wpS_bind (wpS_mono (wpS_forRange (I:=fun x r st'=>st'=st1/\∃ na' nb' out' ac bc,r=(none,na',nb',out',ac,bc)/\LvH rk a b out' na' nb'/\na'+nb'+x<=na1+nb1) (Q:=fun r st'=>st'=st1/\((∃ o t,r=(some o,t)/\Mgd rk a b o)\/∃ na' nb' out' ac bc,r=(none,na',nb',out',ac,bc)/\LvH rk a b out' na' nb'/\na'+nb'+1<=na1+nb1)) ?_ ?_ ⟨rfl,na1,nb1,out,0,0,rfl,lv,Nat.le_refl _⟩) ?_)
  ·rintro x' c' st2 _ hx' ⟨rfl,na',nb',out',ac,bc,rfl,lv',le'⟩;obtain ⟨mh,la',ka',lb',kb'⟩:=lv';obtain ⟨y,ey⟩:=atB (i:=nb' - 1) (by lia);obtain ⟨z,ez⟩:=atA (i:=na' - 1) (by lia);refine wpS_bind (CM ey (wpS_bind (CM ez (wpS_bind (hl _ _ _ _ (Sb _ _ ey) (Sa _ _ ez) hk1 ?_)))));by_cases lt:rk y < rk z
   ·rw [decide_eq_true lt];have mi:=(show MH rk a b out' (na' - 1+1) nb' by rw [Nat.sub_add_cancel la']; exact mh).pushA sa ez fun j y' hj ey'=>by
     have:=sb j (nb' - 1) _ _ (by lia) ey' ey;lia
    refine wpI (fun _=>wpS_bind (CM ez (wpE (fun q=>wpS_pure ⟨rfl,.inl ⟨_,_,rfl,?_⟩⟩) fun q=>?_))) fun h=>absurd rfl h
    ·rw [q] at mi ⊢;exact mi.doneB sb (by lia)
    have lv2:LvH rk a b (out'.push z) (na' - 1) nb':=⟨mi,by lia,by lia,by lia,by lia⟩
    exact wpI (fun _=>wpS_pure ⟨rfl,.inr ⟨_,_,_,_,_,rfl,lv2,by lia⟩⟩) fun _=>wpS_pure ⟨rfl,_,_,_,_,_,rfl,lv2,by lia⟩
   ·rw [decide_eq_false lt];have mi:=(show MH rk a b out' na' (nb' - 1+1) by rw [Nat.sub_add_cancel (by lia)]; exact mh).pushB sb ey fun j y' hj ey'=>by
     have:=sa j (na' - 1) _ _ (by lia) ey' ez;lia
    refine wpI (fun h=>nomatch h) fun _=>wpS_bind (CM ey (wpE (fun q=>wpS_pure ⟨rfl,.inl ⟨_,_,rfl,mi.firstB sa sb (by lia) (by lia) (firstL q)⟩⟩) fun q=>?_));have lv2:LvH rk a b (out'.push y) na' (nb' - 1):=⟨mi,by lia,by lia,by lia,by lia⟩
    exact wpI (fun _=>wpS_pure ⟨rfl,.inr ⟨_,_,_,_,_,rfl,lv2,by lia⟩⟩) fun _=>wpS_pure ⟨rfl,_,_,_,_,_,rfl,lv2,by lia⟩
  ·rintro c' st2 ⟨rfl,na',nb',out',ac,bc,rfl,lv',le'⟩;have:=lv'.la;have:=lv'.lb;have:=lv.ka;have:=lv.kb;lia
  rintro r st2 ⟨rfl,⟨o,t,rfl,mg⟩ | ⟨na',nb',out',ac,bc,rfl,lv',le'⟩⟩
  ·exact wpS_pure ⟨sy,_,_,rfl,mg⟩
  refine wpS_bind (wpS_lift (wpAny_rule ⟨rfl,?_⟩));refine wpS_bind (wpS_mono (wpS_forRange (I:=fun x r st'=>DB st st'/\∃ na2 nb2 out2 g2 ac2 bc2,r=(none,na2,nb2,out2,g2,ac2,bc2)/\LvH rk a b out2 na2 nb2/\na2+nb2+x<=na'+nb') (Q:=fun r st'=>DB st st'/\((∃ o t,r=(some o,t)/\Mgd rk a b o)\/∃ na2 nb2 out2 g2 ac2 bc2,r=(none,na2,nb2,out2,g2,ac2,bc2)/\LvH rk a b out2 na2 nb2/\na2+nb2<=na'+nb')) ?_ ?_ ⟨sy,na',nb',out',_,_,_,rfl,lv',Nat.le_refl _⟩) ?_)
  ·rintro x2 c2 st3 _ hx2 ⟨sy2,na2,nb2,out2,g2,ac2,bc2,rfl,lv2,le2⟩;dsimp -zeta only
   extract_lets s1 na3 s2 nb3 s3 out3 s4 m3 s5 ac3 bc3 nb4 jp m4
   refine wpR (fun R=>(∀ o t st',Mgd rk a b o->DB st st'->R (.done (some o,t)) st')/\∀ i j o g p q st',LvH rk a b o i j->i+j+(x2+1)<=na'+nb'->DB st st'->R (.done (none,i,j,o,g,p,q)) st'/\R (.yield (none,i,j,o,g,p,q)) st') ⟨fun o t st' m s=>⟨s,.inl ⟨_,_,rfl,m⟩⟩,fun i j o g p q st' l e s=>⟨⟨s,.inr ⟨_,_,_,_,_,_,rfl,l,by lia⟩⟩,s,_,_,_,_,_,_,rfl,l,e⟩⟩ fun R ⟨Rd,Rn⟩=>?_;refine wpJ fun m=>?_;have sy3:DB st (SortSt.mk' (kindOf st3) (arrOf st3) (pendingOf st3) m (failedOf st3)):=by
    obtain ⟨gg,rfl⟩:=sy2;exact ⟨_,rfl⟩
   have hk3:=sy3.kind.trans hk;obtain ⟨mh,la2,ka2,lb2,kb2⟩:=lv2;obtain ⟨y,ey⟩:=atB (i:=nb2 - 1) (by lia);refine wpS_bind (wpS_modify (wpS_bind (CM ey (wpS_bind (Gn hl hk3 (Sb _ _ ey) (fun i x _ _ e=>Sa i x e) (fun i j x y _ h _=>sa i j x y h) (by show 0+na2<=a.size; lia) (by show na2 - 1 < na2; lia) fun t1 ht1 h1 h2=>?_)))));dsimp -zeta only
   extract_lets k4 ac4 jp2 out4 na4
   have ht1:t1<=na2:=ht1;have h1:∀ (j:Nat) x,j < t1->a[j]?=some x->rk x<=rk y:=fun j x hj ex=>h1 j x (Nat.zero_le _) (by lia) ex;refine wpC (fun Q st=>∀ i o,MH rk a b o i nb2->1<=i->i<=na2->(∀ (j:Nat) x,j < i->a[j]?=some x->rk x<=rk y)->wpS (model prog w) A E s (jp2 () i o) Q st) (fun i o mi2 li lei ge=>?_) fun hj2=>?_
   ·have mi3:=(show MH rk a b _ i (nb2 - 1+1) by rw [Nat.sub_add_cancel (by lia)]; exact mi2).pushB sb ey fun j y' hj ey'=>ge j y' hj ey';refine wpS_bind (CM ey (wpE (fun q3=>wpS_pure (Rd _ _ _ (mi3.firstB sa sb (by lia) (by show nb2 - 1<=b.size; lia) (firstL q3)) sy3)) fun q3=>?_));have q3:nb2 - 1≠1:=q3;obtain ⟨z,ez⟩:=atA (i:=i - 1) (by lia);refine wpS_bind (CM ez (wpS_bind (IG hl hk3 (Sa _ _ ez) (fun i x _ _ e=>Sb i x e) (fun i j x y _ h _=>sb i j x y h) (by show 0+(nb2 - 1)<=b.size; lia) (by show nb2 - 1 - 1 < nb2 - 1; lia) fun t2 ht2 h3 h4=>?_)));dsimp -zeta only
    extract_lets k5 bc4 na5 jp3 out5 nb5
    have ht2:t2<=nb2 - 1:=ht2;have h3:∀ (j:Nat) x,j < t2->b[j]?=some x->rk x<=rk z:=fun j x hj ex=>Nat.le_of_lt (h3 j x (Nat.zero_le _) (by lia) ex);refine wpC (fun Q st=>∀ j o,MH rk a b o i j->2<=j->j<=nb2 - 1->(∀ (j':Nat) x,j' < j->b[j']?=some x->rk x<=rk z)->wpS (model prog w) A E s (jp3 () j o) Q st) (fun j o mi4 lj ljb gz=>?_) fun hj3=>?_
    ·have mi5:=(show MH rk a b _ (i - 1+1) j by rw [Nat.sub_add_cancel li]; exact mi4).pushA sa ez fun j' y' hj ey'=>gz j' y' hj ey';refine wpS_bind (CM ez (wpE (fun q5=>wpS_pure (Rd _ _ _ ?_ sy3)) fun q5=>?_))
     ·have q5:i - 1=0:=q5;show Mgd rk a b (a.extract 0 (i - 1) ++ b.extract 0 j ++ (o.push z).reverse);rw [q5] at mi5 ⊢;exact mi5.doneB sb (by lia)
     have q5:i - 1≠0:=q5;have lv3:LvH rk a b _ (i - 1) j:=⟨mi5,by lia,by lia,lj,by lia⟩
     exact wpI (fun _=>wpS_pure (Rn _ _ _ _ _ _ _ lv3 (by lia) sy3).1) fun _=>wpS_pure (Rn _ _ _ _ _ _ _ lv3 (by lia) sy3).2
    ·clear_value jp3
     refine wpI (fun zk=>?_) fun zk=>?_
     ·have zk:nb2 - 1 - t2 > 0:=zk;have mi4:=MH.addB sb mi3 (by lia) (k:=nb2 - 1 - t2) (t:=t2) (by lia) fun i' x h1' h2' ex j y' hj ey'=>Nat.le_trans (sa j (i - 1) _ _ (by lia) ey' ez) (h4 i' x (by lia) (by show i' < 0+(nb2 - 1); lia) ex);refine wpE (fun q4=>wpS_pure (Rd _ _ _ (mi4.firstB sa sb (by lia) (by show t2<=b.size; lia) (firstL q4)) sy3)) fun q4=>wpE (fun q6=>wpS_pure (Rd _ _ _ ?_ sy3)) fun q6=>hj3 _ _ mi4 (by have q4:t2≠1:=q4; have q6:t2≠0:=q6; show 2<=t2; lia) ht2 h3;have q6:t2=0:=q6;show Mgd rk a b (a.extract 0 i ++ b.extract 0 t2 ++ (o.push y ++ (b.extract t2 (nb2 - 1)).reverse).reverse);subst q6;exact mi4.doneA sa (by lia)
     ·have zk:¬ nb2 - 1 - t2 > 0:=zk;have zk:t2=nb2 - 1:=by lia
      subst zk;exact hj3 _ _ mi3 (by show 2<=nb2 - 1; lia) (Nat.le_refl _) h3
   ·clear_value jp2
    refine wpI (fun zk=>?_) fun zk=>?_
    ·have zk:na2 - t1 > 0:=zk;have mi2:=MH.addA sa mh (by lia) (k:=na2 - t1) (t:=t1) (by lia) fun i x h1' h2' ex j y' hj ey'=>Nat.le_trans (sb j (nb2 - 1) _ _ (by lia) ey' ey) (Nat.le_of_lt (h2 i x (by lia) (by show i < 0+na2; lia) ex));refine wpE (fun q1=>wpS_pure (Rd _ _ _ ?_ sy3)) fun q1=>hj2 _ _ mi2 (by have q1:t1≠0:=q1; show 1<=t1; lia) ht1 h1;have q1:t1=0:=q1;show Mgd rk a b (a.extract 0 t1 ++ b.extract 0 nb2 ++ (out2 ++ (a.extract t1 na2).reverse).reverse);subst q1;exact mi2.doneB sb (by lia)
    ·have zk:¬ na2 - t1 > 0:=zk;have zk:t1=na2:=by lia
     subst zk;exact hj2 _ _ mh la2 (Nat.le_refl _) h1
  ·rintro c2 st3 ⟨sy2,na2,nb2,out2,g2,ac2,bc2,rfl,lv2,le2⟩;have:=lv2.la;have:=lv2.lb;have:=lv'.ka;have:=lv'.kb;lia
  rintro r st3 ⟨sy2,⟨o,t,rfl,mg⟩ | ⟨na2,nb2,out2,g2,ac2,bc2,rfl,lv2,le2⟩⟩
  ·exact wpS_pure ⟨sy2,_,_,rfl,mg⟩
  refine wpS_bind (wpS_modify (wpS_pure ?_));refine ⟨?_,_,_,_,_,rfl,lv2,by show na2+nb2+(x+1)<=a.size+b.size; lia⟩;obtain ⟨gg,rfl⟩:=sy2;exact ⟨_,rfl⟩
 ·rintro c st1 ⟨sy,na1,nb1,out,g,rfl,lv,le⟩;have:=lv.la;have:=lv.lb;lia
 ·rintro r st1 ⟨sy,o,t,rfl,mg⟩;exact wpS_pure (k _ _ mg sy)
end
end PyProof.Rows
namespace PyProof.Rows
open PySem
theorem NZ (t:Nat):∀ (l:List Keyed) (n:Nat) (arr:Array Keyed),t+n+l.length<=arr.size->((l.zipIdx n).foldl (fun a (p:Keyed×Nat)=>a.setIfInBounds (t+p.2) p.1) arr).toList=arr.toList.take (t+n) ++ l ++ arr.toList.drop (t+n+l.length)
 | [],n,arr,h=>by simp
 | x :: l,n,arr,h=>by
  rw [List.length_cons] at h;rw [List.zipIdx_cons,List.foldl_cons,NZ t l (n+1) _ (by rw [Array.size_setIfInBounds]; lia)];have hl:t+n < arr.toList.length:=by rw [Array.length_toList]; lia
  rw [Array.toList_setIfInBounds,List.length_cons];have e1:(arr.toList.set (t+n) x).take (t+(n+1))=arr.toList.take (t+n) ++ [x]:=by
   rw [show t+(n+1)=(t+n)+1 by lia,List.take_add_one,List.take_set_of_le (Nat.le_refl _),List.getElem?_set_self hl];rfl
  have e2:(arr.toList.set (t+n) x).drop (t+(n+1)+l.length)=arr.toList.drop (t+n+(l.length+1)):=by
   rw [List.drop_set_of_lt (by lia)];congr 1;lia
  rw [e1,e2];simp
theorem OW {t:Nat} {m arr:Array Keyed} (h:t+m.size<=arr.size):(m.toList.zipIdx.foldl (fun a (p:Keyed×Nat)=>a.setIfInBounds (t+p.2) p.1) arr).toList=arr.toList.take t ++ m.toList ++ arr.toList.drop (t+m.size):=by
 have:=NZ t m.toList 0 arr (by rw [Array.length_toList]; lia);rw [Array.length_toList] at this;exact this
end PyProof.Rows
namespace PyProof.Rows
open PySem
def SoR (rk:Keyed->Nat) (arr:Array Keyed) (lo hi:Nat):Prop:=∀ (i j:Nat) (x y:Keyed),lo<=i->i<=j->j < hi->arr[i]?=some x->arr[j]?=some y->rk x<=rk y
structure Mgr (rk:Keyed->Nat) (arr arr':Array Keyed) (lo hi:Nat):Prop where
 pm:arr'.toList.Perm arr.toList
 out:∀ i:Nat,i < lo\/hi<=i->arr'[i]?=arr[i]?
 so:SoR rk arr' lo hi
section
variable {prog:Program} {w:World} {A:Around} {E:Value->Shared->Prop} {s:Shared} {rk:Keyed->Nat} {S:Keyed->Prop} {κ:SortKind}
theorem SoR.ext {arr:Array Keyed} {lo hi:Nat} (h:SoR rk arr lo hi) (hz:hi<=arr.size):SoA rk (arr.extract lo hi):=fun i j x y ij ex ey=>by
 have jl:=(Array.getElem?_eq_some_iff.mp ey).1;rw [Array.size_extract] at jl;rw [Array.getElem?_extract] at ex ey;rw [if_pos (by lia)] at ex ey;exact h (lo+i) (lo+j) x y (by lia) (by lia) (by lia) ex ey
theorem SoR.join {arr:Array Keyed} {lo mid hi:Nat} (h1:SoR rk arr lo mid) (h2:SoR rk arr mid hi) (h:∀ (i j:Nat) x y,lo<=i->i < mid->mid<=j->j < hi->arr[i]?=some x->arr[j]?=some y->rk x<=rk y):SoR rk arr lo hi:=fun i j x y li ij jh ex ey=>by
 by_cases a:j < mid
 ·exact h1 i j x y li ij a ex ey
 ·by_cases b:i < mid
  ·exact h i j x y li b (by lia) jh ex ey
  ·exact h2 i j x y (by lia) ij jh ex ey
theorem Mgr.same {arr:Array Keyed} {lo hi:Nat} (h:SoR rk arr lo hi):Mgr rk arr arr lo hi:=⟨List.Perm.refl _,fun _ _=>rfl,h⟩
theorem laid_at {t:Nat} {m arr arr':Array Keyed} (h:t+m.size<=arr.size) (e:arr'.toList=arr.toList.take t ++ m.toList ++ arr.toList.drop (t+m.size)) (i:Nat):arr'[i]?=if t<=i/\i < t+m.size then m[i - t]? else arr[i]?:=by
 rw [<-Array.getElem?_toList,e];have l1:(arr.toList.take t).length=t:=by rw [List.length_take,Array.length_toList]; lia
 have l2:(arr.toList.take t ++ m.toList).length=t+m.size:=by rw [List.length_append,l1,Array.length_toList]
 by_cases a:i < t
 ·rw [if_neg (by lia),List.append_assoc,List.getElem?_append_left (by lia),List.getElem?_take,if_pos a,Array.getElem?_toList]
 ·by_cases b:i < t+m.size
  ·rw [if_pos (by lia),List.getElem?_append_left (by lia),List.getElem?_append_right (by lia),l1,Array.getElem?_toList]
  ·rw [if_neg (by lia),List.getElem?_append_right (by lia),l2,List.getElem?_drop,show t+m.size+(i - (t+m.size))=i by lia,Array.getElem?_toList]
theorem QB {arr arr' m:Array Keyed} {lo t mid u hi:Nat} (b1:lo<=t) (b2:t < mid) (b3:mid < u) (b4:u<=hi) (hz:hi<=arr.size) (h1:SoR rk arr lo mid) (h2:SoR rk arr mid hi) (low:∀ (i j:Nat) x y,lo<=i->i < t->mid<=j->j < hi->arr[i]?=some x->arr[j]?=some y->rk x<=rk y) (high:∀ (i j:Nat) x y,lo<=i->i < mid->u<=j->j < hi->arr[i]?=some x->arr[j]?=some y->rk x<=rk y) (mg:Mgd rk (arr.extract t mid) (arr.extract mid u) m) (e:arr'.toList=arr.toList.take t ++ m.toList ++ arr.toList.drop (t+m.size)):Mgr rk arr arr' lo hi:=by
 have ms:m.size=u - t:=by
  have:=mg.pm.length_eq;rw [List.length_append,Array.length_toList,Array.length_toList,Array.length_toList,Array.size_extract,Array.size_extract] at this;lia
 have tm:t+m.size=u:=by lia
 have at':=laid_at (t:=t) (m:=m) (arr:=arr) (arr':=arr') (by lia) e;have ml:arr.extract t mid ++ arr.extract mid u=arr.extract t u:=by
  rw [Array.extract_append_extract];congr 1<;>lia
 have inm:∀ {i:Nat} {x:Keyed},m[i]?=some x->∃ j,t<=j/\j < u/\arr[j]?=some x:=fun {i x} ex=>by
  have hm:x ∈ m.toList:=by rw [<-Array.getElem?_toList] at ex; exact List.mem_of_getElem? ex
  have:=mg.pm.mem_iff.mp hm;rw [<-Array.toList_append,ml] at this;obtain ⟨j,hj⟩:=List.getElem?_of_mem this;rw [Array.getElem?_toList,Array.getElem?_extract] at hj;split at hj
  ·exact ⟨t+j,by lia,by lia,hj⟩
  ·cases hj
 refine ⟨?_,fun i hi'=>?_,fun i j x y li ij jh ex ey=>?_⟩
 ·rw [e];have:arr.toList=arr.toList.take t ++ (arr.extract t u).toList ++ arr.toList.drop (t+m.size):=by
   rw [Array.toList_extract,tm,List.append_assoc];simp only [List.extract];have:(arr.toList.drop t).take (u - t) ++ arr.toList.drop u=arr.toList.drop t:=by
    have:=List.take_append_drop (u - t) (arr.toList.drop t);rw [List.drop_drop,show t+(u - t)=u by lia] at this;exact this
   rw [this,List.take_append_drop]
  rw (occs:=.pos [3]) [this];refine List.Perm.append_right _ (List.Perm.append_left _ ?_);rw [<-ml,Array.toList_append];exact mg.pm
 ·rw [at',if_neg (by lia)]
 ·rw [at'] at ex ey;by_cases ci:t<=i/\i < t+m.size
  ·rw [if_pos ci] at ex;by_cases cj:t<=j/\j < t+m.size
   ·rw [if_pos cj] at ey;by_cases q:i=j
    ·subst q;rw [ex] at ey;cases ey;exact Nat.le_refl _
    ·have:=List.pairwise_iff_getElem.mp mg.so (i - t) (j - t) (by rw [Array.length_toList]; lia) (by rw [Array.length_toList]; lia) (by lia);obtain ⟨_,f1⟩:=Array.getElem?_eq_some_iff.mp ex;obtain ⟨_,f2⟩:=Array.getElem?_eq_some_iff.mp ey;rw [Array.getElem_toList,Array.getElem_toList,f1,f2] at this;exact this
   ·rw [if_neg cj] at ey;obtain ⟨k,k1,k2,ek⟩:=inm ex;by_cases q:k < mid
    ·exact high k j x y (by lia) q (by lia) jh ek ey
    ·exact h2 k j x y (by lia) (by lia) jh ek ey
  ·rw [if_neg ci] at ex;by_cases cj:t<=j/\j < t+m.size
   ·rw [if_pos cj] at ey;obtain ⟨k,k1,k2,ek⟩:=inm ey;by_cases q:k < mid
    ·exact h1 i k x y li (by lia) q ex ek
    ·exact low i k x y li (by lia) (by lia) (by lia) ex ek
   ·rw [if_neg cj] at ey;by_cases q:i < t
    ·by_cases r:j < mid
     ·exact h1 i j x y li ij r ex ey
     ·exact low i j x y li q (by lia) jh ex ey
    ·exact h2 i j x y (by lia) ij jh ex ey
end
end PyProof.Rows
namespace PyProof.Rows
open PySem
section
variable {prog:Program} {w:World} {A:Around} {E:Value->Shared->Prop} {s:Shared} {rk:Keyed->Nat} {S:Keyed->Prop} {κ:SortKind}
theorem Pn {st st':SortSt} {Q:PUnit->SortSt->Prop} (h:Q ⟨⟩ st'):wpS (model prog w) A E s (set st':StateT SortSt Sem PUnit) Q st:=by
 unfold wpS;rw [StateT.run_set];exact wpAny_pure ⟨rfl,h⟩
theorem Nb {st:SortSt} {Q:Bool->SortSt->Prop} {i sa na pw sb nb pw':Nat} (hl:IS prog w A E s rk S κ) (hk:kindOf st=κ) (hf:failedOf st=none) (e1:(pendingOf st)[i]?=some (sa,na,pw)) (e2:(pendingOf st)[i+1]?=some (sb,nb,pw')) (hab:sb=sa+na) (na1:1<=na) (nb1:1<=nb) (hz:sb+nb<=(arrOf st).size) (Sall:∀ (i:Nat) x,(arrOf st)[i]?=some x->S x) (s1:SoR rk (arrOf st) sa sb) (s2:SoR rk (arrOf st) sb (sb+nb))
  (k:∀ st',kindOf st'=κ->failedOf st'=none->pendingOf st'=((pendingOf st).setIfInBounds i (sa,na+nb,pw)).eraseIdxIfInBounds (i+1)->Mgr rk (arrOf st) (arrOf st') sa (sb+nb)->Q true st'):wpS (model prog w) A E s (mergeAt' i) Q st:=by
 subst hab;have at':∀ {j:Nat},j < (arrOf st).size->∃ x,(arrOf st)[j]?=some x:=fun {j} h=>⟨_,Array.getElem?_eq_getElem h⟩
 refine wpS_bind (wpS_get ?_);rw [e1,e2];dsimp only;refine wpS_bind (Pn ?_);obtain ⟨y0,ey0⟩:=at' (j:=sa+na) (by lia);refine wpS_bind (CM ey0 (wpS_bind (Gn hl hk (Sall _ _ ey0) (fun i x _ _ e=>Sall i x e) (fun i j x y h1 h2 h3=>s1 i j x y h1 h2 h3) (show sa+na<=(arrOf st).size by lia) (by lia) fun kk hkk h1 h2=>?_)));dsimp only;by_cases q1:(na - kk == 0)=true
 ·rw [if_pos q1];have q1:na - kk=0:=by simpa using q1
  refine wpS_pure (k _ hk hf rfl (Mgr.same (s1.join s2 fun i j x y a1 a2 a3 a4 ex ey=>?_)));exact Nat.le_trans (h1 i x a1 (by lia) ex) (s2 _ _ _ _ (Nat.le_refl _) a3 a4 ey0 ey)
 rw [if_neg q1];have q1:¬ na - kk=0:=fun z=>q1 (by simpa using z);obtain ⟨xl,exl⟩:=at' (j:=sa+kk+(na - kk) - 1) (by lia);refine wpS_bind (CM exl (wpS_bind (IG hl hk (Sall _ _ exl) (fun i x _ _ e=>Sall i x e) (fun i j x y h1 h2 h3=>s2 i j x y h1 h2 h3) (show sa+na+nb<=(arrOf st).size by lia) (by lia) fun t2 ht2 h3 h4=>?_)));dsimp only;have low:∀ (i j:Nat) x y,sa<=i->i < sa+kk->sa+na<=j->j < sa+na+nb->(arrOf st)[i]?=some x->(arrOf st)[j]?=some y->rk x<=rk y:=fun i j x y a1 a2 a3 a4 ex ey=>Nat.le_trans (h1 i x a1 a2 ex) (s2 _ _ _ _ (Nat.le_refl _) a3 a4 ey0 ey);have high:∀ (i j:Nat) x y,sa<=i->i < sa+na->sa+na+t2<=j->j < sa+na+nb->(arrOf st)[i]?=some x->(arrOf st)[j]?=some y->rk x<=rk y:=fun i j x y a1 a2 a3 a4 ex ey=>Nat.le_trans (s1 i _ x xl a1 (by lia) (by lia) ex exl) (h4 j y a3 a4 ey);by_cases q2:(t2 == 0)=true
 ·rw [if_pos q2];have q2:t2=0:=by simpa using q2
  subst q2;exact wpS_pure (k _ hk hf rfl (Mgr.same (s1.join s2 fun i j x y a1 a2 a3 a4 ex ey=>high i j x y a1 a2 a3 a4 ex ey)))
 rw [if_neg q2];have q2:¬ t2=0:=fun z=>q2 (by simpa using z);have sx:SoA rk ((arrOf st).extract (sa+kk) (sa+na)):=SoR.ext (fun i j x y a1 a2 a3=>s1 i j x y (by lia) a2 a3) (by lia);have sy:SoA rk ((arrOf st).extract (sa+na) (sa+na+t2)):=SoR.ext (fun i j x y a1 a2 a3=>s2 i j x y (by lia) a2 (by lia)) (by lia);have zx:((arrOf st).extract (sa+kk) (sa+na)).size=na - kk:=by rw [Array.size_extract]; lia
 have zy:((arrOf st).extract (sa+na) (sa+na+t2)).size=t2:=by rw [Array.size_extract]; lia
 have ax:∀ {j:Nat} {x:Keyed},((arrOf st).extract (sa+kk) (sa+na))[j]?=some x->(arrOf st)[sa+kk+j]?=some x/\j < na - kk:=fun {j x} e=>by
  have:=(Array.getElem?_eq_some_iff.mp e).1;rw [Array.getElem?_extract,if_pos (by lia)] at e;exact ⟨e,by lia⟩
 have ay:∀ {j:Nat} {x:Keyed},((arrOf st).extract (sa+na) (sa+na+t2))[j]?=some x->(arrOf st)[sa+na+j]?=some x/\j < t2:=fun {j x} e=>by
  have:=(Array.getElem?_eq_some_iff.mp e).1;rw [Array.getElem?_extract,if_pos (by lia)] at e;exact ⟨e,by lia⟩
 have fst:∀ x y,((arrOf st).extract (sa+na) (sa+na+t2))[0]?=some x->((arrOf st).extract (sa+kk) (sa+na))[0]?=some y->rk x<=rk y:=fun x y ex ey=>by
  have e:=(ay ex).1;rw [Nat.add_zero,ey0] at e;cases e;exact Nat.le_of_lt (h2 _ y (by lia) (by lia) (ax ey).1)
 have lst:∀ (i:Nat) x y,((arrOf st).extract (sa+na) (sa+na+t2))[i]?=some x->((arrOf st).extract (sa+kk) (sa+na))[((arrOf st).extract (sa+kk) (sa+na)).size - 1]?=some y->rk x<=rk y:=fun i x y ex ey=>by
  have e:=(ax ey).1;rw [zx,show sa+kk+(na - kk - 1)=sa+kk+(na - kk) - 1 by lia,exl] at e;cases e;exact Nat.le_of_lt (h3 _ x (by lia) (by have:=(ay ex).2; lia) (ay ex).1)
 have fin:∀ (m:Array Keyed) (st1:SortSt),Mgd rk ((arrOf st).extract (sa+kk) (sa+na)) ((arrOf st).extract (sa+na) (sa+na+t2)) m->DB (SortSt.mk' (kindOf st) (arrOf st) (((pendingOf st).setIfInBounds i (sa,na+nb,pw)).eraseIdxIfInBounds (i+1)) (gallopOf st) (failedOf st)) st1->wpS (model prog w) A E s (do modify fun s=>setArr s (m.toList.zipIdx.foldl (fun a (p:Keyed×Nat)=>a.setIfInBounds (sa+kk+p.2) p.1) (arrOf s)); pure (failedOf (<-get)).isNone) Q st1:=fun m st1 mg sy1=>by
  obtain ⟨g,rfl⟩:=sy1;refine wpS_bind (wpS_modify (wpS_bind (wpS_get (wpS_pure ?_))));show Q (failedOf st).isNone _;rw [hf];have ms:m.size=na - kk+t2:=by
   have:=mg.pm.length_eq;rw [List.length_append,Array.length_toList,Array.length_toList,Array.length_toList,zx,zy] at this;exact this
  refine k _ hk rfl rfl (QB (t:=sa+kk) (mid:=sa+na) (u:=sa+na+t2) (by lia) (by lia) (by lia) (by lia) (by lia) s1 s2 low high mg (OW (show sa+kk+m.size<=(arrOf st).size by lia)))
 by_cases q3:na - kk<=t2
 ·rw [if_pos q3];exact wpS_bind (MZ hl hk (show 1<=((arrOf st).extract (sa+kk) (sa+na)).size by rw [zx]; lia) (show 1<=((arrOf st).extract (sa+na) (sa+na+t2)).size by rw [zy]; lia) (fun i x e=>Sall _ x (ax e).1) (fun i x e=>Sall _ x (ay e).1) sx sy fst lst fin)
 ·rw [if_neg q3];exact wpS_bind (Na hl hk (show 1<=((arrOf st).extract (sa+kk) (sa+na)).size by rw [zx]; lia) (show 1<=((arrOf st).extract (sa+na) (sa+na+t2)).size by rw [zy]; lia) (fun i x e=>Sall _ x (ax e).1) (fun i x e=>Sall _ x (ay e).1) sx sy fst lst fin)
end
end PyProof.Rows
namespace PyProof.Rows
open PySem
structure Rea (arr arr':Array Keyed) (lo hi:Nat):Prop where
 pm:arr'.toList.Perm arr.toList
 out:∀ i:Nat,i < lo\/hi<=i->arr'[i]?=arr[i]?
section
variable {prog:Program} {w:World} {A:Around} {E:Value->Shared->Prop} {s:Shared} {rk:Keyed->Nat} {S:Keyed->Prop} {κ:SortKind}
theorem Rea.refl (arr:Array Keyed) (lo hi:Nat):Rea arr arr lo hi:=⟨List.Perm.refl _,fun _ _=>rfl⟩
theorem Rea.size {arr arr':Array Keyed} {lo hi:Nat} (h:Rea arr arr' lo hi):arr'.size=arr.size:=by
 have:=h.pm.length_eq;rw [Array.length_toList,Array.length_toList] at this;exact this
theorem Rea.all {arr arr':Array Keyed} {lo hi:Nat} (h:Rea arr arr' lo hi) (Sa:∀ (i:Nat) x,arr[i]?=some x->S x) (i:Nat) (x:Keyed) (e:arr'[i]?=some x):S x:=by
 rw [<-Array.getElem?_toList] at e;obtain ⟨j,hj⟩:=List.getElem?_of_mem (h.pm.mem_iff.mp (List.mem_of_getElem? e));rw [Array.getElem?_toList] at hj;exact Sa j x hj
theorem Rea.trans {a b c:Array Keyed} {lo hi:Nat} (h:Rea a b lo hi) (h2:Rea b c lo hi):Rea a c lo hi:=⟨h2.pm.trans h.pm,fun i hi=>(h2.out i hi).trans (h.out i hi)⟩
theorem ins_ok {arr:Array Keyed} {lo k l hi:Nat} {key:Keyed} (hk:lo+k < hi) (hz:hi<=arr.size) (lk:l<=k) (ek:arr[lo+k]?=some key) (so:SoR rk arr lo (lo+k)) (h1:∀ (i:Nat) x,lo<=i->i < lo+l->arr[i]?=some x->rk x<=rk key) (h2:∀ (i:Nat) x,lo+l<=i->i < lo+k->arr[i]?=some x->rk key<=rk x):Rea arr (bubble arr (lo+k) (lo+k - (lo+l))) lo hi/\SoR rk (bubble arr (lo+k) (lo+k - (lo+l))) lo (lo+k+1):=by
 have g:=getElem?_bubble (xs:=arr) (src:=lo+k) (by omega) (lo+k - (lo+l)) (by omega);rw [show lo+k - (lo+k - (lo+l))=lo+l by omega] at g;refine ⟨⟨Array.perm_iff_toList_perm.mp (bubble_perm _ _ _),fun i hi'=>?_⟩,fun i j x y li ij jh ex ey=>?_⟩
 ·rw [g,if_neg (by omega),if_neg (by omega)]
 ·rw [g] at ex ey;by_cases ci:i=lo+l
  ·rw [if_pos ci,ek] at ex;cases ex;by_cases cj:j=lo+l
   ·rw [if_pos cj,ek] at ey;cases ey;exact Nat.le_refl _
   ·rw [if_neg cj,if_pos (by omega)] at ey;exact h2 (j - 1) y (by omega) (by omega) ey
  ·rw [if_neg ci] at ex;by_cases di:lo+l < i/\i<=lo+k
   ·rw [if_pos di] at ex;rw [if_neg (by omega),if_pos (by omega)] at ey;exact so (i - 1) (j - 1) x y (by omega) (by omega) (by omega) ex ey
   ·rw [if_neg di] at ex;by_cases cj:j=lo+l
    ·rw [if_pos cj,ek] at ey;cases ey;exact h1 i x li (by omega) ex
    ·rw [if_neg cj] at ey;by_cases dj:lo+l < j/\j<=lo+k
     ·rw [if_pos dj] at ey;exact so i (j - 1) x y li (by omega) (by omega) ex ey
     ·rw [if_neg dj] at ey;exact so i j x y li ij (by omega) ex ey
end
end PyProof.Rows
namespace PyProof.Rows
open PySem
section
variable {prog:Program} {w:World} {A:Around} {E:Value->Shared->Prop} {s:Shared} {rk:Keyed->Nat} {S:Keyed->Prop} {κ:SortKind}
theorem Fo {st:SortSt} {i j:Nat} {x y:Keyed} {Q:Option Bool->SortSt->Prop} (hl:IS prog w A E s rk S κ) (hk:kindOf st=κ) (ex:(arrOf st)[i]?=some x) (ey:(arrOf st)[j]?=some y) (Sx:S x) (Sy:S y) (h:Q (some (decide (rk x < rk y))) st):wpS (model prog w) A E s (ltAt' i j) Q st:=by
 rw [ltAt'_eq];exact wpS_bind (wpS_get (wpS_bind (CM ex (wpS_bind (CM ey (hl _ _ _ _ Sx Sy hk h))))))
theorem move_ok {st:SortSt} {src dst:Nat} {Q:Unit->SortSt->Prop} (h:Q () (setArr st (bubble (arrOf st) src (src - dst)))):wpS (model prog w) A E s (moveDown' src dst) Q st:=by
 rw [moveDown'_eq];exact wpS_modify h
theorem Jd {st:SortSt} {Q:Bool->SortSt->Prop} {lo n ok:Nat} (hl:IS prog w A E s rk S κ) (hk:kindOf st=κ) (hz:lo+n<=(arrOf st).size) (hok:ok<=n) (Sall:∀ (i:Nat) x,(arrOf st)[i]?=some x->S x) (so:SoR rk (arrOf st) lo (lo+ok)) (k:∀ arr',Rea (arrOf st) arr' lo (lo+n)->SoR rk arr' lo (lo+n)->Q true (setArr st arr')):wpS (model prog w) A E s (binarySort' lo n ok) Q st:=by
 refine wpS_bind (wpS_mono (wpS_forRange (I:=fun x c st'=>c=(none,())/\∃ arr',st'=setArr st arr'/\Rea (arrOf st) arr' lo (lo+n)/\SoR rk arr' lo (lo+x)) (Q:=fun c st'=>c=(none,())/\∃ arr',st'=setArr st arr'/\Rea (arrOf st) arr' lo (lo+n)/\SoR rk arr' lo (lo+n)) ?_ ?_ ⟨rfl,arrOf st,rfl,Rea.refl _ _ _,?_⟩) ?_)
 ·rintro x c st' hx1 hx ⟨rfl,arr',rfl,re,so'⟩;have sz:=re.size;obtain ⟨key,ek⟩:∃ key,arr'[lo+x]?=some key:=⟨_,Array.getElem?_eq_getElem (by lia)⟩
  refine wpS_bind (wpS_mono (wpS_forRange (I:=fun y r st''=>st''=setArr st arr'/\∃ l h,r=(none,l,h)/\l<=h/\h - l<=x - y/\h<=x/\(∀ (i:Nat) z,lo<=i->i < lo+l->arr'[i]?=some z->rk z<=rk key)/\(∀ (i:Nat) z,lo+h<=i->i < lo+x->arr'[i]?=some z->rk key<=rk z)) (Q:=fun r st''=>st''=setArr st arr'/\∃ l h,r=(none,l,h)/\l<=x/\(∀ (i:Nat) z,lo<=i->i < lo+l->arr'[i]?=some z->rk z<=rk key)/\(∀ (i:Nat) z,lo+l<=i->i < lo+x->arr'[i]?=some z->rk key<=rk z)) ?_ ?_ ⟨rfl,0,x,rfl,by lia,by lia,by lia,fun i z h1 h2=>absurd h2 (by lia),fun i z h1 h2=>absurd h2 (by lia)⟩) ?_)
  ·rintro y r st'' _ hy ⟨rfl,l,h,rfl,lh,me,hh,i1,i2⟩;dsimp only;by_cases z:l ≥ h
   ·rw [if_pos z];exact wpS_pure ⟨rfl,l,h,rfl,by lia,i1,fun i z' a b=>i2 i z' (by lia) b⟩
   rw [if_neg z];obtain ⟨v,ev⟩:∃ v,arr'[lo+(l+h) / 2]?=some v:=⟨_,Array.getElem?_eq_getElem (by lia)⟩
   refine wpS_bind (Fo hl hk ek ev (re.all Sall _ _ ek) (re.all Sall _ _ ev) ?_);dsimp only;by_cases lt:rk key < rk v
   ·rw [decide_eq_true lt,if_pos rfl];exact wpS_pure ⟨rfl,l,(l+h) / 2,rfl,by lia,by lia,by lia,i1,fun i z' a b e=>by
     have:=so' _ i _ _ (by lia) a (by lia) ev e;lia⟩
   ·rw [decide_eq_false lt,if_neg (by simp)];exact wpS_pure ⟨rfl,(l+h) / 2+1,h,rfl,by lia,by lia,hh,fun i z' a b e=>by
     have:=so' i (lo+(l+h) / 2) _ _ a (by lia) (by lia) e ev;lia,i2⟩
  ·rintro r st'' ⟨rfl,l,h,rfl,lh,me,hh,i1,i2⟩;exact ⟨rfl,l,h,rfl,by lia,i1,fun i z' a b=>i2 i z' (by lia) b⟩
  ·rintro r st'' ⟨rfl,l,h,rfl,lx,i1,i2⟩;dsimp only;have fin:=ins_ok (hi:=lo+n) (by lia) (by lia) lx ek so' i1 i2;exact wpS_bind (move_ok (wpS_pure ⟨rfl,_,rfl,re.trans fin.1,fin.2⟩))
 ·rintro c st' ⟨rfl,arr',rfl,re,so'⟩;exact ⟨rfl,arr',rfl,re,fun i j x y a b d=>so' i j x y a b (by lia)⟩
 ·intro i j x y a b d ex ey;by_cases z:j < lo+ok
  ·exact so i j x y a b z ex ey
  ·have:i=j:=by lia
   subst this;rw [ex] at ey;cases ey;exact Nat.le_refl _
 ·rintro c st' ⟨rfl,arr',rfl,re,so'⟩;exact wpS_pure (k arr' re so')
end
end PyProof.Rows
namespace PyProof.Rows
open PySem
def DeR (rk:Keyed->Nat) (arr:Array Keyed) (lo hi:Nat):Prop:=∀ (i j:Nat) (x y:Keyed),lo<=i->i<=j->j < hi->arr[i]?=some x->arr[j]?=some y->rk y<=rk x
def EqR (rk:Keyed->Nat) (arr:Array Keyed) (lo hi:Nat):Prop:=∀ (i j:Nat) (x y:Keyed),lo<=i->i < hi->lo<=j->j < hi->arr[i]?=some x->arr[j]?=some y->rk x=rk y
def Kr (rk:Keyed->Nat) (arr arr':Array Keyed):Prop:=∀ (k:Nat) (x':Keyed),arr'[k]?=some x'->∃ x,arr[k]?=some x/\rk x'=rk x
section
variable {prog:Program} {w:World} {A:Around} {E:Value->Shared->Prop} {s:Shared} {rk:Keyed->Nat} {S:Keyed->Prop} {κ:SortKind}
theorem SoR.one {arr:Array Keyed} {lo:Nat}:SoR rk arr lo (lo+1):=fun i j x y a b c ex ey=>by
 have:i=j:=by lia
 subst this;rw [ex] at ey;cases ey;exact Nat.le_refl _
theorem EqR.one {arr:Array Keyed} {lo:Nat}:EqR rk arr (lo+1 - (0+1)) (lo+1):=fun i j x y a b c d ex ey=>by
 have:i=j:=by lia
 subst this;rw [ex] at ey;cases ey;rfl
theorem SoR.snoc {arr:Array Keyed} {lo hi:Nat} {x y:Keyed} (h:SoR rk arr lo hi) (l:lo < hi) (ex:arr[hi]?=some x) (ey:arr[hi - 1]?=some y) (le:rk y<=rk x):SoR rk arr lo (hi+1):=fun i j a b li ij jh ea eb=>by
 by_cases z:j < hi
 ·exact h i j a b li ij z ea eb
 ·have:j=hi:=by lia
  subst this;rw [ex] at eb;cases eb;by_cases q:i=j
  ·subst q;rw [ex] at ea;cases ea;exact Nat.le_refl _
  ·exact Nat.le_trans (h i (j - 1) a y li (by lia) (by lia) ea ey) le
theorem DeR.snoc {arr:Array Keyed} {lo hi:Nat} {x y:Keyed} (h:DeR rk arr lo hi) (l:lo < hi) (ex:arr[hi]?=some x) (ey:arr[hi - 1]?=some y) (le:rk x<=rk y):DeR rk arr lo (hi+1):=fun i j a b li ij jh ea eb=>by
 by_cases z:j < hi
 ·exact h i j a b li ij z ea eb
 ·have:j=hi:=by lia
  subst this;rw [ex] at eb;cases eb;by_cases q:i=j
  ·subst q;rw [ex] at ea;cases ea;exact Nat.le_refl _
  ·exact Nat.le_trans le (h i (j - 1) a y li (by lia) (by lia) ea ey)
theorem EqR.snoc {arr:Array Keyed} {lo hi:Nat} {x y:Keyed} (h:EqR rk arr lo hi) (l:lo < hi) (ex:arr[hi]?=some x) (ey:arr[hi - 1]?=some y) (le:rk x=rk y):EqR rk arr lo (hi+1):=by
 have key:∀ (i:Nat) a,lo<=i->i < hi+1->arr[i]?=some a->rk a=rk y:=fun i a li ih ea=>by
  by_cases z:i < hi
  ·exact h i (hi - 1) a y li z (by lia) (by lia) ea ey
  ·have:i=hi:=by lia
   subst this;rw [ex] at ea;cases ea;exact le
 exact fun i j a b li ih lj jh ea eb=>(key i a li ih ea).trans (key j b lj jh eb).symm
theorem DeR.kr {arr arr':Array Keyed} {lo hi:Nat} (h:DeR rk arr lo hi) (k:Kr rk arr arr'):DeR rk arr' lo hi:=fun i j a b li ij jh ea eb=>by
 obtain ⟨a',e1,q1⟩:=k i a ea;obtain ⟨b',e2,q2⟩:=k j b eb;rw [q1,q2];exact h i j a' b' li ij jh e1 e2
theorem EqR.mir {arr:Array Keyed} {lo hi:Nat} (h:EqR rk arr lo hi) (hz:hi<=arr.size):Kr rk arr (mirror arr lo hi ((hi - lo) / 2)):=fun k x' e=>by
 have g:=getElem?_mirror_all (xs:=arr) (i:=lo) hz k;rw [g] at e;split at e
 ·rename_i q;obtain ⟨x,ex⟩:∃ x,arr[k]?=some x:=⟨_,Array.getElem?_eq_getElem (by lia)⟩
  exact ⟨x,ex,h _ _ _ _ (by lia) (by lia) q.1 q.2 e ex⟩
 ·exact ⟨x',e,rfl⟩
theorem GZ {arr:Array Keyed} {i j lo hi:Nat} (li:lo<=i) (jh:j<=hi) (hz:hi<=arr.size):Rea arr (mirror arr i j ((j - i) / 2)) lo hi:=⟨Array.perm_iff_toList_perm.mp (mirror_perm _ _ _ _),fun k hk=>by
 rw [getElem?_mirror_all (by lia)];by_cases q:i<=k/\k < j
 ·lia
 ·rw [if_neg q]⟩
theorem DeR.mir {arr:Array Keyed} {lo hi:Nat} (h:DeR rk arr lo hi) (hz:hi<=arr.size):SoR rk (mirror arr lo hi ((hi - lo) / 2)) lo hi:=fun i j a b li ij jh ea eb=>by
 rw [getElem?_mirror_all hz,if_pos (by lia)] at ea eb;exact h _ _ b a (by lia) (by lia) (by lia) eb ea
theorem JP {st:SortSt} {i j:Nat} {Q:Unit->SortSt->Prop} (h:Q () (setArr st (mirror (arrOf st) i j ((j - i) / 2)))):wpS (model prog w) A E s (reverseSlice' i j) Q st:=by
 rw [reverseSlice'_eq];exact wpS_modify h
theorem Mm {st:SortSt} {Q:Option Nat->SortSt->Prop} {lo nrem:Nat} (hl:IS prog w A E s rk S κ) (hk:kindOf st=κ) (hz:lo+nrem<=(arrOf st).size) (h1:1<=nrem) (Sall:∀ (i:Nat) x,(arrOf st)[i]?=some x->S x)
  (k:∀ arr' m,Rea (arrOf st) arr' lo (lo+nrem)->1<=m->m<=nrem->SoR rk arr' lo (lo+m)->Q (some m) (setArr st arr')):wpS (model prog w) A E s (countRun' lo nrem) Q st:=by
 refine wpS_bind (wpS_mono (wpS_forRange (I:=fun x c st'=>st'=setArr st (arrOf st)/\c=(none,x)/\SoR rk (arrOf st) lo (lo+x)) (Q:=fun c st'=>st'=setArr st (arrOf st)/\∃ n,c=(none,n)/\1<=n/\n<=nrem/\SoR rk (arrOf st) lo (lo+n)/\(n=nrem\/∀ x y,(arrOf st)[lo+n]?=some x->(arrOf st)[lo+n - 1]?=some y->rk x < rk y)) ?_ ?_ ⟨rfl,rfl,?_⟩) ?_)
 ·rintro x c st' hx1 hx ⟨rfl,rfl,so⟩;obtain ⟨a,ea⟩:∃ a,(arrOf st)[lo+x]?=some a:=⟨_,Array.getElem?_eq_getElem (by lia)⟩
  obtain ⟨b,eb⟩:∃ b,(arrOf st)[lo+x - 1]?=some b:=⟨_,Array.getElem?_eq_getElem (by lia)⟩
  refine wpS_bind (Fo hl hk ea eb (Sall _ _ ea) (Sall _ _ eb) (wpI (fun lt=>wpS_pure ⟨rfl,x,rfl,by lia,by lia,so,.inr fun p q ep eq=>by rw [ea] at ep; rw [eb] at eq; cases ep; cases eq; exact of_decide_eq_true lt⟩) fun lt=>?_));have lt:=fun z=>lt (decide_eq_true z);exact wpS_pure ⟨rfl,rfl,so.snoc (by lia) ea eb (by lia)⟩
 ·rintro c st' ⟨rfl,rfl,so⟩;rw [Nat.max_eq_right (by lia)] at so ⊢;exact ⟨rfl,nrem,rfl,h1,Nat.le_refl _,so,.inl rfl⟩
 ·exact SoR.one
 ·rintro c st' ⟨rfl,n,rfl,n1,n2,so,fall⟩;refine wpE (fun q1=>wpS_pure (k (arrOf st) n (Rea.refl _ _ _) n1 n2 so)) fun q1=>?_;have fall:=fall.resolve_left q1;obtain ⟨a,ea⟩:∃ a,(arrOf st)[lo+n]?=some a:=⟨_,Array.getElem?_eq_getElem (by lia)⟩
  obtain ⟨b,eb⟩:∃ b,(arrOf st)[lo+n - 1]?=some b:=⟨_,Array.getElem?_eq_getElem (by lia)⟩
  have flt:=fall a b ea eb;dsimp -zeta only
  extract_lets n_ q_ jp
  refine wpC (fun Q _=>∀ ar,Rea (arrOf st) ar lo (lo+nrem)->DeR rk ar lo (lo+n+1)->wpS (model prog w) A E s (jp ()) Q (setArr st ar)) (fun ar re0 de0=>?_) fun hj=>?_
  ·refine wpS_bind (wpS_lift (wpAny_rule ⟨rfl,?_⟩));refine wpS_bind (wpS_mono (wpS_forRange (I:=fun x c st'=>∃ arr' neq,st'=setArr st arr'/\c=(none,x,neq)/\Rea (arrOf st) arr' lo (lo+nrem)/\neq+1<=x/\DeR rk arr' lo (lo+x)/\EqR rk arr' (lo+x - (neq+1)) (lo+x)) (Q:=fun c st'=>∃ arr' n neq,st'=setArr st arr'/\c=(none,n,neq)/\Rea (arrOf st) arr' lo (lo+nrem)/\1<=n/\n<=nrem/\neq+1<=n/\DeR rk arr' lo (lo+n)/\EqR rk arr' (lo+n - (neq+1)) (lo+n)) ?_ ?_ ⟨ar,0,rfl,rfl,re0,by lia,de0,EqR.one (lo:=lo+n)⟩) ?_)
   ·rintro x c st' hx1 hx ⟨arr',neq,rfl,rfl,re',nq,de',eq'⟩;have hzz:lo+nrem<=arr'.size:=by rw [Rea.size re']; exact hz
    obtain ⟨a,ea⟩:∃ a,arr'[lo+x]?=some a:=⟨_,Array.getElem?_eq_getElem (by lia)⟩
    obtain ⟨b,eb⟩:∃ b,arr'[lo+x - 1]?=some b:=⟨_,Array.getElem?_eq_getElem (by lia)⟩
    refine wpS_bind (Fo hl hk ea eb (Rea.all re' Sall _ _ ea) (Rea.all re' Sall _ _ eb) (wpI (fun lt=>?_) fun lt=>?_))
    ·have dn:DeR rk arr' lo (lo+x+1):=de'.snoc (by lia) ea eb (Nat.le_of_lt (of_decide_eq_true lt));exact wpI (fun q=>wpS_bind (JP (wpS_pure ⟨_,0,rfl,rfl,Rea.trans re' (GZ (by lia) (by lia) hzz),by lia,dn.kr (eq'.mir (by lia)),EqR.one (lo:=lo+x)⟩))) fun q=>wpS_pure ⟨arr',0,rfl,rfl,re',by lia,dn,EqR.one (lo:=lo+x)⟩
    ·have lt:=fun z=>lt (decide_eq_true z);refine wpS_bind (Fo hl hk eb ea (Rea.all re' Sall _ _ eb) (Rea.all re' Sall _ _ ea) (wpI (fun gt=>wpS_pure ⟨arr',x,neq,rfl,rfl,re',by lia,by lia,nq,de',eq'⟩) fun gt=>?_));have gt:=fun z=>gt (decide_eq_true z);refine wpS_pure ⟨arr',neq+1,rfl,rfl,re',by lia,de'.snoc (by lia) ea eb (by lia),?_⟩;have:=eq'.snoc (by lia) ea eb (by lia);rw [show lo+(x+1) - (neq+1+1)=lo+x - (neq+1) by lia];exact this
   ·rintro c st' ⟨arr',neq,rfl,rfl,re',nq,de',eq'⟩;rw [Nat.max_eq_right (by show n+1<=nrem; lia)] at nq de' eq' ⊢;exact ⟨arr',nrem,neq,rfl,rfl,re',h1,Nat.le_refl _,nq,de',eq'⟩
   ·rintro c st' ⟨arr',n',neq,rfl,rfl,re',n1,n2,nq,de',eq'⟩;have hzz:lo+nrem<=arr'.size:=by rw [Rea.size re']; exact hz
    dsimp -zeta only
    extract_lets r_ s_ n_ q_ jp2
    refine wpC (fun Q _=>∀ ar,Rea (arrOf st) ar lo (lo+nrem)->DeR rk ar lo (lo+n')->wpS (model prog w) A E s (jp2 ()) Q (setArr st ar)) (fun ar reM deM=>?_) fun hj2=>?_
    ·have reT:Rea (arrOf st) (mirror ar lo (lo+n') ((lo+n' - lo) / 2)) lo (lo+nrem):=Rea.trans reM (GZ (Nat.le_refl _) (by lia) (by rw [Rea.size reM]; exact hz));have so0:=DeR.mir deM (by rw [Rea.size reM]; lia);refine wpS_bind (JP ?_);show wpS _ _ _ _ _ _ (setArr st (mirror ar lo (lo+n') ((lo+n' - lo) / 2)));generalize mirror ar lo (lo+n') ((lo+n' - lo) / 2)=arM at reT so0;refine wpS_bind (wpS_mono (wpS_forRange (I:=fun x c st'=>st'=setArr st arM/\c=(none,x)/\SoR rk arM lo (lo+x)) (Q:=fun c st'=>st'=setArr st arM/\∃ n,c=(none,n)/\1<=n/\n<=nrem/\SoR rk arM lo (lo+n)) ?_ ?_ ⟨rfl,rfl,so0⟩) ?_)
     ·rintro x c st' hx1 hx ⟨rfl,rfl,so⟩;have hzz:lo+nrem<=arM.size:=by rw [Rea.size reT]; exact hz
      obtain ⟨a,ea⟩:∃ a,arM[lo+x]?=some a:=⟨_,Array.getElem?_eq_getElem (by lia)⟩
      obtain ⟨b,eb⟩:∃ b,arM[lo+x - 1]?=some b:=⟨_,Array.getElem?_eq_getElem (by lia)⟩
      refine wpS_bind (Fo hl hk ea eb (Rea.all reT Sall _ _ ea) (Rea.all reT Sall _ _ eb) (wpI (fun lt=>wpS_pure ⟨rfl,x,rfl,by lia,by lia,so⟩) fun lt=>?_));have lt:=fun z=>lt (decide_eq_true z);exact wpS_pure ⟨rfl,rfl,so.snoc (by lia) ea eb (by lia)⟩
     ·rintro c st' ⟨rfl,rfl,so⟩;rw [Nat.max_eq_right n2] at so ⊢;exact ⟨rfl,nrem,rfl,h1,Nat.le_refl _,so⟩
     ·rintro c st' ⟨rfl,m,rfl,m1,m2,so⟩;exact wpS_pure (k _ m reT m1 m2 so)
    ·clear_value jp2
     exact wpI (fun q=>wpS_bind (JP (hj2 (mirror arr' (lo+n' - (neq+1)) (lo+n') ((lo+n' - (lo+n' - (neq+1))) / 2)) (Rea.trans re' (GZ (by lia) (by lia) hzz)) (de'.kr (eq'.mir (by lia)))))) fun q=>hj2 arr' re' de'
  ·clear_value jp
   refine wpI (fun q2=>?_) fun q2=>?_
   ·obtain ⟨z,ez⟩:∃ z,(arrOf st)[lo]?=some z:=⟨_,Array.getElem?_eq_getElem (by lia)⟩
    refine wpS_bind (Fo hl hk ez eb (Sall _ _ ez) (Sall _ _ eb) (wpI (fun _=>wpS_pure (k (arrOf st) n (Rea.refl _ _ _) n1 n2 so)) fun rose=>?_));have rose:=fun z=>rose (decide_eq_true z);have eqa:EqR rk (arrOf st) lo (lo+n):=by
     have key:∀ (i:Nat) x,lo<=i->i < lo+n->(arrOf st)[i]?=some x->rk x=rk b:=fun i x li ih ex=>by
      have:=so lo i z x (Nat.le_refl _) li ih ez ex;have:=so i (lo+n - 1) x b li (by lia) (by lia) ex eb;lia
     exact fun i j x y li ih lj jh ex ey=>(key i x li ih ex).trans (key j y lj jh ey).symm
    exact wpS_bind (JP (hj _ (GZ (Nat.le_refl _) (by lia) hz) (DeR.kr (DeR.snoc (fun i j x y li ij jh ex ey=>Nat.le_of_eq (eqa j i y x (by lia) jh li (by lia) ey ex)) (by lia) ea eb (Nat.le_of_lt flt)) (eqa.mir (by lia)))))
   ·refine hj (arrOf st) (Rea.refl _ _ _) (DeR.snoc (fun i j x y li ij jh ex ey=>?_) (by lia) ea eb (Nat.le_of_lt flt));have:i=j:=by lia
    subst this;rw [ex] at ey;cases ey;exact Nat.le_refl _
end
end PyProof.Rows
namespace PyProof.Rows
open PySem
def CL (rk:Keyed->Nat) (arr:Array Keyed):List (Nat×Nat×Nat)->Nat->Nat->Prop
 | [],a,b=>a=b
 | r :: l,a,b=>r.1=a/\1<=r.2.1/\SoR rk arr a (a+r.2.1)/\CL rk arr l (a+r.2.1) b
section
variable {prog:Program} {w:World} {A:Around} {E:Value->Shared->Prop} {s:Shared} {rk:Keyed->Nat} {S:Keyed->Prop} {κ:SortKind}
theorem CL.le {arr:Array Keyed}:∀ {l:List (Nat×Nat×Nat)} {a b:Nat},CL rk arr l a b->a+l.length<=b
 | [],a,b,h=>Nat.le_of_eq h
 | r :: l,a,b,h=>by
  have:=CL.le h.2.2.2;have:=h.2.1;rw [List.length_cons];lia
theorem CL.app {arr:Array Keyed}:∀ {l l2:List (Nat×Nat×Nat)} {a b c:Nat},CL rk arr l a b->CL rk arr l2 b c->CL rk arr (l ++ l2) a c
 | [],l2,a,b,c,h,h2=>by
  cases (show a=b from h);exact h2
 | r :: l,l2,a,b,c,h,h2=>⟨h.1,h.2.1,h.2.2.1,CL.app h.2.2.2 h2⟩
theorem CL.cut {arr:Array Keyed}:∀ {l l2:List (Nat×Nat×Nat)} {a c:Nat},CL rk arr (l ++ l2) a c->∃ b,CL rk arr l a b/\CL rk arr l2 b c
 | [],l2,a,c,h=>⟨a,rfl,h⟩
 | r :: l,l2,a,c,h=>by
  obtain ⟨b,h1,h2⟩:=CL.cut h.2.2.2;exact ⟨b,⟨h.1,h.2.1,h.2.2.1,h1⟩,h2⟩
theorem CL.out {arr arr':Array Keyed}:∀ {l:List (Nat×Nat×Nat)} {a b:Nat},CL rk arr l a b->(∀ i:Nat,a<=i->i < b->arr'[i]?=arr[i]?)->CL rk arr' l a b
 | [],a,b,h,k=>h
 | r :: l,a,b,h,k=>by
  have:=CL.le h.2.2.2;refine ⟨h.1,h.2.1,fun i j x y li ij jh ex ey=>?_,CL.out h.2.2.2 fun i p q=>k i (by lia) q⟩;rw [k _ (by lia) (by lia)] at ex ey;exact h.2.2.1 i j x y li ij jh ex ey
theorem CL.last {arr:Array Keyed} {f:Nat×Nat×Nat->Nat×Nat×Nat} (hf:∀ r,(f r).1=r.1/\(f r).2.1=r.2.1):∀ {l:List (Nat×Nat×Nat)} {a b k:Nat},CL rk arr l a b->CL rk arr (l.modify k f) a b
 | [],a,b,k,h=>by
  rw [List.modify_nil];exact h
 | r :: l,a,b,0,h=>by
  rw [List.modify_zero_cons];refine ⟨(hf r).1.trans h.1,?_,?_,?_⟩
  ·rw [(hf r).2];exact h.2.1
  ·rw [(hf r).2];exact h.2.2.1
  ·rw [(hf r).2];exact h.2.2.2
 | r :: l,a,b,k+1,h=>by
  rw [List.modify_succ_cons];exact ⟨h.1,h.2.1,h.2.2.1,CL.last hf h.2.2.2⟩
theorem two_of {α:Type} {l:List α} {i:Nat} {x y:α} (e1:l[i]?=some x) (e2:l[i+1]?=some y):∃ l1 l2,l=l1 ++ x :: y :: l2/\l1.length=i:=by
 have h1:=(List.getElem?_eq_some_iff.mp e1).1;have h2:=(List.getElem?_eq_some_iff.mp e2).1;refine ⟨l.take i,l.drop (i+2),?_,by rw [List.length_take]; lia⟩;have d1:l.drop i=x :: l.drop (i+1):=by
  rw [List.drop_eq_getElem_cons h1,(List.getElem?_eq_some_iff.mp e1).2]
 have d2:l.drop (i+1)=y :: l.drop (i+2):=by
  rw [List.drop_eq_getElem_cons h2,(List.getElem?_eq_some_iff.mp e2).2]
 rw [<-d2,<-d1,List.take_append_drop]
theorem Qh {p:Array (Nat×Nat×Nat)} {i:Nat} {x y z:Nat×Nat×Nat} {l1 l2:List (Nat×Nat×Nat)} (e:p.toList=l1 ++ x :: y :: l2) (li:l1.length=i):((p.setIfInBounds i z).eraseIdxIfInBounds (i+1)).toList=l1 ++ z :: l2:=by
 subst li;have e1:(p.setIfInBounds l1.length z).toList=l1 ++ z :: y :: l2:=by
  rw [Array.toList_setIfInBounds,e,List.set_append_right _ _ (Nat.le_refl _),Nat.sub_self];rfl
 have sz:(p.setIfInBounds l1.length z).size=l1.length+2+l2.length:=by
  rw [<-Array.length_toList,e1,List.length_append,List.length_cons,List.length_cons];lia
 unfold Array.eraseIdxIfInBounds;rw [dif_pos (by lia),Array.toList_eraseIdx,e1,List.eraseIdx_append_of_length_le (by lia),Nat.add_sub_cancel_left];rfl
structure Srn (rk:Keyed->Nat) (κ:SortKind) (a0:Array Keyed) (lo:Nat) (st:SortSt):Prop where
 kind:kindOf st=κ
 fail:failedOf st=none
 pm:(arrOf st).toList.Perm a0.toList
 runs:CL rk (arrOf st) (pendingOf st).toList 0 lo
theorem Srn.size {a0:Array Keyed} {lo:Nat} {st:SortSt} (h:Srn rk κ a0 lo st):(arrOf st).size=a0.size:=by
 have:=h.pm.length_eq;rw [Array.length_toList,Array.length_toList] at this;exact this
theorem Srn.all {a0:Array Keyed} {lo:Nat} {st:SortSt} (h:Srn rk κ a0 lo st) (Sa:∀ (i:Nat) x,a0[i]?=some x->S x) (i:Nat) (x:Keyed) (e:(arrOf st)[i]?=some x):S x:=by
 rw [<-Array.getElem?_toList] at e;obtain ⟨j,hj⟩:=List.getElem?_of_mem (h.pm.mem_iff.mp (List.mem_of_getElem? e));rw [Array.getElem?_toList] at hj;exact Sa j x hj
theorem IA {st:SortSt} {Q:Bool->SortSt->Prop} {i lo:Nat} {a0:Array Keyed} (hl:IS prog w A E s rk S κ) (h:Srn rk κ a0 lo st) (Sa:∀ (i:Nat) x,a0[i]?=some x->S x) (hi:i+1 < (pendingOf st).size) (hlo:lo<=a0.size)
  (k:∀ st',Srn rk κ a0 lo st'->(pendingOf st').size+1=(pendingOf st).size->(∀ j:Nat,lo<=j->(arrOf st')[j]?=(arrOf st)[j]?)->Q true st'):wpS (model prog w) A E s (mergeAt' i) Q st:=by
 obtain ⟨⟨sa,na,pa⟩,e1⟩:∃ x,(pendingOf st)[i]?=some x:=⟨_,Array.getElem?_eq_getElem (by lia)⟩
 obtain ⟨⟨sb,nb,pb⟩,e2⟩:∃ x,(pendingOf st)[i+1]?=some x:=⟨_,Array.getElem?_eq_getElem hi⟩
 obtain ⟨l1,l2,el,li⟩:=two_of (l:=(pendingOf st).toList) (by rw [Array.getElem?_toList]; exact e1) (by rw [Array.getElem?_toList]; exact e2);have rn:=h.runs;rw [el] at rn;obtain ⟨c,r1,rn⟩:=rn.cut;obtain ⟨q1,n1,s1,rn⟩:=rn;obtain ⟨q2,n2,s2,rn⟩:=rn;dsimp only at q1 n1 s1 q2 n2 s2 rn;subst q1;have r1le:=r1.le;have rnle:=rn.le;have sz:=h.size;refine Nb hl h.kind h.fail e1 e2 q2 n1 n2 (by lia) (h.all Sa) (q2 ▸ s1) (q2 ▸ s2) fun st' k1 k2 k3 mg=>?_;have pl:=Qh (z:=(sa,na+nb,pa)) el li;rw [<-k3] at pl;refine k st' ⟨k1,k2,mg.pm.trans h.pm,?_⟩ ?_ fun j hj=>mg.out j (.inr (by lia))
 ·rw [pl];refine CL.app (CL.out r1 fun j _ hj=>mg.out j (.inl hj)) ⟨rfl,by show 1<=na+nb; lia,?_,?_⟩
  ·have:=mg.so;rw [q2,Nat.add_assoc] at this;exact this
  ·show CL rk (arrOf st') l2 (sa+(na+nb)) lo;rw [<-Nat.add_assoc];exact CL.out rn fun j hj _=>mg.out j (.inr (by lia))
 ·have a1:=congrArg List.length pl;have a2:=congrArg List.length el;rw [Array.length_toList,List.length_append,List.length_cons] at a1;rw [Array.length_toList,List.length_append,List.length_cons,List.length_cons] at a2;lia
end
end PyProof.Rows
namespace PyProof.Rows
open PySem
section
variable {prog:Program} {w:World} {A:Around} {E:Value->Shared->Prop} {s:Shared} {rk:Keyed->Nat} {S:Keyed->Prop} {κ:SortKind}
theorem Srn.push {a0:Array Keyed} {lo n pw:Nat} {st:SortSt} (h:Srn rk κ a0 lo st) (n1:1<=n) (so:SoR rk (arrOf st) lo (lo+n)):Srn rk κ a0 (lo+n) (setPending st ((pendingOf st).push (lo,n,pw))) :=
 ⟨h.kind,h.fail,h.pm,by
  show CL rk (arrOf st) ((pendingOf st).push (lo,n,pw)).toList 0 (lo+n);rw [Array.toList_push];exact CL.app h.runs ⟨rfl,n1,so,rfl⟩⟩
theorem Srn.last {a0:Array Keyed} {lo k:Nat} {st:SortSt} {f:Nat×Nat×Nat->Nat×Nat×Nat} (hf:∀ r,(f r).1=r.1/\(f r).2.1=r.2.1) (h:Srn rk κ a0 lo st):Srn rk κ a0 lo (setPending st ((pendingOf st).modify k f)) :=
 ⟨h.kind,h.fail,h.pm,by
  show CL rk (arrOf st) ((pendingOf st).modify k f).toList 0 lo;rw [Array.toList_modify];exact CL.last hf h.runs⟩
theorem LG {st:SortSt} {Q:Unit->SortSt->Prop} (hl:IS prog w A E s rk S κ) (hk:kindOf st=κ) (hf:failedOf st=none) (hp:pendingOf st=#[]) (Sa:∀ (i:Nat) x,(arrOf st)[i]?=some x->S x)
  (k:∀ st',failedOf st'=none->(arrOf st').toList.Perm (arrOf st).toList->SoR rk (arrOf st') 0 (arrOf st).size->Q () st'):wpS (model prog w) A E s sortRuns' Q st:=by
 have h0:Srn rk κ (arrOf st) 0 st:=⟨hk,hf,List.Perm.refl _,by rw [hp]; rfl⟩
 generalize e0:arrOf st=a0 at h0 Sa k;rw [sortRuns'_eq];refine wpS_bind (wpS_get ?_);dsimp only;have esz:(arrOf st).size=a0.size:=by rw [e0]
 simp only [esz];generalize minRun' a0.size a0.size 0=mr;refine wpS_bind (wpS_mono (wpS_forRange (I:=fun x c st'=>∃ lo,c=(none,lo)/\Srn rk κ a0 lo st'/\lo<=a0.size/\(x<=lo\/a0.size<=lo)) (Q:=fun c st'=>c=(none,a0.size)/\Srn rk κ a0 a0.size st') ?step ?fin ⟨0,rfl,h0,by lia,by lia⟩) ?post)
 case fin =>
  rintro c st' ⟨lo,rfl,hS,l1,l2⟩;have:lo=a0.size:=by lia
  subst this;exact ⟨rfl,hS⟩
 case step =>
  rintro x c st' _ hx ⟨lo,rfl,hS,l1,l2⟩;dsimp only;by_cases ge:lo ≥ a0.size
  ·rw [if_pos ge];have:lo=a0.size:=by lia
   subst this;exact wpS_pure ⟨rfl,hS⟩
  rw [if_neg ge];have sz:=hS.size;have rest:∀ (n:Nat) (st2:SortSt),Srn rk κ a0 lo st2->1<=n->lo+n<=a0.size->SoR rk (arrOf st2) lo (lo+n)->∃ lo',((none,lo+n):Option Unit×Nat)=(none,lo')/\Srn rk κ a0 lo' (setPending st2 ((pendingOf st2).push (lo,n,0)))/\lo'<=a0.size/\(x+1<=lo'\/a0.size<=lo'):=fun n st2 h2 n1 nl so=>⟨lo+n,rfl,h2.push n1 so,nl,by lia⟩
  refine wpS_bind (Mm hl hS.kind (show lo+(a0.size - lo)<=(arrOf st').size by lia) (by lia) (hS.all Sa) fun arr' m re m1 m2 so=>?_);dsimp only;have hS1:Srn rk κ a0 lo (setArr st' arr'):=⟨hS.kind,hS.fail,re.pm.trans hS.pm,CL.out hS.runs fun i _ h=>re.out i (.inl h)⟩
  by_cases few:m < mr
  ·rw [if_pos few];refine wpS_bind (wpS_lift (wpAny_rule ⟨rfl,?_⟩));refine wpS_bind (Jd hl hS1.kind (show lo+min (a0.size - lo) mr<=(arrOf (setArr st' arr')).size by rw [hS1.size]; lia) (by lia) (hS1.all Sa) so fun arr2 re2 so2=>?_);have hS2:Srn rk κ a0 lo (setArr st' arr2):=⟨hS.kind,hS.fail,re2.pm.trans hS1.pm,CL.out hS1.runs fun i _ h=>re2.out i (.inl h)⟩
   generalize hn:min (a0.size - lo) mr=n at so2 ⊢;have n1:1<=n:=by lia
   have nl:lo+n<=a0.size:=by lia
   simp only [Bool.not_true,Bool.false_eq_true,if_false];have so2:SoR rk (arrOf (setArr st' arr2)) lo (lo+n):=so2;generalize setArr st' arr2=st2 at hS2 so2 ⊢;refine wpS_bind (wpS_get ?_);cases hb:(pendingOf st2).back? with
   | none =>
    dsimp only;exact wpS_bind (wpS_modify (wpS_pure (rest n st2 hS2 n1 nl so2)))
   | some r =>
    obtain ⟨s1,n1',p1⟩:=r;dsimp only;refine wpS_bind (wpS_mono (wpS_forRange (I:=fun _ c st3=>c=(none,())/\Srn rk κ a0 lo st3/\SoR rk (arrOf st3) lo (lo+n)) (Q:=fun c st3=>c=(none,())/\Srn rk κ a0 lo st3/\SoR rk (arrOf st3) lo (lo+n)) ?_ (fun c st3 h=>h) ⟨rfl,hS2,so2⟩) ?_)
    ·rintro y c st3 _ _ ⟨rfl,h3,so3⟩;refine wpS_bind (wpS_get ?_);by_cases g:(pendingOf st3).size > 1
     ·rw [if_pos g];obtain ⟨⟨sx,nx,older⟩,e⟩:∃ x,(pendingOf st3)[(pendingOf st3).size - 2]?=some x:=⟨_,Array.getElem?_eq_getElem (by lia)⟩
      rw [e];dsimp only;split
      ·exact wpS_pure ⟨rfl,h3,so3⟩
      ·refine wpS_bind (IA hl h3 Sa (by lia) l1 fun st4 h4 _ keep=>?_);simp only [Bool.not_true,Bool.false_eq_true,if_false];refine wpS_pure ⟨rfl,h4,fun i j x y li ij jh ex ey=>?_⟩;rw [keep _ (by lia)] at ex ey;exact so3 i j x y li ij jh ex ey
     ·rw [if_neg g];exact wpS_pure ⟨rfl,h3,so3⟩
    ·rintro c st3 ⟨rfl,h3,so3⟩;dsimp only;exact wpS_bind (wpS_modify (wpS_bind (wpS_modify (wpS_pure (rest n _ (Srn.last (fun r=>⟨rfl,rfl⟩) h3) n1 nl so3)))))
  ·rw [if_neg few];have so2:SoR rk (arrOf (setArr st' arr')) lo (lo+m):=so;have hS2:=hS1;generalize setArr st' arr'=st2 at hS2 so2 ⊢;have n1:1<=m:=m1;have nl:lo+m<=a0.size:=by lia
   generalize m=n at so2 n1 nl ⊢;refine wpS_bind (wpS_get ?_);cases hb:(pendingOf st2).back? with
   | none =>
    dsimp only;exact wpS_bind (wpS_modify (wpS_pure (rest n st2 hS2 n1 nl so2)))
   | some r =>
    obtain ⟨s1,n1',p1⟩:=r;dsimp only;refine wpS_bind (wpS_mono (wpS_forRange (I:=fun _ c st3=>c=(none,())/\Srn rk κ a0 lo st3/\SoR rk (arrOf st3) lo (lo+n)) (Q:=fun c st3=>c=(none,())/\Srn rk κ a0 lo st3/\SoR rk (arrOf st3) lo (lo+n)) ?_ (fun c st3 h=>h) ⟨rfl,hS2,so2⟩) ?_)
    ·rintro y c st3 _ _ ⟨rfl,h3,so3⟩;refine wpS_bind (wpS_get ?_);by_cases g:(pendingOf st3).size > 1
     ·rw [if_pos g];obtain ⟨⟨sx,nx,older⟩,e⟩:∃ x,(pendingOf st3)[(pendingOf st3).size - 2]?=some x:=⟨_,Array.getElem?_eq_getElem (by lia)⟩
      rw [e];dsimp only;split
      ·exact wpS_pure ⟨rfl,h3,so3⟩
      ·refine wpS_bind (IA hl h3 Sa (by lia) l1 fun st4 h4 _ keep=>?_);simp only [Bool.not_true,Bool.false_eq_true,if_false];refine wpS_pure ⟨rfl,h4,fun i j x y li ij jh ex ey=>?_⟩;rw [keep _ (by lia)] at ex ey;exact so3 i j x y li ij jh ex ey
     ·rw [if_neg g];exact wpS_pure ⟨rfl,h3,so3⟩
    ·rintro c st3 ⟨rfl,h3,so3⟩;dsimp only;exact wpS_bind (wpS_modify (wpS_bind (wpS_modify (wpS_pure (rest n _ (Srn.last (fun r=>⟨rfl,rfl⟩) h3) n1 nl so3)))))
 case post =>
  rintro c st' ⟨rfl,hS⟩;dsimp only;refine wpS_bind (wpS_mono (wpS_forRange (I:=fun x c st''=>c=(none,())/\Srn rk κ a0 a0.size st''/\((pendingOf st'').size<=1\/(pendingOf st'').size+x<=a0.size)) (Q:=fun c st''=>c=(none,())/\Srn rk κ a0 a0.size st''/\(pendingOf st'').size<=1) ?_ ?_ ⟨rfl,hS,?_⟩) ?_)
  ·rintro x c st'' _ hx ⟨rfl,h1,h2⟩;refine wpS_bind (wpS_get ?_);by_cases q:(pendingOf st'').size<=1
   ·rw [if_pos q];exact wpS_pure ⟨rfl,h1,q⟩
   rw [if_neg q];have go:∀ i,i+1 < (pendingOf st'').size->wpS (model prog w) A E s (mergeAt' i) (fun b st4=>b=true/\Srn rk κ a0 a0.size st4/\(pendingOf st4).size+(x+1)<=a0.size) st'':=fun i hi=>IA hl h1 Sa hi (Nat.le_refl _) fun st4 h4 h5 _=>⟨rfl,h4,by lia⟩
   refine wpS_bind (wpS_mono (go _ ?_) fun b st4 h=>?_)
   ·repeat' split
    all_goals lia
   ·obtain ⟨rfl,h4,h5⟩:=h;simp only [Bool.not_true,Bool.false_eq_true,if_false];exact wpS_pure ⟨rfl,h4,.inr h5⟩
  ·rintro c st'' ⟨rfl,h1,h2⟩;exact ⟨rfl,h1,by lia⟩
  ·have:=hS.runs.le;rw [Array.length_toList] at this;exact .inr (by lia)
  ·rintro c st'' ⟨rfl,h1,h2⟩;refine wpS_pure (k st'' h1.fail h1.pm ?_);have rn:=h1.runs;have lz:(pendingOf st'').toList.length<=1:=by rw [Array.length_toList]; exact h2
   generalize (pendingOf st'').toList=l at rn lz
   match l,rn,lz with
   | [],rn,_ =>
    have z:0=a0.size:=rn;exact fun i j x y _ _ h=>absurd h (by lia)
   | [r],rn,_ =>
    obtain ⟨q1,q2,q3,q4⟩:=rn;have:0+r.2.1=a0.size:=q4;rw [this] at q3;exact q3
end
end PyProof.Rows
namespace L2
open PySem PySem.W PySem.Spec PyProof.Rows
theorem Jn {α β:Type} {f:β->α} {l' l:List α} (h:l'.Perm l):∀ p:List β,p.map f=l->∃ p':List β,p'.Perm p/\p'.map f=l':=by
 induction h with
 | nil=>exact fun p e=>⟨p,List.Perm.refl _,e⟩
 | cons x _ ih =>
  intro p e;cases p with
  | nil=>cases e
  | cons i p =>
   rw [List.map_cons] at e;injection e with e1 e2
   obtain ⟨p',h1,h2⟩:=ih p e2;exact ⟨i :: p',h1.cons i,by rw [List.map_cons,h2,e1]⟩
 | swap x y l =>
  intro p e
  match p,e with
  | i :: j :: p,e =>
   rw [List.map_cons,List.map_cons] at e;injection e with e1 e2
   injection e2 with e2 e3
   exact ⟨j :: i :: p,List.Perm.swap i j p,by rw [List.map_cons,List.map_cons,e1,e2,e3]⟩
 | trans _ _ ih1 ih2 =>
  intro p e;obtain ⟨p1,h1,h2⟩:=ih2 p e;obtain ⟨p2,h3,h4⟩:=ih1 p1 h2;exact ⟨p2,h3.trans h1,h4⟩
section
variable {prog:Program} {w:World} {A:Around} {E:Value->Shared->Prop} {s:Shared} {ks vs:List Value} {κ:SortKind}
theorem NQ {Q:SortSt->Shared->Prop} {rk:Nat->Int} {rk':Keyed->Nat} (lk:ks.length=vs.length) (hr:∀ i,i < vs.length->rk i=(rk' (kas_item (ks.toArray.zip vs.toArray) i):Int)) (hc:∀ i j C,i < vs.length->j < vs.length->C (decide (rk i < rk j)) s->kas_ask prog w A κ ks i j C s)
  (k:∀ p st',JH vs.length p->Up rk p vs.length->failedOf st'=none->arrOf st'=p.map (kas_item (ks.toArray.zip vs.toArray))->Q st' s):wpAny (model prog w) A ((sortRuns').run (SortSt.mk' κ (ks.toArray.zip vs.toArray) #[] 7 none)) (fun r s'=>Q r.2 s') E s:=by
 have sz:(ks.toArray.zip vs.toArray).size=vs.length:=by simp [lk]
 have whole:((List.range vs.length).map (kas_item (ks.toArray.zip vs.toArray)))=(ks.toArray.zip vs.toArray).toList:=by
  have e:=kas_range (ks.toArray.zip vs.toArray);rw [sz] at e;rw [<-congrArg Array.toList e];simp
 have fst:∀ i,i < vs.length->(kas_item (ks.toArray.zip vs.toArray) i).1=ks.getD i Value.none:=fun i hi=>by
  have h1:i < ks.length:=by rw [lk]; exact hi
  unfold kas_item;rw [Array.getD_eq_getD_getElem?,Array.getElem?_eq_getElem (by rw [sz]; exact hi),List.getD_eq_getElem?_getD,List.getElem?_eq_getElem h1];simp
 have hl:IS prog w A E s rk' (fun x=>∃ i,i < vs.length/\x=kas_item (ks.toArray.zip vs.toArray) i) κ:=by
  rintro x y st Q' ⟨i,hi,rfl⟩ ⟨j,hj,rfl⟩ hk q;rw [lt'_eq];refine wpS_bind (wpS_get ?_);rw [hk];have c:=hc i j (fun b s'=>s'=s/\b=decide (rk i < rk j)) hi hj ⟨rfl,rfl⟩;unfold kas_ask at c;rw [<-fst i hi,<-fst j hj] at c;refine wpS_bind (wpS_lift (wpAny_attempt (wpAny_mono c (fun b s' h=>?_) fun _ _ x=>x.elim)));obtain ⟨rfl,rfl⟩:=h;refine ⟨rfl,?_⟩;refine wpS_pure ?_;have e:decide (rk i < rk j)=decide (rk' (kas_item (ks.toArray.zip vs.toArray) i) < rk' (kas_item (ks.toArray.zip vs.toArray) j)):=by
   rw [hr i hi,hr j hj];exact decide_eq_decide.mpr Int.ofNat_lt
  rw [e];exact q
 have run:=LG (st:=SortSt.mk' κ (ks.toArray.zip vs.toArray) #[] 7 none) (Q:=fun _ st'=>Q st' s) hl rfl rfl rfl (fun i x e=>?_) fun st' hf pm so=>?_
 ·exact wpAny_mono run (fun r s' h=>by obtain ⟨rfl,q⟩:=h; exact q) fun _ _ e=>e
 ·have hi:i < vs.length:=by
   have:=(Array.getElem?_eq_some_iff.mp e).1;rw [sz] at this;exact this
  refine ⟨i,hi,?_⟩;have e:(ks.toArray.zip vs.toArray)[i]?=some x:=e;unfold kas_item;rw [Array.getD_eq_getD_getElem?,e];rfl
 ·have pm:(arrOf st').toList.Perm (ks.toArray.zip vs.toArray).toList:=pm;obtain ⟨p,h1,h2⟩:=Jn pm _ whole;have lp:p.length=vs.length:=by rw [h1.length_eq,List.length_range]
  have ea:arrOf st'=p.toArray.map (kas_item (ks.toArray.zip vs.toArray)):=by
   apply Array.toList_inj.mp;rw [Array.toList_map];exact h2.symm
  refine k p.toArray st' ⟨by simpa using lp,Array.perm_iff_toList_perm.mpr (by simpa using h1)⟩ (fun i j ij hj=>?_) hf ea;have so:SoR rk' (arrOf st') 0 vs.length:=by
   rw [<-sz];exact so
  have at':∀ {i:Nat},i < vs.length->p.toArray.getD i 0 < vs.length/\(arrOf st')[i]?=some (kas_item (ks.toArray.zip vs.toArray) (p.toArray.getD i 0)):=fun {i} hi=>by
   have hp:i < p.length:=by rw [lp]; exact hi
   have e:p.toArray.getD i 0=p[i]:=by simp [Array.getD,hp]
   rw [e];refine ⟨by simpa using h1.mem_iff.mp (List.getElem_mem hp),?_⟩;rw [ea,Array.getElem?_map,List.getElem?_toArray,List.getElem?_eq_getElem hp];rfl
  obtain ⟨a1,a2⟩:=at' (i:=i) (by lia);obtain ⟨b1,b2⟩:=at' hj;unfold kk;rw [hr _ a1,hr _ b1];exact Int.ofNat_le.mpr (so i j _ _ (Nat.zero_le _) ij hj a2 b2)
end
def Nl (H:Hp) (v:Value):List Int:=match v with
 | .ref u=>(match H u with
  | some (.tup vs)=>vs.filterMap fun v=>(match v with | .int n=>some n | _=>none)
  | _=>[])
 | _=>[]
theorem OY {H:Hp} {u:Addr} {ns:List Int} (h:H u=some (.tup (ns.map V.int))):Nl H (.ref u)=ns:=by
 unfold Nl;dsimp only;rw [h];dsimp only;clear h;induction ns with
 | nil=>rfl
 | cons n ns ih =>
  rw [List.map_cons,List.filterMap_cons];dsimp only;rw [ih]
def rkK (H:Hp) (rows:List (List Int)) (x:Keyed):Nat:=rows.countP fun r=>BO r (Nl H x.1)
theorem Qc {H:Hp} {items:List (Addr×List Int)} (ht:∀ q ∈ items,H q.1=some (.tup (q.2.map V.int))) {vs:List Value} (lv:vs.length=items.length) {i:Nat} (hi:i < items.length):JO (items.map (·.2)) i=(rkK H (items.map (·.2)) (kas_item ((items.map fun q=>Value.ref q.1).toArray.zip vs.toArray) i):Int):=by
 have e:(kas_item ((items.map fun q=>Value.ref q.1).toArray.zip vs.toArray) i).1=.ref items[i].1:=by
  unfold kas_item;rw [Array.getD_eq_getD_getElem?,Array.getElem?_eq_getElem (by simp; lia)];simp
 unfold JO rkK;rw [e,OY (ht _ (List.getElem_mem hi)),List.getD_eq_getElem?_getD,List.getElem?_map,List.getElem?_eq_getElem hi];rfl
section
variable {prog:Program} {w:World} {A:Around} {E:Value->Shared->Prop}
theorem OT {s:Shared} {a:Addr} {vs:List Value} {n:Nat} {P:PySem.Fin->Shared->Prop} {κ:SortKind} {rk:Nat->Int} {rk':Keyed->Nat} (ho:s.heap.get? a=some (seqObj "list" vs.toArray n)) (h64:vs.length<=100000) (hr:∀ i,i < vs.length->rk i=(rk' (kas_item (vs.toArray.zip vs.toArray) i):Int))
  (hk:∀ (s':Shared) (Q:SortKind->Shared->Prop),(∀ b o,b≠a->s.heap.get? b=some o->s'.heap.get? b=some o)->2<=vs.length->Q κ s'->wpAny (model prog w) A (keyKind' vs.toArray) Q E s')
  (hc:∀ (s':Shared),(∀ b o,b≠a->s.heap.get? b=some o->s'.heap.get? b=some o)->∀ i j C,i < vs.length->j < vs.length->C (decide (rk i < rk j)) s'->kas_ask prog w A κ vs i j C s')
  (fin:∀ p,JH vs.length p->Up rk p vs.length->P (.done (.ret .none)) { s with heap:=sortedHeap s.heap a vs (p.toList.map fun i=>vs.getD i Value.none).toArray }) :
  wpAny (model prog w) A (Builtin.«list.sort» ⟨[.ref a],[]⟩) P E s:=by
 have alt:a < s.heap.objs.size:=Heap.lt_size ho;have len:vs.toArray.size=vs.length:=List.size_toArray;have ln:vs.length<=sizeLine:=Nat.le_trans h64 (by decide);rw [list_sort_plain];refine wpAny_bind (listItems_at ho rfl (wpAny_bind (listUpdate_at ho rfl ?_)));have ⟨e1,he1⟩:∃ e1,(s.heap.update a (Obj.mapSeq fun _=>#[])).get? a=some (seqObj "list" #[] e1):=⟨_,get?_update_seq ho _⟩
 refine wpAny_bind (seqEpoch_at he1 rfl (wpAny_bind (wpAny_newTuple (wpAny_bind (wpAny_newList (wpAny_holding ?_))))));have hin:(((s.heap.update a (Obj.mapSeq fun _=>#[])).push (seqObj "tuple" vs.toArray 0)).push (seqObj "list" #[] 0)).get? a=some (seqObj "list" #[] e1):=by
  refine Heap.get?_push_of_some _ (Heap.get?_push_of_some _ he1)
 have keep:∀ b o,b≠a->s.heap.get? b=some o->(((s.heap.update a (Obj.mapSeq fun _=>#[])).push (seqObj "tuple" vs.toArray 0)).push (seqObj "list" #[] 0)).get? b=some o:=fun b o hb e =>
  Heap.get?_push_of_some _ (Heap.get?_push_of_some _ (by rw [Heap.get?_update_ne _ _ _ _ hb]; exact e))
 show wpAny (model prog w) A _ P E { s with heap:=(((s.heap.update a (Obj.mapSeq fun _=>#[])).push (seqObj "tuple" vs.toArray 0)).push (seqObj "list" #[] 0)) };dsimp only;by_cases few:vs.toArray.size < 2
 ·rw [if_pos few,if_pos few];refine wpAny_bind (wpAny_pure ?_);rw [StateT.run_pure];refine wpAny_bind (wpAny_pure ?_);dsimp only;have eo:(arrOf (SortSt.mk' general' (vs.toArray.zip vs.toArray) #[] 7 none)).map (·.2)=((List.range vs.length).toArray.toList.map fun i=>vs.getD i Value.none).toArray:=by
   rw [len] at few;clear hk hc fin keep hin ho hr;show (vs.toArray.zip vs.toArray).map (·.2)=_
   match vs,few with
   | [],_=>simp
   | [v],_=>simp
  refine wpAny_bind (seqEpoch_at hin rfl (wpAny_bind (listUpdate_at hin rfl ?_ (hsz2:=by rw [eo]; simp; lia))));simp only [bne_self_eq_false,Bool.false_eq_true,if_false];rw [eo];refine wpAny_pure (fin _ ⟨by simp,Array.Perm.refl _⟩ fun i j ij hj=>?_);have:i=j:=by lia
  rw [this];exact Int.le_refl _
 ·rw [if_neg few,if_neg few];have two:2<=vs.length:=by lia
  refine wpAny_bind (hk _ _ keep two ?_);refine wpAny_bind (wpAny_mono (NQ (ks:=vs) (rk:=rk) (Q:=fun st' s'=>s'={ s with heap:=(((s.heap.update a (Obj.mapSeq fun _=>#[])).push (seqObj "tuple" vs.toArray 0)).push (seqObj "list" #[] 0)) }/\failedOf st'=none/\∃ p,JH vs.length p/\Up rk p vs.length/\arrOf st'=p.map (kas_item (vs.toArray.zip vs.toArray))) rfl hr (hc _ keep) fun p st' h1 h2 h3 h4=>⟨rfl,h3,p,h1,h2,h4⟩) ?_ fun _ _ e=>e);rintro ⟨⟨⟩,st'⟩ s' ⟨rfl,hf,p,pn,up,ea⟩;dsimp only at hf ea ⊢;have eo:=kat_snds (ks:=vs) (vs:=vs) rfl ea;refine wpAny_bind (seqEpoch_at hin rfl (wpAny_bind (listUpdate_at hin rfl ?_ (hsz2:=by rw [eo]; simp only [List.size_toArray,List.length_map,Array.length_toList,pn.sz]; lia))));rw [hf,eo];simp only [bne_self_eq_false,Bool.false_eq_true,if_false];exact wpAny_pure (fin p pn up)
theorem LF {s:Shared} {l:Addr} {vs:List Value} {Q:Value->Shared->Prop} {κ:SortKind} {rk:Nat->Int} {rk':Keyed->Nat} (hl:s.heap.IsList l vs.toArray) (h64:vs.length<=100000) (hr:∀ i,i < vs.length->rk i=(rk' (kas_item (vs.toArray.zip vs.toArray) i):Int))
  (hk:∀ (A:Around) (E:Value->Shared->Prop) (s':Shared) (Q:SortKind->Shared->Prop),(∀ b o,s.heap.get? b=some o->s'.heap.get? b=some o)->2<=vs.length->Q κ s'->wpAny (model prog w) A (keyKind' vs.toArray) Q E s')
  (hc:∀ (A:Around) (s':Shared),(∀ b o,s.heap.get? b=some o->s'.heap.get? b=some o)->∀ i j C,i < vs.length->j < vs.length->C (decide (rk i < rk j)) s'->kas_ask prog w A κ vs i j C s')
  (fin:∀ p,JH vs.length p->Up rk p vs.length->Q (.ref (s.heap.objs.size+1)) { s with heap:=sortedAll s.heap vs (p.toList.map fun i=>vs.getD i Value.none).toArray }) :
  wpAny (model prog w) A (call (.builtin "sorted") [.ref l]) Q E s:=by
 have ln:vs.length<=sizeLine:=Nat.le_trans h64 (by decide);refine Calls.call_function_entry kind_sorted plain_sorted entry_sorted (args_sorted1 _) ?_;unfold Builtin.«sorted»;refine wpAny_bind (m:=checkCount "sorted" 1 1 _) (wpAny_pure (wpAny_bind (collect_list hl (wpAny_bind (wpAny_newList ?_)))));have sz1:((s.heap.push (seqObj "list" #[] 0)).update s.heap.objs.size (Obj.mapSeq (· ++ vs.toArray))).objs.size=s.heap.objs.size+1:=by
  rw [Heap.size_update]; exact size_push' ..
 have at1:(((s.heap.push (seqObj "list" #[] 0)).update s.heap.objs.size (Obj.mapSeq (· ++ vs.toArray))).push (seqObj "list" vs.toArray 0)).get? (s.heap.objs.size+1)=some (seqObj "list" vs.toArray 0):=by
  have:=Heap.get?_push_size ((s.heap.push (seqObj "list" #[] 0)).update s.heap.objs.size (Obj.mapSeq (· ++ vs.toArray))) (show (seqObj "list" vs.toArray 0).isFreed=false from rfl);rw [sz1] at this;exact this
 have keep1:∀ b o,s.heap.get? b=some o->(((s.heap.push (seqObj "list" #[] 0)).update s.heap.objs.size (Obj.mapSeq (· ++ vs.toArray))).push (seqObj "list" vs.toArray 0)).get? b=some o:=fun b o e =>
  Heap.get?_push_of_some _ (by rw [Heap.get?_update_ne _ _ _ _ (Nat.ne_of_lt (Heap.lt_size e))]; exact Heap.get?_push_of_some _ e)
 show wpAny (model prog w) _ _ _ _ { s with heap:=(((s.heap.push (seqObj "list" #[] 0)).update s.heap.objs.size (Obj.mapSeq (· ++ vs.toArray))).push (seqObj "list" vs.toArray 0)) };rw [sz1];have ne:∀ b o,s.heap.get? b=some o->b≠s.heap.objs.size+1:=fun b o e=>Nat.ne_of_lt (Nat.lt_succ_of_lt (Heap.lt_size e));refine wpAny_bind (wpAny_holding (wpAny_call_entry slot_list_sort ⟨_,at1,rfl⟩ entry_list_sort (OT (κ:=κ) (rk:=rk) (rk':=rk') at1 h64 hr (fun s' Q' kp t2 q=>hk _ _ s' Q' (fun b o e=>kp b o (ne b o e) (keep1 b o e)) t2 q) (fun s' kp=>hc _ s' fun b o e=>kp b o (ne b o e) (keep1 b o e)) fun p pn up=>⟨_,rfl,wpAny_pure ⟨_,rfl,fin p pn up⟩⟩) (args_list_sort _)))
end
section
variable {X:Cx}
theorem Lo:Fh X (.builtin "sorted") (fun xs H Q=>∃ (p:Addr) (items:List (Addr×List Int)),xs=[.ref p]/\SqL X.K H p (items.map fun q=>V.ref q.1)/\items.length<=100000/\(∀ q ∈ items,H q.1=some (.tup (q.2.map V.int))/\q.2≠[]) /\
  ∀ (L:Addr) (out:List (Addr×List Int)),H L=none->out.Perm items->NB out->Q (.ref L) (upd H L (.lst (out.map fun q=>V.ref q.1)))):=by
 intro pins s σ H xs us Q I r h;obtain ⟨p,items,rfl,hq,h64,ht,q⟩:=h;cases r with
 | cons r1 r2 =>
  cases r2;cases (show _=Value.ref p from r1);obtain ⟨its,rv,pl,hz⟩:=I.list hq;have ei:its=items.map fun q=>Value.ref q.1:=by
   clear pl hz ht q hq h64;induction items generalizing its with
   | nil=>cases rv; rfl
   | cons it items ih =>
    cases rv with
    | cons a1 a2 =>
     cases (show _=Value.ref it.1 from a1);rw [List.map_cons,ih _ a2]
  subst ei;have len:(items.map fun q=>Value.ref q.1).length=items.length:=List.length_map _;have ln:items.length<=sizeLine:=Nat.le_trans h64 (by decide);refine LF (κ:=tuples' true) (rk:=JO (items.map (·.2))) (rk':=rkK H (items.map (·.2))) pl.isList (by rw [len]; exact h64) (fun i hi=>Qc (fun q hq=>(ht q hq).1) len (by rw [len] at hi; exact hi)) (fun A E s' Q' kp two q'=>?_) (fun A s' kp i j C hi hj c=>?_) fun pm pn up=>?_
  ·obtain ⟨fs,k1,k2,k3⟩:=Gp (I.hok.kept kp) ht;refine kat_kind (T:=.type "int") k1 (by rw [k2,<-len]; lia) (fun v hv=>?_) rfl q';obtain ⟨x,t,rfl⟩:=k3 v hv;exact .now
  ·rw [len] at hi hj;obtain ⟨b,o,us,m,e1,e2,e3,e4,e5⟩:=GV (I.hok.kept kp) ht hi;obtain ⟨b',o',us',m',f1,f2,f3,f4,f5⟩:=GV (I.hok.kept kp) ht hj;unfold kas_ask;rw [e1,f1];refine kat_lt e2 e4 f2 f4 ?_;rw [JN (by rw [List.length_map]; exact hi)] at c;have:=Lh (prog:=X.prog) (w:=X.w) (A:=A) (b:=true) (i:=0) e5 f5 c;have l1:=e5.length;have l2:=f5.length;rw [List.length_map] at l1 l2;rw [List.size_toArray,List.size_toArray,<-l1,<-l2];exact this
  ·obtain ⟨ep,at1⟩:=sortedAll_at s.heap (items.map fun q=>Value.ref q.1) (pm.toList.map fun i=>(items.map fun q=>Value.ref q.1).getD i Value.none).toArray;have pl2:pm.toList.Perm (List.range items.length):=by
    have:=pn.pm;rw [len] at this
    simpa using this.toList
   have sz:pm.size=items.length:=pn.sz.trans len;have lt:∀ i ∈ pm.toList,i < items.length:=fun i hi=>by simpa using (pl2.mem_iff).mp hi
   let d:Addr×List Int:=(0,[])
   have out:(pm.toList.map fun i=>items.getD i d).Perm items:=by
    refine (pl2.map _).trans ?_;refine List.Perm.of_eq (List.ext_getElem? fun i=>?_);rw [List.getElem?_map];by_cases hi:i < items.length
    ·rw [List.getElem?_range hi,List.getElem?_eq_getElem hi];show some (items.getD i d)=_;rw [List.getD_eq_getElem?_getD,List.getElem?_eq_getElem hi];rfl
    ·rw [List.getElem?_eq_none (by simpa using hi),List.getElem?_eq_none (by lia)];rfl
   have rows:NB (pm.toList.map fun i=>items.getD i d):=by
    refine List.pairwise_iff_getElem.mpr fun i j hi hj ij=>?_;rw [List.length_map,Array.length_toList,sz] at hi hj;have u:=up i j (Nat.le_of_lt ij) (by rw [len]; exact hj);have gi:pm.getD i 0=pm[i]'(by lia):=by simp [Array.getD,sz,hi]
    have gj:pm.getD j 0=pm[j]'(by lia):=by simp [Array.getD,sz,hj]
    have li:=lt _ (List.getElem_mem (l:=pm.toList) (n:=i) (by rw [Array.length_toList]; lia));have lj:=lt _ (List.getElem_mem (l:=pm.toList) (n:=j) (by rw [Array.length_toList]; lia));rw [Array.getElem_toList] at li lj;unfold kk at u;rw [gi,gj] at u;rw [List.getElem_map,List.getElem_map,Array.getElem_toList,Array.getElem_toList];generalize pm[i]=a at *
    generalize pm[j]=b at *
    have:=JN (rows:=items.map (·.2)) (i:=b) (j:=a) (by rw [List.length_map]; exact lj);rw [decide_eq_false (by lia)] at this;have gd:∀ {c:Nat},c < items.length->(items.map (·.2)).getD c []=(items.getD c d).2:=fun {c} hc=>by
     rw [List.getD_eq_getElem?_getD,List.getElem?_map,List.getD_eq_getElem?_getD,List.getElem?_eq_getElem hc];rfl
    rw [gd lj,gd li] at this;exact this.symm
   refine ⟨.ref (s.heap.objs.size+1),_,?_,rfl,q (s.heap.objs.size+1) _ (I.hok.fresh (Nat.le_succ _)) out rows⟩;refine I.laid (a:=s.heap.objs.size+1) (fun b o e=>sortedAll_old e) (Nat.le_succ _) ⟨by rw [List.length_map,List.length_map,Array.length_toList,sz]; exact ln,_,ep,?_,at1⟩;have:∀ {l:List Nat},(∀ i ∈ l,i < items.length)->AG ((l.map fun i=>items.getD i d).map fun q=>V.ref q.1) (l.map fun i=>(items.map fun q=>Value.ref q.1).getD i Value.none):=by
    intro l;induction l with
    | nil=>intro _; exact .nil
    | cons i l ih =>
     intro hl;refine .cons ?_ (ih fun j hj=>hl j (List.mem_cons_of_mem _ hj));have hi:=hl i (List.mem_cons_self ..);show AR (V.ref (items.getD i d).1) ((items.map fun q=>Value.ref q.1).getD i Value.none);rw [List.getD_eq_getElem?_getD,List.getD_eq_getElem?_getD,List.getElem?_map,List.getElem?_eq_getElem hi];rfl
   exact this lt
end
section
variable {X:Cx} {pins:List (Addr×Obj)} {σ:St} {H H':Hp} {s:Shared} {k:Nat} {f b:Addr} {fd:FuncData} {ps:List Str}
theorem QL {A2:Around} {P:PySem.Fin->Shared->Prop} {E:Value->Shared->Prop} (F:AW X.prog X.w X.K X.mg X.base CX0 k f fd ps GD) (hb:Do X.K fd ps []) (hr:BG k A2) (hfr:∀ s H,Ga X.prog X.w X.K X.mg X.base X.A X.stack s H->Ga X.prog X.w X.K X.mg X.base A2 X.stack s H) (I:Inv X pins σ H s) {a:Addr} {items:List It3} {n:Nat} (ho:s.heap.get? a=some (seqObj "list" (items.map fun q=>Value.ref q.a).toArray n)) (fa:CY X pins H a) (hit:∀ q ∈ items,H q.a=some (.tup (q.ns.map V.int))) (h64:items.length<=100000)
  (fin:∀ (p:Array Nat) (H':Hp) (s':Shared) (c:Nat),JH items.length p->Up (JO (items.map fun q=>[q.y,q.x])) p items.length->Inv X pins σ H' s'->(∀ b u,H b=some u->H' b=some u)->H' a=none->s'.heap.get? a=some (seqObj "list" (p.toList.map fun i=>(items.map fun q=>Value.ref q.a).getD i Value.none).toArray c)->P (.done (.ret .none)) s') :
  wpAny (model X.prog X.w) A2 (ksk_tree a (.ref f) false) P E s:=by
 have len:(items.map fun q=>Value.ref q.a).length=items.length:=List.length_map _;have ln:items.length<=sizeLine:=Nat.le_trans h64 (by decide);unfold ksk_tree;refine wpAny_bind (listItems_at ho rfl (wpAny_bind (listUpdate_at ho rfl ?_)));have ⟨e1,he1⟩:∃ e1,(s.heap.update a (Obj.mapSeq fun _=>#[])).get? a=some (seqObj "list" #[] e1):=⟨_,get?_update_seq ho _⟩
 have I1:Inv X pins σ H { s with heap:=s.heap.update a (Obj.mapSeq fun _=>#[]) }:=fa.turn (t':=s.toks) I fun c o hc e=>by rw [Heap.get?_update_ne _ _ _ _ hc]; exact e
 generalize s.heap.update a (Obj.mapSeq fun _=>#[])=h1 at he1 I1 ⊢;refine wpAny_bind (seqEpoch_at he1 rfl (wpAny_bind (wpAny_newTuple (wpAny_bind (wpAny_newList (wpAny_holding ?_))))));have I2:Inv X pins σ H { s with heap:=h1.push (seqObj "tuple" (items.map fun q=>Value.ref q.a).toArray 0) }:=I1.kept (t':=s.toks) fun b o e=>Heap.get?_push_of_some _ e;have he2:=Heap.get?_push_of_some (seqObj "tuple" (items.map fun q=>Value.ref q.a).toArray 0) he1;show wpAny (model X.prog X.w) A2 (ksk_rest a (.ref f) false (items.map fun q=>Value.ref q.a).toArray e1 (.ref (h1.push (seqObj "tuple" (items.map fun q=>Value.ref q.a).toArray 0)).objs.size)) P E { s with heap:=(h1.push (seqObj "tuple" (items.map fun q=>Value.ref q.a).toArray 0)).push (seqObj "list" #[] 0) };generalize h1.push (seqObj "tuple" (items.map fun q=>Value.ref q.a).toArray 0)=h2 at I2 he2 ⊢;have fS:CY X pins H h2.objs.size:=I2.fpOk (Nat.le_refl _) (I2.hok.fresh (Nat.le_refl _));have he3:=Heap.get?_push_of_some (seqObj "list" #[] 0) he2;have hk3:(h2.push (seqObj "list" #[] 0)).get? h2.objs.size=some (seqObj "list" #[] 0):=Heap.get?_push_size _ rfl;have I3:Inv X pins σ H { s with heap:=h2.push (seqObj "list" #[] 0) }:=I2.kept (t':=s.toks) fun b o e=>Heap.get?_push_of_some _ e;have nka:h2.objs.size≠a:=Nat.ne_of_gt (Heap.lt_size he2);generalize h2.push (seqObj "list" #[] 0)=h3 at he3 hk3 I3 ⊢;generalize h2.objs.size=kS at fS hk3 nka ⊢;unfold ksk_rest;refine wpAny_bind (wpAny_rule ?_);rw [List.forIn_toArray];refine wpAny_bind (ksk_fold (fun j s'=>∃ (H':Hp) (us:List Addr) (c:Nat),Inv X pins σ H' s'/\(∀ b u,H b=some u->H' b=some u)/\H' a=none/\H' kS=none/\s'.heap.get? kS=some (seqObj "list" (us.map Value.ref).toArray c)/\s'.heap.get? a=some (seqObj "list" #[] e1)/\us.length=j/\∀ (i:Nat) u q,us[i]?=some u->items[i]?=some q->H' u=some (.tup ([q.y,q.x].map V.int))) (items.map fun q=>Value.ref q.a) 0 _ ⟨H,[],0,I3,fun b u e=>e,fa.1,fS.1,hk3,he3,rfl,fun i u q e=>(nomatch e)⟩ ?_ ?_)
 ·rintro j x ⟨hp,gn,dr,tk,os⟩ hx ⟨H',us,c,I',kp,na,nk,hk,ha,lu,hus⟩;have jl:j < items.length:=by have:=(List.getElem?_eq_some_iff.mp hx).1; rw [len] at this; exact this
  rw [List.getElem?_map] at hx;obtain ⟨q,eq,rfl⟩:=Option.map_eq_some_iff.mp hx;rw [Nat.zero_add] at lu ⊢;have fa':=fa.stay na;have fS':=fS.stay nk;have tq:=kp _ _ (hit q (List.mem_of_getElem? eq));have sp0:GD [V.ref q.a] H' (fun v H''=>∃ u,v=.ref u/\H' u=none/\H''=upd H' u (.tup [.int q.y,.int q.x])) E0:=⟨q.a,q.x,q.y,q.r,rfl,tq,fun u hu=>⟨u,rfl,hu,rfl⟩⟩
  refine wpAny_bind (wpAny_attempt (wpAny_call (codeAny_mono (F.run A2 X.stack _ H' ⟨[Value.ref q.a],[]⟩ ([Value.ref q.a] ++ []) [V.ref q.a] _ E0 hr (hfr _ _ I'.env0) (hb _ [Value.ref q.a] I'.kIn (F.len _ _ _ _ sp0)) (show AG [V.ref q.a] [Value.ref q.a] from .cons rfl .nil) sp0) fun r s'' hq=>?_)));cases r with
  | error e=>exact hq.elim
  | ok fl =>
   cases fl with
   | next=>exact hq.elim
   | brk=>exact hq.elim
   | cont=>exact hq.elim
   | ret u =>
    obtain ⟨v,H2,os2,bare2,un,hok2,rv,u',rfl,hu',rfl⟩:=hq;obtain ⟨hh,g2,d2,t2,os'⟩:=s'';obtain rfl:os'=os:=os2;cases (show _=Value.ref u' from rv);have I4:=I'.call (h':=hh) (g':=g2) (d':=d2) (t':=t2) (ch:=[]) un hok2 bare2 (fun b z=>absurd z (by simp));have hk4:hh.get? kS=_:=un.keep _ _ hk nk (fS'.nost I') (by simp);have ha4:hh.get? a=_:=un.keep _ _ ha na (fa'.nost I') (by simp);have np:∀ {b:Addr} {o:HO},H' b=some o->upd H' u' (.tup [.int q.y,.int q.x]) b=some o:=fun {b o} e=>by rw [Ak (An e hu')]; exact e
    have na4:upd H' u' (.tup [.int q.y,.int q.x]) a=none:=un.free _ _ ha na (by simp);have nk4:upd H' u' (.tup [.int q.y,.int q.x]) kS=none:=un.free _ _ hk nk (by simp);have ⟨c2,hk5⟩:∃ c2,(hh.update kS (Obj.mapSeq (·.push (.ref u')))).get? kS=some (seqObj "list" ((us.map Value.ref).toArray.push (.ref u')) c2):=⟨_,get?_update_seq hk4 _⟩
    refine wpAny_bind (listUpdate_at hk4 rfl (wpAny_pure ⟨rfl,upd H' u' (.tup [.int q.y,.int q.x]),us ++ [u'],c2,(fS'.stay nk4).turn (t':=t2) I4 fun b o hb e=>by rw [Heap.get?_update_ne _ _ _ _ hb]; exact e,fun b o e=>np (kp b o e),na4,nk4,?_,?_,by rw [List.length_append,lu]; rfl,fun i u2 q2 eu eq2=>?_⟩) (hsz2:=?_))
    ·show (hh.update kS _).get? kS=_;rw [hk5];simp
    ·show (hh.update kS _).get? a=_;rw [Heap.get?_update_ne _ _ _ _ (Ne.symm nka)];exact ha4
    ·by_cases hi:i < j
     ·rw [List.getElem?_append_left (by lia)] at eu;exact np (hus i u2 q2 eu eq2)
     ·have:i=j:=by
       have:=(List.getElem?_eq_some_iff.mp eu).1;rw [List.length_append,lu] at this;have:i < j+1:=this;lia
      subst this;rw [List.getElem?_append_right (by lia),lu,Nat.sub_self] at eu;cases eu;rw [eq] at eq2;cases eq2;exact Ah
    ·simp;lia
 ·rintro ⟨hp,gn,dr,tk,os⟩ ⟨H',us,c,I',kp,na,nk,hk,ha,lu,hus⟩;rw [Nat.zero_add,len] at lu;have fa':=fa.stay na;have fS':=fS.stay nk;have lk:(us.map Value.ref).length=(items.map fun q=>Value.ref q.a).length:=by rw [List.length_map,len,lu]
  refine wpAny_bind (listItems_at hk rfl ?_);unfold ksk_end;dsimp only;simp only [Bool.false_eq_true,if_false];have sz:(items.map fun q=>Value.ref q.a).toArray.size=items.length:=by rw [List.size_toArray,len]
  by_cases few:(items.map fun q=>Value.ref q.a).toArray.size < 2
  ·rw [if_pos few,if_pos few];refine wpAny_bind (wpAny_pure ?_);rw [StateT.run_pure];refine wpAny_bind (wpAny_pure ?_);dsimp only;have eo:(arrOf (SortSt.mk' general' ((us.map Value.ref).toArray.zip (items.map fun q=>Value.ref q.a).toArray) #[] 7 none)).map (·.2)=((List.range items.length).toArray.toList.map fun i=>(items.map fun q=>Value.ref q.a).getD i Value.none).toArray:=by
    rw [sz] at few;clear hit fin ho hus I' hk;show ((us.map Value.ref).toArray.zip (items.map fun q=>Value.ref q.a).toArray).map (·.2)=_
    match items,us,lu,few with
    | [],[],_,_=>simp
    | [v],[u],_,_=>simp
   refine Ob (c:=c) I' fa' fS' nka hk ha eo rfl (by simp; lia) (by simp; lia) fun h' c' I5 h5=>fin (List.range items.length).toArray H' _ c' ⟨by simp,Array.Perm.refl _⟩ (fun i j ij hj=>by rw [sz] at few; have e:i=j:=(by lia); rw [e]; exact Int.le_refl _) I5 kp na h5
  ·rw [if_neg few,if_neg few];have two:2<=items.length:=by lia
   have ktup:∀ q ∈ (us.zip (items.map fun q=>[q.y,q.x])),H' q.1=some (.tup (q.2.map V.int))/\q.2≠[]:=fun q hq=>by
    obtain ⟨i,hi⟩:=List.getElem?_of_mem hq;rw [List.getElem?_zip_eq_some,List.getElem?_map] at hi;obtain ⟨h1,h2⟩:=hi;obtain ⟨it,e1,e2⟩:=Option.map_eq_some_iff.mp h2;rw [<-e2];exact ⟨hus i q.1 it h1 e1,by simp⟩
   have z1:((us.zip (items.map fun q=>[q.y,q.x])).map fun q=>Value.ref q.1)=us.map Value.ref:=by
    show List.map (Value.ref ∘ Prod.fst) _=_;rw [<-List.map_map];rw [List.map_fst_zip (by rw [List.length_map,lu]; exact Nat.le_refl _)]
   have zl:(us.zip (items.map fun q=>[q.y,q.x])).length=items.length:=by rw [List.length_zip,List.length_map,lu,Nat.min_self]
   have z2:((us.zip (items.map fun q=>[q.y,q.x])).map (·.2))=items.map fun q=>[q.y,q.x]:=List.map_snd_zip (by rw [List.length_map,lu]; exact Nat.le_refl _);obtain ⟨fs,k1,k2,k3⟩:=Gp I'.hok ktup;rw [z1] at k1;refine wpAny_bind (kat_kind (T:=.type "int") k1 (by rw [k2,zl]; lia) (fun v hv=>?_) rfl ?_)
   ·obtain ⟨x,t,rfl⟩:=k3 v hv;exact .now
   have kroom:(us.map Value.ref).toArray.size<=sizeLine:=by simp; lia
   refine wpAny_bind (wpAny_mono (NQ (ks:=us.map Value.ref) (vs:=items.map fun q=>Value.ref q.a) (κ:=tuples' true) (rk:=JO (items.map fun q=>[q.y,q.x])) (rk':=rkK H' (items.map fun q=>[q.y,q.x])) (Q:=fun st' s'=>s'={ heap:=hp,gens:=gn,drawn:=dr,toks:=tk,os:=os }/\failedOf st'=none/\∃ p,JH items.length p/\Up (JO (items.map fun q=>[q.y,q.x])) p items.length/\arrOf st'=p.map (kas_item ((us.map Value.ref).toArray.zip (items.map fun q=>Value.ref q.a).toArray))) lk ?_ ?_ fun p st' h1 h2 h3 h4=>⟨rfl,h3,p,by rw [len] at h1; exact h1,by rw [len] at h2; exact h2,h4⟩) ?_ fun _ _ e=>e)
   ·intro i hi;rw [len] at hi;have:=Qc (H:=H') (items:=us.zip (items.map fun q=>[q.y,q.x])) (fun q hq=>(ktup q hq).1) (vs:=items.map fun q=>Value.ref q.a) (by rw [len,zl]) (i:=i) (by rw [zl]; exact hi);rw [z1,z2] at this;exact this
   ·intro i j C hi hj cc;rw [len] at hi hj;obtain ⟨b,o,vs1,m,e1,e2,e3,e4,e5⟩:=GV I'.hok ktup (i:=i) (by rw [zl]; exact hi);obtain ⟨b',o',vs2,m',f1,f2,f3,f4,f5⟩:=GV I'.hok ktup (i:=j) (by rw [zl]; exact hj);rw [z1] at e1 f1;rw [z2] at e5 f5;unfold kas_ask;rw [e1,f1];refine kat_lt e2 e4 f2 f4 ?_;rw [JN (by rw [List.length_map]; exact hi)] at cc;have:=Lh (prog:=X.prog) (w:=X.w) (A:=A2) (b:=true) (i:=0) e5 f5 cc;have l1:=e5.length;have l2:=f5.length;rw [List.length_map] at l1 l2;rw [List.size_toArray,List.size_toArray,<-l1,<-l2];exact this
   rintro ⟨⟨⟩,st'⟩ s' ⟨rfl,hf,p,pn,up,ea⟩;dsimp only at hf ea ⊢;have eo:=kat_snds lk ea;refine Ob (c:=c) I' fa' fS' nka hk ha eo hf (by simp only [List.size_toArray,List.length_map,Array.length_toList,pn.sz]; exact ln) kroom fun h' c' I5 h5=>fin p H' _ c' pn up I5 kp na h5
def IP (out:List It3):Prop:=out.Pairwise fun p q=>BO [q.y,q.x] [p.y,p.x]=false
theorem Nk {Q:VK} (F:AW X.prog X.w X.K X.mg X.base CX0 k f fd ps GD) (hb:Do X.K fd ps []) (hr:BG (k+2) X.A) (I:Inv X pins σ H s) {p:Addr} {items:List It3} (hq:SqL X.K H p (items.map fun q=>V.ref q.a)) (hit:∀ q ∈ items,H q.a=some (.tup (q.ns.map V.int))) (h64:items.length<=100000)
  (q:∀ (L:Addr) (out:List It3) (H':Hp),(∀ b u,H b=some u->H' b=some u)->H' L=none->out.Perm items->IP out->Q (.ref L) (upd H' L (.lst (out.map fun q=>V.ref q.a)))) :
  wpAny (model X.prog X.w) X.A (call (.builtin "sorted") [.ref p] [("key",.ref f)]) (EP X pins σ Q) X.xe s:=by
 obtain ⟨its,rv,pl,hz⟩:=I.list hq;have ei:its=items.map fun q=>Value.ref q.a:=by
  clear pl hz q hq h64 hit;induction items generalizing its with
  | nil=>cases rv; rfl
  | cons it items ih =>
   cases rv with
   | cons a1 a2 =>
    cases (show _=Value.ref it.a from a1);rw [List.map_cons,ih _ a2]
 subst ei;have len:(items.map fun q=>Value.ref q.a).length=items.length:=List.length_map _;have ln:items.length<=sizeLine:=Nat.le_trans h64 (by decide);refine PyProof.Rows.call_function_entry_kw kind_sorted plain_sorted entry_sorted (ksk_s1 _ _) ?_;unfold Builtin.«sorted»;refine wpAny_bind (m:=checkCount "sorted" 1 1 _) (wpAny_pure (wpAny_bind (collect_list pl.isList (wpAny_bind (wpAny_newList ?_ (by rw [len]; exact ln))) (by rw [len]; exact ln))));have sz1:((s.heap.push (seqObj "list" #[] 0)).update s.heap.objs.size (Obj.mapSeq (· ++ (items.map fun q=>Value.ref q.a).toArray))).objs.size=s.heap.objs.size+1:=by
  rw [Heap.size_update]; exact size_push' ..
 have at1:(((s.heap.push (seqObj "list" #[] 0)).update s.heap.objs.size (Obj.mapSeq (· ++ (items.map fun q=>Value.ref q.a).toArray))).push (seqObj "list" (items.map fun q=>Value.ref q.a).toArray 0)).get? (s.heap.objs.size+1)=some (seqObj "list" (items.map fun q=>Value.ref q.a).toArray 0):=by
  have:=Heap.get?_push_size ((s.heap.push (seqObj "list" #[] 0)).update s.heap.objs.size (Obj.mapSeq (· ++ (items.map fun q=>Value.ref q.a).toArray))) (show (seqObj "list" (items.map fun q=>Value.ref q.a).toArray 0).isFreed=false from rfl);rw [sz1] at this;exact this
 have keep1:∀ b o,s.heap.get? b=some o->(((s.heap.push (seqObj "list" #[] 0)).update s.heap.objs.size (Obj.mapSeq (· ++ (items.map fun q=>Value.ref q.a).toArray))).push (seqObj "list" (items.map fun q=>Value.ref q.a).toArray 0)).get? b=some o:=fun b o e =>
  Heap.get?_push_of_some _ (by rw [Heap.get?_update_ne _ _ _ _ (Nat.ne_of_lt (Heap.lt_size e))]; exact Heap.get?_push_of_some _ e)
 show wpAny (model X.prog X.w) _ _ _ _ { s with heap:=(((s.heap.push (seqObj "list" #[] 0)).update s.heap.objs.size (Obj.mapSeq (· ++ (items.map fun q=>Value.ref q.a).toArray))).push (seqObj "list" (items.map fun q=>Value.ref q.a).toArray 0)) };rw [sz1];have I1:Inv X pins σ H { s with heap:=(((s.heap.push (seqObj "list" #[] 0)).update s.heap.objs.size (Obj.mapSeq (· ++ (items.map fun q=>Value.ref q.a).toArray))).push (seqObj "list" (items.map fun q=>Value.ref q.a).toArray 0)) }:=I.kept (t':=s.toks) keep1;have fD:CY X pins H (s.heap.objs.size+1):=I.fpOk (Nat.le_succ _) (I.hok.fresh (Nat.le_succ _));generalize ((s.heap.push (seqObj "list" #[] 0)).update s.heap.objs.size (Obj.mapSeq (· ++ (items.map fun q=>Value.ref q.a).toArray))).push (seqObj "list" (items.map fun q=>Value.ref q.a).toArray 0)=h1 at at1 I1 ⊢;refine wpAny_bind (wpAny_holding (PyProof.Rows.wpAny_call_entry_kw slot_list_sort ⟨_,at1,rfl⟩ entry_list_sort ?_ (ksk_l1 _ _)));rw [ksk_t1];refine QL F hb hr.in1.in1 (fun s H e=>e.in1.in1) I1 at1 fD hit h64 fun pm H' s' c pn up I' kp na ha=>⟨_,rfl,wpAny_pure ⟨_,rfl,?_⟩⟩
 have pl2:pm.toList.Perm (List.range items.length):=by simpa using pn.pm.toList
 have sz:pm.size=items.length:=pn.sz;have lt:∀ i ∈ pm.toList,i < items.length:=fun i hi=>by simpa using (pl2.mem_iff).mp hi
 let d:It3:=⟨0,0,0,[]⟩
 have out:(pm.toList.map fun i=>items.getD i d).Perm items:=by
  refine (pl2.map _).trans ?_;refine List.Perm.of_eq (List.ext_getElem? fun i=>?_);rw [List.getElem?_map];by_cases hi:i < items.length
  ·rw [List.getElem?_range hi,List.getElem?_eq_getElem hi];show some (items.getD i d)=_;rw [List.getD_eq_getElem?_getD,List.getElem?_eq_getElem hi];rfl
  ·rw [List.getElem?_eq_none (by simpa using hi),List.getElem?_eq_none (by lia)];rfl
 have rows:IP (pm.toList.map fun i=>items.getD i d):=by
  refine List.pairwise_iff_getElem.mpr fun i j hi hj ij=>?_;rw [List.length_map,Array.length_toList,sz] at hi hj;have u:=up i j (Nat.le_of_lt ij) hj;have gi:pm.getD i 0=pm[i]'(by lia):=by simp [Array.getD,sz,hi]
  have gj:pm.getD j 0=pm[j]'(by lia):=by simp [Array.getD,sz,hj]
  have li:=lt _ (List.getElem_mem (l:=pm.toList) (n:=i) (by rw [Array.length_toList]; lia));have lj:=lt _ (List.getElem_mem (l:=pm.toList) (n:=j) (by rw [Array.length_toList]; lia));rw [Array.getElem_toList] at li lj;unfold kk at u;rw [gi,gj] at u;rw [List.getElem_map,List.getElem_map,Array.getElem_toList,Array.getElem_toList];generalize pm[i]=a at *
  generalize pm[j]=b at *
  have:=JN (rows:=items.map fun q=>[q.y,q.x]) (i:=b) (j:=a) (by rw [List.length_map]; exact lj);rw [decide_eq_false (by lia)] at this;have gd:∀ {c:Nat},c < items.length->(items.map fun q=>[q.y,q.x]).getD c []=[(items.getD c d).y,(items.getD c d).x]:=fun {c} hc=>by
   rw [List.getD_eq_getElem?_getD,List.getElem?_map,List.getD_eq_getElem?_getD,List.getElem?_eq_getElem hc];rfl
  rw [gd lj,gd li] at this;exact this.symm
 refine ⟨.ref (s.heap.objs.size+1),_,I'.track (o:=.lst ((pm.toList.map fun i=>items.getD i d).map fun q=>V.ref q.a)) na (Heap.get?_none_of_le (Nat.le_trans I.sz (Nat.le_succ _))) (Heap.get?_none_of_le (Nat.le_trans I.ok.bsz (Nat.le_trans I.sz (Nat.le_succ _)))) (Ne.symm fD.2.1) fD.2.2.2.2.1 fD.2.2.2.2.2 (fun b hb z=>fD.2.2.1 (z ▸ hb)) ⟨by rw [List.length_map,List.length_map,Array.length_toList,sz]; exact ln,_,c,?_,ha⟩,rfl,q (s.heap.objs.size+1) _ H' kp na out rows⟩;have:∀ {l:List Nat},(∀ i ∈ l,i < items.length)->AG ((l.map fun i=>items.getD i d).map fun q=>V.ref q.a) (l.map fun i=>(items.map fun q=>Value.ref q.a).getD i Value.none):=by
  intro l;induction l with
  | nil=>intro _; exact .nil
  | cons i l ih =>
   intro hl;refine .cons ?_ (ih fun j hj=>hl j (List.mem_cons_of_mem _ hj));have hi:=hl i (List.mem_cons_self ..);show AR (V.ref (items.getD i d).a) ((items.map fun q=>Value.ref q.a).getD i Value.none);rw [List.getD_eq_getElem?_getD,List.getD_eq_getElem?_getD,List.getElem?_map,List.getElem?_eq_getElem hi];rfl
 exact this lt
def tSortA (K:PySem.W.Frag) (t:TA):TE:=fun σ H Q=>t σ H fun vs H1=>∃ (p:Addr) (items:List It3),vs=[.ref p]/\SqL K H1 p (items.map fun q=>V.ref q.a)/\items.length<=100000/\(∀ q ∈ items,H1 q.a=some (.tup (q.ns.map V.int)))/\∀ (L:Addr) (out:List It3) (H':Hp),(∀ b u,H1 b=some u->H' b=some u)->H' L=none->out.Perm items->IP out->Q (.ref L) (upd H' L (.lst (out.map fun q=>V.ref q.a)))
theorem Im {ky:Str} {e:Expr} {t:TA} {p kp kpos pos:Pos} (c:Cal X.prog X.w X.K X.mg X.base CX0 k ky ps GD) (hr:BG (k+2) X.A) (hg:Gl X "sorted") (hm:X.mg "sorted" = none) (hgk:Gl X ky) (ha:PA X [e] t) (hd:(ky == ("__debug__" : Str))=false:=by decide)
  (he:backTo pos (starEach [e] X.env)=(false,eval e X.env) :: backTo pos (starEach [] X.env):=by rfl) (hp1:(backTo pos (starEach [e] X.env)).any (·.1)=false:=by rfl):PE X (.Call (.Name "sorted" p) [e] [⟨some "key",.Name ky kp,kpos⟩] pos) (tSortA X.K t):=by
 intro pins s σ H Q I h;obtain ⟨f,fd,F,hmk,hkp,hb⟩:=c.ex;refine wpAny_Call_Name_kw (Fb I hg hm PyProof.Rows.boot_sorted ?_);refine PyProof.Rows.callWith_kw (thn (ha pos pins s σ H _ I h) fun us s1 ⟨vs,H1,I1,r1,q1⟩=>?_) he hp1 rfl rfl;obtain ⟨p',items,rfl,hq,h64,hit,q⟩:=q1;refine thn (pk_cons (nm:=some "key") (kpos:=kpos) (Fl (pos:=kp) hgk hmk hd) pk_nil pos pins s1 σ H1 (fun zs H2=>zs=[.ref f]/\H2=H1) I1 ⟨rfl,rfl⟩) fun ws s2 ⟨zs,H2,I2,rz,e1,e2⟩=>?_;subst e1;subst e2;cases r1 with
 | cons a1 a2 =>
  cases a2;cases (show _=Value.ref p' from a1);cases rz with
  | cons b1 b2 =>
   cases b2;cases (show _=Value.ref f from b1);exact Nk F hb hr I2 hq hit h64 q
end
section
variable {prog:Program} {w:World} {A:Around} {E:Value->Shared->Prop} {s:Shared} {r d:Addr} {o:Obj} {es:Array DictEntry} {ep:Nat}
end
section
variable {X:Cx}
end
end L2
namespace L2
open PySem PySem.Spec PyProof.Rows
section
variable {X:Cx} {C C2:Addr} {x n x2:Str} {np hpos pos np2 hpos2:Pos} {i:Nat} {b₀ b2:Stmt} {suite body suite2:List Stmt} {S:St->Prop} {tb:XK->TS} {th th2:TS}
end
end L2
namespace L2
open PySem PySem.Spec PyProof.Rows
def Fv (p:Addr) (fd:FuncData):HO:=.ext fun h=>h.get? p=some { cls:=.type "function",data:=.func fd }
def FV (c:Addr) (q:Str):HO:=.ext fun h=>∃ o vs t,h.get? c=some o/\o.data=.fields vs/\vs[1]?=some (.str q t)
theorem Mh {P:Program} {w:World} {H:Hp} {h:Heap} {p:Addr} {fd:FuncData} (e:h.get? p=some { cls:=.type "function",data:=.func fd }):AS P w H h p (Fv p fd):=⟨e,⟨_,e⟩,fun h1 h2 e1 k=>k _ e1⟩
theorem isCo_ok {P:Program} {w:World} {H:Hp} {h:Heap} {c:Addr} {q:Str} (e:h.CodeRec (.ref c) q):AS P w H h c (FV c q):=by
 obtain ⟨c',o,vs,t,z,e1,e2,e3⟩:=e;cases z;exact ⟨⟨o,vs,t,e1,e2,e3⟩,⟨o,e1⟩,fun h1 h2 ⟨o',vs',t',f1,f2,f3⟩ k=>⟨o',vs',t',k _ f1,f2,f3⟩⟩
def Fg (H:Hp) (q:Str):List Value->Prop
 | []=>True
 | .int _ _ :: .int _ _ :: v :: r=>(∃ c,v=.ref c/\H c=some (FV c q))/\Fg H q r
 | _=>False
theorem Fg.triples {H:Hp} {q:Str} (l:List Value) (h:Fg H q l):TriplesOk l:=by
 fun_induction TriplesOk l with
 | case1=>trivial
 | case2 a b c d e r ih=>exact ih h.2
 | case3 l h1 h2 =>
  unfold Fg at h;split at h
  ·exact h1 rfl
  ·exact h2 _ _ _ _ _ _ rfl
  ·exact h
theorem Fg.among {H:Hp} {q:Str} {pos:Pos} {cv:Value} (l:List Value) (h:Fg H q l) (e:codeAmong pos l=some cv):∃ c,cv=.ref c/\H c=some (FV c q):=by
 fun_induction TriplesOk l with
 | case1=>cases e
 | case2 a b c d v r ih =>
  unfold codeAmong at e;split at e
  ·cases e; exact h.1
  ·exact ih h.2 e
 | case3 l h1 h2 =>
  unfold Fg at h;split at h
  ·exact (h1 rfl).elim
  ·exact (h2 _ _ _ _ _ _ rfl).elim
  ·exact h.elim
theorem Fg.snoc {H H':Hp} {q:Str} {a b:Int} {t u:Tok} {c:Addr} (k:∀ c,H c=some (FV c q)->H' c=some (FV c q)) (hc:H' c=some (FV c q)) (l:List Value) (h:Fg H q l):Fg H' q (l ++ [.int a t,.int b u,.ref c]):=by
 fun_induction TriplesOk l with
 | case1=>exact ⟨⟨c,rfl,hc⟩,trivial⟩
 | case2 a b c d v r ih =>
  obtain ⟨⟨c',e1,e2⟩,h2⟩:=h;exact ⟨⟨c',e1,k _ e2⟩,ih h2⟩
 | case3 l h1 h2 =>
  unfold Fg at h;split at h
  ·exact (h1 rfl).elim
  ·exact (h2 _ _ _ _ _ _ rfl).elim
  ·exact h.elim
theorem Fg.mono {H H':Hp} {q:Str} (k:∀ c,H c=some (FV c q)->H' c=some (FV c q)) (l:List Value) (h:Fg H q l):Fg H' q l:=by
 fun_induction TriplesOk l with
 | case1=>trivial
 | case2 a b c d v r ih =>
  obtain ⟨⟨c',e1,e2⟩,h2⟩:=h;exact ⟨⟨c',e1,k _ e2⟩,ih h2⟩
 | case3 l h1 h2 =>
  unfold Fg at h;split at h
  ·exact (h1 rfl).elim
  ·exact (h2 _ _ _ _ _ _ rfl).elim
  ·exact h.elim
def Tab (H:Hp) (Pt:Addr) (q:Str):Prop:=∃ ps,H Pt=some (.tbl ps)/\Fg H q ps.toList
theorem Tab.same {H H':Hp} {Pt:Addr} {q:Str} (t:Tab H Pt q) (k:∀ b o,H b=some o->H' b=some o):Tab H' Pt q :=
 let ⟨ps,h,c⟩:=t; ⟨ps,k _ _ h,c.mono (fun _ e=>k _ _ e) _⟩
theorem Tab.other {H H':Hp} {Pt Qt:Addr} {q:Str} (t:Tab H Pt q) (ne:Pt≠Qt) (hQ:∃ ps,H Qt=some (.tbl ps)) (k:∀ b o,b≠Qt->H b=some o->H' b=some o):Tab H' Pt q :=
 let ⟨ps,h,c⟩:=t; ⟨ps,k _ _ ne h,c.mono (fun c e=>k _ _ (fun z=>by
  obtain ⟨ps2,h2⟩:=hQ;rw [<-z,e] at h2;cases h2) e) _⟩
def Blt (mg:Str->Option Value) (base:Heap):Prop:=∃ bm o,mg "__builtins__" = some (.ref bm)/\bm≠builtinsNs/\base.get? bm=some o/\o.cls=.type "module" /\ o.dict=some builtinsNs/\o.data=.plain
structure LamH (Pt:Addr) (q:Str) (fdf:Value->Value->FuncData) (p:Addr) (H H':Hp):Prop where
 tab:Tab H' Pt q
 st:∀ b o,b≠Pt->H b=some o->H' b=some o
 new:H p=none
 lam:∃ c ct,H' p=some (Fv p (fdf (.ref c) ct))/\H' c=some (FV c q)
def tLam (Pt:Addr) (q:Str) (fdf:Value->Value->FuncData):TE:=fun _ H Q=>Tab H Pt q/\∀ p H',LamH Pt q fdf p H H'->Q (.ref p) H'
theorem Inv.grown {X:Cx} {pins:List (Addr×Obj)} {σ:St} {H:Hp} {s:Shared} {h':Heap} {c p Pt:Addr} {ps more:Array Value} {tk:Nat} {oc op:HO} (I:Inv X pins σ H s) (hP:H Pt=some (.tbl ps))
  (hx:∀ b o,b≠Pt->s.heap.get? b=some o->h'.get? b=some o) (hge:s.heap.objs.size<=c) (hcp:c < p) (htb:h'.get? Pt=some { cls:=.none,data:=.fields (ps ++ more) })
  (o1:∀ H',AS X.prog X.w H' h' c oc) (o2:∀ H',AS X.prog X.w H' h' p op):Inv X pins σ (upd (upd (upd H Pt (.tbl (ps ++ more))) c oc) p op) { s with heap:=h',toks:=tk }:=by
 have nC:H c=none:=I.hok.fresh hge;have nP:H p=none:=I.hok.fresh (by lia);have hn:∀ {b:Addr} {o:HO},H b=some o->b≠c/\b≠p:=fun e=>⟨An e nC,An e nP⟩
 have tr:∀ {b:Addr},H b=none->b≠Pt:=fun e z=>by rw [z,hP] at e; cases e
 have ot:∀ {b:Addr} {o:HO},H b=some o->b≠Pt->upd (upd (upd H Pt (.tbl (ps ++ more))) c oc) p op b=some o:=fun e z=>by rw [Ak (hn e).2,Ak (hn e).1,Ak z,e]
 have un:Un X.fs [] H (upd (upd (upd H Pt (.tbl (ps ++ more))) c oc) p op) s.heap h':=by
  refine ⟨fun b o e n _ _=>hx b o (tr n) e,fun b o e n _ _=>⟨o.slots,hx b o (tr n) e⟩,fun b o e n _=>?_,fun b o e _=>?_,fun b xs e=>ot e (fun z=>by rw [z,hP] at e; cases e),fun b o u e=>ot e (fun z=>by rw [z,hP] at e; cases e),fun b qs e=>?_⟩
  ·have:=Heap.lt_size e;rw [Ak (by lia),Ak (by lia),Ak (tr n),n]
  ·by_cases z:b=Pt
   ·exact ⟨_,z ▸ htb⟩
   ·exact ⟨o,hx b o z e⟩
  ·by_cases z:b=Pt
   ·subst z;rw [hP] at e;cases e;exact ⟨more,by rw [Ak (hn hP).2,Ak (hn hP).1,Ah]⟩
   ·exact ⟨#[],by rw [ot e z]; simp⟩
 refine I.un (t':=tk) un fun b u e=>?_;by_cases z:b=p
 ·subst z;rw [Ah] at e;cases e;exact o2 _
 rw [Ak z] at e;by_cases z1:b=c
 ·subst z1;rw [Ah] at e;cases e;exact o1 _
 rw [Ak z1] at e;by_cases z2:b=Pt
 ·subst z2;rw [Ah] at e;cases e;exact htb
 rw [Ak z2] at e;refine (I.hok b u e).stay (fun d v hd q=>hx d v ?_ q) (fun d q=>ot q (fun z=>by rw [z,hP] at q; cases q)) fun d xs q=>ot q (fun z=>by rw [z,hP] at q; cases q);rcases hd with rfl | hd
 ·exact z2
 ·exact fun z=>by rw [z,hP] at hd; cases hd
section
variable {X:Cx} {params:Arguments} {body:Expr} {scope:Scope} {pos:Pos} {c Pt:Addr} {N:List Str} {cs:List Nat}
abbrev Gk (X:Cx):Str:=X.env.qual ++ "<lambda>"
abbrev GR (X:Cx) (params:Arguments) (body:Expr) (scope:Scope) (cd ct:Value):FuncData:=PySem.W.kla_fn "<lambda>" (Gk X) params body scope (IL X.env scope.names) ((X.mg "__name__").getD .none) cd ct
theorem FG (S:AV X scope N 0 cs) (hcode:X.env.code=.ref c) (C:PySem.W.CodeHd X.base c Pt) (hB:Blt X.mg X.base) (hdef:defaultsOf params X.env=([],[]):=by rfl) :
  PE X (.Lambda params body scope pos) (tLam Pt (Gk X) (GR X params body scope)):=by
 intro pins s σ H Q I h;obtain ⟨⟨ps,hP,hco⟩,k⟩:=h;have hPt:s.heap.get? Pt=some (PySem.W.tabObj ps):=I.hok Pt _ hP;have C1:PySem.W.CodeHd s.heap c Pt:=C.keeps I.bk;have hg:s.heap.Ns mainGlobals X.mg:=I.mod.glob.keeps I.bk;obtain ⟨bm,ob,b1,b2,b3,b4,b5,b6⟩:=hB;have hgP:mainGlobals≠Pt:=fun q=>by
  obtain ⟨o,es,ep,e,hd,_⟩:=I.mod.glob;have:=(I.bs _ _ e).2;rw [q,hP] at this;cases this
 have hbP:bm≠Pt:=fun q=>by
  have:=(I.bs _ _ b3).2;rw [q,hP] at this;cases this
 have hbG:bm≠mainGlobals:=fun q=>by
  obtain ⟨o,es,ep,e,hd,_⟩:=I.mod.glob;rw [q,e] at b3;cases b3;rw [hd] at b6;cases b6
 have hBA:s.heap.BuiltinsAt X.mg Pt:=⟨bm,ob,b1,b2,hbG,hbP,I.bk _ _ b3,b4,b5,b6⟩
 have hcl:=EO (scope:=scope) (env:=X.env) fun y hy hf=>I.ok.has _ (S.free y hy hf);refine PySem.W.kla_eval hdef ?_;cases hf:codeAmong pos ps.toList with
 | some cv =>
  obtain ⟨c',rfl,hc'⟩:=hco.among _ hf;refine PySem.W.kla_makeFunctionHit (mg:=X.mg) hcl I.ok.glob hg hcode C1 hPt (hco.triples _) hf hBA fun ctv h' tk kp hsz=>?_;have np:H h'.objs.size=none:=I.hok.fresh hsz;have kk:∀ b o,H b=some o->upd H h'.objs.size (Fv h'.objs.size (GR X params body scope (.ref c') ctv)) b=some o:=fun b o e=>by rw [Ak (An e np),e]
  exact ⟨.ref h'.objs.size,upd H h'.objs.size (Fv h'.objs.size (GR X params body scope (.ref c') ctv)),I.laid (t':=tk) (fun b u e=>Heap.get?_push_of_some _ (kp b u e)) hsz (Mh (Heap.get?_push_size _ rfl)),rfl,
   k _ _ ⟨Tab.same ⟨ps,hP,hco⟩ kk,fun b o _ e=>kk b o e,np,c',ctv,Ah,kk _ _ hc'⟩⟩
 | none =>
  refine PySem.W.kla_makeFunction (mg:=X.mg) hcl I.ok.glob hg hcode C1 hPt (hco.triples _) hf hgP hBA fun c' ctv h' tk hx hge hlt hrec htb=>?_;have np:H h'.objs.size=none:=I.hok.fresh (by lia);have nc:H c'=none:=I.hok.fresh hge;have pc:h'.objs.size≠c':=by lia
  have nPt:c'≠Pt/\h'.objs.size≠Pt:=⟨fun z=>(by rw [z,hP] at nc; cases nc),fun z=>(by rw [z,hP] at np; cases np)⟩
  have I2:=I.grown (tk:=tk) (h':=h'.push (PySem.W.kla_obj "<lambda>" (Gk X) params body scope (IL X.env scope.names) ((X.mg "__name__").getD .none) c' ctv)) (c:=c') (p:=h'.objs.size) (oc:=FV c' (Gk X)) (op:=Fv h'.objs.size (GR X params body scope (.ref c') ctv)) hP
   (fun b o z e=>Heap.get?_push_of_some _ (hx b o z e)) hge hlt (Heap.get?_push_of_some _ htb) (fun H'=>isCo_ok (hrec.push _)) fun H'=>Mh (Heap.get?_push_size _ rfl)
  refine ⟨.ref h'.objs.size,_,I2,rfl,k _ _ ?_⟩;have kk:∀ b o,b≠Pt->H b=some o->upd (upd (upd H Pt (.tbl (ps ++ #[rawInt pos.line,rawInt pos.col,.ref c']))) c' (FV c' (Gk X))) h'.objs.size (Fv h'.objs.size (GR X params body scope (.ref c') ctv)) b=some o:=fun b o z e=>by
   rw [Ak (An e np),Ak (An e nc),Ak z,e]
  have hcc:upd (upd (upd H Pt (.tbl (ps ++ #[rawInt pos.line,rawInt pos.col,.ref c']))) c' (FV c' (Gk X))) h'.objs.size (Fv h'.objs.size (GR X params body scope (.ref c') ctv)) c'=some (FV c' (Gk X)):=by
   rw [Ak (Ne.symm pc),Ah]
  refine ⟨⟨_,by rw [Ak (Ne.symm nPt.2),Ak (Ne.symm nPt.1),Ah],?_⟩,kk,np,c',ctv,Ah,hcc⟩;rw [Array.toList_append];refine Fg.snoc (fun d e=>kk d _ (fun z=>?_) e) hcc _ hco;rw [z,hP] at e;cases e
end
def cxL (P:Program) (w:World) (K:PySem.W.Frag) (mg:Str->Option Value) (base:Heap) (N:List Str) (env:Env) (A:Around) (outer:List Env) (s:Shared) (H:Hp) (E:XK):Cx where
 prog:=P
 w:=w
 K:=K
 mg:=mg
 base:=base
 A:=A.deeper env
 N:=N
 s₀:=s
 H₀:=H
 env:=env
 outer:=outer
 stack:=env :: outer
 ex:=[]
 calm:=true
 fn:=fun _=>false
 pn:=[]
 xe:=fun e s'=>wpAny (model P w) (A.deeper env) (leaving env e) (fun _ s''=>CXE P w outer H s E e s'') (fun e' s''=>CXE P w outer H s E e' s'') s'
section
variable {P:Program} {w:World} {K:PySem.W.Frag} {mg:Str->Option Value} {base:Heap} {N:List Str} {env:Env} {A:Around} {outer:List Env} {s:Shared} {H:Hp} {E:XK}
theorem Io (hfr:env.frame=some env.locals):DX (CXE P w) (cxL P w K mg base N env A outer s H E) E:=by
 intro pins σ H1 s1 e s' I h;obtain ⟨a,T,cls,H',rfl,os,bare,un,hok,fl,na,nT,ha,hT,hE⟩:=h;have J:Inv (cxL P w K mg base N env A outer s H E) pins σ H' s':=I.call' (ch:=[]) os un hok bare (fun b z=>absurd z (by simp));refine Gj J.ok.frames J.stack hfr (.inr fl) fun h2 T2 fl2 n2 nr=>?_;have ga:=I.gn rfl na;have gT:=I.gn rfl nT;have hid:∀ b,b ∈ a :: T :: frs (cxL P w K mg base N env A outer s H E).stack->b ∈ frs (cxL P w K mg base N env A outer s H E).stack\/(s.heap.get? b=none/\H' b=none):=fun b z=>by
  rcases List.mem_cons.mp z with rfl | z
  ·exact .inr ⟨ga,ha⟩
  ·rcases List.mem_cons.mp z with rfl | z
   ·exact .inr ⟨gT,hT⟩
   ·exact .inl z
 have nT2:H' T2=none:=by
  cases q:H' T2 with
  | none=>rfl
  | some u =>
   obtain ⟨v,y⟩:=(J.hok T2 u q).be;rw [n2] at y;cases y
 refine ⟨a,T2,cls,H',rfl,J.os,J.bare,GU J.base nr (fun b z=>(hid b z).imp id (·.1)) J.frsOut,FW J.hok nr (fun b z=>?_),fl2,ga,J.gn rfl n2,ha,nT2,hE⟩;rcases hid b z with y | y
 ·exact J.stkFree b y
 ·exact y.2
def Deed (P:Program) (w:World) (K:PySem.W.Frag) (mg:Str->Option Value) (base:Heap) (k:Nat) (p:Addr) (outer:List Env) (s:Shared) (H:Hp) (sp:VK->XK->Prop):Prop :=
 ∀ (A2:Around) (outer2:List Env) (s2:Shared) (Q:VK) (E:XK),BG k A2->Ga P w K mg base A2 outer2 s2 H->(∀ b o,s.heap.get? b=some o->H b=none->b ∉ frs outer->s2.heap.get? b=some o)->sp Q E ->
  codeAny (model P w) A2 (.call (.ref p) ⟨[],[]⟩) (CR (CXE P w) outer2 P w H s2 Q E) s2
end
section
variable {X:Cx} {params:Arguments} {body:Expr} {scope:Scope} {N:List Str} {cs:List Nat} {k:Nat} {p c:Addr} {ct:Value} {sp:VK->XK->Prop}
abbrev Nv (X:Cx) (scope:Scope) (L p c:Addr):Env:=PySem.W.envX (Gk X) scope L p (.ref c) (IL X.env scope.names)
theorem deed_of {pins:List (Addr×Obj)} {σ:St} {H:Hp} {s:Shared} (I:Inv X pins σ H s) (hfn:∀ x,X.fn x=true) (S:AV X scope N 0 cs) (hco:scope.isCoroutine=false) (hgen:scope.isGenerator=false)
  (hp:H p=some (Fv p (GR X params body scope (.ref c) ct))) (hc:H c=some (FV c (Gk X))) (hb:bindArgs (GR X params body scope (.ref c) ct) ⟨[],[]⟩=pure [])
  (go:∀ (A2:Around) (outer2:List Env) (s2:Shared) (Q:VK) (E:XK),BG k (A2.deeper (Nv X scope s2.heap.objs.size p c))->sp Q E->∃ te,PE (cxL X.prog X.w X.K X.mg X.base N (Nv X scope s2.heap.objs.size p c) A2 outer2 s2 H E) body te/\te (EW cs σ) H Q) :
  Deed X.prog X.w X.K X.mg X.base (k+1) p X.stack s H sp:=by
 intro A2 outer2 s2 Q E hr e0 hkp hsp;have op:s2.heap.get? p=some { cls:=.type "function",data:=.func (GR X params body scope (.ref c) ct) }:=(e0.hok p _ hp).1;obtain ⟨oc,vs,t,e1,e2,e3⟩:=(e0.hok c _ hc).1;have lim:s2.heap.NoLimit:=e0.mod.nolimit.keeps fun b o e=>(e0.bs b o e).1;refine PySem.W.kla_callFunE hr.depth op rfl hco hgen rfl ⟨c,oc,vs,t,rfl,e1,e2,e3⟩ ?_;rw [hb];refine wpAny_pure (wpAny_newFunctionEnv S.cell (by intro y hy; simp at hy) (fun h₁ hns hsb=>?_) S.kind);have hk₁:∀ b o,s2.heap.get? b=some o->h₁.get? b=some o:=fun b o e=>hsb.extBut b o (Nat.ne_of_lt (Heap.lt_size e)) (Heap.get?_push_of_some _ e);refine ⟨lim.keeps hk₁,?_⟩;show codeAny _ _ (.expr body (Nv X scope s2.heap.objs.size p c)) _ _;obtain ⟨te,hte,hq⟩:=go A2 outer2 s2 Q E (hr.deeper _) hsp;have lk:∀ {x d},(IL X.env scope.names).lookup x=some d->X.env.cells.lookup x=some d:=fun {x d} h=>by
  rcases Gu X.env _ _ h with z | ⟨z,e⟩
  ·simp at z
  ·obtain ⟨a,ha⟩:=I.ok.has x (S.free _ z rfl);rw [e,ha]; rfl
 have cellK:∀ {x d v},X.env.cells.lookup x=some d->s.heap.IsCell d v->s2.heap.IsCell d v:=fun {x d v} h z=>by
  obtain ⟨o,ho,hd⟩:=z;refine ⟨o,hkp d o ho (I.freeC x d h) (fun z=>?_),hd⟩;rcases List.mem_cons.mp (I.stkSub d z) with z | z
  ·exact I.cne x d h z
  ·obtain ⟨_,o2,q,_⟩:=I.ok.funs.mem z;exact absurd (Nat.lt_of_lt_of_le (Heap.lt_size q) (I.ok.cab x d (hfn x) h)) (Nat.lt_irrefl _)
 have J:Inv (cxL X.prog X.w X.K X.mg X.base N (Nv X scope s2.heap.objs.size p c) A2 outer2 s2 H E) [] (EW cs σ) H { s2 with heap:=h₁,toks:=s2.toks+([]:List (Str×Value)).length }:=by
  have noA:∀ b:Addr,b ∉ (cxL X.prog X.w X.K X.mg X.base N (Nv X scope s2.heap.objs.size p c) A2 outer2 s2 H E).ex:=fun b z=>absurd (show b ∈ ([]:List Addr) from z) (by simp);refine ⟨⟨e0.mod,S.kind,rfl,rfl,Nat.le_refl _,fun x y d h1 h2=>I.ok.inj x y d (lk h1) (lk h2),fun x hx=>?_,fun x d h _=>(nomatch h),fun _=>hr.hd,Around.frames_deeper e0.frames,.inr ⟨rfl,rfl⟩,fun b z=>absurd z (noA b),e0.bs,e0.bsz,fun b _ _=>noA b,fun b z=>absurd z (noA b),e0.funs,e0.frf⟩,
   rfl,e0.bare,Un.kept hk₁,⟨_,hns,fun i x v h1 h2 h3=>?_⟩,fun x d h=>?_,e0.hok.fresh (Nat.le_refl _),fun x d h=>I.freeC x d (lk h),fun p hp=>absurd (show p ∈ ([]:List (Addr×Obj)) from hp) (by simp),e0.hok.kept hk₁,?_⟩
  ·have hx:scope.names.lookup x=some .cell\/scope.names.lookup x=some .free:=hx;rcases hx with hx | hx
   ·exact absurd rfl (S.cell _ (PySem.mem_of_lookup hx))
   ·exact IK X.env _ [] (PySem.mem_of_lookup hx)
  ·unfold EW at h2;rw [List.getElem?_map] at h2;have hj:i < cs.length:=by
    by_cases z:i < cs.length
    ·exact z
    ·rw [List.getElem?_eq_none (by lia)] at h2;cases h2
   obtain ⟨x',f1,f2,f3⟩:=S.cap i hj;rw [Nat.zero_add,show N[i]?=some x from h1] at f1;cases f1;rw [List.getElem?_eq_getElem hj] at h2;have h2':(σ[cs[i]]?).getD none=some v:=Option.some.inj h2;rw [List.getD_eq_getElem?_getD,List.getElem?_eq_getElem hj] at f2;have h4:σ[cs[i]]?=some (some v):=by
    cases q:σ[cs[i]]? with
    | none=>rw [q] at h2'; cases h2'
    | some w=>rw [q] at h2'; rw [show w=some v from h2']
   have kO:=S.free (x,.free) (PySem.mem_of_lookup f3) rfl;obtain ⟨mo,_,hlo⟩:=I.loc;obtain ⟨u,ru,l⟩:=hlo _ x v f2 h4 (.inr kO);refine ⟨u,ru,?_⟩;rcases l with ⟨z,_⟩ | ⟨_,d,hc',z⟩
   ·have z':X.env.scope.names.lookup x=some .local:=z;rcases kO with q | q<;>· rw [z'] at q; cases q
   ·obtain ⟨d',h5⟩:=IK X.env _ [] (PySem.mem_of_lookup f3);have h6:=lk h5;rw [hc'] at h6;cases h6;obtain ⟨o,ho,hd⟩:=cellK hc' z;exact .inr ⟨.inr f3,d,h5,o,hk₁ _ _ ho,hd⟩
  ·obtain ⟨v,z⟩:=I.cell x d (lk h);obtain ⟨o,ho,hd⟩:=cellK (lk h) z;exact ⟨v,o,hk₁ _ _ ho,hd⟩
  ·show (EW cs σ).length=N.length;unfold EW;rw [List.length_map,S.len,Nat.zero_add]
 refine PySem.W.kla_codeExpr (wpAny_mono (hte [] _ _ H Q J hq) (fun u s' hs=>?_) fun e s' hs=>hs);obtain ⟨v,H',J',rv,q⟩:=hs;exact ⟨v,H',J'.os,J'.bare,J'.base,J'.hok,rv,q⟩
end
abbrev SpS:=List Env->Shared->Sp
structure OA (P:Program) (w:World) (K:PySem.W.Frag) (mg:Str->Option Value) (base:Heap) (CX:CXT) (k:Nat) (f:Addr) (fd:FuncData) (ps:List Str) (sp:SpS):Prop where
 len:∀ o s vs H Q E,sp o s vs H Q E->vs.length=ps.length
 run:∀ (A:Around) (outer:List Env) (s:Shared) (H:Hp) (args:Args) (us:List Value) (vs:List V) (Q:VK) (E:XK),BG k A->Ga P w K mg base A outer s H->BindsTo s fd args (ps.zip us)->AG vs us->sp outer s vs H Q E ->
  codeAny (model P w) A (.call (.ref f) args) (CR CX outer P w H s Q E) s
section
variable {P:Program} {w:World} {K:PySem.W.Frag} {mg:Str->Option Value} {base:Heap}
theorem Fun.okS {x qual:Str} {st:Stmt} {f:Addr} {fd:FuncData} {N ps:List Str} {k:Nat} {sp:SpS} (F:Fun K x qual st f fd) (S:Av N ps (Ae st)) (len:∀ o s vs H Q E,sp o s vs H Q E->vs.length=ps.length)
  (hbody:∀ (cdv:Value) (A:Around) (outer:List Env) (s:Shared) (H:Hp) (vs:List V) (Q:VK) (E:XK),BG k (A.deeper (envOfC qual (Ae st) s.heap.objs.size f cdv))->sp outer s vs H Q E ->
   ∃ t,PSs (EV CX0 P w K mg base N qual (Ae st) f cdv A outer s H E).nox (Au st) t/\t { nx:=fun _ H'=>Q .non H',rt:=Q } (En N vs) H):OA P w K mg base CX0 (k+1) f fd ps sp:=by
 obtain ⟨oc,od,kV,doc,pm,an,cdv,ct,osl,rfl,lk,hcd⟩:=F.ex;refine ⟨len,fun A outer s H args us vs Q E hr e0 hb r hsp=>?_⟩;have z:=Oh (CX:=CX0) (P:=P) (w:=w) (mg:=mg) (base:=base) (k:=k) (sp:=fun vs2 H2 Q2 E2=>sp outer s vs H Q E/\vs2=vs/\H2=H/\Q2=Q/\E2=E) lk hcd S (fun vs2 H2 Q2 E2 h=>h.2.1 ▸ len _ _ _ _ _ _ h.1);have hl:=len _ _ _ _ _ _ hsp;have KX:K.In s.heap:=e0.mod.kin.keeps fun b o e=>(e0.bs b o e).1;have lim:s.heap.NoLimit:=e0.mod.nolimit.keeps fun b o e=>(e0.bs b o e).1;have hkind:∀ y ∈ ps.zip us,(Ae st).names.lookup y.1=some .local\/((Ae st).names.lookup y.1=some .cell/\((cellsFrom (s.heap.objs.size+1) (Ae st).names []).lookup y.1).isSome=true):=fun ⟨n,v⟩ hy=>by
  rcases S.par n (List.of_mem_zip hy).1 with q | q
  ·exact .inl q
  ·exact .inr ⟨q,PySem.W.cellsFrom_some _ _ _ (.inl q)⟩
 clear z;refine codeAny_call_function hr.depth (KX _ _ lk) rfl S.co S.gen rfl (PySem.W.codeRec_of KX hcd) (hb _ _ _ _ ?_);refine wpAny_newFunctionEnv_cells S.kind hkind fun env he s1 x=>?_;subst he;refine ⟨lim.keeps x.toInCall.keep,codeAny_func ?_⟩;obtain ⟨t,ht,hq⟩:=hbody cdv A outer s H vs Q E (hr.deeper _) hsp;have I:Inv (EV CX0 P w K mg base N qual (Ae st) f cdv A outer s H E) [] (En N vs) H s1:=Ju S hr.hd e0 hl r x;refine wpAny_mono (ht.nox [] s1 (En N vs) H _ I hq) (fun fl s' hs=>?_) fun e s' hs=>hs;have fin:∀ {σ':St} {H':Hp} {v:V} {u:Value},Inv (EV CX0 P w K mg base N qual (Ae st) f cdv A outer s H E) [] σ' H' s'->AR v u->Q v H'->CE outer P w H s Q u s' :=
  fun {σ' H' v u} J rv q=>⟨v,H',J.os,J.bare,J.base,J.hok,rv,q⟩
 cases fl with
 | ret u =>
  obtain ⟨v,σ',H',J,rv,q⟩:=hs;exact fin J rv q
 | next =>
  obtain ⟨σ',H',J,q⟩:=hs;exact fin (v:=V.non) (u:=Value.none) J rfl q
 | brk =>
  obtain ⟨_,_,_,q⟩:=hs;exact False.elim q
 | cont =>
  obtain ⟨_,_,_,q⟩:=hs;exact False.elim q
theorem Fun.okC {x qual:Str} {st:Stmt} {f:Addr} {fd:FuncData} {N ps:List Str} {k:Nat} {sp:Sp} (F:Fun K x qual st f fd) (S:Av N ps (Ae st)) (len:∀ vs H Q E,sp vs H Q E->vs.length=ps.length)
  (hbody:∀ (cdv:Value) (A:Around) (outer:List Env) (s:Shared) (H:Hp) (vs:List V) (Q:VK) (E:XK),fd.code=cdv->BG k (A.deeper (envOfC qual (Ae st) s.heap.objs.size f cdv))->sp vs H Q E ->
   ∃ t,PSs (EV CX0 P w K mg base N qual (Ae st) f cdv A outer s H E).nox (Au st) t/\t { nx:=fun _ H'=>Q .non H',rt:=Q } (En N vs) H):AW P w K mg base CX0 (k+1) f fd ps sp:=by
 obtain ⟨oc,od,kV,doc,pm,an,cdv,ct,osl,rfl,lk,hcd⟩:=F.ex;refine Oh lk hcd S len fun A outer s H vs Q E hr hsp=>?_;obtain ⟨t,h,q⟩:=hbody cdv A outer s H vs Q E rfl hr hsp;exact ⟨t,h.nox,q⟩
end
def MF (X:Cx) (sp:SpS) (t:TA):TE:=fun σ H Q=>t σ H fun vs H1=>∀ pins s1,Inv X pins σ H1 s1->sp X.stack s1 vs H1 Q E0
def tDeed (i:Nat) (p:Addr) (H₀:Hp) (S:St->Prop) (sp:VK->XK->Prop) (E:XK):TE:=fun σ H Q=>σ[i]?=some (some (.ref p))/\H=H₀/\S σ/\sp Q E
section
variable {X:Cx} {k:Nat} {f:Addr} {fd:FuncData} {ps:List Str} {sp:SpS} {x:Str} {p pos:Pos} {e:Expr} {es:List Expr} {t:TA}
theorem Qm (F:OA X.prog X.w X.K X.mg X.base CX0 k f fd ps sp) (hr:BG k X.A) (hg:Gl X x) (hm:X.mg x=some (.ref f)) (hk:PySem.W.keepIn X.K (.ref f)=true) (hb:Do X.K fd ps [])
  (ha:PA X (e :: es) t) (hdb:(x == ("__debug__" : Str))=false:=by decide) (he:starEach (e :: es) X.env=(false,eval e X.env) :: starEach es X.env:=by rfl) (hpl:(backTo pos (starEach es X.env)).any (·.1)=false:=by rfl) :
  PE X (.Call (.Name x p) (e :: es) [] pos) (MF X sp t):=by
 intro pins s σ H Q I h;refine wpAny_Call_Name_kw (Fp I hg hm ?_ hdb);refine PySem.W.callWith_K (h₀:=X.base) I.ok.mod.kin hk (thn (ha pos pins s σ H _ I h) fun us s1 ⟨vs,H1,I1,r,q⟩=>⟨I1.kIn,?_⟩) he hpl;have q1:=q pins s1 I1;have hl:us.length=ps.length:=r.length.symm.trans (F.len _ _ _ _ _ _ q1);have hb1:=hb s1 us I1.kIn (by rw [List.append_nil]; exact hl);rw [List.append_nil] at hb1;refine wpAny_call (codeAny_mono (F.run X.A X.stack s1 H1 ⟨us,[]⟩ us vs Q E0 hr I1.env0 hb1 r q1) ?_);intro r s' hq;rcases r with e | (_ | _ | _ | _)
 all_goals first
  | exact I1.after hq
  | exact hq.elim
theorem pe_deed {i:Nat} {d:Addr} {S:St->Prop} {spd:VK->XK->Prop} {E:XK} {H0:Hp} (hH:X.H₀=H0) (hN:X.N[i]?=some x) (hl:X.env.scope.names.lookup x=some .local) (hr:BG k X.A) (D:Deed X.prog X.w X.K X.mg X.base k d X.outer X.s₀ X.H₀ spd)
  (hx:Oy (CXE X.prog X.w) X E S) (hex:X.ex=[]) (hlam:∃ fd,X.H₀ d=some (Fv d fd)) (hdb:(x == ("__debug__" : Str))=false:=by decide):PE X (.Call (.Name x p) [] [] pos) (tDeed i d H0 S spd E):=by
 subst hH;intro pins s σ H Q I h;obtain ⟨e1,rfl,hS,hq⟩:=h;obtain ⟨m,hn,hlo⟩:=I.loc;obtain ⟨u,r,l⟩:=hlo i x _ hN e1 (.inl hl);obtain rfl:u=Value.ref d:=r;have hm:m x=some (.ref d):=by
  rcases l with ⟨_,z⟩ | ⟨z,_⟩
  ·exact z
  ·have z':X.env.scope.names.lookup x=some .cell\/X.env.scope.names.lookup x=some .free:=z;rcases z' with z' | z'<;>· rw [hl] at z'; cases z'
 obtain ⟨fd,hfd⟩:=hlam;have ho:=(I.hok d _ hfd).1;refine wpAny_Call_Name_kw (wpAny_Name (wpAny_loadName_local I.ok.kind hl hn hm ?_) hdb);refine PySem.W.callWith_F0 ⟨_,_,_,_,ho⟩ ?_;refine wpAny_call (codeAny_mono (D X.A X.stack s Q E hr I.env0 (fun b o q n z=>I.base.keep b o q n z (by rw [hex]; simp)) hq) ?_);intro r s' hq;rcases r with e | (_ | _ | _ | _)
 ·exact hx pins σ _ s e s' hS I hq
 all_goals first
  | exact I.after hq
  | exact hq.elim
end
end L2
namespace L2
open PySem PySem.Spec PyProof.Rows
section
variable {X:Cx}
theorem OF {s:Shared} {A:Around}:∀ {bs:List Bool} {xs ys:List Value},AG (bs.map V.bl) xs->AG (bs.map V.bl) ys->xs.length=ys.length/\∀ j (h1:j < xs.length) (h2:j < ys.length),PySem.SeqAt.EqAt A s xs[j] ys[j] true:=fun {bs xs ys} r1 r2=>by
 obtain rfl:=JI r1;obtain rfl:=JI r2;exact ⟨rfl,fun j h1 h2=>PySem.SeqAt.EqAt.same _⟩
def AlikeB (K:PySem.W.Frag) (H:Hp) (x y:V):Prop:=∃ (a b:Addr) (bs:List Bool),x=.ref a/\y=.ref b/\SqL K H a (bs.map V.bl)/\SqL K H b (bs.map V.bl)
theorem LW (K:PySem.W.Frag) (hK:X.K=K) (hu:X.A.units+64 < cLine):OpR X (compareOp .Eq) (fun x y H Q=>AlikeB K H x y/\Q (.bl true) H):=by
 subst hK;intro pins s σ H x y v u Q I rx ry h;obtain ⟨⟨a,b,bs,rfl,rfl,h1,h2⟩,q⟩:=h;cases rx;cases ry;obtain ⟨xs,r1,p1,_⟩:=I.list h1;obtain ⟨ys,r2,p2,_⟩:=I.list h2;obtain ⟨l,k⟩:=OF (A:=X.A.in1) (s:=s) r1 r2;refine PySem.SeqAt.eq_listAt (e:=fun _=>true) p1.isList p2.isList (by rw [List.size_toArray,List.size_toArray,l]) (by lia) (fun j k1 k2=>?_) ?_
 ·simp only [List.size_toArray] at k1 k2
  simpa using k j k1 k2
 ·rw [Mx];exact ⟨.bl _,H,I,rfl,q⟩
end
structure Rr (P:Program) (w:World) (K:PySem.W.Frag) (mg:Str->Option Value) (base:Heap) (k:Nat) (x:Str) (ps:List Str) (sp:SpS):Prop where
 ex:∃ (f:Addr) (fd:FuncData),OA P w K mg base CX0 k f fd ps sp/\mg x=some (.ref f)/\PySem.W.keepIn K (.ref f)=true/\Do K fd ps []
theorem EE {X:Cx} {k:Nat} {ps:List Str} {sp:SpS} {x:Str} {p pos:Pos} {e:Expr} {es:List Expr} {t:TA} (c:Rr X.prog X.w X.K X.mg X.base k x ps sp) (hr:BG k X.A) (hg:Gl X x) (ha:PA X (e :: es) t) (hdb:(x == ("__debug__" : Str))=false:=by decide)
  (he:starEach (e :: es) X.env=(false,eval e X.env) :: starEach es X.env:=by rfl) (hpl:(backTo pos (starEach es X.env)).any (·.1)=false:=by rfl):PE X (.Call (.Name x p) (e :: es) [] pos) (MF X sp t):=by
 obtain ⟨f,fd,h1,h2,h3,h4⟩:=c.ex;exact Qm h1 hr hg h2 h3 h4 ha hdb he hpl
def Rm (tabs:List (Addr×Addr)) (H:Hp):Prop:=(∀ b,H b=none\/(∃ o xs,H b=some (.frz o (.lst xs)))\/(H b=some (.tbl #[])/\b ∈ tabs.map (·.2)))/\∀ q ∈ tabs,H q.2=some (.tbl #[])
theorem OV {P:Program} {w:World} {K:PySem.W.Frag} {mg mb:Str->Option Value} {CX:CXT} {k:Nat} {fa a:Addr} {fd:FuncData} {x:Str} {sp:Sp} {s₁:Shared} {vs:List Value} {ns:List Int} {tabs:List (Addr×Addr)}
  (KX:K.In s₁.heap) (hns:s₁.heap.Ns mainGlobals mg) (hb:s₁.heap.Ns builtinsNs mb) (hbb:∀ x:Str,x≠"__name__" -> mb x=bootBuiltins x) (hlim:s₁.heap.NoLimit) (hg:s₁.gens=#[])
  (ha:s₁.heap.get? a=some { cls:=.type "list",data:=.seq vs.toArray }) (hi:IntsAre vs ns) (hl:ns.length<=sizeLine) (hr:BG k callerA) (hT:PySem.W.TabsAt tabs s₁.heap) (hnt:PySem.W.noTabs K=true) (hB:Blt mg s₁.heap)
  (F:∀ base:Heap,K.In base->base.Ns mainGlobals mg->Blt mg base->(∀ q ∈ tabs,PySem.W.CodeHd base q.1 q.2)->AW P w K mg base CX k fa fd [x] sp) (hbind:∀ (s:Shared) (u:Value),BindsTo s fd ⟨[u],[]⟩ [(x,u)])
  (hsp:∀ H:Hp,Rm tabs H->SqL K H a (ns.map V.int)->sp [.ref a] H (fun v _=>v=.bl true) fun _ _ _=>False)
  (hCX:∀ H e s',CX [] H s₁ (fun _ _ _=>False) e s'->False) :
  codeAny (model P w) callerA (.call (.ref fa) ⟨[.ref a],[]⟩) (fun r s'=>r=.ok (.ret (.bool true))/\OldK s₁.heap s'.heap/\s'.os=s₁.os/\AllBare s'.gens) s₁:=by
 have rv:=Jf hi;have lenV:=hi.length;have tabO:∀ b,b ∈ tabs.map (·.2)->s₁.heap.get? b=some (PySem.W.tabObj #[]):=fun b hb=>by
  obtain ⟨q,hq,rfl⟩:=List.mem_map.mp hb;exact (hT q hq).2
 have core:∀ H:Hp,Rm tabs H->SqL K H a (ns.map V.int)->HOk P w H s₁.heap->(∀ b,H b≠none->b=a\/b ∈ tabs.map (·.2))->(H a≠none->K.lookup a=none) ->
   codeAny (model P w) callerA (.call (.ref fa) ⟨[.ref a],[]⟩) (fun r s'=>r=.ok (.ret (.bool true))/\OldK s₁.heap s'.heap/\s'.os=s₁.os/\AllBare s'.gens) s₁:=by
  intro H hO hS hok hA hK;have base_of:∀ {b:Addr} {o:Obj},s₁.heap.get? b=some o->H b=none->(IE s₁.heap H).get? b=some o:=fun e n=>QP e n;have noD:∀ {b:Addr} {o:Obj},s₁.heap.get? b=some o->o.cls≠.none->(∀ u n,o.data≠.seq u n)->H b=none:=fun {b o} e c d=>by
   cases q:H b with
   | none=>rfl
   | some u =>
    rcases hA b (by rw [q]; simp) with z | z
    ·subst z;rw [ha] at e;cases e;exact absurd rfl (d _ _)
    ·rw [tabO b z] at e;cases e;exact absurd rfl c
  have noA:∀ {b:Addr} {o:Obj} {es:Array DictEntry} {ep:Nat},s₁.heap.get? b=some o->o.data=.dict es ep->H b=none:=fun {b o es ep} e d=>by
   cases q:H b with
   | none=>rfl
   | some u =>
    rcases hA b (by rw [q]; simp) with z | z
    ·subst z;rw [ha] at e;cases e;cases d
    ·rw [tabO b z] at e;cases e;cases d
  have nsK:∀ {b:Addr} {m:Str->Option Value},s₁.heap.Ns b m->(IE s₁.heap H).Ns b m:=fun {b m} ⟨o,es,ep,e,d,r⟩=>⟨o,es,ep,base_of e (noA e d),d,r⟩
  have hKb:K.In (IE s₁.heap H):=fun b o e=>base_of (KX b o e) (by
   cases q:H b with
   | none=>rfl
   | some u =>
    rcases hA b (by rw [q]; simp) with z | z
    ·subst z;rw [hK (by rw [q]; simp)] at e; cases e
    ·have h2:=List.all_eq_true.mp hnt (b,o) (PySem.W.mem_of_lookupK e);have e2:=KX b o e;rw [tabO b z] at e2;cases e2;exact absurd (show false=true from h2) Bool.false_ne_true)
  have hM:Mod K mg (IE s₁.heap H):=⟨hKb,nsK hns,⟨mb,nsK hb,hbb⟩,let ⟨mc,h1,h2⟩:=hlim; ⟨mc,nsK h1,h2⟩⟩
  have hB2:Blt mg (IE s₁.heap H):=by
   obtain ⟨bm,o,b1,b2,b3,b4,b5,b6⟩:=hB;exact ⟨bm,o,b1,b2,base_of b3 (noD b3 (by rw [b4]; nofun) (by rw [b6]; nofun)),b4,b5,b6⟩
  have hC2:∀ q ∈ tabs,PySem.W.CodeHd (IE s₁.heap H) q.1 q.2:=fun q hq=>by
   obtain ⟨o,us,file,tf,flags,tg,inF,text,tt,e1,r1,r2,r⟩:=(hT q hq).1;exact ⟨o,us,file,tf,flags,tg,inF,text,tt,base_of e1 (noD e1 (by rw [r1]; nofun) (by rw [r2]; nofun)),r1,r2,r⟩
  have e0:Ga P w K mg (IE s₁.heap H) callerA [] s₁ H:=⟨rfl,hM,fun b o e=>of_hidT e,Nat.le_of_eq (Pc _ _),trivial,fun b hb=>absurd (show b ∈ ([]:List Addr) from hb) (by simp),hok,.of_eq hg⟩
  refine codeAny_mono ((F _ hKb (nsK hns) hB2 hC2).run callerA [] s₁ H ⟨[.ref a],[]⟩ [.ref a] [.ref a] _ _ hr e0 (hbind s₁ (.ref a)) (.cons rfl .nil) (hsp H hO hS)) fun r s' h=>?_;cases r with
  | error e=>exact (hCX H e s' h).elim
  | ok fl =>
   cases fl with
   | next=>exact False.elim h
   | brk=>exact False.elim h
   | cont=>exact False.elim h
   | ret u =>
    obtain ⟨v,H',os,bare,un,hok',r',q⟩:=h;have q':v=.bl true:=q;subst q';obtain rfl:u=Value.bool true:=r';refine ⟨rfl,⟨fun b o e=>?_,fun b o e=>un.there b o e (by simp)⟩,os,bare⟩;rcases hO.1 b with q | ⟨ob,xs,z⟩ | ⟨z,hb⟩
    ·exact .inl (un.keep b o e q (by intro z; exact absurd (show b ∈ ([]:List Addr) from z) (by simp)) (by simp))
    ·have z2:=un.frzs b ob _ z;obtain ⟨e1,_⟩:=hok b _ z;obtain ⟨e2,_⟩:=hok' b _ z2;rw [e] at e1; cases e1;exact .inl e2
    ·obtain ⟨more,z2⟩:=un.tbls b _ z;have e1:s'.heap.get? b=some { cls:=.none,data:=.fields (#[] ++ more) }:=hok' b _ z2;obtain ⟨q,hq,rfl⟩:=List.mem_map.mp hb;have e2:=(hT q hq).2;rw [e] at e2;cases e2;exact .inr (.inl ⟨((hT q hq).1.tab (hT q hq).2).isCodeTable,rfl,#[],more,rfl,e1⟩)
 have naT:a ∉ tabs.map (·.2):=fun z=>by
  have:=tabO a z;rw [ha] at this;cases this
 cases hk:K.lookup a with
 | some o =>
  have e:=KX a o hk;rw [ha] at e;cases e;refine core (fun b=>if b ∈ tabs.map (·.2) then some (.tbl #[]) else none) ⟨fun b=>?_,fun q hq=>if_pos (List.mem_map_of_mem hq)⟩ (.inr ⟨_,vs.toArray,_,hk,rfl,rfl,rfl,by rw [List.size_toArray,lenV]; exact hl,by simpa using rv⟩) (fun b u z=>?_) (fun b z=>?_) fun z=>absurd (if_neg naT) z
  ·by_cases hb:b ∈ tabs.map (·.2)
   ·exact .inr (.inr ⟨if_pos hb,hb⟩)
   ·exact .inl (if_neg hb)
  ·by_cases hb:b ∈ tabs.map (·.2)
   ·have z':=(if_pos hb).symm.trans z;cases z';exact tabO b hb
   ·have z':=(if_neg hb).symm.trans z;cases z'
  ·by_cases hb:b ∈ tabs.map (·.2)
   ·exact .inr hb
   ·exact absurd (if_neg hb) z
 | none =>
  refine core (fun b=>if b=a then some (.frz { cls:=.type "list",data:=.seq vs.toArray } (.lst (ns.map V.int))) else if b ∈ tabs.map (·.2) then some (.tbl #[]) else none) ⟨fun b=>?_,fun q hq=>?_⟩ (.inl (.inr ⟨{ cls:=.type "list",data:=.seq vs.toArray },if_pos rfl⟩)) (fun b u z=>?_) (fun b z=>?_) fun _=>hk
  ·by_cases hb:b=a
   ·exact .inr (.inl ⟨_,_,if_pos hb⟩)
   ·by_cases hb2:b ∈ tabs.map (·.2)
    ·exact .inr (.inr ⟨(if_neg hb).trans (if_pos hb2),hb2⟩)
    ·exact .inl ((if_neg hb).trans (if_neg hb2))
  ·have m:=List.mem_map_of_mem (f:=(·.2)) hq;exact (if_neg (fun z=>naT (by rw [<-z]; exact m))).trans (if_pos m)
  ·by_cases hb:b=a
   ·have z':=(if_pos hb).symm.trans z;cases z';subst hb;exact ⟨ha,by rw [List.length_map]; exact hl,vs,_,rv,ha⟩
   ·have z':=(if_neg hb).symm.trans z;by_cases hb2:b ∈ tabs.map (·.2)
    ·have z'':=(if_pos hb2).symm.trans z';cases z'';exact tabO b hb2
    ·have z'':=(if_neg hb2).symm.trans z';cases z''
  ·by_cases hb:b=a
   ·exact .inl hb
   ·by_cases hb2:b ∈ tabs.map (·.2)
    ·exact .inr hb2
    ·exact absurd ((if_neg hb).trans (if_neg hb2)) z
theorem Po {l:PySem.W.OpenLaw} {n k:Nat} {q:Program} {loose:List Str} {XP:(Str->Option Value)->Heap->Prop} {YP:World->Heap->Prop} {d:DefRec} {K:Params->PySem.W.Frag} {CX:World->CXT} {sp:World->Sp} {x:Str} {tabs:List (Addr×Addr)}
  (hn:l.most=some n) (hn2:n<=sizeLine) (hdf:d.params.defaults=[]) (hr:BG k callerA)
  (hY:∀ (w:World) (h:Heap),YP w h->(K w.params).In h)
  (hT:∀ (w:World) (h:Heap),YP w h->PySem.W.TabsAt tabs h) (hnt:∀ w:World,PySem.W.noTabs (K w.params)=true)
  (F:∀ (w:World) (mg:Str->Option Value) (fa:Addr) (h:Heap),(K w.params).In h->h.Ns mainGlobals mg->mg d.name=some (.ref fa) ->
   ∃ fd:FuncData,(∀ (s:Shared) (u:Value),BindsTo s fd ⟨[u],[]⟩ [(x,u)]) /\
    ∀ base:Heap,(K w.params).In base->base.Ns mainGlobals mg->Blt mg base->(∀ q ∈ tabs,PySem.W.CodeHd base q.1 q.2)->AW l.prog w (K w.params) mg base (CX w) k fa fd [x] (sp w))
  (hsp:∀ (w:World) (H:Hp) (a:Addr) (ns:List Int),ns.length<=n->Rm tabs H->SqL (K w.params) H a (ns.map V.int)->sp w [.ref a] H (fun v _=>v=.bl true) fun _ _ _=>False)
  (hCX:∀ (w:World) (H:Hp) (s:Shared) (e:Value) (s':Shared),CX w [] H s (fun _ _ _=>False) e s'->False) :
  PySem.W.WalkO q loose XP YP l.row.toRowW d [] (fun f vs=>PySem.call f vs):=by
 refine Att.Mu hn hdf fun w s₀ s₁ mg mb fa o pm cd doc a vs ns G Y ho hd hcd hmg hobj hints hlen hg=>?_;have KX:=hY w _ Y;obtain ⟨fd,hb,hF⟩:=F w mg fa _ KX G.T.g hmg;exact OV KX G.T.g G.T.b G.T.builtins G.T.nolimit hg hobj hints (Nat.le_trans hlen hn2) hr (hT w _ Y) (hnt w) G.T.bmain hF hb (fun H hO hS=>hsp w H a ns hlen hO hS) fun H e s'=>hCX w H s₁ e s'
end L2
namespace L2
open PySem PySem.Spec PyProof.Rows
theorem Jb:entryFor table "proto.unchain" = some Builtin.«proto.unchain»:=entryFor_of_fast (by kernel_rfl)
section
variable {prog:Program} {w:World} {A:Around} {E:Value->Shared->Prop} {s:Shared}
theorem Qd {α:Type} {a e:Addr} {oe:Obj} {ws:Array Value} {D:Addr} {Q:α->Shared->Prop} (hh:A.handled=some (.ref a)) (ha:Fz a D s.heap) (ne:a≠e) (he:s.heap.get? e=some oe) (hd:oe.data=.fields ws) (hz:2 < ws.size)
  (h:E (.ref e) { s with heap:=s.heap.update e (Obj.mapFields (·.setIfInBounds 2 (.ref a))) }):wpAny (model prog w) A (raiseNew (.ref e):Sem α) Q E s:=by
 obtain ⟨o,h1,_,vs,h2,h3⟩:=ha;simp only [raiseNew];refine wpAny_bind (wpAny_handled ?_);rw [hh];have q:(Value.ref a != Value.ref e)=true:=by simpa using ne
 simp only [q,if_true];refine wpAny_bind (wpAny_holding (wpAny_runValue (codeAny_builtin Jb ?_)));show wpAny _ _ (field (.ref a) 2 >>= _) _ _ s;refine wpAny_bind (wpAny_field h1 h2 h3 ?_);rw [if_pos (by decide)];refine wpAny_pure ?_;simp only [updateField];refine wpAny_bind (wpAny_bind (wpAny_load he ?_));rw [hd];dsimp only;rw [if_pos hz];exact wpAny_update he (wpAny_throw h)
theorem MM {it a D:Addr} {x left step:Int} {Q:Option Value->Shared->Prop} (hh:A.handled=some (.ref a)) (ha:Fz a D s.heap) (hit:IsRangeIter s.heap it x left step) (hleft:left<=0)
  (hQ:∀ h',Heap.ExtBut it s.heap h'->Q none { s with heap:=h' }):wpAny (model prog w) A (pyNext (.ref it)) Q E s:=by
 have hT:s.TypeIs (.ref it) "range_iterator" := ⟨_,hit,rfl⟩
 unfold pyNext;refine wpAny_bind (wpAny_attempt (wpAny_callSpecial?_slot (name:=Str.ofString "__next__") hT F.slot_range_iterator_next (wpAny_call_entry F.slot_range_iterator_next hT F.entry_range_iterator_next ?_ (F.args_range_iterator_next_1 _))));refine wpAny_bind (m:=field (.ref it) 0) (wpAny_field hit rfl (x:=rawInt x) rfl (wpAny_bind (m:=field (.ref it) 1) (wpAny_field hit rfl (x:=rawInt left) rfl (wpAny_bind (m:=field (.ref it) 2) (wpAny_field hit rfl (x:=rawInt step) rfl ?_)))));show wpAny _ _ (if left<=0 then _ else _) _ _ _;rw [if_pos hleft];refine wpAny_bind (wpAny_rule (wpAny_bind (wpAny_bind (m:=newExc (.type "StopIteration") []) ?_)));simp only [newExc,newTuple];refine wpAny_bind (wpAny_newObj_type (wpAny_bind (m:=firstArgMember _ _) (wpAny_of_eq (a:=Value.none) (by first | rfl | (simp only [firstArgMember]; rfl)) (wpAny_newObj_type ?_ (by size_fits)))) (by size_fits));generalize hob:({ cls:=Value.type "StopIteration",data:=Data.fields (#[Value.ref s.heap.objs.size,Value.none,Value.none,Value.none,Value.bool false,Value.none] ++ ownMembersOf (Value.type "StopIteration") []) }:Obj)=ob;have hd:ob.data=Data.fields (#[Value.ref s.heap.objs.size,Value.none,Value.none,Value.none,Value.bool false,Value.none] ++ ownMembersOf (Value.type "StopIteration") []):=by rw [<-hob]
 have hc:ob.cls=.type "StopIteration" := by rw [<-hob]
 have hf:ob.isFreed=false:=Obj.isFreed_of_fields hd;have up:∀ b o,s.heap.get? b=some o->((s.heap.push { cls:=Value.type "tuple",data:=Data.seq #[] }).push ob).get? b=some o:=fun b o q=>Heap.get?_push_of_some _ (Heap.get?_push_of_some _ q);have lt:∀ b o,s.heap.get? b=some o->b≠(s.heap.push { cls:=Value.type "tuple",data:=Data.seq #[] }).objs.size:=fun b o q=>Nat.ne_of_lt (Heap.lt_size (Heap.get?_push_of_some _ q));have ge:=Heap.get?_push_size (s.heap.push { cls:=Value.type "tuple",data:=Data.seq #[] }) hf;obtain ⟨o,h1,hr⟩:=id ha;refine Qd (D:=D) (A:=A.in1) hh ⟨o,up _ _ h1,hr⟩ (lt _ _ h1) ge hd (by rw [Array.size_append]; exact Nat.lt_of_lt_of_le (by decide:2 < 6) (Nat.le_add_right _ _)) ?_;refine wpAny_bind (wpAny_isInstance (T:="StopIteration") (b:=true) ⟨_,Heap.get?_update_self _ ge (Obj.isFreed_of_fields (Obj.data_mapFields hd _)),(Obj.cls_mapFields _ _).trans hc⟩ isSubtype_stop (wpAny_pure (hQ _ fun b o n q=>?_)));exact (Heap.get?_update_other _ _ (Ne.symm (lt b o q))).trans (up b o q)
end
def ItrH (a:Addr) (lo:Int) (n:Nat):It:=⟨fun i _=>i < n,fun i H x H'=>H'=H/\x=.int (lo+i),fun i H=>i=n/\∃ D,H a=some (Fw a D)⟩
theorem Lz {P:Program} {w:World} {K:PySem.W.Frag} {tg:Expr} (a it:Addr) (lo:Int) (n:Nat):MA (fun X=>X.A.handled=some (.ref a)) P w K tg (ItrH a lo n) [it] it (fun i h=>IsRangeIter h it (lo+(i:Nat) * 1) ((n:Int) - (i:Nat)) 1) where
 obj:=(EA (P:=P) (w:=w) (K:=K) (tg:=tg) it lo n).obj
 keep:=(EA (P:=P) (w:=w) (K:=K) (tg:=tg) it lo n).keep
 item:=by
  intro X hC hP hw hK i pins s σ H E I hf st hg;subst hP hw hK;obtain ⟨f0,f1,f2,f3,f4,f5⟩:=hf it (by simp);have hg:i < n:=hg;refine wpAny_pyNext_range_item st (by omega) fun h' hit' hs'=>?_;have st':IsRangeIter h' it (lo+((i+1:Nat):Int) * 1) ((n:Int) - ((i+1:Nat):Int)) 1:=by
   have e1:lo+((i+1:Nat):Int) * 1=lo+(i:Int) * 1+1:=by omega
   have e2:(n:Int) - ((i+1:Nat):Int)=(n:Int) - (i:Int) - 1:=by omega
   rw [e1,e2];exact hit'
  have I1:Inv X pins σ H { s with heap:=h',toks:=s.toks+1 }:=I.turned (fun b o hb e=>hs'.extBut b o (by simpa using hb) e) f0 f1 f3 f4 f5;exact ⟨_,rfl,Og (s:={ s with heap:=h',toks:=s.toks+1 }) (n:="range_iterator") st' rfl rfl (by decide) ⟨.int (lo+i),H,I1,⟨s.toks,by rw [Int.mul_one]⟩,⟨rfl,rfl⟩,st',fun b hb=>(hf b hb).1⟩⟩
 done:=by
  intro X hC hP hw hK i pins s σ H E I hf st hg;subst hP hw hK;obtain ⟨f0,f1,f2,f3,f4,f5⟩:=hf it (by simp);obtain ⟨z,D,hD⟩:=hg;subst z;obtain ⟨p,_,_⟩:=(show AS X.prog X.w H s.heap a (Fw a D) from I.hok a _ hD)
  exact MM hC p st (by omega) fun h' kk=>⟨rfl,I.turned (t':=s.toks) (fun b o hb e=>kk b o (by simpa using hb) e) f0 f1 f3 f4 f5⟩
 self:=(EA (P:=P) (w:=w) (K:=K) (tg:=tg) it lo n).self
def PIH (a:Addr) (X:Cx) (tg iter:Expr) (wi:TI):Prop :=
 ∀ (pins:List (Addr×Obj)) (s:Shared) (σ:St) (H:Hp) (R:It->Hp->Prop),Inv X pins σ H s->wi σ H R ->
  wpAny (model X.prog X.w) X.A (eval iter X.env) (fun v s1=>wpAny (model X.prog X.w) X.A (pyIter v) (fun itv s2=>∃ (it:Addr) (fp:List Addr) (tn:Nat->Heap->Prop) (J:It) (H':Hp),itv=.ref it/\Inv X pins σ H' s2/\MA (fun X=>X.A.handled=some (.ref a)) X.prog X.w X.K tg J fp it tn/\tn 0 s2.heap/\(∀ b ∈ fp,CY X pins H' b)/\R J H') X.xe s1) X.xe s
def iRngH (a:Addr) (ta:TA):TI:=fun σ H R=>ta σ H fun vs H1=>∃ n:Nat,vs=[.int n]/\n < 1000000/\R (ItrH a 0 n) H1
section
variable {X:Cx} {a:Addr} {tg iter elt:Expr} {ifs:List Expr} {scope:Scope} {pos p:Pos} {wi:TI} {g:TG} {tc:TT} {te:TE} {N:List Str} {k:Nat} {cs:List Nat}
theorem OJ {e:Expr} {ta:TA} (hg:Gl X "range") (hm:X.mg "range" = none) (ha:PA X [e] ta) (hs:starEach [e] X.env=[(false,eval e X.env)]:=by rfl):PIH a X tg (.Call (.Name "range" p) [e] [] pos) (iRngH a ta):=by
 intro pins s σ H R I h;refine Call_ (Fb I hg hm boot_range (PyProof.Rows.callWith_type1 (thn (ha pos pins s σ H _ I h) fun us s1 ⟨vs,H1,I1,r1,q1⟩=>?_) hs rfl));obtain ⟨n,e,q1,q⟩:=q1;subst e;cases r1 with
 | cons r rr =>
  cases rr;obtain ⟨t,rfl⟩:=r;refine call_range_1 (wpAny_pyIter_range (IsRange.new ..) (small_one (by omega) (by omega) (by omega) (by omega)) ?_);generalize ({ cls:=Value.type "range",data:=Data.fields #[Value.int 0 s1.toks,Value.int (n:Int) t,Value.int 1 (s1.toks+1)] }:Obj)=ob;have I2:Inv X pins σ H1 { s1 with heap:=s1.heap.push ob,toks:=s1.toks+1+1 }:=I1.kept fun b o e=>Heap.get?_push_of_some _ e
  refine ⟨(s1.heap.push ob).objs.size,[(s1.heap.push ob).objs.size],_,_,H1,rfl,I2.kept (t':=s1.toks+1+1) fun b o e=>Heap.get?_push_of_some _ e,Lz a _ 0 n,?_,fun b hb=>?_,q⟩
  ·have e2:(n:Int) - ((0:Nat):Int)=Builtin.Range.rangeSize 0 n 1:=by rw [rangeSize_one]; split<;>omega
   show IsRangeIter _ _ ((0:Int)+((0:Nat):Int) * 1) ((n:Int) - ((0:Nat):Int)) 1;rw [show (0:Int)+((0:Nat):Int) * 1=0 from rfl,e2];exact Heap.get?_push_size _ rfl
  ·rw [List.mem_singleton.mp hb];exact I2.fpOk (Nat.le_refl _) (I2.hok.fresh (Nat.le_refl _))
theorem Ql (hh:X.A.handled=some (.ref a)) (S:AV X scope N k cs) (hi:PIH a X tg iter wi) (hg:∀ s H ex,PG (cxC X scope N s H ex) tg g) (ht:∀ s H ex,PTs (cxC X scope N s H ex) ifs tc) (he:∀ s H ex,PE (cxC X scope N s H ex) elt te)
  (hs:∀ x,foldedSetIterable iter X.env x=pure x:=by intro _; rfl):PE X (.ListComp elt [⟨tg,iter,ifs,0⟩] scope pos) (tComp k cs wi g tc te):=by
 intro pins s σ H Q I h;rw [eval_ListComp];refine wpAny_comprehension_free (use:=none) rfl hs (EO fun y hy hf=>I.ok.has _ (S.free y hy hf)) S.kind S.names (thn (hi pins s σ H _ I h) fun v s1 h1=>thn h1 fun itv s2 h2=>?_);obtain ⟨it,fp,tn,J,H2,rfl,I2,T,st2,f2,hb⟩:=h2;refine FI (RR:=fun acc C=>compPost (model X.prog X.w) X.A X.xe none (EP X pins σ Q) acc C) (Cq:=fun X=>X.A.handled=some (.ref a)) (fun _ _ _=>hh) S hg ht he I2 T st2 f2 hb fun D C H' acc s4 qf nD J4 hn fC=>?_;obtain ⟨m,hm⟩:=hn;exact ⟨m,hm,fun h' sb=>⟨.ref D,upd H' D (.lst acc),J4.turned (t':=s4.toks) (it:=C) (fun b o hb e=>(sb.2 b hb).trans e) fC.1 fC.2.1 fC.2.2.2.1 fC.2.2.2.2.1 fC.2.2.2.2.2,rfl,qf D nD⟩⟩
theorem Ny {σ:St} {H:Hp} {fin:List V->Hp->Prop} {lo:Int} {n:Nat} (Pv:Nat->List V->Hp->Prop) (h0:Pv 0 [] H) (hs:∀ i acc H,i < n->Pv i acc H->Bt k cs g tc te σ (.int (lo+i)) acc H (Pv (i+1))) (hd:∀ acc H,Pv n acc H->(∃ D,H a=some (Fw a D))/\fin acc H):FA k cs g tc te (ItrH a lo n) σ H fin:=by
 refine ⟨fun i m acc H=>m=n - i/\i<=n/\Pv i acc H,⟨n,by simp,Nat.zero_le _,h0⟩,?_⟩;rintro i m acc H ⟨rfl,hi,p⟩;by_cases hlt:i < n
 ·refine .inr ⟨hlt,Pv (i+1),fun acc' H' p'=>⟨n - (i+1),by omega,rfl,hlt,p'⟩,fun x H' y=>?_⟩;obtain ⟨e,y⟩:=y;subst e y;exact hs i acc _ hlt p
 ·have e:i=n:=by omega
  subst e;obtain ⟨z,q⟩:=hd acc H p;exact .inl ⟨⟨rfl,z⟩,q⟩
end
end L2
namespace L2
open PySem PySem.Spec PyProof.Rows
section
variable {X:Cx}
def rInsert:V->List V->Hp->VK->Prop:=fun x vs H Q=>∃ (l:Addr) (xs:List V) (i:Int) (y:V),x=.ref l/\vs=[.int i,y]/\H l=some (.lst xs)/\(0<=i/\i<=(xs.length:Int)/\xs.length < 1000)/\Q .non (upd H l (.lst (xs.take i.toNat ++ y :: xs.drop i.toNat)))
theorem OQ:MtM X "list.insert" rInsert:=by
 intro pins s σ H x vs v us Q I rx rv h;obtain ⟨l,xs,i,y,rfl,rfl,hH,⟨hi,hk,hz⟩,q⟩:=h;cases rx;obtain ⟨u,w,rfl,ru,rw'⟩:=rv.two;obtain ⟨t,rfl⟩:=ru;obtain ⟨z,its,n,r,hl,e⟩:=I.lstM hH;have h1000:1000<=sizeLine:=by decide
 have hf:¬ (!Builtin.List.listFitsIndex i)=true:=by
  rw [fitsIndex_both (by lia) (by lia)];exact Bool.false_ne_true
 have hs:its.toArray.size<=sizeLine:=by
  rw [List.size_toArray];exact Nat.le_trans (by lia) h1000
 refine call_meets F.slot_list_insert ⟨_,e,rfl⟩ F.entry_list_insert (F.args_list_insert_3 _ _ _) (AutoSeq1.list_insert_list_int_val_1 l its.toArray n i t w hf hs) ⟨e,?_⟩;refine ⟨.non,_,I.lset (its':=its.take i.toNat ++ w :: its.drop i.toNat) hH e ?_ ((r.take i.toNat).append (.cons rw' (r.drop i.toNat))) ?_,rfl,q⟩
 ·show ((its.toArray.extract 0 (if i < 0 then (i+(its.toArray.size:Int)).toNat else min i.toNat its.toArray.size)).push w ++ its.toArray.extract (if i < 0 then (i+(its.toArray.size:Int)).toNat else min i.toNat its.toArray.size))=_;rw [if_neg (by lia),List.size_toArray,Nat.min_eq_left (by lia)];simp;exact List.take_of_length_le (by rw [List.length_drop]; exact Nat.le_refl _)
 ·rw [List.length_append,List.length_cons,List.length_take,List.length_drop];exact Nat.le_trans (by lia) h1000
end
section
variable {X:Cx} {scope:Scope} {N:List Str} {s:Shared} {H:Hp} {ex:List Addr} {x y z:Str} {px py pz pos:Pos} {k:Nat}
theorem NV {i j m:Nat} (hc:X.calm=true) (hN:N.Nodup) (hi:N[i]?=some x) (hj:N[j]?=some y) (hk:N[m]?=some z) (hl:(relabel scope X.env).names.lookup x=some .local) (hm:(relabel scope X.env).names.lookup y=some .local) (hz:(relabel scope X.env).names.lookup z=some .local) :
  PG (cxC X scope N s H ex) (.Tuple [.Name x px,.Name y py,.Name z pz] k pos) (gTup X.K 3 (FX (Fd i) (FX (Fd j) (FX (Fd m) gNil)))) :=
 EY (X:=cxC X scope N s H ex) hc (Bd (Es hN hi hl) (Bd (Es hN hj hm) (Bd (Es hN hk hz) Ee)))
theorem gtri {K:PySem.W.Frag} {i j m:Nat} {T:Addr} {x y z:V} {σ:St} {H:Hp} {Q:St->Hp->Prop} (h:H T=some (.tup [x,y,z])) (q:Q (((σ.set i (some x)).set j (some y)).set m (some z)) H):gTup K 3 (FX (Fd i) (FX (Fd j) (FX (Fd m) gNil))) (.ref T) σ H Q :=
 ⟨T,_,rfl,SqT.of h,rfl,x,_,rfl,y,_,rfl,z,_,rfl,rfl,q⟩
end
end L2
namespace J
open PySem L2
def top (i:Nat):Stmt:=PySem.Challenge.pw_jumpfield_k26_fields_refused.main.body.getD i (.Pass ⟨0,0,0,0⟩)
abbrev CT:Stmt:=top 9
abbrev MV:List Str:=["thing"]
abbrev BB:List Str:=["thing"]
theorem GE:Av MV BB (Ae CT):=⟨rfl,rfl,rfl,by decide +kernel,rfl,by decide +kernel,by decide +kernel⟩
abbrev CU:Stmt:=top 12
abbrev MW:List Str:=["thing"]
abbrev Cc:List Str:=["thing"]
theorem GF:Av MW Cc (Ae CU):=⟨rfl,rfl,rfl,by decide +kernel,rfl,by decide +kernel,by decide +kernel⟩
abbrev Ck:Stmt:=top 19
abbrev IZ:List Str:=["box","limit"]
abbrev BN:List Str:=["box","limit"]
theorem Ii:Av IZ BN (Ae Ck):=⟨rfl,rfl,rfl,by decide +kernel,rfl,by decide +kernel,by decide +kernel⟩
abbrev Dv:Stmt:=top 20
abbrev MU:List Str:=["grove","field"]
abbrev Cb:List Str:=["grove","field"]
theorem LJ:Av MU Cb (Ae Dv):=⟨rfl,rfl,rfl,by decide +kernel,rfl,by decide +kernel,by decide +kernel⟩
abbrev CF:Stmt:=top 21
abbrev La:List Str:=["grove"]
abbrev CJ:List Str:=["grove"]
theorem IU:Av La CJ (Ae CF):=⟨rfl,rfl,rfl,by decide +kernel,rfl,by decide +kernel,by decide +kernel⟩
abbrev Ds:Stmt:=top 22
abbrev OL:List Str:=["grove","square","level","parts","bare"]
abbrev Db:List Str:=["grove","square"]
theorem Cy:Av OL Db (Ae Ds):=⟨rfl,rfl,rfl,by decide +kernel,rfl,by decide +kernel,by decide +kernel⟩
abbrev Dt:Stmt:=top 23
abbrev OM:List Str:=["grove","square","kept"]
abbrev Cn:List Str:=["grove","square"]
theorem Dp:Av OM Cn (Ae Dt):=⟨rfl,rfl,rfl,by decide +kernel,rfl,by decide +kernel,by decide +kernel⟩
abbrev CA:Stmt:=top 24
abbrev GK:List Str:=["grove","square","inner"]
abbrev Dc:List Str:=["grove","square"]
theorem FK:Av GK Dc (Ae CA):=⟨rfl,rfl,rfl,by decide +kernel,rfl,by decide +kernel,by decide +kernel⟩
abbrev Bq:Stmt:=top 25
abbrev Gf:List Str:=["grove","square","bare","place","quarter","part_place","part"]
abbrev Bu:List Str:=["grove","square"]
theorem Bf:Av Gf Bu (Ae Bq):=⟨rfl,rfl,rfl,by decide +kernel,rfl,by decide +kernel,by decide +kernel⟩
abbrev BR:Stmt:=top 26
abbrev Iw:List Str:=["grove","field","box","wide"]
abbrev BW:List Str:=["grove","field","box"]
theorem DK:Av Iw BW (Ae BR):=⟨rfl,rfl,rfl,by decide +kernel,rfl,by decide +kernel,by decide +kernel⟩
abbrev Dw:Stmt:=top 27
abbrev ON:List Str:=["grove","field","x","y","state","place","wide","half"]
abbrev Co:List Str:=["grove","field","x","y","state"]
theorem Cz:Av ON Co (Ae Dw):=⟨rfl,rfl,rfl,by decide +kernel,rfl,by decide +kernel,by decide +kernel⟩
abbrev Du:Stmt:=top 28
abbrev MT:List Str:=["grove","square","x","y","state","level","half","parts","place"]
abbrev CB:List Str:=["grove","square","x","y","state"]
theorem CZ:Av MT CB (Ae Du):=⟨rfl,rfl,rfl,by decide +kernel,rfl,by decide +kernel,by decide +kernel⟩
abbrev CV:Stmt:=top 29
abbrev MX:List Str:=["grove","cells","field","cell"]
abbrev CC:List Str:=["grove","cells"]
theorem Ca:Av MX CC (Ae CV):=⟨rfl,rfl,rfl,by decide +kernel,rfl,by decide +kernel,by decide +kernel⟩
abbrev DM:Stmt:=top 32
abbrev OO:List Str:=["cell"]
abbrev DO:List Str:=["cell"]
theorem MK:Av OO DO (Ae DM):=⟨rfl,rfl,rfl,by decide +kernel,rfl,by decide +kernel,by decide +kernel⟩
abbrev CW:Stmt:=top 33
abbrev MY:List Str:=["grove","field","reach","cells"]
abbrev Cd:List Str:=["grove","field"]
theorem Da:Av MY Cd (Ae CW):=⟨rfl,rfl,rfl,by decide +kernel,rfl,by decide +kernel,by decide +kernel⟩
abbrev BS:Stmt:=top 34
abbrev Ix:List Str:=["grove","square","left","top","cells","level","half","place","quarter"]
abbrev Be:List Str:=["grove","square","left","top","cells"]
theorem BH:Av Ix Be (Ae BS):=⟨rfl,rfl,rfl,by decide +kernel,rfl,by decide +kernel,by decide +kernel⟩
abbrev DN:Stmt:=top 36
abbrev OP:List Str:=["_law_script","_law_k"]
abbrev DP:List Str:=["_law_script","_law_k"]
theorem ML:Av OP DP (Ae DN):=⟨rfl,rfl,rfl,by decide +kernel,rfl,by decide +kernel,by decide +kernel⟩
abbrev Bz:Stmt:=top 37
abbrev EZ:List Str:=["_law_deed","_law_due","e","_law_kinds"]
abbrev BC:List Str:=["_law_deed","_law_due"]
theorem CP:Av EZ BC (Ae Bz):=⟨rfl,rfl,rfl,by decide +kernel,rfl,by decide +kernel,by decide +kernel⟩
abbrev BJ:Stmt:=top 38
abbrev GQ:List Str:=["_law_cell","_law_way","_law_far"]
abbrev Cj:List Str:=["_law_cell"]
theorem Dr:Av GQ Cj (Ae BJ):=⟨rfl,rfl,rfl,by decide +kernel,rfl,by decide +kernel,by decide +kernel⟩
abbrev Br:Stmt:=top 39
abbrev Gg:List Str:=["_law_cell","_law_beside","_law_far","_law_out"]
abbrev BX:List Str:=["_law_cell","_law_beside"]
theorem Ct:Av Gg BX (Ae Br):=⟨rfl,rfl,rfl,by decide +kernel,rfl,by decide +kernel,by decide +kernel⟩
abbrev BI:Stmt:=top 40
abbrev GP:List Str:=["_law_cell","_law_beside","_law_place"]
abbrev Ci:List Str:=["_law_cell","_law_beside"]
theorem Eo:Av GP Ci (Ae BI):=⟨rfl,rfl,rfl,by decide +kernel,rfl,by decide +kernel,by decide +kernel⟩
abbrev Bp:Stmt:=top 41
abbrev DI:List Str:=["_law_grove","_law_script","_law_state","_law_wide","_law_full","_law_x","_law_more","_law_found","_law_k"]
abbrev DG:List Str:=["_law_grove","_law_script"]
theorem BK:Av DI DG (Ae Bp):=⟨rfl,rfl,rfl,by decide +kernel,rfl,by decide +kernel,by decide +kernel⟩
abbrev AX:Stmt:=top 42
abbrev CO:List Str:=["_law_grove","_law_field","_law_cell","_law_leaf","_law_high","_law_bad","_law_square","_law_due"]
abbrev CN:List Str:=["_law_grove","_law_field","_law_cell"]
theorem Bc:Av CO CN (Ae AX):=⟨rfl,rfl,rfl,by decide +kernel,rfl,by decide +kernel,by decide +kernel⟩
abbrev DE:Stmt:=top 43
abbrev FS:List Str:=["_law_script","_law_grove","_law_cells","_law_k","_law_field","_law_at_here","_law_beside","_law_one","_law_due","_law_other","_law_later","_law_row"]
abbrev p_law:List Str:=["_law_script"]
theorem Dq:Av FS p_law (Ae DE):=⟨rfl,rfl,rfl,by decide +kernel,rfl,by decide +kernel,by decide +kernel⟩
abbrev CI:Stmt:=DD (top 15) 0
abbrev Ld:List Str:=["self","state","level","bare"]
abbrev Dj:List Str:=["self"]
theorem DC:Av Ld Dj (Ae CI):=⟨rfl,rfl,rfl,by decide +kernel,rfl,by decide +kernel,by decide +kernel⟩
abbrev CH:Stmt:=DD (top 15) 1
abbrev Lc:List Str:=["self","parts","level","number"]
abbrev CK:List Str:=["self","parts","level"]
theorem Fs:Av Lc CK (Ae CH):=⟨rfl,rfl,rfl,by decide +kernel,rfl,by decide +kernel,by decide +kernel⟩
abbrev BU:Stmt:=DD (top 15) 2
abbrev Iz:List Str:=["self","parts","number"]
abbrev AZ:List Str:=["self","parts"]
theorem ET:Av Iz AZ (Ae BU):=⟨rfl,rfl,rfl,by decide +kernel,rfl,by decide +kernel,by decide +kernel⟩
abbrev AK:Stmt:=DD (top 15) 3
abbrev Fa:List Str:=["self","square"]
abbrev AC:List Str:=["self","square"]
theorem Dl:Av Fa AC (Ae AK):=⟨rfl,rfl,rfl,by decide +kernel,rfl,by decide +kernel,by decide +kernel⟩
abbrev CG:Stmt:=DD (top 15) 4
abbrev Lb:List Str:=["self","state"]
abbrev Ce:List Str:=["self","state"]
theorem IV:Av Lb Ce (Ae CG):=⟨rfl,rfl,rfl,by decide +kernel,rfl,by decide +kernel,by decide +kernel⟩
abbrev Cm:Stmt:=DD (top 15) 6
abbrev Ja:List Str:=["self","level","state","square","below"]
abbrev Cp:List Str:=["self","level","state"]
theorem Dg:Av Ja Cp (Ae Cm):=⟨rfl,rfl,rfl,by decide +kernel,rfl,by decide +kernel,by decide +kernel⟩
abbrev Ba:Stmt:=DD (top 15) 7
abbrev Gi:List Str:=["self","square"]
abbrev AA:List Str:=["self","square"]
theorem DZ:Av Gi AA (Ae Ba):=⟨rfl,rfl,rfl,by decide +kernel,rfl,by decide +kernel,by decide +kernel⟩
abbrev Bs:Stmt:=DD (top 15) 9
abbrev Gh:List Str:=["self","square"]
abbrev BY:List Str:=["self","square"]
theorem FL:Av Gh BY (Ae Bs):=⟨rfl,rfl,rfl,by decide +kernel,rfl,by decide +kernel,by decide +kernel⟩
abbrev BT:Stmt:=DD (top 15) 10
abbrev Iy:List Str:=["self","square"]
abbrev BD:List Str:=["self","square"]
theorem GN:Av Iy BD (Ae BT):=⟨rfl,rfl,rfl,by decide +kernel,rfl,by decide +kernel,by decide +kernel⟩
abbrev Bj:Stmt:=DD (top 15) 11
abbrev EU:List Str:=["self","square","amount"]
abbrev Bl:List Str:=["self","square"]
theorem CD:Av EU Bl (Ae Bj):=⟨rfl,rfl,rfl,by decide +kernel,rfl,by decide +kernel,by decide +kernel⟩
structure Ad where
 c_Grove:Addr
 x_FieldError:Addr
 x_NoSquare:Addr
 x_NoLevel:Addr
 x_NoState:Addr
 x_TooFar:Addr
 x_TooMany:Addr
structure Top (K:PySem.W.Frag) (mg:Str->Option Value) (a:Ad):Prop where
 b_bool:mg "bool" = none
 b_enumerate:mg "enumerate" = none
 b_int:mg "int" = none
 b_isinstance:mg "isinstance" = none
 b_len:mg "len" = none
 b_list:mg "list" = none
 b_max:mg "max" = none
 b_min:mg "min" = none
 b_range:mg "range" = none
 b_sorted:mg "sorted" = none
 b_sum:mg "sum" = none
 b_tuple:mg "tuple" = none
 k_STATES:∃ t,mg "STATES" = some (.int 8 t)
 k_TOP_LEVEL:∃ t,mg "TOP_LEVEL" = some (.int 48 t)
 k_LIMIT:∃ t,mg "LIMIT" = some (.int 1099511627776 t)
 k_LEAST_LEVEL:∃ t,mg "LEAST_LEVEL" = some (.int 1 t)
 k_MOST_CELLS:∃ t,mg "MOST_CELLS" = some (.int 4096 t)
 m_Grove:mg "Grove" = some (.ref a.c_Grove)
 cl_Grove:Cls K a.c_Grove
 na_Grove_levels:Dk K a.c_Grove "levels"
 na_Grove_parts:Dk K a.c_Grove "parts"
 na_Grove_numbers:Dk K a.c_Grove "numbers"
 na_Grove_bares:Dk K a.c_Grove "bares"
 na_Grove_amounts:Dk K a.c_Grove "amounts"
 na_Grove_boxes:Dk K a.c_Grove "boxes"
 b_ValueError:mg "ValueError" = none
 mx_FieldError:mg "FieldError" = some (.ref a.x_FieldError)
 mx_NoSquare:mg "NoSquare" = some (.ref a.x_NoSquare)
 mx_NoLevel:mg "NoLevel" = some (.ref a.x_NoLevel)
 mx_NoState:mg "NoState" = some (.ref a.x_NoState)
 mx_TooFar:mg "TooFar" = some (.ref a.x_TooFar)
 mx_TooMany:mg "TooMany" = some (.ref a.x_TooMany)
 ec_NoSquare:Ez K a.x_NoSquare
 ec_NoLevel:Ez K a.x_NoLevel
 ec_NoState:Ez K a.x_NoState
 ec_TooFar:Ez K a.x_TooFar
 ec_TooMany:Ez K a.x_TooMany
 ec_FieldError:Ez K a.x_FieldError
 ef_NoSquare:IT K a.x_NoSquare
 mr_NoSquare:PySem.W.mroIn K a.x_NoSquare (.ref a.x_FieldError)=some true
 kv_NoSquare:PySem.W.kitOne K (.ref a.x_NoSquare) (.type "ValueError")=some true
 ki_NoSquare_NoSquare:PySem.W.kitOne K (.ref a.x_NoSquare) (.ref a.x_NoSquare)=some true
 ki_NoSquare_NoLevel:PySem.W.kitOne K (.ref a.x_NoSquare) (.ref a.x_NoLevel)=some false
 ki_NoSquare_NoState:PySem.W.kitOne K (.ref a.x_NoSquare) (.ref a.x_NoState)=some false
 ki_NoSquare_TooFar:PySem.W.kitOne K (.ref a.x_NoSquare) (.ref a.x_TooFar)=some false
 ki_NoSquare_TooMany:PySem.W.kitOne K (.ref a.x_NoSquare) (.ref a.x_TooMany)=some false
 ef_NoLevel:IT K a.x_NoLevel
 mr_NoLevel:PySem.W.mroIn K a.x_NoLevel (.ref a.x_FieldError)=some true
 kv_NoLevel:PySem.W.kitOne K (.ref a.x_NoLevel) (.type "ValueError")=some true
 ki_NoLevel_NoSquare:PySem.W.kitOne K (.ref a.x_NoLevel) (.ref a.x_NoSquare)=some false
 ki_NoLevel_NoLevel:PySem.W.kitOne K (.ref a.x_NoLevel) (.ref a.x_NoLevel)=some true
 ki_NoLevel_NoState:PySem.W.kitOne K (.ref a.x_NoLevel) (.ref a.x_NoState)=some false
 ki_NoLevel_TooFar:PySem.W.kitOne K (.ref a.x_NoLevel) (.ref a.x_TooFar)=some false
 ki_NoLevel_TooMany:PySem.W.kitOne K (.ref a.x_NoLevel) (.ref a.x_TooMany)=some false
 ef_NoState:IT K a.x_NoState
 mr_NoState:PySem.W.mroIn K a.x_NoState (.ref a.x_FieldError)=some true
 kv_NoState:PySem.W.kitOne K (.ref a.x_NoState) (.type "ValueError")=some true
 ki_NoState_NoSquare:PySem.W.kitOne K (.ref a.x_NoState) (.ref a.x_NoSquare)=some false
 ki_NoState_NoLevel:PySem.W.kitOne K (.ref a.x_NoState) (.ref a.x_NoLevel)=some false
 ki_NoState_NoState:PySem.W.kitOne K (.ref a.x_NoState) (.ref a.x_NoState)=some true
 ki_NoState_TooFar:PySem.W.kitOne K (.ref a.x_NoState) (.ref a.x_TooFar)=some false
 ki_NoState_TooMany:PySem.W.kitOne K (.ref a.x_NoState) (.ref a.x_TooMany)=some false
 ef_TooFar:IT K a.x_TooFar
 mr_TooFar:PySem.W.mroIn K a.x_TooFar (.ref a.x_FieldError)=some true
 kv_TooFar:PySem.W.kitOne K (.ref a.x_TooFar) (.type "ValueError")=some true
 ki_TooFar_NoSquare:PySem.W.kitOne K (.ref a.x_TooFar) (.ref a.x_NoSquare)=some false
 ki_TooFar_NoLevel:PySem.W.kitOne K (.ref a.x_TooFar) (.ref a.x_NoLevel)=some false
 ki_TooFar_NoState:PySem.W.kitOne K (.ref a.x_TooFar) (.ref a.x_NoState)=some false
 ki_TooFar_TooFar:PySem.W.kitOne K (.ref a.x_TooFar) (.ref a.x_TooFar)=some true
 ki_TooFar_TooMany:PySem.W.kitOne K (.ref a.x_TooFar) (.ref a.x_TooMany)=some false
 ef_TooMany:IT K a.x_TooMany
 mr_TooMany:PySem.W.mroIn K a.x_TooMany (.ref a.x_FieldError)=some true
 kv_TooMany:PySem.W.kitOne K (.ref a.x_TooMany) (.type "ValueError")=some true
 ki_TooMany_NoSquare:PySem.W.kitOne K (.ref a.x_TooMany) (.ref a.x_NoSquare)=some false
 ki_TooMany_NoLevel:PySem.W.kitOne K (.ref a.x_TooMany) (.ref a.x_NoLevel)=some false
 ki_TooMany_NoState:PySem.W.kitOne K (.ref a.x_TooMany) (.ref a.x_NoState)=some false
 ki_TooMany_TooFar:PySem.W.kitOne K (.ref a.x_TooMany) (.ref a.x_TooFar)=some false
 ki_TooMany_TooMany:PySem.W.kitOne K (.ref a.x_TooMany) (.ref a.x_TooMany)=some true
end J
namespace J
open PySem L2
structure Sq where
 parts:List Int
 lev:Int
abbrev Gv:=List Sq
structure GA where
 p:Addr
 dx:Addr
 lv:Addr
 pt:Addr
 nm:Addr
 br:Addr
 am:Addr
 bx:Addr
def fl6 (g:GA):List (Str×V):=Cr "boxes" (.ref g.bx) (Cr "amounts" (.ref g.am) (Cr "bares" (.ref g.br) (Cr "numbers" (.ref g.nm) (Cr "parts" (.ref g.pt) (Cr "levels" (.ref g.lv) [])))))
theorem DU (g:GA):(fl6 g).lookup ("levels" : Str)=some (V.ref g.lv):=by
 unfold fl6;rw [Ao,if_neg (by decide +kernel),Ao,if_neg (by decide +kernel),Ao,if_neg (by decide +kernel),Ao,if_neg (by decide +kernel),Ao,if_neg (by decide +kernel),Ao,if_pos rfl]
theorem EM (g:GA):(fl6 g).lookup ("parts" : Str)=some (V.ref g.pt):=by
 unfold fl6;rw [Ao,if_neg (by decide +kernel),Ao,if_neg (by decide +kernel),Ao,if_neg (by decide +kernel),Ao,if_neg (by decide +kernel),Ao,if_pos rfl]
theorem QT (g:GA):(fl6 g).lookup ("numbers" : Str)=some (V.ref g.nm):=by
 unfold fl6;rw [Ao,if_neg (by decide +kernel),Ao,if_neg (by decide +kernel),Ao,if_neg (by decide +kernel),Ao,if_pos rfl]
theorem Go (g:GA):(fl6 g).lookup ("bares" : Str)=some (V.ref g.br):=by
 unfold fl6;rw [Ao,if_neg (by decide +kernel),Ao,if_neg (by decide +kernel),Ao,if_pos rfl]
theorem Nr (g:GA):(fl6 g).lookup ("amounts" : Str)=some (V.ref g.am):=by
 unfold fl6;rw [Ao,if_neg (by decide +kernel),Ao,if_pos rfl]
theorem EN (g:GA) {m:Str} (h1:¬ m=("boxes" : Str)) (h2:¬ m=("amounts" : Str)) (h3:¬ m=("bares" : Str)) (h4:¬ m=("numbers" : Str)) (h5:¬ m=("parts" : Str)) (h6:¬ m=("levels" : Str)):(fl6 g).lookup m=none:=by
 unfold fl6;rw [Ao,if_neg h1,Ao,if_neg h2,Ao,if_neg h3,Ao,if_neg h4,Ao,if_neg h5,Ao,if_neg h6];rfl
theorem JZ (g:GA):(fl6 g).lookup ("kept" : Str)=none:=EN g (by decide +kernel) (by decide +kernel) (by decide +kernel) (by decide +kernel) (by decide +kernel) (by decide +kernel)
theorem Dd (g:GA):(fl6 g).lookup ("linked" : Str)=none:=EN g (by decide +kernel) (by decide +kernel) (by decide +kernel) (by decide +kernel) (by decide +kernel) (by decide +kernel)
theorem Iu (g:GA):(fl6 g).lookup ("check_square" : Str)=none:=EN g (by decide +kernel) (by decide +kernel) (by decide +kernel) (by decide +kernel) (by decide +kernel) (by decide +kernel)
theorem JY (g:GA):(fl6 g).lookup ("leaf" : Str)=none:=EN g (by decide +kernel) (by decide +kernel) (by decide +kernel) (by decide +kernel) (by decide +kernel) (by decide +kernel)
theorem Dz (g:GA):(fl6 g).lookup ("level_of" : Str)=none:=EN g (by decide +kernel) (by decide +kernel) (by decide +kernel) (by decide +kernel) (by decide +kernel) (by decide +kernel)
theorem Iq (g:GA):(fl6 g).lookup ("solid" : Str)=none:=EN g (by decide +kernel) (by decide +kernel) (by decide +kernel) (by decide +kernel) (by decide +kernel) (by decide +kernel)
theorem MS (g:GA):(fl6 g).lookup ("state_of" : Str)=none:=EN g (by decide +kernel) (by decide +kernel) (by decide +kernel) (by decide +kernel) (by decide +kernel) (by decide +kernel)
def kOf (ps:List Int):List Key:=ps.map Sum.inl
theorem kOf_v (ps:List Int):(kOf ps).map kV=ps.map V.int:=by unfold kOf; rw [List.map_map]; rfl
theorem Od:∀ {ps qs:List Int},kOf ps=kOf qs->ps=qs
 | [],[],_=>rfl
 | [],_ :: _,h=>by cases h
 | _ :: _,[],h=>by cases h
 | x :: r,y :: t,h=>by
  have h:Sum.inl x :: kOf r=(Sum.inl y:Key) :: kOf t:=h;injection h with h1 h2
  injection h1 with h1
  rw [h1,Od h2]
def Fc:Nat->Gv->List (List Key×V)
 | _,[]=>[]
 | n,q :: r=>(kOf q.parts,.int (n:Int)) :: Fc (n+1) r
theorem Mc:∀ (G:Gv) (n:Nat),(Fc n G).length=G.length
 | [],_=>rfl
 | q :: r,n=>by show (Fc (n+1) r).length+1=r.length+1; rw [Mc r]
theorem Jr (q:Sq):∀ (G:Gv) (n:Nat),Fc n (G ++ [q])=Fc n G ++ [(kOf q.parts,.int ((n+G.length:Nat):Int))]
 | [],_=>rfl
 | p :: r,n=>by
  show (kOf p.parts,V.int (n:Int)) :: Fc (n+1) (r ++ [q])=_;rw [Jr q r (n+1)];show _=(kOf p.parts,V.int (n:Int)) :: (Fc (n+1) r ++ [(kOf q.parts,V.int ((n+(r.length+1):Nat):Int))]);rw [show n+1+r.length=n+(r.length+1) by lia]
theorem Li (ps:List Int):∀ (G:Gv) (n:Nat),(∃ (i:Nat) (q:Sq),G[i]?=some q/\q.parts=ps/\Cv (Fc n G) (kOf ps)=some (.int ((n+i:Nat):Int)))\/(Cv (Fc n G) (kOf ps)=none/\∀ q ∈ G,q.parts≠ps)
 | [],n=>.inr ⟨rfl,fun q hq=>by simp at hq⟩
 | p :: r,n=>by
  by_cases e:p.parts=ps
  ·exact .inl ⟨0,p,rfl,e,BQ (by rw [e])⟩
  ·have ne:¬ (kOf p.parts,V.int (n:Int)).1=kOf ps:=fun z=>e (Od z);rcases Li ps r (n+1) with ⟨i,q,h1,h2,h3⟩ | ⟨h1,h2⟩
   ·refine .inl ⟨i+1,q,h1,h2,?_⟩;show Cv ((kOf p.parts,V.int (n:Int)) :: Fc (n+1) r) (kOf ps)=_;rw [Bm ne,h3,show n+1+i=n+(i+1) by lia]
   ·refine .inr ⟨?_,fun q hq=>?_⟩
    ·show Cv ((kOf p.parts,V.int (n:Int)) :: Fc (n+1) r) (kOf ps)=_;rw [Bm ne,h1]
    ·rcases List.mem_cons.mp hq with rfl | hq
     ·exact e
     ·exact h2 q hq
def TupAt (H:Hp) (t:Addr) (q:Sq):Prop:=H t=some (.tup (q.parts.map V.int))
structure AD (a:Ad) (H:Hp) (g:GA) (G:Gv):Prop where
 hp:H g.p=some (.ins a.c_Grove g.dx (fl6 g))
 lv:H g.lv=some (.lst (G.map fun q=>.int q.lev))
 pt:∃ ts:List Addr,H g.pt=some (.lst (ts.map V.ref))/\Paired (TupAt H) ts G
 nm:H g.nm=some (.dT (Fc 0 G))
 ne:g.lv≠g.pt
def Fr (g:GA) (H H':Hp):Prop:=∀ b o,H b=some o->b≠g.lv->b≠g.pt->b≠g.nm->H' b=some o
theorem Fr.refl (g:GA) (H:Hp):Fr g H H:=fun _ _ e _ _ _=>e
theorem Fr.trans {g:GA} {H1 H2 H3:Hp} (h:Fr g H1 H2) (h2:Fr g H2 H3):Fr g H1 H3:=fun b o e n1 n2 n3=>h2 b o (h b o e n1 n2 n3) n1 n2 n3
theorem Az.fr {g:GA} {H1 H2:Hp} (h:Az H1 H2):Fr g H1 H2:=fun b o e _ _ _=>h b o e
theorem PairedM.imp {α β:Type} {F G:α->β->Prop} (h:∀ x y,F x y->G x y):∀ {l:List α} {m:List β},Paired F l m->Paired G l m
 | _,_,.nil=>.nil
 | _,_,.cons r t=>.cons (h _ _ r) (PairedM.imp h t)
theorem PairedM.get {α β:Type} {F:α->β->Prop}:∀ {l:List α} {m:List β} {i:Nat} {y:β},Paired F l m->m[i]?=some y->∃ x,l[i]?=some x/\F x y
 | _,_,_,_,.nil,e=>by simp at e
 | _,_,0,_,.cons r _,e=>by simp at e; subst e; exact ⟨_,rfl,r⟩
 | _,_,i+1,y,.cons _ t,e=>by
  obtain ⟨x,h1,h2⟩:=PairedM.get (i:=i) (y:=y) t (by simpa using e);exact ⟨x,by simpa using h1,h2⟩
theorem same_up {H:Hp} {p:Addr} {o:HO} (h:H p=none):Az H (upd H p o):=fun b u e=>by
 rw [Ak (An e h)];exact e
theorem AD.same {a:Ad} {H H':Hp} {g:GA} {G:Gv} (s:Az H H') (h:AD a H g G):AD a H' g G:=by
 obtain ⟨h1,h2,⟨ts,h3,h4⟩,h5,h6⟩:=h;exact ⟨s _ _ h1,s _ _ h2,⟨ts,s _ _ h3,PairedM.imp (fun t q z=>s _ _ z) h4⟩,s _ _ h5,h6⟩
theorem AD.put {a:Ad} {H:Hp} {g:GA} {G:Gv} {l:Addr} {xs:List V} {o:HO} (hl:H l=some (.lst xs)) (n1:l≠g.lv) (n2:l≠g.pt) (h:AD a H g G):AD a (upd H l o) g G:=by
 obtain ⟨h1,h2,⟨ts,h3,h4⟩,h5,h6⟩:=h;have other:∀ {b v},H b=some v->v≠.lst xs->upd H l o b=some v:=fun {b v} e n=>by rw [Ak (Bb e hl n)]; exact e
 exact ⟨other h1 (by intro z; cases z),by rw [Ak (Ne.symm n1)]; exact h2,⟨ts,by rw [Ak (Ne.symm n2)]; exact h3,PairedM.imp (fun t q z=>other z (by intro z; cases z)) h4⟩,other h5 (by intro z; cases z),h6⟩
def Aj (G:Gv) (x:Nat) (l:Int):Prop:=∃ q,G[x]?=some q/\q.lev=l
structure GOk (G:Gv):Prop where
 leaf:∀ s:Nat,s < 8->G[s]?=some ⟨[(s:Int)],0⟩
 node:∀ (i:Nat) q,G[i]?=some q->8<=i->∃ x y z w:Nat,q.parts=[(x:Int),(y:Int),(z:Int),(w:Int)]/\(Aj G x (q.lev - 1)/\Aj G y (q.lev - 1)/\Aj G z (q.lev - 1)/\Aj G w (q.lev - 1))/\1<=q.lev/\q.lev<=48
 nd:(G.map Sq.parts).Nodup
theorem Aj.lt {G:Gv} {x:Nat} {l:Int} (h:Aj G x l):x < G.length:=by
 obtain ⟨q,h,_⟩:=h;exact (List.getElem?_eq_some_iff.mp h).1
theorem Ib {G r:Gv} {x:Nat} {q:Sq} (h:G[x]?=some q):(G ++ r)[x]?=some q:=by
 rw [List.getElem?_append_left (List.getElem?_eq_some_iff.mp h).1];exact h
theorem Aj.app {G r:Gv} {x:Nat} {l:Int} (h:Aj G x l):Aj (G ++ r) x l:=by
 obtain ⟨q,h,e⟩:=h;exact ⟨q,Ib h,e⟩
theorem GOk.lev {G:Gv} (h:GOk G) {i:Nat} {q:Sq} (e:G[i]?=some q):0<=q.lev/\q.lev<=48:=by
 by_cases h8:i < 8
 ·rw [h.leaf i h8] at e;cases e;exact ⟨Int.le_refl 0,by show (0:Int)<=48; decide⟩
 ·obtain ⟨x,y,z,w,_,_,h1,h2⟩:=h.node i q e (by lia);exact ⟨by lia,h2⟩
theorem GOk.snoc {G:Gv} (h:GOk G) {x y z w:Nat} {l:Int} (hx:Aj G x l) (hy:Aj G y l) (hz:Aj G z l) (hw:Aj G w l) (h47:l<=47) (new:∀ q ∈ G,q.parts≠[(x:Int),(y:Int),(z:Int),(w:Int)]):GOk (G ++ [⟨[(x:Int),(y:Int),(z:Int),(w:Int)],l+1⟩]) where
 leaf:=fun s hs=>Ib (h.leaf s hs)
 node:=fun i q e hi=>by
  by_cases hl:i < G.length
  ·rw [List.getElem?_append_left hl] at e;obtain ⟨x,y,z,w,h1,⟨a1,a2,a3,a4⟩,h3⟩:=h.node i q e hi;exact ⟨x,y,z,w,h1,⟨a1.app,a2.app,a3.app,a4.app⟩,h3⟩
  ·rw [List.getElem?_append_right (by lia)] at e;have:i - G.length=0:=by
    by_cases z:i - G.length=0
    ·exact z
    ·rw [List.getElem?_eq_none (by rw [List.length_singleton]; lia)] at e; cases e
   rw [this] at e;cases e;obtain ⟨q0,e0,l0⟩:=hx;have:=(h.lev e0).1;have el:l+1 - 1=l:=by lia
   refine ⟨x,y,z,w,rfl,?_,?_,?_⟩
   ·show Aj _ x (l+1 - 1)/\Aj _ y (l+1 - 1)/\Aj _ z (l+1 - 1)/\Aj _ w (l+1 - 1);rw [el];exact ⟨Aj.app ⟨q0,e0,l0⟩,hy.app,hz.app,hw.app⟩
   ·show 1<=l+1; lia
   ·show l+1<=48; lia
 nd:=by
  rw [List.map_append,List.nodup_append];refine ⟨h.nd,by simp,fun p hp p' hp'=>?_⟩;obtain ⟨q,hq,rfl⟩:=List.mem_map.mp hp;rw [show p'=[(x:Int),(y:Int),(z:Int),(w:Int)] by simpa using hp'];exact new q hq
theorem GOk.one {G:Gv} (h:GOk G) {i j:Nat} {p q:Sq} (hi:G[i]?=some p) (hj:G[j]?=some q) (e:p.parts=q.parts):i=j:=by
 have li:=(List.getElem?_eq_some_iff.mp hi).1;have lj:=(List.getElem?_eq_some_iff.mp hj).1;have h1:(G.map Sq.parts)[i]'(by rw [List.length_map]; exact li)=(G.map Sq.parts)[j]'(by rw [List.length_map]; exact lj):=by
  rw [List.getElem_map,List.getElem_map,(List.getElem?_eq_some_iff.mp hi).2,(List.getElem?_eq_some_iff.mp hj).2,e]
 exact (List.getElem_inj h.nd).mp h1
end J
namespace J
open PySem L2
seal L2.PA L2.PE L2.PS L2.PSs L2.PT L2.PW
theorem Eg {n:Nat} (h:n < 10000000):n < sizeLine:=Nat.lt_of_lt_of_le h (by decide)
theorem Oa (K:PySem.W.Frag):PySem.W.kitOne K (.type "int") (.type "int")=some true/\PySem.W.kitOne K (.type "int") (.type "bool")=some false:=⟨by kernel_rfl,by kernel_rfl⟩
section
variable {P:Program} {w:World} {K:PySem.W.Frag} {mg:Str->Option Value} {base:Heap} {a:Ad}
inductive SpIW (vs:List V) (H:Hp) (Q:VK):Prop
 | mk (i:Int) (_:vs=[.int i]) (_:Q (.bl true) H):SpIW vs H Q
def PN:Sp:=fun vs H Q _=>SpIW vs H Q
theorem ok_iw {f:Addr} {fd:FuncData} (F:Fun K "is_whole" "is_whole" CT f fd) (T:Top K mg a):AW P w K mg base CX0 1 f fd BB PN:=by
 refine F.ok GE (fun vs H Q E h=>?_) (fun cdv A outer s H vs Q E hr h=>?_)
 ·obtain ⟨i,rfl,_⟩:=h;rfl
 ·obtain ⟨i,rfl,k⟩:=h;exact ⟨_,(Ag (Aq (EG (AJ DV rfl T.b_isinstance PyProof.Rows.boot_isinstance (Aa (pv 0) (Aa (EF (v:=.ty "int") rfl T.b_int PyProof.Rows.boot_int rfl) Ab))) (FF (Qi (AJ DV rfl T.b_isinstance PyProof.Rows.boot_isinstance (Aa (pv 0) (Aa (EF (v:=.ty "bool") rfl T.b_bool PyProof.Rows.boot_bool rfl) Ab)))))))),(xq1 rfl ⟨_,_,_,.type "int",true,rfl,rfl,.of (.int i),(Oa K).1,true,rfl,Cw (xq1 rfl ⟨_,_,_,.type "int",false,rfl,rfl,.of (.int i),(Oa K).2,false,rfl,k⟩)⟩)⟩
inductive SpIS (vs:List V) (H:Hp) (Q:VK):Prop
 | mk (i:Int) (_:vs=[.int i]) (_:0<=i) (_:i < 8) (_:Q (.bl true) H):SpIS vs H Q
def spIS:Sp:=fun vs H Q _=>SpIS vs H Q
theorem ok_is {f:Addr} {fd:FuncData} (F:Fun K "is_state" "is_state" CU f fd) (T:Top K mg a) (aC:Cal P w K mg base CX0 1 "is_whole" BB PN):AW P w K mg base CX0 2 f fd Cc spIS:=by
 refine F.ok GF (fun vs H Q E h=>?_) (fun cdv A outer s H vs Q E hr h=>?_)
 ·obtain ⟨i,rfl,_⟩:=h;rfl
 ·obtain ⟨i,rfl,h0,h1,k⟩:=h;refine ⟨_,(Ag (Aq (EG (Am aC (rm hr) rfl Al (Aa (pv 0) Ab)) (FF (LT Fu FQ Af (pv 0) (Bg rfl T.k_STATES)))))),?_⟩
  try dsimp only [cxK]
  refine xq1 rfl ⟨i,rfl,true,rfl,Cw (xwb rfl rfl rfl (xq1 rfl ?_))⟩;rw [decide_eq_true h0];refine Cw (xq2 rfl rfl ?_);show Q (.bl (decide (i < 8))) H;rw [decide_eq_true h1];exact k
inductive Rj (a:Ad) (vs:List V) (H:Hp) (Q:VK):Prop
 | mk (g:GA) (G:Gv) (t:Addr) (ps:List Int) (l:Int) (_:vs=[.ref g.p,.ref t,.int l]) (_:AD a H g G) (_:H t=some (.tup (ps.map V.int))) (_:(∀ q ∈ G,q.parts≠ps)) (_:G.length < 9000000) (_:∀ H',Fr g H H'->AD a H' g (G ++ [⟨ps,l⟩])->Q (.int (G.length:Int)) H'):Rj a vs H Q
def JL (a:Ad):Sp:=fun vs H Q _=>Rj a vs H Q
theorem ok_kept {f:Addr} {fd:FuncData} (F:Fun K "kept" "Grove.kept" CH f fd) (T:Top K mg a):AW P w K mg base CX0 1 f fd CK (JL a):=by
 refine F.ok Fs (fun vs H Q E h=>?_) (fun cdv A outer s H vs Q E hr h=>?_)
 ·obtain ⟨g,G,t,ps,l,rfl,_⟩:=h;rfl
 ·obtain ⟨g,G,t,ps,l,rfl,hg,ht,new,few,k⟩:=h;obtain ⟨h1,h2,⟨ts,h3,h4⟩,h5,h6⟩:=hg;have lt:ts.length=G.length:=Paired.length h4;refine ⟨_,(Ac (Ar (i:=3) Fs.nd rfl (Or.inl rfl) (AJ Cg rfl T.b_len PySem.boot_len (Aa (AL (pv 0) rfl) Ab))) (Ac (JR (Mi hr) (AL (pv 0) rfl) (pv 1) (pv 3) rfl) (Ac (Cu (Jo PySem.F.plainAttrs_list PySem.F.slot_list_append PySem.F.type_list_append Et (AL (pv 0) rfl) (Aa (pv 2) Ab))) (Ac (Cu (Jo PySem.F.plainAttrs_list PySem.F.slot_list_append PySem.F.type_list_append Et (AL (pv 0) rfl) (Aa (pv 1) Ab))) (Ag (Aq (pv 3))))))),?_⟩
  try dsimp only [cxK]
  refine xwf rfl rfl h1 T.cl_Grove T.na_Grove_levels (DU g) ⟨g.lv,(xq1 rfl ⟨.inl (SqL.of h2),?_⟩)⟩;rw [List.length_map];have ne1:g.p≠g.nm:=Bb h1 h5 (by intro z; cases z);have ne2:g.lv≠g.nm:=Bb h2 h5 (by intro z; cases z);have ne3:g.pt≠g.nm:=Bb h3 h5 (by intro z; cases z);have ne4:g.p≠g.lv:=Bb h1 h2 (by intro z; cases z);have ne5:g.p≠g.pt:=Bb h1 h3 (by intro z; cases z);have vn:Cv (Fc 0 G) (kOf ps)=none:=by
   rcases Li ps G 0 with ⟨i,q,e1,e2,_⟩ | ⟨e,_⟩
   ·exact absurd e2 (new q (List.mem_of_getElem? e1))
   ·exact e
  refine xw2 rfl rfl (xq5 h1 T.cl_Grove T.na_Grove_numbers (QT g) (xq1 rfl ⟨g.nm,(xq1 rfl ⟨Lr.t (k:=kOf ps) h5 (by rw [kOf_v]; exact ht) (by rw [Mc]; exact Eg (by lia)),?_⟩)⟩));rw [LO _ vn];have e5:Fc 0 G ++ [(kOf ps,V.int (G.length:Int))]=Fc 0 (G ++ [⟨ps,l⟩]):=by rw [Jr,Nat.zero_add]
  rw [e5];generalize hH1:upd H g.nm (.dT (Fc 0 (G ++ [⟨ps,l⟩])))=H1;have k1:∀ b o,H b=some o->b≠g.nm->H1 b=some o:=fun b o e n=>by rw [<-hH1,Ak n]; exact e
  have n1:H1 g.nm=some (.dT (Fc 0 (G ++ [⟨ps,l⟩]))):=by rw [<-hH1]; exact Ah
  refine xwf rfl rfl (k1 _ _ h1 ne1) T.cl_Grove T.na_Grove_levels (DU g) ⟨.inl ⟨rfl,_,SqL.of (k1 _ _ h2 ne2)⟩,(xq1 rfl ⟨g.lv,(xq2 rfl rfl ⟨k1 _ _ h2 ne2,by rw [List.length_map]; exact Eg (by lia),?_⟩)⟩)⟩;generalize hH2:upd H1 g.lv (.lst ((G.map fun q=>V.int q.lev) ++ [.int l]))=H2;have k2:∀ b o,H1 b=some o->b≠g.lv->H2 b=some o:=fun b o e n=>by rw [<-hH2,Ak n]; exact e
  have n2:H2 g.lv=some (.lst ((G ++ [(⟨ps,l⟩:Sq)]).map fun q=>V.int q.lev)):=by rw [<-hH2,Ah,List.map_append]; rfl
  have h3':=k2 _ _ (k1 _ _ h3 ne3) (Ne.symm h6);refine xwf rfl rfl (k2 _ _ (k1 _ _ h1 ne1) ne4) T.cl_Grove T.na_Grove_parts (EM g) ⟨.inl ⟨rfl,_,SqL.of h3'⟩,(xq1 rfl ⟨g.pt,(xq2 rfl rfl ⟨h3',by rw [List.length_map,lt]; exact Eg (by lia),?_⟩)⟩)⟩;generalize hH3:upd H2 g.pt (.lst (ts.map V.ref ++ [.ref t]))=H3;have k3:∀ b o,H2 b=some o->b≠g.pt->H3 b=some o:=fun b o e n=>by rw [<-hH3,Ak n]; exact e
  have n3:H3 g.pt=some (.lst ((ts ++ [t]).map V.ref)):=by rw [<-hH3,Ah,List.map_append]; rfl
  have fr:Fr g H H3:=fun b o e m1 m2 m3=>k3 _ _ (k2 _ _ (k1 _ _ e m3) m1) m2;have tp:∀ (c:Addr) (xs:List V),H c=some (.tup xs)->H3 c=some (.tup xs):=fun c xs e=>fr _ _ e (Bb e h2 (by intro z; cases z)) (Bb e h3 (by intro z; cases z)) (Bb e h5 (by intro z; cases z));refine xq1 rfl (k H3 fr ⟨fr _ _ h1 ne4 ne5 ne1,k3 _ _ n2 h6,⟨ts ++ [t],n3,Paired.snoc (PairedM.imp (fun c q z=>tp c _ z) h4) (tp t _ ht)⟩,k3 _ _ (k2 _ _ n1 (Ne.symm ne2)) (Ne.symm ne3),h6⟩)
structure AN (G G':Gv) (n:Nat):Prop where
 ok:GOk G'
 pre:∃ r,G'=G ++ r
 few:G'.length<=G.length+n
theorem AN.refl {G:Gv} (h:GOk G):AN G G 0:=⟨h,⟨[],by simp⟩,Nat.le_refl _⟩
theorem AN.trans {G G' G'':Gv} {n m:Nat} (h:AN G G' n) (h2:AN G' G'' m):AN G G'' (n+m):=by
 obtain ⟨r,e⟩:=h.pre;obtain ⟨t,e2⟩:=h2.pre;have f1:=h.few;have f2:=h2.few;exact ⟨h2.ok,⟨r ++ t,by rw [e2,e,List.append_assoc]⟩,by lia⟩
theorem AN.get {G G':Gv} {n x:Nat} {q:Sq} (h:AN G G' n) (e:G[x]?=some q):G'[x]?=some q:=by
 obtain ⟨r,e2⟩:=h.pre;rw [e2];exact Ib e
theorem AN.lev {G G':Gv} {n x:Nat} {l:Int} (h:AN G G' n) (e:Aj G x l):Aj G' x l:=by
 obtain ⟨q,e,z⟩:=e;exact ⟨q,h.get e,z⟩
inductive Rg (a:Ad) (vs:List V) (H:Hp) (Q:VK):Prop
 | mk (g:GA) (G:Gv) (t:Addr) (x y z w:Nat) (l:Int) (_:vs=[.ref g.p,.ref t]) (_:AD a H g G) (_:GOk G) (_:H t=some (.tup [.int x,.int y,.int z,.int w])) (_:(Aj G x l/\Aj G y l/\Aj G z l/\Aj G w l)) (_:l<=47) (_:G.length < 9000000) (_:∀ (n:Nat) (G':Gv) (H':Hp),Fr g H H'->AD a H' g G'->AN G G' 1->G'[n]?=some ⟨[(x:Int),(y:Int),(z:Int),(w:Int)],l+1⟩->Q (.int n) H'):Rg a vs H Q
def FC (a:Ad):Sp:=fun vs H Q _=>Rg a vs H Q
theorem ok_link {f:Addr} {fd:FuncData} (F:Fun K "linked" "Grove.linked" BU f fd) (T:Top K mg a) (aP:Ch P w K mg base CX0 1 a.c_Grove "kept" CK (JL a)):AW P w K mg base CX0 2 f fd AZ (FC a):=by
 refine F.ok ET (fun vs H Q E h=>?_) (fun cdv A outer s H vs Q E hr h=>?_)
 ·obtain ⟨g,G,t,x,y,z,w,l,rfl,_⟩:=h;rfl
 ·obtain ⟨g,G,t,x,y,z,w,l,rfl,hg,ok,ht,⟨hx,hy,hz,hw⟩,h47,few,k⟩:=h;have hg0:=hg;obtain ⟨h1,h2,⟨ts,h3,h4⟩,h5,h6⟩:=hg;refine ⟨_,(Ac (Ar (i:=2) ET.nd rfl (Or.inl rfl) (LS (Mi hr) (AL (pv 0) rfl) (pv 1) ⟨rfl,rfl,rfl,rfl⟩)) (Ac (AO (AB Qp (pv 2) JT (AE _)) (Ag (Aq (Ay (pv 0) aP (rm hr) Al (Aa (pv 1) (Bh Bo (Aw AF (AL (pv 0) rfl) (Aw AQ (pv 1) Af (fun _ _=>rfl)) (fun _ _=>rfl)) Af Ab))))) At) (Ag (Aq (pv 2))))),?_⟩
  try dsimp only [cxK]
  refine xwf rfl rfl h1 T.cl_Grove T.na_Grove_numbers (QT g) ⟨g.nm,rfl,.inr ⟨_,.inl h5⟩,(xq1 rfl ⟨_,MD.t (k:=kOf [(x:Int),(y:Int),(z:Int),(w:Int)]) h5 (by rw [kOf_v]; exact ht),?_⟩)⟩;rcases Li [(x:Int),(y:Int),(z:Int),(w:Int)] G 0 with ⟨i,q,e1,e2,e3⟩ | ⟨e,new⟩
  ·rw [e3];refine xq1 rfl ⟨rfl,(xq1 rfl (Bv (xq1 rfl ?_)))⟩;rw [Nat.zero_add];refine k i G H (Fr.refl g H) hg0 ⟨ok,⟨[],by simp⟩,by lia⟩ ?_;have h8:8<=i:=by
    refine Nat.le_of_not_lt fun z'=>?_;rw [ok.leaf i z'] at e1;cases e1;cases e2
   obtain ⟨x',y',z',w',p1,⟨lx,_⟩,_⟩:=ok.node i q e1 h8;have exx:x'=x:=by
    rw [p1] at e2;injection e2 with e2 _
    exact Int.ofNat.inj e2
   rw [exx] at lx;obtain ⟨qa,a1,a2⟩:=lx;obtain ⟨qb,b1,b2⟩:=hx;rw [a1] at b1;cases b1;have el:q.lev=l+1:=by lia
   rw [e1];cases q with
   | mk pp ll=>cases e2; cases el; rfl
  ·rw [e];refine xq1 rfl ⟨rfl,(xq1 rfl (Cw ?_))⟩;obtain ⟨q,e1,e2⟩:=id hx;refine xwn rfl rfl h1 (JZ g) rfl (xwf rfl rfl h1 T.cl_Grove T.na_Grove_levels (DU g) (xwi rfl rfl rfl (SqT.of ht) (Ai (j:=0) rfl) (xq4 rfl rfl (SqL.of h2) (Ai (by rw [List.getElem?_map,e1]; rfl)) (xq2 rfl rfl ?_))));refine ⟨g,G,t,[(x:Int),(y:Int),(z:Int),(w:Int)],l+1,by rw [<-e2]; rfl,hg0,ht,new,few,fun H' fr hg'=>?_⟩;refine k G.length _ H' fr hg' ⟨ok.snoc hx hy hz hw h47 new,⟨_,rfl⟩,by rw [List.length_append]; exact Nat.le_refl _⟩ ?_;rw [List.getElem?_append_right (Nat.le_refl _),Nat.sub_self];rfl
inductive SpChk (a:Ad) (vs:List V) (H:Hp) (Q:VK):Prop
 | mk (g:GA) (G:Gv) (i:Nat) (_:vs=[.ref g.p,.int i]) (_:AD a H g G) (_:i < G.length) (_:Q .non H):SpChk a vs H Q
def NP (a:Ad):Sp:=fun vs H Q _=>SpChk a vs H Q
theorem ok_chk {f:Addr} {fd:FuncData} (F:Fun K "check_square" "Grove.check_square" AK f fd) (T:Top K mg a) (aC:Cal P w K mg base CX0 1 "is_whole" BB PN):AW P w K mg base CX0 2 f fd AC (NP a):=by
 refine F.ok Dl (fun vs H Q E h=>?_) (fun cdv A outer s H vs Q E hr h=>?_)
 ·obtain ⟨g,G,i,rfl,_⟩:=h;rfl
 ·obtain ⟨g,G,i,rfl,hg,hi,k⟩:=h;refine ⟨_,(Ag (AO (PW.pt (FN (BM (BV (Am aC (rm hr) rfl Al (Aa (pv 1) Ab)))) (EC (BM (Ik Fu FQ Af (pv 1) (AJ Cg rfl T.b_len PySem.boot_len (Aa (AL (pv 0) rfl) Ab))))))) (Ag Dh) At)),?_⟩
  try dsimp only [cxK]
  refine ⟨_,rfl,_,rfl,true,rfl,Bv ⟨_,rfl,_,_,rfl,rfl,_,rfl,?_⟩⟩;rw [decide_eq_true (by lia:(0:Int)<=(i:Int))];refine Cw (xwf rfl rfl hg.hp T.cl_Grove T.na_Grove_levels (DU g) ⟨g.lv,(xq1 rfl ⟨.inl (SqL.of hg.lv),(xq2 rfl rfl (xq1 rfl ?_))⟩)⟩);rw [List.length_map,decide_eq_true (by lia:(i:Int) < (G.length:Int))];exact Bv k
inductive Rh (a:Ad) (vs:List V) (H:Hp) (Q:VK):Prop
 | mk (p:Addr) (i:Int) (_:vs=[.ref p,.int i]) (_:0<=i) (_:i < 8) (_:Q (.int i) H):Rh a vs H Q
def Ih (a:Ad):Sp:=fun vs H Q _=>Rh a vs H Q
theorem ok_leaf {f:Addr} {fd:FuncData} (F:Fun K "leaf" "Grove.leaf" CG f fd) (T:Top K mg a) (aN:Cal P w K mg base CX0 2 "is_state" Cc spIS):AW P w K mg base CX0 3 f fd Ce (Ih a):=by
 refine F.ok IV (fun vs H Q E h=>?_) (fun cdv A outer s H vs Q E hr h=>?_)
 ·obtain ⟨g,i,rfl,_⟩:=h;rfl
 ·obtain ⟨g,i,rfl,h0,h1,k⟩:=h;exact ⟨_,(Ac (AO (BM (BV (Am aN (rm hr) rfl Al (Aa (pv 1) Ab)))) (Ag Dh) At) (Ag (Aq (pv 1)))),(xq1 rfl ⟨i,rfl,h0,h1,true,rfl,Bv (xq1 rfl k)⟩)⟩
inductive SpLev (a:Ad) (vs:List V) (H:Hp) (Q:VK):Prop
 | mk (g:GA) (G:Gv) (i:Nat) (q:Sq) (_:vs=[.ref g.p,.int i]) (_:AD a H g G) (_:G[i]?=some q) (_:Q (.int q.lev) H):SpLev a vs H Q
def Jl (a:Ad):Sp:=fun vs H Q _=>SpLev a vs H Q
theorem ok_lev {f:Addr} {fd:FuncData} (F:Fun K "level_of" "Grove.level_of" Ba f fd) (T:Top K mg a) (aF:Ch P w K mg base CX0 2 a.c_Grove "check_square" AC (NP a)):AW P w K mg base CX0 3 f fd AA (Jl a):=by
 refine F.ok DZ (fun vs H Q E h=>?_) (fun cdv A outer s H vs Q E hr h=>?_)
 ·obtain ⟨g,G,i,q,rfl,_⟩:=h;rfl
 ·obtain ⟨g,G,i,q,rfl,hg,hi,k⟩:=h;refine ⟨_,(Ac (Cu (Ay (pv 0) aF (rm hr) Al (Aa (pv 1) Ab))) (Ag (Aq (Aw AF (AL (pv 0) rfl) (pv 1) (fun _ _=>rfl))))),?_⟩
  try dsimp only [cxK]
  refine xwn rfl rfl hg.hp (Iu g) rfl ⟨g,G,i,rfl,hg,(List.getElem?_eq_some_iff.mp hi).1,?_⟩;exact xwf rfl rfl hg.hp T.cl_Grove T.na_Grove_levels (DU g) (xwi rfl rfl rfl (SqL.of hg.lv) (Ai (by rw [List.getElem?_map,hi]; rfl)) k)
inductive SpSta (a:Ad) (vs:List V) (H:Hp) (Q:VK):Prop
 | mk (g:GA) (G:Gv) (i:Nat) (q:Sq) (_:vs=[.ref g.p,.int i]) (_:AD a H g G) (_:G[i]?=some q) (_:q.lev=0) (_:Q (.int i) H):SpSta a vs H Q
def PH (a:Ad):Sp:=fun vs H Q _=>SpSta a vs H Q
theorem ok_sta {f:Addr} {fd:FuncData} (F:Fun K "state_of" "Grove.state_of" Bs f fd) (T:Top K mg a) (aB:Ch P w K mg base CX0 3 a.c_Grove "level_of" AA (Jl a)):AW P w K mg base CX0 4 f fd BY (PH a):=by
 refine F.ok FL (fun vs H Q E h=>?_) (fun cdv A outer s H vs Q E hr h=>?_)
 ·obtain ⟨g,G,i,q,rfl,_⟩:=h;rfl
 ·obtain ⟨g,G,i,q,rfl,hg,hi,h0,k⟩:=h;refine ⟨_,(Ac (AO (AB GI (Ay (pv 0) aB (rm hr) Al (Aa (pv 1) Ab)) Af (AE _)) (Ag Dh) At) (Ag (Aq (pv 1)))),?_⟩
  try dsimp only [cxK]
  refine xwn rfl rfl hg.hp (Dz g) rfl ⟨g,G,i,q,rfl,hg,hi,rfl,(xq1 rfl ?_)⟩;rw [h0];exact Mg rfl (xq1 rfl k)
end
end J
namespace J
open PySem L2
seal L2.PA L2.PE L2.PS L2.PSs L2.PT L2.PW
def Sol (G:Gv) (s:Nat):Nat->Nat->Prop
 | 0,n=>n=s
 | l+1,n=>∃ m:Nat,Sol G s l m/\G[n]?=some ⟨[(m:Int),(m:Int),(m:Int),(m:Int)],(l:Int)+1⟩
theorem Sol.lev {G:Gv} (h:GOk G) {s:Nat} (hs:s < 8):∀ {l n:Nat},Sol G s l n->Aj G n l
 | 0,n,e=>by
  have e:n=s:=e;subst e;exact ⟨_,h.leaf n hs,rfl⟩
 | l+1,n,e=>by
  obtain ⟨m,_,e⟩:=e;exact ⟨_,e,rfl⟩
theorem Sol.goes {G G':Gv} {k:Nat} (h:AN G G' k) {s:Nat}:∀ {l n:Nat},Sol G s l n->Sol G' s l n
 | 0,n,e=>e
 | l+1,n,e=>by
  obtain ⟨m,e1,e2⟩:=e;exact ⟨m,Sol.goes h e1,h.get e2⟩
section
variable {P:Program} {w:World} {K:PySem.W.Frag} {mg:Str->Option Value} {base:Heap} {a:Ad}
inductive Ot (a:Ad) (vs:List V) (H:Hp) (Q:VK):Prop
 | mk (g:GA) (G:Gv) (l s:Nat) (_:vs=[.ref g.p,.int l,.int s]) (_:AD a H g G) (_:GOk G) (_:l<=48) (_:s < 8) (_:G.length < 8000000) (_:∀ (n:Nat) (G':Gv) (H':Hp),Fr g H H'->AD a H' g G'->AN G G' l->Sol G' s l n->Q (.int n) H'):Ot a vs H Q
def GW (a:Ad):Sp:=fun vs H Q _=>Ot a vs H Q
theorem Qq {f:Addr} {fd:FuncData} (F:Fun K "solid" "Grove.solid" Cm f fd) (T:Top K mg a) (aC:Cal P w K mg base CX0 1 "is_whole" BB PN) (aH:Ch P w K mg base CX0 3 a.c_Grove "leaf" Ce (Ih a)) (aA:Ch P w K mg base CX0 2 a.c_Grove "linked" AZ (FC a)):AW P w K mg base CX0 4 f fd Cp (GW a):=by
 refine F.ok Dg (fun vs H Q E h=>?_) (fun cdv A outer s H vs Q E hr h=>?_)
 ·obtain ⟨g,G,l,s,rfl,_⟩:=h;rfl
 ·obtain ⟨g,G,l,st,rfl,hg,ok,h48,h8,few,k⟩:=h;refine ⟨_,(Ac (AO (PW.pt (FN (BM (BV (Am aC (rm hr) rfl Al (Aa (pv 1) Ab)))) (EC (BM (Ik Fu Fu Af (pv 1) (Bg rfl T.k_TOP_LEVEL)))))) (Ag Dh) At) (Ac (Ar (i:=3) Dg.nd rfl (Or.inl rfl) (Ay (pv 0) aH (rm hr) Al (Aa (pv 2) Ab))) (Ac (Dx PassesOwn.never rfl (Fj rfl T.b_range (Aa (pv 1) Ab)) (AY (i:=4) Dg.nd rfl (Or.inl rfl)) (Ag (Ar (i:=3) Dg.nd rfl (Or.inl rfl) (Ay (pv 0) aA (rm hr) Al (Bk (Aa (pv 3) (Aa (pv 3) (Aa (pv 3) (Aa (pv 3) Ab)))) Ab))))) (Ag (Aq (pv 3)))))),?_⟩
  try dsimp only [cxK]
  refine ⟨_,rfl,_,rfl,true,rfl,Bv ⟨_,rfl,_,_,rfl,rfl,_,rfl,?_⟩⟩;rw [decide_eq_true (by lia:(0:Int)<=(l:Int))];refine Cw ⟨_,_,rfl,rfl,_,rfl,?_⟩;rw [decide_eq_true (by lia:(l:Int)<=(48:Int))];refine Bv ⟨_,rfl,g.p,g.dx,_,rfl,hg.hp,JY g,_,rfl,g.p,(st:Int),rfl,by lia,by lia,?_⟩;refine ⟨_,rfl,_,rfl,by lia,by lia,?_⟩;rw [Int.toNat_natCast];refine DS (n:=l) (fun i σ H2=>∃ (G':Gv) (m:Nat) (u4:Option V),σ=[some (.ref g.p),some (.int l),some (.int st),some (.int m),u4]/\Fr g H H2/\AD a H2 g G'/\AN G G' i/\Sol G' st i m) ⟨G,st,none,rfl,Fr.refl g H,hg,AN.refl ok,rfl⟩ ?_ ?_
  ·rintro i σ H2 hi ⟨G',m,u4,rfl,fr,hg2,go,so⟩;have lf:=go.few;have lm:=Sol.lev go.ok h8 so;refine ⟨_,rfl,g.p,g.dx,_,rfl,hg2.hp,Dd g,_,rfl,_,rfl,_,rfl,_,rfl,(by show 4<=sizeLine; decide),fun t ht=>?_⟩;have s3:=same_up (o:=.tup [.int m,.int m,.int m,.int m]) ht;refine ⟨g,G',t,m,m,m,m,(i:Int),rfl,hg2.same s3,go.ok,Ah,⟨lm,lm,lm,lm⟩,by lia,by lia,fun n G'' H' fr' hg' go' e=>?_⟩;exact ⟨G'',n,_,rfl,(fr.trans (Az.fr s3)).trans fr',hg',go.trans go',m,Sol.goes go' so,e⟩
  ·rintro σ H2 ⟨G',m,u4,rfl,fr,hg2,go,so⟩;exact ⟨_,rfl,k m G' H2 fr hg2 go so⟩
end
end J
namespace J
open PySem L2
def bareN:Nat->Nat
 | 0=>0
 | j+1=>8+j
def Df (n:Nat):Gv:=(List.range n).map fun (s:Nat)=>(⟨[(s:Int)],0⟩:Sq)
def DW (n:Nat):Gv:=(List.range n).map fun (j:Nat)=>(⟨[(bareN j:Int),(bareN j:Int),(bareN j:Int),(bareN j:Int)],(j:Int)+1⟩:Sq)
def G0:Gv:=Df 8 ++ DW 48
theorem Ni (n:Nat):Df (n+1)=Df n ++ [⟨[(n:Int)],0⟩]:=by unfold Df; rw [List.range_succ,List.map_append]; rfl
theorem IN (n:Nat):DW (n+1)=DW n ++ [⟨[(bareN n:Int),(bareN n:Int),(bareN n:Int),(bareN n:Int)],(n:Int)+1⟩]:=by unfold DW; rw [List.range_succ,List.map_append]; rfl
theorem DR (n:Nat):(Df n).length=n:=by unfold Df; rw [List.length_map,List.length_range]
theorem JG (n:Nat):(DW n).length=n:=by unfold DW; rw [List.length_map,List.length_range]
theorem Pm {i j:Nat} (h:bareN i=bareN j):i=j:=by
 cases i<;>cases j
 ·rfl
 ·have:0=8+_:=h; lia
 ·have:8+_=0:=h; lia
 ·have:8+_=8+_:=h; lia
theorem OU (n:Nat):∀ q ∈ Df n,q.parts≠[(n:Int)]:=fun q hq z=>by
 obtain ⟨s,hs,rfl⟩:=List.mem_map.mp hq;have:=List.mem_range.mp hs;injection z with z _
 have:s=n:=Int.ofNat.inj z;lia
theorem JF (n:Nat):∀ q ∈ Df 8 ++ DW n,q.parts≠[(bareN n:Int),(bareN n:Int),(bareN n:Int),(bareN n:Int)]:=fun q hq z=>by
 rcases List.mem_append.mp hq with hq | hq
 ·obtain ⟨s,hs,rfl⟩:=List.mem_map.mp hq;cases z
 ·obtain ⟨s,hs,rfl⟩:=List.mem_map.mp hq;have:=List.mem_range.mp hs;injection z with z _
  have:=Pm (Int.ofNat.inj z);lia
theorem Np:G0.length=56:=by unfold G0; rw [List.length_append,DR,JG]
theorem Lm (j:Nat) (h:j < 48):G0[8+j]?=some ⟨[(bareN j:Int),(bareN j:Int),(bareN j:Int),(bareN j:Int)],(j:Int)+1⟩:=by
 unfold G0;rw [List.getElem?_append_right (by rw [DR]; lia),DR,show 8+j - 8=j by lia];unfold DW;rw [List.getElem?_map,List.getElem?_range h];rfl
theorem Ll (s:Nat) (h:s < 8):G0[s]?=some ⟨[(s:Int)],0⟩:=by
 unfold G0;rw [List.getElem?_append_left (by rw [DR]; exact h)];unfold Df;rw [List.getElem?_map,List.getElem?_range h];rfl
theorem QR (j:Nat) (h:j<=48):Aj G0 (bareN j) (j:Int):=by
 cases j with
 | zero=>exact ⟨_,Ll 0 (by decide),rfl⟩
 | succ j=>exact ⟨_,Lm j (by lia),rfl⟩
theorem g0_nd:∀ n,((Df 8 ++ DW n).map Sq.parts).Nodup
 | 0=>by decide
 | n+1=>by
  rw [IN,<-List.append_assoc,List.map_append,List.nodup_append];refine ⟨g0_nd n,by simp,fun p hp p' hp'=>?_⟩;obtain ⟨q,hq,rfl⟩:=List.mem_map.mp hp;rw [show p'=[(bareN n:Int),(bareN n:Int),(bareN n:Int),(bareN n:Int)] by simpa using hp'];exact JF n q hq
theorem g0_ok:GOk G0 where
 leaf:=Ll
 node:=fun i q e h8=>by
  have hi:i < 56:=by rw [<-Np]; exact (List.getElem?_eq_some_iff.mp e).1
  obtain ⟨j,rfl⟩:∃ j,i=8+j:=⟨i - 8,by lia⟩
  rw [Lm j (by lia)] at e;cases e;have:=QR j (by lia);refine ⟨bareN j,bareN j,bareN j,bareN j,rfl,?_,?_,?_⟩
  ·show Aj G0 _ ((j:Int)+1 - 1)/\Aj G0 _ ((j:Int)+1 - 1)/\Aj G0 _ ((j:Int)+1 - 1)/\Aj G0 _ ((j:Int)+1 - 1);rw [show (j:Int)+1 - 1=(j:Int) by lia];exact ⟨this,this,this,this⟩
  ·show 1<=(j:Int)+1; lia
  ·show (j:Int)+1<=48; lia
 nd:=g0_nd 48
def amK (n:Nat):List (Key×V):=(List.range n).map fun (s:Nat)=>(Sum.inl (s:Int),V.int (if (1:Int) < (s:Int) then 1 else (s:Int)))
theorem Mv (n:Nat):amK (n+1)=amK n ++ [(Sum.inl (n:Int),V.int (if (1:Int) < (n:Int) then 1 else (n:Int)))]:=by unfold amK; rw [List.range_succ,List.map_append]; rfl
theorem amK_len (n:Nat):(amK n).length=n:=by unfold amK; rw [List.length_map,List.length_range]
theorem ND {κ:Type} [DecidableEq κ] {k:κ}:∀ {l m:List (κ×V)},Cv l k=none->Cv (l ++ m) k=Cv m k
 | [],_,_=>rfl
 | p :: r,m,h=>by
  by_cases e:p.1=k
  ·rw [BQ e] at h; cases h
  ·rw [Bm e] at h;show Cv (p :: (r ++ m)) k=_;rw [Bm e];exact ND h
theorem Mw (n:Nat):∀ m,n<=m->Cv (amK n) (Sum.inl (m:Int))=none:=by
 induction n with
 | zero=>intro m _; rfl
 | succ n ih =>
  intro m hm;rw [Mv,ND (ih m (by lia)),Bm (by intro z; injection z with z; have:=Int.ofNat.inj z; lia)];rfl
def Dm (n:Nat):List Int:=(List.range (n+1)).map fun j=>((bareN j:Nat):Int)
theorem IO (n:Nat):Dm (n+1)=Dm n ++ [((bareN (n+1):Nat):Int)]:=by unfold Dm; rw [List.range_succ,List.map_append]; rfl
theorem Nz (n:Nat):(Dm n).getLast?=some ((bareN n:Nat):Int):=by
 cases n with
 | zero=>rfl
 | succ n=>rw [IO,List.getLast?_append]; rfl
theorem Rc {xs:List V} {x:V} (h:xs.getLast?=some x):atI xs (-1)=some x:=by
 obtain ⟨ys,rfl⟩:=List.getLast?_eq_some_iff.mp h;unfold atI ixN;rw [if_neg (by decide),if_pos (by rw [List.length_append,List.length_singleton]; lia)];show (ys ++ [x])[((-1:Int)+((ys ++ [x]).length:Nat)).toNat]?=some x;rw [List.length_append,List.length_singleton,show ((-1:Int)+((ys.length+1:Nat):Int)).toNat=ys.length by lia,List.getElem?_append_right (Nat.le_refl _),Nat.sub_self];rfl
end J
namespace J
open PySem L2
seal L2.PA L2.PE L2.PS L2.PSs L2.PT L2.PW
structure MB (a:Ad) (H H':Hp) (g:GA) (G:Gv) (B:List Int) (am:List (Key×V)):Prop where
 kp:∀ b o,H b=some o->b≠g.p->H' b=some o
 at':AD a H' g G
 br:H' g.br=some (.lst (B.map V.int))
 am:H' g.am=some (.dK am)
 bx:H' g.bx=some (.dK [])
 fresh:H g.lv=none/\H g.pt=none/\H g.nm=none/\H g.br=none/\H g.am=none/\H g.bx=none
 n1:g.br≠g.lv
 n2:g.br≠g.pt
 n3:g.am≠g.bx
section
variable {P:Program} {w:World} {K:PySem.W.Frag} {mg:Str->Option Value} {base:Heap} {a:Ad}
inductive Ow (a:Ad) (vs:List V) (H:Hp) (Q:VK):Prop
 | mk (p dx:Addr) (_:vs=[.ref p]) (_:H p=some (.ins a.c_Grove dx [])) (_:∀ (g:GA) (H':Hp),g.p=p->MB a H H' g G0 (Dm 48) (amK 8)->Q .non H'):Ow a vs H Q
def JM (a:Ad):Sp:=fun vs H Q _=>Ow a vs H Q
theorem Qv {f:Addr} {fd:FuncData} (F:Fun K "__init__" "Grove.__init__" CI f fd) (T:Top K mg a) (aP:Ch P w K mg base CX0 1 a.c_Grove "kept" CK (JL a)):AW P w K mg base CX0 2 f fd Dj (JM a):=by
 refine F.ok DC (fun vs H Q E h=>?_) (fun cdv A outer s H vs Q E hr h=>?_)
 ·obtain ⟨p,dx,rfl,_⟩:=h;rfl
 ·obtain ⟨p,dx,rfl,hp,k⟩:=h;refine ⟨_,(Ac (Gb (pv 0) (Di Ab) rfl) (Ac (Gb (pv 0) (Di Ab) rfl) (Ac (Gb (pv 0) Qk rfl) (Ac (Gb (pv 0) (Di (AH Ab)) rfl) (Ac (Gb (pv 0) LR rfl) (Ac (Gb (pv 0) LR rfl) (Ac (Dx PassesOwn.never rfl (Fj rfl T.b_range (Aa (Bg rfl T.k_STATES) Ab)) (AY (i:=1) DC.nd rfl (Or.inl rfl)) (Ac (Cu (Ay (pv 0) aP (rm hr) Al (Bk (Aa (pv 1) Ab) (AH Ab)))) (Ag (JR (Mi hr) (AL (pv 0) rfl) (pv 1) (AJ (JA rfl) rfl T.b_min PyProof.Rows.boot_min (Aa (pv 1) (AH Ab))) rfl)))) (Ag (Dx PassesOwn.never rfl (Jm rfl T.b_range (AH (Bh Bo (Bg rfl T.k_TOP_LEVEL) Af Ab))) (AY (i:=2) DC.nd rfl (Or.inl rfl)) (Ac (Ar (i:=3) DC.nd rfl (Or.inl rfl) (Aw AF (AL (pv 0) rfl) (Ft Ej Af) (fun _ _=>rfl))) (Ag (Cu (Jo PySem.F.plainAttrs_list PySem.F.slot_list_append PySem.F.type_list_append Et (AL (pv 0) rfl) (Aa (Ay (pv 0) aP (rm hr) Al (Bk (Aa (pv 3) (Aa (pv 3) (Aa (pv 3) (Aa (pv 3) Ab)))) (Aa (pv 2) Ab))) Ab)))))))))))))),?_⟩
  try dsimp only [cxK]
  have stp:∀ {Hk:Hp} {x:Addr} {o:HO} {fs fs':List (Str×V)},Hk p=some (.ins a.c_Grove dx fs)->Hk x=none->(∀ b v,Hk b=some v->b≠p->upd (upd Hk x o) p (.ins a.c_Grove dx fs') b=some v)/\upd (upd Hk x o) p (.ins a.c_Grove dx fs') x=some o/\upd (upd Hk x o) p (.ins a.c_Grove dx fs') p=some (.ins a.c_Grove dx fs')/\upd Hk x o p=some (.ins a.c_Grove dx fs):=fun {Hk x o fs fs'} e1 e2=>by
   have n:x≠p:=fun z=>by rw [z,e1] at e2; cases e2
   exact ⟨fun b v e nb=>by rw [Ak nb,Ak (An e e2)]; exact e,by rw [Ak n]; exact Ah,Ah,by rw [Ak (Ne.symm n)]; exact e1⟩
  refine BP ?_;intro r_k_ s_k_ k_ hk_ E_k_;refine ⟨(by show 0<=sizeLine; decide),fun lv hlv=>?_⟩;obtain ⟨k1,x1,p1,q1⟩:=stp (o:=.lst []) (fs':=Cr "levels" (.ref lv) []) hp hlv;refine xq1 rfl ⟨p,_,dx,[],rfl,q1,T.cl_Grove,T.na_Grove_levels,(by show 0 < 1000; decide),?_⟩;show k_ _ _;generalize upd (upd H lv _) p _=H1 at k1 x1 p1 ⊢;refine hk_ ?_;refine BP ?_;intro r_k_ s_k_ k_ hk_ E_k_;refine ⟨(by show 0<=sizeLine; decide),fun pt hpt=>?_⟩;obtain ⟨k2,x2,p2,q2⟩:=stp (o:=.lst []) (fs':=Cr "parts" (.ref pt) (Cr "levels" (.ref lv) [])) p1 hpt;refine xq1 rfl ⟨p,_,dx,(xq1 rfl ⟨q2,T.cl_Grove,T.na_Grove_parts,(by show 1 < 1000; decide),?_⟩)⟩;show k_ _ _;generalize upd (upd H1 pt _) p _=H2 at k2 x2 p2 ⊢;refine hk_ ?_;refine BP ?_;intro r_k_ s_k_ k_ hk_ E_k_;intro nm hnm;obtain ⟨k3,x3,p3,q3⟩:=stp (o:=.dT []) (fs':=Cr "numbers" (.ref nm) (Cr "parts" (.ref pt) (Cr "levels" (.ref lv) []))) p2 hnm;refine xq1 rfl ⟨p,_,dx,(xq1 rfl ⟨q3,T.cl_Grove,T.na_Grove_numbers,(by show 2 < 1000; decide),?_⟩)⟩;show k_ _ _;generalize upd (upd H2 nm _) p _=H3 at k3 x3 p3 ⊢;refine hk_ ?_;refine BP ?_;intro r_k_ s_k_ k_ hk_ E_k_;refine ⟨(by show 1<=sizeLine; decide),fun br hbr=>?_⟩;obtain ⟨k4,x4,p4,q4⟩:=stp (o:=.lst [.int 0]) (fs':=Cr "bares" (.ref br) (Cr "numbers" (.ref nm) (Cr "parts" (.ref pt) (Cr "levels" (.ref lv) [])))) p3 hbr;refine xq1 rfl ⟨p,_,dx,(xq1 rfl ⟨q4,T.cl_Grove,T.na_Grove_bares,(by show 3 < 1000; decide),?_⟩)⟩;show k_ _ _;generalize upd (upd H3 br _) p _=H4 at k4 x4 p4 ⊢;refine hk_ ?_;refine BP ?_;intro r_k_ s_k_ k_ hk_ E_k_;intro am ham;obtain ⟨k5,x5,p5,q5⟩:=stp (o:=.dK []) (fs':=Cr "amounts" (.ref am) (Cr "bares" (.ref br) (Cr "numbers" (.ref nm) (Cr "parts" (.ref pt) (Cr "levels" (.ref lv) []))))) p4 ham;refine xq1 rfl ⟨p,_,dx,(xq1 rfl ⟨q5,T.cl_Grove,T.na_Grove_amounts,(by show 4 < 1000; decide),?_⟩)⟩;show k_ _ _;generalize upd (upd H4 am _) p _=H5 at k5 x5 p5 ⊢;refine hk_ ?_;refine BP ?_;intro r_k_ s_k_ k_ hk_ E_k_;intro bx hbx;obtain ⟨k6,x6,p6,q6⟩:=stp (o:=.dK []) (fs':=fl6 ⟨p,dx,lv,pt,nm,br,am,bx⟩) p5 hbx;refine xq1 rfl ⟨p,_,dx,(xq1 rfl ⟨q6,T.cl_Grove,T.na_Grove_boxes,(by show 5 < 1000; decide),?_⟩)⟩;show k_ _ (upd (upd H5 bx (.dK [])) p (.ins a.c_Grove dx (fl6 ⟨p,dx,lv,pt,nm,br,am,bx⟩)));generalize upd (upd H5 bx _) p _=H6 at k6 x6 p6 ⊢;refine hk_ ?_;have f26:∀ b v,H1 b=some v->b≠p->H6 b=some v:=fun b v e n=>k6 _ _ (k5 _ _ (k4 _ _ (k3 _ _ (k2 _ _ e n) n) n) n) n;have f36:∀ b v,H2 b=some v->b≠p->H6 b=some v:=fun b v e n=>k6 _ _ (k5 _ _ (k4 _ _ (k3 _ _ e n) n) n) n;have f46:∀ b v,H3 b=some v->b≠p->H6 b=some v:=fun b v e n=>k6 _ _ (k5 _ _ (k4 _ _ e n) n) n;have f56:∀ b v,H4 b=some v->b≠p->H6 b=some v:=fun b v e n=>k6 _ _ (k5 _ _ e n) n;have np:∀ {Hk:Hp} {x:Addr} {fs:List (Str×V)},Hk p=some (.ins a.c_Grove dx fs)->Hk x=none->x≠p:=fun {Hk x fs} e1 e2 z=>by rw [z,e1] at e2; cases e2
  have no:∀ {Hk Hm:Hp} {x y:Addr} {v:HO},Hk x=some v->Hk y=none->x≠y:=fun {Hk Hm x y v} e1 e2=>An e1 e2;have nlv:=np hp hlv;have npt:=np p1 hpt;have nnm:=np p2 hnm;have nbr:=np p3 hbr;have nam:=np p4 ham;have nbx:=np p5 hbx;have y1:=f26 _ _ x1 nlv;have y2:=f36 _ _ x2 npt;have y3:=f46 _ _ x3 nnm;have y4:=f56 _ _ x4 nbr;have y5:=k6 _ _ x5 nam;have back:∀ {Hk:Hp} {x:Addr},(∀ b v,H b=some v->b≠p->Hk b=some v)->x≠p->Hk x=none->H x=none:=fun {Hk x} kp n e=>by
   cases h:H x with
   | none=>rfl
   | some v=>rw [kp _ _ h n] at e; cases e
  have c2:∀ b v,H b=some v->b≠p->H2 b=some v:=fun b v e n=>k2 _ _ (k1 _ _ e n) n;have c3:∀ b v,H b=some v->b≠p->H3 b=some v:=fun b v e n=>k3 _ _ (c2 _ _ e n) n;have c4:∀ b v,H b=some v->b≠p->H4 b=some v:=fun b v e n=>k4 _ _ (c3 _ _ e n) n;have c5:∀ b v,H b=some v->b≠p->H5 b=some v:=fun b v e n=>k5 _ _ (c4 _ _ e n) n;have c6:∀ b v,H b=some v->b≠p->H6 b=some v:=fun b v e n=>k6 _ _ (c5 _ _ e n) n;have d1:lv≠pt:=An x1 hpt;have d2:br≠lv:=Ne.symm (An (k3 _ _ (k2 _ _ x1 nlv) nlv) hbr);have d3:br≠pt:=Ne.symm (An (k3 _ _ x2 npt) hbr);have d4:am≠bx:=An x5 hbx;have N0:MB a H H6 ⟨p,dx,lv,pt,nm,br,am,bx⟩ (Df 0) (Dm 0) (amK 0):=⟨c6,⟨p6,y1,⟨[],y2,.nil⟩,y3,d1⟩,y4,y5,x6,⟨hlv,back k1 npt hpt,back c2 nnm hnm,back c3 nbr hbr,back c4 nam ham,back c5 nbx hbx⟩,d2,d3,d4⟩
  have k':=k ⟨p,dx,lv,pt,nm,br,am,bx⟩;have gp:(⟨p,dx,lv,pt,nm,br,am,bx⟩:GA).p=p:=rfl;generalize (⟨p,dx,lv,pt,nm,br,am,bx⟩:GA)=g at N0 k' gp;subst gp;clear k p6 q6 q5 q4 q3 q2 q1 y1 y2 y3 y4 y5 x6 c6 c5 c4 c3 c2 f26 f36 f46 f56 k1 k2 k3 k4 k5 k6 x1 x2 x3 x4 x5 p1 p2 p3 p4 p5 d1 d2 d3 d4 nlv npt nnm nbr nam nbx hbx ham hbr hnm hpt hlv back no np stp;refine ⟨8,rfl,by decide,by decide,?_⟩;refine DS (n:=8) (fun i σ H7=>∃ u1:Option V,σ=[some (.ref g.p),u1,none,none]/\MB a H H7 g (Df i) (Dm 0) (amK i)) ⟨none,rfl,N0⟩ ?_ ?_
  ·rintro i σ H7 hi ⟨u1,rfl,N⟩;obtain ⟨kp,at',hbr,ham,hbx,fresh,n1,n2,n3⟩:=N;have cl:(i:Int)=0+(i:Int):=(Int.zero_add _).symm;refine xq1 rfl ⟨g.p,g.dx,(xq1 rfl ⟨at'.hp,JZ g,(xq1 rfl ⟨(by show 1<=sizeLine; decide),fun t ht=>?_⟩)⟩)⟩;have s1:=same_up (o:=.tup [.int (0+(i:Int))]) ht;refine ⟨g,Df i,t,[0+(i:Int)],0,rfl,at'.same s1,Ah,by rw [<-cl]; exact OU i,by rw [DR]; lia,fun H8 fr at8=>?_⟩;rw [<-cl,<-Ni] at at8;have fr':Fr g H7 H8:=(Az.fr s1).trans fr;obtain ⟨ts,h3,h4⟩:=at'.pt;have kd:∀ (b:Addr) (kvs:List (Key×V)),H7 b=some (.dK kvs)->H8 b=some (.dK kvs):=fun b kvs e=>fr' _ _ e (Bb e at'.lv (by intro z; cases z)) (Bb e h3 (by intro z; cases z)) (Bb e at'.nm (by intro z; cases z));have ham8:=kd _ _ ham;refine xq1 rfl ⟨_,_,rfl,(xwf rfl rfl at8.hp T.cl_Grove T.na_Grove_amounts (Nr g) (xq1 rfl ⟨g.am,(xq1 rfl ⟨Lr.k (k:=Sum.inl (0+(i:Int))) ham8 (by rw [amK_len]; exact Eg (by lia)),?_⟩)⟩))⟩;rw [<-cl,LO _ (Mw i i (Nat.le_refl _)),<-Mv];have other:∀ {b:Addr} {v:HO},H8 b=some v->b≠g.am->upd H8 g.am (.dK (amK (i+1))) b=some v:=fun {b v} e n=>by rw [Ak n]; exact e
   have na:∀ {b:Addr} {v:HO},H8 b=some v->v≠.dK (amK i)->b≠g.am:=fun {b v} e n=>Bb e ham8 n;obtain ⟨ts8,h38,h48⟩:=at8.pt;refine xq1 rfl ⟨?_,⟨other at8.hp (na at8.hp (by intro z; cases z)),other at8.lv (na at8.lv (by intro z; cases z)),⟨ts8,other h38 (na h38 (by intro z; cases z)),PairedM.imp (fun c q z=>other z (na z (by intro z; cases z))) h48⟩,other at8.nm (na at8.nm (by intro z; cases z)),at8.ne⟩,?_,Ah,?_,fresh,n1,n2,n3⟩
   ·intro b v e nb;have e8:H8 b=some v:=fr' _ _ (kp _ _ e nb) (An e fresh.1) (An e fresh.2.1) (An e fresh.2.2.1);exact other e8 (An e fresh.2.2.2.2.1)
   ·have e8:H8 g.br=_:=fr' _ _ hbr n1 n2 (Bb hbr at'.nm (by intro z; cases z));exact other e8 (na e8 (by intro z; cases z))
   ·exact other (kd _ _ hbx) (Ne.symm n3)
  ·rintro σ H7 ⟨u1,rfl,N⟩;refine xq2 rfl rfl ⟨1,49,rfl,⟨by decide,by decide,by decide,by decide⟩,?_⟩;have N0:MB a H H7 g (Df 8 ++ DW 0) (Dm 0) (amK 8):=by rw [show Df 8 ++ DW 0=Df 8 from List.append_nil _]; exact N
   clear N;refine DS (lo:=1) (n:=48) (fun j σ H8=>∃ u2 u3:Option V,σ=[some (.ref g.p),u1,u2,u3]/\MB a H H8 g (Df 8 ++ DW j) (Dm j) (amK 8)) ⟨none,none,rfl,N0⟩ ?_ ?_
   ·rintro j σ H8 hj ⟨u2,u3,rfl,N⟩;obtain ⟨kp,at',hbr,ham,hbx,fresh,n1,n2,n3⟩:=N;refine xwf rfl rfl at'.hp T.cl_Grove T.na_Grove_bares (Go g) (xwi rfl rfl rfl (SqL.of hbr) (Rc (by rw [List.getLast?_map,Nz]; rfl)) ?_);refine xwf rfl rfl at'.hp T.cl_Grove T.na_Grove_bares (Go g) ⟨.inl ⟨rfl,_,SqL.of hbr⟩,(xq1 rfl ⟨g.p,g.dx,(xq1 rfl ⟨at'.hp,JZ g,(xw3 rfl rfl rfl (xq1 rfl ⟨(by show 4<=sizeLine; decide),fun t ht=>(xq1 rfl ?_)⟩))⟩)⟩)⟩;have s1:=same_up (o:=.tup [.int (bareN j:Int),.int (bareN j:Int),.int (bareN j:Int),.int (bareN j:Int)]) ht;have ln:(Df 8 ++ DW j).length=8+j:=by rw [List.length_append,DR,JG]
    refine ⟨g,Df 8 ++ DW j,t,[(bareN j:Int),(bareN j:Int),(bareN j:Int),(bareN j:Int)],1+(j:Int),rfl,at'.same s1,Ah,JF j,by rw [ln]; lia,fun H9 fr at9=>?_⟩;rw [show (1:Int)+(j:Int)=(j:Int)+1 by lia,List.append_assoc,<-IN] at at9;have fr':Fr g H8 H9:=(Az.fr s1).trans fr;obtain ⟨ts,h3,h4⟩:=at'.pt;have kd:∀ (b:Addr) (kvs:List (Key×V)),H8 b=some (.dK kvs)->H9 b=some (.dK kvs):=fun b kvs e=>fr' _ _ e (Bb e at'.lv (by intro z; cases z)) (Bb e h3 (by intro z; cases z)) (Bb e at'.nm (by intro z; cases z));have hbr9:H9 g.br=_:=fr' _ _ hbr n1 n2 (Bb hbr at'.nm (by intro z; cases z));refine ⟨g.br,(xq2 rfl rfl ⟨hbr9,by rw [List.length_map]; unfold Dm; rw [List.length_map,List.length_range]; exact Eg (by lia),?_⟩)⟩;have eb:(Dm j).map V.int ++ [V.int ((Df 8 ++ DW j).length:Int)]=(Dm (j+1)).map V.int:=by rw [IO,List.map_append,ln]; rfl
    rw [eb];have other:∀ {b:Addr} {v:HO},H9 b=some v->v≠.lst ((Dm j).map V.int)->upd H9 g.br (.lst ((Dm (j+1)).map V.int)) b=some v:=fun {b v} e n=>by rw [Ak (Bb e hbr9 n)]; exact e
    refine ⟨_,_,rfl,?_,at9.put hbr9 n1 n2,Ah,other (kd _ _ ham) (by intro z; cases z),other (kd _ _ hbx) (by intro z; cases z),fresh,n1,n2,n3⟩;intro b v e nb;rw [Ak (An e fresh.2.2.2.1)];exact fr' _ _ (kp _ _ e nb) (An e fresh.1) (An e fresh.2.1) (An e fresh.2.2.1)
   ·rintro σ H8 ⟨u2,u3,rfl,N⟩;exact k' H8 rfl N
end
end J
namespace J
open PySem L2
theorem Aj.uniq {G:Gv} {i:Nat} {l m:Int} (h:Aj G i l) (h2:Aj G i m):l=m:=by
 obtain ⟨q,e,z⟩:=h;obtain ⟨p,e2,z2⟩:=h2;rw [e] at e2;cases e2;exact z.symm.trans z2
theorem leaf_of {G:Gv} (ok:GOk G) {i:Nat} (h:Aj G i 0):i < 8:=by
 obtain ⟨q,e,z⟩:=h;refine Nat.lt_of_not_le fun n=>?_;obtain ⟨_,_,_,_,_,_,l1,_⟩:=ok.node i q e n;lia
structure DY (G:Gv) (n i:Nat) (q:Sq) (x y z w:Nat):Prop where
 g:G[i]?=some q
 ps:q.parts=[(x:Int),(y:Int),(z:Int),(w:Int)]
 lev:q.lev=(n:Int)+1
 hx:Aj G x n
 hy:Aj G y n
 hz:Aj G z n
 hw:Aj G w n
theorem BF {G:Gv} (ok:GOk G) {n i:Nat} (h:Aj G i ((n+1:Nat):Int)):∃ q x y z w,DY G n i q x y z w:=by
 obtain ⟨q,e,el⟩:=h;have n8:8<=i:=by
  refine Nat.le_of_not_lt fun l8=>?_;rw [ok.leaf i l8] at e;cases e;have:(0:Int)=((n+1:Nat):Int):=el;lia
 obtain ⟨x,y,z,w,ep,⟨hx,hy,hz,hw⟩,_,_⟩:=ok.node i q e n8;have en:q.lev - 1=(n:Int):=by lia
 rw [en] at hx hy hz hw;exact ⟨q,x,y,z,w,e,ep,by lia,hx,hy,hz,hw⟩
theorem DY.app {G G':Gv} {k n i:Nat} {q:Sq} {x y z w:Nat} (go:AN G G' k) (h:DY G n i q x y z w):DY G' n i q x y z w:=⟨go.get h.g,h.ps,h.lev,go.lev h.hx,go.lev h.hy,go.lev h.hz,go.lev h.hw⟩
def BZ (G:Gv):Nat->Nat->Int
 | 0,i=>if i=0 then 0 else 1
 | n+1,i=>match G[i]? with
  | some q=>(q.parts.map fun p=>BZ G n p.toNat).sum
  | none=>0
theorem Eu {G:Gv} {n i:Nat} {q:Sq} {x y z w:Nat} (h:DY G n i q x y z w):BZ G (n+1) i=([x,y,z,w].map fun k=>BZ G n k).sum:=by
 rw [show BZ G (n+1) i=(match G[i]? with | some q=>(q.parts.map fun (p:Int)=>BZ G n p.toNat).sum | none=>0) from rfl,h.g];show (q.parts.map fun (p:Int)=>BZ G n p.toNat).sum=_;rw [h.ps];rfl
theorem Fe {G G':Gv} {k:Nat} (ok:GOk G) (go:AN G G' k):∀ (n i:Nat),Aj G i (n:Int)->BZ G' n i=BZ G n i
 | 0,i,_=>rfl
 | n+1,i,h=>by
  obtain ⟨q,x,y,z,w,nd⟩:=BF ok h;rw [Eu nd,Eu (nd.app go)];show BZ G' n x+(BZ G' n y+(BZ G' n z+(BZ G' n w+0)))=_;rw [Fe ok go n x nd.hx,Fe ok go n y nd.hy,Fe ok go n z nd.hz,Fe ok go n w nd.hw];rfl
theorem On (G:Gv):∀ (n i:Nat),0<=BZ G n i
 | 0,i=>by
  show 0<=if i=0 then (0:Int) else 1;split<;>lia
 | n+1,i=>by
  unfold BZ;split
  ·rename_i q _;have:∀ l:List Int,0<=(l.map fun p=>BZ G n p.toNat).sum:=by
    intro l;induction l with
    | nil=>exact Int.le_refl 0
    | cons p r ih=>rw [List.map_cons,List.sum_cons]; have:=On G n p.toNat; lia
   exact this _
  ·exact Int.le_refl 0
theorem Gq:∀ (n:Nat) (l:List Nat),l.Nodup->(∀ x ∈ l,x < n)->l.length<=n
 | 0,l,_,h=>by
  cases l with
  | nil=>exact Nat.le_refl 0
  | cons x r=>exact absurd (h x List.mem_cons_self) (Nat.not_lt_zero _)
 | n+1,l,nd,h=>by
  by_cases hm:n ∈ l
  ·have:=Gq n (l.erase n) (nd.erase n) fun x hx=>by
    have h1:=(nd.mem_erase_iff).mp hx;have:=h x h1.2;have:=h1.1;lia
   rw [List.length_erase_of_mem hm] at this;lia
  ·have:=Gq n l nd fun x hx=>by
    have:=h x hx;have:x≠n:=fun z=>hm (z ▸ hx);lia
   lia
structure Em (G:Gv) (ks:List (Key×V)):Prop where
 nd:(ks.map Prod.fst).Nodup
 lt:∀ k ∈ ks.map Prod.fst,∃ i:Nat,i < G.length/\k=Sum.inl (i:Int)
theorem Em.len {G:Gv} {ks:List (Key×V)} (h:Em G ks):ks.length<=G.length:=by
 let f:Key->Nat:=fun k=>match k with | .inl i=>i.toNat | .inr _=>0
 have:=Gq G.length ((ks.map Prod.fst).map f) (by
  rw [List.nodup_iff_pairwise_ne,List.pairwise_map];refine List.Pairwise.imp_of_mem (fun {a b} ha hb hne z=>hne ?_) (List.nodup_iff_pairwise_ne.mp h.nd);obtain ⟨i,_,rfl⟩:=h.lt a ha;obtain ⟨j,_,rfl⟩:=h.lt b hb;have:(i:Int).toNat=(j:Int).toNat:=z;rw [Int.toNat_natCast,Int.toNat_natCast] at this;rw [this]) (fun x hx=>by
  obtain ⟨k,hk,rfl⟩:=List.mem_map.mp hx;obtain ⟨i,hi,rfl⟩:=h.lt k hk;show (i:Int).toNat < _;rw [Int.toNat_natCast];exact hi)
 rw [List.length_map,List.length_map] at this;exact this
theorem Em.app {G G':Gv} {ks:List (Key×V)} (le:G.length<=G'.length) (h:Em G ks):Em G' ks:=⟨h.nd,fun k hk=>by
 obtain ⟨i,hi,e⟩:=h.lt k hk;exact ⟨i,by lia,e⟩⟩
theorem Em.put {G:Gv} {ks:List (Key×V)} (h:Em G ks) {i:Nat} (hi:i < G.length) (v:V):Em G (ED ks (Sum.inl (i:Int)) v):=by
 unfold ED;by_cases a:(ks.any fun kv=>decide (kv.1=Sum.inl (i:Int)))=true
 ·rw [if_pos a];have e:(ks.map fun kv=>if kv.1=Sum.inl (i:Int) then (kv.1,v) else kv).map Prod.fst=ks.map Prod.fst:=by
   rw [List.map_map];refine List.map_congr_left fun kv _=>?_;show (if kv.1=Sum.inl (i:Int) then (kv.1,v) else kv).1=kv.1;split<;>rfl
  exact ⟨by rw [e]; exact h.nd,by rw [e]; exact h.lt⟩
 ·rw [if_neg a];refine ⟨?_,fun k hk=>?_⟩
  ·rw [List.map_append,List.nodup_append];refine ⟨h.nd,by simp,fun k hk k' hk' z=>a ?_⟩;have:k'=Sum.inl (i:Int):=by simpa using hk'
   subst this;subst z;obtain ⟨kv,h1,h2⟩:=List.mem_map.mp hk;exact List.any_eq_true.mpr ⟨kv,h1,decide_eq_true h2⟩
  ·rw [List.map_append] at hk;rcases List.mem_append.mp hk with z | z
   ·exact h.lt k z
   ·exact ⟨i,hi,by simpa using z⟩
structure Lw (G:Gv) (ks:List (Key×V)):Prop where
 keys:Em G ks
 leaf:∀ s:Nat,s < 8->∃ v,Cv ks (Sum.inl (s:Int))=some v
 val:∀ (i:Nat) v,Cv ks (Sum.inl (i:Int))=some v->∃ l:Nat,Aj G i l/\v=.int (BZ G l i)
theorem Lw.app {G G':Gv} {k:Nat} {ks:List (Key×V)} (ok:GOk G) (go:AN G G' k) (h:Lw G ks):Lw G' ks:=⟨h.keys.app (by obtain ⟨r,e⟩:=go.pre; rw [e,List.length_append]; lia),h.leaf,fun i v e=>by
 obtain ⟨l,h1,h2⟩:=h.val i v e;exact ⟨l,go.lev h1,by rw [Fe ok go l i h1]; exact h2⟩⟩
theorem Lw.put {G:Gv} {ks:List (Key×V)} (h:Lw G ks) {i l:Nat} (hl:Aj G i l):Lw G (ED ks (Sum.inl (i:Int)) (.int (BZ G l i))):=⟨h.keys.put hl.lt _,fun s hs=>by
 rw [Lx];split
 ·exact ⟨_,rfl⟩
 ·exact h.leaf s hs,fun j v e=>by
 rw [Lx] at e;split at e
 ·rename_i z;injection z with z
  have:j=i:=Int.ofNat.inj z;subst this;cases e;exact ⟨l,hl,rfl⟩
 ·exact h.val j v e⟩
theorem am0:Lw G0 (amK 8) where
 keys:=⟨by decide +kernel,fun k hk=>by
  obtain ⟨p,hp,rfl⟩:=List.mem_map.mp hk;obtain ⟨s,hs,rfl⟩:=List.mem_map.mp hp;have:=List.mem_range.mp hs;exact ⟨s,by rw [Np]; lia,rfl⟩⟩
 leaf:=fun s hs=>by
  match s,hs with
  | 0,_=>exact ⟨_,rfl⟩
  | 1,_=>exact ⟨_,rfl⟩
  | 2,_=>exact ⟨_,rfl⟩
  | 3,_=>exact ⟨_,rfl⟩
  | 4,_=>exact ⟨_,rfl⟩
  | 5,_=>exact ⟨_,rfl⟩
  | 6,_=>exact ⟨_,rfl⟩
  | 7,_=>exact ⟨_,rfl⟩
 val:=fun i v e=>by
  have hi:i < 8:=by
   refine Nat.lt_of_not_le fun z=>?_;rw [Mw 8 i z] at e;cases e
  refine ⟨0,⟨_,Ll i hi,rfl⟩,?_⟩
  match i,hi with
  | 0,_=>cases e; rfl
  | 1,_=>cases e; rfl
  | 2,_=>cases e; rfl
  | 3,_=>cases e; rfl
  | 4,_=>cases e; rfl
  | 5,_=>cases e; rfl
  | 6,_=>cases e; rfl
  | 7,_=>cases e; rfl
end J
namespace J
open PySem L2
structure Bx where
 l:Int
 t:Int
 w:Int
 h:Int
def Bx.ns (b:Bx):List Int:=[b.l,b.t,b.w,b.h]
def shB (half:Int) (k:Nat) (b:Bx):Bx:=⟨b.l+half * ((k:Int) % 2),b.t+half * ((k:Int) / 2),b.w,b.h⟩
def gath (half:Int):Nat->List (Option Bx)->List Bx
 | _,[]=>[]
 | k,none :: r=>gath half (k+1) r
 | k,some b :: r=>shB half k b :: gath half (k+1) r
def mnL (l:List Int):Int:=l.min?.getD 0
def mxL (l:List Int):Int:=l.max?.getD 0
def Nh (bs:List Bx):Bx:=⟨mnL (bs.map (·.l)),mnL (bs.map (·.t)),mxL (bs.map fun b=>b.l+b.w) - mnL (bs.map (·.l)),mxL (bs.map fun b=>b.t+b.h) - mnL (bs.map (·.t))⟩
def Qo (half:Int) (obs:List (Option Bx)):Option Bx:=match gath half 0 obs with
 | []=>none
 | b :: r=>some (Nh (b :: r))
def Gy (G:Gv):Nat->Nat->Option Bx
 | 0,i=>if i=0 then none else some ⟨0,0,1,1⟩
 | n+1,i=>match G[i]? with
  | some q=>Qo (2 ^ n) (q.parts.map fun (p:Int)=>Gy G n p.toNat)
  | none=>none
theorem Qz {l:List Int} {m:Int} (h:m ∈ l) (h2:∀ x ∈ l,m<=x):m=mnL l:=by
 unfold mnL;rw [List.min?_eq_some_iff.mpr ⟨h,h2⟩];rfl
theorem Qy {l:List Int} {m:Int} (h:m ∈ l) (h2:∀ x ∈ l,x<=m):m=mxL l:=by
 unfold mxL;rw [List.max?_eq_some_iff.mpr ⟨h,h2⟩];rfl
theorem Gx {G:Gv} {n i:Nat} {q:Sq} {x y z w:Nat} (h:DY G n i q x y z w):Gy G (n+1) i=Qo (2 ^ n) [Gy G n x,Gy G n y,Gy G n z,Gy G n w]:=by
 rw [show Gy G (n+1) i=(match G[i]? with | some q=>Qo (2 ^ n) (q.parts.map fun (p:Int)=>Gy G n p.toNat) | none=>none) from rfl,h.g];show Qo (2 ^ n) (q.parts.map fun (p:Int)=>Gy G n p.toNat)=_;rw [h.ps];rfl
theorem Ff {G G':Gv} {k:Nat} (ok:GOk G) (go:AN G G' k):∀ (n i:Nat),Aj G i (n:Int)->Gy G' n i=Gy G n i
 | 0,i,_=>rfl
 | n+1,i,h=>by
  obtain ⟨q,x,y,z,w,nd⟩:=BF ok h;rw [Gx nd,Gx (nd.app go),Ff ok go n x nd.hx,Ff ok go n y nd.hy,Ff ok go n z nd.hz,Ff ok go n w nd.hw]
theorem g0_pre {G r:Gv} (e:G=G0 ++ r) (j:Nat) (h:j < 48):G[8+j]?=some ⟨[(bareN j:Int),(bareN j:Int),(bareN j:Int),(bareN j:Int)],(j:Int)+1⟩:=by
 rw [e];exact Ib (Lm j h)
structure BxOk (G:Gv) (H:Hp) (ks:List (Key×V)):Prop where
 keys:Em G ks
 val:∀ (i:Nat) v,Cv ks (Sum.inl (i:Int))=some v->∃ (l:Nat) (b:Bx) (t:Addr),Aj G i l/\Gy G l i=some b/\v=.ref t/\H t=some (.tup (b.ns.map V.int))
structure AI (a:Ad) (H:Hp) (g:GA) (G:Gv):Prop where
 at':AD a H g G
 ok:GOk G
 g0:∃ r,G=G0 ++ r
 br:H g.br=some (.lst ((Dm 48).map V.int))
 am:∃ ks,H g.am=some (.dK ks)/\Lw G ks
 bx:∃ ks,H g.bx=some (.dK ks)/\BxOk G H ks
 n1:g.br≠g.lv
 n2:g.br≠g.pt
 n3:g.am≠g.bx
theorem AI.new {a:Ad} {H H':Hp} {g:GA} (h:MB a H H' g G0 (Dm 48) (amK 8)):AI a H' g G0:=⟨h.at',g0_ok,⟨[],by simp⟩,h.br,⟨_,h.am,am0⟩,⟨_,h.bx,⟨by simp,fun k hk=>by simp at hk⟩,fun i v e=>by cases e⟩,h.n1,h.n2,h.n3⟩
theorem AI.ne_am {a:Ad} {H:Hp} {g:GA} {G:Gv} (h:AI a H g G) {b:Addr} {o:HO} (e:H b=some o) (n:∀ ks,o≠.dK ks):b≠g.am/\b≠g.bx:=by
 obtain ⟨ks,h1,_⟩:=h.am;obtain ⟨ks',h2,_⟩:=h.bx;exact ⟨Bb e h1 (n _),Bb e h2 (n _)⟩
theorem AI.same {a:Ad} {H H':Hp} {g:GA} {G:Gv} (s:Az H H') (h:AI a H g G):AI a H' g G:=by
 obtain ⟨at',ok,g0,br,⟨ks,h1,h2⟩,⟨ks',h3,h4⟩,n1,n2,n3⟩:=h;refine ⟨at'.same s,ok,g0,s _ _ br,⟨ks,s _ _ h1,h2⟩,⟨ks',s _ _ h3,h4.keys,fun i v e=>?_⟩,n1,n2,n3⟩;obtain ⟨l,b,t,e1,e2,e3,e4⟩:=h4.val i v e;exact ⟨l,b,t,e1,e2,e3,s _ _ e4⟩
theorem AN.le {G G':Gv} {k:Nat} (go:AN G G' k):G.length<=G'.length:=by
 obtain ⟨r,e⟩:=go.pre;rw [e,List.length_append];lia
theorem AI.fr {a:Ad} {H H':Hp} {g:GA} {G G':Gv} {m:Nat} (h:AI a H g G) (f:Fr g H H') (at2:AD a H' g G') (go:AN G G' m):AI a H' g G':=by
 obtain ⟨at',ok,⟨r,g0⟩,br,⟨ks,h1,h2⟩,⟨ks',h3,h4⟩,n1,n2,n3⟩:=h;obtain ⟨us,hp,_⟩:=at'.pt;have keep:∀ {b:Addr} {o:HO},H b=some o->(∀ l,o≠.lst l)->(∀ l,o≠.dT l)->H' b=some o:=fun {b o} e z1 z2=>f _ _ e (Bb e at'.lv (z1 _)) (Bb e hp (z1 _)) (Bb e at'.nm (z2 _));obtain ⟨t,et⟩:=go.pre;refine ⟨at2,go.ok,⟨r ++ t,by rw [et,g0,List.append_assoc]⟩,f _ _ br n1 n2 (Bb br at'.nm (by intro z; cases z)),⟨ks,keep h1 (by intro l z; cases z) (by intro l z; cases z),h2.app ok go⟩,⟨ks',keep h3 (by intro l z; cases z) (by intro l z; cases z),h4.keys.app go.le,fun i v e=>?_⟩,n1,n2,n3⟩;obtain ⟨l,b,t,e1,e2,e3,e4⟩:=h4.val i v e;exact ⟨l,b,t,go.lev e1,by rw [Ff ok go l i e1]; exact e2,e3,keep e4 (by intro l z; cases z) (by intro l z; cases z)⟩
def FrQ (g:GA) (H H':Hp):Prop:=∀ b o,H b=some o->b≠g.am->b≠g.bx->H' b=some o
theorem FrQ.refl (g:GA) (H:Hp):FrQ g H H:=fun _ _ e _ _=>e
theorem FrQ.trans {g:GA} {H1 H2 H3:Hp} (h:FrQ g H1 H2) (h2:FrQ g H2 H3):FrQ g H1 H3:=fun b o e n1 n2=>h2 b o (h b o e n1 n2) n1 n2
theorem Az.frq {g:GA} {H1 H2:Hp} (h:Az H1 H2):FrQ g H1 H2:=fun b o e _ _=>h b o e
theorem AD.dict {a:Ad} {H:Hp} {g:GA} {G:Gv} {d:Addr} {ks:List (Key×V)} {o:HO} (hd:H d=some (.dK ks)) (h:AD a H g G):AD a (upd H d o) g G:=by
 obtain ⟨h1,h2,⟨ts,h3,h4⟩,h5,h6⟩:=h;have other:∀ {b v},H b=some v->v≠.dK ks->upd H d o b=some v:=fun {b v} e n=>by rw [Ak (Bb e hd n)]; exact e
 exact ⟨other h1 (by intro z; cases z),other h2 (by intro z; cases z),⟨ts,other h3 (by intro z; cases z),PairedM.imp (fun t q z=>other z (by intro z; cases z)) h4⟩,other h5 (by intro z; cases z),h6⟩
theorem AI.am_put {a:Ad} {H:Hp} {g:GA} {G:Gv} {ks ks2:List (Key×V)} (h:AI a H g G) (e:H g.am=some (.dK ks)) (h2:Lw G ks2):AI a (upd H g.am (.dK ks2)) g G/\FrQ g H (upd H g.am (.dK ks2)):=by
 obtain ⟨at',ok,g0,br,⟨_,_,_⟩,⟨ks',h3,h4⟩,n1,n2,n3⟩:=h;have other:∀ {b v},H b=some v->v≠.dK ks->upd H g.am (.dK ks2) b=some v:=fun {b v} e' n=>by rw [Ak (Bb e' e n)]; exact e'
 refine ⟨⟨at'.dict e,ok,g0,other br (by intro z; cases z),⟨_,Ah,h2⟩,⟨ks',by rw [Ak (Ne.symm n3)]; exact h3,h4.keys,fun i v e=>?_⟩,n1,n2,n3⟩,fun b o e' m1 _=>by rw [Ak m1]; exact e'⟩;obtain ⟨l,b,t,e1,e2,e3,e4⟩:=h4.val i v e;exact ⟨l,b,t,e1,e2,e3,other e4 (by intro z; cases z)⟩
theorem Ir (g:GA):(fl6 g).lookup ("counted" : Str)=none:=EN g (by decide +kernel) (by decide +kernel) (by decide +kernel) (by decide +kernel) (by decide +kernel) (by decide +kernel)
theorem Gd (g:GA):(fl6 g).lookup ("living" : Str)=none:=EN g (by decide +kernel) (by decide +kernel) (by decide +kernel) (by decide +kernel) (by decide +kernel) (by decide +kernel)
end J
namespace J
open PySem L2
seal L2.PA L2.PE L2.PS L2.PSs L2.PT L2.PW
theorem DY.mem {G:Gv} {n i:Nat} {q:Sq} {x y z w:Nat} (h:DY G n i q x y z w) {j:Nat} {v:V} (e:(q.parts.map V.int)[j]?=some v):∃ k:Nat,v=.int k/\Aj G k n/\q.parts[j]?=some (k:Int):=by
 rw [List.getElem?_map] at e;obtain ⟨p,hp,rfl⟩:=Option.map_eq_some_iff.mp e;have hm:=List.mem_of_getElem? hp;rw [h.ps] at hm;simp only [List.mem_cons,List.not_mem_nil,or_false] at hm;rcases hm with rfl | rfl | rfl | rfl
 ·exact ⟨x,rfl,h.hx,hp⟩
 ·exact ⟨y,rfl,h.hy,hp⟩
 ·exact ⟨z,rfl,h.hz,hp⟩
 ·exact ⟨w,rfl,h.hw,hp⟩
section
variable {P:Program} {w:World} {K:PySem.W.Frag} {mg:Str->Option Value} {base:Heap} {a:Ad}
inductive SpCnt (a:Ad) (n:Nat) (vs:List V) (H:Hp) (Q:VK):Prop
 | mk (g:GA) (G:Gv) (i l:Nat) (_:vs=[.ref g.p,.int i]) (_:AI a H g G) (_:Aj G i l) (_:l < n) (_:G.length < 9000000) (_:∀ H',FrQ g H H'->AI a H' g G->Q (.int (BZ G l i)) H'):SpCnt a n vs H Q
def NO (a:Ad) (n:Nat):Sp:=fun vs H Q _=>SpCnt a n vs H Q
theorem Qw {f:Addr} {fd:FuncData} (F:Fun K "counted" "Grove.counted" Bj f fd) (T:Top K mg a) (Me:GB K a.c_Grove "counted" f) (Bi:Do K fd Bl []):∀ n,AW P w K mg base CX0 (n+1) f fd Bl (NO a n)
 | 0=>by
  refine F.ok CD (fun vs H Q E h=>?_) (fun cdv A outer s H vs Q E hr h=>?_)
  ·obtain ⟨g,G,i,l,rfl,_,_,h0,_⟩:=h;exact absurd h0 (Nat.not_lt_zero _)
  ·obtain ⟨g,G,i,l,rfl,_,_,h0,_⟩:=h;exact absurd h0 (Nat.not_lt_zero _)
 | n+1=>by
  have aQ:Ch P w K mg base CX0 (n+1) a.c_Grove "counted" Bl (NO a n):=⟨⟨f,fd,Qw F T Me Bi n,Me,Bi⟩,T.cl_Grove⟩
  refine F.ok CD (fun vs H Q E h=>?_) (fun cdv A outer s H vs Q E hr h=>?_)
  ·obtain ⟨g,G,i,l,rfl,_⟩:=h;rfl
  ·obtain ⟨g,G,i,l,rfl,fu,hl,ln,few,k⟩:=h;obtain ⟨ks,ham,aok⟩:=fu.am;refine ⟨_,(Ac (Ar (i:=2) CD.nd rfl (Or.inl rfl) (LS (Mi hr) (AL (pv 0) rfl) (pv 1) ⟨rfl,rfl,rfl,rfl⟩)) (Ac (AO (AB Qp (pv 2) JT (AE _)) (Ac (Ar (i:=2) CD.nd rfl (Or.inl rfl) (AJ (Ra rfl) rfl T.b_sum PyProof.Rows.boot_sum (Aa (JU rfl (AV.of (So:=Ae Bj) (No:=EU) (N:=["quarter","self"]) (k:=1) (cs:=[0]) rfl rfl (by decide +kernel)) (Qg (Aw AF (AL (pv 0) rfl) (pv 1) (fun _ _=>rfl))) (fun _ _ _=>(Es (i:=0) (by decide +kernel) rfl rfl)) (fun _ _ _=>FO) (fun _ _ _=>(Ay (pv 1) aQ (rm hr) Al (Aa (pv 0) Ab)))) Ab))) (Ag (JR (Mi hr) (AL (pv 0) rfl) (pv 1) (pv 2) rfl))) At) (Ag (Aq (pv 2))))),?_⟩
   try dsimp only [cxK]
   refine xwf rfl rfl fu.at'.hp T.cl_Grove T.na_Grove_amounts (Nr g) ⟨g.am,rfl,.inl ⟨_,.inl ham⟩,(xq1 rfl ⟨_,MD.k (k:=Sum.inl (i:Int)) ham,?_⟩)⟩;cases e:Cv ks (Sum.inl (i:Int)) with
   | some v =>
    obtain ⟨l',hl',rfl⟩:=aok.val i v e;have el:l'=l:=Int.ofNat.inj (hl'.uniq hl);subst el;exact xq1 rfl ⟨rfl,(xq1 rfl (Bv (xq1 rfl (k H (FrQ.refl g H) fu))))⟩
   | none =>
    refine xq1 rfl ⟨rfl,(xq1 rfl (Cw ?_))⟩;cases l with
    | zero =>
     obtain ⟨v,ev⟩:=aok.leaf i (leaf_of fu.ok hl);rw [e] at ev;cases ev
    | succ m =>
     obtain ⟨q,x,y,z,w,nd⟩:=BF fu.ok hl;obtain ⟨ts,h3,h4⟩:=fu.at'.pt;obtain ⟨t,et,ht⟩:=PairedM.get h4 nd.g;have ht:H t=some (.tup (q.parts.map V.int)):=ht;have nt:=fu.ne_am ht (by intro l z; cases z);refine xwf rfl rfl fu.at'.hp T.cl_Grove T.na_Grove_parts (EM g) (xwi rfl rfl rfl (SqL.of h3) (Ai (by rw [List.getElem?_map,et]; rfl)) ⟨t,rfl,⟨_,SqT.of ht⟩,?_⟩);refine Op (xs:=q.parts.map V.int) (fun j acc H2=>FrQ g H H2/\AI a H2 g G/\acc=((q.parts.take j).map fun (p:Int)=>BZ G m p.toNat).map V.int) ⟨FrQ.refl g H,fu,rfl⟩ (fun j acc H2 _ z=>SqT.of (z.1 _ _ ht nt.1 nt.2)) ?_ ?_
     ·rintro j v acc H2 ev ⟨fr,fu2,rfl⟩;obtain ⟨k',rfl,hk,ek⟩:=nd.mem ev;refine ⟨⟨[some (.int k')],rfl,rfl⟩,by rw [List.length_map,List.length_map,List.length_take,nd.ps]; exact Eg (by show min j 4 < 10000000; lia),Pq (xq1 rfl ⟨g.p,g.dx,(xq1 rfl ⟨fu2.at'.hp,Ir g,(xq1 rfl ⟨g,G,k',m,rfl,fu2,hk,by lia,few,fun H3 fr3 fu3=>⟨fr.trans fr3,fu3,?_⟩⟩)⟩)⟩)⟩;rw [List.take_add_one,ek,List.map_append,List.map_append];rfl
     ·rintro acc H2 ⟨fr,fu2,rfl⟩ qd hq;rw [List.length_map,List.take_length] at *
      have s3:=same_up (o:=.lst ((q.parts.map fun (p:Int)=>BZ G m p.toNat).map V.int)) hq;have fu3:=fu2.same s3;refine ⟨qd,q.parts.map fun (p:Int)=>BZ G m p.toNat,rfl,SqL.of Ah,?_⟩;generalize upd H2 qd (.lst ((q.parts.map fun (p:Int)=>BZ G m p.toNat).map V.int))=H3 at s3 fu3 ⊢;obtain ⟨ks3,ham3,aok3⟩:=fu3.am;have lk:=aok3.keys.len;have es:(q.parts.map fun (p:Int)=>BZ G m p.toNat).sum=BZ G (m+1) i:=by
       rw [Eu nd,nd.ps];rfl
      rw [es];obtain ⟨fu4,fr4⟩:=fu3.am_put ham3 (aok3.put (l:=m+1) hl);exact xw2 rfl rfl (xq5 fu3.at'.hp T.cl_Grove T.na_Grove_amounts (Nr g) (xq1 rfl ⟨g.am,(xq1 rfl ⟨Lr.k (k:=Sum.inl (i:Int)) ham3 (Eg (by lia)),(xq1 rfl (k _ ((fr.trans (Az.frq s3)).trans fr4) fu4))⟩)⟩))
inductive SpLiv (a:Ad) (vs:List V) (H:Hp) (Q:VK):Prop
 | mk (g:GA) (G:Gv) (i l:Nat) (_:vs=[.ref g.p,.int i]) (_:AI a H g G) (_:Aj G i l) (_:G.length < 9000000) (_:∀ H',FrQ g H H'->AI a H' g G->Q (.int (BZ G l i)) H'):SpLiv a vs H Q
def LD (a:Ad):Sp:=fun vs H Q _=>SpLiv a vs H Q
theorem ok_liv {f:Addr} {fd:FuncData} (F:Fun K "living" "Grove.living" BT f fd) (T:Top K mg a) (aF:Ch P w K mg base CX0 2 a.c_Grove "check_square" AC (NP a)) (aQ:Ch P w K mg base CX0 50 a.c_Grove "counted" Bl (NO a 49)):AW P w K mg base CX0 51 f fd BD (LD a):=by
 refine F.ok GN (fun vs H Q E h=>?_) (fun cdv A outer s H vs Q E hr h=>?_)
 ·obtain ⟨g,G,i,l,rfl,_⟩:=h;rfl
 ·obtain ⟨g,G,i,l,rfl,fu,hl,few,k⟩:=h;refine ⟨_,(Ac (Cu (Ay (pv 0) aF (rm hr) Al (Aa (pv 1) Ab))) (Ag (Aq (Ay (pv 0) aQ (rm hr) Al (Aa (pv 1) Ab))))),?_⟩
  try dsimp only [cxK]
  have l48:l < 49:=by
   obtain ⟨q,e,el⟩:=id hl;have:=(fu.ok.lev e).2;lia
  refine xq1 rfl ⟨g.p,g.dx,(xq1 rfl ⟨fu.at'.hp,Iu g,(xq1 rfl ⟨g,G,i,rfl,fu.at',hl.lt,?_⟩)⟩)⟩;exact xq1 rfl ⟨g.p,g.dx,(xq1 rfl ⟨fu.at'.hp,Ir g,(xq1 rfl ⟨g,G,i,l,rfl,fu,hl,l48,few,k⟩)⟩)⟩
end
end J
namespace J
open PySem L2
theorem PairedM.getL {α β:Type} {F:α->β->Prop}:∀ {l:List α} {m:List β} {i:Nat} {x:α},Paired F l m->l[i]?=some x->∃ y,m[i]?=some y/\F x y
 | _,_,_,_,.nil,e=>by simp at e
 | _,_,0,_,.cons r _,e=>by simp at e; subst e; exact ⟨_,rfl,r⟩
 | _,_,i+1,x,.cons _ t,e=>by
  obtain ⟨y,h1,h2⟩:=PairedM.getL (i:=i) (x:=x) t (by simpa using e);exact ⟨y,by simpa using h1,h2⟩
section
variable {P:Program} {w:World} {K:PySem.W.Frag} {mg:Str->Option Value} {base:Heap} {a:Ad}
theorem NG (m:Nat) {l:Int} (e:l=(m:Int)+1):(1:Int) * 2 ^ (l - 1).toNat=2 ^ m:=by
 rw [e,Int.one_mul,show ((m:Int)+1 - 1).toNat=m by lia]
end
end J
namespace J
open PySem L2
seal L2.PA L2.PE L2.PS L2.PSs L2.PT L2.PW
def atN (ns:List Int) (k:Int):Int:=ns.getD k.toNat 0
section
variable {P:Program} {w:World} {K:PySem.W.Frag} {mg:Str->Option Value} {base:Heap} {a:Ad}
inductive SpAt (K:PySem.W.Frag) (vs:List V) (H:Hp) (Q:VK):Prop
 | mk (l:Addr) (ns:List Int) (k:Int) (_:vs=[.ref l,.int k]) (_:SqL K H l (ns.map V.int)) (_:0<=k) (_:Q (.int (atN ns k)) H):SpAt K vs H Q
def spAt (K:PySem.W.Frag):Sp:=fun vs H Q _=>SpAt K vs H Q
theorem ok_at {f:Addr} {fd:FuncData} (F:Fun K "_law_at" "_law_at" DN f fd) (T:Top K mg a):AW P w K mg base CX0 1 f fd DP (spAt K):=by
 refine F.ok ML (fun vs H Q E h=>?_) (fun cdv A outer s H vs Q E hr h=>?_)
 ·obtain ⟨l,ns,k,rfl,_⟩:=h;rfl
 ·obtain ⟨l,ns,k,rfl,hS,h0,q⟩:=h;refine ⟨_,(Ac (AO (AB FQ (pv 1) (AJ Cg rfl T.b_len PySem.boot_len (Aa (pv 0) Ab)) (AE _)) (Ag (Aq (Aw AF (pv 0) (pv 1) (fun _ _=>rfl)))) At) (Ag (Aq Af))),?_⟩
  try dsimp only [cxK]
  refine ⟨_,rfl,_,rfl,l,_,rfl,.inl hS,_,_,rfl,rfl,_,rfl,?_⟩;obtain ⟨n,rfl⟩:=Int.eq_ofNat_of_zero_le h0;refine ite2 (fun hc=>?_) (fun hc=>?_)
  ·have hc':n < ns.length:=by
    have:=of_decide_eq_true hc;rw [List.length_map] at this;lia
   refine ⟨_,rfl,_,rfl,l,_,n,.int ns[n],rfl,rfl,hS,Ai (by rw [List.getElem?_map,List.getElem?_eq_getElem hc']; rfl),?_⟩;have e:atN ns (n:Int)=ns[n]:=by
    unfold atN;rw [Int.toNat_natCast,List.getD_eq_getElem?_getD,List.getElem?_eq_getElem hc'];rfl
   rw [e] at q;exact q
  ·have hc':ns.length<=n:=by
    have:¬ (n:Int) < ((ns.map V.int).length:Int):=fun z=>hc (decide_eq_true z);rw [List.length_map] at this;lia
   have e:atN ns (n:Int)=0:=by
    unfold atN;rw [Int.toNat_natCast,List.getD_eq_getElem?_getD,List.getElem?_eq_none hc'];rfl
   rw [e] at q;exact q
end
end J
namespace J
open PySem L2
def Ap (g:GA) (x:Addr):Prop:=x≠g.lv/\x≠g.pt/\x≠g.nm
theorem Ap.new {a:Ad} {H:Hp} {g:GA} {G:Gv} (h:AD a H g G) {x:Addr} (n:H x=none):Ap g x:=by
 obtain ⟨ts,h3,_⟩:=h.pt;exact ⟨Ne.symm (An h.lv n),Ne.symm (An h3 n),Ne.symm (An h.nm n)⟩
theorem Fr.get {g:GA} {H H':Hp} {x:Addr} {o:HO} (f:Fr g H H') (p:Ap g x) (e:H x=some o):H' x=some o:=f _ _ e p.1 p.2.1 p.2.2
theorem Fr.tup {a:Ad} {g:GA} {G:Gv} {H H':Hp} {x:Addr} {l:List V} (f:Fr g H H') (h:AD a H g G) (e:H x=some (.tup l)):H' x=some (.tup l):=by
 obtain ⟨us,h3,_⟩:=h.pt;exact f _ _ e (Bb e h.lv (by intro z; cases z)) (Bb e h3 (by intro z; cases z)) (Bb e h.nm (by intro z; cases z))
theorem AN.mono {G G':Gv} {n m:Nat} (h:AN G G' n) (e:n<=m):AN G G' m:=⟨h.ok,h.pre,Nat.le_trans h.few (by lia)⟩
theorem Sol.node {G:Gv} (ok:GOk G) {s l n:Nat} (hs:s < 8) (h:Sol G s (l+1) n):∃ q m,DY G l n q m m m m/\Sol G s l m:=by
 obtain ⟨m,h1,h2⟩:=h;have:=Sol.lev ok hs h1;exact ⟨_,m,⟨h2,rfl,rfl,this,this,this,this⟩,h1⟩
theorem par_all {h:Int} (hh:0<=h):Qo h [some ⟨0,0,h,h⟩,some ⟨0,0,h,h⟩,some ⟨0,0,h,h⟩,some ⟨0,0,h,h⟩]=some ⟨0,0,h+h,h+h⟩:=by
 show some (Nh [shB h 0 ⟨0,0,h,h⟩,shB h 1 ⟨0,0,h,h⟩,shB h 2 ⟨0,0,h,h⟩,shB h 3 ⟨0,0,h,h⟩])=_;have e0:shB h 0 ⟨0,0,h,h⟩=⟨0,0,h,h⟩:=by show Bx.mk (0+h * 0) (0+h * 0) h h=_; rw [Int.mul_zero,Int.add_zero]
 have e1:shB h 1 ⟨0,0,h,h⟩=⟨h,0,h,h⟩:=by show Bx.mk (0+h * 1) (0+h * 0) h h=_; rw [Int.mul_zero,Int.add_zero,Int.mul_one,Int.zero_add]
 have e2:shB h 2 ⟨0,0,h,h⟩=⟨0,h,h,h⟩:=by show Bx.mk (0+h * 0) (0+h * 1) h h=_; rw [Int.mul_zero,Int.add_zero,Int.mul_one,Int.zero_add]
 have e3:shB h 3 ⟨0,0,h,h⟩=⟨h,h,h,h⟩:=by show Bx.mk (0+h * 1) (0+h * 1) h h=_; rw [Int.mul_one,Int.zero_add]
 rw [e0,e1,e2,e3];unfold Nh;have m1:mnL ([(⟨0,0,h,h⟩:Bx),⟨h,0,h,h⟩,⟨0,h,h,h⟩,⟨h,h,h,h⟩].map (·.l))=0:=(Qz (by simp) (by simp; exact hh)).symm;have m2:mnL ([(⟨0,0,h,h⟩:Bx),⟨h,0,h,h⟩,⟨0,h,h,h⟩,⟨h,h,h,h⟩].map (·.t))=0:=(Qz (by simp) (by simp; exact hh)).symm;have m3:mxL ([(⟨0,0,h,h⟩:Bx),⟨h,0,h,h⟩,⟨0,h,h,h⟩,⟨h,h,h,h⟩].map fun b=>b.l+b.w)=h+h:=(Qy (by simp) (by simp; lia)).symm;have m4:mxL ([(⟨0,0,h,h⟩:Bx),⟨h,0,h,h⟩,⟨0,h,h,h⟩,⟨h,h,h,h⟩].map fun b=>b.t+b.h)=h+h:=(Qy (by simp) (by simp; lia)).symm;rw [m1,m2,m3,m4,Int.sub_zero]
theorem FP (l:Nat):(0:Int) < 2 ^ l:=Int.pow_pos (by decide)
theorem NU {l:Nat} (h:l < 64):(2:Int) ^ l < 2 ^ 64:=by
 have:(2:Nat) ^ l < 2 ^ 64:=Nat.pow_lt_pow_right (by decide) h
 exact_mod_cast this
theorem sol_1 {G:Gv} (ok:GOk G) {s:Nat} (hs:s < 8) (h0:s≠0):∀ (l n:Nat),Sol G s l n->BZ G l n=2 ^ l * 2 ^ l/\Gy G l n=some ⟨0,0,2 ^ l,2 ^ l⟩
 | 0,n,h=>by
  have h:n=s:=h;subst h;exact ⟨by show (if n=0 then (0:Int) else 1)=_; rw [if_neg h0]; rfl,by show (if n=0 then none else some (⟨0,0,1,1⟩:Bx))=_; rw [if_neg h0]; rfl⟩
 | l+1,n,h=>by
  obtain ⟨q,m,nd,h1⟩:=h.node ok hs;obtain ⟨e1,e2⟩:=sol_1 ok hs h0 l m h1;have e3:(2:Int) ^ (l+1)=2 ^ l+2 ^ l:=by rw [Int.pow_succ]; lia
  rw [Eu nd,Gx nd,e2,par_all (Int.le_of_lt (FP l)),e3];refine ⟨?_,rfl⟩;show BZ G l m+(BZ G l m+(BZ G l m+(BZ G l m+0)))=_;rw [e1,Int.add_mul,Int.mul_add];lia
section
variable {P:Program} {w:World} {K:PySem.W.Frag} {mg:Str->Option Value} {base:Heap} {a:Ad}
end
end J
namespace J
open PySem L2
seal L2.PA L2.PE L2.PS L2.PSs L2.PT L2.PW
theorem Er (l:Nat):(2:Int) ^ (l+1)=2 ^ l+2 ^ l:=by rw [Int.pow_succ]; lia
def DJ (x y w h r:Int):Prop:=-r<=x/\-r<=y/\x+w<=r/\y+h<=r
instance (x y w h r:Int):Decidable (DJ x y w h r):=by unfold DJ; infer_instance
theorem lies_b (x y w h r:Int):(decide (-r<=x) && (decide (-r<=y) && (decide (x+w<=r) && decide (y+h<=r))))=decide (DJ x y w h r):=by
 rw [Bool.eq_iff_iff];simp only [Bool.and_eq_true,decide_eq_true_eq];exact Iff.rfl
structure Wid (G:Gv) (n f w:Nat):Prop where
 ex:∃ (q:Sq) (x y z v a b c d:Nat),DY G n f q x y z v/\G[a]?=some ⟨[(bareN n:Int),(bareN n:Int),(bareN n:Int),(x:Int)],(n:Int)+1⟩/\G[b]?=some ⟨[(bareN n:Int),(bareN n:Int),(y:Int),(bareN n:Int)],(n:Int)+1⟩ /\
  G[c]?=some ⟨[(bareN n:Int),(z:Int),(bareN n:Int),(bareN n:Int)],(n:Int)+1⟩/\G[d]?=some ⟨[(v:Int),(bareN n:Int),(bareN n:Int),(bareN n:Int)],(n:Int)+1⟩/\G[w]?=some ⟨[(a:Int),(b:Int),(c:Int),(d:Int)],(n:Int)+2⟩
theorem Wid.lev {G:Gv} {n f w:Nat} (h:Wid G n f w):Aj G w ((n+2:Nat):Int):=by
 obtain ⟨q,x,y,z,v,a,b,c,d,nd,ea,eb,ec,ed,ew⟩:=h.ex;exact ⟨_,ew,by show (n:Int)+2=_; lia⟩
theorem Wid.app {G G':Gv} {k n f w:Nat} (go:AN G G' k) (h:Wid G n f w):Wid G' n f w:=by
 obtain ⟨q,x,y,z,v,a,b,c,d,nd,ea,eb,ec,ed,ew⟩:=h.ex;exact ⟨q,x,y,z,v,a,b,c,d,nd.app go,go.get ea,go.get eb,go.get ec,go.get ed,go.get ew⟩
theorem Ew {G r:Gv} (e:G=G0 ++ r) {n:Nat} (h:n<=48):Aj G (bareN n) (n:Int):=by
 rw [e];exact (QR n h).app
theorem bareL_at' {l:Nat} (h:l<=48):((Dm 48).map V.int)[l]?=some (.int (bareN l:Int)):=by
 unfold Dm;rw [List.getElem?_map,List.getElem?_map,List.getElem?_range (by lia)];rfl
section
variable {P:Program} {w:World} {K:PySem.W.Frag} {mg:Str->Option Value} {base:Heap} {a:Ad}
inductive SpLie (vs:List V) (H:Hp) (Q:VK):Prop
 | mk (t:Addr) (x y w h r:Int) (_:vs=[.ref t,.int r]) (_:H t=some (.tup [.int x,.int y,.int w,.int h])) (_:Q (.bl (decide (DJ x y w h r))) H):SpLie vs H Q
def LE:Sp:=fun vs H Q _=>SpLie vs H Q
theorem ok_lie {f:Addr} {fd:FuncData} (F:Fun K "lies_within" "lies_within" Ck f fd) (T:Top K mg a):AW P w K mg base CX0 1 f fd BN LE:=by
 refine F.ok Ii (fun vs H Q E h=>?_) (fun cdv A outer s H vs Q E hr h=>?_)
 ·obtain ⟨t,x,y,w,h,r,rfl,_⟩:=h;rfl
 ·obtain ⟨t,x,y,wd,hh,r,rfl,ht,k⟩:=h;rw [<-lies_b] at k;refine ⟨_,(Ag (Aq (EG (Ef Fu (Ft Ej (pv 1)) (Aw AQ (pv 0) Af (fun _ _=>rfl)) (AE _)) (EG (Ef Fu (Ft Ej (pv 1)) (Aw AQ (pv 0) Af (fun _ _=>rfl)) (AE _)) (EG (Ef Fu (As Bo (Aw AQ (pv 0) Af (fun _ _=>rfl)) (Aw AQ (pv 0) Af (fun _ _=>rfl))) (pv 1) (AE _)) (FF (Ef Fu (As Bo (Aw AQ (pv 0) Af (fun _ _=>rfl)) (Aw AQ (pv 0) Af (fun _ _=>rfl))) (pv 1) (AE _)))))))),?_⟩
  try dsimp only [cxK]
  refine xw3 rfl rfl rfl (xq4 rfl rfl (SqT.of ht) (Ai (j:=0) rfl) (xq2 rfl rfl (Lp (fun _ Q1 q1=>?_) k)));refine xw3 rfl rfl rfl (xq4 rfl rfl (SqT.of ht) (Ai (j:=1) rfl) (xq2 rfl rfl (Lp (fun _ Q2 q2=>?_) q1)));refine xwi rfl rfl rfl (SqT.of ht) (Ai (j:=0) rfl) (xwi rfl rfl rfl (SqT.of ht) (Ai (j:=2) rfl) (xq2 rfl rfl (xwb rfl rfl rfl (Lp (fun _ Q3 q3=>?_) q2))));exact xwi rfl rfl rfl (SqT.of ht) (Ai (j:=1) rfl) (xwi rfl rfl rfl (SqT.of ht) (Ai (j:=3) rfl) (xq2 rfl rfl (xwb rfl rfl rfl q3)))
inductive Ou (a:Ad) (vs:List V) (H:Hp) (Q:VK):Prop
 | mk (g:GA) (G:Gv) (i n:Nat) (_:vs=[.ref g.p,.int i]) (_:AD a H g G) (_:Aj G i ((n+1:Nat):Int)) (_:n < 48) (_:Q (.int (2 ^ n)) H):Ou a vs H Q
def EB (a:Ad):Sp:=fun vs H Q _=>Ou a vs H Q
theorem Qs {f:Addr} {fd:FuncData} (F:Fun K "reach_of" "reach_of" Dv f fd) (T:Top K mg a) (aB:Ch P w K mg base CX0 3 a.c_Grove "level_of" AA (Jl a)):AW P w K mg base CX0 4 f fd Cb (EB a):=by
 refine F.ok LJ (fun vs H Q E h=>?_) (fun cdv A outer s H vs Q E hr h=>?_)
 ·obtain ⟨g,G,i,n,rfl,_⟩:=h;rfl
 ·obtain ⟨g,G,i,n,rfl,hg,⟨q,e,el⟩,n48,k⟩:=h;refine ⟨_,(Ag (Aq (As MQ Af (As Cs (Ay (pv 0) aB (rm hr) Al (Aa (pv 1) Ab)) Af)))),?_⟩
  try dsimp only [cxK]
  have en:q.lev=(n:Int)+1:=by rw [el]; lia
  refine xwn rfl rfl hg.hp (Dz g) rfl ⟨g,G,i,q,rfl,hg,e,(xq2 rfl rfl (xq2 rfl rfl ⟨⟨by lia,by lia,by decide⟩,?_⟩))⟩;show Q (.int (1 * 2 ^ (q.lev - 1).toNat)) H;rw [NG n en];exact k
inductive Ox (a:Ad) (vs:List V) (H:Hp) (Q:VK):Prop
 | mk (g:GA) (G:Gv) (_:vs=[.ref g.p]) (_:AI a H g G) (_:Q (.int (bareN 1:Int)) H):Ox a vs H Q
def GY (a:Ad):Sp:=fun vs H Q _=>Ox a vs H Q
theorem Qx {f:Addr} {fd:FuncData} (F:Fun K "bare_field" "bare_field" CF f fd) (T:Top K mg a):AW P w K mg base CX0 1 f fd CJ (GY a):=by
 refine F.ok IU (fun vs H Q E h=>?_) (fun cdv A outer s H vs Q E hr h=>?_)
 ·obtain ⟨g,G,rfl,_⟩:=h;rfl
 ·obtain ⟨g,G,rfl,fu,k⟩:=h;exact ⟨_,(Ag (Aq (Aw AF (AL (pv 0) rfl) (Bg rfl T.k_LEAST_LEVEL) (fun _ _=>rfl)))),(xwf rfl rfl fu.at'.hp T.cl_Grove T.na_Grove_bares (Go g) (xq4 rfl rfl (SqL.of fu.br) (Ai (j:=1) (bareL_at' (by lia))) k))⟩
inductive SpWid (a:Ad) (vs:List V) (H:Hp) (Q:VK):Prop
 | mk (g:GA) (G:Gv) (f n:Nat) (_:vs=[.ref g.p,.int f]) (_:AI a H g G) (_:Aj G f ((n+1:Nat):Int)) (_:n < 47) (_:G.length < 8900000) (_:∀ (w:Nat) (G':Gv) (H':Hp),Fr g H H'->AD a H' g G'->AN G G' 5->Wid G' n f w->Q (.int w) H'):SpWid a vs H Q
def PC (a:Ad):Sp:=fun vs H Q _=>SpWid a vs H Q
theorem ok_wid {f:Addr} {fd:FuncData} (F:Fun K "widened" "widened" Ds f fd) (T:Top K mg a) (aB:Ch P w K mg base CX0 3 a.c_Grove "level_of" AA (Jl a)) (aA:Ch P w K mg base CX0 2 a.c_Grove "linked" AZ (FC a)):AW P w K mg base CX0 4 f fd Db (PC a):=by
 refine F.ok Cy (fun vs H Q E h=>?_) (fun cdv A outer s H vs Q E hr h=>?_)
 ·obtain ⟨g,G,f',n,rfl,_⟩:=h;rfl
 ·obtain ⟨g,G,f',n,rfl,fu,hl,n47,few,k⟩:=h;obtain ⟨q,x,y,z,v,nd⟩:=BF fu.ok hl;have lq:=nd.lev;obtain ⟨ts,h3,h4⟩:=fu.at'.pt;obtain ⟨t,et,ht⟩:=PairedM.get h4 nd.g;have ht:H t=some (.tup [.int x,.int y,.int z,.int v]):=by
   have ht:H t=some (.tup (q.parts.map V.int)):=ht;rw [nd.ps] at ht;exact ht
  obtain ⟨r,e0⟩:=fu.g0;have lb:=Ew e0 (n:=n) (by lia);refine ⟨_,(Ac (Ar (i:=2) Cy.nd rfl (Or.inl rfl) (Ay (pv 0) aB (rm hr) Al (Aa (pv 1) Ab))) (Ac (AO (PW.pt (FN (AB FQ (pv 2) (Bg rfl T.k_LEAST_LEVEL) (AE _)) (EC (AB DH (pv 2) (Bg rfl T.k_TOP_LEVEL) (AE _))))) (Ag Dh) At) (Ac (Ar (i:=3) Cy.nd rfl (Or.inl rfl) (Aw AF (AL (pv 0) rfl) (pv 1) (fun _ _=>rfl))) (Ac (Ar (i:=4) Cy.nd rfl (Or.inl rfl) (Aw AF (AL (pv 0) rfl) (As Cs (pv 2) Af) (fun _ _=>rfl))) (Ag (Aq (Ay (pv 0) aA (rm hr) Al (Bk (Aa (Ay (pv 0) aA (rm hr) Al (Bk (Aa (pv 4) (Aa (pv 4) (Aa (pv 4) (Aa (Aw AQ (pv 3) Af (fun _ _=>rfl)) Ab)))) Ab)) (Aa (Ay (pv 0) aA (rm hr) Al (Bk (Aa (pv 4) (Aa (pv 4) (Aa (Aw AQ (pv 3) Af (fun _ _=>rfl)) (Aa (pv 4) Ab)))) Ab)) (Aa (Ay (pv 0) aA (rm hr) Al (Bk (Aa (pv 4) (Aa (Aw AQ (pv 3) Af (fun _ _=>rfl)) (Aa (pv 4) (Aa (pv 4) Ab)))) Ab)) (Aa (Ay (pv 0) aA (rm hr) Al (Bk (Aa (Aw AQ (pv 3) Af (fun _ _=>rfl)) (Aa (pv 4) (Aa (pv 4) (Aa (pv 4) Ab)))) Ab)) Ab)))) Ab)))))))),?_⟩
  try dsimp only [cxK]
  refine xq1 rfl ⟨g.p,g.dx,(xq1 rfl ⟨fu.at'.hp,Dz g,(xq1 rfl ⟨g,G,f',q,rfl,fu.at',nd.g,?_⟩)⟩)⟩;refine xwb rfl rfl rfl (xq1 rfl ?_);rw [decide_eq_false (by lia:¬ q.lev < 1)];refine Bv (xq1 rfl ⟨rfl,(xq1 rfl ?_)⟩);rw [decide_eq_false (by intro z; injection z with z; lia)];refine Bv (xwf rfl rfl fu.at'.hp T.cl_Grove T.na_Grove_parts (EM g) (xwi rfl rfl rfl (SqL.of h3) (Ai (by rw [List.getElem?_map,et]; rfl)) ?_));refine xwf rfl rfl fu.at'.hp T.cl_Grove T.na_Grove_bares (Go g) (xwb rfl rfl rfl (xq4 rfl rfl (SqL.of fu.br) (by rw [show q.lev - 1=(n:Int) by lia]; exact Ai (bareL_at' (by lia))) ?_));refine xq1 rfl ⟨g.p,g.dx,(xq1 rfl ⟨fu.at'.hp,Dd g,?_⟩)⟩;refine xq1 rfl ⟨g.p,g.dx,(xq1 rfl ⟨fu.at'.hp,Dd g,(xw3 rfl rfl rfl (xwi rfl rfl rfl (SqT.of ht) (Ai (j:=0) rfl) ⟨(by show 4<=sizeLine; decide),fun t1 ht1=>?_⟩))⟩)⟩;have s1:=same_up (o:=.tup [.int (bareN n:Int),.int (bareN n:Int),.int (bareN n:Int),.int x]) ht1;refine ⟨g,G,t1,bareN n,bareN n,bareN n,x,(n:Int),rfl,fu.at'.same s1,fu.ok,Ah,⟨lb,lb,lb,nd.hx⟩,by lia,by lia,fun a1 G1 H1 fr1 hg1 go1 e1=>?_⟩;have f1:=(Az.fr s1).trans fr1;have htA:=f1.tup fu.at' ht;have n1:=go1.few;refine xwn rfl rfl hg1.hp (Dd g) rfl (xwj rfl rfl rfl rfl (SqT.of htA) (Ai (j:=1) rfl) (xq1 rfl ⟨(by show 4<=sizeLine; decide),fun t2 ht2=>?_⟩));have s2:=same_up (o:=.tup [.int (bareN n:Int),.int (bareN n:Int),.int y,.int (bareN n:Int)]) ht2;refine ⟨g,G1,t2,bareN n,bareN n,y,bareN n,(n:Int),rfl,hg1.same s2,go1.ok,Ah,⟨go1.lev lb,go1.lev lb,go1.lev nd.hy,go1.lev lb⟩,by lia,by lia,fun a2 G2 H2 fr2 hg2 go2 e2=>?_⟩;have f2:=f1.trans ((Az.fr s2).trans fr2);have htB:=f2.tup fu.at' ht;have n2:=go2.few;have go12:=go1.trans go2;refine xwn rfl rfl hg2.hp (Dd g) rfl (xwi rfl rfl rfl (SqT.of htB) (Ai (j:=2) rfl) (xw2 rfl rfl ⟨(by show 4<=sizeLine; decide),fun t3 ht3=>?_⟩));have s3:=same_up (o:=.tup [.int (bareN n:Int),.int z,.int (bareN n:Int),.int (bareN n:Int)]) ht3;refine ⟨g,G2,t3,bareN n,z,bareN n,bareN n,(n:Int),rfl,hg2.same s3,go2.ok,Ah,⟨go12.lev lb,go12.lev nd.hz,go12.lev lb,go12.lev lb⟩,by lia,by lia,fun a3 G3 H3 fr3 hg3 go3 e3=>?_⟩;have f3:=f2.trans ((Az.fr s3).trans fr3);have htC:=f3.tup fu.at' ht;have n3:=go3.few;have go13:=go12.trans go3;refine xwn rfl rfl hg3.hp (Dd g) rfl (xq4 rfl rfl (SqT.of htC) (Ai (j:=3) rfl) (xw3 rfl rfl rfl ⟨(by show 4<=sizeLine; decide),fun t4 ht4=>?_⟩));have s4:=same_up (o:=.tup [.int v,.int (bareN n:Int),.int (bareN n:Int),.int (bareN n:Int)]) ht4;refine ⟨g,G3,t4,v,bareN n,bareN n,bareN n,(n:Int),rfl,hg3.same s4,go3.ok,Ah,⟨go13.lev nd.hw,go13.lev lb,go13.lev lb,go13.lev lb⟩,by lia,by lia,fun a4 G4 H4 fr4 hg4 go4 e4=>?_⟩;have f4:=f3.trans ((Az.fr s4).trans fr4);have n4:=go4.few;have go14:=go13.trans go4;refine ⟨(by show 4<=sizeLine; decide),fun t5 ht5=>?_⟩;have s5:=same_up (o:=.tup [.int a1,.int a2,.int a3,.int a4]) ht5;have E1:=(go2.trans (go3.trans go4)).get e1;have E2:=(go3.trans go4).get e2;have E3:=go4.get e3;refine ⟨g,G4,t5,a1,a2,a3,a4,(n:Int)+1,rfl,hg4.same s5,go4.ok,Ah,⟨⟨_,E1,rfl⟩,⟨_,E2,rfl⟩,⟨_,E3,rfl⟩,⟨_,e4,rfl⟩⟩,by lia,by lia,fun w' G5 H5 fr5 hg5 go5 e5=>?_⟩;have go15:=go14.trans go5;exact k w' G5 H5 (f4.trans ((Az.fr s5).trans fr5)) hg5 go15 ⟨q,x,y,z,v,a1,a2,a3,a4,nd.app go15,go5.get E1,go5.get E2,go5.get E3,go5.get e4,by rw [e5,show (n:Int)+1+1=(n:Int)+2 by lia]⟩
end
end J
namespace J
open PySem L2
seal L2.PA L2.PE L2.PS L2.PSs L2.PT L2.PW
structure FJ (G:Gv) (n i:Nat) (qs:Nat->Nat) (ps:Nat->Nat->Nat):Prop where
 node:∃ q,DY G (n+1) i q (qs 0) (qs 1) (qs 2) (qs 3)
 sub:∀ k,k < 4->∃ q,DY G n (qs k) q (ps k 0) (ps k 1) (ps k 2) (ps k 3)
theorem FJ.app {G G':Gv} {k n i:Nat} {qs:Nat->Nat} {ps:Nat->Nat->Nat} (go:AN G G' k) (h:FJ G n i qs ps):FJ G' n i qs ps:=by
 obtain ⟨q,nd⟩:=h.node;exact ⟨⟨q,nd.app go⟩,fun k hk=>by obtain ⟨q,nd⟩:=h.sub k hk; exact ⟨q,nd.app go⟩⟩
def f4 (x y z w:Nat) (k:Nat):Nat:=match k with | 0=>x | 1=>y | 2=>z | _=>w
theorem deep_of {G:Gv} (ok:GOk G) {n i:Nat} (h:Aj G i ((n+2:Nat):Int)):∃ qs ps,FJ G n i qs ps:=by
 obtain ⟨q,x,y,z,w,nd⟩:=BF ok (n:=n+1) h;obtain ⟨_,x0,x1,x2,x3,nx⟩:=BF ok nd.hx;obtain ⟨_,y0,y1,y2,y3,ny⟩:=BF ok nd.hy;obtain ⟨_,z0,z1,z2,z3,nz⟩:=BF ok nd.hz;obtain ⟨_,w0,w1,w2,w3,nw⟩:=BF ok nd.hw;refine ⟨f4 x y z w,fun k=>match k with | 0=>f4 x0 x1 x2 x3 | 1=>f4 y0 y1 y2 y3 | 2=>f4 z0 z1 z2 z3 | _=>f4 w0 w1 w2 w3,⟨q,nd⟩,fun k hk=>?_⟩
 match k,hk with
 | 0,_=>exact ⟨_,nx⟩
 | 1,_=>exact ⟨_,ny⟩
 | 2,_=>exact ⟨_,nz⟩
 | 3,_=>exact ⟨_,nw⟩
theorem DY.nat {G:Gv} {n i:Nat} {q:Sq} {x y z w:Nat} (h:DY G n i q x y z w) {j:Nat} (hj:j < 4):q.parts[j]?=some ((f4 x y z w j:Nat):Int)/\Aj G (f4 x y z w j) n:=by
 rw [h.ps]
 match j,hj with
 | 0,_=>exact ⟨rfl,h.hx⟩
 | 1,_=>exact ⟨rfl,h.hy⟩
 | 2,_=>exact ⟨rfl,h.hz⟩
 | 3,_=>exact ⟨rfl,h.hw⟩
theorem IJ (p:Nat->Nat) {j:Nat} (hj:j < 4):f4 (p 0) (p 1) (p 2) (p 3) j=p j:=by
 match j,hj with
 | 0,_=>rfl
 | 1,_=>rfl
 | 2,_=>rfl
 | 3,_=>rfl
def BA (n:Nat) (ps:Nat->Nat->Nat):Prop:=∀ k j,k < 4->j < 4->j+k≠3->ps k j=bareN n
def Dn (G:Gv):Nat->Nat->Nat->Prop
 | 0,_,_=>False
 | 1,f,r=>r=f
 | n+2,f,r=>∃ qs ps,FJ G n f qs ps/\((¬ BA n ps/\r=f)\/(BA n ps/\∃ m,G[m]?=some ⟨[(ps 0 3:Int),(ps 1 2:Int),(ps 2 1:Int),(ps 3 0:Int)],(n:Int)+1⟩/\Dn G (n+1) m r))
theorem Dn.app {G G':Gv} {k:Nat} (go:AN G G' k):∀ {n f r:Nat},Dn G n f r->Dn G' n f r
 | 0,_,_,h=>h
 | 1,_,_,h=>h
 | n+2,f,r,h=>by
  obtain ⟨qs,ps,d,h⟩:=h;refine ⟨qs,ps,d.app go,?_⟩;rcases h with h | ⟨h1,m,h2,h3⟩
  ·exact .inl h
  ·exact .inr ⟨h1,m,go.get h2,Dn.app go h3⟩
section
variable {P:Program} {w:World} {K:PySem.W.Frag} {mg:Str->Option Value} {base:Heap} {a:Ad}
theorem Fn {H:Hp} {g:GA} {G:Gv} (h:AD a H g G) {n i:Nat} {q:Sq} {x y z w:Nat} (nd:DY G n i q x y z w):∃ (ts:List Addr) (t:Addr),H g.pt=some (.lst (ts.map V.ref))/\(ts.map V.ref)[i]?=some (.ref t)/\H t=some (.tup [.int x,.int y,.int z,.int w]):=by
 obtain ⟨ts,h3,h4⟩:=h.pt;obtain ⟨t,et,ht⟩:=PairedM.get h4 nd.g;refine ⟨ts,t,h3,by rw [List.getElem?_map,et]; rfl,?_⟩;have ht:H t=some (.tup (q.parts.map V.int)):=ht;rw [nd.ps] at ht;exact ht
inductive SpMid (a:Ad) (vs:List V) (H:Hp) (Q:VK):Prop
 | mk (g:GA) (G:Gv) (i n:Nat) (qs:Nat->Nat) (ps:Nat->Nat->Nat) (_:vs=[.ref g.p,.int i]) (_:AD a H g G) (_:GOk G) (_:FJ G n i qs ps) (_:n < 47) (_:G.length < 8900000) (_:∀ (m:Nat) (G':Gv) (H':Hp),Fr g H H'->AD a H' g G'->AN G G' 1->G'[m]?=some ⟨[(ps 0 3:Int),(ps 1 2:Int),(ps 2 1:Int),(ps 3 0:Int)],(n:Int)+1⟩->Q (.int m) H'):SpMid a vs H Q
def NL (a:Ad):Sp:=fun vs H Q _=>SpMid a vs H Q
theorem ok_mid {f:Addr} {fd:FuncData} (F:Fun K "middle_of" "middle_of" CA f fd) (T:Top K mg a) (aA:Ch P w K mg base CX0 2 a.c_Grove "linked" AZ (FC a)):AW P w K mg base CX0 3 f fd Dc (NL a):=by
 refine F.ok FK (fun vs H Q E h=>?_) (fun cdv A outer s H vs Q E hr h=>?_)
 ·obtain ⟨g,G,i,n,qs,ps,rfl,_⟩:=h;rfl
 ·obtain ⟨g,G,i,n,qs,ps,rfl,hg,ok,dp,n47,few,k⟩:=h;obtain ⟨q,nd⟩:=dp.node;obtain ⟨ts,t,h3,et,ht⟩:=Fn hg nd;refine ⟨_,(Ac (MO (i:=2) rfl FK.nd rfl rfl (AV.of (So:=Ae CA) (No:=GK) (N:=["quarter","grove"]) (k:=1) (cs:=[0]) rfl rfl (by decide +kernel)) (Qg (Aw AF (AL (pv 0) rfl) (pv 1) (fun _ _=>rfl))) (fun _ _ _=>(Es (i:=0) (by decide +kernel) rfl rfl)) (fun _ _ _=>FO) (fun _ _ _=>(Aw (QN (K:=K) rfl) (pe_fldK (K:=K) rfl (pv 1) rfl) (pv 0) (fun _ _=>rfl)))) (Ag (Aq (Ay (pv 0) aA (rm hr) Al (Bk (Aa (Aw AQ (Aw AF (pv 2) Af (fun _ _=>rfl)) Af (fun _ _=>rfl)) (Aa (Aw AQ (Aw AF (pv 2) Af (fun _ _=>rfl)) Af (fun _ _=>rfl)) (Aa (Aw AQ (Aw AF (pv 2) Af (fun _ _=>rfl)) Af (fun _ _=>rfl)) (Aa (Aw AQ (Aw AF (pv 2) Af (fun _ _=>rfl)) Af (fun _ _=>rfl)) Ab)))) Ab))))),?_⟩
  try dsimp only [cxK]
  refine xwf rfl rfl hg.hp T.cl_Grove T.na_Grove_parts (EM g) (xwi rfl rfl rfl (SqL.of h3) (Ai et) ⟨t,rfl,⟨_,SqT.of ht⟩,?_⟩);have sub:∀ k,k < 4->∃ tk,(ts.map V.ref)[qs k]?=some (.ref tk)/\H tk=some (.tup [.int (ps k 0),.int (ps k 1),.int (ps k 2),.int (ps k 3)]):=fun k hk=>by
   obtain ⟨qk,ndk⟩:=dp.sub k hk;obtain ⟨ts',tk,h3',et',ht'⟩:=Fn hg ndk;rw [h3] at h3';have h3':=HO.lst.inj (Option.some.inj h3');exact ⟨tk,by rw [h3']; exact et',ht'⟩
  obtain ⟨t0,e0,p0⟩:=sub 0 (by decide);obtain ⟨t1,e1,p1⟩:=sub 1 (by decide);obtain ⟨t2,e2,p2⟩:=sub 2 (by decide);obtain ⟨t3,e3,p3⟩:=sub 3 (by decide);have all:∀ (j:Nat) (v:V),[V.int (qs 0:Int),V.int (qs 1:Int),V.int (qs 2:Int),V.int (qs 3:Int)][j]?=some v->∃ (k:Nat) (tk:Addr),v=.int (k:Int)/\(ts.map V.ref)[k]?=some (.ref tk)/\[V.ref t0,V.ref t1,V.ref t2,V.ref t3][j]?=some (.ref tk):=fun j v ev=>by
   match j,ev with
   | 0,ev=>cases ev; exact ⟨qs 0,t0,rfl,e0,rfl⟩
   | 1,ev=>cases ev; exact ⟨qs 1,t1,rfl,e1,rfl⟩
   | 2,ev=>cases ev; exact ⟨qs 2,t2,rfl,e2,rfl⟩
   | 3,ev=>cases ev; exact ⟨qs 3,t3,rfl,e3,rfl⟩
   | j+4,ev=>simp at ev
  refine Op (xs:=[.int (qs 0:Int),.int (qs 1:Int),.int (qs 2:Int),.int (qs 3:Int)]) (fun j acc H2=>H=H2/\acc=[V.ref t0,V.ref t1,V.ref t2,V.ref t3].take j) ⟨rfl,rfl⟩ (fun j acc H2 _ z=>z.1 ▸ SqT.of ht) ?_ ?_
  ·rintro j v acc H2 ev ⟨rfl,rfl⟩;obtain ⟨k',tk,rfl,ek,el⟩:=all j v ev;refine ⟨⟨[some (.int k')],rfl,rfl⟩,by rw [List.length_take]; exact Eg (by show min j 4 < 10000000; lia),Pq (xwf rfl rfl hg.hp T.cl_Grove T.na_Grove_parts (EM g) (xwi rfl rfl rfl (SqL.of h3) (Ai ek) ⟨rfl,?_⟩))⟩;rw [List.take_add_one,el];rfl
  ·rintro acc H2 ⟨rfl,rfl⟩ L hL;have s1:=same_up (o:=.lst [V.ref t0,V.ref t1,V.ref t2,V.ref t3]) hL;have hL1:upd H L (.lst [V.ref t0,V.ref t1,V.ref t2,V.ref t3]) L=some (.lst [V.ref t0,V.ref t1,V.ref t2,V.ref t3]):=Ah;rw [show (List.take [V.int (qs 0:Int),V.int (qs 1:Int),V.int (qs 2:Int),V.int (qs 3:Int)].length [V.ref t0,V.ref t1,V.ref t2,V.ref t3])=[V.ref t0,V.ref t1,V.ref t2,V.ref t3] from rfl];generalize upd H L (.lst [V.ref t0,V.ref t1,V.ref t2,V.ref t3])=H1 at s1 hL1 ⊢;have hg1:=hg.same s1;refine xwn rfl rfl hg1.hp (Dd g) rfl (xq4 rfl rfl (SqL.of hL1) (Ai (j:=0) rfl) (xq4 rfl rfl (SqT.of (s1 _ _ p0)) (Ai (j:=3) rfl) (xwi rfl rfl rfl (SqL.of hL1) (Ai (j:=1) rfl) (xq4 rfl rfl (SqT.of (s1 _ _ p1)) (Ai (j:=2) rfl) ?_))));refine xwi rfl rfl rfl (SqL.of hL1) (Ai (j:=2) rfl) (xq4 rfl rfl (SqT.of (s1 _ _ p2)) (Ai (j:=1) rfl) (xwi rfl rfl rfl (SqL.of hL1) (Ai (j:=3) rfl) (xq4 rfl rfl (SqT.of (s1 _ _ p3)) (Ai (j:=0) rfl) ⟨(by show 4<=sizeLine; decide),fun t4 ht4=>?_⟩)));have s2:=same_up (o:=.tup [.int (ps 0 3),.int (ps 1 2),.int (ps 2 1),.int (ps 3 0)]) ht4;obtain ⟨_,n0⟩:=dp.sub 0 (by decide);obtain ⟨_,n1⟩:=dp.sub 1 (by decide);obtain ⟨_,n2⟩:=dp.sub 2 (by decide);obtain ⟨_,n3⟩:=dp.sub 3 (by decide);exact ⟨g,G,t4,ps 0 3,ps 1 2,ps 2 1,ps 3 0,(n:Int),rfl,hg1.same s2,ok,Ah,⟨n0.hw,n1.hz,n2.hy,n3.hx⟩,by lia,by lia,fun m G' H' fr hg' go e=>k m G' H' ((Az.fr s1).trans ((Az.fr s2).trans fr)) hg' go e⟩
inductive SpBA (a:Ad) (vs:List V) (H:Hp) (Q:VK):Prop
 | mk (g:GA) (G:Gv) (i n:Nat) (qs:Nat->Nat) (ps:Nat->Nat->Nat) (_:vs=[.ref g.p,.int i]) (_:AI a H g G) (_:FJ G n i qs ps) (_:n < 47) (_:(BA n ps->∀ H',Az H H'->Q (.bl true) H')) (_:(¬ BA n ps->∀ H',Az H H'->Q (.bl false) H')):SpBA a vs H Q
def spBA (a:Ad):Sp:=fun vs H Q _=>SpBA a vs H Q
theorem ok_ba {f:Addr} {fd:FuncData} (F:Fun K "is_bare_around" "is_bare_around" Bq f fd) (T:Top K mg a):AW P w K mg base CX0 1 f fd Bu (spBA a):=by
 refine F.ok Bf (fun vs H Q E h=>?_) (fun cdv A outer s H vs Q E hr h=>?_)
 ·obtain ⟨g,G,i,n,qs,ps,rfl,_⟩:=h;rfl
 ·obtain ⟨g,G,i,n,qs,ps,rfl,fu,dp,n47,k1,k2⟩:=h;obtain ⟨q,nd⟩:=dp.node;have lq:=nd.lev;obtain ⟨ts,t,h3,et,ht⟩:=Fn fu.at' nd;refine ⟨_,(Ac (Ar (i:=2) Bf.nd rfl (Or.inl rfl) (Aw AF (AL (pv 0) rfl) (As Cs (Aw AF (AL (pv 0) rfl) (pv 1) (fun _ _=>rfl)) Af) (fun _ _=>rfl))) (Ac (Dx PassesOwn.never rfl (JS true rfl T.b_enumerate (Aa (Aw AF (AL (pv 0) rfl) (pv 1) (fun _ _=>rfl)) Ab)) (EY rfl (Bd (AY (i:=3) Bf.nd rfl (Or.inl rfl)) (Bd (AY (i:=4) Bf.nd rfl (Or.inl rfl)) Ee))) (Ag (Dx PassesOwn.never rfl (JS true rfl T.b_enumerate (Aa (Aw AF (AL (pv 0) rfl) (pv 4) (fun _ _=>rfl)) Ab)) (EY rfl (Bd (AY (i:=5) Bf.nd rfl (Or.inl rfl)) (Bd (AY (i:=6) Bf.nd rfl (Or.inl rfl)) Ee))) (Ag (AO (PW.pt (MN (AB GI (pv 6) (pv 2) (AE _)) (JQ (AB GI (pv 5) (As Cs Af (pv 3)) (AE _))))) (Ag (Aq DF)) At))))) (Ag (Aq DF)))),?_⟩
  try dsimp only [cxK]
  refine xwf rfl rfl fu.at'.hp T.cl_Grove T.na_Grove_bares (Go g) (xwf rfl rfl fu.at'.hp T.cl_Grove T.na_Grove_levels (DU g) (xwi rfl rfl rfl (SqL.of fu.at'.lv) (Ai (by rw [List.getElem?_map,nd.g]; rfl)) (xq2 rfl rfl (xq4 rfl rfl (SqL.of fu.br) (by rw [show q.lev - 2=(n:Int) by lia]; exact Ai (bareL_at' (by lia))) ?_))));refine xwf rfl rfl fu.at'.hp T.cl_Grove T.na_Grove_parts (EM g) (xwi rfl rfl rfl (SqL.of h3) (Ai et) ⟨t,rfl,⟨_,SqT.of ht⟩,?_⟩);refine IH (b:=true) (xs:=[.int (qs 0:Int),.int (qs 1:Int),.int (qs 2:Int),.int (qs 3:Int)]) (fun j σ H2=>Az H H2/\(∃ u3 u4 u5 u6:Option V,σ=[some (.ref g.p),some (.int i),some (.int (bareN n:Int)),u3,u4,u5,u6])/\∀ k' j',k' < j->k' < 4->j' < 4->j'+k'≠3->ps k' j'=bareN n) ⟨Az.refl H,⟨none,none,none,none,rfl⟩,fun k' j' h=>absurd h (Nat.not_lt_zero _)⟩ (fun j σ H2 _ z=>SqT.of (z.1 _ _ ht)) ?_ ?_
  ·rintro j v σ H2 T' ev ⟨sm,⟨u3,u4,u5,u6,rfl⟩,al⟩ nT;have hj:j < 4:=(List.getElem?_eq_some_iff.mp ev).1;have ev':v=.int (qs j:Int):=by
    match j,hj,ev with
    | 0,_,ev=>cases ev; rfl
    | 1,_,ev=>cases ev; rfl
    | 2,_,ev=>cases ev; rfl
    | 3,_,ev=>cases ev; rfl
   subst ev';obtain ⟨qk,ndk⟩:=dp.sub j hj;have s2:=sm.trans (same_up (o:=.tup [.int j,.int (qs j)]) nT);refine IF Ah ?_;generalize upd H2 T' (.tup [.int j,.int (qs j)])=H3 at s2 ⊢;obtain ⟨ts3,t3,h33,et3,ht3⟩:=Fn (fu.at'.same s2) ndk;refine xwf rfl rfl ((fu.at'.same s2).hp) T.cl_Grove T.na_Grove_parts (EM g) (xwi rfl rfl rfl (SqL.of h33) (Ai et3) ⟨t3,rfl,⟨_,SqT.of ht3⟩,?_⟩);refine IH (b:=true) (xs:=[.int (ps j 0:Int),.int (ps j 1:Int),.int (ps j 2:Int),.int (ps j 3:Int)]) (fun j2 σ H4=>Az H3 H4/\(∃ u5 u6:Option V,σ=[some (.ref g.p),some (.int i),some (.int (bareN n:Int)),some (.int j),some (.int (qs j)),u5,u6])/\∀ j',j' < j2->j' < 4->j'+j≠3->ps j j'=bareN n) ⟨Az.refl H3,⟨_,_,rfl⟩,fun j' h=>absurd h (Nat.not_lt_zero _)⟩ (fun j2 σ H4 _ z=>SqT.of (z.1 _ _ ht3)) ?_ ?_
   ·rintro j2 v σ H4 T2 ev ⟨sm2,⟨u5,u6,rfl⟩,al2⟩ nT2;have hj2:j2 < 4:=(List.getElem?_eq_some_iff.mp ev).1;have ev':v=.int (ps j j2:Int):=by
     match j2,hj2,ev with
     | 0,_,ev=>cases ev; rfl
     | 1,_,ev=>cases ev; rfl
     | 2,_,ev=>cases ev; rfl
     | 3,_,ev=>cases ev; rfl
    subst ev';have s4:=sm2.trans (same_up (o:=.tup [.int j2,.int (ps j j2)]) nT2);refine IF Ah ?_;generalize upd H4 T2 (.tup [.int j2,.int (ps j j2)])=H5 at s4 ⊢;refine xw2 rfl rfl ⟨rfl,(xq1 rfl ?_)⟩;refine Pw (b2:=!decide (V.int (j2:Int)=V.int (3 - (j:Int)))) (fun _ Q' q=>(xw2 rfl rfl (xq2 rfl rfl ⟨rfl,(xq1 rfl q)⟩))) ?_;refine ite2 (fun hc=>?_) (fun hc=>?_)
    ·refine k2 (fun ba=>?_) H5 (s2.trans s4);rw [Bool.and_eq_true] at hc;have c2:¬ j2+j=3:=fun z=>by
      have:=hc.2;rw [decide_eq_true (show V.int (j2:Int)=V.int (3 - (j:Int)) by congr 1; lia)] at this;cases this
     have c1:=hc.1;rw [ba j j2 hj hj2 c2,decide_eq_true rfl] at c1;cases c1
    ·refine ⟨s4,⟨_,_,rfl⟩,fun j' h1 h2 h3'=>?_⟩;rcases Nat.lt_succ_iff_lt_or_eq.mp h1 with h | h
     ·exact al2 j' h h2 h3'
     ·subst h;refine Classical.byContradiction fun z=>hc ?_;rw [decide_eq_false (show ¬ V.int (ps j j':Int)=V.int (bareN n:Int) by intro q; injection q with q; exact z (Int.ofNat.inj q)),decide_eq_false (show ¬ V.int (j':Int)=V.int (3 - (j:Int)) by intro q; injection q with q; lia)];rfl
   ·rintro σ H4 ⟨sm2,⟨u5,u6,rfl⟩,al2⟩;refine ⟨s2.trans sm2,⟨_,_,_,_,rfl⟩,fun k' j' h1 h2 h3' h4=>?_⟩;rcases Nat.lt_succ_iff_lt_or_eq.mp h1 with h | h
    ·exact al k' j' h h2 h3' h4
    ·subst h;exact al2 j' h3' h3' h4
  ·rintro σ H2 ⟨sm,⟨u3,u4,u5,u6,rfl⟩,al⟩;exact k1 (fun k' j' h1 h2 h3'=>al k' j' h1 h1 h2 h3') H2 sm
end
end J
namespace J
open PySem L2
seal L2.PA L2.PE L2.PS L2.PSs L2.PT L2.PW
theorem Dn.lev {G:Gv}:∀ {l f r:Nat},Aj G f (l:Int)->Dn G l f r->∃ n,n+1<=l/\Aj G r ((n+1:Nat):Int)
 | 0,_,_,_,h=>h.elim
 | 1,f,r,hl,h=>by
  have h:r=f:=h;subst h;exact ⟨0,Nat.le_refl _,hl⟩
 | n+2,f,r,hl,h=>by
  obtain ⟨qs,ps,d,h⟩:=h;rcases h with ⟨_,rfl⟩ | ⟨_,m,e,h⟩
  ·exact ⟨n+1,Nat.le_refl _,hl⟩
  ·obtain ⟨k,hk,lk⟩:=Dn.lev (l:=n+1) ⟨_,e,by show (n:Int)+1=_; lia⟩ h;exact ⟨k,by lia,lk⟩
section
variable {P:Program} {w:World} {K:PySem.W.Frag} {mg:Str->Option Value} {base:Heap} {a:Ad}
inductive Rf (a:Ad) (vs:List V) (H:Hp) (Q:VK):Prop
 | mk (g:GA) (G:Gv) (f n:Nat) (_:vs=[.ref g.p,.int f]) (_:AI a H g G) (_:Aj G f ((n+1:Nat):Int)) (_:G.length < 8800000) (_:∀ (r:Nat) (G':Gv) (H':Hp),Fr g H H'->AI a H' g G'->AN G G' 48->Dn G' (n+1) f r->Q (.int r) H'):Rf a vs H Q
def Ig (a:Ad):Sp:=fun vs H Q _=>Rf a vs H Q
theorem ok_trim {f:Addr} {fd:FuncData} (F:Fun K "trimmed" "trimmed" Dt f fd) (T:Top K mg a) (aB:Ch P w K mg base CX0 3 a.c_Grove "level_of" AA (Jl a)) (aK:Cal P w K mg base CX0 1 "is_bare_around" Bu (spBA a)) (aZ:Cal P w K mg base CX0 3 "middle_of" Dc (NL a)):AW P w K mg base CX0 4 f fd Cn (Ig a):=by
 refine F.ok Dp (fun vs H Q E h=>?_) (fun cdv A outer s H vs Q E hr h=>?_)
 ·obtain ⟨g,G,f',n,rfl,_⟩:=h;rfl
 ·obtain ⟨g,G,f',n,rfl,fu,hl,few,k⟩:=h;obtain ⟨q,eq,lq⟩:=id hl;have n48:n+1<=48:=by have:=(fu.ok.lev eq).2; lia
  refine ⟨_,(Ac (AO (AB FQ (Ay (pv 0) aB (rm hr) Al (Aa (pv 1) Ab)) (Bg rfl T.k_LEAST_LEVEL) (AE _)) (Ag Dh) At) (Ac (Ar (i:=2) Dp.nd rfl (Or.inl rfl) (pv 1)) (Ac (Il PassesOwn.never (PW.pt (MN (AB NY (Aw AF (AL (pv 0) rfl) (pv 2) (fun _ _=>rfl)) (Bg rfl T.k_LEAST_LEVEL) (AE _)) (JQ (BV (Am aK (rm hr) rfl Al (Aa (pv 0) (Aa (pv 2) Ab))))))) (Ag (Ar (i:=2) Dp.nd rfl (Or.inl rfl) (Am aZ (rm hr) rfl Al (Aa (pv 0) (Aa (pv 2) Ab)))))) (Ag (Aq (pv 2)))))),?_⟩
  try dsimp only [cxK]
  refine xq1 rfl ⟨g.p,g.dx,(xq1 rfl ⟨fu.at'.hp,Dz g,(xq1 rfl ⟨g,G,f',q,rfl,fu.at',eq,(xq2 rfl rfl (xq1 rfl ?_))⟩)⟩)⟩;rw [decide_eq_false (by lia:¬ q.lev < 1)];refine Bv (xq1 rfl ?_);refine ⟨fun m σ H2=>∃ (G':Gv) (c:Nat),σ=[some (.ref g.p),some (.int f'),some (.int c)]/\Fr g H H2/\AI a H2 g G'/\AN G G' (n - m)/\m<=n/\Aj G' c ((m+1:Nat):Int)/\∀ (r:Nat) (G'':Gv) (k:Nat),AN G' G'' k->Dn G'' (m+1) c r->Dn G'' (n+1) f' r,⟨n,G,f',rfl,Fr.refl g H,fu,(AN.refl fu.ok).mono (by lia),Nat.le_refl _,hl,fun _ _ _ _ h=>h⟩,?_⟩;rintro m σ H2 ⟨G',c,rfl,fr,fu2,go,mn,lc,tr⟩;have gf:=go.few;obtain ⟨qc,ec,lqc⟩:=id lc;refine xwf rfl rfl fu2.at'.hp T.cl_Grove T.na_Grove_levels (DU g) (xwi rfl rfl rfl (SqL.of fu2.at'.lv) (Ai (by rw [List.getElem?_map,ec]; rfl)) (xq2 rfl rfl (xq1 rfl ?_)));cases m with
  | zero =>
   rw [decide_eq_false (by lia:¬ (1:Int) < qc.lev)];exact Bv (Bv (xq1 rfl (k c G' H2 fr fu2 (go.mono (by lia)) (tr c G' 0 (AN.refl fu2.ok) rfl))))
  | succ m =>
   rw [decide_eq_true (by lia:(1:Int) < qc.lev)];obtain ⟨qs,ps,dp⟩:=deep_of fu2.ok lc;refine Cw (xw2 rfl rfl ⟨g,G',c,m,qs,ps,rfl,fu2,dp,by lia,fun ba H3 s3=>⟨true,rfl,Cw ?_⟩,fun nba H3 s3=>⟨false,rfl,Bv ?_⟩⟩)
   ·refine ⟨fun σ' H'=>∃ (G2:Gv) (c2:Nat),σ'=[some (.ref g.p),some (.int f'),some (.int c2)]/\Fr g H H'/\AI a H' g G2/\AN G G2 (n - m)/\m<=n/\Aj G2 c2 ((m+1:Nat):Int)/\∀ (r:Nat) (G'':Gv) (k:Nat),AN G2 G'' k->Dn G'' (m+1) c2 r->Dn G'' (n+1) f' r,fun σ' H' z=>⟨m,by lia,z⟩,?_⟩;refine xw2 rfl rfl ⟨g,G',c,m,qs,ps,rfl,fu2.at'.same s3,fu2.ok,dp,by lia,by lia,fun c2 G2 H4 fr4 hg4 go4 e4=>?_⟩;have fu4:=(fu2.same s3).fr fr4 hg4 go4;refine ⟨G2,c2,rfl,fr.trans ((Az.fr s3).trans fr4),fu4,(go.trans go4).mono (by lia),by lia,⟨_,e4,by show (m:Int)+1=_; lia⟩,fun r G'' k' go5 t5=>?_⟩;exact tr r G'' _ (go4.trans go5) ⟨qs,ps,dp.app (go4.trans go5),.inr ⟨ba,c2,go5.get e4,t5⟩⟩
   ·exact xq1 rfl (k c G' H3 (fr.trans (Az.fr s3)) (fu2.same s3) (go.mono (by lia)) (tr c G' 0 (AN.refl fu2.ok) ⟨qs,ps,dp,.inl ⟨nba,rfl⟩⟩))
def Je (G:Gv) (n f:Nat):Nat->Nat->Prop
 | 0,w=>w=f
 | k+1,w=>∃ u,Je G n f k u/\Wid G (n+k) u w
theorem Je.app {G G':Gv} {m n f:Nat} (go:AN G G' m):∀ {k w:Nat},Je G n f k w->Je G' n f k w
 | 0,_,h=>h
 | k+1,w,h=>by
  obtain ⟨u,h1,h2⟩:=h;exact ⟨u,Je.app go h1,h2.app go⟩
inductive SpWO (a:Ad) (vs:List V) (H:Hp) (Q:VK):Prop
 | mk (g:GA) (G:Gv) (f n:Nat) (t:Addr) (x y wd ht:Int) (_:vs=[.ref g.p,.int f,.ref t]) (_:AI a H g G) (_:Aj G f ((n+1:Nat):Int)) (_:n<=40) (_:H t=some (.tup [.int x,.int y,.int wd,.int ht])) (_:DJ x y wd ht (2 ^ 40)) (_:G.length < 8700000) (_:∀ (k w:Nat) (G':Gv) (H':Hp),Fr g H H'->AI a H' g G'->AN G G' (5 * k)->n+k<=40->Je G' n f k w->Aj G' w ((n+k+1:Nat):Int)->DJ x y wd ht (2 ^ (n+k))->(∀ j,j < k->¬ DJ x y wd ht (2 ^ (n+j)))->Q (.int w) H'):SpWO a vs H Q
def spWO (a:Ad):Sp:=fun vs H Q _=>SpWO a vs H Q
theorem ok_wo {f:Addr} {fd:FuncData} (F:Fun K "widened_over" "widened_over" BR f fd) (T:Top K mg a) (aI:Cal P w K mg base CX0 1 "lies_within" BN LE) (aE:Cal P w K mg base CX0 4 "reach_of" Cb (EB a)) (cZ:Cal P w K mg base CX0 4 "widened" Db (PC a)):AW P w K mg base CX0 5 f fd BW (spWO a):=by
 refine F.ok DK (fun vs H Q E h=>?_) (fun cdv A outer s H vs Q E hr h=>?_)
 ·obtain ⟨g,G,f',n,t,x,y,wd,ht,rfl,_⟩:=h;rfl
 ·obtain ⟨g,G,f',n,t,x,y,wd,hh,rfl,fu,hl,n40,ht,li,few,k⟩:=h;refine ⟨_,(Ac (Ar (i:=3) DK.nd rfl (Or.inl rfl) (pv 1)) (Ac (Il PassesOwn.never (BM (BV (Am aI (rm hr) rfl Al (Aa (pv 2) (Aa (Am aE (rm hr) rfl Al (Aa (pv 0) (Aa (pv 3) Ab))) Ab))))) (Ag (Ar (i:=3) DK.nd rfl (Or.inl rfl) (Am cZ (rm hr) rfl Al (Aa (pv 0) (Aa (pv 3) Ab)))))) (Ag (Aq (pv 3))))),?_⟩
  try dsimp only [cxK]
  refine xq1 rfl ?_;refine ⟨fun m σ H2=>∃ (G':Gv) (c j:Nat),σ=[some (.ref g.p),some (.int f'),some (.ref t),some (.int c)]/\Fr g H H2/\AI a H2 g G'/\AN G G' (5 * j)/\n+j+m=40/\Aj G' c ((n+j+1:Nat):Int)/\Je G' n f' j c/\∀ i,i < j->¬ DJ x y wd hh (2 ^ (n+i)),⟨40 - n,G,f',0,rfl,Fr.refl g H,fu,AN.refl fu.ok,by lia,hl,rfl,fun i hi=>absurd hi (Nat.not_lt_zero _)⟩,?_⟩;rintro m σ H2 ⟨G',c,j,rfl,fr,fu2,go,e40,lc,wn,no⟩;have gf:=go.few;have ht2:=fr.tup fu.at' ht;refine xq1 rfl (xq1 rfl (xq1 rfl ⟨g,G',c,n+j,rfl,fu2.at',lc,by lia,t,x,y,wd,hh,_,rfl,ht2,_,rfl,?_⟩));by_cases hL:DJ x y wd hh (2 ^ (n+j))
  ·rw [decide_eq_true hL];exact Bv (xq1 rfl (k j c G' H2 fr fu2 go (by lia) wn lc hL no))
  ·rw [decide_eq_false hL];have m0:m≠0:=fun z=>by
    subst z;have:n+j=40:=by lia
    rw [this] at hL;exact hL li
   refine Cw ⟨fun σ' H'=>∃ (G2:Gv) (c2 j2:Nat),σ'=[some (.ref g.p),some (.int f'),some (.ref t),some (.int c2)]/\Fr g H H'/\AI a H' g G2/\AN G G2 (5 * j2)/\n+j2+(m - 1)=40/\Aj G2 c2 ((n+j2+1:Nat):Int)/\Je G2 n f' j2 c2/\∀ i,i < j2->¬ DJ x y wd hh (2 ^ (n+i)),fun σ' H' z=>⟨m - 1,by lia,z⟩,?_⟩;refine xw2 rfl rfl ⟨g,G',c,n+j,rfl,fu2,lc,by lia,by lia,fun c2 G2 H3 fr3 hg3 go3 wi=>?_⟩;refine ⟨G2,c2,j+1,rfl,fr.trans fr3,fu2.fr fr3 hg3 go3,(go.trans go3).mono (by lia),by lia,?_,⟨c,wn.app go3,wi⟩,fun i hi=>?_⟩
   ·have:=wi.lev;rw [show n+(j+1)+1=n+j+2 by lia];exact this
   ·rcases Nat.lt_succ_iff_lt_or_eq.mp hi with h | h
    ·exact no i h
    ·rw [h];exact hL
end
end J
namespace J
open PySem L2
seal L2.PA L2.PE L2.PS L2.PSs L2.PT L2.PW
def st4 (x y z w k j:Nat) (i:Nat):Nat:=if i=k then j else f4 x y z w i
def quad (l x y:Nat):Nat:=x / 2 ^ l+2 * (y / 2 ^ l)
theorem Eh {l x:Nat} (h:x < 2 ^ (l+1)):x / 2 ^ l < 2:=by
 rw [Nat.div_lt_iff_lt_mul (Nat.pow_pos (by decide)),Nat.mul_comm,<-Nat.pow_succ];exact h
theorem DL {l x y:Nat} (hx:x < 2 ^ (l+1)) (hy:y < 2 ^ (l+1)):quad l x y < 4:=by
 have h1:=Eh hx;have h2:=Eh hy;unfold quad;lia
theorem Ed (l:Nat):((2 ^ l:Nat):Int)=(2:Int) ^ l:=Int.natCast_pow 2 l
theorem quad_c (l x y:Nat):(x:Int) / 2 ^ l+2 * ((y:Int) / 2 ^ l)=((quad l x y:Nat):Int):=by
 unfold quad;rw [<-Ed,Int.natCast_add,Int.natCast_mul,Int.natCast_ediv,Int.natCast_ediv];rfl
theorem mod_c (l x:Nat):(x:Int) % 2 ^ l=((x % 2 ^ l:Nat):Int):=by rw [<-Ed,Int.natCast_emod]
theorem set4 (x y z w j:Nat) {k:Nat} (hk:k < 4):([V.int (x:Int),V.int (y:Int),V.int (z:Int),V.int (w:Int)].set k (.int j))=[V.int (st4 x y z w k j 0:Int),V.int (st4 x y z w k j 1:Int),V.int (st4 x y z w k j 2:Int),V.int (st4 x y z w k j 3:Int)]:=by
 match k,hk with
 | 0,_=>rfl
 | 1,_=>rfl
 | 2,_=>rfl
 | 3,_=>rfl
def Rep (G:Gv) (s:Nat):Nat->Nat->Nat->Nat->Nat->Prop
 | 0,_,_,_,r=>r=s
 | l+1,i,x,y,r=>∃ (q:Sq) (a b c d j:Nat),DY G l i q a b c d/\Rep G s l (f4 a b c d (quad l x y)) (x % 2 ^ l) (y % 2 ^ l) j/\G[r]?=some ⟨[(st4 a b c d (quad l x y) j 0:Int),(st4 a b c d (quad l x y) j 1:Int),(st4 a b c d (quad l x y) j 2:Int),(st4 a b c d (quad l x y) j 3:Int)],(l:Int)+1⟩
theorem Rep.app {G G':Gv} {m s:Nat} (go:AN G G' m):∀ {l i x y r:Nat},Rep G s l i x y r->Rep G' s l i x y r
 | 0,_,_,_,_,h=>h
 | l+1,i,x,y,r,h=>by
  obtain ⟨q,a,b,c,d,j,nd,h1,e⟩:=h;exact ⟨q,a,b,c,d,j,nd.app go,Rep.app go h1,go.get e⟩
theorem Rep.lev {G:Gv} (ok:GOk G) {s:Nat} (hs:s < 8):∀ {l i x y r:Nat},Rep G s l i x y r->Aj G r (l:Int)
 | 0,_,_,_,r,h=>by
  have h:r=s:=h;subst h;exact ⟨_,ok.leaf r hs,rfl⟩
 | l+1,_,_,_,_,h=>by
  obtain ⟨q,a,b,c,d,j,nd,h1,e⟩:=h;exact ⟨_,e,by show (l:Int)+1=_; lia⟩
section
variable {P:Program} {w:World} {K:PySem.W.Frag} {mg:Str->Option Value} {base:Heap} {a:Ad}
inductive SpRep (a:Ad) (n:Nat) (vs:List V) (H:Hp) (Q:VK):Prop
 | mk (g:GA) (G:Gv) (i l x y s:Nat) (_:vs=[.ref g.p,.int i,.int x,.int y,.int s]) (_:AD a H g G) (_:GOk G) (_:Aj G i (l:Int)) (_:l < n) (_:x < 2 ^ l) (_:y < 2 ^ l) (_:s < 8) (_:G.length+l < 8900000) (_:∀ (r:Nat) (G':Gv) (H':Hp),Fr g H H'->AD a H' g G'->AN G G' l->Rep G' s l i x y r->Q (.int r) H'):SpRep a n vs H Q
def LC (a:Ad) (n:Nat):Sp:=fun vs H Q _=>SpRep a n vs H Q
theorem Qr {f:Addr} {fd:FuncData} (F:Fun K "replaced" "replaced" Du f fd) (T:Top K mg a) (hm:mg "replaced" = some (.ref f)) (Bi:Do K fd CB []) (aH:Ch P w K mg base CX0 3 a.c_Grove "leaf" Ce (Ih a)) (aA:Ch P w K mg base CX0 2 a.c_Grove "linked" AZ (FC a)):∀ n,AW P w K mg base CX0 (n+4) f fd CB (LC a n)
 | 0=>by
  refine F.ok CZ (fun vs H Q E h=>?_) (fun cdv A outer s H vs Q E hr h=>?_)
  ·obtain ⟨g,G,i,l,x,y,s,rfl,_,_,_,h0,_⟩:=h;exact absurd h0 (Nat.not_lt_zero _)
  ·obtain ⟨g,G,i,l,x,y,s,rfl,_,_,_,h0,_⟩:=h;exact absurd h0 (Nat.not_lt_zero _)
 | n+1=>by
  have aS:Cal P w K mg base CX0 (n+4) "replaced" CB (LC a n):=⟨f,fd,Qr F T hm Bi aH aA n,hm,F.kp,Bi⟩
  refine F.ok CZ (fun vs H Q E h=>?_) (fun cdv A outer s H vs Q E hr h=>?_)
  ·obtain ⟨g,G,i,l,x,y,s,rfl,_⟩:=h;rfl
  ·obtain ⟨g,G,i,l,x,y,st,rfl,hg,ok,hl,ln,hx,hy,s8,few,k⟩:=h;obtain ⟨q0,e0,l0⟩:=id hl;refine ⟨_,(Ac (Ar (i:=5) CZ.nd rfl (Or.inl rfl) (Aw AF (AL (pv 0) rfl) (pv 1) (fun _ _=>rfl))) (Ac (AO (AB DH (pv 5) Af (AE _)) (Ag (Aq (Ay (pv 0) aH (rm hr) Al (Aa (pv 4) Ab)))) At) (Ac (Ar (i:=6) CZ.nd rfl (Or.inl rfl) (As MQ Af (As Cs (pv 5) Af))) (Ac (Ar (i:=7) CZ.nd rfl (Or.inl rfl) (Fm ER rfl T.b_list PyProof.Rows.boot_list (Aa (Aw AF (AL (pv 0) rfl) (pv 1) (fun _ _=>rfl)) Ab))) (Ac (Ar (i:=8) CZ.nd rfl (Or.inl rfl) (As Bo (As LV (pv 2) (pv 6)) (As JW Af (As LV (pv 3) (pv 6))))) (Ac (MP (Am aS (rm hr) rfl Al (Aa (pv 0) (Aa (Aw AF (pv 7) (pv 8) (fun _ _=>rfl)) (Bh AT (pv 2) (pv 6) (Bh AT (pv 3) (pv 6) (Aa (pv 4) Ab)))))) (pg_sub (pv 7) (pv 8) PY)) (Ag (Aq (Ay (pv 0) aA (rm hr) Al (Aa (Fm Jc rfl T.b_tuple PyProof.Rows.boot_tuple (Aa (pv 7) Ab)) Ab)))))))))),?_⟩
   try dsimp only [cxK]
   refine ⟨_,rfl,g.p,_,g.dx,_,_,rfl,hg.hp,T.cl_Grove,T.na_Grove_levels,DU g,_,rfl,g.lv,_,(i:Int),.int q0.lev,rfl,rfl,SqL.of hg.lv,Ai (by rw [List.getElem?_map,e0]; rfl),?_⟩;cases l with
   | zero =>
    rw [l0];exact xq1 rfl ⟨rfl,(xq1 rfl (Cw (xwn rfl rfl hg.hp (JY g) rfl ⟨g.p,(st:Int),rfl,by lia,by lia,k st G H (Fr.refl g H) hg (AN.refl ok) rfl⟩)))⟩
   | succ l =>
    have l0':q0.lev=(l:Int)+1:=by rw [l0]; lia
    have l48:=(ok.lev e0).2;have lt64:=NU (l:=l) (by lia);have lpos:=FP l;obtain ⟨q,p0,p1,p2,p3,nd⟩:=BF ok hl;obtain ⟨ts,t,h3,et,ht⟩:=Fn hg nd;refine xq1 rfl ⟨rfl,(xq1 rfl ?_)⟩;rw [decide_eq_false (by intro z; injection z with z; lia)];refine Bv (xwb rfl rfl rfl (xq2 rfl rfl ⟨⟨by lia,by lia,by decide⟩,?_⟩));rw [show (fun (i j:Int)=>V.int (i * 2 ^ j.toNat)) 1 (q0.lev - 1)=V.int (2 ^ l) from congrArg V.int (NG l l0')];refine xwf rfl rfl hg.hp T.cl_Grove T.na_Grove_parts (EM g) (xwi rfl rfl rfl (SqL.of h3) (Ai et) ⟨t,(xq1 rfl ⟨.inr (SqT.of ht),fun L hL=>?_⟩)⟩);have aL:Ap g L:=Ap.new hg hL;have s1:=same_up (o:=.lst [.int p0,.int p1,.int p2,.int p3]) hL;have hL1:upd H L (.lst [.int p0,.int p1,.int p2,.int p3]) L=some (.lst [.int p0,.int p1,.int p2,.int p3]):=Ah;generalize upd H L (.lst [.int p0,.int p1,.int p2,.int p3])=H1 at s1 hL1 ⊢;have hg1:=hg.same s1;have qk:=DL hx hy;refine xw2 rfl rfl (xq2 rfl rfl ⟨⟨lpos,lt64⟩,(xw2 rfl rfl (xq2 rfl rfl ⟨⟨lpos,lt64⟩,(xq2 rfl rfl ⟨.inl ⟨by decide,by decide⟩,(xq2 rfl rfl ?_)⟩)⟩))⟩);rw [show (fun (i j:Int)=>V.int (i+j)) ((x:Int) / 2 ^ l) (2 * ((y:Int) / 2 ^ l))=V.int ((quad l x y:Nat):Int) from congrArg V.int (quad_c l x y)];have atq:[V.int (p0:Int),V.int (p1:Int),V.int (p2:Int),V.int (p3:Int)][quad l x y]?=some (.int (f4 p0 p1 p2 p3 (quad l x y):Int)):=by
     generalize quad l x y=kk at qk ⊢
     match kk,qk with
     | 0,_=>rfl
     | 1,_=>rfl
     | 2,_=>rfl
     | 3,_=>rfl
    have lvq:Aj G (f4 p0 p1 p2 p3 (quad l x y)) (l:Int):=(nd.nat qk).2;refine xw3 rfl rfl rfl (xq4 rfl rfl (SqL.of hL1) (Ai atq) (xw2 rfl rfl (xq2 rfl rfl ⟨lpos,(xw2 rfl rfl (xq2 rfl rfl ⟨lpos,(xq1 rfl ?_)⟩))⟩)));refine ⟨g,G,f4 p0 p1 p2 p3 (quad l x y),l,x % 2 ^ l,y % 2 ^ l,st,by rw [<-mod_c,<-mod_c]; rfl,hg1,ok,lvq,by lia,Nat.mod_lt _ (Nat.pow_pos (by decide)),Nat.mod_lt _ (Nat.pow_pos (by decide)),s8,by lia,fun j G1 H2 fr hg2 go rp=>?_⟩;have gf:=go.few;have hL2:=fr.get aL hL1;refine xw2 rfl rfl ⟨L,_,((quad l x y:Nat):Int),quad l x y,rfl,rfl,hL2,by unfold ixN; rw [if_pos (by lia),if_pos (by show ((quad l x y:Nat):Int) < ((4:Nat):Int); lia),Int.toNat_natCast],?_⟩;rw [set4 p0 p1 p2 p3 j qk];have hg3:=hg2.put (o:=.lst [V.int (st4 p0 p1 p2 p3 (quad l x y) j 0:Int),V.int (st4 p0 p1 p2 p3 (quad l x y) j 1:Int),V.int (st4 p0 p1 p2 p3 (quad l x y) j 2:Int),V.int (st4 p0 p1 p2 p3 (quad l x y) j 3:Int)]) hL2 aL.1 aL.2.1;have hL3:upd H2 L (.lst [V.int (st4 p0 p1 p2 p3 (quad l x y) j 0:Int),V.int (st4 p0 p1 p2 p3 (quad l x y) j 1:Int),V.int (st4 p0 p1 p2 p3 (quad l x y) j 2:Int),V.int (st4 p0 p1 p2 p3 (quad l x y) j 3:Int)]) L=some (.lst [V.int (st4 p0 p1 p2 p3 (quad l x y) j 0:Int),V.int (st4 p0 p1 p2 p3 (quad l x y) j 1:Int),V.int (st4 p0 p1 p2 p3 (quad l x y) j 2:Int),V.int (st4 p0 p1 p2 p3 (quad l x y) j 3:Int)]):=Ah;have fr3:Fr g H (upd H2 L (.lst [V.int (st4 p0 p1 p2 p3 (quad l x y) j 0:Int),V.int (st4 p0 p1 p2 p3 (quad l x y) j 1:Int),V.int (st4 p0 p1 p2 p3 (quad l x y) j 2:Int),V.int (st4 p0 p1 p2 p3 (quad l x y) j 3:Int)])):=fun b o e m1 m2 m3=>by
     rw [Ak (An e hL)];exact fr _ _ (s1 _ _ e) m1 m2 m3
    generalize upd H2 L (.lst [V.int (st4 p0 p1 p2 p3 (quad l x y) j 0:Int),V.int (st4 p0 p1 p2 p3 (quad l x y) j 1:Int),V.int (st4 p0 p1 p2 p3 (quad l x y) j 2:Int),V.int (st4 p0 p1 p2 p3 (quad l x y) j 3:Int)])=H3 at hg3 hL3 fr3 ⊢;refine xwn rfl rfl hg3.hp (Dd g) rfl ⟨L,(xq1 rfl (.inl ⟨SqL.of hL3,fun t4 ht4=>?_⟩))⟩;have s4:=same_up (o:=.tup [V.int (st4 p0 p1 p2 p3 (quad l x y) j 0:Int),V.int (st4 p0 p1 p2 p3 (quad l x y) j 1:Int),V.int (st4 p0 p1 p2 p3 (quad l x y) j 2:Int),V.int (st4 p0 p1 p2 p3 (quad l x y) j 3:Int)]) ht4;have ndG:=nd.app go;have lj:=rp.lev go.ok s8;have lst:∀ ii,ii < 4->Aj G1 (st4 p0 p1 p2 p3 (quad l x y) j ii) (l:Int):=fun ii hi=>by
     unfold st4;split
     ·exact lj
     ·exact (ndG.nat hi).2
    refine ⟨g,G1,t4,_,_,_,_,(l:Int),rfl,hg3.same s4,go.ok,Ah,⟨lst 0 (by decide),lst 1 (by decide),lst 2 (by decide),lst 3 (by decide)⟩,by lia,by lia,fun r G2 H4 fr4 hg4 go4 e4=>?_⟩;exact k r G2 H4 (fr3.trans ((Az.fr s4).trans fr4)) hg4 (go.trans go4) ⟨q,p0,p1,p2,p3,j,nd.app (go.trans go4),rp.app go4,e4⟩
structure Ei (G:Gv) (n f:Nat) (x y:Int) (s r:Nat) (k w i:Nat):Prop where
 le:n+k<=40
 wid:Je G n f k w
 lw:Aj G w ((n+k+1:Nat):Int)
 li:DJ x y 1 1 (2 ^ (n+k))
 no:∀ j,j < k->¬ DJ x y 1 1 (2 ^ (n+j))
 rep:Rep G s (n+k+1) w (x+2 ^ (n+k)).toNat (y+2 ^ (n+k)).toNat i
 tr:Dn G (n+k+1) i r
theorem Lg {x y:Int} {m:Nat} (h:DJ x y 1 1 (2 ^ m)):(x+2 ^ m).toNat < 2 ^ (m+1)/\(y+2 ^ m).toNat < 2 ^ (m+1)/\0<=x+2 ^ m/\0<=y+2 ^ m:=by
 obtain ⟨h1,h2,h3,h4⟩:=h;have e:=Ed (m+1);rw [Er] at e;have p:=FP m;refine ⟨?_,?_,by lia,by lia⟩<;>lia
inductive Ov (a:Ad) (vs:List V) (H:Hp) (Q:VK):Prop
 | mk (g:GA) (G:Gv) (f n:Nat) (x y:Int) (s:Nat) (_:vs=[.ref g.p,.int f,.int x,.int y,.int s]) (_:AI a H g G) (_:Aj G f ((n+1:Nat):Int)) (_:n<=40) (_:DJ x y 1 1 (2 ^ 40)) (_:s < 8) (_:G.length < 8000000) (_:∀ (r k w i:Nat) (G':Gv) (H':Hp),Fr g H H'->AI a H' g G'->AN G G' 400->Ei G' n f x y s r k w i->Q (.int r) H'):Ov a vs H Q
def GX (a:Ad):Sp:=fun vs H Q _=>Ov a vs H Q
theorem Qu {f:Addr} {fd:FuncData} (F:Fun K "planted" "planted" Dw f fd) (T:Top K mg a) (aI:Cal P w K mg base CX0 1 "lies_within" BN LE) (aN:Cal P w K mg base CX0 2 "is_state" Cc spIS) (aE:Cal P w K mg base CX0 4 "reach_of" Cb (EB a)) (aO:Cal P w K mg base CX0 5 "widened_over" BW (spWO a))
  (aS:Cal P w K mg base CX0 54 "replaced" CB (LC a 50)) (aU:Cal P w K mg base CX0 4 "trimmed" Cn (Ig a)):AW P w K mg base CX0 55 f fd Co (GX a):=by
 refine F.ok Cz (fun vs H Q E h=>?_) (fun cdv A outer s H vs Q E hr h=>?_)
 ·obtain ⟨g,G,f',n,x,y,st,rfl,_⟩:=h;rfl
 ·obtain ⟨g,G,f',n,x,y,st,rfl,fu,hl,n40,li,s8,few,k⟩:=h;refine ⟨_,(Ac (Ar (i:=5) Cz.nd rfl (Or.inl rfl) (Dy (Aa (pv 2) (Aa (pv 3) (AH (AH Ab)))))) (Ac (AO (BM (BV (Am aI (rm hr) rfl Al (Aa (pv 5) (Aa (Bg rfl T.k_LIMIT) Ab))))) (Ag Dh) At) (Ac (AO (BM (BV (Am aN (rm hr) rfl Al (Aa (pv 4) Ab)))) (Ag Dh) At) (Ac (Ar (i:=6) Cz.nd rfl (Or.inl rfl) (Am aO (rm hr) rfl Al (Aa (pv 0) (Aa (pv 1) (Aa (pv 5) Ab))))) (Ac (Ar (i:=7) Cz.nd rfl (Or.inl rfl) (Am aE (rm hr) rfl Al (Aa (pv 0) (Aa (pv 6) Ab)))) (Ag (Aq (Am aU (rm hr) rfl Al (Aa (pv 0) (Aa (Am aS (rm hr) rfl Al (Aa (pv 0) (Aa (pv 6) (Bh Bo (pv 2) (pv 7) (Bh Bo (pv 3) (pv 7) (Aa (pv 4) Ab)))))) Ab)))))))))),?_⟩
  try dsimp only [cxK]
  refine xw2 rfl rfl ⟨(by show 4<=sizeLine; decide),fun t ht=>?_⟩;have s1:=same_up (o:=.tup [.int x,.int y,.int 1,.int 1]) ht;have ht1:upd H t (.tup [.int x,.int y,.int 1,.int 1]) t=some (.tup [.int x,.int y,.int 1,.int 1]):=Ah;generalize upd H t (.tup [.int x,.int y,.int 1,.int 1])=H1 at s1 ht1 ⊢;have fu1:=fu.same s1;refine xq1 rfl ⟨t,x,y,1,1,_,rfl,ht1,_,rfl,?_⟩;rw [decide_eq_true (show DJ x y 1 1 1099511627776 from li)];refine Bv (xq1 rfl ⟨(st:Int),rfl,by lia,by lia,true,rfl,Bv ?_⟩);refine xw3 rfl rfl rfl ⟨g,G,f',n,t,x,y,1,1,rfl,fu1,hl,n40,ht1,li,by lia,fun kk w' G1 H2 fr2 fu2 go2 le wn lw lf no=>?_⟩;have gf2:=go2.few;refine xw2 rfl rfl ⟨g,G1,w',n+kk,rfl,fu2.at',lw,by lia,?_⟩;obtain ⟨b1,b2,b3,b4⟩:=Lg lf;refine xw3 rfl rfl rfl (xw2 rfl rfl (xq2 rfl rfl (xw2 rfl rfl (xq2 rfl rfl (xq1 rfl ?_)))));refine ⟨g,G1,w',n+kk+1,(x+2 ^ (n+kk)).toNat,(y+2 ^ (n+kk)).toNat,st,by rw [Int.toNat_of_nonneg b3,Int.toNat_of_nonneg b4]; rfl,fu2.at',fu2.ok,lw,by lia,b1,b2,s8,by lia,fun i' G2 H3 fr3 hg3 go3 rp=>?_⟩;have gf3:=go3.few;have fu3:=fu2.fr fr3 hg3 go3;have li':=rp.lev go3.ok s8;refine ⟨g,G2,i',n+kk,rfl,fu3,li',by lia,fun r G3 H4 fr4 fu4 go4 tr=>?_⟩;have go34:=go3.trans go4;exact k r kk w' i' G3 H4 ((Az.fr s1).trans (fr2.trans (fr3.trans fr4))) fu4 ((go2.trans go34).mono (by lia)) ⟨le,wn.app go34,go34.lev lw,lf,no,rp.app go4,tr⟩
end
end J
namespace J
open PySem L2
seal L2.PA L2.PE L2.PS L2.PSs L2.PT L2.PW
structure Cl where
 x:Int
 y:Int
 s:Nat
def Ls (H:Hp) (t:Addr) (c:Cl):Prop:=H t=some (.tup [.int c.x,.int c.y,.int c.s])
structure Rq (c:Cl):Prop where
 li:DJ c.x c.y 1 1 (2 ^ 40)
 s:c.s < 8
theorem Ei.app {G G':Gv} {m n f:Nat} {x y:Int} {s r k w i:Nat} (go:AN G G' m) (h:Ei G n f x y s r k w i):Ei G' n f x y s r k w i:=⟨h.le,h.wid.app go,go.lev h.lw,h.li,h.no,h.rep.app go,h.tr.app go⟩
inductive Lq (G:Gv):List Cl->Nat->Nat->Prop
 | nil:Lq G [] 0 (bareN 1)
 | cons {cs:List Cl} {c:Cl} {n f r k w i m:Nat} (h:Lq G cs n f) (l:Aj G f ((n+1:Nat):Int)) (p:Ei G n f c.x c.y c.s r k w i) (l':Aj G r ((m+1:Nat):Int)):Lq G (c :: cs) m r
theorem Lq.app {G G':Gv} {m:Nat} (go:AN G G' m) {cs:List Cl} {n f:Nat} (h:Lq G cs n f):Lq G' cs n f:=by
 induction h with
 | nil=>exact .nil
 | cons _ l p l' ih=>exact .cons ih (go.lev l) (p.app go) (go.lev l')
section
variable {P:Program} {w:World} {K:PySem.W.Frag} {mg:Str->Option Value} {base:Heap} {a:Ad}
inductive Rk (a:Ad) (vs:List V) (H:Hp) (Q:VK):Prop
 | mk (g:GA) (G:Gv) (L:Addr) (ts:List Addr) (cs:List Cl) (_:vs=[.ref g.p,.ref L]) (_:AI a H g G) (_:H L=some (.lst (ts.map V.ref))) (_:L≠g.lv) (_:L≠g.pt) (_:Paired (Ls H) ts cs) (_:(∀ c ∈ cs,Rq c)) (_:G.length+400 * cs.length < 8000000) (_:∀ (f n:Nat) (G':Gv) (H':Hp),Fr g H H'->AI a H' g G'->AN G G' (400 * cs.length)->n<=40->Aj G' f ((n+1:Nat):Int)->Lq G' cs.reverse n f->Q (.int f) H'):Rk a vs H Q
def PQ (a:Ad):Sp:=fun vs H Q _=>Rk a vs H Q
theorem ok_fld {f:Addr} {fd:FuncData} (F:Fun K "field_of" "field_of" CV f fd) (T:Top K mg a) (aW:Cal P w K mg base CX0 1 "bare_field" CJ (GY a)) (aV:Cal P w K mg base CX0 55 "planted" Co (GX a)):AW P w K mg base CX0 56 f fd CC (PQ a):=by
 refine F.ok Ca (fun vs H Q E h=>?_) (fun cdv A outer s H vs Q E hr h=>?_)
 ·obtain ⟨g,G,L,ts,cs,rfl,_⟩:=h;rfl
 ·obtain ⟨g,G,L,ts,cs,rfl,fu,hL,n1,n2,pr,oks,few,k⟩:=h;obtain ⟨r0,e0⟩:=fu.g0;have lts:=Paired.length pr;refine ⟨_,(Ac (Ar (i:=2) Ca.nd rfl (Or.inl rfl) (Am aW (rm hr) rfl Al (Aa (pv 0) Ab))) (Ac (Dx PassesOwn.never rfl (Fk (pv 1)) (AY (i:=3) Ca.nd rfl (Or.inl rfl)) (Ag (Ar (i:=2) Ca.nd rfl (Or.inl rfl) (Am aV (rm hr) rfl Al (Aa (pv 0) (Aa (pv 2) (Aa (Aw AQ (pv 3) Af (fun _ _=>rfl)) (Aa (Aw AQ (pv 3) Af (fun _ _=>rfl)) (Aa (Aw AQ (pv 3) Af (fun _ _=>rfl)) Ab))))))))) (Ag (Aq (pv 2))))),?_⟩
  try dsimp only [cxK]
  refine xq1 rfl ⟨g,G,rfl,fu,?_⟩;refine xq1 rfl ⟨L,rfl,⟨_,SqL.of hL⟩,?_⟩;refine FY (xs:=ts.map V.ref) (fun j σ H2=>∃ (G':Gv) (f n:Nat) (u3:Option V),σ=[some (.ref g.p),some (.ref L),some (.int f),u3]/\Fr g H H2/\AI a H2 g G'/\AN G G' (400 * j)/\n<=40/\Aj G' f ((n+1:Nat):Int)/\Lq G' (cs.take j).reverse n f) ⟨G,bareN 1,0,none,rfl,Fr.refl g H,fu,AN.refl fu.ok,by lia,Ew e0 (by lia),.nil⟩ (fun j σ H2 _ ⟨_,_,_,_,_,fr,_⟩=>SqL.of (fr _ _ hL n1 n2 (Bb hL fu.at'.nm (by intro z; cases z)))) ?_ ?_
  ·rintro j v σ H2 ev ⟨G',f',n,u3,rfl,fr,fu2,go,n40,lf,fl⟩;rw [List.getElem?_map] at ev;obtain ⟨t,et,rfl⟩:=Option.map_eq_some_iff.mp ev;obtain ⟨c,ec,hc⟩:=PairedM.getL pr et;have cok:=oks c (List.mem_of_getElem? ec);have hj:j < cs.length:=(List.getElem?_eq_some_iff.mp ec).1;have hc2:=fr.tup fu.at' hc;have gf:=go.few;refine xw3 rfl rfl rfl (xq4 rfl rfl (SqT.of hc2) (Ai (j:=0) rfl) (xwi rfl rfl rfl (SqT.of hc2) (Ai (j:=1) rfl) (xwi rfl rfl rfl (SqT.of hc2) (Ai (j:=2) rfl) ?_)));refine ⟨g,G',f',n,c.x,c.y,c.s,rfl,fu2,lf,n40,cok.li,cok.s,by lia,fun r kk w' i' G2 H3 fr3 fu3 go3 pl=>?_⟩;have li':=pl.rep.lev fu3.ok cok.s;obtain ⟨m,lm,lr⟩:=Dn.lev li' pl.tr;have le:=pl.le;refine ⟨G2,r,m,(xq1 rfl ⟨fr.trans fr3,fu3,(go.trans go3).mono (by lia),by lia,lr,?_⟩)⟩;rw [List.take_add_one,ec,Option.toList_some,List.reverse_append];exact .cons (fl.app go3) (go3.lev lf) pl lr
  ·rintro σ H2 ⟨G',f',n,u3,rfl,fr,fu2,go,n40,lf,fl⟩;rw [List.length_map,lts] at go fl;rw [List.take_length] at fl;exact xq1 rfl (k f' n G' H2 fr fu2 go n40 lf fl)
end
theorem DY.uniq {G:Gv} {n i:Nat} {q q':Sq} {x y z w x' y' z' w':Nat} (h:DY G n i q x y z w) (h':DY G n i q' x' y' z' w'):x=x'/\y=y'/\z=z'/\w=w':=by
 have e:=h.g;rw [h'.g] at e;cases e;have p:=h.ps;rw [h'.ps] at p;injection p with p1 p
 injection p with p2 p
 injection p with p3 p
 injection p with p4 p
 exact ⟨(Int.ofNat.inj p1).symm,(Int.ofNat.inj p2).symm,(Int.ofNat.inj p3).symm,(Int.ofNat.inj p4).symm⟩
theorem FJ.uniq {G:Gv} {n i:Nat} {qs qs':Nat->Nat} {ps ps':Nat->Nat->Nat} (h:FJ G n i qs ps) (h':FJ G n i qs' ps') {k j:Nat} (hk:k < 4) (hj:j < 4):qs k=qs' k/\ps k j=ps' k j:=by
 obtain ⟨q,nd⟩:=h.node;obtain ⟨q',nd'⟩:=h'.node;obtain ⟨e0,e1,e2,e3⟩:=nd.uniq nd';have eq:qs k=qs' k:=by
  match k,hk with
  | 0,_=>exact e0
  | 1,_=>exact e1
  | 2,_=>exact e2
  | 3,_=>exact e3
 refine ⟨eq,?_⟩;obtain ⟨q1,n1⟩:=h.sub k hk;obtain ⟨q2,n2⟩:=h'.sub k hk;rw [<-eq] at n2;obtain ⟨f0,f1,f2,f3⟩:=n1.uniq n2
 match j,hj with
 | 0,_=>exact f0
 | 1,_=>exact f1
 | 2,_=>exact f2
 | 3,_=>exact f3
def FZ (G:Gv) (n f:Nat):Prop:=n=0\/∃ m qs ps,n=m+1/\FJ G m f qs ps/\¬ BA m ps
theorem FZ.app {G G':Gv} {k n f:Nat} (go:AN G G' k) (h:FZ G n f):FZ G' n f:=by
 rcases h with h | ⟨m,qs,ps,e,d,b⟩
 ·exact .inl h
 ·exact .inr ⟨m,qs,ps,e,d.app go,b⟩
theorem FZ.stays {G:Gv} {n f r:Nat} (h:FZ G n f) (t:Dn G (n+1) f r):r=f:=by
 rcases h with rfl | ⟨m,qs,ps,rfl,d,b⟩
 ·exact t
 ·obtain ⟨qs',ps',d',t⟩:=t;rcases t with ⟨_,e⟩ | ⟨b',_⟩
  ·exact e
  ·refine absurd (fun k j hk hj ne=>?_) b;rw [(d.uniq d' hk hj).2];exact b' k j hk hj ne
end J
namespace J
open PySem L2
def cellF (G:Gv):Nat->Nat->Nat->Nat->Nat
 | 0,i,_,_=>i
 | n+1,i,x,y=>match G[i]? with
  | some q=>cellF G n (q.parts.getD (quad n x y) 0).toNat (x % 2 ^ n) (y % 2 ^ n)
  | none=>0
theorem BE (n:Nat):0 < 2 ^ n:=Nat.pow_pos (by decide)
theorem Bw {G:Gv} {n i:Nat} {q:Sq} {a b c d:Nat} (h:DY G n i q a b c d) {x y:Nat} (hx:x < 2 ^ (n+1)) (hy:y < 2 ^ (n+1)):cellF G (n+1) i x y=cellF G n (f4 a b c d (quad n x y)) (x % 2 ^ n) (y % 2 ^ n):=by
 rw [show cellF G (n+1) i x y=(match G[i]? with | some q=>cellF G n (q.parts.getD (quad n x y) 0).toNat (x % 2 ^ n) (y % 2 ^ n) | none=>0) from rfl,h.g];show cellF G n (q.parts.getD (quad n x y) 0).toNat _ _=_;have:=(h.nat (DL hx hy)).1;rw [List.getD_eq_getElem?_getD,this];rfl
theorem Mq {G G':Gv} {k:Nat} (ok:GOk G) (go:AN G G' k):∀ {n i x y:Nat},Aj G i (n:Int)->x < 2 ^ n->y < 2 ^ n->cellF G' n i x y=cellF G n i x y
 | 0,_,_,_,_,_,_=>rfl
 | n+1,i,x,y,h,hx,hy=>by
  obtain ⟨q,a,b,c,d,nd⟩:=BF ok h;rw [Bw nd hx hy,Bw (nd.app go) hx hy];exact Mq ok go (nd.nat (DL hx hy)).2 (Nat.mod_lt _ (BE n)) (Nat.mod_lt _ (BE n))
theorem Ev {G r:Gv} (e:G=G0 ++ r) (ok:GOk G):∀ {n x y:Nat},n<=48->x < 2 ^ n->y < 2 ^ n->cellF G n (bareN n) x y=0
 | 0,_,_,_,_,_=>rfl
 | n+1,x,y,hn,hx,hy=>by
  obtain ⟨q,a,b,c,d,nd⟩:=BF ok (Ew e (n:=n+1) hn);have bn:a=bareN n/\b=bareN n/\c=bareN n/\d=bareN n:=by
   have g:=nd.g;rw [show bareN (n+1)=8+n from rfl,g0_pre e n (by lia)] at g;cases g;have s:[(bareN n:Int),(bareN n:Int),(bareN n:Int),(bareN n:Int)]=[(a:Int),(b:Int),(c:Int),(d:Int)]:=nd.ps;injection s with s0 s
   injection s with s1 s
   injection s with s2 s
   injection s with s3 s
   exact ⟨(Int.ofNat.inj s0).symm,(Int.ofNat.inj s1).symm,(Int.ofNat.inj s2).symm,(Int.ofNat.inj s3).symm⟩
  obtain ⟨rfl,rfl,rfl,rfl⟩:=bn;rw [Bw nd hx hy];have:f4 (bareN n) (bareN n) (bareN n) (bareN n) (quad n x y)=bareN n:=by unfold f4; split<;>rfl
  rw [this];exact Ev e ok (by lia) (Nat.mod_lt _ (BE n)) (Nat.mod_lt _ (BE n))
theorem EL {n k x y:Nat} (hk:k < 4) (hx:x < 2 ^ n) (hy:y < 2 ^ n):(x+2 ^ n * (k % 2)) < 2 ^ (n+1)/\(y+2 ^ n * (k / 2)) < 2 ^ (n+1)/\quad n (x+2 ^ n * (k % 2)) (y+2 ^ n * (k / 2))=k/\(x+2 ^ n * (k % 2)) % 2 ^ n=x/\(y+2 ^ n * (k / 2)) % 2 ^ n=y:=by
 have p:=BE n;have e:2 ^ (n+1)=2 * 2 ^ n:=by rw [Nat.pow_succ]; lia
 unfold quad;rw [Nat.add_mul_div_left _ _ p,Nat.add_mul_div_left _ _ p,Nat.add_mul_mod_self_left,Nat.add_mul_mod_self_left,Nat.div_eq_of_lt hx,Nat.div_eq_of_lt hy,Nat.mod_eq_of_lt hx,Nat.mod_eq_of_lt hy,e];generalize 2 ^ n=h at *
 match k,hk with
 | 0,_=>exact ⟨by lia,by lia,rfl,rfl,rfl⟩
 | 1,_=>exact ⟨by lia,by lia,rfl,rfl,rfl⟩
 | 2,_=>exact ⟨by lia,by lia,rfl,rfl,rfl⟩
 | 3,_=>exact ⟨by lia,by lia,rfl,rfl,rfl⟩
theorem Gw {G:Gv} (ok:GOk G):∀ {n i j:Nat},Aj G i (n:Int)->Aj G j (n:Int)->(∀ x y,x < 2 ^ n->y < 2 ^ n->cellF G n i x y=cellF G n j x y)->i=j
 | 0,i,j,_,_,h=>h 0 0 (by decide) (by decide)
 | n+1,i,j,hi,hj,h=>by
  obtain ⟨q,a,b,c,d,nd⟩:=BF ok hi;obtain ⟨q',a',b',c',d',nd'⟩:=BF ok hj;have key:∀ k,k < 4->f4 a b c d k=f4 a' b' c' d' k:=fun k hk=>by
   refine Gw ok (nd.nat hk).2 (nd'.nat hk).2 fun x y hx hy=>?_;obtain ⟨h1,h2,h3,h4,h5⟩:=EL hk hx hy;have:=h _ _ h1 h2;rw [Bw nd h1 h2,Bw nd' h1 h2,h3,h4,h5] at this;exact this
  have k0:a=a':=key 0 (by decide);have k1:b=b':=key 1 (by decide);have k2:c=c':=key 2 (by decide);have k3:d=d':=key 3 (by decide);subst k0 k1 k2 k3;exact ok.one nd.g nd'.g (nd.ps.trans nd'.ps.symm)
theorem LB {n x X:Nat} (h1:x / 2 ^ n=X / 2 ^ n) (h2:x % 2 ^ n=X % 2 ^ n):x=X:=by
 rw [<-Nat.div_add_mod x (2 ^ n),<-Nat.div_add_mod X (2 ^ n),h1,h2]
theorem LM {G:Gv} (ok:GOk G) {s:Nat} (hs:s < 8):∀ {n i X Y r x y:Nat},X < 2 ^ n->Y < 2 ^ n->x < 2 ^ n->y < 2 ^ n->Rep G s n i X Y r->cellF G n r x y=if x=X/\y=Y then s else cellF G n i x y
 | 0,i,X,Y,r,x,y,hX,hY,hx,hy,h=>by
  have h:r=s:=h;have e1:X=0:=Nat.lt_one_iff.mp hX;have e2:Y=0:=Nat.lt_one_iff.mp hY;have e3:x=0:=Nat.lt_one_iff.mp hx;have e4:y=0:=Nat.lt_one_iff.mp hy;subst e1 e2 e3 e4 h;rfl
 | n+1,i,X,Y,r,x,y,hX,hY,hx,hy,h=>by
  obtain ⟨q,a,b,c,d,j,nd,h1,e⟩:=h;have lj:=h1.lev ok hs;have lst:∀ ii,ii < 4->Aj G (st4 a b c d (quad n X Y) j ii) (n:Int):=fun ii hi=>by
   unfold st4;split
   ·exact lj
   ·exact (nd.nat hi).2
  have nr:DY G n r _ (st4 a b c d (quad n X Y) j 0) (st4 a b c d (quad n X Y) j 1) (st4 a b c d (quad n X Y) j 2) (st4 a b c d (quad n X Y) j 3):=⟨e,rfl,rfl,lst 0 (by decide),lst 1 (by decide),lst 2 (by decide),lst 3 (by decide)⟩
  have qk:=DL hx hy;rw [Bw nr hx hy,Bw nd hx hy,IJ (st4 a b c d (quad n X Y) j) qk];have m:=BE n;have x2:=Eh hx;have y2:=Eh hy;have X2:=Eh hX;have Y2:=Eh hY;unfold st4;by_cases hq:quad n x y=quad n X Y
  ·rw [if_pos hq,LM ok hs (Nat.mod_lt _ m) (Nat.mod_lt _ m) (Nat.mod_lt _ m) (Nat.mod_lt _ m) h1,hq];have exy:x / 2 ^ n=X / 2 ^ n/\y / 2 ^ n=Y / 2 ^ n:=by
    unfold quad at hq;generalize x / 2 ^ n=A at *
    generalize X / 2 ^ n=B at *
    generalize y / 2 ^ n=C at *
    generalize Y / 2 ^ n=D at *
    lia
   obtain ⟨ex,ey⟩:=exy;by_cases hxy:x=X/\y=Y
   ·rw [if_pos hxy,if_pos ⟨by rw [hxy.1],by rw [hxy.2]⟩]
   ·rw [if_neg hxy,if_neg fun z=>hxy ⟨LB ex z.1,LB ey z.2⟩]
  ·rw [if_neg hq,if_neg fun z=>hq (by rw [z.1,z.2])]
def fieldF (G:Gv) (n f:Nat) (x y:Int):Nat:=if -(2 ^ n)<=x/\x < 2 ^ n/\-(2 ^ n)<=y/\y < 2 ^ n then cellF G (n+1) f (x+2 ^ n).toNat (y+2 ^ n).toNat else 0
theorem ES {n:Nat} {x:Int} (h0:-(2 ^ n)<=x) (h1:x < 2 ^ n):(x+2 ^ n).toNat < 2 ^ (n+1):=by
 have e:=Ed (n+1);rw [Er] at e;lia
theorem Jw {G G':Gv} {k n f:Nat} (ok:GOk G) (go:AN G G' k) (h:Aj G f ((n+1:Nat):Int)) (x y:Int):fieldF G' n f x y=fieldF G n f x y:=by
 unfold fieldF;split
 ·rename_i z;exact Mq ok go h (ES z.1 z.2.1) (ES z.2.2.1 z.2.2.2)
 ·rfl
theorem Le {h X:Nat} (u:Nat) (h1:h * u<=X) (h2:X < h * (u+1)):X / h=u/\X % h=X - h * u:=by
 have e:X / h=u:=Nat.div_eq_of_lt_le (by rw [Nat.mul_comm]; exact h1) (by rw [Nat.mul_comm]; exact h2);exact ⟨e,by have:=Nat.div_add_mod X h; rw [e] at this; lia⟩
end J
namespace J
open PySem L2
theorem FT (x n:Nat):x % 2 ^ (n+1) % 2 ^ n=x % 2 ^ n:=Nat.mod_mod_of_dvd x ⟨2,by rw [Nat.pow_succ]⟩
theorem Gs {G:Gv} {n i:Nat} {qs:Nat->Nat} {ps:Nat->Nat->Nat} (h:FJ G n i qs ps) {x y:Nat} (hx:x < 2 ^ (n+2)) (hy:y < 2 ^ (n+2)):cellF G (n+2) i x y=cellF G n (ps (quad (n+1) x y) (quad n (x % 2 ^ (n+1)) (y % 2 ^ (n+1)))) (x % 2 ^ n) (y % 2 ^ n):=by
 obtain ⟨q,nd⟩:=h.node;have qk:=DL (l:=n+1) hx hy;have hx1:x % 2 ^ (n+1) < 2 ^ (n+1):=Nat.mod_lt _ (BE _);have hy1:y % 2 ^ (n+1) < 2 ^ (n+1):=Nat.mod_lt _ (BE _);obtain ⟨q',nk⟩:=h.sub _ qk;rw [Bw nd hx hy,IJ qs qk,Bw nk hx1 hy1,IJ (ps _) (DL hx1 hy1),FT,FT]
theorem bits {h u:Nat} (hu:u < 2 * h):(u+h) / (2 * h)=u / h/\(u+h) % (2 * h) / h=1 - u / h/\(u+h) % h=u % h/\u / h < 2:=by
 have p:0 < h:=by lia
 rcases Nat.lt_or_ge u h with z | z
 ·have e1:u / h=0:=Nat.div_eq_of_lt z;have e2:(u+h) / (2 * h)=0:=Nat.div_eq_of_lt (by lia);have e3:(u+h) % (2 * h)=u+h:=Nat.mod_eq_of_lt (by lia);have e4:(u+h) / h=1:=(Le (X:=u+h) 1 (by lia) (by lia)).1;exact ⟨by rw [e1,e2],by rw [e3,e4,e1],Nat.add_mod_right u h,by lia⟩
 ·have e1:u / h=1:=(Le 1 (by lia) (by lia)).1;have e2:=Le (h:=2 * h) (X:=u+h) 1 (by lia) (by lia);have e3:(u+h - 2 * h * 1) / h=0:=Nat.div_eq_of_lt (by lia);exact ⟨by rw [e1,e2.1],by rw [e2.2,e3,e1],Nat.add_mod_right u h,by lia⟩
theorem LP (n:Nat):2 ^ (n+1)=2 * 2 ^ n:=by rw [Nat.pow_succ]; lia
theorem QA {G:Gv} (ok:GOk G) {n i m:Nat} {qs:Nat->Nat} {ps:Nat->Nat->Nat} (h:FJ G n i qs ps) (em:G[m]?=some ⟨[(ps 0 3:Int),(ps 1 2:Int),(ps 2 1:Int),(ps 3 0:Int)],(n:Int)+1⟩) {u v:Nat} (hu:u < 2 ^ (n+1)) (hv:v < 2 ^ (n+1)):cellF G (n+2) i (u+2 ^ n) (v+2 ^ n)=cellF G (n+1) m u v:=by
 have lp:∀ k j,k < 4->j < 4->Aj G (ps k j) (n:Int):=fun k j hk hj=>by
  obtain ⟨q,nk⟩:=h.sub k hk;have:=(nk.nat hj).2;rw [IJ (ps k) hj] at this;exact this
 have nm:DY G n m _ (ps 0 3) (ps 1 2) (ps 2 1) (ps 3 0):=⟨em,rfl,rfl,lp 0 3 (by decide) (by decide),lp 1 2 (by decide) (by decide),lp 2 1 (by decide) (by decide),lp 3 0 (by decide) (by decide)⟩
 have e1:=LP n;have e2:2 ^ (n+2)=2 * 2 ^ (n+1):=LP (n+1);have p:=BE n;rw [Gs h (by lia) (by lia),Bw nm hu hv];unfold quad;rw [e1];rw [e1] at hu hv;obtain ⟨a1,a2,a3,a4⟩:=bits hu;obtain ⟨b1,b2,b3,b4⟩:=bits hv;rw [a1,a2,a3,b1,b2,b3];have two:∀ {A:Nat},A < 2->A=0\/A=1:=fun {A} h=>by lia
 have hu2:=two a4;have hv2:=two b4;rcases hu2 with z | z<;>rcases hv2 with z' | z'<;>rw [z,z']<;>rfl
theorem mid_iff' {m X Y:Nat} {x y:Int} (eX:(X:Int)=x+2 ^ (m+1)) (eY:(Y:Int)=y+2 ^ (m+1)) (hX:X < 2 ^ (m+2)) (hY:Y < 2 ^ (m+2)):quad m (X % 2 ^ (m+1)) (Y % 2 ^ (m+1))+quad (m+1) X Y=3 ↔ (-(2 ^ m)<=x/\x < 2 ^ m/\-(2 ^ m)<=y/\y < 2 ^ m):=by
 have p:=BE m;have e1:=LP m;have e2:2 ^ (m+2)=2 * 2 ^ (m+1):=LP (m+1);have c1:=Ed m;have c2:=Ed (m+1);rw [e1] at c2;unfold quad;rw [e1];rw [e2,e1] at hX hY;rw [<-c2] at eX eY;rw [<-c1];generalize 2 ^ m=h at *
 have key:∀ {X:Nat} {x:Int},(X:Int)=x+((2 * h:Nat):Int)->X < 2 * (2 * h)->(X % (2 * h) / h+X / (2 * h)=1 ↔ -(h:Int)<=x/\x < (h:Int))/\X % (2 * h) / h < 2/\X / (2 * h) < 2:=by
  intro X x e l;have h2:0 < 2 * h:=by lia
  have q2:X / (2 * h) < 2:=by rw [Nat.div_lt_iff_lt_mul h2]; exact l
  have r2:X % (2 * h) < 2 * h:=Nat.mod_lt _ h2;have q1:X % (2 * h) / h < 2:=by rw [Nat.div_lt_iff_lt_mul p]; exact r2
  have d2:=Nat.div_add_mod X (2 * h);have d1:=Nat.div_add_mod (X % (2 * h)) h;have m1:=Nat.mod_lt (X % (2 * h)) p;refine ⟨?_,q1,q2⟩;generalize X / (2 * h)=u at *
  generalize X % (2 * h) / h=v at *
  generalize X % (2 * h) % h=t at *
  generalize X % (2 * h)=rr at *
  have hu:u=0\/u=1:=by lia
  have hv:v=0\/v=1:=by lia
  rcases hu with rfl | rfl<;>rcases hv with rfl | rfl<;>simp only [Nat.mul_zero,Nat.mul_one,Nat.zero_add] at d1 d2<;>lia
 obtain ⟨kx,x1,x2⟩:=key eX hX;obtain ⟨ky,y1,y2⟩:=key eY hY;clear key;generalize X % (2 * h) / h=A at *
 generalize X / (2 * h)=B at *
 generalize Y % (2 * h) / h=C at *
 generalize Y / (2 * h)=D at *
 constructor
 ·intro z;have zx:=kx.mp (by lia);have zy:=ky.mp (by lia);exact ⟨zx.1,zx.2,zy.1,zy.2⟩
 ·rintro ⟨z1,z2,z3,z4⟩;have zx:=kx.mpr ⟨z1,z2⟩;have zy:=ky.mpr ⟨z3,z4⟩;lia
theorem Jq {G r:Gv} (e0:G=G0 ++ r) (ok:GOk G) {n i m:Nat} (hn:n<=46) {qs:Nat->Nat} {ps:Nat->Nat->Nat} (h:FJ G n i qs ps) (ba:BA n ps) (em:G[m]?=some ⟨[(ps 0 3:Int),(ps 1 2:Int),(ps 2 1:Int),(ps 3 0:Int)],(n:Int)+1⟩) (x y:Int):fieldF G (n+1) i x y=fieldF G n m x y:=by
 have s1:=Er n;have p:=FP n;unfold fieldF;by_cases hin:-(2 ^ n)<=x/\x < 2 ^ n/\-(2 ^ n)<=y/\y < 2 ^ n
 ·obtain ⟨a1,a2,a3,a4⟩:=hin;rw [if_pos ⟨by lia,by lia,by lia,by lia⟩,if_pos ⟨a1,a2,a3,a4⟩];have hu:=ES a1 a2;have hv:=ES a3 a4;have c:=Ed n;have ex:(x+2 ^ (n+1)).toNat=(x+2 ^ n).toNat+2 ^ n:=by lia
  have ey:(y+2 ^ (n+1)).toNat=(y+2 ^ n).toNat+2 ^ n:=by lia
  rw [ex,ey];exact QA ok h em hu hv
 ·rw [if_neg hin];split
  ·rename_i z;obtain ⟨z1,z2,z3,z4⟩:=z;have hX:=ES z1 z2;have hY:=ES z3 z4;rw [Gs h hX hY];have ne:¬ quad n ((x+2 ^ (n+1)).toNat % 2 ^ (n+1)) ((y+2 ^ (n+1)).toNat % 2 ^ (n+1))+quad (n+1) (x+2 ^ (n+1)).toNat (y+2 ^ (n+1)).toNat=3:=fun q=>hin ((mid_iff' (Int.toNat_of_nonneg (by lia)) (Int.toNat_of_nonneg (by lia)) hX hY).mp q);rw [ba _ _ (DL hX hY) (DL (Nat.mod_lt _ (BE _)) (Nat.mod_lt _ (BE _))) ne];exact Ev e0 ok (by lia) (Nat.mod_lt _ (BE _)) (Nat.mod_lt _ (BE _))
  ·rfl
theorem Id {G r0:Gv} (e0:G=G0 ++ r0) (ok:GOk G):∀ {n f r:Nat},n<=47->Aj G f ((n+1:Nat):Int)->Dn G (n+1) f r->∃ m,m<=n/\Aj G r ((m+1:Nat):Int)/\FZ G m r/\∀ x y,fieldF G m r x y=fieldF G n f x y
 | 0,f,r,_,hl,h=>by
  have h:r=f:=h;subst h;exact ⟨0,Nat.le_refl _,hl,.inl rfl,fun _ _=>rfl⟩
 | n+1,f,r,hn,hl,h=>by
  obtain ⟨qs,ps,d,h⟩:=h;rcases h with ⟨nb,rfl⟩ | ⟨ba,m,em,h⟩
  ·exact ⟨n+1,Nat.le_refl _,hl,.inr ⟨n,qs,ps,rfl,d,nb⟩,fun _ _=>rfl⟩
  ·obtain ⟨k,hk,lk,tk,ek⟩:=Id e0 ok (by lia) ⟨_,em,by show (n:Int)+1=_; lia⟩ h;refine ⟨k,by lia,lk,tk,fun x y=>?_⟩;rw [ek x y,Jq e0 ok (by lia) d ba em x y]
theorem OB {G r:Gv} (e0:G=G0 ++ r) (ok:GOk G) {n f w:Nat} (hn:n<=46) (h:Wid G n f w) (x y:Int):fieldF G (n+1) w x y=fieldF G n f x y:=by
 obtain ⟨q,a,b,c,d,w0,w1,w2,w3,nd,ea,eb,ec,ed,ew⟩:=h.ex;have lb:=Ew e0 (n:=n) (by lia);have lv:∀ {p:Nat} {l:List Int},G[p]?=some ⟨l,(n:Int)+1⟩->Aj G p ((n+1:Nat):Int):=fun {p l} e=>⟨_,e,by show (n:Int)+1=_; lia⟩
 have dp:FJ G n w (f4 w0 w1 w2 w3) (fun k j=>if j+k=3 then f4 a b c d k else bareN n):=by
  refine ⟨⟨_,ew,rfl,by show (n:Int)+2=_; lia,lv ea,lv eb,lv ec,lv ed⟩,fun k hk=>?_⟩
  match k,hk with
  | 0,_=>exact ⟨_,ea,rfl,rfl,lb,lb,lb,nd.hx⟩
  | 1,_=>exact ⟨_,eb,rfl,rfl,lb,lb,nd.hy,lb⟩
  | 2,_=>exact ⟨_,ec,rfl,rfl,lb,nd.hz,lb,lb⟩
  | 3,_=>exact ⟨_,ed,rfl,rfl,nd.hw,lb,lb,lb⟩
 have g:=nd.g;have l:=nd.lev;have ps:=nd.ps;refine Jq e0 ok hn dp (fun k j _ _ ne=>if_neg ne) ?_ x y;rw [g];cases q with
 | mk pp ll=>cases ps; cases l; rfl
theorem Ic {G r:Gv} (e0:G=G0 ++ r) (ok:GOk G) {n f:Nat}:∀ {k w:Nat},n+k<=46->Je G n f k w->∀ x y,fieldF G (n+k) w x y=fieldF G n f x y
 | 0,w,_,h,x,y=>by
  have h:w=f:=h;subst h;rfl
 | k+1,w,hk,h,x,y=>by
  obtain ⟨u,h1,h2⟩:=h;rw [show n+(k+1)=n+k+1 by lia,OB e0 ok (by lia) h2 x y];exact Ic e0 ok (by lia) h1 x y
theorem GH {G r0:Gv} (e0:G=G0 ++ r0) (ok:GOk G) {n f s r k w i:Nat} {X Y:Int} (hs:s < 8) (h:Ei G n f X Y s r k w i):∃ m,m<=40/\Aj G r ((m+1:Nat):Int)/\FZ G m r/\∀ x y,fieldF G m r x y=if x=X/\y=Y then s else fieldF G n f x y:=by
 have le:=h.le;have li:=h.rep.lev ok hs;obtain ⟨m,hm,lm,tm,em⟩:=Id e0 ok (by lia) li h.tr;refine ⟨m,by lia,lm,tm,fun x y=>?_⟩;rw [em x y,<-Ic e0 ok (by lia) h.wid x y];obtain ⟨b1,b2,b3,b4⟩:=Lg h.li;obtain ⟨l1,l2,l3,l4⟩:=h.li;unfold fieldF;split
 ·rename_i z;obtain ⟨z1,z2,z3,z4⟩:=z;rw [LM ok hs b1 b2 (ES z1 z2) (ES z3 z4) h.rep];by_cases hxy:x=X/\y=Y
  ·rw [if_pos hxy,if_pos ⟨by rw [hxy.1],by rw [hxy.2]⟩]
  ·rw [if_neg hxy,if_neg fun q=>hxy ⟨by lia,by lia⟩]
 ·rename_i z;rw [if_neg fun q=>z ⟨by lia,by lia,by lia,by lia⟩]
theorem QF {G r:Gv} (e0:G=G0 ++ r) (ok:GOk G) {n i:Nat} (hn:n<=48) (h:Aj G i (n:Int)) (ne:i≠bareN n):∃ x y,x < 2 ^ n/\y < 2 ^ n/\cellF G n i x y≠0:=by
 refine Classical.byContradiction fun z=>ne (Gw ok h (Ew e0 hn) fun x y hx hy=>?_);rw [Ev e0 ok hn hx hy];exact Classical.byContradiction fun q=>z ⟨x,y,hx,hy,q⟩
theorem Ps {G r:Gv} (e0:G=G0 ++ r) (ok:GOk G) {m f:Nat} (hm:m<=46) (h:FZ G (m+1) f):∃ x y:Int,¬ (-(2 ^ m)<=x/\x < 2 ^ m/\-(2 ^ m)<=y/\y < 2 ^ m)/\fieldF G (m+1) f x y≠0:=by
 rcases h with h | ⟨m',qs,ps,e,dp,nb⟩
 ·lia
 ·have:m'=m:=by lia
  subst this;have:∃ k j,k < 4/\j < 4/\j+k≠3/\ps k j≠bareN m':=by
   refine Classical.byContradiction fun z=>nb fun k j hk hj ne=>Classical.byContradiction fun q=>z ⟨k,j,hk,hj,ne,q⟩
  obtain ⟨k,j,hk,hj,ne,nbare⟩:=this;obtain ⟨qk,nk⟩:=dp.sub k hk;have lp:Aj G (ps k j) (m':Int):=by
   have:=(nk.nat hj).2;rw [IJ (ps k) hj] at this;exact this
  obtain ⟨u,v,hu,hv,hc⟩:=QF e0 ok (by lia) lp nbare;obtain ⟨a1,a2,a3,a4,a5⟩:=EL hj hu hv;obtain ⟨b1,b2,b3,b4,b5⟩:=EL (n:=m'+1) hk a1 a2;generalize hX:u+2 ^ m' * (j % 2)+2 ^ (m'+1) * (k % 2)=X at *
  generalize hY:v+2 ^ m' * (j / 2)+2 ^ (m'+1) * (k / 2)=Y at *
  have c1:=Ed (m'+1);have c2:=Ed (m'+2);have s2:=Er (m'+1);rw [s2] at c2;refine ⟨(X:Int) - 2 ^ (m'+1),(Y:Int) - 2 ^ (m'+1),fun z=>ne ?_,?_⟩
  ·have:=(mid_iff' (X:=X) (Y:=Y) (by lia) (by lia) b1 b2).mpr z;rw [b3,b4,b5,a3] at this;exact this
  ·unfold fieldF;rw [if_pos ⟨by lia,by lia,by lia,by lia⟩,show ((X:Int) - 2 ^ (m'+1)+2 ^ (m'+1)).toNat=X by lia,show ((Y:Int) - 2 ^ (m'+1)+2 ^ (m'+1)).toNat=Y by lia,Gs dp b1 b2,b3,b4,b5,a3];have d1:X % 2 ^ m'=u:=by rw [<-FT,b4,a4]
   have d2:Y % 2 ^ m'=v:=by rw [<-FT,b5,a5]
   rw [d1,d2];exact hc
theorem Nt {G r:Gv} (e0:G=G0 ++ r) (ok:GOk G) {n m f f':Nat} (hn:n<=47) (hm:m<=47) (lf:Aj G f ((n+1:Nat):Int)) (lf':Aj G f' ((m+1:Nat):Int)) (t:FZ G n f) (t':FZ G m f') (h:∀ x y,fieldF G n f x y=fieldF G m f' x y):n=m/\f=f':=by
 have le:∀ {n m f f':Nat},m<=47->FZ G m f'->(∀ x y,fieldF G n f x y=fieldF G m f' x y)->m<=n:=by
  intro n m f f' hm t' h;refine Nat.le_of_not_lt fun z=>?_;obtain ⟨k,rfl⟩:∃ k,m=k+1:=⟨m - 1,by lia⟩
  obtain ⟨x,y,out,lv⟩:=Ps e0 ok (by lia) t';rw [<-h x y] at lv;unfold fieldF at lv;split at lv
  ·rename_i q;have:(2:Int) ^ n<=2 ^ k:=by
    have:=Nat.pow_le_pow_right (show 0 < 2 by decide) (show n<=k by lia)
    exact_mod_cast this
   exact out ⟨by lia,by lia,by lia,by lia⟩
  ·exact lv rfl
 have e1:=le hm t' h;have e2:=le hn t fun x y=>(h x y).symm;have e:n=m:=by lia
 subst e;refine ⟨rfl,Gw ok lf lf' fun x y hx hy=>?_⟩;have c1:=Ed n;have c2:=Ed (n+1);have s2:=Er n;rw [s2] at c2;have:=h ((x:Int) - 2 ^ n) ((y:Int) - 2 ^ n);unfold fieldF at this;rw [if_pos ⟨by lia,by lia,by lia,by lia⟩,if_pos ⟨by lia,by lia,by lia,by lia⟩,show ((x:Int) - 2 ^ n+2 ^ n).toNat=x by lia,show ((y:Int) - 2 ^ n+2 ^ n).toNat=y by lia] at this;exact this
end J
namespace J
open PySem L2
def Fix:HO->Prop
 | .tup _=>True
 | .ins _ _ _=>True
 | _=>False
def Fx (l:List Addr) (H H':Hp):Prop:=∀ b o,H b=some o->(b ∈ l->Fix o)->H' b=some o
theorem Fx.refl (l:List Addr) (H:Hp):Fx l H H:=fun _ _ e _=>e
theorem Fx.trans {l:List Addr} {H1 H2 H3:Hp} (h:Fx l H1 H2) (h2:Fx l H2 H3):Fx l H1 H3:=fun b o e n=>h2 b o (h b o e n) n
theorem Az.fx {l:List Addr} {H1 H2:Hp} (h:Az H1 H2):Fx l H1 H2:=fun b o e _=>h b o e
theorem Fx.mono {l m:List Addr} {H1 H2:Hp} (h:Fx l H1 H2) (s:∀ x ∈ l,x ∈ m):Fx m H1 H2:=fun b o e n=>h b o e fun z=>n (s b z)
theorem Fx.get {l:List Addr} {H1 H2:Hp} (h:Fx l H1 H2) {b:Addr} {o:HO} (n:b ∉ l) (e:H1 b=some o):H2 b=some o:=h b o e fun z=>absurd z n
theorem Fx.tup {l:List Addr} {H1 H2:Hp} (h:Fx l H1 H2) {b:Addr} {xs:List V} (e:H1 b=some (.tup xs)):H2 b=some (.tup xs):=h b _ e fun _=>True.intro
theorem fx_up {H:Hp} {x:Addr} {o o':HO} (e:H x=some o) (n:¬ Fix o):Fx [x] H (upd H x o'):=fun b u e2 f=>by
 by_cases z:b=x
 ·subst z;rw [e] at e2;cases e2;exact absurd (f (List.mem_singleton.mpr rfl)) n
 ·rw [Ak z];exact e2
theorem Fr.fx {a:Ad} {g:GA} {G:Gv} {H H':Hp} (h:Fr g H H') (at':AD a H g G):Fx [g.lv,g.pt,g.nm] H H':=fun b o e f=>by
 obtain ⟨ts,h3,_⟩:=at'.pt;refine h b o e (fun z=>?_) (fun z=>?_) (fun z=>?_)
 ·subst z; rw [at'.lv] at e; cases e; exact f (by simp)
 ·subst z; rw [h3] at e; cases e; exact f (by simp)
 ·subst z; rw [at'.nm] at e; cases e; exact f (by simp)
theorem FrQ.fx {a:Ad} {g:GA} {G:Gv} {H H':Hp} (h:FrQ g H H') (fu:AI a H g G):Fx [g.am,g.bx] H H':=fun b o e f=>by
 obtain ⟨ks,h1,_⟩:=fu.am;obtain ⟨ks',h2,_⟩:=fu.bx;refine h b o e (fun z=>?_) (fun z=>?_)
 ·subst z; rw [h1] at e; cases e; exact f (by simp)
 ·subst z; rw [h2] at e; cases e; exact f (by simp)
def Bn (g:GA):List Addr:=[g.lv,g.pt,g.nm,g.br,g.am,g.bx]
theorem AI.fx {a:Ad} {g:GA} {G:Gv} {H H':Hp} {l:List Addr} (h:AI a H g G) (f:Fx l H H') (n:∀ x ∈ Bn g,x ∉ l):AI a H' g G:=by
 obtain ⟨at',ok,g0,br,⟨ks,h1,h2⟩,⟨ks',h3,h4⟩,n1,n2,n3⟩:=h;obtain ⟨p1,p2,⟨ts,p3,p4⟩,p5,p6⟩:=at';have m:∀ x ∈ Bn g,∀ o,H x=some o->H' x=some o:=fun x hx o e=>f.get (n x hx) e;refine ⟨⟨f _ _ p1 fun _=>True.intro,m _ (by simp [Bn]) _ p2,⟨ts,m _ (by simp [Bn]) _ p3,PairedM.imp (fun t q z=>f.tup z) p4⟩,m _ (by simp [Bn]) _ p5,p6⟩,ok,g0,m _ (by simp [Bn]) _ br,⟨ks,m _ (by simp [Bn]) _ h1,h2⟩,⟨ks',m _ (by simp [Bn]) _ h3,h4.keys,fun i v e=>?_⟩,n1,n2,n3⟩;obtain ⟨l,b,t,e1,e2,e3,e4⟩:=h4.val i v e;exact ⟨l,b,t,e1,e2,e3,f.tup e4⟩
structure Nw (H:Hp) (l:List Addr):Prop where
 nd:l.Nodup
 s:∀ x ∈ l,∃ o,H x=some o
theorem AI.nw {a:Ad} {H:Hp} {g:GA} {G:Gv} (h:AI a H g G):Nw H (Bn g):=by
 obtain ⟨⟨_,h2,⟨ts,h3,_⟩,h5,h6⟩,_,_,h7,⟨ks,h8,_⟩,⟨ks',h9,_⟩,n1,n2,n3⟩:=h;have t:∀ {x y:Addr} {o o':HO},H x=some o->H y=some o'->o≠o'->x≠y:=fun {x y o o'} e e' n=>Bb e e' n;refine ⟨?_,fun x hx=>?_⟩
 ·simp only [Bn,List.nodup_cons,List.mem_cons,List.not_mem_nil,or_false,not_or,not_false_eq_true,List.nodup_nil,and_true];exact ⟨⟨h6,t h2 h5 (by intro z; cases z),Ne.symm n1,t h2 h8 (by intro z; cases z),t h2 h9 (by intro z; cases z)⟩,⟨t h3 h5 (by intro z; cases z),Ne.symm n2,t h3 h8 (by intro z; cases z),t h3 h9 (by intro z; cases z)⟩,⟨t h5 h7 (by intro z; cases z),t h5 h8 (by intro z; cases z),t h5 h9 (by intro z; cases z)⟩,⟨t h7 h8 (by intro z; cases z),t h7 h9 (by intro z; cases z)⟩,n3⟩
 ·simp only [Bn,List.mem_cons,List.not_mem_nil,or_false] at hx;rcases hx with rfl | rfl | rfl | rfl | rfl | rfl
  ·exact ⟨_,h2⟩
  ·exact ⟨_,h3⟩
  ·exact ⟨_,h5⟩
  ·exact ⟨_,h7⟩
  ·exact ⟨_,h8⟩
  ·exact ⟨_,h9⟩
theorem CS {H:Hp} {x y:Addr} {o:HO} (h:upd H x o y=none):H y=none:=by
 by_cases e:y=x
 ·subst e;rw [Ah] at h;cases h
 ·rw [Ak e] at h;exact h
theorem MB.none {a:Ad} {H H':Hp} {x dx:Addr} {o o':HO} {g:GA} {G:Gv} {B:List Int} {am:List (Key×V)} (N:MB a (upd (upd H dx o) x o') H' g G B am):∀ y ∈ Bn g,H y=none:=fun y hy=>by
 obtain ⟨f1,f2,f3,f4,f5,f6⟩:=N.fresh;simp only [Bn,List.mem_cons,List.not_mem_nil,or_false] at hy;rcases hy with rfl | rfl | rfl | rfl | rfl | rfl
 ·exact CS (CS f1)
 ·exact CS (CS f2)
 ·exact CS (CS f3)
 ·exact CS (CS f4)
 ·exact CS (CS f5)
 ·exact CS (CS f6)
end J
namespace J
open PySem L2
def DA (G:Gv):Nat->Nat->Int->Int->List (List Int)
 | 0,i,x,y=>if i=0 then [] else [[y,x,(i:Int)]]
 | n+1,i,x,y=>match G[i]? with
  | some q=>(List.range 4).flatMap fun k=>DA G n (q.parts.getD k 0).toNat (x+((k % 2:Nat):Int) * 2 ^ n) (y+((k / 2:Nat):Int) * 2 ^ n)
  | none=>[]
def Ek (G:Gv) (n:Nat) (f:Nat->Nat) (x y:Int) (k:Nat):List (List Int):=DA G n (f k) (x+((k % 2:Nat):Int) * 2 ^ n) (y+((k / 2:Nat):Int) * 2 ^ n)
theorem II {α β:Type} {f g:α->List β}:∀ {l:List α},(∀ x ∈ l,f x=g x)->l.flatMap f=l.flatMap g
 | [],_=>rfl
 | x :: l,h=>by rw [List.flatMap_cons,List.flatMap_cons,h x (List.mem_cons_self ..),II fun y hy=>h y (List.mem_cons_of_mem _ hy)]
theorem EQ {G:Gv} {n i:Nat} {q:Sq} {a b c d:Nat} (h:DY G n i q a b c d) (x y:Int):DA G (n+1) i x y=(List.range 4).flatMap (Ek G n (f4 a b c d) x y):=by
 rw [show DA G (n+1) i x y=(match G[i]? with | some q=>(List.range 4).flatMap fun k=>DA G n (q.parts.getD k 0).toNat (x+((k % 2:Nat):Int) * 2 ^ n) (y+((k / 2:Nat):Int) * 2 ^ n) | none=>[]) from rfl,h.g];refine II fun k hk=>?_;have:=(h.nat (by simpa using hk)).1;unfold Ek;rw [List.getD_eq_getElem?_getD,this];rfl
theorem De {G:Gv} (ok:GOk G):∀ {n i:Nat} {x y:Int},Aj G i (n:Int)->((DA G n i x y).length:Int)=BZ G n i
 | 0,i,x,y,_=>by
  show (((if i=0 then [] else [[y,x,(i:Int)]]:List (List Int)).length:Nat):Int)=if i=0 then 0 else 1;split<;>rfl
 | n+1,i,x,y,h=>by
  obtain ⟨q,a,b,c,d,nd⟩:=BF ok h;rw [EQ nd,Eu nd];show (((Ek G n (f4 a b c d) x y 0 ++ (Ek G n (f4 a b c d) x y 1 ++ (Ek G n (f4 a b c d) x y 2 ++ (Ek G n (f4 a b c d) x y 3 ++ [])))).length:Nat):Int)=BZ G n a+(BZ G n b+(BZ G n c+(BZ G n d+0)))
  have e0:=De ok (x:=x+((0 % 2:Nat):Int) * 2 ^ n) (y:=y+((0 / 2:Nat):Int) * 2 ^ n) nd.hx;have e1:=De ok (x:=x+((1 % 2:Nat):Int) * 2 ^ n) (y:=y+((1 / 2:Nat):Int) * 2 ^ n) nd.hy;have e2:=De ok (x:=x+((2 % 2:Nat):Int) * 2 ^ n) (y:=y+((2 / 2:Nat):Int) * 2 ^ n) nd.hz;have e3:=De ok (x:=x+((3 % 2:Nat):Int) * 2 ^ n) (y:=y+((3 / 2:Nat):Int) * 2 ^ n) nd.hw;rw [<-e0,<-e1,<-e2,<-e3];simp only [List.length_append,List.length_nil,Int.natCast_add];rfl
theorem dm_c (v h:Nat):(v:Int)=((v / h:Nat):Int) * (h:Int)+((v % h:Nat):Int):=by
 have:=Nat.div_add_mod v h;rw [<-Int.natCast_mul,<-Int.natCast_add,Nat.mul_comm,this]
theorem DQ {G:Gv} (ok:GOk G):∀ {n i:Nat} {x y:Int} {r:List Int},Aj G i (n:Int)->(r ∈ DA G n i x y ↔ ∃ u v:Nat,u < 2 ^ n/\v < 2 ^ n/\cellF G n i u v≠0/\r=[y+v,x+u,(cellF G n i u v:Int)])
 | 0,i,x,y,r,_=>by
  show r ∈ (if i=0 then [] else [[y,x,(i:Int)]]:List (List Int)) ↔ _;constructor
  ·intro h;by_cases z:i=0
   ·rw [if_pos z] at h;cases h
   ·rw [if_neg z] at h;refine ⟨0,0,by decide,by decide,z,?_⟩;rw [List.mem_singleton.mp h];show [y,x,(i:Int)]=[y+0,x+0,(i:Int)]
    rw [Int.add_zero,Int.add_zero]
  ·rintro ⟨u,v,hu,hv,ne,rfl⟩;have hu:u=0:=Nat.lt_one_iff.mp hu;have hv:v=0:=Nat.lt_one_iff.mp hv;subst hu hv;have ne:i≠0:=ne;rw [if_neg ne];show [y+0,x+0,(i:Int)] ∈ _;rw [Int.add_zero,Int.add_zero];exact List.mem_singleton.mpr rfl
 | n+1,i,x,y,r,h=>by
  obtain ⟨q,a,b,c,d,nd⟩:=BF ok h;have cc:=Ed n;rw [EQ nd,List.mem_flatMap];constructor
  ·rintro ⟨k,hk,hr⟩;have hk:k < 4:=by simpa using hk
   obtain ⟨u,v,hu,hv,ne,rfl⟩:=(DQ ok (nd.nat hk).2).mp hr;obtain ⟨h1,h2,h3,h4,h5⟩:=EL hk hu hv;have e:=Bw nd h1 h2;rw [h3,h4,h5] at e;refine ⟨_,_,h1,h2,by rw [e]; exact ne,?_⟩;rw [e,<-cc,Int.natCast_add,Int.natCast_mul,Int.natCast_add,Int.natCast_mul,Int.mul_comm ((k / 2:Nat):Int),Int.mul_comm ((k % 2:Nat):Int),Int.add_assoc,Int.add_assoc,Int.add_comm (v:Int),Int.add_comm (u:Int)]
  ·rintro ⟨u,v,hu,hv,ne,rfl⟩;rw [Bw nd hu hv] at ne ⊢;have qk:=DL hu hv;refine ⟨quad n u v,by simpa using qk,(DQ ok (nd.nat qk).2).mpr ⟨u % 2 ^ n,v % 2 ^ n,Nat.mod_lt _ (BE n),Nat.mod_lt _ (BE n),ne,?_⟩⟩;have q1:quad n u v / 2=v / 2 ^ n:=by
    have:=Eh hu;unfold quad;generalize u / 2 ^ n=A at *
    generalize v / 2 ^ n=B at *
    lia
   have q2:quad n u v % 2=u / 2 ^ n:=by
    have:=Eh hu;unfold quad;generalize u / 2 ^ n=A at *
    generalize v / 2 ^ n=B at *
    lia
   rw [q1,q2,<-cc,Int.add_assoc,Int.add_assoc,<-dm_c,<-dm_c]
theorem GJ {G:Gv} (ok:GOk G):∀ {n i:Nat} {x y:Int},Aj G i (n:Int)->(DA G n i x y).Nodup
 | 0,i,x,y,_=>by
  show (if i=0 then [] else [[y,x,(i:Int)]]:List (List Int)).Nodup;split
  ·exact List.nodup_nil
  ·simp
 | n+1,i,x,y,h=>by
  obtain ⟨q,a,b,c,d,nd⟩:=BF ok h;rw [EQ nd,List.nodup_iff_pairwise_ne,List.pairwise_flatMap];refine ⟨fun k hk=>?_,?_⟩
  ·have hk:k < 4:=by simpa using hk
   exact List.nodup_iff_pairwise_ne.mp (GJ ok (nd.nat hk).2)
  ·refine List.Pairwise.imp_of_mem (fun {k j} hk hj kj r hr r' hr' e=>kj ?_) (List.nodup_iff_pairwise_ne.mp (List.nodup_range (n:=4)));subst e;have hk:k < 4:=by simpa using hk
   have hj:j < 4:=by simpa using hj
   obtain ⟨u,v,hu,hv,ne,e1⟩:=(DQ ok (nd.nat hk).2).mp hr;obtain ⟨u',v',hu',hv',ne',e2⟩:=(DQ ok (nd.nat hj).2).mp hr';rw [e1] at e2;injection e2 with f1 e2
   injection e2 with f2 e2
   have cc:=Ed n;rw [<-cc] at f1 f2;have side:∀ {A B h u u':Nat},A < 2->B < 2->u < h->u' < h->(A:Int) * (h:Int)+u=(B:Int) * (h:Int)+u'->A=B:=by
    intro A B h u u' hA hB hu hu' e;have hA:A=0\/A=1:=by lia
    have hB:B=0\/B=1:=by lia
    rcases hA with rfl | rfl<;>rcases hB with rfl | rfl<;>simp at e<;>first | rfl | lia
   have g1:=side (A:=k / 2) (B:=j / 2) (by lia) (by lia) hv hv' (by lia);have g2:=side (A:=k % 2) (B:=j % 2) (by lia) (by lia) hu hu' (by lia);lia
end J
namespace J
open PySem L2
def stC:List Cl->Int->Int->Nat
 | [],_,_=>0
 | c :: cs,x,y=>if x=c.x/\y=c.y then c.s else stC cs x y
theorem Pf {G r0:Gv} (e0:G=G0 ++ r0) (ok:GOk G) {cs:List Cl} {n f:Nat} (h:Lq G cs n f):(∀ c ∈ cs,c.s < 8)->FZ G n f/\∀ x y,fieldF G n f x y=stC cs x y:=by
 induction h with
 | nil =>
  intro _;refine ⟨.inl rfl,fun x y=>?_⟩;unfold fieldF;split
  ·rename_i z;exact Ev e0 ok (by decide) (ES z.1 z.2.1) (ES z.2.2.1 z.2.2.2)
  ·rfl
 | @cons cs c n f r k w i m h l p l' ih =>
  intro hs;obtain ⟨t,e⟩:=ih fun c hc=>hs c (List.mem_cons_of_mem _ hc);obtain ⟨m',_,lm,tm,em⟩:=GH e0 ok (hs c (List.mem_cons_self ..)) p;have:m'=m:=by
   have:=Int.ofNat.inj (lm.uniq l');lia
  subst this;refine ⟨tm,fun x y=>?_⟩;rw [em x y,e x y];rfl
def IW (c:Cl):List Int:=[c.y,c.x,(c.s:Int)]
structure Of (G:Gv) (n f:Nat) (ds:List Cl):Prop where
 nd:(ds.map fun c=>(c.x,c.y)).Nodup
 mem:∀ c:Cl,c ∈ ds ↔ (1<=c.s/\fieldF G n f c.x c.y=c.s)
theorem OR {G:Gv} (ok:GOk G) {n f:Nat} (l:Aj G f ((n+1:Nat):Int)) {r:List Int}:r ∈ DA G (n+1) f (-(2 ^ n)) (-(2 ^ n)) ↔ ∃ x y:Int,fieldF G n f x y≠0/\r=[y,x,(fieldF G n f x y:Int)]:=by
 have c:=Ed n;have e:=LP n;rw [DQ ok l];constructor
 ·rintro ⟨u,v,hu,hv,ne,rfl⟩;have ef:fieldF G n f (-(2 ^ n)+u) (-(2 ^ n)+v)=cellF G (n+1) f u v:=by
   unfold fieldF;rw [if_pos ⟨by lia,by lia,by lia,by lia⟩];congr 1<;>lia
  refine ⟨-(2 ^ n)+u,-(2 ^ n)+v,by rw [ef]; exact ne,by rw [ef]⟩
 ·rintro ⟨x,y,ne,rfl⟩;have ne':=ne;unfold fieldF at ne';split at ne'
  ·rename_i z;obtain ⟨z1,z2,z3,z4⟩:=z;refine ⟨(x+2 ^ n).toNat,(y+2 ^ n).toNat,ES z1 z2,ES z3 z4,ne',?_⟩;unfold fieldF;rw [if_pos ⟨z1,z2,z3,z4⟩,show -(2 ^ n)+(((y+2 ^ n).toNat:Nat):Int)=y by lia,show -(2 ^ n)+(((x+2 ^ n).toNat:Nat):Int)=x by lia]
  ·exact absurd rfl ne'
theorem Of.perm {G:Gv} (ok:GOk G) {n f:Nat} (l:Aj G f ((n+1:Nat):Int)) {ds:List Cl} (h:Of G n f ds):(DA G (n+1) f (-(2 ^ n)) (-(2 ^ n))).Perm (ds.map IW):=by
 refine (List.perm_ext_iff_of_nodup (GJ ok l) ?_).mpr fun r=>?_
 ·rw [List.nodup_iff_pairwise_ne,List.pairwise_map];have nd:=h.nd;rw [List.nodup_iff_pairwise_ne,List.pairwise_map] at nd;refine nd.imp fun {c d} hne e=>hne ?_;injection e with e1 e
  injection e with e2 e
  rw [e1,e2]
 ·rw [OR ok l,List.mem_map];constructor
  ·rintro ⟨x,y,ne,rfl⟩;exact ⟨⟨x,y,fieldF G n f x y⟩,(h.mem _).mpr ⟨Nat.pos_of_ne_zero ne,rfl⟩,rfl⟩
  ·rintro ⟨c,hc,rfl⟩;obtain ⟨h1,h2⟩:=(h.mem c).mp hc;exact ⟨c.x,c.y,by lia,by rw [h2]; rfl⟩
theorem Of.cnt {G:Gv} (ok:GOk G) {n f:Nat} (l:Aj G f ((n+1:Nat):Int)) {ds:List Cl} (h:Of G n f ds):BZ G (n+1) f=(ds.length:Int):=by
 rw [<-De ok (x:=-(2 ^ n)) (y:=-(2 ^ n)) l,(h.perm ok l).length_eq,List.length_map]
theorem LK:∀ {l m:List (List Int)},l.Pairwise (fun p q=>BO q p=false)->m.Pairwise (fun p q=>BO q p=false)->l.Perm m->l=m
 | [],m,_,_,h=>(List.nil_perm.mp h).symm
 | a :: l,[],_,_,h=>absurd h.length_eq (by simp)
 | a :: l,b :: m,h1,h2,h=>by
  rw [List.pairwise_cons] at h1 h2;have e:a=b:=by
   have ha:a ∈ b :: m:=h.mem_iff.mp (List.mem_cons_self ..);have hb:b ∈ a :: l:=h.mem_iff.mpr (List.mem_cons_self ..);rcases List.mem_cons.mp ha with z | z
   ·exact z
   ·rcases List.mem_cons.mp hb with y | y
    ·exact y.symm
    ·exact Mb (h2.1 a z) (h1.1 b y)
  subst e;rw [LK h1.2 h2.2 h.cons_inv]
structure Rp (ds:List Cl) (φ:Int->Int->Nat):Prop where
 nd:(ds.map fun c=>(c.x,c.y)).Nodup
 mem:∀ c:Cl,c ∈ ds ↔ (1<=c.s/\φ c.x c.y=c.s)
structure Vf (G:Gv) (f:Nat) (φ:Int->Int->Nat):Prop where
 ex:∃ n,n<=40/\Aj G f ((n+1:Nat):Int)/\FZ G n f/\∀ u v,fieldF G n f u v=φ u v
theorem Vf.app {G G':Gv} {k f:Nat} {φ:Int->Int->Nat} (ok:GOk G) (go:AN G G' k) (h:Vf G f φ):Vf G' f φ:=by
 obtain ⟨n,n40,l,t,e⟩:=h.ex;exact ⟨n,n40,go.lev l,t.app go,fun u v=>by rw [Jw ok go l]; exact e u v⟩
theorem Vf.eq {G r:Gv} (e0:G=G0 ++ r) (ok:GOk G) {f f':Nat} {φ ψ:Int->Int->Nat} (h:Vf G f φ) (h':Vf G f' ψ) (e:∀ u v,φ u v=ψ u v):f=f':=by
 obtain ⟨n,n40,l,t,q⟩:=h.ex;obtain ⟨m,m40,l',t',q'⟩:=h'.ex;exact (Nt e0 ok (by lia) (by lia) l l' t t' fun u v=>by rw [q,q',e]).2
end J
namespace J
open PySem L2
seal L2.PA L2.PE L2.PS L2.PSs L2.PT L2.PW
def Qb (q:It3):List Int:=q.y :: q.x :: q.r
theorem len_pre {α:Type} {f:Nat->List α} {j:Nat} (hj:j<=4):((List.range j).flatMap f).length<=((List.range 4).flatMap f).length:=by
 match j,hj with
 | 0,_=>simp
 | 1,_=>simp [List.range_succ]
 | 2,_=>simp [List.range_succ]
 | 3,_=>simp [List.range_succ]
 | 4,_=>exact Nat.le_refl _
section
variable {P:Program} {w:World} {K:PySem.W.Frag} {mg:Str->Option Value} {base:Heap} {a:Ad}
theorem ok_row {f:Addr} {fd:FuncData} (F:Fun K "by_rows" "by_rows" DM f fd) (T:Top K mg a):AW P w K mg base CX0 1 f fd DO GD:=by
 refine F.ok MK (fun vs H Q E h=>?_) (fun cdv A outer s H vs Q E hr h=>?_)
 ·obtain ⟨t,x,y,r,rfl,_⟩:=h;rfl
 ·obtain ⟨t,x,y,r,rfl,ht,k⟩:=h;refine ⟨_,(Ag (Aq (Dy (Aa (Aw AQ (pv 0) Af (fun _ _=>rfl)) (Aa (Aw AQ (pv 0) Af (fun _ _=>rfl)) Ab))))),?_⟩
  try dsimp only [cxK]
  exact ⟨_,rfl,t,_,1,.int y,rfl,rfl,SqT.of ht,Ai (j:=1) rfl,_,rfl,t,_,0,.int x,rfl,rfl,SqT.of ht,Ai (j:=0) rfl,(by show 2<=sizeLine; decide),fun u hu=>k u hu⟩
inductive SpGa (a:Ad) (n:Nat) (vs:List V) (H:Hp) (Q:VK):Prop
 | mk (g:GA) (G:Gv) (i l:Nat) (x y:Int) (L:Addr) (it0:List It3) (_:vs=[.ref g.p,.int i,.int x,.int y,.ref L]) (_:AI a H g G) (_:Aj G i (l:Int)) (_:l < n) (_:H L=some (.lst (it0.map fun q=>V.ref q.a))) (_:L ∉ Bn g) (_:(it0.length:Int)+BZ G l i<=5000) (_:∀ (items:List It3) (H':Hp),Fx [L] H H'->H' L=some (.lst ((it0 ++ items).map fun q=>V.ref q.a))->(∀ q ∈ items,H' q.a=some (.tup (q.ns.map V.int)))->items.map Qb=DA G l i x y->Q .non H'):SpGa a n vs H Q
def PP (a:Ad) (n:Nat):Sp:=fun vs H Q _=>SpGa a n vs H Q
theorem ok_ga {f:Addr} {fd:FuncData} (F:Fun K "gather_cells" "gather_cells" BS f fd) (T:Top K mg a) (hm:mg "gather_cells" = some (.ref f)) (Bi:Do K fd Be []) (aT:Ch P w K mg base CX0 4 a.c_Grove "state_of" BY (PH a)):∀ n,AW P w K mg base CX0 (n+5) f fd Be (PP a n)
 | 0=>by
  refine F.ok BH (fun vs H Q E h=>?_) (fun cdv A outer s H vs Q E hr h=>?_)
  ·obtain ⟨g,G,i,l,x,y,L,it0,rfl,_,_,h0,_⟩:=h;exact absurd h0 (Nat.not_lt_zero _)
  ·obtain ⟨g,G,i,l,x,y,L,it0,rfl,_,_,h0,_⟩:=h;exact absurd h0 (Nat.not_lt_zero _)
 | n+1=>by
  have aJ:Cal P w K mg base CX0 (n+5) "gather_cells" Be (PP a n):=⟨f,fd,ok_ga F T hm Bi aT n,hm,F.kp,Bi⟩
  refine F.ok BH (fun vs H Q E h=>?_) (fun cdv A outer s H vs Q E hr h=>?_)
  ·obtain ⟨g,G,i,l,x,y,L,it0,rfl,_⟩:=h;rfl
  ·obtain ⟨g,G,i,l,x,y,L,it0,rfl,fu,hl,ln,hL,nL,cn,k⟩:=h;obtain ⟨q0,eq0,l0⟩:=id hl;have l48:l<=48:=by have:=(fu.ok.lev eq0).2; lia
   obtain ⟨r0,e0⟩:=fu.g0;have nLg:∀ z ∈ Bn g,z ∉ [L]:=fun z hz m=>nL (by rw [List.mem_singleton] at m; rw [<-m]; exact hz);refine ⟨_,(Ac (Ar (i:=5) BH.nd rfl (Or.inl rfl) (Aw AF (AL (pv 0) rfl) (pv 1) (fun _ _=>rfl))) (Ac (AO (AB DH (pv 1) (Aw AF (AL (pv 0) rfl) (pv 5) (fun _ _=>rfl)) (AE _)) (Ag NS) At) (Ac (AO (AB DH (pv 5) Af (AE _)) (Ac (Cu (Jo PySem.F.plainAttrs_list PySem.F.slot_list_append PySem.F.type_list_append Et (pv 4) (Bk (Aa (pv 2) (Aa (pv 3) (Aa (Ay (pv 0) aT (rm hr) Al (Aa (pv 1) Ab)) Ab))) Ab))) (Ag NS)) At) (Ac (Ar (i:=6) BH.nd rfl (Or.inl rfl) (As MQ Af (As Cs (pv 5) Af))) (Ag (Dx PassesOwn.never rfl (JS true rfl T.b_enumerate (Aa (Aw AF (AL (pv 0) rfl) (pv 1) (fun _ _=>rfl)) Ab)) (EY rfl (Bd (AY (i:=7) BH.nd rfl (Or.inl rfl)) (Bd (AY (i:=8) BH.nd rfl (Or.inl rfl)) Ee))) (Ag (Cu (Am aJ (rm hr) rfl Al (Aa (pv 0) (Aa (pv 8) (Bh Bo (pv 2) (As JW (pv 6) (As AT (pv 7) Af)) (Bh Bo (pv 3) (As JW (pv 6) (As CQ (pv 7) Af)) (Aa (pv 4) Ab)))))))))))))),?_⟩
   try dsimp only [cxK]
   refine ⟨_,rfl,g.p,_,g.dx,_,_,rfl,fu.at'.hp,T.cl_Grove,T.na_Grove_levels,DU g,_,rfl,g.lv,_,(i:Int),.int q0.lev,rfl,rfl,SqL.of fu.at'.lv,Ai (by rw [List.getElem?_map,eq0]; rfl),?_⟩;refine ⟨_,rfl,_,rfl,g.p,_,g.dx,_,_,rfl,fu.at'.hp,T.cl_Grove,T.na_Grove_bares,Go g,_,rfl,g.br,_,q0.lev,.int (bareN l:Int),rfl,rfl,SqL.of fu.br,by rw [l0]; exact Ai (bareL_at' (by lia)),rfl,_,rfl,?_⟩;by_cases z:i=bareN l
   ·rw [decide_eq_true (by rw [z])];refine Cw (k [] H (Fx.refl _ _) (by rw [List.append_nil]; exact hL) (fun q hq=>nomatch hq) ?_);refine (List.eq_nil_iff_forall_not_mem.mpr fun r hr=>?_).symm;obtain ⟨u,v,hu,hv,ne,_⟩:=(DQ fu.ok hl).mp hr;rw [z] at ne;exact ne (Ev e0 fu.ok l48 hu hv)
   rw [decide_eq_false (by intro e; injection e with e; exact z (by lia))];refine Bv ⟨_,rfl,rfl,_,rfl,?_⟩;cases l with
   | zero =>
    rw [decide_eq_true (by rw [l0]; rfl)];have i0:i≠0:=fun q=>z (by rw [q]; rfl);have c0:=On G 0 i;refine Cw ⟨_,rfl,.inl ⟨rfl,_,SqL.of hL⟩,_,rfl,_,rfl,_,rfl,g.p,g.dx,_,rfl,fu.at'.hp,MS g,_,rfl,g,G,i,q0,rfl,fu.at',eq0,l0,(by show 3<=sizeLine; decide),fun t ht=>?_⟩;have s1:=same_up (o:=.tup [.int x,.int y,.int i]) ht;have hL1:=s1 _ _ hL;refine ⟨L,_,.ref t,rfl,rfl,hL1,Eg (by rw [List.length_map]; lia),k [⟨t,x,y,[(i:Int)]⟩] _ ((Az.fx s1).trans (fx_up hL1 (fun z=>z))) ?_ (fun q hq=>?_) ?_⟩
    ·rw [List.map_append];exact Ah
    ·rw [List.mem_singleton.mp hq,Ak (Bb Ah hL1 (by intro z; cases z))];exact Ah
    ·show _=if i=0 then [] else [[y,x,(i:Int)]];rw [if_neg i0];rfl
   | succ m =>
    rw [decide_eq_false (by rw [l0]; intro z; injection z with z; lia)];obtain ⟨q,c0,c1,c2,c3,nd⟩:=BF fu.ok hl;have eq:q0=q:=Option.some.inj (eq0.symm.trans nd.g);subst eq;obtain ⟨ts,t,h3,et,ht⟩:=Fn fu.at' nd;have lpos:=FP m;have lt64:=NU (l:=m) (by lia);refine Bv ⟨_,rfl,_,_,rfl,rfl,_,_,rfl,rfl,⟨by lia,by lia,by decide⟩,?_⟩;rw [show (fun (i j:Int)=>V.int (i * 2 ^ j.toNat)) 1 (q0.lev - 1)=V.int (2 ^ m) from congrArg V.int (by show (1:Int) * 2 ^ (q0.lev - 1).toNat=2 ^ m; rw [show (q0.lev - 1).toNat=m by lia]; lia)];refine ⟨_,rfl,g.p,_,g.dx,_,_,rfl,fu.at'.hp,T.cl_Grove,T.na_Grove_parts,EM g,_,rfl,g.pt,_,(i:Int),.ref t,rfl,rfl,SqL.of h3,Ai et,t,rfl,⟨_,SqT.of ht⟩,?_⟩;have whole:=EQ nd x y;have lenW:=De fu.ok (x:=x) (y:=y) hl;rw [whole] at lenW;refine IH (b:=true) (xs:=[.int (c0:Int),.int (c1:Int),.int (c2:Int),.int (c3:Int)]) (fun j σ H3=>∃ (items:List It3) (u7 u8:Option V),σ=[some (.ref g.p),some (.int i),some (.int x),some (.int y),some (.ref L),some (.int q0.lev),some (.int (2 ^ m)),u7,u8]/\Fx [L] H H3/\H3 L=some (.lst ((it0 ++ items).map fun q=>V.ref q.a))/\(∀ q ∈ items,H3 q.a=some (.tup (q.ns.map V.int)))/\items.map Qb=(List.range j).flatMap (Ek G m (f4 c0 c1 c2 c3) x y)) ⟨[],none,none,rfl,Fx.refl _ _,(by rw [List.append_nil]; exact hL),(fun q hq=>nomatch hq),rfl⟩ (fun j σ H3 _ z=>SqT.of (by obtain ⟨_,_,_,_,fx,_⟩:=z; exact fx.tup ht)) ?_ ?_
    ·rintro j v σ H3 T' ev ⟨items,u7,u8,rfl,fx3,hL3,hi3,ei⟩ nT;have hj:j < 4:=(List.getElem?_eq_some_iff.mp ev).1;have ev':v=.int (f4 c0 c1 c2 c3 j:Int):=by
      match j,hj,ev with
      | 0,_,ev=>cases ev; rfl
      | 1,_,ev=>cases ev; rfl
      | 2,_,ev=>cases ev; rfl
      | 3,_,ev=>cases ev; rfl
     subst ev';have s4:=same_up (o:=.tup [.int j,.int (f4 c0 c1 c2 c3 j)]) nT;refine IF Ah ?_;generalize upd H3 T' (.tup [.int j,.int (f4 c0 c1 c2 c3 j)])=H4 at s4 ⊢;have fx4:=fx3.trans (Az.fx s4);have fu4:=fu.fx fx4 nLg;have lj:=(nd.nat hj).2;have next:(List.range (j+1)).flatMap (Ek G m (f4 c0 c1 c2 c3) x y)=(List.range j).flatMap (Ek G m (f4 c0 c1 c2 c3) x y) ++ DA G m (f4 c0 c1 c2 c3 j) (x+((j % 2:Nat):Int) * 2 ^ m) (y+((j / 2:Nat):Int) * 2 ^ m):=by
      rw [List.range_succ,List.flatMap_append];simp only [List.flatMap_cons,List.flatMap_nil,List.append_nil];rfl
     have bd:=len_pre (f:=Ek G m (f4 c0 c1 c2 c3) x y) (j:=j+1) hj;rw [next,List.length_append,<-ei,List.length_map] at bd;have lc:=De fu.ok (x:=x+((j % 2:Nat):Int) * 2 ^ m) (y:=y+((j / 2:Nat):Int) * 2 ^ m) lj;have ex:x+2 ^ m * ((j:Int) % 2)=x+((j % 2:Nat):Int) * 2 ^ m:=by rw [Int.mul_comm]; rfl
     have ey:y+2 ^ m * ((j:Int) / 2)=y+((j / 2:Nat):Int) * 2 ^ m:=by rw [Int.mul_comm]; rfl
     refine ⟨_,rfl,_,rfl,_,rfl,_,rfl,_,rfl,_,_,rfl,rfl,(by show (0:Int) < 2; decide),_,_,rfl,rfl,.inl ⟨by lia,by lia⟩,_,_,rfl,rfl,?_⟩;refine ⟨_,rfl,_,rfl,_,rfl,_,_,rfl,rfl,⟨by decide,by decide⟩,_,_,rfl,rfl,.inl ⟨by lia,by lia⟩,_,_,rfl,rfl,_,rfl,?_⟩;refine ⟨g,G,f4 c0 c1 c2 c3 j,m,x+2 ^ m * ((j:Int) % 2),y+2 ^ m * ((j:Int) / 2),L,it0 ++ items,rfl,fu4,lj,by lia,s4 _ _ hL3,nL,by rw [List.length_append]; lia,fun items5 H5 fx5 hL5 hi5 ei5=>?_⟩;refine ⟨items ++ items5,_,_,rfl,fx4.trans fx5,by rw [<-List.append_assoc]; exact hL5,fun q hq=>?_,?_⟩
     ·rcases List.mem_append.mp hq with hq | hq
      ·exact fx5.tup (s4 _ _ (hi3 q hq))
      ·exact hi5 q hq
     ·rw [ex,ey] at ei5;rw [next,List.map_append,ei,ei5]
    ·rintro σ H3 ⟨items,u7,u8,rfl,fx3,hL3,hi3,ei⟩;exact k items H3 fx3 hL3 hi3 (by rw [ei,whole]; rfl)
theorem NF {out:List It3} (h:IP out) (nd:(out.map fun q=>(q.x,q.y)).Nodup):(out.map Qb).Pairwise (fun p q=>BO q p=false):=by
 rw [List.nodup_iff_pairwise_ne,List.pairwise_map] at nd;rw [List.pairwise_map];refine (h.and nd).imp fun {p q} ⟨h1,h2⟩=>?_;show (if q.y=p.y then (if q.x=p.x then BO q.r p.r else decide (q.x < p.x)) else decide (q.y < p.y))=false;have h1:(if q.y=p.y then (if q.x=p.x then BO [] [] else decide (q.x < p.x)) else decide (q.y < p.y))=false:=h1;by_cases e1:q.y=p.y
 ·rw [if_pos e1] at h1 ⊢;by_cases e2:q.x=p.x
  ·exact absurd (by rw [e1,e2]) h2
  ·rw [if_neg e2] at h1 ⊢;exact h1
 ·rw [if_neg e1] at h1 ⊢;exact h1
theorem Fx.fresh {l:List Addr} {H H1 H2:Hp} {x:Addr} (s:Az H H1) (f:Fx (x :: l) H1 H2) (n:H x=none):Fx l H H2:=fun b o e z=>f b o (s _ _ e) fun m=>by
 rcases List.mem_cons.mp m with rfl | m
 ·rw [n] at e;cases e
 ·exact z m
def frL (g:GA):List Addr:=[g.am,g.bx]
inductive SpCo (a:Ad) (vs:List V) (H:Hp) (Q:VK):Prop
 | mk (g:GA) (G:Gv) (f n:Nat) (_:vs=[.ref g.p,.int f]) (_:AI a H g G) (_:Aj G f ((n+1:Nat):Int)) (_:n < 48) (_:G.length < 9000000) (_:BZ G (n+1) f<=4096) (_:∀ (L:Addr) (out:List It3) (H':Hp),Fx (frL g) H H'->AI a H' g G->H L=none->H' L=some (.lst (out.map fun q=>V.ref q.a))->(∀ q ∈ out,H' q.a=some (.tup (q.ns.map V.int)))->(out.map Qb).Perm (DA G (n+1) f (-(2 ^ n)) (-(2 ^ n)))->IP out->Q (.ref L) H'):SpCo a vs H Q
def spCo (a:Ad):Sp:=fun vs H Q _=>SpCo a vs H Q
theorem ok_co {f:Addr} {fd:FuncData} (F:Fun K "cells_of" "cells_of" CW f fd) (T:Top K mg a) (aG:Ch P w K mg base CX0 51 a.c_Grove "living" BD (LD a)) (aE:Cal P w K mg base CX0 4 "reach_of" Cb (EB a)) (aJ:Cal P w K mg base CX0 55 "gather_cells" Be (PP a 50)) (bG:Cal P w K mg base CX0 1 "by_rows" DO GD):AW P w K mg base CX0 56 f fd Cd (spCo a):=by
 refine F.ok Da (fun vs H Q E h=>?_) (fun cdv A outer s H vs Q E hr h=>?_)
 ·obtain ⟨g,G,f,n,rfl,_⟩:=h;rfl
 ·obtain ⟨g,G,f,n,rfl,fu,lf,n48,few,cn,k⟩:=h;refine ⟨_,(Ac (AO (AB NY (Ay (pv 0) aG (rm hr) Al (Aa (pv 1) Ab)) (Bg rfl T.k_MOST_CELLS) (AE _)) (Ag Dh) At) (Ac (Ar (i:=2) Da.nd rfl (Or.inl rfl) (Am aE (rm hr) rfl Al (Aa (pv 0) (Aa (pv 1) Ab)))) (Ac (Ar (i:=3) Da.nd rfl (Or.inl rfl) (Di Ab)) (Ac (Cu (Am aJ (rm hr) rfl Al (Aa (pv 0) (Aa (pv 1) (Aa (Ft Ej (pv 2)) (Aa (Ft Ej (pv 2)) (Aa (pv 3) Ab))))))) (Ag (Aq (Im bG (rm hr) rfl T.b_sorted rfl (Aa (pv 3) Ab)))))))),?_⟩
  try dsimp only [cxK]
  refine ⟨_,rfl,g.p,g.dx,_,rfl,fu.at'.hp,Gd g,_,rfl,g,G,f,n+1,rfl,fu,lf,few,fun H1 fr1 fu1=>?_⟩;refine ⟨_,_,rfl,rfl,_,rfl,?_⟩;rw [decide_eq_false (by lia)];refine Bv ⟨_,rfl,_,rfl,g,G,f,n,rfl,fu1.at',lf,n48,(by show 0<=sizeLine; decide),fun L hL=>?_⟩;have s2:=same_up (o:=.lst []) hL;have hL2:upd H1 L (.lst []) L=some (.lst (([]:List It3).map fun q=>V.ref q.a)):=Ah;generalize upd H1 L (.lst [])=H2 at s2 hL2 ⊢;have fu2:=fu1.same s2;have nL:L ∉ Bn g:=fun z=>by
   obtain ⟨o,e⟩:=fu1.nw.s L z;rw [hL] at e;cases e
  have x1:=FrQ.fx fr1 fu;refine ⟨_,rfl,_,rfl,_,rfl,_,rfl,_,rfl,_,rfl,_,rfl,g,G,f,n+1,-(2 ^ n),-(2 ^ n),L,[],rfl,fu2,lf,by lia,hL2,nL,(by show (0:Int)+_<=5000; lia),fun items H3 fx3 hL3 hi3 ei=>?_⟩;have x3:Fx (frL g) H1 H3:=Fx.fresh s2 (fx3.mono (by simp)) hL;have fu3:=fu2.fx fx3 fun z hz m=>nL (by rw [List.mem_singleton] at m; rw [<-m]; exact hz);have li:items.length<=4096:=by
   have:=De fu.ok (x:=-(2 ^ n)) (y:=-(2 ^ n)) lf;rw [<-ei,List.length_map] at this;lia
  refine ⟨_,rfl,L,items,rfl,SqL.of (by rw [List.nil_append] at hL3; exact hL3),by lia,hi3,fun L' out H4 s4 nL' pm ru=>?_⟩;have s5:=same_up (o:=.lst (out.map fun q=>V.ref q.a)) nL';have s45:Az H3 (upd H4 L' (.lst (out.map fun q=>V.ref q.a))):=Az.trans s4 s5;refine k L' out _ ((x1.trans x3).trans (Az.fx s45)) (fu3.same s45) ?_ Ah (fun q hq=>s45 _ _ (hi3 q (pm.mem_iff.mp hq))) (by rw [<-ei]; exact pm.map _) ru;cases e:H L' with
  | none=>rfl
  | some o =>
   exfalso;by_cases m:L' ∈ Bn g
   ·obtain ⟨o2,e2⟩:=fu3.nw.s L' m;have:=s4 _ _ e2;rw [nL'] at this;cases this
   ·have:=s4 _ _ ((x1.trans x3).get (fun z=>m (by simp [frL,Bn] at *; lia)) e);rw [nL'] at this;cases this
end
end J
namespace J
open PySem L2
seal L2.PA L2.PE L2.PS L2.PSs L2.PT L2.PW
inductive Odd (H:Hp):V->Prop
 | int (i:Int):Odd H (.int i)
 | bl (b:Bool):Odd H (.bl b)
 | str (z:Str):Odd H (.str z)
 | non:Odd H .non
 | tup (t:Addr) (xs:List V) (_:H t=some (.tup xs)):Odd H (.ref t)
theorem Odd.same {H H':Hp} {v:V} (h:Odd H v) (k:∀ b xs,H b=some (.tup xs)->H' b=some (.tup xs)):Odd H' v:=by
 cases h with
 | int i=>exact .int i
 | bl b=>exact .bl b
 | str z=>exact .str z
 | non=>exact .non
 | tup t xs e=>exact .tup t xs (k _ _ e)
def wholeV:V->Bool
 | .int _=>true
 | _=>false
def FB:V->Bool
 | .int i=>decide (0<=i) && decide (i < 8)
 | _=>false
def IR (G:Gv) (v:V):Prop:=∀ i:Nat,v=.int i->G.length<=i
theorem Mf (K:PySem.W.Frag):PySem.W.kitOne K (.type "bool") (.type "int")=some true/\PySem.W.kitOne K (.type "bool") (.type "bool")=some true/\PySem.W.kitOne K (.type "str") (.type "int")=some false/\PySem.W.kitOne K (.type "NoneType") (.type "int")=some false/\PySem.W.kitOne K (.type "tuple") (.type "int")=some false:=⟨by kernel_rfl,by kernel_rfl,by kernel_rfl,by kernel_rfl,by kernel_rfl⟩
section
variable {P:Program} {w:World} {K:PySem.W.Frag} {mg:Str->Option Value} {base:Heap} {a:Ad}
inductive SpIWo (vs:List V) (H:Hp) (Q:VK):Prop
 | mk (v:V) (_:vs=[v]) (_:Odd H v) (_:Q (.bl (wholeV v)) H):SpIWo vs H Q
def NN:Sp:=fun vs H Q _=>SpIWo vs H Q
theorem ok_iwo {f:Addr} {fd:FuncData} (F:Fun K "is_whole" "is_whole" CT f fd) (T:Top K mg a):AW P w K mg base CX0 1 f fd BB NN:=by
 refine F.ok GE (fun vs H Q E h=>?_) (fun cdv A outer s H vs Q E hr h=>?_)
 ·obtain ⟨v,rfl,_⟩:=h;rfl
 ·obtain ⟨v,rfl,tv,k⟩:=h;refine ⟨_,(Ag (Aq (EG (AJ DV rfl T.b_isinstance PyProof.Rows.boot_isinstance (Aa (pv 0) (Aa (EF (v:=.ty "int") rfl T.b_int PyProof.Rows.boot_int rfl) Ab))) (FF (Qi (AJ DV rfl T.b_isinstance PyProof.Rows.boot_isinstance (Aa (pv 0) (Aa (EF (v:=.ty "bool") rfl T.b_bool PyProof.Rows.boot_bool rfl) Ab)))))))),?_⟩
  try dsimp only [cxK]
  cases tv with
  | int i=>exact ⟨_,rfl,_,_,_,.type "int",true,rfl,rfl,.of (.int i),(Oa K).1,true,rfl,Cw ⟨_,rfl,_,_,_,.type "int",false,rfl,rfl,.of (.int i),(Oa K).2,false,rfl,k⟩⟩
  | bl b=>exact ⟨_,rfl,_,_,_,.type "bool",true,rfl,rfl,.of (.bl b),(Mf K).1,true,rfl,Cw ⟨_,rfl,_,_,_,.type "bool",true,rfl,rfl,.of (.bl b),(Mf K).2.1,true,rfl,k⟩⟩
  | str z=>exact ⟨_,rfl,_,_,_,.type "str",false,rfl,rfl,.of (.str z),(Mf K).2.2.1,false,rfl,Bv k⟩
  | non=>exact ⟨_,rfl,_,_,_,.type "NoneType",false,rfl,rfl,.of .non,(Mf K).2.2.2.1,false,rfl,Bv k⟩
  | tup t xs e=>exact ⟨_,rfl,_,_,_,.type "tuple",false,rfl,rfl,.of (.tup e),(Mf K).2.2.2.2,false,rfl,Bv k⟩
inductive SpISo (vs:List V) (H:Hp) (Q:VK):Prop
 | mk (v:V) (_:vs=[v]) (_:Odd H v) (_:Q (.bl (FB v)) H):SpISo vs H Q
def PO:Sp:=fun vs H Q _=>SpISo vs H Q
theorem ok_iso {f:Addr} {fd:FuncData} (F:Fun K "is_state" "is_state" CU f fd) (T:Top K mg a) (aC:Cal P w K mg base CX0 1 "is_whole" BB NN):AW P w K mg base CX0 2 f fd Cc PO:=by
 refine F.ok GF (fun vs H Q E h=>?_) (fun cdv A outer s H vs Q E hr h=>?_)
 ·obtain ⟨v,rfl,_⟩:=h;rfl
 ·obtain ⟨v,rfl,tv,k⟩:=h;refine ⟨_,(Ag (Aq (EG (Am aC (rm hr) rfl Al (Aa (pv 0) Ab)) (FF (LT Fu FQ Af (pv 0) (Bg rfl T.k_STATES)))))),?_⟩
  try dsimp only [cxK]
  refine xq1 rfl ⟨v,rfl,tv,(xq1 rfl ?_)⟩;cases tv with
  | int i =>
   refine Cw (xwb rfl rfl rfl (xq1 rfl ?_));have k:Q (.bl (decide (0<=i) && decide (i < 8))) H:=k;revert k;generalize decide ((0:Int)<=i)=b;cases b
   ·exact fun k=>Bv k
   ·exact fun k=>Cw (xq2 rfl rfl k)
  | bl b=>exact Bv k
  | str z=>exact Bv k
  | non=>exact Bv k
  | tup t xs e=>exact Bv k
inductive SpChX (a:Ad) (vs:List V) (H:Hp) (Q:VK) (E:XK):Prop
 | mk (g:GA) (G:Gv) (v:V) (_:vs=[.ref g.p,v]) (_:AD a H g G) (_:Odd H v) (_:∀ i:Nat,v=.int i->i < G.length->Q .non H) (_:IR G v->E (.ref a.x_NoSquare) none H):SpChX a vs H Q E
def PX (a:Ad):Sp:=fun vs H Q E=>SpChX a vs H Q E
theorem ok_chx {f:Addr} {fd:FuncData} (F:Fun K "check_square" "Grove.check_square" AK f fd) (T:Top K mg a) (aC:Cal P w K mg base CX0 1 "is_whole" BB NN):AW P w K mg base (CXE P w) 2 f fd AC (PX a):=by
 refine F.okE Dl (fun vs H Q E h=>?_) (fun cdv A outer s H vs Q E hr h=>?_)
 ·obtain ⟨g,G,v,rfl,_⟩:=h;rfl
 ·obtain ⟨g,G,v,rfl,hg,ov,k,ke⟩:=h;refine ⟨_,(Ag (AO (PW.pt (FN (BM (BV (Am aC (rm hr) rfl Al (Aa (pv 1) Ab)))) (EC (BM (Ik Fu FQ Af (pv 1) (AJ Cg rfl T.b_len PySem.boot_len (Aa (AL (pv 0) rfl) Ab))))))) (Ag (Ep Fi rfl rfl T.mx_NoSquare T.ec_NoSquare (EH Ab))) At)),?_⟩
  try dsimp only [cxK]
  refine xq1 rfl ⟨v,rfl,ov,(xq1 rfl ?_)⟩;cases ov with
  | int i =>
   refine Bv (xwb rfl rfl rfl (xq1 rfl ?_));by_cases z:0<=i
   ·rw [decide_eq_true z];refine Cw (xwf rfl rfl hg.hp T.cl_Grove T.na_Grove_levels (DU g) ⟨g.lv,(xq1 rfl ⟨.inl (SqL.of hg.lv),(xq2 rfl rfl (xq1 rfl ?_))⟩)⟩);rw [List.length_map];obtain ⟨n,rfl⟩:=Int.eq_ofNat_of_zero_le z;by_cases z2:n < G.length
    ·rw [decide_eq_true (by lia:(n:Int) < (G.length:Int))];exact Bv (k n rfl z2)
    ·rw [decide_eq_false (by lia:¬ (n:Int) < (G.length:Int))];exact Cw ⟨by show 1<=100; decide,ke fun m e=>by injection e with e; lia⟩
   ·rw [decide_eq_false z];exact Bv ⟨false,rfl,Cw ⟨by show 1<=100; decide,ke fun m e=>by injection e with e; lia⟩⟩
  | bl b=>exact Cw ⟨by show 1<=100; decide,ke fun m e=>by cases e⟩
  | str b=>exact Cw ⟨by show 1<=100; decide,ke fun m e=>by cases e⟩
  | non=>exact Cw ⟨by show 1<=100; decide,ke fun m e=>by cases e⟩
  | tup t xs e=>exact Cw ⟨by show 1<=100; decide,ke fun m e=>by cases e⟩
inductive SpLvX (a:Ad) (vs:List V) (H:Hp) (Q:VK) (E:XK):Prop
 | mk (g:GA) (G:Gv) (v:V) (_:vs=[.ref g.p,v]) (_:AD a H g G) (_:Odd H v) (_:∀ (i:Nat) (q:Sq),v=.int i->G[i]?=some q->Q (.int q.lev) H) (_:IR G v->E (.ref a.x_NoSquare) none H):SpLvX a vs H Q E
def NM (a:Ad):Sp:=fun vs H Q E=>SpLvX a vs H Q E
theorem ok_lvx {f:Addr} {fd:FuncData} (F:Fun K "level_of" "Grove.level_of" Ba f fd) (T:Top K mg a) (E_Grove_check_square:Ch P w K mg base (CXE P w) 2 a.c_Grove "check_square" AC (PX a)):AW P w K mg base (CXE P w) 3 f fd AA (NM a):=by
 refine F.okE DZ (fun vs H Q E h=>?_) (fun cdv A outer s H vs Q E hr h=>?_)
 ·obtain ⟨g,G,v,rfl,_⟩:=h;rfl
 ·obtain ⟨g,G,v,rfl,hg,ov,k,ke⟩:=h;refine ⟨_,(Ac (Cu (Ay (pv 0) E_Grove_check_square (rm hr) NX (Aa (pv 1) Ab))) (Ag (Aq (Aw AF (AL (pv 0) rfl) (pv 1) (fun _ _=>rfl))))),?_⟩
  try dsimp only [cxK]
  refine xwn rfl rfl hg.hp (Iu g) rfl ⟨g,G,v,rfl,hg,ov,fun i e hi=>?_,ke⟩;subst e;have ei:G[i]?=some G[i]:=List.getElem?_eq_getElem hi;exact xwf rfl rfl hg.hp T.cl_Grove T.na_Grove_levels (DU g) (xwi rfl rfl rfl (SqL.of hg.lv) (Ai (by rw [List.getElem?_map,ei]; rfl)) (k i _ rfl ei))
theorem JX {G:Gv} {i:Nat} {q:Sq} (h:IR G (.int i)) (e:G[i]?=some q):False:=by
 have:=h i rfl;have:=(List.getElem?_eq_some_iff.mp e).1;lia
end
end J
namespace J
open PySem L2
seal L2.PA L2.PE L2.PS L2.PSs L2.PT L2.PW
theorem MG {v:V} (h:FB v=true):∃ s:Nat,v=.int (s:Int)/\s < 8:=by
 cases v with
 | int i =>
  have h:(decide (0<=i) && decide (i < 8))=true:=h;rw [Bool.and_eq_true] at h;have h1:=of_decide_eq_true h.1;have h2:=of_decide_eq_true h.2;exact ⟨i.toNat,by rw [Int.toNat_of_nonneg h1],by lia⟩
 | _=>cases h
structure Oc where
 x:Int
 y:Int
 v:V
def IQ (H:Hp) (t:Addr) (c:Oc):Prop:=H t=some (.tup [.int c.x,.int c.y,c.v])
def Oz (c:Oc):Prop:=DJ c.x c.y 1 1 (2 ^ 40)/\FB c.v=true
def Lu (c:Oc) (d:Nat):Prop:=(d=0/\¬ DJ c.x c.y 1 1 (2 ^ 40))\/(d=1/\DJ c.x c.y 1 1 (2 ^ 40)/\FB c.v=false)
def clsD (a:Ad) (d:Nat):Addr:=if d=0 then a.x_TooFar else a.x_NoState
section
variable {P:Program} {w:World} {K:PySem.W.Frag} {mg:Str->Option Value} {base:Heap} {a:Ad}
inductive SpPlX (a:Ad) (vs:List V) (H:Hp) (Q:VK) (E:XK):Prop
 | mk (g:GA) (G:Gv) (f n:Nat) (c:Oc) (_:vs=[.ref g.p,.int f,.int c.x,.int c.y,c.v]) (_:AI a H g G) (_:Aj G f ((n+1:Nat):Int)) (_:n<=40) (_:Odd H c.v) (_:G.length < 8000000) (_:∀ d H',Lu c d->Az H H'->E (.ref (clsD a d)) none H') (_:∀ (s r k w i:Nat) (G':Gv) (H':Hp),DJ c.x c.y 1 1 (2 ^ 40)->c.v=.int s->s < 8->Fr g H H'->AI a H' g G'->AN G G' 400->Ei G' n f c.x c.y s r k w i->Q (.int r) H'):SpPlX a vs H Q E
def NJ (a:Ad):Sp:=fun vs H Q E=>SpPlX a vs H Q E
theorem ok_plx {f:Addr} {fd:FuncData} (F:Fun K "planted" "planted" Dw f fd) (T:Top K mg a) (aI:Cal P w K mg base CX0 1 "lies_within" BN LE) (aN:Cal P w K mg base CX0 2 "is_state" Cc PO) (aE:Cal P w K mg base CX0 4 "reach_of" Cb (EB a)) (aO:Cal P w K mg base CX0 5 "widened_over" BW (spWO a))
  (aS:Cal P w K mg base CX0 54 "replaced" CB (LC a 50)) (aU:Cal P w K mg base CX0 4 "trimmed" Cn (Ig a)):AW P w K mg base (CXE P w) 55 f fd Co (NJ a):=by
 refine F.okE Cz (fun vs H Q E h=>?_) (fun cdv A outer s H vs Q E hr h=>?_)
 ·obtain ⟨g,G,f',n,c,rfl,_⟩:=h;rfl
 ·obtain ⟨g,G,f',n,⟨x,y,v⟩,rfl,fu,hl,n40,ov,few,ke,k⟩:=h;refine ⟨_,(Ac (Ar (i:=5) Cz.nd rfl (Or.inl rfl) (Dy (Aa (pv 2) (Aa (pv 3) (AH (AH Ab)))))) (Ac (AO (BM (BV (Am aI (rm hr) rfl Al (Aa (pv 5) (Aa (Bg rfl T.k_LIMIT) Ab))))) (Ag (Ep Fi rfl rfl T.mx_TooFar T.ec_TooFar (EH Ab))) At) (Ac (AO (BM (BV (Am aN (rm hr) rfl Al (Aa (pv 4) Ab)))) (Ag (Ep Fi rfl rfl T.mx_NoState T.ec_NoState (EH Ab))) At) (Ac (Ar (i:=6) Cz.nd rfl (Or.inl rfl) (Am aO (rm hr) rfl Al (Aa (pv 0) (Aa (pv 1) (Aa (pv 5) Ab))))) (Ac (Ar (i:=7) Cz.nd rfl (Or.inl rfl) (Am aE (rm hr) rfl Al (Aa (pv 0) (Aa (pv 6) Ab)))) (Ag (Aq (Am aU (rm hr) rfl Al (Aa (pv 0) (Aa (Am aS (rm hr) rfl Al (Aa (pv 0) (Aa (pv 6) (Bh Bo (pv 2) (pv 7) (Bh Bo (pv 3) (pv 7) (Aa (pv 4) Ab)))))) Ab)))))))))),?_⟩
  try dsimp only [cxK]
  refine xw2 rfl rfl ⟨(by show 4<=sizeLine; decide),fun t ht=>?_⟩;generalize e1:upd H t _=H1;obtain ⟨s1,ht1⟩:Az H H1/\H1 t=some (.tup [.int x,.int y,.int 1,.int 1]):=e1 ▸ ⟨same_up ht,Ah⟩;have fu1:=fu.same s1;refine xq1 rfl ⟨t,x,y,1,1,_,rfl,ht1,xq1 rfl ?_⟩;by_cases li:DJ x y 1 1 1099511627776
  ·rw [decide_eq_true li];refine Bv (xq1 rfl ⟨v,rfl,ov.same fun b xs e=>s1 _ _ e,xq1 rfl ?_⟩);cases hsv:FB v
   ·exact Cw ⟨by show 1<=100; decide,ke 1 _ (.inr ⟨rfl,li,hsv⟩) s1⟩
   obtain ⟨st,rfl,s8⟩:=MG hsv;refine Bv (xw3 rfl rfl rfl ⟨g,G,f',n,t,x,y,1,1,rfl,fu1,hl,n40,ht1,li,by lia,fun kk w' G1 H2 fr2 fu2 go2 le wn lw lf no=>?_⟩);have gf2:=go2.few;refine xw2 rfl rfl ⟨g,G1,w',n+kk,rfl,fu2.at',lw,by lia,?_⟩;obtain ⟨b1,b2,b3,b4⟩:=Lg lf;refine xw3 rfl rfl rfl (xw2 rfl rfl (xq2 rfl rfl (xw2 rfl rfl (xq2 rfl rfl (xq1 rfl ?_)))));refine ⟨g,G1,w',n+kk+1,(x+2 ^ (n+kk)).toNat,(y+2 ^ (n+kk)).toNat,st,by rw [Int.toNat_of_nonneg b3,Int.toNat_of_nonneg b4]; rfl,fu2.at',fu2.ok,lw,by lia,b1,b2,s8,by lia,fun i' G2 H3 fr3 hg3 go3 rp=>?_⟩;have gf3:=go3.few;have fu3:=fu2.fr fr3 hg3 go3;have li':=rp.lev go3.ok s8;refine ⟨g,G2,i',n+kk,rfl,fu3,li',by lia,fun r G3 H4 fr4 fu4 go4 tr=>?_⟩;have go34:=go3.trans go4;exact k st r kk w' i' G3 H4 li rfl s8 ((Az.fr s1).trans (fr2.trans (fr3.trans fr4))) fu4 ((go2.trans go34).mono (by lia)) ⟨le,wn.app go34,go34.lev lw,lf,no,rp.app go4,tr⟩
  ·rw [decide_eq_false li];exact Cw ⟨by show 1<=100; decide,ke 0 _ (.inl ⟨rfl,li⟩) s1⟩
inductive SpFlX (a:Ad) (vs:List V) (H:Hp) (E:XK):Prop
 | mk (g:GA) (G:Gv) (L:Addr) (ts:List Addr) (cs:List Oc) (j d:Nat) (b:Oc) (_:vs=[.ref g.p,.ref L]) (_:AI a H g G) (_:H L=some (.lst (ts.map V.ref))) (_:L≠g.lv) (_:L≠g.pt) (_:Paired (IQ H) ts cs) (_:∀ c ∈ cs,Odd H c.v) (_:∀ i c,i < j->cs[i]?=some c->Oz c) (_:cs[j]?=some b) (_:Lu b d) (_:G.length+400 * cs.length < 8000000) (_:∀ (G':Gv) (H':Hp),Fr g H H'->AI a H' g G'->AN G G' (400 * cs.length)->E (.ref (clsD a d)) none H'):SpFlX a vs H E
def PR (a:Ad):Sp:=fun vs H _ E=>SpFlX a vs H E
theorem Mt {c:Oc} {d e:Nat} (h:Lu c d) (h':Lu c e):d=e:=by
 rcases h with ⟨rfl,h⟩ | ⟨rfl,h,_⟩<;>rcases h' with ⟨rfl,h'⟩ | ⟨rfl,h',_⟩
 ·rfl
 ·exact absurd h' h
 ·exact absurd h h'
 ·rfl
theorem Oq {c:Oc} {d:Nat} (h:Lu c d) {s:Nat} (li:DJ c.x c.y 1 1 (2 ^ 40)) (e:c.v=.int (s:Int)) (s8:s < 8):False:=by
 rcases h with ⟨_,h⟩ | ⟨_,_,h⟩
 ·exact h li
 ·rw [e] at h;have h:(decide (0<=(s:Int)) && decide ((s:Int) < 8))=false:=h;rw [decide_eq_true (by lia:0<=(s:Int)),decide_eq_true (by lia:(s:Int) < 8)] at h;cases h
theorem Pe {c:Oc} {d:Nat} (h:Oz c) (b:Lu c d):False:=by
 rcases b with ⟨_,b⟩ | ⟨_,_,b⟩
 ·exact b h.1
 ·rw [h.2] at b;cases b
theorem ok_flx {f:Addr} {fd:FuncData} (F:Fun K "field_of" "field_of" CV f fd) (T:Top K mg a) (aW:Cal P w K mg base CX0 1 "bare_field" CJ (GY a)) (aV:Cal P w K mg base (CXE P w) 55 "planted" Co (NJ a)):AW P w K mg base (CXE P w) 56 f fd CC (PR a):=by
 refine F.okE Ca (fun vs H Q E h=>?_) (fun cdv A outer s H vs Q E hr h=>?_)
 ·obtain ⟨g,G,L,ts,cs,j,d,b,rfl,_⟩:=h;rfl
 ·obtain ⟨g,G,L,ts,cs,j,d,b,rfl,fu,hL,n1,n2,pr,ods,gds,eb,bad,few,k⟩:=h;obtain ⟨r0,e0⟩:=fu.g0;have lts:=Paired.length pr;have jl:j < cs.length:=(List.getElem?_eq_some_iff.mp eb).1;refine ⟨_,(Ac (Ar (i:=2) Ca.nd rfl (Or.inl rfl) (Am aW (rm hr) rfl Al (Aa (pv 0) Ab))) (Ac (Dx PassesOwn.leaving rfl (Fk (pv 1)) (AY (i:=3) Ca.nd rfl (Or.inl rfl)) (Ag (Ar (i:=2) Ca.nd rfl (Or.inl rfl) (Am aV (rm hr) rfl NX (Aa (pv 0) (Aa (pv 2) (Aa (Aw AQ (pv 3) Af (fun _ _=>rfl)) (Aa (Aw AQ (pv 3) Af (fun _ _=>rfl)) (Aa (Aw AQ (pv 3) Af (fun _ _=>rfl)) Ab))))))))) (Ag (Aq (pv 2))))),?_⟩
  try dsimp only [cxK]
  refine xq1 rfl ⟨g,G,rfl,fu,?_⟩;refine xq1 rfl ⟨L,rfl,⟨_,SqL.of hL⟩,?_⟩;refine FY (xs:=ts.map V.ref) (fun i σ H2=>∃ (G':Gv) (f n:Nat) (u3:Option V),σ=[some (.ref g.p),some (.ref L),some (.int f),u3]/\i<=j/\Fr g H H2/\AI a H2 g G'/\AN G G' (400 * i)/\n<=40/\Aj G' f ((n+1:Nat):Int)) ⟨G,bareN 1,0,none,rfl,Nat.zero_le _,Fr.refl g H,fu,AN.refl fu.ok,by lia,Ew e0 (by lia)⟩ (fun i σ H2 _ ⟨_,_,_,_,_,_,fr,_⟩=>SqL.of (fr _ _ hL n1 n2 (Bb hL fu.at'.nm (by intro z; cases z)))) ?_ ?_
  ·rintro i v σ H2 ev ⟨G',f',n,u3,rfl,ij,fr,fu2,go,n40,lf⟩;rw [List.getElem?_map] at ev;obtain ⟨t,et,rfl⟩:=Option.map_eq_some_iff.mp ev;obtain ⟨c,ec,hc⟩:=PairedM.getL pr et;have hc2:=fr.tup fu.at' hc;have gf:=go.few;refine xw3 rfl rfl rfl (xq4 rfl rfl (SqT.of hc2) (Ai (j:=0) rfl) (xwi rfl rfl rfl (SqT.of hc2) (Ai (j:=1) rfl) (xwi rfl rfl rfl (SqT.of hc2) (Ai (j:=2) rfl) ?_)));refine ⟨g,G',f',n,c,rfl,fu2,lf,n40,(ods c (List.mem_of_getElem? ec)).same fun b xs e=>fr.tup fu.at' e,by lia,fun e H3 be s3=>?_,fun st r kk w' i' G2 H3 li ev s8 fr3 fu3 go3 pl=>?_⟩
   ·by_cases z:i=j
    ·subst z;rw [ec] at eb;cases eb;rw [<-Mt bad be];exact k G' H3 (fr.trans (Az.fr s3)) (fu2.same s3) (go.mono (by lia))
    ·exact (Pe (gds i c (by lia) ec) be).elim
   ·have lt:i < j:=by
     by_cases z:i=j
     ·subst z;rw [ec] at eb;cases eb;exact (Oq bad li ev s8).elim
     ·lia
    have li':=pl.rep.lev fu3.ok s8;obtain ⟨m,lm,lr⟩:=Dn.lev li' pl.tr;have le:=pl.le;exact ⟨G2,r,m,(xq1 rfl ⟨by lia,fr.trans fr3,fu3,(go.trans go3).mono (by lia),by lia,lr⟩)⟩
  ·rintro σ H2 ⟨G',f',n,u3,rfl,ij,_⟩;rw [List.length_map,lts] at ij;lia
end
end J
namespace J
open PySem L2
seal L2.PA L2.PE L2.PS L2.PSs L2.PT L2.PW
section
variable {P:Program} {w:World} {K:PySem.W.Frag} {mg:Str->Option Value} {base:Heap} {a:Ad}
def DueW (a:Ad) (G:Gv) (v:V) (lv:Int->Prop) (E:Addr->Prop):Prop:=(IR G v/\E a.x_NoSquare)\/∃ (i:Nat) (l:Int),v=.int i/\Aj G i l/\lv l/\E a.x_NoLevel
inductive Re (a:Ad) (lv:Int->Prop) (vs:List V) (H:Hp) (E:XK):Prop
 | mk (g:GA) (G:Gv) (v:V) (_:vs=[.ref g.p,v]) (_:AD a H g G) (_:Odd H v) (_:DueW a G v lv fun c=>E (.ref c) none H):Re a lv vs H E
def lvW (l:Int):Prop:=l=0\/l=48
def lvT (l:Int):Prop:=l=0
def PD (a:Ad):Sp:=fun vs H _ E=>Re a lvW vs H E
def PF (a:Ad):Sp:=fun vs H _ E=>Re a lvT vs H E
theorem ok_wix {f:Addr} {fd:FuncData} (F:Fun K "widened" "widened" Ds f fd) (T:Top K mg a) (E_Grove_level_of:Ch P w K mg base (CXE P w) 3 a.c_Grove "level_of" AA (NM a)) (aA:Ch P w K mg base CX0 2 a.c_Grove "linked" AZ (FC a)):AW P w K mg base (CXE P w) 4 f fd Db (PD a):=by
 refine F.okE Cy (fun vs H Q E h=>?_) (fun cdv A outer s H vs Q E hr h=>?_)
 ·obtain ⟨g,G,v,rfl,_⟩:=h;rfl
 ·obtain ⟨g,G,v,rfl,hg,ov,h⟩:=h;refine ⟨_,(Ac (Ar (i:=2) Cy.nd rfl (Or.inl rfl) (Ay (pv 0) E_Grove_level_of (rm hr) NX (Aa (pv 1) Ab))) (Ac (AO (PW.pt (FN (AB FQ (pv 2) (Bg rfl T.k_LEAST_LEVEL) (AE _)) (EC (AB DH (pv 2) (Bg rfl T.k_TOP_LEVEL) (AE _))))) (Ag (Ep Fi rfl rfl T.mx_NoLevel T.ec_NoLevel (EH Ab))) At) (Ac (Ar (i:=3) Cy.nd rfl (Or.inl rfl) (Aw AF (AL (pv 0) rfl) (pv 1) (fun _ _=>rfl))) (Ac (Ar (i:=4) Cy.nd rfl (Or.inl rfl) (Aw AF (AL (pv 0) rfl) (As Cs (pv 2) Af) (fun _ _=>rfl))) (Ag (Aq (Ay (pv 0) aA (rm hr) Al (Bk (Aa (Ay (pv 0) aA (rm hr) Al (Bk (Aa (pv 4) (Aa (pv 4) (Aa (pv 4) (Aa (Aw AQ (pv 3) Af (fun _ _=>rfl)) Ab)))) Ab)) (Aa (Ay (pv 0) aA (rm hr) Al (Bk (Aa (pv 4) (Aa (pv 4) (Aa (Aw AQ (pv 3) Af (fun _ _=>rfl)) (Aa (pv 4) Ab)))) Ab)) (Aa (Ay (pv 0) aA (rm hr) Al (Bk (Aa (pv 4) (Aa (Aw AQ (pv 3) Af (fun _ _=>rfl)) (Aa (pv 4) (Aa (pv 4) Ab)))) Ab)) (Aa (Ay (pv 0) aA (rm hr) Al (Bk (Aa (Aw AQ (pv 3) Af (fun _ _=>rfl)) (Aa (pv 4) (Aa (pv 4) (Aa (pv 4) Ab)))) Ab)) Ab)))) Ab)))))))),?_⟩
  try dsimp only [cxK]
  refine xwn rfl rfl hg.hp (Dz g) rfl ⟨g,G,v,rfl,hg,ov,fun i q e ei=>?_,fun no=>?_⟩
  ·subst e;rcases h with ⟨no,_⟩ | ⟨j,l,e,⟨q',e1,e2⟩,l0,ke⟩
   ·exact (JX no ei).elim
   ·injection e with e
    have e:i=j:=by lia
    subst e;rw [ei] at e1;cases e1;refine xwb rfl rfl rfl (xq1 rfl ?_);rw [e2];rcases l0 with rfl | rfl
    ·exact Cw (Cw ⟨by show 1<=100; decide,ke⟩)
    ·refine Bv (xq1 rfl ⟨rfl,(xq1 rfl ?_)⟩);exact Cw ⟨by show 1<=100; decide,ke⟩
  ·rcases h with ⟨_,ke⟩ | ⟨j,l,rfl,⟨q',e1,e2⟩,l0,ke⟩
   ·exact ke
   ·exact (JX no e1).elim
theorem ok_trx {f:Addr} {fd:FuncData} (F:Fun K "trimmed" "trimmed" Dt f fd) (T:Top K mg a) (E_Grove_level_of:Ch P w K mg base (CXE P w) 3 a.c_Grove "level_of" AA (NM a)) (aK:Cal P w K mg base CX0 1 "is_bare_around" Bu (spBA a)) (aZ:Cal P w K mg base CX0 3 "middle_of" Dc (NL a)):AW P w K mg base (CXE P w) 4 f fd Cn (PF a):=by
 refine F.okE Dp (fun vs H Q E h=>?_) (fun cdv A outer s H vs Q E hr h=>?_)
 ·obtain ⟨g,G,v,rfl,_⟩:=h;rfl
 ·obtain ⟨g,G,v,rfl,hg,ov,h⟩:=h;refine ⟨_,(Ac (AO (AB FQ (Ay (pv 0) E_Grove_level_of (rm hr) NX (Aa (pv 1) Ab)) (Bg rfl T.k_LEAST_LEVEL) (AE _)) (Ag (Ep Fi rfl rfl T.mx_NoLevel T.ec_NoLevel (EH Ab))) At) (Ac (Ar (i:=2) Dp.nd rfl (Or.inl rfl) (pv 1)) (Ac (Il PassesOwn.leaving (PW.pt (MN (AB NY (Aw AF (AL (pv 0) rfl) (pv 2) (fun _ _=>rfl)) (Bg rfl T.k_LEAST_LEVEL) (AE _)) (JQ (BV (Am aK (rm hr) rfl Al (Aa (pv 0) (Aa (pv 2) Ab))))))) (Ag (Ar (i:=2) Dp.nd rfl (Or.inl rfl) (Am aZ (rm hr) rfl Al (Aa (pv 0) (Aa (pv 2) Ab)))))) (Ag (Aq (pv 2)))))),?_⟩
  try dsimp only [cxK]
  refine xwn rfl rfl hg.hp (Dz g) rfl ⟨g,G,v,rfl,hg,ov,fun i q e ei=>?_,fun no=>?_⟩
  ·subst e;rcases h with ⟨no,_⟩ | ⟨j,l,e,⟨q',e1,e2⟩,l0,ke⟩
   ·exact (JX no ei).elim
   ·injection e with e
    have e:i=j:=by lia
    subst e;rw [ei] at e1;cases e1;refine xq2 rfl rfl (xq1 rfl ?_);rw [e2];have l0:l=0:=l0;subst l0;exact Cw ⟨by show 1<=100; decide,ke⟩
  ·rcases h with ⟨_,ke⟩ | ⟨j,l,rfl,⟨q',e1,e2⟩,l0,ke⟩
   ·exact ke
   ·exact (JX no e1).elim
inductive SpCoX (a:Ad) (vs:List V) (H:Hp) (E:XK):Prop
 | mk (g:GA) (G:Gv) (f n:Nat) (_:vs=[.ref g.p,.int f]) (_:AI a H g G) (_:Aj G f (n:Int)) (_:G.length < 9000000) (_:4096 < BZ G n f) (_:∀ H',FrQ g H H'->AI a H' g G->E (.ref a.x_TooMany) none H'):SpCoX a vs H E
def PV (a:Ad):Sp:=fun vs H _ E=>SpCoX a vs H E
theorem ok_cox {f:Addr} {fd:FuncData} (F:Fun K "cells_of" "cells_of" CW f fd) (T:Top K mg a) (aG:Ch P w K mg base CX0 51 a.c_Grove "living" BD (LD a)) (aE:Cal P w K mg base CX0 4 "reach_of" Cb (EB a)) (aJ:Cal P w K mg base CX0 55 "gather_cells" Be (PP a 50)) (bG:Cal P w K mg base CX0 1 "by_rows" DO GD):AW P w K mg base (CXE P w) 56 f fd Cd (PV a):=by
 refine F.okE Da (fun vs H Q E h=>?_) (fun cdv A outer s H vs Q E hr h=>?_)
 ·obtain ⟨g,G,f',n,rfl,_⟩:=h;rfl
 ·obtain ⟨g,G,f',n,rfl,fu,lf,few,many,ke⟩:=h;refine ⟨_,(Ac (AO (AB NY (Ay (pv 0) aG (rm hr) Al (Aa (pv 1) Ab)) (Bg rfl T.k_MOST_CELLS) (AE _)) (Ag (Ep Fi rfl rfl T.mx_TooMany T.ec_TooMany (EH Ab))) At) (Ac (Ar (i:=2) Da.nd rfl (Or.inl rfl) (Am aE (rm hr) rfl Al (Aa (pv 0) (Aa (pv 1) Ab)))) (Ac (Ar (i:=3) Da.nd rfl (Or.inl rfl) (Di Ab)) (Ac (Cu (Am aJ (rm hr) rfl Al (Aa (pv 0) (Aa (pv 1) (Aa (Ft Ej (pv 2)) (Aa (Ft Ej (pv 2)) (Aa (pv 3) Ab))))))) (Ag (Aq (Im bG (rm hr) rfl T.b_sorted rfl (Aa (pv 3) Ab)))))))),?_⟩
  try dsimp only [cxK]
  refine xwn rfl rfl fu.at'.hp (Gd g) rfl ⟨g,G,f',n,rfl,fu,lf,few,fun H1 fr1 fu1=>?_⟩;refine xq2 rfl rfl (xq1 rfl ?_);rw [decide_eq_true (show (4096:Int) < BZ G n f' from many)];exact Cw ⟨by show 1<=100; decide,ke H1 fr1 fu1⟩
structure KiX (K:PySem.W.Frag) (a:Ad) (c:Addr) (d:Nat):Prop where
 ec:Ez K c
 ef:IT K c
 mr:PySem.W.mroIn K c (.ref a.x_FieldError)=some true
 kv:PySem.W.kitOne K (.ref c) (.type "ValueError")=some true
 s0:PySem.W.kitOne K (.ref c) (.ref a.x_TooFar)=some (decide (V.int (d:Int)=V.int ((0:Nat):Int)))
 s1:PySem.W.kitOne K (.ref c) (.ref a.x_NoState)=some (decide (V.int (d:Int)=V.int ((1:Nat):Int)))
 s2:PySem.W.kitOne K (.ref c) (.ref a.x_TooMany)=some (decide (V.int (d:Int)=V.int ((2:Nat):Int)))
 s3:PySem.W.kitOne K (.ref c) (.ref a.x_NoSquare)=some (decide (V.int (d:Int)=V.int ((3:Nat):Int)))
 s4:PySem.W.kitOne K (.ref c) (.ref a.x_NoLevel)=some (decide (V.int (d:Int)=V.int ((4:Nat):Int)))
theorem kix_far (T:Top K mg a):KiX K a a.x_TooFar 0:=⟨T.ec_TooFar,T.ef_TooFar,T.mr_TooFar,T.kv_TooFar,T.ki_TooFar_TooFar,T.ki_TooFar_NoState,T.ki_TooFar_TooMany,T.ki_TooFar_NoSquare,T.ki_TooFar_NoLevel⟩
theorem kix_sta (T:Top K mg a):KiX K a a.x_NoState 1:=⟨T.ec_NoState,T.ef_NoState,T.mr_NoState,T.kv_NoState,T.ki_NoState_TooFar,T.ki_NoState_NoState,T.ki_NoState_TooMany,T.ki_NoState_NoSquare,T.ki_NoState_NoLevel⟩
theorem Md (T:Top K mg a):KiX K a a.x_TooMany 2:=⟨T.ec_TooMany,T.ef_TooMany,T.mr_TooMany,T.kv_TooMany,T.ki_TooMany_TooFar,T.ki_TooMany_NoState,T.ki_TooMany_TooMany,T.ki_TooMany_NoSquare,T.ki_TooMany_NoLevel⟩
theorem QH (T:Top K mg a):KiX K a a.x_NoSquare 3:=⟨T.ec_NoSquare,T.ef_NoSquare,T.mr_NoSquare,T.kv_NoSquare,T.ki_NoSquare_TooFar,T.ki_NoSquare_NoState,T.ki_NoSquare_TooMany,T.ki_NoSquare_NoSquare,T.ki_NoSquare_NoLevel⟩
theorem QI (T:Top K mg a):KiX K a a.x_NoLevel 4:=⟨T.ec_NoLevel,T.ef_NoLevel,T.mr_NoLevel,T.kv_NoLevel,T.ki_NoLevel_TooFar,T.ki_NoLevel_NoState,T.ki_NoLevel_TooMany,T.ki_NoLevel_NoSquare,T.ki_NoLevel_NoLevel⟩
theorem QJ (T:Top K mg a) {c:Oc} {d:Nat} (h:Lu c d):KiX K a (clsD a d) d:=by
 rcases h with ⟨rfl,_⟩ | ⟨rfl,_⟩
 ·exact kix_far T
 ·exact kix_sta T
def spD (K:PySem.W.Frag) (a:Ad) (d:Nat) (R:Hp->Prop):VK->XK->Prop:=fun _ E=>∀ c H',KiX K a c d->R H'->E (.ref c) none H'
inductive SpRef (P:Program) (w:World) (K:PySem.W.Frag) (mg:Str->Option Value) (base:Heap) (a:Ad) (k:Nat) (outer:List Env) (s:Shared) (vs:List V) (H:Hp) (Q:VK):Prop
 | mk (p:Addr) (d:Nat) (R:Hp->Prop) (_:vs=[.ref p,.int d]) (_:∃ fd,H p=some (Fv p fd)) (_:Deed P w K mg base k p outer s H (spD K a d R)) (_:∀ H1 H',R H1->Az H1 H'->Q (.bl true) H'):SpRef P w K mg base a k outer s vs H Q
def Jk (P:Program) (w:World) (K:PySem.W.Frag) (mg:Str->Option Value) (base:Heap) (a:Ad) (k:Nat):SpS:=fun outer s vs H Q _=>SpRef P w K mg base a k outer s vs H Q
def SRf (p:Addr) (d:Nat) (σ:St):Prop:=∃ x3 x4,σ=[some (.ref p),some (.int d),x3,x4]
def OX (d i:Nat):List V:=(List.range i).map fun j=>V.bl (decide (V.int (d:Int)=V.int ((j:Nat):Int)))
theorem ok_ref {f:Addr} {fd:FuncData} {k:Nat} (F:Fun K "_law_refused" "_law_refused" Bz f fd) (T:Top K mg a) (hk:1<=k):OA P w K mg base CX0 (k+1) f fd BC (Jk P w K mg base a k):=by
 refine F.okS CP (fun o s vs H Q E h=>?_) (fun cdv A outer s H vs Q E hr h=>?_)
 ·obtain ⟨p,d,R,rfl,_⟩:=h;rfl
 ·obtain ⟨p,d,R,rfl,hlam,D,q⟩:=h;refine ⟨_,(Ac (OH (i:=2) (S:=(SRf p d)) rfl rfl rfl rfl rfl T.mx_FieldError T.ec_FieldError CP.nd rfl rfl (fun xe pn E1 pass=>(Ag (Cu (pe_deed (i:=0) (H0:=H) rfl rfl rfl (rm hr) D pass rfl hlam)))) (fun ea=>(Ac (Ar (i:=3) CP.nd rfl (Or.inl rfl) (Di (Aa (AJ (DT K rfl) rfl T.b_isinstance PyProof.Rows.boot_isinstance (Aa (pv 2) (Aa (Fl rfl T.mx_TooFar) Ab))) (Aa (AJ (DT K rfl) rfl T.b_isinstance PyProof.Rows.boot_isinstance (Aa (pv 2) (Aa (Fl rfl T.mx_NoState) Ab))) (Aa (AJ (DT K rfl) rfl T.b_isinstance PyProof.Rows.boot_isinstance (Aa (pv 2) (Aa (Fl rfl T.mx_TooMany) Ab))) Ab))))) (Ac (Ar (i:=3) CP.nd rfl (Or.inl rfl) (As MR (pv 3) (Di (Aa (AJ (DT K rfl) rfl T.b_isinstance PyProof.Rows.boot_isinstance (Aa (pv 2) (Aa (Fl rfl T.mx_NoSquare) Ab))) (Aa (AJ (DT K rfl) rfl T.b_isinstance PyProof.Rows.boot_isinstance (Aa (pv 2) (Aa (Fl rfl T.mx_NoLevel) Ab))) Ab))))) (Ag (Aq (EG (AJ (DT K rfl) rfl T.b_isinstance PyProof.Rows.boot_isinstance (Aa (pv 2) (Aa (EF (v:=.ty "ValueError") rfl T.b_ValueError PyProof.Rows.Boot.«ValueError» rfl) Ab))) (FF (Ef (LW K rfl hr.units) (pv 3) (Ql (a:=ea) rfl (AV.of (So:=Ae Bz) (No:=EZ) (N:=["_law_k","_law_due"]) (k:=1) (cs:=[1]) rfl rfl (by decide +kernel)) (OJ rfl T.b_range (AH Ab)) (fun _ _ _=>(Es (i:=0) (by decide +kernel) rfl rfl)) (fun _ _ _=>FO) (fun _ _ _=>(Ef DH (pv 1) (pv 0) (AE _)))) (AE _)))))))))) (Ag (Aq DF))),?_⟩
  try dsimp only [cxK]
  refine ⟨rfl,rfl,⟨_,_,rfl⟩,fun c H' ki sm=>?_⟩;refine ⟨c,rfl,ki.ec,ki.mr,fun σ' e hS he=>?_⟩;obtain ⟨x3,x4,rfl⟩:=hS;generalize e1:upd H' e _=H1;obtain ⟨s1,h1⟩:Az H' H1/\H1 e=some (Fw e c):=e1 ▸ ⟨same_up he,Ah⟩;have ty:∀ {H2:Hp},Az H1 H2->TyX K H2 (.ref e) (.ref c):=fun s=>.exc (s _ _ h1) ki.ef;have s0:=Az.refl H1;refine xq1 rfl ⟨_,_,_,(xq2 rfl rfl ⟨ty s0,ki.s0,(xq1 rfl ⟨_,_,_,(xq2 rfl rfl ⟨ty s0,ki.s1,(xq1 rfl ⟨_,_,_,(xq2 rfl rfl ⟨ty s0,ki.s2,by show 3<=sizeLine; decide,fun p3 hp3=>?_⟩)⟩)⟩)⟩)⟩)⟩;show ∃ _,_;generalize e3:upd H1 p3 _=H3;obtain ⟨s3,h3⟩:Az H1 H3/\H3 p3=some (.lst (OX d 3)):=e3 ▸ ⟨same_up hp3,Ah⟩;refine xw2 rfl rfl ⟨_,_,_,(xq2 rfl rfl ⟨ty s3,ki.s3,(xq1 rfl ⟨_,_,_,(xq2 rfl rfl ⟨ty s3,ki.s4,by show 2<=sizeLine; decide,fun p4 hp4=>?_⟩)⟩)⟩)⟩;generalize e4:upd H3 p4 _=H4;obtain ⟨s4,h4⟩:Az H3 H4/\H4 p4=some (.lst [V.bl (decide (V.int (d:Int)=V.int ((3:Nat):Int))),V.bl (decide (V.int (d:Int)=V.int ((4:Nat):Int)))]):=e4 ▸ ⟨same_up hp4,Ah⟩;refine ⟨p3,p4,OX d 3,(xq1 rfl ⟨rfl,s4 _ _ h3,h4,by show 3+2<=sizeLine; decide,fun p5 hp5=>?_⟩)⟩;show ∃ _,_;generalize e5:upd H4 p5 _=H5;obtain ⟨s5,h5⟩:Az H4 H5/\H5 p5=some (.lst (OX d 5)):=e5 ▸ ⟨same_up hp5,Ah⟩;have s15:=(s3.trans s4).trans s5;refine xq1 rfl ⟨_,_,_,(xq2 rfl rfl ⟨ty s15,ki.kv,true,rfl,Cw ?_⟩)⟩;refine xq1 rfl ⟨5,rfl,by decide,?_⟩;refine Ny (fun i acc H2=>H2=H5/\acc=OX d i) ⟨rfl,rfl⟩ ?_ ?_
  ·rintro i acc H2 hi ⟨rfl,rfl⟩;refine ⟨⟨[some (.int (0+(i:Int)))],rfl,rfl⟩,?_,Pq (xw2 rfl rfl ⟨rfl,rfl,?_⟩)⟩
   ·unfold OX;rw [List.length_map,List.length_range];exact Nat.lt_trans hi (by decide)
   ·unfold OX;rw [List.range_succ,List.map_append,Int.zero_add];rfl
  ·rintro acc H2 ⟨rfl,rfl⟩;refine ⟨⟨c,s15 _ _ h1⟩,fun p6 hp6=>⟨⟨p5,p6,(List.range 5).map fun j=>decide (V.int (d:Int)=V.int ((j:Nat):Int)),rfl,rfl,SqL.of (same_up hp6 _ _ h5),SqL.of Ah⟩,?_⟩⟩;exact q _ _ sm ((s1.trans s15).trans (same_up hp6))
end
end J
namespace J
open PySem L2
seal L2.PA L2.PE L2.PS L2.PSs L2.PT L2.PW
theorem meetH {T:St->Hp->Prop} {C:Prop} (P:St->Hp->Prop) (h:(∀ σ H,P σ H->T σ H)->C) (k:∀ σ H,P σ H->T σ H):C:=h k
theorem NT:((10:Int) ^ (30:Int).toNat)=1000000000000000000000000000000:=by decide
theorem Qf:((2:Int) ^ (40:Int).toNat)=1099511627776:=by decide
theorem LY {v:V} (h:∀ i:Int,v=.int i->i < 0\/7 < i):FB v=false:=by
 cases v with
 | int i =>
  show (decide (0<=i) && decide (i < 8))=false;rcases h i rfl with z | z
  ·rw [decide_eq_false (by lia:¬ 0<=i)]; rfl
  ·rw [decide_eq_false (by lia:¬ i < 8),Bool.and_false]
 | _=>rfl
theorem pick5 {K:PySem.W.Frag} {H:Hp} {q:Addr} {x y z u t:V} {i:Int} {Q:VK} (h:H q=some (.lst [x,y,z,u,t])) (h0:0<=i) (h1:i < 5) (k:∀ v ∈ [x,y,z,u,t],Q v H):rIxL K (.ref q) (.int i) H Q:=by
 have:i=0\/i=1\/i=2\/i=3\/i=4:=by lia
 rcases this with rfl | rfl | rfl | rfl | rfl
 ·exact xq4 rfl rfl (SqL.of h) (Ai (j:=0) rfl) (k _ (by simp))
 ·exact xq4 rfl rfl (SqL.of h) (Ai (j:=1) rfl) (k _ (by simp))
 ·exact xq4 rfl rfl (SqL.of h) (Ai (j:=2) rfl) (k _ (by simp))
 ·exact xq4 rfl rfl (SqL.of h) (Ai (j:=3) rfl) (k _ (by simp))
 ·exact xq4 rfl rfl (SqL.of h) (Ai (j:=4) rfl) (k _ (by simp))
theorem EJ {m n:Int} {A B:Prop} (h1:m=n->A) (h2:m≠n->B):if decide (V.int m=V.int n)=true then A else B:=ite2 (fun z=>h1 (by have:=of_decide_eq_true z; injection this)) (fun z=>h2 (fun e=>z (decide_eq_true (by rw [e]))))
section
variable {P:Program} {w:World} {K:PySem.W.Frag} {mg:Str->Option Value} {base:Heap} {a:Ad}
inductive SpNoS (vs:List V) (H:Hp) (Q:VK):Prop
 | mk (c:Int) (_:vs=[.int c]) (_:∀ v H',Odd H' v->Az H H'->FB v=false->Q v H'):SpNoS vs H Q
def PL:Sp:=fun vs H Q _=>SpNoS vs H Q
theorem ok_nos {f:Addr} {fd:FuncData} (F:Fun K "_law_no_state" "_law_no_state" BJ f fd) (T:Top K mg a):AW P w K mg base CX0 1 f fd Cj PL:=by
 refine F.ok Dr (fun vs H Q E h=>?_) (fun cdv A outer s H vs Q E hr h=>?_)
 ·obtain ⟨c,rfl,_⟩:=h;rfl
 ·obtain ⟨c,rfl,k⟩:=h;have s0:=Az.refl H;refine ⟨_,(Ac (Ar (i:=1) Dr.nd rfl (Or.inl rfl) (As AT (pv 0) Af)) (Ac (Ar (i:=2) Dr.nd rfl (Or.inl rfl) (As AT (As CQ (pv 0) Af) (As EI Af Af))) (Ac (AO (AB DH (pv 1) Af (AE _)) (Ag (Aq (As Cs (Ft Ej Af) (pv 2)))) At) (Ac (AO (AB DH (pv 1) Af (AE _)) (Ag (Aq (As Bo Af (pv 2)))) At) (Ac (AO (AB DH (pv 1) Af (AE _)) (Ag (Aq (Ef DH (As AT (pv 2) Af) Af (AE _)))) At) (Ac (AO (AB DH (pv 1) Af (AE _)) (Ag (Aq JT)) At) (Ag (Aq (Aw AF (Di (EH (EH (Bk (AH Ab) (Aa (Ft Ej Af) (AH Ab)))))) (As AT (As CQ (pv 0) Af) Af) (fun _ _=>rfl)))))))))),?_⟩
  try dsimp only [cxK]
  refine xwb rfl rfl rfl ⟨(by show (0:Int) < 6; decide),?_⟩;refine xwb rfl rfl rfl ⟨⟨by decide,by decide⟩,(xq2 rfl rfl ⟨⟨by decide,by decide,by decide⟩,?_⟩)⟩;refine xq2 rfl rfl ⟨by show (0:Int) < 10 ^ (30:Int).toNat; decide,?_⟩;rw [NT];have f0:0<=c / 6 % 1000000000000000000000000000000:=Int.emod_nonneg _ (by decide);refine xq1 rfl ⟨rfl,(xq1 rfl (EJ (fun _=>?_) (fun _=>?_)))⟩
  ·exact xw2 rfl rfl (xq2 rfl rfl (k _ H (.int _) s0 (LY fun i e=>by injection e with e; lia)))
  refine xq1 rfl ⟨rfl,(xq1 rfl (EJ (fun _=>?_) (fun _=>?_)))⟩
  ·exact xwb rfl rfl rfl (k _ H (.int _) s0 (LY fun i e=>by injection e with e; lia))
  refine xq1 rfl ⟨rfl,(xq1 rfl (EJ (fun _=>?_) (fun _=>?_)))⟩
  ·exact xwb rfl rfl rfl ⟨(by show (0:Int) < 2; decide),rfl,k _ H (.bl _) s0 rfl⟩
  refine xq1 rfl ⟨rfl,(xq1 rfl (EJ (fun _=>?_) (fun _=>?_)))⟩
  ·exact k _ H .non s0 rfl
  refine ⟨(by show 1<=sizeLine; decide),fun t ht=>?_⟩;generalize e1:upd H t _=H1;obtain ⟨s1,h1⟩:Az H H1/\H1 t=some (.tup [.int 1]):=e1 ▸ ⟨same_up ht,Ah⟩;refine xq1 rfl ⟨(by show 5<=sizeLine; decide),fun q hq=>?_⟩;generalize e2:upd H1 q _=H2;obtain ⟨s2,h2⟩:Az H1 H2/\H2 q=some (.lst [.str "8",.str "1",.ref t,.int (-1),.int 8]):=e2 ▸ ⟨same_up hq,Ah⟩;have s12:=s1.trans s2;refine xwb rfl rfl rfl ⟨⟨by decide,by decide⟩,(xq2 rfl rfl ⟨(by show (0:Int) < 5; decide),?_⟩)⟩;refine pick5 h2 (Int.emod_nonneg _ (by decide)) (Int.emod_lt_of_pos _ (by decide)) fun v hv=>?_;simp only [List.mem_cons,List.not_mem_nil,or_false] at hv;rcases hv with rfl | rfl | rfl | rfl | rfl
  ·exact k _ H2 (.str _) s12 rfl
  ·exact k _ H2 (.str _) s12 rfl
  ·exact k _ H2 (.tup t _ (s2 _ _ h1)) s12 rfl
  ·exact k _ H2 (.int _) s12 rfl
  ·exact k _ H2 (.int _) s12 rfl
inductive SpFar (vs:List V) (H:Hp) (Q:VK):Prop
 | mk (c b:Int) (_:vs=[.int c,.int b]) (_:-4<=b/\b<=4) (_:∀ (x y:Int) (t:Addr) (H':Hp),¬ DJ x y 1 1 (2 ^ 40)->Az H H'->H' t=some (.tup [.int x,.int y])->Q (.ref t) H'):SpFar vs H Q
def PU:Sp:=fun vs H Q _=>SpFar vs H Q
theorem far_no {x y:Int} (h:(x < -1099511627776\/1099511627776<=x)\/(y < -1099511627776\/1099511627776<=y)):¬ DJ x y 1 1 (2 ^ 40):=fun ⟨h1,h2,h3,h4⟩=>by
 rw [show ((2:Int) ^ 40)=1099511627776 by decide] at h1 h2 h3 h4;lia
theorem ok_far {f:Addr} {fd:FuncData} (F:Fun K "_law_far_place" "_law_far_place" Br f fd) (T:Top K mg a):AW P w K mg base CX0 1 f fd BX PU:=by
 refine F.ok Ct (fun vs H Q E h=>?_) (fun cdv A outer s H vs Q E hr h=>?_)
 ·obtain ⟨c,b,rfl,_⟩:=h;rfl
 ·obtain ⟨c,b,rfl,hb,k⟩:=h;refine ⟨_,(Ac (Ar (i:=2) Ct.nd rfl (Or.inl rfl) (As op_mulW (As AT (As CQ (pv 0) Af) (As EI Af Af)) (As AT (As CQ (pv 0) Af) Af))) (Ac (Ar (i:=3) Ct.nd rfl (Or.inl rfl) (As Bo (As EI Af Af) (pv 2))) (Ac (AO (AB DH (As AT (pv 0) Af) Af (AE _)) (Ag (Ar (i:=3) Ct.nd rfl (Or.inl rfl) (As Cs (As Cs (As Cs Af (As EI Af Af)) Af) (pv 2)))) At) (Ac (AO (AB DH (As AT (As CQ (pv 0) Af) Af) Af (AE _)) (Ag (Aq (Dy (Aa (pv 3) (Aa (pv 1) Ab))))) At) (Ac (AO (AB DH (As AT (As CQ (pv 0) Af) Af) Af (AE _)) (Ag (Aq (Dy (Aa (pv 1) (Aa (pv 3) Ab))))) At) (Ag (Aq (Dy (Aa (pv 3) (Aa (pv 3) Ab)))))))))),?_⟩
  try dsimp only [cxK]
  refine BP ?_;intro r1 s1 k1 hk1 E1;refine xwb rfl rfl rfl ⟨⟨by decide,by decide⟩,(xq2 rfl rfl ⟨⟨by decide,by decide,by decide⟩,?_⟩)⟩;refine xq2 rfl rfl ⟨by show (0:Int) < 10 ^ (30:Int).toNat; decide,?_⟩;refine xwb rfl rfl rfl ⟨⟨by decide,by decide⟩,xq2 rfl rfl ⟨(by show (0:Int) < 2; decide),xq2 rfl rfl ⟨?_,?_⟩⟩⟩
  ·show (c / 18 % 10 ^ (30:Int).toNat).natAbs < 2 ^ 128/\(c / 9 % 2).natAbs < 2 ^ 128;rw [NT];lia
  show k1 [some (.int c),some (.int b),some (.int (c / 18 % 10 ^ (30:Int).toNat * (c / 9 % 2))),none] H;rw [NT];have f0:0<=c / 18 % 1000000000000000000000000000000 * (c / 9 % 2):=Int.mul_nonneg (Int.emod_nonneg _ (by decide)) (Int.emod_nonneg _ (by decide));generalize c / 18 % 1000000000000000000000000000000 * (c / 9 % 2)=F at f0 ⊢;refine hk1 ?_;refine BP ?_;intro r2 s2 k2 hk2 E2;refine xq2 rfl rfl ⟨⟨by decide,by decide,by decide⟩,xwb rfl rfl rfl ?_⟩;show k2 [some (.int c),some (.int b),some (.int F),some (.int (2 ^ (40:Int).toNat+F))] H;rw [Qf];refine hk2 ?_;refine BP ?_;intro r3 s3 k3 hk3 E3;apply meetH (T:=k3) (fun σ H'=>H'=H/\∃ o:Int,σ=[some (.int c),some (.int b),some (.int F),some (.int o)]/\(o < -1099511627776\/1099511627776<=o))
  ·intro rest;refine xwb rfl rfl rfl ⟨(by show (0:Int) < 2; decide),rfl,(xq1 rfl (EJ (fun _=>?_) (fun _=>rest _ _ ⟨rfl,(xq1 rfl (by lia))⟩)))⟩;refine xq2 rfl rfl ⟨⟨by decide,by decide,by decide⟩,xq2 rfl rfl (xq2 rfl rfl (xwb rfl rfl rfl (rest _ _ ⟨rfl,(xq1 rfl ?_)⟩)))⟩;rw [Qf];lia
  rintro σ H' ⟨rfl,o,rfl,ho⟩;refine hk3 ?_;have fin:∀ (x y:Int) (t:Addr),H' t=none->((x < -1099511627776\/1099511627776<=x)\/(y < -1099511627776\/1099511627776<=y))->Q (.ref t) (upd H' t (.tup [.int x,.int y])):=fun x y t ht h=>k x y t _ (far_no h) (same_up ht) Ah;refine xwb rfl rfl rfl ⟨⟨by decide,by decide⟩,xq2 rfl rfl ⟨(by show (0:Int) < 3; decide),rfl,(xq1 rfl (EJ (fun _=>?_) (fun _=>?_)))⟩⟩
  ·exact xw2 rfl rfl ⟨(by show 2<=sizeLine; decide),fun t ht=>fin _ _ t ht (.inl ho)⟩
  refine xwb rfl rfl rfl ⟨⟨by decide,by decide⟩,xq2 rfl rfl ⟨(by show (0:Int) < 3; decide),rfl,(xq1 rfl (EJ (fun _=>?_) (fun _=>?_)))⟩⟩
  ·exact xw2 rfl rfl ⟨(by show 2<=sizeLine; decide),fun t ht=>fin _ _ t ht (.inr ho)⟩
  exact xw2 rfl rfl ⟨(by show 2<=sizeLine; decide),fun t ht=>fin _ _ t ht (.inl ho)⟩
inductive SpOdC (vs:List V) (H:Hp) (Q:VK):Prop
 | mk (c b:Int) (_:vs=[.int c,.int b]) (_:-4<=b/\b<=4) (_:∀ (t u:Addr) (o:Oc) (d:Nat) (H':Hp),Az H H'->H' t=some (.tup [.ref u,.int (d:Int)])->IQ H' u o->Odd H' o.v->Lu o d->Q (.ref t) H'):SpOdC vs H Q
def PJ:Sp:=fun vs H Q _=>SpOdC vs H Q
theorem near_in {b:Int} (h:-4<=b/\b<=4):DJ b b 1 1 (2 ^ 40):=by
 show -(2 ^ 40)<=b/\-(2 ^ 40)<=b/\b+1<=2 ^ 40/\b+1<=2 ^ 40;rw [show ((2:Int) ^ 40)=1099511627776 by decide];lia
theorem ok_odc {f:Addr} {fd:FuncData} (F:Fun K "_law_odd_cell" "_law_odd_cell" BI f fd) (T:Top K mg a) (aY:Cal P w K mg base CX0 1 "_law_no_state" Cj PL) (bB:Cal P w K mg base CX0 1 "_law_far_place" BX PU):AW P w K mg base CX0 2 f fd Ci PJ:=by
 refine F.ok Eo (fun vs H Q E h=>?_) (fun cdv A outer s H vs Q E hr h=>?_)
 ·obtain ⟨c,b,rfl,_⟩:=h;rfl
 ·obtain ⟨c,b,rfl,hb,k⟩:=h;refine ⟨_,(Ac (AO (AB DH (As AT (pv 0) Af) Af (AE _)) (Ag (Aq (Dy (Bk (Aa (pv 1) (Aa (pv 1) (Aa (Am aY (rm hr) rfl Al (Bh CQ (pv 0) Af Ab)) Ab))) (AH Ab))))) At) (Ac (Ar (i:=2) Eo.nd rfl (Or.inl rfl) (Am bB (rm hr) rfl Al (Bh CQ (pv 0) Af (Aa (pv 1) Ab)))) (Ac (AO (AB DH (As AT (pv 0) Af) Af (AE _)) (Ag (Aq (Dy (Bk (Aa (Aw AQ (pv 2) Af (fun _ _=>rfl)) (Aa (Aw AQ (pv 2) Af (fun _ _=>rfl)) (Bh Bo Af (As AT (As CQ (pv 0) Af) Af) Ab))) (AH Ab))))) At) (Ag (Aq (Dy (Bk (Aa (Aw AQ (pv 2) Af (fun _ _=>rfl)) (Aa (Aw AQ (pv 2) Af (fun _ _=>rfl)) (Aa (Am aY (rm hr) rfl Al (Bh CQ (pv 0) Af Ab)) Ab))) (AH Ab)))))))),?_⟩
  try dsimp only [cxK]
  have fin:∀ (H1:Hp) (x y:Int) (v:V) (d:Nat) (u:Addr),Az H H1->Odd H1 v->Lu ⟨x,y,v⟩ d->H1 u=none->∀ t,upd H1 u (.tup [.int x,.int y,v]) t=none->Q (.ref t) (upd (upd H1 u (.tup [.int x,.int y,v])) t (.tup [.ref u,.int (d:Int)])):=fun H1 x y v d u s1 ov bad hu t ht=>by
   generalize e1:upd H1 u _=H2 at ht ⊢;obtain ⟨s2,h2⟩:Az H1 H2/\H2 u=some (.tup [.int x,.int y,v]):=e1 ▸ ⟨same_up hu,Ah⟩;have s3:=same_up (o:=.tup [.ref u,.int (d:Int)]) ht;exact k t u ⟨x,y,v⟩ d _ ((s1.trans s2).trans s3) Ah (s3 _ _ h2) ((ov.same fun b xs e=>s2 _ _ e).same fun b xs e=>s3 _ _ e) bad
  refine BP ?_;intro r0 s0 k0 hk0 E0_;refine xwb rfl rfl rfl ⟨(by show (0:Int) < 3; decide),rfl,(xq1 rfl (EJ (fun _=>?_) (fun _=>?_)))⟩
  ·refine xw3 rfl rfl rfl (xq2 rfl rfl ⟨⟨by decide,by decide⟩,_,rfl,fun v H1 ov s1 sv=>⟨(by show 3<=sizeLine; decide),fun u hu=>⟨(by show 2<=sizeLine; decide),fun t ht=>?_⟩⟩⟩);exact fin H1 b b v 1 u s1 ov (.inr ⟨rfl,near_in hb,sv⟩) hu t ht
  refine hk0 ?_;refine BP ?_;intro r1 s1 k1 hk1 E1;refine xwb rfl rfl rfl ⟨⟨by decide,by decide⟩,(xq1 rfl ⟨_,_,rfl,hb,fun x y p H1 no sm hp=>?_⟩)⟩;refine hk1 ?_;refine xwb rfl rfl rfl ⟨(by show (0:Int) < 3; decide),rfl,(xq1 rfl (EJ (fun _=>?_) (fun _=>?_)))⟩
  ·refine xwi rfl rfl rfl (SqT.of hp) (Ai (j:=0) rfl) (xwi rfl rfl rfl (SqT.of hp) (Ai (j:=1) rfl) (xwb rfl rfl rfl ⟨⟨by decide,by decide⟩,xq2 rfl rfl ⟨(by show (0:Int) < 7; decide),xq2 rfl rfl ⟨(by show 3<=sizeLine; decide),fun u hu=>⟨(by show 2<=sizeLine; decide),fun t ht=>?_⟩⟩⟩⟩));exact fin H1 x y _ 0 u sm (.int _) (.inl ⟨rfl,no⟩) hu t ht
  ·refine xwi rfl rfl rfl (SqT.of hp) (Ai (j:=0) rfl) (xwi rfl rfl rfl (SqT.of hp) (Ai (j:=1) rfl) (xwb rfl rfl rfl ⟨⟨by decide,by decide⟩,_,rfl,fun v H2 ov s2 sv=>⟨(by show 3<=sizeLine; decide),fun u hu=>⟨(by show 2<=sizeLine; decide),fun t ht=>?_⟩⟩⟩));exact fin H2 x y v 0 u (sm.trans s2) ov (.inl ⟨rfl,no⟩) hu t ht
end
end J
namespace J
open PySem L2
seal L2.PA L2.PE L2.PS L2.PSs L2.PT L2.PW
def Kp (Pt:Addr) (H H':Hp):Prop:=∀ b o,b≠Pt->H b=some o->H' b=some o
theorem Tab.ne {H:Hp} {Pt b:Addr} {q:Str} {o:HO} (t:Tab H Pt q) (e:H b=some o) (n:∀ ps,o≠.tbl ps):b≠Pt:=fun z=>by
 obtain ⟨ps,h,_⟩:=t;rw [z,h] at e;cases e;exact n _ rfl
theorem Kp.fx {Pt:Addr} {q:Str} {H H':Hp} (k:Kp Pt H H') (t:Tab H Pt q):Fx [Pt] H H':=fun b o e f=>by
 by_cases z:b=Pt
 ·obtain ⟨ps,h,_⟩:=t;rw [z,h] at e;cases e;exact (f (by rw [z]; exact List.mem_singleton.mpr rfl)).elim
 ·exact k b o z e
theorem alc' {H H':Hp} {p:Addr} {o:HO} (h:H p=none) (e:upd H p o=H'):Az H H'/\H' p=some o:=e ▸ ⟨same_up h,Ah⟩
theorem AI.kind {a:Ad} {H:Hp} {g:GA} {G:Gv} (h:AI a H g G) {b:Addr} (m:b ∈ Bn g) {o:HO} (e:H b=some o):(∃ xs,o=.lst xs)\/(∃ ks,o=.dK ks)\/(∃ ks,o=.dT ks):=by
 have hlv:=h.at'.lv;obtain ⟨ts,hpt,_⟩:=h.at'.pt;have hnm:=h.at'.nm;have hbr:=h.br;obtain ⟨k1,ham,_⟩:=h.am;obtain ⟨k2,hbx,_⟩:=h.bx;simp only [Bn,List.mem_cons,List.not_mem_nil,or_false] at m;rcases m with rfl | rfl | rfl | rfl | rfl | rfl
 ·rw [hlv] at e; cases e; exact .inl ⟨_,rfl⟩
 ·rw [hpt] at e; cases e; exact .inl ⟨_,rfl⟩
 ·rw [hnm] at e; cases e; exact .inr (.inr ⟨_,rfl⟩)
 ·rw [hbr] at e; cases e; exact .inl ⟨_,rfl⟩
 ·rw [ham] at e; cases e; exact .inr (.inl ⟨_,rfl⟩)
 ·rw [hbx] at e; cases e; exact .inr (.inl ⟨_,rfl⟩)
theorem AI.out {a:Ad} {H:Hp} {g:GA} {G:Gv} (h:AI a H g G) {b:Addr} {o:HO} (e:H b=some o) (n1:∀ xs,o≠.lst xs) (n2:∀ ks,o≠.dK ks) (n3:∀ ks,o≠.dT ks):b ∉ Bn g:=fun m=>by
 rcases h.kind m e with ⟨_,z⟩ | ⟨_,z⟩ | ⟨_,z⟩
 ·exact n1 _ z
 ·exact n2 _ z
 ·exact n3 _ z
theorem AI.tab {a:Ad} {H:Hp} {g:GA} {G:Gv} {Pt:Addr} {q:Str} (h:AI a H g G) (t:Tab H Pt q):Pt ∉ Bn g:=by
 obtain ⟨ps,e,_⟩:=t;exact h.out e (by intro _ z; cases z) (by intro _ z; cases z) (by intro _ z; cases z)
theorem Kp.full {a:Ad} {Pt:Addr} {q:Str} {H H':Hp} {g:GA} {G:Gv} (k:Kp Pt H H') (t:Tab H Pt q) (h:AI a H g G):AI a H' g G:=h.fx (k.fx t) fun x hx z=>by
 rw [List.mem_singleton.mp z] at hx;exact h.tab t hx
theorem Tab.fx {a:Ad} {H H':Hp} {g:GA} {G:Gv} {Pt:Addr} {q:Str} {l:List Addr} (t:Tab H Pt q) (f:Fx l H H') (n:∀ b ∈ l,∀ o,H b=some o->(∀ ps,o≠.tbl ps)/\∀ p,o≠.ext p):Tab H' Pt q:=by
 obtain ⟨ps,e,c⟩:=t;exact ⟨ps,f.get (fun m=>(n _ m _ e).1 _ rfl) e,c.mono (fun d e=>f.get (fun m=>(n _ m _ e).2 _ rfl) e) _⟩
theorem AI.tabs {a:Ad} {H H':Hp} {g:GA} {G:Gv} {Pt:Addr} {q:Str} (h:AI a H g G) (t:Tab H Pt q) (f:Fx (Bn g) H H'):Tab H' Pt q:=Tab.fx (a:=a) (g:=g) (G:=G) t f fun b m o e=>by
 rcases h.kind m e with ⟨_,rfl⟩ | ⟨_,rfl⟩ | ⟨_,rfl⟩<;>exact ⟨(by intro _ z; cases z),by intro _ z; cases z⟩
theorem Kp.odd {Pt:Addr} {q:Str} {H H':Hp} {v:V} (k:Kp Pt H H') (t:Tab H Pt q) (h:Odd H v):Odd H' v:=h.same fun b xs e=>k _ _ (Tab.ne t e (by intro _ z; cases z)) e
theorem Fr.gx {a:Ad} {g:GA} {G:Gv} {H H':Hp} (h:Fr g H H') (fu:AI a H g G):Fx (Bn g) H H':=(h.fx fu.at').mono fun x hx=>by
 simp only [List.mem_cons,List.not_mem_nil,or_false] at hx;rcases hx with rfl | rfl | rfl<;>simp [Bn]
theorem FrQ.gx {a:Ad} {g:GA} {G:Gv} {H H':Hp} (h:FrQ g H H') (fu:AI a H g G):Fx (Bn g) H H':=(h.fx fu).mono fun x hx=>by
 simp only [List.mem_cons,List.not_mem_nil,or_false] at hx;rcases hx with rfl | rfl<;>simp [Bn]
theorem FD {X:Cx} {params:Arguments} {body:Expr} {scope:Scope} {Pt:Addr} {N:List Str} {cs:List Nat} {k:Nat} {a:Ad} {d:Nat} {σ:St} {H:Hp} {Q:VK} {tv:TE} (R:Hp->Hp->Prop) (S:AV X scope N 0 cs) (hT:Tab H Pt (Gk X))
  (go:∀ (p c:Addr) (H':Hp),LamH Pt (Gk X) (GR X params body scope) p H H'->∀ (A2:Around) (outer2:List Env) (s2:Shared) (Q':VK) (E':XK),BG k (A2.deeper (Nv X scope s2.heap.objs.size p c))->spD X.K a d (R H') Q' E'->∃ te,PE (cxL X.prog X.w X.K X.mg X.base N (Nv X scope s2.heap.objs.size p c) A2 outer2 s2 H' E') body te/\te (EW cs σ) H' Q')
  (q:∀ H1 H2 H',Kp Pt H H1->Tab H1 Pt (Gk X)->R H1 H2->Az H2 H'->Q (.bl true) H')
  (hv:∀ (H1:Hp) (Q':VK),Q' (.int (d:Int)) H1->tv σ H1 Q')
  (hfn:∀ x,X.fn x=true:=by exact fun _=>rfl) (hco:scope.isCoroutine=false:=by rfl) (hgen:scope.isGenerator=false:=by rfl) (hb:∀ c ct,bindArgs (GR X params body scope (.ref c) ct) ⟨[],[]⟩=pure []:=by exact fun _ _=>rfl) :
  MF X (Jk X.prog X.w X.K X.mg X.base a (k+1)) (GC (tLam Pt (Gk X) (GR X params body scope)) (GC tv Py)) σ H Q:=by
 refine ⟨hT,fun p H' L=>hv _ _ fun pins s1 I=>?_⟩;obtain ⟨c,ct,hp,hc⟩:=L.lam;exact ⟨p,d,R H',rfl,⟨_,hp⟩,deed_of I hfn S hco hgen hp hc (hb c ct) (go p c H' L),fun H1 H2 r s=>q H' H1 H2 L.st L.tab r s⟩
section
variable {P:Program} {w:World} {K:PySem.W.Frag} {mg:Str->Option Value} {base:Heap} {a:Ad}
abbrev qLv:Str:="_law_levels" ++ ".<locals>." ++ "<lambda>"
inductive SpLvs (a:Ad) (Pt:Addr) (vs:List V) (H:Hp) (Q:VK):Prop
 | mk (g:GA) (G:Gv) (f n:Nat) (c:Int) (_:vs=[.ref g.p,.int f,.int c]) (_:AI a H g G) (_:Aj G f ((n+1:Nat):Int)) (_:n<=40) (_:FZ G n f) (_:G.length < 7000000) (_:Tab H Pt qLv) (_:∀ H',Q (.bl true) H'):SpLvs a Pt vs H Q
def PM (a:Ad) (Pt:Addr):Sp:=fun vs H Q _=>SpLvs a Pt vs H Q
theorem pick6 {K:PySem.W.Frag} {H:Hp} {q:Addr} {x y z u t r:V} {i:Int} {Q:VK} (h:H q=some (.lst [x,y,z,u,t,r])) (h0:0<=i) (h1:i < 6) (k:∀ v ∈ [x,y,z,u,t,r],Q v H):rIxL K (.ref q) (.int i) H Q:=by
 have:i=0\/i=1\/i=2\/i=3\/i=4\/i=5:=by lia
 rcases this with rfl | rfl | rfl | rfl | rfl | rfl
 ·exact xq4 rfl rfl (SqL.of h) (Ai (j:=0) rfl) (k _ (by simp))
 ·exact xq4 rfl rfl (SqL.of h) (Ai (j:=1) rfl) (k _ (by simp))
 ·exact xq4 rfl rfl (SqL.of h) (Ai (j:=2) rfl) (k _ (by simp))
 ·exact xq4 rfl rfl (SqL.of h) (Ai (j:=3) rfl) (k _ (by simp))
 ·exact xq4 rfl rfl (SqL.of h) (Ai (j:=4) rfl) (k _ (by simp))
 ·exact xq4 rfl rfl (SqL.of h) (Ai (j:=5) rfl) (k _ (by simp))
theorem pow9:((10:Int) ^ (9:Int).toNat)=1000000000:=by decide
theorem ok_lvs {f c Pt:Addr} {fd:FuncData} (F:Fun K "_law_levels" "_law_levels" AX f fd) (T:Top K mg a) (hfd:fd.code=.ref c) (hC:PySem.W.CodeHd base c Pt) (hB:Blt mg base) (R__law_refused:Rr P w K mg base 58 "_law_refused" BC (Jk P w K mg base a 57)) (aH:Ch P w K mg base CX0 3 a.c_Grove "leaf" Ce (Ih a)) (aM:Ch P w K mg base CX0 4 a.c_Grove "solid" Cp (GW a)) (aU:Cal P w K mg base CX0 4 "trimmed" Cn (Ig a)) (E_widened:Cal P w K mg base (CXE P w) 4 "widened" Db (PD a)) (E_trimmed:Cal P w K mg base (CXE P w) 4 "trimmed" Cn (PF a)):AW P w K mg base CX0 59 f fd CN (PM a Pt):=by
 refine F.okC Bc (fun vs H Q E h=>?_) (fun cdv A outer s H vs Q E hcd hr h=>?_)
 ·obtain ⟨g,G,fl,n,c,rfl,_⟩:=h;rfl
 ·obtain ⟨g,G,fl,n,cl,rfl,fu,lf,n40,tr,few,tb,k⟩:=h;have hcd:cdv=.ref c:=hcd.symm.trans hfd;refine ⟨_,(Ac (Ar (i:=3) Bc.nd rfl (Or.inl rfl) (Ay (pv 0) aH (rm hr) Al (Bh AT (pv 2) Af Ab))) (Ac (Ar (i:=4) Bc.nd rfl (Or.inl rfl) (Ay (pv 0) aM (rm hr) Al (AH (Bh AT (pv 2) Af Ab)))) (Ac (Ar (i:=5) Bc.nd rfl (Or.inl rfl) (Aw AF (Di (Aa (Ft Ej Af) (Bh EI Af Af (Aa DF (Aa JT (EH (Bh Bo (As EI Af Af) (As AT (pv 2) (As EI Af Af)) Ab))))))) (As AT (pv 2) Af) (fun _ _=>rfl))) (Ac (Dx PassesOwn.never rfl (Fk (Di (Bk (Aa (pv 3) (AH Ab)) (Bk (Aa (pv 4) (AH Ab)) (Bk (Aa (pv 5) (AH Ab)) Ab))))) (EY rfl (Bd (AY (i:=6) Bc.nd rfl (Or.inr rfl)) (Bd (AY (i:=7) Bc.nd rfl (Or.inl rfl)) Ee))) (Ag (AO (BM (BV (EE R__law_refused (rm hr) rfl (Aa (FG (AV.of (So:=Ae AX) (No:=CO) (N:=["_law_grove","_law_square"]) (k:=0) (cs:=[0,6]) rfl rfl (by decide +kernel)) hcd hC hB) (Aa (pv 7) Ab))))) (Ag (Aq DF)) At))) (Ac (Dx PassesOwn.never rfl (Fk (Di (Bk (Aa (pv 3) (AH Ab)) (Bk (Aa (pv 5) (AH Ab)) Ab)))) (EY rfl (Bd (AY (i:=6) Bc.nd rfl (Or.inr rfl)) (Bd (AY (i:=7) Bc.nd rfl (Or.inl rfl)) Ee))) (Ag (AO (BM (BV (EE R__law_refused (rm hr) rfl (Aa (FG (AV.of (So:=Ae AX) (No:=CO) (N:=["_law_grove","_law_square"]) (k:=0) (cs:=[0,6]) rfl rfl (by decide +kernel)) hcd hC hB) (Aa (pv 7) Ab))))) (Ag (Aq DF)) At))) (Ag (Aq (Ef DH (Am aU (rm hr) rfl Al (Aa (pv 0) (Aa (pv 1) Ab))) (pv 1) (AE _))))))))),?_⟩
  try dsimp only [cxK]
  obtain ⟨st,hst⟩:=Int.eq_ofNat_of_zero_le (show 0<=cl % 8 by lia);have st8:st < 8:=by lia
  refine BP ?_;intro r1 s1 k1 hk1 E1;refine xwm rfl rfl fu.at'.hp (JY g) (xwb rfl rfl rfl ⟨(by show (0:Int) < 8; decide),g.p,cl % 8,rfl,by lia,by lia,?_⟩);show k1 [some (.ref g.p),some (.int fl),some (.int cl),some (.int (cl % 8)),none,none,none,none] H;rw [hst];refine hk1 ?_;refine BP ?_;intro r2 s2 k2 hk2 E2;refine xwm rfl rfl fu.at'.hp (Iq g) (xwb rfl rfl rfl ⟨(by show (0:Int) < 8; decide),g,G,48,st,congrArg (fun z=>[V.ref g.p,V.int 48,V.int z]) hst,fu.at',fu.ok,Nat.le_refl _,st8,by lia,fun hi G1 H1 fr1 at1 go1 so1=>?_⟩);have fu1:=fu.fr fr1 at1 go1;have tb1:=fu.tabs tb (fr1.gx fu);have lf1:=go1.lev lf;have tr1:=tr.app go1;have gf1:=go1.few;have lhi:Aj G1 hi 48:=Sol.lev fu1.ok st8 so1;have lle:Aj G1 st 0:=Sol.lev (l:=0) fu1.ok st8 rfl;clear fr1 at1 go1 so1 tb lf tr fu;refine hk2 ?_;refine BP ?_;intro r3 s3 k3 hk3 E3;refine xwb rfl rfl rfl ⟨⟨by decide,by decide,by decide⟩,(xq2 rfl rfl ⟨⟨by decide,by decide,by decide⟩,(xwb rfl rfl rfl ⟨⟨by decide,by decide,by decide⟩,(xq2 rfl rfl ⟨(by show (0:Int) < 10 ^ (30:Int).toNat; decide),(xq2 rfl rfl ⟨(by show 6<=sizeLine; decide),fun q hq=>?_⟩)⟩)⟩)⟩)⟩;generalize e4:upd H1 q _=H2;obtain ⟨sm2,h2⟩:=alc' hq e4;refine xwb rfl rfl rfl ⟨(by show (0:Int) < 6; decide),pick6 h2 (Int.emod_nonneg _ (by decide)) (Int.emod_lt_of_pos _ (by decide)) fun v hv=>?_⟩;have ov:Odd H2 v/\IR G1 v:=by
   simp only [List.mem_cons,List.not_mem_nil,or_false] at hv;rcases hv with rfl | rfl | rfl | rfl | rfl | rfl
   ·exact ⟨.int _,fun i e=>by injection e with e; lia⟩
   ·refine ⟨.int _,fun i e=>?_⟩;injection e with e
    rw [pow9] at e;lia
   ·exact ⟨.bl _,fun i e=>by cases e⟩
   ·exact ⟨.non,fun i e=>by cases e⟩
   ·exact ⟨.str _,fun i e=>by cases e⟩
   ·refine ⟨.int _,fun i e=>?_⟩;injection e with e
    rw [pow9,NT] at e;lia
  have fu2:=fu1.same sm2;have tb2:=tb1.same sm2;clear hv h2 e4 hq tb1 fu1;show k3 [some (.ref g.p),some (.int fl),some (.int cl),some (.int st),some (.int hi),some v,none,none] H2;refine hk3 ?_;refine BP ?_;intro r4 s4 k4 hk4 E4;refine xq1 rfl ⟨(by show 2<=sizeLine; decide),fun t1 ht1=>?_⟩;show ∃ _,_;generalize e1:upd H2 t1 _=Ha1;obtain ⟨sa1,ha1⟩:=alc' ht1 e1;refine xq1 rfl ⟨(by show 2<=sizeLine; decide),fun t2 ht2=>?_⟩;show ∃ _,_;generalize e2:upd Ha1 t2 _=Ha2;obtain ⟨sa2,ha2⟩:=alc' ht2 e2;refine xq1 rfl ⟨(by show 2<=sizeLine; decide),fun t3 ht3=>?_⟩;show _/\_;generalize e3:upd Ha2 t3 _=Ha3;obtain ⟨sa3,ha3⟩:=alc' ht3 e3;refine ⟨(by show 3<=sizeLine; decide),fun LL hLL=>?_⟩;generalize e5:upd Ha3 LL _=Ha4;obtain ⟨sa4,ha4⟩:=alc' hLL e5;have h14:=sa4 _ _ (sa3 _ _ (sa2 _ _ ha1));have h24:=sa4 _ _ (sa3 _ _ ha2);have h34:=sa4 _ _ ha3;have s24:=((sa1.trans sa2).trans sa3).trans sa4;have fu4:=fu2.same s24;have tb4:=tb2.same s24;have ov4:Odd Ha4 v:=ov.1.same fun b xs e=>s24 _ _ e;have nv:=ov.2;clear sa1 sa2 sa3 sa4 ha1 ha2 ha3 e1 e2 e3 e5 ht1 ht2 ht3 hLL s24 ov fu2 tb2 sm2;refine ⟨LL,rfl,⟨_,SqL.of ha4⟩,?_⟩;have kpt:∀ {Hz:Hp} {b:Addr} {xs:List V},Kp Pt Ha4 Hz->Ha4 b=some (.tup xs)->Hz b=some (.tup xs):=fun kp e=>kp _ _ (Tab.ne tb4 e (by intro _ z; cases z)) e;refine FY (xs:=[.ref t1,.ref t2,.ref t3]) (fun i σ Hz=>Kp Pt Ha4 Hz/\Tab Hz Pt qLv/\∃ u6 u7,σ=[some (.ref g.p),some (.int fl),some (.int cl),some (.int st),some (.int hi),some v,u6,u7]) ⟨fun _ _ _ e=>e,tb4,none,none,rfl⟩ (fun i σ Hz _ z=>SqL.of (z.1 _ _ (Tab.ne tb4 ha4 (by intro _ z; cases z)) ha4)) ?_ ?_
  ·rintro i x σ Hz ev ⟨kp,tz,u6,u7,rfl⟩;have i3:i < 3:=(List.getElem?_eq_some_iff.mp ev).1;obtain ⟨t,sq,d,rfl,ht,osq,due⟩:∃ (t:Addr) (sq:V) (d:Nat),x=.ref t/\Hz t=some (.tup [sq,.int (d:Int)])/\Odd Hz sq/\((d=3/\IR G1 sq)\/(d=4/\∃ (j:Nat) (l:Int),sq=.int j/\Aj G1 j l/\lvW l)):=by
    match i,i3,ev with
    | 0,_,ev =>
     cases ev;exact ⟨t1,.int st,4,rfl,kpt kp h14,.int _,.inr ⟨rfl,st,0,rfl,lle,.inl rfl⟩⟩
    | 1,_,ev =>
     cases ev;exact ⟨t2,.int hi,4,rfl,kpt kp h24,.int _,.inr ⟨rfl,hi,48,rfl,lhi,.inr rfl⟩⟩
    | 2,_,ev =>
     cases ev;exact ⟨t3,v,3,rfl,kpt kp h34,kp.odd tb4 ov4,.inl ⟨rfl,nv⟩⟩
   refine IF ht ?_;refine FD (d:=d) (fun A B=>Az A B) (AV.of (So:=Ae AX) (No:=CO) (N:=["_law_grove","_law_square"]) (k:=0) (cs:=[0,6]) rfl rfl (by decide +kernel)) tz (fun p' c' H5 LH A2 outer2 s2 Q' E' hr hd=>⟨_,(Am E_widened (rm hr) rfl (Io rfl) (Aa (pv 0) (Aa (pv 1) Ab))),?_⟩) (fun H5 H6 H7 kp5 tb5 r6 s7=>?_) (fun H1 Q' h=>(xq1 rfl h))
   ·have kp5:Kp Pt Hz H5:=LH.st;have fz:=kp.full tb4 fu4;refine xw2 rfl rfl ⟨g,G1,sq,rfl,(kp5.full tz fz).at',kp5.odd tz osq,?_⟩;rcases due with ⟨rfl,no⟩ | ⟨rfl,j,l,e1,e2,e3⟩
    ·exact .inl ⟨no,hd _ _ (QH T) (Az.refl _)⟩
    ·exact .inr ⟨j,l,e1,e2,e3,hd _ _ (QI T) (Az.refl _)⟩
   ·refine ⟨true,rfl,Bv ?_⟩;exact ⟨fun b o n e=>(r6.trans s7) _ _ (kp5 b o n (kp b o n e)),tb5.same (r6.trans s7),_,_,rfl⟩
  rintro σ Hz ⟨kp,tz,u6,u7,rfl⟩;refine hk4 ?_;have fuz:=kp.full tb4 fu4;have ovz:=kp.odd tb4 ov4;clear ha4 h14 h24 h34 kpt kp fu4 tb4 ov4;refine BP ?_;intro r5 s5 k5 hk5 E5;refine xq1 rfl ⟨(by show 2<=sizeLine; decide),fun t1 ht1=>?_⟩;show ∃ _,_;generalize e1:upd Hz t1 _=Ha1;obtain ⟨sa1,ha1⟩:=alc' ht1 e1;refine xq1 rfl ⟨(by show 2<=sizeLine; decide),fun t2 ht2=>?_⟩;show _/\_;generalize e2:upd Ha1 t2 _=Ha2;obtain ⟨sa2,ha2⟩:=alc' ht2 e2;refine ⟨(by show 2<=sizeLine; decide),fun LL hLL=>?_⟩;generalize e5:upd Ha2 LL _=Ha4;obtain ⟨sa4,ha4⟩:=alc' hLL e5;have h14:=sa4 _ _ (sa2 _ _ ha1);have h24:=sa4 _ _ ha2;have s24:=(sa1.trans sa2).trans sa4;have fu4:=fuz.same s24;have tb4:=tz.same s24;have ov4:Odd Ha4 v:=ovz.same fun b xs e=>s24 _ _ e;clear sa1 sa2 sa4 ha1 ha2 e1 e2 e5 ht1 ht2 hLL s24 fuz tz ovz;refine ⟨LL,rfl,⟨_,SqL.of ha4⟩,?_⟩;have kpt:∀ {Hz:Hp} {b:Addr} {xs:List V},Kp Pt Ha4 Hz->Ha4 b=some (.tup xs)->Hz b=some (.tup xs):=fun kp e=>kp _ _ (Tab.ne tb4 e (by intro _ z; cases z)) e;refine FY (xs:=[.ref t1,.ref t2]) (fun i σ Hz=>Kp Pt Ha4 Hz/\Tab Hz Pt qLv/\∃ u6 u7,σ=[some (.ref g.p),some (.int fl),some (.int cl),some (.int st),some (.int hi),some v,u6,u7]) ⟨fun _ _ _ e=>e,tb4,_,_,rfl⟩ (fun i σ Hz _ z=>SqL.of (z.1 _ _ (Tab.ne tb4 ha4 (by intro _ z; cases z)) ha4)) ?_ ?_
  ·rintro i x σ Hz ev ⟨kp,tz,u6,u7,rfl⟩;have i3:i < 2:=(List.getElem?_eq_some_iff.mp ev).1;obtain ⟨t,sq,d,rfl,ht,osq,due⟩:∃ (t:Addr) (sq:V) (d:Nat),x=.ref t/\Hz t=some (.tup [sq,.int (d:Int)])/\Odd Hz sq/\((d=3/\IR G1 sq)\/(d=4/\∃ (j:Nat) (l:Int),sq=.int j/\Aj G1 j l/\lvT l)):=by
    match i,i3,ev with
    | 0,_,ev =>
     cases ev;exact ⟨t1,.int st,4,rfl,kpt kp h14,.int _,.inr ⟨rfl,st,0,rfl,lle,rfl⟩⟩
    | 1,_,ev =>
     cases ev;exact ⟨t2,v,3,rfl,kpt kp h24,kp.odd tb4 ov4,.inl ⟨rfl,nv⟩⟩
   refine IF ht ?_;refine FD (d:=d) (fun A B=>Az A B) (AV.of (So:=Ae AX) (No:=CO) (N:=["_law_grove","_law_square"]) (k:=0) (cs:=[0,6]) rfl rfl (by decide +kernel)) tz (fun p' c' H5 LH A2 outer2 s2 Q' E' hr hd=>⟨_,(Am E_trimmed (rm hr) rfl (Io rfl) (Aa (pv 0) (Aa (pv 1) Ab))),?_⟩) (fun H5 H6 H7 kp5 tb5 r6 s7=>?_) (fun H1 Q' h=>(xq1 rfl h))
   ·have kp5:Kp Pt Hz H5:=LH.st;have fz:=kp.full tb4 fu4;refine xw2 rfl rfl ⟨g,G1,sq,rfl,(kp5.full tz fz).at',kp5.odd tz osq,?_⟩;rcases due with ⟨rfl,no⟩ | ⟨rfl,j,l,e1,e2,e3⟩
    ·exact .inl ⟨no,hd _ _ (QH T) (Az.refl _)⟩
    ·exact .inr ⟨j,l,e1,e2,e3,hd _ _ (QI T) (Az.refl _)⟩
   ·refine ⟨true,rfl,Bv ?_⟩;exact ⟨fun b o n e=>(r6.trans s7) _ _ (kp5 b o n (kp b o n e)),tb5.same (r6.trans s7),_,_,rfl⟩
  rintro σ Hz ⟨kp,tz,u6,u7,rfl⟩;refine hk5 ?_;refine xw2 rfl rfl ⟨g,G1,fl,n,rfl,kp.full tb4 fu4,lf1,by lia,fun r G' H' fr' fu' go' tr'=>?_⟩;have e:=(tr1.app go').stays tr';subst e;refine xq1 rfl ⟨rfl,?_⟩;rw [decide_eq_true rfl];exact k _
end
end J
namespace J
open PySem L2
def ByC (es:List Cl):Prop:=es.Pairwise fun p q=>BO [q.y,q.x] [p.y,p.x]=false
structure Drn (H:Hp) (L:Addr) (ts:List Addr) (cs:List Cl) (n:Nat):Prop where
 hL:H L=some (.lst (ts.map V.ref))
 pr:Paired (Ls H) ts cs
 ok:∀ c ∈ cs,Rq c
 len:cs.length<=n
theorem Drn.tl {H:Hp} {L:Addr} {ts:List Addr} {cs:List Cl} {n:Nat} (h:Drn H L ts cs n):ts.length=cs.length:=Paired.length h.pr
theorem Drn.same {H H':Hp} {L:Addr} {ts:List Addr} {cs:List Cl} {n:Nat} (h:Drn H L ts cs n) (s:Az H H'):Drn H' L ts cs n:=⟨s _ _ h.hL,PairedM.imp (fun t c z=>s _ _ z) h.pr,h.ok,h.len⟩
theorem Drn.add {H:Hp} {L t:Addr} {ts:List Addr} {cs:List Cl} {n:Nat} {c:Cl} (h:Drn H L ts cs n) (ht:Ls H t c) (ok:Rq c):Drn (upd H L (.lst (ts.map V.ref ++ [.ref t]))) L (ts ++ [t]) (cs ++ [c]) (n+1):=by
 have tp:∀ {b:Addr} {ys:List V},H b=some (.tup ys)->upd H L (.lst (ts.map V.ref ++ [.ref t])) b=some (.tup ys):=fun {b ys} e=>by rw [Ak (Bb e h.hL (by intro z; cases z))]; exact e
 refine ⟨by rw [Ah,List.map_append]; rfl,Paired.snoc (PairedM.imp (fun b c z=>tp z) h.pr) (show Ls _ t c from tp ht),fun d hd=>?_,by rw [List.length_append]; have:=h.len; show cs.length+1<=n+1; lia⟩;rcases List.mem_append.mp hd with hd | hd
 ·exact h.ok d hd
 ·rw [List.mem_singleton.mp hd];exact ok
theorem Drn.mono {H:Hp} {L:Addr} {ts:List Addr} {cs:List Cl} {n m:Nat} (h:Drn H L ts cs n) (l:n<=m):Drn H L ts cs m:=⟨h.hL,h.pr,h.ok,Nat.le_trans h.len l⟩
theorem NE {H H1:Hp} {L:Addr} {o:HO} (n:H L=none) (s:Az H H1):Az H (upd H1 L o):=fun b u e=>by
 rw [Ak (An e n)];exact s _ _ e
def frA (g:GA):List Addr:=[g.lv,g.pt,g.nm,g.am,g.bx]
theorem Drn.fx {H H':Hp} {L:Addr} {ts:List Addr} {cs:List Cl} {n:Nat} {l:List Addr} (h:Drn H L ts cs n) (x:Fx l H H') (no:L ∉ l):Drn H' L ts cs n:=⟨x.get no h.hL,PairedM.imp (fun t c z=>x.tup z) h.pr,h.ok,h.len⟩
theorem Oo {H:Hp}:∀ {out:List It3} {es:List Cl},out.map Qb=es.map IW->(∀ q ∈ out,H q.a=some (.tup (q.ns.map V.int)))->Paired (Ls H) (out.map (·.a)) es
 | [],[],_,_=>.nil
 | [],_ :: _,e,_=>by cases e
 | _ :: _,[],e,_=>by cases e
 | q :: out,c :: es,e,h=>by
  rw [List.map_cons,List.map_cons] at e;injection e with e1 e2
  refine .cons ?_ (Oo e2 fun p hp=>h p (List.mem_cons_of_mem _ hp));have hq:=h q (List.mem_cons_self ..);have e1:q.y :: q.x :: q.r=[c.y,c.x,(c.s:Int)]:=e1;injection e1 with y1 e1
  injection e1 with x1 r1
  have:q.ns=[c.x,c.y,(c.s:Int)]:=by
   show q.x :: q.y :: q.r=_;rw [y1,x1,r1]
  rw [this] at hq;exact hq
def itC (c:Cl):It3:=⟨0,c.x,c.y,[(c.s:Int)]⟩
theorem by_rows {es:List Cl} (h:ByC es) (nd:(es.map fun c=>(c.x,c.y)).Nodup):(es.map IW).Pairwise (fun p q=>BO q p=false):=by
 have:=NF (out:=es.map itC) (List.pairwise_map.mpr h) (by rw [List.map_map]; exact nd);rw [List.map_map] at this;exact this
theorem LI {G:Gv} (ok:GOk G) {s:Nat} (hs:s < 8):∀ {l n:Nat},Sol G s l n->∀ {x y:Nat},x < 2 ^ l->y < 2 ^ l->cellF G l n x y=s
 | 0,n,h,x,y,_,_=>h
 | l+1,n,h,x,y,hx,hy=>by
  obtain ⟨q,m,nd,sm⟩:=Sol.node ok hs h;rw [Bw nd hx hy];have e:f4 m m m m (quad l x y)=m:=by
   unfold f4;split<;>rfl
  rw [e];exact LI ok hs sm (Nat.mod_lt _ (BE l)) (Nat.mod_lt _ (BE l))
def phi (s:Nat) (u v:Int):Nat:=if (-32<=u/\u < 32)/\(-32<=v/\v < 32) then s else 0
def Qe (φ:Int->Int->Nat) (X Y:Int) (t:Nat) (u v:Int):Nat:=if u=X/\v=Y then t else φ u v
def sqL (s:Nat):List Cl:=(List.range 4096).map fun k=>⟨((k % 64:Nat):Int) - 32,((k / 64:Nat):Int) - 32,s⟩
theorem JJ (s:Nat):(sqL s).length=4096:=by
 unfold sqL;rw [List.length_map,List.length_range]
theorem sqL_get {s k:Nat} (h:k < 4096):(sqL s)[k]?=some ⟨((k % 64:Nat):Int) - 32,((k / 64:Nat):Int) - 32,s⟩:=by
 unfold sqL;rw [List.getElem?_map,List.getElem?_range h];rfl
theorem sqL_nd (s:Nat):((sqL s).map fun c=>(c.x,c.y)).Nodup:=by
 unfold sqL;rw [List.map_map,List.nodup_iff_pairwise_ne,List.pairwise_map];refine List.pairwise_lt_range.imp fun {i j} h e=>?_;have e:((((i % 64:Nat):Int) - 32,((i / 64:Nat):Int) - 32):Int×Int)=(((j % 64:Nat):Int) - 32,((j / 64:Nat):Int) - 32):=e;injection e with e1 e2
 lia
theorem sqL_by (s:Nat):ByC (sqL s):=by
 unfold ByC sqL;rw [List.pairwise_map];refine List.pairwise_lt_range.imp fun {i j} h=>?_;show (if ((j / 64:Nat):Int) - 32=((i / 64:Nat):Int) - 32 then (if ((j % 64:Nat):Int) - 32=((i % 64:Nat):Int) - 32 then BO [] [] else decide (((j % 64:Nat):Int) - 32 < ((i % 64:Nat):Int) - 32)) else decide (((j / 64:Nat):Int) - 32 < ((i / 64:Nat):Int) - 32))=false;split
 ·split
  ·rfl
  ·exact decide_eq_false (by lia)
 ·exact decide_eq_false (by lia)
theorem PB {s:Nat} (h1:1<=s):Rp (sqL s) (phi s):=by
 refine ⟨sqL_nd s,fun c=>⟨fun hc=>?_,fun ⟨hc,e⟩=>?_⟩⟩
 ·unfold sqL at hc;obtain ⟨k,hk,rfl⟩:=List.mem_map.mp hc;have hk:=List.mem_range.mp hk;refine ⟨h1,?_⟩;show phi s (((k % 64:Nat):Int) - 32) (((k / 64:Nat):Int) - 32)=s;unfold phi;rw [if_pos ⟨⟨by lia,by lia⟩,by lia,by lia⟩]
 ·unfold phi at e;split at e
  ·rename_i z;refine List.mem_map.mpr ⟨((c.x+32)+64 * (c.y+32)).toNat,List.mem_range.mpr (by lia),?_⟩;cases c with
   | mk x y t =>
    have e:s=t:=e;subst e;have z:(-32<=x/\x < 32)/\(-32<=y/\y < 32):=z;congr 1
    ·show ((((x+32)+64 * (y+32)).toNat % 64:Nat):Int) - 32=x;lia
    ·show ((((x+32)+64 * (y+32)).toNat / 64:Nat):Int) - 32=y;lia
  ·lia
theorem put_ok {ds:List Cl} {φ:Int->Int->Nat} {X Y:Int} {t:Nat} (h:Rp ds φ) (z:φ X Y=0) (t1:1<=t):Rp (ds ++ [⟨X,Y,t⟩]) (Qe φ X Y t):=by
 have no:∀ c ∈ ds,¬ (c.x=X/\c.y=Y):=fun c hc q=>by
  obtain ⟨h1,h2⟩:=(h.mem c).mp hc;rw [q.1,q.2,z] at h2;lia
 refine ⟨?_,fun c=>?_⟩
 ·rw [List.map_append];refine List.nodup_append.mpr ⟨h.nd,by simp,fun p hp q hq e=>?_⟩;obtain ⟨c,hc,rfl⟩:=List.mem_map.mp hp;have hq:q=(X,Y):=by simpa using hq
  rw [hq] at e;injection e with e1 e2
  exact no c hc ⟨e1,e2⟩
 ·unfold Qe;rw [List.mem_append,List.mem_singleton];constructor
  ·rintro (hc | rfl)
   ·rw [if_neg (no c hc)];exact (h.mem c).mp hc
   ·refine ⟨t1,?_⟩;show (if X=X/\Y=Y then t else φ X Y)=t;rw [if_pos ⟨rfl,rfl⟩]
  ·rintro ⟨c1,e⟩;by_cases q:c.x=X/\c.y=Y
   ·rw [if_pos q] at e
    right
    cases c;cases q.1;cases q.2;cases e;rfl
   ·rw [if_neg q] at e;exact .inl ((h.mem c).mpr ⟨c1,e⟩)
theorem sol_vf {G:Gv} (ok:GOk G) {s n:Nat} (hs:s < 8) (h:Sol G s 6 n) (u v:Int):fieldF G 5 n u v=phi s u v:=by
 unfold fieldF phi;rw [show ((2:Int) ^ 5)=32 by decide];by_cases z:(-32<=u/\u < 32)/\(-32<=v/\v < 32)
 ·rw [if_pos z,if_pos ⟨z.1.1,z.1.2,z.2.1,z.2.2⟩];exact LI ok hs h (by rw [show 2 ^ 6=64 by decide]; lia) (by rw [show 2 ^ 6=64 by decide]; lia)
 ·rw [if_neg z,if_neg fun q=>z ⟨⟨q.1,q.2.1⟩,q.2.2.1,q.2.2.2⟩]
theorem LQ {G r0:Gv} (e0:G=G0 ++ r0) (ok:GOk G) {n f s r k w i:Nat} {X Y:Int} {φ:Int->Int->Nat} (hs:s < 8) (h:Ei G n f X Y s r k w i) (e:∀ u v,fieldF G n f u v=φ u v):Vf G r (Qe φ X Y s):=by
 obtain ⟨m,m40,lm,tm,fm⟩:=GH e0 ok hs h;exact ⟨m,m40,lm,tm,fun u v=>by rw [fm,e]; rfl⟩
section
variable {P:Program} {w:World} {K:PySem.W.Frag} {mg:Str->Option Value} {base:Heap} {a:Ad}
theorem QS {g:GA} {G:Gv} {H:Hp} {Q:VK} {L:Addr} {ts:List Addr} {cs:List Cl} (fu:AI a H g G) (d:Drn H L ts cs 84) (ap:Ap g L) (few:G.length < 6000000) (k:∀ (r:Nat) (G':Gv) (H':Hp),Fx (frA g) H H'->AI a H' g G'->AN G G' 40000->Vf G' r (stC cs.reverse)->Q (.int r) H'):Rk a [.ref g.p,.ref L] H Q:=by
 have lc:=d.len;refine ⟨g,G,L,ts,cs,rfl,fu,d.hL,ap.1,ap.2.1,d.pr,d.ok,by lia,fun f1 n1 G13 H13 fr13 fu13 go13 n140 lf13 fl13=>?_⟩;obtain ⟨r13,e13⟩:=fu13.g0;obtain ⟨tr13,ef13⟩:=Pf e13 fu13.ok fl13 (fun c hc=>(d.ok c (List.mem_reverse.mp hc)).s);exact k f1 G13 H13 ((fr13.fx fu.at').mono (by simp [frA])) fu13 (go13.mono (by lia)) ⟨n1,n140,lf13,tr13,ef13⟩
theorem co_at {g:GA} {G:Gv} {H:Hp} {Q:VK} {f:Nat} {es:List Cl} {φ:Int->Int->Nat} (fu:AI a H g G) (v:Vf G f φ) (dk:Rp es φ) (bc:ByC es) (l84:es.length<=4096) (few:G.length < 9000000) (k:∀ (L:Addr) (ts:List Addr) (H':Hp),Fx (frA g) H H'->AI a H' g G->H L=none->H' L=some (.lst (ts.map V.ref))->Paired (Ls H') ts es->Q (.ref L) H'):SpCo a [.ref g.p,.int f] H Q:=by
 obtain ⟨n,n40,lf,tr,e⟩:=v.ex;have o:Of G n f es:=⟨dk.nd,fun c=>by rw [e]; exact dk.mem c⟩
 refine ⟨g,G,f,n,rfl,fu,lf,by lia,few,by rw [o.cnt fu.ok lf]; lia,fun L out H' x fu' nL hL ho pm ru=>?_⟩;have pm2:=pm.trans (o.perm fu.ok lf);have nd:(out.map fun q=>(q.x,q.y)).Nodup:=by
  have p3:=pm2.map fun r=>(r.getD 1 0,r.getD 0 0)
  rw [List.map_map,List.map_map] at p3;exact p3.nodup_iff.mpr dk.nd
 have eq:=LK (NF ru nd) (by_rows bc dk.nd) pm2;refine k L (out.map (·.a)) H' (x.mono (by simp [frL,frA])) fu' nL ?_ (Oo eq ho);rw [List.map_map];exact hL
end
end J
namespace J
open PySem L2
seal L2.PA L2.PE L2.PS L2.PSs L2.PT L2.PW
def ScX (K:PySem.W.Frag) (g:GA) (l:Addr) (xs:List V) (H:Hp):Prop:=(l ∉ Bn g/\Rd H l (.lst xs))\/∀ H,SqL K H l xs
theorem ScX.seq {K:PySem.W.Frag} {g:GA} {l:Addr} {xs:List V} {H:Hp} (h:ScX K g l xs H):SqL K H l xs:=by
 rcases h with ⟨_,h⟩ | h
 ·exact .inl h
 ·exact h H
theorem ScX.fx {K:PySem.W.Frag} {g:GA} {l:Addr} {xs:List V} {H H':Hp} (h:ScX K g l xs H) (f:Fx (Bn g) H H'):ScX K g l xs H':=by
 rcases h with ⟨n,h⟩ | h
 ·rcases h with h | ⟨o,h⟩
  ·exact .inl ⟨n,.inl (f.get n h)⟩
  ·exact .inl ⟨n,.inr ⟨o,f.get n h⟩⟩
 ·exact .inr h
theorem ScX.kp {K:PySem.W.Frag} {g:GA} {l Pt:Addr} {q:Str} {xs:List V} {H H':Hp} (h:ScX K g l xs H) (k:Kp Pt H H') (t:Tab H Pt q):ScX K g l xs H':=by
 rcases h with ⟨n,h⟩ | h
 ·rcases h with h | ⟨o,h⟩
  ·exact .inl ⟨n,.inl (k _ _ (Tab.ne t h (by intro _ z; cases z)) h)⟩
  ·exact .inl ⟨n,.inr ⟨o,k _ _ (Tab.ne t h (by intro _ z; cases z)) h⟩⟩
 ·exact .inr h
theorem kit_ll (K:PySem.W.Frag):PySem.W.kitOne K (.type "list") (.type "list")=some true:=by kernel_rfl
abbrev qMa:Str:="_law_many" ++ ".<locals>." ++ "<lambda>"
theorem four_lt {L:Nat} (h:7<=L):(4096:Int) < 2 ^ L * 2 ^ L:=by
 have e:(2:Int) ^ 7<=2 ^ L:=by
  obtain ⟨k,rfl⟩:=Nat.exists_eq_add_of_le h;rw [Int.pow_add];have:(1:Int)<=2 ^ k:=Int.pow_pos (by decide);have:=Int.mul_le_mul_of_nonneg_left this (show (0:Int)<=2 ^ 7 by decide);lia
 have e7:(2:Int) ^ 7=128:=by decide
 rw [e7] at e;have:=Int.mul_le_mul e e (by decide) (by lia);lia
section
variable {P:Program} {w:World} {K:PySem.W.Frag} {mg:Str->Option Value} {base:Heap} {a:Ad}
inductive SpMa (K:PySem.W.Frag) (a:Ad) (Pt:Addr) (vs:List V) (H:Hp) (Q:VK):Prop
 | mk (g:GA) (G:Gv) (l:Addr) (ns:List Int) (_:vs=[.ref g.p,.ref l]) (_:AI a H g G) (_:ScX K g l (ns.map V.int) H) (_:G.length < 5000000) (_:Tab H Pt qMa) (_:∀ G' H',Fx (Pt :: Bn g) H H'->AI a H' g G'->AN G G' 3000->Q (.bl true) H'):SpMa K a Pt vs H Q
def spMa (K:PySem.W.Frag) (a:Ad) (Pt:Addr):Sp:=fun vs H Q _=>SpMa K a Pt vs H Q
theorem ok_ma {f c Pt:Addr} {fd:FuncData} (F:Fun K "_law_many" "_law_many" Bp f fd) (T:Top K mg a) (hfd:fd.code=.ref c) (hC:PySem.W.CodeHd base c Pt) (hB:Blt mg base) (R__law_refused:Rr P w K mg base 58 "_law_refused" BC (Jk P w K mg base a 57)) (aD:Cal P w K mg base CX0 1 "_law_at" DP (spAt K)) (aM:Ch P w K mg base CX0 4 a.c_Grove "solid" Cp (GW a)) (aG:Ch P w K mg base CX0 51 a.c_Grove "living" BD (LD a)) (aV:Cal P w K mg base CX0 55 "planted" Co (GX a)) (bA:Cal P w K mg base CX0 56 "cells_of" Cd (spCo a)) (E_cells_of:Cal P w K mg base (CXE P w) 56 "cells_of" Cd (PV a)):AW P w K mg base CX0 59 f fd DG (spMa K a Pt):=by
 refine F.okC BK (fun vs H Q E h=>?_) (fun cdv A outer s H vs Q E hcd hr h=>?_)
 ·obtain ⟨g,G,l,ns,rfl,_⟩:=h;rfl
 ·obtain ⟨g,G,l,ns,rfl,fu,sc,few,tb,k⟩:=h;have hcd:cdv=.ref c:=hcd.symm.trans hfd;refine ⟨_,(Ac (Ar (i:=2) BK.nd rfl (Or.inl rfl) (As Bo Af (As AT (Am aD (rm hr) rfl Al (Aa (pv 1) (AH Ab))) Af))) (Ac (Ar (i:=3) BK.nd rfl (Or.inr rfl) (Ay (pv 0) aM (rm hr) Al (Bh Bo Af (As AT (Am aD (rm hr) rfl Al (Aa (pv 1) (AH Ab))) Af) (Aa (pv 2) Ab)))) (Ac (Ar (i:=4) BK.nd rfl (Or.inl rfl) (Ay (pv 0) aM (rm hr) Al (AH (Aa (pv 2) Ab)))) (Ac (Ar (i:=5) BK.nd rfl (Or.inl rfl) (As Bo Af (As AT (Am aD (rm hr) rfl Al (Aa (pv 1) (AH Ab))) (As EI Af Af)))) (Ac (Ar (i:=6) BK.nd rfl (Or.inr rfl) (Am aV (rm hr) rfl Al (Aa (pv 0) (Aa (pv 4) (Aa (pv 5) (Bh Cs (As AT (Am aD (rm hr) rfl Al (Aa (pv 1) (AH Ab))) Af) Af (AH Ab))))))) (Ac (AO (PW.pt (FN (BM (BV (EE R__law_refused (rm hr) rfl (Aa (FG (AV.of (So:=Ae Bp) (No:=DI) (N:=["_law_grove","_law_wide"]) (k:=0) (cs:=[0,3]) rfl rfl (by decide +kernel)) hcd hC hB) (AH Ab))))) (EC (AB GI (Ay (pv 0) aG (rm hr) Al (Aa (pv 6) Ab)) Af (AE _))))) (Ag (Aq DF)) At) (Ac (AO (BM (BV (EE R__law_refused (rm hr) rfl (Aa (FG (AV.of (So:=Ae Bp) (No:=DI) (N:=["_law_grove","_law_more"]) (k:=0) (cs:=[0,6]) rfl rfl (by decide +kernel)) hcd hC hB) (AH Ab))))) (Ag (Aq DF)) At) (Ac (AO (AB GI (As AT (Am aD (rm hr) rfl Al (Aa (pv 1) (AH Ab))) Af) Af (AE _)) (Ag (Aq DF)) At) (Ac (Ar (i:=7) BK.nd rfl (Or.inl rfl) (Am bA (rm hr) rfl Al (Aa (pv 0) (Aa (Am aV (rm hr) rfl Al (Aa (pv 0) (Aa (pv 6) (Aa (pv 5) (Bh Cs (As AT (Am aD (rm hr) rfl Al (Aa (pv 1) (AH Ab))) Af) Af (AH Ab)))))) Ab)))) (Ac (AO (PW.pt (FN (BM (BV (AJ DV rfl T.b_isinstance PyProof.Rows.boot_isinstance (Aa (pv 7) (Aa (EF (v:=.ty "list") rfl T.b_list PyProof.Rows.boot_list rfl) Ab))))) (EC (AB GI (AJ Cg rfl T.b_len PySem.boot_len (Aa (pv 7) Ab)) Af (AE _))))) (Ag (Aq DF)) At) (Ac (Dx PassesOwn.never rfl (Fj rfl T.b_range (AH Ab)) (AY (i:=8) BK.nd rfl (Or.inl rfl)) (Ag (AO (AB (OK hr.units) (Aw AF (pv 7) (pv 8) (fun _ _=>rfl)) (Dy (Bh Cs (As AT (pv 8) Af) Af (Bh Cs (As CQ (pv 8) Af) Af (Aa (pv 2) Ab)))) (AE _)) (Ag (Aq DF)) At))) (Ag (Aq DF))))))))))))),?_⟩
  try dsimp only [cxK]
  obtain ⟨st,hst⟩:=Int.eq_ofNat_of_zero_le (show 0<=1+atN ns 2 % 7 by lia);have st8:st < 8:=by lia
  have st1:1<=st:=by lia
  refine BP ?_;intro r1 s1 k1 hk1 E1;refine xq1 rfl ⟨l,ns,2,rfl,sc.seq,by decide,xq2 rfl rfl ⟨(by show (0:Int) < 7; decide),xq2 rfl rfl ?_⟩⟩;show k1 [some (.ref g.p),some (.ref l),some (.int (1+atN ns 2 % 7)),none,none,none,none,none,none] H;rw [hst];refine hk1 ?_;obtain ⟨r35,h35⟩:=Int.eq_ofNat_of_zero_le (show 0<=atN ns 3 % 35 by lia);refine BP ?_;intro r2 s2 k2 hk2 E2;refine xwm rfl rfl fu.at'.hp (Iq g) (xq1 rfl ⟨l,ns,3,rfl,sc.seq,by decide,xq2 rfl rfl ⟨(by show (0:Int) < 35; decide),xq2 rfl rfl (xq1 rfl ⟨g,G,7+r35,st,?_,fu.at',fu.ok,by lia,st8,by lia,fun wi G1 H1 fr1 at1 go1 so1=>?_⟩)⟩⟩)
  ·show [V.ref g.p,V.int (7+atN ns 3 % 35),V.int st]=[V.ref g.p,V.int ((7+r35:Nat):Int),V.int st]
   rw [h35];rfl
  have fu1:=fu.fr fr1 at1 go1;have x1:=fr1.gx fu;have tb1:=fu.tabs tb x1;have sc1:=sc.fx x1;have gf1:=go1.few;refine hk2 ?_;refine BP ?_;intro r3 s3 k3 hk3 E3;refine xwm rfl rfl fu1.at'.hp (Iq g) (xq1 rfl ⟨g,G1,6,st,rfl,fu1.at',fu1.ok,by lia,st8,by lia,fun fl G2 H2 fr2 at2 go2 so2=>?_⟩);have fu2:=fu1.fr fr2 at2 go2;have x2:=x1.trans (fr2.gx fu1);have tb2:=fu1.tabs tb1 (fr2.gx fu1);have sc2:=sc1.fx (fr2.gx fu1);have gf2:=go2.few;have so1:=so1.goes go2;have go2:=go1.trans go2;clear fr1 at1 go1 fr2 at2 fu1 x1 tb1 sc1;refine hk3 ?_;refine BP ?_;intro r4 s4 k4 hk4 E4;refine xq1 rfl ⟨l,ns,4,rfl,sc2.seq,by decide,(xq2 rfl rfl ⟨⟨by decide,by decide,by decide⟩,xq2 rfl rfl ⟨(by show (0:Int) < 10 ^ (9:Int).toNat; decide),xq2 rfl rfl ?_⟩⟩)⟩;show k4 [some (.ref g.p),some (.ref l),some (.int st),some (.int wi),some (.int fl),some (.int (32+atN ns 4 % 10 ^ (9:Int).toNat)),none,none,none] H2;rw [pow9];have hX:32<=32+atN ns 4 % 1000000000/\32+atN ns 4 % 1000000000 < 1000000032:=by lia
  generalize 32+atN ns 4 % 1000000000=X at hX ⊢;refine hk4 ?_;refine BP ?_;intro r5 s5 k5 hk5 E5;have hY:-32<=atN ns 5 % 64 - 32/\atN ns 5 % 64 - 32 < 32:=by lia
  have li:DJ X (atN ns 5 % 64 - 32) 1 1 (2 ^ 40):=by
   show -(2 ^ 40)<=X/\-(2 ^ 40)<=atN ns 5 % 64 - 32/\X+1<=2 ^ 40/\atN ns 5 % 64 - 32+1<=2 ^ 40;rw [show ((2:Int) ^ 40)=1099511627776 by decide];lia
  refine xw3 rfl rfl rfl (xq1 rfl ⟨l,ns,5,rfl,sc2.seq,by decide,xq2 rfl rfl ⟨(by show (0:Int) < 64; decide),xq2 rfl rfl ⟨g,G2,fl,5,X,atN ns 5 % 64 - 32,3,rfl,fu2,Sol.lev fu2.ok st8 so2,by decide,li,by decide,by lia,fun mo kk w' i' G3 H3 fr3 fu3 go3 pl3=>?_⟩⟩⟩);obtain ⟨r0,e0⟩:=fu3.g0;have vm:Vf G3 mo (Qe (phi st) X (atN ns 5 % 64 - 32) 3):=LQ e0 fu3.ok (by decide) pl3 fun u v=>sol_vf fu3.ok st8 (so2.goes go3) u v;have x3:Fx (Pt :: Bn g) H H3:=(x2.trans (fr3.gx fu2)).mono fun _ h=>List.mem_cons_of_mem _ h;have tb3:=fu2.tabs tb2 (fr3.gx fu2);have sc3:=sc2.fx (fr3.gx fu2);have so1:=so1.goes go3;have gf3:=go3.few;have go3:=go2.trans go3;have lwi:=Sol.lev fu3.ok st8 so1;have cwi:=(sol_1 fu3.ok st8 (by lia) _ _ so1).1;clear fr3 fu2 tb2 sc2 x2 pl3 so2 so1 e0;refine hk5 ?_;refine BP ?_;intro r6 s6 k6 hk6 E6;refine FD (d:=2) (fun A B=>FrQ g A B/\AI a B g G3) (AV.of (So:=Ae Bp) (No:=DI) (N:=["_law_grove","_law_wide"]) (k:=0) (cs:=[0,3]) rfl rfl (by decide +kernel)) tb3 (fun p' c' H5 LH A2 outer2 s2 Q' E' hr hd=>⟨_,(Am E_cells_of (rm hr) rfl (Io rfl) (Aa (pv 0) (Aa (pv 1) Ab))),?_⟩) (fun H5 H6 H7 kp5 tb5 r6 s7=>?_) (fun H1 Q' h=>h)
  ·have kp5:Kp Pt H3 H5:=LH.st;exact xw2 rfl rfl ⟨g,G3,wi,7+r35,rfl,kp5.full tb3 fu3,lwi,by lia,by rw [cwi]; exact four_lt (by lia),fun H' fq fu'=>hd _ _ (Md T) ⟨fq,fu'⟩⟩
  have fu5:=kp5.full tb3 fu3;have x7:Fx (Pt :: Bn g) H H7:=((x3.trans ((kp5.fx tb3).mono fun _ h=>by rw [List.mem_singleton.mp h]; exact List.mem_cons_self ..)).trans ((r6.1.gx fu5).mono fun _ h=>List.mem_cons_of_mem _ h)).trans (Az.fx s7);have fu7:=r6.2.same s7;have tb7:=(fu5.tabs tb5 (r6.1.gx fu5)).same s7;have sc7:=((sc3.kp kp5 tb3).fx (r6.1.gx fu5)).fx (Az.fx s7);clear x3 fu3 tb3 sc3 kp5 tb5 r6 s7 fu5;obtain ⟨m,m40,lm,tm,em⟩:=vm.ex;have ph0:phi st X (atN ns 5 % 64 - 32)=0:=by
   unfold phi;rw [if_neg fun z=>by lia]
  have dm:=put_ok (t:=3) (PB st1) ph0 (by decide);have om:Of G3 m mo (sqL st ++ [⟨X,atN ns 5 % 64 - 32,3⟩]):=⟨dm.nd,fun c=>by rw [em]; exact dm.mem c⟩
  have cm:BZ G3 (m+1) mo=4097:=by
   rw [om.cnt fu7.ok lm,List.length_append,JJ];rfl
  clear om dm vm;refine ⟨true,rfl,Bv ?_⟩;refine xq1 rfl ⟨g.p,g.dx,(xq1 rfl ⟨fu7.at'.hp,Gd g,(xq1 rfl ⟨g,G3,mo,m+1,rfl,fu7,lm,by lia,fun H8 fq8 fu8=>?_⟩)⟩)⟩;rw [cm];refine ⟨rfl,(xq1 rfl (Mg rfl ?_))⟩;refine hk6 ?_;have x8:=x7.trans ((fq8.gx fu7).mono fun _ h=>List.mem_cons_of_mem Pt h);have tb8:=fu7.tabs tb7 (fq8.gx fu7);have sc8:=sc7.fx (fq8.gx fu7);clear x7 fu7 tb7 sc7 fq8;refine BP ?_;intro r7 s7 k7 hk7 E7;refine FD (d:=2) (fun A B=>FrQ g A B/\AI a B g G3) (AV.of (So:=Ae Bp) (No:=DI) (N:=["_law_grove","_law_more"]) (k:=0) (cs:=[0,6]) rfl rfl (by decide +kernel)) tb8 (fun p' c' H5 LH A2 outer2 s2 Q' E' hr hd=>⟨_,(Am E_cells_of (rm hr) rfl (Io rfl) (Aa (pv 0) (Aa (pv 1) Ab))),?_⟩) (fun H5 H6 H9 kp5 tb5 r6 s9=>?_) (fun H1 Q' h=>h)
  ·have kp5:Kp Pt H8 H5:=LH.st;exact xw2 rfl rfl ⟨g,G3,mo,m+1,rfl,kp5.full tb8 fu8,lm,by lia,by rw [cm]; decide,fun H' fq fu'=>hd _ _ (Md T) ⟨fq,fu'⟩⟩
  have fu5:=kp5.full tb8 fu8;have x9:Fx (Pt :: Bn g) H H9:=((x8.trans ((kp5.fx tb8).mono fun _ h=>by rw [List.mem_singleton.mp h]; exact List.mem_cons_self ..)).trans ((r6.1.gx fu5).mono fun _ h=>List.mem_cons_of_mem _ h)).trans (Az.fx s9);have fu9:=r6.2.same s9;have sc9:=((sc8.kp kp5 tb8).fx (r6.1.gx fu5)).fx (Az.fx s9);clear x8 fu8 tb8 sc8 kp5 tb5 r6 s9 fu5;refine ⟨true,rfl,Bv ?_⟩;refine hk7 ?_;refine BP ?_;intro r8 s8 k8 hk8 E8;refine xq1 rfl ⟨l,ns,6,rfl,sc9.seq,by decide,xq2 rfl rfl ⟨(by show (0:Int) < 8; decide),rfl,(xq1 rfl (ite2 (fun _=>k G3 H9 x9 fu9 (go3.mono (by lia))) (fun _=>?_)))⟩⟩;refine hk8 ?_;refine BP ?_;intro r9 s9 k9 hk9 E9;refine xw3 rfl rfl rfl (xw2 rfl rfl ⟨l,ns,5,rfl,sc9.seq,by decide,xq2 rfl rfl ⟨(by show (0:Int) < 64; decide),xq2 rfl rfl ⟨g,G3,mo,m,X,atN ns 5 % 64 - 32,0,rfl,fu9,lm,m40,li,by decide,by lia,fun f3 kk3 w3 i3 G4 H4 fr4 fu4 go4 pl4=>?_⟩⟩⟩);obtain ⟨r0,e0⟩:=fu4.g0;have vf:Vf G4 f3 (phi st):=by
   obtain ⟨n4,n40,l4,t4,q4⟩:=(LQ e0 fu4.ok (by decide) pl4 fun u v=>(Jw fu9.ok go4 lm u v).trans (em u v)).ex;refine ⟨n4,n40,l4,t4,fun u v=>(q4 u v).trans ?_⟩;unfold Qe;by_cases z:u=X/\v=atN ns 5 % 64 - 32
   ·rw [if_pos z,z.1,z.2,ph0]
   ·rw [if_neg z,if_neg z]
  have x4:=x9.trans ((fr4.gx fu9).mono fun _ h=>List.mem_cons_of_mem Pt h);have gf4:=go4.few;have go4:=go3.trans go4;clear pl4 fr4 x9 sc9 fu9 e0;refine co_at fu4 vf (PB st1) (sqL_by st) (by rw [JJ]; decide) (by lia) fun L ts Ha xa fua nL hL pr=>?_;have lts:ts.length=4096:=(Paired.length pr).trans (JJ st);have xa':Fx (Pt :: Bn g) H Ha:=x4.trans (xa.mono fun b hb=>by
   simp only [frA,List.mem_cons,List.not_mem_nil,or_false] at hb;simp only [Bn,List.mem_cons,List.not_mem_nil,or_false];lia)
  clear x4 fu4 vf xa;refine hk9 ?_;refine BP ?_;intro ra sa ka hka Ea;refine xq1 rfl ⟨_,_,_,.type "list",true,rfl,rfl,.of (.lst hL),kit_ll K,true,rfl,Bv (xq1 rfl ⟨L,(xq1 rfl ⟨.inl (SqL.of hL),rfl,(xq1 rfl ?_)⟩)⟩)⟩;rw [List.length_map,lts];refine Mg rfl ?_;refine hka ?_;refine BP ?_;intro rb sb kb hkb Eb;refine ⟨4096,rfl,by decide,by decide,?_⟩;refine DS (n:=4096) (fun j σ H2=>Az Ha H2/\∃ u8:Option V,σ=[some (.ref g.p),some (.ref l),some (.int st),some (.int wi),some (.int fl),some (.int X),some (.int mo),some (.ref L),u8]) ⟨Az.refl Ha,_,rfl⟩ ?_ ?_
  ·rintro j σ H2 hj ⟨sm,u8,rfl⟩;obtain ⟨t,et⟩:∃ t,ts[j]?=some t:=⟨_,List.getElem?_eq_getElem (by rw [lts]; exact hj)⟩
   obtain ⟨c',ec,ht⟩:=PairedM.getL pr et;rw [sqL_get hj] at ec;cases ec;have ht2:H2 t=some (.tup [.int (((j % 64:Nat):Int) - 32),.int (((j / 64:Nat):Int) - 32),.int (st:Int)]):=sm _ _ ht;refine xw2 rfl rfl (xq4 rfl rfl (SqL.of (sm _ _ hL)) (show atI (ts.map V.ref) (0+(j:Int))=some (.ref t) by rw [Int.zero_add]; exact Ai (by rw [List.getElem?_map,et]; rfl)) ?_);refine xwb rfl rfl rfl ⟨(by show (0:Int) < 64; decide),(xq2 rfl rfl (xwb rfl rfl rfl ⟨⟨by decide,by decide⟩,(xq2 rfl rfl (xq1 rfl ⟨(by show 3<=sizeLine; decide),fun t2 hn=>?_⟩))⟩))⟩;refine ⟨t,t2,[((j % 64:Nat):Int) - 32,((j / 64:Nat):Int) - 32,(st:Int)],[(0+(j:Int)) % 64 - 32,(0+(j:Int)) / 64 - 32,(st:Int)],rfl,rfl,SqT.of (same_up hn _ _ ht2),SqT.of Ah,?_⟩;rw [decide_eq_true (by rw [Int.zero_add]; rfl)];exact xq1 rfl (Bv ⟨sm.trans (same_up hn),_,rfl⟩)
  rintro σ H2 ⟨sm,u8,rfl⟩;refine hkb ?_;exact k G4 H2 (xa'.trans (Az.fx sm)) (fua.same sm) (go4.mono (by lia))
end
end J
namespace J
open PySem L2
theorem NI:∀ {es:List Cl},(es.map fun c=>(c.x,c.y)).Nodup->∀ c ∈ es,stC es c.x c.y=c.s
 | [],_,c,h=>by cases h
 | d :: es,nd,c,h=>by
  rw [List.map_cons,List.nodup_cons] at nd;show (if c.x=d.x/\c.y=d.y then d.s else stC es c.x c.y)=c.s;rcases List.mem_cons.mp h with rfl | h
  ·rw [if_pos ⟨rfl,rfl⟩]
  ·rw [if_neg fun q=>nd.1 (List.mem_map.mpr ⟨c,h,by rw [q.1,q.2]⟩)];exact NI nd.2 c h
theorem LA:∀ {es:List Cl} {x y:Int},stC es x y≠0->∃ c ∈ es,c.x=x/\c.y=y/\c.s=stC es x y
 | [],x,y,h=>absurd rfl h
 | d :: es,x,y,h=>by
  have e:stC (d :: es) x y=if x=d.x/\y=d.y then d.s else stC es x y:=rfl;rw [e] at h ⊢;by_cases q:x=d.x/\y=d.y
  ·rw [if_pos q];exact ⟨d,List.mem_cons_self ..,q.1.symm,q.2.symm,rfl⟩
  ·rw [if_neg q] at h ⊢;obtain ⟨c,hc,h1,h2,h3⟩:=LA h;exact ⟨c,List.mem_cons_of_mem _ hc,h1,h2,h3⟩
theorem dsOk_of {es cs:List Cl} (pm:es.Perm cs) (nd:(cs.map fun c=>(c.x,c.y)).Nodup) (h1:∀ c ∈ cs,1<=c.s):Rp es (stC cs.reverse):=by
 have nr:(cs.reverse.map fun c=>(c.x,c.y)).Nodup:=by
  rw [List.map_reverse];exact (List.reverse_perm _).nodup_iff.mpr nd
 refine ⟨(pm.map _).nodup_iff.mpr nd,fun c=>⟨fun hc=>?_,fun ⟨c1,e⟩=>?_⟩⟩
 ·have hc:=pm.mem_iff.mp hc;exact ⟨h1 c hc,NI nr c (List.mem_reverse.mpr hc)⟩
 ·obtain ⟨d,hd,e1,e2,e3⟩:=LA (es:=cs.reverse) (x:=c.x) (y:=c.y) (by rw [e]; lia);have:d=c:=by
   cases d;cases c;cases e1;cases e2;rw [e] at e3;cases e3;rfl
  rw [<-this];exact pm.mem_iff.mpr (List.mem_reverse.mp hd)
structure Cs3 (cs:List Cl):Prop where
 at':∀ (i:Nat) (c:Cl),cs[i]?=some c->c.x=2 * (i:Int) - 3/\-2<=c.y/\c.y<=2/\1<=c.s/\c.s<=7
theorem Cs3.nil:Cs3 []:=⟨fun i c e=>by cases e⟩
theorem Cs3.add {cs:List Cl} (h:Cs3 cs) {c:Cl} (ex:c.x=2 * (cs.length:Int) - 3) (y1:-2<=c.y) (y2:c.y<=2) (s1:1<=c.s) (s7:c.s<=7):Cs3 (cs ++ [c]):=⟨fun i d e=>by
 by_cases z:i < cs.length
 ·rw [List.getElem?_append_left z] at e;exact h.at' i d e
 ·rw [List.getElem?_append_right (by lia)] at e;have z0:i - cs.length=0:=by
   have:=(List.getElem?_eq_some_iff.mp e).1;rw [List.length_singleton] at this;lia
  rw [z0] at e;cases e;have:i=cs.length:=by lia
  rw [this];exact ⟨ex,y1,y2,s1,s7⟩⟩
theorem Cs3.nd {cs:List Cl} (h:Cs3 cs):(cs.map fun c=>(c.x,c.y)).Nodup:=by
 rw [List.nodup_iff_pairwise_ne,List.pairwise_map,List.pairwise_iff_getElem];intro i j hi hj ij e;injection e with e1 e2
 have h1:=(h.at' i _ (List.getElem?_eq_getElem hi)).1;have h2:=(h.at' j _ (List.getElem?_eq_getElem hj)).1;lia
theorem Cs3.s1 {cs:List Cl} (h:Cs3 cs):∀ c ∈ cs,1<=c.s:=fun c hc=>by
 obtain ⟨i,hi,rfl⟩:=List.mem_iff_getElem.mp hc;exact (h.at' i _ (List.getElem?_eq_getElem hi)).2.2.2.1
theorem up_by {es:List Cl} {out:List (Addr×List Int)} (e:es.map IW=out.map (·.2)) (h:NB out):ByC es:=by
 have h2:(out.map (·.2)).Pairwise fun p q=>BO q p=false:=List.pairwise_map.mpr h;rw [<-e,List.pairwise_map] at h2;refine h2.imp fun {p q} z=>?_;have z:(if q.y=p.y then (if q.x=p.x then (if (q.s:Int)=(p.s:Int) then BO [] [] else decide ((q.s:Int) < (p.s:Int))) else decide (q.x < p.x)) else decide (q.y < p.y))=false:=z;show (if q.y=p.y then (if q.x=p.x then BO [] [] else decide (q.x < p.x)) else decide (q.y < p.y))=false;split
 ·rename_i h1;rw [if_pos h1] at z;split
  ·rfl
  ·rename_i h2;rw [if_neg h2] at z;exact z
 ·rename_i h1;rw [if_neg h1] at z;exact z
def nsC (c:Cl):List Int:=[c.x,c.y,(c.s:Int)]
theorem JV {H:Hp} {β:Type} {f:β->List Int}:∀ {ts:List Addr} {es:List β},Paired (fun t c=>H t=some (.tup ((f c).map V.int))) ts es->∃ is:List (Addr×List Int),(is.map fun q=>V.ref q.1)=ts.map V.ref/\(∀ q ∈ is,H q.1=some (.tup (q.2.map V.int)))/\is.map (·.2)=es.map f:=fun {ts es} h=>by
 induction h with
 | nil=>exact ⟨[],rfl,(fun q hq=>by cases hq),rfl⟩
 | cons h1 _ ih =>
  obtain ⟨is,e1,e2,e3⟩:=ih;rename_i t c _ _ _;refine ⟨(t,f c) :: is,by rw [List.map_cons,e1]; rfl,fun q hq=>?_,by rw [List.map_cons,e3]; rfl⟩;rcases List.mem_cons.mp hq with rfl | hq
  ·exact h1
  ·exact e2 q hq
def toO (c:Cl):Oc:=⟨c.x,c.y,.int (c.s:Int)⟩
theorem Pu {c:Cl} (h:Rq c):Oz (toO c):=⟨h.li,by
 have:=h.s;show (decide (0<=(c.s:Int)) && decide ((c.s:Int) < 8))=true;rw [decide_eq_true (by lia:0<=(c.s:Int)),decide_eq_true (by lia:(c.s:Int) < 8)];rfl⟩
theorem Paired.toO {H:Hp} {ts:List Addr} {cs:List Cl} (h:Paired (Ls H) ts cs):Paired (IQ H) ts (cs.map toO):=by
 induction h with
 | nil=>exact .nil
 | cons h1 _ ih=>exact .cons h1 ih
theorem Paired.app {α β:Type} {R:α->β->Prop} {xs xs':List α} {ys ys':List β} (h:Paired R xs ys) (h':Paired R xs' ys'):Paired R (xs ++ xs') (ys ++ ys'):=by
 induction h with
 | nil=>exact h'
 | cons h1 _ ih=>exact .cons h1 ih
theorem Paired.tk {α β:Type} {R:α->β->Prop} {xs:List α} {ys:List β} (h:Paired R xs ys):∀ n,Paired R (xs.take n) (ys.take n)/\Paired R (xs.drop n) (ys.drop n):=by
 induction h with
 | nil=>exact fun n=>by simp; exact .nil
 | cons h1 h2 ih =>
  intro n;cases n with
  | zero=>exact ⟨.nil,.cons h1 h2⟩
  | succ n=>exact ⟨.cons h1 (ih n).1,(ih n).2⟩
theorem ins_at {α:Type} {l r:List α} {x:α} {j:Nat} (h:j<=l.length):(l.take j ++ x :: l.drop j ++ r)[j]?=some x:=by
 rw [List.append_assoc,List.getElem?_append_right (by rw [List.length_take]; lia),List.length_take,Nat.min_eq_left h,Nat.sub_self];rfl
theorem ins_lt {α:Type} {l r:List α} {x:α} {j i:Nat} (h:j<=l.length) (hi:i < j):(l.take j ++ x :: l.drop j ++ r)[i]?=l[i]?:=by
 rw [List.append_assoc,List.getElem?_append_left (by rw [List.length_take]; lia),List.getElem?_take_of_lt hi]
abbrev qLa:Str:="law" ++ ".<locals>." ++ "<lambda>"
structure Z26 (K:PySem.W.Frag) (a:Ad) (g:GA) (l:Addr) (ns:List Int) (P1 P2 P3 C:Addr) (ts:List Addr) (cs:List Cl) (H:Hp) (G:Gv):Prop where
 fu:AI a H g G
 sc:ScX K g l (ns.map V.int) H
 t1:Tab H P1 qMa
 t2:Tab H P2 qLv
 t3:Tab H P3 qLa
 d:Drn H C ts cs 3
 nC:C ∉ Bn g
section
variable {K:PySem.W.Frag} {a:Ad} {g:GA} {l:Addr} {ns:List Int} {P1 P2 P3 C:Addr} {ts:List Addr} {cs:List Cl} {H H':Hp} {G G':Gv}
theorem Z26.fx (z:Z26 K a g l ns P1 P2 P3 C ts cs H G) (x:Fx (Bn g) H H') (fu':AI a H' g G'):Z26 K a g l ns P1 P2 P3 C ts cs H' G' :=
 ⟨fu',z.sc.fx x,z.fu.tabs z.t1 x,z.fu.tabs z.t2 x,z.fu.tabs z.t3 x,z.d.fx x z.nC,z.nC⟩
theorem Z26.same (z:Z26 K a g l ns P1 P2 P3 C ts cs H G) (s:Az H H'):Z26 K a g l ns P1 P2 P3 C ts cs H' G:=z.fx (Az.fx s) (z.fu.same s)
theorem Z26.fr (z:Z26 K a g l ns P1 P2 P3 C ts cs H G) (f:Fr g H H') (fu':AI a H' g G'):Z26 K a g l ns P1 P2 P3 C ts cs H' G':=z.fx (f.gx z.fu) fu'
theorem Z26.kp (z:Z26 K a g l ns P1 P2 P3 C ts cs H G) (n1:P1≠P3) (n2:P2≠P3) (k:Kp P3 H H') (t:Tab H' P3 qLa):Z26 K a g l ns P1 P2 P3 C ts cs H' G:=by
 have hQ:∃ ps,H P3=some (.tbl ps):=let ⟨ps,h,_⟩:=z.t3; ⟨ps,h⟩;refine ⟨k.full z.t3 z.fu,z.sc.kp k z.t3,z.t1.other n1 hQ k,z.t2.other n2 hQ k,t,z.d.fx (k.fx z.t3) (fun m=>?_),z.nC⟩;exact Tab.ne z.t3 z.d.hL (by intro _ z; cases z) (List.mem_singleton.mp m)
theorem Z26.ma (z:Z26 K a g l ns P1 P2 P3 C ts cs H G) (n:P2≠P1) (f:Fx (P1 :: Bn g) H H'):ScX K g l (ns.map V.int) H'/\Tab H' P2 qLv:=by
 have no:∀ {b:Addr} {o:HO},H b=some o->(∀ ps,o≠.tbl ps)->b ∉ Bn g->b ∉ P1 :: Bn g:=fun e h1 h2 m=>by
  rcases List.mem_cons.mp m with rfl | m
  ·exact Tab.ne z.t1 e h1 rfl
  ·exact h2 m
 constructor
 ·rcases z.sc with ⟨nl,h⟩ | h
  ·rcases h with h | ⟨o,h⟩
   ·exact .inl ⟨nl,.inl (f.get (no h (by intro _ z; cases z) nl) h)⟩
   ·exact .inl ⟨nl,.inr ⟨o,f.get (no h (by intro _ z; cases z) nl) h⟩⟩
  ·exact .inr h
 ·have n2:=z.fu.tab z.t2;obtain ⟨ps,e,c⟩:=z.t2;refine ⟨ps,f.get (fun m=>?_) e,c.mono (fun d e=>f.get (no e (by intro _ z; cases z) (z.fu.out e (by intro _ z; cases z) (by intro _ z; cases z) (by intro _ z; cases z))) e) _⟩;rcases List.mem_cons.mp m with m | m
  ·exact n m
  ·exact n2 m
end
end J
namespace J
open PySem L2
seal L2.PA L2.PE L2.PS L2.PSs L2.PT L2.PW
section
variable {P:Program} {w:World} {K:PySem.W.Frag} {mg:Str->Option Value} {base:Heap} {a:Ad}
inductive Ri (K:PySem.W.Frag) (P1 P2 P3:Addr) (vs:List V) (H:Hp) (Q:VK):Prop
 | mk (l:Addr) (ns:List Int) (_:vs=[.ref l]) (_:SqL K H l (ns.map V.int)) (_:ns.length<=63) (_:∀ q,Tab H P1 q) (_:∀ q,Tab H P2 q) (_:∀ q,Tab H P3 q) (_:∀ H',Q (.bl true) H'):Ri K P1 P2 P3 vs H Q
def JK (K:PySem.W.Frag) (P1 P2 P3:Addr):Sp:=fun vs H Q _=>Ri K P1 P2 P3 vs H Q
theorem kit_i1 (K:PySem.W.Frag):PySem.W.kitOne K (.type "int") (.type "int")=some true:=by kernel_rfl
theorem ok_law {f c P1 P2 P3:Addr} {fd:FuncData} (F:Fun K "law" "law" DE f fd) (T:Top K mg a) (hfd:fd.code=.ref c) (hC:PySem.W.CodeHd base c P3) (hB:Blt mg base) (n12:P1≠P2) (n13:P1≠P3) (n23:P2≠P3) (aD:Cal P w K mg base CX0 1 "_law_at" DP (spAt K)) (eR:CalC P w K mg base CX0 2 "Grove" a.c_Grove Dj (JM a)) (bY:Cal P w K mg base CX0 56 "field_of" CC (PQ a)) (bA:Cal P w K mg base CX0 56 "cells_of" Cd (spCo a)) (R__law_refused:Rr P w K mg base 58 "_law_refused" BC (Jk P w K mg base a 57)) (E_planted:Cal P w K mg base (CXE P w) 55 "planted" Co (NJ a)) (E_field_of:Cal P w K mg base (CXE P w) 56 "field_of" CC (PR a)) (aX:Cal P w K mg base CX0 2 "_law_odd_cell" Ci PJ) (cJ:Cal P w K mg base CX0 59 "_law_many" DG (spMa K a P1)) (bQ:Cal P w K mg base CX0 59 "_law_levels" CN (PM a P2)):AW P w K mg base CX0 60 f fd ["_law_script"] (JK K P1 P2 P3):=by
 refine F.okC (ps:=["_law_script"]) Dq (fun vs H Q E h=>?_) (fun cdv A outer s H vs Q E hcd hr h=>?_)
 ·obtain ⟨l,ns,rfl,_⟩:=h;rfl
 ·obtain ⟨l,ns,rfl,hS,hlen,tb1,tb2,tb3,kQ⟩:=h;have hcd:cdv=.ref c:=hcd.symm.trans hfd;refine ⟨_,(Ac (AO (PW.pt (FN (BM (BV (AJ DV rfl T.b_isinstance PyProof.Rows.boot_isinstance (Aa (Bg rfl T.k_LIMIT) (Aa (EF (v:=.ty "int") rfl T.b_int PyProof.Rows.boot_int rfl) Ab))))) (EC (AB GI (Bg rfl T.k_LIMIT) (As EI Af Af) (AE _))))) (Ag (Aq DF)) At) (Ac (Ar (i:=1) Dq.nd rfl (Or.inr rfl) (Qn eR (rm hr) rfl Al)) (Ac (Ar (i:=2) Dq.nd rfl (Or.inl rfl) (Di Ab)) (Ac (Dx PassesOwn.never rfl (Fj rfl T.b_range (Bh AT (Am aD (rm hr) rfl Al (Aa (pv 0) (AH Ab))) Af Ab)) (AY (i:=3) Dq.nd rfl (Or.inl rfl)) (Ag (Cu (Jo PySem.F.plainAttrs_list PySem.F.slot_list_append PySem.F.type_list_append Et (pv 2) (Bk (Bh Cs (As JW Af (pv 3)) Af (Bh Cs (As AT (Am aD (rm hr) rfl Al (Aa (pv 0) (Bh Bo Af (pv 3) Ab))) Af) Af (Bh Bo Af (As AT (Am aD (rm hr) rfl Al (Aa (pv 0) (Bh Bo Af (pv 3) Ab))) Af) Ab))) Ab))))) (Ac (Ar (i:=4) Dq.nd rfl (Or.inr rfl) (Am bY (rm hr) rfl Al (Aa (pv 1) (Aa (Fm ER rfl T.b_list PyProof.Rows.boot_list (Aa (pv 2) Ab)) Ab)))) (Ac (Dx PassesOwn.never rfl (Jm rfl T.b_range (AH (Aa (AJ (Pl rfl) rfl T.b_max PyProof.Rows.boot_max (AH (Aa (AJ (JA rfl) rfl T.b_min PyProof.Rows.boot_min (Aa (AJ Cg rfl T.b_len PySem.boot_len (Aa (pv 0) Ab)) (AH Ab))) Ab))) Ab))) (AY (i:=5) Dq.nd rfl (Or.inl rfl)) (Ac (Ar (i:=6) Dq.nd rfl (Or.inl rfl) (As Cs (As AT (Am aD (rm hr) rfl Al (Aa (pv 0) (AH Ab))) Af) Af)) (Ac (MP (Am aX (rm hr) rfl Al (Aa (Am aD (rm hr) rfl Al (Aa (pv 0) (Aa (pv 5) Ab))) (Aa (pv 6) Ab))) (EY rfl (Bd (AY (i:=7) Dq.nd rfl (Or.inr rfl)) (Bd (AY (i:=8) Dq.nd rfl (Or.inl rfl)) Ee)))) (Ac (MP (Am aX (rm hr) rfl Al (Aa (Am aD (rm hr) rfl Al (Aa (pv 0) (Bh Bo (pv 5) Af Ab))) (Aa (pv 6) Ab))) (EY rfl (Bd (AY (i:=9) Dq.nd rfl (Or.inr rfl)) (Bd (AY (i:=10) Dq.nd rfl (Or.inl rfl)) Ee)))) (Ac (AO (BM (BV (EE R__law_refused (rm hr) rfl (Aa (FG (AV.of (So:=Ae DE) (No:=FS) (N:=["_law_grove","_law_field","_law_one"]) (k:=0) (cs:=[1,4,7]) rfl rfl (by decide +kernel)) hcd hC hB) (Aa (pv 8) Ab))))) (Ag (Aq DF)) At) (Ac (Ar (i:=11) Dq.nd rfl (Or.inr rfl) (Fm ER rfl T.b_list PyProof.Rows.boot_list (Aa (pv 2) Ab))) (Ac (Cu (Jo PySem.F.plainAttrs_list PySem.F.slot_list_insert PySem.F.type_list_insert OQ (pv 11) (Bh AT (Am aD (rm hr) rfl Al (Aa (pv 0) (Bh Bo (pv 5) Af Ab))) (As Bo (AJ Cg rfl T.b_len PySem.boot_len (Aa (pv 11) Ab)) Af) (Aa (pv 7) Ab)))) (Ac (AO (BM (BV (EE R__law_refused (rm hr) rfl (Aa (FG (AV.of (So:=Ae DE) (No:=FS) (N:=["_law_grove","_law_other","_law_row"]) (k:=0) (cs:=[1,9,11]) rfl rfl (by decide +kernel)) hcd hC hB) (Aa (pv 8) Ab))))) (Ag (Aq DF)) At) (Ag (AO (BM (BV (EE R__law_refused (rm hr) rfl (Aa (FG (AV.of (So:=Ae DE) (No:=FS) (N:=["_law_grove","_law_other","_law_row"]) (k:=0) (cs:=[1,9,11]) rfl rfl (by decide +kernel)) hcd hC hB) (Aa (pv 10) Ab))))) (Ag (Aq DF)) At)))))))))) (Ac (Ar (i:=8) Dq.nd rfl (Or.inl rfl) (AJ Lo rfl T.b_sorted PyProof.Rows.boot_sorted (Aa (JU rfl (AV.of (So:=Ae DE) (No:=FS) (N:=["_law_x","_law_y","_law_state"]) (k:=3) (cs:=[]) rfl rfl (by decide +kernel)) (Fk (pv 2)) (fun _ _ _=>(NV (i:=0) (j:=1) (m:=2) rfl (by decide +kernel) rfl rfl rfl rfl rfl rfl)) (fun _ _ _=>FO) (fun _ _ _=>(Dy (Aa (pv 1) (Aa (pv 0) (Aa (pv 2) Ab)))))) Ab))) (Ac (AO (PW.pt (FN (AB (LU hr.units) (Am bA (rm hr) rfl Al (Aa (pv 1) (Aa (pv 4) Ab))) (JU rfl (AV.of (So:=Ae DE) (No:=FS) (N:=["_law_y","_law_x","_law_state"]) (k:=3) (cs:=[]) rfl rfl (by decide +kernel)) (Fk (pv 8)) (fun _ _ _=>(NV (i:=0) (j:=1) (m:=2) rfl (by decide +kernel) rfl rfl rfl rfl rfl rfl)) (fun _ _ _=>FO) (fun _ _ _=>(Dy (Aa (pv 1) (Aa (pv 0) (Aa (pv 2) Ab)))))) (AE _)) (EC (AB GI (Am bY (rm hr) rfl Al (Aa (pv 1) (Aa (pv 2) Ab))) (pv 4) (AE _))))) (Ag (Aq DF)) At) (Ag (Aq (EG (Am cJ (rm hr) rfl Al (Aa (pv 1) (Aa (pv 0) Ab))) (FF (Am bQ (rm hr) rfl Al (Aa (pv 1) (Aa (pv 4) (Aa (Am aD (rm hr) rfl Al (Aa (pv 0) (AH Ab))) Ab)))))))))))))))),?_⟩
  try dsimp only [cxK]
  refine BP ?_;intro r0 s0 k0 hk0 E0_;refine ⟨_,_,_,.type "int",true,rfl,rfl,.of (.int _),kit_i1 K,true,rfl,Bv (xq2 rfl rfl ⟨⟨by decide,by decide,by decide⟩,rfl,(xq1 rfl ?_)⟩)⟩;refine Mg (congrArg V.int Qf.symm) ?_;refine hk0 ?_;refine BP ?_;intro r1 s1 k1 hk1 E1;intro x dx nx ndx nex;refine ⟨x,dx,rfl,Ah,fun g H1 gp N=>⟨rfl,?_⟩⟩;have sm1:Az H H1:=fun b o e=>N.kp b o (by rw [Ak (An e nx),Ak (An e ndx)]; exact e) (gp ▸ An e nx);have sc1:ScX K g l (ns.map V.int) H1:=by
   have ap:∀ o,H l=some o->l ∉ Bn g:=fun o e m=>by
    rw [N.none l m] at e;cases e
   rcases hS with (h | ⟨o,h⟩) | h
   ·exact .inl ⟨ap _ h,.inl (sm1 _ _ h)⟩
   ·exact .inl ⟨ap _ h,.inr ⟨o,sm1 _ _ h⟩⟩
   ·exact .inr fun H=>.inr h
  subst gp;have fu1:=AI.new N;have tb1:=(tb1 qMa).same sm1;have tb2:=(tb2 qLv).same sm1;have tb3:=(tb3 qLa).same sm1;have gl0:G0.length=56:=Np;clear N hS sm1;refine hk1 ?_;refine BP ?_;intro r2 s2 k2 hk2 E2;refine ⟨(by show 0<=sizeLine; decide),fun C hC0=>?_⟩;generalize e2:upd H1 C _=H2;obtain ⟨sm2,h2⟩:=alc' hC0 e2;refine hk2 ?_;have nC:C ∉ Bn g:=fun m=>by
   obtain ⟨o,e⟩:=fu1.nw.s C m;rw [hC0] at e;cases e
  refine BP ?_;intro r3 s3 k3 hk3 E3;obtain ⟨q4,h4⟩:=Int.eq_ofNat_of_zero_le (show 0<=atN ns 0 % 4 by lia);have q4l:q4 < 4:=by lia
  refine xq1 rfl ⟨l,ns,0,rfl,(sc1.fx (Az.fx sm2)).seq,by decide,xq2 rfl rfl ⟨(by show (0:Int) < 4; decide),(q4:Int),congrArg (fun z=>[V.int z]) h4,by lia,by lia,?_⟩⟩;rw [Int.toNat_natCast];refine DS (n:=q4) (fun i σ Hx=>∃ (ts:List Addr) (cs:List Cl) (u3:Option V),σ=[some (.ref l),some (.ref g.p),some (.ref C),u3,none,none,none,none,none,none,none,none]/\Az H1 Hx/\Drn Hx C ts cs i/\cs.length=i/\Cs3 cs) ⟨[],[],none,rfl,sm2,⟨h2,.nil,fun c hc=>(by cases hc),Nat.le_refl _⟩,rfl,Cs3.nil⟩ ?_ ?_
  ·rintro i σ Hx hi ⟨ts,cs,u3,rfl,smx,d,lc,c3⟩;have scx:=sc1.fx (Az.fx smx);obtain ⟨st,hst⟩:=Int.eq_ofNat_of_zero_le (show 0<=1+atN ns (24+(0+(i:Int))) % 7 by lia);refine xq1 rfl ⟨.inl ⟨rfl,_,SqL.of d.hL⟩,?_⟩;refine xq1 rfl (xq2 rfl rfl ⟨.inl ⟨by decide,by decide⟩,_,_,rfl,rfl,_,rfl,_,rfl,_,_,rfl,rfl,l,ns,_,rfl,scx.seq,by lia,_,_,rfl,rfl,(by show (0:Int) < 5; decide),_,_,rfl,rfl,_,rfl,_,rfl,_,_,rfl,rfl,l,ns,_,rfl,scx.seq,by lia,_,_,rfl,rfl,(by show (0:Int) < 7; decide),_,_,rfl,rfl,(by show 3<=sizeLine; decide),fun t ht=>?_⟩);generalize e6:upd Hx t _=H6;obtain ⟨sm6,h6⟩:=alc' ht e6;have h6:H6 t=some (.tup [.int (2 * (0+(i:Int)) - 3),.int (atN ns (20+(0+(i:Int))) % 5 - 2),.int (1+atN ns (24+(0+(i:Int))) % 7)]):=h6;rw [hst] at h6;have d6:=d.same sm6;have cok:Rq ⟨2 * (0+(i:Int)) - 3,atN ns (20+(0+(i:Int))) % 5 - 2,st⟩:=⟨by
    show -(2 ^ 40)<=2 * (0+(i:Int)) - 3/\-(2 ^ 40)<=atN ns (20+(0+(i:Int))) % 5 - 2/\2 * (0+(i:Int)) - 3+1<=2 ^ 40/\atN ns (20+(0+(i:Int))) % 5 - 2+1<=2 ^ 40;rw [show ((2:Int) ^ 40)=1099511627776 by decide];lia,by show st < 8; lia⟩
   refine ⟨C,_,.ref t,rfl,rfl,d6.hL,Eg (by rw [List.length_map,d6.tl,lc]; lia),?_⟩;exact ⟨ts ++ [t],cs ++ [⟨2 * (0+(i:Int)) - 3,atN ns (20+(0+(i:Int))) % 5 - 2,st⟩],(xq1 rfl ⟨NE hC0 (smx.trans sm6),d6.add (c:=⟨2 * (0+(i:Int)) - 3,atN ns (20+(0+(i:Int))) % 5 - 2,st⟩) h6 cok,by rw [List.length_append,lc]; rfl,c3.add (by show 2 * (0+(i:Int)) - 3=2 * (cs.length:Int) - 3; rw [lc]; lia) (by show -2<=atN ns (20+(0+(i:Int))) % 5 - 2; lia) (by show atN ns (20+(0+(i:Int))) % 5 - 2<=2; lia) (by show 1<=st; lia) (by show st<=7; lia)⟩)⟩
  rintro σ Hx ⟨ts,cs,u3,rfl,smx,d,lc,c3⟩;have d:=d.mono (show q4<=3 by lia);have z0:Z26 K a g l ns P1 P2 P3 C ts cs Hx G0:=⟨fu1.same smx,sc1.fx (Az.fx smx),tb1.same smx,tb2.same smx,tb3.same smx,d,nC⟩
  have lc3:=d.len;clear sm2 h2 e2 hC0 smx fu1 sc1 tb1 tb2 tb3 d lc q4l h4;refine hk3 ?_;refine BP ?_;intro r4 s4 k4 hk4 E4;refine xw2 rfl rfl ⟨C,(xq1 rfl ⟨.inl (SqL.of z0.d.hL),fun C2 hC2=>?_⟩)⟩;generalize e2:upd Hx C2 _=H2;obtain ⟨sm2,h2⟩:=alc' hC2 e2;have z2:=z0.same sm2;refine QS (fu:=z2.fu) ⟨h2,z2.d.pr,z2.d.ok,Nat.le_trans lc3 (by decide)⟩ (Ap.new z0.fu.at' hC2) (by rw [gl0]; decide) fun f G1 H3 x3 fu3 go1 vf=>?_;have z3:Z26 K a g l ns P1 P2 P3 C ts cs H3 G1:=z2.fx (x3.mono fun b hb=>by
   simp only [frA,List.mem_cons,List.not_mem_nil,or_false] at hb;simp only [Bn,List.mem_cons,List.not_mem_nil,or_false];lia) fu3
  have gf1:=go1.few;rw [gl0] at gf1;obtain ⟨nf,nf40,lf,tf,ef⟩:=id vf.ex;clear z0 z2 sm2 h2 e2 hC2 x3 fu3 go1;refine hk4 ?_;refine BP ?_;intro r5 s5 k5 hk5 E5;refine xq1 rfl ⟨l,(xq1 rfl ⟨.inl z3.sc.seq,_,_,rfl,_,_,rfl,7,(xq1 rfl ⟨⟨by decide,by decide,?_,?_⟩,?_⟩)⟩)⟩
  ·split<;>(try split)<;>lia
  ·split<;>(try split)<;>lia
  have hM:((if (if (20:Int) < ((ns.map V.int).length:Int) then 20 else ((ns.map V.int).length:Int)) > 8 then (if (20:Int) < ((ns.map V.int).length:Int) then 20 else ((ns.map V.int).length:Int)) else 8) - 7).toNat<=13:=by split<;>(try split)<;>lia
  generalize ((if (if (20:Int) < ((ns.map V.int).length:Int) then 20 else ((ns.map V.int).length:Int)) > 8 then (if (20:Int) < ((ns.map V.int).length:Int) then 20 else ((ns.map V.int).length:Int)) else 8) - 7).toNat=M at hM ⊢;refine DS (n:=M) (fun i σ Hx=>∃ (G:Gv) (u3 u5 u6 u7 u8 u9 u10 u11:Option V),σ=[some (.ref l),some (.ref g.p),some (.ref C),u3,some (.int f),u5,u6,u7,u8,u9,u10,u11]/\Z26 K a g l ns P1 P2 P3 C ts cs Hx G/\AN G1 G (5000 * i)) ⟨G1,_,_,_,_,_,_,_,_,rfl,z3,AN.refl z3.fu.ok⟩ ?_ ?_
  ·rintro i σ Hx hi ⟨G,u3,u5,u6,u7,u8,u9,u10,u11,rfl,z,go⟩;have gf:=go.few;refine BP ?_;intro r6 s6 k6 hk6 E6;refine xq1 rfl ⟨l,ns,1,rfl,z.sc.seq,by decide,xq2 rfl rfl ⟨(by show (0:Int) < 9; decide),xq2 rfl rfl ?_⟩⟩;have hb:-4<=atN ns 1 % 9 - 4/\atN ns 1 % 9 - 4<=4:=by lia
   refine hk6 ?_;refine BP ?_;intro r7 s7 k7 hk7 E7;refine xw2 rfl rfl ⟨l,ns,7+(i:Int),rfl,z.sc.seq,by lia,xq1 rfl ⟨_,_,rfl,hb,fun t1 o1 c1 d1 H4 sm4 ht1 hc1 ov1 bad1=>?_⟩⟩;refine IF ht1 ?_;have z4:=z.same sm4;refine hk7 ?_;refine BP ?_;intro r8 s8 k8 hk8 E8;refine xw2 rfl rfl (xq2 rfl rfl ⟨l,ns,7+(i:Int)+1,rfl,z4.sc.seq,by lia,xq1 rfl ⟨_,_,rfl,hb,fun t2 o2 c2 d2 H5 sm5 ht2 hc2 ov2 bad2=>?_⟩⟩);refine IF ht2 ?_;have z5:=z4.same sm5;have hc1:IQ H5 o1 c1:=sm5 _ _ hc1;have ov1:Odd H5 c1.v:=ov1.same fun b xs e=>sm5 _ _ e;clear z z4 sm4 sm5 ht1 ht2;refine hk8 ?_;refine BP ?_;intro r9 s9 k9 hk9 E9;have lfG:=go.lev lf;refine FD (d:=d1) (fun A B=>Az A B) (AV.of (So:=Ae DE) (No:=FS) (N:=["_law_grove","_law_field","_law_one"]) (k:=0) (cs:=[1,4,7]) rfl rfl (by decide +kernel)) z5.t3 (fun p' c' H6 LH A2 outer2 s2 Q' E' hr hd=>⟨_,(Am E_planted (rm hr) rfl (Io rfl) (Aa (pv 0) (Aa (pv 1) (Aa (Aw (Lj (K:=K) rfl) (pv 2) Af (fun _ _=>rfl)) (Aa (Aw (Lj (K:=K) rfl) (pv 2) Af (fun _ _=>rfl)) (Aa (Aw (Lj (K:=K) rfl) (pv 2) Af (fun _ _=>rfl)) Ab)))))),?_⟩) (fun H6 H7 H8 kp6 tb6 r7 s8=>?_) (fun H1 Q' h=>(xq1 rfl h))
   ·have kp6:Kp P3 H5 H6:=LH.st;have z6:=z5.kp n13 n23 kp6 LH.tab;have hc6:H6 o1=some (.tup [.int c1.x,.int c1.y,c1.v]):=kp6 _ _ (Tab.ne z5.t3 hc1 (by intro _ z; cases z)) hc1;refine xw3 rfl rfl rfl (xq4 rfl rfl (SqT.of hc6) (Ai (j:=0) rfl) (xwi rfl rfl rfl (SqT.of hc6) (Ai (j:=1) rfl) (xwi rfl rfl rfl (SqT.of hc6) (Ai (j:=2) rfl) ⟨g,G,f,nf,c1,rfl,z6.fu,lfG,nf40,kp6.odd z5.t3 ov1,by lia,fun d H' be sm=>?_,fun st r kk w' i' G' H' li ev s8 _ _ _ _=>(Oq bad1 li ev s8).elim⟩)));rw [Mt be bad1];exact hd _ H' (QJ T bad1) sm
   have z8:=(z5.kp n13 n23 kp6 tb6).same (r7.trans s8);have k58:∀ {b:Addr} {xs:List V},H5 b=some (.tup xs)->H8 b=some (.tup xs):=fun e=>(r7.trans s8) _ _ (kp6 _ _ (Tab.ne z5.t3 e (by intro _ z; cases z)) e);have hc1:IQ H8 o1 c1:=k58 hc1;have hc2:IQ H8 o2 c2:=k58 hc2;have ov1:Odd H8 c1.v:=ov1.same fun b xs e=>k58 e;have ov2:Odd H8 c2.v:=ov2.same fun b xs e=>k58 e;clear z5 k58 kp6 tb6 r7 s8;refine ⟨true,rfl,Bv ?_⟩;refine hk9 ?_;refine BP ?_;intro ra sa ka hka Ea;refine xq1 rfl ⟨C,(xq1 rfl ⟨.inl (SqL.of z8.d.hL),fun R hR=>?_⟩)⟩;generalize e9:upd H8 R _=H9;obtain ⟨sm9,h9⟩:=alc' hR e9;have z9:=z8.same sm9;have nR:R ∉ Bn g:=fun m=>by
    obtain ⟨o,e⟩:=z8.fu.nw.s R m;rw [hR] at e;cases e
   refine hka ?_;refine BP ?_;intro rb sb kb hkb Eb;have tl:=z8.d.tl;refine xq1 rfl ⟨.inl ⟨rfl,_,SqL.of h9⟩,?_⟩;have hj0:0<=atN ns (7+(i:Int)+2) % (((ts.map V.ref).length:Int)+1):=Int.emod_nonneg _ (by lia);have hj1:atN ns (7+(i:Int)+2) % (((ts.map V.ref).length:Int)+1) < ((ts.map V.ref).length:Int)+1:=Int.emod_lt_of_pos _ (by lia);refine xw2 rfl rfl (xq2 rfl rfl ⟨l,ns,7+(i:Int)+2,rfl,z9.sc.seq,by lia,xq1 rfl ⟨R,(xq1 rfl ⟨.inl (SqL.of h9),xq2 rfl rfl (xq2 rfl rfl ⟨?_,xq1 rfl ⟨R,_,(xq2 rfl rfl ⟨h9,⟨hj0,Int.lt_add_one_iff.mp hj1,?_⟩,?_⟩)⟩⟩)⟩)⟩⟩)
   ·show (0:Int) < ((ts.map V.ref).length:Int)+1;lia
   ·rw [List.length_map,tl];lia
   generalize eA:upd H9 R _=HA;have hA:HA R=some (.lst ((ts.map V.ref).take (atN ns (7+(i:Int)+2) % (((ts.map V.ref).length:Int)+1)).toNat ++ V.ref o1 :: (ts.map V.ref).drop (atN ns (7+(i:Int)+2) % (((ts.map V.ref).length:Int)+1)).toNat)):=eA ▸ Ah;have smA:Az H8 HA:=eA ▸ NE hR sm9;have hjl:(atN ns (7+(i:Int)+2) % (((ts.map V.ref).length:Int)+1)).toNat<=cs.length:=by
    rw [List.length_map,tl] at hj1 hj0 ⊢;lia
   generalize (atN ns (7+(i:Int)+2) % (((ts.map V.ref).length:Int)+1)).toNat=j at hA hjl;rw [<-List.map_take,<-List.map_drop,<-List.map_cons,<-List.map_append] at hA;have zA:=z8.same smA;have hc1:IQ HA o1 c1:=smA _ _ hc1;have hc2:IQ HA o2 c2:=smA _ _ hc2;have ov1:Odd HA c1.v:=ov1.same fun b xs e=>smA _ _ e;have ov2:Odd HA c2.v:=ov2.same fun b xs e=>smA _ _ e;have pk:=Paired.tk (Paired.toO zA.d.pr) j;have prA:Paired (IQ HA) (ts.take j ++ o1 :: ts.drop j) ((cs.map toO).take j ++ c1 :: (cs.map toO).drop j):=Paired.app pk.1 (.cons hc1 pk.2);have odO:∀ {H:Hp} {c:Oc},c ∈ cs.map toO->Odd H c.v:=fun {H c} hc=>by
    obtain ⟨d,_,rfl⟩:=List.mem_map.mp hc;exact .int _
   have odA:∀ {H:Hp},Odd H c1.v->∀ c ∈ (cs.map toO).take j ++ c1 :: (cs.map toO).drop j,Odd H c.v:=fun {H} o c hc=>by
    rcases List.mem_append.mp hc with hc | hc
    ·exact odO (List.mem_of_mem_take hc)
    ·rcases List.mem_cons.mp hc with rfl | hc
     ·exact o
     ·exact odO (List.mem_of_mem_drop hc)
   have lA:((cs.map toO).take j ++ c1 :: (cs.map toO).drop j).length<=4:=by
    rw [List.length_append,List.length_cons,List.length_take,List.length_drop,List.length_map];lia
   have lt4:=Paired.length prA;clear pk z8 z9 sm9 smA h9 e9 eA hR hj0 hj1 tl;refine hkb ?_;refine BP ?_;intro rc sc kc hkc Ec;have gd:∀ {r:List Oc} (i':Nat) (c':Oc),i' < j->((cs.map toO).take j ++ c1 :: (cs.map toO).drop j ++ r)[i']?=some c'->Oz c':=fun {r} i' c' hi' e=>by
    rw [ins_lt (by rw [List.length_map]; exact hjl) hi',List.getElem?_map] at e;obtain ⟨d',ed,rfl⟩:=Option.map_eq_some_iff.mp e;exact Pu (zA.d.ok d' (List.mem_of_getElem? ed))
   refine FD (d:=d1) (fun A B=>∃ G',Fr g A B/\AI a B g G'/\AN G G' 2400) (AV.of (So:=Ae DE) (No:=FS) (N:=["_law_grove","_law_other","_law_row"]) (k:=0) (cs:=[1,9,11]) rfl rfl (by decide +kernel)) zA.t3 (fun p' c' H6 LH A2 outer2 s2 Q' E' hr hd=>⟨_,(Am E_field_of (rm hr) rfl (Io rfl) (Aa (pv 0) (Bh MR (pv 2) (Di (Aa (pv 1) Ab)) Ab))),?_⟩) (fun H6 H7 HB kp6 tb6 r7 s8=>?_) (fun H1 Q' h=>(xq1 rfl h))
   ·have kp6:Kp P3 HA H6:=LH.st;have z6:=zA.kp n13 n23 kp6 LH.tab;have tk6:∀ {b:Addr} {xs:List V},HA b=some (.tup xs)->H6 b=some (.tup xs):=fun e=>kp6 _ _ (Tab.ne zA.t3 e (by intro _ z; cases z)) e;have hR6:=kp6 _ _ (Tab.ne zA.t3 hA (by intro _ z; cases z)) hA;refine xw3 rfl rfl rfl ⟨(by show 1<=sizeLine; decide),fun M hM=>?_⟩;generalize e7:upd H6 M _=H7;obtain ⟨sm7,h7⟩:=alc' hM e7;refine ⟨R,M,(xq2 rfl rfl ⟨sm7 _ _ hR6,h7,?_,fun N hN=>?_⟩)⟩
    ·rw [List.length_map,lt4];exact Nat.le_of_lt (Eg (by rw [List.length_singleton]; lia))
    generalize e8:upd H7 N _=H8;obtain ⟨sm8,h8⟩:=alc' hN e8;have s68:=sm7.trans sm8;have z8:=z6.same s68;have ap:=Ap.new (z6.same sm7).fu.at' hN;have tk8:∀ {b:Addr} {xs:List V},HA b=some (.tup xs)->H8 b=some (.tup xs):=fun e=>s68 _ _ (tk6 e);refine ⟨g,G,N,(ts.take j ++ o1 :: ts.drop j) ++ [o2],((cs.map toO).take j ++ c1 :: (cs.map toO).drop j) ++ [c2],j,d1,c1,rfl,z8.fu,h8.trans (by rw [List.map_append (l₁:=ts.take j ++ o1 :: ts.drop j)]; rfl),ap.1,ap.2.1,PairedM.imp (fun t c z=>tk8 z) (Paired.app prA (.cons hc2 .nil)),fun c hc=>?_,gd,ins_at (by rw [List.length_map]; exact hjl),bad1,by rw [List.length_append]; show G.length+400 * (((cs.map toO).take j ++ c1 :: (cs.map toO).drop j).length+1) < 8000000; lia,fun G' H' fr' fu' go'=>hd _ H' (QJ T bad1) ⟨G',(Az.fr s68).trans fr',fu',go'.mono (by rw [List.length_append]; show 400 * (((cs.map toO).take j ++ c1 :: (cs.map toO).drop j).length+1)<=2400; lia)⟩⟩;rcases List.mem_append.mp hc with hc | hc
    ·exact odA (ov1.same fun b xs e=>tk8 e) c hc
    ·rw [List.mem_singleton.mp hc];exact ov2.same fun b xs e=>tk8 e
   obtain ⟨G2,fr7,fu7,go7⟩:=r7;have z6:=zA.kp n13 n23 kp6 tb6;have zB:=(z6.fr fr7 fu7).same s8;have tkB:∀ {b:Addr} {xs:List V},HA b=some (.tup xs)->HB b=some (.tup xs):=fun e=>s8 _ _ (fr7.tup z6.fu.at' (kp6 _ _ (Tab.ne zA.t3 e (by intro _ z; cases z)) e));have hB':HB R=some (.lst ((ts.take j ++ o1 :: ts.drop j).map V.ref)):=s8 _ _ ((fr7.gx z6.fu).get nR (kp6 _ _ (Tab.ne zA.t3 hA (by intro _ z; cases z)) hA));have prB:=PairedM.imp (fun t c z=>(tkB z:IQ HB t c)) prA;have hc2:IQ HB o2 c2:=tkB hc2;have ov1:Odd HB c1.v:=ov1.same fun b xs e=>tkB e;have ov2:Odd HB c2.v:=ov2.same fun b xs e=>tkB e;have gf2:=go7.few;have go2:=go.trans go7;clear tkB prA hA z6 zA fr7 fu7 go7 kp6 tb6 s8 hc1 gd;refine ⟨true,rfl,Bv ?_⟩;refine hkc ?_;show tIfS _ _ _ _ _ _;refine FD (d:=d2) (fun A B=>∃ G',Fr g A B/\AI a B g G'/\AN G2 G' 2400) (AV.of (So:=Ae DE) (No:=FS) (N:=["_law_grove","_law_other","_law_row"]) (k:=0) (cs:=[1,9,11]) rfl rfl (by decide +kernel)) zB.t3 (fun p' c' H6 LH A2 outer2 s2 Q' E' hr hd=>⟨_,(Am E_field_of (rm hr) rfl (Io rfl) (Aa (pv 0) (Bh MR (Di (Aa (pv 1) Ab)) (pv 2) Ab))),?_⟩) (fun H6 H7 HC kp6 tb6 r7 s8=>?_) (fun H1 Q' h=>(xq1 rfl h))
   ·have kp6:Kp P3 HB H6:=LH.st;have z6:=zB.kp n13 n23 kp6 LH.tab;have tk6:∀ {b:Addr} {xs:List V},HB b=some (.tup xs)->H6 b=some (.tup xs):=fun e=>kp6 _ _ (Tab.ne zB.t3 e (by intro _ z; cases z)) e;have hR6:=kp6 _ _ (Tab.ne zB.t3 hB' (by intro _ z; cases z)) hB';refine xw2 rfl rfl ⟨(by show 1<=sizeLine; decide),fun M hM=>?_⟩;generalize e7:upd H6 M _=H7;obtain ⟨sm7,h7⟩:=alc' hM e7;refine xq1 rfl ⟨M,R,(xq2 rfl rfl ⟨h7,sm7 _ _ hR6,?_,fun N hN=>?_⟩)⟩
    ·rw [List.length_map,lt4];exact Nat.le_of_lt (Eg (by rw [List.length_singleton]; lia))
    generalize e8:upd H7 N _=H8;obtain ⟨sm8,h8⟩:=alc' hN e8;have s68:=sm7.trans sm8;have z8:=z6.same s68;have ap:=Ap.new (z6.same sm7).fu.at' hN;have tk8:∀ {b:Addr} {xs:List V},HB b=some (.tup xs)->H8 b=some (.tup xs):=fun e=>s68 _ _ (tk6 e);refine ⟨g,G2,N,o2 :: (ts.take j ++ o1 :: ts.drop j),c2 :: ((cs.map toO).take j ++ c1 :: (cs.map toO).drop j),0,d2,c2,rfl,z8.fu,h8,ap.1,ap.2.1,PairedM.imp (fun t c z=>tk8 z) (.cons hc2 prB),fun c hc=>?_,fun _ _ h=>absurd h (Nat.not_lt_zero _),rfl,bad2,by rw [List.length_cons]; lia,fun G' H' fr' fu' go'=>hd _ H' (QJ T bad2) ⟨G',(Az.fr s68).trans fr',fu',go'.mono (by rw [List.length_cons]; lia)⟩⟩;rcases List.mem_cons.mp hc with rfl | hc
    ·exact ov2.same fun b xs e=>tk8 e
    ·exact odA (ov1.same fun b xs e=>tk8 e) c hc
   obtain ⟨G3,fr7,fu7,go7⟩:=r7;have z6:=zB.kp n13 n23 kp6 tb6;have zC:=(z6.fr fr7 fu7).same s8;refine ⟨true,rfl,Bv ?_⟩;exact ⟨G3,_,_,_,_,_,_,_,_,rfl,zC,(go2.trans go7).mono (by lia)⟩
  rintro σ Hx ⟨G,u3,u5,u6,u7,u8,u9,u10,u11,rfl,z,go⟩;have gf:=go.few;have vf:=vf.app z3.fu.ok go;have lf:=go.lev lf;have tf:=tf.app go;refine hk5 ?_;refine BP ?_;intro ra sa ka hka Ea;have tl:=z.d.tl;refine xq1 rfl ⟨C,rfl,⟨_,SqL.of z.d.hL⟩,?_⟩;refine Mr (xs:=ts.map V.ref) (fun i acc H5=>∃ bs:List Addr,acc=bs.map V.ref/\bs.length=i/\Az Hx H5/\Paired (fun b c=>H5 b=some (.tup ((IW c).map V.int))) bs (cs.take i)) ⟨[],rfl,rfl,Az.refl Hx,.nil⟩ (fun i acc H5 _ ⟨_,_,_,sm,_⟩=>SqL.of (sm _ _ z.d.hL)) ?_ ?_
  ·rintro i v acc H5 ev ⟨bs,rfl,lb,sm,pr⟩;rw [List.getElem?_map] at ev;obtain ⟨t,et,rfl⟩:=Option.map_eq_some_iff.mp ev;obtain ⟨c',ec,hc⟩:=PairedM.getL z.d.pr et;have hi:i < cs.length:=(List.getElem?_eq_some_iff.mp ec).1;have hc5:H5 t=some (.tup [.int c'.x,.int c'.y,.int (c'.s:Int)]):=sm _ _ hc;refine gtri hc5 ⟨⟨[some (.int c'.x),some (.int c'.y),some (.int (c'.s:Int))],rfl,rfl⟩,Eg (by rw [List.length_map,lb]; lia),Pq (xw3 rfl rfl rfl ⟨(by show 3<=sizeLine; decide),fun b hb=>?_⟩)⟩;refine ⟨bs ++ [b],by rw [List.map_append]; rfl,by rw [List.length_append,lb]; rfl,sm.trans (same_up hb),?_⟩;rw [List.take_add_one,ec];exact Paired.snoc (PairedM.imp (fun b' c z=>same_up hb _ _ z) pr) Ah
  rintro acc H5 ⟨bs,rfl,lb,sm5,pr⟩ M hM;rw [List.length_map,tl,List.take_length] at pr;rw [List.length_map,tl] at lb;generalize e6:upd H5 M _=H6;obtain ⟨sm6,h6⟩:=alc' hM e6;have pr6:Paired (fun b c=>H6 b=some (.tup ((IW c).map V.int))) bs cs:=PairedM.imp (fun b c z=>sm6 _ _ z) pr;obtain ⟨items,i1,i2,i3⟩:=JV pr6;have li:items.length=cs.length:=by
   have:=congrArg List.length i3;rw [List.length_map,List.length_map] at this;exact this
  refine ⟨M,items,rfl,SqL.of (by rw [i1]; exact h6),by rw [li]; exact Nat.le_trans lc3 (by decide),fun q hq=>⟨i2 q hq,fun z=>?_⟩,fun L out hL pm up=>?_⟩
  ·have:q.2 ∈ items.map (·.2):=List.mem_map.mpr ⟨q,hq,rfl⟩;rw [i3,z] at this;obtain ⟨c',_,e⟩:=List.mem_map.mp this;cases e
  generalize e7:upd H6 L _=H7;obtain ⟨sm7,h7⟩:=alc' hL e7;obtain ⟨es,pe,ee⟩:∃ es:List Cl,es.Perm cs/\es.map IW=out.map (·.2):=Jn (i3 ▸ pm.map (·.2)) cs rfl;have bc:=up_by ee up;have dk:=dsOk_of pe c3.nd c3.s1;have le:es.length<=3:=by rw [pe.length_eq]; exact lc3
  have s57:=(sm5.trans sm6).trans sm7;have z7:=z.same s57;have o7:∀ q ∈ out,H7 q.1=some (.tup (q.2.map V.int)):=fun q hq=>sm7 _ _ (i2 q (pm.mem_iff.mp hq));have nL:L ∉ Bn g:=fun m=>by
   obtain ⟨o,e⟩:=(z.same (sm5.trans sm6)).fu.nw.s L m;rw [hL] at e;cases e
  clear i1 i2 i3 li pr6 pr lb h6 e6 e7 hM hL sm5 sm6 sm7 s57 pm up items bs z;refine hka ?_;refine BP ?_;intro rb sb kb hkb Eb;have fraG:∀ b ∈ frA g,b ∈ Bn g:=fun b hb=>by
   simp only [frA,List.mem_cons,List.not_mem_nil,or_false] at hb;simp only [Bn,List.mem_cons,List.not_mem_nil,or_false];lia
  refine xw2 rfl rfl (co_at z7.fu vf dk bc (Nat.le_trans le (by decide)) (by lia) fun L6 t6 H8 x8 fu8 nL6 hL6 p6=>?_);have x8:=x8.mono fraG;have z8:=z7.fx x8 fu8;have hL8:=x8.get nL h7;have o8:∀ q ∈ out,H8 q.1=some (.tup (q.2.map V.int)):=fun q hq=>x8.tup (o7 q hq);have lo:out.length=es.length:=by
   have:=congrArg List.length ee;rw [List.length_map,List.length_map] at this;exact this.symm
  clear z7 x8 fu8 o7 h7 nL6;refine xq1 rfl ⟨L,rfl,⟨_,SqL.of hL8⟩,?_⟩;refine Mr (xs:=out.map fun q=>V.ref q.1) (fun i acc H5=>∃ bs:List Addr,acc=bs.map V.ref/\bs.length=i/\Az H8 H5/\Paired (Ls H5) bs (es.take i)) ⟨[],rfl,rfl,Az.refl H8,.nil⟩ (fun i acc H5 _ ⟨_,_,_,sm,_⟩=>SqL.of (sm _ _ hL8)) ?_ ?_
  ·rintro i v acc H5 ev ⟨bs,rfl,lb,sm,pr⟩;rw [List.getElem?_map] at ev;obtain ⟨q,eq,rfl⟩:=Option.map_eq_some_iff.mp ev;have hi:i < out.length:=(List.getElem?_eq_some_iff.mp eq).1;obtain ⟨c',ec⟩:∃ c',es[i]?=some c':=⟨_,List.getElem?_eq_getElem (by rw [<-lo]; exact hi)⟩
   have er:q.2=IW c':=by
    have h1:(es.map IW)[i]?=some (IW c'):=by rw [List.getElem?_map,ec]; rfl
    rw [ee,List.getElem?_map,eq] at h1;injection h1
   have hc5:H5 q.1=some (.tup [.int c'.y,.int c'.x,.int (c'.s:Int)]):=by
    have:=sm _ _ (o8 q (List.mem_of_getElem? eq));rw [er] at this;exact this
   refine gtri hc5 ⟨⟨[some (.int c'.y),some (.int c'.x),some (.int (c'.s:Int))],rfl,rfl⟩,Eg (by rw [List.length_map,lb]; lia),Pq (xw3 rfl rfl rfl ⟨(by show 3<=sizeLine; decide),fun b hb=>?_⟩)⟩;refine ⟨bs ++ [b],by rw [List.map_append]; rfl,by rw [List.length_append,lb]; rfl,sm.trans (same_up hb),?_⟩;rw [List.take_add_one,ec];exact Paired.snoc (PairedM.imp (fun b' c z=>(same_up hb _ _ z:Ls _ b' c)) pr) Ah
  rintro acc H9 ⟨bs,rfl,lb,sm9,pr⟩ M hM;rw [List.length_map,lo,List.take_length] at pr;generalize e6:upd H9 M _=HA;obtain ⟨sm6,hA⟩:=alc' hM e6;have s8A:=sm9.trans sm6;have p1:Paired (fun t c=>HA t=some (.tup ((nsC c).map V.int))) t6 es:=PairedM.imp (fun t c z=>s8A _ _ z) p6;have p2:Paired (fun t c=>HA t=some (.tup ((nsC c).map V.int))) bs es:=PairedM.imp (fun t c z=>sm6 _ _ z) pr;obtain ⟨is,i1,i2,i3⟩:=JV p1;obtain ⟨js,j1,j2,j3⟩:=JV p2;refine ⟨⟨L6,M,is,js,rfl,rfl,SqL.of (by rw [i1]; exact s8A _ _ hL6),SqL.of (by rw [j1]; exact hA),i2,j2,i3.trans j3.symm⟩,false,rfl,Bv ?_⟩;have zA:=z8.same s8A;have nC2:Ap g C:=⟨fun e=>zA.nC (by rw [e]; simp [Bn]),fun e=>zA.nC (by rw [e]; simp [Bn]),fun e=>zA.nC (by rw [e]; simp [Bn])⟩
  clear i1 i2 i3 j1 j2 j3 p1 p2 p6 pr hA hL6 e6 hM sm9 sm6 s8A z8 o8 hL8 is js;refine xw2 rfl rfl (QS zA.fu (zA.d.mono (by decide)) nC2 (by lia) fun r G2 HB xB fuB goB vB=>?_);have er:r=f:=Vf.eq (Classical.choose_spec fuB.g0) fuB.ok vB (vf.app zA.fu.ok goB) fun u v=>rfl;subst er;refine xq1 rfl ⟨rfl,(xq1 rfl (Mg rfl ?_))⟩;have zB:=zA.fx (xB.mono fraG) fuB;have gfB:=goB.few;have lfB:=goB.lev lf;have tfB:=tf.app goB;refine hkb ?_;refine xw2 rfl rfl ⟨g,G2,l,ns,rfl,zB.fu,zB.sc,by lia,zB.t1,fun G3 HC fxC fuC goC=>?_⟩;obtain ⟨scC,t2C⟩:=zB.ma (Ne.symm n12) fxC;have gfC:=goC.few;refine ⟨true,rfl,Cw ?_⟩;exact xq1 rfl (xq1 rfl (xq1 rfl ⟨l,ns,1,rfl,scC.seq,by decide,g,G3,r,nf,_,rfl,fuC,goC.lev lfB,nf40,tfB.app goC,by lia,t2C,kQ⟩))
end
end J
namespace J
open PySem L2
theorem ar1 {α:Type}:∀ us:List α,us.length=1->∃ a0,us=[a0]
 | [a0],_=>⟨a0,rfl⟩
theorem ar2 {α:Type}:∀ us:List α,us.length=2->∃ a0 a1,us=[a0,a1]
 | [a0,a1],_=>⟨a0,a1,rfl⟩
theorem ar3 {α:Type}:∀ us:List α,us.length=3->∃ a0 a1 a2,us=[a0,a1,a2]
 | [a0,a1,a2],_=>⟨a0,a1,a2,rfl⟩
theorem ar5 {α:Type}:∀ us:List α,us.length=5->∃ a0 a1 a2 a3 a4,us=[a0,a1,a2,a3,a4]
 | [a0,a1,a2,a3,a4],_=>⟨a0,a1,a2,a3,a4,rfl⟩
theorem fin {l:PySem.W.OpenLaw} {w:World} {K:PySem.W.Frag} {h:Heap} {mg:Str->Option Value} {fa:Addr} (X:K.In h) (G:h.Ns mainGlobals mg) (hfa:mg "law" = some (.ref fa))
  {c_Grove:Addr} {f0:Addr} {od0 an0:Option Addr} {sl0:Array (Option Value)} {oc0 kV0 dc0 pm0 cd0 ct0:Value} {f1:Addr} {od1 an1:Option Addr} {sl1:Array (Option Value)} {oc1 kV1 dc1 pm1 cd1 ct1:Value} {f2:Addr} {od2 an2:Option Addr} {sl2:Array (Option Value)} {oc2 kV2 dc2 pm2 cd2 ct2:Value} {f3:Addr} {od3 an3:Option Addr} {sl3:Array (Option Value)} {oc3 kV3 dc3 pm3 cd3 ct3:Value} {f4:Addr} {od4 an4:Option Addr} {sl4:Array (Option Value)} {oc4 kV4 dc4 pm4 cd4 ct4:Value} {f5:Addr} {od5 an5:Option Addr} {sl5:Array (Option Value)} {oc5 kV5 dc5 pm5 cd5 ct5:Value} {f6:Addr} {od6 an6:Option Addr} {sl6:Array (Option Value)} {oc6 kV6 dc6 pm6 cd6 ct6:Value} {f7:Addr} {od7 an7:Option Addr} {sl7:Array (Option Value)} {oc7 kV7 dc7 pm7 cd7 ct7:Value} {f8:Addr} {od8 an8:Option Addr} {sl8:Array (Option Value)} {oc8 kV8 dc8 pm8 cd8 ct8:Value} {f9:Addr} {od9 an9:Option Addr} {sl9:Array (Option Value)} {oc9 kV9 dc9 pm9 cd9 ct9:Value} {f10:Addr} {od10 an10:Option Addr} {sl10:Array (Option Value)} {oc10 kV10 dc10 pm10 cd10 ct10:Value} {f11:Addr} {od11 an11:Option Addr} {sl11:Array (Option Value)} {oc11 kV11 dc11 pm11 cd11 ct11:Value} {f12:Addr} {od12 an12:Option Addr} {sl12:Array (Option Value)} {oc12 kV12 dc12 pm12 cd12 ct12:Value} {f13:Addr} {od13 an13:Option Addr} {sl13:Array (Option Value)} {oc13 kV13 dc13 pm13 cd13 ct13:Value} {f14:Addr} {od14 an14:Option Addr} {sl14:Array (Option Value)} {oc14 kV14 dc14 pm14 cd14 ct14:Value} {f15:Addr} {od15 an15:Option Addr} {sl15:Array (Option Value)} {oc15 kV15 dc15 pm15 cd15 ct15:Value} {f16:Addr} {od16 an16:Option Addr} {sl16:Array (Option Value)} {oc16 kV16 dc16 pm16 cd16 ct16:Value} {f17:Addr} {od17 an17:Option Addr} {sl17:Array (Option Value)} {oc17 kV17 dc17 pm17 cd17 ct17:Value} {f18:Addr} {od18 an18:Option Addr} {sl18:Array (Option Value)} {oc18 kV18 dc18 pm18 cd18 ct18:Value} {f19:Addr} {od19 an19:Option Addr} {sl19:Array (Option Value)} {oc19 kV19 dc19 pm19 cd19 ct19:Value} {f20:Addr} {od20 an20:Option Addr} {sl20:Array (Option Value)} {oc20 kV20 dc20 pm20 cd20 ct20:Value} {f21:Addr} {od21 an21:Option Addr} {sl21:Array (Option Value)} {oc21 kV21 dc21 pm21 cd21 ct21:Value} {f22:Addr} {od22 an22:Option Addr} {sl22:Array (Option Value)} {oc22 kV22 dc22 pm22 cd22 ct22:Value} {f23:Addr} {od23 an23:Option Addr} {sl23:Array (Option Value)} {oc23 kV23 dc23 pm23 cd23 ct23:Value} {f24:Addr} {od24 an24:Option Addr} {sl24:Array (Option Value)} {oc24 kV24 dc24 pm24 cd24 ct24:Value} {f25:Addr} {od25 an25:Option Addr} {sl25:Array (Option Value)} {oc25 kV25 dc25 pm25 cd25 ct25:Value} {f26:Addr} {od26 an26:Option Addr} {sl26:Array (Option Value)} {oc26 kV26 dc26 pm26 cd26 ct26:Value} {f27:Addr} {od27 an27:Option Addr} {sl27:Array (Option Value)} {oc27 kV27 dc27 pm27 cd27 ct27:Value} {f28:Addr} {od28 an28:Option Addr} {sl28:Array (Option Value)} {oc28 kV28 dc28 pm28 cd28 ct28:Value} {f29:Addr} {od29 an29:Option Addr} {sl29:Array (Option Value)} {oc29 kV29 dc29 pm29 cd29 ct29:Value} {f30:Addr} {od30 an30:Option Addr} {sl30:Array (Option Value)} {oc30 kV30 dc30 pm30 cd30 ct30:Value} {f31:Addr} {od31 an31:Option Addr} {sl31:Array (Option Value)} {oc31 kV31 dc31 pm31 cd31 ct31:Value} {f32:Addr} {od32 an32:Option Addr} {sl32:Array (Option Value)} {oc32 kV32 dc32 pm32 cd32 ct32:Value} {f33:Addr} {od33 an33:Option Addr} {sl33:Array (Option Value)} {oc33 kV33 dc33 pm33 cd33 ct33:Value} {t_STATES:Tok} {t_TOP_LEVEL:Tok} {t_LIMIT:Tok} {t_LEAST_LEVEL:Tok} {t_MOST_CELLS:Tok} {x_FieldError:Addr} {x_NoSquare:Addr} {x_NoLevel:Addr} {x_NoState:Addr} {x_TooFar:Addr} {x_TooMany:Addr}
  (cQ:PySem.W.nsIn K mainGlobals "Grove" = some (some (.ref c_Grove)))
  (pg_Grove:PySem.W.plainGet K c_Grove Str.empty=true)
  (hd_Grove:PySem.W.hasDictIn K c_Grove=true)
  (po_Grove:PySem.W.plainOver K c_Grove=true)
  (sa_Grove:PySem.W.findIn K (.ref c_Grove) "__setattr__" = some (some (.builtin "object.__setattr__")))
  (mk_Grove:PySem.W.makesIn K c_Grove=true)
  (kc_Grove:PySem.W.keepIn K (.ref c_Grove)=true)
  (na_Grove_levels:PySem.W.findIn K (.ref c_Grove) "levels" = some none)
  (na_Grove_parts:PySem.W.findIn K (.ref c_Grove) "parts" = some none)
  (na_Grove_numbers:PySem.W.findIn K (.ref c_Grove) "numbers" = some none)
  (na_Grove_bares:PySem.W.findIn K (.ref c_Grove) "bares" = some none)
  (na_Grove_amounts:PySem.W.findIn K (.ref c_Grove) "amounts" = some none)
  (na_Grove_boxes:PySem.W.findIn K (.ref c_Grove) "boxes" = some none)
  (a0:PySem.W.nsIn K mainGlobals "is_whole" = some (some (.ref f0)))
  (l0:K.lookup f0=some ⟨oc0,od0,.func (PySem.W.fnOf "is_whole" "is_whole" (Ax CT) (Au CT) (Ae CT) .none kV0 dc0 pm0 an0 cd0 ct0),sl0⟩)
  (c0:PySem.W.codeIn K cd0 "is_whole" = true)
  (k0:PySem.W.keepIn K (.ref f0)=true)
  (a1:PySem.W.nsIn K mainGlobals "is_state" = some (some (.ref f1)))
  (l1:K.lookup f1=some ⟨oc1,od1,.func (PySem.W.fnOf "is_state" "is_state" (Ax CU) (Au CU) (Ae CU) .none kV1 dc1 pm1 an1 cd1 ct1),sl1⟩)
  (c1:PySem.W.codeIn K cd1 "is_state" = true)
  (k1:PySem.W.keepIn K (.ref f1)=true)
  (a2:PySem.W.nsIn K mainGlobals "lies_within" = some (some (.ref f2)))
  (l2:K.lookup f2=some ⟨oc2,od2,.func (PySem.W.fnOf "lies_within" "lies_within" (Ax Ck) (Au Ck) (Ae Ck) .none kV2 dc2 pm2 an2 cd2 ct2),sl2⟩)
  (c2:PySem.W.codeIn K cd2 "lies_within" = true)
  (k2:PySem.W.keepIn K (.ref f2)=true)
  (a3:PySem.W.nsIn K mainGlobals "reach_of" = some (some (.ref f3)))
  (l3:K.lookup f3=some ⟨oc3,od3,.func (PySem.W.fnOf "reach_of" "reach_of" (Ax Dv) (Au Dv) (Ae Dv) .none kV3 dc3 pm3 an3 cd3 ct3),sl3⟩)
  (c3:PySem.W.codeIn K cd3 "reach_of" = true)
  (k3:PySem.W.keepIn K (.ref f3)=true)
  (a4:PySem.W.nsIn K mainGlobals "bare_field" = some (some (.ref f4)))
  (l4:K.lookup f4=some ⟨oc4,od4,.func (PySem.W.fnOf "bare_field" "bare_field" (Ax CF) (Au CF) (Ae CF) .none kV4 dc4 pm4 an4 cd4 ct4),sl4⟩)
  (c4:PySem.W.codeIn K cd4 "bare_field" = true)
  (k4:PySem.W.keepIn K (.ref f4)=true)
  (a5:PySem.W.nsIn K mainGlobals "widened" = some (some (.ref f5)))
  (l5:K.lookup f5=some ⟨oc5,od5,.func (PySem.W.fnOf "widened" "widened" (Ax Ds) (Au Ds) (Ae Ds) .none kV5 dc5 pm5 an5 cd5 ct5),sl5⟩)
  (c5:PySem.W.codeIn K cd5 "widened" = true)
  (k5:PySem.W.keepIn K (.ref f5)=true)
  (a6:PySem.W.nsIn K mainGlobals "trimmed" = some (some (.ref f6)))
  (l6:K.lookup f6=some ⟨oc6,od6,.func (PySem.W.fnOf "trimmed" "trimmed" (Ax Dt) (Au Dt) (Ae Dt) .none kV6 dc6 pm6 an6 cd6 ct6),sl6⟩)
  (c6:PySem.W.codeIn K cd6 "trimmed" = true)
  (k6:PySem.W.keepIn K (.ref f6)=true)
  (a7:PySem.W.nsIn K mainGlobals "middle_of" = some (some (.ref f7)))
  (l7:K.lookup f7=some ⟨oc7,od7,.func (PySem.W.fnOf "middle_of" "middle_of" (Ax CA) (Au CA) (Ae CA) .none kV7 dc7 pm7 an7 cd7 ct7),sl7⟩)
  (c7:PySem.W.codeIn K cd7 "middle_of" = true)
  (k7:PySem.W.keepIn K (.ref f7)=true)
  (a8:PySem.W.nsIn K mainGlobals "is_bare_around" = some (some (.ref f8)))
  (l8:K.lookup f8=some ⟨oc8,od8,.func (PySem.W.fnOf "is_bare_around" "is_bare_around" (Ax Bq) (Au Bq) (Ae Bq) .none kV8 dc8 pm8 an8 cd8 ct8),sl8⟩)
  (c8:PySem.W.codeIn K cd8 "is_bare_around" = true)
  (k8:PySem.W.keepIn K (.ref f8)=true)
  (a9:PySem.W.nsIn K mainGlobals "widened_over" = some (some (.ref f9)))
  (l9:K.lookup f9=some ⟨oc9,od9,.func (PySem.W.fnOf "widened_over" "widened_over" (Ax BR) (Au BR) (Ae BR) .none kV9 dc9 pm9 an9 cd9 ct9),sl9⟩)
  (c9:PySem.W.codeIn K cd9 "widened_over" = true)
  (k9:PySem.W.keepIn K (.ref f9)=true)
  (a10:PySem.W.nsIn K mainGlobals "planted" = some (some (.ref f10)))
  (l10:K.lookup f10=some ⟨oc10,od10,.func (PySem.W.fnOf "planted" "planted" (Ax Dw) (Au Dw) (Ae Dw) .none kV10 dc10 pm10 an10 cd10 ct10),sl10⟩)
  (c10:PySem.W.codeIn K cd10 "planted" = true)
  (k10:PySem.W.keepIn K (.ref f10)=true)
  (a11:PySem.W.nsIn K mainGlobals "replaced" = some (some (.ref f11)))
  (l11:K.lookup f11=some ⟨oc11,od11,.func (PySem.W.fnOf "replaced" "replaced" (Ax Du) (Au Du) (Ae Du) .none kV11 dc11 pm11 an11 cd11 ct11),sl11⟩)
  (c11:PySem.W.codeIn K cd11 "replaced" = true)
  (k11:PySem.W.keepIn K (.ref f11)=true)
  (a12:PySem.W.nsIn K mainGlobals "field_of" = some (some (.ref f12)))
  (l12:K.lookup f12=some ⟨oc12,od12,.func (PySem.W.fnOf "field_of" "field_of" (Ax CV) (Au CV) (Ae CV) .none kV12 dc12 pm12 an12 cd12 ct12),sl12⟩)
  (c12:PySem.W.codeIn K cd12 "field_of" = true)
  (k12:PySem.W.keepIn K (.ref f12)=true)
  (a13:PySem.W.nsIn K mainGlobals "by_rows" = some (some (.ref f13)))
  (l13:K.lookup f13=some ⟨oc13,od13,.func (PySem.W.fnOf "by_rows" "by_rows" (Ax DM) (Au DM) (Ae DM) .none kV13 dc13 pm13 an13 cd13 ct13),sl13⟩)
  (c13:PySem.W.codeIn K cd13 "by_rows" = true)
  (k13:PySem.W.keepIn K (.ref f13)=true)
  (a14:PySem.W.nsIn K mainGlobals "cells_of" = some (some (.ref f14)))
  (l14:K.lookup f14=some ⟨oc14,od14,.func (PySem.W.fnOf "cells_of" "cells_of" (Ax CW) (Au CW) (Ae CW) .none kV14 dc14 pm14 an14 cd14 ct14),sl14⟩)
  (c14:PySem.W.codeIn K cd14 "cells_of" = true)
  (k14:PySem.W.keepIn K (.ref f14)=true)
  (a15:PySem.W.nsIn K mainGlobals "gather_cells" = some (some (.ref f15)))
  (l15:K.lookup f15=some ⟨oc15,od15,.func (PySem.W.fnOf "gather_cells" "gather_cells" (Ax BS) (Au BS) (Ae BS) .none kV15 dc15 pm15 an15 cd15 ct15),sl15⟩)
  (c15:PySem.W.codeIn K cd15 "gather_cells" = true)
  (k15:PySem.W.keepIn K (.ref f15)=true)
  (a16:PySem.W.nsIn K mainGlobals "_law_at" = some (some (.ref f16)))
  (l16:K.lookup f16=some ⟨oc16,od16,.func (PySem.W.fnOf "_law_at" "_law_at" (Ax DN) (Au DN) (Ae DN) .none kV16 dc16 pm16 an16 cd16 ct16),sl16⟩)
  (c16:PySem.W.codeIn K cd16 "_law_at" = true)
  (k16:PySem.W.keepIn K (.ref f16)=true)
  (a17:PySem.W.nsIn K mainGlobals "_law_refused" = some (some (.ref f17)))
  (l17:K.lookup f17=some ⟨oc17,od17,.func (PySem.W.fnOf "_law_refused" "_law_refused" (Ax Bz) (Au Bz) (Ae Bz) .none kV17 dc17 pm17 an17 cd17 ct17),sl17⟩)
  (c17:PySem.W.codeIn K cd17 "_law_refused" = true)
  (k17:PySem.W.keepIn K (.ref f17)=true)
  (a18:PySem.W.nsIn K mainGlobals "_law_no_state" = some (some (.ref f18)))
  (l18:K.lookup f18=some ⟨oc18,od18,.func (PySem.W.fnOf "_law_no_state" "_law_no_state" (Ax BJ) (Au BJ) (Ae BJ) .none kV18 dc18 pm18 an18 cd18 ct18),sl18⟩)
  (c18:PySem.W.codeIn K cd18 "_law_no_state" = true)
  (k18:PySem.W.keepIn K (.ref f18)=true)
  (a19:PySem.W.nsIn K mainGlobals "_law_far_place" = some (some (.ref f19)))
  (l19:K.lookup f19=some ⟨oc19,od19,.func (PySem.W.fnOf "_law_far_place" "_law_far_place" (Ax Br) (Au Br) (Ae Br) .none kV19 dc19 pm19 an19 cd19 ct19),sl19⟩)
  (c19:PySem.W.codeIn K cd19 "_law_far_place" = true)
  (k19:PySem.W.keepIn K (.ref f19)=true)
  (a20:PySem.W.nsIn K mainGlobals "_law_odd_cell" = some (some (.ref f20)))
  (l20:K.lookup f20=some ⟨oc20,od20,.func (PySem.W.fnOf "_law_odd_cell" "_law_odd_cell" (Ax BI) (Au BI) (Ae BI) .none kV20 dc20 pm20 an20 cd20 ct20),sl20⟩)
  (c20:PySem.W.codeIn K cd20 "_law_odd_cell" = true)
  (k20:PySem.W.keepIn K (.ref f20)=true)
  (a21:PySem.W.nsIn K mainGlobals "_law_many" = some (some (.ref f21)))
  (l21:K.lookup f21=some ⟨oc21,od21,.func (PySem.W.fnOf "_law_many" "_law_many" (Ax Bp) (Au Bp) (Ae Bp) .none kV21 dc21 pm21 an21 cd21 ct21),sl21⟩)
  (cq__law_many:cd21=.ref 360)
  (c21:PySem.W.codeIn K cd21 "_law_many" = true)
  (k21:PySem.W.keepIn K (.ref f21)=true)
  (a22:PySem.W.nsIn K mainGlobals "_law_levels" = some (some (.ref f22)))
  (l22:K.lookup f22=some ⟨oc22,od22,.func (PySem.W.fnOf "_law_levels" "_law_levels" (Ax AX) (Au AX) (Ae AX) .none kV22 dc22 pm22 an22 cd22 ct22),sl22⟩)
  (cq__law_levels:cd22=.ref 367)
  (c22:PySem.W.codeIn K cd22 "_law_levels" = true)
  (k22:PySem.W.keepIn K (.ref f22)=true)
  (a23:PySem.W.nsIn K mainGlobals "law" = some (some (.ref f23)))
  (l23:K.lookup f23=some ⟨oc23,od23,.func (PySem.W.fnOf "law" "law" (Ax DE) (Au DE) (Ae DE) .none kV23 dc23 pm23 an23 cd23 ct23),sl23⟩)
  (cq_law:cd23=.ref 372)
  (c23:PySem.W.codeIn K cd23 "law" = true)
  (k23:PySem.W.keepIn K (.ref f23)=true)
  (a24:PySem.W.findIn K (.ref c_Grove) "__init__" = some (some (.ref f24)))
  (i24:PySem.W.isFn K (.ref f24)=true)
  (l24:K.lookup f24=some ⟨oc24,od24,.func (PySem.W.fnOf "__init__" "Grove.__init__" (Ax CI) (Au CI) (Ae CI) .none kV24 dc24 pm24 an24 cd24 ct24),sl24⟩)
  (c24:PySem.W.codeIn K cd24 "Grove.__init__" = true)
  (k24:PySem.W.keepIn K (.ref f24)=true)
  (a25:PySem.W.findIn K (.ref c_Grove) "kept" = some (some (.ref f25)))
  (i25:PySem.W.isFn K (.ref f25)=true)
  (l25:K.lookup f25=some ⟨oc25,od25,.func (PySem.W.fnOf "kept" "Grove.kept" (Ax CH) (Au CH) (Ae CH) .none kV25 dc25 pm25 an25 cd25 ct25),sl25⟩)
  (c25:PySem.W.codeIn K cd25 "Grove.kept" = true)
  (k25:PySem.W.keepIn K (.ref f25)=true)
  (a26:PySem.W.findIn K (.ref c_Grove) "linked" = some (some (.ref f26)))
  (i26:PySem.W.isFn K (.ref f26)=true)
  (l26:K.lookup f26=some ⟨oc26,od26,.func (PySem.W.fnOf "linked" "Grove.linked" (Ax BU) (Au BU) (Ae BU) .none kV26 dc26 pm26 an26 cd26 ct26),sl26⟩)
  (c26:PySem.W.codeIn K cd26 "Grove.linked" = true)
  (k26:PySem.W.keepIn K (.ref f26)=true)
  (a27:PySem.W.findIn K (.ref c_Grove) "check_square" = some (some (.ref f27)))
  (i27:PySem.W.isFn K (.ref f27)=true)
  (l27:K.lookup f27=some ⟨oc27,od27,.func (PySem.W.fnOf "check_square" "Grove.check_square" (Ax AK) (Au AK) (Ae AK) .none kV27 dc27 pm27 an27 cd27 ct27),sl27⟩)
  (c27:PySem.W.codeIn K cd27 "Grove.check_square" = true)
  (k27:PySem.W.keepIn K (.ref f27)=true)
  (a28:PySem.W.findIn K (.ref c_Grove) "leaf" = some (some (.ref f28)))
  (i28:PySem.W.isFn K (.ref f28)=true)
  (l28:K.lookup f28=some ⟨oc28,od28,.func (PySem.W.fnOf "leaf" "Grove.leaf" (Ax CG) (Au CG) (Ae CG) .none kV28 dc28 pm28 an28 cd28 ct28),sl28⟩)
  (c28:PySem.W.codeIn K cd28 "Grove.leaf" = true)
  (k28:PySem.W.keepIn K (.ref f28)=true)
  (a29:PySem.W.findIn K (.ref c_Grove) "solid" = some (some (.ref f29)))
  (i29:PySem.W.isFn K (.ref f29)=true)
  (l29:K.lookup f29=some ⟨oc29,od29,.func (PySem.W.fnOf "solid" "Grove.solid" (Ax Cm) (Au Cm) (Ae Cm) .none kV29 dc29 pm29 an29 cd29 ct29),sl29⟩)
  (c29:PySem.W.codeIn K cd29 "Grove.solid" = true)
  (k29:PySem.W.keepIn K (.ref f29)=true)
  (a30:PySem.W.findIn K (.ref c_Grove) "level_of" = some (some (.ref f30)))
  (i30:PySem.W.isFn K (.ref f30)=true)
  (l30:K.lookup f30=some ⟨oc30,od30,.func (PySem.W.fnOf "level_of" "Grove.level_of" (Ax Ba) (Au Ba) (Ae Ba) .none kV30 dc30 pm30 an30 cd30 ct30),sl30⟩)
  (c30:PySem.W.codeIn K cd30 "Grove.level_of" = true)
  (k30:PySem.W.keepIn K (.ref f30)=true)
  (a31:PySem.W.findIn K (.ref c_Grove) "state_of" = some (some (.ref f31)))
  (i31:PySem.W.isFn K (.ref f31)=true)
  (l31:K.lookup f31=some ⟨oc31,od31,.func (PySem.W.fnOf "state_of" "Grove.state_of" (Ax Bs) (Au Bs) (Ae Bs) .none kV31 dc31 pm31 an31 cd31 ct31),sl31⟩)
  (c31:PySem.W.codeIn K cd31 "Grove.state_of" = true)
  (k31:PySem.W.keepIn K (.ref f31)=true)
  (a32:PySem.W.findIn K (.ref c_Grove) "living" = some (some (.ref f32)))
  (i32:PySem.W.isFn K (.ref f32)=true)
  (l32:K.lookup f32=some ⟨oc32,od32,.func (PySem.W.fnOf "living" "Grove.living" (Ax BT) (Au BT) (Ae BT) .none kV32 dc32 pm32 an32 cd32 ct32),sl32⟩)
  (c32:PySem.W.codeIn K cd32 "Grove.living" = true)
  (k32:PySem.W.keepIn K (.ref f32)=true)
  (a33:PySem.W.findIn K (.ref c_Grove) "counted" = some (some (.ref f33)))
  (i33:PySem.W.isFn K (.ref f33)=true)
  (l33:K.lookup f33=some ⟨oc33,od33,.func (PySem.W.fnOf "counted" "Grove.counted" (Ax Bj) (Au Bj) (Ae Bj) .none kV33 dc33 pm33 an33 cd33 ct33),sl33⟩)
  (c33:PySem.W.codeIn K cd33 "Grove.counted" = true)
  (k33:PySem.W.keepIn K (.ref f33)=true)
  (z_bool:PySem.W.nsIn K mainGlobals "bool" = some none)
  (z_enumerate:PySem.W.nsIn K mainGlobals "enumerate" = some none)
  (z_int:PySem.W.nsIn K mainGlobals "int" = some none)
  (z_isinstance:PySem.W.nsIn K mainGlobals "isinstance" = some none)
  (z_len:PySem.W.nsIn K mainGlobals "len" = some none)
  (z_list:PySem.W.nsIn K mainGlobals "list" = some none)
  (z_max:PySem.W.nsIn K mainGlobals "max" = some none)
  (z_min:PySem.W.nsIn K mainGlobals "min" = some none)
  (z_range:PySem.W.nsIn K mainGlobals "range" = some none)
  (z_sorted:PySem.W.nsIn K mainGlobals "sorted" = some none)
  (z_sum:PySem.W.nsIn K mainGlobals "sum" = some none)
  (z_tuple:PySem.W.nsIn K mainGlobals "tuple" = some none)
  (g_STATES:PySem.W.nsIn K mainGlobals "STATES" = some (some (.int 8 t_STATES)))
  (g_TOP_LEVEL:PySem.W.nsIn K mainGlobals "TOP_LEVEL" = some (some (.int 48 t_TOP_LEVEL)))
  (g_LIMIT:PySem.W.nsIn K mainGlobals "LIMIT" = some (some (.int 1099511627776 t_LIMIT)))
  (g_LEAST_LEVEL:PySem.W.nsIn K mainGlobals "LEAST_LEVEL" = some (some (.int 1 t_LEAST_LEVEL)))
  (g_MOST_CELLS:PySem.W.nsIn K mainGlobals "MOST_CELLS" = some (some (.int 4096 t_MOST_CELLS)))
  (z_ValueError:PySem.W.nsIn K mainGlobals "ValueError" = some none)
  (nx_FieldError:PySem.W.nsIn K mainGlobals "FieldError" = some (some (.ref x_FieldError)))
  (nx_NoSquare:PySem.W.nsIn K mainGlobals "NoSquare" = some (some (.ref x_NoSquare)))
  (nx_NoLevel:PySem.W.nsIn K mainGlobals "NoLevel" = some (some (.ref x_NoLevel)))
  (nx_NoState:PySem.W.nsIn K mainGlobals "NoState" = some (some (.ref x_NoState)))
  (nx_TooFar:PySem.W.nsIn K mainGlobals "TooFar" = some (some (.ref x_TooFar)))
  (nx_TooMany:PySem.W.nsIn K mainGlobals "TooMany" = some (some (.ref x_TooMany)))
  (ec_NoSquare:Ez K x_NoSquare)
  (ec_NoLevel:Ez K x_NoLevel)
  (ec_NoState:Ez K x_NoState)
  (ec_TooFar:Ez K x_TooFar)
  (ec_TooMany:Ez K x_TooMany)
  (ec_FieldError:Ez K x_FieldError)
  (xf_NoSquare_0:PySem.W.hasDictIn K x_NoSquare=true)
  (xf_NoSquare_1:PySem.W.findIn K (.ref x_NoSquare) "__getattribute__" = some (some (.builtin "BaseException.__getattribute__")))
  (xf_NoSquare_2:PySem.W.findIn K (.ref x_NoSquare) "__getattr__" = some none)
  (xf_NoSquare_3:PySem.W.findIn K (.ref x_NoSquare) "__class__" = some (some (.builtin "object.__class__")))
  (xf_4:PySem.W.specialIn K (.builtin "object.__class__") "__get__" = some (some (.builtin "getset_descriptor.__get__")))
  (xf_5:PySem.W.takesIn K (.builtin "object.__class__")=some true)
  (xf_NoSquare_6:PySem.W.mroIn K x_NoSquare (.type "object")=some true)
  (xf_NoSquare_7:PySem.W.mroIn K x_NoSquare (.type "BaseException")=some true)
  (mr_NoSquare:PySem.W.mroIn K x_NoSquare (.ref x_FieldError)=some true)
  (kv_NoSquare:PySem.W.kitOne K (.ref x_NoSquare) (.type "ValueError")=some true)
  (ki_NoSquare_NoSquare:PySem.W.kitOne K (.ref x_NoSquare) (.ref x_NoSquare)=some true)
  (ki_NoSquare_NoLevel:PySem.W.kitOne K (.ref x_NoSquare) (.ref x_NoLevel)=some false)
  (ki_NoSquare_NoState:PySem.W.kitOne K (.ref x_NoSquare) (.ref x_NoState)=some false)
  (ki_NoSquare_TooFar:PySem.W.kitOne K (.ref x_NoSquare) (.ref x_TooFar)=some false)
  (ki_NoSquare_TooMany:PySem.W.kitOne K (.ref x_NoSquare) (.ref x_TooMany)=some false)
  (xf_NoLevel_0:PySem.W.hasDictIn K x_NoLevel=true)
  (xf_NoLevel_1:PySem.W.findIn K (.ref x_NoLevel) "__getattribute__" = some (some (.builtin "BaseException.__getattribute__")))
  (xf_NoLevel_2:PySem.W.findIn K (.ref x_NoLevel) "__getattr__" = some none)
  (xf_NoLevel_3:PySem.W.findIn K (.ref x_NoLevel) "__class__" = some (some (.builtin "object.__class__")))
  (xf_NoLevel_6:PySem.W.mroIn K x_NoLevel (.type "object")=some true)
  (xf_NoLevel_7:PySem.W.mroIn K x_NoLevel (.type "BaseException")=some true)
  (mr_NoLevel:PySem.W.mroIn K x_NoLevel (.ref x_FieldError)=some true)
  (kv_NoLevel:PySem.W.kitOne K (.ref x_NoLevel) (.type "ValueError")=some true)
  (ki_NoLevel_NoSquare:PySem.W.kitOne K (.ref x_NoLevel) (.ref x_NoSquare)=some false)
  (ki_NoLevel_NoLevel:PySem.W.kitOne K (.ref x_NoLevel) (.ref x_NoLevel)=some true)
  (ki_NoLevel_NoState:PySem.W.kitOne K (.ref x_NoLevel) (.ref x_NoState)=some false)
  (ki_NoLevel_TooFar:PySem.W.kitOne K (.ref x_NoLevel) (.ref x_TooFar)=some false)
  (ki_NoLevel_TooMany:PySem.W.kitOne K (.ref x_NoLevel) (.ref x_TooMany)=some false)
  (xf_NoState_0:PySem.W.hasDictIn K x_NoState=true)
  (xf_NoState_1:PySem.W.findIn K (.ref x_NoState) "__getattribute__" = some (some (.builtin "BaseException.__getattribute__")))
  (xf_NoState_2:PySem.W.findIn K (.ref x_NoState) "__getattr__" = some none)
  (xf_NoState_3:PySem.W.findIn K (.ref x_NoState) "__class__" = some (some (.builtin "object.__class__")))
  (xf_NoState_6:PySem.W.mroIn K x_NoState (.type "object")=some true)
  (xf_NoState_7:PySem.W.mroIn K x_NoState (.type "BaseException")=some true)
  (mr_NoState:PySem.W.mroIn K x_NoState (.ref x_FieldError)=some true)
  (kv_NoState:PySem.W.kitOne K (.ref x_NoState) (.type "ValueError")=some true)
  (ki_NoState_NoSquare:PySem.W.kitOne K (.ref x_NoState) (.ref x_NoSquare)=some false)
  (ki_NoState_NoLevel:PySem.W.kitOne K (.ref x_NoState) (.ref x_NoLevel)=some false)
  (ki_NoState_NoState:PySem.W.kitOne K (.ref x_NoState) (.ref x_NoState)=some true)
  (ki_NoState_TooFar:PySem.W.kitOne K (.ref x_NoState) (.ref x_TooFar)=some false)
  (ki_NoState_TooMany:PySem.W.kitOne K (.ref x_NoState) (.ref x_TooMany)=some false)
  (xf_TooFar_0:PySem.W.hasDictIn K x_TooFar=true)
  (xf_TooFar_1:PySem.W.findIn K (.ref x_TooFar) "__getattribute__" = some (some (.builtin "BaseException.__getattribute__")))
  (xf_TooFar_2:PySem.W.findIn K (.ref x_TooFar) "__getattr__" = some none)
  (xf_TooFar_3:PySem.W.findIn K (.ref x_TooFar) "__class__" = some (some (.builtin "object.__class__")))
  (xf_TooFar_6:PySem.W.mroIn K x_TooFar (.type "object")=some true)
  (xf_TooFar_7:PySem.W.mroIn K x_TooFar (.type "BaseException")=some true)
  (mr_TooFar:PySem.W.mroIn K x_TooFar (.ref x_FieldError)=some true)
  (kv_TooFar:PySem.W.kitOne K (.ref x_TooFar) (.type "ValueError")=some true)
  (ki_TooFar_NoSquare:PySem.W.kitOne K (.ref x_TooFar) (.ref x_NoSquare)=some false)
  (ki_TooFar_NoLevel:PySem.W.kitOne K (.ref x_TooFar) (.ref x_NoLevel)=some false)
  (ki_TooFar_NoState:PySem.W.kitOne K (.ref x_TooFar) (.ref x_NoState)=some false)
  (ki_TooFar_TooFar:PySem.W.kitOne K (.ref x_TooFar) (.ref x_TooFar)=some true)
  (ki_TooFar_TooMany:PySem.W.kitOne K (.ref x_TooFar) (.ref x_TooMany)=some false)
  (xf_TooMany_0:PySem.W.hasDictIn K x_TooMany=true)
  (xf_TooMany_1:PySem.W.findIn K (.ref x_TooMany) "__getattribute__" = some (some (.builtin "BaseException.__getattribute__")))
  (xf_TooMany_2:PySem.W.findIn K (.ref x_TooMany) "__getattr__" = some none)
  (xf_TooMany_3:PySem.W.findIn K (.ref x_TooMany) "__class__" = some (some (.builtin "object.__class__")))
  (xf_TooMany_6:PySem.W.mroIn K x_TooMany (.type "object")=some true)
  (xf_TooMany_7:PySem.W.mroIn K x_TooMany (.type "BaseException")=some true)
  (mr_TooMany:PySem.W.mroIn K x_TooMany (.ref x_FieldError)=some true)
  (kv_TooMany:PySem.W.kitOne K (.ref x_TooMany) (.type "ValueError")=some true)
  (ki_TooMany_NoSquare:PySem.W.kitOne K (.ref x_TooMany) (.ref x_NoSquare)=some false)
  (ki_TooMany_NoLevel:PySem.W.kitOne K (.ref x_TooMany) (.ref x_NoLevel)=some false)
  (ki_TooMany_NoState:PySem.W.kitOne K (.ref x_TooMany) (.ref x_NoState)=some false)
  (ki_TooMany_TooFar:PySem.W.kitOne K (.ref x_TooMany) (.ref x_TooFar)=some false)
  (ki_TooMany_TooMany:PySem.W.kitOne K (.ref x_TooMany) (.ref x_TooMany)=some true)
  : ∃ fd:FuncData,(∀ (s:Shared) (v:Value),BindsTo s fd ⟨[v],[]⟩ [("_law_script",v)])/\∀ base:Heap,K.In base->base.Ns mainGlobals mg->Blt mg base->(∀ q ∈ ([(360,356),(367,363),(372,370)]:List (Addr×Addr)),PySem.W.CodeHd base q.1 q.2)->AW l.prog w K mg base CX0 60 fa fd ["_law_script"] (JK K 356 363 370):=by
 have e:=hfa.symm.trans (PySem.W.mg_of X G a23);cases e;have no:∀ {x:Str},PySem.W.nsIn K mainGlobals x=some none->mg x=none:=fun z=>PySem.W.mg_none_of X G z;have T:Top K mg (⟨c_Grove,x_FieldError,x_NoSquare,x_NoLevel,x_NoState,x_TooFar,x_TooMany⟩:Ad):=⟨no z_bool,no z_enumerate,no z_int,no z_isinstance,no z_len,no z_list,no z_max,no z_min,no z_range,no z_sorted,no z_sum,no z_tuple,⟨t_STATES,PySem.W.mg_of X G g_STATES⟩,⟨t_TOP_LEVEL,PySem.W.mg_of X G g_TOP_LEVEL⟩,⟨t_LIMIT,PySem.W.mg_of X G g_LIMIT⟩,⟨t_LEAST_LEVEL,PySem.W.mg_of X G g_LEAST_LEVEL⟩,⟨t_MOST_CELLS,PySem.W.mg_of X G g_MOST_CELLS⟩,PySem.W.mg_of X G cQ,⟨pg_Grove,hd_Grove,po_Grove,sa_Grove⟩,na_Grove_levels,na_Grove_parts,na_Grove_numbers,na_Grove_bares,na_Grove_amounts,na_Grove_boxes,no z_ValueError,PySem.W.mg_of X G nx_FieldError,PySem.W.mg_of X G nx_NoSquare,PySem.W.mg_of X G nx_NoLevel,PySem.W.mg_of X G nx_NoState,PySem.W.mg_of X G nx_TooFar,PySem.W.mg_of X G nx_TooMany,ec_NoSquare,ec_NoLevel,ec_NoState,ec_TooFar,ec_TooMany,ec_FieldError,⟨xf_NoSquare_0,xf_NoSquare_1,xf_NoSquare_2,xf_NoSquare_3,xf_4,xf_5,xf_NoSquare_6,xf_NoSquare_7⟩,mr_NoSquare,kv_NoSquare,ki_NoSquare_NoSquare,ki_NoSquare_NoLevel,ki_NoSquare_NoState,ki_NoSquare_TooFar,ki_NoSquare_TooMany,⟨xf_NoLevel_0,xf_NoLevel_1,xf_NoLevel_2,xf_NoLevel_3,xf_4,xf_5,xf_NoLevel_6,xf_NoLevel_7⟩,mr_NoLevel,kv_NoLevel,ki_NoLevel_NoSquare,ki_NoLevel_NoLevel,ki_NoLevel_NoState,ki_NoLevel_TooFar,ki_NoLevel_TooMany,⟨xf_NoState_0,xf_NoState_1,xf_NoState_2,xf_NoState_3,xf_4,xf_5,xf_NoState_6,xf_NoState_7⟩,mr_NoState,kv_NoState,ki_NoState_NoSquare,ki_NoState_NoLevel,ki_NoState_NoState,ki_NoState_TooFar,ki_NoState_TooMany,⟨xf_TooFar_0,xf_TooFar_1,xf_TooFar_2,xf_TooFar_3,xf_4,xf_5,xf_TooFar_6,xf_TooFar_7⟩,mr_TooFar,kv_TooFar,ki_TooFar_NoSquare,ki_TooFar_NoLevel,ki_TooFar_NoState,ki_TooFar_TooFar,ki_TooFar_TooMany,⟨xf_TooMany_0,xf_TooMany_1,xf_TooMany_2,xf_TooMany_3,xf_4,xf_5,xf_TooMany_6,xf_TooMany_7⟩,mr_TooMany,kv_TooMany,ki_TooMany_NoSquare,ki_TooMany_NoLevel,ki_TooMany_NoState,ki_TooMany_TooFar,ki_TooMany_TooMany⟩
 have bI:=AM (x:="is_whole") (qual:="is_whole") (st:=CT) l0 c0 k0;have dM:=bI.binds (ps:=BB) fun _ _ _ _ _ _ us hl=>by obtain ⟨x0,rfl⟩:=ar1 us hl; exact rfl
 have dB:=PySem.W.mg_of X G a0;have bJ:=AM (x:="is_state") (qual:="is_state") (st:=CU) l1 c1 k1;have dN:=bJ.binds (ps:=Cc) fun _ _ _ _ _ _ us hl=>by obtain ⟨x0,rfl⟩:=ar1 us hl; exact rfl
 have dC:=PySem.W.mg_of X G a1;have bO:=AM (x:="lies_within") (qual:="lies_within") (st:=Ck) l2 c2 k2;have dY:=bO.binds (ps:=BN) fun _ _ _ _ _ _ us hl=>by obtain ⟨x0,x1,rfl⟩:=ar2 us hl; exact rfl
 have dU:=PySem.W.mg_of X G a2;have cM:=AM (x:="reach_of") (qual:="reach_of") (st:=Dv) l3 c3 k3;have fA:=cM.binds (ps:=Cb) fun _ _ _ _ _ _ us hl=>by obtain ⟨x0,x1,rfl⟩:=ar2 us hl; exact rfl
 have eZ:=PySem.W.mg_of X G a3;have bX:=AM (x:="bare_field") (qual:="bare_field") (st:=CF) l4 c4 k4;have eN:=bX.binds (ps:=CJ) fun _ _ _ _ _ _ us hl=>by obtain ⟨x0,rfl⟩:=ar1 us hl; exact rfl
 have eK:=PySem.W.mg_of X G a4;have bT:=AM (x:="widened") (qual:="widened") (st:=Ds) l5 c5 k5;have eF:=bT.binds (ps:=Db) fun _ _ _ _ _ _ us hl=>by obtain ⟨x0,x1,rfl⟩:=ar2 us hl; exact rfl
 have eC:=PySem.W.mg_of X G a5;have bU:=AM (x:="trimmed") (qual:="trimmed") (st:=Dt) l6 c6 k6;have eG:=bU.binds (ps:=Cn) fun _ _ _ _ _ _ us hl=>by obtain ⟨x0,x1,rfl⟩:=ar2 us hl; exact rfl
 have eD:=PySem.W.mg_of X G a6;have cE:=AM (x:="middle_of") (qual:="middle_of") (st:=CA) l7 c7 k7;have eU:=cE.binds (ps:=Dc) fun _ _ _ _ _ _ us hl=>by obtain ⟨x0,x1,rfl⟩:=ar2 us hl; exact rfl
 have eS:=PySem.W.mg_of X G a7;have b7:=AM (x:="is_bare_around") (qual:="is_bare_around") (st:=Bq) l8 c8 k8;have cU:=b7.binds (ps:=Bu) fun _ _ _ _ _ _ us hl=>by obtain ⟨x0,x1,rfl⟩:=ar2 us hl; exact rfl
 have cR:=PySem.W.mg_of X G a8;have bH:=AM (x:="widened_over") (qual:="widened_over") (st:=BR) l9 c9 k9;have dJ:=bH.binds (ps:=BW) fun _ _ _ _ _ _ us hl=>by obtain ⟨x0,x1,x2,rfl⟩:=ar3 us hl; exact rfl
 have d9:=PySem.W.mg_of X G a9;have bV:=AM (x:="planted") (qual:="planted") (st:=Dw) l10 c10 k10;have eJ:=bV.binds (ps:=Co) fun _ _ _ _ _ _ us hl=>by obtain ⟨x0,x1,x2,x3,x4,rfl⟩:=ar5 us hl; exact rfl
 have eE:=PySem.W.mg_of X G a10;have cL:=AM (x:="replaced") (qual:="replaced") (st:=Du) l11 c11 k11;have dL:=cL.binds (ps:=CB) fun _ _ _ _ _ _ us hl=>by obtain ⟨x0,x1,x2,x3,x4,rfl⟩:=ar5 us hl; exact rfl
 have dA:=PySem.W.mg_of X G a11;have bL:=AM (x:="field_of") (qual:="field_of") (st:=CV) l12 c12 k12;have dO:=bL.binds (ps:=CC) fun _ _ _ _ _ _ us hl=>by obtain ⟨x0,x1,rfl⟩:=ar2 us hl; exact rfl
 have dD:=PySem.W.mg_of X G a12;have cX:=AM (x:="by_rows") (qual:="by_rows") (st:=DM) l13 c13 k13;have fF:=cX.binds (ps:=DO) fun _ _ _ _ _ _ us hl=>by obtain ⟨x0,rfl⟩:=ar1 us hl; exact rfl
 have fB:=PySem.W.mg_of X G a13;have bM:=AM (x:="cells_of") (qual:="cells_of") (st:=CW) l14 c14 k14;have dP:=bM.binds (ps:=Cd) fun _ _ _ _ _ _ us hl=>by obtain ⟨x0,x1,rfl⟩:=ar2 us hl; exact rfl
 have dE:=PySem.W.mg_of X G a14;have bK:=AM (x:="gather_cells") (qual:="gather_cells") (st:=BS) l15 c15 k15;have cD:=bK.binds (ps:=Be) fun _ _ _ _ _ _ us hl=>by obtain ⟨x0,x1,x2,x3,x4,rfl⟩:=ar5 us hl; exact rfl
 have cC:=PySem.W.mg_of X G a15;have cY:=AM (x:="_law_at") (qual:="_law_at") (st:=DN) l16 c16 k16;have fG:=cY.binds (ps:=DP) fun _ _ _ _ _ _ us hl=>by obtain ⟨x0,x1,rfl⟩:=ar2 us hl; exact rfl
 have fE:=PySem.W.mg_of X G a16;have bN:=AM (x:="_law_refused") (qual:="_law_refused") (st:=Bz) l17 c17 k17;have dQ:=bN.binds (ps:=BC) fun _ _ _ _ _ _ us hl=>by obtain ⟨x0,x1,rfl⟩:=ar2 us hl; exact rfl
 have dF:=PySem.W.mg_of X G a17;have bF:=AM (x:="_law_no_state") (qual:="_law_no_state") (st:=BJ) l18 c18 k18;have d8:=bF.binds (ps:=Cj) fun _ _ _ _ _ _ us hl=>by obtain ⟨x0,rfl⟩:=ar1 us hl; exact rfl
 have d5:=PySem.W.mg_of X G a18;have b8:=AM (x:="_law_far_place") (qual:="_law_far_place") (st:=Br) l19 c19 k19;have cV:=b8.binds (ps:=BX) fun _ _ _ _ _ _ us hl=>by obtain ⟨x0,x1,rfl⟩:=ar2 us hl; exact rfl
 have cS:=PySem.W.mg_of X G a19;have bE:=AM (x:="_law_odd_cell") (qual:="_law_odd_cell") (st:=BI) l20 c20 k20;have d7:=bE.binds (ps:=Ci) fun _ _ _ _ _ _ us hl=>by obtain ⟨x0,x1,rfl⟩:=ar2 us hl; exact rfl
 have d0:=PySem.W.mg_of X G a20;have cF:=AM (x:="_law_many") (qual:="_law_many") (st:=Bp) l21 c21 k21;have eW:=cF.binds (ps:=DG) fun _ _ _ _ _ _ us hl=>by obtain ⟨x0,x1,rfl⟩:=ar2 us hl; exact rfl
 have eT:=PySem.W.mg_of X G a21;have bP:=AM (x:="_law_levels") (qual:="_law_levels") (st:=AX) l22 c22 k22;have dZ:=bP.binds (ps:=CN) fun _ _ _ _ _ _ us hl=>by obtain ⟨x0,x1,x2,rfl⟩:=ar3 us hl; exact rfl
 have dW:=PySem.W.mg_of X G a22;have F_law:=AM (x:="law") (qual:="law") (st:=DE) l23 c23 k23;have m_law:=PySem.W.mg_of X G a23;have cP:=AM (x:="__init__") (qual:="Grove.__init__") (st:=CI) l24 c24 k24;have eQ:=cP.binds (ps:=Dj) fun _ _ _ _ _ _ us hl=>by obtain ⟨x0,rfl⟩:=ar1 us hl; exact rfl
 have fH:Mk K c_Grove f24:=⟨mk_Grove,a24,i24,kc_Grove⟩
 have cO:=AM (x:="kept") (qual:="Grove.kept") (st:=CH) l25 c25 k25;have eP:=cO.binds (ps:=CK) fun _ _ _ _ _ _ us hl=>by obtain ⟨x0,x1,x2,rfl⟩:=ar3 us hl; exact rfl
 have eM:GB K c_Grove "kept" f25:=⟨a25,i25,k25⟩
 have cH:=AM (x:="linked") (qual:="Grove.linked") (st:=BU) l26 c26 k26;have dS:=cH.binds (ps:=AZ) fun _ _ _ _ _ _ us hl=>by obtain ⟨x0,x1,rfl⟩:=ar2 us hl; exact rfl
 have dH:GB K c_Grove "linked" f26:=⟨a26,i26,k26⟩
 have aR:=AM (x:="check_square") (qual:="Grove.check_square") (st:=AK) l27 c27 k27;have bD:=aR.binds (ps:=AC) fun _ _ _ _ _ _ us hl=>by obtain ⟨x0,x1,rfl⟩:=ar2 us hl; exact rfl
 have bC:GB K c_Grove "check_square" f27:=⟨a27,i27,k27⟩
 have cN:=AM (x:="leaf") (qual:="Grove.leaf") (st:=CG) l28 c28 k28;have eO:=cN.binds (ps:=Ce) fun _ _ _ _ _ _ us hl=>by obtain ⟨x0,x1,rfl⟩:=ar2 us hl; exact rfl
 have eL:GB K c_Grove "leaf" f28:=⟨a28,i28,k28⟩
 have cK:=AM (x:="solid") (qual:="Grove.solid") (st:=Cm) l29 c29 k29;have eB:=cK.binds (ps:=Cp) fun _ _ _ _ _ _ us hl=>by obtain ⟨x0,x1,x2,rfl⟩:=ar3 us hl; exact rfl
 have dX:GB K c_Grove "solid" f29:=⟨a29,i29,k29⟩
 have b9:=AM (x:="level_of") (qual:="Grove.level_of") (st:=Ba) l30 c30 k30;have bS:=b9.binds (ps:=AA) fun _ _ _ _ _ _ us hl=>by obtain ⟨x0,x1,rfl⟩:=ar2 us hl; exact rfl
 have bR:GB K c_Grove "level_of" f30:=⟨a30,i30,k30⟩
 have bW:=AM (x:="state_of") (qual:="Grove.state_of") (st:=Bs) l31 c31 k31;have cW:=bW.binds (ps:=BY) fun _ _ _ _ _ _ us hl=>by obtain ⟨x0,x1,rfl⟩:=ar2 us hl; exact rfl
 have cT:GB K c_Grove "state_of" f31:=⟨a31,i31,k31⟩
 have cG:=AM (x:="living") (qual:="Grove.living") (st:=BT) l32 c32 k32;have dR:=cG.binds (ps:=BD) fun _ _ _ _ _ _ us hl=>by obtain ⟨x0,x1,rfl⟩:=ar2 us hl; exact rfl
 have dG:GB K c_Grove "living" f32:=⟨a32,i32,k32⟩
 have cB:=AM (x:="counted") (qual:="Grove.counted") (st:=Bj) l33 c33 k33;have cA:=cB.binds (ps:=Bl) fun _ _ _ _ _ _ us hl=>by obtain ⟨x0,x1,rfl⟩:=ar2 us hl; exact rfl
 have bZ:GB K c_Grove "counted" f33:=⟨a33,i33,k33⟩
 refine ⟨PySem.W.fnOf "law" "law" (Ax DE) (Au DE) (Ae DE) .none kV23 dc23 pm23 an23 cd23 ct23,fun s v=>.of_eq rfl,fun base _ _ hB hCs=>?_⟩;have hC__law_many:PySem.W.CodeHd base 360 356:=hCs _ (.head _);have hC__law_levels:PySem.W.CodeHd base 367 363:=hCs _ (.tail _ (.head _));have hC_law:PySem.W.CodeHd base 372 370:=hCs _ (.tail _ (.tail _ (.head _)));have aC:Cal l.prog w K mg base CX0 1 "is_whole" BB PN:=⟨_,_,ok_iw bI T,dB,bI.kp,dM⟩
 have aN:Cal l.prog w K mg base CX0 2 "is_state" Cc spIS:=⟨_,_,ok_is bJ T aC,dC,bJ.kp,dN⟩
 have aP:Ch l.prog w K mg base CX0 1 c_Grove "kept" CK (JL _):=⟨⟨_,_,ok_kept cO T,eM,eP⟩,T.cl_Grove⟩
 have eR:CalC l.prog w K mg base CX0 2 "Grove" c_Grove Dj (JM _):=⟨_,_,Qv cP T aP,fH,T.m_Grove,eQ⟩
 have aA:Ch l.prog w K mg base CX0 2 c_Grove "linked" AZ (FC _):=⟨⟨_,_,ok_link cH T aP,dH,dS⟩,T.cl_Grove⟩
 have aF:Ch l.prog w K mg base CX0 2 c_Grove "check_square" AC (NP _):=⟨⟨_,_,ok_chk aR T aC,bC,bD⟩,T.cl_Grove⟩
 have aH:Ch l.prog w K mg base CX0 3 c_Grove "leaf" Ce (Ih _):=⟨⟨_,_,ok_leaf cN T aN,eL,eO⟩,T.cl_Grove⟩
 have aB:Ch l.prog w K mg base CX0 3 c_Grove "level_of" AA (Jl _):=⟨⟨_,_,ok_lev b9 T aF,bR,bS⟩,T.cl_Grove⟩
 have aM:Ch l.prog w K mg base CX0 4 c_Grove "solid" Cp (GW _):=⟨⟨_,_,Qq cK T aC aH aA,dX,eB⟩,T.cl_Grove⟩
 have aT:Ch l.prog w K mg base CX0 4 c_Grove "state_of" BY (PH _):=⟨⟨_,_,ok_sta bW T aB,cT,cW⟩,T.cl_Grove⟩
 have aQ:Ch l.prog w K mg base CX0 50 c_Grove "counted" Bl (NO _ 49):=⟨⟨_,_,Qw cB T bZ cA 49,bZ,cA⟩,T.cl_Grove⟩
 have aG:Ch l.prog w K mg base CX0 51 c_Grove "living" BD (LD _):=⟨⟨_,_,ok_liv cG T aF aQ,dG,dR⟩,T.cl_Grove⟩
 have aI:Cal l.prog w K mg base CX0 1 "lies_within" BN LE:=⟨_,_,ok_lie bO T,dU,bO.kp,dY⟩
 have aE:Cal l.prog w K mg base CX0 4 "reach_of" Cb (EB _):=⟨_,_,Qs cM T aB,eZ,cM.kp,fA⟩
 have cZ:Cal l.prog w K mg base CX0 4 "widened" Db (PC _):=⟨_,_,ok_wid bT T aB aA,eC,bT.kp,eF⟩
 have aZ:Cal l.prog w K mg base CX0 3 "middle_of" Dc (NL _):=⟨_,_,ok_mid cE T aA,eS,cE.kp,eU⟩
 have aK:Cal l.prog w K mg base CX0 1 "is_bare_around" Bu (spBA _):=⟨_,_,ok_ba b7 T,cR,b7.kp,cU⟩
 have aU:Cal l.prog w K mg base CX0 4 "trimmed" Cn (Ig _):=⟨_,_,ok_trim bU T aB aK aZ,eD,bU.kp,eG⟩
 have aO:Cal l.prog w K mg base CX0 5 "widened_over" BW (spWO _):=⟨_,_,ok_wo bH T aI aE cZ,d9,bH.kp,dJ⟩
 have aW:Cal l.prog w K mg base CX0 1 "bare_field" CJ (GY _):=⟨_,_,Qx bX T,eK,bX.kp,eN⟩
 have aS:Cal l.prog w K mg base CX0 54 "replaced" CB (LC _ 50):=⟨_,_,Qr cL T dA dL aH aA 50,dA,cL.kp,dL⟩
 have aV:Cal l.prog w K mg base CX0 55 "planted" Co (GX _):=⟨_,_,Qu bV T aI aN aE aO aS aU,eE,bV.kp,eJ⟩
 have bY:Cal l.prog w K mg base CX0 56 "field_of" CC (PQ _):=⟨_,_,ok_fld bL T aW aV,dD,bL.kp,dO⟩
 have bG:Cal l.prog w K mg base CX0 1 "by_rows" DO GD:=⟨_,_,ok_row cX T,fB,cX.kp,fF⟩
 have aJ:Cal l.prog w K mg base CX0 55 "gather_cells" Be (PP _ 50):=⟨_,_,ok_ga bK T cC cD aT 50,cC,bK.kp,cD⟩
 have bA:Cal l.prog w K mg base CX0 56 "cells_of" Cd (spCo _):=⟨_,_,ok_co bM T aG aE aJ bG,dE,bM.kp,dP⟩
 have aD:Cal l.prog w K mg base CX0 1 "_law_at" DP (spAt K):=⟨_,_,ok_at cY T,fE,cY.kp,fG⟩
 have aC:Cal l.prog w K mg base CX0 1 "is_whole" BB NN:=⟨_,_,ok_iwo bI T,dB,bI.kp,dM⟩
 have aN:Cal l.prog w K mg base CX0 2 "is_state" Cc PO:=⟨_,_,ok_iso bJ T aC,dC,bJ.kp,dN⟩
 have E_Grove_check_square:Ch l.prog w K mg base (CXE l.prog w) 2 c_Grove "check_square" AC (PX _):=⟨⟨_,_,ok_chx aR T aC,bC,bD⟩,T.cl_Grove⟩
 have E_Grove_level_of:Ch l.prog w K mg base (CXE l.prog w) 3 c_Grove "level_of" AA (NM _):=⟨⟨_,_,ok_lvx b9 T E_Grove_check_square,bR,bS⟩,T.cl_Grove⟩
 have E_widened:Cal l.prog w K mg base (CXE l.prog w) 4 "widened" Db (PD _):=⟨_,_,ok_wix bT T E_Grove_level_of aA,eC,bT.kp,eF⟩
 have E_trimmed:Cal l.prog w K mg base (CXE l.prog w) 4 "trimmed" Cn (PF _):=⟨_,_,ok_trx bU T E_Grove_level_of aK aZ,eD,bU.kp,eG⟩
 have E_cells_of:Cal l.prog w K mg base (CXE l.prog w) 56 "cells_of" Cd (PV _):=⟨_,_,ok_cox bM T aG aE aJ bG,dE,bM.kp,dP⟩
 have E_planted:Cal l.prog w K mg base (CXE l.prog w) 55 "planted" Co (NJ _):=⟨_,_,ok_plx bV T aI aN aE aO aS aU,eE,bV.kp,eJ⟩
 have E_field_of:Cal l.prog w K mg base (CXE l.prog w) 56 "field_of" CC (PR _):=⟨_,_,ok_flx bL T aW E_planted,dD,bL.kp,dO⟩
 have R__law_refused:Rr l.prog w K mg base 58 "_law_refused" BC (Jk l.prog w K mg base _ 57):=⟨_,_,ok_ref bN T (by decide),dF,bN.kp,dQ⟩
 have aY:Cal l.prog w K mg base CX0 1 "_law_no_state" Cj PL:=⟨_,_,ok_nos bF T,d5,bF.kp,d8⟩
 have bB:Cal l.prog w K mg base CX0 1 "_law_far_place" BX PU:=⟨_,_,ok_far b8 T,cS,b8.kp,cV⟩
 have aX:Cal l.prog w K mg base CX0 2 "_law_odd_cell" Ci PJ:=⟨_,_,ok_odc bE T aY bB,d0,bE.kp,d7⟩
 have cJ:Cal l.prog w K mg base CX0 59 "_law_many" DG (spMa K _ 356):=⟨_,_,ok_ma cF T cq__law_many hC__law_many hB R__law_refused aD aM aG aV bA E_cells_of,eT,cF.kp,eW⟩
 have bQ:Cal l.prog w K mg base CX0 59 "_law_levels" CN (PM _ 363):=⟨_,_,ok_lvs bP T cq__law_levels hC__law_levels hB R__law_refused aH aM aU E_widened E_trimmed,dW,bP.kp,dZ⟩
 exact ok_law F_law T cq_law hC_law hB (by decide) (by decide) (by decide) aD eR bY bA R__law_refused E_planted E_field_of aX cJ bQ
theorem walk {l:PySem.W.OpenLaw} {q:Program} {loose:List Str} {XP:(Str->Option Value)->Heap->Prop} {YP:World->Heap->Prop} {d:DefRec} {K:Params->PySem.W.Frag} (hn:l.most=some 63) (hdf:d.params.defaults=[])
  (hY:∀ (w:World) (h:Heap),YP w h->(K w.params).In h) (hT:∀ (w:World) (h:Heap),YP w h->PySem.W.TabsAt [(360,356),(367,363),(372,370)] h) (hnt:∀ w:World,PySem.W.noTabs (K w.params)=true)
  (F:∀ (w:World) (mg:Str->Option Value) (fa:Addr) (h:Heap),(K w.params).In h->h.Ns mainGlobals mg->mg d.name=some (.ref fa) ->
   ∃ fd:FuncData,(∀ (s:Shared) (u:Value),BindsTo s fd ⟨[u],[]⟩ [("_law_script",u)])/\∀ base:Heap,(K w.params).In base->base.Ns mainGlobals mg->Blt mg base->(∀ q ∈ ([(360,356),(367,363),(372,370)]:List (Addr×Addr)),PySem.W.CodeHd base q.1 q.2)->AW l.prog w (K w.params) mg base CX0 60 fa fd ["_law_script"] (JK (K w.params) 356 363 370)) :
  PySem.W.WalkO q loose XP YP l.row.toRowW d [] (fun f vs=>PySem.call f vs) :=
 L2.Po (n:=63) (k:=60) (x:="_law_script") (tabs:=[(360,356),(367,363),(372,370)]) (CX:=fun _=>CX0) (sp:=fun w=>JK (K w.params) 356 363 370) hn (by decide) hdf ⟨rfl,by decide,by decide⟩ hY hT hnt F (fun _ H a ns hl hO hS=>⟨a,ns,rfl,hS,hl,fun q=>⟨#[],hO.2 _ (.head _),trivial⟩,fun q=>⟨#[],hO.2 _ (.tail _ (.head _)),trivial⟩,fun q=>⟨#[],hO.2 _ (.tail _ (.tail _ (.head _))),trivial⟩,fun _=>rfl⟩) fun _ _ _ _ _ z=>z
end J
theorem PySem.W.Fast.tw14632425562529587155:True:=True.intro
theorem PySem.W.Fast.tw5372890571629916352:True:=True.intro
theorem PySem.W.Fast.tw12291210652621264019:True:=True.intro
theorem PySem.W.Fast.tw17690529969053550405:True:=True.intro
theorem PySem.W.Fast.tw8414135377172943051:True:=True.intro
theorem PySem.W.Fast.tw16782603084939755658:True:=True.intro
theorem PySem.W.Fast.tw5953769814481014965:True:=True.intro
theorem PySem.W.Fast.tw3390108569196830827:True:=True.intro
theorem PySem.W.Fast.tw9129842183151498125:True:=True.intro
theorem PySem.W.Fast.tw16996596606882304014:True:=True.intro
theorem PySem.W.Fast.tw1010133200162554063:True:=True.intro
theorem PySem.W.Fast.tw2845341513578152969:True:=True.intro
theorem PySem.W.Fast.tw1224181879146022203:True:=True.intro
theorem PySem.W.Fast.tw3021810031415385704:True:=True.intro
theorem PySem.W.Fast.tw6574646584847438038:True:=True.intro
theorem PySem.W.Fast.tw9145133174333086160:True:=True.intro
theorem PySem.W.Fast.tw15030181074857052997:True:=True.intro
theorem PySem.W.Fast.tw4287137005887900383:True:=True.intro
theorem PySem.W.Fast.tw9521329325440151507:True:=True.intro
theorem PySem.W.Fast.tw14128750388634079457:True:=True.intro
theorem PySem.W.Fast.tw14357659523380338312:True:=True.intro
theorem PySem.W.Fast.tw8824284856664686625:True:=True.intro
theorem PySem.W.Fast.tw5055051678506718486:True:=True.intro
theorem PySem.W.Fast.tw12918216455737007317:True:=True.intro
theorem PySem.W.Fast.tw9706771674322184364:True:=True.intro
theorem PySem.W.Fast.tw11601433812339703475:True:=True.intro
theorem PySem.W.Fast.tw13788524491766864374:True:=True.intro
theorem PySem.W.Fast.tw18111821090145694140:True:=True.intro
theorem PySem.W.Fast.tw14186380608091520259:True:=True.intro
theorem PySem.W.Fast.tw7769550646927781370:True:=True.intro
theorem PySem.W.Fast.tw6249394788923715557:True:=True.intro
theorem PySem.W.Fast.tw13703841120450029033:True:=True.intro
theorem PySem.W.Fast.tw5259491305622894883:True:=True.intro
theorem PySem.W.Fast.tw5180059599214711521:True:=True.intro
theorem PySem.W.Fast.tw15935105869226130891:True:=True.intro
theorem PySem.W.Fast.tw231604495535253530:True:=True.intro
theorem PySem.W.Fast.tw4793338852056248914:True:=True.intro
theorem PySem.W.Fast.tw15517421494172478344:True:=True.intro
theorem PySem.W.Fast.tw8875918725210244837:True:=True.intro
theorem PySem.W.Fast.tw16683708092269778537:True:=True.intro
theorem PySem.W.Fast.tw10628600530243990139:True:=True.intro
theorem PySem.W.Fast.tw15980802254074135687:True:=True.intro
theorem PySem.W.Fast.tw5499916200644314780:True:=True.intro
theorem PySem.W.Fast.tw5668974415286145357:True:=True.intro
theorem PySem.W.Fast.tw15608009667770584162:True:=True.intro
theorem PySem.W.Fast.tw7425791047520869108:True:=True.intro
theorem PySem.W.Fast.tw14570316234338731360:True:=True.intro
theorem PySem.W.Fast.tw17128948797656180182:True:=True.intro
theorem PySem.W.Fast.tw8929522603693583249:True:=True.intro
theorem PySem.W.Fast.tw14909799442497625778:True:=True.intro
theorem PySem.W.Fast.tw15740288758003147881:True:=True.intro
theorem PySem.W.Fast.tw11264706161952164719:True:=True.intro
theorem PySem.W.Fast.tw16517876519592876373:True:=True.intro
theorem PySem.W.Fast.tw2902352949329154832:True:=True.intro
theorem PySem.W.Fast.tw1757068880523917954:True:=True.intro
theorem PySem.W.Fast.tw17815531137168106880:True:=True.intro
theorem PySem.W.Fast.tw21831005114994519:True:=True.intro
theorem PySem.W.Fast.tw5280458110684813856:True:=True.intro
theorem PySem.W.Fast.tw5748751087040621782:True:=True.intro
theorem PySem.W.Fast.tw14019331508052273824:True:=True.intro
theorem PySem.W.Fast.tw9496061380013943718:True:=True.intro
theorem PySem.W.Fast.tw15733851613233175202:True:=True.intro
theorem PySem.W.Fast.tw10400719382969284378:True:=True.intro
theorem PySem.W.Fast.tw8586474560410765210:True:=True.intro
theorem PySem.W.Fast.tw17032580093159288211:True:=True.intro
theorem PySem.W.Fast.tw14129099796022199411:True:=True.intro
theorem PySem.W.Fast.tw7097187438364469685:True:=True.intro
theorem PySem.W.Fast.tw4890518970336494037:True:=True.intro
theorem PySem.W.Fast.tw10616426196474385748:True:=True.intro
theorem PySem.W.Fast.tw15431881779509753644:True:=True.intro
theorem PySem.W.Fast.tw11285826521779277811:True:=True.intro
theorem PySem.W.Fast.tw17006653056808443050:True:=True.intro
theorem PySem.W.Fast.tw15724085090485291714:True:=True.intro
theorem PySem.W.Fast.tw7005992251439589865:True:=True.intro
theorem PySem.W.Fast.tw16802486018413277525:True:=True.intro
theorem PySem.W.Fast.tw9244205769970071354:True:=True.intro
theorem PySem.W.Fast.tw2406424200007931040:True:=True.intro
theorem PySem.W.Fast.tw1192598103770214027:True:=True.intro
theorem PySem.W.Fast.tw13841903014187995232:True:=True.intro
theorem PySem.W.Fast.tw9999822333582541949:True:=True.intro
theorem PySem.W.Fast.tw15525296600333801166:True:=True.intro
theorem PySem.W.Fast.tw611300472701077609:True:=True.intro
theorem PySem.W.Fast.tw4878394149080295644:True:=True.intro
theorem PySem.W.Fast.tw3744929859988708:True:=True.intro
theorem PySem.W.Fast.tw12098434424365261781:True:=True.intro
theorem PySem.W.Fast.tw11395352280146740549:True:=True.intro
theorem PySem.W.Fast.tw15971330402962500529:True:=True.intro
theorem PySem.W.Fast.tw14744415067883268276:True:=True.intro
theorem PySem.W.Fast.tw13277539207750408671:True:=True.intro
theorem PySem.W.Fast.tw324844768633558164:True:=True.intro
theorem PySem.W.Fast.tw14116112967290304749:True:=True.intro
theorem PySem.W.Fast.tw10137428865175525469:True:=True.intro
theorem PySem.W.Fast.tw13794174961003498558:True:=True.intro
theorem PySem.W.Fast.tw999446945251789095:True:=True.intro
theorem PySem.W.Fast.tw3311718129714153620:True:=True.intro
theorem PySem.W.Fast.tw2363932184475857997:True:=True.intro
theorem PySem.W.Fast.tw17926496038346821292:True:=True.intro
theorem PySem.W.Fast.tw14400554255787665400:True:=True.intro
theorem PySem.W.Fast.tw637387489813755084:True:=True.intro
theorem PySem.W.Fast.tw15042732343545818455:True:=True.intro
theorem PySem.W.Fast.tw14953841896480214004:True:=True.intro
theorem PySem.W.Fast.tw7978101045195015876:True:=True.intro
theorem PySem.W.Fast.tw15325240910916941915:True:=True.intro
theorem PySem.W.Fast.tw3102703109404535032:True:=True.intro
theorem PySem.W.Fast.tw3401146369884717613:True:=True.intro
theorem PySem.W.Fast.tw5792832070185319079:True:=True.intro
theorem PySem.W.Fast.tw4268428115435529081:True:=True.intro
theorem PySem.W.Fast.tw7532454673979739199:True:=True.intro
theorem PySem.W.Fast.tw13221204553666162220:True:=True.intro
theorem PySem.W.Fast.tw2178258740503159973:True:=True.intro
theorem PySem.W.Fast.tw17784898522723598045:True:=True.intro
theorem PySem.W.Fast.tw16545853459321979550:True:=True.intro
theorem PySem.W.Fast.tw2616464484771653796:True:=True.intro
theorem PySem.W.Fast.tw191605864945619168:True:=True.intro
theorem PySem.W.Fast.tw6115388753461423610:True:=True.intro
theorem PySem.W.Fast.tw5157749698873382985:True:=True.intro
theorem PySem.W.Fast.tw14297441728543428021:True:=True.intro
theorem PySem.W.Fast.tw17826754591696111315:True:=True.intro
theorem PySem.W.Fast.tw8337505113123723280:True:=True.intro
theorem PySem.W.Fast.tw9556134117355038475:True:=True.intro
theorem PySem.W.Fast.tw11893438636305158904:True:=True.intro
theorem PySem.W.Fast.tw16548211386168749993:True:=True.intro
theorem PySem.W.Fast.tw430073051617132625:True:=True.intro
theorem PySem.W.Fast.tw2921372000188516492:True:=True.intro
theorem PySem.W.Fast.tw9479473384648385445:True:=True.intro
theorem PySem.W.Fast.tw14265571267162124179:True:=True.intro
theorem PySem.W.Fast.tw12060414599409153532:True:=True.intro
theorem PySem.W.Fast.tw11417533649125983413:True:=True.intro
theorem PySem.W.Fast.tw17430000472214792953:True:=True.intro
theorem PySem.W.Fast.tw5301401804406961808:True:=True.intro
theorem PySem.W.Fast.tw13251238348795508469:True:=True.intro
theorem PySem.W.Fast.tw17361696842474076236:True:=True.intro
theorem PySem.W.Fast.tw16995935812737299152:True:=True.intro
theorem PySem.W.Fast.tw3082451441996051945:True:=True.intro
theorem PySem.W.Fast.tw5786748439853286432:True:=True.intro
theorem PySem.W.Fast.tw13700866843117027301:True:=True.intro
theorem PySem.W.Fast.tw9914346566144173718:True:=True.intro
theorem PySem.W.Fast.tw8339559377597798133:True:=True.intro
theorem PySem.W.Fast.tw45802423835256260:True:=True.intro
theorem PySem.W.Fast.tw11354320125859729906:True:=True.intro
theorem PySem.W.Fast.tw5109354392467388633:True:=True.intro
theorem PySem.W.Fast.tw6163878628382003816:True:=True.intro
theorem PySem.W.Fast.tw204214271007638387:True:=True.intro
theorem PySem.W.Fast.tw3598117286978016525:True:=True.intro
theorem PySem.W.Fast.tw14707893147041873339:True:=True.intro
theorem PySem.W.Fast.tw13051413545926705341:True:=True.intro
theorem PySem.W.Fast.tw16655015627587244474:True:=True.intro
theorem PySem.W.Fast.tw423288083575062502:True:=True.intro
theorem PySem.W.Fast.tw18188691104086523176:True:=True.intro
theorem PySem.W.Fast.tw17333565972207817675:True:=True.intro
theorem PySem.W.Fast.tw13185764714950654485:True:=True.intro
theorem PySem.W.Fast.tw15414184288967954002:True:=True.intro
theorem PySem.W.Fast.tw5443889756227079022:True:=True.intro
theorem PySem.W.Fast.tw7881069481802388724:True:=True.intro
theorem PySem.W.Fast.tw4097376146815501588:True:=True.intro
theorem PySem.W.Fast.tw9205296253089513903:True:=True.intro
theorem PySem.W.Fast.tw2961780959527736692:True:=True.intro
theorem PySem.W.Fast.tw7695376179557930226:True:=True.intro
theorem PySem.W.Fast.tw4268375263259341226:True:=True.intro
theorem PySem.W.Fast.tw13178427538341353613:True:=True.intro
theorem PySem.W.Fast.tw2354784723506336075:True:=True.intro
theorem PySem.W.Fast.tw3478503836440099311:True:=True.intro
theorem PySem.W.Fast.tw3282321718122741753:True:=True.intro
theorem PySem.W.Fast.tw7597040359505005053:True:=True.intro
theorem PySem.W.Fast.tw16657919975861964855:True:=True.intro
theorem PySem.W.Fast.tw16591465639193338164:True:=True.intro
theorem PySem.W.Fast.tw11199587413042168634:True:=True.intro
theorem PySem.W.Fast.tw622349224709079012:True:=True.intro
theorem PySem.W.Fast.tw7254506920220843064:True:=True.intro
theorem PySem.W.Fast.tw16929657897635617328:True:=True.intro
theorem PySem.W.Fast.tw7286252527593776220:True:=True.intro
theorem PySem.W.Fast.tw17040347583151452332:True:=True.intro
theorem PySem.W.Fast.tw3165876435070826882:True:=True.intro
theorem PySem.W.Fast.tw7999034782399464975:True:=True.intro
theorem PySem.W.Fast.tw16754493834669911818:True:=True.intro
theorem PySem.W.Fast.tw5682281139663566279:True:=True.intro
theorem PySem.W.Fast.tw4954083168110935883:True:=True.intro
theorem PySem.W.Fast.tw15703470532861463657:True:=True.intro
theorem PySem.W.Fast.tw14749522982680722571:True:=True.intro
theorem PySem.W.Fast.tw5691948839133820724:True:=True.intro
theorem PySem.W.Fast.tw12432046338111970819:True:=True.intro
theorem PySem.W.Fast.tw14688392762197664216:True:=True.intro
theorem PySem.W.Fast.tw13587595795571042697:True:=True.intro
theorem PySem.W.Fast.tw2388298814055456820:True:=True.intro
theorem PySem.W.Fast.tw3720398742955590186:True:=True.intro
theorem PySem.W.Fast.tw13744601853101200958:True:=True.intro
theorem PySem.W.Fast.tw13836295778159677466:True:=True.intro
theorem PySem.W.Fast.tw17892646559789892774:True:=True.intro
theorem PySem.W.Fast.tw8235356340728586884:True:=True.intro
theorem PySem.W.Fast.tw13746280578602007630:True:=True.intro
theorem PySem.W.Fast.tw14765065217400407026:True:=True.intro
theorem PySem.W.Fast.tw14800254442946555568:True:=True.intro
theorem PySem.W.Fast.tw7862523628016850856:True:=True.intro
theorem PySem.W.Fast.tw14158949985944949022:True:=True.intro
theorem PySem.W.Fast.tw13774481907126650791:True:=True.intro
theorem PySem.W.Fast.tw2029133947013931539:True:=True.intro
theorem PySem.W.Fast.tw10480623065737340540:True:=True.intro
theorem PySem.W.Fast.tw3034762345714508637:True:=True.intro
theorem PySem.W.Fast.tw5713583319457723329:True:=True.intro
theorem PySem.W.Fast.tw4486421595902519334:True:=True.intro
theorem PySem.W.Fast.tw16076850159287037091:True:=True.intro
theorem PySem.W.Fast.tw11080736695120731263:True:=True.intro
theorem PySem.W.Fast.tw15260426394945124801:True:=True.intro
theorem PySem.W.Fast.tw6551075227031779557:True:=True.intro
theorem PySem.W.Fast.tw6133985946880428869:True:=True.intro
theorem PySem.W.Fast.tw17803152810768475927:True:=True.intro
theorem PySem.W.Fast.tw12018908839489146994:True:=True.intro
theorem PySem.W.Fast.tw15501563141187658062:True:=True.intro
theorem PySem.W.Fast.tw641598614546831860:True:=True.intro
theorem PySem.W.Fast.tw8318368844149728430:True:=True.intro
theorem PySem.W.Fast.tw7949229582244066642:True:=True.intro
theorem PySem.W.Fast.tw12592030613083098638:True:=True.intro
theorem PySem.W.Fast.tw2049996323994110473:True:=True.intro
theorem PySem.W.Fast.tw14429580022947653013:True:=True.intro
theorem PySem.W.Fast.tw10492049840962569506:True:=True.intro
theorem PySem.W.Fast.tw16922856881533097264:True:=True.intro
theorem PySem.W.Fast.tw11974454157011152875:True:=True.intro
theorem PySem.W.Fast.tw12000526481733605662:True:=True.intro
theorem PySem.W.Fast.tw9248563081090657515:True:=True.intro
theorem PySem.W.Fast.tw2998526850244735866:True:=True.intro
theorem PySem.W.Fast.tw15473642205072424209:True:=True.intro
theorem PySem.W.Fast.tw17314246544454433687:True:=True.intro
theorem PySem.W.Fast.tw5753274116314731213:True:=True.intro
theorem PySem.W.Fast.tw2645960112272067043:True:=True.intro
theorem PySem.W.Fast.tw15951012392536850327:True:=True.intro
theorem PySem.W.Fast.tw14934557963422518141:True:=True.intro
theorem PySem.W.Fast.tw457432288886794144:True:=True.intro
theorem PySem.W.Fast.tw5570710194563599699:True:=True.intro
theorem PySem.W.Fast.tw9679506326730667127:True:=True.intro
theorem PySem.W.Fast.tw4179935706260370003:True:=True.intro
theorem PySem.W.Fast.tw8085223209774224515:True:=True.intro
theorem PySem.W.Fast.tw18429565816582311995:True:=True.intro
theorem PySem.W.Fast.tw10686325324532145650:True:=True.intro
theorem PySem.W.Fast.tw9037845033788574029:True:=True.intro
theorem PySem.W.Fast.tw1482922244657695927:True:=True.intro
theorem PySem.W.Fast.tw17135435232545072784:True:=True.intro
theorem PySem.W.Fast.tw16437742427869106204:True:=True.intro
theorem PySem.W.Fast.tw4887806524558523697:True:=True.intro
theorem PySem.W.Fast.tw7857867965425646376:True:=True.intro
theorem PySem.W.Fast.tw18223887612945748396:True:=True.intro
theorem PySem.W.Fast.tw7376097820420897641:True:=True.intro
theorem PySem.W.Fast.tw3585586626946550353:True:=True.intro
theorem PySem.W.Fast.tw1715093811889153697:True:=True.intro
theorem PySem.W.Fast.tw4121562183543357933:True:=True.intro
theorem PySem.W.Fast.tw4000757966159566404:True:=True.intro
theorem PySem.W.Fast.tw77451003652956024:True:=True.intro
theorem PySem.W.Fast.tw3411828849767632747:True:=True.intro
theorem PySem.W.Fast.tw18113337319564147188:True:=True.intro
theorem PySem.W.Fast.tw4401202638315212735:True:=True.intro
theorem PySem.W.Fast.tw5807526568535982812:True:=True.intro
theorem PySem.W.Fast.tw9002157464728329507:True:=True.intro
theorem PySem.W.Fast.tw12401623710557042983:True:=True.intro
theorem PySem.W.Fast.tw12616819171627940513:True:=True.intro
theorem PySem.W.Fast.tw7110227592167762124:True:=True.intro
theorem PySem.W.Fast.tw12723179039170669533:True:=True.intro
theorem PySem.W.Fast.tw16966143593079253464:True:=True.intro
theorem PySem.W.Fast.tw10844552410832957539:True:=True.intro
theorem PySem.W.Fast.tw16097865699355232508:True:=True.intro
theorem PySem.W.Fast.tw12566140550873319767:True:=True.intro
theorem PySem.W.Fast.tw8563058184502794366:True:=True.intro
theorem PySem.W.Fast.tw8064454481535492222:True:=True.intro
theorem PySem.W.Fast.tw13323796026283269420:True:=True.intro
theorem PySem.W.Fast.tw3174678636511653878:True:=True.intro
theorem PySem.W.Fast.tw14706727646344826630:True:=True.intro
theorem PySem.W.Fast.tw7655841792832356094:True:=True.intro
theorem PySem.W.Fast.tw1111022949260990652:True:=True.intro
theorem PySem.W.Fast.tw8203917388945326295:True:=True.intro
theorem PySem.W.Fast.tw15348004165763229781:True:=True.intro
theorem PySem.W.Fast.tw14807864812042401920:True:=True.intro
theorem PySem.W.Fast.tw11489238410910745911:True:=True.intro
theorem PySem.W.Fast.tw4644435120191841606:True:=True.intro
theorem PySem.W.Fast.tw12876705593699423247:True:=True.intro
theorem PySem.W.Fast.tw13293115839821095014:True:=True.intro
theorem PySem.W.Fast.tw7234785577618415239:True:=True.intro
theorem PySem.W.Fast.tw8363706894206946795:True:=True.intro
theorem PySem.W.Fast.tw5499313708816876488:True:=True.intro
theorem PySem.W.Fast.tw2135560766128603392:True:=True.intro
open PySem PySem.W PyProof.Rows
set_option maxRecDepth 100000 in
set_option maxHeartbeats 0 in
theorem PySem.Challenge.cw_jumpfield_k26_fields_refused_holds : PySem.Challenge.rw_jumpfield_k26_fields_refused.Holds := by
 w_on; o_law; k_head; (case hw=>w_witness2)
 k_fill
 refine J.walk (l:=PySem.Challenge.rw_jumpfield_k26_fields_refused) rfl rfl (fun w h Y=>PySem.W.km_in_of Y) (fun w h Y=>?jTab) (fun w=>?jNo) ?F
 case jTab=>exact List.forall_mem_cons.mpr ⟨⟨PySem.W.codeHd_of_K (c:=360) (P:=356) (PySem.W.km_in_of Y) (by kernel_rfl),PySem.W.km_tabs_of Y 356 (by simp)⟩,List.forall_mem_cons.mpr ⟨⟨PySem.W.codeHd_of_K (c:=367) (P:=363) (PySem.W.km_in_of Y) (by kernel_rfl),PySem.W.km_tabs_of Y 363 (by simp)⟩,List.forall_mem_cons.mpr ⟨⟨PySem.W.codeHd_of_K (c:=372) (P:=370) (PySem.W.km_in_of Y) (by kernel_rfl),PySem.W.km_tabs_of Y 370 (by simp)⟩,fun _ h=>nomatch h⟩⟩⟩
 case jNo=>kernel_rfl
 case F =>
  intro w mg fa h KX G hmg;refine' J.fin KX G hmg ?cQ ?pg_Grove ?hd_Grove ?po_Grove ?sa_Grove ?mk_Grove ?kc_Grove ?na_Grove_levels ?na_Grove_parts ?na_Grove_numbers ?na_Grove_bares ?na_Grove_amounts ?na_Grove_boxes ?a0 ?l0 ?c0 ?k0 ?a1 ?l1 ?c1 ?k1 ?a2 ?l2 ?c2 ?k2 ?a3 ?l3 ?c3 ?k3 ?a4 ?l4 ?c4 ?k4 ?a5 ?l5 ?c5 ?k5 ?a6 ?l6 ?c6 ?k6 ?a7 ?l7 ?c7 ?k7 ?a8 ?l8 ?c8 ?k8 ?a9 ?l9 ?c9 ?k9 ?a10 ?l10 ?c10 ?k10 ?a11 ?l11 ?c11 ?k11 ?a12 ?l12 ?c12 ?k12 ?a13 ?l13 ?c13 ?k13 ?a14 ?l14 ?c14 ?k14 ?a15 ?l15 ?c15 ?k15 ?a16 ?l16 ?c16 ?k16 ?a17 ?l17 ?c17 ?k17 ?a18 ?l18 ?c18 ?k18 ?a19 ?l19 ?c19 ?k19 ?a20 ?l20 ?c20 ?k20 ?a21 ?l21 ?cq__law_many ?c21 ?k21 ?a22 ?l22 ?cq__law_levels ?c22 ?k22 ?a23 ?l23 ?cq_law ?c23 ?k23 ?a24 ?i24 ?l24 ?c24 ?k24 ?a25 ?i25 ?l25 ?c25 ?k25 ?a26 ?i26 ?l26 ?c26 ?k26 ?a27 ?i27 ?l27 ?c27 ?k27 ?a28 ?i28 ?l28 ?c28 ?k28 ?a29 ?i29 ?l29 ?c29 ?k29 ?a30 ?i30 ?l30 ?c30 ?k30 ?a31 ?i31 ?l31 ?c31 ?k31 ?a32 ?i32 ?l32 ?c32 ?k32 ?a33 ?i33 ?l33 ?c33 ?k33 ?z_bool ?z_enumerate ?z_int ?z_isinstance ?z_len ?z_list ?z_max ?z_min ?z_range ?z_sorted ?z_sum ?z_tuple ?g_STATES ?g_TOP_LEVEL ?g_LIMIT ?g_LEAST_LEVEL ?g_MOST_CELLS ?z_ValueError ?nx_FieldError ?nx_NoSquare ?nx_NoLevel ?nx_NoState ?nx_TooFar ?nx_TooMany ?ec_NoSquare ?ec_NoLevel ?ec_NoState ?ec_TooFar ?ec_TooMany ?ec_FieldError ?xf_NoSquare_0 ?xf_NoSquare_1 ?xf_NoSquare_2 ?xf_NoSquare_3 ?xf_4 ?xf_5 ?xf_NoSquare_6 ?xf_NoSquare_7 ?mr_NoSquare ?kv_NoSquare ?ki_NoSquare_NoSquare ?ki_NoSquare_NoLevel ?ki_NoSquare_NoState ?ki_NoSquare_TooFar ?ki_NoSquare_TooMany ?xf_NoLevel_0 ?xf_NoLevel_1 ?xf_NoLevel_2 ?xf_NoLevel_3 ?xf_NoLevel_6 ?xf_NoLevel_7 ?mr_NoLevel ?kv_NoLevel ?ki_NoLevel_NoSquare ?ki_NoLevel_NoLevel ?ki_NoLevel_NoState ?ki_NoLevel_TooFar ?ki_NoLevel_TooMany ?xf_NoState_0 ?xf_NoState_1 ?xf_NoState_2 ?xf_NoState_3 ?xf_NoState_6 ?xf_NoState_7 ?mr_NoState ?kv_NoState ?ki_NoState_NoSquare ?ki_NoState_NoLevel ?ki_NoState_NoState ?ki_NoState_TooFar ?ki_NoState_TooMany ?xf_TooFar_0 ?xf_TooFar_1 ?xf_TooFar_2 ?xf_TooFar_3 ?xf_TooFar_6 ?xf_TooFar_7 ?mr_TooFar ?kv_TooFar ?ki_TooFar_NoSquare ?ki_TooFar_NoLevel ?ki_TooFar_NoState ?ki_TooFar_TooFar ?ki_TooFar_TooMany ?xf_TooMany_0 ?xf_TooMany_1 ?xf_TooMany_2 ?xf_TooMany_3 ?xf_TooMany_6 ?xf_TooMany_7 ?mr_TooMany ?kv_TooMany ?ki_TooMany_NoSquare ?ki_TooMany_NoLevel ?ki_TooMany_NoState ?ki_TooMany_TooFar ?ki_TooMany_TooMany
  (case cQ=>k_is)
  (case pg_Grove=>k_is)
  (case hd_Grove=>k_is)
  (case po_Grove=>k_is)
  (case sa_Grove=>k_is)
  (case mk_Grove=>k_is)
  (case kc_Grove=>k_is)
  (case na_Grove_levels=>k_is)
  (case na_Grove_parts=>k_is)
  (case na_Grove_numbers=>k_is)
  (case na_Grove_bares=>k_is)
  (case na_Grove_amounts=>k_is)
  (case na_Grove_boxes=>k_is)
  (case a0=>k_is)
  (case l0=>k_is)
  (case c0=>k_is)
  (case k0=>k_is)
  (case a1=>k_is)
  (case l1=>k_is)
  (case c1=>k_is)
  (case k1=>k_is)
  (case a2=>k_is)
  (case l2=>k_is)
  (case c2=>k_is)
  (case k2=>k_is)
  (case a3=>k_is)
  (case l3=>k_is)
  (case c3=>k_is)
  (case k3=>k_is)
  (case a4=>k_is)
  (case l4=>k_is)
  (case c4=>k_is)
  (case k4=>k_is)
  (case a5=>k_is)
  (case l5=>k_is)
  (case c5=>k_is)
  (case k5=>k_is)
  (case a6=>k_is)
  (case l6=>k_is)
  (case c6=>k_is)
  (case k6=>k_is)
  (case a7=>k_is)
  (case l7=>k_is)
  (case c7=>k_is)
  (case k7=>k_is)
  (case a8=>k_is)
  (case l8=>k_is)
  (case c8=>k_is)
  (case k8=>k_is)
  (case a9=>k_is)
  (case l9=>k_is)
  (case c9=>k_is)
  (case k9=>k_is)
  (case a10=>k_is)
  (case l10=>k_is)
  (case c10=>k_is)
  (case k10=>k_is)
  (case a11=>k_is)
  (case l11=>k_is)
  (case c11=>k_is)
  (case k11=>k_is)
  (case a12=>k_is)
  (case l12=>k_is)
  (case c12=>k_is)
  (case k12=>k_is)
  (case a13=>k_is)
  (case l13=>k_is)
  (case c13=>k_is)
  (case k13=>k_is)
  (case a14=>k_is)
  (case l14=>k_is)
  (case c14=>k_is)
  (case k14=>k_is)
  (case a15=>k_is)
  (case l15=>k_is)
  (case c15=>k_is)
  (case k15=>k_is)
  (case a16=>k_is)
  (case l16=>k_is)
  (case c16=>k_is)
  (case k16=>k_is)
  (case a17=>k_is)
  (case l17=>k_is)
  (case c17=>k_is)
  (case k17=>k_is)
  (case a18=>k_is)
  (case l18=>k_is)
  (case c18=>k_is)
  (case k18=>k_is)
  (case a19=>k_is)
  (case l19=>k_is)
  (case c19=>k_is)
  (case k19=>k_is)
  (case a20=>k_is)
  (case l20=>k_is)
  (case c20=>k_is)
  (case k20=>k_is)
  (case a21=>k_is)
  (case l21=>k_is)
  (case cq__law_many=>exact rfl)
  (case c21=>k_is)
  (case k21=>k_is)
  (case a22=>k_is)
  (case l22=>k_is)
  (case cq__law_levels=>exact rfl)
  (case c22=>k_is)
  (case k22=>k_is)
  (case a23=>k_is)
  (case l23=>k_is)
  (case cq_law=>exact rfl)
  (case c23=>k_is)
  (case k23=>k_is)
  (case a24=>k_is)
  (case i24=>k_is)
  (case l24=>k_is)
  (case c24=>k_is)
  (case k24=>k_is)
  (case a25=>k_is)
  (case i25=>k_is)
  (case l25=>k_is)
  (case c25=>k_is)
  (case k25=>k_is)
  (case a26=>k_is)
  (case i26=>k_is)
  (case l26=>k_is)
  (case c26=>k_is)
  (case k26=>k_is)
  (case a27=>k_is)
  (case i27=>k_is)
  (case l27=>k_is)
  (case c27=>k_is)
  (case k27=>k_is)
  (case a28=>k_is)
  (case i28=>k_is)
  (case l28=>k_is)
  (case c28=>k_is)
  (case k28=>k_is)
  (case a29=>k_is)
  (case i29=>k_is)
  (case l29=>k_is)
  (case c29=>k_is)
  (case k29=>k_is)
  (case a30=>k_is)
  (case i30=>k_is)
  (case l30=>k_is)
  (case c30=>k_is)
  (case k30=>k_is)
  (case a31=>k_is)
  (case i31=>k_is)
  (case l31=>k_is)
  (case c31=>k_is)
  (case k31=>k_is)
  (case a32=>k_is)
  (case i32=>k_is)
  (case l32=>k_is)
  (case c32=>k_is)
  (case k32=>k_is)
  (case a33=>k_is)
  (case i33=>k_is)
  (case l33=>k_is)
  (case c33=>k_is)
  (case k33=>k_is)
  (case z_bool=>k_is)
  (case z_enumerate=>k_is)
  (case z_int=>k_is)
  (case z_isinstance=>k_is)
  (case z_len=>k_is)
  (case z_list=>k_is)
  (case z_max=>k_is)
  (case z_min=>k_is)
  (case z_range=>k_is)
  (case z_sorted=>k_is)
  (case z_sum=>k_is)
  (case z_tuple=>k_is)
  (case g_STATES=>k_is)
  (case g_TOP_LEVEL=>k_is)
  (case g_LIMIT=>k_is)
  (case g_LEAST_LEVEL=>k_is)
  (case g_MOST_CELLS=>k_is)
  (case z_ValueError=>k_is)
  (case nx_FieldError=>k_is)
  (case nx_NoSquare=>k_is)
  (case nx_NoLevel=>k_is)
  (case nx_NoState=>k_is)
  (case nx_TooFar=>k_is)
  (case nx_TooMany=>k_is)
  (case ec_NoSquare=>(show PySem.W.excIn _ _ _ _=true; k_exc))
  (case ec_NoLevel=>(show PySem.W.excIn _ _ _ _=true; k_exc))
  (case ec_NoState=>(show PySem.W.excIn _ _ _ _=true; k_exc))
  (case ec_TooFar=>(show PySem.W.excIn _ _ _ _=true; k_exc))
  (case ec_TooMany=>(show PySem.W.excIn _ _ _ _=true; k_exc))
  (case ec_FieldError=>(show PySem.W.excIn _ _ _ _=true; k_exc))
  (case xf_NoSquare_0=>k_is)
  (case xf_NoSquare_1=>k_is)
  (case xf_NoSquare_2=>k_is)
  (case xf_NoSquare_3=>k_is)
  (case xf_4=>k_is)
  (case xf_5=>k_is)
  (case xf_NoSquare_6=>k_is)
  (case xf_NoSquare_7=>k_is)
  (case mr_NoSquare=>k_is)
  (case kv_NoSquare=>kit_is)
  (case ki_NoSquare_NoSquare=>kit_is)
  (case ki_NoSquare_NoLevel=>kit_is)
  (case ki_NoSquare_NoState=>kit_is)
  (case ki_NoSquare_TooFar=>kit_is)
  (case ki_NoSquare_TooMany=>kit_is)
  (case xf_NoLevel_0=>k_is)
  (case xf_NoLevel_1=>k_is)
  (case xf_NoLevel_2=>k_is)
  (case xf_NoLevel_3=>k_is)
  (case xf_NoLevel_6=>k_is)
  (case xf_NoLevel_7=>k_is)
  (case mr_NoLevel=>k_is)
  (case kv_NoLevel=>kit_is)
  (case ki_NoLevel_NoSquare=>kit_is)
  (case ki_NoLevel_NoLevel=>kit_is)
  (case ki_NoLevel_NoState=>kit_is)
  (case ki_NoLevel_TooFar=>kit_is)
  (case ki_NoLevel_TooMany=>kit_is)
  (case xf_NoState_0=>k_is)
  (case xf_NoState_1=>k_is)
  (case xf_NoState_2=>k_is)
  (case xf_NoState_3=>k_is)
  (case xf_NoState_6=>k_is)
  (case xf_NoState_7=>k_is)
  (case mr_NoState=>k_is)
  (case kv_NoState=>kit_is)
  (case ki_NoState_NoSquare=>kit_is)
  (case ki_NoState_NoLevel=>kit_is)
  (case ki_NoState_NoState=>kit_is)
  (case ki_NoState_TooFar=>kit_is)
  (case ki_NoState_TooMany=>kit_is)
  (case xf_TooFar_0=>k_is)
  (case xf_TooFar_1=>k_is)
  (case xf_TooFar_2=>k_is)
  (case xf_TooFar_3=>k_is)
  (case xf_TooFar_6=>k_is)
  (case xf_TooFar_7=>k_is)
  (case mr_TooFar=>k_is)
  (case kv_TooFar=>kit_is)
  (case ki_TooFar_NoSquare=>kit_is)
  (case ki_TooFar_NoLevel=>kit_is)
  (case ki_TooFar_NoState=>kit_is)
  (case ki_TooFar_TooFar=>kit_is)
  (case ki_TooFar_TooMany=>kit_is)
  (case xf_TooMany_0=>k_is)
  (case xf_TooMany_1=>k_is)
  (case xf_TooMany_2=>k_is)
  (case xf_TooMany_3=>k_is)
  (case xf_TooMany_6=>k_is)
  (case xf_TooMany_7=>k_is)
  (case mr_TooMany=>k_is)
  (case kv_TooMany=>kit_is)
  (case ki_TooMany_NoSquare=>kit_is)
  (case ki_TooMany_NoLevel=>kit_is)
  (case ki_TooMany_NoState=>kit_is)
  (case ki_TooMany_TooFar=>kit_is)
  (case ki_TooMany_TooMany=>kit_is)
