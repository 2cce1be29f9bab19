import PyProof.Rows.All
import Wide.All
import OpenK.AllK
import Wide.FinOn
import Lean
import PyProof.EqAt
import PyProof.EqKinds
import PyProof.TupleCall
import PyProof.Rows.CatFin
import PyProof.StrLawsIn
import KE.IntTextLaws
import KE.IntTextText
import PyProof.StrLawsTight
import PyProof.StrLawsChain
import PyProof.Rows.StrLawsPart
import PyProof.Rows.StrFirst
import PyProof.Rows.ReprOcc
import PyProof.Rows.StrItems
import PyProof.SumAny
import PyProof.SeqI3
import PyProof.WalkInts
import PyProof.NeKinds
import KE.KDictLaws
import PyProof.DictIter
import PyProof.DictWalks
import PyProof.Rows.DictUnroll
import KE.KSortTup
import KE.KDictSum
import KE.KSortKey
import PyProof.Rows.SortRuns
import KE.KRevIter
import PySem.Challenge.RW_jumpfield_k41_a_plain_step
set_option Elab.async false
set_option linter.all false
set_option maxRecDepth 100000
set_option maxHeartbeats 8000000
namespace L2
open PySem PySem.Spec PyProof.Rows
abbrev Key:=Sum Int Str
def Jb:Key->Value->Bool
 | .inl k,v=>Value.isInt k v
 | .inr x,v=>Value.isStrOf x v
def keyH (w:World):Key->Int
 | .inl k=>hashInt k
 | .inr x=>hashStr w x
theorem Br:∀ {k:Key} {v:Value},Jb k v=true->(∃ i t,k=Sum.inl i/\v=Value.int i t)\/(∃ x t,k=Sum.inr x/\v=Value.str x t)
 | .inl i,v,h=>by
  obtain ⟨t,e⟩:=Value.isInt_shape (k:=i) (v:=v) h;exact .inl ⟨i,t,rfl,e⟩
 | .inr x,v,h=>by
  obtain ⟨t,e⟩:=Value.isStrOf_shape (x:=x) (v:=v) h;exact .inr ⟨x,t,rfl,e⟩
theorem Od (i:Int) (t:Tok):Jb (.inl i) (.int i t)=true:=by simp [Jb,Value.isInt]
theorem Oc (x:Str) (t:Tok):Jb (.inr x) (.str x t)=true:=by simp [Jb,Value.isStrOf]
theorem key_ll (a b:Int):decide ((Sum.inl a:Key)=Sum.inl b)=(a == b):=by
 by_cases e:a=b
 ·subst e; simp
 ·have h:¬ (Sum.inl a:Key)=Sum.inl b:=fun q=>e (Sum.inl.inj q);rw [decide_eq_false h];exact (beq_eq_false_iff_ne.mpr e).symm
theorem key_rr (a b:Str):decide ((Sum.inr a:Key)=Sum.inr b)=decide (a=b):=by
 by_cases e:a=b
 ·subst e; simp
 ·have h:¬ (Sum.inr a:Key)=Sum.inr b:=fun q=>e (Sum.inr.inj q);rw [decide_eq_false h,decide_eq_false e]
theorem key_lr (a:Int) (b:Str):decide ((Sum.inl a:Key)=Sum.inr b)=false:=decide_eq_false (fun q=>nomatch q)
theorem key_rl (a:Str) (b:Int):decide ((Sum.inr a:Key)=Sum.inl b)=false:=decide_eq_false (fun q=>nomatch q)
def Bz (prog:Program) (w:World):PySem.KeyKind prog w Key where
 is:=Jb
 hash:=keyH w
 inj:=fun v a b ha hb=>by
  rcases Br ha with ⟨i,t,rfl,rfl⟩ | ⟨x,t,rfl,rfl⟩
  ·rcases Br hb with ⟨j,u,rfl,e⟩ | ⟨y,u,rfl,e⟩
   ·injection e with e1 _; rw [e1]
   ·exact nomatch e
  ·rcases Br hb with ⟨j,u,rfl,e⟩ | ⟨y,u,rfl,e⟩
   ·exact nomatch e
   ·injection e with e1 _; rw [e1]
 byValue:=fun k v h=>by
  rcases Br h with ⟨i,t,rfl,rfl⟩ | ⟨x,t,rfl,rfl⟩<;>rfl
 pyHash:=fun hv h=>by
  rcases Br hv with ⟨i,t,rfl,rfl⟩ | ⟨x,t,rfl,rfl⟩
  ·exact wpAny_pyHash_int h
  ·exact wpAny_pyHash_str h
 eqBool:=fun hu hv h=>by
  rcases Br hu with ⟨i,t,rfl,rfl⟩ | ⟨x,t,rfl,rfl⟩
  ·rcases Br hv with ⟨j,u,rfl,rfl⟩ | ⟨y,u,rfl,rfl⟩
   ·rw [key_ll] at h; exact wpAny_eqBool_int h
   ·rw [key_lr] at h; exact SeqAt.EqAt.int_str i t y u _ _ _ _ h
  ·rcases Br hv with ⟨j,u,rfl,rfl⟩ | ⟨y,u,rfl,rfl⟩
   ·rw [key_rl] at h; exact SeqAt.EqAt.str_int x t j u _ _ _ _ h
   ·rw [key_rr] at h; exact wpAny_eqBool_str h
 «strs»:=fun k x t v h=>by
  rcases Br h with ⟨i,u,rfl,e⟩ | ⟨y,u,rfl,e⟩
  ·exact nomatch e
  ·injection e with e1 _
   subst e1;cases v<;>rfl
theorem LE (prog:Program) (w:World) (i:Int) (t:Tok):(Bz prog w).is (.inl i) (.int i t)=true:=Od i t
theorem LD (prog:Program) (w:World) (x:Str) (t:Tok):(Bz prog w).is (.inr x) (.str x t)=true:=Oc x t
end L2
namespace L2
open PySem PySem.Spec PyProof.Rows
inductive V where
 | non | bl (b:Bool) | int (i:Int) | str (x:Str) | byt (b:Array UInt8) | flt (b:UInt64) | ref (a:Addr) | ty (n:String)
 deriving DecidableEq
def AM:V->Value->Prop
 | .non,u=>u=Value.none
 | .bl b,u=>u=Value.bool b
 | .int i,u=>∃ t,u=Value.int i t
 | .str x,u=>∃ t,u=Value.str x t
 | .byt b,u=>∃ t,u=Value.bytes b t
 | .flt b,u=>∃ t,u=Value.float b t
 | .ref a,u=>u=Value.ref a
 | .ty n,u=>u=Value.type n
abbrev Aw:List V->List Value->Prop:=Paired AM
theorem Aw.length {xs:List V} {us:List Value} (r:Aw xs us):xs.length=us.length:=Paired.length r
theorem Aw.get:∀ {xs:List V} {us:List Value} {i:Nat} {x:V},Aw xs us->xs[i]?=some x->∃ u,us[i]?=some u/\AM x u
 | _,_,_,_,.nil,e=>by simp at e
 | _,_,0,_,.cons r _,e=>by simp at e; subst e; exact ⟨_,rfl,r⟩
 | _,_,i+1,x,.cons _ t,e=>by
  obtain ⟨u,h1,h2⟩:=Aw.get (i:=i) (x:=x) t (by simpa using e);exact ⟨u,by simpa using h1,h2⟩
theorem Aw.append:∀ {xs ys:List V} {us ws:List Value},Aw xs us->Aw ys ws->Aw (xs ++ ys) (us ++ ws)
 | _,_,_,_,.nil,s=>s
 | _,_,_,_,.cons r t,s=>.cons r (Aw.append t s)
theorem Aw.take:∀ {xs:List V} {us:List Value} (n:Nat),Aw xs us->Aw (xs.take n) (us.take n)
 | _,_,0,_=>.nil
 | _,_,_+1,.nil=>.nil
 | _,_,n+1,.cons r t=>.cons r (Aw.take n t)
theorem Aw.drop:∀ {xs:List V} {us:List Value} (n:Nat),Aw xs us->Aw (xs.drop n) (us.drop n)
 | _,_,0,r=>r
 | _,_,_+1,.nil=>.nil
 | _,_,n+1,.cons _ t=>Aw.drop n t
theorem Aw.none_of:∀ {xs:List V} {us:List Value} {i:Nat},Aw xs us->xs[i]?=none->us[i]?=none:=fun {xs us i} r e=>by
 have h1:=r.length;have h2:xs.length<=i:=List.getElem?_eq_none_iff.mp e;exact List.getElem?_eq_none_iff.mpr (by lia)
def EC:Option V->Option Value->Prop
 | some v,some u=>AM v u
 | none,none=>True
 | _,_=>False
def KV {κ:Type}:List (κ×V)->List (κ×Value)->Prop:=Paired fun (p:κ×V) (q:κ×Value)=>p.1=q.1/\AM p.2 q.2
def kV:Key->V
 | .inl i=>.int i
 | .inr x=>.str x
inductive HO where
 /-- a list -/
 | lst (xs:List V)
 /-- a tuple (never changes) -/
 | tup (xs:List V)
 /-- a dict whose keys are ints and texts; one whose keys are tuples of ints and texts (the empty one is both) -/
 | dK (kvs:List (Key×V)) | dT (kvs:List (List Key×V))
 /-- a set of ints: its members,its size -/
 | set (S:Int->Bool) (n:Nat)
 /-- an instance of the class at C,its dict at dx,its attributes -/
 | ins (C dx:Addr) (fs:List (Str×V))
 /-- the dict of the instance at x -/
 | own (x:Addr)
 /-- the dict of an exception -/
 | xd (fs:List (Str×V))
 /-- a bound method,f of x -/
 | met (f x:Addr)
 /-- a range object lo,lo+1,.. below hi -/
 | rng (lo hi:Int)
 /-- a thing that is known to the object (the script; a dict while a loop walks it): read,never written while it is so -/
 | frz (o:Obj) (u:HO)
 /-- a code object's table -/
 | tbl (ps:Array Value)
 /-- any other thing,by what is true of its one object (a def of one's own: SetO a S n:=HO.ext fun h=>..) -/
 | ext (φ:Heap->Prop)
abbrev Hp:=Addr->Option HO
def upd (H:Hp) (a:Addr) (o:HO):Hp:=fun b=>if b=a then some o else H b
theorem Ab {H:Hp} {a:Addr} {o:HO}:upd H a o a=some o:=by unfold upd; rw [if_pos rfl]
theorem Ak {H:Hp} {a b:Addr} {o:HO} (h:b≠a):upd H a o b=H b:=by unfold upd; rw [if_neg h]
theorem DZ {H:Hp} {a:Addr} {o u:HO}:upd (upd H a o) a u=upd H a u:=by
 funext b; unfold upd; split<;>rfl
theorem Da {H:Hp} {a b:Addr} {o u:HO} (h:H a=some o) (h':H b=some u) (d:o≠u):a≠b:=by
 intro e; subst e; rw [h] at h'; exact d (Option.some.inj h')
theorem Ar {H:Hp} {a b:Addr} {o:HO} (h:H a=some o) (h':H b=none):a≠b:=by
 intro e; subst e; rw [h] at h'; cases h'
section
variable (P:Program) (w:World)
def AN (H:Hp) (h:Heap) (a:Addr):HO->Prop
 | .lst xs=>xs.length<=sizeLine/\∃ (its:List Value) (n:Nat),Aw xs its/\h.get? a=some { cls:=.type "list",data:=.seq its.toArray n }
 | .tup xs=>xs.length<=sizeLine/\∃ its:List Value,Aw xs its/\IsTup h a its.toArray
 | .dK kvs=>kvs.length<=sizeLine/\(a == sysModules)=false/\∃ vs,KV kvs vs/\h.DictOf (Bz P w) a vs
 | .dT kvs=>kvs.length<=sizeLine/\(a == sysModules)=false/\∃ xs:List (List Key×Addr×Value),
   Paired (fun (p:List Key×V) (q:List Key×Addr×Value)=>p.1=q.1/\H q.2.1=some (.tup (p.1.map kV))/\AM p.2 q.2.2) kvs xs /\
   ∃ o es ep,h.get? a=some o/\o.ExactDict/\o.data=.dict es ep/\es.toList=xs.map (entryOfKey (tupleKind (Bz P w)))/\(xs.map (·.1)).Nodup
 | .set S n=>h.SetOf (intKind P w) a S n
 | .ins C dx fs=>H dx=some (.own a)/\fs.length<=1000/\dx≠a/\h.get? a=some (PySem.W.instObj C dx) /\
   ∃ mA,h.Ns1 dx mA/\(∀ f,EC (fs.lookup f) (mA f))/\PySem.Within mA (fs.map (·.1))
 | .own _=>∃ o,h.get? a=some o
 | .xd fs=>∃ mA,h.Ns1 a mA/\∀ f,EC (fs.lookup f) (mA f)
 | .rng lo hi=>∃ t u v,h.get? a=some { cls:=.type "range",data:=.fields #[.int lo t,.int hi u,.int 1 v] }
 | .frz o u=>h.get? a=some o/\AN H h a u
 | .tbl ps=>h.get? a=some { cls:=.none,data:=.fields ps }
 | .met f x=>h.get? a=some (PySem.W.methodObj (.ref f) (.ref x))
 | .ext φ=>φ h/\(∃ o,h.get? a=some o)/\∀ h1 h2:Heap,φ h1->(∀ o,h1.get? a=some o->h2.get? a=some o)->φ h2
def HOk (H:Hp) (h:Heap):Prop:=∀ a o,H a=some o->AN P w H h a o
end
section
variable {P:Program} {w:World} {H H':Hp} {h h':Heap} {a:Addr} {o:HO}
theorem AN.lt (x:AN P w H h a o):a < h.objs.size:=by
 cases o with
 | lst xs=>obtain ⟨_,_,_,_,e⟩:=x; exact Heap.lt_size e
 | tup xs=>obtain ⟨_,_,_,p⟩:=x; exact p.lt
 | dK kvs=>obtain ⟨_,_,_,_,o,_,_,e,_⟩:=x; exact Heap.lt_size e
 | dT kvs=>obtain ⟨_,_,_,_,o,_,_,e,_⟩:=x; exact Heap.lt_size e
 | set S n=>obtain ⟨o,_,_,_,e,_⟩:=x; exact Heap.lt_size e
 | ins C dx fs=>obtain ⟨_,_,_,e,_⟩:=x; exact Heap.lt_size e
 | own y=>obtain ⟨_,e⟩:=x; exact Heap.lt_size e
 | xd fs=>obtain ⟨_,⟨_,_,_,e,_⟩,_⟩:=x; exact Heap.lt_size e
 | rng lo hi=>obtain ⟨_,_,_,e⟩:=x; exact Heap.lt_size e
 | frz ob u=>obtain ⟨e,_⟩:=x; exact Heap.lt_size e
 | tbl ps=>exact Heap.lt_size (show h.get? a=some _ from x)
 | met f y=>exact Heap.lt_size (show h.get? a=some _ from x)
 | ext φ=>obtain ⟨_,⟨_,e⟩,_⟩:=x; exact Heap.lt_size e
theorem Paired.mapP {α β:Type} {F G:α->β->Prop}:∀ {l₁:List α} {l₂:List β},Paired F l₁ l₂->(∀ a b,F a b->G a b)->Paired G l₁ l₂
 | _,_,.nil,_=>.nil
 | _,_,.cons r t,f=>.cons (f _ _ r) (Paired.mapP t f)
theorem Paired.imp' {α β:Type} {F G:α->β->Prop} (f:∀ a b,F a b->G a b) {l₁:List α} {l₂:List β} (r:Paired F l₁ l₂):Paired G l₁ l₂:=Paired.mapP r f
theorem AN.stay (x:AN P w H h a o) (k:∀ b u,(b=a\/H b=some (.own a))->h.get? b=some u->h'.get? b=some u)
  (ho:∀ b,H b=some (.own a)->H' b=some (.own a)) (ht:∀ b xs,H b=some (.tup xs)->H' b=some (.tup xs)):AN P w H' h' a o:=by
 induction o with
 | lst xs=>obtain ⟨z,its,n,r,e⟩:=x; exact ⟨z,its,n,r,k _ _ (.inl rfl) e⟩
 | tup xs=>obtain ⟨z,its,r,ob,e,c⟩:=x; exact ⟨z,its,r,ob,k _ _ (.inl rfl) e,c⟩
 | dK kvs=>obtain ⟨z,y,vs,r,ob,es,ep,e,c⟩:=x; exact ⟨z,y,vs,r,ob,es,ep,k _ _ (.inl rfl) e,c⟩
 | dT kvs =>
  obtain ⟨z,y,xs,r,ob,es,ep,e,c⟩:=x;exact ⟨z,y,xs,Paired.mapP r fun p q z=>⟨z.1,ht _ _ z.2.1,z.2.2⟩,ob,es,ep,k _ _ (.inl rfl) e,c⟩
 | set S n=>obtain ⟨ob,es,ep,t,e,c⟩:=x; exact ⟨ob,es,ep,t,k _ _ (.inl rfl) e,c⟩
 | ins C dx fs =>
  obtain ⟨d,z,ne,e,mA,⟨od,es,ep,e2,c⟩,r⟩:=x;exact ⟨ho _ d,z,ne,k _ _ (.inl rfl) e,mA,⟨od,es,ep,k _ _ (.inr d) e2,c⟩,r⟩
 | own y=>obtain ⟨ob,e⟩:=x; exact ⟨ob,k _ _ (.inl rfl) e⟩
 | xd fs=>obtain ⟨mA,⟨od,es,ep,e,c⟩,r⟩:=x; exact ⟨mA,⟨od,es,ep,k _ _ (.inl rfl) e,c⟩,r⟩
 | rng lo hi=>obtain ⟨t,u,v,e⟩:=x; exact ⟨t,u,v,k _ _ (.inl rfl) e⟩
 | frz ob u ih=>obtain ⟨e,q⟩:=x; exact ⟨k _ _ (.inl rfl) e,ih q⟩
 | tbl ps =>
  have e:h.get? a=some { cls:=.none,data:=.fields ps }:=x;show h'.get? a=some { cls:=.none,data:=.fields ps };exact k a _ (.inl rfl) e
 | met f y =>
  have e:h.get? a=some (PySem.W.methodObj (.ref f) (.ref y)):=x;show h'.get? a=some (PySem.W.methodObj (.ref f) (.ref y));exact k a _ (.inl rfl) e
 | ext φ=>obtain ⟨p,⟨o,e⟩,st⟩:=x; exact ⟨st _ _ p fun o q=>k _ _ (.inl rfl) q,⟨o,k _ _ (.inl rfl) e⟩,st⟩
theorem HOk.lt (x:HOk P w H h) (e:H a=some o):a < h.objs.size:=(x a o e).lt
theorem HOk.fresh (x:HOk P w H h) (e:h.objs.size<=a):H a=none:=by
 cases q:H a with
 | none=>rfl
 | some u=>exact absurd (Nat.lt_of_lt_of_le (x.lt q) e) (Nat.lt_irrefl _)
theorem HOk.kept (x:HOk P w H h) (k:∀ b u,h.get? b=some u->h'.get? b=some u):HOk P w H h':=fun a o e =>
 (x a o e).stay (fun b u _ q=>k b u q) (fun _ q=>q) fun _ _ q=>q
theorem HOk.laid (x:HOk P w H h) (k:∀ b u,h.get? b=some u->h'.get? b=some u) (hp:h.objs.size<=a) (new:AN P w (upd H a o) h' a o):HOk P w (upd H a o) h':=fun b u e=>by
 have hn:=x.fresh hp;by_cases hb:b=a
 ·subst hb; rw [Ab] at e; cases e; exact new
 ·rw [Ak hb] at e;exact (x b u e).stay (fun c v _ q=>k c v q) (fun c q=>by rw [Ak (Ar q hn)]; exact q) fun c xs q=>by rw [Ak (Ar q hn)]; exact q
end
def Rd (H:Hp) (a:Addr) (u:HO):Prop:=H a=some u\/∃ o,H a=some (.frz o u)
theorem Rd.ok {P:Program} {w:World} {H:Hp} {h:Heap} {a:Addr} {u:HO} (r:Rd H a u) (x:HOk P w H h):AN P w H h a u:=by
 rcases r with r | ⟨o,r⟩
 ·exact x a u r
 ·obtain ⟨_,q⟩:=x a _ r;exact q
def Mut:Option HO->Prop
 | some (.lst _)=>True
 | some (.dK _)=>True
 | some (.dT _)=>True
 | some (.set _ _)=>True
 | some (.ins _ _ _)=>True
 | some (.ext _)=>True
 | _=>False
section
variable {P:Program} {w:World} {H:Hp} {h h':Heap} {x e:Addr} {o':HO}
theorem HOk.write (ok:HOk P w H h) (mu:Mut (H x)) (he:e=x\/H e=some (.own x)) (k:∀ b u,b≠e->h.get? b=some u->h'.get? b=some u) (heo:∃ u,h'.get? e=some u)
  (new:AN P w (upd H x o') h' x o'):HOk P w (upd H x o') h':=fun b u q=>by
 have nown:∀ c y,H c=some (.own y)->c≠x:=fun c y r z=>by subst z; rw [r] at mu; exact mu
 have ntup:∀ c xs,H c=some (.tup xs)->c≠x:=fun c xs r z=>by subst z; rw [r] at mu; exact mu
 by_cases hb:b=x
 ·subst hb; rw [Ab] at q; cases q; exact new
 ·rw [Ak hb] at q;by_cases hbe:b=e
  ·have q':H b=some (.own x):=by
    rcases he with z | z
    ·exact absurd (hbe.trans z) hb
    ·rw [hbe]; exact z
   rw [q] at q'; cases q';obtain ⟨v,hv⟩:=heo;exact ⟨v,by rw [hbe]; exact hv⟩
  ·refine (ok b u q).stay (fun c v hc r=>k c v ?_ r) (fun c r=>by rw [Ak (nown c b r)]; exact r) fun c xs r=>by rw [Ak (ntup c xs r)]; exact r
   rcases hc with rfl | hc
   ·exact hbe
   ·rintro rfl;rcases he with z | z
    ·exact nown c b hc z
    ·rw [hc] at z; cases z; exact hb rfl
end
structure Un (fs ex:List Addr) (H H':Hp) (h h':Heap):Prop where
 keep:∀ b o,h.get? b=some o->H b=none->b ∉ fs->b ∉ ex->h'.get? b=some o
 slot:∀ b o,h.get? b=some o->H b=none->b ∈ fs->b ∉ ex->∃ sl,h'.get? b=some { o with slots:=sl }
 free:∀ b o,h.get? b=some o->H b=none->b ∉ ex->H' b=none
 there:∀ b o,h.get? b=some o->b ∉ ex->∃ o',h'.get? b=some o'
 tups:∀ b xs,H b=some (.tup xs)->H' b=some (.tup xs)
 frzs:∀ b o u,H b=some (.frz o u)->H' b=some (.frz o u)
 tbls:∀ b ps,H b=some (.tbl ps)->∃ more,H' b=some (.tbl (ps ++ more))
section
variable {fs fs' ex ex':List Addr} {H H1 H2:Hp} {h h1 h2 h':Heap} {a x e:Addr} {o:HO}
theorem Un.any (u:Un fs ex H H1 h h1) {b:Addr} {ob:Obj} (q:h.get? b=some ob) (n:H b=none) (hx:b ∉ ex):∃ sl,h1.get? b=some { ob with slots:=sl }:=by
 by_cases hb:b ∈ fs
 ·exact u.slot b ob q n hb hx
 ·exact ⟨ob.slots,u.keep b ob q n hb hx⟩
theorem Un.kept (k:∀ b u,h.get? b=some u->h'.get? b=some u):Un fs ex H H h h' :=
 ⟨fun b ob q _ _ _=>k b ob q,fun b ob q _ _ _=>⟨ob.slots,k b ob q⟩,fun _ _ _ n _=>n,fun b ob q _=>⟨ob,k b ob q⟩,fun _ _ q=>q,fun _ _ _ q=>q,fun _ ps q=>⟨#[],by rw [q]; simp⟩⟩
theorem Un.refl:Un fs ex H H h h:=Un.kept fun _ _ q=>q
theorem Un.laid (k:∀ b u,h.get? b=some u->h'.get? b=some u) (hp:h.objs.size<=a) (hn:H a=none):Un fs ex H (upd H a o) h h' where
 keep:=fun b u q _ _ _=>k b u q
 slot:=fun b u q _ _ _=>⟨u.slots,k b u q⟩
 free:=fun b u q n _=>by rw [Ak (Nat.ne_of_lt (Nat.lt_of_lt_of_le (Heap.lt_size q) hp))]; exact n
 there:=fun b u q _=>⟨u,k b u q⟩
 tups:=fun b xs q=>by rw [Ak (Ar q hn)]; exact q
 frzs:=fun b u xs q=>by rw [Ak (Ar q hn)]; exact q
 tbls:=fun b ps q=>⟨#[],by rw [Ak (Ar q hn),q]; simp⟩
theorem Un.write (mu:Mut (H x)) (he:e=x\/H e=some (.own x)) (k:∀ b u,b≠e->h.get? b=some u->h'.get? b=some u) (heo:∃ u,h'.get? e=some u):Un fs ex H (upd H x o) h h':=by
 have hx:∀ b,H b=none->b≠x:=fun b n z=>by subst z; rw [n] at mu; exact mu
 have hb:∀ b,H b=none->b≠e:=fun b n z=>by
  subst z;rcases he with r | r
  ·exact hx b n r
  ·rw [n] at r; cases r
 have hm:∀ b u,H b=some u->¬ Mut (some u)->b≠x:=fun b u q nm z=>by subst z; rw [q] at mu; exact nm mu
 refine ⟨fun b u q n _ _=>k b u (hb b n) q,fun b u q n _ _=>⟨u.slots,k b u (hb b n) q⟩,fun b u q n _=>by rw [Ak (hx b n)]; exact n,fun b u q _=>?_,
  fun b xs q=>by rw [Ak (hm b _ q fun z=>z)]; exact q,fun b u xs q=>by rw [Ak (hm b _ q fun z=>z)]; exact q,fun b ps q=>⟨#[],by rw [Ak (hm b _ q fun z=>z),q]; simp⟩⟩
 by_cases hbe:b=e
 ·subst hbe; exact heo
 ·exact ⟨u,k b u hbe q⟩
end
def trk (h:Heap) (H:Hp):List Addr:=(List.range h.objs.size).filter fun a=>(H a).isSome
def JQ (h:Heap) (H:Hp):Heap:=PySem.W.hideAll h (trk h H)
theorem Oh (h:Heap) (H:Hp):(JQ h H).objs.size=h.objs.size:=PySem.W.hideAll_size _ _
theorem PH {h:Heap} {H:Hp} {b:Addr} {o:Obj} (e:h.get? b=some o) (n:H b=none):(JQ h H).get? b=some o :=
 PySem.W.hideAll_get _ e fun hm=>by
  have q:(H b).isSome=true:=(List.mem_filter.mp hm).2;rw [n] at q; simp at q
theorem of_hidT {h:Heap} {H:Hp} {b:Addr} {o:Obj} (e:(JQ h H).get? b=some o):h.get? b=some o/\H b=none:=by
 have e':h.get? b=some o:=PySem.W.of_hideAll (trk h H) e;refine ⟨e',?_⟩;cases q:H b with
 | none=>rfl
 | some x =>
  have hm:b ∈ trk h H:=List.mem_filter.mpr ⟨List.mem_range.mpr (Heap.lt_size e'),by simp [q]⟩;have z:(JQ h H).get? b=none:=PySem.W.hideAll_none (trk h H) hm;rw [z] at e; cases e
end L2
namespace L2
open PySem PySem.Spec PyProof.Rows
structure Mod (K:PySem.W.Frag) (mg:Str->Option Value) (base:Heap):Prop where
 kin:K.In base
 glob:base.Ns mainGlobals mg
 blt:∃ mb,base.Ns builtinsNs mb/\∀ x:Str,x≠"__name__" -> mb x=bootBuiltins x
 nolimit:base.NoLimit
/-- the context: a def's body (or a comprehension's block) running. base: fixed through the whole law; s₀,H₀: the entry; outer: the frames whose slots others may change (a def's callers); stack: all frames that run;
 ex: iterators that were made ahead of the entry and are walked here (a comprehension's); fn: the names whose cells were made at the entry (a def: all; a comprehension's block: its own); calm: not within an except suite; pn: pins that every state bears; xe: what is wanted of an exception that leaves the code -/
structure Cx where
 prog:Program
 w:World
 K:PySem.W.Frag
 mg:Str->Option Value
 base:Heap
 A:Around
 N:List Str
 s₀:Shared
 H₀:Hp
 env:Env
 outer:List Env
 stack:List Env
 ex:List Addr
 fn:Str->Bool
 calm:Bool
 pn:List (Addr×Obj)
 xe:Value->Shared->Prop
def frs (l:List Env):List Addr:=l.filterMap (·.frame)
abbrev Cx.fs (X:Cx):List Addr:=frs X.outer
def Vis (sc:Scope) (x:Str):Prop:=sc.names.lookup x=some .local\/sc.names.lookup x=some .cell\/sc.names.lookup x=some .free
def Loc (sc:Scope) (x:Str):Prop:=sc.names.lookup x=some .local\/sc.names.lookup x=some .cell
def Look (env:Env) (h:Heap) (m:Str->Option Value) (x:Str) (u:Value):Prop :=
 (env.kindOf x=some .local/\m x=some u)\/((env.kindOf x=some .cell\/env.kindOf x=some .free)/\∃ c,env.cells.lookup x=some c/\h.IsCell c (some u))
structure Cx.Ok (X:Cx):Prop where
 mod:Mod X.K X.mg X.base
 kind:X.env.scope.kind=.function
 glob:X.env.globals=mainGlobals
 blt:X.env.builtins=builtinsNs
 above:X.s₀.heap.objs.size<=X.env.locals
 inj:∀ x y c,X.env.cells.lookup x=some c->X.env.cells.lookup y=some c->x=y
 has:∀ x,(X.env.kindOf x=some .cell\/X.env.kindOf x=some .free)->∃ c,X.env.cells.lookup x=some c
 cab:∀ x c,X.fn x=true->X.env.cells.lookup x=some c->X.s₀.heap.objs.size<=c
 hd:X.calm=true->X.A.handled=none
 frames:X.A.frames=some X.stack
 stk:X.stack=X.outer\/(X.stack=X.env :: X.outer/\X.env.frame=some X.env.locals)
 exf:∀ b ∈ X.ex,b≠X.env.locals/\∀ x c,X.env.cells.lookup x=some c->c≠b
 bs:∀ b o,X.base.get? b=some o->X.s₀.heap.get? b=some o/\X.H₀ b=none
 bsz:X.base.objs.size<=X.s₀.heap.objs.size
 noex:∀ b o,X.base.get? b=some o->b ∉ X.ex
 exfs:∀ b ∈ X.ex,b ∉ X.fs
 funs:X.s₀.heap.FunFrames X.base X.outer
 frf:∀ b ∈ X.fs,X.H₀ b=none
structure Inv (X:Cx) (pins:List (Addr×Obj)) (σ:List (Option V)) (H:Hp) (s:Shared):Prop where
 ok:X.Ok
 os:s.os=X.s₀.os
 bare:AllBare s.gens
 base:Un X.fs X.ex X.H₀ H X.s₀.heap s.heap
 loc:∃ m,s.heap.Ns X.env.locals m/\∀ (i:Nat) (x:Str) (v:V),X.N[i]?=some x->σ[i]?=some (some v)->Vis X.env.scope x->∃ u,AM v u/\Look X.env s.heap m x u
 cell:∀ x c,X.env.cells.lookup x=some c->∃ v,s.heap.IsCell c v
 free:H X.env.locals=none
 freeC:∀ x c,X.env.cells.lookup x=some c->H c=none
 pin:∀ p ∈ X.pn ++ pins,s.heap.get? p.1=some p.2/\H p.1=none/\p.1≠X.env.locals/\p.1 ∉ X.fs/\∀ v,p.2.data≠.cell v
 hok:HOk X.prog X.w H s.heap
 len:σ.length=X.N.length
section
variable {X:Cx} {pins:List (Addr×Obj)} {σ:List (Option V)} {H H':Hp} {s:Shared} {h':Heap}
theorem Cx.Ok.nofr (ok:X.Ok) {b:Addr} {o:Obj} (e:X.base.get? b=some o):b ∉ X.fs:=fun hb=>by
 have:=(ok.funs.mem hb).1;rw [e] at this; cases this
theorem Inv.bs (I:Inv X pins σ H s):∀ b o,X.base.get? b=some o->s.heap.get? b=some o/\H b=none:=fun b o e =>
 ⟨I.base.keep b o (I.ok.bs b o e).1 (I.ok.bs b o e).2 (I.ok.nofr e) (I.ok.noex b o e),I.base.free b o (I.ok.bs b o e).1 (I.ok.bs b o e).2 (I.ok.noex b o e)⟩
theorem Inv.bk (I:Inv X pins σ H s):∀ b o,X.base.get? b=some o->s.heap.get? b=some o:=fun b o e=>(I.bs b o e).1
theorem Inv.mod (I:Inv X pins σ H s):Mod X.K X.mg X.base:=I.ok.mod
theorem Inv.kIn (I:Inv X pins σ H s):X.K.In s.heap:=I.ok.mod.kin.keeps I.bk
theorem Inv.lt (I:Inv X pins σ H s):X.env.locals < s.heap.objs.size:=let ⟨_,hn,_⟩:=I.loc; hn.lt
theorem Inv.sz (I:Inv X pins σ H s):X.s₀.heap.objs.size<=s.heap.objs.size:=Nat.le_trans I.ok.above (Nat.le_of_lt I.lt)
theorem Inv.nofs (I:Inv X pins σ H s) {a:Addr} (h:s.heap.objs.size<=a):a ∉ X.fs:=fun hb=>by
 obtain ⟨_,o,ho,_⟩:=I.ok.funs.mem hb;exact absurd (Nat.lt_of_lt_of_le (Heap.lt_size ho) (Nat.le_trans I.sz h)) (Nat.lt_irrefl _)
theorem Inv.cne (I:Inv X pins σ H s):∀ x c,X.env.cells.lookup x=some c->c≠X.env.locals:=fun x c e z=>by
 obtain ⟨v,o,ho,hd⟩:=I.cell x c e;obtain ⟨m,⟨o',es,ep,ho',hd',_⟩,_⟩:=I.loc;rw [z,ho'] at ho; cases ho; rw [hd'] at hd; cases hd
theorem Inv.funs (I:Inv X pins σ H s):s.heap.FunFrames X.base X.outer:=by
 have all:∀ (l:List Env),(∀ b ∈ frs l,b ∈ X.fs)->X.s₀.heap.FunFrames X.base l->s.heap.FunFrames X.base l:=by
  intro l;induction l with
  | nil=>intro _ _; trivial
  | cons env r ih =>
   intro hs hl;obtain ⟨hk,⟨L,o,hf,hn,ho,hd⟩,hr⟩:=hl;have hL:L ∈ X.fs:=hs L (by unfold frs; rw [List.filterMap_cons,hf]; exact List.mem_cons_self);obtain ⟨sl,e⟩:=I.base.slot L o ho (I.ok.frf L hL) hL fun z=>I.ok.exfs L z hL;exact ⟨hk,⟨L,_,hf,hn,e,hd⟩,ih (fun b hb=>hs b (by unfold frs; rw [List.filterMap_cons,hf]; exact List.mem_cons_of_mem _ hb)) hr⟩
 exact all X.outer (fun _ hb=>hb) I.ok.funs
theorem Inv.stack (I:Inv X pins σ H s):s.heap.FunFrames X.base X.stack:=by
 rcases I.ok.stk with e | ⟨e,hf⟩
 ·rw [e]; exact I.funs
 ·rw [e];obtain ⟨m,hn,_⟩:=I.loc;refine .cons (by rw [I.ok.kind]; decide) hf hn ?_ I.funs;exact Heap.get?_none_of_le (Nat.le_trans I.ok.bsz I.ok.above)
theorem Inv.stkSub (I:Inv X pins σ H s):∀ b ∈ frs X.stack,b ∈ X.env.locals :: X.fs:=fun b hb=>by
 rcases I.ok.stk with e | ⟨e,hf⟩
 ·rw [e] at hb; exact List.mem_cons_of_mem _ hb
 ·rw [e] at hb;unfold frs at hb;rw [List.filterMap_cons,hf] at hb;exact hb
theorem Inv.stkFree (I:Inv X pins σ H s):∀ b ∈ frs X.stack,H b=none:=fun b hb=>by
 rcases List.mem_cons.mp (I.stkSub b hb) with e | hb
 ·rw [e]; exact I.free
 ·obtain ⟨_,o,ho,_⟩:=I.ok.funs.mem hb;exact I.base.free b o ho (I.ok.frf b hb) fun z=>I.ok.exfs b z hb
theorem Inv.step {g':Array GenState} {t':Nat} {d':Drawn} {ch:List Addr} (I:Inv X pins σ H s)
  (hch:∀ b ∈ ch,(b ∈ X.ex\/X.s₀.heap.objs.size<=b)/\b≠X.env.locals/\(∀ x c,X.env.cells.lookup x=some c->c≠b)/\∀ p ∈ X.pn ++ pins,p.1≠b)
  (keep:∀ b o,b≠X.env.locals->b ∉ X.fs->b ∉ ch->s.heap.get? b=some o->H b=none->h'.get? b=some o)
  (slot:∀ b o,b≠X.env.locals->b ∈ X.fs->b ∉ ch->s.heap.get? b=some o->H b=none->∃ sl,h'.get? b=some { o with slots:=sl }) (free:∀ b o,b ∉ ch->s.heap.get? b=some o->H b=none->H' b=none)
  (there:∀ b o,b ∉ ch->s.heap.get? b=some o->∃ o',h'.get? b=some o')
  (tups:∀ b xs,H b=some (.tup xs)->H' b=some (.tup xs)) (frzs:∀ b o u,H b=some (.frz o u)->H' b=some (.frz o u)) (tbls:∀ b ps,H b=some (.tbl ps)->∃ more,H' b=some (.tbl (ps ++ more)))
  (ns:∀ m,s.heap.Ns X.env.locals m->h'.Ns X.env.locals m) (hok:HOk X.prog X.w H' h') (hg:AllBare g') :
  Inv X pins σ H' { s with heap:=h',gens:=g',drawn:=d',toks:=t' }:=by
 have neL:∀ b o,X.s₀.heap.get? b=some o->b≠X.env.locals:=fun b o e=>Nat.ne_of_lt (Nat.lt_of_lt_of_le (Heap.lt_size e) I.ok.above);have neC:∀ b o,X.s₀.heap.get? b=some o->b ∉ X.ex->b ∉ ch:=fun b o e hx hb=>by
  rcases (hch b hb).1 with z | z
  ·exact hx z
  ·exact absurd (Nat.lt_of_lt_of_le (Heap.lt_size e) z) (Nat.lt_irrefl _)
 have cellK:∀ x c,X.env.cells.lookup x=some c->∀ v,s.heap.IsCell c v->h'.IsCell c v:=fun x c e v ⟨o,ho,hd⟩=>by
  have nch:c ∉ ch:=fun z=>(hch c z).2.2.1 x c e rfl;by_cases hc:c ∈ X.fs
  ·obtain ⟨sl,q⟩:=slot c o (I.cne x c e) hc nch ho (I.freeC x c e);exact ⟨_,q,hd⟩
  ·exact ⟨o,keep c o (I.cne x c e) hc nch ho (I.freeC x c e),hd⟩
 refine ⟨I.ok,I.os,hg,⟨fun b o e n hb hx=>?_,fun b o e n hb hx=>?_,fun b o e n hx=>?_,fun b o e hx=>?_,fun b xs e=>tups b xs (I.base.tups b xs e),fun b o xs e=>frzs b o xs (I.base.frzs b o xs e),fun b ps e=>?_⟩,?_,fun x c e=>?_,?_,fun x c e=>?_,fun p hp=>?_,hok,I.len⟩
 ·exact keep b o (neL b o e) hb (neC b o e hx) (I.base.keep b o e n hb hx) (I.base.free b o e n hx)
 ·obtain ⟨sl,e1⟩:=I.base.slot b o e n hb hx;obtain ⟨sl',e2⟩:=slot b _ (neL b o e) hb (neC b o e hx) e1 (I.base.free b o e n hx);exact ⟨sl',e2⟩
 ·obtain ⟨o',e1⟩:=I.base.there b o e hx;exact free b o' (neC b o e hx) e1 (I.base.free b o e n hx)
 ·obtain ⟨o',e1⟩:=I.base.there b o e hx;exact there b o' (neC b o e hx) e1
 ·obtain ⟨m1,e1⟩:=I.base.tbls b ps e;obtain ⟨m2,e2⟩:=tbls b _ e1;exact ⟨m1 ++ m2,by rw [e2,Array.append_assoc]⟩
 ·obtain ⟨m,hn,hl⟩:=I.loc;refine ⟨m,ns m hn,fun i x v e1 e2 e3=>?_⟩;obtain ⟨u,r,l⟩:=hl i x v e1 e2 e3;refine ⟨u,r,?_⟩;rcases l with l | ⟨k,c,e,z⟩
  ·exact .inl l
  ·exact .inr ⟨k,c,e,cellK x c e _ z⟩
 ·obtain ⟨v,z⟩:=I.cell x c e;exact ⟨v,cellK x c e v z⟩
 ·obtain ⟨m,⟨o,_,_,ho,_⟩,_⟩:=I.loc;exact free _ o (fun z=>(hch _ z).2.1 rfl) ho I.free
 ·obtain ⟨v,o,ho,hd⟩:=I.cell x c e;exact free c o (fun z=>(hch c z).2.2.1 x c e rfl) ho (I.freeC x c e)
 ·obtain ⟨e,n,ne,nf,d⟩:=I.pin p hp;have nch:p.1 ∉ ch:=fun z=>(hch p.1 z).2.2.2 p hp rfl;exact ⟨keep p.1 p.2 ne nf nch e n,free p.1 p.2 nch e n,ne,nf,d⟩
theorem Inv.un {t':Nat} (I:Inv X pins σ H s) (u:Un X.fs [] H H' s.heap h') (hok:HOk X.prog X.w H' h'):Inv X pins σ H' { s with heap:=h',toks:=t' }:=by
 obtain ⟨m,⟨o,es,ep,ho,r⟩,_⟩:=id I.loc;obtain ⟨sl,hL⟩:=u.any ho I.free (by simp);exact I.step (g':=s.gens) (d':=s.drawn) (ch:=[]) (fun _ z=>nomatch z) (fun b o _ hb _ e n=>u.keep b o e n hb (by simp)) (fun b o _ hb _ e n=>u.slot b o e n hb (by simp)) (fun b o _ e n=>u.free b o e n (by simp)) (fun b o _ e=>u.there b o e (by simp)) u.tups u.frzs u.tbls (fun m' hm=>by
  obtain ⟨o',es',ep',ho',r'⟩:=hm;rw [ho] at ho'; cases ho';exact ⟨_,es',ep',hL,r'⟩) hok I.bare
theorem Inv.call {g':Array GenState} {t':Nat} {d':Drawn} {ch:List Addr} (I:Inv X pins σ H s) (u:Un (frs X.stack) ch H H' s.heap h') (hok:HOk X.prog X.w H' h') (hg:AllBare g')
  (hch:∀ b ∈ ch,(b ∈ X.ex\/X.s₀.heap.objs.size<=b)/\b≠X.env.locals/\(∀ x c,X.env.cells.lookup x=some c->c≠b)/\∀ p ∈ X.pn ++ pins,p.1≠b) :
  Inv X pins σ H' { s with heap:=h',gens:=g',drawn:=d',toks:=t' }:=by
 obtain ⟨m,⟨o,es,ep,ho,r⟩,_⟩:=id I.loc;obtain ⟨sl,hL⟩:=u.any ho I.free fun z=>(hch _ z).2.1 rfl;exact I.step (ch:=ch) hch (fun b o hL hb hc e n=>u.keep b o e n (fun z=>(List.mem_cons.mp (I.stkSub b z)).elim hL hb) hc) (fun b o _ _ hc e n=>u.any e n hc) (fun b o hc e n=>u.free b o e n hc) (fun b o hc e=>u.there b o e hc) u.tups u.frzs u.tbls (fun m' hm=>by
  obtain ⟨o',es',ep',ho',r'⟩:=hm;rw [ho] at ho'; cases ho';exact ⟨_,es',ep',hL,r'⟩) hok hg
theorem Inv.turned {t':Nat} {it:Addr} (I:Inv X pins σ H s) (k:∀ b o,b≠it->s.heap.get? b=some o->h'.get? b=some o) (hn:H it=none) (hL:it≠X.env.locals)
  (h1:it ∈ X.ex\/X.s₀.heap.objs.size<=it) (h2:∀ x c,X.env.cells.lookup x=some c->c≠it) (h3:∀ p ∈ X.pn ++ pins,p.1≠it):Inv X pins σ H { s with heap:=h',toks:=t' }:=by
 have nit:∀ b u,H b=some u->b≠it:=fun b u e z=>by rw [z,hn] at e; cases e
 refine I.step (g':=s.gens) (d':=s.drawn) (ch:=[it]) (fun b hb=>?_) (fun b o _ _ hc e _=>k b o (fun z=>hc (by simp [z])) e) (fun b o _ _ hc e _=>⟨o.slots,k b o (fun z=>hc (by simp [z])) e⟩) (fun _ _ _ _ n=>n)
  (fun b o hc e=>⟨o,k b o (fun z=>hc (by simp [z])) e⟩) (fun _ _ e=>e) (fun _ _ _ e=>e) (fun b ps e=>⟨#[],by rw [e]; simp⟩) (fun m hm=>?_) (fun b u e=>?_) I.bare
 ·have e:b=it:=by simpa using hb
  subst e;exact ⟨h1,hL,h2,h3⟩
 ·obtain ⟨o,es,ep,ho,r⟩:=hm;exact ⟨o,es,ep,k _ o (Ne.symm hL) ho,r⟩
 ·refine (I.hok b u e).stay (fun c v hc q=>k c v ?_ q) (fun _ q=>q) fun _ _ q=>q;rcases hc with z | z
  ·rw [z]; exact nit b u e
  ·exact nit c _ z
theorem Inv.tok (I:Inv X pins σ H s) (t:Nat):Inv X pins σ H { s with toks:=t }:=I.un (h':=s.heap) (t':=t) Un.refl I.hok
theorem Inv.kept {t':Nat} (I:Inv X pins σ H s) (k:∀ b u,s.heap.get? b=some u->h'.get? b=some u):Inv X pins σ H { s with heap:=h',toks:=t' }:=I.un (Un.kept k) (I.hok.kept k)
theorem Inv.laid {a:Addr} {o:HO} {t':Nat} (I:Inv X pins σ H s) (k:∀ b u,s.heap.get? b=some u->h'.get? b=some u) (hp:s.heap.objs.size<=a) (new:AN X.prog X.w (upd H a o) h' a o) :
  Inv X pins σ (upd H a o) { s with heap:=h',toks:=t' }:=I.un (Un.laid k hp (I.hok.fresh hp)) (I.hok.laid k hp new)
theorem Inv.write {x e:Addr} {o:HO} {t':Nat} (I:Inv X pins σ H s) (mu:Mut (H x)) (he:e=x\/H e=some (.own x)) (k:∀ b u,b≠e->s.heap.get? b=some u->h'.get? b=some u) (heo:∃ u,h'.get? e=some u)
  (new:AN X.prog X.w (upd H x o) h' x o):Inv X pins σ (upd H x o) { s with heap:=h',toks:=t' }:=I.un (Un.write mu he k heo) (I.hok.write mu he k heo new)
theorem Inv.weak {σ':List (Option V)} (I:Inv X pins σ H s) (hl:σ'.length=σ.length) (w:∀ (i:Nat) v,σ'[i]?=some (some v)->σ[i]?=some (some v)):Inv X pins σ' H s :=
 ⟨I.ok,I.os,I.bare,I.base,let ⟨m,hn,hl'⟩:=I.loc; ⟨m,hn,fun i x v e1 e2 e3=>hl' i x v e1 (w i v e2) e3⟩,I.cell,I.free,I.freeC,I.pin,I.hok,hl.trans I.len⟩
theorem Inv.pins_of {pins':List (Addr×Obj)} (I:Inv X pins σ H s) (h:∀ p ∈ pins',s.heap.get? p.1=some p.2/\H p.1=none/\p.1≠X.env.locals/\p.1 ∉ X.fs/\∀ v,p.2.data≠.cell v):Inv X pins' σ H s :=
 ⟨I.ok,I.os,I.bare,I.base,I.loc,I.cell,I.free,I.freeC,fun p hp=>(List.mem_append.mp hp).elim (fun z=>I.pin p (List.mem_append_left _ z)) (h p),I.hok,I.len⟩
theorem Ly {N:List Str} (hN:N.Nodup) {i j:Nat} {x:Str} (a:N[i]?=some x) (b:N[j]?=some x):i=j:=by
 obtain ⟨h1,e1⟩:=List.getElem?_eq_some_iff.mp a;obtain ⟨h2,e2⟩:=List.getElem?_eq_some_iff.mp b;exact (List.getElem_inj hN).mp (e1.trans e2.symm)
theorem IV {M:Model} {A:Around} {E:Value->Shared->Prop} {i:Nat} {x:Str} {v:V} {u:Value} {Q:Unit->Shared->Prop} (I:Inv X pins σ H s) (hN:X.N.Nodup) (hi:X.N[i]?=some x) (hx:Loc X.env.scope x) (r:AM v u)
  (h:∀ s',Inv X pins (σ.set i (some v)) H s'->(∃ a,Heap.SameBut a s.heap s'.heap/\(a=X.env.locals\/X.env.cells.lookup x=some a))->Q () s') (hf:X.fn x=true\/X.env.scope.names.lookup x=some .local:=by first | exact .inl rfl | exact .inr rfl | assumption):wpAny M A (storeName X.env x u) Q E s:=by
 obtain ⟨m,hn,hl⟩:=id I.loc;have hcls:(X.env.scope.kind == .class || (X.env.scope.kind == .module && X.env.locals != X.env.globals))=false:=by rw [I.ok.kind]; rfl
 have hiσ:i < σ.length:=by rw [I.len]; exact (List.getElem?_eq_some_iff.mp hi).1
 have cne:=I.cne;have tracked:∀ {a:Addr} {h':Heap},(∃ o,s.heap.get? a=some o/\H a=none)->Heap.SameBut a s.heap h'->HOk X.prog X.w H h':=fun {a h'} ha hs b ob e=>by
  obtain ⟨_,_,hfree⟩:=ha;refine (I.hok b ob e).stay (fun c w' hc q=>(hs.2 c ?_).trans q) (fun _ q=>q) fun _ _ q=>q;rintro rfl;rcases hc with rfl | hc
  ·rw [hfree] at e; cases e
  ·rw [hfree] at hc; cases hc
 rcases hx with hk | hk
 ·refine wpAny_storeName_local hk hn (fun h' hn' hs=>?_) hcls;obtain ⟨oL,_,_,hoL,_⟩:=id hn;refine h _ ⟨I.ok,I.os,I.bare,⟨fun b o e n hb hx=>?_,fun b o e n hb hx=>?_,I.base.free,fun b o e hx=>?_,I.base.tups,I.base.frzs,I.base.tbls⟩,⟨_,hn',fun j y v' e1 e2 e3=>?_⟩,fun y c e=>?_,I.free,I.freeC,fun p hp=>?_,tracked ⟨oL,hoL,I.free⟩ hs,by simpa using I.len⟩ ⟨_,hs,.inl rfl⟩
  ·exact (hs.2 b (Nat.ne_of_lt (Nat.lt_of_lt_of_le (Heap.lt_size e) I.ok.above))).trans (I.base.keep b o e n hb hx)
  ·obtain ⟨sl,e1⟩:=I.base.slot b o e n hb hx;exact ⟨sl,(hs.2 b (Nat.ne_of_lt (Nat.lt_of_lt_of_le (Heap.lt_size e) I.ok.above))).trans e1⟩
  ·obtain ⟨o',e1⟩:=I.base.there b o e hx;exact ⟨o',(hs.2 b (Nat.ne_of_lt (Nat.lt_of_lt_of_le (Heap.lt_size e) I.ok.above))).trans e1⟩
  ·by_cases hj:j=i
   ·subst hj;rw [hi] at e1; cases e1;rw [List.getElem?_set_self hiσ] at e2;cases e2;exact ⟨u,r,.inl ⟨hk,by simp⟩⟩
   ·rw [List.getElem?_set_ne (Ne.symm hj)] at e2;obtain ⟨u',r',q⟩:=hl j y v' e1 e2 e3;refine ⟨u',r',?_⟩;rcases q with ⟨k,e⟩ | ⟨k,c,e,z⟩
    ·refine .inl ⟨k,?_⟩;have:y≠x:=fun e=>hj (Ly hN e1 (e ▸ hi));simp [this,e]
    ·exact .inr ⟨k,c,e,z.sameBut hs (cne y c e)⟩
  ·obtain ⟨w',z⟩:=I.cell y c e;exact ⟨w',z.sameBut hs (cne y c e)⟩
  ·obtain ⟨e,n,ne,nf,d⟩:=I.pin p hp;exact ⟨(hs.2 p.1 ne).trans e,n,ne,nf,d⟩
 ·have hfn:X.fn x=true:=by
   rcases hf with z | z
   ·exact z
   ·rw [z] at hk; cases hk
  obtain ⟨c,hc⟩:=I.ok.has x (.inl hk);obtain ⟨w',z⟩:=I.cell x c hc;refine wpAny_storeName_cell I.ok.kind hk hc z (fun h' hc' hs=>?_);obtain ⟨oc,hoc,hocd⟩:=id z;refine h { s with heap:=h' } ⟨I.ok,I.os,I.bare,⟨fun b o e n hb hx=>?_,fun b o e n hb hx=>?_,I.base.free,fun b o e hx=>?_,I.base.tups,I.base.frzs,I.base.tbls⟩,⟨m,hn.sameBut hs (Ne.symm (cne x c hc)),fun j y v' e1 e2 e3=>?_⟩,fun y c' e=>?_,I.free,I.freeC,fun p hp=>?_,tracked ⟨oc,hoc,I.freeC x c hc⟩ hs,by simpa using I.len⟩ ⟨c,hs,.inr hc⟩
  ·exact (hs.2 b (Nat.ne_of_lt (Nat.lt_of_lt_of_le (Heap.lt_size e) (I.ok.cab x c hfn hc)))).trans (I.base.keep b o e n hb hx)
  ·obtain ⟨sl,e1⟩:=I.base.slot b o e n hb hx;exact ⟨sl,(hs.2 b (Nat.ne_of_lt (Nat.lt_of_lt_of_le (Heap.lt_size e) (I.ok.cab x c hfn hc)))).trans e1⟩
  ·obtain ⟨o',e1⟩:=I.base.there b o e hx;exact ⟨o',(hs.2 b (Nat.ne_of_lt (Nat.lt_of_lt_of_le (Heap.lt_size e) (I.ok.cab x c hfn hc)))).trans e1⟩
  ·by_cases hj:j=i
   ·subst hj;rw [hi] at e1; cases e1;rw [List.getElem?_set_self hiσ] at e2;cases e2;exact ⟨u,r,.inr ⟨.inl hk,c,hc,hc'⟩⟩
   ·rw [List.getElem?_set_ne (Ne.symm hj)] at e2;obtain ⟨u',r',q⟩:=hl j y v' e1 e2 e3;refine ⟨u',r',?_⟩;rcases q with q | ⟨k,c',e,z'⟩
    ·exact .inl q
    ·refine .inr ⟨k,c',e,z'.sameBut hs ?_⟩;rintro rfl;exact hj (Ly hN e1 (I.ok.inj _ _ _ e hc ▸ hi))
  ·by_cases hcc:c'=c
   ·subst hcc; exact ⟨_,hc'⟩
   ·obtain ⟨w2,z2⟩:=I.cell y c' e;exact ⟨w2,z2.sameBut hs hcc⟩
  ·obtain ⟨e,n,ne,nf,d⟩:=I.pin p hp;refine ⟨(hs.2 p.1 ?_).trans e,n,ne,nf,d⟩;intro q;rw [q,hoc] at e;have q':oc=p.2:=Option.some.inj e;exact d w' (by rw [<-q']; exact hocd)
theorem Lg {M:Model} {A:Around} {E:Value->Shared->Prop} {i:Nat} {x:Str} {v:V} {u:Value} {Q:Unit->Shared->Prop} (I:Inv X pins σ H s) (hN:X.N.Nodup) (hi:X.N[i]?=some x) (hx:Loc X.env.scope x) (r:AM v u)
  (h:∀ s',Inv X pins (σ.set i (some v)) H s'->Q () s') (hf:X.fn x=true\/X.env.scope.names.lookup x=some .local:=by first | exact .inl rfl | exact .inr rfl | assumption):wpAny M A (storeName X.env x u) Q E s :=
 IV I hN hi hx r (fun s' I' _=>h s' I') hf
theorem Inv.call' {s':Shared} {ch:List Addr} (I:Inv X pins σ H s) (ho:s'.os=s.os) (u:Un (frs X.stack) ch H H' s.heap s'.heap) (hok:HOk X.prog X.w H' s'.heap) (hg:AllBare s'.gens)
  (hch:∀ b ∈ ch,(b ∈ X.ex\/X.s₀.heap.objs.size<=b)/\b≠X.env.locals/\(∀ x c,X.env.cells.lookup x=some c->c≠b)/\∀ p ∈ X.pn ++ pins,p.1≠b):Inv X pins σ H' s':=by
 obtain ⟨h',g',d',t',o'⟩:=s';have e:o'=s.os:=ho;subst e;exact I.call (g':=g') (t':=t') (d':=d') u hok hg hch
end
abbrev XK:=Value->Option Addr->Hp->Prop
abbrev St:=List (Option V)
abbrev VK:=V->Hp->Prop
abbrev TE:=St->Hp->VK->Prop
abbrev TT:=St->Hp->(Bool->Hp->Prop)->Prop
abbrev TA:=St->Hp->(List V->Hp->Prop)->Prop
structure Iz where
 nx:St->Hp->Prop
 rt:VK
 bk:St->Hp->Prop:=fun _ _=>False
 ct:St->Hp->Prop:=fun _ _=>False
abbrev TS:=Iz->St->Hp->Prop
def EP (X:Cx) (pins:List (Addr×Obj)) (σ:St) (Q:VK) (u:Value) (s':Shared):Prop:=∃ v H',Inv X pins σ H' s'/\AM v u/\Q v H'
def TP (X:Cx) (pins:List (Addr×Obj)) (σ:St) (Q:Bool->Hp->Prop) (b:Bool) (s':Shared):Prop:=∃ H',Inv X pins σ H' s'/\Q b H'
def AP (X:Cx) (pins:List (Addr×Obj)) (σ:St) (Q:List V->Hp->Prop) (us:List Value) (s':Shared):Prop:=∃ vs H',Inv X pins σ H' s'/\Aw vs us/\Q vs H'
def SP (X:Cx) (pins:List (Addr×Obj)) (D:Iz) (f:Flow) (s':Shared):Prop :=
 match f with
 | .next=>∃ σ' H',Inv X pins σ' H' s'/\D.nx σ' H'
 | .brk=>∃ σ' H',Inv X pins σ' H' s'/\D.bk σ' H'
 | .cont=>∃ σ' H',Inv X pins σ' H' s'/\D.ct σ' H'
 | .ret u=>∃ v σ' H',Inv X pins σ' H' s'/\AM v u/\D.rt v H'
def PE (X:Cx) (e:Expr) (t:TE):Prop :=
 ∀ (pins:List (Addr×Obj)) (s:Shared) (σ:St) (H:Hp) (Q:VK),Inv X pins σ H s->t σ H Q->wpAny (model X.prog X.w) X.A (eval e X.env) (EP X pins σ Q) X.xe s
def PT (X:Cx) (e:Expr) (t:TT):Prop :=
 ∀ (pins:List (Addr×Obj)) (s:Shared) (σ:St) (H:Hp) (Q:Bool->Hp->Prop),Inv X pins σ H s->t σ H Q->wpAny (model X.prog X.w) X.A (isTrue e X.env (eval e X.env)) (TP X pins σ Q) X.xe s
def PW (X:Cx) (e:Expr) (t:TT):Prop :=
 ∀ (whole:Sem Value) (pins:List (Addr×Obj)) (s:Shared) (σ:St) (H:Hp) (Q:Bool->Hp->Prop),Inv X pins σ H s->t σ H Q->wpAny (model X.prog X.w) X.A (isTrue e X.env whole) (TP X pins σ Q) X.xe s
theorem PW.pt {X:Cx} {e:Expr} {t:TT} (h:PW X e t):PT X e t:=h _
def PA (X:Cx) (es:List Expr) (t:TA):Prop :=
 ∀ (pos:Pos) (pins:List (Addr×Obj)) (s:Shared) (σ:St) (H:Hp) (Q:List V->Hp->Prop),Inv X pins σ H s->t σ H Q->wpAny (model X.prog X.w) X.A (spliced (backTo pos (starEach es X.env))) (AP X pins σ Q) X.xe s
def PS (X:Cx) (st:Stmt) (t:TS):Prop :=
 ∀ (pins:List (Addr×Obj)) (s:Shared) (σ:St) (H:Hp) (D:Iz),Inv X pins σ H s->t D σ H->wpAny (model X.prog X.w) X.A (exec st X.env) (SP X pins D) X.xe s
def PSs (X:Cx) (st:List Stmt) (t:TS):Prop :=
 ∀ (pins:List (Addr×Obj)) (s:Shared) (σ:St) (H:Hp) (D:Iz),Inv X pins σ H s->t D σ H->wpAny (model X.prog X.w) X.A (execs st X.env) (SP X pins D) X.xe s
theorem thn {α:Type} {t:Sem α} {Q Q':α->Shared->Prop} {M:Model} {A:Around} {E:Value->Shared->Prop} {s:Shared} (h:wpAny M A t Q E s) (hQ:∀ a s,Q a s->Q' a s):wpAny M A t Q' E s:=wpAny_mono h hQ fun _ _ x=>x
end L2
namespace L2
open PySem PySem.Spec PyProof.Rows
section
variable {X:Cx}
def tVar (i:Nat):TE:=fun σ H Q=>∃ v,σ[i]?=some (some v)/\Q v H
def tC (v:V):TE:=fun _ H Q=>Q v H
theorem pe_var {i:Nat} {x:Str} {pos:Pos} (hN:X.N[i]?=some x) (hv:Vis X.env.scope x) (hd:(x == ("__debug__" : Str))=false:=by decide) (hcd:(x == ("__classdict__" : Str))=false:=by decide):PE X (.Name x pos) (tVar i):=by
 intro pins s σ H Q I h;obtain ⟨v,e,h⟩:=h;obtain ⟨m,hn,hl⟩:=I.loc;obtain ⟨u,r,l⟩:=hl i x v hN e hv;have fin:EP X pins σ Q u s:=⟨v,H,I,r,h⟩
 rcases l with ⟨hk,hm⟩ | ⟨hk,c,hc,hcell⟩
 ·exact wpAny_Name (wpAny_loadName_local I.ok.kind hk hn hm fin) hd
 ·rcases hk with hk | hk
  ·exact wpAny_Name (wpAny_loadName_cell I.ok.kind hk hc hcell fin) hd
  ·exact wpAny_Name (wpAny_loadName_free I.ok.kind hk hc hcell fin hcd) hd
theorem Ah {i j pos}:PE X (.Constant (.int i) j pos) (tC (.int i)):=fun _ _ _ H _ I h=>wpAny_Constant_int ⟨.int i,H,I.tok _,⟨_,rfl⟩,h⟩
theorem Fb {b j pos}:PE X (.Constant (.bool b) j pos) (tC (.bl b)):=fun _ _ _ H _ I h=>Constant_bool ⟨.bl b,H,I,rfl,h⟩
theorem Fm {j pos}:PE X (.Constant .none j pos) (tC .non):=fun _ _ _ H _ I h=>Constant_none ⟨.non,H,I,rfl,h⟩
theorem DG {x j pos}:PE X (.Constant (.str x) j pos) (tC (.str x)):=fun _ _ _ H _ I h=>Calls.Constant_str ⟨.str x,H,I.tok _,⟨_,rfl⟩,h⟩
def Gl (X:Cx) (x:Str):Prop:=X.env.kindOf x=some .globalImplicit
theorem JN {E:Value->Shared->Prop} {pins:List (Addr×Obj)} {s:Shared} {σ:St} {H:Hp} {x:Str} {u:Value} {pos:Pos} {Q:Value->Shared->Prop} (I:Inv X pins σ H s) (hg:Gl X x) (hm:X.mg x=some u) (h:Q u s)
  (hd:(x == ("__debug__" : Str))=false:=by decide):wpAny (model X.prog X.w) X.A (eval (.Name x pos) X.env) Q E s :=
 Calls.Name_function_global I.ok.kind hg (Calls.loadGlobal_global (by rw [I.ok.glob]; exact I.mod.glob.keeps I.bk) hm h) hd
theorem Ev {E:Value->Shared->Prop} {pins:List (Addr×Obj)} {s:Shared} {σ:St} {H:Hp} {x:Str} {u:Value} {pos:Pos} {Q:Value->Shared->Prop} (I:Inv X pins σ H s) (hg:Gl X x) (hm:X.mg x=none) (hv:bootBuiltins x=some u) (h:Q u s)
  (hn:x≠"__name__" := by decide) (hd:(x == ("__debug__" : Str))=false:=by decide):wpAny (model X.prog X.w) X.A (eval (.Name x pos) X.env) Q E s:=by
 obtain ⟨mb,h1,h2⟩:=I.mod.blt;exact Calls.Name_function_global I.ok.kind hg (Calls.loadGlobal_builtin (by rw [I.ok.glob]; exact I.mod.glob.keeps I.bk) hm (by rw [I.ok.blt]; exact h1.keeps I.bk) ((h2 x hn).trans hv) h) hd
theorem JB {x:Str} {v:V} {u:Value} {pos:Pos} (hg:Gl X x) (hm:X.mg x=some u) (r:AM v u) (hd:(x == ("__debug__" : Str))=false:=by decide):PE X (.Name x pos) (tC v) :=
 fun _ _ _ H _ I h=>JN I hg hm ⟨v,H,I,r,h⟩ hd
theorem EU {x:Str} {v:V} {u:Value} {pos:Pos} (hg:Gl X x) (hm:X.mg x=none) (hv:bootBuiltins x=some u) (r:AM v u) (hn:x≠"__name__" := by decide) (hd:(x == ("__debug__" : Str))=false:=by decide):PE X (.Name x pos) (tC v) :=
 fun _ _ _ H _ I h=>Ev I hg hm hv ⟨v,H,I,r,h⟩ hn hd
variable {a b:Expr} {ta tb:TE} {pos:Pos}
def tB (t:TE):TT:=fun σ H Q=>t σ H fun x H1=>∃ c,x=.bl c/\Q c H1
theorem Ed {e:Expr} {t:TE} (h:PE X e t) (he:∀ whole,isTrue e X.env whole=(do let v <-whole; standAt e.pos; holding [v] (truthy v)):=by intro _; rfl):PT X e (tB t):=by
 intro pins s σ H Q I hw;refine isTrue_plain (thn (h pins s σ H _ I hw) fun v s1 ⟨x,H1,I1,r1,q1⟩=>?_) (he _);obtain ⟨d,rfl,q⟩:=q1;cases r1;exact wpAny_truthy_bool ⟨H1,I1,q⟩
variable {tA tB':TT} {rest:List Expr}
def tAnd (t u:TT):TT:=fun σ H Q=>t σ H fun c H1=>if c=true then u σ H1 Q else Q false H1
def tOr (t u:TT):TT:=fun σ H Q=>t σ H fun c H1=>if c=true then Q true H1 else u σ H1 Q
def tNot (t:TT):TT:=fun σ H Q=>t σ H fun c H1=>Q (!c) H1
theorem Ng (ha:PT X a tA):PW X (.BoolOp .And [a] pos) tA:=by
 intro wh pins s σ H Q I h;refine isTrue_and (thn (ha pins s σ H Q I h) fun c s1 e=>?_);cases c with
 | true=>exact isTrue_and_nil e
 | false=>exact e
theorem GT (ha:PT X a tA):PW X (.BoolOp .Or [a] pos) tA:=by
 intro wh pins s σ H Q I h;refine isTrue_or (thn (ha pins s σ H Q I h) fun c s1 e=>?_);cases c with
 | false=>exact isTrue_or_nil e
 | true=>exact e
theorem OX (ha:PT X a tA) (hb:PW X (.BoolOp .And (b :: rest) pos) tB'):PW X (.BoolOp .And (a :: b :: rest) pos) (tAnd tA tB'):=by
 intro wh pins s σ H Q I h;refine isTrue_and (thn (ha pins s σ H _ I h) fun c s1 ⟨H1,I1,q1⟩=>?_);cases c with
 | true=>exact hb wh pins s1 σ H1 Q I1 q1
 | false=>exact ⟨H1,I1,q1⟩
theorem GU (ha:PT X a tA) (hb:PW X (.BoolOp .Or (b :: rest) pos) tB'):PW X (.BoolOp .Or (a :: b :: rest) pos) (tOr tA tB'):=by
 intro wh pins s σ H Q I h;refine isTrue_or (thn (ha pins s σ H _ I h) fun c s1 ⟨H1,I1,q1⟩=>?_);cases c with
 | true=>exact ⟨H1,I1,q1⟩
 | false=>exact hb wh pins s1 σ H1 Q I1 q1
theorem EK (ha:PT X a tA):PT X (.UnaryOp .Not a pos) (tNot tA):=by
 intro pins s σ H Q I h;exact isTrue_not (ha pins s σ H (fun c H1=>Q (!c) H1) I h)
def tAndV (ta tb:TE):TE:=fun σ H Q=>ta σ H fun x H1=>∃ c,x=.bl c/\if c=true then tb σ H1 Q else Q (.bl false) H1
def tOrV (ta tb:TE):TE:=fun σ H Q=>ta σ H fun x H1=>∃ c,x=.bl c/\if c=true then Q (.bl true) H1 else tb σ H1 Q
def tNotV (ta:TE):TE:=fun σ H Q=>ta σ H fun x H1=>∃ c,x=.bl c/\Q (.bl (!c)) H1
theorem JA {op} {t:TE} (h:PE X a t):PE X (.BoolOp op [a] pos) t:=fun pins s σ H Q I hw=>BoolOp_one (h pins s σ H Q I hw)
theorem Mo (ha:PE X a ta) (hb:PE X (.BoolOp .And (b :: rest) pos) tb):PE X (.BoolOp .And (a :: b :: rest) pos) (tAndV ta tb):=by
 intro pins s σ H Q I h;refine BoolOp_and (thn (ha pins s σ H _ I h) fun v s1 ⟨x,H1,I1,r1,q1⟩=>?_);obtain ⟨c,rfl,q1⟩:=q1;cases r1;refine wpAny_truthy_bool ?_;cases c with
 | true=>exact hb pins s1 σ H1 Q I1 q1
 | false=>exact ⟨.bl false,H1,I1,rfl,q1⟩
theorem pe_or (ha:PE X a ta) (hb:PE X (.BoolOp .Or (b :: rest) pos) tb):PE X (.BoolOp .Or (a :: b :: rest) pos) (tOrV ta tb):=by
 intro pins s σ H Q I h;refine BoolOp_or (thn (ha pins s σ H _ I h) fun v s1 ⟨x,H1,I1,r1,q1⟩=>?_);obtain ⟨c,rfl,q1⟩:=q1;cases r1;refine wpAny_truthy_bool ?_;cases c with
 | false=>exact hb pins s1 σ H1 Q I1 q1
 | true=>exact ⟨.bl true,H1,I1,rfl,q1⟩
theorem pe_not (ha:PE X a ta):PE X (.UnaryOp .Not a pos) (tNotV ta):=by
 intro pins s σ H Q I h;refine UnaryOp_ (thn (ha pins s σ H _ I h) fun v s1 ⟨x,H1,I1,r1,q1⟩=>?_);obtain ⟨c,rfl,q1⟩:=q1;cases r1;exact not_of (wpAny_truthy_bool ⟨.bl (!c),H1,I1,rfl,q1⟩)
end
end L2
namespace L2
open PySem PySem.Spec PyProof.Rows
def SqL (K:PySem.W.Frag) (H:Hp) (a:Addr) (xs:List V):Prop :=
 Rd H a (.lst xs) \/
  ∃ (o:Obj) (its:Array Value) (n:Nat),K.lookup a=some o/\o.cls=.type "list" /\ o.dict=none/\o.data=.seq its n/\its.size<=sizeLine/\Aw xs its.toList
def SqT (K:PySem.W.Frag) (H:Hp) (a:Addr) (xs:List V):Prop :=
 Rd H a (.tup xs) \/
  ∃ (o:Obj) (its:Array Value) (n:Nat),K.lookup a=some o/\o.cls=.type "tuple" /\ o.data=.seq its n/\its.size<=sizeLine/\Aw xs its.toList
def absV:Value->Option V
 | .none=>some .non
 | .bool b=>some (.bl b)
 | .int i _=>some (.int i)
 | .str x _=>some (.str x)
 | .bytes b _=>some (.byt b)
 | .float b _=>some (.flt b)
 | .ref a=>some (.ref a)
 | .type n=>some (.ty n)
 | _=>none
theorem AM.abs {x:V} {u:Value} (r:AM x u):absV u=some x:=by
 cases x with
 | non=>cases r; rfl
 | bl _=>cases r; rfl
 | int _=>obtain ⟨t,rfl⟩:=r; rfl
 | str _=>obtain ⟨t,rfl⟩:=r; rfl
 | byt _=>obtain ⟨t,rfl⟩:=r; rfl
 | flt _=>obtain ⟨t,rfl⟩:=r; rfl
 | ref _=>cases r; rfl
 | ty _=>cases r; rfl
theorem AM.inj {x y:V} {u:Value} (r:AM x u) (q:AM y u):x=y:=Option.some.inj (r.abs.symm.trans q.abs)
theorem Aw.inj:∀ {xs ys:List V} {us:List Value},Aw xs us->Aw ys us->xs=ys
 | _,_,_,.nil,.nil=>rfl
 | _,_,_,.cons r t,.cons r' t'=>by rw [r.inj r',Aw.inj t t']
section
variable {X:Cx} {pins:List (Addr×Obj)} {σ:St} {H:Hp} {s:Shared} {a:Addr} {xs ys:List V}
theorem SqL.of {K:PySem.W.Frag} (h:H a=some (.lst xs)):SqL K H a xs:=.inl (.inl h)
theorem SqT.of {K:PySem.W.Frag} (h:H a=some (.tup xs)):SqT K H a xs:=.inl (.inl h)
theorem Inv.list (I:Inv X pins σ H s) (h:SqL X.K H a xs):∃ its:List Value,Aw xs its/\PlainL s.heap a its.toArray/\xs.length<=sizeLine:=by
 rcases h with h | ⟨o,its,n,hk,hc,hd,hs,hz,r⟩
 ·obtain ⟨z,its,n,r,e⟩:=h.ok I.hok;exact ⟨its,r,⟨_,n,e,rfl,rfl,rfl⟩,z⟩
 ·refine ⟨its.toList,r,⟨o,n,I.kIn a o hk,hc,hd,by simpa using hs⟩,?_⟩;have e:=r.length;simp only [Array.length_toList] at e;lia
theorem Inv.tuple (I:Inv X pins σ H s) (h:SqT X.K H a xs):∃ its:List Value,Aw xs its/\IsTup s.heap a its.toArray/\xs.length<=sizeLine:=by
 rcases h with h | ⟨o,its,n,hk,hc,hs,hz,r⟩
 ·obtain ⟨z,its,r,p⟩:=h.ok I.hok;exact ⟨its,r,p,z⟩
 ·refine ⟨its.toList,r,⟨o,I.kIn a o hk,hc,n,by simpa using hs⟩,?_⟩;have e:=r.length;simp only [Array.length_toList] at e;lia
theorem Inv.list_inj (I:Inv X pins σ H s) (h:SqL X.K H a xs) (h':SqL X.K H a ys):xs=ys:=by
 obtain ⟨its,r,⟨o,n,e,_,_,d⟩,_⟩:=I.list h;obtain ⟨its',r',⟨o',n',e',_,_,d'⟩,_⟩:=I.list h';rw [e] at e'; cases e';rw [d] at d';injection d' with d1 _
 have:its=its':=by simpa using congrArg Array.toList d1
 subst this;exact r.inj r'
theorem Inv.tuple_inj (I:Inv X pins σ H s) (h:SqT X.K H a xs) (h':SqT X.K H a ys):xs=ys:=by
 obtain ⟨its,r,⟨o,e,_,n,d⟩,_⟩:=I.tuple h;obtain ⟨its',r',⟨o',e',_,n',d'⟩,_⟩:=I.tuple h';rw [e] at e'; cases e';rw [d] at d';injection d' with d1 _
 have:its=its':=by simpa using congrArg Array.toList d1
 subst this;exact r.inj r'
end
abbrev Cx.wish (X:Cx) (E:Value->Shared->Prop):Cx:={ X with xe:=E }
abbrev Cx.nox (X:Cx):Cx:=X.wish fun _ _=>False
theorem Cx.Ok.wish {X:Cx} (ok:X.Ok) (E:Value->Shared->Prop):(X.wish E).Ok :=
 ⟨ok.mod,ok.kind,ok.glob,ok.blt,ok.above,ok.inj,ok.has,ok.cab,ok.hd,ok.frames,ok.stk,ok.exf,ok.bs,ok.bsz,ok.noex,ok.exfs,ok.funs,ok.frf⟩
theorem Cx.Ok.unwish {X:Cx} {E:Value->Shared->Prop} (ok:(X.wish E).Ok):X.Ok :=
 ⟨ok.mod,ok.kind,ok.glob,ok.blt,ok.above,ok.inj,ok.has,ok.cab,ok.hd,ok.frames,ok.stk,ok.exf,ok.bs,ok.bsz,ok.noex,ok.exfs,ok.funs,ok.frf⟩
section
variable {X:Cx} {pins:List (Addr×Obj)} {σ:St} {H:Hp} {s:Shared} {E:Value->Shared->Prop}
theorem Inv.wish (I:Inv X pins σ H s) (E:Value->Shared->Prop):Inv (X.wish E) pins σ H s:=⟨I.ok.wish E,I.os,I.bare,I.base,I.loc,I.cell,I.free,I.freeC,I.pin,I.hok,I.len⟩
theorem Inv.unwish (I:Inv (X.wish E) pins σ H s):Inv X pins σ H s:=⟨I.ok.unwish,I.os,I.bare,I.base,I.loc,I.cell,I.free,I.freeC,I.pin,I.hok,I.len⟩
theorem SP.unwish {D:Iz} {f:Flow} {s':Shared} (h:SP (X.wish E) pins D f s'):SP X pins D f s':=by
 cases f with
 | next=>obtain ⟨σ',H',I,q⟩:=h; exact ⟨σ',H',I.unwish,q⟩
 | brk=>obtain ⟨σ',H',I,q⟩:=h; exact ⟨σ',H',I.unwish,q⟩
 | cont=>obtain ⟨σ',H',I,q⟩:=h; exact ⟨σ',H',I.unwish,q⟩
 | ret u=>obtain ⟨v,σ',H',I,r,q⟩:=h; exact ⟨v,σ',H',I.unwish,r,q⟩
theorem PSs.nox {st:List Stmt} {t:TS} (h:PSs X.nox st t):PSs X st t:=fun pins s σ H D I hw =>
 wpAny_mono (h pins s σ H D (I.wish _) hw) (fun _ _ q=>q.unwish) fun _ _ z=>False.elim z
end
section
variable {X:Cx} {st:Stmt} {rest:List Stmt} {t u:TS} {e:Expr} {te:TE} {pos:Pos}
def tNext:TS:=fun D σ H=>D.nx σ H
def tSeq (t u:TS):TS:=fun D σ H=>t { D with nx:=u D } σ H
theorem Ay:PSs X [] tNext:=fun _ _ σ H _ I h=>wpAny_execs_nil ⟨σ,H,I,h⟩
theorem Ag (h1:PS X st t) (h2:PSs X rest u):PSs X (st :: rest) (tSeq t u):=by
 intro pins s σ H D I h;refine wpAny_execs_cons (thn (h1 pins s σ H { D with nx:=u D } I h) fun f s1 q=>?_);cases f with
 | next =>
  obtain ⟨σ',H',I',q⟩:=q;exact h2 pins s1 σ' H' D I' q
 | ret v=>exact q
 | brk=>exact q
 | cont=>exact q
theorem Ai (h1:PS X st t):PSs X [st] t:=by
 intro pins s σ H D I h;refine wpAny_execs_cons (thn (h1 pins s σ H D I h) fun f s1 q=>?_);cases f with
 | next=>exact wpAny_execs_nil q
 | ret v=>exact q
 | brk=>exact q
 | cont=>exact q
theorem Inv.quiet {pins:List (Addr×Obj)} {σ:St} {H:Hp} {s:Shared} (I:Inv X pins σ H s):interactive X.env=false:=by simp [interactive,I.ok.kind]
def tDrop (te:TE):TS:=fun D σ H=>te σ H fun _ H1=>D.nx σ H1
theorem CO (he:PE X e te) (hs:swapsWith e none pos.line X.env=pure false:=by rfl):PS X (.Expr e pos) (tDrop te):=by
 intro pins s σ H D I h;exact wpAny_Expr_any (thn (he pins s σ H _ I h) fun v s1 ⟨x,H1,I1,r1,q1⟩=>⟨σ,H1,I1,q1⟩) I.quiet hs
def tRet (te:TE):TS:=fun D σ H=>te σ H D.rt
theorem Aq (he:PE X e te):PS X (.Return (some e) pos) (tRet te):=by
 intro pins s σ H D I h;exact wpAny_Return_some (thn (he pins s σ H _ I h) fun v s1 ⟨x,H1,I1,r1,q1⟩=>⟨x,σ,H1,I1,r1,q1⟩)
def tIfS (c:TT) (t u:TS):TS:=fun D σ H=>c σ H fun b H1=>if b=true then t D σ H1 else u D σ H1
theorem AX {c:Expr} {a b:List Stmt} {tc:TT} (hc:PT X c tc) (ha:PSs X a t) (hb:PSs X b u):PS X (.If c a b pos) (tIfS tc t u):=by
 intro pins s σ H D I h;refine wpAny_If (thn (hc pins s σ H _ I h) fun d s1 ⟨H1,I1,q1⟩=>?_);cases d with
 | true=>exact ha pins s1 σ H1 D I1 q1
 | false=>exact hb pins s1 σ H1 D I1 q1
def tNever:TS:=fun _ _ _=>False
theorem Dh:PS X st tNever:=fun _ _ _ _ _ _ h=>h.elim
end
abbrev TG:=V->St->Hp->(St->Hp->Prop)->Prop
abbrev TGs:=List V->St->Hp->(St->Hp->Prop)->Prop
def PG (X:Cx) (target:Expr) (t:TG):Prop :=
 ∀ (pins:List (Addr×Obj)) (s:Shared) (σ:St) (H:Hp) (v:V) (u:Value) (Q:St->Hp->Prop),Inv X pins σ H s->AM v u->t v σ H Q ->
  wpAny (model X.prog X.w) X.A (assign target X.env u) (fun _ s'=>∃ σ' H',Inv X pins σ' H' s'/\Q σ' H') X.xe s
def PGs (X:Cx) (ts:List Expr) (t:TGs):Prop :=
 ∀ (pins:List (Addr×Obj)) (s:Shared) (σ:St) (H:Hp) (vs:List V) (us:List Value) (Q:St->Hp->Prop),Inv X pins σ H s->Aw vs us->t vs σ H Q ->
  wpAny (model X.prog X.w) X.A (assignInOrder ((assignEach ts X.env).map (·.2)) us) (fun _ s'=>∃ σ' H',Inv X pins σ' H' s'/\Q σ' H') X.xe s
section
variable {X:Cx} {pos:Pos}
def Fi (i:Nat):TG:=fun v σ H Q=>Q (σ.set i (some v)) H
theorem AR {i:Nat} {x:Str} (hN:X.N.Nodup) (hi:X.N[i]?=some x) (hx:Loc X.env.scope x) (hf:X.fn x=true\/X.env.scope.names.lookup x=some .local:=by first | exact .inl rfl | exact .inr rfl | assumption):PG X (.Name x pos) (Fi i):=by
 intro pins s σ H v u Q I r h;exact wpAny_assign_Name (Lg I hN hi hx r (fun s' I'=>⟨_,H,I',h⟩) hf)
def gNil:TGs:=fun vs σ H Q=>vs=[]/\Q σ H
def LI (t:TG) (u:TGs):TGs:=fun vs σ H Q=>∃ v r,vs=v :: r/\t v σ H fun σ' H'=>u r σ' H' Q
theorem Fv:PGs X [] gNil:=by
 intro pins s σ H vs us Q I r h;obtain ⟨e,h⟩:=h;subst e;cases r;exact assignInOrder_nil ⟨σ,H,I,h⟩
theorem CD {e:Expr} {es:List Expr} {t:TG} {u:TGs} (h1:PG X e t) (h2:PGs X es u)
  (hs:(assignEach (e :: es) X.env).map (·.2)=assign e X.env :: (assignEach es X.env).map (·.2):=by rfl):PGs X (e :: es) (LI t u):=by
 intro pins s σ H vs us Q I r h;obtain ⟨v,vr,e1,h⟩:=h;subst e1;cases r with
 | cons r rr =>
  rw [hs];refine assignInOrder_cons (thn (h1 pins s σ H _ _ _ I r h) fun _ s1 ⟨σ1,H1,I1,q1⟩=>?_);exact h2 pins s1 σ1 H1 _ _ Q I1 rr q1
def gTup (K:PySem.W.Frag) (n:Nat) (t:TGs):TG:=fun v σ H Q=>∃ a xs,v=.ref a/\SqT K H a xs/\xs.length=n/\t xs σ H Q
theorem GW {es:List Expr} {k:Nat} {t:TGs} {n:Nat} (hc:X.calm=true) (h:PGs X es t)
  (hn:(assignEach es X.env).length=n:=by rfl) (hst:(assignEach es X.env).findIdx? (·.1)=none:=by rfl):PG X (.Tuple es k pos) (gTup X.K n t):=by
 intro pins s σ H v u Q I r hw;obtain ⟨a,xs,e1,hq,hl,hw⟩:=hw;subst e1;cases r;obtain ⟨its,rv,ht,hz⟩:=I.tuple hq;refine assign_Tuple_tuple (I.ok.hd hc) ht (by simp [hn,<-hl,rv.length]) hst fun h' hx=>?_;have I1:Inv X pins σ H { s with heap:=h' }:=I.kept (t':=s.toks) fun b o e=>hx b o (Nat.ne_of_lt (Heap.lt_size e)) e;exact h pins _ σ H xs _ Q I1 (by simpa using rv) hw
def tAsg (te:TE) (g:TG):TS:=fun D σ H=>te σ H fun x H1=>g x σ H1 D.nx
theorem Av {i:Nat} {x:Str} {e:Expr} {te:TE} {pos':Pos} (hN:X.N.Nodup) (hi:X.N[i]?=some x) (hx:Loc X.env.scope x) (he:PE X e te) (hs:swapsWith e (some (.Name x pos')) pos.line X.env=pure false:=by rfl) (hf:X.fn x=true\/X.env.scope.names.lookup x=some .local:=by first | exact .inl rfl | exact .inr rfl | assumption) :
  PS X (.Assign [.Name x pos'] e pos) (tAsg te (Fi i)):=by
 intro pins s σ H D I h;refine wpAny_Assign_Name (thn (he pins s σ H _ I h) fun v s1 ⟨y,H1,I1,r1,q1⟩=>?_) hs;exact Lg I1 hN hi hx r1 (fun s2 I2=>⟨_,H1,I2,q1⟩) hf
end
section
variable {X:Cx} {pos:Pos}
end
structure It where
 go:Nat->Hp->Prop
 yld:Nat->Hp->V->Hp->Prop
 stop:Nat->Hp->Prop
def Dd (X:Cx) (pins:List (Addr×Obj)) (H:Hp) (b:Addr):Prop :=
 H b=none/\b≠X.env.locals/\b ∉ X.fs/\(b ∈ X.ex\/X.s₀.heap.objs.size<=b)/\(∀ x c,X.env.cells.lookup x=some c->c≠b)/\∀ p ∈ X.pn ++ pins,p.1≠b
theorem Inv.fpOk {X:Cx} {pins:List (Addr×Obj)} {σ:St} {H H':Hp} {s:Shared} {b:Addr} (I:Inv X pins σ H s) (hb:s.heap.objs.size<=b) (hn:H' b=none):Dd X pins H' b:=by
 refine ⟨hn,Nat.ne_of_gt (Nat.lt_of_lt_of_le I.lt hb),I.nofs hb,.inr (Nat.le_trans I.sz hb),fun x c e z=>?_,fun p hp z=>?_⟩
 ·obtain ⟨v,q⟩:=I.cell x c e;exact absurd (Nat.lt_of_lt_of_le q.lt (by rw [z]; exact hb)) (Nat.lt_irrefl _)
 ·exact absurd (Nat.lt_of_lt_of_le (Heap.lt_size (I.pin p hp).1) (by rw [z]; exact hb)) (Nat.lt_irrefl _)
structure IL (P:Program) (w:World) (K:PySem.W.Frag) (tg:Expr) (J:It) (fp:List Addr) (it:Addr) (tn:Nat->Heap->Prop):Prop where
 mem:it ∈ fp
 obj:∀ i h,tn i h->∀ b ∈ fp,∃ o,h.get? b=some o/\∀ v,o.data≠.cell v
 keep:∀ i h h',tn i h->(∀ b ∈ fp,∀ o,h.get? b=some o->h'.get? b=some o)->tn i h'
 item:∀ (X:Cx),X.prog=P->X.w=w->X.K=K->X.calm=true->∀ (i:Nat) (pins:List (Addr×Obj)) (s:Shared) (σ:St) (H:Hp) (E:Value->Shared->Prop),Inv X pins σ H s->(∀ b ∈ fp,Dd X pins H b)->tn i s.heap->J.go i H ->
  wpAny (model P w) X.A (pyNext (.ref it)) (fun r s1=>∃ u,r=some u /\
   wpAny (model P w) X.A (letOwnedTupleGo tg (.ref it) u) (fun _ s2=>∃ x H',Inv X pins σ H' s2/\AM x u/\J.yld i H x H'/\tn (i+1) s2.heap/\∀ b ∈ fp,H' b=none) E s1) E s
 done:∀ (X:Cx),X.prog=P->X.w=w->X.K=K->X.calm=true->∀ (i:Nat) (pins:List (Addr×Obj)) (s:Shared) (σ:St) (H:Hp) (E:Value->Shared->Prop),Inv X pins σ H s->(∀ b ∈ fp,Dd X pins H b)->tn i s.heap->J.stop i H ->
  wpAny (model P w) X.A (pyNext (.ref it)) (fun r s1=>r=none/\Inv X pins σ H s1) E s
 self:∀ (A:Around) (i:Nat) (s:Shared) (Q:Value->Shared->Prop) (E:Value->Shared->Prop),tn i s.heap->Q (.ref it) s->wpAny (model P w) A (pyIter (.ref it)) Q E s
abbrev TI:=St->Hp->(It->Hp->Prop)->Prop
def PIE (X:Cx) (pins:List (Addr×Obj)) (σ:St) (tg:Expr) (R:It->Hp->Prop) (itv:Value) (s2:Shared):Prop :=
 ∃ (it:Addr) (fp:List Addr) (tn:Nat->Heap->Prop) (J:It) (H':Hp),itv=.ref it/\Inv X pins σ H' s2/\IL X.prog X.w X.K tg J fp it tn/\tn 0 s2.heap/\(∀ b ∈ fp,Dd X pins H' b)/\R J H'
def PI (X:Cx) (tg iter:Expr) (wi:TI):Prop :=
 ∀ (pins:List (Addr×Obj)) (s:Shared) (σ:St) (H:Hp) (R:It->Hp->Prop),Inv X pins σ H s->wi σ H R ->
  wpAny (model X.prog X.w) X.A (eval iter X.env) (fun v s1=>wpAny (model X.prog X.w) X.A (pyIter v) (PIE X pins σ tg R) X.xe s1) X.xe s
theorem LH {M:Model} {A:Around} {E:Value->Shared->Prop} {s:Shared} {tg:Expr} {it:Addr} {u:Value} {o:Obj} {n:String} {vs:Array Value} {Q:Unit->Shared->Prop} (ho:s.heap.get? it=some o) (hc:o.cls=.type n) (hd:o.data=.fields vs)
    (hn:["enumerate","zip","dict_itemiterator","dict_reverseitemiterator","odict_iterator","itertools.zip_longest","itertools.pairwise"].contains n=false) (hQ:Q () s):wpAny M A (letOwnedTupleGo tg (.ref it) u) Q E s:=by
  unfold letOwnedTupleGo;cases tg<;>first
    | exact wpAny_pure hQ
    | (cases u<;>first
        | exact wpAny_pure hQ
        | (refine wpAny_bind (wpAny_load ho ?_)
           rw [hc,hd];show wpAny M A (if (["enumerate","zip","dict_itemiterator","dict_reverseitemiterator","odict_iterator","itertools.zip_longest","itertools.pairwise"].contains n && vs[0]? == some (rawInt _))=true then _ else _) Q E s;rw [if_neg (by intro h; rw [hn,Bool.false_and] at h; cases h)];exact wpAny_pure hQ))
def Itl (K:PySem.W.Frag) (a:Addr):It :=
 ⟨fun i H=>∃ xs x,SqL K H a xs/\xs[i]?=some x,fun i H x H'=>H'=H/\∀ xs,SqL K H a xs->xs[i]?=some x,fun i H=>∃ xs,SqL K H a xs/\xs.length<=i⟩
def Itt (K:PySem.W.Frag) (a:Addr):It :=
 ⟨fun i H=>∃ xs x,SqT K H a xs/\xs[i]?=some x,fun i H x H'=>H'=H/\∀ xs,SqT K H a xs->xs[i]?=some x,fun i H=>∃ xs,SqT K H a xs/\xs.length<=i⟩
def Itr (lo:Int) (n:Nat):It:=⟨fun i _=>i < n,fun i H x H'=>H'=H/\x=.int (lo+i),fun i _=>n<=i⟩
theorem ND {P:Program} {w:World} {K:PySem.W.Frag} {tg:Expr} (a it:Addr):IL P w K tg (Itl K a) [it] it (fun i h=>h.IsListIter it a i) where
 mem:=by simp
 obj:=fun i h st b hb=>by
  have e:b=it:=by simpa using hb
  subst e;obtain ⟨o,e,c,d⟩:=st;exact ⟨o,e,fun v z=>by rw [d] at z; cases z⟩
 keep:=fun i h h' st k=>st.at fun o e=>k it (by simp) o e
 item:=by
  intro X hP hw hK hc i pins s σ H E I hf st hg;subst hP hw hK;obtain ⟨xs,x,hq,hx⟩:=hg;obtain ⟨its,rv,p,hz⟩:=I.list hq;obtain ⟨u,hu,ru⟩:=rv.get hx;obtain ⟨f0,f1,f2,f3,f4,f5⟩:=hf it (by simp);refine wpAny_pyNext_list_item st p.isList (x:=u) (by simpa using hu) fun h' st' sb=>?_;have I1:Inv X pins σ H { s with heap:=h' }:=I.turned (t':=s.toks) (fun b o hb e=>(sb.2 b hb).trans e) f0 f1 f3 f4 f5;obtain ⟨o,e,c,d⟩:=id st';exact ⟨u,rfl,LH (s:={ s with heap:=h' }) e c d (by decide) ⟨x,H,I1,ru,⟨rfl,fun ys hy=>by rw [I.list_inj hy hq]; exact hx⟩,st',fun b hb=>(hf b hb).1⟩⟩
 done:=by
  intro X hP hw hK hc i pins s σ H E I hf st hg;subst hP hw hK;obtain ⟨xs,hq,hx⟩:=hg;obtain ⟨its,rv,p,hz⟩:=I.list hq;obtain ⟨f0,f1,f2,f3,f4,f5⟩:=hf it (by simp);have hl:=rv.length;exact wpAny_pyNext_list_end (I.ok.hd hc) st p.isList (by simp; lia) fun h' eb=>⟨rfl,I.turned (t':=s.toks) (fun b o hb e=>eb b o hb e) f0 f1 f3 f4 f5⟩
 self:=fun _ _ _ _ _ st h=>wpAny_pyIter_listiter st h
theorem Mg {P:Program} {w:World} {K:PySem.W.Frag} {tg:Expr} (a it:Addr):IL P w K tg (Itt K a) [it] it (fun i h=>h.IsTupleIter it a i) where
 mem:=by simp
 obj:=fun i h st b hb=>by
  have e:b=it:=by simpa using hb
  subst e;obtain ⟨o,e,c,d⟩:=st;exact ⟨o,e,fun v z=>by rw [d] at z; cases z⟩
 keep:=fun i h h' st k=>st.at fun o e=>k it (by simp) o e
 item:=by
  intro X hP hw hK hc i pins s σ H E I hf st hg;subst hP hw hK;obtain ⟨xs,x,hq,hx⟩:=hg;obtain ⟨its,rv,p,hz⟩:=I.tuple hq;obtain ⟨u,hu,ru⟩:=rv.get hx;obtain ⟨f0,f1,f2,f3,f4,f5⟩:=hf it (by simp);refine wpAny_pyNext_tuple_item st (show s.heap.IsTuple a its.toArray from p) (x:=u) (by simpa using hu) fun h' st' sb=>?_;have I1:Inv X pins σ H { s with heap:=h' }:=I.turned (t':=s.toks) (fun b o hb e=>(sb.2 b hb).trans e) f0 f1 f3 f4 f5;obtain ⟨o,e,c,d⟩:=id st';exact ⟨u,rfl,LH (s:={ s with heap:=h' }) e c d (by decide) ⟨x,H,I1,ru,⟨rfl,fun ys hy=>by rw [I.tuple_inj hy hq]; exact hx⟩,st',fun b hb=>(hf b hb).1⟩⟩
 done:=by
  intro X hP hw hK hc i pins s σ H E I hf st hg;subst hP hw hK;obtain ⟨xs,hq,hx⟩:=hg;obtain ⟨its,rv,p,hz⟩:=I.tuple hq;obtain ⟨f0,f1,f2,f3,f4,f5⟩:=hf it (by simp);have hl:=rv.length;exact wpAny_pyNext_tuple_end (I.ok.hd hc) st (show s.heap.IsTuple a its.toArray from p) (by simp; lia) fun h' eb=>⟨rfl,I.turned (t':=s.toks) (fun b o hb e=>eb b o hb e) f0 f1 f3 f4 f5⟩
 self:=fun _ _ _ _ _ st h=>wpAny_pyIter_tupleiter st h
theorem Mh {P:Program} {w:World} {K:PySem.W.Frag} {tg:Expr} (it:Addr) (lo:Int) (n:Nat):IL P w K tg (Itr lo n) [it] it (fun i h=>IsRangeIter h it (lo+(i:Nat) * 1) ((n:Int) - (i:Nat)) 1) where
 mem:=by simp
 obj:=fun i h st b hb=>by
  have e:b=it:=by simpa using hb
  subst e;exact ⟨_,st,fun v z=>by
   have z':Data.fields _=Data.cell v:=z;cases z'⟩
 keep:=fun i h h' st k=>k it (by simp) _ st
 item:=by
  intro X hP hw hK hc i pins s σ H E I hf st hg;subst hP hw hK;obtain ⟨f0,f1,f2,f3,f4,f5⟩:=hf it (by simp);have W:=Walks.range (prog:=X.prog) (w:=X.w) (I.ok.hd hc) it lo 1 n;refine W.item i s _ _ hg st fun v h' tk hv st' kk=>?_;obtain ⟨t,rfl⟩:=hv;have I1:Inv X pins σ H { s with heap:=h',toks:=tk }:=I.turned (fun b o hb e=>kk b o (by simpa using hb) e) f0 f1 f3 f4 f5;refine ⟨_,rfl,LH (s:={ s with heap:=h',toks:=tk }) (n:="range_iterator") st' rfl rfl (by decide) ⟨.int (lo+i),H,I1,⟨t,?_⟩,⟨rfl,rfl⟩,st',fun b hb=>(hf b hb).1⟩⟩;rw [Int.mul_one]
 done:=by
  intro X hP hw hK hc i pins s σ H E I hf st hg;subst hP hw hK;obtain ⟨f0,f1,f2,f3,f4,f5⟩:=hf it (by simp);exact wpAny_pyNext_range_end (I.ok.hd hc) st (by have:n<=i:=hg; lia) fun h' eb=>⟨rfl,I.turned (t':=s.toks) (fun b o hb e=>eb b o hb e) f0 f1 f3 f4 f5⟩
 self:=fun _ _ _ _ _ st h=>wpAny_pyIter_rangeiter st h
end L2
namespace L2
open PySem PySem.Spec PyProof.Rows
section
variable {X:Cx} {tg:Expr}
def iList (K:PySem.W.Frag) (tl:TE):TI:=fun σ H R=>tl σ H fun x H1=>∃ a,x=.ref a/\(∃ xs,SqL K H1 a xs)/\R (Itl K a) H1
def iTup (K:PySem.W.Frag) (tl:TE):TI:=fun σ H R=>tl σ H fun x H1=>∃ a,x=.ref a/\(∃ xs,SqT K H1 a xs)/\R (Itt K a) H1
theorem Ce {l:Expr} {tl:TE} (hl:PE X l tl):PI X tg l (iList X.K tl):=by
 intro pins s σ H R I h;refine thn (hl pins s σ H _ I h) fun v s1 ⟨x,H1,I1,r1,q1⟩=>?_;obtain ⟨a,e,⟨xs,hq⟩,q⟩:=q1;subst e;cases r1;obtain ⟨its,rv,p,hz⟩:=I1.list hq;refine wpAny_pyIter_list p.isList ?_;refine ⟨s1.heap.objs.size,[s1.heap.objs.size],_,_,H1,rfl,I1.kept (t':=s1.toks) fun b o e=>Heap.get?_push_of_some _ e,ND a _,⟨_,Heap.get?_push_size _ rfl,rfl,rfl⟩,fun b hb=>?_,q⟩;have e:b=s1.heap.objs.size:=by simpa using hb
 subst e;exact I1.fpOk (Nat.le_refl _) (I1.hok.fresh (Nat.le_refl _))
theorem pi_tup {l:Expr} {tl:TE} (hl:PE X l tl):PI X tg l (iTup X.K tl):=by
 intro pins s σ H R I h;refine thn (hl pins s σ H _ I h) fun v s1 ⟨x,H1,I1,r1,q1⟩=>?_;obtain ⟨a,e,⟨xs,hq⟩,q⟩:=q1;subst e;cases r1;obtain ⟨its,rv,p,hz⟩:=I1.tuple hq;refine wpAny_pyIter_tuple (show s1.heap.IsTuple a its.toArray from p) ?_;refine ⟨s1.heap.objs.size,[s1.heap.objs.size],_,_,H1,rfl,I1.kept (t':=s1.toks) fun b o e=>Heap.get?_push_of_some _ e,Mg a _,⟨_,Heap.get?_push_size _ rfl,rfl,rfl⟩,fun b hb=>?_,q⟩;have e:b=s1.heap.objs.size:=by simpa using hb
 subst e;exact I1.fpOk (Nat.le_refl _) (I1.hok.fresh (Nat.le_refl _))
theorem OW {pins:List (Addr×Obj)} {σ:St} {H:Hp} {s:Shared} {R:It->Hp->Prop} {E:Value->Shared->Prop} {lo hi:Int} {t u v:Tok} {tk:Nat} (I:Inv X pins σ H s) (h1:-(2 ^ 62)<=lo) (h2:lo < 2 ^ 62) (h3:-(2 ^ 62)<=hi) (h4:hi < 2 ^ 62)
  (q:R (Itr lo (hi - lo).toNat) H):wpAny (model X.prog X.w) X.A (pyIter (.ref s.heap.objs.size)) (PIE X pins σ tg R) E { s with heap:=s.heap.push { cls:=.type "range",data:=.fields #[.int lo t,.int hi u,.int 1 v] },toks:=tk }:=by
 refine wpAny_pyIter_range (IsRange.new ..) (small_one h1 h2 h3 h4) ?_;have I1:Inv X pins σ H { s with heap:=s.heap.push { cls:=.type "range",data:=.fields #[.int lo t,.int hi u,.int 1 v] },toks:=tk }:=I.kept fun b o e=>Heap.get?_push_of_some _ e;refine ⟨(s.heap.push { cls:=.type "range",data:=.fields #[.int lo t,.int hi u,.int 1 v] }).objs.size,[(s.heap.push { cls:=.type "range",data:=.fields #[.int lo t,.int hi u,.int 1 v] }).objs.size],_,_,H,rfl,
  I1.kept (t':=tk) fun b o e=>Heap.get?_push_of_some _ e,Mh _ lo (hi - lo).toNat,?_,fun b hb=>?_,q⟩
 ·have e1:lo+((0:Nat):Int) * 1=lo:=by simp
  have e2:(((hi - lo).toNat:Nat):Int) - ((0:Nat):Int)=Builtin.Range.rangeSize lo hi 1:=by rw [rangeSize_one]; split<;>lia
  show IsRangeIter _ _ (lo+((0:Nat):Int) * 1) ((((hi - lo).toNat:Nat):Int) - ((0:Nat):Int)) 1;rw [e1,e2];exact Heap.get?_push_size _ rfl
 ·have e:b=(s.heap.push { cls:=.type "range",data:=.fields #[.int lo t,.int hi u,.int 1 v] }).objs.size:=by simpa using hb
  subst e;exact I1.fpOk (Nat.le_refl _) (I1.hok.fresh (Nat.le_refl _))
def iRng1 (ta:TA):TI:=fun σ H R=>ta σ H fun vs H1=>∃ j:Int,vs=[.int j]/\-(2 ^ 62)<=j/\j < 2 ^ 62/\R (Itr 0 j.toNat) H1
theorem CZ {a:Expr} {ta:TA} {p pos:Pos} (hg:Gl X "range") (hm:X.mg "range" = none) (ha:PA X [a] ta) (hs:starEach [a] X.env=[(false,eval a X.env)]:=by rfl):PI X tg (.Call (.Name "range" p) [a] [] pos) (iRng1 ta):=by
 intro pins s σ H R I h;refine Call_ (Ev I hg hm boot_range (PyProof.Rows.callWith_type1 (thn (ha pos pins s σ H _ I h) fun us s1 ⟨vs,H1,I1,r1,q1⟩=>?_) hs rfl));obtain ⟨j,e,q1,q2,q⟩:=q1;subst e;cases r1 with
 | cons r rr =>
  cases rr;obtain ⟨t,rfl⟩:=r;exact call_range_1 (OW I1 (by lia) (by lia) q1 q2 (by simpa using q))
def tFor (wi:TI) (g:TG) (tb:TS):TS:=fun D σ H=>wi σ H fun J H1=>∃ W:Nat->Nat->St->Hp->Prop,(∃ m,W 0 m σ H1)/\∀ i m σ H,W i m σ H ->
 (J.stop i H/\D.nx σ H)\/(J.go i H/\∃ N:St->Hp->Prop,(∀ σ' H',N σ' H'->∃ m',m' < m/\W (i+1) m' σ' H')/\∀ x H',J.yld i H x H'->g x σ H' fun σ2 H2=>tb { D with nx:=N,ct:=N,bk:=D.nx } σ2 H2)
def FS (fp:List Addr) (h:Heap):List (Addr×Obj):=fp.filterMap fun b=>(h.get? b).map fun o=>(b,o)
theorem Et {fp:List Addr} {h:Heap} {b:Addr} {o:Obj} (hb:b ∈ fp) (e:h.get? b=some o):(b,o) ∈ FS fp h:=List.mem_filterMap.mpr ⟨b,hb,by rw [e]; rfl⟩
theorem IW {fp:List Addr} {h:Heap} {p:Addr×Obj} (hp:p ∈ FS fp h):p.1 ∈ fp/\h.get? p.1=some p.2:=by
 obtain ⟨b,hb,e⟩:=List.mem_filterMap.mp hp;cases q:h.get? b with
 | none=>rw [q] at e; cases e
 | some o =>
  rw [q] at e;have e':(b,o)=p:=Option.some.inj e;subst e';exact ⟨hb,q⟩
theorem Inv.pinned {pins:List (Addr×Obj)} {σ:St} {H:Hp} {s:Shared} {fp:List Addr} (I:Inv X pins σ H s) (hf:∀ b ∈ fp,Dd X pins H b) (ho:∀ b ∈ fp,∃ o,s.heap.get? b=some o/\∀ v,o.data≠.cell v):Inv X (pins ++ FS fp s.heap) σ H s :=
 I.pins_of fun p hp=>(List.mem_append.mp hp).elim (fun z=>I.pin p (List.mem_append_right _ z)) fun z=>by
  obtain ⟨hb,e⟩:=IW z;obtain ⟨f0,f1,f2,_⟩:=hf p.1 hb;obtain ⟨o,e',d⟩:=ho p.1 hb;rw [e] at e'; cases e';exact ⟨e,f0,f1,f2,d⟩
theorem Inv.unpinned {pins pl:List (Addr×Obj)} {σ:St} {H:Hp} {s:Shared} (I:Inv X (pins ++ pl) σ H s):Inv X pins σ H s:=I.pins_of fun p hp=>I.pin p (List.mem_append_right _ (List.mem_append_left _ hp))
theorem BP {iter:Expr} {body:List Stmt} {wi:TI} {g:TG} {tb:TS} {pos:Pos} (hp:PassesOwn (model X.prog X.w) X.A X.env X.xe) (hc:X.calm=true) (hi:PI X tg iter wi) (hg:PG X tg g) (hb:PSs X body tb)
  (hs:∀ x,foldedSetIterable iter X.env x=pure x:=by intro _; rfl):PS X (.For tg iter body [] pos) (tFor wi g tb):=by
 intro pins s σ H D I h;refine wpAny_For (thn (hi pins s σ H _ I h) fun v s1 h1=>thn h1 fun itv s2 h2=>?_) hs;obtain ⟨it,fp,tn,J,H2,e,I2,T,st2,f2,W,⟨m0,w0⟩,turn⟩:=h2;subst e;have stat:∀ {H':Hp},(∀ b ∈ fp,H' b=none)->∀ b ∈ fp,Dd X pins H' b:=fun hn b hb=>⟨hn b hb,(f2 b hb).2⟩
 refine codeAny_forLoop_any (fun n s'=>∃ i σ' H',Inv X pins σ' H' s'/\tn i s'.heap/\(∀ b ∈ fp,H' b=none)/\W i n σ' H') ?_ m0 ⟨0,σ,H2,I2,st2,fun b hb=>(f2 b hb).1,w0⟩;rintro n s3 ⟨i,σ3,H3,I3,st3,fr3,w3⟩;rcases turn i n σ3 H3 w3 with ⟨stop,qn⟩ | ⟨go,N,hN,step⟩
 ·refine wpAny_passesOwn hp (thn (T.done X rfl rfl rfl hc i pins s3 σ3 H3 X.xe I3 (stat fr3) st3 stop) fun r s4 ⟨hr,I4⟩=>?_);subst hr;exact wpAny_execs_nil ⟨σ3,H3,I4,qn⟩
 ·refine wpAny_passesOwn hp (thn (T.item X rfl rfl rfl hc i pins s3 σ3 H3 X.xe I3 (stat fr3) st3 go) fun r s4 ⟨u,hr,h4⟩=>?_);subst hr;refine wpAny_passesOwn hp (thn h4 fun _ s5 ⟨x,H5,I5,r5,y5,st5,fr5⟩=>?_);have I5':=I5.pinned (stat fr5) (T.obj _ _ st5);refine wpAny_passesOwn hp (thn (hg _ s5 σ3 H5 x u _ I5' r5 (step x H5 y5)) fun _ s6 ⟨σ6,H6,I6,q6⟩=>?_);refine wpAny_passesOwn hp (thn (hb _ s6 σ6 H6 _ I6 q6) fun f s7 q7=>?_);have again:∀ {σ7:St} {H7:Hp},Inv X (pins ++ FS fp s5.heap) σ7 H7 s7->N σ7 H7->∃ m,m < n/\∃ i σ' H',Inv X pins σ' H' s7/\tn i s7.heap/\(∀ b ∈ fp,H' b=none)/\W i m σ' H':=fun {σ7 H7} I7 n7=>by
   obtain ⟨m',hm,w7⟩:=hN σ7 H7 n7;refine ⟨m',hm,i+1,σ7,H7,I7.unpinned,T.keep _ _ _ st5 fun b hb o e=>(I7.pin (b,o) (List.mem_append_right _ (List.mem_append_right _ (Et hb e)))).1,fun b hb=>?_,w7⟩;obtain ⟨o,e,d⟩:=T.obj _ _ st5 b hb;exact (I7.pin (b,o) (List.mem_append_right _ (List.mem_append_right _ (Et hb e)))).2.1
  cases f with
  | next=>obtain ⟨σ7,H7,I7,n7⟩:=q7; exact again I7 n7
  | cont=>obtain ⟨σ7,H7,I7,n7⟩:=q7; exact again I7 n7
  | brk=>obtain ⟨σ7,H7,I7,q7⟩:=q7; exact ⟨σ7,H7,I7.unpinned,q7⟩
  | ret v=>obtain ⟨x7,σ7,H7,I7,r7,q7⟩:=q7; exact ⟨x7,σ7,H7,I7.unpinned,r7,q7⟩
end
theorem DV {K:PySem.W.Frag} {a:Addr} {xs:List V} {g:TG} {tb:TS} {D:Iz} {σ:St} {H:Hp} (Pv:Nat->St->Hp->Prop) (h0:Pv 0 σ H) (hl:∀ i σ H,i<=xs.length->Pv i σ H->SqL K H a xs)
  (hs:∀ i x σ H,xs[i]?=some x->Pv i σ H->g x σ H fun σ2 H2=>tb { D with nx:=Pv (i+1),ct:=Pv (i+1),bk:=D.nx } σ2 H2) (hd:∀ σ H,Pv xs.length σ H->D.nx σ H) :
  ∃ W:Nat->Nat->St->Hp->Prop,(∃ m,W 0 m σ H)/\∀ i m σ H,W i m σ H ->
   ((Itl K a).stop i H/\D.nx σ H)\/((Itl K a).go i H/\∃ N:St->Hp->Prop,(∀ σ' H',N σ' H'->∃ m',m' < m/\W (i+1) m' σ' H')/\∀ x H',(Itl K a).yld i H x H'->g x σ H' fun σ2 H2=>tb { D with nx:=N,ct:=N,bk:=D.nx } σ2 H2):=by
 refine ⟨fun i m σ H=>m=xs.length - i/\i<=xs.length/\Pv i σ H,⟨xs.length,by simp,Nat.zero_le _,h0⟩,?_⟩;rintro i m σ H ⟨rfl,hi,p⟩;have q:=hl i σ H hi p;by_cases hlt:i < xs.length
 ·refine .inr ⟨⟨xs,xs[i],q,by simp [hlt]⟩,Pv (i+1),fun σ' H' p'=>⟨xs.length - (i+1),by lia,rfl,hlt,p'⟩,fun x H' y=>?_⟩;obtain ⟨e,y⟩:=y;subst e;exact hs i x σ _ (y xs q) p
 ·have e:i=xs.length:=by lia
  subst e;exact .inl ⟨⟨xs,q,Nat.le_refl _⟩,hd σ H p⟩
theorem Ds {lo:Int} {n:Nat} {g:TG} {tb:TS} {D:Iz} {σ:St} {H:Hp} (Pv:Nat->St->Hp->Prop) (h0:Pv 0 σ H)
  (hs:∀ i σ H,i < n->Pv i σ H->g (.int (lo+i)) σ H fun σ2 H2=>tb { D with nx:=Pv (i+1),ct:=Pv (i+1),bk:=D.nx } σ2 H2) (hd:∀ σ H,Pv n σ H->D.nx σ H) :
  ∃ W:Nat->Nat->St->Hp->Prop,(∃ m,W 0 m σ H)/\∀ i m σ H,W i m σ H ->
   ((Itr lo n).stop i H/\D.nx σ H)\/((Itr lo n).go i H/\∃ N:St->Hp->Prop,(∀ σ' H',N σ' H'->∃ m',m' < m/\W (i+1) m' σ' H')/\∀ x H',(Itr lo n).yld i H x H'->g x σ H' fun σ2 H2=>tb { D with nx:=N,ct:=N,bk:=D.nx } σ2 H2):=by
 refine ⟨fun i m σ H=>m=n - i/\i<=n/\Pv i σ H,⟨n,by simp,Nat.zero_le _,h0⟩,?_⟩;rintro i m σ H ⟨rfl,hi,p⟩;by_cases hlt:i < n
 ·refine .inr ⟨hlt,Pv (i+1),fun σ' H' p'=>⟨n - (i+1),by lia,rfl,hlt,p'⟩,fun x H' y=>?_⟩;obtain ⟨e,y⟩:=y;subst e y;exact hs i σ _ hlt p
 ·have e:i=n:=by lia
  subst e;exact .inl ⟨Nat.le_refl _,hd σ H p⟩
end L2
namespace L2
open PySem PySem.Spec PyProof.Rows
abbrev R2:=V->V->Hp->VK->Prop
def OpR (X:Cx) (f:Value->Value->Sem Value) (r:R2):Prop :=
 ∀ (pins:List (Addr×Obj)) (s:Shared) (σ:St) (H:Hp) (x y:V) (v u:Value) (Q:VK),Inv X pins σ H s->AM x v->AM y u->r x y H Q ->
  wpAny (model X.prog X.w) X.A (f v u) (EP X pins σ Q) X.xe s
def UnR (X:Cx) (f:Value->Sem Value) (r:V->Hp->VK->Prop):Prop :=
 ∀ (pins:List (Addr×Obj)) (s:Shared) (σ:St) (H:Hp) (x:V) (v:Value) (Q:VK),Inv X pins σ H s->AM x v->r x H Q ->
  wpAny (model X.prog X.w) X.A (f v) (EP X pins σ Q) X.xe s
def EG (X:Cx) (f:Value) (r:List V->Hp->VK->Prop):Prop :=
 ∀ (pins:List (Addr×Obj)) (s:Shared) (σ:St) (H:Hp) (xs:List V) (us:List Value) (Q:VK),Inv X pins σ H s->Aw xs us->r xs H Q ->
  wpAny (model X.prog X.w) X.A (call f us) (EP X pins σ Q) X.xe s
def tOp (r:R2) (ta tb:TE):TE:=fun σ H Q=>ta σ H fun x H1=>tb σ H1 fun y H2=>r x y H2 Q
def tUn (r:V->Hp->VK->Prop) (ta:TE):TE:=fun σ H Q=>ta σ H fun x H1=>r x H1 Q
def rI (C:Int->Int->Prop) (g:Int->Int->V):R2:=fun x y H Q=>∃ i j,x=.int i/\y=.int j/\C i j/\Q (g i j) H
def rI0 (g:Int->Int->V):R2:=fun x y H Q=>∃ i j,x=.int i/\y=.int j/\Q (g i j) H
def rU (g:Int->V):V->Hp->VK->Prop:=fun x H Q=>∃ i,x=.int i/\Q (g i) H
section
variable {X:Cx} {a b c:Expr} {ta tb tc:TE} {pos:Pos}
theorem binT (ha:PE X a ta) (hb:PE X b tb) {pins:List (Addr×Obj)} {s:Shared} {σ:St} {H:Hp} {R:V->V->Hp->Prop} (I:Inv X pins σ H s)
  (h:ta σ H fun x H1=>tb σ H1 fun y H2=>R x y H2) {Q:Value->Shared->Prop} {f:Value->Value->Sem Value}
  (hf:∀ v u s2 x y H2,Inv X pins σ H2 s2->AM x v->AM y u->R x y H2->wpAny (model X.prog X.w) X.A (f v u) Q X.xe s2) :
  wpAny (model X.prog X.w) X.A (eval a X.env) (fun v s₁=>wpAny (model X.prog X.w) X.A (eval b X.env) (fun u s₂=>wpAny (model X.prog X.w) X.A (f v u) Q X.xe s₂) X.xe s₁) X.xe s:=by
 refine thn (ha pins s σ H _ I h) fun v s1 ⟨x,H1,I1,r1,q1⟩=>?_;refine thn (hb pins s1 σ H1 _ I1 q1) fun u s2 ⟨y,H2,I2,r2,q2⟩=>?_;exact hf v u s2 x y H2 I2 r1 r2 q2
theorem AA {op:Operator} {r:R2} (ho:OpR X (binaryOp op) r) (ha:PE X a ta) (hb:PE X b tb):PE X (.BinOp a op b pos) (tOp r ta tb):=by
 intro pins s σ H Q I h;exact wpAny_BinOp (binT ha hb I h fun v u s2 x y H2 I2 rx ry q=>ho pins s2 σ H2 x y v u Q I2 rx ry q)
theorem Fw {op:UnaryOp} {r:V->Hp->VK->Prop} (ho:UnR X (unaryOp op) r) (ha:PE X a ta):PE X (.UnaryOp op a pos) (tUn r ta):=by
 intro pins s σ H Q I h;exact UnaryOp_ (thn (ha pins s σ H _ I h) fun v s1 ⟨x,H1,I1,r1,q1⟩=>ho pins s1 σ H1 x v Q I1 r1 q1)
theorem opI {f:Value->Value->Sem Value} {C:Int->Int->Prop} {g:Int->Int->Int}
  (rule:∀ (i j:Int) (t u:Tok) (s:Shared) (Q:Value->Shared->Prop) (E:Value->Shared->Prop),C i j->Q (.int (g i j) s.toks) { s with toks:=s.toks+1 }->wpAny (model X.prog X.w) X.A (f (.int i t) (.int j u)) Q E s) :
  OpR X f (rI C fun i j=>.int (g i j)):=by
 intro pins s σ H x y v u Q I rx ry h;obtain ⟨i,j,rfl,rfl,hc,q⟩:=h;obtain ⟨t,rfl⟩:=rx;obtain ⟨t',rfl⟩:=ry;exact rule i j t t' s _ _ hc ⟨.int (g i j),H,I.tok _,⟨_,rfl⟩,q⟩
theorem opI0 {f:Value->Value->Sem Value} {g:Int->Int->Int}
  (rule:∀ (i j:Int) (t u:Tok) (s:Shared) (Q:Value->Shared->Prop) (E:Value->Shared->Prop),Q (.int (g i j) s.toks) { s with toks:=s.toks+1 }->wpAny (model X.prog X.w) X.A (f (.int i t) (.int j u)) Q E s) :
  OpR X f (rI0 fun i j=>.int (g i j)):=by
 intro pins s σ H x y v u Q I rx ry h;obtain ⟨i,j,rfl,rfl,q⟩:=h;obtain ⟨t,rfl⟩:=rx;obtain ⟨t',rfl⟩:=ry;exact rule i j t t' s _ _ ⟨.int (g i j),H,I.tok _,⟨_,rfl⟩,q⟩
theorem opB0 {f:Value->Value->Sem Value} {g:Int->Int->Bool}
  (rule:∀ (i j:Int) (t u:Tok) (s:Shared) (Q:Value->Shared->Prop) (E:Value->Shared->Prop),Q (.bool (g i j)) s->wpAny (model X.prog X.w) X.A (f (.int i t) (.int j u)) Q E s) :
  OpR X f (rI0 fun i j=>.bl (g i j)):=by
 intro pins s σ H x y v u Q I rx ry h;obtain ⟨i,j,rfl,rfl,q⟩:=h;obtain ⟨t,rfl⟩:=rx;obtain ⟨t',rfl⟩:=ry;exact rule i j t t' s _ _ ⟨.bl (g i j),H,I,rfl,q⟩
def CDiv (i j:Int):Prop:=0 < j/\j < 1073741824
def CPow (i j:Int):Prop:=0<=j/\j<=1000000/\i.natAbs < 2 ^ 64
def CMul (i j:Int):Prop:=(-(2 ^ 64) < i/\i < 2 ^ 64)\/(-(2 ^ 64) < j/\j < 2 ^ 64)
theorem CMul.ok {i j:Int} (h:CMul i j):IntMulOk i j:=by
 rcases h with ⟨h1,h2⟩ | ⟨h1,h2⟩
 ·exact .of_left (intBits_le_64 h1 h2)
 ·exact .of_right (intBits_le_64 h1 h2)
theorem Mf (k:Nat):(0:Int)<=2 ^ k:=by
 rw [two_pow_cast];exact Int.natCast_nonneg _
theorem AH:OpR X (binaryOp .Add) (rI0 fun i j=>.int (i+j)):=opI0 fun _ _ _ _ _ _ _ q=>add_int q
theorem EN:OpR X (binaryOp .Sub) (rI0 fun i j=>.int (i - j)):=opI0 fun _ _ _ _ _ _ _ q=>sub_int q
theorem Fn:OpR X (binaryOp .Mult) (rI CMul fun i j=>.int (i * j)):=opI fun _ _ _ _ _ _ _ hc q=>mul_int q hc.ok
theorem Dv:OpR X (binaryOp .FloorDiv) (rI CDiv fun i j=>.int (i / j)):=opI fun i j _ _ _ _ _ hc q=>by
 have h1:(0:Int) < j:=hc.1;have h2:j < 1073741824:=hc.2;exact floordiv_int (by lia) (by rw [Int.fdiv_eq_ediv_of_nonneg i (by lia)]; exact q) (.inl (PyProof.noPylong_small (by lia)))
theorem Bb:OpR X (binaryOp .Mod) (rI (fun _ j=>0 < j) fun i j=>.int (i % j)):=opI fun i j _ _ _ _ _ hc q=>by
 have h1:(0:Int) < j:=hc;exact mod_int' (by lia) (by rw [Int.fmod_eq_emod_of_nonneg i (by lia)]; exact q)
theorem Pe:OpR X (binaryOp .Pow) (rI CPow fun i j=>.int (i ^ j.toNat)):=opI fun _ _ _ _ _ _ _ hc q=>pow_int_small hc.1 hc.2.1 hc.2.2 q
theorem op_shr:OpR X (binaryOp .RShift) (rI (fun _ j=>0<=j) fun i j=>.int (i / 2 ^ j.toNat)):=opI fun i j _ _ _ _ _ hc q =>
 rshift_int hc (by rw [Int.fdiv_eq_ediv_of_nonneg i (Mf _)]; exact q)
theorem op_and:OpR X (binaryOp .BitAnd) (rI0 fun i j=>.int (Builtin.bitAnd i j)):=opI0 fun _ _ _ _ _ _ _ q=>and_int q
theorem unI {f:Value->Sem Value} {g:Int->Int}
  (rule:∀ (i:Int) (t:Tok) (s:Shared) (Q:Value->Shared->Prop) (E:Value->Shared->Prop),Q (.int (g i) s.toks) { s with toks:=s.toks+1 }->wpAny (model X.prog X.w) X.A (f (.int i t)) Q E s) :
  UnR X f (rU fun i=>.int (g i)):=by
 intro pins s σ H x v Q I rx h;obtain ⟨i,rfl,q⟩:=h;obtain ⟨t,rfl⟩:=rx;exact rule i t s _ _ ⟨.int (g i),H,I.tok _,⟨_,rfl⟩,q⟩
theorem Ep:UnR X (unaryOp .USub) (rU fun i=>.int (-i)):=unI fun _ _ _ _ _ q=>neg_int q
end
def scal:V->V->Bool
 | .non,.non=>true | .non,.int _=>true | .int _,.non=>true | .non,.bl _=>true | .bl _,.non=>true | .non,.str _=>true | .str _,.non=>true
 | .int _,.int _=>true | .bl _,.bl _=>true | .str _,.str _=>true | .byt _,.byt _=>true
 | .int _,.str _=>true | .str _,.int _=>true | .bl _,.str _=>true | .str _,.bl _=>true
 | _,_=>false
def rEq:R2:=fun x y H Q=>scal x y=true/\Q (.bl (decide (x=y))) H
def rNe:R2:=fun x y H Q=>scal x y=true/\Q (.bl (!decide (x=y))) H
theorem Ex {i j:Int}:decide (V.int i=V.int j)=(i == j):=by
 rw [Bool.eq_iff_iff];simp
theorem PV {i j:Bool}:decide (V.bl i=V.bl j)=(i == j):=by
 rw [Bool.eq_iff_iff];simp
theorem Nw {i j:Str}:decide (V.str i=V.str j)=(i == j):=by
 rw [Bool.eq_iff_iff];simp
theorem Ny {i j:Array UInt8}:decide (V.byt i=V.byt j)=(i.toList == j.toList):=by
 rw [Bool.eq_iff_iff];cases i;cases j;simp
section
variable {X:Cx} {a b c:Expr} {ta tb tc:TE} {pos:Pos}
theorem AL {pins:List (Addr×Obj)} {σ:St} {H:Hp} {s:Shared} {Q:VK} {k k':Bool} (I:Inv X pins σ H s) (q:Q (.bl k) H) (e:k=k'):EP X pins σ Q (.bool k') s:=by
 subst e;exact ⟨.bl k,H,I,rfl,q⟩
theorem El:OpR X (compareOp .Eq) rEq:=by
 intro pins s σ H x y v u Q I rx ry h;obtain ⟨hs,q⟩:=h;cases x with
 | non =>
  cases rx;cases y with
  | non=>cases ry; exact PySem.EqNone.eq_none_none (AL I q (by simp))
  | bl j=>cases ry; exact PySem.EqNone.eq_none_bool (AL I q (by simp))
  | int j=>obtain ⟨t',rfl⟩:=ry; exact PySem.EqNone.eq_none_int (AL I q (by simp))
  | str j=>obtain ⟨t',rfl⟩:=ry; exact PySem.EqNone.eq_none_str (AL I q (by simp))
  | _=>exact absurd (show false=true from hs) Bool.false_ne_true
 | bl i =>
  cases rx;cases y with
  | non=>cases ry; exact PySem.EqNone.eq_bool_none (AL I q (by simp))
  | bl j=>cases ry; exact eq_bool (AL I q PV)
  | str j=>obtain ⟨t',rfl⟩:=ry; exact PySem.EqMixed.eq_bool_str (AL I q (by simp))
  | _=>exact absurd (show false=true from hs) Bool.false_ne_true
 | int i =>
  obtain ⟨t,rfl⟩:=rx;cases y with
  | non=>cases ry; exact PySem.EqNone.eq_int_none (AL I q (by simp))
  | int j=>obtain ⟨t',rfl⟩:=ry; exact eq_int (AL I q Ex)
  | str j=>obtain ⟨t',rfl⟩:=ry; exact PySem.EqMixed.eq_int_str (AL I q (by simp))
  | _=>exact absurd (show false=true from hs) Bool.false_ne_true
 | str i =>
  obtain ⟨t,rfl⟩:=rx;cases y with
  | non=>cases ry; exact PySem.EqNone.eq_str_none (AL I q (by simp))
  | bl j=>cases ry; exact PySem.EqMixed.eq_str_bool (AL I q (by simp))
  | int j=>obtain ⟨t',rfl⟩:=ry; exact PySem.EqMixed.eq_str_int (AL I q (by simp))
  | str j=>obtain ⟨t',rfl⟩:=ry; exact eq_str (AL I q Nw)
  | _=>exact absurd (show false=true from hs) Bool.false_ne_true
 | byt i =>
  obtain ⟨t,rfl⟩:=rx;cases y with
  | byt j=>obtain ⟨t',rfl⟩:=ry; exact PySem.W.eq_bytes (AL I q Ny)
  | _=>exact absurd (show false=true from hs) Bool.false_ne_true
 | _=>cases y<;>exact absurd (show false=true from hs) Bool.false_ne_true
theorem Fc:OpR X (compareOp .NotEq) rNe:=by
 intro pins s σ H x y v u Q I rx ry h;obtain ⟨hs,q⟩:=h;cases x with
 | non =>
  cases rx;cases y with
  | non=>cases ry; exact PySem.EqNone.ne_none_none (AL I q (by simp))
  | bl j=>cases ry; exact PySem.EqNone.ne_none_bool (AL I q (by simp))
  | int j=>obtain ⟨t',rfl⟩:=ry; exact PySem.EqNone.ne_none_int (AL I q (by simp))
  | str j=>obtain ⟨t',rfl⟩:=ry; exact PySem.EqNone.ne_none_str (AL I q (by simp))
  | _=>exact absurd (show false=true from hs) Bool.false_ne_true
 | bl i =>
  cases rx;cases y with
  | non=>cases ry; exact PySem.EqNone.ne_bool_none (AL I q (by simp))
  | bl j=>cases ry; exact ne_bool (AL I q (congrArg not PV))
  | str j=>obtain ⟨t',rfl⟩:=ry; exact PySem.EqMixed.ne_bool_str (AL I q (by simp))
  | _=>exact absurd (show false=true from hs) Bool.false_ne_true
 | int i =>
  obtain ⟨t,rfl⟩:=rx;cases y with
  | non=>cases ry; exact PySem.EqNone.ne_int_none (AL I q (by simp))
  | int j=>obtain ⟨t',rfl⟩:=ry; exact ne_int (AL I q (congrArg not Ex))
  | str j=>obtain ⟨t',rfl⟩:=ry; exact PySem.EqMixed.ne_int_str (AL I q (by simp))
  | _=>exact absurd (show false=true from hs) Bool.false_ne_true
 | str i =>
  obtain ⟨t,rfl⟩:=rx;cases y with
  | non=>cases ry; exact PySem.EqNone.ne_str_none (AL I q (by simp))
  | bl j=>cases ry; exact PySem.EqMixed.ne_str_bool (AL I q (by simp))
  | int j=>obtain ⟨t',rfl⟩:=ry; exact PySem.EqMixed.ne_str_int (AL I q (by simp))
  | str j=>obtain ⟨t',rfl⟩:=ry; exact ne_str (AL I q (congrArg not Nw))
  | _=>exact absurd (show false=true from hs) Bool.false_ne_true
 | byt i =>
  obtain ⟨t,rfl⟩:=rx;cases y with
  | byt j=>obtain ⟨t',rfl⟩:=ry; exact PySem.W.ne_bytes (AL I q (congrArg not Ny))
  | _=>exact absurd (show false=true from hs) Bool.false_ne_true
 | _=>cases y<;>exact absurd (show false=true from hs) Bool.false_ne_true
theorem Pf:OpR X (compareOp .Lt) (rI0 fun i j=>.bl (decide (i < j))):=opB0 fun _ _ _ _ _ _ _ q=>lt_int q
theorem op_le:OpR X (compareOp .LtE) (rI0 fun i j=>.bl (decide (i<=j))):=opB0 fun _ _ _ _ _ _ _ q=>le_int q
theorem op_gt:OpR X (compareOp .Gt) (rI0 fun i j=>.bl (decide (j < i))):=opB0 fun _ _ _ _ _ _ _ q=>gt_int q
theorem NP:OpR X (compareOp .In) (fun x y H Q=>∃ i j,x=.str i/\y=.str j/\Q (.bl (!(Builtin.Str.occurrences j i 0 j.length 1).isEmpty)) H):=by
 intro pins s σ H x y v u Q I rx ry h;obtain ⟨i,j,rfl,rfl,q⟩:=h;obtain ⟨t,rfl⟩:=rx;obtain ⟨t',rfl⟩:=ry;exact in_str (AL I q rfl)
theorem JD:OpR X (compareOp .Is) (fun x y H Q=>y=.non/\Q (.bl (decide (x=.non))) H):=by
 intro pins s σ H x y v u Q I rx ry h;obtain ⟨rfl,q⟩:=h;cases ry;refine is_none_gen (AL I q ?_);cases x<;>first
  | (cases rx; rfl)
  | (obtain ⟨t,rfl⟩:=rx; rfl)
theorem FA:OpR X (compareOp .NotIn) (fun x y H Q=>∃ i j,x=.str i/\y=.str j/\Q (.bl (!(!(Builtin.Str.occurrences j i 0 j.length 1).isEmpty))) H):=by
 intro pins s σ H x y v u Q I rx ry h;obtain ⟨i,j,rfl,rfl,q⟩:=h;obtain ⟨t,rfl⟩:=rx;obtain ⟨t',rfl⟩:=ry;exact notIn_str (AL I q rfl)
theorem AI (b:Expr) {op:CmpOp} (h:op≠.In:=by decide) (h2:op≠.NotIn:=by decide):behindInMarks op b=false:=by
 have e1:(op == CmpOp.In)=false:=by cases op<;>first | rfl | exact absurd rfl h
 have e2:(op == CmpOp.NotIn)=false:=by cases op<;>first | rfl | exact absurd rfl h2
 cases b<;>simp [behindInMarks,e1,e2]
theorem Fz {op:CmpOp} {r:R2} (ho:OpR X (compareOp op) r) (ha:PE X a ta) (hb:PE X b tb) (hm:behindInMarks op b=false):PE X (.Compare a [op] [b] pos) (tOp r ta tb):=by
 intro pins s σ H Q I h;exact wpAny_Compare1 (binT ha hb I h fun v u s2 x y H2 I2 rx ry q=>ho pins s2 σ H2 x y v u Q I2 rx ry q) hm
def tTest (t:TE):TT:=fun σ H Q=>t σ H fun x H'=>∃ k,x=.bl k/\Q k H'
theorem Ax {op:CmpOp} {r:R2} (ho:OpR X (compareOp op) r) (ha:PE X a ta) (hb:PE X b tb) (hm:behindInMarks op b=false):PT X (.Compare a [op] [b] pos) (tTest (tOp r ta tb)):=by
 intro pins s σ H Q I h;refine wpAny_isTrue_Compare1 (thn (ha pins s σ H _ I h) fun v s1 ⟨x,H1,I1,r1,q1⟩=>thn (hb pins s1 σ H1 _ I1 q1) fun u s2 ⟨y,H2,I2,r2,q2⟩ =>
  thn (ho pins s2 σ H2 x y v u _ I2 r1 r2 q2) fun c s3 ⟨z,H3,I3,r3,k,e,q3⟩=>?_) hm
 subst e;cases r3;exact wpAny_truthy_bool ⟨H3,I3,q3⟩
theorem Iq:(sizeLine:Nat) < 2 ^ 63:=by rw [sizeLine_eq]; decide
theorem Ib:OpR X (binaryOp .Add) (fun x y H Q=>∃ i j,x=.str i/\y=.str j/\i.length+j.length<=sizeLine/\Q (.str (i ++ j)) H):=by
 intro pins s σ H x y v u Q I rx ry h;obtain ⟨i,j,rfl,rfl,hz,q⟩:=h;obtain ⟨t,rfl⟩:=rx;obtain ⟨t',rfl⟩:=ry;exact add_str (fun t' tk=>⟨.str (i ++ j),H,I.tok _,⟨_,rfl⟩,q⟩) hz
theorem IR {x:V} {us:List Value} (r:Aw [x] us):∃ u,us=[u]/\AM x u:=by
 cases r with
 | cons r1 r2=>cases r2; exact ⟨_,rfl,r1⟩
theorem vals2 {x y:V} {us:List Value} (r:Aw [x,y] us):∃ u w',us=[u,w']/\AM x u/\AM y w':=by
 cases r with
 | cons r1 r2 =>
  cases r2 with
  | cons r3 r4=>cases r4; exact ⟨_,_,rfl,r1,r3⟩
theorem Ot (hc:X.calm=true):EG X (.builtin "max") (fun xs H Q=>∃ i j,xs=[.int i,.int j]/\Q (.int (if j > i then j else i)) H):=by
 intro pins s σ H xs us Q I r h;obtain ⟨i,j,rfl,q⟩:=h;obtain ⟨u,w',rfl,⟨t,rfl⟩,⟨t',rfl⟩⟩:=vals2 r;refine max_two_ints (I.ok.hd hc) fun h' tk k=>⟨_,H,I.kept k,?_,q⟩
 by_cases hj:j > i
 ·rw [if_pos hj,if_pos hj]; exact ⟨_,rfl⟩
 ·rw [if_neg hj,if_neg hj]; exact ⟨_,rfl⟩
theorem Ey:EG X (.type "str") (fun xs H Q=>∃ i,xs=[.int i]/\i.natAbs.log2 < 1920/\Q (.str (toString i)) H):=by
 intro pins s σ H xs us Q I r h;obtain ⟨i,rfl,hz,q⟩:=h;obtain ⟨u,rfl,t,rfl⟩:=IR r;exact PySem.P.str_of_int hz ⟨.str _,H,I.tok _,⟨_,rfl⟩,q⟩
end
end L2
namespace L2
open PySem PySem.Spec PyProof.Rows
structure MO (h:Heap) (x dx C:Addr) (mA:Str->Option Value):Prop where
 obj:h.get? x=some (PySem.W.instObj C dx)
 ns:h.Ns1 dx mA
 ne:dx≠x
theorem NZ {h:Heap} {dx:Addr} {mA:Str->Option Value} (n:h.Ns1 dx mA):∃ od,h.get? dx=some od/\∀ name,PySem.W.lookIn name od=some (mA name):=by
 obtain ⟨o,es,ep,ho,hd,hk,_,hm⟩:=n;refine ⟨o,ho,fun name=>?_⟩;have e:=hm name;unfold nsFind findBy at e;rw [<-Array.find?_toList] at e;unfold PySem.W.lookIn;rw [hd];dsimp only;split
 ·rename_i y q;rw [q] at e;exact congrArg some e
 ·rename_i q;rw [q] at e;have a:es.toList.any (·.refKey)=false:=by
   rw [List.any_eq_false];intro y hy;obtain ⟨z,t,hkey⟩:=hk y (Array.mem_toList_iff.mp hy);simp [DictEntry.refKey,hkey]
  have a':¬ es.toList.any (·.refKey)=true:=by rw [a]; exact Bool.false_ne_true
  rw [if_neg a'];exact congrArg some e
theorem MO.look {h:Heap} {x dx C:Addr} {mA:Str->Option Value} (I:MO h x dx C mA):∃ od,PySem.W.InstAt h x (PySem.W.instObj C dx) C (some od)/\∀ name,PySem.W.lookIn name od=some (mA name) :=
 let ⟨od,ho,hl⟩:=NZ I.ns
 ⟨od,⟨I.obj,rfl,rfl,ho⟩,hl⟩
section
variable {prog:Program} {w:World} {A:Around} {E:Value->Shared->Prop} {s:Shared} {K:PySem.W.Frag} {x dx C f:Addr} {mA:Str->Option Value} {name:Str} {v:Value}
theorem get_map {expr:Bool} {Q:Value->Shared->Prop} (X:K.In s.heap) (I:MO s.heap x dx C mA) (hg:PySem.W.plainGet K C name=true) (hh:PySem.W.hasDictIn K C=true)
  (ha:PySem.W.findIn K (.ref C) name=some none) (hv:mA name=some v) (hv':PySem.W.handedIn v=true) (h:Q v { s with toks:=s.toks+1 }) :
  wpAny (model prog w) A (getAttr (.ref x) name expr) Q E s:=by
 obtain ⟨od,J,hl⟩:=I.look;exact PySem.W.get_value X J (PySem.W.plainGet_of hg).1 (PySem.W.findObj_own hh ha rfl (by rw [hl,hv])) hv' h
theorem PJ {pl:Sem Bool} {Q:Value×List Value->Shared->Prop} (X:K.In s.heap) (I:MO s.heap x dx C mA) (hg:PySem.W.plainGet K C name=true)
  (hf:PySem.W.findIn K (.ref C) name=some (some (.ref f))) (ht:PySem.W.isFn K (.ref f)=true) (hv:mA name=none) (h:Q (.ref f,[.ref x]) s) :
  wpAny (model prog w) A (getMethod (.ref x) name pl) Q E s:=by
 obtain ⟨od,J,hl⟩:=I.look;exact PySem.W.method_fn X J (PySem.W.plainGet_of hg).1 (PySem.W.plainGet_of hg).2 hf (beq_iff_eq.mp ht) (by show (PySem.W.lookIn name od).map (·.isSome)=some false; rw [hl,hv]; rfl) h
theorem set_map {ns:List Str} {Q:Unit->Shared->Prop} (X:K.In s.heap) (I:MO s.heap x dx C mA)
  (hs:PySem.W.findIn K (.ref C) "__setattr__" = some (some (.builtin "object.__setattr__"))) (hp:PySem.W.plainOver K C=true) (ht:PySem.W.takerIn K C name=some none) (hh:PySem.W.hasDictIn K C=true)
  (hw:PySem.Within mA ns) (hsz:ns.length<=sizeLine)
  (h:∀ h',MO h' x dx C (fun y=>if y=name then some v else mA y)->Heap.SameBut dx s.heap h'->Q () { s with heap:=h',toks:=s.toks+2 }) :
  wpAny (model prog w) A (setAttr (.ref x) name v) Q E s:=by
 obtain ⟨od,J,hl⟩:=I.look;refine PySem.W.set_plain X J hs (PySem.W.osa_open (s:={ s with toks:=s.toks+1 }) (r:=none) X J hp ht fun b=>?_)
 obtain ⟨cd,hc,hd'⟩:=PySem.W.any_some hh;have hx:s.heap.get? x=some ⟨.ref C,some dx,.plain,#[]⟩:=I.obj;refine wpAny_bind (wpAny_pure (wpAny_bind (wpAny_bind (wpAny_loadPart hx (wpAny_bind (PySem.W.Looks.here (s:={ s with toks:=s.toks+1 }) (PySem.W.looks_clsIn X hc) ?_))))))
 rw [hd'];refine wpAny_pure (a:=some dx) (wpAny_bind (wpAny_pure (wpAny_bind ?_)));refine wpAny_nsSet1 (s:={ s with toks:=s.toks+1 }) I.ns fun h' hn2 hs2=>?_;obtain ⟨oD,esD,epD,hoD,hdD,hcD⟩:=hn2.count (PySem.Within.cons name v hw);refine wpAny_bind (wpAny_lookBehind hoD (by rw [hdD]; exact pastItsLine_dict (Nat.le_trans hcD (by rw [List.length_cons]; lia))) ?_);exact wpAny_pure (h _ ⟨(hs2.2 _ (Ne.symm I.ne)).trans I.obj,hn2,I.ne⟩ hs2)
theorem Pr {R:Result->Shared->Prop} {vs:List Value} {kw:List (Str×Value)} (X:K.In s.heap) (hm:PySem.W.makesIn K C=true)
  (hi:PySem.W.findIn K (.ref C) "__init__" = some (some (.ref f))) (hf:PySem.W.typeIn K (.ref f)=some (.type "function"))
  (h:codeAny (model prog w) (A.under (.builtin "type.__call__" ⟨.ref C :: vs,kw⟩)) (.call (.ref f) ⟨.ref (s.heap.objs.size+1) :: vs,kw⟩) (PySem.W.InitBack (s.heap.objs.size+1) R)
   { s with heap:=(s.heap.push PySem.W.emptyDict).push (PySem.W.instObj C s.heap.objs.size) }) :
  codeAny (model prog w) A (.call (.ref C) ⟨vs,kw⟩) R s:=by
 obtain ⟨hh,g,d,t,os⟩:=s;exact PySem.W.make_core (PySem.W.makes_of X hm) (PySem.W.looks_findIn X hi) (fun self=>PySem.W.bind_fn X self hf) (.inl rfl) h
end
def Dw (f:Str) (v:V):List (Str×V)->List (Str×V)
 | []=>[(f,v)]
 | (g,x) :: r=>if g=f then (g,v) :: r else (g,x) :: Dw f v r
theorem AC (f g:Str) (v:V):∀ fs:List (Str×V),(Dw f v fs).lookup g=if g=f then some v else fs.lookup g
 | []=>by
  show List.lookup g [(f,v)]=_;by_cases h:g=f
  ·have hb:(g == f)=true:=beq_iff_eq.mpr h;simp only [List.lookup,hb,if_pos h]
  ·have hb:(g == f)=false:=beq_eq_false_iff_ne.mpr h;simp only [List.lookup,hb,if_neg h]
 | (k,x) :: r=>by
  have ih:=AC f g v r;rw [show Dw f v ((k,x) :: r)=(if k=f then (k,v) :: r else (k,x) :: Dw f v r) from rfl];by_cases hk:k=f
  ·rw [if_pos hk];by_cases h:g=k
   ·have hb:(g == k)=true:=beq_iff_eq.mpr h;simp only [List.lookup,hb,if_pos (h.trans hk)]
   ·have hb:(g == k)=false:=beq_eq_false_iff_ne.mpr h;simp only [List.lookup,hb,if_neg (fun e:g=f=>h (e.trans hk.symm))]
  ·rw [if_neg hk];by_cases h:g=k
   ·have hb:(g == k)=true:=beq_iff_eq.mpr h;simp only [List.lookup,hb,if_neg (fun e:g=f=>hk (h.symm.trans e))]
   ·have hb:(g == k)=false:=beq_eq_false_iff_ne.mpr h;simp only [List.lookup,hb];exact ih
theorem FX (f:Str) (v:V):∀ fs:List (Str×V),f ∈ (Dw f v fs).map (·.1)/\∀ g,g ∈ fs.map (·.1)->g ∈ (Dw f v fs).map (·.1)
 | []=>⟨by simp [Dw],fun g h=>by simp at h⟩
 | (k,x) :: r=>by
  obtain ⟨i1,i2⟩:=FX f v r;rw [show Dw f v ((k,x) :: r)=(if k=f then (k,v) :: r else (k,x) :: Dw f v r) from rfl];by_cases hk:k=f
  ·rw [if_pos hk];subst hk;exact ⟨by simp,fun g h=>by simpa using h⟩
  ·rw [if_neg hk];refine ⟨?_,fun g h=>?_⟩
   ·rw [List.map_cons];exact List.mem_cons_of_mem _ i1
   ·rw [List.map_cons] at h ⊢;rcases List.mem_cons.mp h with e | e
    ·exact List.mem_cons.mpr (.inl e)
    ·exact List.mem_cons_of_mem _ (i2 g e)
theorem Gg (f:Str) (v:V):∀ fs:List (Str×V),(Dw f v fs).length<=fs.length+1
 | []=>by simp [Dw]
 | (k,x) :: r=>by
  have ih:=Gg f v r;rw [show Dw f v ((k,x) :: r)=(if k=f then (k,v) :: r else (k,x) :: Dw f v r) from rfl];by_cases hk:k=f
  ·rw [if_pos hk,List.length_cons,List.length_cons]; lia
  ·rw [if_neg hk,List.length_cons,List.length_cons]; lia
theorem EC.some_of {v:V} {o:Option Value} (r:EC (some v) o):∃ u,o=some u/\AM v u:=by
 cases o with
 | none=>exact (show False from r).elim
 | some u=>exact ⟨u,rfl,r⟩
theorem EC.none_of {o:Option Value} (r:EC none o):o=none:=by
 cases o with
 | none=>rfl
 | some u=>exact (show False from r).elim
theorem Ol {v:V} {u:Value} (r:AM v u):PySem.W.handedIn u=true:=by
 cases v with
 | non=>cases (show u=Value.none from r); rfl
 | bl b=>cases (show u=Value.bool b from r); rfl
 | int i=>obtain ⟨t,e⟩:=(show ∃ t,u=Value.int i t from r); cases e; rfl
 | str x=>obtain ⟨t,e⟩:=(show ∃ t,u=Value.str x t from r); cases e; rfl
 | byt b=>obtain ⟨t,e⟩:=(show ∃ t,u=Value.bytes b t from r); cases e; rfl
 | flt b=>obtain ⟨t,e⟩:=(show ∃ t,u=Value.float b t from r); cases e; rfl
 | ref a=>cases (show u=Value.ref a from r); rfl
 | ty n=>cases (show u=Value.type n from r); rfl
section
variable {P:Program} {w:World} {H H':Hp} {h h':Heap} {a C dx:Addr} {fs fs':List (Str×V)}
theorem GE (hok:HOk P w H h) (e:H a=some (.ins C dx fs)):∃ mA,MO h a dx C mA/\(∀ f,EC (fs.lookup f) (mA f))/\PySem.Within mA (fs.map (·.1))/\fs.length<=1000/\H dx=some (.own a):=by
 obtain ⟨d,z,ne,ob,mA,n,r,q⟩:=(show AN P w H h a (.ins C dx fs) from hok a _ e)
 exact ⟨mA,⟨ob,n,ne⟩,r,q,z,d⟩
end
structure Cls (K:PySem.W.Frag) (C:Addr):Prop where
 pg:PySem.W.plainGet K C Str.empty=true
 hd:PySem.W.hasDictIn K C=true
 po:PySem.W.plainOver K C=true
 sa:PySem.W.findIn K (.ref C) "__setattr__" = some (some (.builtin "object.__setattr__"))
theorem Cls.get {K:PySem.W.Frag} {C:Addr} (c:Cls K C) (f:Str):PySem.W.plainGet K C f=true:=c.pg
def Dn (K:PySem.W.Frag) (C:Addr) (f:Str):Prop:=PySem.W.findIn K (.ref C) f=some none
theorem Dn.taker {K:PySem.W.Frag} {C:Addr} {f:Str} (n:Dn K C f):PySem.W.takerIn K C f=some none:=by
 unfold PySem.W.takerIn;rw [show PySem.W.findIn K (.ref C) f=some none from n];rfl
structure Ov (K:PySem.W.Frag) (C:Addr) (m:Str) (f:Addr):Prop where
 at_:PySem.W.findIn K (.ref C) m=some (some (.ref f))
 fn:PySem.W.isFn K (.ref f)=true
 kp:PySem.W.keepIn K (.ref f)=true
section
variable {X:Cx} {pins:List (Addr×Obj)} {σ:St} {H:Hp} {s:Shared} {a C dx:Addr} {fs:List (Str×V)} {f:Str} {v:V} {A:Around} {E:Value->Shared->Prop}
theorem MJ {b:Bool} {Q:Value->Shared->Prop} (I:Inv X pins σ H s) (e:H a=some (.ins C dx fs)) (c:Cls X.K C) (n:Dn X.K C f) (l:fs.lookup f=some v)
  (h:∀ u s',Inv X pins σ H s'->AM v u->Q u s'):wpAny (model X.prog X.w) A (getAttr (.ref a) f b) Q E s:=by
 obtain ⟨mA,O,r,_,_,_⟩:=GE I.hok e;obtain ⟨u,hu,ru⟩:=EC.some_of (v:=v) (o:=mA f) (by rw [<-l]; exact r f);exact get_map I.kIn O (c.get f) c.hd n hu (Ol ru) (h u _ (I.tok _) ru)
theorem MG {m:Str} {g:Addr} {pl:Sem Bool} {Q:Value×List Value->Shared->Prop} (I:Inv X pins σ H s) (e:H a=some (.ins C dx fs)) (c:Cls X.K C) (k:Ov X.K C m g) (l:fs.lookup m=none)
  (h:Q (.ref g,[.ref a]) s):wpAny (model X.prog X.w) A (getMethod (.ref a) m pl) Q E s:=by
 obtain ⟨mA,O,r,_,_,_⟩:=GE I.hok e;have hn:mA m=none:=EC.none_of (by rw [<-l]; exact r m);exact PJ I.kIn O (c.get m) k.at_ k.fn hn h
theorem Mj {y:V} {u:Value} {Q:Unit->Shared->Prop} (I:Inv X pins σ H s) (e:H a=some (.ins C dx fs)) (c:Cls X.K C) (n:Dn X.K C f) (hl:fs.length < 1000) (ry:AM y u)
  (h:∀ s',Inv X pins σ (upd H a (.ins C dx (Dw f y fs))) s'->Q () s'):wpAny (model X.prog X.w) A (setAttr (.ref a) f u) Q E s:=by
 obtain ⟨mA,O,r,wi,_,ho⟩:=GE I.hok e;have hz:(fs.map (·.1)).length<=sizeLine:=by rw [List.length_map,sizeLine_eq]; lia
 refine set_map I.kIn O c.sa c.po n.taker c.hd wi hz fun h' O' sb=>h _ ?_;have hd:∃ o,h'.get? dx=some o:=let ⟨o,_,_,e',_⟩:=O'.ns; ⟨o,e'⟩;refine I.write (x:=a) (e:=dx) (by rw [e]; exact True.intro) (.inr ho) (fun b q hb z=>(sb.2 b hb).trans z) hd ?_;refine ⟨by rw [Ak O.ne]; exact ho,?_,O.ne,O'.obj,_,O'.ns,fun g=>?_,fun g hg=>?_⟩
 ·have:=Gg f y fs; lia
 ·show EC ((Dw f y fs).lookup g) (if g=f then some u else mA g);rw [AC];by_cases q:g=f
  ·rw [if_pos q,if_pos q]; exact ry
  ·rw [if_neg q,if_neg q]; exact r g
 ·by_cases q:g=f
  ·rw [q]; exact (FX f y fs).1
  ·refine (FX f y fs).2 g (wi g fun z=>hg ?_);show (if g=f then some u else mA g)=none;rw [if_neg q]; exact z
theorem Inv.made (I:Inv X pins σ H s):Inv X pins σ (upd (upd H s.heap.objs.size (.own (s.heap.objs.size+1))) (s.heap.objs.size+1) (.ins C s.heap.objs.size []))
  { s with heap:=(s.heap.push PySem.W.emptyDict).push (PySem.W.instObj C s.heap.objs.size) }:=by
 have e1:(s.heap.push PySem.W.emptyDict).get? s.heap.objs.size=some PySem.W.emptyDict:=Heap.get?_push_size s.heap rfl;have e2:((s.heap.push PySem.W.emptyDict).push (PySem.W.instObj C s.heap.objs.size)).get? (s.heap.objs.size+1)=some (PySem.W.instObj C s.heap.objs.size):=by
  have:=Heap.get?_push_size (s.heap.push PySem.W.emptyDict) (o:=PySem.W.instObj C s.heap.objs.size) rfl
  rwa [Heap.size_push] at this
 have e3:(s.heap.push PySem.W.emptyDict).Ns s.heap.objs.size (fun _=>none):=⟨PySem.W.emptyDict,#[],_,e1,rfl,(fun e he=>absurd he (by simp)),fun _=>rfl⟩
 have I1:=I.laid (a:=s.heap.objs.size) (o:=.own (s.heap.objs.size+1)) (h':=s.heap.push PySem.W.emptyDict) (t':=s.toks) (fun b u q=>Heap.get?_push_of_some _ q) (Nat.le_refl _) ⟨_,e1⟩;refine I1.laid (a:=s.heap.objs.size+1) (o:=.ins C s.heap.objs.size []) (t':=s.toks) (fun b u q=>Heap.get?_push_of_some _ q) (Nat.le_of_eq (Heap.size_push _ _)) ?_;have ne:s.heap.objs.size≠s.heap.objs.size+1:=Nat.ne_of_lt (Nat.lt_succ_self _);refine ⟨by rw [Ak ne,Ab],Nat.zero_le _,ne,e2,fun _=>none,(Heap.Ns1.of_empty e3).at fun o q=>Heap.get?_push_of_some _ q,fun _=>True.intro,fun y hy=>absurd rfl hy⟩
theorem attr_of {prog:Program} {w:World} {env:Env} {e:Expr} {f:Str} {pos:Pos} {s:Shared} {Q:Value->Shared->Prop} (hb:attributeBase e f env (eval e env)=eval e env)
  (h:wpAny (model prog w) A (eval e env) (fun o s₁=>wpAny (model prog w) A (getAttr o f true) Q E s₁) E s):wpAny (model prog w) A (eval (.Attribute e f pos) env) Q E s :=
 Attribute_any_ h (by rw [arm_eval_Attribute,hb])
end
def tFld (K:PySem.W.Frag) (ta:TE) (f:Str):TE:=fun σ H Q=>ta σ H fun x H1=>∃ a C dx fs v,x=.ref a/\H1 a=some (.ins C dx fs)/\Cls K C/\Dn K C f/\fs.lookup f=some v/\Q v H1
def sFld (K:PySem.W.Frag) (ta tv:TE) (f:Str):TS:=fun D σ H=>tv σ H fun y H1=>ta σ H1 fun x H2=>∃ a C dx fs,x=.ref a/\H2 a=some (.ins C dx fs)/\Cls K C/\Dn K C f/\fs.length < 1000 /\
 D.nx σ (upd H2 a (.ins C dx (Dw f y fs)))
section
variable {X:Cx} {o e value:Expr} {f:Str} {pos pos' tpos:Pos} {ta tv:TE}
theorem EM (he:PE X e ta) (hb:attributeBase e f X.env (eval e X.env)=eval e X.env):PE X (.Attribute e f pos) (tFld X.K ta f):=by
 intro pins s σ H Q I h;refine attr_of hb (thn (he pins s σ H _ I h) fun u s1 ⟨x,H1,I1,rx,a,C,dx,fs,v,ex,ea,c,n,l,q⟩=>?_);subst ex;obtain rfl:u=Value.ref a:=rx;exact MJ I1 ea c n l fun u' s2 I2 ru=>⟨v,H1,I2,ru,q⟩
theorem EL (ha:PE X o ta) (hv:PE X value tv) (hs:swapsWith value (some (.Attribute o f pos')) pos.line X.env=pure false):PS X (.Assign [.Attribute o f pos'] value pos) (sFld X.K ta tv f):=by
 intro pins s σ H D I h;refine plainObj_wpAny_Assign_Attribute (thn (hv pins s σ H _ I h) fun u s1 ⟨y,H1,I1,ry,q⟩=>thn (ha pins s1 σ H1 _ I1 q) fun ov s2 ⟨x,H2,I2,rx,a,C,dx,fs,ex,ea,c,n,l,q2⟩=>?_) hs;subst ex;obtain rfl:ov=Value.ref a:=rx;exact Mj I2 ea c n l ry fun s3 I3=>⟨σ,_,I3,q2⟩
end
section
variable {X:Cx} {pins:List (Addr×Obj)} {σ:St} {H:Hp} {s:Shared} {A:Around} {E:Value->Shared->Prop} {Q:Value->Shared->Prop} {c:Value} {b:Bool}
inductive Ga (K:PySem.W.Frag) (H:Hp):V->Value->Prop where
 | non:Ga K H .non (.type "NoneType")
 | bl (x:Bool):Ga K H (.bl x) (.type "bool")
 | int (i:Int):Ga K H (.int i) (.type "int")
 | str (x:Str):Ga K H (.str x) (.type "str")
 | flt (x:UInt64):Ga K H (.flt x) (.type "float")
 | lst {a:Addr} {xs:List V} (e:H a=some (.lst xs)):Ga K H (.ref a) (.type "list")
 | frz {a:Addr} {o:Obj} {xs:List V} (e:H a=some (.frz o (.lst xs))):Ga K H (.ref a) (.type "list")
 | tup {a:Addr} {xs:List V} (e:H a=some (.tup xs)):Ga K H (.ref a) (.type "tuple")
 | dK {a:Addr} {kvs:List (Key×V)} (e:H a=some (.dK kvs)):Ga K H (.ref a) (.type "dict")
 | dT {a:Addr} {kvs:List (List Key×V)} (e:H a=some (.dT kvs)):Ga K H (.ref a) (.type "dict")
 | ins {a C dx:Addr} {fs:List (Str×V)} (e:H a=some (.ins C dx fs)) (cl:Cls K C) (ha:PySem.W.findIn K (.ref C) "__class__" = some (some (.builtin "object.__class__")))
   (hn:PySem.W.specialIn K (.builtin "object.__class__") "__get__" = some (some (.builtin "getset_descriptor.__get__"))) (htk:PySem.W.takesIn K (.builtin "object.__class__")=some true)
   (hm:PySem.W.mroIn K C (.type "object")=some true):Ga K H (.ref a) (.ref C)
theorem Oe {x:V} {u t:Value} (I:Inv X pins σ H s) (rx:AM x u) (ty:Ga X.K H x t) (e:PySem.W.kitOne X.K t c=some b) (h:∀ tk,Q (.bool b) { s with toks:=tk }) :
  wpAny (model X.prog X.w) A (call (.builtin "isinstance") [u,c]) Q E s:=by
 cases ty with
 | non=>cases (show u=Value.none from rx); exact PySem.W.kia_one PySem.W.kitx_none I.kIn True.intro e (fun z=>nomatch z) h
 | bl y=>cases (show u=Value.bool y from rx); exact PySem.W.kia_one PySem.W.kitx_bool I.kIn True.intro e (fun z=>nomatch z) h
 | int i=>obtain ⟨t,q⟩:=(show ∃ t,u=Value.int i t from rx); cases q; exact PySem.W.kia_one PySem.W.kitx_int I.kIn True.intro e (fun z=>nomatch z) h
 | str y=>obtain ⟨t,q⟩:=(show ∃ t,u=Value.str y t from rx); cases q; exact PySem.W.kia_one PySem.W.kitx_str I.kIn True.intro e (fun z=>nomatch z) h
 | flt y=>obtain ⟨t,q⟩:=(show ∃ t,u=Value.float y t from rx); cases q; exact PySem.W.kia_one PySem.W.kitx_float I.kIn True.intro e (fun z=>nomatch z) h
 | @lst a xs ea =>
  cases (show u=Value.ref a from rx);obtain ⟨_,_,n,_,h1⟩:=(show AN X.prog X.w H s.heap a (.lst xs) from I.hok a _ ea)
  exact PySem.W.kia_one PySem.W.kitx_list I.kIn ⟨_,h1,rfl⟩ e (fun z=>nomatch z) h
 | @frz a ob xs ea =>
  cases (show u=Value.ref a from rx);obtain ⟨_,_,_,n,_,h1⟩:=(show AN X.prog X.w H s.heap a (.frz ob (.lst xs)) from I.hok a _ ea)
  exact PySem.W.kia_one PySem.W.kitx_list I.kIn ⟨_,h1,rfl⟩ e (fun z=>nomatch z) h
 | @tup a xs ea =>
  cases (show u=Value.ref a from rx);obtain ⟨_,_,_,p⟩:=(show AN X.prog X.w H s.heap a (.tup xs) from I.hok a _ ea)
  obtain ⟨o,h1,h2,_⟩:=p;exact PySem.W.kia_one PySem.W.kitx_tuple I.kIn ⟨o,h1,h2⟩ e (fun z=>nomatch z) h
 | @dK a kvs ea =>
  cases (show u=Value.ref a from rx);obtain ⟨_,_,vs,_,p⟩:=(show AN X.prog X.w H s.heap a (.dK kvs) from I.hok a _ ea)
  obtain ⟨o,es,ep,h1,h2,_⟩:=p;exact PySem.W.kia_one PySem.W.kitx_dict I.kIn ⟨o,h1,h2.1⟩ e (fun z=>nomatch z) h
 | @dT a kvs ea =>
  cases (show u=Value.ref a from rx);obtain ⟨_,_,xs,_,o,es,ep,h1,h2,_⟩:=(show AN X.prog X.w H s.heap a (.dT kvs) from I.hok a _ ea)
  exact PySem.W.kia_one PySem.W.kitx_dict I.kIn ⟨o,h1,h2.1⟩ e (fun z=>nomatch z) h
 | @ins a C dx fs ea cl ha hn htk hm =>
  cases (show u=Value.ref a from rx);obtain ⟨mA,O,_⟩:=GE I.hok ea;obtain ⟨od,J,_⟩:=O.look;exact PySem.W.kia_one (PySem.W.kitx_own (cl.get _) cl.hd ha hn htk hm) I.kIn J e (fun z=>nomatch z) h
end
end L2
namespace L2
open PySem PySem.Spec PyProof.Rows
structure Ct (k:Nat) (A:Around):Prop where
 hd:A.handled=none
 dp:A.depth+3 * k+5 < recursionLimit
 un:A.units+16 * k+200 < cLine
theorem Ct.mono {j k:Nat} {A:Around} (r:Ct k A) (h:j<=k):Ct j A:=⟨r.hd,by have:=r.dp; lia,by have:=r.un; lia⟩
theorem Ct.deeper {k:Nat} {A:Around} (r:Ct (k+1) A) (env:Env):Ct k (A.deeper env) :=
 ⟨r.hd,by have:=r.dp; show A.depth+1+3 * k+5 < _; lia,by have:=r.un; show A.units+3+16 * k+200 < _; lia⟩
theorem Ct.in1 {k:Nat} {A:Around} (r:Ct (k+1) A):Ct k A.in1 :=
 ⟨r.hd,by have:=r.dp; show A.depth+3 * k+5 < _; lia,by have:=r.un; show A.units+1+16 * k+200 < _; lia⟩
theorem MB {A:Around} {C:Addr} {us:List Value} {kw:List (Str×Value)}:(A.under (.builtin "type.__call__" ⟨.ref C :: us,kw⟩)).depth=A.depth+1:=by
 first | rfl | simp [Around.under,Code.weight,Code.isCreation,Code.isGuard,Code.isCaller,Code.frames,Code.isFrame,guardIds]
theorem MA {A:Around} {C:Addr} {us:List Value} {kw:List (Str×Value)}:(A.under (.builtin "type.__call__" ⟨.ref C :: us,kw⟩)).units=A.units+1:=by
 first | rfl | simp [Around.under,Code.cUnits,Code.frames,Code.isFrame]
theorem Ct.make {k:Nat} {A:Around} (r:Ct (k+1) A) (C:Addr) (us:List Value) (kw:List (Str×Value)):Ct k (A.under (.builtin "type.__call__" ⟨.ref C :: us,kw⟩)) :=
 ⟨r.hd,by have:=r.dp; rw [MB]; lia,by have:=r.un; rw [MA]; lia⟩
theorem Ct.depth {k:Nat} {A:Around} (r:Ct k A):A.depth < recursionLimit:=by have:=r.dp; lia
theorem Ct.units {k:Nat} {A:Around} (r:Ct k A):A.units+64 < cLine:=by have:=r.un; lia
def Jt:TA:=fun _ H Q=>Q [] H
def Ch (ta:TE) (tr:TA):TA:=fun σ H Q=>ta σ H fun x H1=>tr σ H1 fun xs H2=>Q (x :: xs) H2
section
variable {X:Cx} {e:Expr} {es:List Expr} {te:TE} {t:TA} {pos:Pos}
theorem Ac:PA X [] Jt:=fun _ _ _ _ H Q I h=>Calls.spliced_nil ⟨[],H,I,.nil,h⟩
theorem Aa (ha:PE X e te) (hr:PA X es t) (hs:starEach (e :: es) X.env=(false,eval e X.env) :: starEach es X.env:=by rfl):PA X (e :: es) (Ch te t):=by
 intro pos pins s σ H Q I h;rw [hs];show wpAny _ _ (spliced ((false,eval e X.env) :: backTo pos (starEach es X.env))) _ _ s;refine Calls.spliced_cons (thn (ha pins s σ H _ I h) fun u s1 ⟨x,H1,I1,r1,q1⟩=>?_);exact thn (hr pos pins s1 σ H1 _ I1 q1) fun us s2 ⟨xs,H2,I2,r2,q2⟩=>⟨x :: xs,H2,I2,.cons r1 r2,q2⟩
def tTup (t:TA):TE:=fun σ H Q=>t σ H fun xs H1=>xs.length<=sizeLine/\∀ p,H1 p=none->Q (.ref p) (upd H1 p (.tup xs))
def tLst (t:TA):TE:=fun σ H Q=>t σ H fun xs H1=>xs.length<=sizeLine/\∀ p,H1 p=none->Q (.ref p) (upd H1 p (.lst xs))
theorem CT {x1} (h:PA X es t):PE X (.Tuple es x1 pos) (tTup t):=by
 intro pins s σ H Q I hq;refine wpAny_Tuple_spliced (thn (h pos pins s σ H _ I hq) fun us s1 ⟨xs,H1,I1,r,z,q⟩=>⟨by rw [<-r.length]; exact z,?_⟩);have hf:H1 s1.heap.objs.size=none:=I1.hok.fresh (Nat.le_refl _);refine ⟨.ref s1.heap.objs.size,upd H1 s1.heap.objs.size (.tup xs),I1.laid (t':=s1.toks) (fun b u e=>Heap.get?_push_of_some _ e) (Nat.le_refl _) ?_,rfl,q _ hf⟩;exact ⟨z,us,r,⟨_,Heap.get?_push_size _ rfl,rfl,_,rfl⟩⟩
theorem Ck (h:PA X es t):PE X (.List es pos) (tLst t):=by
 intro pins s σ H Q I hq;refine wpAny_List_spliced (thn (h pos pins s σ H _ I hq) fun us s1 ⟨xs,H1,I1,r,z,q⟩=>⟨by rw [<-r.length]; exact z,?_⟩);have hf:H1 s1.heap.objs.size=none:=I1.hok.fresh (Nat.le_refl _);refine ⟨.ref s1.heap.objs.size,upd H1 s1.heap.objs.size (.lst xs),I1.laid (t':=s1.toks) (fun b u e=>Heap.get?_push_of_some _ e) (Nat.le_refl _) ?_,rfl,q _ hf⟩;exact ⟨z,us,0,r,Heap.get?_push_size _ rfl⟩
end
abbrev Sp:=List V->Hp->VK->XK->Prop
abbrev CXT:=List Env->Hp->Shared->XK->Value->Shared->Prop
structure Gx (P:Program) (w:World) (K:PySem.W.Frag) (mg:Str->Option Value) (base:Heap) (A:Around) (outer:List Env) (s:Shared) (H:Hp):Prop where
 frames:A.frames=some outer
 mod:Mod K mg base
 bs:∀ b o,base.get? b=some o->s.heap.get? b=some o/\H b=none
 bsz:base.objs.size<=s.heap.objs.size
 funs:s.heap.FunFrames base outer
 frf:∀ b ∈ frs outer,H b=none
 hok:HOk P w H s.heap
 bare:AllBare s.gens
def CE (outer:List Env) (P:Program) (w:World) (H:Hp) (s:Shared) (Q:VK) (u:Value) (s':Shared):Prop :=
 ∃ v H',s'.os=s.os/\AllBare s'.gens/\Un (frs outer) [] H H' s.heap s'.heap/\HOk P w H' s'.heap/\AM v u/\Q v H'
def CR (CX:CXT) (outer:List Env) (P:Program) (w:World) (H:Hp) (s:Shared) (Q:VK) (E:XK) (r:Result) (s':Shared):Prop :=
 match r with
 | .ok (.ret u)=>CE outer P w H s Q u s'
 | .ok _=>False
 | .error e=>CX outer H s E e s'
structure AS (P:Program) (w:World) (K:PySem.W.Frag) (mg:Str->Option Value) (base:Heap) (CX:CXT) (k:Nat) (f:Addr) (fd:FuncData) (ps:List Str) (sp:Sp):Prop where
 len:∀ vs H Q E,sp vs H Q E->vs.length=ps.length
 run:∀ (A:Around) (outer:List Env) (s:Shared) (H:Hp) (args:Args) (us:List Value) (vs:List V) (Q:VK) (E:XK),Ct k A->Gx P w K mg base A outer s H->BindsTo s fd args (ps.zip us)->Aw vs us->sp vs H Q E ->
  codeAny (model P w) A (.call (.ref f) args) (CR CX outer P w H s Q E) s
theorem Gx.make {P:Program} {w:World} {K:PySem.W.Frag} {mg:Str->Option Value} {base:Heap} {A:Around} {outer:List Env} {s:Shared} {H:Hp} (e:Gx P w K mg base A outer s H) (C:Addr) (us:List Value) (kw:List (Str×Value)) :
  Gx P w K mg base (A.under (.builtin "type.__call__" ⟨.ref C :: us,kw⟩)) outer s H:=⟨by first | exact e.frames | (simpa [Around.under,Code.envs,Code.isFrame,pushEnvs] using e.frames),e.mod,e.bs,e.bsz,e.funs,e.frf,e.hok,e.bare⟩
theorem Gx.in1 {P:Program} {w:World} {K:PySem.W.Frag} {mg:Str->Option Value} {base:Heap} {A:Around} {outer:List Env} {s:Shared} {H:Hp} (e:Gx P w K mg base A outer s H) :
  Gx P w K mg base A.in1 outer s H:=⟨e.frames,e.mod,e.bs,e.bsz,e.funs,e.frf,e.hok,e.bare⟩
section
variable {X:Cx} {pins:List (Addr×Obj)} {σ:St} {H:Hp} {s s':Shared}
theorem Inv.env0 (I:Inv X pins σ H s):Gx X.prog X.w X.K X.mg X.base X.A X.stack s H :=
 ⟨I.ok.frames,I.ok.mod,I.bs,Nat.le_trans I.ok.bsz I.sz,I.stack,I.stkFree,I.hok,I.bare⟩
theorem Inv.after {Q:VK} {u:Value} (I:Inv X pins σ H s) (h:CE X.stack X.prog X.w H s Q u s'):EP X pins σ Q u s':=by
 obtain ⟨v,H',os,bare,un,hok,r,q⟩:=h;obtain ⟨hh,g,d,t,os'⟩:=s';obtain rfl:os'=s.os:=os;exact ⟨v,H',I.call (h':=hh) (g':=g) (d':=d) (t':=t) (ch:=[]) un hok bare (fun b z=>absurd z (by simp)),r,q⟩
end
def tCall (sp:Sp) (dvs:List V) (E:XK) (t:TA):TE:=fun σ H Q=>t σ H fun vs H1=>sp (vs ++ dvs) H1 Q E
def tMeth (C:Addr) (m:Str) (sp:Sp) (dvs:List V) (E:XK) (ta:TE) (t:TA):TE:=fun σ H Q=>ta σ H fun x H1=>∃ a dx fs,x=.ref a/\H1 a=some (.ins C dx fs)/\fs.lookup m=none /\
 t σ H1 fun vs H2=>sp (x :: (vs ++ dvs)) H2 Q E
def tMake (C:Addr) (sp:Sp) (dvs:List V) (E:XK) (t:TA):TE:=fun σ H Q=>t σ H fun vs H1=>∀ x dx,H1 x=none->H1 dx=none->dx≠x ->
 sp (.ref x :: (vs ++ dvs)) (upd (upd H1 dx (.own x)) x (.ins C dx [])) (fun v H2=>v=.non/\Q (.ref x) H2) E
def Eo (K:PySem.W.Frag) (fd:FuncData) (ps:List Str) (ds:List Value):Prop :=
 ∀ (s:Shared) (us:List Value),K.In s.heap->(us ++ ds).length=ps.length->BindsTo s fd ⟨us,[]⟩ (ps.zip (us ++ ds))
theorem Eo.all {K:PySem.W.Frag} {fd:FuncData} {ps:List Str} (h:∀ us:List Value,us.length=ps.length->bindArgs fd ⟨us,[]⟩=pure (ps.zip us)):Eo K fd ps []:=fun s us _ hl=>by
 rw [List.append_nil] at hl ⊢;exact .of_eq (h us hl)
def ED (CX:CXT) (X:Cx) (E:XK):Prop:=∀ (pins:List (Addr×Obj)) (σ:St) (H:Hp) (s:Shared) (e:Value) (s':Shared),Inv X pins σ H s->CX X.stack H s E e s'->X.xe e s'
section
variable {X:Cx} {CX:CXT} {k:Nat} {f C:Addr} {fd:FuncData} {ps:List Str} {sp:Sp} {dvs:List V} {ds:List Value} {E:XK} {x m:Str} {p pos apos:Pos} {e o:Expr} {es:List Expr} {ta:TE} {t:TA}
theorem OS {pins:List (Addr×Obj)} {σ:St} {H:Hp} {s:Shared} {Q:VK} {us:List Value} {vs:List V} (F:AS X.prog X.w X.K X.mg X.base CX k f fd ps sp) (hr:Ct k X.A) (hb:Eo X.K fd ps ds) (hd:Aw dvs ds) (hx:ED CX X E)
  (I:Inv X pins σ H s) (r:Aw vs us) (h:sp (vs ++ dvs) H Q E):wpAny (model X.prog X.w) X.A (call (.ref f) us) (EP X pins σ Q) X.xe s:=by
 have r2:Aw (vs ++ dvs) (us ++ ds):=r.append hd;have hl:(us ++ ds).length=ps.length:=by rw [<-r2.length]; exact F.len _ _ _ _ h
 refine wpAny_call (codeAny_mono (F.run X.A X.stack s H ⟨us,[]⟩ (us ++ ds) (vs ++ dvs) Q E hr I.env0 (hb s us I.kIn hl) r2 h) fun r s' hq=>?_);cases r with
 | error e=>exact hx pins σ H s e s' I hq
 | ok fl =>
  cases fl with
  | ret u=>exact I.after hq
  | next=>exact False.elim hq
  | brk=>exact False.elim hq
  | cont=>exact False.elim hq
theorem pe_call (F:AS X.prog X.w X.K X.mg X.base CX k f fd ps sp) (hr:Ct k X.A) (hg:Gl X x) (hm:X.mg x=some (.ref f)) (hk:PySem.W.keepIn X.K (.ref f)=true) (hb:Eo X.K fd ps ds) (hd:Aw dvs ds) (hx:ED CX X E)
  (ha:PA X (e :: es) t) (hdb:(x == ("__debug__" : Str))=false:=by decide) (he:starEach (e :: es) X.env=(false,eval e X.env) :: starEach es X.env:=by rfl) (hpl:(backTo pos (starEach es X.env)).any (·.1)=false:=by rfl) :
  PE X (.Call (.Name x p) (e :: es) [] pos) (tCall sp dvs E t):=by
 intro pins s σ H Q I h;refine wpAny_Call_Name_kw (JN I hg hm ?_ hdb);refine PySem.W.callWith_K (h₀:=X.base) I.ok.mod.kin hk (thn (ha pos pins s σ H _ I h) fun us s1 ⟨vs,H1,I1,r,q⟩=>⟨I1.kIn,?_⟩) he hpl;exact OS F hr hb hd hx I1 r q
theorem pe_meth {pl:Sem Bool} (he:PE X o ta) (c:Cls X.K C) (hm:Ov X.K C m f) (F:AS X.prog X.w X.K X.mg X.base CX k f fd ps sp) (hr:Ct k X.A) (hb:Eo X.K fd ps ds) (hd:Aw dvs ds) (hx:ED CX X E) (ha:PA X (e :: es) t)
  (hst:starEach (e :: es) X.env=(false,eval e X.env) :: starEach es X.env:=by rfl) (hpl:(backTo pos (starEach es X.env)).any (·.1)=false:=by rfl)
  (ht:eval (.Call (.Attribute o m apos) (e :: es) [] pos) X.env=(do
   let ov <-eval o X.env
   standAt apos.atName
   let (f,first) <-holding [ov] (getMethod ov m pl)
   callWith pos f first (backTo pos (starEach (e :: es) X.env)) (backToKw pos (keywordEach [] X.env))):=by rfl) :
  PE X (.Call (.Attribute o m apos) (e :: es) [] pos) (tMeth C m sp dvs E ta t):=by
 intro pins s σ H Q I h;refine PySem.W.methodCall_KW (pl:=pl) (thn (he pins s σ H _ I h) fun u s1 ⟨x,H1,I1,rx,a,dx,fs,ex,ea,l,q⟩=>?_) ht;subst ex;obtain rfl:u=Value.ref a:=rx;refine MG I1 ea c hm l ?_;refine PySem.W.callWith_K (first:=[.ref a]) (h₀:=X.base) I.ok.mod.kin hm.kp (thn (ha pos pins s1 σ H1 _ I1 q) fun us s2 ⟨vs,H2,I2,r,q2⟩=>⟨I2.kIn,?_⟩) hst hpl;exact OS (us:=.ref a :: us) (vs:=.ref a :: vs) F hr hb hd hx I2 (.cons rfl r) q2
structure Mk (K:PySem.W.Frag) (C f:Addr):Prop where
 makes:PySem.W.makesIn K C=true
 init:PySem.W.findIn K (.ref C) "__init__" = some (some (.ref f))
 fn:PySem.W.isFn K (.ref f)=true
 kp:PySem.W.keepIn K (.ref C)=true
theorem OR {pins:List (Addr×Obj)} {σ:St} {H:Hp} {s:Shared} {Q:VK} {us:List Value} {vs:List V} (M:Mk X.K C f) (F:AS X.prog X.w X.K X.mg X.base CX k f fd ps sp) (hr:Ct (k+1) X.A) (hb:Eo X.K fd ps ds) (hd:Aw dvs ds)
  (hx:ED CX X E) (I:Inv X pins σ H s) (r:Aw vs us)
  (h:∀ x dx,H x=none->H dx=none->dx≠x->sp (.ref x :: (vs ++ dvs)) (upd (upd H dx (.own x)) x (.ins C dx [])) (fun v H2=>v=.non/\Q (.ref x) H2) E) :
  wpAny (model X.prog X.w) X.A (call (.ref C) us) (EP X pins σ Q) X.xe s:=by
 have hq:=h (s.heap.objs.size+1) s.heap.objs.size (I.hok.fresh (Nat.le_succ _)) (I.hok.fresh (Nat.le_refl _)) (Nat.ne_of_lt (Nat.lt_succ_self _));have I2:=Inv.made (C:=C) I;have r2:Aw (V.ref (s.heap.objs.size+1) :: (vs ++ dvs)) (Value.ref (s.heap.objs.size+1) :: (us ++ ds)):=.cons rfl (r.append hd);have hl:(Value.ref (s.heap.objs.size+1) :: us ++ ds).length=ps.length:=by
  have e:=r2.length;rw [F.len _ _ _ _ hq] at e;exact e.symm
 refine wpAny_call (Pr (f:=f) I.kIn M.makes M.init (beq_iff_eq.mp M.fn) (codeAny_mono (F.run _ X.stack _ _ ⟨Value.ref (s.heap.objs.size+1) :: us,[]⟩ (Value.ref (s.heap.objs.size+1) :: (us ++ ds)) _ _ E (hr.make C us [])
  (I2.env0.make C us []) (hb _ (Value.ref (s.heap.objs.size+1) :: us) I2.kIn hl) r2 hq) fun r s' hq'=>?_))
 cases r with
 | error e=>exact hx pins σ _ _ e s' I2 hq'
 | ok fl =>
  cases fl with
  | ret u =>
   obtain ⟨v,H',I3,rv,ev,q3⟩:=I2.after hq';subst ev;exact ⟨rv,⟨V.ref (s.heap.objs.size+1),H',I3,rfl,q3⟩⟩
  | next=>exact False.elim hq'
  | brk=>exact False.elim hq'
  | cont=>exact False.elim hq'
theorem pe_make (M:Mk X.K C f) (F:AS X.prog X.w X.K X.mg X.base CX k f fd ps sp) (hr:Ct (k+1) X.A) (hg:Gl X x) (hm:X.mg x=some (.ref C)) (hb:Eo X.K fd ps ds) (hd:Aw dvs ds) (hx:ED CX X E)
  (ha:PA X (e :: es) t) (hdb:(x == ("__debug__" : Str))=false:=by decide) (he:starEach (e :: es) X.env=(false,eval e X.env) :: starEach es X.env:=by rfl) (hpl:(backTo pos (starEach es X.env)).any (·.1)=false:=by rfl) :
  PE X (.Call (.Name x p) (e :: es) [] pos) (tMake C sp dvs E t):=by
 intro pins s σ H Q I h;refine wpAny_Call_Name_kw (JN I hg hm ?_ hdb);refine PySem.W.callWith_K (h₀:=X.base) I.ok.mod.kin M.kp (thn (ha pos pins s σ H _ I h) fun us s1 ⟨vs,H1,I1,r,q⟩=>⟨I1.kIn,?_⟩) he hpl;exact OR M F hr hb hd hx I1 r q
end
def PK (X:Cx) (kws:List Keyword) (t:TA):Prop :=
 ∀ (pos:Pos) (pins:List (Addr×Obj)) (s:Shared) (σ:St) (H:Hp) (Q:List V->Hp->Prop),Inv X pins σ H s->t σ H Q->wpAny (model X.prog X.w) X.A (evalAll ((backToKw pos (keywordEach kws X.env)).map (·.2))) (AP X pins σ Q) X.xe s
section
variable {X:Cx} {CX:CXT} {k:Nat} {f C:Addr} {fd:FuncData} {ps ks:List Str} {sp:Sp} {E:XK} {x m:Str} {p pos apos kpos:Pos} {e o:Expr} {es:List Expr} {kws:List Keyword} {te ta:TE} {t tk:TA} {nm:Option Str}
theorem pk_nil:PK X [] Jt:=fun _ _ _ _ H Q I h=>wpAny_evalAll_nil ⟨[],H,I,.nil,h⟩
theorem pk_cons (ha:PE X e te) (hr:PK X kws t):PK X (⟨nm,e,kpos⟩ :: kws) (Ch te t):=by
 intro pos pins s σ H Q I h;show wpAny _ _ (evalAll ((do let v <-eval e X.env; standAt pos; pure v) :: (backToKw pos (keywordEach kws X.env)).map (·.2))) _ _ s;refine wpAny_evalAll_cons (wpAny_bind (thn (ha pins s σ H _ I h) fun u s1 ⟨x,H1,I1,r1,q1⟩=>wpAny_bind (wpAny_standAt (wpAny_pure ?_))));exact thn (hr pos pins s1 σ H1 _ I1 q1) fun us s2 ⟨xs,H2,I2,r2,q2⟩=>⟨x :: xs,H2,I2,.cons r1 r2,q2⟩
variable {g:List Value->List Value->List Value} {gV:List V->List V->List V}
end
structure Ap (N P:List Str) (sc:Scope):Prop where
 kind:sc.kind=.function
 co:sc.isCoroutine=false
 gen:sc.isGenerator=false
 nd:N.Nodup
 pre:N.take P.length=P
 par:∀ x ∈ P,sc.names.lookup x=some .local\/sc.names.lookup x=some .cell
 nofree:∀ y ∈ sc.names,y.2≠.free
theorem Jm {kindOf:Str->Option NameKind} {x:Str}:∀ {binds:List (Str×Value)} {m:Str->Option Value},(∀ v,(x,v) ∉ binds)->bindL kindOf binds m x=m x
 | [],_,_=>rfl
 | (n,v) :: r,m,h=>by
  unfold bindL;rw [Jm fun w hw=>h w (List.mem_cons_of_mem _ hw)];split
  ·have:x≠n:=by rintro rfl; exact h v List.mem_cons_self
   simp [this]
  ·rfl
theorem Jo {kindOf:Str->Option NameKind} {x:Str}:∀ {binds:List (Str×Value)} {m:Str->Option Value},(∀ v,(x,v) ∉ binds)->bindC kindOf binds m x=m x
 | [],_,_=>rfl
 | (n,v) :: r,m,h=>by
  unfold bindC;rw [Jo fun w hw=>h w (List.mem_cons_of_mem _ hw)];split
  ·rfl
  ·have:x≠n:=by rintro rfl; exact h v List.mem_cons_self
   simp [this]
theorem Jn {kindOf:Str->Option NameKind} {x:Str} {v:Value}:∀ {P:List Str} {vs:List Value} {i:Nat} {m:Str->Option Value},P.Nodup->P[i]?=some x->vs[i]?=some v->kindOf x=some .local ->
  bindL kindOf (P.zip vs) m x=some v
 | [],_,_,_,_,h,_,_=>by simp at h
 | _ :: _,[],_,_,_,_,h,_=>by simp at h
 | p :: P,w :: vs,0,m,nd,h1,h2,hk=>by
  simp at h1 h2; subst h1; subst h2;show bindL kindOf ((p,w) :: P.zip vs) m p=_;unfold bindL;rw [Jm fun v hv=>(List.nodup_cons.mp nd).1 (List.of_mem_zip hv).1,if_pos hk];simp
 | p :: P,w :: vs,i+1,m,nd,h1,h2,hk=>by
  show bindL kindOf ((p,w) :: P.zip vs) m x=_;unfold bindL;exact Jn (i:=i) (List.nodup_cons.mp nd).2 (by simpa using h1) (by simpa using h2) hk
theorem Jp {kindOf:Str->Option NameKind} {x:Str} {v:Value}:∀ {P:List Str} {vs:List Value} {i:Nat} {m:Str->Option Value},P.Nodup->P[i]?=some x->vs[i]?=some v->kindOf x≠some .local ->
  bindC kindOf (P.zip vs) m x=some v
 | [],_,_,_,_,h,_,_=>by simp at h
 | _ :: _,[],_,_,_,_,h,_=>by simp at h
 | p :: P,w :: vs,0,m,nd,h1,h2,hk=>by
  simp at h1 h2; subst h1; subst h2;show bindC kindOf ((p,w) :: P.zip vs) m p=_;unfold bindC;rw [Jo fun v hv=>(List.nodup_cons.mp nd).1 (List.of_mem_zip hv).1,if_neg hk];simp
 | p :: P,w :: vs,i+1,m,nd,h1,h2,hk=>by
  show bindC kindOf ((p,w) :: P.zip vs) m x=_;unfold bindC;exact Jp (i:=i) (List.nodup_cons.mp nd).2 (by simpa using h1) (by simpa using h2) hk
def Gb (N:List Str) (vs:List V):St:=vs.map some ++ List.replicate (N.length - vs.length) none
def Oq (CX:CXT) (P:Program) (w:World) (K:PySem.W.Frag) (mg:Str->Option Value) (base:Heap) (N:List Str) (qual:Str) (scope:Scope) (f:Addr) (cd:Value) (A:Around) (outer:List Env) (s:Shared) (H:Hp) (E:XK):Cx where
 prog:=P
 w:=w
 K:=K
 mg:=mg
 base:=base
 A:=A.deeper (envOfC qual scope s.heap.objs.size f cd)
 N:=N
 s₀:=s
 H₀:=H
 env:=envOfC qual scope s.heap.objs.size f cd
 outer:=outer
 stack:=envOfC qual scope s.heap.objs.size f cd :: outer
 ex:=[]
 calm:=true
 fn:=fun _=>true
 pn:=[]
 xe:=fun e s'=>wpAny (model P w) (A.deeper (envOfC qual scope s.heap.objs.size f cd)) (leaving (envOfC qual scope s.heap.objs.size f cd) e) (fun _ s''=>CX outer H s E e s'') (fun e' s''=>CX outer H s E e' s'') s'
theorem LU {sc:Scope} {n:Nat} {x:Str} (h:sc.names.lookup x=some .cell):∃ c,(cellsFrom n sc.names []).lookup x=some c:=by
 have q:=PySem.W.cellsFrom_some sc.names n [] (.inl h);exact Option.isSome_iff_exists.mp q
theorem Of {CX:CXT} {P:Program} {w:World} {K:PySem.W.Frag} {mg:Str->Option Value} {base:Heap} {N ps:List Str} {qual:Str} {scope:Scope} {f:Addr} {cd:Value} {A:Around} {outer:List Env} {s s1:Shared} {H:Hp} {E:XK} {us:List Value} {vs:List V}
  (S:Ap N ps scope) (hd:A.handled=none) (e0:Gx P w K mg base A outer s H) (hl:vs.length=ps.length) (r:Aw vs us)
  (x:InCallC s s.heap.objs.size (bindL (envOfC qual scope s.heap.objs.size f cd).kindOf (ps.zip us) fun _=>none) (cellsFrom (s.heap.objs.size+1) scope.names []) (bindC (envOfC qual scope s.heap.objs.size f cd).kindOf (ps.zip us) fun _=>none) s1) :
  Inv (Oq CX P w K mg base N qual scope f cd A outer s H E) [] (Gb N vs) H s1:=by
 have hpl:ps.length<=N.length:=by have:=congrArg List.length S.pre; rw [List.length_take] at this; lia
 obtain ⟨h1,tk,rfl,hk⟩:=x.done;have noA:∀ b:Addr,b ∉ (Oq CX P w K mg base N qual scope f cd A outer s H E).ex:=fun b z=>absurd (show b ∈ ([]:List Addr) from z) (by simp);refine ⟨⟨e0.mod,S.kind,rfl,rfl,Nat.le_refl _,fun y z c h1 h2=>?_,fun y hy=>?_,fun y c _ h=>?_,fun _=>hd,Around.frames_deeper e0.frames,.inr ⟨rfl,rfl⟩,fun b z=>absurd z (noA b),e0.bs,e0.bsz,fun b _ _=>noA b,fun b z=>absurd z (noA b),e0.funs,e0.frf⟩,
  rfl,e0.bare,Un.kept hk,⟨_,x.toInCall.ns,fun i y v h1 h2 h3=>?_⟩,fun y c h=>⟨_,x.cell y c h⟩,e0.hok.fresh (Nat.le_refl _),fun y c h=>?_,fun p hp=>absurd (show p ∈ ([]:List (Addr×Obj)) from hp) (by simp),e0.hok.kept hk,?_⟩
 ·exact name_of_addr x.apart (PySem.mem_of_lookup h1) (PySem.mem_of_lookup h2)
 ·have hy:scope.names.lookup y=some .cell\/scope.names.lookup y=some .free:=hy;rcases hy with hy | hy
  ·exact LU hy
  ·exact absurd rfl (S.nofree _ (PySem.mem_of_lookup hy))
 ·exact Nat.le_of_lt (x.above y c (PySem.mem_of_lookup h))
 ·have hi:i < vs.length:=by
   unfold Gb at h2;by_cases hi:i < vs.length
   ·exact hi
   ·rw [List.getElem?_append_right (by simpa using hi)] at h2;rw [List.getElem?_replicate] at h2;split at h2<;>cases h2
  have ha:vs[i]?=some v:=by
   unfold Gb at h2;rw [List.getElem?_append_left (by simpa using hi),List.getElem?_map] at h2;cases e:vs[i]? with
   | none=>rw [e] at h2; cases h2
   | some a=>rw [e] at h2; cases h2; rfl
  obtain ⟨u,hu,rv⟩:=r.get ha;have hp:ps[i]?=some y:=by
   rw [<-S.pre,List.getElem?_take_of_lt (by lia)]; exact h1
  have ndP:ps.Nodup:=by rw [<-S.pre]; exact S.nd.sublist (List.take_sublist _ _)
  refine ⟨u,rv,?_⟩;rcases S.par y (List.mem_of_getElem? hp) with k | k
  ·exact .inl ⟨k,Jn ndP hp hu k⟩
  ·obtain ⟨c,e⟩:=LU (n:=s.heap.objs.size+1) k;refine .inr ⟨.inl k,c,e,?_⟩;have q:=x.cell y c e;rw [Jp ndP hp hu (by show scope.names.lookup y≠_; rw [k]; decide)] at q;exact q
 ·exact e0.hok.fresh (Nat.le_of_lt (x.above y c (PySem.mem_of_lookup h)))
 ·unfold Gb;show _=N.length;rw [List.length_append,List.length_map,List.length_replicate];lia
theorem fn_of {CX:CXT} {P:Program} {w:World} {K:PySem.W.Frag} {mg:Str->Option Value} {base:Heap} {k:Nat} {f:Addr} {name qual:Str} {params:Arguments} {body:List Stmt} {scope:Scope} {dV kV doc pm cdv ct oc:Value} {an od:Option Addr}
  {osl:Array (Option Value)} {N ps:List Str} {sp:Sp} (lk:K.lookup f=some ⟨oc,od,.func (PySem.W.fnOf name qual params body scope dV kV doc pm an cdv ct),osl⟩) (hcd:PySem.W.codeIn K cdv qual=true) (S:Ap N ps scope)
  (len:∀ vs H Q E,sp vs H Q E->vs.length=ps.length)
  (hbody:∀ (A:Around) (outer:List Env) (s:Shared) (H:Hp) (vs:List V) (Q:VK) (E:XK),Ct k (A.deeper (envOfC qual scope s.heap.objs.size f cdv))->sp vs H Q E ->
   ∃ t,PSs (Oq CX P w K mg base N qual scope f cdv A outer s H E) body t/\t { nx:=fun _ H'=>Q .non H',rt:=Q } (Gb N vs) H) :
  AS P w K mg base CX (k+1) f (PySem.W.fnOf name qual params body scope dV kV doc pm an cdv ct) ps sp:=by
 refine ⟨len,fun A outer s H args us vs Q E hr e0 hb r hsp=>?_⟩;have hl:=len _ _ _ _ hsp;have KX:K.In s.heap:=e0.mod.kin.keeps fun b o e=>(e0.bs b o e).1;have lim:s.heap.NoLimit:=e0.mod.nolimit.keeps fun b o e=>(e0.bs b o e).1;have hkind:∀ y ∈ ps.zip us,scope.names.lookup y.1=some .local\/(scope.names.lookup y.1=some .cell/\((cellsFrom (s.heap.objs.size+1) scope.names []).lookup y.1).isSome=true):=fun ⟨n,v⟩ hy=>by
  rcases S.par n (List.of_mem_zip hy).1 with q | q
  ·exact .inl q
  ·exact .inr ⟨q,PySem.W.cellsFrom_some _ _ _ (.inl q)⟩
 refine codeAny_call_function hr.depth (KX _ _ lk) rfl S.co S.gen rfl (PySem.W.codeRec_of KX hcd) (hb _ _ _ _ ?_);refine wpAny_newFunctionEnv_cells S.kind hkind fun env he s1 x=>?_;subst he;refine ⟨lim.keeps x.toInCall.keep,codeAny_func ?_⟩;obtain ⟨t,ht,hq⟩:=hbody A outer s H vs Q E (hr.deeper _) hsp;have I:Inv (Oq CX P w K mg base N qual scope f cdv A outer s H E) [] (Gb N vs) H s1:=Of S hr.hd e0 hl r x;refine wpAny_mono (ht [] s1 (Gb N vs) H _ I hq) (fun fl s' hs=>?_) fun e s' hs=>hs;have fin:∀ {σ':St} {H':Hp} {v:V} {u:Value},Inv (Oq CX P w K mg base N qual scope f cdv A outer s H E) [] σ' H' s'->AM v u->Q v H'->CE outer P w H s Q u s' :=
  fun {σ' H' v u} J rv q=>⟨v,H',J.os,J.bare,J.base,J.hok,rv,q⟩
 cases fl with
 | ret u =>
  obtain ⟨v,σ',H',J,rv,q⟩:=hs;exact fin J rv q
 | next =>
  obtain ⟨σ',H',J,q⟩:=hs;exact fin (v:=V.non) (u:=Value.none) J rfl q
 | brk =>
  obtain ⟨_,_,_,q⟩:=hs;exact False.elim q
 | cont =>
  obtain ⟨_,_,_,q⟩:=hs;exact False.elim q
end L2
namespace L2
open PySem PySem.Spec PyProof.Rows
section
variable {X:Cx} {x:Str} {p pos:Pos} {e:Expr} {es:List Expr} {t:TA} {id T:String} {r:List V->Hp->VK->Prop}
def tCB (r:List V->Hp->VK->Prop) (t:TA):TE:=fun σ H Q=>t σ H fun vs H1=>r vs H1 Q
theorem AJ (hc:EG X (.builtin id) r) (hg:Gl X x) (hm:X.mg x=none) (hv:bootBuiltins x=some (.builtin id)) (ha:PA X (e :: es) t) (hn:x≠"__name__" := by decide) (hdb:(x == ("__debug__" : Str))=false:=by decide)
  (he:starEach (e :: es) X.env=(false,eval e X.env) :: starEach es X.env:=by rfl) (hpl:(backTo pos (starEach es X.env)).any (·.1)=false:=by rfl):PE X (.Call (.Name x p) (e :: es) [] pos) (tCB r t):=by
 intro pins s σ H Q I h;refine wpAny_Call_Name_kw (Ev I hg hm hv ?_ hn hdb);exact PyProof.Rows.callWith_builtin1 (thn (ha pos pins s σ H _ I h) fun us s1 ⟨vs,H1,I1,r1,q1⟩=>hc pins s1 σ H1 vs us Q I1 r1 q1) he hpl
theorem Bf (hc:EG X (.type T) r) (hg:Gl X x) (hm:X.mg x=none) (hv:bootBuiltins x=some (.type T)) (ha:PA X (e :: es) t) (hn:x≠"__name__" := by decide) (hdb:(x == ("__debug__" : Str))=false:=by decide)
  (he:starEach (e :: es) X.env=(false,eval e X.env) :: starEach es X.env:=by rfl) (hpl:(backTo pos (starEach es X.env)).any (·.1)=false:=by rfl):PE X (.Call (.Name x p) (e :: es) [] pos) (tCB r t):=by
 intro pins s σ H Q I h;refine wpAny_Call_Name_kw (Ev I hg hm hv ?_ hn hdb);exact PyProof.Rows.callWith_type1 (thn (ha pos pins s σ H _ I h) fun us s1 ⟨vs,H1,I1,r1,q1⟩=>hc pins s1 σ H1 vs us Q I1 r1 q1) he hpl
end
end L2
namespace HT
open PySem PyProof.Rows
section
open PySem.SeqAt
open PySem.AutoSeq1 (wpAny_loadPart')
open PySem.MeetsSeq PySem.MeetsSeq2 PySem.MeetsSeq3
end
section
variable {prog:Program} {w:World} {A:Around} {E:Value->Shared->Prop} {s:Shared}
def sIx (n d:Nat):Option Int->Nat
 | none=>d
 | some v=>if v < 0 then (v+(n:Int)).toNat else min v.toNat n
end
end HT
namespace L2
open PySem PySem.Spec PyProof.Rows
abbrev TO:=St->Hp->(Option Int->Hp->Prop)->Prop
def PO (X:Cx) (e:Option Expr) (t:TO):Prop :=
 ∀ (pins:List (Addr×Obj)) (s:Shared) (σ:St) (H:Hp) (Q:Option Int->Hp->Prop),Inv X pins σ H s->t σ H Q ->
  wpAny (model X.prog X.w) X.A (evalPart e X.env) (fun u s'=>∃ o H',Inv X pins σ H' s'/\IsPart u o/\Q o H') X.xe s
def tNoPart:TO:=fun _ H Q=>Q none H
def tPart (t:TE):TO:=fun σ H Q=>t σ H fun x H1=>∃ i,x=.int i/\Q (some i) H1
section
variable {X:Cx} {e:Expr} {te:TE} {lo hi:Option Expr} {tl th:TO} {pos p2:Pos}
theorem Nh:PO X none tNoPart:=by
 intro pins s σ H Q I h;rw [evalPart_none];exact wpAny_pure ⟨none,H,I,.none,h⟩
theorem Gz (h:PE X e te):PO X (some e) (tPart te):=by
 intro pins s σ H Q I hw;rw [evalPart_some];refine thn (h pins s σ H _ I hw) fun u s1 ⟨x,H1,I1,r1,q1⟩=>?_;obtain ⟨i,rfl,q⟩:=q1;obtain ⟨t,rfl⟩:=r1;exact ⟨some i,H1,I1,.int i t,q⟩
def SlR (X:Cx) (r:V->Option Int->Option Int->Hp->VK->Prop):Prop :=
 ∀ (pins:List (Addr×Obj)) (s:Shared) (σ:St) (H:Hp) (x:V) (v vl vu:Value) (lo hi:Option Int) (sl:Addr) (Q:VK),Inv X pins σ H s->AM x v->s.heap.IsSliceOf sl vl vu .none->IsPart vl lo->IsPart vu hi->r x lo hi H Q ->
  ∃ T id,typeLookup (.type T) "__getitem__" = pure (some (.builtin id))/\s.TypeIs v T/\wpAny (model X.prog X.w) X.A (getItem v (.ref sl)) (EP X pins σ Q) X.xe s
def tSl (r:V->Option Int->Option Int->Hp->VK->Prop) (te:TE) (tl th:TO):TE:=fun σ H Q=>te σ H fun x H1=>tl σ H1 fun l H2=>th σ H2 fun u H3=>r x l u H3 Q
theorem GX {r:V->Option Int->Option Int->Hp->VK->Prop} (hr:SlR X r) (he:PE X e te) (hl:PO X lo tl) (hu:PO X hi th):PE X (.Subscript e (.Slice lo hi none p2) pos) (tSl r te tl th):=by
 intro pins s σ H Q I h;refine Subscript_ (thn (he pins s σ H _ I h) fun v s1 ⟨x,H1,I1,r1,q1⟩=>?_);refine wpAny_Slice (thn (hl pins s1 σ H1 _ I1 q1) fun vl s2 ⟨l,H2,I2,pl,q2⟩=>thn (hu pins s2 σ H2 _ I2 q2) fun vu s3 ⟨u,H3,I3,pu,q3⟩=>?_);rw [evalPart_none];refine wpAny_pure ?_;have I4:Inv X pins σ H3 { s3 with heap:=s3.heap.push { cls:=.type "slice",data:=.fields #[vl,vu,.none] } }:=I3.kept (t':=s3.toks) fun b ob q=>Heap.get?_push_of_some _ q;obtain ⟨T,id,hT,ht,hg⟩:=hr pins { s3 with heap:=s3.heap.push { cls:=.type "slice",data:=.fields #[vl,vu,.none] } } σ H3 x v vl vu l u s3.heap.objs.size Q I4 r1 (Heap.IsSliceOf.new ..) pl pu q3;show wpAny (model X.prog X.w) X.A (subscriptTail e (.Slice lo hi none p2) v (.ref s3.heap.objs.size)) (EP X pins σ Q) X.xe { s3 with heap:=s3.heap.push { cls:=.type "slice",data:=.fields #[vl,vu,.none] } };exact tail_any (ops:=[.ref s3.heap.objs.size,v]) ht hT hg (by with_unfolding_all rfl)
def IJ (xs:List V) (lo hi:Option Int):List V:=(xs.drop (HT.sIx xs.length 0 lo)).take (HT.sIx xs.length xs.length hi - HT.sIx xs.length 0 lo)
theorem LO (xs:List V) (lo hi:Option Int):(IJ xs lo hi).length<=xs.length:=by
 unfold IJ;rw [List.length_take,List.length_drop];lia
end
end L2
namespace L2
open PySem PySem.Spec PyProof.Rows
def ixN (n:Nat) (i:Int):Option Nat:=if 0<=i then (if i < n then some i.toNat else none) else if -(n:Int)<=i then some (i+n).toNat else none
def atI {α:Type} (xs:List α) (i:Int):Option α:=(ixN xs.length i).bind fun j=>xs[j]?
theorem ixN_seq {n:Nat} {i:Int} {j:Nat} (h:ixN n i=some j):seqIndex? i n=some j/\j < n/\-(n:Int)<=i/\i < n:=by
 unfold ixN at h;by_cases h0:0<=i
 ·rw [if_pos h0] at h;by_cases h1:i < n
  ·rw [if_pos h1] at h;have e:i.toNat=j:=Option.some.inj h;exact ⟨by rw [seqIndex_of h0 h1,e],by lia,by lia,h1⟩
  ·rw [if_neg h1] at h; cases h
 ·rw [if_neg h0] at h;by_cases h1:-(n:Int)<=i
  ·rw [if_pos h1] at h;have e:(i+n).toNat=j:=Option.some.inj h;exact ⟨by rw [seqIndex_neg (by lia) h1,e],by lia,h1,by lia⟩
  ·rw [if_neg h1] at h; cases h
theorem JY {α:Type} {xs:List α} {i:Int} {v:α} (h:atI xs i=some v):∃ j,seqIndex? i xs.length=some j/\xs[j]?=some v/\j < xs.length/\-(xs.length:Int)<=i/\i < xs.length:=by
 unfold atI at h;cases e:ixN xs.length i with
 | none=>rw [e] at h; cases h
 | some j =>
  rw [e] at h;obtain ⟨h1,h2,h3,h4⟩:=ixN_seq e;exact ⟨j,h1,h,h2,h3,h4⟩
theorem An {α:Type} {xs:List α} {j:Nat} {v:α} (h:xs[j]?=some v):atI xs (j:Int)=some v:=by
 have hj:j < xs.length:=(List.getElem?_eq_some_iff.mp h).1;have e:ixN xs.length (j:Int)=some j:=by
  unfold ixN;rw [if_pos (by lia),if_pos (by lia)]; simp
 unfold atI; rw [e]; exact h
def PlainIx (b:Expr):Prop:=∀ o i,subscripted b false o i=operate [o,i] (getItem o i)
def IxR (X:Cx) (r:R2):Prop :=
 ∀ (value slice:Expr) (pins:List (Addr×Obj)) (s:Shared) (σ:St) (H:Hp) (x y:V) (v u:Value) (Q:VK),Inv X pins σ H s->AM x v->AM y u->r x y H Q ->
  subscripted slice false v u=operate [v,u] (getItem v u)->wpAny (model X.prog X.w) X.A (subscriptTail value slice v u) (EP X pins σ Q) X.xe s
def MtR (X:Cx) (id:String) (r:V->List V->Hp->VK->Prop):Prop :=
 ∀ (pins:List (Addr×Obj)) (s:Shared) (σ:St) (H:Hp) (x:V) (xs:List V) (v:Value) (us:List Value) (Q:VK),Inv X pins σ H s->AM x v->Aw xs us->r x xs H Q ->
  wpAny (model X.prog X.w) X.A (call (.builtin id) (v :: us)) (EP X pins σ Q) X.xe s
section
variable {X:Cx} {a b:Expr} {ta tb:TE} {pos:Pos}
theorem AB {r:R2} (hr:IxR X r) (ha:PE X a ta) (hb:PE X b tb) (hs:PlainIx b):PE X (.Subscript a b pos) (tOp r ta tb):=by
 intro pins s σ H Q I h;exact Subscript_ (binT ha hb I h fun v u s2 x y H2 I2 rx ry q=>hr a b pins s2 σ H2 x y v u Q I2 rx ry q (hs _ _))
def rIxL (K:PySem.W.Frag):R2:=fun x y H Q=>∃ p xs i v,x=.ref p/\y=.int i/\SqL K H p xs/\atI xs i=some v/\Q v H
def rIxT (K:PySem.W.Frag):R2:=fun x y H Q=>∃ p xs i v,x=.ref p/\y=.int i/\SqT K H p xs/\atI xs i=some v/\Q v H
def rIxS:R2:=fun x y H Q=>∃ z i c,x=.str z/\y=.int i/\z.length<=sizeLine/\atI z.cps.toList i=some c/\Q (.str ⟨#[c]⟩) H
theorem Bs:IxR X (rIxL X.K):=by
 intro value slice pins s σ H x y v u Q I rx ry h hs;obtain ⟨p,xs,i,z,rfl,rfl,hq,he,q⟩:=h;cases rx;obtain ⟨t,rfl⟩:=ry;obtain ⟨its,r,pl,hz⟩:=I.list hq;obtain ⟨j,h1,h2,h3,h4,h5⟩:=JY he;obtain ⟨w,ew,rw'⟩:=r.get h2;have hl:=r.length;have hn:=Iq;have fin:EP X pins σ Q w s:=⟨z,H,I,rw',q⟩
 by_cases h0:0<=i
 ·have hj:i.toNat=j:=by
   rw [seqIndex_of h0 h5] at h1;exact Option.some.inj h1
  exact item_listR pl.isList h0 (by lia) (by rw [hj]; simpa using ew) fin hs
 ·have hj:(i+(its.toArray.size:Int)).toNat=j:=by
   rw [seqIndex_neg (by lia) h4] at h1;rw [List.size_toArray,<-hl];exact Option.some.inj h1
  exact subscriptTail_builtinR (x:=w) pl.isList.typeIs slot_list_getitem.lookup
   (wpAny_getItem_list_neg (Q:=fun r s'=>r=w/\EP X pins σ Q r s') pl.isList (by lia) (by rw [List.size_toArray]<;>lia) (by lia) (by rw [hj]; simpa using ew) ⟨rfl,fin⟩) hs
theorem AF:IxR X (rIxT X.K):=by
 intro value slice pins s σ H x y v u Q I rx ry h hs;obtain ⟨p,xs,i,z,rfl,rfl,hq,he,q⟩:=h;cases rx;obtain ⟨t,rfl⟩:=ry;obtain ⟨its,r,pl,hz⟩:=I.tuple hq;obtain ⟨j,h1,h2,h3,h4,h5⟩:=JY he;obtain ⟨w,ew,rw'⟩:=r.get h2;have hl:=r.length;have hn:=Iq;have fin:EP X pins σ Q w s:=⟨z,H,I,rw',q⟩
 exact subscriptTail_builtinR (x:=w) pl.typeIs slot_tuple_getitem.lookup
  (getItem_tuple (j:=j) (Q:=fun r s'=>r=w/\EP X pins σ Q r s') pl (by lia) (by lia) (by rw [List.size_toArray,<-hl]; exact h1) (by simpa using ew) ⟨rfl,fin⟩) hs
theorem PD:IxR X rIxS:=by
 intro value slice pins s σ H x y v u Q I rx ry h hs;obtain ⟨z,i,c,rfl,rfl,hz,he,q⟩:=h;obtain ⟨t,rfl⟩:=rx;obtain ⟨t',rfl⟩:=ry;obtain ⟨j,h1,h2,h3,h4,h5⟩:=JY he;have hl:z.cps.toList.length=z.length:=by simp [Str.length]
 rw [hl] at h1 h4 h5;have hn:=Iq;exact tail_any (typeIs_str s z t) slot_str_getitem.lookup (getItem_str (c:=c) (by
  have e1:decide (i < -(2 ^ 63:Int))=false:=decide_eq_false (by lia);have e2:decide (i ≥ 2 ^ 63)=false:=decide_eq_false (by lia);rw [e1,e2,Bool.or_false]) (by rw [h1]; simpa using h2) ⟨.str ⟨#[c]⟩,H,I.tok _,⟨_,rfl⟩,q⟩) hs
theorem Jv (lo hi:Option Int) (n:Nat):(sliceBounds lo hi none n).1=((HT.sIx n 0 lo:Nat):Int)/\(sliceBounds lo hi none n).2.1=((HT.sIx n n hi:Nat):Int)/\(sliceBounds lo hi none n).2.2=1:=by
 refine ⟨?_,?_,rfl⟩
 ·cases lo with
  | none=>simp [sliceBounds,HT.sIx]
  | some i =>
   simp only [sliceBounds,HT.sIx,Option.getD_none,show (1:Int) > 0 by decide,if_true];by_cases h:i < 0
   ·simp only [h,if_true]<;>lia
   ·simp only [h,if_false]<;>lia
 ·cases hi with
  | none=>simp [sliceBounds,HT.sIx]
  | some i =>
   simp only [sliceBounds,HT.sIx,Option.getD_none,show (1:Int) > 0 by decide,if_true];by_cases h:i < 0
   ·simp only [h,if_true]<;>lia
   ·simp only [h,if_false]<;>lia
theorem IA (its:List Value) (lo hi:Option Int):slicePick its.toArray lo hi none=((its.drop (HT.sIx its.length 0 lo)).take (HT.sIx its.length its.length hi - HT.sIx its.length 0 lo)).toArray:=by
 obtain ⟨h1,h2,h3⟩:=Jv lo hi its.toArray.size;unfold slicePick;rw [h1,h2,h3];simp only [sliceRange_one,pick_run,List.size_toArray]<;>rfl
def rSlL (K:PySem.W.Frag):V->Option Int->Option Int->Hp->VK->Prop:=fun x lo hi H Q=>∃ a xs,x=.ref a/\SqL K H a xs/\∀ p,H p=none->Q (.ref p) (upd H p (.lst (IJ xs lo hi)))
theorem Jw:SlR X (rSlL X.K):=by
 intro pins s σ H x v vl vu lo hi sl Q I rx hs pl pu h;obtain ⟨a,xs,rfl,hx,q⟩:=h;cases rx;obtain ⟨its,r,ht,hz⟩:=I.list hx;have hlen:=r.length;refine ⟨"list",_,slot_list_getitem.lookup,ht.isList.typeIs,?_⟩;refine wpAny_getItem_list_slice ht.isList hs pl pu .none (by simp) ?_ (by rw [List.size_toArray]<;>lia);rw [IA,<-hlen];refine ⟨.ref s.heap.objs.size,_,I.laid (t':=s.toks) (o:=.lst (IJ xs lo hi)) (fun b ob q=>Heap.get?_push_of_some _ q) (Nat.le_refl _) ?_,rfl,q _ (I.hok.fresh (Nat.le_refl _))⟩;exact ⟨Nat.le_trans (LO xs lo hi) hz,_,0,(r.drop (HT.sIx xs.length 0 lo)).take (HT.sIx xs.length xs.length hi - HT.sIx xs.length 0 lo),Heap.get?_push_size _ rfl⟩
def FH:V->Bool
 | .non=>true
 | .bl _=>true
 | .int _=>true
 | .str _=>true
 | _=>false
def eqV:V->V->Bool
 | .non,.non=>true
 | .bl a,.bl b=>a == b
 | .bl a,.int b=>(if a then 1 else 0) == b
 | .int a,.bl b=>a == (if b then 1 else 0)
 | .int a,.int b=>a == b
 | .str a,.str b=>a == b
 | _,_=>false
theorem eqAt_V {A:Around} {s:Shared} {y x:V} {u v:Value} (ry:AM y u) (rx:AM x v) (fy:FH y=true) (fx:FH x=true):SeqAt.EqAt A s u v (eqV y x):=by
 cases y with
 | non =>
  cases ry;cases x with
  | non=>cases rx; exact SeqAt.EqAt.same _
  | bl b=>cases rx; exact SeqAt.EqAt.none_bool b
  | int b=>obtain ⟨t,rfl⟩:=rx; exact SeqAt.EqAt.none_int b t
  | str b=>obtain ⟨t,rfl⟩:=rx; exact SeqAt.EqAt.none_str b t
  | _=>exact absurd (show false=true from fx) Bool.false_ne_true
 | bl a =>
  cases ry;cases x with
  | non=>cases rx; exact SeqAt.EqAt.bool_none a
  | bl b=>cases rx; exact SeqAt.EqAt.bool_bool a b
  | int b=>obtain ⟨t,rfl⟩:=rx; exact SeqAt.EqAt.bool_int a b t
  | str b=>obtain ⟨t,rfl⟩:=rx; exact SeqAt.EqAt.bool_str a b t
  | _=>exact absurd (show false=true from fx) Bool.false_ne_true
 | int a =>
  obtain ⟨t',rfl⟩:=ry;cases x with
  | non=>cases rx; exact SeqAt.EqAt.int_none a t'
  | bl b=>cases rx; exact SeqAt.EqAt.int_bool a t' b
  | int b=>obtain ⟨t,rfl⟩:=rx; exact SeqAt.EqAt.int_int a t' b t
  | str b=>obtain ⟨t,rfl⟩:=rx; exact SeqAt.EqAt.int_str a t' b t
  | _=>exact absurd (show false=true from fx) Bool.false_ne_true
 | str a =>
  obtain ⟨t',rfl⟩:=ry;cases x with
  | non=>cases rx; exact SeqAt.EqAt.str_none a t'
  | bl b=>cases rx; exact SeqAt.EqAt.str_bool a t' b
  | int b=>obtain ⟨t,rfl⟩:=rx; exact SeqAt.EqAt.str_int a t' b t
  | str b=>obtain ⟨t,rfl⟩:=rx; exact SeqAt.EqAt.str_str a t' b t
  | _=>exact absurd (show false=true from fx) Bool.false_ne_true
 | _=>exact absurd (show false=true from fy) Bool.false_ne_true
def eqU (x:V) (u:Value):Bool:=match u with
 | .none=>eqV .non x
 | .bool b=>eqV (.bl b) x
 | .int i _=>eqV (.int i) x
 | .str z _=>eqV (.str z) x
 | _=>false
theorem PQ {x y:V} {u:Value} (r:AM y u) (f:FH y=true):eqU x u=eqV y x:=by
 cases y with
 | non=>cases r; rfl
 | bl b=>cases r; rfl
 | int i=>obtain ⟨t,rfl⟩:=r; rfl
 | str z=>obtain ⟨t,rfl⟩:=r; rfl
 | _=>exact absurd (show false=true from f) Bool.false_ne_true
theorem La {x:V}:∀ {xs:List V} {us:List Value},Aw xs us->xs.all FH=true->us.any (eqU x)=xs.any fun y=>eqV y x
 | _,_,.nil,_=>rfl
 | y :: xs,u :: us,.cons r t,f=>by
  rw [List.all_cons,Bool.and_eq_true] at f;rw [List.any_cons,List.any_cons,PQ r f.1,La t f.2]
theorem Ip {A:Around} {s:Shared} {x:V} {v:Value} (rx:AM x v) (fx:FH x=true):∀ {xs:List V} {us:List Value},Aw xs us->xs.all FH=true->∀ u ∈ us,SeqAt.EqAt A s u v (eqU x u)
 | _,_,.nil,_=>fun u hu=>by cases hu
 | y :: xs,u :: us,.cons r t,f=>fun u' hu=>by
  rw [List.all_cons,Bool.and_eq_true] at f;rcases List.mem_cons.mp hu with rfl | hu
  ·rw [PQ r f.1]; exact eqAt_V r rx f.1 fx
  ·exact Ip rx fx t f.2 u' hu
def inV (x:V) (xs:List V):Bool:=xs.any fun y=>eqV y x
def rIn (K:PySem.W.Frag) (neg:Bool):R2:=fun x y H Q=>∃ p xs,y=.ref p/\(SqL K H p xs\/SqT K H p xs)/\FH x=true/\xs.all FH=true/\Q (.bl (if neg then !inV x xs else inV x xs)) H
theorem FT:OpR X (compareOp .In) (rIn X.K false):=by
 intro pins s σ H x y v u Q I rx ry h;obtain ⟨p,xs,rfl,hq,fx,fs,q⟩:=h;cases ry;rcases hq with hq | hq
 ·obtain ⟨its,r,pl,hz⟩:=I.list hq;refine SeqAt.in_listAt (eqU x) pl.isList (fun w hw=>Ip rx fx r fs w (by simpa using hw)) ⟨.bl _,H,I,rfl,?_⟩;rw [show its.toArray.any (eqU x)=its.any (eqU x) by simp,La r fs];exact q
 ·obtain ⟨its,r,pl,hz⟩:=I.tuple hq;refine SeqAt.in_tupleAt (eqU x) pl (fun w hw=>Ip rx fx r fs w (by simpa using hw)) ⟨.bl _,H,I,rfl,?_⟩;rw [show its.toArray.any (eqU x)=its.any (eqU x) by simp,La r fs];exact q
theorem AV:EG X (.builtin "len") (fun xs H Q=>∃ p ys,xs=[.ref p]/\(SqL X.K H p ys\/SqT X.K H p ys)/\Q (.int ys.length) H):=by
 intro pins s σ H xs us Q I r h;obtain ⟨p,ys,rfl,hq,q⟩:=h;obtain ⟨u,rfl,rx⟩:=IR r;cases rx;have hn:=Iq;rcases hq with hq | hq
 ·obtain ⟨its,r',pl,hz⟩:=I.list hq;have hlen:=r'.length;exact Calls.call_len_list pl.isList (by simp only [List.size_toArray]<;>lia) ⟨.int ys.length,H,I.tok _,⟨s.toks+1,by rw [List.size_toArray,hlen]⟩,q⟩
 ·obtain ⟨its,r',pl,hz⟩:=I.tuple hq;have hlen:=r'.length;exact len_tuple pl (by simp only [List.size_toArray]<;>lia) ⟨.int ys.length,H,I.tok _,⟨s.toks+1,by rw [List.size_toArray,hlen]⟩,q⟩
theorem Ez:EG X (.builtin "len") (fun xs H Q=>∃ z,xs=[.str z]/\z.length<=sizeLine/\Q (.int z.length) H):=by
 intro pins s σ H xs us Q I r h;obtain ⟨z,rfl,hz,q⟩:=h;obtain ⟨u,rfl,t,rfl⟩:=IR r;have hn:=Iq;exact len_str (by lia) ⟨.int z.length,H,I.tok _,⟨_,rfl⟩,q⟩
theorem JW:EG X (.type "list") (fun xs H Q=>∃ p ys,xs=[.ref p]/\(SqL X.K H p ys\/SqT X.K H p ys)/\∀ l,H l=none->Q (.ref l) (upd H l (.lst ys))):=by
 intro pins s σ H xs us Q I r h;obtain ⟨p,ys,rfl,hq,q⟩:=h;obtain ⟨u,rfl,rx⟩:=IR r;cases rx;have fin:∀ (its:List Value),Aw ys its->ys.length<=sizeLine->∀ (h':Heap) (c':Nat),(∀ b o',s.heap.get? b=some o'->h'.get? b=some o') ->
   h'.get? s.heap.objs.size=some { cls:=.type "list",dict:=none,data:=.seq its.toArray c',slots:=#[] }->EP X pins σ Q (.ref s.heap.objs.size) { s with heap:=h' }:=fun its r' hz h' c' kp e =>
  ⟨.ref s.heap.objs.size,_,I.laid (t':=s.toks) kp (Nat.le_refl _) (show AN X.prog X.w _ h' _ (.lst ys) from ⟨hz,its,c',r',e⟩),rfl,q _ (I.hok.fresh (Nat.le_refl _))⟩
 rcases hq with hq | hq
 ·obtain ⟨its,r',pl,hz⟩:=I.list hq;have hlen:=r'.length;obtain ⟨o,ho,hc,n,hd⟩:=pl.isList;exact call_list_seq p (.inl rfl) ho hc hd (fun h' c' kp e=>fin its r' hz h' c' kp e) (by simp only [List.size_toArray]<;>lia)
 ·obtain ⟨its,r',pl,hz⟩:=I.tuple hq;have hlen:=r'.length;obtain ⟨o,ho,hc,n,hd⟩:=pl;exact call_list_seq p (.inr rfl) ho hc hd (fun h' c' kp e=>fin its r' hz h' c' kp e) (by simp only [List.size_toArray]<;>lia)
theorem CM:EG X (.type "tuple") (fun xs H Q=>∃ p ys,xs=[.ref p]/\((SqL X.K H p ys/\∀ l,H l=none->Q (.ref l) (upd H l (.tup ys)))\/(SqT X.K H p ys/\Q (.ref p) H))):=by
 intro pins s σ H xs us Q I r h;obtain ⟨p,ys,rfl,h⟩:=h;obtain ⟨u,rfl,rx⟩:=IR r;cases rx;rcases h with ⟨hq,q⟩ | ⟨hq,q⟩
 ·obtain ⟨its,r',pl,hz⟩:=I.list hq;have hlen:=r'.length;refine call_tuple_list pl.isList (fun h' kp=>?_) (by simp only [List.size_toArray]<;>lia);have I1:Inv X pins σ H { s with heap:=h' }:=I.kept (t':=s.toks) kp
  have I2:Inv X pins σ (upd H h'.objs.size (.tup ys)) { s with heap:=h'.push { cls:=.type "tuple",data:=.seq its.toArray } } :=
   I1.laid (t':=s.toks) (fun b o e=>Heap.get?_push_of_some _ e) (Nat.le_refl _) (show AN X.prog X.w _ _ _ (.tup ys) from ⟨hz,its,r',IsTup.new _ _⟩)
  exact ⟨.ref h'.objs.size,_,I2,rfl,q _ (I1.hok.fresh (Nat.le_refl _))⟩
 ·obtain ⟨its,r',pl,hz⟩:=I.tuple hq;exact call_tuple_same pl ⟨.ref p,H,I,rfl,q⟩
def tyV (K:PySem.W.Frag) (T:String) (x:V) (H:Hp):Prop:=match x with
 | .str _=>T="str"
 | .int _=>T="int"
 | .ref p=>(T="list" /\ ∃ xs,SqL K H p xs)\/(T="tuple" /\ ∃ o,K.lookup p=some o/\o.cls=.type "tuple" /\ o.dict=none) \/
   (T="dict" /\ ((∃ kvs,H p=some (.dK kvs))\/∃ kvs,H p=some (.dT kvs)))\/(T="set" /\ ∃ S n,H p=some (.set S n))
 | _=>False
theorem tyV_is {pins:List (Addr×Obj)} {σ:St} {H:Hp} {s:Shared} {T:String} {x:V} {v:Value} (I:Inv X pins σ H s) (r:AM x v) (ty:tyV X.K T x H) :
  s.TypeIs v T/\∀ a,v=.ref a->∃ ob,s.heap.get? a=some ob/\ob.dict=none:=by
 cases x with
 | str z =>
  obtain ⟨t,rfl⟩:=r;cases (show T="str" from ty);exact ⟨typeIs_str s z t,fun _ e=>nomatch e⟩
 | int i =>
  obtain ⟨t,rfl⟩:=r;cases (show T="int" from ty);exact ⟨typeIs_int s i t,fun _ e=>nomatch e⟩
 | ref p =>
  cases r;rcases ty with ⟨rfl,xs,hq⟩ | ⟨rfl,o,hk,hc,hd⟩ | ⟨rfl,hk⟩ | ⟨rfl,S,n,hk⟩
  ·obtain ⟨its,_,pl,_⟩:=I.list hq;refine ⟨pl.isList.typeIs,fun a e=>?_⟩;cases e;obtain ⟨o,n,e,c,hd,_⟩:=pl;exact ⟨o,e,hd⟩
  ·refine ⟨⟨o,I.kIn p o hk,hc⟩,fun a e=>?_⟩;cases e;exact ⟨o,I.kIn _ o hk,hd⟩
  ·have z:∃ o,s.heap.get? p=some o/\o.ExactDict:=by
    rcases hk with ⟨kvs,hk⟩ | ⟨kvs,hk⟩
    ·obtain ⟨_,_,_,_,o,_,_,e,ex,_⟩:=I.hok p _ hk;exact ⟨o,e,ex⟩
    ·obtain ⟨_,_,_,_,o,_,_,e,ex,_⟩:=I.hok p _ hk;exact ⟨o,e,ex⟩
   obtain ⟨o,e,ex⟩:=z;refine ⟨⟨o,e,ex.1⟩,fun a e2=>?_⟩;cases e2;exact ⟨o,e,ex.2.1⟩
  ·obtain ⟨o,_,_,_,e,ex,_⟩:=I.hok p _ hk;refine ⟨⟨o,e,ex.1⟩,fun a e2=>?_⟩;cases e2;exact ⟨o,e,ex.2.1⟩
 | _=>exact False.elim ty
def tBM (K:PySem.W.Frag) (T:String) (r:V->List V->Hp->VK->Prop) (to:TE) (t:TA):TE:=fun σ H Q=>to σ H fun x H1=>tyV K T x H1/\t σ H1 fun xs H2=>r x xs H2 Q
variable {o e:Expr} {es:List Expr} {to:TE} {t:TA} {name:Str} {apos cpos:Pos} {T id:String} {r:V->List V->Hp->VK->Prop}
theorem Dx (pa:PlainAttrs T) (slot:Slot T name id) (hty:typeOf (.builtin id)=pure (.type "method_descriptor")) (hm:MtR X id r) (ho:PE X o to) (ha:PA X (e :: es) t)
  (hbase:attributeBase o name X.env (eval o X.env)=eval o X.env:=by rfl)
  (hfew:((backTo cpos (starEach (e :: es) X.env)).all (fun x=>!x.1) && (backToKw cpos (keywordEach [] X.env)).all (fun x=>x.1.isSome)
   && decide ((e :: es).length+([]:List Keyword).length+(if ([]:List Keyword).isEmpty then 0 else 1) < 30))=true:=by rfl)
  (hline:(apos.endLine == cpos.line)=true:=by rfl) (hs:starEach (e :: es) X.env=(false,eval e X.env) :: starEach es X.env:=by rfl) (hplain:(backTo cpos (starEach es X.env)).any (·.1)=false:=by rfl) :
  PE X (.Call (.Attribute o name apos) (e :: es) [] cpos) (tBM X.K T r to t):=by
 intro pins s σ H Q I h;refine wpAny_Call_method_late hbase hfew hline rfl (thn (ho pins s σ H _ I h) fun v s1 ⟨x,H1,I1,r1,ty,q1⟩=>?_);obtain ⟨h1,h2⟩:=tyV_is I1 r1 ty;refine ⟨T,id,pa,slot,hty,h1,h2,?_⟩;have hA:=ha cpos pins s1 σ H1 _ I1 q1;rw [hs] at hA ⊢;refine Calls.callWith_builtin (by show (false || (backTo cpos (starEach es X.env)).any (·.1))=false; rw [hplain]<;>rfl) (Calls.evalArgs_plain ?_);exact thn hA fun us s2 ⟨vs,H2,I2,r2,q2⟩=>hm pins s2 σ H2 x vs v us Q I2 r1 r2 q2
/- xs.append(e),list.index on a module's tuple .. are MtR facts of 06m -/
end
end L2
namespace L2
open PySem PySem.Spec PyProof.Rows
def MtM (X:Cx) (id:String) (r:V->List V->Hp->VK->Prop):Prop :=
 ∀ (pins:List (Addr×Obj)) (s:Shared) (σ:St) (H:Hp) (x:V) (xs:List V) (v:Value) (us:List Value) (Q:VK),Inv X pins σ H s->AM x v->Aw xs us->r x xs H Q ->
  wpAny (model X.prog X.w) X.A (call (.builtin id) (v :: us)) (EP X pins σ Q) X.xe s
theorem Aw.one:∀ {x:V} {us:List Value},Aw [x] us->∃ u,us=[u]/\AM x u
 | _,_,.cons r .nil=>⟨_,rfl,r⟩
theorem Aw.two:∀ {x y:V} {us:List Value},Aw [x,y] us->∃ u v,us=[u,v]/\AM x u/\AM y v:=by
 intro x y us h; cases h with
 | cons r t=>cases t with
  | cons q t=>cases t; exact ⟨_,_,rfl,r,q⟩
theorem Aw.rep {xs:List V} {us:List Value} (h:Aw xs us):∀ k:Nat,Aw (List.replicate k xs).flatten (List.replicate k us).flatten
 | 0=>.nil
 | k+1=>by
  rw [List.replicate_succ,List.replicate_succ,List.flatten_cons,List.flatten_cons];exact Aw.append h (Aw.rep h k)
theorem Jf (its:List Value):∀ (k:Nat) (acc:List Value),
  List.foldl (fun x1 x2=>x1 ++ x2) acc.toArray (List.replicate k its.toArray)=(acc ++ (List.replicate k its).flatten).toArray
 | 0,acc=>by simp
 | k+1,acc=>by
  have e:acc.toArray ++ its.toArray=(acc ++ its).toArray:=by simp
  have e2:(acc ++ its) ++ (List.replicate k its).flatten=acc ++ (List.replicate (k+1) its).flatten:=by
   rw [List.replicate_succ,List.flatten_cons,List.append_assoc]
  rw [<-e2,<-Jf its k (acc ++ its),<-e,List.replicate_succ,List.foldl_cons]
section
variable {X:Cx} {pins:List (Addr×Obj)} {σ:St} {H:Hp} {s:Shared} {l b:Addr} {xs ys zs:List V}
theorem Inv.lset {its its':List Value} {n:Nat} {f:Array Value->Array Value} {t':Nat} (I:Inv X pins σ H s) (hH:H l=some (.lst xs))
  (e:s.heap.get? l=some { cls:=.type "list",data:=.seq its.toArray n }) (hf:f its.toArray=its'.toArray) (hv:Aw ys its') (hz:ys.length<=sizeLine) :
  Inv X pins σ (upd H l (.lst ys)) { s with heap:=s.heap.update l (Obj.mapSeq f),toks:=t' }:=by
 have q:=PySem.IsL.update e f;rw [hf] at q;refine I.write (x:=l) (e:=l) (by rw [hH]; exact trivial) (.inl rfl) (fun b' u hb hu=>(Heap.get?_update_other s.heap (Obj.mapSeq f) (Ne.symm hb)).trans hu) ⟨_,q⟩ ?_;exact ⟨hz,its',_,hv,q⟩
theorem Inv.lnew {its:List Value} {t':Nat} (I:Inv X pins σ H s) (hv:Aw ys its) (hz:ys.length<=sizeLine) :
  Inv X pins σ (upd H s.heap.objs.size (.lst ys)) { s with heap:=s.heap.push { cls:=.type "list",data:=.seq its.toArray },toks:=t' } :=
 I.laid (fun _ _ q=>Heap.get?_push_of_some _ q) (Nat.le_refl _) ⟨hz,its,0,hv,Heap.get?_push_size _ rfl⟩
theorem Inv.fresh (I:Inv X pins σ H s):H s.heap.objs.size=none:=I.hok.fresh (Nat.le_refl _)
theorem Inv.lstM (I:Inv X pins σ H s) (hH:H l=some (.lst xs)):xs.length<=sizeLine/\∃ (its:List Value) (n:Nat),Aw xs its/\xs.length=its.length/\s.heap.get? l=some { cls:=.type "list",data:=.seq its.toArray n }:=by
 obtain ⟨z,its,n,r,e⟩:=I.hok l _ hH;exact ⟨z,its,n,r,r.length,e⟩
theorem Pj {n:Nat} (h:n<=sizeLine):Builtin.List.listTooLong n=false:=by
 unfold Builtin.List.listTooLong;exact decide_eq_false (by lia)
end
section
variable {X:Cx}
def Nf:V->List V->Hp->VK->Prop:=fun x vs H Q=>∃ l xs y,x=.ref l/\vs=[y]/\H l=some (.lst xs)/\xs.length < sizeLine/\Q .non (upd H l (.lst (xs ++ [y])))
theorem Cz:MtM X "list.append" Nf:=by
 intro pins s σ H x vs v us Q I rx rv h;obtain ⟨l,xs,y,rfl,rfl,hH,hz,q⟩:=h;cases rx;obtain ⟨u,rfl,ru⟩:=rv.one;obtain ⟨z,its,n,r,hl,e⟩:=I.lstM hH;refine call_meets F.slot_list_append ⟨_,e,rfl⟩ F.entry_list_append (F.args_list_append_2 _ _) (PySem.list_append l its.toArray n u (by rw [List.size_toArray]; lia)) ⟨e,?_⟩;refine ⟨.non,_,I.lset (its':=its ++ [u]) hH e (by simp) (r.append (.cons ru .nil)) ?_,rfl,q⟩;rw [List.length_append,List.length_singleton];lia
def rCat:R2:=fun x y H Q=>∃ l b xs zs,x=.ref l/\y=.ref b/\H l=some (.lst xs)/\H b=some (.lst zs)/\xs.length+zs.length<=sizeLine/\∀ p,H p=none->Q (.ref p) (upd H p (.lst (xs ++ zs)))
theorem Ia:OpR X (binaryOp .Add) rCat:=by
 intro pins s σ H x y v u Q I rx ry h;obtain ⟨l,b,xs,zs,rfl,rfl,hH,hB,hz,q⟩:=h;cases rx;cases ry;obtain ⟨z,its,n,r,hl,e⟩:=I.lstM hH;obtain ⟨z2,its2,n2,r2,hl2,e2⟩:=I.lstM hB;refine PySem.P.add_list e e2 ?_ (by rw [List.size_toArray,List.size_toArray]; lia);have ea:its.toArray ++ its2.toArray=(its ++ its2).toArray:=by simp
 rw [ea];exact ⟨.ref _,_,I.lnew (t':=s.toks) (r.append r2) (by rw [List.length_append]; lia),rfl,q _ I.fresh⟩
def rRep:R2:=fun x y H Q=>∃ l k xs,x=.ref l/\y=.int k/\H l=some (.lst xs)/\-(2 ^ 63)<=k/\k < 2 ^ 63/\xs.length * k.toNat<=sizeLine /\
 ∀ p,H p=none->Q (.ref p) (upd H p (.lst (List.replicate k.toNat xs).flatten))
theorem len_rep {α:Type} (xs:List α) (k:Nat):(List.replicate k xs).flatten.length=k * xs.length:=by
 induction k with
 | zero=>simp
 | succ k ih=>rw [List.replicate_succ,List.flatten_cons,List.length_append,ih,Nat.succ_mul,Nat.add_comm]
theorem op_rep:OpR X (binaryOp .Mult) rRep:=by
 intro pins s σ H x y v u Q I rx ry h;obtain ⟨l,k,xs,rfl,rfl,hH,h1,h2,hz,q⟩:=h;cases rx;obtain ⟨t,rfl⟩:=ry;obtain ⟨z,its,n,r,hl,e⟩:=I.lstM hH;have hlen:its.toArray.size * k.toNat<=sizeLine:=by rw [List.size_toArray,<-hl]; exact hz
 have hcap:¬ its.toArray.size * k.toNat > (2 ^ 63 - 1) / 8:=by
  have:(sizeLine:Nat)<=(2 ^ 63 - 1) / 8:=by decide
  lia
 have hfit:¬ (!Builtin.List.listFitsIndex k)=true:=by
  rw [fitsIndex_both h1 h2];exact Bool.false_ne_true
 have hlong:¬ Builtin.List.listTooLong (its.toArray.size * k.toNat)=true:=by
  rw [Pj hlen];exact Bool.false_ne_true
 have hnew:List.foldl (fun x1 x2=>x1 ++ x2) #[] (List.replicate (if its.toArray.isEmpty=true then 0 else k.toNat) its.toArray)=(List.replicate k.toNat its).flatten.toArray:=by
  have f0:∀ m:Nat,List.foldl (fun x1 x2=>x1 ++ x2) #[] (List.replicate m its.toArray)=(List.replicate m its).flatten.toArray:=fun m=>by
   have:=Jf its m [];rw [List.nil_append] at this;exact this
  rw [f0];cases its with
  | nil=>simp
  | cons a r'=>rw [if_neg (by simp)]
 refine wpAny_binaryOp_repeat_ref (T:="list") (U:="int") (by decide) ⟨_,e,rfl⟩ (fun s'=>typeIs_int s' k t) noFill_list_mul F.fills_int_mul F.slot_int_rmul repeat_list F.slot_int_index.lookup
  (call_meets F.slot_int_rmul (typeIs_int s k t) F.entry_int_rmul (F.args_int_rmul_2 _ _) (int___rmul___int_list k t l its.toArray n)
   ⟨e,rfl,⟨_,e,rfl⟩,call_meets F.slot_list_mul ⟨_,e,rfl⟩ F.entry_list_mul (F.args_list_mul_2 _ _) (AutoListH.list___mul___list_int_3 l its.toArray n k t hfit hcap hlong) ⟨e,?_⟩⟩)
 rw [hnew];exact ⟨.ref _,_,I.lnew (t':=s.toks) (r.rep k.toNat) (by rw [len_rep,Nat.mul_comm]; exact hz),rfl,q _ I.fresh⟩
end
section
variable {prog:Program} {w:World} {A:Around} {E:Value->Shared->Prop} {s:Shared}
end
section
variable {X:Cx}
end
end L2
namespace Att
open PySem PySem.W PySem.Calls PyProof.Rows
theorem Gu {P:Params} {h:Heap}:∀ (ns:List Int) (vs:List Value),WellAll P h vs (ns.map WData.int)->IntsAre vs ns:=by
 intro ns;induction ns with
 | nil =>
  intro vs w;rw [List.map_nil] at w;cases w;exact .nil
 | cons n ns ih =>
  intro vs w;rw [List.map_cons] at w;cases w with
  | cons a b =>
   cases a;exact .cons _ _ (ih _ b)
theorem NI {l:OpenLaw} {n:Nat} (hn:l.most=some n) {P:Params} {h:Heap} {args:List WData} {vals:List Value}
  (hpre:l.row.toRowW.claim.pre args=true) (hwl:WellAll P h vals args) :
  ∃ a vs ns,vals=[Value.ref a]/\args=[WData.list (ns.map WData.int)]/\h.get? a=some { cls:=.type "list",data:=.seq vs.toArray }/\IntsAre vs ns/\ns.length<=n:=by
 have hsh:WShape.hasAll [] args [.list .int]=true:=(pre_splitW hpre).1;have hc:l.pre.holds [] { args:=args }=true:=(pre_splitW hpre).2;obtain ⟨d,r,rfl,h1,h2⟩:=hasAllW_cons hsh;obtain rfl:=hasAllW_nil h2;obtain ⟨xs,rfl,h3⟩:=hasW_list h1;obtain ⟨ns,rfl⟩:=items_int h3;have hlen:ns.length<=n:=by
  unfold OpenLaw.pre at hc;have h4:(WTm.not (.lt (.lit (.int (n:Int))) (.len (.arg 0)))).holds [] { args:=[.list (ns.map .int)] }=true:=by
   have h4:=(holds_andW hc).1;rw [hn] at h4;exact h4
  have h5:=condW_of h4 (w_not (w_lt w_lit (w_len_list (w_arg rfl))));rw [List.length_map] at h5;refine Nat.le_of_not_lt fun q=>?_;have q':(n:Int) < ((ns.length:Nat):Int):=by lia
  first
   | (rw [decide_eq_true q'] at h5; exact absurd h5 (by decide))
   | (simp at h5; lia)
 cases hwl with
 | cons w1 w2 =>
  cases w2;cases w1 with
  | list ho hall=>exact ⟨_,_,ns,rfl,rfl,ho,Gu ns _ hall,hlen⟩
theorem NM (l:OpenLaw) (args:List WData):l.row.toRowW.claim.post args (.bool true) args=true :=
 postW_of (r:=l.row.toRowW) (X:=(true == true))
  (show WShape.has [] (.bool true) .bool=true by first | rfl | decide | simp [WShape.has,WShape.arms,WShape.armsAll])
  (show (WTm.eq .res (.lit (.bool true))).value [] { args:=args,res:=some (.bool true),after:=args }=some (.bool (true == true)) from w_eq_bool (w_res rfl) w_lit) rfl
theorem LY {l:OpenLaw} {n:Nat} {q:Program} {loose:List Str} {XP:(Str->Option Value)->Heap->Prop} {YP:World->Heap->Prop} {d:DefRec}
  (hn:l.most=some n) (hdf:d.params.defaults=[])
  (call:∀ (w:World) (s₀ s₁:Shared) (mg mb:Str->Option Value) (fa:Addr) (o:Obj) (pm cd doc:Value) (a:Addr) (vs:List Value) (ns:List Int),
   Ground q loose [] XP w s₀ mg mb s₁.heap->YP w s₁.heap ->
   s₁.heap.get? fa=some o->o.data=.func (docDef d.name d.params d.body d.scope pm cd doc)->s₁.heap.CodeRec cd d.name->mg d.name=some (.ref fa) ->
   s₁.heap.get? a=some { cls:=.type "list",data:=.seq vs.toArray }->IntsAre vs ns->ns.length<=n->s₁.gens=#[] ->
   codeAny (model l.prog w) callerA (.call (.ref fa) ⟨[.ref a],[]⟩) (fun r s'=>r=.ok (.ret (.bool true))/\OldK s₁.heap s'.heap/\s'.os=s₁.os/\AllBare s'.gens) s₁) :
  WalkO q loose XP YP l.row.toRowW d [] (fun f vs=>PySem.call f vs):=by
 intro w s₀ s₁ mg mb G Y fa o pm cd doc dV kV ho hd hcd hD hmg hg args vals as hpre hlay hrd hwl hlo;obtain rfl:dV=.none:=Dflts.none hD hdf;obtain rfl:kV=.none:=Dflts.noKw hD;obtain ⟨a,vs,ns,rfl,rfl,hobj,hints,hlen⟩:=NI hn hpre hwl;refine enter_call (codeAny_mono (call w s₀ s₁ mg mb fa o pm cd doc a vs ns G Y ho (fd_plain hd) hcd hmg hobj hints hlen hg) fun r s' hq=>?_);obtain ⟨rfl,h2,h3,h4⟩:=hq;exact ⟨.inl ⟨.bool true,.bool true,[],rfl,fun _=>rfl,.bool true,NM l _,fun _=>⟨List.Pairwise.nil,fun _ hm=>(nomatch hm)⟩⟩,h2,h3,h4⟩
section
variable {prog:Program} {w:World} {A:Around} {E:Value->Shared->Prop} {s:Shared} {K:Frag}
end
end Att
namespace L2
open PySem PySem.Spec PyProof.Rows
theorem IQ:∀ {vs:List Value} {ns:List Int},IntsAre vs ns->Aw (ns.map V.int) vs
 | _,_,.nil=>.nil
 | _,_,.cons n t h=>.cons ⟨t,rfl⟩ (IQ h)
def Only (H:Hp):Prop:=∀ b,H b=none\/∃ o xs,H b=some (.frz o (.lst xs))
theorem Px {P:Program} {w:World} {K:PySem.W.Frag} {mg mb:Str->Option Value} {CX:CXT} {k:Nat} {fa a:Addr} {fd:FuncData} {x:Str} {sp:Sp} {s₁:Shared} {vs:List Value} {ns:List Int}
  (KX:K.In s₁.heap) (hns:s₁.heap.Ns mainGlobals mg) (hb:s₁.heap.Ns builtinsNs mb) (hbb:∀ x:Str,x≠"__name__" -> mb x=bootBuiltins x) (hlim:s₁.heap.NoLimit) (hg:s₁.gens=#[])
  (ha:s₁.heap.get? a=some { cls:=.type "list",data:=.seq vs.toArray }) (hi:IntsAre vs ns) (hl:ns.length<=sizeLine) (hr:Ct k callerA)
  (F:∀ base:Heap,K.In base->base.Ns mainGlobals mg->AS P w K mg base CX k fa fd [x] sp) (hbind:∀ (s:Shared) (u:Value),BindsTo s fd ⟨[u],[]⟩ [(x,u)])
  (hsp:∀ H:Hp,Only H->SqL K H a (ns.map V.int)->sp [.ref a] H (fun v _=>v=.bl true) fun _ _ _=>False)
  (hCX:∀ H e s',CX [] H s₁ (fun _ _ _=>False) e s'->False) :
  codeAny (model P w) callerA (.call (.ref fa) ⟨[.ref a],[]⟩) (fun r s'=>r=.ok (.ret (.bool true))/\OldK s₁.heap s'.heap/\s'.os=s₁.os/\AllBare s'.gens) s₁:=by
 have rv:=IQ hi;have lenV:=hi.length;have core:∀ H:Hp,Only H->SqL K H a (ns.map V.int)->HOk P w H s₁.heap->(∀ b,H b≠none->b=a)->(H a≠none->K.lookup a=none) ->
   codeAny (model P w) callerA (.call (.ref fa) ⟨[.ref a],[]⟩) (fun r s'=>r=.ok (.ret (.bool true))/\OldK s₁.heap s'.heap/\s'.os=s₁.os/\AllBare s'.gens) s₁:=by
  intro H hO hS hok hA hK;have base_of:∀ {b:Addr} {o:Obj},s₁.heap.get? b=some o->H b=none->(JQ s₁.heap H).get? b=some o:=fun e n=>PH e n;have noA:∀ {b:Addr} {o:Obj} {es:Array DictEntry} {ep:Nat},s₁.heap.get? b=some o->o.data=.dict es ep->H b=none:=fun {b o es ep} e d=>by
   cases q:H b with
   | none=>rfl
   | some u =>
    have e':b=a:=hA b (by rw [q]; simp);subst e';rw [ha] at e; cases e;have d':Data.seq vs.toArray _=Data.dict es ep:=d;cases d'
  have nsK:∀ {b:Addr} {m:Str->Option Value},s₁.heap.Ns b m->(JQ s₁.heap H).Ns b m:=fun {b m} ⟨o,es,ep,e,d,r⟩=>⟨o,es,ep,base_of e (noA e d),d,r⟩
  have hKb:K.In (JQ s₁.heap H):=fun b o e=>base_of (KX b o e) (by
   cases q:H b with
   | none=>rfl
   | some u =>
    have e':b=a:=hA b (by rw [q]; simp);subst e';rw [hK (by rw [q]; simp)] at e; cases e)
  have hM:Mod K mg (JQ s₁.heap H):=⟨hKb,nsK hns,⟨mb,nsK hb,hbb⟩,let ⟨mc,h1,h2⟩:=hlim; ⟨mc,nsK h1,h2⟩⟩
  have e0:Gx P w K mg (JQ s₁.heap H) callerA [] s₁ H:=⟨rfl,hM,fun b o e=>of_hidT e,Nat.le_of_eq (Oh _ _),trivial,fun b hb=>absurd (show b ∈ ([]:List Addr) from hb) (by simp),hok,.of_eq hg⟩
  refine codeAny_mono ((F _ hKb (nsK hns)).run callerA [] s₁ H ⟨[.ref a],[]⟩ [.ref a] [.ref a] _ _ hr e0 (hbind s₁ (.ref a)) (.cons rfl .nil) (hsp H hO hS)) fun r s' h=>?_;cases r with
  | error e=>exact (hCX H e s' h).elim
  | ok fl =>
   cases fl with
   | next=>exact False.elim h
   | brk=>exact False.elim h
   | cont=>exact False.elim h
   | ret u =>
    obtain ⟨v,H',os,bare,un,hok',r',q⟩:=h;have q':v=.bl true:=q;subst q';obtain rfl:u=Value.bool true:=r';refine ⟨rfl,OldK.of_keep fun b o e=>?_,os,bare⟩;cases q:H b with
    | none=>exact un.keep b o e q (by intro z; exact absurd (show b ∈ ([]:List Addr) from z) (by simp)) (by simp)
    | some u =>
     rcases hO b with z | ⟨ob,xs,z⟩
     ·rw [q] at z; cases z
     ·have z2:=un.frzs b ob _ z;obtain ⟨e1,_⟩:=hok b _ z;obtain ⟨e2,_⟩:=hok' b _ z2;rw [e] at e1; cases e1;exact e2
 cases hk:K.lookup a with
 | some o =>
  have e:=KX a o hk;rw [ha] at e;cases e;refine core (fun _=>none) (fun _=>.inl rfl) (.inr ⟨_,vs.toArray,_,hk,rfl,rfl,rfl,by rw [List.size_toArray,lenV]; exact hl,by simpa using rv⟩) (fun b u z=>by have z':(none:Option HO)=some u:=z; cases z') (fun b z=>absurd rfl z) fun z=>absurd rfl z
 | none =>
  refine core (fun b=>if b=a then some (.frz { cls:=.type "list",data:=.seq vs.toArray } (.lst (ns.map V.int))) else none) (fun b=>?_) (.inl (.inr ⟨{ cls:=.type "list",data:=.seq vs.toArray },if_pos rfl⟩)) (fun b u z=>?_) (fun b z=>?_) fun _=>hk
  ·by_cases hb:b=a
   ·exact .inr ⟨_,_,if_pos hb⟩
   ·exact .inl (if_neg hb)
  ·by_cases hb:b=a
   ·have z':=(if_pos hb).symm.trans z;cases z';subst hb;exact ⟨ha,by rw [List.length_map]; exact hl,vs,_,rv,ha⟩
   ·have z':=(if_neg hb).symm.trans z;cases z'
  ·by_cases hb:b=a
   ·exact hb
   ·exact absurd (if_neg hb) z
end L2
namespace L2
open PySem PySem.Spec PyProof.Rows
theorem MR {l:PySem.W.OpenLaw} {n k:Nat} {q:Program} {loose:List Str} {XP:(Str->Option Value)->Heap->Prop} {YP:World->Heap->Prop} {d:DefRec} {K:Params->PySem.W.Frag} {CX:World->CXT} {sp:World->Sp} {x:Str}
  (hn:l.most=some n) (hn2:n<=sizeLine) (hdf:d.params.defaults=[]) (hr:Ct k callerA)
  (hY:∀ (w:World) (h:Heap),YP w h->(K w.params).In h)
  (F:∀ (w:World) (mg:Str->Option Value) (fa:Addr) (h:Heap),(K w.params).In h->h.Ns mainGlobals mg->mg d.name=some (.ref fa) ->
   ∃ fd:FuncData,(∀ (s:Shared) (u:Value),BindsTo s fd ⟨[u],[]⟩ [(x,u)]) /\
    ∀ base:Heap,(K w.params).In base->base.Ns mainGlobals mg->AS l.prog w (K w.params) mg base (CX w) k fa fd [x] (sp w))
  (hsp:∀ (w:World) (H:Hp) (a:Addr) (ns:List Int),ns.length<=n->Only H->SqL (K w.params) H a (ns.map V.int)->sp w [.ref a] H (fun v _=>v=.bl true) fun _ _ _=>False)
  (hCX:∀ (w:World) (H:Hp) (s:Shared) (e:Value) (s':Shared),CX w [] H s (fun _ _ _=>False) e s'->False) :
  PySem.W.WalkO q loose XP YP l.row.toRowW d [] (fun f vs=>PySem.call f vs):=by
 refine Att.LY hn hdf fun w s₀ s₁ mg mb fa o pm cd doc a vs ns G Y ho hd hcd hmg hobj hints hlen hg=>?_;have KX:=hY w _ Y;obtain ⟨fd,hb,hF⟩:=F w mg fa _ KX G.T.g hmg;exact Px KX G.T.g G.T.b G.T.builtins G.T.nolimit hg hobj hints (Nat.le_trans hlen hn2) hr hF hb (fun H hO hS=>hsp w H a ns hlen hO hS) fun H e s'=>hCX w H s₁ e s'
end L2
/- THE LAST THEOREM (shape; LID,My.* are yours):
 My.Adr: a structure of the addresses that your layer names (classes,functions); My.Txt K t: a structure (Prop) of the equations over K;
 My.txt_mk:{K} {implicit addresses ..} (e1:nsIn K mainGlobals "law" = some (some (.ref f))) (e2:K.lookup f=some ⟨oc,od,.func (fnOf "law" "law" params body scope dV kV doc pm an cdv ct),sl⟩) (e3:codeIn K cdv "law" = true) ..:∃ t,My.Txt K t
set_option maxRecDepth 100000 in
set_option maxHeartbeats 0 in
theorem PySem.Challenge.cw_LID_holds:PySem.Challenge.rw_LID.Holds:=by
 w_on; o_law; k_head; (case hw=>w_witness2)
 k_fill
 refine L2.MR (l:=PySem.Challenge.rw_LID) (n:=63) (k:=40) (x:="script") (CX:=fun w=>..) (sp:=fun _=>My.sp_law) rfl (by decide) rfl ⟨rfl,by decide,by decide⟩ (fun w h Y=>PySem.W.kIn_of Y) ?F ?S ?C
 case F =>
  intro w mg fa h KX G hmg;have T:∃ t,My.Txt (L2.KOf KX) t:=by
   dsimp only [L2.KOf]                          -- K must stand as «<heap const> w.params» for k_is;refine' My.txt_mk ?e1 ?e2 ?e3 ..
   (case e1=>PySem.W.k_is)                    -- in the order: a name->its address->its object->its parts
   (case e2=>PySem.W.k_is)
   ..
  obtain ⟨t,T⟩:=T;have e0:=hmg.symm.trans (PySem.W.mg_of KX G T.law);cases e0                                       -- fa is the law's own address;exact ⟨_,fun s u=>.of_eq rfl,fun base kb nb=>My.law_fn T kb nb⟩     -- if «.of_eq rfl» comes too early: refine' ⟨_,?b,fun base kb nb=>My.law_fn T kb nb⟩; exact fun s u=>.of_eq rfl
 case S=>exact fun w H a ns hl hO hS=>..
 case C=>exact ..
(the tactic k_is has no namespace: write k_is) -/
namespace L2
open PySem PySem.Spec PyProof.Rows
def Ew (s:Stmt) (j:Nat):Stmt:=match s with
 | .ClassDef _ _ _ body _ _ _ _ _ _ _=>body.getD j (.Pass ⟨0,0,0,0⟩)
 | _=>.Pass ⟨0,0,0,0⟩
def Ao (s:Stmt):Arguments:=match s with
 | .FunctionDef _ a _ _ _ _ _ _ _ _=>a
 | _=>{ posonlyargs:=[],args:=[],vararg:=none,kwonlyargs:=[],kw_defaults:=[],kwarg:=none,defaults:=[] }
def Am (s:Stmt):List Stmt:=match s with
 | .FunctionDef _ _ b _ _ _ _ _ _ _=>b
 | _=>[]
def Af (s:Stmt):Scope:=match s with
 | .FunctionDef _ _ _ _ _ _ sc _ _ _=>sc
 | _=>{ kind:=.function,names:=[],isGenerator:=false,isCoroutine:=false }
abbrev CX0:CXT:=fun _ _ _ _ _ _=>False
abbrev E0:XK:=fun _ _ _=>False
theorem Al {X:Cx}:ED CX0 X E0:=fun _ _ _ _ _ _ _ h=>h.elim
structure Fun (K:PySem.W.Frag) (x qual:Str) (st:Stmt) (f:Addr) (fd:FuncData):Prop where
 ex:∃ (oc:Value) (od:Option Addr) (kV doc pm:Value) (an:Option Addr) (cdv ct:Value) (osl:Array (Option Value)),
  fd=PySem.W.fnOf x qual (Ao st) (Am st) (Af st) .none kV doc pm an cdv ct/\K.lookup f=some ⟨oc,od,.func fd,osl⟩/\PySem.W.codeIn K cdv qual=true
 kp:PySem.W.keepIn K (.ref f)=true
section
variable {P:Program} {w:World} {K:PySem.W.Frag} {mg:Str->Option Value} {base:Heap}
theorem Fun.ok {x qual:Str} {st:Stmt} {f:Addr} {fd:FuncData} {N ps:List Str} {k:Nat} {sp:Sp} (F:Fun K x qual st f fd) (S:Ap N ps (Af st)) (len:∀ vs H Q E,sp vs H Q E->vs.length=ps.length)
  (hbody:∀ (cdv:Value) (A:Around) (outer:List Env) (s:Shared) (H:Hp) (vs:List V) (Q:VK) (E:XK),Ct k (A.deeper (envOfC qual (Af st) s.heap.objs.size f cdv))->sp vs H Q E ->
   ∃ t,PSs (Oq CX0 P w K mg base N qual (Af st) f cdv A outer s H E).nox (Am st) t/\t { nx:=fun _ H'=>Q .non H',rt:=Q } (Gb N vs) H):AS P w K mg base CX0 (k+1) f fd ps sp:=by
 obtain ⟨oc,od,kV,doc,pm,an,cdv,ct,osl,rfl,lk,hcd⟩:=F.ex;refine fn_of lk hcd S len fun A outer s H vs Q E hr hsp=>?_;obtain ⟨t,h,q⟩:=hbody cdv A outer s H vs Q E hr hsp;exact ⟨t,h.nox,q⟩
theorem Fun.binds {x qual:Str} {st:Stmt} {f:Addr} {fd:FuncData} {ps:List Str} (F:Fun K x qual st f fd)
  (h:∀ (kV doc pm:Value) (an:Option Addr) (cdv ct:Value) (us:List Value),us.length=ps.length->bindArgs (PySem.W.fnOf x qual (Ao st) (Am st) (Af st) .none kV doc pm an cdv ct) ⟨us,[]⟩=pure (ps.zip us)):Eo K fd ps []:=by
 obtain ⟨oc,od,kV,doc,pm,an,cdv,ct,osl,rfl,lk,hcd⟩:=F.ex;exact .all (h kV doc pm an cdv ct)
theorem Az {x qual:Str} {st:Stmt} {f:Addr} {oc:Value} {od an:Option Addr} {osl:Array (Option Value)} {kV doc pm cdv ct:Value} (l:K.lookup f=some ⟨oc,od,.func (PySem.W.fnOf x qual (Ao st) (Am st) (Af st) .none kV doc pm an cdv ct),osl⟩)
  (c:PySem.W.codeIn K cdv qual=true) (k:PySem.W.keepIn K (.ref f)=true):Fun K x qual st f (PySem.W.fnOf x qual (Ao st) (Am st) (Af st) .none kV doc pm an cdv ct):=⟨⟨oc,od,kV,doc,pm,an,cdv,ct,osl,rfl,l,c⟩,k⟩
end
theorem Fh {A:Around} {k:Nat} (hr:Ct k A):A.units+1 < cLine:=Nat.lt_of_le_of_lt (Nat.add_le_add_left (by decide:1<=64) _) hr.units
section
variable {X:Cx}
theorem pv (i:Nat) {x:Str} {pos:Pos} (hN:X.N[i]?=some x:=by rfl) (hv:Vis X.env.scope x:=by first | exact Or.inl rfl | exact Or.inr (Or.inl rfl) | exact Or.inr (Or.inr rfl)) (hd:(x == ("__debug__" : Str))=false:=by decide)
  (hcd:(x == ("__classdict__" : Str))=false:=by decide):PE X (.Name x pos) (tVar i):=pe_var hN hv hd hcd
end
theorem CA {A B:Prop} (h:B):if false=true then A else B:=by
 rw [if_neg Bool.false_ne_true];exact h
theorem Ef {A B:Prop} (h:A):if true=true then A else B:=by
 rw [if_pos rfl];exact h
theorem II {c A B:Prop} [Decidable c] (h1:c->A) (h2:¬ c->B):if c then A else B:=by
 by_cases h:c
 ·rw [if_pos h];exact h1 h
 ·rw [if_neg h];exact h2 h
theorem Gh {c A B:Prop} [Decidable c] (hc:c) (h:B):if (!decide c)=true then A else B:=by
 rw [decide_eq_true hc];exact CA h
def As (H H':Hp):Prop:=∀ b o,H b=some o->H' b=some o
theorem As.refl (H:Hp):As H H:=fun _ _ h=>h
theorem As.trans {H H1 H2:Hp} (a:As H H1) (b:As H1 H2):As H H2:=fun c o h=>b c o (a c o h)
theorem As.seq {K:PySem.W.Frag} {H H':Hp} {a:Addr} {xs:List V} (e:As H H') (h:SqL K H a xs):SqL K H' a xs:=by
 rcases h with (h | ⟨o,h⟩) | h
 ·exact .inl (.inl (e _ _ h))
 ·exact .inl (.inr ⟨o,e _ _ h⟩)
 ·exact .inr h
end L2
namespace L2
open PySem PySem.Spec PyProof.Rows
section
variable {κ:Type} [DecidableEq κ]
def De (kvs:List (κ×V)) (k:κ):Option V:=(kvs.find? fun kv=>decide (kv.1=k)).map (·.2)
def DY (kvs:List (κ×V)) (k:κ) (v:V):List (κ×V) :=
 if (kvs.any fun kv=>decide (kv.1=k))=true then kvs.map (fun kv=>if kv.1=k then (kv.1,v) else kv) else kvs ++ [(k,v)]
theorem Bn {p:κ×V} {r:List (κ×V)} {k:κ} (e:p.1=k):De (p :: r) k=some p.2:=by simp [De,List.find?_cons,e]
theorem Bo {p:κ×V} {r:List (κ×V)} {k:κ} (e:¬ p.1=k):De (p :: r) k=De r k:=by simp [De,List.find?_cons,e]
theorem EH (k:κ):∀ kvs:List (κ×V),(kvs.any fun kv=>decide (kv.1=k))=(De kvs k).isSome
 | []=>rfl
 | p :: r=>by
  rw [List.any_cons];by_cases e:p.1=k
  ·simp only [Bn e,decide_eq_true e,Bool.true_or,Option.isSome_some]
  ·rw [Bo e,decide_eq_false e,Bool.false_or]; exact EH k r
theorem Ld (k j:κ) (y:V):∀ kvs:List (κ×V),De (kvs.map fun kv=>if kv.1=k then (kv.1,y) else kv) j=(De kvs j).map fun x=>if j=k then y else x
 | []=>rfl
 | p :: r=>by
  have ih:=Ld k j y r;rw [List.map_cons];by_cases h:p.1=k
  ·rw [if_pos h];by_cases e:p.1=j
   ·rw [Bn (p:=(p.1,y)) e,Bn e,Option.map_some,if_pos (e.symm.trans h)]
   ·rw [Bo (p:=(p.1,y)) e,Bo e,ih]
  ·rw [if_neg h];by_cases e:p.1=j
   ·rw [Bn (p:=p) e,Bn e,Option.map_some,if_neg (fun z=>h (e.trans z))]
   ·rw [Bo (p:=p) e,Bo e,ih]
theorem IS (k j:κ) (y:V):∀ kvs:List (κ×V),De kvs k=none->De (kvs ++ [(k,y)]) j=if j=k then some y else De kvs j
 | [],_=>by
  by_cases e:k=j
  ·rw [if_pos e.symm]; exact Bn (p:=(k,y)) e
  ·rw [if_neg (fun z=>e z.symm)]; exact Bo (p:=(k,y)) e
 | p :: r,hn=>by
  rw [List.cons_append];have hk:¬ p.1=k:=fun z=>by rw [Bn z] at hn; cases hn
  rw [Bo hk] at hn;have ih:=IS k j y r hn;by_cases e:p.1=j
  ·rw [Bn e,Bn e,if_neg (fun z=>hk (e.trans z))]
  ·rw [Bo e,Bo e,ih]
theorem OE (kvs:List (κ×V)) (k j:κ) (y:V):De (DY kvs k y) j=if j=k then some y else De kvs j:=by
 unfold DY;by_cases a:(kvs.any fun kv=>decide (kv.1=k))=true
 ·rw [if_pos a,Ld];rw [EH] at a;by_cases e:j=k
  ·obtain ⟨x,hx⟩:=Option.isSome_iff_exists.mp a;rw [if_pos e,e,hx,Option.map_some,if_pos rfl]
  ·rw [if_neg e];cases De kvs j with
   | none=>rfl
   | some x=>rw [Option.map_some,if_neg e]
 ·rw [if_neg a];refine IS k j y kvs ?_;rw [EH] at a;cases q:De kvs k with
  | none=>rfl
  | some x=>rw [q] at a; exact (a rfl).elim
theorem Ea (kvs:List (κ×V)) (k:κ) (v:V):(DY kvs k v).length<=kvs.length+1:=by
 unfold DY;split
 ·rw [List.length_map]; lia
 ·rw [List.length_append,List.length_cons,List.length_nil]; lia
theorem EC.isSome_eq {o:Option V} {u:Option Value} (r:EC o u):o.isSome=u.isSome:=by
 cases o with
 | none=>cases u with
  | none=>rfl
  | some _=>exact (show False from r).elim
 | some _=>cases u with
  | none=>exact (show False from r).elim
  | some _=>rfl
theorem EC.getD {o:Option V} {u:Option Value} {d:V} {d':Value} (r:EC o u) (rd:AM d d'):AM (o.getD d) (u.getD d'):=by
 cases o with
 | none=>cases u with
  | none=>exact rd
  | some _=>exact (show False from r).elim
 | some _=>cases u with
  | none=>exact (show False from r).elim
  | some _=>exact r
theorem KV.val {kvs:List (κ×V)} {vs:List (κ×Value)} (r:KV kvs vs) (k:κ):EC (De kvs k) (valueAt vs k):=by
 unfold KV at r;induction r with
 | nil=>exact True.intro
 | @cons p q ps qs h t ih =>
  obtain ⟨h1,h2⟩:=h;by_cases e:p.1=k
  ·have e':q.1=k:=h1.symm.trans e;have b:valueAt (q :: qs) k=some q.2:=by simp [valueAt,List.find?_cons,e']
   rw [Bn e,b]; exact h2
  ·have e':¬ q.1=k:=fun z=>e (h1.trans z);have b:valueAt (q :: qs) k=valueAt qs k:=by simp [valueAt,List.find?_cons,e']
   rw [Bo e,b]; exact ih
theorem KV.any {kvs:List (κ×V)} {vs:List (κ×Value)} (r:KV kvs vs) (k:κ):(kvs.any fun kv=>decide (kv.1=k))=vs.any fun kv=>decide (kv.1=k):=by
 unfold KV at r;induction r with
 | nil=>rfl
 | cons h t ih=>rw [List.any_cons,List.any_cons,ih,h.1]
theorem KV.repl {kvs:List (κ×V)} {vs:List (κ×Value)} (r:KV kvs vs) (k:κ) {y:V} {u:Value} (ry:AM y u) :
  KV (kvs.map fun kv=>if kv.1=k then (kv.1,y) else kv) (vs.map fun kv=>if kv.1=k then (kv.1,u) else kv):=by
 unfold KV at r ⊢;induction r with
 | nil=>exact .nil
 | @cons p q ps qs h t ih =>
  rw [List.map_cons,List.map_cons];refine .cons ?_ ih;obtain ⟨h1,h2⟩:=h;by_cases e:p.1=k
  ·rw [if_pos e,if_pos (h1.symm.trans e)]; exact ⟨h1,ry⟩
  ·rw [if_neg e,if_neg (fun z=>e (h1.trans z))]; exact ⟨h1,h2⟩
theorem KV.put {kvs:List (κ×V)} {vs:List (κ×Value)} (r:KV kvs vs) (k:κ) {y:V} {u:Value} (ry:AM y u):KV (DY kvs k y) (stored vs k u):=by
 unfold DY stored;rw [r.any k];by_cases e:(vs.any fun kv=>decide (kv.1=k))=true
 ·rw [if_pos e,if_pos e]; exact r.repl k ry
 ·rw [if_neg e,if_neg e]; exact Paired.snoc r ⟨rfl,ry⟩
theorem KV.length {kvs:List (κ×V)} {vs:List (κ×Value)} (r:KV kvs vs):kvs.length=vs.length:=Paired.length r
end
theorem Nr {P:Program} {w:World} {k:Key} {u:Value} (r:AM (kV k) u):(Bz P w).is k u=true:=by
 cases k with
 | inl i=>obtain ⟨t,e⟩:=(show ∃ t,u=Value.int i t from r); subst e; exact LE P w i t
 | inr x=>obtain ⟨t,e⟩:=(show ∃ t,u=Value.str x t from r); subst e; exact LD P w x t
theorem Jc {P:Program} {w:World}:∀ {ks:List Key} {us:List Value},Aw (ks.map kV) us->ItemsAre (Bz P w) ks us
 | [],_,r=>by rw [List.map_nil] at r; cases r; exact .nil
 | k :: ks,_,r=>by
  rw [List.map_cons] at r;cases r with
  | cons h t=>exact .cons (Nr h) (Jc t)
abbrev KT (H:Hp):List (List Key×V)->List (List Key×Addr×Value)->Prop:=Paired fun p q=>p.1=q.1/\H q.2.1=some (.tup (p.1.map kV))/\AM p.2 q.2.2
theorem KT.val {H:Hp} {kvs:List (List Key×V)} {xs:List (List Key×Addr×Value)} (r:KT H kvs xs) (k:List Key):EC (De kvs k) ((atKey xs k).map (·.2)):=by
 induction r with
 | nil=>exact True.intro
 | @cons p q ps qs h t ih =>
  obtain ⟨h1,_,h2⟩:=h;by_cases e:p.1=k
  ·have e':q.1=k:=h1.symm.trans e;have b:atKey (q :: qs) k=some q.2:=by simp [atKey,List.find?_cons,e']
   rw [Bn e,b]; exact h2
  ·have e':¬ q.1=k:=fun z=>e (h1.trans z);have b:atKey (q :: qs) k=atKey qs k:=by simp [atKey,List.find?_cons,e']
   rw [Bo e,b]; exact ih
theorem KT.repl {H:Hp} {kvs:List (List Key×V)} {xs:List (List Key×Addr×Value)} (r:KT H kvs xs) (k:List Key) {y:V} {u:Value} (ry:AM y u) :
  KT H (kvs.map fun kv=>if kv.1=k then (kv.1,y) else kv) (xs.map (putAt k u)):=by
 induction r with
 | nil=>exact .nil
 | @cons p q ps qs h t ih =>
  rw [List.map_cons,List.map_cons];refine .cons ?_ ih;obtain ⟨h1,h2,h3⟩:=h;unfold putAt;by_cases e:p.1=k
  ·rw [if_pos e,if_pos (h1.symm.trans e)]; exact ⟨h1,h2,ry⟩
  ·rw [if_neg e,if_neg (fun z=>e (h1.trans z))]; exact ⟨h1,h2,h3⟩
theorem KT.put {H:Hp} {kvs:List (List Key×V)} {xs:List (List Key×Addr×Value)} (r:KT H kvs xs) (k:List Key) {b:Addr} {y:V} {u:Value} (hb:H b=some (.tup (k.map kV))) (ry:AM y u) :
  KT H (DY kvs k y) (storedH xs k b u):=by
 have e:(kvs.any fun kv=>decide (kv.1=k))=(atKey xs k).isSome:=by
  rw [EH,(r.val k).isSome_eq,Option.isSome_map]
 unfold DY storedH;rw [e];by_cases q:(atKey xs k).isSome=true
 ·rw [if_pos q,if_pos q]; exact r.repl k ry
 ·rw [if_neg q,if_neg q]; exact Paired.snoc r ⟨rfl,hb,ry⟩
theorem KT.keeps {H H':Hp} {kvs:List (List Key×V)} {xs:List (List Key×Addr×Value)} (r:KT H kvs xs) (ht:∀ b ys,H b=some (.tup ys)->H' b=some (.tup ys)):KT H' kvs xs :=
 Paired.mapP r fun _ _ z=>⟨z.1,ht _ _ z.2.1,z.2.2⟩
section
variable {P:Program} {w:World} {H:Hp} {h:Heap} {a:Addr}
theorem OV {u:HO} (ok:HOk P w H h) (e:Rd H a u):AN P w H h a u:=e.ok ok
theorem LM {kvs:List (Key×V)} (ok:HOk P w H h) (e:Rd H a (.dK kvs)):kvs.length<=sizeLine/\(a == sysModules)=false/\∃ vs,KV kvs vs/\h.DictOf (Bz P w) a vs :=
 show AN P w H h a (.dK kvs) from OV ok e
theorem dk_of {kvs:List (Key×V)} (ok:HOk P w H h) (e:H a=some (.dK kvs)):kvs.length<=sizeLine/\(a == sysModules)=false/\∃ vs,KV kvs vs/\h.DictOf (Bz P w) a vs:=LM ok (.inl e)
theorem JO {ks:List Key} (ok:HOk P w H h) (e:H a=some (.tup (ks.map kV))):(tupleKind (Bz P w)).is h ks a:=by
 obtain ⟨_,its,r,o,h1,h2,n,h3⟩:=(show AN P w H h a (.tup (ks.map kV)) from ok a _ e)
 exact ⟨o,its.toArray,n,h1,h2,h3,by simpa using Jc r⟩
theorem LL {kvs:List (List Key×V)} (ok:HOk P w H h) (e:Rd H a (.dT kvs)):kvs.length<=sizeLine/\(a == sysModules)=false /\
  ∃ xs,KT H kvs xs/\h.DictOfH (tupleKind (Bz P w)) a xs:=by
 obtain ⟨z,y,xs,r,o,es,ep,h1,h2,h3,h4,h5⟩:=(show AN P w H h a (.dT kvs) from OV ok e)
 refine ⟨z,y,xs,r,o,es,ep,h1,h2,h3,h4,fun x hx=>?_,h5⟩;have all:∀ {l:List (List Key×V)} {m:List (List Key×Addr×Value)},KT H l m->∀ x ∈ m,(tupleKind (Bz P w)).is h x.1 x.2.1:=by
  intro l m q;induction q with
  | nil=>intro x hx; exact nomatch hx
  | @cons p q ps qs hq t ih =>
   intro x hx;rcases List.mem_cons.mp hx with e | hx
   ·subst e;exact JO ok (by rw [<-hq.1]; exact hq.2.1)
   ·exact ih x hx
 exact all r x hx
theorem dt_of {kvs:List (List Key×V)} (ok:HOk P w H h) (e:H a=some (.dT kvs)):kvs.length<=sizeLine/\(a == sysModules)=false /\
  ∃ xs,KT H kvs xs/\h.DictOfH (tupleKind (Bz P w)) a xs:=LL ok (.inl e)
end
def MP (H:Hp) (a:Addr) (y:V) (r:Option V):Prop :=
 (∃ kvs k,Rd H a (.dK kvs)/\y=kV k/\r=De kvs k)\/∃ kvs k b,Rd H a (.dT kvs)/\y=.ref b/\H b=some (.tup (k.map kV))/\r=De kvs k
def Me (H:Hp) (a:Addr) (y v:V) (H':Hp):Prop :=
 (∃ kvs k,H a=some (.dK kvs)/\y=kV k/\kvs.length < sizeLine/\H'=upd H a (.dK (DY kvs k v))) \/
 ∃ kvs k b,H a=some (.dT kvs)/\y=.ref b/\H b=some (.tup (k.map kV))/\kvs.length < sizeLine/\H'=upd H a (.dT (DY kvs k v))
theorem Me.t {H:Hp} {a b:Addr} {kvs:List (List Key×V)} {k:List Key} {v:V} (e:H a=some (.dT kvs)) (eb:H b=some (.tup (k.map kV))) (hl:kvs.length < sizeLine) :
  Me H a (.ref b) v (upd H a (.dT (DY kvs k v))):=.inr ⟨kvs,k,b,e,rfl,eb,hl,rfl⟩
section
variable {X:Cx} {pins:List (Addr×Obj)} {σ:St} {H:Hp} {s:Shared} {a:Addr} {y v:V} {u r:Value} {o:Option V} {A:Around} {E:Value->Shared->Prop}
theorem Inv.big (I:Inv X pins σ H s):sysModules < s.heap.objs.size:=by
 have h:mainGlobals < s.heap.objs.size:=(I.mod.glob.keeps I.bk).lt;exact Nat.lt_trans (by decide) h
theorem Op {Q:Value->Shared->Prop} (hu:A.units+1 < cLine) (I:Inv X pins σ H s) (g:MP H a y (some v)) (ry:AM y u) (h:∀ w' s',Inv X pins σ H s'->AM v w'->Q w' s') :
  wpAny (model X.prog X.w) A (getItem (.ref a) u) Q E s:=by
 rcases g with ⟨kvs,k,e,ey,l⟩ | ⟨kvs,k,b,e,ey,eb,l⟩
 ·subst ey;obtain ⟨z,hd,vs,rel,dd⟩:=LM I.hok e;obtain ⟨w',hw,rw'⟩:=EC.some_of (v:=v) (o:=valueAt vs k) (by rw [l]; exact rel.val k);exact wpAny_getItem_of (Nr ry) dd.mapOf hw (h w' _ (I.tok _) rw')
 ·subst ey;cases (show u=Value.ref b from ry);obtain ⟨z,hd,xs,rel,dd⟩:=LL I.hok e;obtain ⟨w',hw,rw'⟩:=EC.some_of (v:=v) (o:=(atKey xs k).map (·.2)) (by rw [l]; exact rel.val k);obtain ⟨p,hp,hp2⟩:=Option.map_eq_some_iff.mp hw;refine wpAny_getItem_heap (tupleKind_room_in1 hu) (JO I.hok eb) dd hp ?_;rw [hp2];exact h w' _ (I.tok _) rw'
theorem FJ {h':Heap} {t':Nat} {ob:HO} (I:Inv X pins σ H s) (mu:Mut (H a)) (hs:Heap.SameBut a s.heap h') (he:∃ q,h'.get? a=some q) (new:AN X.prog X.w (upd H a ob) h' a ob) :
  Inv X pins σ (upd H a ob) { s with heap:=h',toks:=t' } :=
 I.write (x:=a) (e:=a) mu (.inl rfl) (fun b q hb z=>(hs.2 b hb).trans z) he new
theorem dk_new {P:Program} {w:World} {H':Hp} {h':Heap} {kvs:List (Key×V)} {vs:List (Key×Value)} (z:kvs.length<=sizeLine) (hd:(a == sysModules)=false) (rel:KV kvs vs) (dd:h'.DictOf (Bz P w) a vs) :
  AN P w H' h' a (.dK kvs):=⟨z,hd,vs,rel,dd⟩
theorem Oo {H':Hp} {Q:Unit->Shared->Prop} (hu:A.units+1 < cLine) (I:Inv X pins σ H s) (g:Me H a y v H') (ry:AM y u) (rv:AM v r) (h:∀ s',Inv X pins σ H' s'->Q () s') :
  wpAny (model X.prog X.w) A (setItem (.ref a) u r) Q E s:=by
 rcases g with ⟨kvs,k,e,ey,l,eH⟩ | ⟨kvs,k,b,e,ey,eb,l,eH⟩
 ·subst ey eH;obtain ⟨z,hd,vs,rel,dd⟩:=dk_of I.hok e;have hz:vs.length<=sizeLine:=by rw [<-rel.length]; exact z
  have hl:(DY kvs k v).length<=sizeLine:=by have:=Ea kvs k v; lia
  refine wpAny_setItem_pairs (hsz:=hz) (Nr ry) dd fun h' dd' hs=>h _ ?_;have he:∃ q,h'.get? a=some q:=let ⟨q,_,_,hq,_⟩:=dd'; ⟨q,hq⟩;exact FJ I (by rw [e]; exact True.intro) hs he (dk_new hl hd (rel.put k rv) dd')
 ·subst ey eH;cases (show u=Value.ref b from ry);obtain ⟨z,hd,xs,rel,dd⟩:=dt_of I.hok e;have hz:xs.length<=sizeLine:=by rw [<-Paired.length rel]; exact z
  have hl:(DY kvs k v).length<=sizeLine:=by have:=Ea kvs k v; lia
  refine wpAny_setItem_heap (hsz:=hz) (tupleKind_room_in1 hu) (JO I.hok eb) dd fun h' dd' hs=>h _ ?_;obtain ⟨q,es,ep,hq,h2,h3,h4,_,h5⟩:=dd';refine FJ I (by rw [e]; exact True.intro) hs ⟨q,hq⟩ ⟨hl,hd,_,(rel.put k eb rv).keeps fun c ys ec=>?_,q,es,ep,hq,h2,h3,h4,h5⟩;rw [Ak (Da ec e (fun z=>nomatch z))];exact ec
end
section
variable {X:Cx} {pins:List (Addr×Obj)} {σ:St} {H:Hp} {s:Shared} {a:Addr} {kvs:List (Key×V)} {k:Key} {u:Value} {A:Around} {E:Value->Shared->Prop}
end
def NoSl (i:Expr):Prop:=∀ ov iv,subscripted i false ov iv=operate [ov,iv] (getItem ov iv)
theorem subD_of {prog:Program} {w:World} {A:Around} {E:Value->Shared->Prop} {s:Shared} {env:Env} {value slice:Expr} {pos:Pos} {T id:String} {Q:Value->Shared->Prop}
  (hl:typeLookup (.type T) "__getitem__" = pure (some (.builtin id))) (hs:NoSl slice)
  (h:wpAny (model prog w) A (eval value env) (fun o s₁=>wpAny (model prog w) A (eval slice env) (fun i s₂=>s₂.TypeIs o T/\wpAny (model prog w) A (getItem o i) Q E s₂) E s₁) E s) :
  wpAny (model prog w) A (eval (.Subscript value slice pos) env) Q E s:=by
 refine Subscript_ (wpAny_mono h (fun o s₁ h₁=>wpAny_mono h₁ (fun i s₂ h₂=>?_) fun _ _ x=>x) fun _ _ x=>x);obtain ⟨hT,h₂⟩:=h₂;unfold subscriptTail;refine wpAny_bind ?_;rw [getitemInPython_of_ne hT.not_modules];refine wpAny_bind (wpAny_specialOf hT hl ?_);have fin:wpAny (model prog w) A (subscripted slice false o i) (fun r s₃=>wpAny (model prog w) A (letTemporaryGo value o r >>= fun _=>pure r) Q E s₃) E s₂:=by
  rw [hs o i];exact wpAny_operating (wpAny_mono h₂ (fun r s₃ h₃=>wpAny_bind (wpAny_letTemporaryGo (wpAny_pure h₃))) fun _ _ x=>x)
 first
  | exact wpAny_pure (wpAny_bind fin)
  | exact wpAny_bind (wpAny_pure (wpAny_bind fin))
  | exact wpAny_bind fin
theorem LN {X:Cx} {pins:List (Addr×Obj)} {σ:St} {H:Hp} {s:Shared} {a:Addr} {y:V} {o:Option V} (I:Inv X pins σ H s) (g:MP H a y o):s.TypeIs (.ref a) "dict" := by
 rcases g with ⟨kvs,k,e,_,_⟩ | ⟨kvs,k,b,e,_,_,_⟩
 ·obtain ⟨_,_,vs,_,dd⟩:=LM I.hok e;exact dd.typeIs
 ·obtain ⟨_,_,xs,_,dd⟩:=LL I.hok e;exact dd.typeIs
def tDGet (td ty:TE):TE:=fun σ H Q=>td σ H fun x H1=>ty σ H1 fun y H2=>∃ a v,x=.ref a/\MP H2 a y (some v)/\Q v H2
def sDPut (td ty tv:TE):TS:=fun D σ H=>tv σ H fun v H1=>td σ H1 fun x H2=>ty σ H2 fun y H3=>∃ a H4,x=.ref a/\Me H3 a y v H4/\D.nx σ H4
section
variable {X:Cx} {o i e value:Expr} {pos pos' tpos:Pos} {td ty tv:TE}
theorem pe_dget (hu:X.A.units+1 < cLine) (ho:PE X o td) (hi:PE X i ty) (hs:NoSl i):PE X (.Subscript o i pos) (tDGet td ty):=by
 intro pins s σ H Q I h;refine subD_of PySem.F.slot_dict_getitem.lookup hs (thn (ho pins s σ H _ I h) fun u s1 ⟨x,H1,I1,rx,q1⟩=>thn (hi pins s1 σ H1 _ I1 q1) fun iv s2 ⟨y,H2,I2,ry,a,v,ex,g,q2⟩=>?_);subst ex;obtain rfl:u=Value.ref a:=rx;exact ⟨LN I2 g,Op hu I2 g ry fun w' s3 I3 rw'=>⟨v,H2,I3,rw',q2⟩⟩
theorem Fu (hu:X.A.units+1 < cLine) (ho:PE X o td) (hi:PE X i ty) (hv:PE X value tv) (hs:swapsWith value (some (.Subscript o i pos')) pos.line X.env=pure false) :
  PS X (.Assign [.Subscript o i pos'] value pos) (sDPut td ty tv):=by
 intro pins s σ H D I h;refine wpAny_Assign_Subscript (thn (hv pins s σ H _ I h) fun r s1 ⟨v,H1,I1,rv,q1⟩=>thn (ho pins s1 σ H1 _ I1 q1) fun u s2 ⟨x,H2,I2,rx,q2⟩=>thn (hi pins s2 σ H2 _ I2 q2) fun iv s3 ⟨y,H3,I3,ry,a,H4,ex,g,q3⟩=>?_) hs;subst ex;obtain rfl:u=Value.ref a:=rx;exact Oo hu I3 g ry rv fun s4 I4=>⟨σ,H4,I4,q3⟩
end
theorem PR {P:Program} {w:World} {H:Hp} (h:Heap) (hb:sysModules < h.objs.size):AN P w H (h.push { cls:=.type "dict",data:=.dict #[] }) h.objs.size (.dT []) :=
 ⟨Nat.zero_le _,beq_eq_false_iff_ne.mpr (Ne.symm (Nat.ne_of_lt hb)),[],.nil,_,#[],0,Heap.get?_push_size _ rfl,⟨rfl,rfl,rfl⟩,rfl,rfl,List.nodup_nil⟩
def tDNewT:TE:=fun _ H Q=>∀ p,H p=none->Q (.ref p) (upd H p (.dT []))
section
variable {X:Cx} {pos:Pos}
theorem Fx:PE X (.Dict [] [] pos) tDNewT:=fun pins s σ H Q I h =>
 wpAny_Dict_empty ⟨.ref s.heap.objs.size,_,I.laid (a:=s.heap.objs.size) (o:=.dT []) (t':=s.toks) (fun _ _ q=>Heap.get?_push_of_some _ q) (Nat.le_refl _) (PR s.heap I.big),rfl,h _ (I.hok.fresh (Nat.le_refl _))⟩
end
structure M1 (X:Cx) (o:Expr) (m:Str) (apos:Pos) (e:Expr) (cpos:Pos):Prop where
 base:attributeBase o m X.env (eval o X.env)=eval o X.env
 few:((backTo cpos (starEach [e] X.env)).all (fun x=>!x.1) && (backToKw cpos (keywordEach [] X.env)).all (fun x=>x.1.isSome)
  && decide (([e]:List Expr).length+([]:List Keyword).length+(if ([]:List Keyword).isEmpty then 0 else 1) < 30))=true
 line:(apos.endLine == cpos.line)=true
 trees:backTo cpos (starEach [e] X.env)=[(false,eval e X.env)]
structure M2 (X:Cx) (o:Expr) (m:Str) (apos:Pos) (e f:Expr) (cpos:Pos):Prop where
 base:attributeBase o m X.env (eval o X.env)=eval o X.env
 few:((backTo cpos (starEach [e,f] X.env)).all (fun x=>!x.1) && (backToKw cpos (keywordEach [] X.env)).all (fun x=>x.1.isSome)
  && decide (([e,f]:List Expr).length+([]:List Keyword).length+(if ([]:List Keyword).isEmpty then 0 else 1) < 30))=true
 line:(apos.endLine == cpos.line)=true
 trees:backTo cpos (starEach [e,f] X.env)=[(false,eval e X.env),(false,eval f X.env)]
def IsD (H:Hp) (a:Addr):Prop:=(∃ kvs,Rd H a (.dK kvs))\/∃ kvs,Rd H a (.dT kvs)
theorem isD_at {X:Cx} {pins:List (Addr×Obj)} {σ:St} {H:Hp} {s:Shared} {a:Addr} (I:Inv X pins σ H s) (d:IsD H a) :
  s.TypeIs (.ref a) "dict" /\ (∀ b,Value.ref a=.ref b->∃ ob,s.heap.get? b=some ob/\ob.dict=none)/\(a == sysModules)=false:=by
 rcases d with ⟨kvs,e⟩ | ⟨kvs,e⟩
 ·obtain ⟨_,hd,vs,_,dd⟩:=LM I.hok e;refine ⟨dd.typeIs,fun b q=>?_,hd⟩;cases q;obtain ⟨ob,_,_,h1,h2,_⟩:=dd;exact ⟨ob,h1,h2.2.1⟩
 ·obtain ⟨_,hd,xs,_,dd⟩:=LL I.hok e;refine ⟨dd.typeIs,fun b q=>?_,hd⟩;cases q;obtain ⟨ob,_,_,h1,h2,_⟩:=dd;exact ⟨ob,h1,h2.2.1⟩
section
variable {X:Cx} {pins:List (Addr×Obj)} {σ:St} {H:Hp} {s:Shared} {a:Addr} {y d:V} {u r:Value} {o:Option V} {A:Around} {E:Value->Shared->Prop}
theorem d_get2 {Q:Value->Shared->Prop} (hu:A.units+1 < cLine) (I:Inv X pins σ H s) (g:MP H a y o) (ry:AM y u) (rd:AM d r) (h:∀ w' s',Inv X pins σ H s'->AM (o.getD d) w'->Q w' s') :
  wpAny (model X.prog X.w) A (call (.builtin "dict.get") [.ref a,u,r]) Q E s:=by
 rcases g with ⟨kvs,k,e,ey,l⟩ | ⟨kvs,k,b,e,ey,eb,l⟩
 ·subst ey;obtain ⟨z,hd,vs,rel,dd⟩:=LM I.hok e;refine call_meetsIn PySem.F.slot_dict_get dd.typeIs PySem.F.entry_dict_get (PySem.F.args_dict_get_3 _ _ _) (meets_dict_get_default (Bz X.prog X.w) a (Nr ry) hd r) ⟨_,dd.mapOf,h _ _ (I.tok _) ?_⟩;rw [l];exact (rel.val k).getD rd
 ·subst ey;cases (show u=Value.ref b from ry);obtain ⟨z,hd,xs,rel,dd⟩:=LL I.hok e;refine call_meetsIn PySem.F.slot_dict_get dd.typeIs PySem.F.entry_dict_get (PySem.F.args_dict_get_3 _ _ _) (meetsH_dict_get_default (tupleKind (Bz X.prog X.w)) a b hd r) ⟨tupleKind_room_in1 hu,k,xs,JO I.hok eb,dd,h _ _ (I.tok _) ?_⟩;rw [l];exact (rel.val k).getD rd
end
def tDGet2 (td ty tx:TE):TE:=fun σ H Q=>td σ H fun x H1=>∃ a,x=.ref a/\IsD H1 a/\ty σ H1 fun y H2=>tx σ H2 fun z H3=>∃ o,MP H3 a y o/\Q (o.getD z) H3
section
variable {X:Cx} {o e f:Expr} {apos cpos:Pos} {td ty tx:TE}
theorem Fy (hu:X.A.units+1 < cLine) (ho:PE X o td) (he:PE X e ty) (hf:PE X f tx) (m:M2 X o "get" apos e f cpos):PE X (.Call (.Attribute o "get" apos) [e,f] [] cpos) (tDGet2 td ty tx):=by
 intro pins s σ H Q I h;refine wpAny_Call_method m.base m.few m.line PySem.F.plainAttrs_dict PySem.F.slot_dict_get PySem.F.type_dict_get (thn (ho pins s σ H _ I h) fun u s1 ⟨x,H1,I1,rx,a,ex,d,q1⟩=>?_);subst ex;obtain rfl:u=Value.ref a:=rx;obtain ⟨t1,t2,_⟩:=isD_at I1 d;refine ⟨t1,t2,?_⟩;rw [m.trees];refine Calls.callWith_builtin rfl (Calls.evalArgs_plain (Calls.spliced_cons (thn (he pins s1 σ H1 _ I1 q1) fun iv s2 ⟨y,H2,I2,ry,q2⟩ =>
  Calls.spliced_cons (thn (hf pins s2 σ H2 _ I2 q2) fun fv s3 ⟨z,H3,I3,rz,ov,g,q3⟩=>Calls.spliced_nil ?_))))
 exact d_get2 hu I3 g ry rz fun w' s4 I4 rw'=>⟨_,H3,I4,rw',q3⟩
end
section
variable {X:Cx} {pins:List (Addr×Obj)} {σ:St} {H:Hp} {s:Shared} {a:Addr} {kvs:List (Key×V)} {A:Around} {E:Value->Shared->Prop}
end
section
variable {X:Cx} {pins:List (Addr×Obj)} {σ:St} {H:Hp} {s:Shared} {a:Addr} {y:V} {u:Value} {A:Around} {E:Value->Shared->Prop}
end
end L2
namespace L2
open PySem PySem.Spec PyProof.Rows
section
variable {X:Cx}
end
section
variable {κ:Type} [DecidableEq κ]
end
end L2
namespace L2
open PySem PySem.Spec PyProof.Rows
section
variable {P:Program} {w:World} {K:PySem.W.Frag} {mg:Str->Option Value} {base:Heap} {N:List Str} {qual:Str} {scope:Scope} {f:Addr} {cd:Value} {A:Around} {outer:List Env} {s:Shared} {H:Hp} {E:XK}
end
end L2
namespace L2
open PySem PySem.Spec PyProof.Rows
section
variable {X:Cx} {C:Addr} {x:Str} {np cpos pos:Pos} {e:Expr} {es:List Expr} {t:TA} {E:XK}
end
section
variable {X:Cx} {CX:CXT} {k:Nat} {f:Addr} {fd:FuncData} {ps:List Str} {sp:Sp} {dvs:List V} {ds:List Value} {E:XK} {x:Str} {p pos:Pos} {e:Expr} {es:List Expr} {t:TA} {S:St->Prop}
end
def isExc (a D:Addr):HO:=.ext fun h=>∃ o,h.get? a=some o/\o.cls=.ref D/\PySem.W.notCls o=true
theorem Inv.track {X:Cx} {pins:List (Addr×Obj)} {σ:St} {H:Hp} {s:Shared} {a:Addr} {o:HO} (I:Inv X pins σ H s) (ha:H a=none) (h0:X.s₀.heap.get? a=none) (hb:X.base.get? a=none) (hL:X.env.locals≠a) (hc:∀ x c,X.env.cells.lookup x=some c->c≠a)
  (hp:∀ p,p ∈ X.pn ++ pins->p.1≠a) (hs:∀ b,b ∈ X.fs->b≠a) (new:AN X.prog X.w (upd H a o) s.heap a o):Inv X pins σ (upd H a o) s:=by
 have ne:∀ b u,H b=some u->b≠a:=fun b u q z=>by rw [z,ha] at q; cases q
 refine ⟨I.ok,I.os,I.bare,⟨I.base.keep,I.base.slot,fun b u q n x=>?_,I.base.there,fun b xs q=>?_,fun b u v q=>?_,fun b ps q=>?_⟩,I.loc,I.cell,?_,fun x c q=>?_,fun p z=>?_,fun b u q=>?_,I.len⟩
 ·rw [Ak (fun z=>by rw [z,h0] at q; cases q)];exact I.base.free b u q n x
 ·have z:=I.base.tups b xs q;rw [Ak (ne _ _ z)]; exact z
 ·have z:=I.base.frzs b u v q;rw [Ak (ne _ _ z)]; exact z
 ·obtain ⟨m,z⟩:=I.base.tbls b ps q;exact ⟨m,by rw [Ak (ne _ _ z)]; exact z⟩
 ·rw [Ak hL]; exact I.free
 ·rw [Ak (hc x c q)]; exact I.freeC x c q
 ·obtain ⟨e,n,r⟩:=I.pin p z;exact ⟨e,by rw [Ak (hp p z)]; exact n,r⟩
 ·by_cases z:b=a
  ·subst z;rw [Ab] at q;cases q;exact new
  ·rw [Ak z] at q;exact (I.hok b u q).stay (fun c v _ r=>r) (fun c r=>by rw [Ak (ne _ _ r)]; exact r) fun c xs r=>by rw [Ak (ne _ _ r)]; exact r
end L2
namespace L2
open PySem PySem.Spec PyProof.Rows
section
variable {X:Cx} {C:Addr} {x n:Str} {np hpos pos:Pos} {i:Nat} {b₀:Stmt} {suite body:List Stmt} {S:St->Prop} {tb:XK->TS} {th:TS}
end
section
variable {P:Program} {w:World} {K:PySem.W.Frag} {mg:Str->Option Value} {base:Heap}
end
section
variable {X:Cx} {k:Nat} {f:Addr} {fd:FuncData} {ps:List Str} {sp:Sp} {x:Str} {p pos:Pos} {e:Expr} {es:List Expr} {t:TA}
end
end L2
namespace L2
open PySem PySem.Spec PyProof.Rows
section
variable {X:Cx} {tg:Expr}
def Its (x:Str):It:=⟨fun i _=>i < x.cps.size,fun i H v H'=>H'=H/\∃ c,x.cps[i]?=some c/\v=.str ⟨#[c]⟩,fun i _=>i=x.cps.size⟩
theorem Le {P:Program} {w:World} {K:PySem.W.Frag} (it:Addr) (x:Str) (t:Tok) (T:String) (hn:["enumerate","zip","dict_itemiterator","dict_reverseitemiterator","odict_iterator","itertools.zip_longest","itertools.pairwise"].contains T=false)
  (W:∀ A:Around,A.handled=none->Walks P w A it [it] [it] x.cps.size (SignAt x) (fun i h=>h.IsStrIter it T x t i))
  (hself:∀ (A:Around) (i:Nat) (s:Shared) (Q:Value->Shared->Prop) (E:Value->Shared->Prop),s.heap.IsStrIter it T x t i->Q (.ref it) s->wpAny (model P w) A (pyIter (.ref it)) Q E s):IL P w K tg (Its x) [it] it (fun i h=>h.IsStrIter it T x t i) where
 mem:=by simp
 obj:=fun i h st b hb=>by
  have e:b=it:=by simpa using hb
  subst e;obtain ⟨o,e,c,d⟩:=st;exact ⟨o,e,fun v z=>by rw [d] at z; cases z⟩
 keep:=fun i h h' ⟨o,e,r⟩ k=>⟨o,k it (by simp) o e,r⟩
 item:=by
  intro X hP hw hK hc i pins s σ H E I hf st hg;subst hP hw hK;obtain ⟨f0,f1,f2,f3,f4,f5⟩:=hf it (by simp);refine (W X.A (I.ok.hd hc)).item i s _ _ hg st fun v h' tk hv st' kk=>?_;obtain ⟨c,u,hc',rfl⟩:=hv;have I1:Inv X pins σ H { s with heap:=h',toks:=tk }:=I.turned (fun b o hb e=>kk b o (by simpa using hb) e) f0 f1 f3 f4 f5;obtain ⟨o,e,oc,od⟩:=id st';exact ⟨_,rfl,LH (s:={ s with heap:=h',toks:=tk }) e oc od hn ⟨.str ⟨#[c]⟩,H,I1,⟨u,rfl⟩,⟨rfl,c,hc',rfl⟩,st',fun b hb=>(hf b hb).1⟩⟩
 done:=by
  intro X hP hw hK hc i pins s σ H E I hf st hg;subst hP hw hK;obtain ⟨f0,f1,f2,f3,f4,f5⟩:=hf it (by simp);have z:i=x.cps.size:=hg;subst z;exact (W X.A (I.ok.hd hc)).done s _ _ st fun h' tk kk=>⟨rfl,I.turned (fun b o hb e=>kk b o (by simpa using hb) e) f0 f1 f3 f4 f5⟩
 self:=hself
def iStr (tl:TE):TI:=fun σ H R=>tl σ H fun v H1=>∃ x,v=.str x/\R (Its x) H1
theorem OZ {l:Expr} {tl:TE} (hl:PE X l tl):PI X tg l (iStr tl):=by
 intro pins s σ H R I h;refine thn (hl pins s σ H _ I h) fun v s1 ⟨y,H1,I1,r1,q1⟩=>?_;obtain ⟨x,rfl,q⟩:=q1;obtain ⟨t,rfl⟩:=r1;have fp:∀ b,b ∈ [s1.heap.objs.size]->Dd X pins H1 b:=fun b hb=>by
  have e:b=s1.heap.objs.size:=by simpa using hb
  subst e;exact I1.fpOk (Nat.le_refl _) (I1.hok.fresh (Nat.le_refl _))
 cases ha:x.cps.all (· < 128) with
 | true =>
  refine wpAny_pyIter_ascii ha ?_;refine ⟨s1.heap.objs.size,[s1.heap.objs.size],_,_,H1,rfl,I1.kept (t':=s1.toks) fun b o e=>Heap.get?_push_of_some _ e,Le _ x t "str_ascii_iterator" (by decide) (fun A hA=>Walks.strAscii hA _ x t) (fun _ _ _ _ _ st h=>wpAny_pyIter_striter_ascii st h),⟨_,Heap.get?_push_size _ rfl,rfl,rfl⟩,fp,q⟩
 | false =>
  refine wpAny_pyIter_wide ha ?_;refine ⟨s1.heap.objs.size,[s1.heap.objs.size],_,_,H1,rfl,I1.kept (t':=s1.toks) fun b o e=>Heap.get?_push_of_some _ e,Le _ x t "str_iterator" (by decide) (fun A hA=>Walks.strWide hA _ x t) (fun _ _ _ _ _ st h=>wpAny_pyIter_striter_wide st h),⟨_,Heap.get?_push_size _ rfl,rfl,rfl⟩,fp,q⟩
theorem for_str {x:Str} {g:TG} {tb:TS} {D:Iz} {σ:St} {H:Hp} (Pv:Nat->St->Hp->Prop) (h0:Pv 0 σ H)
  (hs:∀ i c σ H,x.cps[i]?=some c->Pv i σ H->g (.str ⟨#[c]⟩) σ H fun σ2 H2=>tb { D with nx:=Pv (i+1),ct:=Pv (i+1),bk:=D.nx } σ2 H2) (hd:∀ σ H,Pv x.cps.size σ H->D.nx σ H) :
  ∃ W:Nat->Nat->St->Hp->Prop,(∃ m,W 0 m σ H)/\∀ i m σ H,W i m σ H ->
   ((Its x).stop i H/\D.nx σ H)\/((Its x).go i H/\∃ N:St->Hp->Prop,(∀ σ' H',N σ' H'->∃ m',m' < m/\W (i+1) m' σ' H')/\∀ v H',(Its x).yld i H v H'->g v σ H' fun σ2 H2=>tb { D with nx:=N,ct:=N,bk:=D.nx } σ2 H2):=by
 refine ⟨fun i m σ H=>m=x.cps.size - i/\i<=x.cps.size/\Pv i σ H,⟨x.cps.size,by simp,Nat.zero_le _,h0⟩,?_⟩;rintro i m σ H ⟨rfl,hi,p⟩;by_cases hlt:i < x.cps.size
 ·refine .inr ⟨hlt,Pv (i+1),fun σ' H' p'=>⟨x.cps.size - (i+1),by lia,rfl,hlt,p'⟩,fun v H' y=>?_⟩;obtain ⟨e,c,hc,rfl⟩:=y;subst e;exact hs i c σ _ hc p
 ·have e:i=x.cps.size:=by lia
  subst e;exact .inl ⟨rfl,hd σ H p⟩
theorem Eh:EG X (.type "int") (fun xs H Q=>∃ x n,xs=[.str x]/\PySem.intText? x=some n/\x.length<=640/\Q (.int n) H):=by
 intro pins s σ H xs us Q I r h;obtain ⟨x,n,rfl,hn,hl,q⟩:=h;cases r with
 | cons r1 r2 =>
  cases r2;obtain ⟨t,rfl⟩:=r1;exact PySem.W.KIN.call_text hn hl ⟨.int n,H,I.tok _,⟨_,rfl⟩,q⟩
theorem LV (hc:X.calm=true):EG X (.builtin "all") (fun xs H Q=>∃ (p:Addr) (bs:List Bool),xs=[.ref p]/\SqL X.K H p (bs.map V.bl)/\Q (.bl (bs.all id)) H):=by
 intro pins s σ H xs us Q I r h;obtain ⟨p,bs,rfl,hq,q⟩:=h;cases r with
 | cons r1 r2 =>
  cases r2;cases (show _=Value.ref p from r1);obtain ⟨its,rv,pl,hz⟩:=I.list hq;have hne:p≠s.heap.objs.size:=Nat.ne_of_lt (by obtain ⟨o,n,e,_⟩:=pl; exact Heap.lt_size e);refine call_all_walk (wpAny_pyIter_list pl.isList ?_);have vals:∀ (i:Nat) v,its[i]?=some v->∃ b,bs[i]?=some b/\v=.bool b:=fun i v e=>by
   cases eb:bs[i]? with
   | none =>
    have:its[i]?=none:=rv.none_of (by rw [List.getElem?_map,eb]; rfl);rw [e] at this;cases this
   | some b =>
    obtain ⟨u,hu,ru⟩:=rv.get (i:=i) (x:=V.bl b) (by rw [List.getElem?_map,eb]; rfl);rw [e] at hu;cases hu;exact ⟨b,rfl,ru⟩
  refine ⟨s.heap.objs.size,_,_,_,_,_,fun i=>bs.getD i true,rfl,Walks.list (A:=X.A.in1) (I.ok.hd hc) s.heap.objs.size p hne its.toArray,⟨⟨_,Heap.get?_push_size _ rfl,rfl,rfl⟩,?_⟩,?_,?_⟩
  ·exact pl.isList.at fun o e=>Heap.get?_push_of_some _ e
  ·intro i v s2 Q2 E2 hP hQ;obtain ⟨b,eb,rfl⟩:=vals i v (by simpa using hP);have e2:bs.getD i true=b:=by rw [List.getD_eq_getElem?_getD,eb]; rfl
   have hQ:Q2 (bs.getD i true) s2:=hQ;rw [e2] at hQ;exact wpAny_truthy_bool hQ
  ·intro h' tk kk;have I2:Inv X pins σ H { s with heap:=h',toks:=tk }:=I.kept fun b o e=>kk b o (by intro z; exact Nat.ne_of_lt (Heap.lt_size e) (by simpa using z)) (Heap.get?_push_of_some _ e);have len:its.toArray.size=bs.length:=by rw [List.size_toArray,<-rv.length,List.length_map]
   have e3:(List.range its.toArray.size).all (fun i=>bs.getD i true)=bs.all id:=by
    rw [len,Bool.eq_iff_iff,List.all_eq_true,List.all_eq_true];constructor
    ·intro z b hb;obtain ⟨i,hi,e⟩:=List.mem_iff_getElem.mp hb;have:=z i (List.mem_range.mpr hi);rw [List.getD_eq_getElem?_getD,List.getElem?_eq_getElem hi,e] at this;exact this
    ·intro z i hi;have hi':=List.mem_range.mp hi;rw [List.getD_eq_getElem?_getD,List.getElem?_eq_getElem hi'];exact z _ (List.getElem_mem hi')
   rw [e3];exact ⟨.bl _,H,I2,rfl,q⟩
end
end L2
namespace L2
open PySem PySem.Spec PyProof.Rows
section
variable {X:Cx} {iter:Expr} {ti:TE} {x G:Str} {px px1 px2 cpos pos:Pos} {scope:Scope} {g:Str}
end
structure Qf (K:PySem.W.Frag) (D:Addr):Prop where
 hd:PySem.W.hasDictIn K D=true
 ga:PySem.W.findIn K (.ref D) "__getattribute__" = some (some (.builtin "BaseException.__getattribute__"))
 gt:PySem.W.findIn K (.ref D) "__getattr__" = some none
 cl:PySem.W.findIn K (.ref D) "__class__" = some (some (.builtin "object.__class__"))
 sp:PySem.W.specialIn K (.builtin "object.__class__") "__get__" = some (some (.builtin "getset_descriptor.__get__"))
 tk:PySem.W.takesIn K (.builtin "object.__class__")=some true
 mo:PySem.W.mroIn K D (.type "object")=some true
 mb:PySem.W.mroIn K D (.type "BaseException")=some true
section
variable {K:PySem.W.Frag} {prog:Program} {w:World} {A:Around} {E:Value->Shared->Prop} {s:Shared} {a D:Addr} {o:Obj}
open PySem.W Builtin Builtin.ObjectAttr Builtin.Getset_descriptor
theorem PP {M:Model} {h:Heap} (X:K.In h) (f:Qf K D):Looks M h (find (.ref a) (.ref D) "__class__") (.bind (.builtin "getset_descriptor.__get__") (.builtin "object.__class__")) :=
 (looks_findIn X f.cl).andThen ((looks_specialIn X f.sp).andThen ((show Looks M h (dataDescriptor? (some (.builtin "object.__class__")) (some (.builtin "getset_descriptor.__get__"))) (some (.builtin "getset_descriptor.__get__",.builtin "object.__class__")) from (looks_takesIn X f.tk).andThen .now).andThen (Looks.tag .now)))
theorem exc_get {R:Result->Shared->Prop} {tp:Value} (X:K.In s.heap) (f:Qf K D) (he:s.heap.get? a=some o) (hc:o.cls=.ref D) (hq:R (.ok (.ret (.ref D))) s) :
  codeAny (model prog w) A (.call (.builtin "getset_descriptor.__get__") ⟨[.builtin "object.__class__",.ref a,tp],[]⟩) R s:=by
 obtain ⟨h,g,d,t,os⟩:=s;have L0:Looks (model prog w) h (typeOf (.ref a)) (.ref D):=hc ▸ (Looks.ld he).andThen .now;have L1:=looks_mroIn (M:=model prog w) X f.mo;refine codeAny_call_builtin KF.slot_gs.plain KF.entry_gs (KF.slot_gs.check _ _ _ _ _ _ _ _ KF.type_class (KF.args_gs _ _ _) ?_);unfold Builtin.«getset_descriptor.__get__» descrGet;rw [dga_obj];refine wpAny_bind (wpAny_pure ?_);unfold descrGetter descrCheckInstance descrNameAndClass isInstance;simp only [KF.owner_class]
 repeat lk
 refine ⟨Code.quiet_builtin _ (by decide +kernel),codeAny_builtin KF.entry_class ?_⟩;unfold Builtin.«object.__class__» shownTypeOf
 repeat lk
 exact hq
theorem Om {Q:Option Value->Shared->Prop} (X:K.In s.heap) (f:Qf K D) (he:s.heap.get? a=some o) (hc:o.cls=.ref D) (hq:Q (some (.ref D)) { s with toks:=s.toks+1 }) :
  wpAny (model prog w) A (getAttr? (.ref a) "__class__") Q E s:=by
 obtain ⟨h,g,d,t,os⟩:=s;have L0:Looks (model prog w) h (typeOf (.ref a)) (.ref D):=hc ▸ (Looks.ld he).andThen .now;have L1:=looks_findIn (M:=model prog w) X f.ga;have L2:=looks_findIn (M:=model prog w) X f.gt;have L3:=PP (M:=model prog w) (a:=a) X f;have L4:Looks (model prog w) h (isInstance (.ref a) (.type "BaseException")) true:=L0.andThen (looks_mroIn X f.mb);unfold getAttr? getAttrBy? getAttrBy;refine wpAny_bind (wpAny_mkText (wpAny_bind (wpAny_attempt (wpAny_holding (wpAny_bind (L0.at (wpAny_bind (L1.at ?_))))))));dsimp only;have n0:(Value.builtin "BaseException.__getattribute__" == Value.builtin "object.__getattribute__")=false:=by decide +kernel
 rw [if_neg (by rw [n0,Bool.and_false]; exact Bool.false_ne_true)];unfold getAttrByItsOwn hookBefore;rw [if_pos (by rfl)];refine wpAny_bind (L2.at ?_);refine wpAny_bind (wpAny_attempt (wpAny_holding ?_));unfold callGetattribute;rw [if_neg (by decide)];unfold boundAndCalled;refine wpAny_bind (wpAny_of_eq (PySem.F.excAttr_ValueError.ga.bind (.ref a)) ?_);dsimp only;refine wpAny_call (codeAny_call_builtin PySem.F.excAttr_ValueError.ga.plain PySem.F.entry_bexc_ga ?_);have hk:builtinKind "BaseException.__getattribute__" = some .slot:=by decide +kernel
 have hsp:splitId "BaseException.__getattribute__" = some ("BaseException","__getattribute__"):=by decide +kernel
 have har:=PySem.F.args_bexc_ga (.ref a) (.str "__class__" t);simp only [checkBuiltinCall,hk,hsp];refine wpAny_bind (L4.at ?_);rw [if_neg (by decide)];refine wpAny_of_eq (a:=()) har ?_;unfold Builtin.«object.__getattribute__»;dsimp only at L3
 repeat ((fail_if_success (with_reducible show wpAny _ _ (call _ _) _ _ _)); lk)
 refine wpAny_call (exc_get (s:=⟨h,g,d,t+1,os⟩) X f he hc ?_);dsimp only
 repeat lk
 exact hq
end
end L2
namespace L2
open PySem PySem.Spec PyProof.Rows
inductive TyX (K:PySem.W.Frag) (H:Hp):V->Value->Prop where
 | of {x:V} {t:Value} (h:Ga K H x t):TyX K H x t
 | exc {a D:Addr} (e:H a=some (isExc a D)) (f:Qf K D):TyX K H (.ref a) (.ref D)
theorem Py {K:PySem.W.Frag} {a D:Addr} (f:Qf K D):PySem.W.KitX K (.ref a) (.ref D) (fun h=>∃ o,h.get? a=some o/\o.cls=.ref D/\PySem.W.notCls o=true) where
 ty:=fun M h X ⟨o,e,c,_⟩=>c ▸ (PySem.W.Looks.ld e).andThen .now
 it:=fun M h X _=>by
  obtain ⟨cd,hc,_⟩:=PySem.W.any_some f.hd;unfold PySem.W.clsIn at hc;split at hc
  ·rename_i c' d' cd' sl' ho;intro A' Q' E' s' k q;unfold isType loadHead;exact wpAny_bind (wpAny_loadPart (k _ _ (X _ _ ho)) (wpAny_pure q))
  ·cases hc
 ne:=fun h tp dd its n sl X htp=>by
  obtain ⟨cd,hc,_⟩:=PySem.W.any_some f.hd;refine Bool.eq_false_iff.mpr fun q=>?_;have e:D=tp:=Value.ref.inj (beq_iff_eq.mp q);subst e;unfold PySem.W.clsIn at hc;split at hc
  ·rename_i c' d' cd' sl' ho;have z:=(X _ _ ho).symm.trans htp;cases z
  ·cases hc
 ca:=fun X ⟨o,e,c,_⟩ k=>Om X f e c k
def clsV:V->Option Value
 | .ty n=>some (.type n)
 | .ref C=>some (.ref C)
 | _=>none
theorem En {X:Cx}:EG X (.builtin "isinstance") (fun xs H Q=>∃ x c cv t b,xs=[x,c]/\clsV c=some cv/\TyX X.K H x t/\PySem.W.kitOne X.K t cv=some b/\Q (.bl b) H):=by
 intro pins s σ H xs us Q I r h;obtain ⟨x,c,cv,t,b,rfl,hc,ty,hk,q⟩:=h;cases r with
 | @cons _ u _ _ rx rr =>
  cases rr with
  | @cons _ v _ _ rc rn =>
   cases rn;have ev:v=cv:=by
    cases c with
    | ty n=>cases hc; exact rc
    | ref C=>cases hc; exact rc
    | _=>cases hc
   subst ev;cases ty with
   | of ty=>exact Oe I rx ty hk fun tk=>⟨.bl b,H,I.tok tk,rfl,q⟩
   | @exc a D e f =>
    cases (show u=Value.ref a from rx);obtain ⟨p,_,_⟩:=(show AN X.prog X.w H s.heap a (isExc a D) from I.hok a _ e)
    exact PySem.W.kia_one (Py f) I.kIn p hk (fun z=>nomatch z) fun tk=>⟨.bl b,H,I.tok tk,rfl,q⟩
section
variable {X:Cx} {c:Expr} {a b:List Stmt} {tc:TT} {t u:TS} {pos:Pos}
def tIfJ (J:St->Hp->Prop) (tc:TT) (t u:TS):TS:=fun D σ H=>(tc σ H fun b H1=>if b=true then t { D with nx:=J } σ H1 else u { D with nx:=J } σ H1)/\∀ σ' H',J σ' H'->D.nx σ' H'
theorem SP.nx {pins:List (Addr×Obj)} {D:Iz} {J:St->Hp->Prop} {f:Flow} {s:Shared} (k:∀ σ' H',J σ' H'->D.nx σ' H') (h:SP X pins { D with nx:=J } f s):SP X pins D f s:=by
 cases f with
 | next=>obtain ⟨σ',H',I,q⟩:=h; exact ⟨σ',H',I,k _ _ q⟩
 | brk=>exact h
 | cont=>exact h
 | ret v=>exact h
theorem ps_ifJ (J:St->Hp->Prop) (hc:PT X c tc) (ha:PSs X a t) (hb:PSs X b u):PS X (.If c a b pos) (tIfJ J tc t u):=by
 intro pins s σ H D I h;obtain ⟨h,k⟩:=h;refine wpAny_If (thn (hc pins s σ H _ I h) fun d s1 ⟨H1,I1,q1⟩=>?_);cases d with
 | true=>exact thn (ha pins s1 σ H1 _ I1 q1) fun f s2 q=>q.nx k
 | false=>exact thn (hb pins s1 σ H1 _ I1 q1) fun f s2 q=>q.nx k
end
end L2
namespace L2
open PySem PySem.Spec PyProof.Rows
def Eg (env:Env) (a:List (Str×Addr)) (x:Str×NameKind):List (Str×Addr):=if (x.2 == NameKind.free)=true then (x.1,(env.cells.lookup x.1).getD 0) :: a else a
def MN (env:Env) (l:List (Str×NameKind)):List (Str×Addr):=l.foldl (Eg env) []
theorem ML {α β:Type} {l:List α} {f:α->β->Sem (ForInStep β)} {g:β->α->β} (h:∀ x ∈ l,∀ b,f x b=pure (.yield (g b x))):∀ b,forIn l b f=pure (l.foldl g b):=by
 induction l with
 | nil=>intro b; rfl
 | cons x l ih =>
  intro b;rw [List.forIn_cons,h x List.mem_cons_self,pure_bind];exact ih (fun y hy=>h y (List.mem_cons_of_mem _ hy)) _
theorem Iw {scope:Scope} {env:Env} (h:∀ y ∈ scope.names,y.2=.free->∃ c,env.cells.lookup y.1=some c):closureFor scope env=pure (MN env scope.names):=by
 simp only [closureFor];rw [ML (g:=Eg env) (fun x hx c=>by
  obtain ⟨n,k⟩:=x;by_cases hk:k=.free
  ·subst hk;obtain ⟨a,ha⟩:=h _ hx rfl;have e:cellOf env n=pure a:=by unfold cellOf; rw [show env.cells.lookup n=some a from ha]
   simp only [Eg,beq_self_eq_true,if_true,e,show env.cells.lookup n=some a from ha,Option.getD_some];rfl
  ·have hb:(k == NameKind.free)=false:=by simpa using hk
   simp only [Eg,hb,Bool.false_eq_true,if_false])]
 rfl
theorem Jl (env:Env) {y:Str} {c:Addr}:∀ (l:List (Str×NameKind)) (a:List (Str×Addr)),(l.foldl (Eg env) a).lookup y=some c->a.lookup y=some c\/((y,NameKind.free) ∈ l/\c=(env.cells.lookup y).getD 0)
 | [],a,h=>.inl h
 | (n,k) :: r,a,h=>by
  rw [List.foldl_cons] at h;rcases Jl env r _ h with z | ⟨z,e⟩
  ·unfold Eg at z;split at z
   ·rename_i hk;have hk':k=.free:=by simpa using hk
    rw [List.lookup_cons] at z;split at z
    ·rename_i hy;have hy':y=n:=by simpa using hy
     subst hy' hk';exact .inr ⟨List.mem_cons_self,(Option.some.inj z).symm⟩
    ·exact .inl z
   ·exact .inl z
  ·exact .inr ⟨List.mem_cons_of_mem _ z,e⟩
theorem LT (env:Env) {y:Str}:∀ (l:List (Str×NameKind)) (a:List (Str×Addr)),(∃ c,a.lookup y=some c)->∃ c,(l.foldl (Eg env) a).lookup y=some c
 | [],_,h=>h
 | (n,k) :: r,a,h=>by
  rw [List.foldl_cons];refine LT env r _ ?_;unfold Eg;split
  ·rw [List.lookup_cons];split
   ·exact ⟨_,rfl⟩
   ·exact h
  ·exact h
theorem MM (env:Env) {y:Str}:∀ (l:List (Str×NameKind)) (a:List (Str×Addr)),(y,NameKind.free) ∈ l->∃ c,(l.foldl (Eg env) a).lookup y=some c
 | [],_,h=>by simp at h
 | (n,k) :: r,a,h=>by
  rw [List.foldl_cons];rcases List.mem_cons.mp h with e | h
  ·cases e;refine LT env r _ ⟨(env.cells.lookup y).getD 0,?_⟩;unfold Eg;simp only [beq_self_eq_true,if_true,List.lookup_cons]
  ·exact MM env r _ h
theorem GS {env:Env} {y:Str}:∀ {names:List (Str×NameKind)},(∀ z ∈ names,z.2≠.cell) ->
  ((names.map fun (n,k)=>if (k == NameKind.free && env.scope.kind == .function && env.kindOf n == some .cell) then (n,NameKind.cell) else (n,k)).lookup y=some .cell \/
   (names.map fun (n,k)=>if (k == NameKind.free && env.scope.kind == .function && env.kindOf n == some .cell) then (n,NameKind.cell) else (n,k)).lookup y=some .free)->(y,NameKind.free) ∈ names
 | [],_,h=>by simp at h
 | (n,k) :: r,hc,h=>by
  have ih:=@GS env y r (fun z hz=>hc z (List.mem_cons_of_mem _ hz));have h':List.lookup y ((if (k == NameKind.free && env.scope.kind == .function && env.kindOf n == some .cell)=true then (n,NameKind.cell) else (n,k)) :: (r.map fun (n,k)=>if (k == NameKind.free && env.scope.kind == .function && env.kindOf n == some .cell) then (n,NameKind.cell) else (n,k)))=some .cell \/
   List.lookup y ((if (k == NameKind.free && env.scope.kind == .function && env.kindOf n == some .cell)=true then (n,NameKind.cell) else (n,k)) :: (r.map fun (n,k)=>if (k == NameKind.free && env.scope.kind == .function && env.kindOf n == some .cell) then (n,NameKind.cell) else (n,k)))=some .free:=h
  clear h;by_cases hb:(k == NameKind.free && env.scope.kind == .function && env.kindOf n == some .cell)=true
  ·rw [if_pos hb] at h';have hk:k=.free:=by
    simp only [Bool.and_eq_true,beq_iff_eq] at hb;exact hb.1.1
   simp only [List.lookup_cons] at h';cases hy:y == n with
   | true =>
    have:y=n:=by simpa using hy
    subst this hk;exact List.mem_cons_self
   | false =>
    rw [hy] at h';exact List.mem_cons_of_mem _ (ih h')
  ·rw [if_neg hb] at h';simp only [List.lookup_cons] at h';cases hy:y == n with
   | true =>
    rw [hy] at h';have:y=n:=by simpa using hy
    subst this;rcases h' with z | z
    ·exact absurd (Option.some.inj z) (hc (y,k) List.mem_cons_self)
    ·cases Option.some.inj z;exact List.mem_cons_self
   | false =>
    rw [hy] at h';exact List.mem_cons_of_mem _ (ih h')
theorem Fs {env:Env} {y:Str}:∀ {names:List (Str×NameKind)},names.lookup y=some .free ->
  ((names.map fun (n,k)=>if (k == NameKind.free && env.scope.kind == .function && env.kindOf n == some .cell) then (n,NameKind.cell) else (n,k)).lookup y=some .cell \/
   (names.map fun (n,k)=>if (k == NameKind.free && env.scope.kind == .function && env.kindOf n == some .cell) then (n,NameKind.cell) else (n,k)).lookup y=some .free)
 | [],h=>by simp at h
 | (n,k) :: r,h=>by
  have ih:=@Fs env y r;show List.lookup y ((if (k == NameKind.free && env.scope.kind == .function && env.kindOf n == some .cell)=true then (n,NameKind.cell) else (n,k)) :: (r.map fun (n,k)=>if (k == NameKind.free && env.scope.kind == .function && env.kindOf n == some .cell) then (n,NameKind.cell) else (n,k)))=some .cell \/
   List.lookup y ((if (k == NameKind.free && env.scope.kind == .function && env.kindOf n == some .cell)=true then (n,NameKind.cell) else (n,k)) :: (r.map fun (n,k)=>if (k == NameKind.free && env.scope.kind == .function && env.kindOf n == some .cell) then (n,NameKind.cell) else (n,k)))=some .free
  rw [List.lookup_cons] at h;by_cases hb:(k == NameKind.free && env.scope.kind == .function && env.kindOf n == some .cell)=true
  ·rw [if_pos hb];simp only [List.lookup_cons];cases hy:y == n with
   | true=>exact .inl rfl
   | false=>rw [hy] at h; exact ih h
  ·rw [if_neg hb];simp only [List.lookup_cons];cases hy:y == n with
   | true=>rw [hy] at h; exact .inr h
   | false=>rw [hy] at h; exact ih h
section
variable {prog:Program} {w:World} {A:Around} {R:Result->Shared->Prop} {s:Shared}
abbrev MV (ifs:List Expr) (env:Env):Sem Bool:=forIn ifs true fun c r=>if r=true then do let ok <-isTrue c env (eval c env); pure (ForInStep.yield ok) else pure (ForInStep.yield r)
theorem LQ {elt target iter:Expr} {ifs:List Expr} {scope:Scope} {pos:Pos} {it acc:Value} {env:Env} (I:Nat->Shared->Prop)
  (turn:∀ n s,I n s->wpAny (model prog w) A (pyNext it) (fun r s₁=>match r with
   | none=>R (.ok .next) s₁
   | some v=>wpAny (model prog w) A (letOwnedTupleGo target it v) (fun _ s₀=>wpAny (model prog w) A (assign target env v) (fun _ s₂ =>
     wpAny (model prog w) A (MV ifs env) (fun ok s₃ =>
      if ok=true then wpAny (model prog w) A (eval elt env) (fun x s₄ =>
       wpAny (model prog w) A (call (.builtin "list.append") [acc,x]) (fun _ s₅=>∃ m,m < n/\I m s₅) (fun _ _=>False) s₄) (fun _ _=>False) s₃
      else ∃ m,m < n/\I m s₃) (fun _ _=>False) s₂) (fun _ _=>False) s₀) (fun _ _=>False) s₁) (fun _ _=>False) s)
  (n:Nat) (h:I n s):codeAny (model prog w) A (.compLoop (.ListComp elt [⟨target,iter,ifs,0⟩] scope pos) 0 it acc env) R s:=by
 refine codeAny_loop rfl I (fun n s hI=>?_) n h;show wpAny _ A ((compTurn (.ListComp elt [⟨target,iter,ifs,0⟩] scope pos) 0 it acc env).onRaise (fun x=>do noteFrame x env; theTreesLotGoes x)) _ _ s;refine wpAny_noted ?_;rw [compTurn_list];refine wpAny_bind (wpAny_standAt (wpAny_bind (wpAny_mono (turn n s hI) (fun r s₁ h₁=>?_) fun _ _ h'=>h'.elim)));cases r with
 | none=>exact wpAny_pure h₁
 | some v =>
  refine wpAny_bind (wpAny_mono h₁ (fun _ s₀ h₀=>?_) fun _ _ h'=>h'.elim);refine wpAny_bind (wpAny_mono h₀ (fun _ s₂ h₂=>wpAny_bind (wpAny_mono h₂ (fun ok s₃ h₃=>?_) fun _ _ h'=>h'.elim)) fun _ _ h'=>h'.elim);cases ok with
  | false=>exact wpAny_pure ⟨rfl,h₃⟩
  | true =>
   exact wpAny_bind (wpAny_bind (wpAny_mono h₃ (fun x s₄ h₄=>wpAny_bind (wpAny_mono h₄ (fun _ s₅ h₅=>wpAny_pure (wpAny_pure ⟨rfl,h₅⟩)) fun _ _ h'=>h'.elim)) fun _ _ h'=>h'.elim))
end
def Gv (cs:List Nat) (σ:St):St:=cs.map fun j=>(σ[j]?).getD none
def cxC (X:Cx) (scope:Scope) (N:List Str) (s:Shared) (H:Hp) (ex:List Addr):Cx :=
 { X with N:=N,s₀:=s,H₀:=H,env:=compEnvC scope (MN X.env scope.names) s.heap.objs.size X.env,outer:=X.stack,stack:=X.stack,ex:=ex,fn:=fun _=>false,pn:=[],xe:=fun _ _=>False }
def PTs (X:Cx) (ifs:List Expr) (t:TT):Prop :=
 ∀ (pins:List (Addr×Obj)) (s:Shared) (σ:St) (H:Hp) (Q:Bool->Hp->Prop),Inv X pins σ H s->t σ H Q->wpAny (model X.prog X.w) X.A (MV ifs X.env) (TP X pins σ Q) X.xe s
def tYes:TT:=fun _ H Q=>Q true H
theorem Dg {X:Cx}:PTs X [] tYes:=fun _ _ _ H _ I h=>wpAny_tests_nil ⟨H,I,h⟩
theorem pts_one {X:Cx} {c:Expr} {t:TT} (h:PT X c t):PTs X [c] t:=fun pins s σ H Q I q=>wpAny_tests_one (h pins s σ H Q I q)
structure BU (X:Cx) (scope:Scope) (N:List Str) (k:Nat) (cs:List Nat):Prop where
 cell:∀ y ∈ scope.names,y.2≠.cell
 kind:scope.kind=.function
 names:∀ y ∈ scope.names,y.2=.local->scope.names.lookup y.1=some .local
 free:∀ y ∈ scope.names,y.2=.free->X.env.scope.names.lookup y.1=some .cell\/X.env.scope.names.lookup y.1=some .free
 len:N.length=k+cs.length
 cap:∀ j,j < cs.length->∃ x,N[k+j]?=some x/\X.N[cs.getD j 0]?=some x/\scope.names.lookup x=some .free
def Ec (k:Nat) (cs:List Nat) (g:TG) (tc:TT) (te:TE) (J:It) (σ:St) (H1:Hp) (fin:List V->Hp->Prop):Prop :=
 ∃ W:Nat->Nat->List V->Hp->Prop,(∃ m,W 0 m [] H1)/\∀ i m acc H,W i m acc H ->
  (J.stop i H/\fin acc H)\/(J.go i H/\∃ Nx:List V->Hp->Prop,(∀ acc' H',Nx acc' H'->∃ m',m' < m/\W (i+1) m' acc' H')/\∀ x H',J.yld i H x H'->g x (List.replicate k none ++ Gv cs σ) H' fun σ2 H2=>(∃ ts:St,ts.length=k/\σ2=ts ++ Gv cs σ)/\acc.length < sizeLine /\
   tc σ2 H2 fun b H3=>if b=true then te σ2 H3 fun v H4=>Nx (acc ++ [v]) H4 else Nx acc H3)
def tComp (k:Nat) (cs:List Nat) (wi:TI) (g:TG) (tc:TT) (te:TE):TE:=fun σ H Q=>wi σ H fun J H1=>Ec k cs g tc te J σ H1 fun acc H2=>∀ p,H2 p=none->Q (.ref p) (upd H2 p (.lst acc))
section
variable {X:Cx} {tg iter elt:Expr} {ifs:List Expr} {scope:Scope} {pos:Pos} {wi:TI} {g:TG} {tc:TT} {te:TE} {N:List Str} {k:Nat} {cs:List Nat}
theorem Inv.block {pins:List (Addr×Obj)} {σ:St} {H:Hp} {s s':Shared} {ex:List Addr} (hc:X.calm=true) (S:BU X scope N k cs) (I:Inv X pins σ H s)
  (hex:∀ b ∈ ex,Dd X pins H b/\∃ o,s.heap.get? b=some o) (hos:s'.os=s.os) (hg:AllBare s'.gens) (hk:∀ b o,s.heap.get? b=some o->s'.heap.get? b=some o) (hn:∃ m,s'.heap.Ns s.heap.objs.size m) :
  Inv (cxC X scope N s H ex) [] (List.replicate k none ++ Gv cs σ) H s':=by
 have lk:∀ {x c},(MN X.env scope.names).lookup x=some c->X.env.cells.lookup x=some c:=fun {x c} h=>by
  rcases Jl X.env _ _ h with z | ⟨z,e⟩
  ·simp at z
  ·obtain ⟨a,ha⟩:=I.ok.has x (S.free _ z rfl);rw [e,ha]; rfl
 have nex:∀ b,b ∈ ex->b≠s.heap.objs.size:=fun b hb z=>by
  obtain ⟨_,o,ho⟩:=hex b hb;exact absurd (Heap.lt_size ho) (by rw [z]; exact Nat.lt_irrefl _)
 refine ⟨⟨I.ok.mod,S.kind,I.ok.glob,I.ok.blt,Nat.le_refl _,fun x y c h1 h2=>I.ok.inj x y c (lk h1) (lk h2),fun x hx=>?_,fun x c h _=>(nomatch h),I.ok.hd,I.ok.frames,.inl rfl,fun b hb=>⟨nex b hb,fun x c h=>?_⟩,I.bs,?_,fun b o e hb=>?_,fun b hb hf=>?_,I.stack,I.stkFree⟩,
  hos,hg,Un.kept hk,?_,fun x c h=>?_,I.hok.fresh (Nat.le_refl _),fun x c h=>I.freeC x c (lk h),fun p hp=>absurd (show p ∈ ([]:List (Addr×Obj)) from hp) (by simp),I.hok.kept hk,?_⟩
 ·exact MM X.env _ _ (GS S.cell hx)
 ·exact (hex b hb).1.2.2.2.2.1 x c (lk h)
 ·exact Nat.le_trans I.ok.bsz I.sz
 ·rcases (hex b hb).1.2.2.2.1 with z | z
  ·exact I.ok.noex b o e z
  ·exact absurd (Nat.lt_of_lt_of_le (Heap.lt_size e) (Nat.le_trans I.ok.bsz z)) (Nat.lt_irrefl _)
 ·rcases List.mem_cons.mp (I.stkSub b hf) with z | z
  ·exact (hex b hb).1.2.1 z
  ·exact (hex b hb).1.2.2.1 z
 ·obtain ⟨m,hm⟩:=hn;obtain ⟨mo,hmo,hlo⟩:=I.loc;refine ⟨m,hm,fun i x v h1 h2 h3=>?_⟩;have hi:k<=i:=by
   by_cases z:i < k
   ·rw [List.getElem?_append_left (by simpa using z),List.getElem?_replicate,if_pos z] at h2;cases h2
   ·lia
  obtain ⟨j,rfl⟩:∃ j,i=k+j:=⟨i - k,by lia⟩
  rw [List.getElem?_append_right (by simp),List.length_replicate,Nat.add_sub_cancel_left] at h2;unfold Gv at h2;rw [List.getElem?_map] at h2;have hj:j < cs.length:=by
   by_cases z:j < cs.length
   ·exact z
   ·rw [List.getElem?_eq_none (by lia)] at h2;cases h2
  obtain ⟨x',e1,e2,e3⟩:=S.cap j hj;rw [show N[k+j]?=some x from h1] at e1;cases e1;rw [List.getElem?_eq_getElem hj] at h2;have h2':(σ[cs[j]]?).getD none=some v:=Option.some.inj h2;rw [List.getD_eq_getElem?_getD,List.getElem?_eq_getElem hj] at e2;have h4:σ[cs[j]]?=some (some v):=by
   cases q:σ[cs[j]]? with
   | none=>rw [q] at h2'; cases h2'
   | some w=>rw [q] at h2'; rw [show w=some v from h2']
  have kO:=S.free (x,.free) (PySem.mem_of_lookup e3) rfl;obtain ⟨u,ru,l⟩:=hlo _ x v e2 h4 (.inr kO);refine ⟨u,ru,?_⟩;rcases l with ⟨z,_⟩ | ⟨_,c,hc',z⟩
  ·have z':X.env.scope.names.lookup x=some .local:=z;rcases kO with q | q<;>· rw [z'] at q; cases q
  ·obtain ⟨c',h5⟩:=MM X.env _ [] (PySem.mem_of_lookup e3);have h6:=lk h5;rw [hc'] at h6;cases h6;obtain ⟨o,ho,hd⟩:=z;exact .inr ⟨Fs e3,c,h5,o,hk _ _ ho,hd⟩
 ·obtain ⟨v,o,ho,hd⟩:=I.cell x c (lk h);exact ⟨v,o,hk _ _ ho,hd⟩
 ·show (List.replicate k none ++ Gv cs σ).length=N.length;rw [List.length_append,List.length_replicate,S.len];unfold Gv;rw [List.length_map]
end
end L2
namespace L2
open PySem PySem.Spec PyProof.Rows
section
variable {X:Cx} {tg iter elt:Expr} {ifs:List Expr} {scope:Scope} {pos:Pos} {wi:TI} {g:TG} {tc:TT} {te:TE} {N:List Str} {k:Nat} {cs:List Nat} {fin:List V->Hp->Prop}
theorem Os {pins:List (Addr×Obj)} {σ:St} {H2:Hp} {sD s1:Shared} {it D:Addr} {fp:List Addr} {tn:Nat->Heap->Prop} {J:It} {n0:Nat} {RR:Result->Shared->Prop} (hc:X.calm=true) (S:BU X scope N k cs)
  (hg:∀ s H ex,PG (cxC X scope N s H ex) tg g) (ht:∀ s H ex,PTs (cxC X scope N s H ex) ifs tc) (he:∀ s H ex,PE (cxC X scope N s H ex) elt te)
  (ID:Inv X pins σ H2 sD) (hD:sD.heap.get? D=some { cls:=.type "list",data:=.seq ([]:List Value).toArray n0 }) (hD0:X.s₀.heap.objs.size<=D) (fD:Dd X pins H2 D) (nfp:D ∉ fp)
  (T:IL X.prog X.w X.K tg J fp it tn) (st:tn 0 sD.heap) (f2:∀ b ∈ fp,Dd X pins H2 b) (hb:Ec k cs g tc te J σ H2 fin)
  (hos:s1.os=sD.os) (hgn:AllBare s1.gens) (hk:∀ b o,sD.heap.get? b=some o->s1.heap.get? b=some o) (hn:∃ m,s1.heap.Ns sD.heap.objs.size m)
  (hRR:∀ (H':Hp) (acc:List V) (s4:Shared),fin acc H'->H' D=none->Inv X pins σ (upd H' D (.lst acc)) s4->(∃ m,s4.heap.Ns sD.heap.objs.size m)->Dd X pins (upd H' D (.lst acc)) sD.heap.objs.size->RR (.ok .next) s4) :
  codeAny (model X.prog X.w) X.A (.compLoop (.ListComp elt [⟨tg,iter,ifs,0⟩] scope pos) 0 (.ref it) (.ref D) (compEnvC scope (MN X.env scope.names) sD.heap.objs.size X.env)) RR s1:=by
 obtain ⟨W,⟨m0,w0⟩,turn⟩:=hb;have hobj:∀ b,b ∈ D :: fp->∃ o,sD.heap.get? b=some o:=fun b hb=>by
  rcases List.mem_cons.mp hb with rfl | z
  ·exact ⟨_,hD⟩
  ·obtain ⟨o,e,_⟩:=T.obj _ _ st b z;exact ⟨o,e⟩
 have hexx:∀ b ∈ D :: fp,Dd X pins H2 b/\∃ o,sD.heap.get? b=some o:=fun b hb=>⟨by
  rcases List.mem_cons.mp hb with rfl | z
  ·exact fD
  ·exact f2 b z,hobj b hb⟩
 have neC:∀ b,b ∈ D :: fp->b≠sD.heap.objs.size:=fun b hb z=>by
  obtain ⟨o,e⟩:=hobj b hb;exact absurd (Heap.lt_size e) (by rw [z]; exact Nat.lt_irrefl _)
 have nfr:∀ b,b ∈ D :: fp->b ∉ frs X.stack:=fun b hb hf=>by
  rcases List.mem_cons.mp (ID.stkSub b hf) with z | z
  ·exact (hexx b hb).1.2.1 z
  ·exact (hexx b hb).1.2.2.1 z
 have I0:=ID.block hc S hexx hos hgn hk hn;have I0ok:=I0.ok;have cells:∀ b,b ∈ D :: fp->∀ x c,(MN X.env scope.names).lookup x=some c->c≠b:=fun b hb x c h=>(I0ok.exf b hb).2 x c h;have fpok:∀ {H':Hp} {pl:List (Addr×Obj)},(∀ b ∈ fp,H' b=none)->(∀ p ∈ pl,p.1=D)->∀ b ∈ fp,Dd (cxC X scope N sD H2 (D :: fp)) pl H' b:=fun hn hp b hb =>
  ⟨hn b hb,neC b (.tail _ hb),nfr b (.tail _ hb),.inl (.tail _ hb),cells b (.tail _ hb),fun p hp' z=>nfp (by
   have:=hp p hp';rw [<-this,z]; exact hb)⟩
 refine LQ (fun n s'=>∃ (i:Nat) (acc:List V) (its:List Value) (nn:Nat) (H':Hp),Inv (cxC X scope N sD H2 (D :: fp)) [] (List.replicate k none ++ Gv cs σ) H' s'/\tn i s'.heap/\(∀ b ∈ fp,H' b=none)/\H' D=none/\acc.length<=sizeLine/\Aw acc its /\
  s'.heap.get? D=some { cls:=.type "list",data:=.seq its.toArray nn }/\W i n acc H') ?_ m0
  ⟨0,[],[],n0,H2,I0,T.keep _ _ _ st (fun b _ o e=>hk b o e),fun b hb=>(f2 b hb).1,fD.1,Nat.zero_le _,.nil,hk _ _ hD,w0⟩
 rintro n s3 ⟨i,acc,its,nn,H3,I3,st3,fr3,nD3,hl3,v3,e3,w3⟩;have I3p:Inv (cxC X scope N sD H2 (D :: fp)) [(D,{ cls:=.type "list",data:=.seq its.toArray nn })] (List.replicate k none ++ Gv cs σ) H3 s3:=I3.pins_of fun p hp=>by
  rw [List.mem_singleton] at hp;subst hp;exact ⟨e3,nD3,neC D (.head _),nfr D (.head _),fun v z=>by cases z⟩
 have one:∀ p ∈ [((D,{ cls:=.type "list",data:=.seq its.toArray nn }):Addr×Obj)],p.1=D:=fun p hp=>by
  rw [List.mem_singleton] at hp;subst hp;rfl
 rcases turn i n acc H3 w3 with ⟨stop,qf⟩ | ⟨go,Nx,hNx,step⟩
 ·refine thn (T.done (cxC X scope N sD H2 (D :: fp)) rfl rfl rfl hc i _ s3 _ H3 _ I3p (fpok fr3 one) st3 stop) fun r s4 ⟨hr,I4⟩=>?_;subst hr;have IX:Inv X pins σ H3 s4:=ID.call' (ch:=D :: fp) I4.os I4.base I4.hok I4.bare fun b hb=>⟨(hexx b hb).1.2.2.2.1,(hexx b hb).1.2.1,(hexx b hb).1.2.2.2.2.1,(hexx b hb).1.2.2.2.2.2⟩
  have p4:=(I4.pin (D,{ cls:=.type "list",data:=.seq its.toArray nn }) (by show _ ∈ [] ++ [_]; simp)).1;have IY:Inv X pins σ (upd H3 D (.lst acc)) s4:=by
   refine IX.track nD3 (Heap.get?_none_of_le hD0) (Heap.get?_none_of_le (Nat.le_trans ID.ok.bsz hD0)) (Ne.symm fD.2.1) fD.2.2.2.2.1 fD.2.2.2.2.2 (fun b hb z=>fD.2.2.1 (z ▸ hb)) ?_;exact ⟨hl3,its,nn,v3,p4⟩
  refine hRR H3 acc s4 qf nD3 IY ?_ (ID.fpOk (Nat.le_refl _) ?_)
  ·obtain ⟨m,hm,_⟩:=I4.loc;exact ⟨m,hm⟩
  ·rw [Ak (Ne.symm (neC D (.head _)))];exact I4.free
 ·refine thn (T.item (cxC X scope N sD H2 (D :: fp)) rfl rfl rfl hc i _ s3 _ H3 (fun _ _=>False) I3p (fpok fr3 one) st3 go) fun r s4 ⟨u,hr,h4⟩=>?_;subst hr;refine thn h4 fun _ s5 ⟨x,H5,I5,r5,y5,st5,fr5⟩=>?_;have I5':=I5.pinned (fpok fr5 one) (T.obj _ _ st5);refine thn (hg sD H2 (D :: fp) _ s5 _ H5 x u _ I5' r5 (step x H5 y5)) fun _ s6 ⟨σ6,H6,I6,⟨ts,tl,eσ⟩,hz6,q6⟩=>?_;refine thn (ht sD H2 (D :: fp) _ s6 σ6 H6 _ I6 q6) fun b s7 ⟨H7,I7,q7⟩=>?_;have weak:∀ {pl:List (Addr×Obj)} {H':Hp} {s':Shared},Inv (cxC X scope N sD H2 (D :: fp)) pl σ6 H' s'->Inv (cxC X scope N sD H2 (D :: fp)) [] (List.replicate k none ++ Gv cs σ) H' s':=fun {pl H' s'} J=>by
   refine (J.weak (σ':=List.replicate k none ++ Gv cs σ) ?_ fun j v e=>?_).pins_of fun p hp=>absurd hp (by simp)
   ·rw [eσ,List.length_append,List.length_append,List.length_replicate,tl]
   ·by_cases z:j < k
    ·rw [List.getElem?_append_left (by simpa using z),List.getElem?_replicate,if_pos z] at e;cases e
    ·rw [List.getElem?_append_right (by rw [List.length_replicate]; lia),List.length_replicate] at e;rw [eσ,List.getElem?_append_right (by lia),tl];exact e
  have later:∀ {pl:List (Addr×Obj)} {σ':St} {H':Hp} {s':Shared},Inv (cxC X scope N sD H2 (D :: fp)) (pl ++ FS fp s5.heap) σ' H' s'->tn (i+1) s'.heap/\∀ b ∈ fp,H' b=none:=fun {pl σ' H' s'} J =>
   ⟨T.keep _ _ _ st5 fun b hb o e=>(J.pin (b,o) (List.mem_append_right _ (List.mem_append_right _ (Et hb e)))).1,fun b hb=>by
    obtain ⟨o,e,_⟩:=T.obj _ _ st5 b hb;exact (J.pin (b,o) (List.mem_append_right _ (List.mem_append_right _ (Et hb e)))).2.1⟩
  cases b with
  | false =>
   have q7':Nx acc H7:=by simpa using q7
   obtain ⟨m',hm,w7⟩:=hNx _ _ q7';rw [if_neg Bool.false_ne_true];have p7:=I7.pin (D,{ cls:=.type "list",data:=.seq its.toArray nn }) (List.mem_append_right _ (List.mem_append_left _ (List.mem_singleton.mpr rfl)));exact ⟨m',hm,i+1,acc,its,nn,H7,weak I7,(later I7).1,(later I7).2,p7.2.1,hl3,v3,p7.1,w7⟩
  | true =>
   rw [if_pos rfl] at q7;rw [if_pos rfl];refine thn (he sD H2 (D :: fp) _ s7 σ6 H7 _ I7 q7) fun y s8 ⟨v,H8,I8,r8,q8⟩=>?_;obtain ⟨m',hm,w8⟩:=hNx _ _ q8;have p8:=I8.pin (D,{ cls:=.type "list",data:=.seq its.toArray nn }) (List.mem_append_right _ (List.mem_append_left _ (List.mem_singleton.mpr rfl)));have hlen:=v3.length;refine call_meets F.slot_list_append ⟨_,p8.1,rfl⟩ F.entry_list_append (F.args_list_append_2 _ _) (PySem.list_append D its.toArray nn y (by rw [List.size_toArray]; lia)) ⟨p8.1,?_⟩;have q:=PySem.IsL.update p8.1 (·.push y);have eq:its.toArray.push y=(its ++ [y]).toArray:=by simp
   dsimp only at q;rw [eq] at q;have I8':Inv (cxC X scope N sD H2 (D :: fp)) ([] ++ FS fp s5.heap) σ6 H8 s8:=I8.pins_of fun p hp=>I8.pin p (List.mem_append_right _ (List.mem_append_right _ hp));have I9:=I8'.turned (t':=s8.toks) (it:=D) (h':=s8.heap.update D (Obj.mapSeq (·.push y))) (fun b o hb e=>(Heap.get?_update_other s8.heap (Obj.mapSeq (·.push y)) (Ne.symm hb)).trans e) p8.2.1 (neC D (.head _)) (.inl (.head _)) (cells D (.head _))
    (fun p hp z=>nfp (by
     have:=(IW (fp:=fp) (h:=s5.heap) (p:=p) (by simpa [cxC] using hp)).1;rw [z] at this;exact this))
   refine ⟨m',hm,i+1,acc ++ [v],its ++ [y],_,H8,weak I9,(later I9).1,(later I9).2,p8.2.1,?_,v3.append (.cons r8 .nil),q,w8⟩;rw [List.length_append,List.length_singleton];lia
theorem Iv {pins:List (Addr×Obj)} {σ:St} {H2:Hp} {s2:Shared} {it:Addr} {fp:List Addr} {tn:Nat->Heap->Prop} {J:It} {RR:Value->Addr->Result->Shared->Prop} {E:Value->Shared->Prop} (hc:X.calm=true) (S:BU X scope N k cs)
  (hg:∀ s H ex,PG (cxC X scope N s H ex) tg g) (ht:∀ s H ex,PTs (cxC X scope N s H ex) ifs tc) (he:∀ s H ex,PE (cxC X scope N s H ex) elt te)
  (I2:Inv X pins σ H2 s2) (T:IL X.prog X.w X.K tg J fp it tn) (st:tn 0 s2.heap) (f2:∀ b ∈ fp,Dd X pins H2 b) (hb:Ec k cs g tc te J σ H2 fin)
  (hRR:∀ (D C:Addr) (H':Hp) (acc:List V) (s4:Shared),fin acc H'->H' D=none->Inv X pins σ (upd H' D (.lst acc)) s4->(∃ m,s4.heap.Ns C m)->Dd X pins (upd H' D (.lst acc)) C->RR (.ref D) C (.ok .next) s4) :
  wpAny (model X.prog X.w) X.A (newList []) (fun acc s₃=>wpAny (model X.prog X.w) X.A (newFunctionEnv scope X.env.globals (MN X.env scope.names) [] X.env.qual none .none (some X.env)) (fun cenv s₄ =>
   codeAny (model X.prog X.w) X.A (.compStart (.ListComp elt [⟨tg,iter,ifs,0⟩] scope pos) 0 (.ref it) acc { cenv with scope:=relabel scope X.env }) (RR acc cenv.locals) s₄) E s₃) E s2:=by
 refine wpAny_newObj_type (wpAny_newFunctionEnv S.cell (by intro y hy; simp at hy) (fun h₁ hns₁ hsb₁=>?_) S.kind);dsimp only at hns₁ hsb₁ ⊢;have keepD:∀ b o,s2.heap.get? b=some o->(s2.heap.push { cls:=.type "list",dict:=none,data:=.seq ([]:List Value).toArray }).get? b=some o:=fun b o e=>Heap.get?_push_of_some _ e;have ID:Inv X pins σ H2 { s2 with heap:=s2.heap.push { cls:=.type "list",dict:=none,data:=.seq ([]:List Value).toArray } }:=I2.kept (t':=s2.toks) keepD;have hD:(s2.heap.push { cls:=.type "list",dict:=none,data:=.seq ([]:List Value).toArray }).get? s2.heap.objs.size=some { cls:=.type "list",data:=.seq ([]:List Value).toArray }:=Heap.get?_push_size _ rfl;have nfp:s2.heap.objs.size ∉ fp:=fun z=>by
  obtain ⟨o,e,_⟩:=T.obj _ _ st _ z;exact absurd (Heap.lt_size e) (Nat.lt_irrefl _)
 have stD:tn 0 (s2.heap.push { cls:=.type "list",dict:=none,data:=.seq ([]:List Value).toArray }):=T.keep _ _ _ st fun b _ o e=>keepD b o e;have hk:∀ b o,(s2.heap.push { cls:=.type "list",dict:=none,data:=.seq ([]:List Value).toArray }).get? b=some o->h₁.get? b=some o:=fun b o e=>hsb₁.extBut b o (Nat.ne_of_lt (Heap.lt_size e)) (Heap.get?_push_of_some _ e);have loop:∀ s₃:Shared,s₃={ s2 with heap:=h₁,toks:=s2.toks+([]:List (Str×Value)).length } ->
   codeAny (model X.prog X.w) X.A (.compLoop (.ListComp elt [⟨tg,iter,ifs,0⟩] scope pos) 0 (.ref it) (.ref s2.heap.objs.size) (compEnvC scope (MN X.env scope.names) (s2.heap.push { cls:=.type "list",dict:=none,data:=.seq ([]:List Value).toArray }).objs.size X.env))
    (RR (.ref s2.heap.objs.size) (s2.heap.push { cls:=.type "list",dict:=none,data:=.seq ([]:List Value).toArray }).objs.size) s₃:=by
  rintro s₃ rfl;exact Os (sD:={ s2 with heap:=s2.heap.push { cls:=.type "list",dict:=none,data:=.seq ([]:List Value).toArray } }) hc S hg ht he ID hD I2.sz (I2.fpOk (Nat.le_refl _) I2.fresh) nfp T stD f2 hb rfl I2.bare hk ⟨_,hns₁⟩ fun H' acc s4=>hRR _ _ H' acc s4
 exact codeAny_compStart_list (loop _ rfl) (T.self _ 0 _ _ _ (T.keep _ _ _ stD fun b _ o e=>hk b o e) (loop _ rfl))
theorem Du (hc:X.calm=true) (S:BU X scope N k cs) (hi:PI X tg iter wi) (hg:∀ s H ex,PG (cxC X scope N s H ex) tg g) (ht:∀ s H ex,PTs (cxC X scope N s H ex) ifs tc) (he:∀ s H ex,PE (cxC X scope N s H ex) elt te)
  (hs:∀ x,foldedSetIterable iter X.env x=pure x:=by intro _; rfl):PE X (.ListComp elt [⟨tg,iter,ifs,0⟩] scope pos) (tComp k cs wi g tc te):=by
 intro pins s σ H Q I h;rw [eval_ListComp];refine wpAny_comprehension_free (use:=none) rfl hs (Iw fun y hy hf=>I.ok.has _ (S.free y hy hf)) S.kind S.names (thn (hi pins s σ H _ I h) fun v s1 h1=>thn h1 fun itv s2 h2=>?_);obtain ⟨it,fp,tn,J,H2,rfl,I2,T,st2,f2,hb⟩:=h2;refine Iv (RR:=fun acc C=>compPost (model X.prog X.w) X.A X.xe none (EP X pins σ Q) acc C) hc S hg ht he I2 T st2 f2 hb fun D C H' acc s4 qf nD J4 hn fC=>?_;obtain ⟨m,hm⟩:=hn;refine ⟨m,hm,fun h' sb=>⟨.ref D,upd H' D (.lst acc),?_,rfl,qf D nD⟩⟩;exact J4.turned (t':=s4.toks) (it:=C) (fun b o hb e=>(sb.2 b hb).trans e) fC.1 fC.2.1 fC.2.2.2.1 fC.2.2.2.2.1 fC.2.2.2.2.2
def OG (i k:Nat) (cs:List Nat) (wi:TI) (g:TG) (tc:TT) (te:TE):TS:=fun D σ H=>wi σ H fun J H1=>Ec k cs g tc te J σ H1 fun acc H2=>∀ p,H2 p=none->D.nx (σ.set i (some (.ref p))) (upd H2 p (.lst acc))
theorem GV {i:Nat} {y:Str} {py spos:Pos} (hc:X.calm=true) (hN:X.N.Nodup) (hi':X.N[i]?=some y) (hy:X.env.scope.names.lookup y=some .local) (S:BU X scope N k cs) (hi:PI X tg iter wi)
  (hg:∀ s H ex,PG (cxC X scope N s H ex) tg g) (ht:∀ s H ex,PTs (cxC X scope N s H ex) ifs tc) (he:∀ s H ex,PE (cxC X scope N s H ex) elt te)
  (hsw:swapsWith (.ListComp elt [⟨tg,iter,ifs,0⟩] scope pos) (some (.Name y py)) spos.line X.env=pure true:=by rfl) (hs:∀ x,foldedSetIterable iter X.env x=pure x:=by intro _; rfl) :
  PS X (.Assign [.Name y py] (.ListComp elt [⟨tg,iter,ifs,0⟩] scope pos) spos) (OG i k cs wi g tc te):=by
 intro pins s σ H D I h;rw [exec_Assign_Name_used _ _ _ _ hsw];refine wpAny_bind (wpAny_standAt (wpAny_bind ?_));show wpAny _ X.A (do let _ <-comprehension (.ListComp elt [⟨tg,iter,ifs,0⟩] scope pos) scope X.env _ (newList []) false (eval iter X.env) (some (assign (.Name y py) X.env))) _ _ s;refine wpAny_bind (wpAny_mono (wpAny_comprehension_free (use:=some (assign (.Name y py) X.env)) (Q:=fun _ s'=>SP X pins D .next s') rfl hs (Iw fun y hy hf=>I.ok.has _ (S.free y hy hf)) S.kind S.names
  (thn (hi pins s σ H _ I h) fun v s1 h1=>thn h1 fun itv s2 h2=>?_)) (fun _ s' hq=>wpAny_pure (wpAny_pure hq)) fun _ _ e=>e)
 obtain ⟨it,fp,tn,J,H2,rfl,I2,T,st2,f2,hb⟩:=h2;refine Iv (RR:=fun acc C=>compPost (model X.prog X.w) X.A X.xe (some (assign (.Name y py) X.env)) (fun _ s'=>SP X pins D .next s') acc C) hc S hg ht he I2 T st2 f2 hb fun L C H' acc s4 qf nD J4 hn fC=>?_;obtain ⟨m,hm⟩:=hn;show wpAny _ X.A (assign (.Name y py) X.env (.ref L)) _ _ _;refine wpAny_assign_Name (IV J4 hN hi' (.inl hy) (v:=.ref L) rfl (fun s5 J5 hsb=>?_) (.inr hy));obtain ⟨a,sb,ha⟩:=hsb;have nCa:C≠a:=by
  rcases ha with z | z
  ·rw [z]; exact fC.2.1
  ·exact fun q=>fC.2.2.2.2.1 y a z q.symm
 refine ⟨m,hm.sameBut sb nCa,fun h' sb'=>⟨σ.set i (some (.ref L)),upd H' L (.lst acc),?_,qf L nD⟩⟩;exact J5.turned (t':=s5.toks) (it:=C) (fun b o hb e=>(sb'.2 b hb).trans e) fC.1 fC.2.1 fC.2.2.2.1 fC.2.2.2.2.1 fC.2.2.2.2.2
end
section
variable {K:PySem.W.Frag} {k:Nat} {cs:List Nat} {g:TG} {tc:TT} {te:TE} {σ:St} {H:Hp} {fin:List V->Hp->Prop}
abbrev Bt (k:Nat) (cs:List Nat) (g:TG) (tc:TT) (te:TE) (σ:St) (x:V) (acc:List V) (H:Hp) (Nx:List V->Hp->Prop):Prop :=
 g x (List.replicate k none ++ Gv cs σ) H fun σ2 H2=>(∃ ts:St,ts.length=k/\σ2=ts ++ Gv cs σ)/\acc.length < sizeLine/\tc σ2 H2 fun b H3=>if b=true then te σ2 H3 fun v H4=>Nx (acc ++ [v]) H4 else Nx acc H3
theorem DW {a:Addr} {xs:List V} (Pv:Nat->List V->Hp->Prop) (h0:Pv 0 [] H) (hl:∀ i acc H,i<=xs.length->Pv i acc H->SqL K H a xs)
  (hs:∀ i x acc H,xs[i]?=some x->Pv i acc H->Bt k cs g tc te σ x acc H (Pv (i+1))) (hd:∀ acc H,Pv xs.length acc H->fin acc H):Ec k cs g tc te (Itl K a) σ H fin:=by
 refine ⟨fun i m acc H=>m=xs.length - i/\i<=xs.length/\Pv i acc H,⟨xs.length,by simp,Nat.zero_le _,h0⟩,?_⟩;rintro i m acc H ⟨rfl,hi,p⟩;have q:=hl i acc H hi p;by_cases hlt:i < xs.length
 ·refine .inr ⟨⟨xs,xs[i],q,by simp [hlt]⟩,Pv (i+1),fun acc' H' p'=>⟨xs.length - (i+1),by lia,rfl,hlt,p'⟩,fun x H' y=>?_⟩;obtain ⟨e,y⟩:=y;subst e;exact hs i x acc _ (y xs q) p
 ·have e:i=xs.length:=by lia
  subst e;exact .inl ⟨⟨xs,q,Nat.le_refl _⟩,hd acc H p⟩
theorem blk_tup {a:Addr} {xs:List V} (Pv:Nat->List V->Hp->Prop) (h0:Pv 0 [] H) (hl:∀ i acc H,i<=xs.length->Pv i acc H->SqT K H a xs)
  (hs:∀ i x acc H,xs[i]?=some x->Pv i acc H->Bt k cs g tc te σ x acc H (Pv (i+1))) (hd:∀ acc H,Pv xs.length acc H->fin acc H):Ec k cs g tc te (Itt K a) σ H fin:=by
 refine ⟨fun i m acc H=>m=xs.length - i/\i<=xs.length/\Pv i acc H,⟨xs.length,by simp,Nat.zero_le _,h0⟩,?_⟩;rintro i m acc H ⟨rfl,hi,p⟩;have q:=hl i acc H hi p;by_cases hlt:i < xs.length
 ·refine .inr ⟨⟨xs,xs[i],q,by simp [hlt]⟩,Pv (i+1),fun acc' H' p'=>⟨xs.length - (i+1),by lia,rfl,hlt,p'⟩,fun x H' y=>?_⟩;obtain ⟨e,y⟩:=y;subst e;exact hs i x acc _ (y xs q) p
 ·have e:i=xs.length:=by lia
  subst e;exact .inl ⟨⟨xs,q,Nat.le_refl _⟩,hd acc H p⟩
theorem Ou {lo:Int} {n:Nat} (Pv:Nat->List V->Hp->Prop) (h0:Pv 0 [] H) (hs:∀ i acc H,i < n->Pv i acc H->Bt k cs g tc te σ (.int (lo+i)) acc H (Pv (i+1))) (hd:∀ acc H,Pv n acc H->fin acc H):Ec k cs g tc te (Itr lo n) σ H fin:=by
 refine ⟨fun i m acc H=>m=n - i/\i<=n/\Pv i acc H,⟨n,by simp,Nat.zero_le _,h0⟩,?_⟩;rintro i m acc H ⟨rfl,hi,p⟩;by_cases hlt:i < n
 ·refine .inr ⟨hlt,Pv (i+1),fun acc' H' p'=>⟨n - (i+1),by lia,rfl,hlt,p'⟩,fun x H' y=>?_⟩;obtain ⟨e,y⟩:=y;subst e y;exact hs i acc _ hlt p
 ·have e:i=n:=by lia
  subst e;exact .inl ⟨Nat.le_refl _,hd acc H p⟩
end
end L2
namespace L2
open PySem PySem.Spec PyProof.Rows
section
variable {prog:Program} {w:World} {A:Around} {E:Value->Shared->Prop} {s:Shared}
theorem FB {I t:Addr} {k:Nat} {vs:Array Value} {v:Value} {Q:Value->Shared->Prop} (hI:s.heap.IsTupleIter I t k) (hV:s.heap.IsTuple t vs) (hv:vs[k]?=some v)
  (q:∀ g,g.IsTupleIter I t (k+1)->Heap.SameBut I s.heap g->Q v { s with heap:=g }):wpAny (model prog w) A (Builtin.SmallTypes.nextOf (.ref I)) Q E s:=by
 obtain ⟨oI,eI,cI,dI⟩:=id hI;obtain ⟨oV,eV,_,nV,dV⟩:=hV;unfold Builtin.SmallTypes.nextOf;refine wpAny_bind (wpAny_callSpecial?_slot (name:=Str.ofString "__next__") hI.typeIs F.slot_tuple_iterator_next (wpAny_call_entry F.slot_tuple_iterator_next hI.typeIs F.entry_tuple_iterator_next ?_ (F.args_tuple_iterator_next_1 _)));show wpAny _ _ (field (.ref I) 0 >>= _) _ _ s;refine wpAny_bind (wpAny_field eI dI (x:=.ref t) rfl ?_);show wpAny _ _ (if (Value.ref t == Value.none)=true then _ else _) _ _ s;rw [if_neg (fun z:(Value.ref t == Value.none)=true=>Bool.false_ne_true z)];show wpAny _ _ (field (.ref I) 1 >>= _) _ _ s;refine wpAny_bind (wpAny_field eI dI (x:=.int k 0) rfl ?_);show wpAny _ _ (seqItems? (.ref t) >>= _) _ _ s;refine wpAny_bind (wpAny_seqItems eV dV ?_);simp only [Int.toNat_natCast,hv];refine wpAny_bind (wpAny_setField eI dI (by simp) (wpAny_pure ⟨v,rfl,wpAny_pure (q _ ?_ (Heap.SameBut.update ..))⟩));exact ⟨_,Heap.get?_update_self _ eI (Obj.isFreed_of_fields (Obj.data_mapFields dI _)),(Obj.cls_mapFields ..).trans cI,by rw [Obj.data_mapFields dI]; simp [rawInt]⟩
theorem FU {I t:Addr} {k:Nat} {vs:Array Value} {Q:Value->Shared->Prop} (hA:A.handled=none) (hI:s.heap.IsTupleIter I t k) (hV:s.heap.IsTuple t vs) (hv:vs[k]?=none)
  (q:∀ g e,Heap.ExtBut I s.heap g->(∃ o,g.get? e=some o/\o.cls=.type "StopIteration")->E (.ref e) { s with heap:=g }):wpAny (model prog w) A (Builtin.SmallTypes.nextOf (.ref I)) Q E s:=by
 obtain ⟨oI,eI,cI,dI⟩:=id hI;obtain ⟨oV,eV,_,nV,dV⟩:=hV;unfold Builtin.SmallTypes.nextOf;refine wpAny_bind (wpAny_callSpecial?_slot (name:=Str.ofString "__next__") hI.typeIs F.slot_tuple_iterator_next (wpAny_call_entry F.slot_tuple_iterator_next hI.typeIs F.entry_tuple_iterator_next ?_ (F.args_tuple_iterator_next_1 _)));show wpAny _ _ (field (.ref I) 0 >>= _) _ _ s;refine wpAny_bind (wpAny_field eI dI (x:=.ref t) rfl ?_);show wpAny _ _ (if (Value.ref t == Value.none)=true then _ else _) _ _ s;rw [if_neg (fun z:(Value.ref t == Value.none)=true=>Bool.false_ne_true z)];show wpAny _ _ (field (.ref I) 1 >>= _) _ _ s;refine wpAny_bind (wpAny_field eI dI (x:=.int k 0) rfl ?_);show wpAny _ _ (seqItems? (.ref t) >>= _) _ _ s;refine wpAny_bind (wpAny_seqItems eV dV ?_);simp only [Int.toNat_natCast,hv];refine wpAny_bind (wpAny_rule (wpAny_bind (wpAny_setField eI dI (by simp) ?_)));show wpAny _ _ (newExc (.type "StopIteration") [] >>= _) _ _ _;refine wpAny_bind ?_;simp only [newExc,newTuple];refine wpAny_bind (wpAny_newObj_type ?_ (by size_fits));refine wpAny_bind (m:=firstArgMember _ _) (wpAny_of_eq (a:=Value.none) (by first | rfl | (simp only [firstArgMember]; rfl)) (wpAny_newObj_type ?_ (by size_fits)));simp only [raiseNew];refine wpAny_bind (wpAny_handled ?_)
 first | rw [show A.in1.handled=none from hA] | rw [hA]
 refine wpAny_bind (wpAny_pure (wpAny_throw (q _ _ (((Heap.SameBut.update ..).extBut.push _).push _) ⟨_,Heap.get?_push_size _ rfl,rfl⟩)))
def BO:Bool->Heap->Addr->Addr->Nat->Prop
 | true,h,I,l,k=>h.IsTupleIter I l k
 | false,h,I,l,k=>h.IsListIter I l k
def Dc:Bool->Heap->Addr->Array Value->Prop
 | true,h,l,vs=>h.IsTuple l vs
 | false,h,l,vs=>h.IsList l vs
def SqX (K:PySem.W.Frag):Bool->Hp->Addr->List V->Prop
 | true,H,a,xs=>SqT K H a xs
 | false,H,a,xs=>SqL K H a xs
theorem BO.move {b:Bool} {h g:Heap} {I l:Addr} {k:Nat} (x:BO b h I l k) (e:∀ o,h.get? I=some o->g.get? I=some o):BO b g I l k:=by
 cases b with
 | true=>obtain ⟨o,ho,r⟩:=x; exact ⟨o,e _ ho,r⟩
 | false=>obtain ⟨o,ho,r⟩:=x; exact ⟨o,e _ ho,r⟩
theorem BO.there {b:Bool} {h:Heap} {I l:Addr} {k:Nat} (x:BO b h I l k):∃ o,h.get? I=some o/\∀ v,o.data≠.cell v:=by
 cases b with
 | true=>obtain ⟨o,ho,_,d⟩:=x; exact ⟨o,ho,fun v z=>by rw [d] at z; cases z⟩
 | false=>obtain ⟨o,ho,_,d⟩:=x; exact ⟨o,ho,fun v z=>by rw [d] at z; cases z⟩
theorem Dc.move {b:Bool} {h g:Heap} {l:Addr} {vs:Array Value} (x:Dc b h l vs) (e:∀ o,h.get? l=some o->g.get? l=some o):Dc b g l vs:=by
 cases b with
 | true=>obtain ⟨o,ho,r⟩:=x; exact ⟨o,e _ ho,r⟩
 | false=>obtain ⟨o,ho,r⟩:=x; exact ⟨o,e _ ho,r⟩
theorem CP {b:Bool} {I l:Addr} {k:Nat} {vs:Array Value} {v:Value} {Q:Value->Shared->Prop} (hI:BO b s.heap I l k) (hV:Dc b s.heap l vs) (hv:vs[k]?=some v)
  (q:∀ g,BO b g I l (k+1)->Heap.SameBut I s.heap g->Q v { s with heap:=g }):wpAny (model prog w) A (Builtin.SmallTypes.nextOf (.ref I)) Q E s:=by
 cases b with
 | true=>exact FB hI hV hv q
 | false=>exact wpAny_nextOf_list_item hI hV hv q
theorem DU {b:Bool} {I l:Addr} {k:Nat} {vs:Array Value} {Q:Value->Shared->Prop} (hA:A.handled=none) (hI:BO b s.heap I l k) (hV:Dc b s.heap l vs) (hv:vs[k]?=none)
  (q:∀ g e,Heap.ExtBut I s.heap g->(∃ o,g.get? e=some o/\o.cls=.type "StopIteration")->E (.ref e) { s with heap:=g }):wpAny (model prog w) A (Builtin.SmallTypes.nextOf (.ref I)) Q E s:=by
 cases b with
 | true=>exact FU hA hI hV hv q
 | false=>exact wpAny_nextOf_list_end hA hI hV hv q
theorem DR {b:Bool} {l:Addr} {vs:Array Value} {Q:Value->Shared->Prop} (hV:Dc b s.heap l vs)
  (q:∀ g,BO b g s.heap.objs.size l 0->g.objs.size=s.heap.objs.size+1->(∀ c o,s.heap.get? c=some o->g.get? c=some o)->Q (.ref s.heap.objs.size) { s with heap:=g }):wpAny (model prog w) A (pyIter (.ref l)) Q E s:=by
 cases b with
 | true=>exact wpAny_pyIter_tuple hV (q _ ⟨_,Heap.get?_push_size _ rfl,rfl,rfl⟩ (Heap.size_push ..) fun c o e=>Heap.get?_push_of_some _ e)
 | false=>exact wpAny_pyIter_list hV (q _ ⟨_,Heap.get?_push_size _ rfl,rfl,rfl⟩ (Heap.size_push ..) fun c o e=>Heap.get?_push_of_some _ e)
structure NB (z U O i j l m:Addr):Prop where
 nd:[z,U,O,i,j].Nodup
 l:l ∉ [z,O,i,j]
 m:m ∉ [z,O,i,j]
theorem Oy {b c:Bool} {z U O i j l m:Addr} {k:Nat} {xs ys:Array Value} {x y p q:Value} {Q:Value->Shared->Prop} (D:NB z U O i j l m) (hZ:IsZip s.heap z U O .none) (hU:IsPair s.heap U (.ref i) (.ref j)) (hO:IsPair s.heap O p q)
  (hi:BO b s.heap i l k) (hj:BO c s.heap j m k) (hl:Dc b s.heap l xs) (hm:Dc c s.heap m ys) (hx:xs[k]?=some x) (hy:ys[k]?=some y)
  (fin:∀ g,IsZip g z U O (rawInt s.heap.objs.size)->IsPair g O x y->BO b g i l (k+1)->BO c g j m (k+1)->IsPair g s.heap.objs.size x y->g.objs.size=s.heap.objs.size+1 ->
   (∀ a o,a ∉ [z,O,i,j]->s.heap.get? a=some o->g.get? a=some o)->Q (.ref s.heap.objs.size) { s with heap:=g }) :
  wpAny (model prog w) A (Builtin.«zip.__next__» ⟨[.ref z],[]⟩) (fun r s'=>∃ v,r=.done (.ret v)/\Q v s') E s:=by
 obtain ⟨nd,nl,nm⟩:=D;simp only [List.nodup_cons,List.mem_cons,List.not_mem_nil,or_false,not_or,List.nodup_nil,and_true,not_false_eq_true] at nd nl nm;obtain ⟨⟨zU,zO,zi,zj⟩,⟨UO,Ui,Uj⟩,⟨Oi,Oj⟩,ij⟩:=nd;obtain ⟨lz,lO,li,lj⟩:=nl;obtain ⟨mz,mO,mi,mj⟩:=nm;show wpAny _ _ (field (.ref z) 2 >>= _) _ _ _;refine wpAny_bind (wpAny_field hZ rfl (x:=.bool false) rfl ?_);show wpAny _ _ (field (.ref z) 3 >>= _) _ _ _;refine wpAny_bind (wpAny_field hZ rfl (x:=.ref U) rfl (wpAny_bind (wpAny_seqItems hU rfl ?_)));show wpAny _ _ (Builtin.SmallTypes.ownedTupleIsFree (.ref z) >>= _) _ _ _;refine wpAny_bind ?_;unfold Builtin.SmallTypes.ownedTupleIsFree;refine wpAny_bind (wpAny_field hZ rfl (x:=.none) rfl (wpAny_pure ?_));simp only [if_true];refine wpAny_bind (wpAny_rule (wpAny_bind (wpAny_field hZ rfl (x:=.ref O) rfl (wpAny_bind (wpAny_setField_rec hZ (by simp) fun h1 hZ1 s1=>?_)))));replace hZ1:IsZip h1 z U O .ellipsis:=hZ1;refine wpAny_bind ?_;simp only [List.zipIdx_cons,List.zipIdx_nil,List.forIn_cons,List.forIn_nil];refine wpAny_bind (wpAny_bind (wpAny_onRaise ?_));show wpAny _ _ (Builtin.SmallTypes.nextOf (.ref i) >>= _) _ _ _;refine wpAny_bind (CP (hi.move fun o e=>s1.extBut _ _ (Ne.symm zi) e) (hl.move fun o e=>s1.extBut _ _ lz e) hx fun h2 hi2 s2=>wpAny_pure ?_);have hO2:IsPair h2 O p q:=s2.extBut _ _ Oi (s1.extBut _ _ (Ne.symm zO) hO);refine wpAny_bind (wpAny_seqItems hO2 rfl (wpAny_bind (wpAny_updateSeq_pair hO2 fun h3 hO3 s3=>?_)));replace hO3:IsPair h3 O x q:=hO3;refine wpAny_bind (wpAny_letGo (wpAny_pure (wpAny_bind (wpAny_bind (wpAny_onRaise ?_)))));show wpAny _ _ (Builtin.SmallTypes.nextOf (.ref j) >>= _) _ _ _;refine wpAny_bind (CP (hj.move fun o e=>s3.extBut _ _ (Ne.symm Oj) (s2.extBut _ _ (Ne.symm ij) (s1.extBut _ _ (Ne.symm zj) e))) (hm.move fun o e=>s3.extBut _ _ mO (s2.extBut _ _ mi (s1.extBut _ _ mz e))) hy fun h4 hj4 s4=>wpAny_pure ?_);have hO4:IsPair h4 O x q:=s4.extBut _ _ Oj hO3;refine wpAny_bind (wpAny_seqItems hO4 rfl (wpAny_bind (wpAny_updateSeq_pair hO4 fun h5 hO5 s5=>?_)));replace hO5:IsPair h5 O x y:=hO5;refine wpAny_bind (wpAny_letGo (wpAny_pure (wpAny_pure (wpAny_bind (wpAny_seqItems hO5 rfl (wpAny_bind (wpAny_newTuple ?_)))))));have sz:h5.objs.size=s.heap.objs.size:=by rw [s5.1,s4.1,s3.1,s2.1,s1.1]
 have hZ5:IsZip h5 z U O .ellipsis:=s5.extBut _ _ zO (s4.extBut _ _ zj (s3.extBut _ _ zO (s2.extBut _ _ zi hZ1)));have kp:∀ a o,a ∉ [z,O,i,j]->s.heap.get? a=some o->h5.get? a=some o:=fun a o ha e=>by
  simp only [List.mem_cons,List.not_mem_nil,or_false,not_or] at ha;exact s5.extBut _ _ ha.2.1 (s4.extBut _ _ ha.2.2.2 (s3.extBut _ _ ha.2.1 (s2.extBut _ _ ha.2.2.1 (s1.extBut _ _ ha.1 e))))
 have hi5:BO b h5 i l (k+1):=hi2.move fun o e=>s5.extBut _ _ (Ne.symm Oi) (s4.extBut _ _ ij (s3.extBut _ _ (Ne.symm Oi) e));have hj5:BO c h5 j m (k+1):=hj4.move fun o e=>s5.extBut _ _ (Ne.symm Oj) e;have zlt:z < h5.objs.size:=Heap.lt_size hZ5;show wpAny _ _ (Builtin.SmallTypes.ownedTupleHandOut (.ref z) (.ref h5.objs.size) >>= _) _ _ _;refine wpAny_bind ?_;unfold Builtin.SmallTypes.ownedTupleHandOut;have hZ6:IsZip (h5.push { cls:=.type "tuple",data:=.seq #[x,y] }) z U O .ellipsis:=Heap.get?_push_of_some _ hZ5;refine wpAny_bind (wpAny_setField_rec hZ6 (by simp) fun h7 hZ7 s7=>?_);replace hZ7:IsZip h7 z U O (rawInt h5.objs.size):=hZ7;refine wpAny_setField_rec hZ7 (by simp) fun h8 hZ8 s8=>?_;replace hZ8:IsZip h8 z U O (rawInt h5.objs.size):=hZ8;have up:∀ a o,a≠z->h5.get? a=some o->h8.get? a=some o:=fun a o na e=>s8.extBut _ _ na (s7.extBut _ _ na (Heap.get?_push_of_some _ e));have hT:IsPair h8 h5.objs.size x y:=s8.extBut _ _ (Nat.ne_of_gt zlt) (s7.extBut _ _ (Nat.ne_of_gt zlt) (Heap.get?_push_size _ rfl));have sz8:h8.objs.size=h5.objs.size+1:=by rw [s8.1,s7.1,Heap.size_push]
 rw [sz] at hZ8 hT sz8;refine wpAny_pure ⟨_,rfl,?_⟩;show Q (.ref h5.objs.size) _;rw [sz];refine fin h8 hZ8 (up _ _ (Ne.symm zO) hO5) (hi5.move fun o e=>up _ o (Ne.symm zi) e) (hj5.move fun o e=>up _ o (Ne.symm zj) e) hT sz8 fun a o ha e=>up a o ?_ (kp a o ha e);simp only [List.mem_cons,List.not_mem_nil,or_false,not_or] at ha;exact ha.1
theorem Ox {b c:Bool} {z U O i j l m:Addr} {k:Nat} {xs ys:Array Value} {p q:Value} {Q:Fin->Shared->Prop} (hA:A.handled=none) (D:NB z U O i j l m) (hZ:IsZip s.heap z U O .none) (hU:IsPair s.heap U (.ref i) (.ref j)) (hO:IsPair s.heap O p q)
  (hi:BO b s.heap i l k) (hj:BO c s.heap j m k) (hl:Dc b s.heap l xs) (hm:Dc c s.heap m ys) (hend:xs[k]?=none\/ys[k]?=none)
  (fin:∀ g e,(∀ a o,a ∉ [z,O,i,j]->s.heap.get? a=some o->g.get? a=some o)->(∃ o,g.get? e=some o/\o.cls=.type "StopIteration")->E (.ref e) { s with heap:=g }) :
  wpAny (model prog w) A (Builtin.«zip.__next__» ⟨[.ref z],[]⟩) Q E s:=by
 obtain ⟨nd,nl,nm⟩:=D;simp only [List.nodup_cons,List.mem_cons,List.not_mem_nil,or_false,not_or,List.nodup_nil,and_true,not_false_eq_true] at nd nl nm;obtain ⟨⟨zU,zO,zi,zj⟩,⟨UO,Ui,Uj⟩,⟨Oi,Oj⟩,ij⟩:=nd;obtain ⟨lz,lO,li,lj⟩:=nl;obtain ⟨mz,mO,mi,mj⟩:=nm;show wpAny _ _ (field (.ref z) 2 >>= _) _ _ _;refine wpAny_bind (wpAny_field hZ rfl (x:=.bool false) rfl ?_);show wpAny _ _ (field (.ref z) 3 >>= _) _ _ _;refine wpAny_bind (wpAny_field hZ rfl (x:=.ref U) rfl (wpAny_bind (wpAny_seqItems hU rfl ?_)));show wpAny _ _ (Builtin.SmallTypes.ownedTupleIsFree (.ref z) >>= _) _ _ _;refine wpAny_bind ?_;unfold Builtin.SmallTypes.ownedTupleIsFree;refine wpAny_bind (wpAny_field hZ rfl (x:=.none) rfl (wpAny_pure ?_));simp only [if_true];refine wpAny_bind (wpAny_rule (wpAny_bind (wpAny_field hZ rfl (x:=.ref O) rfl (wpAny_bind (wpAny_setField_rec hZ (by simp) fun h1 hZ1 s1=>?_)))));replace hZ1:IsZip h1 z U O .ellipsis:=hZ1;refine wpAny_bind ?_;simp only [List.zipIdx_cons,List.zipIdx_nil,List.forIn_cons,List.forIn_nil];refine wpAny_bind (wpAny_bind (wpAny_onRaise ?_));show wpAny _ _ (Builtin.SmallTypes.nextOf (.ref i) >>= _) _ _ _;have out:∀ {a:Addr},a ∉ [z,O,i,j]->a≠z/\a≠O/\a≠i/\a≠j:=fun ha=>by simpa only [List.mem_cons,List.not_mem_nil,or_false,not_or] using ha
 cases hx:xs[k]? with
 | none =>
  refine wpAny_bind (DU hA (hi.move fun o e=>s1.extBut _ _ (Ne.symm zi) e) (hl.move fun o e=>s1.extBut _ _ lz e) hx fun h2 e s2 he=>?_);obtain ⟨oe,hoe,hce⟩:=he;have hZ2:IsZip h2 z U O .ellipsis:=s2 _ _ zi hZ1;have ez:e≠z:=fun t=>by subst t; rw [hZ2] at hoe; cases hoe; simp at hce
  exact wpAny_setField_rec hZ2 (by simp) fun h3 _ s3=>fin h3 e (fun a o ha t=>s3.extBut _ _ (out ha).1 (s2 _ _ (out ha).2.2.1 (s1.extBut _ _ (out ha).1 t))) ⟨oe,s3.extBut _ _ ez hoe,hce⟩
 | some x =>
  have hy:ys[k]?=none:=by
   rcases hend with t | t
   ·rw [hx] at t; cases t
   ·exact t
  refine wpAny_bind (CP (hi.move fun o e=>s1.extBut _ _ (Ne.symm zi) e) (hl.move fun o e=>s1.extBut _ _ lz e) hx fun h2 hi2 s2=>wpAny_pure ?_);have hO2:IsPair h2 O p q:=s2.extBut _ _ Oi (s1.extBut _ _ (Ne.symm zO) hO);refine wpAny_bind (wpAny_seqItems hO2 rfl (wpAny_bind (wpAny_updateSeq_pair hO2 fun h3 hO3 s3=>?_)));refine wpAny_bind (wpAny_letGo (wpAny_pure (wpAny_bind (wpAny_bind (wpAny_onRaise ?_)))));show wpAny _ _ (Builtin.SmallTypes.nextOf (.ref j) >>= _) _ _ _;refine wpAny_bind (DU hA (hj.move fun o e=>s3.extBut _ _ (Ne.symm Oj) (s2.extBut _ _ (Ne.symm ij) (s1.extBut _ _ (Ne.symm zj) e))) (hm.move fun o e=>s3.extBut _ _ mO (s2.extBut _ _ mi (s1.extBut _ _ mz e))) hy fun h4 e s4 he=>?_);obtain ⟨oe,hoe,hce⟩:=he;have hZ4:IsZip h4 z U O .ellipsis:=s4 _ _ zj (s3.extBut _ _ zO (s2.extBut _ _ zi hZ1));have ez:e≠z:=fun t=>by subst t; rw [hZ4] at hoe; cases hoe; simp at hce
  exact wpAny_setField_rec hZ4 (by simp) fun h5 _ s5=>fin h5 e (fun a o ha t=>s5.extBut _ _ (out ha).1 (s4 _ _ (out ha).2.2.2 (s3.extBut _ _ (out ha).2.1 (s2.extBut _ _ (out ha).2.2.1 (s1.extBut _ _ (out ha).1 t))))) ⟨oe,s5.extBut _ _ ez hoe,hce⟩
theorem Oz (g2:Heap) (n:Nat) (e2:g2.objs.size=n+2) (i j:Value):∃ g5,g5=((g2.push { cls:=.type "tuple",data:=.seq #[i,j] }).push { cls:=.type "tuple",data:=.seq #[.none,.none] }).push
   { cls:=.type "zip",data:=.fields #[.none,.bool false,.bool false,.ref g2.objs.size,.ref (g2.push { cls:=.type "tuple",data:=.seq #[i,j] }).objs.size] } /\
  IsZip g5 (n+4) (n+2) (n+3) .none/\IsPair g5 (n+2) i j/\IsPair g5 (n+3) .none .none/\(∀ a o,g2.get? a=some o->g5.get? a=some o) /\
  ((g2.push { cls:=.type "tuple",data:=.seq #[i,j] }).push { cls:=.type "tuple",data:=.seq #[.none,.none] }).objs.size=n+4:=by
 have e3:(g2.push { cls:=.type "tuple",data:=.seq #[i,j] }).objs.size=n+3:=by rw [Heap.size_push,e2]
 have e4:((g2.push { cls:=.type "tuple",data:=.seq #[i,j] }).push { cls:=.type "tuple",data:=.seq #[.none,.none] }).objs.size=n+4:=by rw [Heap.size_push,e3]
 refine ⟨_,rfl,?_,?_,?_,fun a o e=>Heap.get?_push_of_some _ (Heap.get?_push_of_some _ (Heap.get?_push_of_some _ e)),e4⟩
 ·have q:=Heap.get?_push_size ((g2.push { cls:=.type "tuple",data:=.seq #[i,j] }).push { cls:=.type "tuple",data:=.seq #[.none,.none] }) (o:={ cls:=.type "zip",data:=.fields #[.none,.bool false,.bool false,.ref g2.objs.size,.ref (g2.push { cls:=.type "tuple",data:=.seq #[i,j] }).objs.size] }) rfl;rw [e4] at q;show _=some _;rw [q,e2,e3]
 ·have q:=Heap.get?_push_of_some { cls:=.type "zip",data:=.fields #[.none,.bool false,.bool false,.ref g2.objs.size,.ref (g2.push { cls:=.type "tuple",data:=.seq #[i,j] }).objs.size] } (Heap.get?_push_of_some { cls:=.type "tuple",data:=.seq #[.none,.none] } (Heap.get?_push_size g2 (o:={ cls:=.type "tuple",data:=.seq #[i,j] }) rfl));rw [<-e2];exact q
 ·have q:=Heap.get?_push_of_some { cls:=.type "zip",data:=.fields #[.none,.bool false,.bool false,.ref g2.objs.size,.ref (g2.push { cls:=.type "tuple",data:=.seq #[i,j] }).objs.size] } (Heap.get?_push_size (g2.push { cls:=.type "tuple",data:=.seq #[i,j] }) (o:={ cls:=.type "tuple",data:=.seq #[.none,.none] }) rfl);rw [<-e3];exact q
theorem NY {b c:Bool} (l m:Addr) (xs ys:Array Value):Meets (Builtin.«zip.__new__» ⟨[.type "zip",.ref l,.ref m],[]⟩) (fun _ R s=>Dc b s.heap l xs/\Dc c s.heap m ys /\
   ∀ g,IsZip g (s.heap.objs.size+4) (s.heap.objs.size+2) (s.heap.objs.size+3) .none->IsPair g (s.heap.objs.size+2) (.ref s.heap.objs.size) (.ref (s.heap.objs.size+1))->IsPair g (s.heap.objs.size+3) .none .none ->
    BO b g s.heap.objs.size l 0->BO c g (s.heap.objs.size+1) m 0->(∀ a o,s.heap.get? a=some o->g.get? a=some o)->R (.ok (.ret (.ref (s.heap.objs.size+4)))) { s with heap:=g }) :=
 .of_wp fun prog w A R s h=>by
  obtain ⟨hp,g,d,tk,os⟩:=s;obtain ⟨hl,hm,h⟩:=h;have hsub:=sub_zip
  wp_walk using DR hl
  intro g1 i1 z1 k1;have hm1:Dc c (Shared.heap ⟨g1,g,d,tk,os⟩) m ys:=hm.move fun o e=>k1 _ o e
  wp_walk using DR hm1
  intro g2 i2 z2 k2
  wp_walk
  refine ⟨_,rfl,?_⟩;have e1:g1.objs.size=hp.objs.size+1:=z1;have e2:g2.objs.size=hp.objs.size+2:=by rw [show g2.objs.size=g1.objs.size+1 from z2,e1]
  obtain ⟨g5,e5,a1,a2,a3,k5,s5⟩:=Oz g2 hp.objs.size e2 (.ref hp.objs.size) (.ref g1.objs.size);have a2':IsPair g5 (hp.objs.size+2) (.ref hp.objs.size) (.ref (hp.objs.size+1)):=by rw [<-e1]; exact a2
  have i2':BO c g2 (hp.objs.size+1) m 0:=by rw [<-e1]; exact i2
  have key:=h g5 a1 a2' a3 ((i1.move fun o e=>k2 _ o e).move fun o e=>k5 _ o e) (i2'.move fun o e=>k5 _ o e) fun a o e=>k5 _ _ (k2 _ _ (k1 _ _ e));dsimp only at key;rw [e5,<-s5] at key;exact key
theorem Inv.turnedL {X:Cx} {pins:List (Addr×Obj)} {σ:St} {H:Hp} {s:Shared} {g:Heap} {tk:Nat} {ch:List Addr} (I:Inv X pins σ H s) (k:∀ b o,b ∉ ch->s.heap.get? b=some o->g.get? b=some o) (hch:∀ b ∈ ch,Dd X pins H b):Inv X pins σ H { s with heap:=g,toks:=tk }:=by
 have nch:∀ b u,H b=some u->b ∉ ch:=fun b u e z=>by rw [(hch b z).1] at e; cases e
 refine I.step (g':=s.gens) (d':=s.drawn) (ch:=ch) (fun b hb=>⟨(hch b hb).2.2.2.1,(hch b hb).2.1,(hch b hb).2.2.2.2.1,(hch b hb).2.2.2.2.2⟩) (fun b o _ _ hc e _=>k b o hc e) (fun b o _ _ hc e _=>⟨o.slots,k b o hc e⟩) (fun _ _ _ _ n=>n)
  (fun b o hc e=>⟨o,k b o hc e⟩) (fun _ _ e=>e) (fun _ _ _ e=>e) (fun b ps e=>⟨#[],by rw [e]; simp⟩) (fun m hm=>?_) (fun b u e=>?_) I.bare
 ·obtain ⟨o,es,ep,ho,r⟩:=hm;exact ⟨o,es,ep,k _ o (fun z=>(hch _ z).2.1 rfl) ho,r⟩
 ·refine (I.hok b u e).stay (fun c v hc q=>k c v ?_ q) (fun _ q=>q) fun _ _ q=>q;rcases hc with z | z
  ·rw [z]; exact nch b u e
  ·exact nch c _ z
theorem Inv.pair {X:Cx} {pins:List (Addr×Obj)} {σ:St} {H:Hp} {s:Shared} {g:Heap} {tk n:Nat} {ch:List Addr} {x y:V} {u v:Value} (I:Inv X pins σ H s) (k:∀ b o,b ∉ ch->s.heap.get? b=some o->g.get? b=some o) (hch:∀ b ∈ ch,Dd X pins H b)
  (rx:AM x u) (ry:AM y v) (e:g.get? s.heap.objs.size=some { cls:=.type "tuple",data:=.seq #[u,v] n }):H s.heap.objs.size=none/\Inv X pins σ (upd H s.heap.objs.size (.tup [x,y])) { s with heap:=g,toks:=tk }:=by
 have f:=I.fpOk (Nat.le_refl _) I.fresh;refine ⟨f.1,(I.turnedL (tk:=tk) k hch).track f.1 (Heap.get?_none_of_le I.sz) (Heap.get?_none_of_le (Nat.le_trans I.ok.bsz I.sz)) (Ne.symm f.2.1) f.2.2.2.2.1 f.2.2.2.2.2 (fun b hb z=>f.2.2.1 (z ▸ hb)) ?_⟩;exact ⟨by show 2<=sizeLine; decide,[u,v],.cons rx (.cons ry .nil),_,e,rfl,n,rfl⟩
theorem Inv.sq {X:Cx} {pins:List (Addr×Obj)} {σ:St} {H:Hp} {s:Shared} {b:Bool} {a:Addr} {xs:List V} (I:Inv X pins σ H s) (h:SqX X.K b H a xs):∃ its:List Value,Aw xs its/\Dc b s.heap a its.toArray:=by
 cases b with
 | true =>
  obtain ⟨its,r,p,_⟩:=I.tuple h;exact ⟨its,r,p⟩
 | false =>
  obtain ⟨its,r,p,_⟩:=I.list h;exact ⟨its,r,p.isList⟩
theorem Inv.sq_inj {X:Cx} {pins:List (Addr×Obj)} {σ:St} {H:Hp} {s:Shared} {b:Bool} {a:Addr} {xs ys:List V} (I:Inv X pins σ H s) (h:SqX X.K b H a xs) (h':SqX X.K b H a ys):xs=ys:=by
 cases b with
 | true=>exact I.tuple_inj h h'
 | false=>exact I.list_inj h h'
def Itz (K:PySem.W.Frag) (b c:Bool) (l m:Addr):It :=
 ⟨fun i H=>∃ xs ys x y,SqX K b H l xs/\SqX K c H m ys/\xs[i]?=some x/\ys[i]?=some y,
  fun i H v H'=>∃ (T:Addr) (x y:V),v=.ref T/\H T=none/\H'=upd H T (.tup [x,y])/\(∀ xs,SqX K b H l xs->xs[i]?=some x)/\∀ ys,SqX K c H m ys->ys[i]?=some y,
  fun i H=>∃ xs ys,SqX K b H l xs/\SqX K c H m ys/\(xs.length<=i\/ys.length<=i)⟩
def ZipTn (b c:Bool) (z U O i j l m:Addr) (k:Nat) (h:Heap):Prop:=IsZip h z U O .none/\IsPair h U (.ref i) (.ref j)/\(∃ p q,IsPair h O p q)/\BO b h i l k/\BO c h j m k
theorem OF {P:Program} {w:World} {K:PySem.W.Frag} {es:List Expr} {n:Nat} {tpos:Pos} {b c:Bool} {z U O i j l m:Addr} (D:NB z U O i j l m):IL P w K (.Tuple es n tpos) (Itz K b c l m) [z,U,O,i,j] z (ZipTn b c z U O i j l m) where
 mem:=by simp
 obj:=fun k h st a ha=>by
  obtain ⟨hZ,hU,⟨p,q,hO⟩,hi,hj⟩:=st;simp only [List.mem_cons,List.not_mem_nil,or_false] at ha;rcases ha with rfl | rfl | rfl | rfl | rfl
  ·exact ⟨_,hZ,fun v t=>by cases t⟩
  ·exact ⟨_,hU,fun v t=>by cases t⟩
  ·exact ⟨_,hO,fun v t=>by cases t⟩
  ·exact hi.there
  ·exact hj.there
 keep:=fun k h h' st kp=>by
  obtain ⟨hZ,hU,⟨p,q,hO⟩,hi,hj⟩:=st;exact ⟨kp z (by simp) _ hZ,kp U (by simp) _ hU,⟨p,q,kp O (by simp) _ hO⟩,hi.move fun o e=>kp i (by simp) o e,hj.move fun o e=>kp j (by simp) o e⟩
 item:=by
  intro X hP hw hK hc k pins s σ H E I hf st hg;subst hP hw hK;obtain ⟨hZ,hU,⟨p,q,hO⟩,hi,hj⟩:=st;obtain ⟨xs,ys,x,y,sx,sy,hx,hy⟩:=hg;obtain ⟨us,ru,ou⟩:=I.sq sx;obtain ⟨vs,rv,ov⟩:=I.sq sy;obtain ⟨u,hu,rxu⟩:=ru.get hx;obtain ⟨v,hv,ryv⟩:=rv.get hy;have hT:s.TypeIs (.ref z) "zip" := ⟨_,hZ,rfl⟩
  unfold pyNext;refine wpAny_bind (wpAny_attempt (wpAny_callSpecial?_slot (name:=Str.ofString "__next__") hT F.slot_zip_next (wpAny_call_entry F.slot_zip_next hT F.entry_zip_next (Oy D hZ hU hO hi hj ou ov (by simpa using hu) (by simpa using hv) fun g gZ gO gi gj gT gs gk=>wpAny_pure ⟨_,rfl,?_⟩) (F.args_zip_next_1 _))));refine wpAny_letOwnedTupleGo_zip (s:={ s with heap:=g }) gZ fun g2 gZ2 sb=>?_;obtain ⟨nd,nl,nm⟩:=D;simp only [List.nodup_cons,List.mem_cons,List.not_mem_nil,or_false,not_or,List.nodup_nil,and_true,not_false_eq_true] at nd;obtain ⟨⟨zU,zO,zi,zj⟩,⟨UO,Ui,Uj⟩,⟨Oi,Oj⟩,ij⟩:=nd;have zlt:z < s.heap.objs.size:=Heap.lt_size hZ;have kk:∀ a o,a ∉ [z,O,i,j]->s.heap.get? a=some o->g2.get? a=some o:=fun a o ha e=>(sb.2 a (fun t=>ha (by simp [t]))).trans (gk a o ha e);have fch:∀ a ∈ [z,O,i,j],Dd X pins H a:=fun a ha=>hf a (by
   simp only [List.mem_cons,List.not_mem_nil,or_false] at ha ⊢;rcases ha with t | t | t | t<;>simp [t])
  obtain ⟨nT,J⟩:=I.pair (tk:=s.toks) kk fch rxu ryv ((sb.2 _ (Nat.ne_of_gt zlt)).trans gT);refine ⟨.ref s.heap.objs.size,_,J,rfl,⟨_,x,y,rfl,nT,rfl,fun xs' q'=>by rw [I.sq_inj q' sx]; exact hx,fun ys' q'=>by rw [I.sq_inj q' sy]; exact hy⟩,⟨gZ2,kk U _ ?_ hU,⟨u,v,(sb.2 O (Ne.symm zO)).trans gO⟩,gi.move fun o e=>(sb.2 i (Ne.symm zi)).trans e,gj.move fun o e=>(sb.2 j (Ne.symm zj)).trans e⟩,fun a ha=>?_⟩
  ·simp only [List.mem_cons,List.not_mem_nil,or_false,not_or];exact ⟨Ne.symm zU,UO,Ui,Uj⟩
  ·have e:=(hf a ha).1;have lt:a≠s.heap.objs.size:=by
    simp only [List.mem_cons,List.not_mem_nil,or_false] at ha;rcases ha with t | t | t | t | t<;>subst t
    ·exact Nat.ne_of_lt zlt
    ·exact Nat.ne_of_lt (Heap.lt_size hU)
    ·exact Nat.ne_of_lt (Heap.lt_size hO)
    ·obtain ⟨o,e,_⟩:=hi.there; exact Nat.ne_of_lt (Heap.lt_size e)
    ·obtain ⟨o,e,_⟩:=hj.there; exact Nat.ne_of_lt (Heap.lt_size e)
   rw [Ak lt];exact e
 done:=by
  intro X hP hw hK hc k pins s σ H E I hf st hg;subst hP hw hK;obtain ⟨hZ,hU,⟨p,q,hO⟩,hi,hj⟩:=st;obtain ⟨xs,ys,sx,sy,hend⟩:=hg;obtain ⟨us,ru,ou⟩:=I.sq sx;obtain ⟨vs,rv,ov⟩:=I.sq sy;have lu:=ru.length;have lv:=rv.length;have hT:s.TypeIs (.ref z) "zip" := ⟨_,hZ,rfl⟩
  have he:us.toArray[k]?=none\/vs.toArray[k]?=none:=hend.imp (fun t=>by simp; lia) (fun t=>by simp; lia);unfold pyNext;refine wpAny_bind (wpAny_attempt (wpAny_callSpecial?_slot (name:=Str.ofString "__next__") hT F.slot_zip_next (wpAny_call_entry F.slot_zip_next hT F.entry_zip_next (Ox (I.ok.hd hc) D hZ hU hO hi hj ou ov he fun g e gk ge=>?_) (F.args_zip_next_1 _))));obtain ⟨o,ho,hcl⟩:=ge;refine wpAny_bind (wpAny_isInstance (T:="StopIteration") (b:=true) ⟨o,ho,hcl⟩ isSubtype_stop (wpAny_pure ⟨rfl,?_⟩));exact I.turnedL (tk:=s.toks) gk fun a ha=>hf a (by
   simp only [List.mem_cons,List.not_mem_nil,or_false] at ha ⊢;rcases ha with t | t | t | t<;>simp [t])
 self:=fun _ _ _ _ _ st h=>wpAny_pyIter_zip st.1 h
end
end L2
namespace L2
open PySem PySem.Spec PyProof.Rows
theorem Dc.obj {b:Bool} {h:Heap} {l:Addr} {vs:Array Value} (x:Dc b h l vs):∃ o,h.get? l=some o:=by
 cases b with
 | true=>obtain ⟨o,e,_⟩:=x; exact ⟨o,e⟩
 | false=>obtain ⟨o,e,_⟩:=x; exact ⟨o,e⟩
theorem On (g1:Heap) (n:Nat) (e1:g1.objs.size=n+1):∃ g2,g2=g1.push { cls:=.type "enumerate",data:=.fields #[.none,.bool false,.ref n,rawInt 0,.none,.none] }/\IsEnum g2 (n+1) n 0 .none/\∀ a o,g1.get? a=some o->g2.get? a=some o:=by
 refine ⟨_,rfl,?_,fun a o e=>Heap.get?_push_of_some _ e⟩;have q:=Heap.get?_push_size g1 (o:={ cls:=.type "enumerate",data:=.fields #[.none,.bool false,.ref n,rawInt 0,.none,.none] }) rfl;rw [e1] at q;exact q
set_option maxHeartbeats 1000000 in
theorem Mz {b:Bool} (l:Addr) (xs:Array Value):Meets (Builtin.«enumerate.__new__» ⟨[.type "enumerate",.ref l],[]⟩) (fun _ R s=>Dc b s.heap l xs /\
   ∀ g,IsEnum g (s.heap.objs.size+1) s.heap.objs.size 0 .none->BO b g s.heap.objs.size l 0->(∀ a o,s.heap.get? a=some o->g.get? a=some o)->R (.ok (.ret (.ref (s.heap.objs.size+1)))) { s with heap:=g }) :=
 .of_wp fun prog w A R s h=>by
  obtain ⟨hp,g,d,tk,os⟩:=s;obtain ⟨hl,h⟩:=h;obtain ⟨ol,eol⟩:=hl.obj;have hsub:=sub_enumerate;have fin:∀ g1,BO b g1 hp.objs.size l 0->g1.objs.size=hp.objs.size+1->(∀ c o,hp.get? c=some o->g1.get? c=some o)->∃ v,Fin.done (Flow.ret (.ref g1.objs.size))=Fin.done (Flow.ret v)/\R (.ok (.ret v)) ⟨g1.push { cls:=.type "enumerate",data:=.fields #[.none,.bool false,.ref hp.objs.size,rawInt 0,.none,.none] },g,d,tk,os⟩:=fun g1 i1 z1 k1=>by
   obtain ⟨g2,e2,a1,k2⟩:=On g1 hp.objs.size z1;refine ⟨_,rfl,?_⟩;have key:=h g2 a1 (i1.move fun o e=>k2 _ o e) fun a o e=>k2 _ _ (k1 _ _ e);dsimp only at key;rw [e2,<-z1] at key;exact key
  wp_walk using AutoSeq1.wpAny_loadPart' eol
  refine wpAny_stack_any fun st=>wpAny_pure ?_;split
  ·rename_i c' _ _ _ _ _;cases (c' == Value.type "enumerate")
   ·wp_walk using AutoSeq1.wpAny_loadPart' eol,DR hl
    intro g1 i1 z1 k1
    wp_walk
    exact fin g1 i1 z1 k1
   ·wp_walk using AutoSeq1.wpAny_loadPart' eol,DR hl
    intro g1 i1 z1 k1
    wp_walk
    exact fin g1 i1 z1 k1
  ·wp_walk using AutoSeq1.wpAny_loadPart' eol,DR hl
   intro g1 i1 z1 k1
   wp_walk
   exact fin g1 i1 z1 k1
theorem Ji {prog:Program} {w:World} {A:Around} {b:Bool} (hA:A.handled=none) (I l:Addr) (ne:l≠I) (vs:Array Value) :
  Draws prog w A I [I,l] vs.size (fun k v=>vs[k]?=some v) (fun k h=>BO b h I l k/\Dc b h l vs) where
 live:=fun _ _ st=>let ⟨o,ho,_⟩:=st.1.there; ⟨o,ho⟩
 frame:=fun _ _ _ st hk=>⟨st.1.move fun o e=>hk I (by simp) o e,st.2.move fun o e=>hk l (by simp) o e⟩
 item:=fun k s Q E hi st hQ=>CP st.1 st.2 (v:=vs[k]) (by simp [hi]) fun g hI sb=>hQ _ g s.toks (by simp [hi]) ⟨hI,st.2.move fun o e=>(sb.2 l ne).trans e⟩ sb
 done:=fun s Q E st hE=>DU hA st.1 st.2 (by simp) hE
def Ite (K:PySem.W.Frag) (b:Bool) (l:Addr):It :=
 ⟨fun i H=>∃ xs x,SqX K b H l xs/\xs[i]?=some x,
  fun i H v H'=>∃ (T:Addr) (x:V),v=.ref T/\H T=none/\H'=upd H T (.tup [.int i,x])/\∀ xs,SqX K b H l xs->xs[i]?=some x,
  fun i H=>∃ xs,SqX K b H l xs/\xs.length=i⟩
theorem NF {P:Program} {w:World} {K:PySem.W.Frag} {es:List Expr} {n:Nat} {tpos:Pos} {b:Bool} {e I l:Addr} (eI:e≠I) (le:l≠e) (lI:l≠I) :
  IL P w K (.Tuple es n tpos) (Ite K b l) [e,I] e (fun k h=>(∃ old,IsEnum h e I k old)/\BO b h I l k) where
 mem:=by simp
 obj:=fun k h st a ha=>by
  obtain ⟨⟨old,he⟩,hI⟩:=st;simp only [List.mem_cons,List.not_mem_nil,or_false] at ha;rcases ha with rfl | rfl
  ·exact ⟨_,he,fun v t=>by cases t⟩
  ·exact hI.there
 keep:=fun k h h' st kp=>by
  obtain ⟨⟨old,he⟩,hI⟩:=st;exact ⟨⟨old,kp e (by simp) _ he⟩,hI.move fun o t=>kp I (by simp) o t⟩
 item:=by
  intro X hP hw hK hc k pins s σ H E J hf st hg;subst hP hw hK;obtain ⟨⟨old,he⟩,hI⟩:=st;obtain ⟨xs,x,sx,hx⟩:=hg;obtain ⟨us,ru,ou⟩:=J.sq sx;have lu:=ru.length;have hk:k < xs.length:=(List.getElem?_eq_some_iff.mp hx).1;refine wpAny_pyNext_enum_itemD (Ji (b:=b) (A:=X.A.in1) (J.ok.hd hc) I l lI us.toArray) he ⟨hI,ou⟩ (by simp; lia) eI (by simp [eI,Ne.symm le]) fun u g tk hu gE gS gT gs gk=>⟨_,rfl,?_⟩
  obtain ⟨u',hu',rxu⟩:=ru.get hx;have eu:u=u':=by
   have:us[k]?=some u:=by simpa using hu
   rw [hu'] at this;exact (Option.some.inj this).symm
  subst eu;refine wpAny_letOwnedTupleGo_enum (s:={ s with heap:=g,toks:=tk+1 }) gE fun g2 gE2 sb=>?_;have elt:e < s.heap.objs.size:=Heap.lt_size he;have kk:∀ a o,a ∉ [e,I]->s.heap.get? a=some o->g2.get? a=some o:=fun a o ha t=>(sb.2 a (fun z=>ha (by simp [z]))).trans (gk a o (fun z=>ha (by simp [z])) (fun z=>ha (by simp [z])) t);obtain ⟨nT,J2⟩:=J.pair (tk:=tk+1) (x:=.int k) (u:=.int k tk) kk hf ⟨tk,rfl⟩ rxu ((sb.2 _ (Nat.ne_of_gt elt)).trans gT);refine ⟨.ref s.heap.objs.size,_,J2,rfl,⟨_,x,rfl,nT,rfl,fun xs' q'=>by rw [J.sq_inj q' sx]; exact hx⟩,⟨⟨_,by simpa using gE2⟩,gS.1.move fun o t=>(sb.2 I (Ne.symm eI)).trans t⟩,fun a ha=>?_⟩;have t:=(hf a ha).1;have lt:a≠s.heap.objs.size:=by
   simp only [List.mem_cons,List.not_mem_nil,or_false] at ha;rcases ha with z | z<;>subst z
   ·exact Nat.ne_of_lt elt
   ·obtain ⟨o,t,_⟩:=hI.there; exact Nat.ne_of_lt (Heap.lt_size t)
  rw [Ak lt];exact t
 done:=by
  intro X hP hw hK hc k pins s σ H E J hf st hg;subst hP hw hK;obtain ⟨⟨old,he⟩,hI⟩:=st;obtain ⟨xs,sx,hend⟩:=hg;obtain ⟨us,ru,ou⟩:=J.sq sx;have lu:=ru.length;have ek:k=us.toArray.size:=by simp; lia
  refine wpAny_pyNext_enum_endD (Ji (b:=b) (A:=X.A.in1) (J.ok.hd hc) I l lI us.toArray) he ⟨ek ▸ hI,ou⟩ fun g gk=>⟨rfl,?_⟩
  exact J.turnedL (tk:=s.toks) (ch:=[e,I]) (fun a o ha t=>gk a o (fun z=>ha (by simp [z])) t) hf
 self:=fun A i s Q E st h=>by
  obtain ⟨⟨old,he⟩,_⟩:=st;exact wpAny_pyIter_enum he h
section
variable {X:Cx} {es:List Expr} {n:Nat} {tpos p pos:Pos} {e1 e2:Expr} {t:TA}
def iZip (b c:Bool) (K:PySem.W.Frag) (t:TA):TI:=fun σ H R=>t σ H fun vs H1=>∃ (l m:Addr),vs=[.ref l,.ref m]/\(∃ xs,SqX K b H1 l xs)/\(∃ ys,SqX K c H1 m ys)/\R (Itz K b c l m) H1
theorem Dc.lt {b:Bool} {h:Heap} {l:Addr} {vs:Array Value} (x:Dc b h l vs):l < h.objs.size:=by
 cases b with
 | true=>obtain ⟨o,e,_⟩:=x; exact Heap.lt_size e
 | false=>obtain ⟨o,e,_⟩:=x; exact Heap.lt_size e
theorem apart5 (n l m:Nat) (hl:l < n) (hm:m < n):NB (n+4) (n+2) (n+3) n (n+1) l m:=by
 refine ⟨(show ([n+4,n+2,n+3,n,n+1]:List Nat).Nodup from ?_),(show l ∉ ([n+4,n+3,n,n+1]:List Nat) from ?_),(show m ∉ ([n+4,n+3,n,n+1]:List Nat) from ?_)⟩
 ·simp only [List.nodup_cons,List.mem_cons,List.not_mem_nil,or_false,not_or,List.nodup_nil,and_true,not_false_eq_true];lia
 ·simp only [List.mem_cons,List.not_mem_nil,or_false,not_or];lia
 ·simp only [List.mem_cons,List.not_mem_nil,or_false,not_or];lia
theorem pi_zip (b c:Bool) (hg:Gl X "zip") (hm:X.mg "zip" = none) (ha:PA X [e1,e2] t) (hs:starEach [e1,e2] X.env=[(false,eval e1 X.env),(false,eval e2 X.env)]:=by rfl) (hs2:starEach [e2] X.env=[(false,eval e2 X.env)]:=by rfl) :
  PI X (.Tuple es n tpos) (.Call (.Name "zip" p) [e1,e2] [] pos) (iZip b c X.K t):=by
 intro pins s σ H R I h;refine Call_ (Ev I hg hm PyProof.Rows.boot_zip (PyProof.Rows.callWith_type1 (thn (ha pos pins s σ H _ I h) fun us s1 ⟨vs,H1,I1,r1,q1⟩=>?_) (by rw [hs,hs2]) (by rw [hs2]; rfl)));obtain ⟨l,m,rfl,⟨xs,sx⟩,⟨ys,sy⟩,q⟩:=q1;obtain ⟨u,v,rfl,ru,rv⟩:=r1.two;cases (show u=Value.ref l from ru);cases (show v=Value.ref m from rv);obtain ⟨ul,_,ol⟩:=I1.sq sx;obtain ⟨um,_,om⟩:=I1.sq sy;refine callType_new F.called_zip (by decide) (F.typeCall_zip_2 _ _) (F.newCall_zip_2 _ _) (fun obj=>F.args_object_init_3 obj _ _) F.entry_zip_new (NY (b:=b) (c:=c) l m ul.toArray um.toArray) ⟨ol,om,fun g gZ gU gO gi gj gk=>?_⟩;refine ⟨⟨_,gZ,rfl⟩,wpAny_pyIter_zip (s:={ s1 with heap:=g }) gZ ?_⟩;have ll:=ol.lt;have lm:=om.lt;have hA:=apart5 s1.heap.objs.size l m ll lm;refine ⟨s1.heap.objs.size+4,_,_,_,H1,rfl,I1.kept (t':=s1.toks) gk,OF hA,⟨gZ,gU,⟨_,_,gO⟩,gi,gj⟩,fun a ha=>?_,q⟩;have le:s1.heap.objs.size<=a:=by
  simp only [List.mem_cons,List.not_mem_nil,or_false] at ha;rcases ha with t | t | t | t | t<;>rw [t]<;>first | exact Nat.le_refl _ | exact Nat.le_add_right _ _
 exact I1.fpOk le (I1.hok.fresh le)
def iEnum (b:Bool) (K:PySem.W.Frag) (t:TA):TI:=fun σ H R=>t σ H fun vs H1=>∃ (l:Addr),vs=[.ref l]/\(∃ xs,SqX K b H1 l xs)/\R (Ite K b l) H1
theorem pi_enum (b:Bool) (hg:Gl X "enumerate") (hm:X.mg "enumerate" = none) (ha:PA X [e1] t) (hs:starEach [e1] X.env=[(false,eval e1 X.env)]:=by rfl) :
  PI X (.Tuple es n tpos) (.Call (.Name "enumerate" p) [e1] [] pos) (iEnum b X.K t):=by
 intro pins s σ H R I h;refine Call_ (Ev I hg hm PyProof.Rows.boot_enumerate (PyProof.Rows.callWith_type1 (thn (ha pos pins s σ H _ I h) fun us s1 ⟨vs,H1,I1,r1,q1⟩=>?_) hs rfl));obtain ⟨l,rfl,⟨xs,sx⟩,q⟩:=q1;obtain ⟨u,rfl,ru⟩:=r1.one;cases (show u=Value.ref l from ru);obtain ⟨ul,_,ol⟩:=I1.sq sx;refine callType_new F.called_enumerate (by decide) (F.typeCall_enumerate_1 _) (F.newCall_enumerate_1 _) (fun obj=>F.args_object_init_2 obj _) F.entry_enumerate_new (Mz (b:=b) l ul.toArray) ⟨ol,fun g gE gi gk=>?_⟩;refine ⟨⟨_,gE,rfl⟩,wpAny_pyIter_enum (s:={ s1 with heap:=g }) gE ?_⟩;have ll:=ol.lt;refine ⟨s1.heap.objs.size+1,_,_,_,H1,rfl,I1.kept (t':=s1.toks) gk,NF (e:=s1.heap.objs.size+1) (I:=s1.heap.objs.size) (l:=l) (Nat.succ_ne_self _) (Nat.ne_of_lt (Nat.lt_succ_of_lt ll)) (Nat.ne_of_lt ll),⟨⟨_,gE⟩,gi⟩,fun a ha=>?_,q⟩;have le:s1.heap.objs.size<=a:=by
  simp only [List.mem_cons,List.not_mem_nil,or_false] at ha;rcases ha with t | t<;>rw [t]<;>first | exact Nat.le_refl _ | exact Nat.le_add_right _ _
 exact I1.fpOk le (I1.hok.fresh le)
end
section
variable {K:PySem.W.Frag} {b c:Bool} {l m:Addr} {xs ys:List V} {σ:St} {H:Hp}
theorem Jd {K:PySem.W.Frag} {i j:Nat} {T:Addr} {x y:V} {σ:St} {H:Hp} {Q:St->Hp->Prop} (h:H T=some (.tup [x,y])) (q:Q ((σ.set i (some x)).set j (some y)) H):gTup K 2 (LI (Fi i) (LI (Fi j) gNil)) (.ref T) σ H Q :=
 ⟨T,_,rfl,SqT.of h,rfl,x,_,rfl,y,_,rfl,rfl,q⟩
theorem PM {g:TG} {tb:TS} {D:Iz} (Pv:Nat->St->Hp->Prop) (h0:Pv 0 σ H) (hl:∀ i σ H,i<=xs.length->Pv i σ H->SqX K b H l xs)
  (hs:∀ i x σ H T,xs[i]?=some x->Pv i σ H->H T=none->g (.ref T) σ (upd H T (.tup [.int i,x])) fun σ2 H2=>tb { D with nx:=Pv (i+1),ct:=Pv (i+1),bk:=D.nx } σ2 H2) (hd:∀ σ H,Pv xs.length σ H->D.nx σ H) :
  ∃ W:Nat->Nat->St->Hp->Prop,(∃ m,W 0 m σ H)/\∀ i m σ H,W i m σ H ->
   ((Ite K b l).stop i H/\D.nx σ H)\/((Ite K b l).go i H/\∃ N:St->Hp->Prop,(∀ σ' H',N σ' H'->∃ m',m' < m/\W (i+1) m' σ' H')/\∀ x H',(Ite K b l).yld i H x H'->g x σ H' fun σ2 H2=>tb { D with nx:=N,ct:=N,bk:=D.nx } σ2 H2):=by
 refine ⟨fun i m σ H=>m=xs.length - i/\i<=xs.length/\Pv i σ H,⟨xs.length,by simp,Nat.zero_le _,h0⟩,?_⟩;rintro i m σ H ⟨rfl,hi,p⟩;have q:=hl i σ H hi p;by_cases hlt:i < xs.length
 ·refine .inr ⟨⟨xs,xs[i],q,by simp [hlt]⟩,Pv (i+1),fun σ' H' p'=>⟨xs.length - (i+1),by lia,rfl,hlt,p'⟩,fun x H' y=>?_⟩;obtain ⟨T,z,rfl,nT,rfl,hz⟩:=y;exact hs i z σ _ T (hz xs q) p nT
 ·have e:i=xs.length:=by lia
  subst e;exact .inl ⟨⟨xs,q,rfl⟩,hd σ H p⟩
variable {k:Nat} {cs:List Nat} {g:TG} {tc:TT} {te:TE} {fin:List V->Hp->Prop}
theorem blk_zip (Pv:Nat->List V->Hp->Prop) (h0:Pv 0 [] H) (hl:∀ i acc H,Pv i acc H->SqX K b H l xs/\SqX K c H m ys)
  (hs:∀ i x y acc H T,xs[i]?=some x->ys[i]?=some y->Pv i acc H->H T=none->Bt k cs g tc te σ (.ref T) acc (upd H T (.tup [x,y])) (Pv (i+1))) (hd:∀ acc H,Pv (min xs.length ys.length) acc H->fin acc H):Ec k cs g tc te (Itz K b c l m) σ H fin:=by
 refine ⟨fun i n acc H=>n=min xs.length ys.length - i/\i<=min xs.length ys.length/\Pv i acc H,⟨min xs.length ys.length,by simp,Nat.zero_le _,h0⟩,?_⟩;rintro i n acc H ⟨rfl,hi,p⟩;obtain ⟨qx,qy⟩:=hl i acc H p;by_cases hlt:i < min xs.length ys.length
 ·have lx:i < xs.length:=by lia
  have ly:i < ys.length:=by lia
  refine .inr ⟨⟨xs,ys,xs[i],ys[i],qx,qy,by simp [lx],by simp [ly]⟩,Pv (i+1),fun acc' H' p'=>⟨min xs.length ys.length - (i+1),by lia,rfl,hlt,p'⟩,fun x H' y=>?_⟩;obtain ⟨T,z,z',rfl,nT,rfl,hz,hz'⟩:=y;exact hs i z z' acc _ T (hz xs qx) (hz' ys qy) p nT
 ·have e:i=min xs.length ys.length:=by lia
  subst e;exact .inl ⟨⟨xs,ys,qx,qy,by lia⟩,hd acc H p⟩
theorem blk_str {x:Str} (Pv:Nat->List V->Hp->Prop) (h0:Pv 0 [] H) (hs:∀ i ch acc H,x.cps.toList[i]?=some ch->Pv i acc H->Bt k cs g tc te σ (.str ⟨#[ch]⟩) acc H (Pv (i+1))) (hd:∀ acc H,Pv x.cps.toList.length acc H->fin acc H):Ec k cs g tc te (Its x) σ H fin:=by
 have e0:x.cps.toList.length=x.cps.size:=by simp
 refine ⟨fun i m acc H=>m=x.cps.size - i/\i<=x.cps.size/\Pv i acc H,⟨x.cps.size,by simp,Nat.zero_le _,h0⟩,?_⟩;rintro i m acc H ⟨rfl,hi,p⟩;by_cases hlt:i < x.cps.size
 ·refine .inr ⟨hlt,Pv (i+1),fun acc' H' p'=>⟨x.cps.size - (i+1),by lia,rfl,hlt,p'⟩,fun v H' y=>?_⟩;obtain ⟨e,ch,hch,rfl⟩:=y;subst e;exact hs i ch acc _ (by simpa using hch) p
 ·have e:i=x.cps.size:=by lia
  subst e;exact .inl ⟨rfl,hd acc H (by rw [e0]; exact p)⟩
end
end L2
namespace L2
open PySem PySem.Spec PyProof.Rows
theorem PE.or {X:Cx} {e:Expr} {t u:TE} (h:PE X e t) (h':PE X e u):PE X e (fun σ H Q=>t σ H Q\/u σ H Q):=by
 intro pins s σ H Q I q;rcases q with q | q
 ·exact h pins s σ H Q I q
 ·exact h' pins s σ H Q I q
theorem rm {a b:Nat} {A:Around} (h:Ct b A) (hle:a<=b:=by first | decide | lia):Ct a A:=h.mono hle
structure Cal (P:Program) (w:World) (K:PySem.W.Frag) (mg:Str->Option Value) (base:Heap) (CX:CXT) (k:Nat) (x:Str) (ps:List Str) (sp:Sp):Prop where
 ex:∃ (f:Addr) (fd:FuncData),AS P w K mg base CX k f fd ps sp/\mg x=some (.ref f)/\PySem.W.keepIn K (.ref f)=true/\Eo K fd ps []
structure MQ (P:Program) (w:World) (K:PySem.W.Frag) (mg:Str->Option Value) (base:Heap) (CX:CXT) (k:Nat) (C:Addr) (m:Str) (ps:List Str) (sp:Sp):Prop where
 ex:∃ (f:Addr) (fd:FuncData),AS P w K mg base CX k f fd ps sp/\Ov K C m f/\Eo K fd ps []
 cl:Cls K C
structure Lc (P:Program) (w:World) (K:PySem.W.Frag) (mg:Str->Option Value) (base:Heap) (CX:CXT) (k:Nat) (x:Str) (C:Addr) (ps:List Str) (sp:Sp):Prop where
 ex:∃ (f:Addr) (fd:FuncData),AS P w K mg base CX k f fd ps sp/\Mk K C f/\mg x=some (.ref C)/\Eo K fd ps []
section
variable {X:Cx} {CX:CXT} {k:Nat} {C:Addr} {ps:List Str} {sp:Sp} {E:XK} {x m:Str} {p pos apos:Pos} {e o:Expr} {es:List Expr} {ta:TE} {t:TA}
theorem Aj (c:Cal X.prog X.w X.K X.mg X.base CX k x ps sp) (hr:Ct k X.A) (hg:Gl X x) (hx:ED CX X E) (ha:PA X (e :: es) t) (hdb:(x == ("__debug__" : Str))=false:=by decide)
  (he:starEach (e :: es) X.env=(false,eval e X.env) :: starEach es X.env:=by rfl) (hpl:(backTo pos (starEach es X.env)).any (·.1)=false:=by rfl):PE X (.Call (.Name x p) (e :: es) [] pos) (tCall sp [] E t):=by
 obtain ⟨f,fd,F,hm,hk,hb⟩:=c.ex;exact pe_call F hr hg hm hk hb .nil hx ha hdb he hpl
theorem JC {pl:Sem Bool} (he:PE X o ta) (c:MQ X.prog X.w X.K X.mg X.base CX k C m ps sp) (hr:Ct k X.A) (hx:ED CX X E) (ha:PA X (e :: es) t)
  (hst:starEach (e :: es) X.env=(false,eval e X.env) :: starEach es X.env:=by rfl) (hpl:(backTo pos (starEach es X.env)).any (·.1)=false:=by rfl)
  (ht:eval (.Call (.Attribute o m apos) (e :: es) [] pos) X.env=(do
   let ov <-eval o X.env; standAt apos.atName;let (f,first) <-holding [ov] (getMethod ov m pl); callWith pos f first (backTo pos (starEach (e :: es) X.env)) (backToKw pos (keywordEach [] X.env))):=by rfl):PE X (.Call (.Attribute o m apos) (e :: es) [] pos) (tMeth C m sp [] E ta t):=by
 obtain ⟨f,fd,F,hm,hb⟩:=c.ex;exact pe_meth he c.cl hm F hr hb .nil hx ha hst hpl ht
theorem GB (c:Lc X.prog X.w X.K X.mg X.base CX k x C ps sp) (hr:Ct (k+1) X.A) (hg:Gl X x) (hx:ED CX X E) (ha:PA X (e :: es) t) (hdb:(x == ("__debug__" : Str))=false:=by decide)
  (he:starEach (e :: es) X.env=(false,eval e X.env) :: starEach es X.env:=by rfl) (hpl:(backTo pos (starEach es X.env)).any (·.1)=false:=by rfl):PE X (.Call (.Name x p) (e :: es) [] pos) (tMake C sp [] E t):=by
 obtain ⟨f,fd,F,M,hm,hb⟩:=c.ex;exact pe_make M F hr hg hm hb .nil hx ha hdb he hpl
theorem Ni {i:Int} (hg:Gl X x) (hm:∃ tk,X.mg x=some (.int i tk)) (hd:(x == ("__debug__" : Str))=false:=by decide):PE X (.Name x pos) (tC (.int i)):=by
 obtain ⟨tk,hm⟩:=hm;exact JB hg hm ⟨tk,rfl⟩ hd
theorem GA {z:Str} (hg:Gl X x) (hm:∃ tk,X.mg x=some (.str z tk)) (hd:(x == ("__debug__" : Str))=false:=by decide):PE X (.Name x pos) (tC (.str z)):=by
 obtain ⟨tk,hm⟩:=hm;exact JB hg hm ⟨tk,rfl⟩ hd
theorem pe_gref {a:Addr} (hg:Gl X x) (hm:X.mg x=some (.ref a)) (hd:(x == ("__debug__" : Str))=false:=by decide):PE X (.Name x pos) (tC (.ref a)):=JB hg hm rfl hd
end
def cOk (So:Scope) (No:List Str) (scope:Scope) (N:List Str) (k:Nat) (cs:List Nat):Bool :=
 scope.names.all (fun y=>y.2 != .cell) && (scope.kind == .function && (scope.names.all (fun y=>y.2 != .local || scope.names.lookup y.1 == some .local) && (scope.names.all (fun y=>y.2 != .free || (So.names.lookup y.1 == some .cell || So.names.lookup y.1 == some .free)) &&
  (N.length == k+cs.length && (List.range cs.length).all fun j=>match N[k+j]?,No[cs.getD j 0]? with
   | some x,some y=>x == y && scope.names.lookup x == some .free
   | _,_=>false))))
theorem BU.of {X:Cx} {So:Scope} {No:List Str} {scope:Scope} {N:List Str} {k:Nat} {cs:List Nat} (hS:X.env.scope=So) (hN:X.N=No) (h:cOk So No scope N k cs=true):BU X scope N k cs:=by
 subst hS hN;unfold cOk at h;simp only [Bool.and_eq_true,List.all_eq_true,bne_iff_ne,ne_eq,Bool.or_eq_true,beq_iff_eq,List.mem_range] at h;obtain ⟨h1,h2,h3,h4,h5,h6⟩:=h;refine ⟨h1,h2,fun y hy e=>?_,fun y hy e=>?_,h5,fun j hj=>?_⟩
 ·rcases h3 y hy with z | z
  ·exact absurd e z
  ·exact z
 ·rcases h4 y hy with z | z
  ·exact absurd e z
  ·exact z
 ·have z:=h6 j hj;split at z
  ·rename_i x y e1 e2;simp only [Bool.and_eq_true,beq_iff_eq] at z;obtain ⟨z1,z2⟩:=z;subst z1;exact ⟨x,e1,e2,z2⟩
  ·cases z
theorem GG {σ:St} {H:Hp} {A B:Hp->Prop} (h:A H):tYes σ H fun b H3=>if b=true then A H3 else B H3:=by
 show if true=true then A H else B H;exact Ef h
theorem and_end {tb:TE} {σ:St} {H:Hp} {Q:VK} {b1 b2:Bool} (h2:b1=true->∀ Q':VK,Q' (.bl b2) H->tb σ H Q') (q:Q (.bl (b1 && b2)) H):∃ c,V.bl b1=.bl c/\if c=true then tb σ H Q else Q (.bl false) H:=by
 cases b1 with
 | true=>exact ⟨true,rfl,Ef (h2 rfl Q q)⟩
 | false=>exact ⟨false,rfl,CA q⟩
section
variable {X:Cx} {scope:Scope} {N:List Str} {s:Shared} {H:Hp} {ex:List Addr} {x y:Str} {px py pos:Pos} {k:Nat}
theorem BW {i:Nat} (hN:N.Nodup) (hi:N[i]?=some x) (hl:(relabel scope X.env).names.lookup x=some .local):PG (cxC X scope N s H ex) (.Name x pos) (Fi i):=AR (X:=cxC X scope N s H ex) hN hi (.inl hl) (.inr hl)
theorem Lw {i j:Nat} (hc:X.calm=true) (hN:N.Nodup) (hi:N[i]?=some x) (hj:N[j]?=some y) (hl:(relabel scope X.env).names.lookup x=some .local) (hm:(relabel scope X.env).names.lookup y=some .local) :
  PG (cxC X scope N s H ex) (.Tuple [.Name x px,.Name y py] k pos) (gTup X.K 2 (LI (Fi i) (LI (Fi j) gNil))) :=
 GW (X:=cxC X scope N s H ex) hc (CD (BW hN hi hl) (CD (BW hN hj hm) Fv))
end
theorem Aw.strs:∀ (l:List Str) (k:Nat),Aw (l.map V.str) (strsFrom k l)
 | [],_=>.nil
 | x :: r,k=>.cons ⟨k,rfl⟩ (Aw.strs r (k+1))
section
variable {X:Cx}
theorem LC:MtR X "str.split" (fun x xs H Q=>∃ a b,x=.str a/\xs=[.str b]/\(b.length == 0)=false/\a.length<=100000/\∀ p,H p=none->Q (.ref p) (upd H p (.lst ((Txt.split a b).map V.str)))):=by
 intro pins s σ H x xs v us Q I rx r h;obtain ⟨a,b,rfl,rfl,hb,ha,q⟩:=h;obtain ⟨t,rfl⟩:=rx;obtain ⟨u,rfl,hu⟩:=r.one;obtain ⟨tb,rfl⟩:=hu;have big:a.length+2<=sizeLine:=Nat.le_trans (Nat.add_le_add_right ha 2) (by decide);have fin:∀ (its:List Value) (tk:Nat),Aw ((Txt.split a b).map V.str) its->EP X pins σ Q (.ref s.heap.objs.size) { s with heap:=s.heap.push { cls:=.type "list",data:=.seq its.toArray },toks:=tk }:=fun its tk hv =>
  ⟨.ref _,_,I.lnew (t':=tk) hv (by rw [List.length_map]; exact Nat.le_trans (split_le a b) big),rfl,q _ I.fresh⟩
 by_cases h1:(decide (a.length < b.length) || decide (Builtin.Str.strKind a < Builtin.Str.strKind b))=true
 ·refine call_meets F.slot_str_split (typeIs_str _ _ _) F.entry_str_split (F.args_str_split_2 _ _) (meets_str_split_cannot_occur a b t tb h1) ?_;refine fin _ s.toks ?_;unfold Txt.split;rw [if_pos h1];exact .cons ⟨t,rfl⟩ .nil
 ·have h1':=Bool.eq_false_iff.mpr h1;by_cases h2:(Builtin.Str.occurrences a b 0 a.length (a.length+1)).isEmpty=true
  ·refine call_meets F.slot_str_split (typeIs_str _ _ _) F.entry_str_split (F.args_str_split_2 _ _) (meets_str_split_not_found a b t tb h1' hb h2) ?_;refine fin _ s.toks ?_;unfold Txt.split;rw [if_neg h1,if_pos h2];exact .cons ⟨t,rfl⟩ .nil
  ·have e:Txt.split a b=Builtin.Str.partsBetween a (Builtin.Str.occurrences a b 0 a.length (a.length+1)) b.length:=by
    unfold Txt.split;rw [if_neg h1,if_neg h2]
   refine call_meets F.slot_str_split (typeIs_str _ _ _) F.entry_str_split (F.args_str_split_2 _ _) (meets_str_split_sep a b t tb h1' hb (Bool.eq_false_iff.mpr h2) (by lia) (by rw [<-e]; exact Nat.le_trans (split_le a b) big)) ?_;refine fin _ _ ?_;rw [e];exact Aw.strs _ _
theorem JM:MtR X "str.partition" (fun x xs H Q=>∃ a b,x=.str a/\xs=[.str b]/\(b.length == 0)=false/\a.length<=100000/\∀ p,H p=none->Q (.ref p) (upd H p (.tup [.str (Txt.partition a b).1,.str (Txt.partition a b).2.1,.str (Txt.partition a b).2.2]))):=by
 intro pins s σ H x xs v us Q I rx r h;obtain ⟨a,b,rfl,rfl,hb,ha,q⟩:=h;obtain ⟨t,rfl⟩:=rx;obtain ⟨u,rfl,hu⟩:=r.one;obtain ⟨tb,rfl⟩:=hu;have fin:∀ (its:List Value) (tk:Nat),Aw [.str (Txt.partition a b).1,.str (Txt.partition a b).2.1,.str (Txt.partition a b).2.2] its->EP X pins σ Q (.ref s.heap.objs.size) { s with heap:=s.heap.push { cls:=.type "tuple",data:=.seq its.toArray },toks:=tk }:=fun its tk hv =>
  ⟨.ref _,_,I.laid (t':=tk) (o:=.tup [.str (Txt.partition a b).1,.str (Txt.partition a b).2.1,.str (Txt.partition a b).2.2]) (fun _ _ e=>Heap.get?_push_of_some _ e) (Nat.le_refl _) ⟨by show 3<=sizeLine; decide,its,hv,_,Heap.get?_push_size _ rfl,rfl,_,rfl⟩,rfl,q _ I.fresh⟩
 refine call_meets F.slot_str_partition (typeIs_str _ _ _) F.entry_str_partition (F.args_str_partition_2 _ _) (meets_str_partition a b t tb hb (Nat.le_trans ha (by decide))) ?_;show EP X pins σ Q _ _;cases e:Builtin.Str.occurrences a b 0 a.length 1 with
 | nil =>
  refine fin _ _ ?_;unfold Txt.partition;rw [e];exact .cons ⟨_,rfl⟩ (.cons ⟨_,rfl⟩ (.cons ⟨_,rfl⟩ .nil))
 | cons i l =>
  refine fin _ _ ?_;unfold Txt.partition;rw [e];exact .cons ⟨_,rfl⟩ (.cons ⟨_,rfl⟩ (.cons ⟨_,rfl⟩ .nil))
theorem Aw.tstrs:∀ {l:List Str} {its:List Value},Aw (l.map V.str) its->∃ ts:List (Str×Tok),its=strValues ts/\ts.map (·.1)=l
 | [],_,.nil=>⟨[],rfl,rfl⟩
 | x :: r,_,.cons ⟨t,e⟩ rr=>by
  obtain ⟨ts,e1,e2⟩:=Aw.tstrs rr;subst e e1;exact ⟨(x,t) :: ts,rfl,by rw [List.map_cons,e2]⟩
theorem GC:MtR X "str.join" (fun x xs H Q=>∃ (sep:Str) (p:Addr) (l:List Str),x=.str sep/\xs=[.ref p]/\SqL X.K H p (l.map V.str)/\JoinOk sep l=true/\Q (.str (Str.join sep l)) H):=by
 intro pins s σ H x xs v us Q I rx r h;obtain ⟨sep,p,l,rfl,rfl,hl,hok,q⟩:=h;obtain ⟨t,rfl⟩:=rx;obtain ⟨u,rfl,hu⟩:=r.one;cases (show u=Value.ref p from hu);obtain ⟨its,rv,pl,_⟩:=I.list hl;obtain ⟨ts,rfl,e⟩:=Aw.tstrs rv;refine SC.join (texts:=l) pl.isList e hok fun t' k=>⟨.str _,H,I.tok k,⟨t',rfl⟩,?_⟩
 have:Txt.join sep l=Str.join sep l:=StrLaws.glued_eq_join sep l;rw [this];exact q
theorem LR (n:Int):∀ {ns:List Int} {its:List Value},Aw (ns.map V.int) its->its.countP (fun y=>match y with | .int i _=>i == n | _=>false)=ns.countP (· == n)
 | [],_,.nil=>rfl
 | x :: r,_,.cons ⟨t,e⟩ rr=>by
  subst e;rw [List.countP_cons,List.countP_cons,LR n rr]
theorem OC {ns:List Int} {its:List Value} (h:Aw (ns.map V.int) its) {y:Value} (hy:y ∈ its):∃ i t,y=.int i t:=by
 induction ns generalizing its with
 | nil=>cases h; simp at hy
 | cons n r ih =>
  cases h with
  | cons q qq =>
   obtain ⟨t,e⟩:=q;rcases List.mem_cons.mp hy with z | z
   ·exact ⟨n,t,z.trans e⟩
   ·exact ih qq z
theorem Pm:MtR X "list.count" (fun x xs H Q=>∃ (l:Addr) (ns:List Int) (n:Int),x=.ref l/\xs=[.int n]/\H l=some (.lst (ns.map V.int))/\Q (.int (ns.countP (· == n):Nat)) H):=by
 intro pins s σ H x xs v us Q I rx r h;obtain ⟨l,ns,n,rfl,rfl,hH,q⟩:=h;cases rx;obtain ⟨u,rfl,hu⟩:=r.one;obtain ⟨tk,rfl⟩:=hu;obtain ⟨z,its,k,rv,hl,e⟩:=I.lstM hH;refine call_meets F.slot_list_count ⟨_,e,rfl⟩ F.entry_list_count (F.args_list_count_2 _ _) (MeetsSeq.list_count l its.toArray k (.int n tk) (fun y=>match y with | .int i _=>i == n | _=>false) (fun y hy=>?_)) ⟨e,?_⟩
 ·obtain ⟨i,t,rfl⟩:=OC rv (by simpa using hy);exact PySem.MeetsSeq.EqGives.int i n t tk
 ·refine ⟨.int _,H,I.tok _,⟨_,rfl⟩,?_⟩;have:(List.countP (fun y=>match y with | Value.int i _=>i == n | _=>false) its.toArray.toList)=ns.countP (· == n):=LR n (by simpa using rv);rw [this];exact q
end
end L2
namespace L2
open PySem
section
variable {X:Cx} {es es':List Expr} {t t':TA} {pos:Pos}
theorem Au {i:Int} {j} (hr:PA X es t):PA X (.Constant (.int i) j pos :: es) (Ch (tC (.int i)) t):=Aa Ah hr
theorem GZ {z:Str} {j} (hr:PA X es t):PA X (.Constant (.str z) j pos :: es) (Ch (tC (.str z)) t):=Aa DG hr
theorem Mp (h:PA X es' t') (hr:PA X es t):PA X (.List es' pos :: es) (Ch (tLst t') t):=Aa (Ck h) hr
theorem Bi {x1} (h:PA X es' t') (hr:PA X es t):PA X (.Tuple es' x1 pos :: es) (Ch (tTup t') t):=Aa (CT h) hr
theorem AO {op:Operator} {r:R2} {a b:Expr} {ta tb:TE} (ho:OpR X (binaryOp op) r) (ha:PE X a ta) (hb:PE X b tb) (hr:PA X es t):PA X (.BinOp a op b pos :: es) (Ch (tOp r ta tb) t):=Aa (AA ho ha hb) hr
theorem Nt {K:PySem.W.Frag} (h:X.K=K):IxR X (rIxT K):=h ▸ AF
end
end L2
namespace Nu
open PySem PySem.NumText PyProof.Rows
theorem ext {a b:Str} (h:a.cps.toList=b.cps.toList):a=b:=by
 obtain ⟨⟨l⟩⟩:=a;obtain ⟨⟨r⟩⟩:=b;cases h;rfl
theorem len (x:Str):x.length=x.cps.toList.length:=by simp [Str.length]
end Nu
namespace Tx
open PySem PySem.Builtin PySem.Builtin.Str PyProof.Rows
theorem BR (a b:Str):(a ++ b).cps.toList=a.cps.toList ++ b.cps.toList:=cps_toList_append a b
def jl (sep:List Nat):List (List Nat)->List Nat
 | []=>[]
 | [x]=>x
 | x :: y :: r=>x ++ sep ++ jl sep (y :: r)
theorem DD (sep:Str):∀ ts:List Str,(Str.join sep ts).cps.toList=jl sep.cps.toList (ts.map fun t=>t.cps.toList)
 | []=>rfl
 | [x]=>rfl
 | x :: y :: r=>by
  have e:Str.join sep (x :: y :: r)=x ++ sep ++ Str.join sep (y :: r):=rfl;rw [e,BR,BR,DD sep (y :: r)];rfl
theorem JZ {c:Nat}:∀ {x y A B:List Nat},c ∉ x->c ∉ y->x ++ c :: A=y ++ c :: B->x=y/\A=B
 | [],[],A,B,_,_,h=>⟨rfl,by simpa using h⟩
 | [],y :: ys,A,B,_,hy,h=>by
  simp at h;exact absurd (by rw [h.1]; exact List.mem_cons_self) hy
 | x :: xs,[],A,B,hx,_,h=>by
  simp at h;exact absurd (by rw [<-h.1]; exact List.mem_cons_self) hx
 | x :: xs,y :: ys,A,B,hx,hy,h=>by
  simp at h;obtain ⟨e,h⟩:=h;obtain ⟨e2,e3⟩:=JZ (x:=xs) (y:=ys) (fun z=>hx (List.mem_cons_of_mem _ z)) (fun z=>hy (List.mem_cons_of_mem _ z)) h;exact ⟨by rw [e,e2],e3⟩
theorem MF (c:Nat) (s:List Nat):∀ (as bs:List (List Nat)),as≠[]->bs≠[]->(∀ t ∈ as,c ∉ t)->(∀ t ∈ bs,c ∉ t)->jl (c :: s) as=jl (c :: s) bs->as=bs
 | [],_,h,_,_,_,_=>absurd rfl h
 | _,[],_,h,_,_,_=>absurd rfl h
 | [x],[y],_,_,_,_,e=>by
  have e':x=y:=e;rw [e']
 | [x],y :: z :: r,_,_,ha,_,e=>by
  have e':x=y ++ c :: s ++ jl (c :: s) (z :: r):=e;exact absurd (by rw [e']; simp) (ha x List.mem_cons_self)
 | x :: z :: r,[y],_,_,_,hb,e=>by
  have e':x ++ c :: s ++ jl (c :: s) (z :: r)=y:=e;exact absurd (by rw [<-e']; simp) (hb y List.mem_cons_self)
 | x :: x2 :: r,y :: y2 :: r',_,_,ha,hb,e=>by
  have e':x ++ c :: (s ++ jl (c :: s) (x2 :: r))=y ++ c :: (s ++ jl (c :: s) (y2 :: r')):=by
   have:x ++ c :: s ++ jl (c :: s) (x2 :: r)=y ++ c :: s ++ jl (c :: s) (y2 :: r'):=e
   simpa using this
  obtain ⟨e1,e2⟩:=JZ (ha x List.mem_cons_self) (hb y List.mem_cons_self) e';have e3:=List.append_cancel_left e2;rw [e1,MF c s (x2 :: r) (y2 :: r') (by simp) (by simp) (fun t ht=>ha t (List.mem_cons_of_mem _ ht)) (fun t ht=>hb t (List.mem_cons_of_mem _ ht)) e3]
theorem Ja {as bs:List Str} (h:as.map (fun t=>t.cps.toList)=bs.map fun t=>t.cps.toList):as=bs:=by
 induction as generalizing bs with
 | nil=>cases bs with | nil=>rfl | cons=>simp at h
 | cons a r ih =>
  cases bs with
  | nil=>simp at h
  | cons b q =>
   simp at h;rw [Nu.ext (a:=a) (b:=b) (by simpa using h.1),ih (by simpa using h.2)]
theorem Lj (c:Nat) (ts:List Str) (hne:ts≠[]) (hf:∀ t ∈ ts,c ∉ t.cps.toList):Txt.split (Str.join ⟨#[c]⟩ ts) ⟨#[c]⟩=ts:=by
 refine Ja (MF c [] _ _ ?_ ?_ ?_ ?_ ?_)
 ·intro h;have:=split_pos (Str.join ⟨#[c]⟩ ts) ⟨#[c]⟩;have h2:(Txt.split (Str.join ⟨#[c]⟩ ts) ⟨#[c]⟩).length=0:=by simpa using congrArg List.length h
  omega
 ·simpa using hne
 ·intro t ht;obtain ⟨p,hp,rfl⟩:=List.mem_map.mp ht;exact StrLaws.split_free _ c p hp
 ·intro t ht;obtain ⟨p,hp,rfl⟩:=List.mem_map.mp ht;exact hf p hp
 ·have h:=congrArg (fun z:Str=>z.cps.toList) (StrLaws.join_split (Str.join ⟨#[c]⟩ ts) ⟨#[c]⟩);rw [DD,DD] at h;exact h
theorem part_at (c:Nat) (a b:Str) (h:c ∉ a.cps.toList):Txt.partition (a ++ ⟨#[c]⟩ ++ b) ⟨#[c]⟩=(a,⟨#[c]⟩,b):=by
 have hin:c ∈ (a ++ ⟨#[c]⟩ ++ b).cps.toList:=by rw [BR,BR]; simp
 have hs:=StrLaws.partition_sum (a ++ ⟨#[c]⟩ ++ b) ⟨#[c]⟩;have hh:=partition_head (a ++ ⟨#[c]⟩ ++ b) ⟨#[c]⟩;have ho:=StrLaws.found_one (a ++ ⟨#[c]⟩ ++ b) c;rw [decide_eq_true hin] at ho;have hp2:(Txt.partition (a ++ ⟨#[c]⟩ ++ b) ⟨#[c]⟩).2.1=⟨#[c]⟩:=by
  unfold Txt.partition;cases e:occurrences (a ++ ⟨#[c]⟩ ++ b) ⟨#[c]⟩ 0 (a ++ ⟨#[c]⟩ ++ b).length 1 with
  | nil=>rw [e] at ho; simp at ho
  | cons i l=>rfl
 have hp1:c ∉ (Txt.partition (a ++ ⟨#[c]⟩ ++ b) ⟨#[c]⟩).1.cps.toList:=by
  rcases hh with ⟨_,no⟩ | ⟨i,e,hA,no⟩
  ·obtain ⟨j,hj⟩:=List.getElem?_of_mem hin;exact absurd ((StrLaws.subAt_one _ c j).mpr hj) (no j)
  ·rw [e];exact StrLaws.part_free _ c 0 i (by have:i+1<=_:=hA.1; omega) fun k _ hk=>no k hk
 have e:(Txt.partition (a ++ ⟨#[c]⟩ ++ b) ⟨#[c]⟩).1.cps.toList ++ (Txt.partition (a ++ ⟨#[c]⟩ ++ b) ⟨#[c]⟩).2.1.cps.toList ++ (Txt.partition (a ++ ⟨#[c]⟩ ++ b) ⟨#[c]⟩).2.2.cps.toList=a.cps.toList ++ [c] ++ b.cps.toList:=by
  have e0:=congrArg (fun z:Str=>z.cps.toList) hs;rw [BR,BR,BR,BR] at e0;exact e0
 rw [hp2] at e;have e':(Txt.partition (a ++ ⟨#[c]⟩ ++ b) ⟨#[c]⟩).1.cps.toList ++ c :: (Txt.partition (a ++ ⟨#[c]⟩ ++ b) ⟨#[c]⟩).2.2.cps.toList=a.cps.toList ++ c :: b.cps.toList:=by simpa using e
 obtain ⟨e1,e2⟩:=JZ hp1 h e';exact Prod.ext (Nu.ext e1) (Prod.ext hp2 (Nu.ext e2))
theorem FI {n:Int} (h0:0<=n) (h1:n<=9):(Str.ofString (toString n))=(⟨#[48+n.toNat]⟩:Str):=by
 obtain ⟨m,rfl⟩:=Int.eq_ofNat_of_zero_le h0;exact (show ∀ m:Nat,m < 10->(Str.ofString (toString (m:Int)))=(⟨#[48+(m:Int).toNat]⟩:Str) by decide +kernel) m (by omega)
end Tx
namespace Tx
open PySem PySem.Builtin PySem.Builtin.Str PyProof.Rows
theorem ME:∀ ts:List (List Nat),jl [] ts=ts.flatten
 | []=>rfl
 | [x]=>by simp [jl]
 | x :: y :: r=>by
  show x ++ [] ++ jl [] (y :: r)=_;rw [ME (y :: r)];simp
theorem Nv (sep:Str) (m:Nat):∀ (l:List Str) (acc:Nat),(∀ t ∈ l,t.length<=m)->l.foldl (fun a t=>a+t.length+sep.length) acc<=acc+l.length * (m+sep.length)
 | [],acc,_=>by simp
 | t :: r,acc,h=>by
  have h1:=h t List.mem_cons_self;have h2:=Nv sep m r (acc+t.length+sep.length) fun z hz=>h z (List.mem_cons_of_mem _ hz);rw [List.foldl_cons,List.length_cons,Nat.succ_mul];omega
theorem GD {sep:Str} {l:List Str} (m:Nat) (h:∀ t ∈ l,t.length<=m) (hs:l.length * (m+sep.length)<=100000):JoinOk sep l=true:=by
 unfold JoinOk;have h2:=Nv sep m l 0 h;have e:l.toArray.foldl (fun a t=>a+t.length+sep.length) 0=l.foldl (fun a t=>a+t.length+sep.length) 0:=by simp
 rw [e];have:tooLong (l.foldl (fun a t=>a+t.length+sep.length) 0)=false:=by
  unfold tooLong;refine decide_eq_false ?_;have:(100000:Nat)<=sizeLine:=by decide
  omega
 rw [this];rfl
theorem app_len (a b:Str):(a ++ b).length=a.length+b.length:=by
 rw [Nu.len,Nu.len,Nu.len,BR,List.length_append]
end Tx
namespace Tx
open PySem PySem.Builtin PySem.Builtin.Str PyProof.Rows
theorem Qa (x:Str) (c d k:Nat) (h1:x.cps.toList[k]?=some c) (h2:x.cps.toList[k+1]?=some d):StrLaws.At x ⟨#[c,d]⟩ x.length k:=by
 have l:k+1 < x.cps.toList.length:=(List.getElem?_eq_some_iff.mp h2).1;refine ⟨?_,?_⟩
 ·show k+2<=x.length;rw [Nu.len];omega
 ·rw [StrLaws.subAt_eq];show ((x.cps.toList.drop k).take 2 == [c,d])=true;have e1:x.cps.toList.drop k=c :: d :: x.cps.toList.drop (k+2):=by
   rw [List.drop_eq_getElem_cons (by omega),(List.getElem?_eq_some_iff.mp h1).2,List.drop_eq_getElem_cons l,(List.getElem?_eq_some_iff.mp h2).2]
  rw [e1];simp
def Led (c d:Nat) (l:List Nat):Prop:=∀ k:Nat,l[k]?=some c->l[k+1]?=some d
theorem GY {x:Str} {c d a b:Nat} (hx:Led c d x.cps.toList) (hb:b<=x.length) (hn:∀ k,a<=k->k < b->¬ StrLaws.At x ⟨#[c,d]⟩ x.length k):c ∉ (strSub x a b).cps.toList:=by
 intro hm;rw [StrLaws.strSub_toList] at hm;obtain ⟨j,hj⟩:=List.getElem?_of_mem hm;have hlt:j < b - a:=by
  have h1:j < ((x.cps.toList.drop a).take (b - a)).length:=(List.getElem?_eq_some_iff.mp hj).1;rw [List.length_take] at h1;omega
 rw [List.getElem?_take_of_lt hlt,List.getElem?_drop] at hj;exact hn (a+j) (by omega) (by omega) (Qa x c d (a+j) hj (hx _ hj))
theorem Gd {x:Str} {c d:Nat} (hx:Led c d x.cps.toList):∀ (cuts:List Nat) (a f:Nat),StrLaws.ChainG x ⟨#[c,d]⟩ x.length a cuts f->(∀ k,f<=k->¬ StrLaws.At x ⟨#[c,d]⟩ x.length k)->∀ p ∈ StrLaws.partsFrom x 2 a cuts,c ∉ p.cps.toList
 | [],a,f,h,hn,p,hp=>by
  have e:f=a:=h;subst e;rw [List.mem_singleton.mp hp];exact GY hx (Nat.le_refl _) fun k h1 _=>hn k h1
 | g :: r,a,f,h,hn,p,hp=>by
  rcases List.mem_cons.mp hp with rfl | hp'
  ·exact GY hx (by have:g+2<=_:=h.2.1.1; omega) h.2.2.1
  ·exact Gd hx r _ f h.2.2.2 hn p hp'
theorem kind_le (x:Str):¬ Builtin.Str.strKind x < Builtin.Str.strKind (⟨#[59,32]⟩:Str):=by
 have e:Builtin.Str.strKind (⟨#[59,32]⟩:Str)=1:=by simp [Builtin.Str.strKind]
 rw [e];unfold Builtin.Str.strKind;split
 ·decide
 ·split<;>decide
theorem Lk {x:Str} (hx:Led 59 32 x.cps.toList):∀ p ∈ Txt.split x ⟨#[59,32]⟩,59 ∉ p.cps.toList:=by
 obtain ⟨f,hG,hn⟩:=StrLaws.occ_tight x ⟨#[59,32]⟩ (by decide);have whole:59 ∈ x.cps.toList->∃ k,StrLaws.At x ⟨#[59,32]⟩ x.length k:=fun hm=>by
  obtain ⟨j,hj⟩:=List.getElem?_of_mem hm;exact ⟨j,Qa x 59 32 j hj (hx j hj)⟩
 unfold Txt.split;split
 ·rename_i hc;intro p hp;rw [List.mem_singleton.mp hp];intro hm;obtain ⟨k,hk⟩:=whole hm;have h2:k+2<=x.length:=hk.1;rw [Bool.or_eq_true,decide_eq_true_eq,decide_eq_true_eq] at hc;rcases hc with h | h
  ·have h3:x.length < 2:=h;omega
  ·exact kind_le x h
 ·split
  ·rename_i he;intro p hp;rw [List.mem_singleton.mp hp];intro hm;obtain ⟨k,hk⟩:=whole hm;rw [List.isEmpty_iff.mp he] at hG;have ef:f=0:=hG;exact hn k (by omega) hk
  ·rw [StrLaws.partsBetween_eq];exact Gd hx _ 0 f hG hn
theorem Pw {c d:Nat} (hcd:c≠d):∀ ts:List (List Nat),(∀ t ∈ ts,c ∉ t)->Led c d (jl [c,d] ts)
 | [],_=>fun k h=>by simp [jl] at h
 | [x],hf=>fun k h=>absurd (List.mem_of_getElem? (show x[k]?=some c from h)) (hf x List.mem_cons_self)
 | x :: y :: r,hf=>fun k h=>by
  have ih:=Pw hcd (y :: r) fun t ht=>hf t (List.mem_cons_of_mem _ ht);have e:jl [c,d] (x :: y :: r)=x ++ (c :: d :: jl [c,d] (y :: r)):=by
   show x ++ [c,d] ++ jl [c,d] (y :: r)=_;simp
  rw [e] at h ⊢;by_cases h1:k < x.length
  ·rw [List.getElem?_append_left h1] at h;exact absurd (List.mem_of_getElem? h) (hf x List.mem_cons_self)
  ·rw [List.getElem?_append_right (by omega)] at h;rw [List.getElem?_append_right (by omega)];obtain ⟨m,hm⟩:∃ m,k - x.length=m:=⟨_,rfl⟩
   rw [show k+1 - x.length=m+1 by omega];rw [hm] at h;cases m with
   | zero=>rfl
   | succ m =>
    cases m with
    | zero =>
     have:some d=some c:=h;exact absurd (Option.some.inj this).symm hcd
    | succ m =>
     rw [List.getElem?_cons_succ,List.getElem?_cons_succ] at h ⊢;exact ih m h
theorem Li (ts:List Str) (hne:ts≠[]) (hf:∀ t ∈ ts,59 ∉ t.cps.toList):Txt.split (Str.join ⟨#[59,32]⟩ ts) ⟨#[59,32]⟩=ts:=by
 have led:Led 59 32 (Str.join ⟨#[59,32]⟩ ts).cps.toList:=by
  rw [DD];refine Pw (by decide) _ fun t ht=>?_;obtain ⟨p,hp,rfl⟩:=List.mem_map.mp ht;exact hf p hp
 refine Ja (MF 59 [32] _ _ ?_ ?_ ?_ ?_ ?_)
 ·intro h;have:=split_pos (Str.join ⟨#[59,32]⟩ ts) ⟨#[59,32]⟩;have h2:(Txt.split (Str.join ⟨#[59,32]⟩ ts) ⟨#[59,32]⟩).length=0:=by simpa using congrArg List.length h
  omega
 ·simpa using hne
 ·intro t ht;obtain ⟨p,hp,rfl⟩:=List.mem_map.mp ht;exact Lk led p hp
 ·intro t ht;obtain ⟨p,hp,rfl⟩:=List.mem_map.mp ht;exact hf p hp
 ·have h:=congrArg (fun z:Str=>z.cps.toList) (StrLaws.join_split (Str.join ⟨#[59,32]⟩ ts) ⟨#[59,32]⟩);rw [DD,DD] at h;exact h
end Tx
namespace L2
open PySem PySem.Spec PyProof.Rows
section
variable {X:Cx}
end
end L2
namespace L2
open PySem PySem.Spec PyProof.Rows
section
variable {X:Cx}
theorem LG {ns:List Int} {its:List Value} (rv:Aw (ns.map V.int) its):∀ (i:Nat) v,its.toArray[i]?=some v->∃ t,v=.int (ns.getD i 0) t:=fun i v e=>by
 have e:its[i]?=some v:=by simpa using e
 cases eb:ns[i]? with
 | none =>
  have:its[i]?=none:=rv.none_of (by rw [List.getElem?_map,eb]; rfl);rw [e] at this;cases this
 | some b =>
  obtain ⟨u,hu,ru⟩:=rv.get (i:=i) (x:=V.int b) (by rw [List.getElem?_map,eb]; rfl);rw [e] at hu;cases hu;rw [List.getD_eq_getElem?_getD,eb];obtain ⟨t,rfl⟩:=ru;exact ⟨t,rfl⟩
end
end L2
namespace L2
open PySem PySem.Spec PyProof.Rows
theorem LZ (ns ms:List Int):((List.range (min ns.length ms.length)).all (fun j=>ns.getD j 0 == ms.getD j 0) && ns.length == ms.length)=decide (ns=ms):=by
 rw [Bool.eq_iff_iff,Bool.and_eq_true,List.all_eq_true,beq_iff_eq,decide_eq_true_iff];constructor
 ·rintro ⟨h1,h2⟩;refine List.ext_getElem h2 fun i h3 h4=>?_;have:=h1 i (List.mem_range.mpr (by lia));rw [beq_iff_eq,List.getD_eq_getElem?_getD,List.getD_eq_getElem?_getD,List.getElem?_eq_getElem h3,List.getElem?_eq_getElem h4] at this;exact this
 ·rintro rfl;exact ⟨fun x _=>beq_iff_eq.mpr rfl,rfl⟩
section
variable {X:Cx}
theorem IT {H:Hp} {ns:List Int} {its:List Value} (rv:Aw (ns.map V.int) its) {A:Around} {s:Shared} {ms:List Int} {jts:List Value} (rw':Aw (ms.map V.int) jts) (j:Nat) (h1:j < its.toArray.size) (h2:j < jts.toArray.size):PySem.SeqAt.EqAt A s its.toArray[j] jts.toArray[j] (ns.getD j 0 == ms.getD j 0):=by
 obtain ⟨t,e⟩:=LG rv j _ (Array.getElem?_eq_getElem h1);obtain ⟨u,e2⟩:=LG rw' j _ (Array.getElem?_eq_getElem h2);rw [e,e2];exact PySem.SeqAt.EqAt.int_int _ t _ u
theorem NO (hu:X.A.units+64 < cLine):OpR X (compareOp .NotEq) (fun x y H Q=>∃ (a b:Addr) (ns ms:List Int),x=.ref a/\y=.ref b/\SqT X.K H a (ns.map V.int)/\SqT X.K H b (ms.map V.int)/\Q (.bl (!decide (ns=ms))) H):=by
 intro pins s σ H x y v u Q I rx ry h;obtain ⟨a,b,ns,ms,rfl,rfl,h1,h2,q⟩:=h;cases rx;cases ry;obtain ⟨xs,r1,p1,_⟩:=I.tuple h1;obtain ⟨ys,r2,p2,_⟩:=I.tuple h2;refine PySem.SeqAt.RcNeAt.tuples p1 p2 (by lia) (fun j k1 k2=>IT (H:=H) r1 r2 j k1 k2) _ _ _ _ ?_;rw [List.size_toArray,List.size_toArray,<-r1.length,<-r2.length,List.length_map,List.length_map,LZ];exact ⟨.bl _,H,I,rfl,q⟩
end
section
variable {prog:Program} {w:World} {κ:Type} [DecidableEq κ] {knd:HeapKind prog w κ} {A:Around} {E:Value->Shared->Prop} {s:Shared}
end
section
variable {X:Cx} {pins:List (Addr×Obj)} {σ:St} {H:Hp} {s:Shared} {a:Addr} {y v:V} {u r:Value} {o:Option V} {A:Around} {E:Value->Shared->Prop}
end
section
variable {X:Cx} {o e f:Expr} {apos cpos:Pos} {td ty tx:TE}
end
end L2
namespace L2
open PySem PySem.Spec PyProof.Rows
section
variable {prog:Program} {w:World} {A:Around} {E:Value->Shared->Prop} {s:Shared} {d it:Addr} {o:Obj} {es:Array DictEntry} {ep i:Nat}
theorem Ft {Q:Value->Shared->Prop} (hd:(d == sysModules)=false) (ho:s.heap.get? d=some o) (hc:o.ExactDict) (da:o.data=.dict es ep)
  (q:Q (.ref s.heap.objs.size) { s with heap:=s.heap.push { cls:=.type "dict_keyiterator",data:=.fields #[.ref d,.int 0 0,.int es.size 0,.int ep 0] } }):wpAny (model prog w) A (pyIter (.ref d)) Q E s:=by
 have hT:s.TypeIs (.ref d) "dict" := ⟨o,ho,hc.1⟩
 refine wpAny_pyIter_slot hT F.slot_dict_iter (wpAny_call_entry F.slot_dict_iter hT F.entry_dict_iter ?_ (F.args_dict_iter_1 _)); unfold Builtin.«dict.__iter__»; refine wpAny_bind ?_;unfold Builtin.Dict.dictSlotNone; refine wpAny_bind (wpAny_notOrdered_dict hT ?_); show wpAny _ _ (pure (Value.ref d)) _ _ s; refine wpAny_pure ?_; show wpAny _ _ (Builtin.Dict.showsAll d >>= _) _ _ s;unfold Builtin.Dict.showsAll; rw [if_neg (by rw [hd]; exact Bool.false_ne_true)]; refine wpAny_bind (wpAny_pure ?_); refine wpAny_bind (wpAny_dictEntries ho da ?_); refine wpAny_bind (wpAny_dictEpoch ho da ?_);refine wpAny_bind (wpAny_newObj_type (wpAny_pure ⟨_,rfl,"dict_keyiterator",_,⟨_,Heap.get?_push_size _ rfl,rfl⟩,F.slot_dict_keyiterator_next.lookup,?_⟩)); simpa [rawInt] using q
theorem Lq {Q:Option Value->Shared->Prop} (hit:s.heap.IsKeyIter it d i es.size ep) (ho:s.heap.get? d=some o) (da:o.data=.dict es ep) (hi:i < es.size)
  (q:∀ h',h'.IsKeyIter it d (i+1) es.size ep->Heap.SameBut it s.heap h'->Q (some es[i].key) { s with heap:=h' }):wpAny (model prog w) A (pyNext (.ref it)) Q E s:=by
 obtain ⟨io,hio,ic,idt⟩:=id hit;unfold pyNext; refine wpAny_bind (wpAny_attempt (wpAny_callSpecial?_slot (name:=Str.ofString "__next__") hit.typeIs F.slot_dict_keyiterator_next (wpAny_call_entry F.slot_dict_keyiterator_next hit.typeIs F.entry_dict_keyiterator_next ?_ (F.args_dict_keyiterator_next_1 _))));refine wpAny_bind (wpAny_pure ?_); refine wpAny_bind ?_; refine wpAny_bind ?_
 (first | refine wpAny_bind (wpAny_typeNameOfWhole_keyiter hit.typeIs (wpAny_pure ?_)) | refine wpAny_bind (wpAny_typeNameOf_keyiter hit.typeIs (wpAny_pure ?_))); refine wpAny_bind (wpAny_fieldsOf hio idt ?_)
 have hown:Builtin.Dict_items.ownsTuple "dict_keyiterator" = false:=(by decide); simp only [hown,Bool.false_eq_true,if_false]; show wpAny _ _ (if (Value.ref d == Value.none)=true then _ else _) _ _ s;rw [if_neg (show ¬ ((Value.ref d == Value.none)=true) from Bool.false_ne_true)]; refine wpAny_bind (wpAny_pure ?_); refine wpAny_bind (wpAny_dictEntries ho da ?_); rw [if_neg (by simp)];refine wpAny_bind (wpAny_pure ?_); refine wpAny_bind (wpAny_dictEpoch ho da ?_); rw [if_neg (by simp)]; refine wpAny_pure ?_;simp only [show ¬ ((i:Int) < 0) from by lia,if_false,Int.toNat_natCast,Array.getElem?_eq_getElem hi]; refine wpAny_bind ?_
 (first | refine wpAny_bind (wpAny_typeNameOfWhole_keyiter hit.typeIs (wpAny_pure ?_)) | refine wpAny_bind (wpAny_typeNameOf_keyiter hit.typeIs (wpAny_pure ?_))); refine wpAny_bind (wpAny_isOneOf_keyiter hit.typeIs ?_)
 show wpAny _ _ (setField (.ref it) 1 (rawInt ((i:Int)+1)) >>= _) _ _ s; refine wpAny_bind (wpAny_setField hio idt (by simp) ?_);have next:(s.heap.update it (Obj.mapFields (·.setIfInBounds 1 (rawInt ((i:Int)+1))))).IsKeyIter it d (i+1) es.size ep:=⟨_,Heap.get?_update_self _ hio (Obj.isFreed_of_fields (Obj.data_mapFields idt _)),(Obj.cls_mapFields ..).trans ic,by rw [Obj.data_mapFields idt]; simp [rawInt]⟩
 refine wpAny_bind (wpAny_holding ?_); refine wpAny_bind (wpAny_isOneOf_keyiter (s:={ s with heap:=s.heap.update it (Obj.mapFields (·.setIfInBounds 1 (rawInt ((i:Int)+1)))) }) next.typeIs ?_); show wpAny _ _ (pure es[i].key) _ _ _;exact wpAny_pure (wpAny_pure ⟨_,rfl,wpAny_pure (q _ next (Heap.SameBut.update ..))⟩)
theorem Nd {Q:Option Value->Shared->Prop} (hh:A.handled=none) (hit:s.heap.IsKeyIter it d i es.size ep) (ho:s.heap.get? d=some o) (da:o.data=.dict es ep) (hi:es.size<=i)
  (q:∀ h',Heap.ExtBut it s.heap h'->Q none { s with heap:=h' }):wpAny (model prog w) A (pyNext (.ref it)) Q E s:=by
 obtain ⟨io,hio,ic,idt⟩:=id hit;unfold pyNext; refine wpAny_bind (wpAny_attempt (wpAny_callSpecial?_slot (name:=Str.ofString "__next__") hit.typeIs F.slot_dict_keyiterator_next (wpAny_call_entry F.slot_dict_keyiterator_next hit.typeIs F.entry_dict_keyiterator_next ?_ (F.args_dict_keyiterator_next_1 _))));refine wpAny_bind (wpAny_pure ?_); refine wpAny_bind ?_; refine wpAny_bind ?_
 (first | refine wpAny_bind (wpAny_typeNameOfWhole_keyiter hit.typeIs (wpAny_pure ?_)) | refine wpAny_bind (wpAny_typeNameOf_keyiter hit.typeIs (wpAny_pure ?_))); refine wpAny_bind (wpAny_fieldsOf hio idt ?_)
 have hown:Builtin.Dict_items.ownsTuple "dict_keyiterator" = false:=(by decide); simp only [hown,Bool.false_eq_true,if_false]; show wpAny _ _ (if (Value.ref d == Value.none)=true then _ else _) _ _ s;rw [if_neg (show ¬ ((Value.ref d == Value.none)=true) from Bool.false_ne_true)]; refine wpAny_bind (wpAny_pure ?_); refine wpAny_bind (wpAny_dictEntries ho da ?_); rw [if_neg (by simp)];refine wpAny_bind (wpAny_pure ?_); refine wpAny_bind (wpAny_dictEpoch ho da ?_); rw [if_neg (by simp)]; refine wpAny_pure ?_;simp only [show ¬ ((i:Int) < 0) from by lia,if_false,Int.toNat_natCast,Array.getElem?_eq_none hi]; refine wpAny_bind ?_
 (first | refine wpAny_bind (wpAny_typeNameOfWhole_keyiter hit.typeIs (wpAny_pure ?_)) | refine wpAny_bind (wpAny_typeNameOf_keyiter hit.typeIs (wpAny_pure ?_)))
 show wpAny _ _ (setField (.ref it) 0 .none >>= _) _ _ s; refine wpAny_bind (wpAny_setField hio idt (by simp) ?_); show wpAny _ _ (newExc (.type "StopIteration") [] >>= _) _ _ _; refine wpAny_bind ?_;simp only [newExc,newTuple]; refine wpAny_bind (wpAny_newObj_type ?_ (by size_fits)); refine wpAny_bind (m:=firstArgMember _ _) (wpAny_of_eq (a:=Value.none) (by first | rfl | (simp only [firstArgMember]; rfl)) ?_);refine wpAny_newObj_type ?_ (by size_fits); simp only [raiseNew]; refine wpAny_bind (wpAny_handled ?_); rw [show A.in1.handled=none from hh]; refine wpAny_bind (wpAny_pure (wpAny_throw ?_));refine wpAny_bind (wpAny_isInstance (T:="StopIteration") (b:=true) ⟨_,Heap.get?_push_size _ rfl,rfl⟩ isSubtype_stop ?_); exact wpAny_pure (q _ (((Heap.SameBut.update ..).extBut.push _).push _))
end
def Itd (a:Addr) (o:Obj) (kvs:List (List Key×V)):It :=
 ⟨fun i H=>H a=some (.frz o (.dT kvs))/\i < kvs.length,fun i H x H'=>H'=H/\∃ b k v,x=.ref b/\kvs[i]?=some (k,v)/\H b=some (.tup (k.map kV)),fun i H=>H a=some (.frz o (.dT kvs))/\kvs.length<=i⟩
theorem PL {P:Program} {w:World} {H:Hp} {h:Heap} {a:Addr} {o:Obj} {kvs:List (List Key×V)} (ok:HOk P w H h) (e:H a=some (.frz o (.dT kvs))) :
  h.get? a=some o/\∃ (xs:List (List Key×Addr×Value)) (es:Array DictEntry) (ep:Nat),KT H kvs xs/\o.data=.dict es ep/\es.toList=xs.map (entryOfKey (tupleKind (Bz P w))):=by
 obtain ⟨e1,z,y,xs,r,o',es,ep,h1,h2,h3,h4,h5⟩:=(show AN P w H h a (.frz o (.dT kvs)) from ok a _ e)
 rw [e1] at h1;cases h1;exact ⟨e1,xs,es,ep,r,h3,h4⟩
theorem KT.at_ {H:Hp}:∀ {kvs:List (List Key×V)} {xs:List (List Key×Addr×Value)} {i:Nat} {x:List Key×Addr×Value},KT H kvs xs->xs[i]?=some x->∃ v,kvs[i]?=some (x.1,v)/\H x.2.1=some (.tup (x.1.map kV)):=by
 intro kvs xs i x r;induction r generalizing i with
 | nil=>intro e; simp at e
 | @cons p q ps qs h t ih =>
  intro e;cases i with
  | zero =>
   have e:q=x:=by simpa using e
   subst e;obtain ⟨h1,h2,_⟩:=h;exact ⟨p.2,by rw [List.getElem?_cons_zero,<-h1],by rw [<-h1]; exact h2⟩
  | succ i =>
   obtain ⟨v,e1,e2⟩:=ih (i:=i) (by simpa using e);exact ⟨v,by simpa using e1,e2⟩
theorem Fk {P:Program} {w:World} {K:PySem.W.Frag} {tg:Expr} (a it:Addr) (o:Obj) (kvs:List (List Key×V)) (es:Array DictEntry) (ep:Nat) (da:o.data=.dict es ep) (hz:es.size=kvs.length):IL P w K tg (Itd a o kvs) [it] it (fun i h=>h.IsKeyIter it a i es.size ep) where
 mem:=by simp
 obj:=fun i h st b hb=>by
  obtain rfl:b=it:=by simpa using hb
  obtain ⟨o,e,c,d⟩:=st;exact ⟨o,e,fun v z=>(by rw [d] at z; cases z)⟩
 keep:=fun i h h' st k=>st.at fun o e=>k it (by simp) o e
 item:=by
  intro X hP hw hK hc i pins s σ H E I hf st hg;subst hP hw hK;obtain ⟨hq,hi⟩:=hg;obtain ⟨ga,xs,es',ep',kt,da',el⟩:=PL I.hok hq;rw [da] at da';cases da';have hi':i < es.size:=by lia
  obtain ⟨f0,f1,f2,f3,f4,f5⟩:=hf it (by simp);refine Lq st ga da hi' fun h' st' sb=>?_;have I1:Inv X pins σ H { s with heap:=h' }:=I.turned (t':=s.toks) (fun b o hb e=>(sb.2 b hb).trans e) f0 f1 f3 f4 f5
  have lx:i < xs.length:=by rw [<-size_of_entries el]; exact hi'
  obtain ⟨v,e1,e2⟩:=KT.at_ kt (List.getElem?_eq_getElem lx);have ek:es[i].key=.ref xs[i].2.1:=by
   have:=entry_at el i;rw [Array.getElem?_eq_getElem hi',List.getElem?_eq_getElem lx] at this;rw [Option.some.inj this];rfl
  obtain ⟨q,e,c,d⟩:=id st';exact ⟨_,rfl,LH (s:={ s with heap:=h' }) e c d (by decide) ⟨.ref xs[i].2.1,H,I1,ek,⟨rfl,_,_,v,rfl,e1,e2⟩,st',fun b hb=>(hf b hb).1⟩⟩
 done:=by
  intro X hP hw hK hc i pins s σ H E I hf st hg;subst hP hw hK;obtain ⟨hq,hi⟩:=hg;obtain ⟨ga,_⟩:=PL I.hok hq;obtain ⟨f0,f1,f2,f3,f4,f5⟩:=hf it (by simp);exact Nd (I.ok.hd hc) st ga da (by lia) fun h' eb=>⟨rfl,I.turned (t':=s.toks) (fun b o hb e=>eb b o hb e) f0 f1 f3 f4 f5⟩
 self:=fun _ _ _ _ _ st h=>wpAny_pyIter_keyiter st h
def iDictT (tl:TE):TI:=fun σ H R=>tl σ H fun x H1=>∃ a kvs,x=.ref a/\H1 a=some (.dT kvs)/\∀ o,R (Itd a o kvs) (upd H1 a (.frz o (.dT kvs)))
theorem Ls {X:Cx} {tg l:Expr} {tl:TE} (hl:PE X l tl):PI X tg l (iDictT tl):=by
 intro pins s σ H R I h;refine thn (hl pins s σ H _ I h) fun v s1 ⟨x,H1,I1,r1,q1⟩=>?_;obtain ⟨a,kvs,e,ea,q⟩:=q1;subst e;cases r1;obtain ⟨z,y,xs,r,o,es,ep,h1,h2,h3,h4,h5⟩:=(show AN X.prog X.w H1 s1.heap a (.dT kvs) from I1.hok a _ ea)
 have hz:es.size=kvs.length:=by rw [size_of_entries h4,<-Paired.length r]
 have I2:Inv X pins σ (upd H1 a (.frz o (.dT kvs))) s1:=FJ (t':=s1.toks) I1 (by rw [ea]; exact True.intro) ⟨rfl,fun _ _=>rfl⟩ ⟨o,h1⟩ ⟨h1,z,y,xs,KT.keeps r fun c ys ec=>(by rw [Ak (Da ec ea (fun z=>nomatch z))]; exact ec),o,es,ep,h1,h2,h3,h4,h5⟩;refine Ft y h1 h2 h3 ?_;refine ⟨s1.heap.objs.size,[s1.heap.objs.size],_,_,_,rfl,I2.kept (t':=s1.toks) fun b o e=>Heap.get?_push_of_some _ e,Fk a _ o kvs es ep h3 hz,⟨_,Heap.get?_push_size _ rfl,rfl,rfl⟩,fun b hb=>?_,q o⟩;obtain rfl:b=s1.heap.objs.size:=by simpa using hb
 exact I2.fpOk (Nat.le_refl _) (I2.hok.fresh (Nat.le_refl _))
theorem MK {a:Addr} {o:Obj} {kvs:List (List Key×V)} {g:TG} {tb:TS} {D:Iz} {σ:St} {H:Hp} (Pv:Nat->St->Hp->Prop) (h0:Pv 0 σ H) (hl:∀ i σ H,i<=kvs.length->Pv i σ H->H a=some (.frz o (.dT kvs)))
  (hs:∀ i b k v σ H,kvs[i]?=some (k,v)->H b=some (.tup (k.map kV))->Pv i σ H->g (.ref b) σ H fun σ2 H2=>tb { D with nx:=Pv (i+1),ct:=Pv (i+1),bk:=D.nx } σ2 H2) (hd:∀ σ H,Pv kvs.length σ H->D.nx σ H) :
  ∃ W:Nat->Nat->St->Hp->Prop,(∃ m,W 0 m σ H)/\∀ i m σ H,W i m σ H ->
   ((Itd a o kvs).stop i H/\D.nx σ H)\/((Itd a o kvs).go i H/\∃ N:St->Hp->Prop,(∀ σ' H',N σ' H'->∃ m',m' < m/\W (i+1) m' σ' H')/\∀ x H',(Itd a o kvs).yld i H x H'->g x σ H' fun σ2 H2=>tb { D with nx:=N,ct:=N,bk:=D.nx } σ2 H2):=by
 refine ⟨fun i m σ H=>m=kvs.length - i/\i<=kvs.length/\Pv i σ H,⟨kvs.length,by simp,Nat.zero_le _,h0⟩,?_⟩;rintro i m σ H ⟨rfl,hi,p⟩;have e:=hl i σ H hi p;by_cases hlt:i < kvs.length
 ·refine .inr ⟨⟨e,hlt⟩,Pv (i+1),fun σ' H' z=>⟨_,by lia,rfl,by lia,z⟩,?_⟩;rintro x H' ⟨rfl,b,k,v,rfl,e1,e2⟩;exact hs i b k v σ _ e1 e2 p
 ·have hi':i=kvs.length:=by lia
  subst hi';exact .inl ⟨⟨e,Nat.le_refl _⟩,hd σ H p⟩
end L2
namespace L2
open PySem PySem.Spec PyProof.Rows
section
variable {X:Cx}
end
end L2
namespace L2
open PySem PySem.Spec PyProof.Rows
abbrev NE:=Sum Int (List Int)
abbrev NK:=List NE
def isR:NE->Bool
 | .inl _=>false
 | .inr _=>true
section
variable (P:Program) (w:World)
inductive BS (h:Heap):NK->List Value->Prop
 | nil:BS h [] []
 | int {i:Int} {v:Value} {ks:NK} {vs:List Value} (e:(intKind P w).is i v=true) (r:BS h ks vs):BS h (.inl i :: ks) (v :: vs)
 | tup {ps:List Int} {b:Addr} {ks:NK} {vs:List Value} (e:IsTupleKey (intKind P w) h ps b) (r:BS h ks vs):BS h (.inr ps :: ks) (.ref b :: vs)
structure Ei (sh:List Bool) (h:Heap) (k:NK) (a:Addr):Prop where
 shape:k.map isR=sh
 ex:∃ o its n,h.get? a=some o/\o.cls=.type "tuple" /\ o.data=.seq its n/\BS P w h k its.toList
def Gi:NE->Int
 | .inl i=>(intKind P w).hash i
 | .inr ps=>tupleKeyHash (intKind P w) ps
def Gj:NE->Nat
 | .inl _=>1
 | .inr ps=>ps.length+1
def Pk (k:NK):Int:=reduceHash (Builtin.Tuple.tupleHashOf (k.map (Gi P w)))
def Pl (k:NK):Nat:=(k.map Gj).sum+1
end
section
variable {P:Program} {w:World} {sh:List Bool} {h h':Heap}
theorem BS.inj {x y:NK} {vs:List Value} (hx:BS P w h x vs):BS P w h y vs->x.map isR=y.map isR->x=y:=by
 induction hx generalizing y with
 | nil=>intro hy _; cases hy; rfl
 | int e r ih =>
  intro hy hs;cases hy with
  | int e' r' =>
   rw [List.map_cons,List.map_cons] at hs;rw [(intKind P w).inj _ _ _ e e',ih r' (List.cons.inj hs).2]
  | tup e' r'=>cases hs
 | tup e r ih =>
  intro hy hs;cases hy with
  | int e' r'=>cases hs
  | tup e' r' =>
   rw [List.map_cons,List.map_cons] at hs;rw [e.inj e',ih r' (List.cons.inj hs).2]
theorem BS.keep {x:NK} {vs:List Value} (hx:BS P w h x vs) (k:∀ ps b,IsTupleKey (intKind P w) h ps b->IsTupleKey (intKind P w) h' ps b):BS P w h' x vs:=by
 induction hx with
 | nil=>exact .nil
 | int e r ih=>exact .int e ih
 | tup e r ih=>exact .tup (k _ _ e) ih
theorem Ei.ty {s:Shared} {k:NK} {a:Addr} (x:Ei P w sh s.heap k a):s.TypeIs (.ref a) "tuple" := by
 obtain ⟨o,_,_,ho,hc,_⟩:=x.ex;exact ⟨o,ho,hc⟩
variable {A:Around} {E:Value->Shared->Prop} {s:Shared}
theorem NT {k:NK} {a:Addr} {Q:Int->Shared->Prop} (hu:A.units+1 < cLine) (hk:Ei P w sh s.heap k a) (q:Q (Pk P w k) { s with toks:=s.toks+Pl k }):wpAny (model P w) A (pyHash (.ref a)) Q E s:=by
 have ty:=hk.ty;obtain ⟨_,o,its,n,ho,_,hd,hi⟩:=hk;unfold pyHash
 first | unfold pyHashByItsType | skip
 first | refine wpAny_bind (wpAny_cRoomFor_or (.inr (by lia)) ?_) | skip
 refine wpAny_bind (wpAny_specialOf ty PySem.F.slot_tuple_hash.lookup ?_);show wpAny _ _ (if (some (Value.builtin "tuple.__hash__") == some Value.none)=true then _ else _) Q E s;rw [if_neg (by rw [beq_builtin_none]; exact Bool.false_ne_true)];refine wpAny_bind (wpAny_specialOf ty PySem.F.slot_tuple_hash.lookup ?_);show wpAny _ _ (callSpecialIfBoundUnlessNone? (.ref a) "__hash__" _ >>= _) Q E s;refine wpAny_bind (wpAny_callSpecialIfBoundUnlessNone?_slot ty PySem.F.slot_tuple_hash (wpAny_call_entry PySem.F.slot_tuple_hash ty PySem.F.entry_tuple_hash ?_ (PySem.F.args_tuple_hash_1 _)));show wpAny _ _ (Builtin.Tuple.tupleItemsOf (.ref a) >>= _) _ _ s;refine wpAny_bind (wpAny_tupleItemsOf ho hd (wpAny_bind ?_));rw [<-Array.forIn_toList];refine wpAny_forIn_list _ (fun rest (b:Array Int) s'=>∃ dn lf,k=dn ++ lf/\BS P w s.heap lf rest/\b.toList=dn.map (Gi P w)/\s'={ s with toks:=s.toks+(dn.map Gj).sum }) _ ?_ ?_ _ _ ⟨[],k,rfl,hi,rfl,rfl⟩
 ·rintro x rest b s' ⟨dn,lf,rfl,hl,hb,rfl⟩;cases hl with
  | @int i v ks vs e r =>
   refine wpAny_bind ((intKind P w).pyHash e ?_);have fin:∃ d l,dn ++ Sum.inl i :: ks=d ++ l/\BS P w s.heap l rest/\(b.push ((intKind P w).hash i)).toList=d.map (Gi P w)/\({ s with toks:=s.toks+(dn.map Gj).sum+1 }:Shared)={ s with toks:=s.toks+(d.map Gj).sum }:=⟨dn ++ [.inl i],ks,by simp,r,by simp [hb,Gi],by simp [Gj,Nat.add_assoc]⟩
   first | exact wpAny_pure fin | exact wpAny_bind (wpAny_pure (wpAny_pure fin))
  | @tup ps c ks vs e r =>
   refine wpAny_bind (wpAny_pyHash_tuple (by show A.units+1 < cLine; exact hu) e ?_);have fin:∃ d l,dn ++ Sum.inr ps :: ks=d ++ l/\BS P w s.heap l rest/\(b.push (tupleKeyHash (intKind P w) ps)).toList=d.map (Gi P w)/\({ s with toks:=s.toks+(dn.map Gj).sum+(ps.length+1) }:Shared)={ s with toks:=s.toks+(d.map Gj).sum }:=⟨dn ++ [.inr ps],ks,by simp,r,by simp [hb,Gi],by simp [Gj,Nat.add_assoc]⟩
   first | exact wpAny_pure fin | exact wpAny_bind (wpAny_pure (wpAny_pure fin))
 ·rintro b s' ⟨dn,lf,rfl,hl,hb,rfl⟩;cases hl;rw [List.append_nil] at q;show wpAny _ _ (retInt (Builtin.Tuple.tupleHashOf b.toList)) _ _ _;rw [hb];refine wpAny_ret_mkInt ?_;unfold Pk Pl reduceHash at q;show wpAny _ _ (if (decide (-(2:Int) ^ 63<=Builtin.Tuple.tupleHashOf (dn.map (Gi P w))) && decide (Builtin.Tuple.tupleHashOf (dn.map (Gi P w)) < 2 ^ 63))=true then _ else _) Q E _;split at q
  ·rename_i z;rw [if_pos z];exact wpAny_pure (by simpa [Nat.add_assoc] using q)
  ·rename_i z;rw [if_neg z];exact wpAny_bind (wpAny_rule (wpAny_pure (by simpa [Nat.add_assoc] using q)))
theorem JG {x y:NK} {a b:Addr} {R:Fin->Shared->Prop} (hu:A.units < cLine) (hx:Ei P w sh s.heap x a) (hy:Ei P w sh s.heap y b) (q:R (.done (.ret (.bool (decide (x=y))))) s):wpAny (model P w) A (Builtin.«tuple.__eq__» ⟨[.ref a,.ref b],[]⟩) R E s:=by
 have tb:=hy.ty;obtain ⟨sx,oa,xs,na,hoa,_,hda,hia⟩:=hx;obtain ⟨sy,ob,ys,nb,hob,_,hdb,hib⟩:=hy;show wpAny _ _ (isInstance (.ref b) (.type "tuple") >>= _) _ _ s;refine wpAny_bind (wpAny_isInstance tb isSubtype_tuple_tuple ?_);simp only [Bool.not_true,Bool.false_eq_true,if_false];refine wpAny_bind (wpAny_tupleItemsOf hoa hda (wpAny_bind (wpAny_tupleItemsOf hob hdb (wpAny_bind ?_))));refine wpAny_forIn_list _ (fun rest r s'=>r.1=none/\s'=s/\∃ x' y' us vs,rest=List.zip us vs/\BS P w s.heap x' us/\BS P w s.heap y' vs/\x'.map isR=y'.map isR/\decide (x'=y')=decide (x=y)/\(us.length == vs.length)=(xs.size == ys.size)) _ ?_ ?_ _ _ ⟨rfl,rfl,x,y,xs.toList,ys.toList,rfl,hia,hib,sx.trans sy.symm,rfl,by simp⟩
 ·rintro ⟨u,v⟩ rest r s' ⟨hr,rfl,x',y',us,vs,hz,hx',hy',hsh,hdec,hlen⟩;cases hx' with
  | nil=>simp at hz
  | @int i1 u' ks us' e1 r1 =>
   cases hy' with
   | nil=>simp at hz
   | @int i2 v' ks' vs' e2 r2 =>
    simp only [List.zip_cons_cons,List.cons.injEq,Prod.mk.injEq] at hz;obtain ⟨⟨rfl,rfl⟩,rfl⟩:=hz;rw [List.map_cons,List.map_cons] at hsh;refine wpAny_bind ((intKind P w).eqBool e1 e2 ?_);by_cases hk:i1=i2
    ·subst hk;rw [decide_eq_true rfl];simp only [Bool.not_true,Bool.false_eq_true,if_false];refine wpAny_pure ⟨rfl,rfl,ks,ks',us',vs',rfl,r1,r2,(List.cons.inj hsh).2,?_,by simpa using hlen⟩;rw [<-hdec];exact decide_eq_decide.mpr ⟨fun z=>by rw [z],fun z=>(List.cons.inj z).2⟩
    ·rw [decide_eq_false hk];simp only [Bool.not_false,if_true];have hf:decide (x=y)=false:=by rw [<-hdec]; exact decide_eq_false fun z=>hk (Sum.inl.inj (List.cons.inj z).1)
     rw [hf] at q;exact wpAny_bind (wpAny_pure (wpAny_pure (wpAny_pure q)))
   | tup e2 r2=>cases hsh
  | @tup ps1 c1 ks us' e1 r1 =>
   cases hy' with
   | nil=>simp at hz
   | int e2 r2=>cases hsh
   | @tup ps2 c2 ks' vs' e2 r2 =>
    simp only [List.zip_cons_cons,List.cons.injEq,Prod.mk.injEq] at hz;obtain ⟨⟨rfl,rfl⟩,rfl⟩:=hz;rw [List.map_cons,List.map_cons] at hsh;refine wpAny_bind (wpAny_eqBool_tuple hu e1 e2 ?_);by_cases hk:ps1=ps2
    ·subst hk;rw [decide_eq_true rfl];simp only [Bool.not_true,Bool.false_eq_true,if_false];refine wpAny_pure ⟨rfl,rfl,ks,ks',us',vs',rfl,r1,r2,(List.cons.inj hsh).2,?_,by simpa using hlen⟩;rw [<-hdec];exact decide_eq_decide.mpr ⟨fun z=>by rw [z],fun z=>(List.cons.inj z).2⟩
    ·rw [decide_eq_false hk];simp only [Bool.not_false,if_true];have hf:decide (x=y)=false:=by rw [<-hdec]; exact decide_eq_false fun z=>hk (Sum.inr.inj (List.cons.inj z).1)
     rw [hf] at q;exact wpAny_bind (wpAny_pure (wpAny_pure (wpAny_pure q)))
 ·rintro ⟨r1,r2⟩ s' ⟨hr,rfl,x',y',us,vs,hz,hx',hy',hsh,hdec,hlen⟩;simp only at hr;subst hr;refine wpAny_pure ?_;have hfin:(xs.size == ys.size)=decide (x=y):=by
   rw [<-hdec,<-hlen];cases hx' with
   | nil =>
    cases hy' with
    | nil=>simp
    | int _ _=>cases hsh
    | tup _ _=>cases hsh
   | int _ _ =>
    cases hy' with
    | nil=>cases hsh
    | int _ _=>simp at hz
    | tup _ _=>cases hsh
   | tup _ _ =>
    cases hy' with
    | nil=>cases hsh
    | int _ _=>cases hsh
    | tup _ _=>simp at hz
  show R (.done (.ret (.bool (xs.size == ys.size)))) s';rw [hfin];exact q
theorem nest_eq {x y:NK} {a b:Addr} {Q:Bool->Shared->Prop} (hu:A.units+1 < cLine) (hx:Ei P w sh s.heap x a) (hy:Ei P w sh s.heap y b) (q:Q (decide (x=y)) s):wpAny (model P w) A (eqBool (.ref a) (.ref b)) Q E s:=by
 unfold eqBool
 try with_reducible refine wpAny_holding ?_
 show wpAny _ _ (if (Value.ref a == Value.ref b)=true then _ else _) Q E s;by_cases hab:(Value.ref a == Value.ref b)=true
 ·rw [if_pos hab];have e:a=b:=by have:=eq_of_beq hab; injection this
  subst e;have:x=y:=by
   obtain ⟨s1,o,its,n,ho,_,hd,hi⟩:=hx;obtain ⟨s2,o',its',n',ho',_,hd',hi'⟩:=hy;obtain rfl:o=o':=Option.some.inj (ho.symm.trans ho');rw [hd] at hd';injection hd' with h1 _
   subst h1;exact hi.inj hi' (s1.trans s2.symm)
  subst this;exact wpAny_bind (wpAny_rule (wpAny_pure (by simpa using q)))
 ·rw [if_neg hab];exact wpAny_bind (wpAny_richCompare_same_room (op:=.Eq) hx.ty hy.ty PySem.F.slot_tuple_eq (wpAny_call_entry PySem.F.slot_tuple_eq hx.ty PySem.F.entry_tuple_eq (JG (by show A.units+1 < cLine; exact hu) hx hy ⟨_,rfl,(fun e=>nomatch e),wpAny_truthy_bool q⟩) (PySem.F.args_tuple_eq_2 _ _)) (by lia))
theorem NL {n:Nat} {ps:List Int} {a:Addr} {Q:Bool->Shared->Prop} (hk:IsTupleKey (intKind P w) s.heap ps a) (q:Q true s):wpAny (model P w) A (eqIsQuiet (n+1) (.ref a)) Q E s:=by
 have ty:=hk.typeIs;obtain ⟨o,its,m,ho,_,hd,hi⟩:=hk;unfold eqIsQuiet;refine wpAny_bind (wpAny_specialOf ty PySem.F.slot_tuple_eq.lookup ?_);show wpAny _ _ (isInstance (.ref a) (.type "tuple") >>= _) _ _ s;refine wpAny_bind (wpAny_isInstance ty isSubtype_tuple_tuple ?_);simp only [Bool.not_true,Bool.false_eq_true,if_false];refine wpAny_bind (wpAny_seqItems ho hd (wpAny_bind ?_));show wpAny _ _ (forIn its _ _) _ _ s;rw [<-Array.forIn_toList];refine wpAny_forIn_list _ (fun rest r s'=>r.1=none/\s'=s/\∀ v ∈ rest,carriedByValue v=true) _ ?_ ?_ _ _ ⟨rfl,rfl,hi.byValue⟩
 ·rintro v rest r s' ⟨hr,rfl,hall⟩;rw [eqIsQuiet_byValue _ (hall v List.mem_cons_self)];refine wpAny_bind (wpAny_pure ?_);simp only [Bool.not_true,Bool.false_eq_true,if_false];exact wpAny_pure ⟨rfl,rfl,fun u hv=>hall u (List.mem_cons_of_mem _ hv)⟩
 ·rintro ⟨r1,r2⟩ s' ⟨hr,rfl,_⟩;simp only at hr;subst hr;exact wpAny_pure q
theorem Ms {x:NK} {a:Addr} {Q:Bool->Shared->Prop} (hk:Ei P w sh s.heap x a) (q:Q true s):wpAny (model P w) A (eqIsQuiet 8 (.ref a)) Q E s:=by
 have ty:=hk.ty;obtain ⟨_,o,its,m,ho,_,hd,hi⟩:=hk;unfold eqIsQuiet;refine wpAny_bind (wpAny_specialOf ty PySem.F.slot_tuple_eq.lookup ?_);show wpAny _ _ (isInstance (.ref a) (.type "tuple") >>= _) _ _ s;refine wpAny_bind (wpAny_isInstance ty isSubtype_tuple_tuple ?_);simp only [Bool.not_true,Bool.false_eq_true,if_false];refine wpAny_bind (wpAny_seqItems ho hd (wpAny_bind ?_));show wpAny _ _ (forIn its _ _) _ _ s;rw [<-Array.forIn_toList];refine wpAny_forIn_list _ (fun rest r s'=>r.1=none/\s'=s/\∃ x',BS P w s.heap x' rest) _ ?_ ?_ _ _ ⟨rfl,rfl,x,hi⟩
 ·rintro v rest r s' ⟨hr,rfl,x',hx'⟩;cases hx' with
  | int e r1 =>
   rw [eqIsQuiet_byValue _ ((intKind P w).byValue _ _ e)];refine wpAny_bind (wpAny_pure ?_);simp only [Bool.not_true,Bool.false_eq_true,if_false];exact wpAny_pure ⟨rfl,rfl,_,r1⟩
  | tup e r1 =>
   refine wpAny_bind (NL (n:=6) e ?_);simp only [Bool.not_true,Bool.false_eq_true,if_false];exact wpAny_pure ⟨rfl,rfl,_,r1⟩
 ·rintro ⟨r1,r2⟩ s' ⟨hr,rfl,_⟩;simp only at hr;subst hr;exact wpAny_pure q
end
def FC (P:Program) (w:World) (sh:List Bool):HeapKind P w NK where
 is:=Ei P w sh
 hash:=Pk P w
 draws:=Pl
 room:=fun A=>A.units+1 < cLine
 inj:=fun hx hy=>by
  obtain ⟨s1,o,its,n,ho,_,hd,hi⟩:=hx;obtain ⟨s2,o',its',n',ho',_,hd',hi'⟩:=hy;obtain rfl:o=o':=Option.some.inj (ho.symm.trans ho');rw [hd] at hd';injection hd' with h1 _
  subst h1;exact hi.inj hi' (s1.trans s2.symm)
 keeps:=fun {h h' k a d o es ep} hx ho hd hs=>by
  obtain ⟨s1,o',its,n,ho',hc,hd',hi⟩:=hx;have ne:a≠d:=by
   rintro rfl;obtain rfl:o'=o:=Option.some.inj (ho'.symm.trans ho);rw [hd] at hd';exact nomatch hd'
  exact ⟨s1,o',its,n,(hs.2 a ne).trans ho',hc,hd',hi.keep fun ps b e=>e.keeps ho hd hs⟩
 pyHash:=fun hu hk q=>NT hu hk q
 eqBool:=fun hu hx hy q=>nest_eq hu hx hy q
 quiet:=fun hk q=>Ms hk q
def NEl (H:Hp):NE->V->Prop
 | .inl i,v=>v=.int i
 | .inr ps,v=>∃ t,v=.ref t/\H t=some (.tup (ps.map V.int))
def DX (H:Hp) (b:Addr) (k:NK):Prop:=∃ vs,H b=some (.tup vs)/\Paired (NEl H) k vs
abbrev KN (H:Hp):List (NK×V)->List (NK×Addr×Value)->Prop:=Paired fun p q=>p.1=q.1/\DX H q.2.1 p.1/\AM p.2 q.2.2
def NJ (P:Program) (w:World) (sh:List Bool) (a:Addr) (xs:List (NK×Addr×Value)):Heap->Prop:=fun h=>∃ o es ep,h.get? a=some o/\o.ExactDict/\o.data=.dict es ep/\es.toList=xs.map (entryOfKey (FC P w sh))
structure CV (P:Program) (w:World) (sh:List Bool) (H:Hp) (a:Addr) (kvs:List (NK×V)):Prop where
 ex:∃ xs,H a=some (.ext (NJ P w sh a xs))/\KN H kvs xs/\(xs.map (·.1)).Nodup/\(∀ x ∈ xs,x.1.map isR=sh)/\kvs.length<=sizeLine/\(a == sysModules)=false
section
variable {P:Program} {w:World} {sh:List Bool} {H H':Hp} {h h':Heap} {a b:Addr} {k:NK} {kvs:List (NK×V)}
theorem DX.keep (ht:∀ b ys,H b=some (.tup ys)->H' b=some (.tup ys)) (e:DX H b k):DX H' b k:=by
 obtain ⟨vs,e,r⟩:=e;refine ⟨vs,ht _ _ e,Paired.imp' (fun x v z=>?_) r⟩;cases x with
 | inl i=>exact z
 | inr ps =>
  obtain ⟨t,z1,z2⟩:=z;exact ⟨t,z1,ht _ _ z2⟩
theorem KN.keep {xs:List (NK×Addr×Value)} (ht:∀ b ys,H b=some (.tup ys)->H' b=some (.tup ys)) (r:KN H kvs xs):KN H' kvs xs:=Paired.imp' (fun p q z=>⟨z.1,z.2.1.keep ht,z.2.2⟩) r
theorem CV.keep (n:CV P w sh H a kvs) (ht:∀ b ys,H b=some (.tup ys)->H' b=some (.tup ys)) (ha:∀ o,H a=some o->H' a=some o):CV P w sh H' a kvs:=by
 obtain ⟨xs,e,r,z⟩:=n.ex;exact ⟨xs,ha _ e,KN.keep ht r,z⟩
theorem Og {ps:List Int} {us:List Value} (r:Aw (ps.map V.int) us):ItemsAre (intKind P w) ps us:=by
 induction ps generalizing us with
 | nil=>cases r; exact .nil
 | cons i ps ih =>
  cases r with
  | cons r1 r2 =>
   obtain ⟨t,rfl⟩:=(show ∃ t,_=Value.int i t from r1)
   exact .cons (by show Value.isInt i (.int i t)=true; simp [Value.isInt]) (ih r2)
theorem int_key (ok:HOk P w H h) {ps:List Int} (e:H a=some (.tup (ps.map V.int))):IsTupleKey (intKind P w) h ps a:=by
 obtain ⟨_,its,r,o,h1,h2,n,h3⟩:=(show AN P w H h a (.tup (ps.map V.int)) from ok a _ e)
 exact ⟨o,its.toArray,n,h1,h2,h3,by simpa using Og r⟩
theorem JE (ok:HOk P w H h) (e:DX H b k) (hs:k.map isR=sh):Ei P w sh h k b:=by
 obtain ⟨vs,e,r⟩:=e;obtain ⟨_,its,rv,o,h1,h2,n,h3⟩:=(show AN P w H h b (.tup vs) from ok b _ e)
 refine ⟨hs,o,its.toArray,n,h1,h2,h3,?_⟩;have go:∀ {k:NK} {vs:List V} {us:List Value},Paired (NEl H) k vs->Aw vs us->BS P w h k us:=by
  intro k vs us r;induction r generalizing us with
  | nil=>intro rv; cases rv; exact .nil
  | @cons x v ks vs hx t ih =>
   intro rv;cases rv with
   | cons r1 r2 =>
    cases x with
    | inl i =>
     have hx:v=.int i:=hx;subst hx;obtain ⟨tk,rfl⟩:=(show ∃ t,_=Value.int i t from r1)
     exact .int (by show Value.isInt i (.int i tk)=true; simp [Value.isInt]) (ih r2)
    | inr ps =>
     obtain ⟨tt,rfl,h4⟩:=hx;cases (show _=Value.ref tt from r1);exact .tup (int_key ok h4) (ih r2)
 simpa using go r rv
theorem JF (ok:HOk P w H h) (n:CV P w sh H a kvs):∃ xs,H a=some (.ext (NJ P w sh a xs))/\KN H kvs xs/\h.DictOfH (FC P w sh) a xs/\(∀ x ∈ xs,x.1.map isR=sh)/\kvs.length<=sizeLine/\(a == sysModules)=false:=by
 obtain ⟨xs,e,r,nd,hs,z,y⟩:=n.ex;obtain ⟨⟨o,es,ep,h1,h2,h3,h4⟩,_⟩:=(show AN P w H h a (.ext _) from ok a _ e)
 refine ⟨xs,e,r,⟨o,es,ep,h1,h2,h3,h4,fun x hx=>?_,nd⟩,hs,z,y⟩;have all:∀ {l:List (NK×V)} {m:List (NK×Addr×Value)},KN H l m->∀ x ∈ m,DX H x.2.1 x.1:=by
  intro l m q;induction q with
  | nil=>intro x hx; exact nomatch hx
  | @cons p q ps qs hq t ih =>
   intro x hx;rcases List.mem_cons.mp hx with e | hx
   ·subst e;rw [<-hq.1];exact hq.2.1
   ·exact ih x hx
 exact JE ok (all r x hx) (hs x hx)
theorem KN.val {xs:List (NK×Addr×Value)} (r:KN H kvs xs) (k:NK):EC (De kvs k) ((atKey xs k).map (·.2)):=by
 induction r with
 | nil=>exact True.intro
 | @cons p q ps qs h t ih =>
  obtain ⟨h1,_,h2⟩:=h;by_cases e:p.1=k
  ·rw [Bn e,show atKey (q :: qs) k=some q.2 by simp [atKey,List.find?_cons,h1.symm.trans e]];exact h2
  ·have e':¬ q.1=k:=fun z=>e (h1.trans z);rw [Bo e,show atKey (q :: qs) k=atKey qs k by simp [atKey,List.find?_cons,e']];exact ih
theorem KN.put {xs:List (NK×Addr×Value)} (r:KN H kvs xs) (k:NK) {y:V} {u:Value} (hb:DX H b k) (ry:AM y u):KN H (DY kvs k y) (storedH xs k b u):=by
 have e:(kvs.any fun kv=>decide (kv.1=k))=(atKey xs k).isSome:=by rw [EH,(r.val k).isSome_eq,Option.isSome_map]
 unfold DY storedH;rw [e];by_cases q:(atKey xs k).isSome=true
 ·rw [if_pos q,if_pos q];clear e q;induction r with
  | nil=>exact .nil
  | @cons p q ps qs h t ih =>
   refine .cons ?_ ih;obtain ⟨h1,h2,h3⟩:=h;unfold putAt;dsimp only;by_cases z:p.1=k
   ·rw [if_pos z,if_pos (h1.symm.trans z)];exact ⟨h1,h2,ry⟩
   ·rw [if_neg z,if_neg fun q=>z (h1.trans q)];exact ⟨h1,h2,h3⟩
 ·rw [if_neg q,if_neg q];exact Paired.snoc r ⟨rfl,hb,ry⟩
end
def tDNewN (P:Program) (w:World) (sh:List Bool):TE:=fun _ H Q=>∀ p H',H p=none->As H H'->CV P w sh H' p []->Q (.ref p) H'
def tDGetN (P:Program) (w:World) (sh:List Bool) (td ty:TE):TE:=fun σ H Q=>td σ H fun x H1=>∃ a,x=.ref a/\(∃ kvs,CV P w sh H1 a kvs)/\ty σ H1 fun y H2=>∃ b k kvs,y=.ref b/\CV P w sh H2 a kvs/\DX H2 b k/\k.map isR=sh/\Q ((De kvs k).getD .non) H2
def sDPutN (P:Program) (w:World) (sh:List Bool) (td ty tv:TE):TS:=fun D σ H=>tv σ H fun v H1=>td σ H1 fun x H2=>ty σ H2 fun y H3=>∃ a b k kvs,x=.ref a/\y=.ref b/\CV P w sh H3 a kvs/\DX H3 b k/\k.map isR=sh/\kvs.length < sizeLine/\∀ H4,(∀ c o,H3 c=some o->c≠a->H4 c=some o)->CV P w sh H4 a (DY kvs k v)->D.nx σ H4
section
variable {X:Cx} {sh:List Bool}
theorem Lz {xs:List (NK×Addr×Value)} {H:Hp} {h:Heap} {a:Addr} (r:NJ X.prog X.w sh a xs h):AN X.prog X.w H h a (.ext (NJ X.prog X.w sh a xs)):=by
 obtain ⟨o,es,ep,h1,h2,h3,h4⟩:=id r;refine ⟨r,⟨o,h1⟩,fun g1 g2 hp hk=>?_⟩;obtain ⟨o',es',ep',i1,i2,i3,i4⟩:=hp;exact ⟨o',es',ep',hk o' i1,i2,i3,i4⟩
theorem Pb {pos:Pos}:PE X (.Dict [] [] pos) (tDNewN X.prog X.w sh):=fun pins s σ H Q I h=>by
 have fr:=I.hok.fresh (Nat.le_refl s.heap.objs.size);have lo:(s.heap.objs.size == sysModules)=false:=beq_eq_false_iff_ne.mpr (Ne.symm (Nat.ne_of_lt I.big));refine wpAny_Dict_empty ⟨.ref s.heap.objs.size,upd H s.heap.objs.size (.ext (NJ X.prog X.w sh s.heap.objs.size [])),I.laid (a:=s.heap.objs.size) (t':=s.toks) (fun _ _ q=>Heap.get?_push_of_some _ q) (Nat.le_refl _) (Lz ⟨_,#[],0,Heap.get?_push_size _ rfl,⟨rfl,rfl,rfl⟩,rfl,rfl⟩),rfl,h _ _ fr (fun b o e=>by rw [Ak (Ar e fr)]; exact e) ⟨[],Ab,.nil,List.nodup_nil,(fun x hx=>by simp at hx),Nat.zero_le _,lo⟩⟩
variable {o e:Expr} {apos cpos:Pos} {td ty:TE}
theorem Pc (hu:X.A.units+64 < cLine) (ho:PE X o td) (he:PE X e ty) (m:M1 X o "get" apos e cpos):PE X (.Call (.Attribute o "get" apos) [e] [] cpos) (tDGetN X.prog X.w sh td ty):=by
 intro pins s σ H Q I h;refine wpAny_Call_method m.base m.few m.line PySem.F.plainAttrs_dict PySem.F.slot_dict_get PySem.F.type_dict_get (thn (ho pins s σ H _ I h) fun u s1 ⟨x,H1,I1,rx,a,ex,⟨kvs,d⟩,q1⟩=>?_);subst ex;obtain rfl:u=Value.ref a:=rx;obtain ⟨xs,_,_,dd,_⟩:=JF I1.hok d;refine ⟨dd.typeIs,fun b q=>?_,?_⟩
 ·cases q;obtain ⟨ob,_,_,h1,h2,_⟩:=dd;exact ⟨ob,h1,h2.2.1⟩
 rw [m.trees];refine Calls.callWith_builtin rfl (Calls.evalArgs_plain (Calls.spliced_cons (thn (he pins s1 σ H1 _ I1 q1) fun iv s2 ⟨y,H2,I2,ry,b,k,kvs2,ey,n2,kb,hs,q2⟩=>Calls.spliced_nil ?_)));subst ey;cases (show iv=Value.ref b from ry);obtain ⟨xs2,_,r2,d2,_,_,lo⟩:=JF I2.hok n2;refine call_meetsIn PySem.F.slot_dict_get d2.typeIs PySem.F.entry_dict_get (PySem.F.args_dict_get_2 _ _) (meetsH_dict_get (FC X.prog X.w sh) a b lo) ⟨by show X.A.units+1+1 < cLine; lia,k,xs2,JE I2.hok kb hs,d2,_,H2,I2.tok _,(KN.val r2 k).getD (d:=.non) rfl,q2⟩
variable {i value:Expr} {pos pos':Pos} {tv:TE}
theorem OY (hu:X.A.units+64 < cLine) (ho:PE X o td) (hi:PE X i ty) (hv:PE X value tv) (hs:swapsWith value (some (.Subscript o i pos')) pos.line X.env=pure false):PS X (.Assign [.Subscript o i pos'] value pos) (sDPutN X.prog X.w sh td ty tv):=by
 intro pins s σ H D I h;refine wpAny_Assign_Subscript (thn (hv pins s σ H _ I h) fun r s1 ⟨v,H1,I1,rv,q1⟩=>thn (ho pins s1 σ H1 _ I1 q1) fun u s2 ⟨x,H2,I2,rx,q2⟩=>thn (hi pins s2 σ H2 _ I2 q2) fun iv s3 ⟨y,H3,I3,ry,a,b,k,kvs,ex,ey,n3,kb,ks,lt,q3⟩=>?_) hs;subst ex ey;obtain rfl:u=Value.ref a:=rx;cases (show iv=Value.ref b from ry);obtain ⟨xs,e3,rel,dd,hsh,z,lo⟩:=JF I3.hok n3;have hz:xs.length<=sizeLine:=by rw [<-Paired.length rel]; exact z
 have hl:(DY kvs k v).length<=sizeLine:=by have:=Ea kvs k v; lia
 refine wpAny_setItem_heap (knd:=FC X.prog X.w sh) (hsz:=hz) (by show X.A.units+1+1 < cLine; lia) (JE I3.hok kb ks) dd fun h' dd' hsb=>?_;obtain ⟨ob,es,ep,hq,h2,h3,h4,_,h5⟩:=dd';have tk:∀ c ys,H3 c=some (.tup ys)->upd H3 a (.ext (NJ X.prog X.w sh a (storedH xs k b r))) c=some (.tup ys):=fun c ys ec=>by
  rw [Ak (Da ec e3 (fun z=>nomatch z))];exact ec
 refine ⟨σ,_,FJ I3 (by rw [e3]; exact True.intro) hsb ⟨ob,hq⟩ (Lz ⟨ob,es,ep,hq,h2,h3,h4⟩),q3 _ (fun c o ec ne=>by rw [Ak ne]; exact ec) ⟨_,Ab,KN.keep tk (KN.put rel k kb rv),h5,fun x hx=>?_,hl,lo⟩⟩;unfold storedH at hx;split at hx
 ·obtain ⟨y,hy,rfl⟩:=List.mem_map.mp hx;unfold putAt;split
  ·exact hsh y hy
  ·exact hsh y hy
 ·rcases List.mem_append.mp hx with w | w
  ·exact hsh x w
  ·rw [List.mem_singleton] at w;subst w;exact ks
end
end L2
namespace L2
open PySem PySem.W PyProof.Rows
section
variable {rk:Nat->Int} {n:Nat}
structure Qe (n:Nat) (p:Array Nat):Prop where
 sz:p.size=n
 pm:p.Perm (List.range n).toArray
def kk (rk:Nat->Int) (p:Array Nat) (i:Nat):Int:=rk (p.getD i 0)
def Up (rk:Nat->Int) (p:Array Nat) (m:Nat):Prop:=∀ i j,i<=j->j < m->kk rk p i<=kk rk p j
end
end L2
namespace L2
open PySem PySem.W PySem.Spec PyProof.Rows
def Cf:List Int->List Int->Bool
 | [],[]=>false
 | [],_ :: _=>true
 | _ :: _,[]=>false
 | a :: as,b :: bs=>if a=b then Cf as bs else decide (a < b)
theorem Ir:∀ a,Cf a a=false
 | []=>rfl
 | a :: as=>by unfold Cf; rw [if_pos rfl]; exact Ir as
theorem FF:∀ {a b c:List Int},Cf a c=true->Cf a b=true\/Cf b c=true
 | [],[],_,h=>.inr h
 | [],_ :: _,_,_=>.inl rfl
 | _ :: _,_,[],h=>by cases h
 | a :: as,[],c :: cs,_=>.inr rfl
 | a :: as,b :: bs,c :: cs,h=>by
  unfold Cf at h ⊢;by_cases ac:a=c
  ·subst ac;rw [if_pos rfl] at h;by_cases ab:a=b
   ·subst ab;rw [if_pos rfl,if_pos rfl];exact FF h
   ·rw [if_neg ab,if_neg (fun z=>ab z.symm)];rcases Int.lt_or_gt_of_ne ab with z | z
    ·exact .inl (decide_eq_true z)
    ·exact .inr (decide_eq_true z)
  ·rw [if_neg ac] at h;have h:=of_decide_eq_true h;by_cases ab:a=b
   ·subst ab;rw [if_neg ac];exact .inr (decide_eq_true h)
   ·rw [if_neg ab];by_cases z:a < b
    ·exact .inl (decide_eq_true z)
    ·by_cases bc:b=c
     ·lia
     ·rw [if_neg bc];exact .inr (decide_eq_true (by lia))
theorem LF:∀ {a b:List Int},Cf a b=false->Cf b a=false->a=b
 | [],[],_,_=>rfl
 | [],_ :: _,h,_=>by cases h
 | _ :: _,[],_,h=>by cases h
 | a :: as,b :: bs,h,h'=>by
  unfold Cf at h h';by_cases ab:a=b
  ·subst ab;rw [if_pos rfl] at h h';rw [LF h h']
  ·rw [if_neg ab] at h;rw [if_neg (fun z=>ab z.symm)] at h';have:=of_decide_eq_false h;have:=of_decide_eq_false h';lia
theorem Pt {a b:List Int} (h:Cf a b=true):Cf b a=false:=by
 cases e:Cf b a with
 | false=>rfl
 | true =>
  rcases FF (b:=b) (show Cf a b=true from h) with z | z
  ·-- both ways: through a
   have:Cf a a=true\/Cf a a=false:=by cases Cf a a<;>simp
   exact absurd (lexI_two h e) (by simp)
  ·rw [Ir] at z;cases z
where lexI_two:∀ {a b:List Int},Cf a b=true->Cf b a=true->false=true
 | [],[],h,_=>h
 | [],_ :: _,_,h=>h
 | _ :: _,[],h,_=>h
 | a :: as,b :: bs,h,h'=>by
  unfold Cf at h h';by_cases ab:a=b
  ·subst ab;rw [if_pos rfl] at h h';exact lexI_two h h'
  ·rw [if_neg ab] at h;rw [if_neg (fun z=>ab z.symm)] at h';have:=of_decide_eq_true h;have:=of_decide_eq_true h';lia
def Lp (rows:List (List Int)) (i:Nat):Int:=((rows.countP fun r=>Cf r (rows.getD i []):Nat):Int)
theorem Jj {α:Type} {p q:α->Bool}:∀ {l:List α} {x:α},x ∈ l->(∀ y,p y=true->q y=true)->p x=false->q x=true->l.countP p < l.countP q
 | y :: l,x,hx,h,hp,hq=>by
  rw [List.countP_cons,List.countP_cons];have le:l.countP p<=l.countP q:=List.countP_mono_left fun z _=>h z;rcases List.mem_cons.mp hx with rfl | hx
  ·rw [hp,hq];simp only [Bool.false_eq_true,if_false,if_true];lia
  ·have:=Jj hx h hp hq;by_cases py:p y=true
   ·rw [py,h y py];lia
   ·rw [if_neg py];split<;>lia
theorem OT {rows:List (List Int)} {i j:Nat} (hi:i < rows.length):decide (Lp rows i < Lp rows j)=Cf (rows.getD i []) (rows.getD j []):=by
 have mi:rows.getD i [] ∈ rows:=by
  rw [List.getD_eq_getElem?_getD,List.getElem?_eq_getElem hi];exact List.getElem_mem hi
 unfold Lp;generalize rows.getD i []=a at *
 generalize rows.getD j []=b;cases h:Cf a b with
 | true =>
  refine decide_eq_true ?_;have:=Jj (p:=fun r=>Cf r a) (q:=fun r=>Cf r b) mi (fun y hy=>?_) (Ir a) h
  ·lia
  ·rcases FF (b:=b) hy with z | z
   ·exact z
   ·rw [Pt h] at z;cases z
 | false =>
  refine decide_eq_false ?_;have:=List.countP_mono_left (l:=rows) (p:=fun r=>Cf r b) (q:=fun r=>Cf r a) fun y _ hy=>?_
  ·lia
  ·rcases FF (b:=a) hy with z | z
   ·exact z
   ·rw [h] at z;cases z
section
variable {prog:Program} {w:World} {A:Around} {E:Value->Shared->Prop}
theorem Nm {b:Bool} {Q:Bool->Shared->Prop} {s:Shared}:∀ {xs ys:List Int} {us vs:List Value} {i:Nat},Aw (xs.map V.int) us->Aw (ys.map V.int) vs->Q (Cf xs ys) s->KatLex prog w A b (decide (xs.length < ys.length)) Q (us.zip vs) i s
 | [],[],_,_,i,.nil,.nil,q=>q
 | [],y :: ys,_,_,i,.nil,.cons _ _,q=>by
  show Q (decide (0 < ys.length+1)) s;rw [decide_eq_true (Nat.succ_pos _)];exact q
 | x :: xs,[],_,_,i,.cons _ _,.nil,q=>by
  show Q (decide (xs.length+1 < 0)) s;rw [decide_eq_false (Nat.not_lt_zero _)];exact q
 | x :: xs,y :: ys,u :: us,v :: vs,i,.cons r1 t1,.cons r2 t2,q=>by
  obtain ⟨t,rfl⟩:=(show ∃ t,u=.int x t from r1)
  obtain ⟨t',rfl⟩:=(show ∃ t,v=.int y t from r2)
  refine wpAny_eqBool_int ?_;unfold Cf at q;by_cases e:x=y
  ·subst e;rw [if_pos rfl] at q;simp only [beq_self_eq_true,if_true];have h:=Nm (b:=b) (i:=i+1) t1 t2 q;rw [show decide ((x :: xs).length < (x :: ys).length)=decide (xs.length < ys.length) by simp];exact h
  ·rw [if_neg e] at q;have e':(x == y)=false:=by simpa using e
   simp only [e',Bool.false_eq_true,if_false];cases b && i == 0 with
   | true=>exact oneLt_int q
   | false =>
    exact kat_one _ _ (wpAny_lt_int q)
end
section
variable {X:Cx}
theorem MU {H:Hp} {h:Heap} (ok:HOk X.prog X.w H h) {items:List (Addr×List Int)} (hq:∀ q ∈ items,H q.1=some (.tup (q.2.map V.int))/\q.2≠[]) {i:Nat} (hi:i < items.length) :
  ∃ (b:Addr) (o:Obj) (us:List Value) (m:Nat),(items.map fun q=>Value.ref q.1).getD i Value.none=.ref b/\h.get? b=some o/\o.cls=.type "tuple" /\ o.data=.seq us.toArray m/\Aw (((items.map (·.2)).getD i []).map V.int) us:=by
 have hm:=List.getElem_mem hi;obtain ⟨h1,h2⟩:=hq _ hm;obtain ⟨_,its,r,o,e,c,n,d⟩:=(show AN X.prog X.w H h _ (.tup _) from ok _ _ h1)
 refine ⟨_,o,its,n,?_,e,c,d,?_⟩
 ·rw [List.getD_eq_getElem?_getD,List.getElem?_map,List.getElem?_eq_getElem hi];rfl
 ·rw [List.getD_eq_getElem?_getD,List.getElem?_map,List.getElem?_eq_getElem hi];exact r
theorem Jh {H:Hp} {h:Heap} (ok:HOk X.prog X.w H h):∀ {items:List (Addr×List Int)},(∀ q ∈ items,H q.1=some (.tup (q.2.map V.int))/\q.2≠[])->∃ fs:List Value,KatTups h (items.map fun q=>Value.ref q.1) fs/\fs.length=items.length/\∀ v ∈ fs,∃ x t,v=.int x t
 | [],_=>⟨[],.nil,rfl,fun v hv=>nomatch hv⟩
 | q :: items,hq=>by
  obtain ⟨fs,h1,h2,h3⟩:=Jh ok fun q' hq'=>hq q' (List.mem_cons_of_mem _ hq');obtain ⟨e,ne⟩:=hq q (List.mem_cons_self ..);obtain ⟨_,its,r,o,e1,c,n,d⟩:=(show AN X.prog X.w H h _ (.tup _) from ok _ _ e)
  match hx:q.2,ne with
  | x :: xs,_ =>
   rw [hx] at r;cases r with
   | @cons _ u _ us r1 r2 =>
    obtain ⟨t,rfl⟩:=(show ∃ t,u=.int x t from r1)
    refine ⟨.int x t :: fs,.cons e1 c d (by simp) h1,by rw [List.length_cons,List.length_cons,h2],fun v hv=>?_⟩;rcases List.mem_cons.mp hv with rfl | hv
    ·exact ⟨x,t,rfl⟩
    ·exact h3 v hv
end
end L2
namespace L2
open PySem PySem.Spec PyProof.Rows
section
variable {X:Cx}
theorem NG {H:Hp} {s:Shared} {A:Around} (ok:HOk X.prog X.w H s.heap) (hu:A.units < cLine) {a b:Addr} {ns:List Int} (h1:H a=some (.tup (ns.map V.int))) (h2:H b=some (.tup (ns.map V.int))):PySem.SeqAt.EqAt A s (.ref a) (.ref b) true:=by
 by_cases e:a=b
 ·subst e;exact PySem.SeqAt.EqAt.same _
 ·obtain ⟨_,its,r,pt⟩:=(show AN X.prog X.w H s.heap _ (.tup _) from ok _ _ h1)
  obtain ⟨_,jts,r',pt'⟩:=(show AN X.prog X.w H s.heap _ (.tup _) from ok _ _ h2)
  refine PySem.SeqAt.EqAt.of_refs e ?_;have:=PySem.SeqAt.RcAt.tuples (A:=A) (s:=s) (e:=fun j=>ns.getD j 0 == ns.getD j 0) pt pt' hu fun j k1 k2=>IT (H:=H) r r' j k1 k2;rw [List.size_toArray,List.size_toArray,<-r.length,<-r'.length,List.length_map,LZ,decide_eq_true rfl] at this;exact this
theorem Na {H:Hp} {s:Shared} {A:Around} (ok:HOk X.prog X.w H s.heap) (hu:A.units < cLine):∀ {is js:List (Addr×List Int)},(∀ q ∈ is,H q.1=some (.tup (q.2.map V.int)))->(∀ q ∈ js,H q.1=some (.tup (q.2.map V.int)))->is.map (·.2)=js.map (·.2) ->
  ∀ {xs ys:List Value},Aw (is.map fun q=>V.ref q.1) xs->Aw (js.map fun q=>V.ref q.1) ys->xs.length=ys.length/\∀ j (h1:j < xs.length) (h2:j < ys.length),PySem.SeqAt.EqAt A s xs[j] ys[j] true
 | [],[],_,_,_,_,_,.nil,.nil=>⟨rfl,fun j h1=>absurd h1 (Nat.not_lt_zero _)⟩
 | [],_ :: _,_,_,e,_,_,_,_=>by cases e
 | _ :: _,[],_,_,e,_,_,_,_=>by cases e
 | i :: is,j :: js,h1,h2,e,x :: xs,y :: ys,.cons r1 t1,.cons r2 t2=>by
  rw [List.map_cons,List.map_cons] at e;injection e with e0 e1
  obtain ⟨l,k⟩:=Na ok hu (fun q hq=>h1 q (List.mem_cons_of_mem _ hq)) (fun q hq=>h2 q (List.mem_cons_of_mem _ hq)) e1 t1 t2;refine ⟨by rw [List.length_cons,List.length_cons,l],fun n p1 p2=>?_⟩;cases n with
  | zero =>
   cases (show x=Value.ref i.1 from r1);cases (show y=Value.ref j.1 from r2);have q1:=h1 i (List.mem_cons_self ..);have q2:=h2 j (List.mem_cons_self ..);rw [<-e0] at q2;exact NG ok hu q1 q2
  | succ n=>exact k n (by simpa using p1) (by simpa using p2)
theorem Qc (n:Nat):(List.range n).all (fun _=>true)=true:=List.all_eq_true.mpr fun _ _=>rfl
def AlikeT (K:PySem.W.Frag) (H:Hp) (x y:V):Prop:=∃ (a b:Addr) (is js:List (Addr×List Int)),x=.ref a/\y=.ref b/\SqL K H a (is.map fun q=>V.ref q.1)/\SqL K H b (js.map fun q=>V.ref q.1)/\(∀ q ∈ is,H q.1=some (.tup (q.2.map V.int)))/\(∀ q ∈ js,H q.1=some (.tup (q.2.map V.int)))/\is.map (·.2)=js.map (·.2)
theorem Lx (hu:X.A.units+64 < cLine):OpR X (compareOp .NotEq) (fun x y H Q=>AlikeT X.K H x y/\Q (.bl false) H):=by
 intro pins s σ H x y v u Q I rx ry h;obtain ⟨⟨a,b,is,js,rfl,rfl,h1,h2,t1,t2,e⟩,q⟩:=h;cases rx;cases ry;obtain ⟨xs,r1,p1,_⟩:=I.list h1;obtain ⟨ys,r2,p2,_⟩:=I.list h2;obtain ⟨l,k⟩:=Na (A:=X.A.in1) I.hok (by show X.A.units+1 < _; lia) t1 t2 e r1 r2;refine PySem.SeqAt.RcNeAt.lists (e:=fun _=>true) p1.isList p2.isList (by rw [List.size_toArray,List.size_toArray,l]) (by lia) (fun j k1 k2=>?_) _ _ _ _ ?_
 ·simp only [List.size_toArray] at k1 k2
  simpa using k j k1 k2
 ·rw [Qc];exact ⟨.bl _,H,I,rfl,q⟩
end
theorem blk_dT {a:Addr} {ob:Obj} {kvs:List (List Key×V)} {k:Nat} {cs:List Nat} {g:TG} {tc:TT} {te:TE} {σ:St} {H:Hp} {fin:List V->Hp->Prop} (Pv:Nat->List V->Hp->Prop) (h0:Pv 0 [] H) (hl:∀ i acc H,i<=kvs.length->Pv i acc H->H a=some (.frz ob (.dT kvs)))
  (hs:∀ i b kk v acc H,kvs[i]?=some (kk,v)->H b=some (.tup (kk.map kV))->Pv i acc H->Bt k cs g tc te σ (.ref b) acc H (Pv (i+1))) (hd:∀ acc H,Pv kvs.length acc H->fin acc H):Ec k cs g tc te (Itd a ob kvs) σ H fin:=by
 refine ⟨fun i m acc H=>m=kvs.length - i/\i<=kvs.length/\Pv i acc H,⟨kvs.length,by simp,Nat.zero_le _,h0⟩,?_⟩;rintro i m acc H ⟨rfl,hi,p⟩;have q:=hl i acc H hi p;by_cases hlt:i < kvs.length
 ·refine .inr ⟨⟨q,hlt⟩,Pv (i+1),fun acc' H' p'=>⟨kvs.length - (i+1),by lia,rfl,hlt,p'⟩,fun x H' y=>?_⟩;obtain ⟨rfl,b,kk,v,rfl,e1,e2⟩:=y;exact hs i b kk v acc _ e1 e2 p
 ·have e:i=kvs.length:=by lia
  subst e;exact .inl ⟨⟨q,Nat.le_refl _⟩,hd acc H p⟩
end L2
namespace L2
open PySem PySem.W PySem.Spec PyProof.Rows
section
variable {prog:Program} {w:World} {A:Around} {E:Value->Shared->Prop} {s:Shared} {r d:Addr} {o:Obj} {es:Array DictEntry} {ep:Nat}
theorem NC (hh:A.handled=none) (I:Addr) (hne:d≠I) (da:o.data=.dict es ep):Walks prog w A I [I,d] [I] es.size (fun i v=>∃ h:i < es.size,v=es[i].key) (fun i h=>h.IsKeyIter I d i es.size ep/\h.get? d=some o) where
 sub:=fun b hb=>by simp at hb; simp [hb]
 frame:=fun i h h' st hk=>⟨st.1.at fun u e=>hk I (by simp) u e,hk d (by simp) _ st.2⟩
 item:=fun i s Q E hi st q=>Lq st.1 st.2 da hi fun h' st' sb=>q _ h' s.toks ⟨hi,rfl⟩ ⟨st',(sb.2 d hne).trans st.2⟩ fun b u hb e=>(sb.2 b (fun z=>hb (by simp [z]))).trans e
 done:=fun s Q E st q=>Nd hh st.1 st.2 da (Nat.le_refl _) fun h' eb=>q h' s.toks fun b u hb e=>eb b u (fun z=>hb (by simp [z])) e
 self:=fun i s Q E st q=>wpAny_pyIter_keyiter st.1 q
end
section
variable {X:Cx} {o:Expr} {apos cpos:Pos} {td:TE}
end
section
variable {X:Cx}
end
end L2
namespace L2
open PySem PySem.W PySem.Spec PyProof.Rows
def iDictF (tl:TE):TI:=fun σ H R=>tl σ H fun x H1=>∃ a kvs,x=.ref a/\Rd H1 a (.dT kvs)/\∀ o H2,H2 a=some (.frz o (.dT kvs))->(∀ b u,H1 b=some u->b≠a->H2 b=some u)->R (Itd a o kvs) H2
theorem Lu {X:Cx} {tg l:Expr} {tl:TE} (hl:PE X l tl):PI X tg l (iDictF tl):=by
 intro pins s σ H R I h;refine thn (hl pins s σ H _ I h) fun v s1 ⟨x,H1,I1,r1,q1⟩=>?_;obtain ⟨a,kvs,e,ea,q⟩:=q1;subst e;cases r1;rcases ea with ea | ⟨o,ea⟩
 ·obtain ⟨z,y,xs,r,o,es,ep,h1,h2,h3,h4,h5⟩:=(show AN X.prog X.w H1 s1.heap a (.dT kvs) from I1.hok a _ ea)
  have hz:es.size=kvs.length:=by rw [size_of_entries h4,<-Paired.length r]
  have I2:Inv X pins σ (upd H1 a (.frz o (.dT kvs))) s1:=FJ (t':=s1.toks) I1 (by rw [ea]; exact True.intro) ⟨rfl,fun _ _=>rfl⟩ ⟨o,h1⟩ ⟨h1,z,y,xs,KT.keeps r fun c ys ec=>(by rw [Ak (Da ec ea (fun z=>nomatch z))]; exact ec),o,es,ep,h1,h2,h3,h4,h5⟩;refine Ft y h1 h2 h3 ?_;refine ⟨s1.heap.objs.size,[s1.heap.objs.size],_,_,_,rfl,I2.kept (t':=s1.toks) fun b o e=>Heap.get?_push_of_some _ e,Fk a _ o kvs es ep h3 hz,⟨_,Heap.get?_push_size _ rfl,rfl,rfl⟩,fun b hb=>?_,q o _ Ab fun b u e n=>by rw [Ak n]; exact e⟩;obtain rfl:b=s1.heap.objs.size:=by simpa using hb
  exact I2.fpOk (Nat.le_refl _) (I2.hok.fresh (Nat.le_refl _))
 ·obtain ⟨h1,z,y,xs,r,o',es,ep,h1',h2,h3,h4,h5⟩:=(show AN X.prog X.w H1 s1.heap a (.frz o (.dT kvs)) from I1.hok a _ ea)
  have eo:o=o':=Option.some.inj (h1.symm.trans h1');subst eo;have hz:es.size=kvs.length:=by rw [size_of_entries h4,<-Paired.length r]
  refine Ft y h1 h2 h3 ?_;refine ⟨s1.heap.objs.size,[s1.heap.objs.size],_,_,_,rfl,I1.kept (t':=s1.toks) fun b o e=>Heap.get?_push_of_some _ e,Fk a _ o kvs es ep h3 hz,⟨_,Heap.get?_push_size _ rfl,rfl,rfl⟩,fun b hb=>?_,q o _ ea fun b u e n=>e⟩;obtain rfl:b=s1.heap.objs.size:=by simpa using hb
  exact I1.fpOk (Nat.le_refl _) (I1.hok.fresh (Nat.le_refl _))
end L2
namespace L2
open PySem PySem.Spec PyProof.Rows
section
variable {X:Cx} {CX:CXT} {k:Nat} {ps:List Str} {sp:Sp} {E:XK} {x:Str} {p pos:Pos} {e:Expr} {es:List Expr} {t:TA} {S:St->Prop}
end
section
variable {X:Cx}
end
end L2
namespace L2
open PySem PySem.Spec PyProof.Rows
section
variable {X:Cx}
end
end L2
namespace L2
open PySem PySem.Spec PyProof.Rows
section
variable {X:Cx}
end
end L2
namespace L2
open PySem PySem.Spec PyProof.Rows
section
variable {X:Cx}
end
end L2
namespace L2
open PySem PySem.W PySem.Spec PyProof.Rows
def EI:Sp:=fun vs H Q _=>∃ (t:Addr) (x y:Int) (r:List Int),vs=[.ref t]/\H t=some (.tup ((x :: y :: r).map V.int))/\∀ u,H u=none->Q (.ref u) (upd H u (.tup [.int y,.int x]))
structure It3 where
 a:Addr
 x:Int
 y:Int
 r:List Int
def It3.ns (q:It3):List Int:=q.x :: q.y :: q.r
section
variable {X:Cx} {pins:List (Addr×Obj)} {σ:St} {H H':Hp} {s:Shared} {k:Nat} {f b:Addr} {fd:FuncData} {ps:List Str}
theorem Dd.stay (fp:Dd X pins H b) (hn:H' b=none):Dd X pins H' b:=⟨hn,fp.2⟩
theorem Dd.turn {h':Heap} {t':Nat} (fp:Dd X pins H b) (I:Inv X pins σ H s) (kp:∀ c o,c≠b->s.heap.get? c=some o->h'.get? c=some o):Inv X pins σ H { s with heap:=h',toks:=t' } :=
 I.turned kp fp.1 fp.2.1 fp.2.2.2.1 fp.2.2.2.2.1 fp.2.2.2.2.2
theorem Dd.nost (fp:Dd X pins H b) (I:Inv X pins σ H s):b ∉ frs X.stack:=fun z=>by
 rcases List.mem_cons.mp (I.stkSub b z) with y | y
 ·exact fp.2.1 y
 ·exact fp.2.2.1 y
theorem Nq {A2:Around} {P:PySem.Fin->Shared->Prop} {E:Value->Shared->Prop} (I:Inv X pins σ H s) {a kS:Addr} {e1 c:Nat} {ks out:Array Value} {st:SortSt} (fa:Dd X pins H a) (fS:Dd X pins H kS) (nka:kS≠a) (hk:s.heap.get? kS=some (seqObj "list" ks c)) (ha:s.heap.get? a=some (seqObj "list" #[] e1)) (eo:(arrOf st).map (·.2)=out) (hf:failedOf st=none) (hz:out.size<=sizeLine) (kz:ks.size<=sizeLine)
  (fin:∀ (h':Heap) (c':Nat),Inv X pins σ H { s with heap:=h' }->h'.get? a=some (seqObj "list" out c')->P (.done (.ret .none)) { s with heap:=h' }):wpAny (model X.prog X.w) A2 (ksk_tail a false e1 (.ref kS) st) P E s:=by
 unfold ksk_tail;have I1:Inv X pins σ H { s with heap:=s.heap.update kS (Obj.mapSeq fun _=>#[]) }:=fS.turn (t':=s.toks) I fun b o hb e=>by rw [Heap.get?_update_ne _ _ _ _ hb]; exact e
 have ha1:(s.heap.update kS (Obj.mapSeq fun _=>#[])).get? a=some (seqObj "list" #[] e1):=by rw [Heap.get?_update_ne _ _ _ _ (Ne.symm nka)]; exact ha
 refine wpAny_bind (listUpdate_at hk rfl (wpAny_bind (wpAny_letGo (wpAny_bind (seqEpoch_at ha1 rfl (wpAny_bind (listUpdate_at ha1 rfl ?_ (hsz2:=?_))))))) (hsz:=kz))
 ·rw [hf];simp only [bne_self_eq_false,Bool.false_eq_true,if_false];rw [eo];refine wpAny_pure (fin _ _ (fa.turn (s:={ s with heap:=s.heap.update kS (Obj.mapSeq fun _=>#[]) }) (t':=s.toks) I1 fun b o hb e=>by rw [Heap.get?_update_ne _ _ _ _ hb]; exact e) (get?_update_seq ha1 _))
 ·simp only [Bool.false_eq_true,if_false];rw [eo];exact Nat.le_succ_of_le hz
end
end L2
namespace PyProof.Rows
open PySem
def JS:Bool->Keyed->Array Keyed->Nat->Nat->Nat->StateT SortSt Sem (Option Nat):=sortPriv% PySem.Builtin.gallop
section
variable {prog:Program} {w:World} {A:Around} {E:Value->Shared->Prop} {s:Shared}
def beyE (left:Bool) (key:Keyed) (arr:Array Keyed) (base i:Nat):StateT SortSt Sem (Option Bool):=elem' arr (base+i) >>= fun x=>if left=true then lt' x key else lt' key x >>= fun r=>pure (r.map fun b=>!b)
def BeyOk (prog:Program) (w:World) (A:Around) (E:Value->Shared->Prop) (s:Shared) (left:Bool) (key:Keyed) (st:SortSt) (x:Keyed) (b:Bool):Prop :=
 (left=true->∀ Q:Option Bool->SortSt->Prop,Q (some b) st->wpS (model prog w) A E s (lt' x key) Q st)/\(left=false->∀ Q:Option Bool->SortSt->Prop,Q (some (!b)) st->wpS (model prog w) A E s (lt' key x) Q st)
theorem Ix {left:Bool} {key:Keyed} {arr:Array Keyed} {base n i:Nat} {st:SortSt} {B:Nat->Bool} {Q:Option Bool->SortSt->Prop} (hz:base+n<=arr.size) (hB:∀ i x,i < n->arr[base+i]?=some x->BeyOk prog w A E s left key st x (B i)) (hi:i < n) (h:Q (some (B i)) st):wpS (model prog w) A E s (beyE left key arr base i) Q st:=by
 unfold beyE;have hl:base+i < arr.size:=by omega
 refine wpS_bind ?_;rw [elem'_eq,Array.getElem?_eq_getElem hl];refine wpS_pure ?_;obtain ⟨h1,h2⟩:=hB i arr[base+i] hi (Array.getElem?_eq_getElem hl);cases left with
 | true =>
  rw [if_pos rfl];exact h1 rfl _ h
 | false =>
  rw [if_neg (by simp)];refine wpS_bind (h2 rfl _ (wpS_pure ?_));show Q (some (!!B i)) st;rw [Bool.not_not];exact h
theorem up_ok {γ:Type} {f:Nat->(Option γ×Nat×Nat)->StateT SortSt Sem (ForInStep (Option γ×Nat×Nat))} {m n:Nat} {C:Nat->Bool} {st:SortSt} (h1:m<=n+1)
  (hs:∀ x l o Q',(m<=o->Q' (.done (none,l,o)) st)->(o < m->C o=true->Q' (.yield (none,o,2 * o+1)) st)->(o < m->C o=false->Q' (.done (none,l,o)) st)->wpS (model prog w) A E s (f x (none,l,o)) Q' st) :
  wpS (model prog w) A E s (forIn [0:n] (none,0,1) f) (fun r st'=>st'=st/\∃ l o,r=(none,l,o)/\l < o/\(l=0\/(l < m/\C l=true))/\(m<=o\/C o=false)) st:=by
 refine wpS_forRange (I:=fun x r st'=>st'=st/\∃ l o,r=(none,l,o)/\x < o/\l < o/\(l=0\/(l < m/\C l=true))) ?_ ?_ ⟨rfl,0,1,rfl,by omega,by omega,.inl rfl⟩
 ·rintro x c st' _ _ ⟨rfl,l,o,rfl,hx,hl,hc⟩;refine hs x l o _ (fun z=>?_) (fun z y=>?_) (fun z y=>?_)
  ·exact ⟨rfl,l,o,rfl,hl,hc,.inl z⟩
  ·exact ⟨rfl,o,2 * o+1,rfl,by omega,by omega,.inr ⟨z,y⟩⟩
  ·exact ⟨rfl,l,o,rfl,hl,hc,.inr y⟩
 ·rintro c st' ⟨rfl,l,o,rfl,hx,hl,hc⟩;exact ⟨rfl,l,o,rfl,hl,hc,.inl (by omega)⟩
theorem PZ {γ:Type} {f:Nat->(Option γ×Nat×Nat)->StateT SortSt Sem (ForInStep (Option γ×Nat×Nat))} {n lo hi:Nat} {B:Nat->Bool} {st:SortSt} (hn:hi<=n) (hl:lo<=hi) (mono:∀ i j,i<=j->j < n->B j=true->B i=true) (h1:∀ i,i < lo->B i=true) (h2:∀ i,hi<=i->i < n->B i=false)
  (hs:∀ x l h Q',(h<=l->Q' (.done (none,l,h)) st)->(l < h->h<=n->B (l+(h - l) / 2)=true->Q' (.yield (none,l+(h - l) / 2+1,h)) st)->(l < h->h<=n->B (l+(h - l) / 2)=false->Q' (.yield (none,l,l+(h - l) / 2)) st)->(l < h->h<=n)->wpS (model prog w) A E s (f x (none,l,h)) Q' st) :
  wpS (model prog w) A E s (forIn [0:n] (none,lo,hi) f) (fun r st'=>st'=st/\∃ l h,r=(none,l,h)/\h<=n/\(∀ i,i < h->B i=true)/\(∀ i,h<=i->i < n->B i=false)) st:=by
 refine wpS_forRange (I:=fun x r st'=>st'=st/\∃ l h,r=(none,l,h)/\l<=h/\h - l<=n - x/\h<=n/\(∀ i,i < l->B i=true)/\(∀ i,h<=i->i < n->B i=false)) ?_ ?_ ⟨rfl,lo,hi,rfl,hl,by omega,hn,h1,h2⟩
 ·rintro x c st' _ hx ⟨rfl,l,h,rfl,lh,me,hh,i1,i2⟩;refine hs x l h _ (fun z=>?_) (fun z _ y=>?_) (fun z _ y=>?_) (fun _=>hh)
  ·exact ⟨rfl,l,h,rfl,hh,fun i hi=>i1 i (by omega),i2⟩
  ·exact ⟨rfl,_,h,rfl,by omega,by omega,hh,fun i hi=>mono i _ (by omega) (by omega) y,i2⟩
  ·refine ⟨rfl,l,_,rfl,by omega,by omega,by omega,i1,fun i hi hn=>?_⟩;cases e:B i with
   | false=>rfl
   | true=>rw [mono _ i hi hn e] at y; cases y
 ·rintro c st' ⟨rfl,l,h,rfl,lh,me,hh,i1,i2⟩;exact ⟨rfl,l,h,rfl,hh,fun i hi=>i1 i (by omega),i2⟩
theorem Je {left:Bool} {key:Keyed} {arr:Array Keyed} {base n hint:Nat} {st:SortSt} {B:Nat->Bool} {Q:Option Nat->SortSt->Prop} (hz:base+n<=arr.size) (hh:hint < n) (hB:∀ i x,i < n->arr[base+i]?=some x->BeyOk prog w A E s left key st x (B i)) (mono:∀ i j,i<=j->j < n->B j=true->B i=true) (k:∀ h,h<=n->(∀ i,i < h->B i=true)->(∀ i,h<=i->i < n->B i=false)->Q (some h) st):wpS (model prog w) A E s (JS left key arr base n hint) Q st:=by
 have monoF:∀ i j,i<=j->j < n->B i=false->B j=false:=fun i j h1 h2 z=>by
  cases e:B j with
  | false=>rfl
  | true=>rw [mono i j h1 h2 e] at z; cases z
 refine wpS_bind ?_;refine Ix (i:=hint) hz hB hh ?_;dsimp only;cases hb:B hint with
 | true =>
  rw [if_pos rfl];refine wpS_bind (wpS_mono (up_ok (m:=n - hint) (C:=fun o=>B (hint+o)) (by omega) ?_) ?_)
  ·intro x l o Q' q1 q2 q3;dsimp only;by_cases z:o ≥ n - hint
   ·rw [if_pos z];exact wpS_pure (q1 z)
   rw [if_neg z];refine wpS_bind (Ix (i:=hint+o) hz hB (by omega) ?_);dsimp only;cases e:B (hint+o) with
   | true=>exact wpS_pure (q2 (by omega) e)
   | false=>exact wpS_pure (q3 (by omega) e)
  ·rintro r st' ⟨rfl,l,o,rfl,lo,hl,ho⟩;dsimp only;refine wpS_bind (wpS_mono (PZ (lo:=hint+l+1) (hi:=hint+min o (n - hint)) (by omega) ?_ mono ?_ ?_ ?_) ?_)
   ·rcases hl with z | z<;>omega
   ·intro i hi;rcases hl with z | z
    ·exact mono i hint (by omega) hh hb
    ·exact mono i (hint+l) (by omega) (by omega) z.2
   ·intro i hi hn;rcases ho with z | z
    ·omega
    ·by_cases y:n - hint<=o
     ·omega
     ·exact monoF (hint+o) i (by omega) hn z
   ·intro x l h Q' q1 q2 q3 q4;dsimp only;by_cases z:l ≥ h
    ·rw [if_pos z];exact wpS_pure (q1 z)
    rw [if_neg z];have:=q4 (by omega);refine wpS_bind (Ix (i:=l+(h - l) / 2) hz hB (by omega) ?_);dsimp only;cases e:B (l+(h - l) / 2) with
    | true=>exact wpS_pure (q2 (by omega) this e)
    | false=>exact wpS_pure (q3 (by omega) this e)
   ·rintro r st' ⟨rfl,l',h,rfl,hn,i1,i2⟩;exact wpS_pure (k h hn i1 i2)
 | false =>
  rw [if_neg (by simp)];refine wpS_bind (wpS_mono (up_ok (m:=hint+1) (C:=fun o=>!B (hint - o)) (by omega) ?_) ?_)
  ·intro x l o Q' q1 q2 q3;dsimp only;by_cases z:o ≥ hint+1
   ·rw [if_pos z];exact wpS_pure (q1 z)
   rw [if_neg z];refine wpS_bind (Ix (i:=hint - o) hz hB (by omega) ?_);dsimp only;cases e:B (hint - o) with
   | true=>exact wpS_pure (q3 (by omega) (by rw [e]; rfl))
   | false=>exact wpS_pure (q2 (by omega) (by rw [e]; rfl))
  ·rintro r st' ⟨rfl,l,o,rfl,lo,hl,ho⟩;dsimp only;have hlF:B (hint - l)=false:=by
    rcases hl with z | z
    ·rw [z]; exact hb
    ·simpa using z.2
   refine wpS_bind (wpS_mono (PZ (lo:=hint+1 - min o (hint+1)) (hi:=hint - l) (by omega) ?_ mono ?_ ?_ ?_) ?_)
   ·rcases hl with z | z<;>omega
   ·intro i hi;rcases ho with z | z
    ·omega
    ·by_cases y:hint+1<=o
     ·omega
     ·have z:B (hint - o)=true:=by simpa using z
      exact mono i (hint - o) (by omega) (by omega) z
   ·intro i hi hn;exact monoF (hint - l) i hi hn hlF
   ·intro x l h Q' q1 q2 q3 q4;dsimp only;by_cases z:l ≥ h
    ·rw [if_pos z];exact wpS_pure (q1 z)
    rw [if_neg z];have:=q4 (by omega);refine wpS_bind (Ix (i:=l+(h - l) / 2) hz hB (by omega) ?_);dsimp only;cases e:B (l+(h - l) / 2) with
    | true=>exact wpS_pure (q2 (by omega) this e)
    | false=>exact wpS_pure (q3 (by omega) this e)
   ·rintro r st' ⟨rfl,l',h,rfl,hn,i1,i2⟩;exact wpS_pure (k h hn i1 i2)
end
end PyProof.Rows
namespace PyProof.Rows
open PySem
def SoA (rk:Keyed->Nat) (a:Array Keyed):Prop:=∀ (i j:Nat) (x y:Keyed),i<=j->a[i]?=some x->a[j]?=some y->rk x<=rk y
structure MI (rk:Keyed->Nat) (a b out:Array Keyed) (ia ib:Nat):Prop where
 pm:out.toList.Perm (a.toList.take ia ++ b.toList.take ib)
 so:out.toList.Pairwise (fun x y=>rk x<=rk y)
 ba:∀ o ∈ out.toList,∀ i x,ia<=i->a[i]?=some x->rk o<=rk x
 bb:∀ o ∈ out.toList,∀ i x,ib<=i->b[i]?=some x->rk o<=rk x
section
variable {rk:Keyed->Nat} {a b out:Array Keyed} {ia ib:Nat}
theorem MI.nil:MI rk a b #[] 0 0:=⟨by simp,by simp,fun o h=>by simp at h,fun o h=>by simp at h⟩
theorem IU {a:Array Keyed} {i:Nat} {x:Keyed} (h:a[i]?=some x):a.toList.take (i+1)=a.toList.take i ++ [x]:=by
 rw [List.take_add_one,Array.getElem?_toList,h];rfl
theorem MI.pushA {x:Keyed} (h:MI rk a b out ia ib) (sa:SoA rk a) (e:a[ia]?=some x) (le:∀ j y,ib<=j->b[j]?=some y->rk x<=rk y):MI rk a b (out.push x) (ia+1) ib:=by
 have me:∀ o,o ∈ (out.push x).toList->o ∈ out.toList\/o=x:=fun o ho=>by
  rw [Array.toList_push,List.mem_append,List.mem_singleton] at ho;exact ho
 refine ⟨?_,?_,fun o ho i y hi ey=>?_,fun o ho i y hi ey=>?_⟩
 ·rw [Array.toList_push,IU e,List.append_assoc];refine (h.pm.append_right _).trans ?_;rw [List.append_assoc];exact List.Perm.append_left _ List.perm_append_comm
 ·rw [Array.toList_push,List.pairwise_append];refine ⟨h.so,by simp,fun o ho y hy=>?_⟩;rw [List.mem_singleton.mp hy];exact h.ba o ho ia x (Nat.le_refl _) e
 ·rcases me o ho with z | rfl
  ·exact h.ba o z i y (by omega) ey
  ·exact sa ia i _ y (by omega) e ey
 ·rcases me o ho with z | rfl
  ·exact h.bb o z i y hi ey
  ·exact le i y hi ey
theorem MI.pushB {x:Keyed} (h:MI rk a b out ia ib) (sb:SoA rk b) (e:b[ib]?=some x) (le:∀ j y,ia<=j->a[j]?=some y->rk x<=rk y):MI rk a b (out.push x) ia (ib+1):=by
 have me:∀ o,o ∈ (out.push x).toList->o ∈ out.toList\/o=x:=fun o ho=>by
  rw [Array.toList_push,List.mem_append,List.mem_singleton] at ho;exact ho
 refine ⟨?_,?_,fun o ho i y hi ey=>?_,fun o ho i y hi ey=>?_⟩
 ·rw [Array.toList_push,IU e,<-List.append_assoc];exact h.pm.append_right _
 ·rw [Array.toList_push,List.pairwise_append];refine ⟨h.so,by simp,fun o ho y hy=>?_⟩;rw [List.mem_singleton.mp hy];exact h.bb o ho ib x (Nat.le_refl _) e
 ·rcases me o ho with z | rfl
  ·exact h.ba o z i y hi ey
  ·exact le i y hi ey
 ·rcases me o ho with z | rfl
  ·exact h.bb o z i y (by omega) ey
  ·exact sb ib i _ y (by omega) e ey
theorem LK {a:Array Keyed} {i k:Nat} (h:i+k < a.size):a.extract i (i+(k+1))=(a.extract i (i+k)).push a[i+k]:=by
 apply Array.toList_inj.mp;rw [Array.toList_push,Array.toList_extract,Array.toList_extract];simp only [List.extract,Nat.add_sub_cancel_left];rw [List.take_add_one];congr 1;rw [List.getElem?_drop,Array.getElem?_toList,Array.getElem?_eq_getElem h];rfl
theorem MI.addA (sa:SoA rk a) (h:MI rk a b out ia ib):∀ {k:Nat},ia+k<=a.size->(∀ i x,ia<=i->i < ia+k->a[i]?=some x->∀ j y,ib<=j->b[j]?=some y->rk x<=rk y)->MI rk a b (out ++ a.extract ia (ia+k)) (ia+k) ib
 | 0,_,_=>by rw [Nat.add_zero,Array.extract_eq_empty_of_le (by omega),Array.append_empty]; exact h
 | k+1,hk,le=>by
  have hl:ia+k < a.size:=by omega
  have:=(MI.addA sa h (k:=k) (by omega) (fun i x h1 h2=>le i x h1 (by omega))).pushA sa (Array.getElem?_eq_getElem hl) (le _ _ (by omega) (by omega) (Array.getElem?_eq_getElem hl));rw [LK hl,Array.append_push];exact this
theorem MI.addB (sb:SoA rk b) (h:MI rk a b out ia ib):∀ {k:Nat},ib+k<=b.size->(∀ i x,ib<=i->i < ib+k->b[i]?=some x->∀ j y,ia<=j->a[j]?=some y->rk x<=rk y)->MI rk a b (out ++ b.extract ib (ib+k)) ia (ib+k)
 | 0,_,_=>by rw [Nat.add_zero,Array.extract_eq_empty_of_le (by omega),Array.append_empty]; exact h
 | k+1,hk,le=>by
  have hl:ib+k < b.size:=by omega
  have:=(MI.addB sb h (k:=k) (by omega) (fun i x h1 h2=>le i x h1 (by omega))).pushB sb (Array.getElem?_eq_getElem hl) (le _ _ (by omega) (by omega) (Array.getElem?_eq_getElem hl));rw [LK hl,Array.append_push];exact this
structure Mgd (rk:Keyed->Nat) (a b out:Array Keyed):Prop where
 pm:out.toList.Perm (a.toList ++ b.toList)
 so:out.toList.Pairwise (fun x y=>rk x<=rk y)
theorem MI.whole (h:MI rk a b out a.size b.size):Mgd rk a b out:=by
 refine ⟨?_,h.so⟩;have:=h.pm;rw [show a.size=a.toList.length from Array.length_toList.symm,show b.size=b.toList.length from Array.length_toList.symm,List.take_length,List.take_length] at this;exact this
theorem MI.doneA (sa:SoA rk a) (h:MI rk a b out ia b.size) (ha:ia<=a.size):Mgd rk a b (out ++ a.extract ia a.size ++ b.extract b.size b.size):=by
 have h1:=MI.addA sa h (k:=a.size - ia) (by omega) fun i x _ _ _ j y hj ey=>by
  rw [Array.getElem?_eq_none (by omega)] at ey;cases ey
 rw [show ia+(a.size - ia)=a.size by omega] at h1;have e:b.extract b.size b.size=#[]:=by simp
 rw [e,Array.append_empty];exact h1.whole
theorem MI.doneB (sb:SoA rk b) (h:MI rk a b out a.size ib) (hb:ib<=b.size):Mgd rk a b (out ++ a.extract a.size a.size ++ b.extract ib b.size):=by
 have e:a.extract a.size a.size=#[]:=by simp
 rw [e,Array.append_empty];have h1:=MI.addB sb h (k:=b.size - ib) (by omega) fun i x _ _ _ j y hj ey=>by
  rw [Array.getElem?_eq_none (by omega)] at ey;cases ey
 rw [show ib+(b.size - ib)=b.size by omega] at h1;exact h1.whole
theorem MI.lastA (sa:SoA rk a) (sb:SoA rk b) (h:MI rk a b out ia ib) (ha:ia<=a.size) (hb:ib<=b.size) (le:∀ i x,ib<=i->b[i]?=some x->∀ j y,ia<=j->a[j]?=some y->rk x<=rk y):Mgd rk a b (out ++ b.extract ib b.size ++ a.extract ia a.size):=by
 have h1:=MI.addB sb h (k:=b.size - ib) (by omega) fun i x h1 _=>le i x h1;rw [show ib+(b.size - ib)=b.size by omega] at h1;have h2:=MI.addA sa h1 (k:=a.size - ia) (by omega) fun i x _ _ _ j y hj ey=>by
  rw [Array.getElem?_eq_none (by omega)] at ey;cases ey
 rw [show ia+(a.size - ia)=a.size by omega] at h2;exact h2.whole
end
end PyProof.Rows
namespace PyProof.Rows
open PySem
section
variable {prog:Program} {w:World} {A:Around} {E:Value->Shared->Prop} {s:Shared} {rk:Keyed->Nat} {S:Keyed->Prop} {κ:SortKind}
def Iy (prog:Program) (w:World) (A:Around) (E:Value->Shared->Prop) (s:Shared) (rk:Keyed->Nat) (S:Keyed->Prop) (κ:SortKind):Prop:=∀ x y st (Q:Option Bool->SortSt->Prop),S x->S y->kindOf st=κ->Q (some (decide (rk x < rk y))) st->wpS (model prog w) A E s (lt' x y) Q st
def DH (st st':SortSt):Prop:=∃ g,st'=SortSt.mk' (kindOf st) (arrOf st) (pendingOf st) g (failedOf st)
theorem DH.refl (st:SortSt):DH st st:=⟨gallopOf st,rfl⟩
theorem DH.kind {st st':SortSt} (h:DH st st'):kindOf st'=kindOf st:=by
 obtain ⟨g,rfl⟩:=h;rfl
theorem AD {arr:Array Keyed} {i:Nat} {x:Keyed} {st:SortSt} {Q:Keyed->SortSt->Prop} (e:arr[i]?=some x) (h:Q x st):wpS (model prog w) A E s (elem' arr i) Q st:=by
 rw [elem'_eq,e];exact wpS_pure h
theorem Em {key:Keyed} {arr:Array Keyed} {base n hint:Nat} {st:SortSt} {Q:Option Nat->SortSt->Prop} (hl:Iy prog w A E s rk S κ) (hk:kindOf st=κ) (Sk:S key) (Sa:∀ (i:Nat) x,base<=i->i < base+n->arr[i]?=some x->S x) (so:∀ (i j:Nat) x y,base<=i->i<=j->j < base+n->arr[i]?=some x->arr[j]?=some y->rk x<=rk y) (hz:base+n<=arr.size) (hh:hint < n)
  (k:∀ h,h<=n->(∀ (i:Nat) x,base<=i->i < base+h->arr[i]?=some x->rk x<=rk key)->(∀ (i:Nat) x,base+h<=i->i < base+n->arr[i]?=some x->rk key < rk x)->Q (some h) st):wpS (model prog w) A E s (JS false key arr base n hint) Q st:=by
 refine Je (B:=fun i=>(arr[base+i]?).any fun x=>!decide (rk key < rk x)) hz hh (fun i x hi e=>?_) (fun i j ij jn z=>?_) fun h hn h1 h2=>?_
 ·refine ⟨(fun z=>by cases z),fun _ Q' q=>hl _ _ _ _ Sk (Sa _ x (by omega) (by omega) e) hk ?_⟩;have:(some (decide (rk key < rk x)))=some (!((arr[base+i]?).any fun x=>!decide (rk key < rk x))):=by rw [e]; simp
  rw [this];exact q
 ·have e1:arr[base+i]?=some arr[base+i]:=Array.getElem?_eq_getElem (by omega);have e2:arr[base+j]?=some arr[base+j]:=Array.getElem?_eq_getElem (by omega);have:=so _ _ _ _ (by omega) (by omega:base+i<=base+j) (by omega) e1 e2;simp only [e1,e2,Option.any_some,Bool.not_eq_true',decide_eq_false_iff_not] at z ⊢;omega
 ·refine k h hn (fun i x b1 b2 e=>?_) (fun i x b1 b2 e=>?_)
  ·have:=h1 (i - base) (by omega);rw [show base+(i - base)=i by omega,e] at this;simp only [Option.any_some,Bool.not_eq_true',decide_eq_false_iff_not] at this;omega
  ·have:=h2 (i - base) (by omega) (by omega);rw [show base+(i - base)=i by omega,e] at this
   simpa using this
theorem Dm {key:Keyed} {arr:Array Keyed} {base n hint:Nat} {st:SortSt} {Q:Option Nat->SortSt->Prop} (hl:Iy prog w A E s rk S κ) (hk:kindOf st=κ) (Sk:S key) (Sa:∀ (i:Nat) x,base<=i->i < base+n->arr[i]?=some x->S x) (so:∀ (i j:Nat) x y,base<=i->i<=j->j < base+n->arr[i]?=some x->arr[j]?=some y->rk x<=rk y) (hz:base+n<=arr.size) (hh:hint < n)
  (k:∀ h,h<=n->(∀ (i:Nat) x,base<=i->i < base+h->arr[i]?=some x->rk x < rk key)->(∀ (i:Nat) x,base+h<=i->i < base+n->arr[i]?=some x->rk key<=rk x)->Q (some h) st):wpS (model prog w) A E s (JS true key arr base n hint) Q st:=by
 refine Je (B:=fun i=>(arr[base+i]?).any fun x=>decide (rk x < rk key)) hz hh (fun i x hi e=>?_) (fun i j ij jn z=>?_) fun h hn h1 h2=>?_
 ·refine ⟨fun _ Q' q=>hl _ _ _ _ (Sa _ x (by omega) (by omega) e) Sk hk ?_,fun z=>by cases z⟩;have:(some (decide (rk x < rk key)))=some ((arr[base+i]?).any fun x=>decide (rk x < rk key)):=by rw [e]; simp
  rw [this];exact q
 ·have e1:arr[base+i]?=some arr[base+i]:=Array.getElem?_eq_getElem (by omega);have e2:arr[base+j]?=some arr[base+j]:=Array.getElem?_eq_getElem (by omega);have:=so _ _ _ _ (by omega) (by omega:base+i<=base+j) (by omega) e1 e2;simp only [e1,e2,Option.any_some,decide_eq_true_eq] at z ⊢;omega
 ·refine k h hn (fun i x b1 b2 e=>?_) (fun i x b1 b2 e=>?_)
  ·have:=h1 (i - base) (by omega);rw [show base+(i - base)=i by omega,e] at this
   simpa using this
  ·have:=h2 (i - base) (by omega) (by omega);rw [show base+(i - base)=i by omega,e] at this
   simpa using this
end
end PyProof.Rows
namespace PyProof.Rows
open PySem
def Po:Array Keyed->Array Keyed->StateT SortSt Sem (Array Keyed):=sortPriv% PySem.Builtin.mergeLo
structure Lv (rk:Keyed->Nat) (a b out:Array Keyed) (ia ib:Nat):Prop where
 mi:MI rk a b out ia ib
 la:ia+1 < a.size
 lb:ib < b.size
section
variable {prog:Program} {w:World} {A:Around} {E:Value->Shared->Prop} {s:Shared} {rk:Keyed->Nat} {S:Keyed->Prop} {κ:SortKind}
theorem Mv {a b:Array Keyed} {st:SortSt} {Q:Array Keyed->SortSt->Prop} (hl:Iy prog w A E s rk S κ) (hk:kindOf st=κ) (na:1<=a.size) (nb:1<=b.size) (Sa:∀ (i:Nat) x,a[i]?=some x->S x) (Sb:∀ (i:Nat) x,b[i]?=some x->S x) (sa:SoA rk a) (sb:SoA rk b) (first:∀ x y,b[0]?=some x->a[0]?=some y->rk x<=rk y) (last:∀ (i:Nat) x y,b[i]?=some x->a[a.size - 1]?=some y->rk x<=rk y) (k:∀ out st',Mgd rk a b out->DH st st'->Q out st'):wpS (model prog w) A E s (Po a b) Q st:=by
 have atA:∀ {i:Nat},i < a.size->∃ x,a[i]?=some x:=fun {i} h=>⟨_,Array.getElem?_eq_getElem h⟩
 have atB:∀ {i:Nat},i < b.size->∃ x,b[i]?=some x:=fun {i} h=>⟨_,Array.getElem?_eq_getElem h⟩
 have lastL:∀ {ia:Nat},ia+1=a.size->∀ {ib:Nat} (i:Nat) x,ib<=i->b[i]?=some x->∀ (j:Nat) y,ia<=j->a[j]?=some y->rk x<=rk y:=fun {ia} e {ib} i x _ ex j y hj ey=>by
  have jl:=(Array.getElem?_eq_some_iff.mp ey).1;have:j=a.size - 1:=by omega
  subst this;exact last i x y ex ey
 refine wpS_bind (wpS_lift (wpAny_rule ⟨rfl,?_⟩));obtain ⟨x0,e0⟩:=atB nb;refine wpS_bind (AD e0 ?_);dsimp only;have m0:MI rk a b #[x0] 0 1:=by
  have:=MI.pushB (MI.nil (rk:=rk) (a:=a) (b:=b)) sb e0 fun j y _ ey=>by
   obtain ⟨y0,f0⟩:=atA na;exact Nat.le_trans (first _ _ e0 f0) (sa 0 j _ _ (Nat.zero_le _) f0 ey)
  exact this
 by_cases z1:(1 == b.size)=true
 ·rw [if_pos z1];have z1:1=b.size:=by simpa using z1
  refine wpS_pure (k _ _ ?_ (DH.refl st));rw [z1] at m0;have:=m0.doneA sa (Nat.zero_le _);rw [<-z1] at this ⊢;exact this
 rw [if_neg z1];by_cases z2:(0+1 == a.size)=true
 ·rw [if_pos z2];have z2:0+1=a.size:=by simpa using z2
  exact wpS_pure (k _ _ (m0.lastA sa sb (Nat.zero_le _) nb (lastL z2)) (DH.refl st))
 rw [if_neg z2];have z1:1 < b.size:=by
  have:¬ 1=b.size:=fun z=>z1 (by simpa using z);omega
 have z2:0+1 < a.size:=by
  have:¬ 0+1=a.size:=fun z=>z2 (by simpa using z);omega
 refine wpS_bind (wpS_get ?_);refine wpS_bind (wpS_mono (wpS_forRange (I:=fun x r st'=>DH st st'/\∃ out ia ib g,r=(none,out,ia,ib,g)/\Lv rk a b out ia ib/\x<=ia+ib) (Q:=fun r st'=>DH st st'/\∃ o t,r=(some o,t)/\Mgd rk a b o) ?_ ?_ ⟨DH.refl st,_,_,_,_,rfl,⟨m0,z2,z1⟩,Nat.zero_le _⟩) ?_)
 ·rintro x c st1 _ hx ⟨sy,out,ia,ib,g,rfl,lv,le⟩;dsimp only;have hk1:kindOf st1=κ:=by rw [sy.kind,hk]
  refine wpS_bind (wpS_mono (wpS_forRange (I:=fun x r st'=>st'=st1/\∃ out' ia' ib' ac bc,r=(none,out',ia',ib',ac,bc)/\Lv rk a b out' ia' ib'/\ia+ib+x<=ia'+ib') (Q:=fun r st'=>st'=st1/\((∃ o t,r=(some o,t)/\Mgd rk a b o)\/∃ out' ia' ib' ac bc,r=(none,out',ia',ib',ac,bc)/\Lv rk a b out' ia' ib'/\ia+ib+1<=ia'+ib')) ?_ ?_ ⟨rfl,out,ia,ib,0,0,rfl,lv,Nat.le_refl _⟩) ?_)
  ·rintro x' c' st2 _ hx' ⟨rfl,out',ia',ib',ac,bc,rfl,lv',le'⟩;dsimp only;obtain ⟨y,ey⟩:=atB lv'.lb;obtain ⟨z,ez⟩:=atA (Nat.lt_of_succ_lt lv'.la);refine wpS_bind (AD ey (wpS_bind (AD ez (wpS_bind (hl _ _ _ _ (Sb _ _ ey) (Sa _ _ ez) hk1 ?_)))));dsimp only;by_cases lt:rk y < rk z
   ·rw [decide_eq_true lt,if_pos rfl];refine wpS_bind (AD ey ?_)
    try dsimp only
    have mi:=lv'.mi.pushB sb ey fun j y' hj ey'=>by
     have:=sa _ _ _ _ hj ez ey';omega
    by_cases q:(ib'+1 == b.size)=true
    ·rw [if_pos q];have q:ib'+1=b.size:=by simpa using q
     refine wpS_pure ⟨rfl,.inl ⟨_,_,rfl,?_⟩⟩;rw [q] at mi ⊢;exact mi.doneA sa (by have:=lv'.la; omega)
    rw [if_neg q];have q:¬ ib'+1=b.size:=fun z=>q (by simpa using z);have lv2:Lv rk a b (out'.push y) ia' (ib'+1):=⟨mi,lv'.la,by have:=lv'.lb; omega⟩
    split
    ·exact wpS_pure ⟨rfl,.inr ⟨_,_,_,_,_,rfl,lv2,by omega⟩⟩
    ·exact wpS_pure ⟨rfl,_,_,_,_,_,rfl,lv2,by omega⟩
   ·rw [decide_eq_false lt,if_neg (by simp)];refine wpS_bind (AD ez ?_)
    try dsimp only
    have mi:=lv'.mi.pushA sa ez fun j y' hj ey'=>by
     have:=sb _ _ _ _ hj ey ey';omega
    by_cases q:(ia'+1+1 == a.size)=true
    ·rw [if_pos q];have q:ia'+1+1=a.size:=by simpa using q
     exact wpS_pure ⟨rfl,.inl ⟨_,_,rfl,mi.lastA sa sb (by omega) (Nat.le_of_lt lv'.lb) (lastL q)⟩⟩
    rw [if_neg q];have q:¬ ia'+1+1=a.size:=fun z=>q (by simpa using z);have lv2:Lv rk a b (out'.push z) (ia'+1) ib':=⟨mi,by have:=lv'.la; omega,lv'.lb⟩
    split
    ·exact wpS_pure ⟨rfl,.inr ⟨_,_,_,_,_,rfl,lv2,by omega⟩⟩
    ·exact wpS_pure ⟨rfl,_,_,_,_,_,rfl,lv2,by omega⟩
  ·rintro c' st2 ⟨rfl,out',ia',ib',ac,bc,rfl,lv',le'⟩;have:=lv'.la;have:=lv'.lb;omega
  rintro r st2 ⟨rfl,⟨o,t,rfl,mg⟩ | ⟨out',ia',ib',ac,bc,rfl,lv',le'⟩⟩
  ·exact wpS_pure ⟨sy,_,_,rfl,mg⟩
  dsimp only;refine wpS_bind (wpS_lift (wpAny_rule ⟨rfl,?_⟩));refine wpS_bind (wpS_mono (wpS_forRange (I:=fun x r st'=>DH st st'/\∃ out2 ia2 ib2 g2 ac2 bc2,r=(none,out2,ia2,ib2,g2,ac2,bc2)/\Lv rk a b out2 ia2 ib2/\ia'+ib'+x<=ia2+ib2) (Q:=fun r st'=>DH st st'/\((∃ o t,r=(some o,t)/\Mgd rk a b o)\/∃ out2 ia2 ib2 g2 ac2 bc2,r=(none,out2,ia2,ib2,g2,ac2,bc2)/\Lv rk a b out2 ia2 ib2/\ia'+ib'<=ia2+ib2)) ?_ ?_ ⟨sy,out',ia',ib',_,_,_,rfl,lv',Nat.le_refl _⟩) ?_)
  ·rintro x2 c2 st3 _ hx2 ⟨sy2,out2,ia2,ib2,g2,ac2,bc2,rfl,lv2,le2⟩;dsimp only;by_cases zg:g2 > 1
   ·rw [if_pos zg];have sy3:DH st (SortSt.mk' (kindOf st3) (arrOf st3) (pendingOf st3) (g2 - 1) (failedOf st3)):=by
     obtain ⟨gg,rfl⟩:=sy2;exact ⟨_,rfl⟩
    have hk3:kindOf (SortSt.mk' (kindOf st3) (arrOf st3) (pendingOf st3) (g2 - 1) (failedOf st3))=κ:=by rw [sy3.kind,hk]
    refine wpS_bind (wpS_modify ?_);obtain ⟨y,ey⟩:=atB lv2.lb;have la2:=lv2.la;have lb2:=lv2.lb;refine wpS_bind (AD ey (wpS_bind (Em hl hk3 (Sb _ _ ey) (fun i x _ _ e=>Sa i x e) (fun i j x y _ h _=>sa i j x y h) (by omega) (by omega) fun kk hkk h1 h2=>?_)))
    try dsimp only
    by_cases zk:kk > 0
    ·rw [if_pos zk];have mi2:=MI.addA sa lv2.mi (k:=kk) (by omega) fun i x h1' h2' ex j y' hj ey'=>Nat.le_trans (h1 i x h1' h2' ex) (sb _ _ _ _ hj ey ey');by_cases q1:(ia2+kk+1 == a.size)=true
     ·rw [if_pos q1];have q1:ia2+kk+1=a.size:=by simpa using q1
      exact wpS_pure ⟨sy3,.inl ⟨_,_,rfl,mi2.lastA sa sb (by omega) (by omega) (lastL q1)⟩⟩
     rw [if_neg q1];have q1:¬ ia2+kk+1=a.size:=fun z=>q1 (by simpa using z);by_cases q2:(ia2+kk == a.size)=true
     ·rw [if_pos q2];have q2:ia2+kk=a.size:=by simpa using q2
      refine wpS_pure ⟨sy3,.inl ⟨_,_,rfl,?_⟩⟩;have mi2':=mi2;rw [q2] at mi2' ⊢;exact mi2'.doneB sb (by omega)
     rw [if_neg q2];have q2:¬ ia2+kk=a.size:=fun z=>q2 (by simpa using z);have gt:∀ (i:Nat) x,ia2+kk<=i->a[i]?=some x->rk y < rk x:=fun i x hi ex=>h2 i x hi (by have:=(Array.getElem?_eq_some_iff.mp ex).1; omega) ex;have mi3:=mi2.pushB sb ey fun j y' hj ey'=>Nat.le_of_lt (gt j y' hj ey');refine wpS_bind (AD ey ?_)
     try dsimp only
     by_cases q3:(ib2+1 == b.size)=true
     ·rw [if_pos q3];have q3:ib2+1=b.size:=by simpa using q3
      refine wpS_pure ⟨sy3,.inl ⟨_,_,rfl,?_⟩⟩;rw [q3] at mi3 ⊢;exact mi3.doneA sa (by omega)
     rw [if_neg q3];have q3:¬ ib2+1=b.size:=fun z=>q3 (by simpa using z);obtain ⟨z,ez⟩:=atA (i:=ia2+kk) (by omega);refine wpS_bind (AD ez (wpS_bind (Dm hl hk3 (Sa _ _ ez) (fun i x _ _ e=>Sb i x e) (fun i j x y _ h _=>sb i j x y h) (by omega) (by omega) fun k2 hk2 h3 h4=>?_)))
     try dsimp only
     by_cases zk2:k2 > 0
     ·rw [if_pos zk2];have mi4:=MI.addB sb mi3 (k:=k2) (by omega) fun i x h1' h2' ex j y' hj ey'=>Nat.le_trans (Nat.le_of_lt (h3 i x h1' h2' ex)) (sa _ _ _ _ hj ez ey');by_cases q4:(ib2+1+k2 == b.size)=true
      ·rw [if_pos q4];have q4:ib2+1+k2=b.size:=by simpa using q4
       refine wpS_pure ⟨sy3,.inl ⟨_,_,rfl,?_⟩⟩;have mi4':=mi4;rw [q4] at mi4' ⊢;exact mi4'.doneA sa (by omega)
      rw [if_neg q4];have q4:¬ ib2+1+k2=b.size:=fun z=>q4 (by simpa using z);have mi5:=mi4.pushA sa ez fun j y' hj ey'=>h4 j y' (by omega) (by have:=(Array.getElem?_eq_some_iff.mp ey').1; omega) ey';refine wpS_bind (AD ez ?_)
      try dsimp only
      by_cases q5:(ia2+kk+1+1 == a.size)=true
      ·rw [if_pos q5];have q5:ia2+kk+1+1=a.size:=by simpa using q5
       exact wpS_pure ⟨sy3,.inl ⟨_,_,rfl,mi5.lastA sa sb (by omega) (by omega) (lastL q5)⟩⟩
      rw [if_neg q5];have q5:¬ ia2+kk+1+1=a.size:=fun z=>q5 (by simpa using z);have lv3:Lv rk a b _ (ia2+kk+1) (ib2+1+k2):=⟨mi5,by omega,by omega⟩
      split
      ·exact wpS_pure ⟨sy3,.inr ⟨_,_,_,_,_,_,rfl,lv3,by omega⟩⟩
      ·exact wpS_pure ⟨sy3,_,_,_,_,_,_,rfl,lv3,by omega⟩
     ·rw [if_neg zk2];have zk2:k2=0:=by omega
      subst zk2;have mi5:=mi3.pushA sa ez fun j y' hj ey'=>h4 j y' (by omega) (by have:=(Array.getElem?_eq_some_iff.mp ey').1; omega) ey';refine wpS_bind (AD ez ?_)
      try dsimp only
      by_cases q5:(ia2+kk+1+1 == a.size)=true
      ·rw [if_pos q5];have q5:ia2+kk+1+1=a.size:=by simpa using q5
       exact wpS_pure ⟨sy3,.inl ⟨_,_,rfl,mi5.lastA sa sb (by omega) (by omega) (lastL q5)⟩⟩
      rw [if_neg q5];have q5:¬ ia2+kk+1+1=a.size:=fun z=>q5 (by simpa using z);have lv3:Lv rk a b _ (ia2+kk+1) (ib2+1):=⟨mi5,by omega,by omega⟩
      split
      ·exact wpS_pure ⟨sy3,.inr ⟨_,_,_,_,_,_,rfl,lv3,by omega⟩⟩
      ·exact wpS_pure ⟨sy3,_,_,_,_,_,_,rfl,lv3,by omega⟩
    ·rw [if_neg zk];have zk:kk=0:=by omega
     subst zk;have gt:∀ (i:Nat) x,ia2<=i->a[i]?=some x->rk y < rk x:=fun i x hi ex=>h2 i x hi (by have:=(Array.getElem?_eq_some_iff.mp ex).1; omega) ex;have mi3:=lv2.mi.pushB sb ey fun j y' hj ey'=>Nat.le_of_lt (gt j y' hj ey');refine wpS_bind (AD ey ?_)
     try dsimp only
     by_cases q3:(ib2+1 == b.size)=true
     ·rw [if_pos q3];have q3:ib2+1=b.size:=by simpa using q3
      refine wpS_pure ⟨sy3,.inl ⟨_,_,rfl,?_⟩⟩;rw [q3] at mi3 ⊢;exact mi3.doneA sa (by omega)
     rw [if_neg q3];have q3:¬ ib2+1=b.size:=fun z=>q3 (by simpa using z);obtain ⟨z,ez⟩:=atA (i:=ia2) (by omega);refine wpS_bind (AD ez (wpS_bind (Dm hl hk3 (Sa _ _ ez) (fun i x _ _ e=>Sb i x e) (fun i j x y _ h _=>sb i j x y h) (by omega) (by omega) fun k2 hk2 h3 h4=>?_)))
     try dsimp only
     by_cases zk2:k2 > 0
     ·rw [if_pos zk2];have mi4:=MI.addB sb mi3 (k:=k2) (by omega) fun i x h1' h2' ex j y' hj ey'=>Nat.le_trans (Nat.le_of_lt (h3 i x h1' h2' ex)) (sa _ _ _ _ hj ez ey');by_cases q4:(ib2+1+k2 == b.size)=true
      ·rw [if_pos q4];have q4:ib2+1+k2=b.size:=by simpa using q4
       refine wpS_pure ⟨sy3,.inl ⟨_,_,rfl,?_⟩⟩;have mi4':=mi4;rw [q4] at mi4' ⊢;exact mi4'.doneA sa (by omega)
      rw [if_neg q4];have q4:¬ ib2+1+k2=b.size:=fun z=>q4 (by simpa using z);have mi5:=mi4.pushA sa ez fun j y' hj ey'=>h4 j y' (by omega) (by have:=(Array.getElem?_eq_some_iff.mp ey').1; omega) ey';refine wpS_bind (AD ez ?_)
      try dsimp only
      by_cases q5:(ia2+1+1 == a.size)=true
      ·rw [if_pos q5];have q5:ia2+1+1=a.size:=by simpa using q5
       exact wpS_pure ⟨sy3,.inl ⟨_,_,rfl,mi5.lastA sa sb (by omega) (by omega) (lastL q5)⟩⟩
      rw [if_neg q5];have q5:¬ ia2+1+1=a.size:=fun z=>q5 (by simpa using z);have lv3:Lv rk a b _ (ia2+1) (ib2+1+k2):=⟨mi5,by omega,by omega⟩
      split
      ·exact wpS_pure ⟨sy3,.inr ⟨_,_,_,_,_,_,rfl,lv3,by omega⟩⟩
      ·exact wpS_pure ⟨sy3,_,_,_,_,_,_,rfl,lv3,by omega⟩
     ·rw [if_neg zk2];have zk2:k2=0:=by omega
      subst zk2;have mi5:=mi3.pushA sa ez fun j y' hj ey'=>h4 j y' (by omega) (by have:=(Array.getElem?_eq_some_iff.mp ey').1; omega) ey';refine wpS_bind (AD ez ?_)
      try dsimp only
      by_cases q5:(ia2+1+1 == a.size)=true
      ·rw [if_pos q5];have q5:ia2+1+1=a.size:=by simpa using q5
       exact wpS_pure ⟨sy3,.inl ⟨_,_,rfl,mi5.lastA sa sb (by omega) (by omega) (lastL q5)⟩⟩
      rw [if_neg q5];have q5:¬ ia2+1+1=a.size:=fun z=>q5 (by simpa using z);have lv3:Lv rk a b _ (ia2+1) (ib2+1):=⟨mi5,by omega,by omega⟩
      split
      ·exact wpS_pure ⟨sy3,.inr ⟨_,_,_,_,_,_,rfl,lv3,by omega⟩⟩
      ·exact wpS_pure ⟨sy3,_,_,_,_,_,_,rfl,lv3,by omega⟩
   ·rw [if_neg zg];have sy3:DH st (SortSt.mk' (kindOf st3) (arrOf st3) (pendingOf st3) g2 (failedOf st3)):=by
     obtain ⟨gg,rfl⟩:=sy2;exact ⟨_,rfl⟩
    have hk3:kindOf (SortSt.mk' (kindOf st3) (arrOf st3) (pendingOf st3) g2 (failedOf st3))=κ:=by rw [sy3.kind,hk]
    refine wpS_bind (wpS_modify ?_);obtain ⟨y,ey⟩:=atB lv2.lb;have la2:=lv2.la;have lb2:=lv2.lb;refine wpS_bind (AD ey (wpS_bind (Em hl hk3 (Sb _ _ ey) (fun i x _ _ e=>Sa i x e) (fun i j x y _ h _=>sa i j x y h) (by omega) (by omega) fun kk hkk h1 h2=>?_)))
    try dsimp only
    by_cases zk:kk > 0
    ·rw [if_pos zk];have mi2:=MI.addA sa lv2.mi (k:=kk) (by omega) fun i x h1' h2' ex j y' hj ey'=>Nat.le_trans (h1 i x h1' h2' ex) (sb _ _ _ _ hj ey ey');by_cases q1:(ia2+kk+1 == a.size)=true
     ·rw [if_pos q1];have q1:ia2+kk+1=a.size:=by simpa using q1
      exact wpS_pure ⟨sy3,.inl ⟨_,_,rfl,mi2.lastA sa sb (by omega) (by omega) (lastL q1)⟩⟩
     rw [if_neg q1];have q1:¬ ia2+kk+1=a.size:=fun z=>q1 (by simpa using z);by_cases q2:(ia2+kk == a.size)=true
     ·rw [if_pos q2];have q2:ia2+kk=a.size:=by simpa using q2
      refine wpS_pure ⟨sy3,.inl ⟨_,_,rfl,?_⟩⟩;have mi2':=mi2;rw [q2] at mi2' ⊢;exact mi2'.doneB sb (by omega)
     rw [if_neg q2];have q2:¬ ia2+kk=a.size:=fun z=>q2 (by simpa using z);have gt:∀ (i:Nat) x,ia2+kk<=i->a[i]?=some x->rk y < rk x:=fun i x hi ex=>h2 i x hi (by have:=(Array.getElem?_eq_some_iff.mp ex).1; omega) ex;have mi3:=mi2.pushB sb ey fun j y' hj ey'=>Nat.le_of_lt (gt j y' hj ey');refine wpS_bind (AD ey ?_)
     try dsimp only
     by_cases q3:(ib2+1 == b.size)=true
     ·rw [if_pos q3];have q3:ib2+1=b.size:=by simpa using q3
      refine wpS_pure ⟨sy3,.inl ⟨_,_,rfl,?_⟩⟩;rw [q3] at mi3 ⊢;exact mi3.doneA sa (by omega)
     rw [if_neg q3];have q3:¬ ib2+1=b.size:=fun z=>q3 (by simpa using z);obtain ⟨z,ez⟩:=atA (i:=ia2+kk) (by omega);refine wpS_bind (AD ez (wpS_bind (Dm hl hk3 (Sa _ _ ez) (fun i x _ _ e=>Sb i x e) (fun i j x y _ h _=>sb i j x y h) (by omega) (by omega) fun k2 hk2 h3 h4=>?_)))
     try dsimp only
     by_cases zk2:k2 > 0
     ·rw [if_pos zk2];have mi4:=MI.addB sb mi3 (k:=k2) (by omega) fun i x h1' h2' ex j y' hj ey'=>Nat.le_trans (Nat.le_of_lt (h3 i x h1' h2' ex)) (sa _ _ _ _ hj ez ey');by_cases q4:(ib2+1+k2 == b.size)=true
      ·rw [if_pos q4];have q4:ib2+1+k2=b.size:=by simpa using q4
       refine wpS_pure ⟨sy3,.inl ⟨_,_,rfl,?_⟩⟩;have mi4':=mi4;rw [q4] at mi4' ⊢;exact mi4'.doneA sa (by omega)
      rw [if_neg q4];have q4:¬ ib2+1+k2=b.size:=fun z=>q4 (by simpa using z);have mi5:=mi4.pushA sa ez fun j y' hj ey'=>h4 j y' (by omega) (by have:=(Array.getElem?_eq_some_iff.mp ey').1; omega) ey';refine wpS_bind (AD ez ?_)
      try dsimp only
      by_cases q5:(ia2+kk+1+1 == a.size)=true
      ·rw [if_pos q5];have q5:ia2+kk+1+1=a.size:=by simpa using q5
       exact wpS_pure ⟨sy3,.inl ⟨_,_,rfl,mi5.lastA sa sb (by omega) (by omega) (lastL q5)⟩⟩
      rw [if_neg q5];have q5:¬ ia2+kk+1+1=a.size:=fun z=>q5 (by simpa using z);have lv3:Lv rk a b _ (ia2+kk+1) (ib2+1+k2):=⟨mi5,by omega,by omega⟩
      split
      ·exact wpS_pure ⟨sy3,.inr ⟨_,_,_,_,_,_,rfl,lv3,by omega⟩⟩
      ·exact wpS_pure ⟨sy3,_,_,_,_,_,_,rfl,lv3,by omega⟩
     ·rw [if_neg zk2];have zk2:k2=0:=by omega
      subst zk2;have mi5:=mi3.pushA sa ez fun j y' hj ey'=>h4 j y' (by omega) (by have:=(Array.getElem?_eq_some_iff.mp ey').1; omega) ey';refine wpS_bind (AD ez ?_)
      try dsimp only
      by_cases q5:(ia2+kk+1+1 == a.size)=true
      ·rw [if_pos q5];have q5:ia2+kk+1+1=a.size:=by simpa using q5
       exact wpS_pure ⟨sy3,.inl ⟨_,_,rfl,mi5.lastA sa sb (by omega) (by omega) (lastL q5)⟩⟩
      rw [if_neg q5];have q5:¬ ia2+kk+1+1=a.size:=fun z=>q5 (by simpa using z);have lv3:Lv rk a b _ (ia2+kk+1) (ib2+1):=⟨mi5,by omega,by omega⟩
      split
      ·exact wpS_pure ⟨sy3,.inr ⟨_,_,_,_,_,_,rfl,lv3,by omega⟩⟩
      ·exact wpS_pure ⟨sy3,_,_,_,_,_,_,rfl,lv3,by omega⟩
    ·rw [if_neg zk];have zk:kk=0:=by omega
     subst zk;have gt:∀ (i:Nat) x,ia2<=i->a[i]?=some x->rk y < rk x:=fun i x hi ex=>h2 i x hi (by have:=(Array.getElem?_eq_some_iff.mp ex).1; omega) ex;have mi3:=lv2.mi.pushB sb ey fun j y' hj ey'=>Nat.le_of_lt (gt j y' hj ey');refine wpS_bind (AD ey ?_)
     try dsimp only
     by_cases q3:(ib2+1 == b.size)=true
     ·rw [if_pos q3];have q3:ib2+1=b.size:=by simpa using q3
      refine wpS_pure ⟨sy3,.inl ⟨_,_,rfl,?_⟩⟩;rw [q3] at mi3 ⊢;exact mi3.doneA sa (by omega)
     rw [if_neg q3];have q3:¬ ib2+1=b.size:=fun z=>q3 (by simpa using z);obtain ⟨z,ez⟩:=atA (i:=ia2) (by omega);refine wpS_bind (AD ez (wpS_bind (Dm hl hk3 (Sa _ _ ez) (fun i x _ _ e=>Sb i x e) (fun i j x y _ h _=>sb i j x y h) (by omega) (by omega) fun k2 hk2 h3 h4=>?_)))
     try dsimp only
     by_cases zk2:k2 > 0
     ·rw [if_pos zk2];have mi4:=MI.addB sb mi3 (k:=k2) (by omega) fun i x h1' h2' ex j y' hj ey'=>Nat.le_trans (Nat.le_of_lt (h3 i x h1' h2' ex)) (sa _ _ _ _ hj ez ey');by_cases q4:(ib2+1+k2 == b.size)=true
      ·rw [if_pos q4];have q4:ib2+1+k2=b.size:=by simpa using q4
       refine wpS_pure ⟨sy3,.inl ⟨_,_,rfl,?_⟩⟩;have mi4':=mi4;rw [q4] at mi4' ⊢;exact mi4'.doneA sa (by omega)
      rw [if_neg q4];have q4:¬ ib2+1+k2=b.size:=fun z=>q4 (by simpa using z);have mi5:=mi4.pushA sa ez fun j y' hj ey'=>h4 j y' (by omega) (by have:=(Array.getElem?_eq_some_iff.mp ey').1; omega) ey';refine wpS_bind (AD ez ?_)
      try dsimp only
      by_cases q5:(ia2+1+1 == a.size)=true
      ·rw [if_pos q5];have q5:ia2+1+1=a.size:=by simpa using q5
       exact wpS_pure ⟨sy3,.inl ⟨_,_,rfl,mi5.lastA sa sb (by omega) (by omega) (lastL q5)⟩⟩
      rw [if_neg q5];have q5:¬ ia2+1+1=a.size:=fun z=>q5 (by simpa using z);have lv3:Lv rk a b _ (ia2+1) (ib2+1+k2):=⟨mi5,by omega,by omega⟩
      split
      ·exact wpS_pure ⟨sy3,.inr ⟨_,_,_,_,_,_,rfl,lv3,by omega⟩⟩
      ·exact wpS_pure ⟨sy3,_,_,_,_,_,_,rfl,lv3,by omega⟩
     ·rw [if_neg zk2];have zk2:k2=0:=by omega
      subst zk2;have mi5:=mi3.pushA sa ez fun j y' hj ey'=>h4 j y' (by omega) (by have:=(Array.getElem?_eq_some_iff.mp ey').1; omega) ey';refine wpS_bind (AD ez ?_)
      try dsimp only
      by_cases q5:(ia2+1+1 == a.size)=true
      ·rw [if_pos q5];have q5:ia2+1+1=a.size:=by simpa using q5
       exact wpS_pure ⟨sy3,.inl ⟨_,_,rfl,mi5.lastA sa sb (by omega) (by omega) (lastL q5)⟩⟩
      rw [if_neg q5];have q5:¬ ia2+1+1=a.size:=fun z=>q5 (by simpa using z);have lv3:Lv rk a b _ (ia2+1) (ib2+1):=⟨mi5,by omega,by omega⟩
      split
      ·exact wpS_pure ⟨sy3,.inr ⟨_,_,_,_,_,_,rfl,lv3,by omega⟩⟩
      ·exact wpS_pure ⟨sy3,_,_,_,_,_,_,rfl,lv3,by omega⟩
  ·rintro c2 st3 ⟨sy2,out2,ia2,ib2,g2,ac2,bc2,rfl,lv2,le2⟩;have:=lv2.la;have:=lv2.lb;omega
  rintro r st3 ⟨sy2,⟨o,t,rfl,mg⟩ | ⟨out2,ia2,ib2,g2,ac2,bc2,rfl,lv2,le2⟩⟩
  ·exact wpS_pure ⟨sy2,_,_,rfl,mg⟩
  refine wpS_bind (wpS_modify (wpS_pure ?_));refine ⟨?_,_,_,_,_,rfl,lv2,by show x+1<=ia2+ib2; omega⟩;obtain ⟨gg,rfl⟩:=sy2;exact ⟨_,rfl⟩
 ·rintro c st1 ⟨sy,out,ia,ib,g,rfl,lv,le⟩;have:=lv.la;have:=lv.lb;omega
 ·rintro r st1 ⟨sy,o,t,rfl,mg⟩;exact wpS_pure (k _ _ mg sy)
end
end PyProof.Rows
namespace PyProof.Rows
open PySem
structure MH (rk:Keyed->Nat) (a b out:Array Keyed) (na nb:Nat):Prop where
 pm:out.toList.Perm (a.toList.drop na ++ b.toList.drop nb)
 so:out.toList.Pairwise (fun x y=>rk y<=rk x)
 ba:∀ o ∈ out.toList,∀ i x,i < na->a[i]?=some x->rk x<=rk o
 bb:∀ o ∈ out.toList,∀ i x,i < nb->b[i]?=some x->rk x<=rk o
section
variable {rk:Keyed->Nat} {a b out:Array Keyed} {na nb:Nat}
theorem MH.nil:MH rk a b #[] a.size b.size:=by
 refine ⟨?_,by simp,fun o h=>by simp at h,fun o h=>by simp at h⟩;rw [show a.size=a.toList.length from Array.length_toList.symm,show b.size=b.toList.length from Array.length_toList.symm,List.drop_length,List.drop_length];exact List.Perm.refl _
theorem FY {a:Array Keyed} {i:Nat} {x:Keyed} (h:a[i]?=some x):a.toList.drop i=x :: a.toList.drop (i+1):=by
 obtain ⟨hl,e⟩:=Array.getElem?_eq_some_iff.mp h;rw [List.drop_eq_getElem_cons (by rw [Array.length_toList]; exact hl),Array.getElem_toList,e]
theorem MH.pushA {x:Keyed} (h:MH rk a b out (na+1) nb) (sa:SoA rk a) (e:a[na]?=some x) (le:∀ j y,j < nb->b[j]?=some y->rk y<=rk x):MH rk a b (out.push x) na nb:=by
 have me:∀ o,o ∈ (out.push x).toList->o ∈ out.toList\/o=x:=fun o ho=>by
  rw [Array.toList_push,List.mem_append,List.mem_singleton] at ho;exact ho
 refine ⟨?_,?_,fun o ho i y hi ey=>?_,fun o ho i y hi ey=>?_⟩
 ·rw [Array.toList_push,FY e,List.cons_append];exact List.perm_append_singleton x _ |>.trans (h.pm.cons x)
 ·rw [Array.toList_push,List.pairwise_append];refine ⟨h.so,by simp,fun o ho y hy=>?_⟩;rw [List.mem_singleton.mp hy];exact h.ba o ho na x (by omega) e
 ·rcases me o ho with z | rfl
  ·exact h.ba o z i y (by omega) ey
  ·exact sa i na y _ (by omega) ey e
 ·rcases me o ho with z | rfl
  ·exact h.bb o z i y hi ey
  ·exact le i y hi ey
theorem MH.pushB {x:Keyed} (h:MH rk a b out na (nb+1)) (sb:SoA rk b) (e:b[nb]?=some x) (le:∀ j y,j < na->a[j]?=some y->rk y<=rk x):MH rk a b (out.push x) na nb:=by
 have me:∀ o,o ∈ (out.push x).toList->o ∈ out.toList\/o=x:=fun o ho=>by
  rw [Array.toList_push,List.mem_append,List.mem_singleton] at ho;exact ho
 refine ⟨?_,?_,fun o ho i y hi ey=>?_,fun o ho i y hi ey=>?_⟩
 ·rw [Array.toList_push,FY e];exact (List.perm_append_singleton x _).trans ((h.pm.cons x).trans List.perm_middle.symm)
 ·rw [Array.toList_push,List.pairwise_append];refine ⟨h.so,by simp,fun o ho y hy=>?_⟩;rw [List.mem_singleton.mp hy];exact h.bb o ho nb x (by omega) e
 ·rcases me o ho with z | rfl
  ·exact h.ba o z i y hi ey
  ·exact le i y hi ey
 ·rcases me o ho with z | rfl
  ·exact h.bb o z i y (by omega) ey
  ·exact sb i nb y _ (by omega) ey e
theorem LJ {a:Array Keyed} {i j:Nat} {x:Keyed} (h:a[i]?=some x) (ij:i < j):(a.extract i j).reverse=(a.extract (i+1) j).reverse.push x:=by
 apply Array.toList_inj.mp;rw [Array.toList_push,Array.toList_reverse,Array.toList_reverse,Array.toList_extract,Array.toList_extract];simp only [List.extract];rw [FY h,show j - i=(j - (i+1))+1 by omega,List.take_succ_cons,List.reverse_cons]
theorem MH.addA (sa:SoA rk a) {n:Nat} (h:MH rk a b out n nb) (hn:n<=a.size):∀ {k t:Nat},t+k=n->(∀ i x,t<=i->i < n->a[i]?=some x->∀ j y,j < nb->b[j]?=some y->rk y<=rk x)->MH rk a b (out ++ (a.extract t n).reverse) t nb
 | 0,t,e,_=>by
  have:t=n:=by omega
  subst this;rw [Array.extract_eq_empty_of_le (by omega),Array.reverse_empty,Array.append_empty];exact h
 | k+1,t,e,le=>by
  have hl:t < a.size:=by omega
  have ex:a[t]?=some a[t]:=Array.getElem?_eq_getElem hl;have:=(MH.addA sa h hn (k:=k) (t:=t+1) (by omega) (fun i x h1 h2=>le i x (by omega) h2)).pushA sa ex (le t _ (Nat.le_refl _) (by omega) ex);rw [LJ ex (by omega),Array.append_push];exact this
theorem MH.addB (sb:SoA rk b) {n:Nat} (h:MH rk a b out na n) (hn:n<=b.size):∀ {k t:Nat},t+k=n->(∀ i x,t<=i->i < n->b[i]?=some x->∀ j y,j < na->a[j]?=some y->rk y<=rk x)->MH rk a b (out ++ (b.extract t n).reverse) na t
 | 0,t,e,_=>by
  have:t=n:=by omega
  subst this;rw [Array.extract_eq_empty_of_le (by omega),Array.reverse_empty,Array.append_empty];exact h
 | k+1,t,e,le=>by
  have hl:t < b.size:=by omega
  have ex:b[t]?=some b[t]:=Array.getElem?_eq_getElem hl;have:=(MH.addB sb h hn (k:=k) (t:=t+1) (by omega) (fun i x h1 h2=>le i x (by omega) h2)).pushB sb ex (le t _ (Nat.le_refl _) (by omega) ex);rw [LJ ex (by omega),Array.append_push];exact this
theorem MH.whole (h:MH rk a b out 0 0):Mgd rk a b out.reverse:=by
 refine ⟨?_,?_⟩
 ·rw [Array.toList_reverse];exact (List.reverse_perm _).trans h.pm
 ·rw [Array.toList_reverse,List.pairwise_reverse];exact h.so
theorem MH.doneA (sa:SoA rk a) (h:MH rk a b out na 0) (hn:na<=a.size):Mgd rk a b (a.extract 0 na ++ b.extract 0 0 ++ out.reverse):=by
 have h1:=(MH.addA sa h hn (k:=na) (t:=0) (by omega) fun i x _ _ _ j y hj=>absurd hj (by omega)).whole;have e:b.extract 0 0=#[]:=by simp
 rw [e,Array.append_empty];rw [Array.reverse_append,Array.reverse_reverse] at h1;exact h1
theorem MH.doneB (sb:SoA rk b) (h:MH rk a b out 0 nb) (hn:nb<=b.size):Mgd rk a b (a.extract 0 0 ++ b.extract 0 nb ++ out.reverse):=by
 have h1:=(MH.addB sb h hn (k:=nb) (t:=0) (by omega) fun i x _ _ _ j y hj=>absurd hj (by omega)).whole;have e:a.extract 0 0=#[]:=by simp
 rw [e,Array.empty_append];rw [Array.reverse_append,Array.reverse_reverse] at h1;exact h1
theorem MH.firstB (sa:SoA rk a) (sb:SoA rk b) (h:MH rk a b out na nb) (ha:na<=a.size) (hb:nb<=b.size) (le:∀ i x,i < na->a[i]?=some x->∀ j y,j < nb->b[j]?=some y->rk y<=rk x):Mgd rk a b (b.extract 0 nb ++ a.extract 0 na ++ out.reverse):=by
 have h1:=MH.addA sa h ha (k:=na) (t:=0) (by omega) fun i x _ h2=>le i x h2;have h2:=(MH.addB sb h1 hb (k:=nb) (t:=0) (by omega) fun i x _ _ _ j y hj=>absurd hj (by omega)).whole;rw [Array.reverse_append,Array.reverse_append,Array.reverse_reverse,Array.reverse_reverse,<-Array.append_assoc] at h2;exact h2
end
end PyProof.Rows
namespace PyProof.Rows
open PySem
def Pp:Array Keyed->Array Keyed->StateT SortSt Sem (Array Keyed):=sortPriv% PySem.Builtin.mergeHi
structure LvH (rk:Keyed->Nat) (a b out:Array Keyed) (na nb:Nat):Prop where
 mh:MH rk a b out na nb
 la:1<=na
 ka:na<=a.size
 lb:2<=nb
 kb:nb<=b.size
section
variable {prog:Program} {w:World} {A:Around} {E:Value->Shared->Prop} {s:Shared} {rk:Keyed->Nat} {S:Keyed->Prop} {κ:SortKind}
theorem Mw {a b:Array Keyed} {st:SortSt} {Q:Array Keyed->SortSt->Prop} (hl:Iy prog w A E s rk S κ) (hk:kindOf st=κ) (na:1<=a.size) (nb:1<=b.size) (Sa:∀ (i:Nat) x,a[i]?=some x->S x) (Sb:∀ (i:Nat) x,b[i]?=some x->S x) (sa:SoA rk a) (sb:SoA rk b) (first:∀ x y,b[0]?=some x->a[0]?=some y->rk x<=rk y) (last:∀ (i:Nat) x y,b[i]?=some x->a[a.size - 1]?=some y->rk x<=rk y) (k:∀ out st',Mgd rk a b out->DH st st'->Q out st'):wpS (model prog w) A E s (Pp a b) Q st:=by
 have atA:∀ {i:Nat},i < a.size->∃ x,a[i]?=some x:=fun {i} h=>⟨_,Array.getElem?_eq_getElem h⟩
 have atB:∀ {i:Nat},i < b.size->∃ x,b[i]?=some x:=fun {i} h=>⟨_,Array.getElem?_eq_getElem h⟩
 obtain ⟨f0,ef0⟩:=atA na;have firstL:∀ {nb:Nat},nb=1->∀ {na:Nat} (i:Nat) x,i < na->a[i]?=some x->∀ (j:Nat) y,j < nb->b[j]?=some y->rk y<=rk x:=fun {nb} e {na} i x _ ex j y hj ey=>by
  have:j=0:=by omega
  subst this;exact Nat.le_trans (first _ _ ey ef0) (sa 0 i _ _ (Nat.zero_le _) ef0 ex)
 refine wpS_bind (wpS_lift (wpAny_rule ⟨rfl,?_⟩));obtain ⟨x0,e0⟩:=atA (i:=a.size - 1) (by omega);refine wpS_bind (AD e0 ?_);dsimp only;have m0:MH rk a b #[x0] (a.size - 1) b.size:=by
  have:=MH.pushA (na:=a.size - 1) (show MH rk a b #[] (a.size - 1+1) b.size by rw [Nat.sub_add_cancel na]; exact MH.nil) sa e0 fun j y _ ey=>last j y x0 ey e0;exact this
 by_cases z1:(a.size - 1 == 0)=true
 ·rw [if_pos z1];have z1:a.size - 1=0:=by simpa using z1
  refine wpS_pure (k _ _ ?_ (DH.refl st));rw [z1] at m0 ⊢;exact m0.doneB sb (Nat.le_refl _)
 rw [if_neg z1];have z1:¬ a.size - 1=0:=fun z=>z1 (by simpa using z);by_cases z2:(b.size == 1)=true
 ·rw [if_pos z2];have z2:b.size=1:=by simpa using z2
  exact wpS_pure (k _ _ (m0.firstB sa sb (by omega) (Nat.le_refl _) (firstL z2)) (DH.refl st))
 rw [if_neg z2];have z2:¬ b.size=1:=fun z=>z2 (by simpa using z);refine wpS_bind (wpS_get ?_);refine wpS_bind (wpS_mono (wpS_forRange (I:=fun x r st'=>DH st st'/\∃ na nb out g,r=(none,na,nb,out,g)/\LvH rk a b out na nb/\na+nb+x<=a.size+b.size) (Q:=fun r st'=>DH st st'/\∃ o t,r=(some o,t)/\Mgd rk a b o) ?_ ?_ ⟨DH.refl st,_,_,_,_,rfl,⟨m0,by omega,by omega,by omega,Nat.le_refl _⟩,by omega⟩) ?_)
 ·rintro x c st1 _ hx ⟨sy,na1,nb1,out,g,rfl,lv,le⟩;dsimp only;have hk1:kindOf st1=κ:=by rw [sy.kind,hk]
  refine wpS_bind (wpS_mono (wpS_forRange (I:=fun x r st'=>st'=st1/\∃ na' nb' out' ac bc,r=(none,na',nb',out',ac,bc)/\LvH rk a b out' na' nb'/\na'+nb'+x<=na1+nb1) (Q:=fun r st'=>st'=st1/\((∃ o t,r=(some o,t)/\Mgd rk a b o)\/∃ na' nb' out' ac bc,r=(none,na',nb',out',ac,bc)/\LvH rk a b out' na' nb'/\na'+nb'+1<=na1+nb1)) ?_ ?_ ⟨rfl,na1,nb1,out,0,0,rfl,lv,Nat.le_refl _⟩) ?_)
  ·rintro x' c' st2 _ hx' ⟨rfl,na',nb',out',ac,bc,rfl,lv',le'⟩;dsimp only;have la':=lv'.la;have ka':=lv'.ka;have lb':=lv'.lb;have kb':=lv'.kb;obtain ⟨y,ey⟩:=atB (i:=nb' - 1) (by omega);obtain ⟨z,ez⟩:=atA (i:=na' - 1) (by omega);refine wpS_bind (AD ey (wpS_bind (AD ez (wpS_bind (hl _ _ _ _ (Sb _ _ ey) (Sa _ _ ez) hk1 ?_)))));dsimp only;by_cases lt:rk y < rk z
   ·rw [decide_eq_true lt,if_pos rfl];refine wpS_bind (AD ez ?_)
    try dsimp only
    have mi:=(show MH rk a b out' (na' - 1+1) nb' by rw [Nat.sub_add_cancel la']; exact lv'.mh).pushA sa ez fun j y' hj ey'=>by
     have:=sb j (nb' - 1) _ _ (by omega) ey' ey;omega
    by_cases q:(na' - 1 == 0)=true
    ·rw [if_pos q];have q:na' - 1=0:=by simpa using q
     refine wpS_pure ⟨rfl,.inl ⟨_,_,rfl,?_⟩⟩;rw [q] at mi ⊢;exact mi.doneB sb (by omega)
    rw [if_neg q];have q:¬ na' - 1=0:=fun z=>q (by simpa using z);have lv2:LvH rk a b (out'.push z) (na' - 1) nb':=⟨mi,by omega,by omega,by omega,by omega⟩
    split
    ·exact wpS_pure ⟨rfl,.inr ⟨_,_,_,_,_,rfl,lv2,by omega⟩⟩
    ·exact wpS_pure ⟨rfl,_,_,_,_,_,rfl,lv2,by omega⟩
   ·rw [decide_eq_false lt,if_neg (by simp)];refine wpS_bind (AD ey ?_)
    try dsimp only
    have mi:=(show MH rk a b out' na' (nb' - 1+1) by rw [Nat.sub_add_cancel (by omega)]; exact lv'.mh).pushB sb ey fun j y' hj ey'=>by
     have:=sa j (na' - 1) _ _ (by omega) ey' ez;omega
    by_cases q:(nb' - 1 == 1)=true
    ·rw [if_pos q];have q:nb' - 1=1:=by simpa using q
     exact wpS_pure ⟨rfl,.inl ⟨_,_,rfl,mi.firstB sa sb (by omega) (by omega) (firstL q)⟩⟩
    rw [if_neg q];have q:¬ nb' - 1=1:=fun z=>q (by simpa using z);have lv2:LvH rk a b (out'.push y) na' (nb' - 1):=⟨mi,by omega,by omega,by omega,by omega⟩
    split
    ·exact wpS_pure ⟨rfl,.inr ⟨_,_,_,_,_,rfl,lv2,by omega⟩⟩
    ·exact wpS_pure ⟨rfl,_,_,_,_,_,rfl,lv2,by omega⟩
  ·rintro c' st2 ⟨rfl,na',nb',out',ac,bc,rfl,lv',le'⟩;have:=lv'.la;have:=lv'.lb;have:=lv.ka;have:=lv.kb;omega
  rintro r st2 ⟨rfl,⟨o,t,rfl,mg⟩ | ⟨na',nb',out',ac,bc,rfl,lv',le'⟩⟩
  ·exact wpS_pure ⟨sy,_,_,rfl,mg⟩
  dsimp only;refine wpS_bind (wpS_lift (wpAny_rule ⟨rfl,?_⟩));refine wpS_bind (wpS_mono (wpS_forRange (I:=fun x r st'=>DH st st'/\∃ na2 nb2 out2 g2 ac2 bc2,r=(none,na2,nb2,out2,g2,ac2,bc2)/\LvH rk a b out2 na2 nb2/\na2+nb2+x<=na'+nb') (Q:=fun r st'=>DH st st'/\((∃ o t,r=(some o,t)/\Mgd rk a b o)\/∃ na2 nb2 out2 g2 ac2 bc2,r=(none,na2,nb2,out2,g2,ac2,bc2)/\LvH rk a b out2 na2 nb2/\na2+nb2<=na'+nb')) ?_ ?_ ⟨sy,na',nb',out',_,_,_,rfl,lv',Nat.le_refl _⟩) ?_)
  ·rintro x2 c2 st3 _ hx2 ⟨sy2,na2,nb2,out2,g2,ac2,bc2,rfl,lv2,le2⟩;dsimp only;by_cases zg:g2 > 1
   ·rw [if_pos zg];have sy3:DH st (SortSt.mk' (kindOf st3) (arrOf st3) (pendingOf st3) (g2 - 1) (failedOf st3)):=by
     obtain ⟨gg,rfl⟩:=sy2;exact ⟨_,rfl⟩
    have hk3:kindOf (SortSt.mk' (kindOf st3) (arrOf st3) (pendingOf st3) (g2 - 1) (failedOf st3))=κ:=by rw [sy3.kind,hk]
    refine wpS_bind (wpS_modify ?_);have la2:=lv2.la;have lb2:=lv2.lb;have ka2:=lv2.ka;have kb2:=lv2.kb;obtain ⟨y,ey⟩:=atB (i:=nb2 - 1) (by omega);refine wpS_bind (AD ey (wpS_bind (Em hl hk3 (Sb _ _ ey) (fun i x _ _ e=>Sa i x e) (fun i j x y _ h _=>sa i j x y h) (by omega) (by omega) fun t1 ht1 h1 h2=>?_)))
    try dsimp only
    by_cases zk:na2 - t1 > 0
    ·rw [if_pos zk];have mi2:=MH.addA sa lv2.mh (by omega) (k:=na2 - t1) (t:=t1) (by omega) fun i x h1' h2' ex j y' hj ey'=>Nat.le_trans (sb j (nb2 - 1) _ _ (by omega) ey' ey) (Nat.le_of_lt (h2 i x (by omega) (by omega) ex));by_cases q1:(t1 == 0)=true
     ·rw [if_pos q1];have q1:t1=0:=by simpa using q1
      refine wpS_pure ⟨sy3,.inl ⟨_,_,rfl,?_⟩⟩;subst q1;exact mi2.doneB sb (by omega)
     rw [if_neg q1];have q1:¬ t1=0:=fun z=>q1 (by simpa using z);have mi3:=(show MH rk a b _ (t1) (nb2 - 1+1) by rw [Nat.sub_add_cancel (by omega)]; exact mi2).pushB sb ey fun j y' hj ey'=>h1 j y' (by omega) (by omega) ey';refine wpS_bind (AD ey ?_)
     try dsimp only
     by_cases q3:(nb2 - 1 == 1)=true
     ·rw [if_pos q3];have q3:nb2 - 1=1:=by simpa using q3
      exact wpS_pure ⟨sy3,.inl ⟨_,_,rfl,mi3.firstB sa sb (by omega) (by omega) (firstL q3)⟩⟩
     rw [if_neg q3];have q3:¬ nb2 - 1=1:=fun z=>q3 (by simpa using z);obtain ⟨z,ez⟩:=atA (i:=t1 - 1) (by omega);refine wpS_bind (AD ez (wpS_bind (Dm hl hk3 (Sa _ _ ez) (fun i x _ _ e=>Sb i x e) (fun i j x y _ h _=>sb i j x y h) (by omega) (by omega) fun t2 ht2 h3 h4=>?_)))
     try dsimp only
     by_cases zk2:nb2 - 1 - t2 > 0
     ·rw [if_pos zk2];have mi4:=MH.addB sb mi3 (by omega) (k:=nb2 - 1 - t2) (t:=t2) (by omega) fun i x h1' h2' ex j y' hj ey'=>Nat.le_trans (sa j (t1 - 1) _ _ (by omega) ey' ez) (h4 i x (by omega) (by omega) ex);by_cases q4:(t2 == 1)=true
      ·rw [if_pos q4];have q4:t2=1:=by simpa using q4
       exact wpS_pure ⟨sy3,.inl ⟨_,_,rfl,mi4.firstB sa sb (by omega) (by omega) (firstL q4)⟩⟩
      rw [if_neg q4];have q4:¬ t2=1:=fun z=>q4 (by simpa using z);by_cases q6:(t2 == 0)=true
      ·rw [if_pos q6];have q6:t2=0:=by simpa using q6
       refine wpS_pure ⟨sy3,.inl ⟨_,_,rfl,?_⟩⟩;subst q6;exact mi4.doneA sa (by omega)
      rw [if_neg q6];have q6:¬ t2=0:=fun z=>q6 (by simpa using z);have mi5:=(show MH rk a b _ (t1 - 1+1) (t2) by rw [Nat.sub_add_cancel (by omega)]; exact mi4).pushA sa ez fun j y' hj ey'=>Nat.le_of_lt (h3 j y' (by omega) (by omega) ey');refine wpS_bind (AD ez ?_)
      try dsimp only
      by_cases q5:(t1 - 1 == 0)=true
      ·rw [if_pos q5];have q5:t1 - 1=0:=by simpa using q5
       refine wpS_pure ⟨sy3,.inl ⟨_,_,rfl,?_⟩⟩;rw [q5] at mi5 ⊢;exact mi5.doneB sb (by omega)
      rw [if_neg q5];have q5:¬ t1 - 1=0:=fun z=>q5 (by simpa using z);have lv3:LvH rk a b _ (t1 - 1) (t2):=⟨mi5,by omega,by omega,by omega,by omega⟩
      split
      ·exact wpS_pure ⟨sy3,.inr ⟨_,_,_,_,_,_,rfl,lv3,by omega⟩⟩
      ·exact wpS_pure ⟨sy3,_,_,_,_,_,_,rfl,lv3,by omega⟩
     ·rw [if_neg zk2];have zk2:t2=nb2 - 1:=by omega
      subst zk2;have mi5:=(show MH rk a b _ (t1 - 1+1) (nb2 - 1) by rw [Nat.sub_add_cancel (by omega)]; exact mi3).pushA sa ez fun j y' hj ey'=>Nat.le_of_lt (h3 j y' (by omega) (by omega) ey');refine wpS_bind (AD ez ?_)
      try dsimp only
      by_cases q5:(t1 - 1 == 0)=true
      ·rw [if_pos q5];have q5:t1 - 1=0:=by simpa using q5
       refine wpS_pure ⟨sy3,.inl ⟨_,_,rfl,?_⟩⟩;rw [q5] at mi5 ⊢;exact mi5.doneB sb (by omega)
      rw [if_neg q5];have q5:¬ t1 - 1=0:=fun z=>q5 (by simpa using z);have lv3:LvH rk a b _ (t1 - 1) (nb2 - 1):=⟨mi5,by omega,by omega,by omega,by omega⟩
      split
      ·exact wpS_pure ⟨sy3,.inr ⟨_,_,_,_,_,_,rfl,lv3,by omega⟩⟩
      ·exact wpS_pure ⟨sy3,_,_,_,_,_,_,rfl,lv3,by omega⟩
    ·rw [if_neg zk];have zk:t1=na2:=by omega
     subst zk;have mi3:=(show MH rk a b _ (t1) (nb2 - 1+1) by rw [Nat.sub_add_cancel (by omega)]; exact lv2.mh).pushB sb ey fun j y' hj ey'=>h1 j y' (by omega) (by omega) ey';refine wpS_bind (AD ey ?_)
     try dsimp only
     by_cases q3:(nb2 - 1 == 1)=true
     ·rw [if_pos q3];have q3:nb2 - 1=1:=by simpa using q3
      exact wpS_pure ⟨sy3,.inl ⟨_,_,rfl,mi3.firstB sa sb (by omega) (by omega) (firstL q3)⟩⟩
     rw [if_neg q3];have q3:¬ nb2 - 1=1:=fun z=>q3 (by simpa using z);obtain ⟨z,ez⟩:=atA (i:=t1 - 1) (by omega);refine wpS_bind (AD ez (wpS_bind (Dm hl hk3 (Sa _ _ ez) (fun i x _ _ e=>Sb i x e) (fun i j x y _ h _=>sb i j x y h) (by omega) (by omega) fun t2 ht2 h3 h4=>?_)))
     try dsimp only
     by_cases zk2:nb2 - 1 - t2 > 0
     ·rw [if_pos zk2];have mi4:=MH.addB sb mi3 (by omega) (k:=nb2 - 1 - t2) (t:=t2) (by omega) fun i x h1' h2' ex j y' hj ey'=>Nat.le_trans (sa j (t1 - 1) _ _ (by omega) ey' ez) (h4 i x (by omega) (by omega) ex);by_cases q4:(t2 == 1)=true
      ·rw [if_pos q4];have q4:t2=1:=by simpa using q4
       exact wpS_pure ⟨sy3,.inl ⟨_,_,rfl,mi4.firstB sa sb (by omega) (by omega) (firstL q4)⟩⟩
      rw [if_neg q4];have q4:¬ t2=1:=fun z=>q4 (by simpa using z);by_cases q6:(t2 == 0)=true
      ·rw [if_pos q6];have q6:t2=0:=by simpa using q6
       refine wpS_pure ⟨sy3,.inl ⟨_,_,rfl,?_⟩⟩;subst q6;exact mi4.doneA sa (by omega)
      rw [if_neg q6];have q6:¬ t2=0:=fun z=>q6 (by simpa using z);have mi5:=(show MH rk a b _ (t1 - 1+1) (t2) by rw [Nat.sub_add_cancel (by omega)]; exact mi4).pushA sa ez fun j y' hj ey'=>Nat.le_of_lt (h3 j y' (by omega) (by omega) ey');refine wpS_bind (AD ez ?_)
      try dsimp only
      by_cases q5:(t1 - 1 == 0)=true
      ·rw [if_pos q5];have q5:t1 - 1=0:=by simpa using q5
       refine wpS_pure ⟨sy3,.inl ⟨_,_,rfl,?_⟩⟩;rw [q5] at mi5 ⊢;exact mi5.doneB sb (by omega)
      rw [if_neg q5];have q5:¬ t1 - 1=0:=fun z=>q5 (by simpa using z);have lv3:LvH rk a b _ (t1 - 1) (t2):=⟨mi5,by omega,by omega,by omega,by omega⟩
      split
      ·exact wpS_pure ⟨sy3,.inr ⟨_,_,_,_,_,_,rfl,lv3,by omega⟩⟩
      ·exact wpS_pure ⟨sy3,_,_,_,_,_,_,rfl,lv3,by omega⟩
     ·rw [if_neg zk2];have zk2:t2=nb2 - 1:=by omega
      subst zk2;have mi5:=(show MH rk a b _ (t1 - 1+1) (nb2 - 1) by rw [Nat.sub_add_cancel (by omega)]; exact mi3).pushA sa ez fun j y' hj ey'=>Nat.le_of_lt (h3 j y' (by omega) (by omega) ey');refine wpS_bind (AD ez ?_)
      try dsimp only
      by_cases q5:(t1 - 1 == 0)=true
      ·rw [if_pos q5];have q5:t1 - 1=0:=by simpa using q5
       refine wpS_pure ⟨sy3,.inl ⟨_,_,rfl,?_⟩⟩;rw [q5] at mi5 ⊢;exact mi5.doneB sb (by omega)
      rw [if_neg q5];have q5:¬ t1 - 1=0:=fun z=>q5 (by simpa using z);have lv3:LvH rk a b _ (t1 - 1) (nb2 - 1):=⟨mi5,by omega,by omega,by omega,by omega⟩
      split
      ·exact wpS_pure ⟨sy3,.inr ⟨_,_,_,_,_,_,rfl,lv3,by omega⟩⟩
      ·exact wpS_pure ⟨sy3,_,_,_,_,_,_,rfl,lv3,by omega⟩
   ·rw [if_neg zg];have sy3:DH st (SortSt.mk' (kindOf st3) (arrOf st3) (pendingOf st3) g2 (failedOf st3)):=by
     obtain ⟨gg,rfl⟩:=sy2;exact ⟨_,rfl⟩
    have hk3:kindOf (SortSt.mk' (kindOf st3) (arrOf st3) (pendingOf st3) g2 (failedOf st3))=κ:=by rw [sy3.kind,hk]
    refine wpS_bind (wpS_modify ?_);have la2:=lv2.la;have lb2:=lv2.lb;have ka2:=lv2.ka;have kb2:=lv2.kb;obtain ⟨y,ey⟩:=atB (i:=nb2 - 1) (by omega);refine wpS_bind (AD ey (wpS_bind (Em hl hk3 (Sb _ _ ey) (fun i x _ _ e=>Sa i x e) (fun i j x y _ h _=>sa i j x y h) (by omega) (by omega) fun t1 ht1 h1 h2=>?_)))
    try dsimp only
    by_cases zk:na2 - t1 > 0
    ·rw [if_pos zk];have mi2:=MH.addA sa lv2.mh (by omega) (k:=na2 - t1) (t:=t1) (by omega) fun i x h1' h2' ex j y' hj ey'=>Nat.le_trans (sb j (nb2 - 1) _ _ (by omega) ey' ey) (Nat.le_of_lt (h2 i x (by omega) (by omega) ex));by_cases q1:(t1 == 0)=true
     ·rw [if_pos q1];have q1:t1=0:=by simpa using q1
      refine wpS_pure ⟨sy3,.inl ⟨_,_,rfl,?_⟩⟩;subst q1;exact mi2.doneB sb (by omega)
     rw [if_neg q1];have q1:¬ t1=0:=fun z=>q1 (by simpa using z);have mi3:=(show MH rk a b _ (t1) (nb2 - 1+1) by rw [Nat.sub_add_cancel (by omega)]; exact mi2).pushB sb ey fun j y' hj ey'=>h1 j y' (by omega) (by omega) ey';refine wpS_bind (AD ey ?_)
     try dsimp only
     by_cases q3:(nb2 - 1 == 1)=true
     ·rw [if_pos q3];have q3:nb2 - 1=1:=by simpa using q3
      exact wpS_pure ⟨sy3,.inl ⟨_,_,rfl,mi3.firstB sa sb (by omega) (by omega) (firstL q3)⟩⟩
     rw [if_neg q3];have q3:¬ nb2 - 1=1:=fun z=>q3 (by simpa using z);obtain ⟨z,ez⟩:=atA (i:=t1 - 1) (by omega);refine wpS_bind (AD ez (wpS_bind (Dm hl hk3 (Sa _ _ ez) (fun i x _ _ e=>Sb i x e) (fun i j x y _ h _=>sb i j x y h) (by omega) (by omega) fun t2 ht2 h3 h4=>?_)))
     try dsimp only
     by_cases zk2:nb2 - 1 - t2 > 0
     ·rw [if_pos zk2];have mi4:=MH.addB sb mi3 (by omega) (k:=nb2 - 1 - t2) (t:=t2) (by omega) fun i x h1' h2' ex j y' hj ey'=>Nat.le_trans (sa j (t1 - 1) _ _ (by omega) ey' ez) (h4 i x (by omega) (by omega) ex);by_cases q4:(t2 == 1)=true
      ·rw [if_pos q4];have q4:t2=1:=by simpa using q4
       exact wpS_pure ⟨sy3,.inl ⟨_,_,rfl,mi4.firstB sa sb (by omega) (by omega) (firstL q4)⟩⟩
      rw [if_neg q4];have q4:¬ t2=1:=fun z=>q4 (by simpa using z);by_cases q6:(t2 == 0)=true
      ·rw [if_pos q6];have q6:t2=0:=by simpa using q6
       refine wpS_pure ⟨sy3,.inl ⟨_,_,rfl,?_⟩⟩;subst q6;exact mi4.doneA sa (by omega)
      rw [if_neg q6];have q6:¬ t2=0:=fun z=>q6 (by simpa using z);have mi5:=(show MH rk a b _ (t1 - 1+1) (t2) by rw [Nat.sub_add_cancel (by omega)]; exact mi4).pushA sa ez fun j y' hj ey'=>Nat.le_of_lt (h3 j y' (by omega) (by omega) ey');refine wpS_bind (AD ez ?_)
      try dsimp only
      by_cases q5:(t1 - 1 == 0)=true
      ·rw [if_pos q5];have q5:t1 - 1=0:=by simpa using q5
       refine wpS_pure ⟨sy3,.inl ⟨_,_,rfl,?_⟩⟩;rw [q5] at mi5 ⊢;exact mi5.doneB sb (by omega)
      rw [if_neg q5];have q5:¬ t1 - 1=0:=fun z=>q5 (by simpa using z);have lv3:LvH rk a b _ (t1 - 1) (t2):=⟨mi5,by omega,by omega,by omega,by omega⟩
      split
      ·exact wpS_pure ⟨sy3,.inr ⟨_,_,_,_,_,_,rfl,lv3,by omega⟩⟩
      ·exact wpS_pure ⟨sy3,_,_,_,_,_,_,rfl,lv3,by omega⟩
     ·rw [if_neg zk2];have zk2:t2=nb2 - 1:=by omega
      subst zk2;have mi5:=(show MH rk a b _ (t1 - 1+1) (nb2 - 1) by rw [Nat.sub_add_cancel (by omega)]; exact mi3).pushA sa ez fun j y' hj ey'=>Nat.le_of_lt (h3 j y' (by omega) (by omega) ey');refine wpS_bind (AD ez ?_)
      try dsimp only
      by_cases q5:(t1 - 1 == 0)=true
      ·rw [if_pos q5];have q5:t1 - 1=0:=by simpa using q5
       refine wpS_pure ⟨sy3,.inl ⟨_,_,rfl,?_⟩⟩;rw [q5] at mi5 ⊢;exact mi5.doneB sb (by omega)
      rw [if_neg q5];have q5:¬ t1 - 1=0:=fun z=>q5 (by simpa using z);have lv3:LvH rk a b _ (t1 - 1) (nb2 - 1):=⟨mi5,by omega,by omega,by omega,by omega⟩
      split
      ·exact wpS_pure ⟨sy3,.inr ⟨_,_,_,_,_,_,rfl,lv3,by omega⟩⟩
      ·exact wpS_pure ⟨sy3,_,_,_,_,_,_,rfl,lv3,by omega⟩
    ·rw [if_neg zk];have zk:t1=na2:=by omega
     subst zk;have mi3:=(show MH rk a b _ (t1) (nb2 - 1+1) by rw [Nat.sub_add_cancel (by omega)]; exact lv2.mh).pushB sb ey fun j y' hj ey'=>h1 j y' (by omega) (by omega) ey';refine wpS_bind (AD ey ?_)
     try dsimp only
     by_cases q3:(nb2 - 1 == 1)=true
     ·rw [if_pos q3];have q3:nb2 - 1=1:=by simpa using q3
      exact wpS_pure ⟨sy3,.inl ⟨_,_,rfl,mi3.firstB sa sb (by omega) (by omega) (firstL q3)⟩⟩
     rw [if_neg q3];have q3:¬ nb2 - 1=1:=fun z=>q3 (by simpa using z);obtain ⟨z,ez⟩:=atA (i:=t1 - 1) (by omega);refine wpS_bind (AD ez (wpS_bind (Dm hl hk3 (Sa _ _ ez) (fun i x _ _ e=>Sb i x e) (fun i j x y _ h _=>sb i j x y h) (by omega) (by omega) fun t2 ht2 h3 h4=>?_)))
     try dsimp only
     by_cases zk2:nb2 - 1 - t2 > 0
     ·rw [if_pos zk2];have mi4:=MH.addB sb mi3 (by omega) (k:=nb2 - 1 - t2) (t:=t2) (by omega) fun i x h1' h2' ex j y' hj ey'=>Nat.le_trans (sa j (t1 - 1) _ _ (by omega) ey' ez) (h4 i x (by omega) (by omega) ex);by_cases q4:(t2 == 1)=true
      ·rw [if_pos q4];have q4:t2=1:=by simpa using q4
       exact wpS_pure ⟨sy3,.inl ⟨_,_,rfl,mi4.firstB sa sb (by omega) (by omega) (firstL q4)⟩⟩
      rw [if_neg q4];have q4:¬ t2=1:=fun z=>q4 (by simpa using z);by_cases q6:(t2 == 0)=true
      ·rw [if_pos q6];have q6:t2=0:=by simpa using q6
       refine wpS_pure ⟨sy3,.inl ⟨_,_,rfl,?_⟩⟩;subst q6;exact mi4.doneA sa (by omega)
      rw [if_neg q6];have q6:¬ t2=0:=fun z=>q6 (by simpa using z);have mi5:=(show MH rk a b _ (t1 - 1+1) (t2) by rw [Nat.sub_add_cancel (by omega)]; exact mi4).pushA sa ez fun j y' hj ey'=>Nat.le_of_lt (h3 j y' (by omega) (by omega) ey');refine wpS_bind (AD ez ?_)
      try dsimp only
      by_cases q5:(t1 - 1 == 0)=true
      ·rw [if_pos q5];have q5:t1 - 1=0:=by simpa using q5
       refine wpS_pure ⟨sy3,.inl ⟨_,_,rfl,?_⟩⟩;rw [q5] at mi5 ⊢;exact mi5.doneB sb (by omega)
      rw [if_neg q5];have q5:¬ t1 - 1=0:=fun z=>q5 (by simpa using z);have lv3:LvH rk a b _ (t1 - 1) (t2):=⟨mi5,by omega,by omega,by omega,by omega⟩
      split
      ·exact wpS_pure ⟨sy3,.inr ⟨_,_,_,_,_,_,rfl,lv3,by omega⟩⟩
      ·exact wpS_pure ⟨sy3,_,_,_,_,_,_,rfl,lv3,by omega⟩
     ·rw [if_neg zk2];have zk2:t2=nb2 - 1:=by omega
      subst zk2;have mi5:=(show MH rk a b _ (t1 - 1+1) (nb2 - 1) by rw [Nat.sub_add_cancel (by omega)]; exact mi3).pushA sa ez fun j y' hj ey'=>Nat.le_of_lt (h3 j y' (by omega) (by omega) ey');refine wpS_bind (AD ez ?_)
      try dsimp only
      by_cases q5:(t1 - 1 == 0)=true
      ·rw [if_pos q5];have q5:t1 - 1=0:=by simpa using q5
       refine wpS_pure ⟨sy3,.inl ⟨_,_,rfl,?_⟩⟩;rw [q5] at mi5 ⊢;exact mi5.doneB sb (by omega)
      rw [if_neg q5];have q5:¬ t1 - 1=0:=fun z=>q5 (by simpa using z);have lv3:LvH rk a b _ (t1 - 1) (nb2 - 1):=⟨mi5,by omega,by omega,by omega,by omega⟩
      split
      ·exact wpS_pure ⟨sy3,.inr ⟨_,_,_,_,_,_,rfl,lv3,by omega⟩⟩
      ·exact wpS_pure ⟨sy3,_,_,_,_,_,_,rfl,lv3,by omega⟩
  ·rintro c2 st3 ⟨sy2,na2,nb2,out2,g2,ac2,bc2,rfl,lv2,le2⟩;have:=lv2.la;have:=lv2.lb;have:=lv'.ka;have:=lv'.kb;omega
  rintro r st3 ⟨sy2,⟨o,t,rfl,mg⟩ | ⟨na2,nb2,out2,g2,ac2,bc2,rfl,lv2,le2⟩⟩
  ·exact wpS_pure ⟨sy2,_,_,rfl,mg⟩
  refine wpS_bind (wpS_modify (wpS_pure ?_));refine ⟨?_,_,_,_,_,rfl,lv2,by show na2+nb2+(x+1)<=a.size+b.size; omega⟩;obtain ⟨gg,rfl⟩:=sy2;exact ⟨_,rfl⟩
 ·rintro c st1 ⟨sy,na1,nb1,out,g,rfl,lv,le⟩;have:=lv.la;have:=lv.lb;omega
 ·rintro r st1 ⟨sy,o,t,rfl,mg⟩;exact wpS_pure (k _ _ mg sy)
end
end PyProof.Rows
namespace PyProof.Rows
open PySem
theorem Nn (t:Nat):∀ (l:List Keyed) (n:Nat) (arr:Array Keyed),t+n+l.length<=arr.size->((l.zipIdx n).foldl (fun a (p:Keyed×Nat)=>a.setIfInBounds (t+p.2) p.1) arr).toList=arr.toList.take (t+n) ++ l ++ arr.toList.drop (t+n+l.length)
 | [],n,arr,h=>by simp
 | x :: l,n,arr,h=>by
  rw [List.length_cons] at h;rw [List.zipIdx_cons,List.foldl_cons,Nn t l (n+1) _ (by rw [Array.size_setIfInBounds]; omega)];have hl:t+n < arr.toList.length:=by rw [Array.length_toList]; omega
  rw [Array.toList_setIfInBounds,List.length_cons];have e1:(arr.toList.set (t+n) x).take (t+(n+1))=arr.toList.take (t+n) ++ [x]:=by
   rw [show t+(n+1)=(t+n)+1 by omega,List.take_add_one,List.take_set_of_le (Nat.le_refl _),List.getElem?_set_self hl];rfl
  have e2:(arr.toList.set (t+n) x).drop (t+(n+1)+l.length)=arr.toList.drop (t+n+(l.length+1)):=by
   rw [List.drop_set_of_lt (by omega)];congr 1;omega
  rw [e1,e2];simp
theorem Oa {t:Nat} {m arr:Array Keyed} (h:t+m.size<=arr.size):(m.toList.zipIdx.foldl (fun a (p:Keyed×Nat)=>a.setIfInBounds (t+p.2) p.1) arr).toList=arr.toList.take t ++ m.toList ++ arr.toList.drop (t+m.size):=by
 have:=Nn t m.toList 0 arr (by rw [Array.length_toList]; omega);rw [Array.length_toList] at this;exact this
end PyProof.Rows
namespace PyProof.Rows
open PySem
def SoR (rk:Keyed->Nat) (arr:Array Keyed) (lo hi:Nat):Prop:=∀ (i j:Nat) (x y:Keyed),lo<=i->i<=j->j < hi->arr[i]?=some x->arr[j]?=some y->rk x<=rk y
structure Mgr (rk:Keyed->Nat) (arr arr':Array Keyed) (lo hi:Nat):Prop where
 pm:arr'.toList.Perm arr.toList
 out:∀ i:Nat,i < lo\/hi<=i->arr'[i]?=arr[i]?
 so:SoR rk arr' lo hi
section
variable {prog:Program} {w:World} {A:Around} {E:Value->Shared->Prop} {s:Shared} {rk:Keyed->Nat} {S:Keyed->Prop} {κ:SortKind}
theorem SoR.ext {arr:Array Keyed} {lo hi:Nat} (h:SoR rk arr lo hi) (hz:hi<=arr.size):SoA rk (arr.extract lo hi):=fun i j x y ij ex ey=>by
 have jl:=(Array.getElem?_eq_some_iff.mp ey).1;rw [Array.size_extract] at jl;rw [Array.getElem?_extract] at ex ey;rw [if_pos (by omega)] at ex ey;exact h (lo+i) (lo+j) x y (by omega) (by omega) (by omega) ex ey
theorem SoR.join {arr:Array Keyed} {lo mid hi:Nat} (h1:SoR rk arr lo mid) (h2:SoR rk arr mid hi) (h:∀ (i j:Nat) x y,lo<=i->i < mid->mid<=j->j < hi->arr[i]?=some x->arr[j]?=some y->rk x<=rk y):SoR rk arr lo hi:=fun i j x y li ij jh ex ey=>by
 by_cases a:j < mid
 ·exact h1 i j x y li ij a ex ey
 ·by_cases b:i < mid
  ·exact h i j x y li b (by omega) jh ex ey
  ·exact h2 i j x y (by omega) ij jh ex ey
theorem Mgr.same {arr:Array Keyed} {lo hi:Nat} (h:SoR rk arr lo hi):Mgr rk arr arr lo hi:=⟨List.Perm.refl _,fun _ _=>rfl,h⟩
theorem laid_at {t:Nat} {m arr arr':Array Keyed} (h:t+m.size<=arr.size) (e:arr'.toList=arr.toList.take t ++ m.toList ++ arr.toList.drop (t+m.size)) (i:Nat):arr'[i]?=if t<=i/\i < t+m.size then m[i - t]? else arr[i]?:=by
 rw [<-Array.getElem?_toList,e];have l1:(arr.toList.take t).length=t:=by rw [List.length_take,Array.length_toList]; omega
 have l2:(arr.toList.take t ++ m.toList).length=t+m.size:=by rw [List.length_append,l1,Array.length_toList]
 by_cases a:i < t
 ·rw [if_neg (by omega),List.append_assoc,List.getElem?_append_left (by omega),List.getElem?_take,if_pos a,Array.getElem?_toList]
 ·by_cases b:i < t+m.size
  ·rw [if_pos (by omega),List.getElem?_append_left (by omega),List.getElem?_append_right (by omega),l1,Array.getElem?_toList]
  ·rw [if_neg (by omega),List.getElem?_append_right (by omega),l2,List.getElem?_drop,show t+m.size+(i - (t+m.size))=i by omega,Array.getElem?_toList]
theorem Pn {arr arr' m:Array Keyed} {lo t mid u hi:Nat} (b1:lo<=t) (b2:t < mid) (b3:mid < u) (b4:u<=hi) (hz:hi<=arr.size) (h1:SoR rk arr lo mid) (h2:SoR rk arr mid hi) (low:∀ (i j:Nat) x y,lo<=i->i < t->mid<=j->j < hi->arr[i]?=some x->arr[j]?=some y->rk x<=rk y) (high:∀ (i j:Nat) x y,lo<=i->i < mid->u<=j->j < hi->arr[i]?=some x->arr[j]?=some y->rk x<=rk y) (mg:Mgd rk (arr.extract t mid) (arr.extract mid u) m) (e:arr'.toList=arr.toList.take t ++ m.toList ++ arr.toList.drop (t+m.size)):Mgr rk arr arr' lo hi:=by
 have ms:m.size=u - t:=by
  have:=mg.pm.length_eq;rw [List.length_append,Array.length_toList,Array.length_toList,Array.length_toList,Array.size_extract,Array.size_extract] at this;omega
 have tm:t+m.size=u:=by omega
 have at':=laid_at (t:=t) (m:=m) (arr:=arr) (arr':=arr') (by omega) e;have ml:arr.extract t mid ++ arr.extract mid u=arr.extract t u:=by
  rw [Array.extract_append_extract];congr 1<;>omega
 have inm:∀ {i:Nat} {x:Keyed},m[i]?=some x->∃ j,t<=j/\j < u/\arr[j]?=some x:=fun {i x} ex=>by
  have hm:x ∈ m.toList:=by rw [<-Array.getElem?_toList] at ex; exact List.mem_of_getElem? ex
  have:=mg.pm.mem_iff.mp hm;rw [<-Array.toList_append,ml] at this;obtain ⟨j,hj⟩:=List.getElem?_of_mem this;rw [Array.getElem?_toList,Array.getElem?_extract] at hj;split at hj
  ·exact ⟨t+j,by omega,by omega,hj⟩
  ·cases hj
 refine ⟨?_,fun i hi'=>?_,fun i j x y li ij jh ex ey=>?_⟩
 ·rw [e];have:arr.toList=arr.toList.take t ++ (arr.extract t u).toList ++ arr.toList.drop (t+m.size):=by
   rw [Array.toList_extract,tm,List.append_assoc];simp only [List.extract];have:(arr.toList.drop t).take (u - t) ++ arr.toList.drop u=arr.toList.drop t:=by
    have:=List.take_append_drop (u - t) (arr.toList.drop t);rw [List.drop_drop,show t+(u - t)=u by omega] at this;exact this
   rw [this,List.take_append_drop]
  rw (occs:=.pos [3]) [this];refine List.Perm.append_right _ (List.Perm.append_left _ ?_);rw [<-ml,Array.toList_append];exact mg.pm
 ·rw [at',if_neg (by omega)]
 ·rw [at'] at ex ey;by_cases ci:t<=i/\i < t+m.size
  ·rw [if_pos ci] at ex;by_cases cj:t<=j/\j < t+m.size
   ·rw [if_pos cj] at ey;by_cases q:i=j
    ·subst q;rw [ex] at ey;cases ey;exact Nat.le_refl _
    ·have:=List.pairwise_iff_getElem.mp mg.so (i - t) (j - t) (by rw [Array.length_toList]; omega) (by rw [Array.length_toList]; omega) (by omega);obtain ⟨_,f1⟩:=Array.getElem?_eq_some_iff.mp ex;obtain ⟨_,f2⟩:=Array.getElem?_eq_some_iff.mp ey;rw [Array.getElem_toList,Array.getElem_toList,f1,f2] at this;exact this
   ·rw [if_neg cj] at ey;obtain ⟨k,k1,k2,ek⟩:=inm ex;by_cases q:k < mid
    ·exact high k j x y (by omega) q (by omega) jh ek ey
    ·exact h2 k j x y (by omega) (by omega) jh ek ey
  ·rw [if_neg ci] at ex;by_cases cj:t<=j/\j < t+m.size
   ·rw [if_pos cj] at ey;obtain ⟨k,k1,k2,ek⟩:=inm ey;by_cases q:k < mid
    ·exact h1 i k x y li (by omega) q ex ek
    ·exact low i k x y li (by omega) (by omega) (by omega) ex ek
   ·rw [if_neg cj] at ey;by_cases q:i < t
    ·by_cases r:j < mid
     ·exact h1 i j x y li ij r ex ey
     ·exact low i j x y li q (by omega) jh ex ey
    ·exact h2 i j x y (by omega) ij jh ex ey
end
end PyProof.Rows
namespace PyProof.Rows
open PySem
section
variable {prog:Program} {w:World} {A:Around} {E:Value->Shared->Prop} {s:Shared} {rk:Keyed->Nat} {S:Keyed->Prop} {κ:SortKind}
theorem OA {st st':SortSt} {Q:PUnit->SortSt->Prop} (h:Q ⟨⟩ st'):wpS (model prog w) A E s (set st':StateT SortSt Sem PUnit) Q st:=by
 unfold wpS;rw [StateT.run_set];exact wpAny_pure ⟨rfl,h⟩
theorem Mx {st:SortSt} {Q:Bool->SortSt->Prop} {i sa na pw sb nb pw':Nat} (hl:Iy prog w A E s rk S κ) (hk:kindOf st=κ) (hf:failedOf st=none) (e1:(pendingOf st)[i]?=some (sa,na,pw)) (e2:(pendingOf st)[i+1]?=some (sb,nb,pw')) (hab:sb=sa+na) (na1:1<=na) (nb1:1<=nb) (hz:sb+nb<=(arrOf st).size) (Sall:∀ (i:Nat) x,(arrOf st)[i]?=some x->S x) (s1:SoR rk (arrOf st) sa sb) (s2:SoR rk (arrOf st) sb (sb+nb))
  (k:∀ st',kindOf st'=κ->failedOf st'=none->pendingOf st'=((pendingOf st).setIfInBounds i (sa,na+nb,pw)).eraseIdxIfInBounds (i+1)->Mgr rk (arrOf st) (arrOf st') sa (sb+nb)->Q true st'):wpS (model prog w) A E s (mergeAt' i) Q st:=by
 subst hab;have at':∀ {j:Nat},j < (arrOf st).size->∃ x,(arrOf st)[j]?=some x:=fun {j} h=>⟨_,Array.getElem?_eq_getElem h⟩
 refine wpS_bind (wpS_get ?_);rw [e1,e2];dsimp only;refine wpS_bind (OA ?_);obtain ⟨y0,ey0⟩:=at' (j:=sa+na) (by omega);refine wpS_bind (AD ey0 (wpS_bind (Em hl hk (Sall _ _ ey0) (fun i x _ _ e=>Sall i x e) (fun i j x y h1 h2 h3=>s1 i j x y h1 h2 h3) (show sa+na<=(arrOf st).size by omega) (by omega) fun kk hkk h1 h2=>?_)));dsimp only;by_cases q1:(na - kk == 0)=true
 ·rw [if_pos q1];have q1:na - kk=0:=by simpa using q1
  refine wpS_pure (k _ hk hf rfl (Mgr.same (s1.join s2 fun i j x y a1 a2 a3 a4 ex ey=>?_)));exact Nat.le_trans (h1 i x a1 (by omega) ex) (s2 _ _ _ _ (Nat.le_refl _) a3 a4 ey0 ey)
 rw [if_neg q1];have q1:¬ na - kk=0:=fun z=>q1 (by simpa using z);obtain ⟨xl,exl⟩:=at' (j:=sa+kk+(na - kk) - 1) (by omega);refine wpS_bind (AD exl (wpS_bind (Dm hl hk (Sall _ _ exl) (fun i x _ _ e=>Sall i x e) (fun i j x y h1 h2 h3=>s2 i j x y h1 h2 h3) (show sa+na+nb<=(arrOf st).size by omega) (by omega) fun t2 ht2 h3 h4=>?_)));dsimp only;have low:∀ (i j:Nat) x y,sa<=i->i < sa+kk->sa+na<=j->j < sa+na+nb->(arrOf st)[i]?=some x->(arrOf st)[j]?=some y->rk x<=rk y:=fun i j x y a1 a2 a3 a4 ex ey=>Nat.le_trans (h1 i x a1 a2 ex) (s2 _ _ _ _ (Nat.le_refl _) a3 a4 ey0 ey);have high:∀ (i j:Nat) x y,sa<=i->i < sa+na->sa+na+t2<=j->j < sa+na+nb->(arrOf st)[i]?=some x->(arrOf st)[j]?=some y->rk x<=rk y:=fun i j x y a1 a2 a3 a4 ex ey=>Nat.le_trans (s1 i _ x xl a1 (by omega) (by omega) ex exl) (h4 j y a3 a4 ey);by_cases q2:(t2 == 0)=true
 ·rw [if_pos q2];have q2:t2=0:=by simpa using q2
  subst q2;exact wpS_pure (k _ hk hf rfl (Mgr.same (s1.join s2 fun i j x y a1 a2 a3 a4 ex ey=>high i j x y a1 a2 a3 a4 ex ey)))
 rw [if_neg q2];have q2:¬ t2=0:=fun z=>q2 (by simpa using z);have sx:SoA rk ((arrOf st).extract (sa+kk) (sa+na)):=SoR.ext (fun i j x y a1 a2 a3=>s1 i j x y (by omega) a2 a3) (by omega);have sy:SoA rk ((arrOf st).extract (sa+na) (sa+na+t2)):=SoR.ext (fun i j x y a1 a2 a3=>s2 i j x y (by omega) a2 (by omega)) (by omega);have zx:((arrOf st).extract (sa+kk) (sa+na)).size=na - kk:=by rw [Array.size_extract]; omega
 have zy:((arrOf st).extract (sa+na) (sa+na+t2)).size=t2:=by rw [Array.size_extract]; omega
 have ax:∀ {j:Nat} {x:Keyed},((arrOf st).extract (sa+kk) (sa+na))[j]?=some x->(arrOf st)[sa+kk+j]?=some x/\j < na - kk:=fun {j x} e=>by
  have:=(Array.getElem?_eq_some_iff.mp e).1;rw [Array.getElem?_extract,if_pos (by omega)] at e;exact ⟨e,by omega⟩
 have ay:∀ {j:Nat} {x:Keyed},((arrOf st).extract (sa+na) (sa+na+t2))[j]?=some x->(arrOf st)[sa+na+j]?=some x/\j < t2:=fun {j x} e=>by
  have:=(Array.getElem?_eq_some_iff.mp e).1;rw [Array.getElem?_extract,if_pos (by omega)] at e;exact ⟨e,by omega⟩
 have fst:∀ x y,((arrOf st).extract (sa+na) (sa+na+t2))[0]?=some x->((arrOf st).extract (sa+kk) (sa+na))[0]?=some y->rk x<=rk y:=fun x y ex ey=>by
  have e:=(ay ex).1;rw [Nat.add_zero,ey0] at e;cases e;exact Nat.le_of_lt (h2 _ y (by omega) (by omega) (ax ey).1)
 have lst:∀ (i:Nat) x y,((arrOf st).extract (sa+na) (sa+na+t2))[i]?=some x->((arrOf st).extract (sa+kk) (sa+na))[((arrOf st).extract (sa+kk) (sa+na)).size - 1]?=some y->rk x<=rk y:=fun i x y ex ey=>by
  have e:=(ax ey).1;rw [zx,show sa+kk+(na - kk - 1)=sa+kk+(na - kk) - 1 by omega,exl] at e;cases e;exact Nat.le_of_lt (h3 _ x (by omega) (by have:=(ay ex).2; omega) (ay ex).1)
 have fin:∀ (m:Array Keyed) (st1:SortSt),Mgd rk ((arrOf st).extract (sa+kk) (sa+na)) ((arrOf st).extract (sa+na) (sa+na+t2)) m->DH (SortSt.mk' (kindOf st) (arrOf st) (((pendingOf st).setIfInBounds i (sa,na+nb,pw)).eraseIdxIfInBounds (i+1)) (gallopOf st) (failedOf st)) st1->wpS (model prog w) A E s (do modify fun s=>setArr s (m.toList.zipIdx.foldl (fun a (p:Keyed×Nat)=>a.setIfInBounds (sa+kk+p.2) p.1) (arrOf s)); pure (failedOf (<-get)).isNone) Q st1:=fun m st1 mg sy1=>by
  obtain ⟨g,rfl⟩:=sy1;refine wpS_bind (wpS_modify (wpS_bind (wpS_get (wpS_pure ?_))));show Q (failedOf st).isNone _;rw [hf];have ms:m.size=na - kk+t2:=by
   have:=mg.pm.length_eq;rw [List.length_append,Array.length_toList,Array.length_toList,Array.length_toList,zx,zy] at this;exact this
  refine k _ hk rfl rfl (Pn (t:=sa+kk) (mid:=sa+na) (u:=sa+na+t2) (by omega) (by omega) (by omega) (by omega) (by omega) s1 s2 low high mg (Oa (show sa+kk+m.size<=(arrOf st).size by omega)))
 by_cases q3:na - kk<=t2
 ·rw [if_pos q3];exact wpS_bind (Mv hl hk (show 1<=((arrOf st).extract (sa+kk) (sa+na)).size by rw [zx]; omega) (show 1<=((arrOf st).extract (sa+na) (sa+na+t2)).size by rw [zy]; omega) (fun i x e=>Sall _ x (ax e).1) (fun i x e=>Sall _ x (ay e).1) sx sy fst lst fin)
 ·rw [if_neg q3];exact wpS_bind (Mw hl hk (show 1<=((arrOf st).extract (sa+kk) (sa+na)).size by rw [zx]; omega) (show 1<=((arrOf st).extract (sa+na) (sa+na+t2)).size by rw [zy]; omega) (fun i x e=>Sall _ x (ax e).1) (fun i x e=>Sall _ x (ay e).1) sx sy fst lst fin)
end
end PyProof.Rows
namespace PyProof.Rows
open PySem
structure Rea (arr arr':Array Keyed) (lo hi:Nat):Prop where
 pm:arr'.toList.Perm arr.toList
 out:∀ i:Nat,i < lo\/hi<=i->arr'[i]?=arr[i]?
section
variable {prog:Program} {w:World} {A:Around} {E:Value->Shared->Prop} {s:Shared} {rk:Keyed->Nat} {S:Keyed->Prop} {κ:SortKind}
theorem Rea.refl (arr:Array Keyed) (lo hi:Nat):Rea arr arr lo hi:=⟨List.Perm.refl _,fun _ _=>rfl⟩
theorem Rea.size {arr arr':Array Keyed} {lo hi:Nat} (h:Rea arr arr' lo hi):arr'.size=arr.size:=by
 have:=h.pm.length_eq;rw [Array.length_toList,Array.length_toList] at this;exact this
theorem Rea.all {arr arr':Array Keyed} {lo hi:Nat} (h:Rea arr arr' lo hi) (Sa:∀ (i:Nat) x,arr[i]?=some x->S x) (i:Nat) (x:Keyed) (e:arr'[i]?=some x):S x:=by
 rw [<-Array.getElem?_toList] at e;obtain ⟨j,hj⟩:=List.getElem?_of_mem (h.pm.mem_iff.mp (List.mem_of_getElem? e));rw [Array.getElem?_toList] at hj;exact Sa j x hj
theorem Rea.trans {a b c:Array Keyed} {lo hi:Nat} (h:Rea a b lo hi) (h2:Rea b c lo hi):Rea a c lo hi:=⟨h2.pm.trans h.pm,fun i hi=>(h2.out i hi).trans (h.out i hi)⟩
theorem ins_ok {arr:Array Keyed} {lo k l hi:Nat} {key:Keyed} (hk:lo+k < hi) (hz:hi<=arr.size) (lk:l<=k) (ek:arr[lo+k]?=some key) (so:SoR rk arr lo (lo+k)) (h1:∀ (i:Nat) x,lo<=i->i < lo+l->arr[i]?=some x->rk x<=rk key) (h2:∀ (i:Nat) x,lo+l<=i->i < lo+k->arr[i]?=some x->rk key<=rk x):Rea arr (bubble arr (lo+k) (lo+k - (lo+l))) lo hi/\SoR rk (bubble arr (lo+k) (lo+k - (lo+l))) lo (lo+k+1):=by
 have g:=getElem?_bubble (xs:=arr) (src:=lo+k) (by omega) (lo+k - (lo+l)) (by omega);rw [show lo+k - (lo+k - (lo+l))=lo+l by omega] at g;refine ⟨⟨Array.perm_iff_toList_perm.mp (bubble_perm _ _ _),fun i hi'=>?_⟩,fun i j x y li ij jh ex ey=>?_⟩
 ·rw [g,if_neg (by omega),if_neg (by omega)]
 ·rw [g] at ex ey;by_cases ci:i=lo+l
  ·rw [if_pos ci,ek] at ex;cases ex;by_cases cj:j=lo+l
   ·rw [if_pos cj,ek] at ey;cases ey;exact Nat.le_refl _
   ·rw [if_neg cj,if_pos (by omega)] at ey;exact h2 (j - 1) y (by omega) (by omega) ey
  ·rw [if_neg ci] at ex;by_cases di:lo+l < i/\i<=lo+k
   ·rw [if_pos di] at ex;rw [if_neg (by omega),if_pos (by omega)] at ey;exact so (i - 1) (j - 1) x y (by omega) (by omega) (by omega) ex ey
   ·rw [if_neg di] at ex;by_cases cj:j=lo+l
    ·rw [if_pos cj,ek] at ey;cases ey;exact h1 i x li (by omega) ex
    ·rw [if_neg cj] at ey;by_cases dj:lo+l < j/\j<=lo+k
     ·rw [if_pos dj] at ey;exact so i (j - 1) x y li (by omega) (by omega) ex ey
     ·rw [if_neg dj] at ey;exact so i j x y li ij (by omega) ex ey
end
end PyProof.Rows
namespace PyProof.Rows
open PySem
section
variable {prog:Program} {w:World} {A:Around} {E:Value->Shared->Prop} {s:Shared} {rk:Keyed->Nat} {S:Keyed->Prop} {κ:SortKind}
theorem Dl {st:SortSt} {i j:Nat} {x y:Keyed} {Q:Option Bool->SortSt->Prop} (hl:Iy prog w A E s rk S κ) (hk:kindOf st=κ) (ex:(arrOf st)[i]?=some x) (ey:(arrOf st)[j]?=some y) (Sx:S x) (Sy:S y) (h:Q (some (decide (rk x < rk y))) st):wpS (model prog w) A E s (ltAt' i j) Q st:=by
 rw [ltAt'_eq];exact wpS_bind (wpS_get (wpS_bind (AD ex (wpS_bind (AD ey (hl _ _ _ _ Sx Sy hk h))))))
theorem move_ok {st:SortSt} {src dst:Nat} {Q:Unit->SortSt->Prop} (h:Q () (setArr st (bubble (arrOf st) src (src - dst)))):wpS (model prog w) A E s (moveDown' src dst) Q st:=by
 rw [moveDown'_eq];exact wpS_modify h
theorem IK {st:SortSt} {Q:Bool->SortSt->Prop} {lo n ok:Nat} (hl:Iy prog w A E s rk S κ) (hk:kindOf st=κ) (hz:lo+n<=(arrOf st).size) (hok:ok<=n) (Sall:∀ (i:Nat) x,(arrOf st)[i]?=some x->S x) (so:SoR rk (arrOf st) lo (lo+ok)) (k:∀ arr',Rea (arrOf st) arr' lo (lo+n)->SoR rk arr' lo (lo+n)->Q true (setArr st arr')):wpS (model prog w) A E s (binarySort' lo n ok) Q st:=by
 refine wpS_bind (wpS_mono (wpS_forRange (I:=fun x c st'=>c=(none,())/\∃ arr',st'=setArr st arr'/\Rea (arrOf st) arr' lo (lo+n)/\SoR rk arr' lo (lo+x)) (Q:=fun c st'=>c=(none,())/\∃ arr',st'=setArr st arr'/\Rea (arrOf st) arr' lo (lo+n)/\SoR rk arr' lo (lo+n)) ?_ ?_ ⟨rfl,arrOf st,rfl,Rea.refl _ _ _,?_⟩) ?_)
 ·rintro x c st' hx1 hx ⟨rfl,arr',rfl,re,so'⟩;have sz:=re.size;obtain ⟨key,ek⟩:∃ key,arr'[lo+x]?=some key:=⟨_,Array.getElem?_eq_getElem (by omega)⟩
  refine wpS_bind (wpS_mono (wpS_forRange (I:=fun y r st''=>st''=setArr st arr'/\∃ l h,r=(none,l,h)/\l<=h/\h - l<=x - y/\h<=x/\(∀ (i:Nat) z,lo<=i->i < lo+l->arr'[i]?=some z->rk z<=rk key)/\(∀ (i:Nat) z,lo+h<=i->i < lo+x->arr'[i]?=some z->rk key<=rk z)) (Q:=fun r st''=>st''=setArr st arr'/\∃ l h,r=(none,l,h)/\l<=x/\(∀ (i:Nat) z,lo<=i->i < lo+l->arr'[i]?=some z->rk z<=rk key)/\(∀ (i:Nat) z,lo+l<=i->i < lo+x->arr'[i]?=some z->rk key<=rk z)) ?_ ?_ ⟨rfl,0,x,rfl,by omega,by omega,by omega,fun i z h1 h2=>absurd h2 (by omega),fun i z h1 h2=>absurd h2 (by omega)⟩) ?_)
  ·rintro y r st'' _ hy ⟨rfl,l,h,rfl,lh,me,hh,i1,i2⟩;dsimp only;by_cases z:l ≥ h
   ·rw [if_pos z];exact wpS_pure ⟨rfl,l,h,rfl,by omega,i1,fun i z' a b=>i2 i z' (by omega) b⟩
   rw [if_neg z];obtain ⟨v,ev⟩:∃ v,arr'[lo+(l+h) / 2]?=some v:=⟨_,Array.getElem?_eq_getElem (by omega)⟩
   refine wpS_bind (Dl hl hk ek ev (re.all Sall _ _ ek) (re.all Sall _ _ ev) ?_);dsimp only;by_cases lt:rk key < rk v
   ·rw [decide_eq_true lt,if_pos rfl];exact wpS_pure ⟨rfl,l,(l+h) / 2,rfl,by omega,by omega,by omega,i1,fun i z' a b e=>by
     have:=so' _ i _ _ (by omega) a (by omega) ev e;omega⟩
   ·rw [decide_eq_false lt,if_neg (by simp)];exact wpS_pure ⟨rfl,(l+h) / 2+1,h,rfl,by omega,by omega,hh,fun i z' a b e=>by
     have:=so' i (lo+(l+h) / 2) _ _ a (by omega) (by omega) e ev;omega,i2⟩
  ·rintro r st'' ⟨rfl,l,h,rfl,lh,me,hh,i1,i2⟩;exact ⟨rfl,l,h,rfl,by omega,i1,fun i z' a b=>i2 i z' (by omega) b⟩
  ·rintro r st'' ⟨rfl,l,h,rfl,lx,i1,i2⟩;dsimp only;have fin:=ins_ok (hi:=lo+n) (by omega) (by omega) lx ek so' i1 i2;exact wpS_bind (move_ok (wpS_pure ⟨rfl,_,rfl,re.trans fin.1,fin.2⟩))
 ·rintro c st' ⟨rfl,arr',rfl,re,so'⟩;exact ⟨rfl,arr',rfl,re,fun i j x y a b d=>so' i j x y a b (by omega)⟩
 ·intro i j x y a b d ex ey;by_cases z:j < lo+ok
  ·exact so i j x y a b z ex ey
  ·have:i=j:=by omega
   subst this;rw [ex] at ey;cases ey;exact Nat.le_refl _
 ·rintro c st' ⟨rfl,arr',rfl,re,so'⟩;exact wpS_pure (k arr' re so')
end
end PyProof.Rows
namespace PyProof.Rows
open PySem
def DeR (rk:Keyed->Nat) (arr:Array Keyed) (lo hi:Nat):Prop:=∀ (i j:Nat) (x y:Keyed),lo<=i->i<=j->j < hi->arr[i]?=some x->arr[j]?=some y->rk y<=rk x
def EqR (rk:Keyed->Nat) (arr:Array Keyed) (lo hi:Nat):Prop:=∀ (i j:Nat) (x y:Keyed),lo<=i->i < hi->lo<=j->j < hi->arr[i]?=some x->arr[j]?=some y->rk x=rk y
def Kr (rk:Keyed->Nat) (arr arr':Array Keyed):Prop:=∀ (k:Nat) (x':Keyed),arr'[k]?=some x'->∃ x,arr[k]?=some x/\rk x'=rk x
section
variable {prog:Program} {w:World} {A:Around} {E:Value->Shared->Prop} {s:Shared} {rk:Keyed->Nat} {S:Keyed->Prop} {κ:SortKind}
theorem SoR.one {arr:Array Keyed} {lo:Nat}:SoR rk arr lo (lo+1):=fun i j x y a b c ex ey=>by
 have:i=j:=by omega
 subst this;rw [ex] at ey;cases ey;exact Nat.le_refl _
theorem EqR.one {arr:Array Keyed} {lo:Nat}:EqR rk arr (lo+1 - (0+1)) (lo+1):=fun i j x y a b c d ex ey=>by
 have:i=j:=by omega
 subst this;rw [ex] at ey;cases ey;rfl
theorem SoR.snoc {arr:Array Keyed} {lo hi:Nat} {x y:Keyed} (h:SoR rk arr lo hi) (l:lo < hi) (ex:arr[hi]?=some x) (ey:arr[hi - 1]?=some y) (le:rk y<=rk x):SoR rk arr lo (hi+1):=fun i j a b li ij jh ea eb=>by
 by_cases z:j < hi
 ·exact h i j a b li ij z ea eb
 ·have:j=hi:=by omega
  subst this;rw [ex] at eb;cases eb;by_cases q:i=j
  ·subst q;rw [ex] at ea;cases ea;exact Nat.le_refl _
  ·exact Nat.le_trans (h i (j - 1) a y li (by omega) (by omega) ea ey) le
theorem DeR.snoc {arr:Array Keyed} {lo hi:Nat} {x y:Keyed} (h:DeR rk arr lo hi) (l:lo < hi) (ex:arr[hi]?=some x) (ey:arr[hi - 1]?=some y) (le:rk x<=rk y):DeR rk arr lo (hi+1):=fun i j a b li ij jh ea eb=>by
 by_cases z:j < hi
 ·exact h i j a b li ij z ea eb
 ·have:j=hi:=by omega
  subst this;rw [ex] at eb;cases eb;by_cases q:i=j
  ·subst q;rw [ex] at ea;cases ea;exact Nat.le_refl _
  ·exact Nat.le_trans le (h i (j - 1) a y li (by omega) (by omega) ea ey)
theorem EqR.snoc {arr:Array Keyed} {lo hi:Nat} {x y:Keyed} (h:EqR rk arr lo hi) (l:lo < hi) (ex:arr[hi]?=some x) (ey:arr[hi - 1]?=some y) (le:rk x=rk y):EqR rk arr lo (hi+1):=by
 have key:∀ (i:Nat) a,lo<=i->i < hi+1->arr[i]?=some a->rk a=rk y:=fun i a li ih ea=>by
  by_cases z:i < hi
  ·exact h i (hi - 1) a y li z (by omega) (by omega) ea ey
  ·have:i=hi:=by omega
   subst this;rw [ex] at ea;cases ea;exact le
 exact fun i j a b li ih lj jh ea eb=>(key i a li ih ea).trans (key j b lj jh eb).symm
theorem DeR.kr {arr arr':Array Keyed} {lo hi:Nat} (h:DeR rk arr lo hi) (k:Kr rk arr arr'):DeR rk arr' lo hi:=fun i j a b li ij jh ea eb=>by
 obtain ⟨a',e1,q1⟩:=k i a ea;obtain ⟨b',e2,q2⟩:=k j b eb;rw [q1,q2];exact h i j a' b' li ij jh e1 e2
theorem EqR.mir {arr:Array Keyed} {lo hi:Nat} (h:EqR rk arr lo hi) (hz:hi<=arr.size):Kr rk arr (mirror arr lo hi ((hi - lo) / 2)):=fun k x' e=>by
 have g:=getElem?_mirror_all (xs:=arr) (i:=lo) hz k;rw [g] at e;split at e
 ·rename_i q;obtain ⟨x,ex⟩:∃ x,arr[k]?=some x:=⟨_,Array.getElem?_eq_getElem (by omega)⟩
  exact ⟨x,ex,h _ _ _ _ (by omega) (by omega) q.1 q.2 e ex⟩
 ·exact ⟨x',e,rfl⟩
theorem DL {arr:Array Keyed} {i j lo hi:Nat} (li:lo<=i) (jh:j<=hi) (hz:hi<=arr.size):Rea arr (mirror arr i j ((j - i) / 2)) lo hi:=⟨Array.perm_iff_toList_perm.mp (mirror_perm _ _ _ _),fun k hk=>by
 rw [getElem?_mirror_all (by omega)];by_cases q:i<=k/\k < j
 ·omega
 ·rw [if_neg q]⟩
theorem DeR.mir {arr:Array Keyed} {lo hi:Nat} (h:DeR rk arr lo hi) (hz:hi<=arr.size):SoR rk (mirror arr lo hi ((hi - lo) / 2)) lo hi:=fun i j a b li ij jh ea eb=>by
 rw [getElem?_mirror_all hz,if_pos (by omega)] at ea eb;exact h _ _ b a (by omega) (by omega) (by omega) eb ea
theorem Es {st:SortSt} {i j:Nat} {Q:Unit->SortSt->Prop} (h:Q () (setArr st (mirror (arrOf st) i j ((j - i) / 2)))):wpS (model prog w) A E s (reverseSlice' i j) Q st:=by
 rw [reverseSlice'_eq];exact wpS_modify h
theorem LP {st:SortSt} {Q:Option Nat->SortSt->Prop} {lo nrem:Nat} (hl:Iy prog w A E s rk S κ) (hk:kindOf st=κ) (hz:lo+nrem<=(arrOf st).size) (h1:1<=nrem) (Sall:∀ (i:Nat) x,(arrOf st)[i]?=some x->S x)
  (k:∀ arr' m,Rea (arrOf st) arr' lo (lo+nrem)->1<=m->m<=nrem->SoR rk arr' lo (lo+m)->Q (some m) (setArr st arr')):wpS (model prog w) A E s (countRun' lo nrem) Q st:=by
 refine wpS_bind (wpS_mono (wpS_forRange (I:=fun x c st'=>st'=setArr st (arrOf st)/\c=(none,x)/\SoR rk (arrOf st) lo (lo+x)) (Q:=fun c st'=>st'=setArr st (arrOf st)/\∃ n,c=(none,n)/\1<=n/\n<=nrem/\SoR rk (arrOf st) lo (lo+n)/\(n=nrem\/∀ x y,(arrOf st)[lo+n]?=some x->(arrOf st)[lo+n - 1]?=some y->rk x < rk y)) ?_ ?_ ⟨rfl,rfl,?_⟩) ?_)
 ·rintro x c st' hx1 hx ⟨rfl,rfl,so⟩;dsimp only;have hzz:lo+nrem<=(arrOf st).size:=by rw [Rea.size (Rea.refl (arrOf st) lo (lo+nrem))]; exact hz
  obtain ⟨a,ea⟩:∃ a,(arrOf st)[lo+x]?=some a:=⟨_,Array.getElem?_eq_getElem (by omega)⟩
  obtain ⟨b,eb⟩:∃ b,(arrOf st)[lo+x - 1]?=some b:=⟨_,Array.getElem?_eq_getElem (by omega)⟩
  refine wpS_bind (Dl hl hk ea eb (Rea.all (Rea.refl (arrOf st) lo (lo+nrem)) Sall _ _ ea) (Rea.all (Rea.refl (arrOf st) lo (lo+nrem)) Sall _ _ eb) ?_);dsimp only;by_cases lt:rk a < rk b
  ·rw [decide_eq_true lt,if_pos rfl];exact wpS_pure ⟨rfl,x,rfl,by omega,by omega,so,.inr fun p q ep eq=>by rw [ea] at ep; rw [eb] at eq; cases ep; cases eq; exact lt⟩
  ·rw [decide_eq_false lt,if_neg (by simp)];exact wpS_pure ⟨rfl,rfl,so.snoc (by omega) ea eb (by omega)⟩
 ·rintro c st' ⟨rfl,rfl,so⟩;rw [Nat.max_eq_right (by omega)] at so ⊢;exact ⟨rfl,nrem,rfl,h1,Nat.le_refl _,so,.inl rfl⟩
 ·exact SoR.one
 ·rintro c st' ⟨rfl,n,rfl,n1,n2,so,fall⟩;dsimp only;by_cases q1:(n == nrem)=true
  ·rw [if_pos q1];exact wpS_pure (k (arrOf st) n (Rea.refl _ _ _) n1 n2 so)
  rw [if_neg q1];have q1:¬ n=nrem:=fun z=>q1 (by simpa using z);have fall:=fall.resolve_left q1;obtain ⟨a,ea⟩:∃ a,(arrOf st)[lo+n]?=some a:=⟨_,Array.getElem?_eq_getElem (by omega)⟩
  obtain ⟨b,eb⟩:∃ b,(arrOf st)[lo+n - 1]?=some b:=⟨_,Array.getElem?_eq_getElem (by omega)⟩
  have flt:=fall a b ea eb;by_cases q2:n > 1
  ·rw [if_pos q2];obtain ⟨z,ez⟩:∃ z,(arrOf st)[lo]?=some z:=⟨_,Array.getElem?_eq_getElem (by omega)⟩
   refine wpS_bind (Dl hl hk ez eb (Sall _ _ ez) (Sall _ _ eb) ?_);dsimp only;by_cases rose:rk z < rk b
   ·rw [decide_eq_true rose,if_pos rfl];exact wpS_pure (k (arrOf st) n (Rea.refl _ _ _) n1 n2 so)
   rw [decide_eq_false rose,if_neg (by simp)];have eqa:EqR rk (arrOf st) lo (lo+n):=by
    have key:∀ (i:Nat) x,lo<=i->i < lo+n->(arrOf st)[i]?=some x->rk x=rk b:=fun i x li ih ex=>by
     have:=so lo i z x (Nat.le_refl _) li ih ez ex;have:=so i (lo+n - 1) x b li (by omega) (by omega) ex eb;omega
    exact fun i j x y li ih lj jh ex ey=>(key i x li ih ex).trans (key j y lj jh ey).symm
   have re0:Rea (arrOf st) (mirror (arrOf st) lo (lo+n) ((lo+n - lo) / 2)) lo (lo+nrem):=DL (Nat.le_refl _) (by omega) hz;have de0:DeR rk (mirror (arrOf st) lo (lo+n) ((lo+n - lo) / 2)) lo (lo+n+1):=DeR.kr (DeR.snoc (fun i j x y li ij jh ex ey=>Nat.le_of_eq (eqa j i y x (by omega) jh li (by omega) ey ex)) (by omega) ea eb (Nat.le_of_lt flt)) (eqa.mir (by omega));refine wpS_bind (Es ?_);refine wpS_bind (wpS_lift (wpAny_rule ⟨rfl,?_⟩));refine wpS_bind (wpS_mono (wpS_forRange (I:=fun x c st'=>∃ arr' neq,st'=setArr st arr'/\c=(none,x,neq)/\Rea (arrOf st) arr' lo (lo+nrem)/\neq+1<=x/\DeR rk arr' lo (lo+x)/\EqR rk arr' (lo+x - (neq+1)) (lo+x)) (Q:=fun c st'=>∃ arr' n neq,st'=setArr st arr'/\c=(none,n,neq)/\Rea (arrOf st) arr' lo (lo+nrem)/\1<=n/\n<=nrem/\neq+1<=n/\DeR rk arr' lo (lo+n)/\EqR rk arr' (lo+n - (neq+1)) (lo+n)) ?_ ?_ ⟨mirror (arrOf st) lo (lo+n) ((lo+n - lo) / 2),0,rfl,rfl,re0,by omega,de0,EqR.one (lo:=lo+n)⟩) ?_)
   ·rintro x c st' hx1 hx ⟨arr',neq,rfl,rfl,re',nq,de',eq'⟩;dsimp only;have hzz:lo+nrem<=arr'.size:=by rw [Rea.size re']; exact hz
    obtain ⟨a,ea⟩:∃ a,arr'[lo+x]?=some a:=⟨_,Array.getElem?_eq_getElem (by omega)⟩
    obtain ⟨b,eb⟩:∃ b,arr'[lo+x - 1]?=some b:=⟨_,Array.getElem?_eq_getElem (by omega)⟩
    refine wpS_bind (Dl hl hk ea eb (Rea.all re' Sall _ _ ea) (Rea.all re' Sall _ _ eb) ?_);dsimp only;by_cases lt:rk a < rk b
    ·rw [decide_eq_true lt,if_pos rfl];have dn:DeR rk arr' lo (lo+x+1):=de'.snoc (by omega) ea eb (by omega);by_cases q:neq > 0
     ·rw [if_pos q];exact wpS_bind (Es (wpS_pure ⟨_,0,rfl,rfl,Rea.trans re' (DL (by omega) (by omega) hzz),by omega,dn.kr (eq'.mir (by omega)),EqR.one (lo:=lo+x)⟩))
     ·rw [if_neg q];exact wpS_pure ⟨arr',0,rfl,rfl,re',by omega,dn,EqR.one (lo:=lo+x)⟩
    ·rw [decide_eq_false lt,if_neg (by simp)];refine wpS_bind (Dl hl hk eb ea (Rea.all re' Sall _ _ eb) (Rea.all re' Sall _ _ ea) ?_);dsimp only;by_cases gt:rk b < rk a
     ·rw [decide_eq_true gt,if_pos rfl];exact wpS_pure ⟨arr',x,neq,rfl,rfl,re',by omega,by omega,nq,de',eq'⟩
     ·rw [decide_eq_false gt,if_neg (by simp)];refine wpS_pure ⟨arr',neq+1,rfl,rfl,re',by omega,de'.snoc (by omega) ea eb (by omega),?_⟩;have:=eq'.snoc (by omega) ea eb (by omega);rw [show lo+(x+1) - (neq+1+1)=lo+x - (neq+1) by omega];exact this
   ·rintro c st' ⟨arr',neq,rfl,rfl,re',nq,de',eq'⟩;rw [Nat.max_eq_right (by omega)] at nq de' eq' ⊢;exact ⟨arr',nrem,neq,rfl,rfl,re',h1,Nat.le_refl _,nq,de',eq'⟩
   ·rintro c st' ⟨arr',n',neq,rfl,rfl,re',n1,n2,nq,de',eq'⟩;dsimp only;have hzz:lo+nrem<=arr'.size:=by rw [Rea.size re']; exact hz
    by_cases q:neq > 0
    ·rw [if_pos q];have reM:Rea (arrOf st) (mirror arr' (lo+n' - (neq+1)) (lo+n') ((lo+n' - (lo+n' - (neq+1))) / 2)) lo (lo+nrem):=Rea.trans re' (DL (by omega) (by omega) hzz);have deM:=de'.kr (eq'.mir (by omega));refine wpS_bind (Es ?_);have reT:Rea (arrOf st) (mirror (mirror arr' (lo+n' - (neq+1)) (lo+n') ((lo+n' - (lo+n' - (neq+1))) / 2)) lo (lo+n') ((lo+n' - lo) / 2)) lo (lo+nrem):=Rea.trans reM (DL (Nat.le_refl _) (by omega) (by rw [Rea.size reM]; exact hz));refine wpS_bind (Es ?_);refine wpS_bind (wpS_mono (wpS_forRange (I:=fun x c st'=>st'=setArr st (mirror (mirror arr' (lo+n' - (neq+1)) (lo+n') ((lo+n' - (lo+n' - (neq+1))) / 2)) lo (lo+n') ((lo+n' - lo) / 2))/\c=(none,x)/\SoR rk (mirror (mirror arr' (lo+n' - (neq+1)) (lo+n') ((lo+n' - (lo+n' - (neq+1))) / 2)) lo (lo+n') ((lo+n' - lo) / 2)) lo (lo+x)) (Q:=fun c st'=>st'=setArr st (mirror (mirror arr' (lo+n' - (neq+1)) (lo+n') ((lo+n' - (lo+n' - (neq+1))) / 2)) lo (lo+n') ((lo+n' - lo) / 2))/\∃ n,c=(none,n)/\1<=n/\n<=nrem/\SoR rk (mirror (mirror arr' (lo+n' - (neq+1)) (lo+n') ((lo+n' - (lo+n' - (neq+1))) / 2)) lo (lo+n') ((lo+n' - lo) / 2)) lo (lo+n)) ?_ ?_ ⟨rfl,rfl,?_⟩) ?_)
     ·rintro x c st' hx1 hx ⟨rfl,rfl,so⟩;dsimp only;have hzz:lo+nrem<=(mirror (mirror arr' (lo+n' - (neq+1)) (lo+n') ((lo+n' - (lo+n' - (neq+1))) / 2)) lo (lo+n') ((lo+n' - lo) / 2)).size:=by rw [Rea.size reT]; exact hz
      obtain ⟨a,ea⟩:∃ a,(mirror (mirror arr' (lo+n' - (neq+1)) (lo+n') ((lo+n' - (lo+n' - (neq+1))) / 2)) lo (lo+n') ((lo+n' - lo) / 2))[lo+x]?=some a:=⟨_,Array.getElem?_eq_getElem (by omega)⟩
      obtain ⟨b,eb⟩:∃ b,(mirror (mirror arr' (lo+n' - (neq+1)) (lo+n') ((lo+n' - (lo+n' - (neq+1))) / 2)) lo (lo+n') ((lo+n' - lo) / 2))[lo+x - 1]?=some b:=⟨_,Array.getElem?_eq_getElem (by omega)⟩
      refine wpS_bind (Dl hl hk ea eb (Rea.all reT Sall _ _ ea) (Rea.all reT Sall _ _ eb) ?_);dsimp only;by_cases lt:rk a < rk b
      ·rw [decide_eq_true lt,if_pos rfl];exact wpS_pure ⟨rfl,x,rfl,by omega,by omega,so⟩
      ·rw [decide_eq_false lt,if_neg (by simp)];exact wpS_pure ⟨rfl,rfl,so.snoc (by omega) ea eb (by omega)⟩
     ·rintro c st' ⟨rfl,rfl,so⟩;rw [Nat.max_eq_right (by omega)] at so ⊢;exact ⟨rfl,nrem,rfl,h1,Nat.le_refl _,so⟩
     ·exact DeR.mir deM (by rw [Rea.size reM]; omega)
     ·rintro c st' ⟨rfl,m,rfl,m1,m2,so⟩;exact wpS_pure (k _ m reT m1 m2 so)
    ·rw [if_neg q];have reT:Rea (arrOf st) (mirror (arr') lo (lo+n') ((lo+n' - lo) / 2)) lo (lo+nrem):=Rea.trans re' (DL (Nat.le_refl _) (by omega) (by rw [Rea.size re']; exact hz));refine wpS_bind (Es ?_);refine wpS_bind (wpS_mono (wpS_forRange (I:=fun x c st'=>st'=setArr st (mirror (arr') lo (lo+n') ((lo+n' - lo) / 2))/\c=(none,x)/\SoR rk (mirror (arr') lo (lo+n') ((lo+n' - lo) / 2)) lo (lo+x)) (Q:=fun c st'=>st'=setArr st (mirror (arr') lo (lo+n') ((lo+n' - lo) / 2))/\∃ n,c=(none,n)/\1<=n/\n<=nrem/\SoR rk (mirror (arr') lo (lo+n') ((lo+n' - lo) / 2)) lo (lo+n)) ?_ ?_ ⟨rfl,rfl,?_⟩) ?_)
     ·rintro x c st' hx1 hx ⟨rfl,rfl,so⟩;dsimp only;have hzz:lo+nrem<=(mirror (arr') lo (lo+n') ((lo+n' - lo) / 2)).size:=by rw [Rea.size reT]; exact hz
      obtain ⟨a,ea⟩:∃ a,(mirror (arr') lo (lo+n') ((lo+n' - lo) / 2))[lo+x]?=some a:=⟨_,Array.getElem?_eq_getElem (by omega)⟩
      obtain ⟨b,eb⟩:∃ b,(mirror (arr') lo (lo+n') ((lo+n' - lo) / 2))[lo+x - 1]?=some b:=⟨_,Array.getElem?_eq_getElem (by omega)⟩
      refine wpS_bind (Dl hl hk ea eb (Rea.all reT Sall _ _ ea) (Rea.all reT Sall _ _ eb) ?_);dsimp only;by_cases lt:rk a < rk b
      ·rw [decide_eq_true lt,if_pos rfl];exact wpS_pure ⟨rfl,x,rfl,by omega,by omega,so⟩
      ·rw [decide_eq_false lt,if_neg (by simp)];exact wpS_pure ⟨rfl,rfl,so.snoc (by omega) ea eb (by omega)⟩
     ·rintro c st' ⟨rfl,rfl,so⟩;rw [Nat.max_eq_right (by omega)] at so ⊢;exact ⟨rfl,nrem,rfl,h1,Nat.le_refl _,so⟩
     ·exact DeR.mir de' (by rw [Rea.size re']; omega)
     ·rintro c st' ⟨rfl,m,rfl,m1,m2,so⟩;exact wpS_pure (k _ m reT m1 m2 so)
  ·rw [if_neg q2];have de0:DeR rk (arrOf st) lo (lo+n+1):=DeR.snoc (fun i j x y li ij jh ex ey=>by
    have:i=j:=by omega
    subst this;rw [ex] at ey;cases ey;exact Nat.le_refl _) (by omega) ea eb (Nat.le_of_lt flt)
   have re0:Rea (arrOf st) (arrOf st) lo (lo+nrem):=Rea.refl _ _ _;refine wpS_bind (wpS_lift (wpAny_rule ⟨rfl,?_⟩));refine wpS_bind (wpS_mono (wpS_forRange (I:=fun x c st'=>∃ arr' neq,st'=setArr st arr'/\c=(none,x,neq)/\Rea (arrOf st) arr' lo (lo+nrem)/\neq+1<=x/\DeR rk arr' lo (lo+x)/\EqR rk arr' (lo+x - (neq+1)) (lo+x)) (Q:=fun c st'=>∃ arr' n neq,st'=setArr st arr'/\c=(none,n,neq)/\Rea (arrOf st) arr' lo (lo+nrem)/\1<=n/\n<=nrem/\neq+1<=n/\DeR rk arr' lo (lo+n)/\EqR rk arr' (lo+n - (neq+1)) (lo+n)) ?_ ?_ ⟨arrOf st,0,rfl,rfl,re0,by omega,de0,EqR.one (lo:=lo+n)⟩) ?_)
   ·rintro x c st' hx1 hx ⟨arr',neq,rfl,rfl,re',nq,de',eq'⟩;dsimp only;have hzz:lo+nrem<=arr'.size:=by rw [Rea.size re']; exact hz
    obtain ⟨a,ea⟩:∃ a,arr'[lo+x]?=some a:=⟨_,Array.getElem?_eq_getElem (by omega)⟩
    obtain ⟨b,eb⟩:∃ b,arr'[lo+x - 1]?=some b:=⟨_,Array.getElem?_eq_getElem (by omega)⟩
    refine wpS_bind (Dl hl hk ea eb (Rea.all re' Sall _ _ ea) (Rea.all re' Sall _ _ eb) ?_);dsimp only;by_cases lt:rk a < rk b
    ·rw [decide_eq_true lt,if_pos rfl];have dn:DeR rk arr' lo (lo+x+1):=de'.snoc (by omega) ea eb (by omega);by_cases q:neq > 0
     ·rw [if_pos q];exact wpS_bind (Es (wpS_pure ⟨_,0,rfl,rfl,Rea.trans re' (DL (by omega) (by omega) hzz),by omega,dn.kr (eq'.mir (by omega)),EqR.one (lo:=lo+x)⟩))
     ·rw [if_neg q];exact wpS_pure ⟨arr',0,rfl,rfl,re',by omega,dn,EqR.one (lo:=lo+x)⟩
    ·rw [decide_eq_false lt,if_neg (by simp)];refine wpS_bind (Dl hl hk eb ea (Rea.all re' Sall _ _ eb) (Rea.all re' Sall _ _ ea) ?_);dsimp only;by_cases gt:rk b < rk a
     ·rw [decide_eq_true gt,if_pos rfl];exact wpS_pure ⟨arr',x,neq,rfl,rfl,re',by omega,by omega,nq,de',eq'⟩
     ·rw [decide_eq_false gt,if_neg (by simp)];refine wpS_pure ⟨arr',neq+1,rfl,rfl,re',by omega,de'.snoc (by omega) ea eb (by omega),?_⟩;have:=eq'.snoc (by omega) ea eb (by omega);rw [show lo+(x+1) - (neq+1+1)=lo+x - (neq+1) by omega];exact this
   ·rintro c st' ⟨arr',neq,rfl,rfl,re',nq,de',eq'⟩;rw [Nat.max_eq_right (by omega)] at nq de' eq' ⊢;exact ⟨arr',nrem,neq,rfl,rfl,re',h1,Nat.le_refl _,nq,de',eq'⟩
   ·rintro c st' ⟨arr',n',neq,rfl,rfl,re',n1,n2,nq,de',eq'⟩;dsimp only;have hzz:lo+nrem<=arr'.size:=by rw [Rea.size re']; exact hz
    by_cases q:neq > 0
    ·rw [if_pos q];have reM:Rea (arrOf st) (mirror arr' (lo+n' - (neq+1)) (lo+n') ((lo+n' - (lo+n' - (neq+1))) / 2)) lo (lo+nrem):=Rea.trans re' (DL (by omega) (by omega) hzz);have deM:=de'.kr (eq'.mir (by omega));refine wpS_bind (Es ?_);have reT:Rea (arrOf st) (mirror (mirror arr' (lo+n' - (neq+1)) (lo+n') ((lo+n' - (lo+n' - (neq+1))) / 2)) lo (lo+n') ((lo+n' - lo) / 2)) lo (lo+nrem):=Rea.trans reM (DL (Nat.le_refl _) (by omega) (by rw [Rea.size reM]; exact hz));refine wpS_bind (Es ?_);refine wpS_bind (wpS_mono (wpS_forRange (I:=fun x c st'=>st'=setArr st (mirror (mirror arr' (lo+n' - (neq+1)) (lo+n') ((lo+n' - (lo+n' - (neq+1))) / 2)) lo (lo+n') ((lo+n' - lo) / 2))/\c=(none,x)/\SoR rk (mirror (mirror arr' (lo+n' - (neq+1)) (lo+n') ((lo+n' - (lo+n' - (neq+1))) / 2)) lo (lo+n') ((lo+n' - lo) / 2)) lo (lo+x)) (Q:=fun c st'=>st'=setArr st (mirror (mirror arr' (lo+n' - (neq+1)) (lo+n') ((lo+n' - (lo+n' - (neq+1))) / 2)) lo (lo+n') ((lo+n' - lo) / 2))/\∃ n,c=(none,n)/\1<=n/\n<=nrem/\SoR rk (mirror (mirror arr' (lo+n' - (neq+1)) (lo+n') ((lo+n' - (lo+n' - (neq+1))) / 2)) lo (lo+n') ((lo+n' - lo) / 2)) lo (lo+n)) ?_ ?_ ⟨rfl,rfl,?_⟩) ?_)
     ·rintro x c st' hx1 hx ⟨rfl,rfl,so⟩;dsimp only;have hzz:lo+nrem<=(mirror (mirror arr' (lo+n' - (neq+1)) (lo+n') ((lo+n' - (lo+n' - (neq+1))) / 2)) lo (lo+n') ((lo+n' - lo) / 2)).size:=by rw [Rea.size reT]; exact hz
      obtain ⟨a,ea⟩:∃ a,(mirror (mirror arr' (lo+n' - (neq+1)) (lo+n') ((lo+n' - (lo+n' - (neq+1))) / 2)) lo (lo+n') ((lo+n' - lo) / 2))[lo+x]?=some a:=⟨_,Array.getElem?_eq_getElem (by omega)⟩
      obtain ⟨b,eb⟩:∃ b,(mirror (mirror arr' (lo+n' - (neq+1)) (lo+n') ((lo+n' - (lo+n' - (neq+1))) / 2)) lo (lo+n') ((lo+n' - lo) / 2))[lo+x - 1]?=some b:=⟨_,Array.getElem?_eq_getElem (by omega)⟩
      refine wpS_bind (Dl hl hk ea eb (Rea.all reT Sall _ _ ea) (Rea.all reT Sall _ _ eb) ?_);dsimp only;by_cases lt:rk a < rk b
      ·rw [decide_eq_true lt,if_pos rfl];exact wpS_pure ⟨rfl,x,rfl,by omega,by omega,so⟩
      ·rw [decide_eq_false lt,if_neg (by simp)];exact wpS_pure ⟨rfl,rfl,so.snoc (by omega) ea eb (by omega)⟩
     ·rintro c st' ⟨rfl,rfl,so⟩;rw [Nat.max_eq_right (by omega)] at so ⊢;exact ⟨rfl,nrem,rfl,h1,Nat.le_refl _,so⟩
     ·exact DeR.mir deM (by rw [Rea.size reM]; omega)
     ·rintro c st' ⟨rfl,m,rfl,m1,m2,so⟩;exact wpS_pure (k _ m reT m1 m2 so)
    ·rw [if_neg q];have reT:Rea (arrOf st) (mirror (arr') lo (lo+n') ((lo+n' - lo) / 2)) lo (lo+nrem):=Rea.trans re' (DL (Nat.le_refl _) (by omega) (by rw [Rea.size re']; exact hz));refine wpS_bind (Es ?_);refine wpS_bind (wpS_mono (wpS_forRange (I:=fun x c st'=>st'=setArr st (mirror (arr') lo (lo+n') ((lo+n' - lo) / 2))/\c=(none,x)/\SoR rk (mirror (arr') lo (lo+n') ((lo+n' - lo) / 2)) lo (lo+x)) (Q:=fun c st'=>st'=setArr st (mirror (arr') lo (lo+n') ((lo+n' - lo) / 2))/\∃ n,c=(none,n)/\1<=n/\n<=nrem/\SoR rk (mirror (arr') lo (lo+n') ((lo+n' - lo) / 2)) lo (lo+n)) ?_ ?_ ⟨rfl,rfl,?_⟩) ?_)
     ·rintro x c st' hx1 hx ⟨rfl,rfl,so⟩;dsimp only;have hzz:lo+nrem<=(mirror (arr') lo (lo+n') ((lo+n' - lo) / 2)).size:=by rw [Rea.size reT]; exact hz
      obtain ⟨a,ea⟩:∃ a,(mirror (arr') lo (lo+n') ((lo+n' - lo) / 2))[lo+x]?=some a:=⟨_,Array.getElem?_eq_getElem (by omega)⟩
      obtain ⟨b,eb⟩:∃ b,(mirror (arr') lo (lo+n') ((lo+n' - lo) / 2))[lo+x - 1]?=some b:=⟨_,Array.getElem?_eq_getElem (by omega)⟩
      refine wpS_bind (Dl hl hk ea eb (Rea.all reT Sall _ _ ea) (Rea.all reT Sall _ _ eb) ?_);dsimp only;by_cases lt:rk a < rk b
      ·rw [decide_eq_true lt,if_pos rfl];exact wpS_pure ⟨rfl,x,rfl,by omega,by omega,so⟩
      ·rw [decide_eq_false lt,if_neg (by simp)];exact wpS_pure ⟨rfl,rfl,so.snoc (by omega) ea eb (by omega)⟩
     ·rintro c st' ⟨rfl,rfl,so⟩;rw [Nat.max_eq_right (by omega)] at so ⊢;exact ⟨rfl,nrem,rfl,h1,Nat.le_refl _,so⟩
     ·exact DeR.mir de' (by rw [Rea.size re']; omega)
     ·rintro c st' ⟨rfl,m,rfl,m1,m2,so⟩;exact wpS_pure (k _ m reT m1 m2 so)
end
end PyProof.Rows
namespace PyProof.Rows
open PySem
def CB (rk:Keyed->Nat) (arr:Array Keyed):List (Nat×Nat×Nat)->Nat->Nat->Prop
 | [],a,b=>a=b
 | r :: l,a,b=>r.1=a/\1<=r.2.1/\SoR rk arr a (a+r.2.1)/\CB rk arr l (a+r.2.1) b
section
variable {prog:Program} {w:World} {A:Around} {E:Value->Shared->Prop} {s:Shared} {rk:Keyed->Nat} {S:Keyed->Prop} {κ:SortKind}
theorem CB.le {arr:Array Keyed}:∀ {l:List (Nat×Nat×Nat)} {a b:Nat},CB rk arr l a b->a+l.length<=b
 | [],a,b,h=>Nat.le_of_eq h
 | r :: l,a,b,h=>by
  have:=CB.le h.2.2.2;have:=h.2.1;rw [List.length_cons];omega
theorem CB.app {arr:Array Keyed}:∀ {l l2:List (Nat×Nat×Nat)} {a b c:Nat},CB rk arr l a b->CB rk arr l2 b c->CB rk arr (l ++ l2) a c
 | [],l2,a,b,c,h,h2=>by
  cases (show a=b from h);exact h2
 | r :: l,l2,a,b,c,h,h2=>⟨h.1,h.2.1,h.2.2.1,CB.app h.2.2.2 h2⟩
theorem CB.cut {arr:Array Keyed}:∀ {l l2:List (Nat×Nat×Nat)} {a c:Nat},CB rk arr (l ++ l2) a c->∃ b,CB rk arr l a b/\CB rk arr l2 b c
 | [],l2,a,c,h=>⟨a,rfl,h⟩
 | r :: l,l2,a,c,h=>by
  obtain ⟨b,h1,h2⟩:=CB.cut h.2.2.2;exact ⟨b,⟨h.1,h.2.1,h.2.2.1,h1⟩,h2⟩
theorem CB.out {arr arr':Array Keyed}:∀ {l:List (Nat×Nat×Nat)} {a b:Nat},CB rk arr l a b->(∀ i:Nat,a<=i->i < b->arr'[i]?=arr[i]?)->CB rk arr' l a b
 | [],a,b,h,k=>h
 | r :: l,a,b,h,k=>by
  have:=CB.le h.2.2.2;refine ⟨h.1,h.2.1,fun i j x y li ij jh ex ey=>?_,CB.out h.2.2.2 fun i p q=>k i (by omega) q⟩;rw [k _ (by omega) (by omega)] at ex ey;exact h.2.2.1 i j x y li ij jh ex ey
theorem CB.last {arr:Array Keyed} {f:Nat×Nat×Nat->Nat×Nat×Nat} (hf:∀ r,(f r).1=r.1/\(f r).2.1=r.2.1):∀ {l:List (Nat×Nat×Nat)} {a b k:Nat},CB rk arr l a b->CB rk arr (l.modify k f) a b
 | [],a,b,k,h=>by
  rw [List.modify_nil];exact h
 | r :: l,a,b,0,h=>by
  rw [List.modify_zero_cons];refine ⟨(hf r).1.trans h.1,?_,?_,?_⟩
  ·rw [(hf r).2];exact h.2.1
  ·rw [(hf r).2];exact h.2.2.1
  ·rw [(hf r).2];exact h.2.2.2
 | r :: l,a,b,k+1,h=>by
  rw [List.modify_succ_cons];exact ⟨h.1,h.2.1,h.2.2.1,CB.last hf h.2.2.2⟩
theorem two_of {α:Type} {l:List α} {i:Nat} {x y:α} (e1:l[i]?=some x) (e2:l[i+1]?=some y):∃ l1 l2,l=l1 ++ x :: y :: l2/\l1.length=i:=by
 have h1:=(List.getElem?_eq_some_iff.mp e1).1;have h2:=(List.getElem?_eq_some_iff.mp e2).1;refine ⟨l.take i,l.drop (i+2),?_,by rw [List.length_take]; omega⟩;have d1:l.drop i=x :: l.drop (i+1):=by
  rw [List.drop_eq_getElem_cons h1,(List.getElem?_eq_some_iff.mp e1).2]
 have d2:l.drop (i+1)=y :: l.drop (i+2):=by
  rw [List.drop_eq_getElem_cons h2,(List.getElem?_eq_some_iff.mp e2).2]
 rw [<-d2,<-d1,List.take_append_drop]
theorem Pa {p:Array (Nat×Nat×Nat)} {i:Nat} {x y z:Nat×Nat×Nat} {l1 l2:List (Nat×Nat×Nat)} (e:p.toList=l1 ++ x :: y :: l2) (li:l1.length=i):((p.setIfInBounds i z).eraseIdxIfInBounds (i+1)).toList=l1 ++ z :: l2:=by
 subst li;have e1:(p.setIfInBounds l1.length z).toList=l1 ++ z :: y :: l2:=by
  rw [Array.toList_setIfInBounds,e,List.set_append_right _ _ (Nat.le_refl _),Nat.sub_self];rfl
 have sz:(p.setIfInBounds l1.length z).size=l1.length+2+l2.length:=by
  rw [<-Array.length_toList,e1,List.length_append,List.length_cons,List.length_cons];omega
 unfold Array.eraseIdxIfInBounds;rw [dif_pos (by omega),Array.toList_eraseIdx,e1,List.eraseIdx_append_of_length_le (by omega),Nat.add_sub_cancel_left];rfl
structure Srn (rk:Keyed->Nat) (κ:SortKind) (a0:Array Keyed) (lo:Nat) (st:SortSt):Prop where
 kind:kindOf st=κ
 fail:failedOf st=none
 pm:(arrOf st).toList.Perm a0.toList
 runs:CB rk (arrOf st) (pendingOf st).toList 0 lo
theorem Srn.size {a0:Array Keyed} {lo:Nat} {st:SortSt} (h:Srn rk κ a0 lo st):(arrOf st).size=a0.size:=by
 have:=h.pm.length_eq;rw [Array.length_toList,Array.length_toList] at this;exact this
theorem Srn.all {a0:Array Keyed} {lo:Nat} {st:SortSt} (h:Srn rk κ a0 lo st) (Sa:∀ (i:Nat) x,a0[i]?=some x->S x) (i:Nat) (x:Keyed) (e:(arrOf st)[i]?=some x):S x:=by
 rw [<-Array.getElem?_toList] at e;obtain ⟨j,hj⟩:=List.getElem?_of_mem (h.pm.mem_iff.mp (List.mem_of_getElem? e));rw [Array.getElem?_toList] at hj;exact Sa j x hj
theorem Im {st:SortSt} {Q:Bool->SortSt->Prop} {i lo:Nat} {a0:Array Keyed} (hl:Iy prog w A E s rk S κ) (h:Srn rk κ a0 lo st) (Sa:∀ (i:Nat) x,a0[i]?=some x->S x) (hi:i+1 < (pendingOf st).size) (hlo:lo<=a0.size)
  (k:∀ st',Srn rk κ a0 lo st'->(pendingOf st').size+1=(pendingOf st).size->(∀ j:Nat,lo<=j->(arrOf st')[j]?=(arrOf st)[j]?)->Q true st'):wpS (model prog w) A E s (mergeAt' i) Q st:=by
 obtain ⟨⟨sa,na,pa⟩,e1⟩:∃ x,(pendingOf st)[i]?=some x:=⟨_,Array.getElem?_eq_getElem (by omega)⟩
 obtain ⟨⟨sb,nb,pb⟩,e2⟩:∃ x,(pendingOf st)[i+1]?=some x:=⟨_,Array.getElem?_eq_getElem hi⟩
 obtain ⟨l1,l2,el,li⟩:=two_of (l:=(pendingOf st).toList) (by rw [Array.getElem?_toList]; exact e1) (by rw [Array.getElem?_toList]; exact e2);have rn:=h.runs;rw [el] at rn;obtain ⟨c,r1,rn⟩:=rn.cut;obtain ⟨q1,n1,s1,rn⟩:=rn;obtain ⟨q2,n2,s2,rn⟩:=rn;dsimp only at q1 n1 s1 q2 n2 s2 rn;subst q1;have r1le:=r1.le;have rnle:=rn.le;have sz:=h.size;refine Mx hl h.kind h.fail e1 e2 q2 n1 n2 (by omega) (h.all Sa) (q2 ▸ s1) (q2 ▸ s2) fun st' k1 k2 k3 mg=>?_;have pl:=Pa (z:=(sa,na+nb,pa)) el li;rw [<-k3] at pl;refine k st' ⟨k1,k2,mg.pm.trans h.pm,?_⟩ ?_ fun j hj=>mg.out j (.inr (by omega))
 ·rw [pl];refine CB.app (CB.out r1 fun j _ hj=>mg.out j (.inl hj)) ⟨rfl,by show 1<=na+nb; omega,?_,?_⟩
  ·have:=mg.so;rw [q2,Nat.add_assoc] at this;exact this
  ·show CB rk (arrOf st') l2 (sa+(na+nb)) lo;rw [<-Nat.add_assoc];exact CB.out rn fun j hj _=>mg.out j (.inr (by omega))
 ·have a1:=congrArg List.length pl;have a2:=congrArg List.length el;rw [Array.length_toList,List.length_append,List.length_cons] at a1;rw [Array.length_toList,List.length_append,List.length_cons,List.length_cons] at a2;omega
end
end PyProof.Rows
namespace PyProof.Rows
open PySem
section
variable {prog:Program} {w:World} {A:Around} {E:Value->Shared->Prop} {s:Shared} {rk:Keyed->Nat} {S:Keyed->Prop} {κ:SortKind}
theorem Srn.push {a0:Array Keyed} {lo n pw:Nat} {st:SortSt} (h:Srn rk κ a0 lo st) (n1:1<=n) (so:SoR rk (arrOf st) lo (lo+n)):Srn rk κ a0 (lo+n) (setPending st ((pendingOf st).push (lo,n,pw))) :=
 ⟨h.kind,h.fail,h.pm,by
  show CB rk (arrOf st) ((pendingOf st).push (lo,n,pw)).toList 0 (lo+n);rw [Array.toList_push];exact CB.app h.runs ⟨rfl,n1,so,rfl⟩⟩
theorem Srn.last {a0:Array Keyed} {lo k:Nat} {st:SortSt} {f:Nat×Nat×Nat->Nat×Nat×Nat} (hf:∀ r,(f r).1=r.1/\(f r).2.1=r.2.1) (h:Srn rk κ a0 lo st):Srn rk κ a0 lo (setPending st ((pendingOf st).modify k f)) :=
 ⟨h.kind,h.fail,h.pm,by
  show CB rk (arrOf st) ((pendingOf st).modify k f).toList 0 lo;rw [Array.toList_modify];exact CB.last hf h.runs⟩
theorem Lm {st:SortSt} {Q:Unit->SortSt->Prop} (hl:Iy prog w A E s rk S κ) (hk:kindOf st=κ) (hf:failedOf st=none) (hp:pendingOf st=#[]) (Sa:∀ (i:Nat) x,(arrOf st)[i]?=some x->S x)
  (k:∀ st',failedOf st'=none->(arrOf st').toList.Perm (arrOf st).toList->SoR rk (arrOf st') 0 (arrOf st).size->Q () st'):wpS (model prog w) A E s sortRuns' Q st:=by
 have h0:Srn rk κ (arrOf st) 0 st:=⟨hk,hf,List.Perm.refl _,by rw [hp]; rfl⟩
 generalize e0:arrOf st=a0 at h0 Sa k;rw [sortRuns'_eq];refine wpS_bind (wpS_get ?_);dsimp only;have esz:(arrOf st).size=a0.size:=by rw [e0]
 simp only [esz];generalize minRun' a0.size a0.size 0=mr;refine wpS_bind (wpS_mono (wpS_forRange (I:=fun x c st'=>∃ lo,c=(none,lo)/\Srn rk κ a0 lo st'/\lo<=a0.size/\(x<=lo\/a0.size<=lo)) (Q:=fun c st'=>c=(none,a0.size)/\Srn rk κ a0 a0.size st') ?step ?fin ⟨0,rfl,h0,by omega,by omega⟩) ?post)
 case fin =>
  rintro c st' ⟨lo,rfl,hS,l1,l2⟩;have:lo=a0.size:=by omega
  subst this;exact ⟨rfl,hS⟩
 case step =>
  rintro x c st' _ hx ⟨lo,rfl,hS,l1,l2⟩;dsimp only;by_cases ge:lo ≥ a0.size
  ·rw [if_pos ge];have:lo=a0.size:=by omega
   subst this;exact wpS_pure ⟨rfl,hS⟩
  rw [if_neg ge];have sz:=hS.size;have rest:∀ (n:Nat) (st2:SortSt),Srn rk κ a0 lo st2->1<=n->lo+n<=a0.size->SoR rk (arrOf st2) lo (lo+n)->∃ lo',((none,lo+n):Option Unit×Nat)=(none,lo')/\Srn rk κ a0 lo' (setPending st2 ((pendingOf st2).push (lo,n,0)))/\lo'<=a0.size/\(x+1<=lo'\/a0.size<=lo'):=fun n st2 h2 n1 nl so=>⟨lo+n,rfl,h2.push n1 so,nl,by omega⟩
  refine wpS_bind (LP hl hS.kind (show lo+(a0.size - lo)<=(arrOf st').size by omega) (by omega) (hS.all Sa) fun arr' m re m1 m2 so=>?_);dsimp only;have hS1:Srn rk κ a0 lo (setArr st' arr'):=⟨hS.kind,hS.fail,re.pm.trans hS.pm,CB.out hS.runs fun i _ h=>re.out i (.inl h)⟩
  by_cases few:m < mr
  ·rw [if_pos few];refine wpS_bind (wpS_lift (wpAny_rule ⟨rfl,?_⟩));refine wpS_bind (IK hl hS1.kind (show lo+min (a0.size - lo) mr<=(arrOf (setArr st' arr')).size by rw [hS1.size]; omega) (by omega) (hS1.all Sa) so fun arr2 re2 so2=>?_);have hS2:Srn rk κ a0 lo (setArr st' arr2):=⟨hS.kind,hS.fail,re2.pm.trans hS1.pm,CB.out hS1.runs fun i _ h=>re2.out i (.inl h)⟩
   generalize hn:min (a0.size - lo) mr=n at so2 ⊢;have n1:1<=n:=by omega
   have nl:lo+n<=a0.size:=by omega
   simp only [Bool.not_true,Bool.false_eq_true,if_false];have so2:SoR rk (arrOf (setArr st' arr2)) lo (lo+n):=so2;generalize setArr st' arr2=st2 at hS2 so2 ⊢;refine wpS_bind (wpS_get ?_);cases hb:(pendingOf st2).back? with
   | none =>
    dsimp only;exact wpS_bind (wpS_modify (wpS_pure (rest n st2 hS2 n1 nl so2)))
   | some r =>
    obtain ⟨s1,n1',p1⟩:=r;dsimp only;refine wpS_bind (wpS_mono (wpS_forRange (I:=fun _ c st3=>c=(none,())/\Srn rk κ a0 lo st3/\SoR rk (arrOf st3) lo (lo+n)) (Q:=fun c st3=>c=(none,())/\Srn rk κ a0 lo st3/\SoR rk (arrOf st3) lo (lo+n)) ?_ (fun c st3 h=>h) ⟨rfl,hS2,so2⟩) ?_)
    ·rintro y c st3 _ _ ⟨rfl,h3,so3⟩;refine wpS_bind (wpS_get ?_);by_cases g:(pendingOf st3).size > 1
     ·rw [if_pos g];obtain ⟨⟨sx,nx,older⟩,e⟩:∃ x,(pendingOf st3)[(pendingOf st3).size - 2]?=some x:=⟨_,Array.getElem?_eq_getElem (by omega)⟩
      rw [e];dsimp only;split
      ·exact wpS_pure ⟨rfl,h3,so3⟩
      ·refine wpS_bind (Im hl h3 Sa (by omega) l1 fun st4 h4 _ keep=>?_);simp only [Bool.not_true,Bool.false_eq_true,if_false];refine wpS_pure ⟨rfl,h4,fun i j x y li ij jh ex ey=>?_⟩;rw [keep _ (by omega)] at ex ey;exact so3 i j x y li ij jh ex ey
     ·rw [if_neg g];exact wpS_pure ⟨rfl,h3,so3⟩
    ·rintro c st3 ⟨rfl,h3,so3⟩;dsimp only;exact wpS_bind (wpS_modify (wpS_bind (wpS_modify (wpS_pure (rest n _ (Srn.last (fun r=>⟨rfl,rfl⟩) h3) n1 nl so3)))))
  ·rw [if_neg few];have so2:SoR rk (arrOf (setArr st' arr')) lo (lo+m):=so;have hS2:=hS1;generalize setArr st' arr'=st2 at hS2 so2 ⊢;have n1:1<=m:=m1;have nl:lo+m<=a0.size:=by omega
   generalize m=n at so2 n1 nl ⊢;refine wpS_bind (wpS_get ?_);cases hb:(pendingOf st2).back? with
   | none =>
    dsimp only;exact wpS_bind (wpS_modify (wpS_pure (rest n st2 hS2 n1 nl so2)))
   | some r =>
    obtain ⟨s1,n1',p1⟩:=r;dsimp only;refine wpS_bind (wpS_mono (wpS_forRange (I:=fun _ c st3=>c=(none,())/\Srn rk κ a0 lo st3/\SoR rk (arrOf st3) lo (lo+n)) (Q:=fun c st3=>c=(none,())/\Srn rk κ a0 lo st3/\SoR rk (arrOf st3) lo (lo+n)) ?_ (fun c st3 h=>h) ⟨rfl,hS2,so2⟩) ?_)
    ·rintro y c st3 _ _ ⟨rfl,h3,so3⟩;refine wpS_bind (wpS_get ?_);by_cases g:(pendingOf st3).size > 1
     ·rw [if_pos g];obtain ⟨⟨sx,nx,older⟩,e⟩:∃ x,(pendingOf st3)[(pendingOf st3).size - 2]?=some x:=⟨_,Array.getElem?_eq_getElem (by omega)⟩
      rw [e];dsimp only;split
      ·exact wpS_pure ⟨rfl,h3,so3⟩
      ·refine wpS_bind (Im hl h3 Sa (by omega) l1 fun st4 h4 _ keep=>?_);simp only [Bool.not_true,Bool.false_eq_true,if_false];refine wpS_pure ⟨rfl,h4,fun i j x y li ij jh ex ey=>?_⟩;rw [keep _ (by omega)] at ex ey;exact so3 i j x y li ij jh ex ey
     ·rw [if_neg g];exact wpS_pure ⟨rfl,h3,so3⟩
    ·rintro c st3 ⟨rfl,h3,so3⟩;dsimp only;exact wpS_bind (wpS_modify (wpS_bind (wpS_modify (wpS_pure (rest n _ (Srn.last (fun r=>⟨rfl,rfl⟩) h3) n1 nl so3)))))
 case post =>
  rintro c st' ⟨rfl,hS⟩;dsimp only;refine wpS_bind (wpS_mono (wpS_forRange (I:=fun x c st''=>c=(none,())/\Srn rk κ a0 a0.size st''/\((pendingOf st'').size<=1\/(pendingOf st'').size+x<=a0.size)) (Q:=fun c st''=>c=(none,())/\Srn rk κ a0 a0.size st''/\(pendingOf st'').size<=1) ?_ ?_ ⟨rfl,hS,?_⟩) ?_)
  ·rintro x c st'' _ hx ⟨rfl,h1,h2⟩;refine wpS_bind (wpS_get ?_);by_cases q:(pendingOf st'').size<=1
   ·rw [if_pos q];exact wpS_pure ⟨rfl,h1,q⟩
   rw [if_neg q];have go:∀ i,i+1 < (pendingOf st'').size->wpS (model prog w) A E s (mergeAt' i) (fun b st4=>b=true/\Srn rk κ a0 a0.size st4/\(pendingOf st4).size+(x+1)<=a0.size) st'':=fun i hi=>Im hl h1 Sa hi (Nat.le_refl _) fun st4 h4 h5 _=>⟨rfl,h4,by omega⟩
   refine wpS_bind (wpS_mono (go _ ?_) fun b st4 h=>?_)
   ·repeat' split
    all_goals omega
   ·obtain ⟨rfl,h4,h5⟩:=h;simp only [Bool.not_true,Bool.false_eq_true,if_false];exact wpS_pure ⟨rfl,h4,.inr h5⟩
  ·rintro c st'' ⟨rfl,h1,h2⟩;exact ⟨rfl,h1,by omega⟩
  ·have:=hS.runs.le;rw [Array.length_toList] at this;exact .inr (by omega)
  ·rintro c st'' ⟨rfl,h1,h2⟩;refine wpS_pure (k st'' h1.fail h1.pm ?_);have rn:=h1.runs;have lz:(pendingOf st'').toList.length<=1:=by rw [Array.length_toList]; exact h2
   generalize (pendingOf st'').toList=l at rn lz
   match l,rn,lz with
   | [],rn,_ =>
    have z:0=a0.size:=rn;exact fun i j x y _ _ h=>absurd h (by omega)
   | [r],rn,_ =>
    obtain ⟨q1,q2,q3,q4⟩:=rn;have:0+r.2.1=a0.size:=q4;rw [this] at q3;exact q3
end
end PyProof.Rows
namespace L2
open PySem PySem.W PySem.Spec PyProof.Rows
theorem NN {α β:Type} {f:β->α} {l' l:List α} (h:l'.Perm l):∀ p:List β,p.map f=l->∃ p':List β,p'.Perm p/\p'.map f=l':=by
 induction h with
 | nil=>exact fun p e=>⟨p,List.Perm.refl _,e⟩
 | cons x _ ih =>
  intro p e;cases p with
  | nil=>cases e
  | cons i p =>
   rw [List.map_cons] at e;injection e with e1 e2
   obtain ⟨p',h1,h2⟩:=ih p e2;exact ⟨i :: p',h1.cons i,by rw [List.map_cons,h2,e1]⟩
 | swap x y l =>
  intro p e
  match p,e with
  | i :: j :: p,e =>
   rw [List.map_cons,List.map_cons] at e;injection e with e1 e2
   injection e2 with e2 e3
   exact ⟨j :: i :: p,List.Perm.swap i j p,by rw [List.map_cons,List.map_cons,e1,e2,e3]⟩
 | trans _ _ ih1 ih2 =>
  intro p e;obtain ⟨p1,h1,h2⟩:=ih2 p e;obtain ⟨p2,h3,h4⟩:=ih1 p1 h2;exact ⟨p2,h3.trans h1,h4⟩
section
variable {prog:Program} {w:World} {A:Around} {E:Value->Shared->Prop} {s:Shared} {ks vs:List Value} {κ:SortKind}
theorem run_any {Q:SortSt->Shared->Prop} {rk:Nat->Int} {rk':Keyed->Nat} (lk:ks.length=vs.length) (hr:∀ i,i < vs.length->rk i=(rk' (kas_item (ks.toArray.zip vs.toArray) i):Int)) (hc:∀ i j C,i < vs.length->j < vs.length->C (decide (rk i < rk j)) s->kas_ask prog w A κ ks i j C s)
  (k:∀ p st',Qe vs.length p->Up rk p vs.length->failedOf st'=none->arrOf st'=p.map (kas_item (ks.toArray.zip vs.toArray))->Q st' s):wpAny (model prog w) A ((sortRuns').run (SortSt.mk' κ (ks.toArray.zip vs.toArray) #[] 7 none)) (fun r s'=>Q r.2 s') E s:=by
 have sz:(ks.toArray.zip vs.toArray).size=vs.length:=by simp [lk]
 have whole:((List.range vs.length).map (kas_item (ks.toArray.zip vs.toArray)))=(ks.toArray.zip vs.toArray).toList:=by
  have e:=kas_range (ks.toArray.zip vs.toArray);rw [sz] at e;rw [<-congrArg Array.toList e];simp
 have fst:∀ i,i < vs.length->(kas_item (ks.toArray.zip vs.toArray) i).1=ks.getD i Value.none:=fun i hi=>by
  have h1:i < ks.length:=by rw [lk]; exact hi
  unfold kas_item;rw [Array.getD_eq_getD_getElem?,Array.getElem?_eq_getElem (by rw [sz]; exact hi),List.getD_eq_getElem?_getD,List.getElem?_eq_getElem h1];simp
 have hl:Iy prog w A E s rk' (fun x=>∃ i,i < vs.length/\x=kas_item (ks.toArray.zip vs.toArray) i) κ:=by
  rintro x y st Q' ⟨i,hi,rfl⟩ ⟨j,hj,rfl⟩ hk q;rw [lt'_eq];refine wpS_bind (wpS_get ?_);rw [hk];have c:=hc i j (fun b s'=>s'=s/\b=decide (rk i < rk j)) hi hj ⟨rfl,rfl⟩;unfold kas_ask at c;rw [<-fst i hi,<-fst j hj] at c;refine wpS_bind (wpS_lift (wpAny_attempt (wpAny_mono c (fun b s' h=>?_) fun _ _ x=>x.elim)));obtain ⟨rfl,rfl⟩:=h;refine ⟨rfl,?_⟩;refine wpS_pure ?_;have e:decide (rk i < rk j)=decide (rk' (kas_item (ks.toArray.zip vs.toArray) i) < rk' (kas_item (ks.toArray.zip vs.toArray) j)):=by
   rw [hr i hi,hr j hj];exact decide_eq_decide.mpr Int.ofNat_lt
  rw [e];exact q
 have run:=Lm (st:=SortSt.mk' κ (ks.toArray.zip vs.toArray) #[] 7 none) (Q:=fun _ st'=>Q st' s) hl rfl rfl rfl (fun i x e=>?_) fun st' hf pm so=>?_
 ·exact wpAny_mono run (fun r s' h=>by obtain ⟨rfl,q⟩:=h; exact q) fun _ _ e=>e
 ·have hi:i < vs.length:=by
   have:=(Array.getElem?_eq_some_iff.mp e).1;rw [sz] at this;exact this
  refine ⟨i,hi,?_⟩;have e:(ks.toArray.zip vs.toArray)[i]?=some x:=e;unfold kas_item;rw [Array.getD_eq_getD_getElem?,e];rfl
 ·have pm:(arrOf st').toList.Perm (ks.toArray.zip vs.toArray).toList:=pm;obtain ⟨p,h1,h2⟩:=NN pm _ whole;have lp:p.length=vs.length:=by rw [h1.length_eq,List.length_range]
  have ea:arrOf st'=p.toArray.map (kas_item (ks.toArray.zip vs.toArray)):=by
   apply Array.toList_inj.mp;rw [Array.toList_map];exact h2.symm
  refine k p.toArray st' ⟨by simpa using lp,Array.perm_iff_toList_perm.mpr (by simpa using h1)⟩ (fun i j ij hj=>?_) hf ea;have so:SoR rk' (arrOf st') 0 vs.length:=by
   rw [<-sz];exact so
  have at':∀ {i:Nat},i < vs.length->p.toArray.getD i 0 < vs.length/\(arrOf st')[i]?=some (kas_item (ks.toArray.zip vs.toArray) (p.toArray.getD i 0)):=fun {i} hi=>by
   have hp:i < p.length:=by rw [lp]; exact hi
   have e:p.toArray.getD i 0=p[i]:=by simp [Array.getD,hp]
   rw [e];refine ⟨by simpa using h1.mem_iff.mp (List.getElem_mem hp),?_⟩;rw [ea,Array.getElem?_map,List.getElem?_toArray,List.getElem?_eq_getElem hp];rfl
  obtain ⟨a1,a2⟩:=at' (i:=i) (by lia);obtain ⟨b1,b2⟩:=at' hj;unfold kk;rw [hr _ a1,hr _ b1];exact Int.ofNat_le.mpr (so i j _ _ (Nat.zero_le _) ij hj a2 b2)
end
def MD (H:Hp) (v:Value):List Int:=match v with
 | .ref u=>(match H u with
  | some (.tup vs)=>vs.filterMap fun v=>(match v with | .int n=>some n | _=>none)
  | _=>[])
 | _=>[]
theorem Ob {H:Hp} {u:Addr} {ns:List Int} (h:H u=some (.tup (ns.map V.int))):MD H (.ref u)=ns:=by
 unfold MD;dsimp only;rw [h];dsimp only;clear h;induction ns with
 | nil=>rfl
 | cons n ns ih =>
  rw [List.map_cons,List.filterMap_cons];dsimp only;rw [ih]
def rkK (H:Hp) (rows:List (List Int)) (x:Keyed):Nat:=rows.countP fun r=>Cf r (MD H x.1)
theorem rkK_of {H:Hp} {items:List (Addr×List Int)} (ht:∀ q ∈ items,H q.1=some (.tup (q.2.map V.int))) {vs:List Value} (lv:vs.length=items.length) {i:Nat} (hi:i < items.length):Lp (items.map (·.2)) i=(rkK H (items.map (·.2)) (kas_item ((items.map fun q=>Value.ref q.1).toArray.zip vs.toArray) i):Int):=by
 have e:(kas_item ((items.map fun q=>Value.ref q.1).toArray.zip vs.toArray) i).1=.ref items[i].1:=by
  unfold kas_item;rw [Array.getD_eq_getD_getElem?,Array.getElem?_eq_getElem (by simp; lia)];simp
 unfold Lp rkK;rw [e,Ob (ht _ (List.getElem_mem hi)),List.getD_eq_getElem?_getD,List.getElem?_map,List.getElem?_eq_getElem hi];rfl
section
variable {prog:Program} {w:World} {A:Around} {E:Value->Shared->Prop}
end
section
variable {X:Cx}
end
section
variable {X:Cx} {pins:List (Addr×Obj)} {σ:St} {H H':Hp} {s:Shared} {k:Nat} {f b:Addr} {fd:FuncData} {ps:List Str}
theorem PB {A2:Around} {P:PySem.Fin->Shared->Prop} {E:Value->Shared->Prop} (F:AS X.prog X.w X.K X.mg X.base CX0 k f fd ps EI) (hb:Eo X.K fd ps []) (hr:Ct k A2) (hfr:∀ s H,Gx X.prog X.w X.K X.mg X.base X.A X.stack s H->Gx X.prog X.w X.K X.mg X.base A2 X.stack s H) (I:Inv X pins σ H s) {a:Addr} {items:List It3} {n:Nat} (ho:s.heap.get? a=some (seqObj "list" (items.map fun q=>Value.ref q.a).toArray n)) (fa:Dd X pins H a) (hit:∀ q ∈ items,H q.a=some (.tup (q.ns.map V.int))) (h64:items.length<=100000)
  (fin:∀ (p:Array Nat) (H':Hp) (s':Shared) (c:Nat),Qe items.length p->Up (Lp (items.map fun q=>[q.y,q.x])) p items.length->Inv X pins σ H' s'->(∀ b u,H b=some u->H' b=some u)->H' a=none->s'.heap.get? a=some (seqObj "list" (p.toList.map fun i=>(items.map fun q=>Value.ref q.a).getD i Value.none).toArray c)->P (.done (.ret .none)) s') :
  wpAny (model X.prog X.w) A2 (ksk_tree a (.ref f) false) P E s:=by
 have len:(items.map fun q=>Value.ref q.a).length=items.length:=List.length_map _;have ln:items.length<=sizeLine:=Nat.le_trans h64 (by decide);unfold ksk_tree;refine wpAny_bind (listItems_at ho rfl (wpAny_bind (listUpdate_at ho rfl ?_)));have ⟨e1,he1⟩:∃ e1,(s.heap.update a (Obj.mapSeq fun _=>#[])).get? a=some (seqObj "list" #[] e1):=⟨_,get?_update_seq ho _⟩
 have I1:Inv X pins σ H { s with heap:=s.heap.update a (Obj.mapSeq fun _=>#[]) }:=fa.turn (t':=s.toks) I fun c o hc e=>by rw [Heap.get?_update_ne _ _ _ _ hc]; exact e
 generalize s.heap.update a (Obj.mapSeq fun _=>#[])=h1 at he1 I1 ⊢;refine wpAny_bind (seqEpoch_at he1 rfl (wpAny_bind (wpAny_newTuple (wpAny_bind (wpAny_newList (wpAny_holding ?_))))));have I2:Inv X pins σ H { s with heap:=h1.push (seqObj "tuple" (items.map fun q=>Value.ref q.a).toArray 0) }:=I1.kept (t':=s.toks) fun b o e=>Heap.get?_push_of_some _ e;have he2:=Heap.get?_push_of_some (seqObj "tuple" (items.map fun q=>Value.ref q.a).toArray 0) he1;show wpAny (model X.prog X.w) A2 (ksk_rest a (.ref f) false (items.map fun q=>Value.ref q.a).toArray e1 (.ref (h1.push (seqObj "tuple" (items.map fun q=>Value.ref q.a).toArray 0)).objs.size)) P E { s with heap:=(h1.push (seqObj "tuple" (items.map fun q=>Value.ref q.a).toArray 0)).push (seqObj "list" #[] 0) };generalize h1.push (seqObj "tuple" (items.map fun q=>Value.ref q.a).toArray 0)=h2 at I2 he2 ⊢;have fS:Dd X pins H h2.objs.size:=I2.fpOk (Nat.le_refl _) (I2.hok.fresh (Nat.le_refl _));have he3:=Heap.get?_push_of_some (seqObj "list" #[] 0) he2;have hk3:(h2.push (seqObj "list" #[] 0)).get? h2.objs.size=some (seqObj "list" #[] 0):=Heap.get?_push_size _ rfl;have I3:Inv X pins σ H { s with heap:=h2.push (seqObj "list" #[] 0) }:=I2.kept (t':=s.toks) fun b o e=>Heap.get?_push_of_some _ e;have nka:h2.objs.size≠a:=Nat.ne_of_gt (Heap.lt_size he2);generalize h2.push (seqObj "list" #[] 0)=h3 at he3 hk3 I3 ⊢;generalize h2.objs.size=kS at fS hk3 nka ⊢;unfold ksk_rest;refine wpAny_bind (wpAny_rule ?_);rw [List.forIn_toArray];refine wpAny_bind (ksk_fold (fun j s'=>∃ (H':Hp) (us:List Addr) (c:Nat),Inv X pins σ H' s'/\(∀ b u,H b=some u->H' b=some u)/\H' a=none/\H' kS=none/\s'.heap.get? kS=some (seqObj "list" (us.map Value.ref).toArray c)/\s'.heap.get? a=some (seqObj "list" #[] e1)/\us.length=j/\∀ (i:Nat) u q,us[i]?=some u->items[i]?=some q->H' u=some (.tup ([q.y,q.x].map V.int))) (items.map fun q=>Value.ref q.a) 0 _ ⟨H,[],0,I3,fun b u e=>e,fa.1,fS.1,hk3,he3,rfl,fun i u q e=>(nomatch e)⟩ ?_ ?_)
 ·rintro j x ⟨hp,gn,dr,tk,os⟩ hx ⟨H',us,c,I',kp,na,nk,hk,ha,lu,hus⟩;have jl:j < items.length:=by have:=(List.getElem?_eq_some_iff.mp hx).1; rw [len] at this; exact this
  rw [List.getElem?_map] at hx;obtain ⟨q,eq,rfl⟩:=Option.map_eq_some_iff.mp hx;rw [Nat.zero_add] at lu ⊢;have fa':=fa.stay na;have fS':=fS.stay nk;have tq:=kp _ _ (hit q (List.mem_of_getElem? eq));have sp0:EI [V.ref q.a] H' (fun v H''=>∃ u,v=.ref u/\H' u=none/\H''=upd H' u (.tup [.int q.y,.int q.x])) E0:=⟨q.a,q.x,q.y,q.r,rfl,tq,fun u hu=>⟨u,rfl,hu,rfl⟩⟩
  refine wpAny_bind (wpAny_attempt (wpAny_call (codeAny_mono (F.run A2 X.stack _ H' ⟨[Value.ref q.a],[]⟩ ([Value.ref q.a] ++ []) [V.ref q.a] _ E0 hr (hfr _ _ I'.env0) (hb _ [Value.ref q.a] I'.kIn (F.len _ _ _ _ sp0)) (show Aw [V.ref q.a] [Value.ref q.a] from .cons rfl .nil) sp0) fun r s'' hq=>?_)));cases r with
  | error e=>exact hq.elim
  | ok fl =>
   cases fl with
   | next=>exact hq.elim
   | brk=>exact hq.elim
   | cont=>exact hq.elim
   | ret u =>
    obtain ⟨v,H2,os2,bare2,un,hok2,rv,u',rfl,hu',rfl⟩:=hq;obtain ⟨hh,g2,d2,t2,os'⟩:=s'';obtain rfl:os'=os:=os2;cases (show _=Value.ref u' from rv);have I4:=I'.call (h':=hh) (g':=g2) (d':=d2) (t':=t2) (ch:=[]) un hok2 bare2 (fun b z=>absurd z (by simp));have hk4:hh.get? kS=_:=un.keep _ _ hk nk (fS'.nost I') (by simp);have ha4:hh.get? a=_:=un.keep _ _ ha na (fa'.nost I') (by simp);have np:∀ {b:Addr} {o:HO},H' b=some o->upd H' u' (.tup [.int q.y,.int q.x]) b=some o:=fun {b o} e=>by rw [Ak (Ar e hu')]; exact e
    have na4:upd H' u' (.tup [.int q.y,.int q.x]) a=none:=un.free _ _ ha na (by simp);have nk4:upd H' u' (.tup [.int q.y,.int q.x]) kS=none:=un.free _ _ hk nk (by simp);have ⟨c2,hk5⟩:∃ c2,(hh.update kS (Obj.mapSeq (·.push (.ref u')))).get? kS=some (seqObj "list" ((us.map Value.ref).toArray.push (.ref u')) c2):=⟨_,get?_update_seq hk4 _⟩
    refine wpAny_bind (listUpdate_at hk4 rfl (wpAny_pure ⟨rfl,upd H' u' (.tup [.int q.y,.int q.x]),us ++ [u'],c2,(fS'.stay nk4).turn (t':=t2) I4 fun b o hb e=>by rw [Heap.get?_update_ne _ _ _ _ hb]; exact e,fun b o e=>np (kp b o e),na4,nk4,?_,?_,by rw [List.length_append,lu]; rfl,fun i u2 q2 eu eq2=>?_⟩) (hsz2:=?_))
    ·show (hh.update kS _).get? kS=_;rw [hk5];simp
    ·show (hh.update kS _).get? a=_;rw [Heap.get?_update_ne _ _ _ _ (Ne.symm nka)];exact ha4
    ·by_cases hi:i < j
     ·rw [List.getElem?_append_left (by lia)] at eu;exact np (hus i u2 q2 eu eq2)
     ·have:i=j:=by
       have:=(List.getElem?_eq_some_iff.mp eu).1;rw [List.length_append,lu] at this;have:i < j+1:=this;lia
      subst this;rw [List.getElem?_append_right (by lia),lu,Nat.sub_self] at eu;cases eu;rw [eq] at eq2;cases eq2;exact Ab
    ·simp;lia
 ·rintro ⟨hp,gn,dr,tk,os⟩ ⟨H',us,c,I',kp,na,nk,hk,ha,lu,hus⟩;rw [Nat.zero_add,len] at lu;have fa':=fa.stay na;have fS':=fS.stay nk;have lk:(us.map Value.ref).length=(items.map fun q=>Value.ref q.a).length:=by rw [List.length_map,len,lu]
  refine wpAny_bind (listItems_at hk rfl ?_);unfold ksk_end;dsimp only;simp only [Bool.false_eq_true,if_false];have sz:(items.map fun q=>Value.ref q.a).toArray.size=items.length:=by rw [List.size_toArray,len]
  by_cases few:(items.map fun q=>Value.ref q.a).toArray.size < 2
  ·rw [if_pos few,if_pos few];refine wpAny_bind (wpAny_pure ?_);rw [StateT.run_pure];refine wpAny_bind (wpAny_pure ?_);dsimp only;have eo:(arrOf (SortSt.mk' general' ((us.map Value.ref).toArray.zip (items.map fun q=>Value.ref q.a).toArray) #[] 7 none)).map (·.2)=((List.range items.length).toArray.toList.map fun i=>(items.map fun q=>Value.ref q.a).getD i Value.none).toArray:=by
    rw [sz] at few;clear hit fin ho hus I' hk;show ((us.map Value.ref).toArray.zip (items.map fun q=>Value.ref q.a).toArray).map (·.2)=_
    match items,us,lu,few with
    | [],[],_,_=>simp
    | [v],[u],_,_=>simp
   refine Nq (c:=c) I' fa' fS' nka hk ha eo rfl (by simp; lia) (by simp; lia) fun h' c' I5 h5=>fin (List.range items.length).toArray H' _ c' ⟨by simp,Array.Perm.refl _⟩ (fun i j ij hj=>by rw [sz] at few; have e:i=j:=(by lia); rw [e]; exact Int.le_refl _) I5 kp na h5
  ·rw [if_neg few,if_neg few];have two:2<=items.length:=by lia
   have ktup:∀ q ∈ (us.zip (items.map fun q=>[q.y,q.x])),H' q.1=some (.tup (q.2.map V.int))/\q.2≠[]:=fun q hq=>by
    obtain ⟨i,hi⟩:=List.getElem?_of_mem hq;rw [List.getElem?_zip_eq_some,List.getElem?_map] at hi;obtain ⟨h1,h2⟩:=hi;obtain ⟨it,e1,e2⟩:=Option.map_eq_some_iff.mp h2;rw [<-e2];exact ⟨hus i q.1 it h1 e1,by simp⟩
   have z1:((us.zip (items.map fun q=>[q.y,q.x])).map fun q=>Value.ref q.1)=us.map Value.ref:=by
    show List.map (Value.ref ∘ Prod.fst) _=_;rw [<-List.map_map];rw [List.map_fst_zip (by rw [List.length_map,lu]; exact Nat.le_refl _)]
   have zl:(us.zip (items.map fun q=>[q.y,q.x])).length=items.length:=by rw [List.length_zip,List.length_map,lu,Nat.min_self]
   have z2:((us.zip (items.map fun q=>[q.y,q.x])).map (·.2))=items.map fun q=>[q.y,q.x]:=List.map_snd_zip (by rw [List.length_map,lu]; exact Nat.le_refl _);obtain ⟨fs,k1,k2,k3⟩:=Jh I'.hok ktup;rw [z1] at k1;refine wpAny_bind (kat_kind (T:=.type "int") k1 (by rw [k2,zl]; lia) (fun v hv=>?_) rfl ?_)
   ·obtain ⟨x,t,rfl⟩:=k3 v hv;exact .now
   have kroom:(us.map Value.ref).toArray.size<=sizeLine:=by simp; lia
   refine wpAny_bind (wpAny_mono (run_any (ks:=us.map Value.ref) (vs:=items.map fun q=>Value.ref q.a) (κ:=tuples' true) (rk:=Lp (items.map fun q=>[q.y,q.x])) (rk':=rkK H' (items.map fun q=>[q.y,q.x])) (Q:=fun st' s'=>s'={ heap:=hp,gens:=gn,drawn:=dr,toks:=tk,os:=os }/\failedOf st'=none/\∃ p,Qe items.length p/\Up (Lp (items.map fun q=>[q.y,q.x])) p items.length/\arrOf st'=p.map (kas_item ((us.map Value.ref).toArray.zip (items.map fun q=>Value.ref q.a).toArray))) lk ?_ ?_ fun p st' h1 h2 h3 h4=>⟨rfl,h3,p,by rw [len] at h1; exact h1,by rw [len] at h2; exact h2,h4⟩) ?_ fun _ _ e=>e)
   ·intro i hi;rw [len] at hi;have:=rkK_of (H:=H') (items:=us.zip (items.map fun q=>[q.y,q.x])) (fun q hq=>(ktup q hq).1) (vs:=items.map fun q=>Value.ref q.a) (by rw [len,zl]) (i:=i) (by rw [zl]; exact hi);rw [z1,z2] at this;exact this
   ·intro i j C hi hj cc;rw [len] at hi hj;obtain ⟨b,o,vs1,m,e1,e2,e3,e4,e5⟩:=MU I'.hok ktup (i:=i) (by rw [zl]; exact hi);obtain ⟨b',o',vs2,m',f1,f2,f3,f4,f5⟩:=MU I'.hok ktup (i:=j) (by rw [zl]; exact hj);rw [z1] at e1 f1;rw [z2] at e5 f5;unfold kas_ask;rw [e1,f1];refine kat_lt e2 e4 f2 f4 ?_;rw [OT (by rw [List.length_map]; exact hi)] at cc;have:=Nm (prog:=X.prog) (w:=X.w) (A:=A2) (b:=true) (i:=0) e5 f5 cc;have l1:=e5.length;have l2:=f5.length;rw [List.length_map] at l1 l2;rw [List.size_toArray,List.size_toArray,<-l1,<-l2];exact this
   rintro ⟨⟨⟩,st'⟩ s' ⟨rfl,hf,p,pn,up,ea⟩;dsimp only at hf ea ⊢;have eo:=kat_snds lk ea;refine Nq (c:=c) I' fa' fS' nka hk ha eo hf (by simp only [List.size_toArray,List.length_map,Array.length_toList,pn.sz]; exact ln) kroom fun h' c' I5 h5=>fin p H' _ c' pn up I5 kp na h5
def EB (out:List It3):Prop:=out.Pairwise fun p q=>Cf [q.y,q.x] [p.y,p.x]=false
theorem MC {Q:VK} (F:AS X.prog X.w X.K X.mg X.base CX0 k f fd ps EI) (hb:Eo X.K fd ps []) (hr:Ct (k+2) X.A) (I:Inv X pins σ H s) {p:Addr} {items:List It3} (hq:SqL X.K H p (items.map fun q=>V.ref q.a)) (hit:∀ q ∈ items,H q.a=some (.tup (q.ns.map V.int))) (h64:items.length<=100000)
  (q:∀ (L:Addr) (out:List It3) (H':Hp),(∀ b u,H b=some u->H' b=some u)->H' L=none->out.Perm items->EB out->Q (.ref L) (upd H' L (.lst (out.map fun q=>V.ref q.a)))) :
  wpAny (model X.prog X.w) X.A (call (.builtin "sorted") [.ref p] [("key",.ref f)]) (EP X pins σ Q) X.xe s:=by
 obtain ⟨its,rv,pl,hz⟩:=I.list hq;have ei:its=items.map fun q=>Value.ref q.a:=by
  clear pl hz q hq h64 hit;induction items generalizing its with
  | nil=>cases rv; rfl
  | cons it items ih =>
   cases rv with
   | cons a1 a2 =>
    cases (show _=Value.ref it.a from a1);rw [List.map_cons,ih _ a2]
 subst ei;have len:(items.map fun q=>Value.ref q.a).length=items.length:=List.length_map _;have ln:items.length<=sizeLine:=Nat.le_trans h64 (by decide);refine PyProof.Rows.call_function_entry_kw kind_sorted plain_sorted entry_sorted (ksk_s1 _ _) ?_;unfold Builtin.«sorted»;refine wpAny_bind (m:=checkCount "sorted" 1 1 _) (wpAny_pure (wpAny_bind (collect_list pl.isList (wpAny_bind (wpAny_newList ?_ (by rw [len]; exact ln))) (by rw [len]; exact ln))));have sz1:((s.heap.push (seqObj "list" #[] 0)).update s.heap.objs.size (Obj.mapSeq (· ++ (items.map fun q=>Value.ref q.a).toArray))).objs.size=s.heap.objs.size+1:=by
  rw [Heap.size_update]; exact size_push' ..
 have at1:(((s.heap.push (seqObj "list" #[] 0)).update s.heap.objs.size (Obj.mapSeq (· ++ (items.map fun q=>Value.ref q.a).toArray))).push (seqObj "list" (items.map fun q=>Value.ref q.a).toArray 0)).get? (s.heap.objs.size+1)=some (seqObj "list" (items.map fun q=>Value.ref q.a).toArray 0):=by
  have:=Heap.get?_push_size ((s.heap.push (seqObj "list" #[] 0)).update s.heap.objs.size (Obj.mapSeq (· ++ (items.map fun q=>Value.ref q.a).toArray))) (show (seqObj "list" (items.map fun q=>Value.ref q.a).toArray 0).isFreed=false from rfl);rw [sz1] at this;exact this
 have keep1:∀ b o,s.heap.get? b=some o->(((s.heap.push (seqObj "list" #[] 0)).update s.heap.objs.size (Obj.mapSeq (· ++ (items.map fun q=>Value.ref q.a).toArray))).push (seqObj "list" (items.map fun q=>Value.ref q.a).toArray 0)).get? b=some o:=fun b o e =>
  Heap.get?_push_of_some _ (by rw [Heap.get?_update_ne _ _ _ _ (Nat.ne_of_lt (Heap.lt_size e))]; exact Heap.get?_push_of_some _ e)
 show wpAny (model X.prog X.w) _ _ _ _ { s with heap:=(((s.heap.push (seqObj "list" #[] 0)).update s.heap.objs.size (Obj.mapSeq (· ++ (items.map fun q=>Value.ref q.a).toArray))).push (seqObj "list" (items.map fun q=>Value.ref q.a).toArray 0)) };rw [sz1];have I1:Inv X pins σ H { s with heap:=(((s.heap.push (seqObj "list" #[] 0)).update s.heap.objs.size (Obj.mapSeq (· ++ (items.map fun q=>Value.ref q.a).toArray))).push (seqObj "list" (items.map fun q=>Value.ref q.a).toArray 0)) }:=I.kept (t':=s.toks) keep1;have fD:Dd X pins H (s.heap.objs.size+1):=I.fpOk (Nat.le_succ _) (I.hok.fresh (Nat.le_succ _));generalize ((s.heap.push (seqObj "list" #[] 0)).update s.heap.objs.size (Obj.mapSeq (· ++ (items.map fun q=>Value.ref q.a).toArray))).push (seqObj "list" (items.map fun q=>Value.ref q.a).toArray 0)=h1 at at1 I1 ⊢;refine wpAny_bind (wpAny_holding (PyProof.Rows.wpAny_call_entry_kw slot_list_sort ⟨_,at1,rfl⟩ entry_list_sort ?_ (ksk_l1 _ _)));rw [ksk_t1];refine PB F hb hr.in1.in1 (fun s H e=>e.in1.in1) I1 at1 fD hit h64 fun pm H' s' c pn up I' kp na ha=>⟨_,rfl,wpAny_pure ⟨_,rfl,?_⟩⟩
 have pl2:pm.toList.Perm (List.range items.length):=by simpa using pn.pm.toList
 have sz:pm.size=items.length:=pn.sz;have lt:∀ i ∈ pm.toList,i < items.length:=fun i hi=>by simpa using (pl2.mem_iff).mp hi
 let d:It3:=⟨0,0,0,[]⟩
 have out:(pm.toList.map fun i=>items.getD i d).Perm items:=by
  refine (pl2.map _).trans ?_;refine List.Perm.of_eq (List.ext_getElem? fun i=>?_);rw [List.getElem?_map];by_cases hi:i < items.length
  ·rw [List.getElem?_range hi,List.getElem?_eq_getElem hi];show some (items.getD i d)=_;rw [List.getD_eq_getElem?_getD,List.getElem?_eq_getElem hi];rfl
  ·rw [List.getElem?_eq_none (by simpa using hi),List.getElem?_eq_none (by lia)];rfl
 have rows:EB (pm.toList.map fun i=>items.getD i d):=by
  refine List.pairwise_iff_getElem.mpr fun i j hi hj ij=>?_;rw [List.length_map,Array.length_toList,sz] at hi hj;have u:=up i j (Nat.le_of_lt ij) hj;have gi:pm.getD i 0=pm[i]'(by lia):=by simp [Array.getD,sz,hi]
  have gj:pm.getD j 0=pm[j]'(by lia):=by simp [Array.getD,sz,hj]
  have li:=lt _ (List.getElem_mem (l:=pm.toList) (n:=i) (by rw [Array.length_toList]; lia));have lj:=lt _ (List.getElem_mem (l:=pm.toList) (n:=j) (by rw [Array.length_toList]; lia));rw [Array.getElem_toList] at li lj;unfold kk at u;rw [gi,gj] at u;rw [List.getElem_map,List.getElem_map,Array.getElem_toList,Array.getElem_toList];generalize pm[i]=a at *
  generalize pm[j]=b at *
  have:=OT (rows:=items.map fun q=>[q.y,q.x]) (i:=b) (j:=a) (by rw [List.length_map]; exact lj);rw [decide_eq_false (by lia)] at this;have gd:∀ {c:Nat},c < items.length->(items.map fun q=>[q.y,q.x]).getD c []=[(items.getD c d).y,(items.getD c d).x]:=fun {c} hc=>by
   rw [List.getD_eq_getElem?_getD,List.getElem?_map,List.getD_eq_getElem?_getD,List.getElem?_eq_getElem hc];rfl
  rw [gd lj,gd li] at this;exact this.symm
 refine ⟨.ref (s.heap.objs.size+1),_,I'.track (o:=.lst ((pm.toList.map fun i=>items.getD i d).map fun q=>V.ref q.a)) na (Heap.get?_none_of_le (Nat.le_trans I.sz (Nat.le_succ _))) (Heap.get?_none_of_le (Nat.le_trans I.ok.bsz (Nat.le_trans I.sz (Nat.le_succ _)))) (Ne.symm fD.2.1) fD.2.2.2.2.1 fD.2.2.2.2.2 (fun b hb z=>fD.2.2.1 (z ▸ hb)) ⟨by rw [List.length_map,List.length_map,Array.length_toList,sz]; exact ln,_,c,?_,ha⟩,rfl,q (s.heap.objs.size+1) _ H' kp na out rows⟩;have:∀ {l:List Nat},(∀ i ∈ l,i < items.length)->Aw ((l.map fun i=>items.getD i d).map fun q=>V.ref q.a) (l.map fun i=>(items.map fun q=>Value.ref q.a).getD i Value.none):=by
  intro l;induction l with
  | nil=>intro _; exact .nil
  | cons i l ih =>
   intro hl;refine .cons ?_ (ih fun j hj=>hl j (List.mem_cons_of_mem _ hj));have hi:=hl i (List.mem_cons_self ..);show AM (V.ref (items.getD i d).a) ((items.map fun q=>Value.ref q.a).getD i Value.none);rw [List.getD_eq_getElem?_getD,List.getD_eq_getElem?_getD,List.getElem?_map,List.getElem?_eq_getElem hi];rfl
 exact this lt
def tSortA (K:PySem.W.Frag) (t:TA):TE:=fun σ H Q=>t σ H fun vs H1=>∃ (p:Addr) (items:List It3),vs=[.ref p]/\SqL K H1 p (items.map fun q=>V.ref q.a)/\items.length<=100000/\(∀ q ∈ items,H1 q.a=some (.tup (q.ns.map V.int)))/\∀ (L:Addr) (out:List It3) (H':Hp),(∀ b u,H1 b=some u->H' b=some u)->H' L=none->out.Perm items->EB out->Q (.ref L) (upd H' L (.lst (out.map fun q=>V.ref q.a)))
theorem Fl {ky:Str} {e:Expr} {t:TA} {p kp kpos pos:Pos} (c:Cal X.prog X.w X.K X.mg X.base CX0 k ky ps EI) (hr:Ct (k+2) X.A) (hg:Gl X "sorted") (hm:X.mg "sorted" = none) (hgk:Gl X ky) (ha:PA X [e] t) (hd:(ky == ("__debug__" : Str))=false:=by decide)
  (he:backTo pos (starEach [e] X.env)=(false,eval e X.env) :: backTo pos (starEach [] X.env):=by rfl) (hp1:(backTo pos (starEach [e] X.env)).any (·.1)=false:=by rfl):PE X (.Call (.Name "sorted" p) [e] [⟨some "key",.Name ky kp,kpos⟩] pos) (tSortA X.K t):=by
 intro pins s σ H Q I h;obtain ⟨f,fd,F,hmk,hkp,hb⟩:=c.ex;refine wpAny_Call_Name_kw (Ev I hg hm PyProof.Rows.boot_sorted ?_);refine PyProof.Rows.callWith_kw (thn (ha pos pins s σ H _ I h) fun us s1 ⟨vs,H1,I1,r1,q1⟩=>?_) he hp1 rfl rfl;obtain ⟨p',items,rfl,hq,h64,hit,q⟩:=q1;refine thn (pk_cons (nm:=some "key") (kpos:=kpos) (pe_gref (pos:=kp) hgk hmk hd) pk_nil pos pins s1 σ H1 (fun zs H2=>zs=[.ref f]/\H2=H1) I1 ⟨rfl,rfl⟩) fun ws s2 ⟨zs,H2,I2,rz,e1,e2⟩=>?_;subst e1;subst e2;cases r1 with
 | cons a1 a2 =>
  cases a2;cases (show _=Value.ref p' from a1);cases rz with
  | cons b1 b2 =>
   cases b2;cases (show _=Value.ref f from b1);exact MC F hb hr I2 hq hit h64 q
end
section
variable {prog:Program} {w:World} {A:Around} {E:Value->Shared->Prop} {s:Shared} {r d:Addr} {o:Obj} {es:Array DictEntry} {ep:Nat}
end
section
variable {X:Cx}
end
end L2
namespace L2
open PySem PySem.W PySem.Spec PyProof.Rows
theorem rev_len:typeLookup (.type "list_reverseiterator") "__len__" = pure none:=by
 rw [typeLookup_type,builtinLookup_eq_fast]
 kernel_rfl
theorem OU:typeLookup (.type "list_reverseiterator") "__length_hint__" = pure (some (.builtin "list_reverseiterator.__length_hint__")):=by
 rw [typeLookup_type,builtinLookup_eq_fast]
 kernel_rfl
section
variable {prog:Program} {w:World} {A:Around} {E:Value->Shared->Prop} {s:Shared} {v l:Addr} {its:Array Value}
theorem PF {Q:Bool->Shared->Prop} (ty:s.TypeIs (.ref v) "list_reverseiterator") (q:Q false s):wpAny (model prog w) A (Builtin.List.listLengthHint (.ref v)) Q E s:=by
 unfold Builtin.List.listLengthHint;refine wpAny_bind (wpAny_specialOf ty rev_len ?_);show wpAny _ _ (specialOf (.ref v) "__length_hint__" >>= _) _ _ _;refine wpAny_bind (wpAny_specialOf ty OU ?_);generalize ei:("list_reverseiterator.__length_hint__" : String)=nm
 wp_delta
 rw [show splitId nm=some ("list_reverseiterator","__length_hint__") from by subst ei; decide +kernel];subst ei;refine wpAny_bind (wpAny_isInstance (T:="list_reverseiterator") (b:=true) ty (by rw [isSubtype_type]; kernel_rfl) ?_);refine wpAny_ite_split (fun z=>absurd z (by decide)) (fun _=>wpAny_ite_split (fun _=>?_) (fun z=>absurd (by decide +kernel) z));refine wpAny_ite_split (fun z=>absurd z (by decide +kernel)) (fun _=>?_);exact wpAny_pure q
theorem Ps {Q:Value->Shared->Prop} (hh:A.handled=none) (hi:s.heap.IsRevIter v l ((its.size:Int) - 1)) (hl:s.heap.IsList l its) (ne:l≠v) (hn:its.size<=sizeLine)
  (q:∀ h' tk acc c,(∀ b o,b≠v->s.heap.get? b=some o->h'.get? b=some o)->h'.get? s.heap.objs.size=some (seqObj "list" acc c)->ItemsOf (fun i x=>its[its.size - 1 - i]?=some x) acc its.size->Q (.ref s.heap.objs.size) { s with heap:=h',toks:=tk }):wpAny (model prog w) A (call (.type "list") [.ref v]) Q E s:=by
 refine callType_codes (Q₁:=fun ob s1=>ob=.ref s.heap.objs.size/\s1={ s with heap:=s.heap.push (seqObj "list" #[] 0) }) PySem.F.called_list (PySem.F.typeCall_list_1 _) PySem.F.entry_list_init (code_list_new _ ⟨rfl,rfl⟩) fun ob s1 e1=>?_;obtain ⟨rfl,rfl⟩:=e1;have at1:(s.heap.push (seqObj "list" #[] 0)).get? s.heap.objs.size=some (seqObj "list" #[] 0):=Heap.get?_push_size _ rfl;refine ⟨⟨_,at1,rfl⟩,PySem.F.args_list_init_2 _ _,?_⟩;have nv:s.heap.objs.size≠v:=fun z=>by
  obtain ⟨o,ho,_⟩:=hi;exact absurd (Heap.lt_size ho) (by rw [<-z]; exact Nat.lt_irrefl _)
 have nl:s.heap.objs.size≠l:=fun z=>by
  obtain ⟨o,ho,_⟩:=hl;exact absurd (Heap.lt_size ho) (by rw [<-z]; exact Nat.lt_irrefl _)
 show wpAny _ _ (Builtin.List.listItems (.ref s.heap.objs.size) >>= _) _ _ _;refine wpAny_bind (listItems_at at1 rfl (wpAny_bind (listUpdate_at at1 rfl (wpAny_bind (wpAny_letGo ?_)))));have ⟨e2,at2⟩:∃ e2,((s.heap.push (seqObj "list" #[] 0)).update s.heap.objs.size (Obj.mapSeq fun _=>#[])).get? s.heap.objs.size=some (seqObj "list" #[] e2):=⟨_,get?_update_seq at1 _⟩
 have kp2:∀ b o,s.heap.get? b=some o->((s.heap.push (seqObj "list" #[] 0)).update s.heap.objs.size (Obj.mapSeq fun _=>#[])).get? b=some o:=fun b o e=>by
  rw [Heap.get?_update_ne _ _ _ _ (Nat.ne_of_lt (Heap.lt_size e))];exact Heap.get?_push_of_some _ e
 generalize ((s.heap.push (seqObj "list" #[] 0)).update s.heap.objs.size (Obj.mapSeq fun _=>#[]))=h2 at at2 kp2 ⊢;have hi2:h2.IsRevIter v l ((its.size:Int) - 1):=hi.at fun o e=>kp2 _ _ e;have hl2:h2.IsList l its:=hl.at fun o e=>kp2 _ _ e;unfold Builtin.List.listExtendWith;refine wpAny_bind (wpAny_typeOf (T:="list_reverseiterator") (s:={ s with heap:=h2 }) hi2.typeIs ?_);have sr:Builtin.List.listSameRef (.ref s.heap.objs.size) (.ref v)=false:=by simp [Builtin.List.listSameRef,nv]
 have t1:(Value.type "list_reverseiterator" == Value.type "list")=false:=by decide
 have t2:(Value.type "list_reverseiterator" == Value.type "tuple")=false:=by decide
 simp only [sr,t1,t2,Bool.or_false,Bool.false_eq_true,if_false];refine wpAny_bind (wpAny_pyIter_revIter (s:={ s with heap:=h2 }) hi2 ?_);refine wpAny_bind (wpAny_holding (PF (s:={ s with heap:=h2 }) hi2.typeIs ?_));have W:=Walks.listRev (prog:=prog) (w:=w) (A:=A.in1.in1) hh v l ne its;refine wpAny_ite_split (fun z=>absurd z (by decide +kernel)) (fun _=>wpAny_pure ⟨plainId_quiet PySem.F.plain_extend_loop _,?_⟩);refine codeAny_extend_loopS (s:={ s with heap:=h2 }) W.toS hn s.heap.objs.size ?_ _ its.size 0 #[] e2 rfl (Nat.zero_le _) ⟨Nat.zero_le _,?_,hl2⟩ at2 (ItemsOf.nil _) fun s3 acc c mv at3 it=>?_
 ·intro z;rcases List.mem_cons.mp z with y | y
  ·exact nv y
  ·exact nl (List.mem_singleton.mp y)
 ·have e0:(its.size:Int) - 1 - ((0:Nat):Int)=(its.size:Int) - 1:=by lia
  rw [e0];exact hi2
 ·rw [Moved.eq_with mv];refine ⟨rfl,q s3.heap s3.toks acc c (fun b o nb e=>mv.heap b o (fun z=>?_) (kp2 b o e)) at3 it⟩;rcases List.mem_cons.mp z with y | y
  ·exact absurd (Heap.lt_size e) (by rw [y]; exact Nat.lt_irrefl _)
  ·exact nb (List.mem_singleton.mp y)
end
def tLR (K:PySem.W.Frag) (t:TA):TE:=fun σ H Q=>t σ H fun vs H1=>∃ p ys,vs=[.ref p]/\SqL K H1 p ys/\∀ L,H1 L=none->Q (.ref L) (upd H1 L (.lst ys.reverse))
theorem OB {xs:List V} {us:List Value} (h:Aw xs us) {ws:List Value} (l:ws.length=us.length) (g:∀ j v,ws[j]?=some v->us[us.length - 1 - j]?=some v):Aw xs.reverse ws:=by
 have e:ws=us.reverse:=by
  refine List.ext_getElem? fun j=>?_;by_cases hj:j < ws.length
  ·have:=g j _ (List.getElem?_eq_getElem hj);rw [List.getElem?_eq_getElem hj,List.getElem?_reverse (by lia),this]
  ·rw [List.getElem?_eq_none (by lia),List.getElem?_eq_none (by rw [List.length_reverse]; lia)]
 rw [e];clear e g l;induction h with
 | nil=>exact .nil
 | cons r t ih =>
  rw [List.reverse_cons,List.reverse_cons];have app:∀ {a b:List V} {c d:List Value},Aw a c->Aw b d->Aw (a ++ b) (c ++ d):=by
   intro a b c d h1 h2;induction h1 with
   | nil=>exact h2
   | cons r t ih=>exact .cons r ih
  exact app ih (.cons r .nil)
section
variable {X:Cx} {e:Expr} {t:TA} {p p2 pos pos2:Pos}
theorem Mn (hc:X.calm=true) (hg:Gl X "list") (hm:X.mg "list" = none) (hg2:Gl X "reversed") (hm2:X.mg "reversed" = none) (ha:PA X [e] t)
  (he:starEach [e] X.env=(false,eval e X.env) :: starEach [] X.env:=by rfl) (hp:(backTo pos2 (starEach [] X.env)).any (·.1)=false:=by rfl)
  (hs:starEach [Expr.Call (.Name "reversed" p2) [e] [] pos2] X.env=(false,eval (.Call (.Name "reversed" p2) [e] [] pos2) X.env) :: starEach [] X.env:=by rfl) (hq:(backTo pos (starEach [] X.env)).any (·.1)=false:=by rfl) :
  PE X (.Call (.Name "list" p) [.Call (.Name "reversed" p2) [e] [] pos2] [] pos) (tLR X.K t):=by
 intro pins s σ H Q I h;refine wpAny_Call_Name_kw (Ev I hg hm PyProof.Rows.boot_list ?_);refine PyProof.Rows.callWith_type1 ?_ hs hq;rw [hs];show wpAny _ _ (spliced ((false,eval (.Call (.Name "reversed" p2) [e] [] pos2) X.env) :: backTo pos (starEach [] X.env))) _ _ s;refine Calls.spliced_cons (wpAny_Call_Name_kw (Ev I hg2 hm2 PyProof.Rows.boot_reversed ?_));refine PyProof.Rows.callWith_type1 (thn (ha pos2 pins s σ H _ I h) fun us s1 ⟨vs,H1,I1,r1,q1⟩=>?_) he hp;obtain ⟨l,ys,rfl,hl,q⟩:=q1;obtain ⟨u,rfl,ru⟩:=IR r1;cases ru;obtain ⟨its,rv,pl,hz⟩:=I1.list hl;refine call_reversed_list pl.isList (Calls.spliced_nil ?_);have li:its.length=ys.length:=rv.length.symm;have lt:l < s1.heap.objs.size:=by
  obtain ⟨o,ho,_⟩:=pl.isList;exact Heap.lt_size ho
 have kp:∀ b o,s1.heap.get? b=some o->(s1.heap.push (revObj l ((its.toArray.size:Int) - 1))).get? b=some o:=fun b o e=>Heap.get?_push_of_some _ e;have at1:(s1.heap.push (revObj l ((its.toArray.size:Int) - 1))).get? s1.heap.objs.size=some (revObj l ((its.toArray.size:Int) - 1)):=Heap.get?_push_size _ rfl;have sz:(s1.heap.push (revObj l ((its.toArray.size:Int) - 1))).objs.size=s1.heap.objs.size+1:=size_push' ..;generalize s1.heap.push (revObj l ((its.toArray.size:Int) - 1))=h2 at kp at1 sz ⊢;refine Ps (s:={ s1 with heap:=h2 }) (its:=its.toArray) (I1.ok.hd hc) ⟨_,at1,rfl,rfl⟩ (pl.isList.at fun o e=>kp _ _ e) (Nat.ne_of_lt lt) (by simp; lia) fun h' tk acc c k2 at3 it=>?_;have at3:h'.get? h2.objs.size=_:=at3;refine ⟨.ref h2.objs.size,_,I1.laid (t':=tk) (fun b o e=>k2 b o (Nat.ne_of_lt (Heap.lt_size e)) (kp b o e)) (by rw [sz]; exact Nat.le_succ _) (show AN X.prog X.w _ h' _ (.lst _) from ⟨by rw [List.length_reverse]; exact hz,acc.toList,c,?_,by simpa using at3⟩),rfl,q _ (I1.hok.fresh (by rw [sz]; exact Nat.le_succ _))⟩;have l3:acc.toList.length=its.length:=by rw [Array.length_toList,it.1]; simp
 refine OB rv l3 fun j v e=>?_;rw [Array.getElem?_toList] at e;have:=it.2 j v e
 simpa using this
end
section
variable {prog:Program} {w:World} {d:Addr} {o:Obj} {es:Array DictEntry} {ep:Nat}
theorem NH (lo:(d == sysModules)=false) (hc:o.ExactDict) (da:o.data=.dict es ep):KdlSrc prog w "dict" d d es.size (fun i v=>∃ h:i < es.size,v=es[i].key) (fun h=>h.get? d=some o) where
 type:=fun s e=>⟨o,e,hc.1⟩
 there:=fun h e=>⟨Heap.lt_size e,Heap.lt_size e⟩
 keep:=fun h h' e k=>k d (.inl rfl) o e
 notList:=by decide
 notTuple:=by decide
 hint:=fun A E s Q e q=>kdl_hint_dict ⟨o,e,hc.1⟩ q
 iter:=fun A s hh e=>⟨_,_,(fun E Q q=>Ft lo e hc da q),NC hh _ (Nat.ne_of_lt (Heap.lt_size e)) da,⟨⟨_,Heap.get?_push_size _ rfl,rfl,rfl⟩,Heap.get?_push_of_some _ e⟩⟩
end
section
variable {X:Cx}
theorem JX (hc:X.calm=true):EG X (.type "list") (fun xs H Q=>∃ (d:Addr) (rows:List (List Int×V)),xs=[.ref d]/\Rd H d (.dT (rows.map fun q=>(q.1.map Sum.inl,q.2))) /\
  ∀ (L:Addr) (out:List (Addr×List Int)),H L=none->out.map (·.2)=rows.map (·.1)->(∀ q ∈ out,H q.1=some (.tup (q.2.map V.int)))->Q (.ref L) (upd H L (.lst (out.map fun q=>V.ref q.1)))):=by
 intro pins s σ H xs us Q I r h;obtain ⟨d,rows,rfl,hd,q⟩:=h;cases r with
 | cons r1 r2 =>
  cases r2;cases (show _=Value.ref d from r1);obtain ⟨z,y,ks,kt,o,es,ep,h1,h2,h3,h4,h5⟩:=(show AN X.prog X.w H s.heap d (.dT _) from OV I.hok hd)
  have hz:es.size=rows.length:=by rw [size_of_entries h4,<-Paired.length kt,List.length_map]
  have items:∃ items:List (Addr×List Int),es.toList.map (·.key)=items.map (fun q=>Value.ref q.1)/\items.map (·.2)=rows.map (·.1)/\∀ q ∈ items,H q.1=some (.tup (q.2.map V.int)):=by
   rw [h4];clear h4 h5 h1 h2 h3 hz z q hd;generalize hk:(rows.map fun q=>((q.1.map Sum.inl:List Key),q.2))=kvs at kt;induction kt generalizing rows with
   | nil =>
    cases rows with
    | nil=>exact ⟨[],rfl,rfl,fun q hq=>nomatch hq⟩
    | cons _ _=>cases hk
   | @cons p x ps qs hx t ih =>
    cases rows with
    | nil=>cases hk
    | cons r rows =>
     rw [List.map_cons] at hk;injection hk with e0 e1
     obtain ⟨items,g1,g2,g3⟩:=ih rows e1;obtain ⟨f1,f2,f3⟩:=hx;refine ⟨(x.2.1,r.1) :: items,?_,by rw [List.map_cons,List.map_cons,g2],fun q hq=>?_⟩
     ·rw [List.map_cons,List.map_cons,List.map_cons,g1];rfl
     ·rcases List.mem_cons.mp hq with rfl | hq
      ·rw [f2,<-e0];show some (HO.tup ((r.1.map Sum.inl).map kV))=some (HO.tup (r.1.map V.int));rw [List.map_map];rfl
      ·exact g3 q hq
  obtain ⟨items,g1,g2,g3⟩:=items;have li:items.length=rows.length:=by
   have:=congrArg List.length g2;rw [List.length_map,List.length_map] at this;exact this
  refine kdl_call (NH y h2 h3) (I.ok.hd hc) h1 (by rw [List.length_map] at z; rw [hz]; exact z) fun h' tk acc c kp at1 it=>?_;have ev:acc.toList=items.map fun q=>Value.ref q.1:=by
   rw [<-g1];refine List.ext_getElem? fun j=>?_;by_cases hj:j < acc.toList.length
   ·have hj':j < acc.size:=by rw [Array.length_toList] at hj; exact hj
    obtain ⟨hj2,e⟩:=it.2 j _ (Array.getElem?_eq_getElem hj');rw [Array.getElem?_toList,Array.getElem?_eq_getElem hj',e,List.getElem?_map,List.getElem?_eq_getElem (by rw [Array.length_toList]; exact hj2),Array.getElem_toList];rfl
   ·have a1:=it.1;rw [Array.length_toList] at hj;rw [List.getElem?_eq_none (by rw [Array.length_toList]; lia),List.getElem?_eq_none (by rw [List.length_map,Array.length_toList]; lia)]
  refine ⟨.ref s.heap.objs.size,_,I.laid (t':=tk) kp (Nat.le_refl _) (show AN X.prog X.w _ h' _ (.lst (items.map fun q=>V.ref q.1)) from ⟨by rw [List.length_map] at z ⊢; rw [li]; exact z,acc.toList,c,?_,by simpa using at1⟩),rfl,q _ items (I.hok.fresh (Nat.le_refl _)) g2 g3⟩;rw [ev];clear ev g1 g2 g3 li;induction items with
  | nil=>exact .nil
  | cons a items ih=>exact .cons rfl ih
end
end L2
namespace J
open PySem L2
def top (i:Nat):Stmt:=PySem.Challenge.pw_jumpfield_k41_a_plain_step.main.body.getD i (.Pass ⟨0,0,0,0⟩)
abbrev Bj:Stmt:=top 9
abbrev Gq:List Str:=["x","y"]
abbrev Bm:List Str:=["x","y"]
theorem FP:Ap Gq Bm (Af Bj):=⟨rfl,rfl,rfl,by decide +kernel,rfl,by decide +kernel,by decide +kernel⟩
abbrev ET:Stmt:=top 10
abbrev gG:List Str:=["wanted","state"]
abbrev EV:List Str:=["wanted","state"]
theorem OQ:Ap gG EV (Af ET):=⟨rfl,rfl,rfl,by decide +kernel,rfl,by decide +kernel,by decide +kernel⟩
abbrev Bw:Stmt:=top 14
abbrev Ff:List Str:=["text","words","cell","conditions"]
abbrev CH:List Str:=["text"]
theorem Df:Ap Ff CH (Af Bw):=⟨rfl,rfl,rfl,by decide +kernel,rfl,by decide +kernel,by decide +kernel⟩
abbrev Cu:Stmt:=top 15
abbrev JI:List Str:=["word"]
abbrev BQ:List Str:=["word"]
theorem IB:Ap JI BQ (Af Cu):=⟨rfl,rfl,rfl,by decide +kernel,rfl,by decide +kernel,by decide +kernel⟩
abbrev BZ:Stmt:=top 16
abbrev IE:List Str:=["word"]
abbrev Cd:List Str:=["word"]
theorem GL:Ap IE Cd (Af BZ):=⟨rfl,rfl,rfl,by decide +kernel,rfl,by decide +kernel,by decide +kernel⟩
abbrev Bd:Stmt:=top 17
abbrev FV:List Str:=["word"]
abbrev BJ:List Str:=["word"]
theorem Fr:Ap FV BJ (Af Bd):=⟨rfl,rfl,rfl,by decide +kernel,rfl,by decide +kernel,by decide +kernel⟩
abbrev BC:Stmt:=top 18
abbrev Id:List Str:=["word","parts"]
abbrev Cn:List Str:=["word"]
theorem EE:Ap Id Cn (Af BC):=⟨rfl,rfl,rfl,by decide +kernel,rfl,by decide +kernel,by decide +kernel⟩
abbrev BB:Stmt:=top 19
abbrev Ic:List Str:=["signs","numbers","sign"]
abbrev Cm:List Str:=["signs"]
theorem DE:Ap Ic Cm (Af BB):=⟨rfl,rfl,rfl,by decide +kernel,rfl,by decide +kernel,by decide +kernel⟩
abbrev Bv:Stmt:=top 20
abbrev Fe:List Str:=["word"]
abbrev CG:List Str:=["word"]
theorem GM:Ap Fe CG (Af Bv):=⟨rfl,rfl,rfl,by decide +kernel,rfl,by decide +kernel,by decide +kernel⟩
abbrev DN:Stmt:=top 22
abbrev NV:List Str:=["cell"]
abbrev Ek:List Str:=["cell"]
theorem Ml:Ap NV Ek (Af DN):=⟨rfl,rfl,rfl,by decide +kernel,rfl,by decide +kernel,by decide +kernel⟩
abbrev BE:Stmt:=top 26
abbrev Ig:List Str:=["text"]
abbrev Cp:List Str:=["text"]
theorem Gm:Ap Ig Cp (Af BE):=⟨rfl,rfl,rfl,by decide +kernel,rfl,by decide +kernel,by decide +kernel⟩
abbrev CW:Stmt:=top 27
abbrev LA:List Str:=["text","rule"]
abbrev Dy:List Str:=["text"]
theorem Fq:Ap LA Dy (Af CW):=⟨rfl,rfl,rfl,by decide +kernel,rfl,by decide +kernel,by decide +kernel⟩
abbrev Dp:Stmt:=top 28
abbrev Mt:List Str:=["rule","cell","around","number","clause"]
abbrev DS:List Str:=["rule","cell","around"]
theorem EJ:Ap Mt DS (Af Dp):=⟨rfl,rfl,rfl,by decide +kernel,rfl,by decide +kernel,by decide +kernel⟩
abbrev DO:Stmt:=top 29
abbrev NW:List Str:=["rule","cell","around","number"]
abbrev DQ:List Str:=["rule","cell","around"]
theorem GN:Ap NW DQ (Af DO):=⟨rfl,rfl,rfl,by decide +kernel,rfl,by decide +kernel,by decide +kernel⟩
abbrev DM:Stmt:=top 31
abbrev NU:List Str:=["rule","cells","states","cell","made","known","place","state"]
abbrev Ej:List Str:=["rule","cells"]
theorem CQ:Ap NU Ej (Af DM):=⟨rfl,rfl,rfl,by decide +kernel,rfl,by decide +kernel,by decide +kernel⟩
abbrev BD:Stmt:=top 32
abbrev Ie:List Str:=["states","places","place","neighbour"]
abbrev Co:List Str:=["states"]
theorem CN:Ap Ie Co (Af BD):=⟨rfl,rfl,rfl,by decide +kernel,rfl,by decide +kernel,by decide +kernel⟩
abbrev Bu:Stmt:=top 33
abbrev Fd:List Str:=["rule","states","place","known","cell","around","key","state"]
abbrev CF:List Str:=["rule","states","place","known"]
theorem BA:Ap Fd CF (Af Bu):=⟨rfl,rfl,rfl,by decide +kernel,rfl,by decide +kernel,by decide +kernel⟩
abbrev DP:Stmt:=top 35
abbrev NX:List Str:=["_law_script","_law_k"]
abbrev Dr:List Str:=["_law_script","_law_k"]
theorem Mm:Ap NX Dr (Af DP):=⟨rfl,rfl,rfl,by decide +kernel,rfl,by decide +kernel,by decide +kernel⟩
abbrev Dq:Stmt:=top 36
abbrev Mu:List Str:=["_law_cell","_law_k","_law_value"]
abbrev CU:List Str:=["_law_cell","_law_k"]
theorem Gc:Ap Mu CU (Af Dq):=⟨rfl,rfl,rfl,by decide +kernel,rfl,by decide +kernel,by decide +kernel⟩
abbrev Bk:Stmt:=top 37
abbrev Gr:List Str:=["_law_mains","_law_value"]
abbrev Ba:List Str:=["_law_mains","_law_value"]
theorem FQ:Ap Gr Ba (Af Bk):=⟨rfl,rfl,rfl,by decide +kernel,rfl,by decide +kernel,by decide +kernel⟩
abbrev AK:Stmt:=top 38
abbrev DI:List Str:=["_law_mains","_law_seed","_law_j","_law_wanted","_law_k","_law_value","_law_mask"]
abbrev Bc:List Str:=["_law_mains","_law_seed","_law_j"]
theorem AW:Ap DI Bc (Af AK):=⟨rfl,rfl,rfl,by decide +kernel,rfl,by decide +kernel,by decide +kernel⟩
abbrev Be:Stmt:=top 39
abbrev FW:List Str:=["_law_mains","_law_seed","_law_j","_law_taken","_law_conditions","_law_k"]
abbrev BK:List Str:=["_law_mains","_law_seed","_law_j"]
theorem Bp:Ap FW BK (Af Be):=⟨rfl,rfl,rfl,by decide +kernel,rfl,by decide +kernel,by decide +kernel⟩
abbrev Cy:Stmt:=top 40
abbrev JL:List Str:=["_law_condition","_law_around","_law_k","_law_many","_law_state"]
abbrev Dk:List Str:=["_law_condition","_law_around"]
theorem CC:Ap JL Dk (Af Cy):=⟨rfl,rfl,rfl,by decide +kernel,rfl,by decide +kernel,by decide +kernel⟩
abbrev BF:Stmt:=top 41
abbrev Ii:List Str:=["_law_clauses","_law_cell","_law_around","_law_at_here","_law_fits","_law_condition"]
abbrev Cq:List Str:=["_law_clauses","_law_cell","_law_around"]
theorem BV:Ap Ii Cq (Af BF):=⟨rfl,rfl,rfl,by decide +kernel,rfl,by decide +kernel,by decide +kernel⟩
abbrev BH:Stmt:=top 42
abbrev Ik:List Str:=["_law_clauses","_law_cell","_law_around","_law_at_here"]
abbrev BM:List Str:=["_law_clauses","_law_cell","_law_around"]
theorem EF:Ap Ik BM (Af BH):=⟨rfl,rfl,rfl,by decide +kernel,rfl,by decide +kernel,by decide +kernel⟩
abbrev AY:Stmt:=top 43
abbrev FD:List Str:=["_law_script","_law_first","_law_many","_law_mains","_law_clauses","_law_k"]
abbrev Bq:List Str:=["_law_script","_law_first","_law_many"]
theorem Bg:Ap FD Bq (Af AY):=⟨rfl,rfl,rfl,by decide +kernel,rfl,by decide +kernel,by decide +kernel⟩
abbrev BN:Stmt:=top 44
abbrev ER:List Str:=["_law_condition"]
abbrev Dz:List Str:=["_law_condition"]
theorem Jx:Ap ER Dz (Af BN):=⟨rfl,rfl,rfl,by decide +kernel,rfl,by decide +kernel,by decide +kernel⟩
abbrev Ci:Stmt:=top 45
abbrev Ge:List Str:=["_law_clauses","_law_parts","_law_clause","_law_words"]
abbrev DA:List Str:=["_law_clauses"]
theorem DJ:Ap Ge DA (Af Ci):=⟨rfl,rfl,rfl,by decide +kernel,rfl,by decide +kernel,by decide +kernel⟩
abbrev BG:Stmt:=top 46
abbrev Ij:List Str:=["_law_cell"]
abbrev BL:List Str:=["_law_cell"]
theorem Gn:Ap Ij BL (Af BG):=⟨rfl,rfl,rfl,by decide +kernel,rfl,by decide +kernel,by decide +kernel⟩
abbrev Cv:Stmt:=top 47
abbrev JJ:List Str:=["_law_found"]
abbrev Di:List Str:=["_law_found"]
theorem IC:Ap JJ Di (Af Cv):=⟨rfl,rfl,rfl,by decide +kernel,rfl,by decide +kernel,by decide +kernel⟩
abbrev Cw:Stmt:=top 48
abbrev JK:List Str:=["_law_found","_law_due_here","_law_k"]
abbrev Dj:List Str:=["_law_found","_law_due_here"]
theorem EZ:Ap JK Dj (Af Cw):=⟨rfl,rfl,rfl,by decide +kernel,rfl,by decide +kernel,by decide +kernel⟩
abbrev CY:Stmt:=top 49
abbrev LB:List Str:=["_law_script","_law_first","_law_left","_law_top","_law_states","_law_mains","_law_k","_law_value"]
abbrev DB:List Str:=["_law_script","_law_first","_law_left","_law_top","_law_states"]
theorem DK:Ap LB DB (Af CY):=⟨rfl,rfl,rfl,by decide +kernel,rfl,by decide +kernel,by decide +kernel⟩
abbrev CS:Stmt:=top 50
abbrev Ih:List Str:=["_law_clauses","_law_states","_law_offsets","_law_places","_law_x","_law_y","_law_dx","_law_dy","_law_found","_law_around","_law_state"]
abbrev DT:List Str:=["_law_clauses","_law_states"]
theorem AT:Ap Ih DT (Af CS):=⟨rfl,rfl,rfl,by decide +kernel,rfl,by decide +kernel,by decide +kernel⟩
abbrev Ca:Stmt:=top 51
abbrev IF:List Str:=["_law_cell"]
abbrev CI:List Str:=["_law_cell"]
theorem GO:Ap IF CI (Af Ca):=⟨rfl,rfl,rfl,by decide +kernel,rfl,by decide +kernel,by decide +kernel⟩
abbrev Fa:Stmt:=top 52
abbrev gJ:List Str:=["_law_script","_law_clauses","_law_left","_law_top","_law_states","_law_cells","_law_due_here","_law_rule","_law_handed","_law_found"]
abbrev p_law:List Str:=["_law_script"]
theorem DF:Ap gJ p_law (Af Fa):=⟨rfl,rfl,rfl,by decide +kernel,rfl,by decide +kernel,by decide +kernel⟩
abbrev BI:Stmt:=Ew (top 11) 0
abbrev Il:List Str:=["self","state","numbers"]
abbrev Cs:List Str:=["self","state","numbers"]
theorem Gp:Ap Il Cs (Af BI):=⟨rfl,rfl,rfl,by decide +kernel,rfl,by decide +kernel,by decide +kernel⟩
abbrev Bl:Stmt:=Ew (top 11) 1
abbrev Gs:List Str:=["self","around"]
abbrev BX:List Str:=["self","around"]
theorem FR:Ap Gs BX (Af Bl):=⟨rfl,rfl,rfl,by decide +kernel,rfl,by decide +kernel,by decide +kernel⟩
abbrev Cb:Stmt:=Ew (top 12) 0
abbrev IG:List Str:=["self","wanted"]
abbrev CJ:List Str:=["self","wanted"]
theorem GP:Ap IG CJ (Af Cb):=⟨rfl,rfl,rfl,by decide +kernel,rfl,by decide +kernel,by decide +kernel⟩
abbrev Bh:Stmt:=Ew (top 12) 1
abbrev ES:List Str:=["self","around"]
abbrev Cr:List Str:=["self","around"]
theorem Go:Ap ES Cr (Af Bh):=⟨rfl,rfl,rfl,by decide +kernel,rfl,by decide +kernel,by decide +kernel⟩
abbrev Cc:Stmt:=Ew (top 13) 0
abbrev IH:List Str:=["self","cell","conditions","makes"]
abbrev CK:List Str:=["self","cell","conditions","makes"]
theorem GQ:Ap IH CK (Af Cc):=⟨rfl,rfl,rfl,by decide +kernel,rfl,by decide +kernel,by decide +kernel⟩
abbrev Bx:Stmt:=Ew (top 13) 1
abbrev Fg:List Str:=["self","cell","around"]
abbrev CL:List Str:=["self","cell","around"]
theorem GR:Ap Fg CL (Af Bx):=⟨rfl,rfl,rfl,by decide +kernel,rfl,by decide +kernel,by decide +kernel⟩
abbrev Cj:Stmt:=Ew (top 25) 0
abbrev Gf:List Str:=["self","text"]
abbrev DC:List Str:=["self","text"]
theorem Jy:Ap Gf DC (Af Cj):=⟨rfl,rfl,rfl,by decide +kernel,rfl,by decide +kernel,by decide +kernel⟩
structure Ad where
 c_Amounts:Addr
 c_Places:Addr
 c_Clause:Addr
 c_Rule:Addr
structure Top (K:PySem.W.Frag) (mg:Str->Option Value) (a:Ad):Prop where
 b_all:mg "all" = none
 b_bool:mg "bool" = none
 b_enumerate:mg "enumerate" = none
 b_int:mg "int" = none
 b_isinstance:mg "isinstance" = none
 b_len:mg "len" = none
 b_list:mg "list" = none
 b_max:mg "max" = none
 b_range:mg "range" = none
 b_reversed:mg "reversed" = none
 b_sorted:mg "sorted" = none
 b_str:mg "str" = none
 b_tuple:mg "tuple" = none
 b_zip:mg "zip" = none
 k_NEIGHBOURS:∃ t,mg "NEIGHBOURS" = some (.int 8 t)
 k_STATE_FIGURES:∃ t,mg "STATE_FIGURES" = some (.str (Str.ofString "01234567") t)
 k_AMOUNT_FIGURES:∃ t,mg "AMOUNT_FIGURES" = some (.str (Str.ofString "012345678") t)
 k_ANY_SIGN:∃ t,mg "ANY_SIGN" = some (.str (Str.ofString "*") t)
 k_CLAUSE_MARK:∃ t,mg "CLAUSE_MARK" = some (.str (Str.ofString "; ") t)
 m_Amounts:mg "Amounts" = some (.ref a.c_Amounts)
 cl_Amounts:Cls K a.c_Amounts
 na_Amounts_state:Dn K a.c_Amounts "state"
 na_Amounts_numbers:Dn K a.c_Amounts "numbers"
 m_Places:mg "Places" = some (.ref a.c_Places)
 cl_Places:Cls K a.c_Places
 na_Places_wanted:Dn K a.c_Places "wanted"
 m_Clause:mg "Clause" = some (.ref a.c_Clause)
 cl_Clause:Cls K a.c_Clause
 na_Clause_cell:Dn K a.c_Clause "cell"
 na_Clause_conditions:Dn K a.c_Clause "conditions"
 na_Clause_makes:Dn K a.c_Clause "makes"
 m_Rule:mg "Rule" = some (.ref a.c_Rule)
 cl_Rule:Cls K a.c_Rule
 na_Rule_text:Dn K a.c_Rule "text"
 na_Rule_clauses:Dn K a.c_Rule "clauses"
end J
namespace J
open PySem L2
seal L2.PA L2.PE L2.PS L2.PSs L2.PT L2.PW
inductive AQ where
 | am (s:Int) (ns:List Int)
 | pl (ws:List (Option Int))
structure AG where
 cell:Option Int
 conds:List AQ
 makes:Int
abbrev AU:=List AG
def Ee:Option Int->V
 | none=>.non
 | some i=>.int i
def Cg (w:Option Int) (s:Int):Bool:=match w with
 | none=>true
 | some i=>decide (i=s)
def AQ.holds (ar:List Int):AQ->Bool
 | .am s ns=>ns.any fun n=>decide (n=((ar.countP (· == s):Nat):Int))
 | .pl ws=>(ws.zip ar).all fun p=>Cg p.1 p.2
def AG.fits (cell:Int) (ar:List Int) (c:AG):Bool:=Cg c.cell cell && c.conds.all (AQ.holds ar)
def EX (r:AU) (cell:Int) (ar:List Int):Option Nat:=r.findIdx? (AG.fits cell ar)
def Fp (r:AU) (cell:Int) (ar:List Int):Int:=match r.find? (AG.fits cell ar) with
 | none=>cell
 | some c=>c.makes
def fl1 (f:Str) (a:V):List (Str×V):=Dw f a []
def fl2 (f g:Str) (a b:V):List (Str×V):=Dw g b (Dw f a [])
def fl3 (f g h:Str) (a b c:V):List (Str×V):=Dw h c (Dw g b (Dw f a []))
theorem fl1_1 {f:Str} {a:V}:(fl1 f a).lookup f=some a:=by unfold fl1; rw [AC,if_pos rfl]
theorem JT {f m:Str} {a:V} (h:¬ m=f):(fl1 f a).lookup m=none:=by unfold fl1; rw [AC,if_neg h]; rfl
theorem fl2_1 {f g:Str} {a b:V} (h:¬ f=g):(fl2 f g a b).lookup f=some a:=by unfold fl2; rw [AC,if_neg h,AC,if_pos rfl]
theorem PN {f g:Str} {a b:V}:(fl2 f g a b).lookup g=some b:=by unfold fl2; rw [AC,if_pos rfl]
theorem fl2_no {f g m:Str} {a b:V} (h1:¬ m=f) (h2:¬ m=g):(fl2 f g a b).lookup m=none:=by unfold fl2; rw [AC,if_neg h2,AC,if_neg h1]; rfl
theorem fl3_1 {f g h:Str} {a b c:V} (h1:¬ f=g) (h2:¬ f=h):(fl3 f g h a b c).lookup f=some a:=by unfold fl3; rw [AC,if_neg h2,AC,if_neg h1,AC,if_pos rfl]
theorem fl3_2 {f g h:Str} {a b c:V} (h1:¬ g=h):(fl3 f g h a b c).lookup g=some b:=by unfold fl3; rw [AC,if_neg h1,AC,if_pos rfl]
theorem fl3_3 {f g h:Str} {a b c:V}:(fl3 f g h a b c).lookup h=some c:=by unfold fl3; rw [AC,if_pos rfl]
theorem fl3_no {f g h m:Str} {a b c:V} (h1:¬ m=f) (h2:¬ m=g) (h3:¬ m=h):(fl3 f g h a b c).lookup m=none:=by unfold fl3; rw [AC,if_neg h3,AC,if_neg h2,AC,if_neg h1]; rfl
theorem Lr (f:Str) (v:V):∀ l:List (Str×V),(Dw f v l).length<=l.length+1
 | []=>Nat.le_refl _
 | (g,w) :: r=>by
  unfold Dw;split
  ·exact Nat.le_succ _
  ·rw [List.length_cons,List.length_cons];exact Nat.succ_le_succ (Lr f v r)
theorem Ae {H:Hp} {p:Addr} {o:HO} (h:H p=none):As H (upd H p o):=fun b u e=>by
 rw [Ak (Ar e h)];exact e
inductive Dt (a:Ad) (H:Hp):Addr->AQ->Prop where
 | am {p t dx:Addr} {s:Int} {ns:List Int} (h:H p=some (.ins a.c_Amounts dx (fl2 "state" "numbers" (.int s) (.ref t)))) (ht:H t=some (.tup (ns.map V.int))):Dt a H p (.am s ns)
 | pl {p t dx:Addr} {ws:List (Option Int)} (h:H p=some (.ins a.c_Places dx (fl1 "wanted" (.ref t)))) (ht:H t=some (.tup (ws.map Ee))):Dt a H p (.pl ws)
structure BY (a:Ad) (H:Hp) (p:Addr) (c:AG):Prop where
 ex:∃ (dx t:Addr) (cs:List Addr),H p=some (.ins a.c_Clause dx (fl3 "cell" "conditions" "makes" (Ee c.cell) (.ref t) (.int c.makes)))/\H t=some (.tup (cs.map V.ref))/\Paired (Dt a H) cs c.conds
structure EA (a:Ad) (H:Hp) (p:Addr) (x:Str) (r:AU):Prop where
 ex:∃ (dx t:Addr) (cs:List Addr),H p=some (.ins a.c_Rule dx (fl2 "text" "clauses" (.str x) (.ref t)))/\H t=some (.tup (cs.map V.ref))/\Paired (BY a H) cs r
theorem Paired.imp {α β:Type} {F G:α->β->Prop} (h:∀ x y,F x y->G x y):∀ {l:List α} {m:List β},Paired F l m->Paired G l m
 | _,_,.nil=>.nil
 | _,_,.cons r t=>.cons (h _ _ r) (Paired.imp h t)
theorem Paired.get {α β:Type} {F:α->β->Prop}:∀ {l:List α} {m:List β} {i:Nat} {x:α},Paired F l m->l[i]?=some x->∃ y,m[i]?=some y/\F x y
 | _,_,_,_,.nil,e=>by simp at e
 | _,_,0,_,.cons r _,e=>by simp at e; subst e; exact ⟨_,rfl,r⟩
 | _,_,i+1,x,.cons _ t,e=>by
  obtain ⟨y,h1,h2⟩:=Paired.get (i:=i) (x:=x) t (by simpa using e);exact ⟨y,by simpa using h1,h2⟩
theorem Dt.same {a:Ad} {H H':Hp} {p:Addr} {c:AQ} (s:As H H') (h:Dt a H p c):Dt a H' p c:=by
 cases h with
 | am h ht=>exact .am (s _ _ h) (s _ _ ht)
 | pl h ht=>exact .pl (s _ _ h) (s _ _ ht)
theorem BY.same {a:Ad} {H H':Hp} {p:Addr} {c:AG} (s:As H H') (h:BY a H p c):BY a H' p c:=by
 obtain ⟨dx,t,cs,h1,h2,h3⟩:=h.ex;exact ⟨dx,t,cs,s _ _ h1,s _ _ h2,Paired.imp (fun _ _ z=>z.same s) h3⟩
theorem EA.same {a:Ad} {H H':Hp} {p:Addr} {x:Str} {r:AU} (s:As H H') (h:EA a H p x r):EA a H' p x r:=by
 obtain ⟨dx,t,cs,h1,h2,h3⟩:=h.ex;exact ⟨dx,t,cs,s _ _ h1,s _ _ h2,Paired.imp (fun _ _ z=>z.same s) h3⟩
theorem JP (n:Int) (ns:List Int):inV (.int n) (ns.map V.int)=ns.any fun m=>decide (m=n):=by
 unfold inV;rw [List.any_map];congr 1
theorem Jg (ns:List Int):(ns.map V.int).all FH=true:=by
 rw [List.all_map];exact List.all_eq_true.mpr fun _ _=>rfl
theorem Ex (i j:Int):decide (V.int i=V.int j)=decide (i=j):=by
 by_cases h:i=j
 ·rw [decide_eq_true h,decide_eq_true (by rw [h])]
 ·rw [decide_eq_false h,decide_eq_false fun z=>h (by injection z)]
section
variable {P:Program} {w:World} {K:PySem.W.Frag} {mg:Str->Option Value} {base:Heap} {a:Ad}
inductive Nz (vs:List V) (H:Hp) (Q:VK):Prop
 | mk (x:Option Int) (s:Int) (_:vs=[Ee x,.int s]) (_:Q (.bl (Cg x s)) H):Nz vs H Q
def Gy:Sp:=fun vs H Q _=>Nz vs H Q
theorem Pg {f:Addr} {fd:FuncData} (F:Fun K "takes" "takes" ET f fd):AS P w K mg base CX0 1 f fd EV Gy:=by
 refine F.ok OQ (fun vs H Q E h=>?_) (fun cdv A outer s H vs Q E hr h=>?_)
 ·obtain ⟨x,s,rfl,_⟩:=h;rfl
 ·obtain ⟨x,s,rfl,k⟩:=h;refine ⟨_,(Ai (Aq (pe_or (Fz JD (pv 0) Fm (AI _)) (JA (Fz El (pv 0) (pv 1) (AI _)))))),?_⟩
  try dsimp only [cxK]
  refine ⟨_,rfl,rfl,_,rfl,?_⟩;cases x with
  | none=>exact Ef k
  | some i =>
   have e:decide (Ee (some i)=V.int s)=Cg (some i) s:=Ex i s;rw [<-e] at k;exact CA ⟨_,rfl,_,rfl,rfl,k⟩
inductive Mc (a:Ad) (vs:List V) (H:Hp) (Q:VK):Prop
 | mk (p t dx:Addr) (s:Int) (_:vs=[.ref p,.int s,.ref t]) (_:H p=some (.ins a.c_Amounts dx [])) (_:Q .non (upd H p (.ins a.c_Amounts dx (fl2 "state" "numbers" (.int s) (.ref t))))):Mc a vs H Q
def GK (a:Ad):Sp:=fun vs H Q _=>Mc a vs H Q
theorem NS {f:Addr} {fd:FuncData} (F:Fun K "__init__" "Amounts.__init__" BI f fd) (T:Top K mg a):AS P w K mg base CX0 1 f fd Cs (GK a):=by
 refine F.ok Gp (fun vs H Q E h=>?_) (fun cdv A outer s H vs Q E hr h=>?_)
 ·obtain ⟨p,t,dx,s,rfl,_⟩:=h;rfl
 ·obtain ⟨p,t,dx,s,rfl,hp,k⟩:=h;refine ⟨_,(Ag (EL (pv 0) (pv 1) rfl) (Ai (EL (pv 0) (pv 2) rfl))),?_⟩
  try dsimp only [cxK]
  refine ⟨_,rfl,_,rfl,p,_,dx,[],rfl,hp,T.cl_Amounts,T.na_Amounts_state,(by show 0 < 1000; decide),_,rfl,_,rfl,p,_,dx,_,rfl,Ab,T.cl_Amounts,T.na_Amounts_numbers,(by show 1 < 1000; decide),?_⟩;rw [DZ];exact k
inductive Ma (a:Ad) (vs:List V) (H:Hp) (Q:VK):Prop
 | mk (p t dx:Addr) (_:vs=[.ref p,.ref t]) (_:H p=some (.ins a.c_Places dx [])) (_:Q .non (upd H p (.ins a.c_Places dx (fl1 "wanted" (.ref t))))):Ma a vs H Q
def GI (a:Ad):Sp:=fun vs H Q _=>Ma a vs H Q
theorem NQ {f:Addr} {fd:FuncData} (F:Fun K "__init__" "Places.__init__" Cb f fd) (T:Top K mg a):AS P w K mg base CX0 1 f fd CJ (GI a):=by
 refine F.ok GP (fun vs H Q E h=>?_) (fun cdv A outer s H vs Q E hr h=>?_)
 ·obtain ⟨p,t,dx,rfl,_⟩:=h;rfl
 ·obtain ⟨p,t,dx,rfl,hp,k⟩:=h;refine ⟨_,(Ai (EL (pv 0) (pv 1) rfl)),?_⟩
  try dsimp only [cxK]
  exact ⟨_,rfl,_,rfl,p,_,dx,[],rfl,hp,T.cl_Places,T.na_Places_wanted,(by show 0 < 1000; decide),k⟩
inductive Mb (a:Ad) (vs:List V) (H:Hp) (Q:VK):Prop
 | mk (p t dx:Addr) (c:Option Int) (m:Int) (_:vs=[.ref p,Ee c,.ref t,.int m]) (_:H p=some (.ins a.c_Clause dx [])) (_:Q .non (upd H p (.ins a.c_Clause dx (fl3 "cell" "conditions" "makes" (Ee c) (.ref t) (.int m))))):Mb a vs H Q
def GJ (a:Ad):Sp:=fun vs H Q _=>Mb a vs H Q
theorem NR {f:Addr} {fd:FuncData} (F:Fun K "__init__" "Clause.__init__" Cc f fd) (T:Top K mg a):AS P w K mg base CX0 1 f fd CK (GJ a):=by
 refine F.ok GQ (fun vs H Q E h=>?_) (fun cdv A outer s H vs Q E hr h=>?_)
 ·obtain ⟨p,t,dx,c,m,rfl,_⟩:=h;rfl
 ·obtain ⟨p,t,dx,c,m,rfl,hp,k⟩:=h;refine ⟨_,(Ag (EL (pv 0) (pv 1) rfl) (Ag (EL (pv 0) (pv 2) rfl) (Ai (EL (pv 0) (pv 3) rfl)))),?_⟩
  try dsimp only [cxK]
  refine ⟨_,rfl,_,rfl,p,_,dx,[],rfl,hp,T.cl_Clause,T.na_Clause_cell,(by show 0 < 1000; decide),_,rfl,_,rfl,p,_,dx,_,rfl,Ab,T.cl_Clause,T.na_Clause_conditions,(by show 1 < 1000; decide),_,rfl,_,rfl,p,_,dx,_,rfl,Ab,T.cl_Clause,T.na_Clause_makes,
   Nat.lt_of_le_of_lt (Lr _ _ _) (by show 2 < 1000; decide),?_⟩
  rw [DZ,DZ];exact k
def FN (a:Ad):Sp:=fun vs H Q E=>(∃ (p l t dx:Addr) (s:Int) (ns ar:List Int),vs=[.ref p,.ref l]/\H p=some (.ins a.c_Amounts dx (fl2 "state" "numbers" (.int s) (.ref t)))/\H t=some (.tup (ns.map V.int))/\H l=some (.lst (ar.map V.int))/\Q (.bl (AQ.holds ar (.am s ns))) H)
theorem Mr {f:Addr} {fd:FuncData} (F:Fun K "holds" "Amounts.holds" Bl f fd) (T:Top K mg a):AS P w K mg base CX0 1 f fd BX (FN a):=by
 refine F.ok FR (fun vs H Q E h=>?_) (fun cdv A outer s H vs Q E hr h=>?_)
 ·obtain ⟨p,l,t,dx,s,ns,ar,rfl,_⟩:=h;rfl
 ·obtain ⟨p,l,t,dx,s,ns,ar,rfl,hp,ht,hl,k⟩:=h;refine ⟨_,(Ai (Aq (Fz FT (Dx PySem.F.plainAttrs_list PySem.F.slot_list_count PySem.F.type_list_count Pm (pv 1) (Aa (EM (pv 0) rfl) Ac)) (EM (pv 0) rfl) rfl))),?_⟩
  try dsimp only [cxK]
  refine ⟨_,rfl,.inl ⟨rfl,_,SqL.of hl⟩,_,rfl,p,_,dx,_,_,rfl,hp,T.cl_Amounts,T.na_Amounts_state,fl2_1 (by decide +kernel),l,ar,s,rfl,rfl,hl,_,rfl,p,_,dx,_,_,rfl,hp,T.cl_Amounts,T.na_Amounts_numbers,PN,t,_,rfl,.inr (SqT.of ht),rfl,Jg ns,?_⟩;show Q (.bl (inV _ _)) H;rw [JP];exact k
inductive Jq (a:Ad) (vs:List V) (H:Hp) (Q:VK):Prop
 | mk (p l t dx:Addr) (ws:List (Option Int)) (ar:List Int) (_:vs=[.ref p,.ref l]) (_:H p=some (.ins a.c_Places dx (fl1 "wanted" (.ref t)))) (_:H t=some (.tup (ws.map Ee))) (_:H l=some (.lst (ar.map V.int))) (_:ws.length<=100) (_:∀ H',As H H'->Q (.bl (AQ.holds ar (.pl ws))) H'):Jq a vs H Q
def FM (a:Ad):Sp:=fun vs H Q _=>Jq a vs H Q
theorem Mq {f:Addr} {fd:FuncData} (F:Fun K "holds" "Places.holds" Bh f fd) (T:Top K mg a) (cD:Cal P w K mg base CX0 1 "takes" EV Gy):AS P w K mg base CX0 2 f fd Cr (FM a):=by
 refine F.ok Go (fun vs H Q E h=>?_) (fun cdv A outer s H vs Q E hr h=>?_)
 ·obtain ⟨p,l,t,dx,ws,ar,rfl,_⟩:=h;rfl
 ·obtain ⟨p,l,t,dx,ws,ar,rfl,hp,ht,hl,hw,k⟩:=h;refine ⟨_,(Ai (Aq (AJ (LV rfl) rfl T.b_all PyProof.Rows.boot_all (Aa (Du rfl (BU.of (So:=Af Bh) (No:=ES) (N:=["one","state"]) (k:=2) (cs:=[]) rfl rfl (by decide +kernel)) (pi_zip true false rfl T.b_zip (Aa (EM (pv 0) rfl) (Aa (pv 1) Ac))) (fun _ _ _=>(Lw (i:=0) (j:=1) rfl (by decide +kernel) rfl rfl rfl rfl)) (fun _ _ _=>Dg) (fun _ _ _=>(Aj cD (rm hr) rfl Al (Aa (pv 0) (Aa (pv 1) Ac))))) Ac)))),?_⟩
  try dsimp only [cxK]
  refine ⟨_,rfl,p,_,dx,_,_,rfl,hp,T.cl_Places,T.na_Places_wanted,fl1_1,_,rfl,t,l,rfl,⟨_,SqT.of ht⟩,⟨_,SqL.of hl⟩,?_⟩;refine blk_zip (xs:=ws.map Ee) (ys:=ar.map V.int) (fun i acc H2=>As H H2/\acc=(((ws.zip ar).take i).map fun p=>V.bl (Cg p.1 p.2))) ⟨As.refl H,rfl⟩ (fun i acc H2 z=>⟨SqT.of (z.1 _ _ ht),SqL.of (z.1 _ _ hl)⟩) ?_ ?_
  ·rintro i x y acc H2 T' hx hy ⟨sm,rfl⟩ nT;rw [List.getElem?_map] at hx hy;obtain ⟨o,eo,rfl⟩:=Option.map_eq_some_iff.mp hx;obtain ⟨m,em,rfl⟩:=Option.map_eq_some_iff.mp hy;have ez:(ws.zip ar)[i]?=some (o,m):=by rw [List.getElem?_zip_eq_some]; exact ⟨eo,em⟩
   refine Jd Ab ⟨⟨[some (Ee o),some (.int m)],rfl,rfl⟩,?_,?_⟩
   ·have:((((ws.zip ar).take i).map fun p=>V.bl (Cg p.1 p.2))).length<=ws.length:=by
     rw [List.length_map,List.length_take,List.length_zip]; omega
    exact Nat.lt_of_le_of_lt (Nat.le_trans this hw) (by decide)
   ·refine GG ?_;refine ⟨_,rfl,_,rfl,o,m,rfl,sm.trans (Ae nT),?_⟩;rw [List.take_add_one,ez,List.map_append];rfl
  ·rintro acc H2 ⟨sm,rfl⟩ q nq;have len:min (ws.map Ee).length (ar.map V.int).length=(ws.zip ar).length:=by rw [List.length_map,List.length_map,List.length_zip]
   rw [len,List.take_length];refine ⟨q,(ws.zip ar).map (fun p=>Cg p.1 p.2),rfl,SqL.of (by rw [Ab,List.map_map]; rfl),?_⟩;have e:((ws.zip ar).map (fun p=>Cg p.1 p.2)).all id=AQ.holds ar (.pl ws):=by rw [List.all_map]; rfl
   rw [e];exact k _ (sm.trans (Ae nq))
inductive Qd (a:Ad) (vs:List V) (H:Hp) (Q:VK):Prop
 | mk (p l:Addr) (c:AG) (cell:Int) (ar:List Int) (_:vs=[.ref p,.int cell,.ref l]) (_:BY a H p c) (_:c.conds.length<=100) (_:(∀ d ∈ c.conds,∀ ws,d=AQ.pl ws->ws.length<=100)) (_:H l=some (.lst (ar.map V.int))) (_:∀ H',As H H'->Q (.bl (c.fits cell ar)) H'):Qd a vs H Q
def Mi (a:Ad):Sp:=fun vs H Q _=>Qd a vs H Q
theorem ok_Fits {f:Addr} {fd:FuncData} (F:Fun K "fits" "Clause.fits" Bx f fd) (T:Top K mg a) (cD:Cal P w K mg base CX0 1 "takes" EV Gy) (M_Am:MQ P w K mg base CX0 1 a.c_Amounts "holds" BX (FN a)) (M_Pl:MQ P w K mg base CX0 2 a.c_Places "holds" Cr (FM a)) :
  AS P w K mg base CX0 3 f fd CL (Mi a):=by
 refine F.ok GR (fun vs H Q E h=>?_) (fun cdv A outer s H vs Q E hr h=>?_)
 ·obtain ⟨p,l,c,cell,ar,rfl,_⟩:=h;rfl
 ·obtain ⟨p,l,c,cell,ar,rfl,hC,hn,hn2,hl,k⟩:=h;obtain ⟨dx,t,cs,hp,ht,hcs⟩:=hC.ex;refine ⟨_,(Ai (Aq (Mo (Aj cD (rm hr) rfl Al (Aa (EM (pv 0) rfl) (Aa (pv 1) Ac))) (JA (AJ (LV rfl) rfl T.b_all PyProof.Rows.boot_all (Aa (Du rfl (BU.of (So:=Af Bx) (No:=Fg) (N:=["condition","around"]) (k:=1) (cs:=[2]) rfl rfl (by decide +kernel)) (pi_tup (EM (pv 0) rfl)) (fun _ _ _=>(BW (i:=0) (by decide +kernel) rfl rfl)) (fun _ _ _=>Dg) (fun _ _ _=>(PE.or (JC (pv 0) M_Am (rm hr) Al (Aa (pv 1) Ac)) (JC (pv 0) M_Pl (rm hr) Al (Aa (pv 1) Ac))))) Ac)))))),?_⟩
  try dsimp only [cxK]
  refine ⟨_,rfl,p,_,dx,_,_,rfl,hp,T.cl_Clause,T.na_Clause_cell,fl3_1 (by decide +kernel) (by decide +kernel),_,rfl,c.cell,cell,rfl,Cg c.cell cell,rfl,?_⟩;cases et:Cg c.cell cell with
  | false =>
   refine CA ?_;have:=k H (As.refl H);unfold AG.fits at this;rw [et] at this;exact this
  | true =>
   refine Ef ?_;have ln:cs.length=c.conds.length:=Paired.length hcs;refine ⟨_,rfl,p,_,dx,_,_,rfl,hp,T.cl_Clause,T.na_Clause_conditions,fl3_2 (by decide +kernel),t,rfl,⟨_,SqT.of ht⟩,?_⟩;refine blk_tup (xs:=cs.map V.ref) (fun i acc H2=>As H H2/\acc=((c.conds.take i).map fun d=>V.bl (AQ.holds ar d))) ⟨As.refl H,rfl⟩ (fun i acc H2 _ z=>SqT.of (z.1 _ _ ht)) ?_ ?_
   ·rintro i x acc H2 hx ⟨sm,rfl⟩;rw [List.getElem?_map] at hx;obtain ⟨q,eq,rfl⟩:=Option.map_eq_some_iff.mp hx;obtain ⟨d,ed,hd⟩:=Paired.get hcs eq;have hd2:=hd.same sm;refine ⟨⟨[some (.ref q)],rfl,rfl⟩,?_,?_⟩
    ·have:((c.conds.take i).map fun d=>V.bl (AQ.holds ar d)).length<=c.conds.length:=by
      rw [List.length_map,List.length_take]; omega
     exact Nat.lt_of_le_of_lt (Nat.le_trans this hn) (by decide)
    ·refine GG ?_;have nx:∀ H4,As H2 H4->As H H4/\((c.conds.take i).map fun d=>V.bl (AQ.holds ar d)) ++ [V.bl (AQ.holds ar d)]=((c.conds.take (i+1)).map fun d=>V.bl (AQ.holds ar d)):=fun H4 s4=>⟨sm.trans s4,by
      rw [List.take_add_one,ed,List.map_append]; rfl⟩
     have md:d ∈ c.conds:=List.mem_of_getElem? ed;cases hd2 with
     | @am t2 dx2 s ns h1 h2=>exact .inl ⟨_,rfl,q,dx2,_,rfl,h1,fl2_no (by decide +kernel) (by decide +kernel),_,rfl,q,l,t2,dx2,s,ns,ar,rfl,h1,h2,sm _ _ hl,nx H2 (As.refl H2)⟩
     | @pl t2 dx2 ws h1 h2=>exact .inr ⟨_,rfl,q,dx2,_,rfl,h1,JT (by decide +kernel),_,rfl,q,l,t2,dx2,ws,ar,rfl,h1,h2,sm _ _ hl,hn2 _ md ws rfl,fun H4 s4=>nx H4 s4⟩
   ·rintro acc H2 ⟨sm,rfl⟩ q nq;rw [List.length_map,ln,List.take_length];refine ⟨q,c.conds.map (AQ.holds ar),rfl,SqL.of (by rw [Ab,List.map_map]; rfl),?_⟩;have e:(c.conds.map (AQ.holds ar)).all id=c.fits cell ar:=by
     unfold AG.fits;rw [et,List.all_map]; rfl
    rw [e];exact k _ (sm.trans (Ae nq))
def ROk (r:AU):Prop:=r.length<=5000/\∀ c ∈ r,c.conds.length<=100/\∀ d ∈ c.conds,∀ ws,d=AQ.pl ws->ws.length<=100
def decV (o:Option Nat):V:=match o with
 | none=>.non
 | some n=>.int n
inductive SpDec (a:Ad) (vs:List V) (H:Hp) (Q:VK):Prop
 | mk (p l:Addr) (z:Str) (r:AU) (cell:Int) (ar:List Int) (_:vs=[.ref p,.int cell,.ref l]) (_:EA a H p z r) (_:ROk r) (_:H l=some (.lst (ar.map V.int))) (_:∀ H',As H H'->Q (decV (EX r cell ar)) H'):SpDec a vs H Q
def OO (a:Ad):Sp:=fun vs H Q _=>SpDec a vs H Q
theorem ok_dec {f:Addr} {fd:FuncData} (F:Fun K "deciding" "deciding" Dp f fd) (T:Top K mg a) (bE:MQ P w K mg base CX0 3 a.c_Clause "fits" CL (Mi a)):AS P w K mg base CX0 4 f fd DS (OO a):=by
 refine F.ok EJ (fun vs H Q E h=>?_) (fun cdv A outer s H vs Q E hr h=>?_)
 ·obtain ⟨p,l,z,r,cell,ar,rfl,_⟩:=h;rfl
 ·obtain ⟨p,l,z,r,cell,ar,rfl,hR,hn,hl,k⟩:=h;obtain ⟨dx,t,cs,hp,ht,hcs⟩:=hR.ex;have ln:cs.length=r.length:=Paired.length hcs;refine ⟨_,(Ag (BP PassesOwn.never rfl (pi_enum true rfl T.b_enumerate (Aa (EM (pv 0) rfl) Ac)) (GW rfl (CD (AR (i:=3) EJ.nd rfl (Or.inl rfl)) (CD (AR (i:=4) EJ.nd rfl (Or.inl rfl)) Fv))) (Ai (AX (Ed (JC (pv 4) bE (rm hr) Al (Aa (pv 1) (Aa (pv 2) Ac)))) (Ai (Aq (pv 3))) Ay))) (Ai (Aq Fm))),?_⟩
  try dsimp only [cxK]
  refine ⟨_,rfl,p,_,dx,_,_,rfl,hp,T.cl_Rule,T.na_Rule_clauses,PN,t,rfl,⟨_,SqT.of ht⟩,?_⟩;refine PM (b:=true) (xs:=cs.map V.ref) (fun i σ H2=>As H H2/\(∃ u v,σ=[some (.ref p),some (.int cell),some (.ref l),u,v])/\∀ c ∈ r.take i,c.fits cell ar=false) ⟨As.refl H,⟨none,none,rfl⟩,fun c hc=>by simp at hc⟩ (fun i σ H2 _ q=>SqT.of (q.1 _ _ ht)) ?_ ?_
  ·rintro i x σ H2 T' hx ⟨sm,⟨u,v,rfl⟩,no⟩ nT;rw [List.getElem?_map] at hx;obtain ⟨q,eq,rfl⟩:=Option.map_eq_some_iff.mp hx;obtain ⟨c,ec,hc⟩:=Paired.get hcs eq;have s3:=sm.trans (Ae (o:=.tup [.int i,.ref q]) nT);have hc3:=hc.same s3;obtain ⟨dx2,t2,cs2,h1,_⟩:=hc3.ex;refine Jd Ab ?_;have mc:=List.mem_of_getElem? ec;refine ⟨_,rfl,q,dx2,_,rfl,h1,fl3_no (by decide +kernel) (by decide +kernel) (by decide +kernel),_,rfl,_,rfl,q,l,c,cell,ar,rfl,hc3,(hn.2 c mc).1,(hn.2 c mc).2,s3 _ _ hl,fun H4 s4=>⟨_,rfl,?_⟩⟩;cases ef:c.fits cell ar with
   | true =>
    refine Ef ?_;refine ⟨_,rfl,?_⟩;have e:EX r cell ar=some i:=by
     unfold EX;rw [List.findIdx?_eq_some_iff_getElem];have hi:i < r.length:=(List.getElem?_eq_some_iff.mp ec).1;refine ⟨hi,?_,fun j hj=>?_⟩
     ·rw [(List.getElem?_eq_some_iff.mp ec).2]; exact ef
     ·have:=no r[j] (List.mem_take_iff_getElem.mpr ⟨j,by omega,rfl⟩);rw [this]; exact Bool.false_ne_true
    have:=k H4 (s3.trans s4);rw [e] at this;exact this
   | false =>
    refine CA ⟨s3.trans s4,⟨_,_,rfl⟩,fun d hd=>?_⟩;rw [List.take_add_one,ec] at hd;rcases List.mem_append.mp hd with z | z
    ·exact no d z
    ·have:d=c:=by simpa using z
     rw [this]; exact ef
  ·rintro σ H2 ⟨sm,⟨u,v,rfl⟩,no⟩;rw [List.length_map,ln,List.take_length] at no;have e:EX r cell ar=none:=by
    unfold EX;rw [List.findIdx?_eq_none_iff];exact no
   have:=k H2 sm;rw [e] at this;exact this
inductive SpBec (a:Ad) (vs:List V) (H:Hp) (Q:VK):Prop
 | mk (p l:Addr) (z:Str) (r:AU) (cell:Int) (ar:List Int) (_:vs=[.ref p,.int cell,.ref l]) (_:EA a H p z r) (_:ROk r) (_:H l=some (.lst (ar.map V.int))) (_:∀ H',As H H'->Q (.int (Fp r cell ar)) H'):SpBec a vs H Q
def MZ (a:Ad):Sp:=fun vs H Q _=>SpBec a vs H Q
theorem LX {r:AU} {cell:Int} {ar:List Int} (h:EX r cell ar=none):Fp r cell ar=cell:=by
 unfold EX at h;rw [List.findIdx?_eq_none_iff] at h;unfold Fp;rw [List.find?_eq_none.mpr fun c hc=>by rw [h c hc]; exact Bool.false_ne_true]
theorem LW {r:AU} {cell:Int} {ar:List Int} {i:Nat} (h:EX r cell ar=some i):∃ c,r[i]?=some c/\Fp r cell ar=c.makes:=by
 unfold EX at h;rw [List.findIdx?_eq_some_iff_getElem] at h;obtain ⟨hi,h1,h2⟩:=h;refine ⟨r[i],List.getElem?_eq_getElem hi,?_⟩;unfold Fp;have:r.find? (AG.fits cell ar)=some r[i]:=by
  rw [List.find?_eq_some_iff_getElem];exact ⟨h1,i,hi,rfl,fun j hj=>by simpa using h2 j hj⟩
 rw [this]
theorem ok_bec {f:Addr} {fd:FuncData} (F:Fun K "becomes" "becomes" DO f fd) (T:Top K mg a) (cQ:Cal P w K mg base CX0 4 "deciding" DS (OO a)):AS P w K mg base CX0 5 f fd DQ (MZ a):=by
 refine F.ok GN (fun vs H Q E h=>?_) (fun cdv A outer s H vs Q E hr h=>?_)
 ·obtain ⟨p,l,z,r,cell,ar,rfl,_⟩:=h;rfl
 ·obtain ⟨p,l,z,r,cell,ar,rfl,hR,hn,hl,k⟩:=h;refine ⟨_,(Ag (Av (i:=3) GN.nd rfl (Or.inl rfl) (Aj cQ (rm hr) rfl Al (Aa (pv 0) (Aa (pv 1) (Aa (pv 2) Ac))))) (Ag (AX (Ax JD (pv 3) Fm (AI _)) (Ai (Aq (pv 1))) Ay) (Ai (Aq (EM (AB AF (EM (pv 0) rfl) (pv 3) (fun _ _=>rfl)) rfl))))),?_⟩
  try dsimp only [cxK]
  refine ⟨_,rfl,_,rfl,_,rfl,p,l,z,r,cell,ar,rfl,hR,hn,hl,fun H2 s2=>?_⟩;refine ⟨_,rfl,rfl,_,rfl,?_⟩;cases e:EX r cell ar with
  | none =>
   refine Ef ⟨_,rfl,?_⟩;have:=k H2 s2;rw [LX e] at this;exact this
  | some i =>
   obtain ⟨c,ec,em⟩:=LW e;obtain ⟨dx,t,cs,hp,ht,hcs⟩:=hR.ex;obtain ⟨q,eq⟩:∃ q,cs[i]?=some q:=by
    have ln:cs.length=r.length:=Paired.length hcs;have:i < cs.length:=by rw [ln]; exact (List.getElem?_eq_some_iff.mp ec).1
    exact ⟨_,List.getElem?_eq_getElem this⟩
   obtain ⟨c',ec',hc⟩:=Paired.get hcs eq;rw [ec] at ec';cases ec';obtain ⟨dx2,t2,cs2,h1,_⟩:=(hc.same s2).ex;refine CA ⟨_,rfl,p,_,dx,_,_,rfl,s2 _ _ hp,T.cl_Rule,T.na_Rule_clauses,PN,_,rfl,t,_,i,.ref q,rfl,rfl,SqT.of (s2 _ _ ht),An (by rw [List.getElem?_map,eq]; rfl),q,_,dx2,_,_,rfl,h1,T.cl_Clause,T.na_Clause_makes,fl3_3,?_⟩;have:=k H2 s2;rw [em] at this;exact this
end
end J
namespace J
open PySem L2
seal L2.PA L2.PE L2.PS L2.PSs L2.PT L2.PW
def sgD (d:Int):Str:=⟨#[48+d.toNat]⟩
def wC:Option Int->Nat
 | none=>42
 | some d=>48+d.toNat
def wS (x:Option Int):Str:=⟨#[wC x]⟩
def Db (ns:List Int):Str:=⟨(ns.map fun n=>48+n.toNat).toArray⟩
def AE:AQ->Str
 | .am s ns=>sgD s ++ ⟨#[61]⟩ ++ Db ns
 | .pl ws=>⟨(ws.map wC).toArray⟩
def AZ (c:AG):Str:=Str.join ⟨#[32]⟩ (wS c.cell :: (c.conds.map AE ++ [sgD c.makes]))
def IZ:Str:=⟨#[59,32]⟩
def Do (r:AU):Str:=Str.join IZ (r.map AZ)
def Gk (d:Int):Prop:=0<=d/\d < 8
def wOk:Option Int->Prop
 | none=>True
 | some d=>Gk d
def AQ.ok:AQ->Prop
 | .am s ns=>Gk s/\ns≠[]/\(∀ n ∈ ns,0<=n/\n<=8)/\ns.Pairwise (· < ·)
 | .pl ws=>ws.length=8/\∀ w ∈ ws,wOk w
structure AG.ok (c:AG):Prop where
 cell:wOk c.cell
 makes:Gk c.makes
 few:c.conds.length<=50
 conds:∀ d ∈ c.conds,d.ok
theorem eight {d:Int} (h:Gk d):d=0\/d=1\/d=2\/d=3\/d=4\/d=5\/d=6\/d=7:=by
 obtain ⟨m,rfl⟩:=Int.eq_ofNat_of_zero_le h.1;have h1:=h.2;exact (show ∀ m:Nat,m < 8->((m:Int)=0\/(m:Int)=1\/(m:Int)=2\/(m:Int)=3\/(m:Int)=4\/(m:Int)=5\/(m:Int)=6\/(m:Int)=7) by decide) m (by omega)
abbrev figs8:Str:=Str.ofString "01234567"
abbrev figs9:Str:=Str.ofString "012345678"
theorem OI {d:Int} (h:Gk d):PySem.intText? (sgD d)=some d/\(!(Builtin.Str.occurrences figs8 (sgD d) 0 figs8.length 1).isEmpty)=true:=by
 rcases eight h with rfl | rfl | rfl | rfl | rfl | rfl | rfl | rfl<;>exact ⟨by decide +kernel,by decide +kernel⟩
theorem nine {d:Int} (h0:0<=d) (h1:d<=8):d=0\/d=1\/d=2\/d=3\/d=4\/d=5\/d=6\/d=7\/d=8:=by
 obtain ⟨m,rfl⟩:=Int.eq_ofNat_of_zero_le h0;exact (show ∀ m:Nat,m < 9->((m:Int)=0\/(m:Int)=1\/(m:Int)=2\/(m:Int)=3\/(m:Int)=4\/(m:Int)=5\/(m:Int)=6\/(m:Int)=7\/(m:Int)=8) by decide) m (by omega)
theorem Qb {d:Int} (h0:0<=d) (h1:d<=8):PySem.intText? (⟨#[48+d.toNat]⟩:Str)=some d/\(!(Builtin.Str.occurrences figs9 (⟨#[48+d.toNat]⟩:Str) 0 figs9.length 1).isEmpty)=true:=by
 rcases nine h0 h1 with rfl | rfl | rfl | rfl | rfl | rfl | rfl | rfl | rfl<;>exact ⟨by decide +kernel,by decide +kernel⟩
theorem star_no {d:Int} (h:Gk d):decide (V.str (wS (some d))=V.str (Str.ofString "*"))=false:=by
 rcases eight h with rfl | rfl | rfl | rfl | rfl | rfl | rfl | rfl<;>decide +kernel
theorem IP {x:Option Int} (h:wOk x):wC x≠61/\wC x≠32/\wC x≠59:=by
 cases x with
 | none=>exact ⟨by decide,by decide,by decide⟩
 | some d =>
  have:=h.1;have:=h.2;show 48+d.toNat≠61/\48+d.toNat≠32/\48+d.toNat≠59;refine ⟨?_,?_,?_⟩<;>omega
theorem Jk {d:AQ} (h:d.ok):32 ∉ (AE d).cps.toList/\59 ∉ (AE d).cps.toList:=by
 cases d with
 | am s ns =>
  obtain ⟨⟨s0,s1⟩,_,hn,_⟩:=h;have e:(AE (.am s ns)).cps.toList=(48+s.toNat) :: 61 :: ns.map fun n=>48+n.toNat:=by
   show (sgD s ++ ⟨#[61]⟩ ++ Db ns).cps.toList=_;rw [Tx.BR,Tx.BR];rfl
  rw [e];constructor
  ·intro z;rcases List.mem_cons.mp z with z | z
   ·omega
   ·rcases List.mem_cons.mp z with z | z
    ·omega
    ·obtain ⟨n,hn',e⟩:=List.mem_map.mp z;have:=hn n hn';omega
  ·intro z;rcases List.mem_cons.mp z with z | z
   ·omega
   ·rcases List.mem_cons.mp z with z | z
    ·omega
    ·obtain ⟨n,hn',e⟩:=List.mem_map.mp z;have:=hn n hn';omega
 | pl ws =>
  have e:(AE (.pl ws)).cps.toList=ws.map wC:=rfl;rw [e];constructor
  ·intro z;obtain ⟨x,hx,e⟩:=List.mem_map.mp z;exact (IP (h.2 x hx)).2.1 e
  ·intro z;obtain ⟨x,hx,e⟩:=List.mem_map.mp z;exact (IP (h.2 x hx)).2.2 e
theorem GF:∀ (ns:List Int) (lo:Int),lo<=9->(∀ n ∈ ns,lo<=n/\n<=8)->ns.Pairwise (· < ·)->(ns.length:Int)<=9 - lo
 | [],lo,h,_,_=>by show (0:Int)<=9 - lo; omega
 | n :: r,lo,_,hn,hp=>by
  have h1:=hn n List.mem_cons_self;have h2:=GF r (n+1) (by omega) (fun m hm=>⟨by have:=(List.pairwise_cons.mp hp).1 m hm; omega,(hn m (List.mem_cons_of_mem _ hm)).2⟩) (List.pairwise_cons.mp hp).2;rw [List.length_cons];omega
theorem FK {d:AQ} (h:d.ok):(AE d).length<=11:=by
 cases d with
 | am s ns =>
  obtain ⟨_,_,hn,hp⟩:=h;have hl:=GF ns 0 (by decide) hn hp;rw [Nu.len];show (sgD s ++ ⟨#[61]⟩ ++ Db ns).cps.toList.length<=11;rw [Tx.BR,Tx.BR,List.length_append,List.length_append];show 1+1+(ns.map fun n=>48+n.toNat).length<=11;rw [List.length_map];omega
 | pl ws =>
  rw [Nu.len];show (ws.map wC).length<=11;rw [List.length_map,h.1];decide
section
variable {P:Program} {w:World} {K:PySem.W.Frag} {mg:Str->Option Value} {base:Heap} {a:Ad}
theorem MW (K:PySem.W.Frag):PySem.W.kitOne K (.type "str") (.type "str")=some true:=by kernel_rfl
inductive SpRS (vs:List V) (H:Hp) (Q:VK):Prop
 | mk (d:Int) (_:vs=[.str (sgD d)]) (_:Gk d) (_:Q (.int d) H):SpRS vs H Q
def OL:Sp:=fun vs H Q _=>SpRS vs H Q
theorem ok_rs {f:Addr} {fd:FuncData} (F:Fun K "read_state" "read_state" Cu f fd) (T:Top K mg a):AS P w K mg base CX0 1 f fd BQ OL:=by
 refine F.ok IB (fun vs H Q E h=>?_) (fun cdv A outer s H vs Q E hr h=>?_)
 ·obtain ⟨d,rfl,_⟩:=h;rfl
 ·obtain ⟨d,rfl,hd,k⟩:=h;obtain ⟨e1,e2⟩:=OI hd;refine ⟨_,(Ag (AX (PW.pt (GU (Ax Fc (AJ Ez rfl T.b_len PySem.boot_len (Aa (pv 0) Ac)) Ah (AI _)) (GT (Ax FA (pv 0) (GA rfl T.k_STATE_FIGURES) rfl)))) (Ai Dh) Ay) (Ai (Aq (Bf Eh rfl T.b_int PyProof.Rows.boot_int (Aa (pv 0) Ac))))),?_⟩
  try dsimp only [cxK]
  refine ⟨_,rfl,_,rfl,(by show 1<=sizeLine; decide),rfl,_,rfl,?_⟩;refine Gh rfl ⟨_,rfl,_,_,rfl,rfl,_,rfl,?_⟩;rw [e2];exact CA ⟨_,rfl,_,d,rfl,e1,(by show 1<=640; decide),k⟩
inductive SpRW (vs:List V) (H:Hp) (Q:VK):Prop
 | mk (x:Option Int) (_:vs=[.str (wS x)]) (_:wOk x) (_:Q (Ee x) H):SpRW vs H Q
def spRW:Sp:=fun vs H Q _=>SpRW vs H Q
theorem ok_rw {f:Addr} {fd:FuncData} (F:Fun K "read_wanted" "read_wanted" BZ f fd) (T:Top K mg a) (aD:Cal P w K mg base CX0 1 "read_state" BQ OL):AS P w K mg base CX0 2 f fd Cd spRW:=by
 refine F.ok GL (fun vs H Q E h=>?_) (fun cdv A outer s H vs Q E hr h=>?_)
 ·obtain ⟨x,rfl,_⟩:=h;rfl
 ·obtain ⟨x,rfl,hx,k⟩:=h;refine ⟨_,(Ag (AX (Ax El (pv 0) (GA rfl T.k_ANY_SIGN) (AI _)) (Ai (Aq Fm)) Ay) (Ai (Aq (Aj aD (rm hr) rfl Al (Aa (pv 0) Ac))))),?_⟩
  try dsimp only [cxK]
  refine ⟨_,rfl,rfl,_,rfl,?_⟩;cases x with
  | none=>exact Ef k
  | some d =>
   rw [star_no hx];exact CA ⟨_,rfl,d,rfl,hx,k⟩
inductive SpRN (vs:List V) (H:Hp) (Q:VK):Prop
 | mk (ns:List Int) (_:vs=[.str (Db ns)]) (_:ns≠[]) (_:ns.length<=100) (_:(∀ n ∈ ns,0<=n/\n<=8)) (_:ns.Pairwise (· < ·)) (_:∀ (t:Addr) (H':Hp),As H H'->H' t=some (.tup (ns.map V.int))->Q (.ref t) H'):SpRN vs H Q
def spRN:Sp:=fun vs H Q _=>SpRN vs H Q
theorem ok_rn {f:Addr} {fd:FuncData} (F:Fun K "read_numbers" "read_numbers" BB f fd) (T:Top K mg a):AS P w K mg base CX0 1 f fd Cm spRN:=by
 refine F.ok DE (fun vs H Q E h=>?_) (fun cdv A outer s H vs Q E hr h=>?_)
 ·obtain ⟨ns,rfl,_⟩:=h;rfl
 ·obtain ⟨ns,rfl,hne,hl,hn,hp,k⟩:=h;have el:(Db ns).length=ns.length:=by rw [Nu.len]; show (ns.map _).length=_; rw [List.length_map]
  have ec:(Db ns).cps.toList=ns.map fun n=>48+n.toNat:=rfl;have pos:0 < ns.length:=List.length_pos_iff.mpr hne;refine ⟨_,(Ag (AX (Ax El (AJ Ez rfl T.b_len PySem.boot_len (Aa (pv 0) Ac)) Ah (AI _)) (Ai Dh) Ay) (Ag (Av (i:=1) DE.nd rfl (Or.inl rfl) (Ck Ac)) (Ag (BP PassesOwn.never rfl (OZ (pv 0)) (AR (i:=2) DE.nd rfl (Or.inl rfl)) (Ag (AX (Ax FA (pv 2) (GA rfl T.k_AMOUNT_FIGURES) rfl) (Ai Dh) Ay) (Ag (AX (PW.pt (OX (Ax op_gt (AJ AV rfl T.b_len PySem.boot_len (Aa (pv 1) Ac)) Ah (AI _)) (Ng (Ax op_le (Bf Eh rfl T.b_int PyProof.Rows.boot_int (Aa (pv 2) Ac)) (AB Bs (pv 1) (Fw Ep Ah) (fun _ _=>rfl)) (AI _))))) (Ai Dh) Ay) (Ai (CO (Dx PySem.F.plainAttrs_list PySem.F.slot_list_append PySem.F.type_list_append Cz (pv 1) (Aa (Bf Eh rfl T.b_int PyProof.Rows.boot_int (Aa (pv 2) Ac)) Ac))))))) (Ai (Aq (Bf CM rfl T.b_tuple PyProof.Rows.boot_tuple (Aa (pv 1) Ac))))))),?_⟩
  try dsimp only [cxK]
  refine ⟨_,rfl,_,rfl,(by rw [el]; exact Nat.le_trans hl (by decide)),rfl,_,rfl,?_⟩;have nz:decide (V.int ((Db ns).length:Int)=V.int 0)=false:=decide_eq_false fun z=>by
   injection z with z
   omega
  rw [nz];refine CA ⟨(by show 0<=sizeLine; decide),fun l hl0=>?_⟩;refine ⟨_,rfl,_,rfl,?_⟩;refine for_str (fun i σ H2=>∃ v,σ=[some (.str (Db ns)),some (.ref l),v]/\H2=upd H l (.lst ((ns.take i).map V.int))) ⟨none,rfl,rfl⟩ ?_ ?_
  ·rintro i ch σ H2 hch ⟨v,rfl,rfl⟩;have hch':(ns.map fun n=>48+n.toNat)[i]?=some ch:=by rw [<-ec]; simpa using hch
   rw [List.getElem?_map] at hch';obtain ⟨n,en,rfl⟩:=Option.map_eq_some_iff.mp hch';have mn:=List.mem_of_getElem? en;obtain ⟨f1,f2⟩:=Qb (hn n mn).1 (hn n mn).2;have hi:i < ns.length:=(List.getElem?_eq_some_iff.mp en).1;have tl:(ns.take i).length=i:=by rw [List.length_take]; omega
   refine ⟨_,rfl,_,_,rfl,rfl,_,rfl,?_⟩;rw [f2];refine CA ⟨_,rfl,l,_,rfl,.inl (SqL.of Ab),_,_,rfl,rfl,_,rfl,?_⟩;have nx:∃ v,([some (V.str (Db ns)),some (.ref l),some (.str ⟨#[48+n.toNat]⟩)]:St)=[some (.str (Db ns)),some (.ref l),v]/\upd (upd H l (.lst ((ns.take i).map V.int))) l (.lst ((ns.take i).map V.int ++ [V.int n]))=upd H l (.lst ((ns.take (i+1)).map V.int)):=by
    refine ⟨_,rfl,?_⟩;rw [DZ,List.take_add_one,en,List.map_append];rfl
   have app:tDrop (tBM K "list" Nf (tVar 1) (Ch (tCB (fun xs H Q=>∃ x n,xs=[.str x]/\PySem.intText? x=some n/\x.length<=640/\Q (.int n) H) (Ch (tVar 2) Jt)) Jt))
     { nx:=fun σ H2=>∃ v,σ=[some (.str (Db ns)),some (.ref l),v]/\H2=upd H l (.lst ((ns.take (i+1)).map V.int)),rt:=Q,bk:=fun _ _=>False,ct:=fun σ H2=>∃ v,σ=[some (.str (Db ns)),some (.ref l),v]/\H2=upd H l (.lst ((ns.take (i+1)).map V.int)) }
     [some (.str (Db ns)),some (.ref l),some (.str ⟨#[48+n.toNat]⟩)] (upd H l (.lst ((ns.take i).map V.int))) :=
    ⟨_,rfl,.inl ⟨rfl,_,SqL.of Ab⟩,_,rfl,_,n,rfl,f1,(by show 1<=640; decide),l,_,_,rfl,rfl,Ab,(by rw [List.length_map,tl]; exact Nat.lt_of_lt_of_le hi (Nat.le_trans hl (by decide))),nx⟩
   by_cases i0:i=0
   ·subst i0;exact CA app
   ·have ip:0 < i:=by omega
    have lt0:decide ((0:Int) < (((ns.take i).map V.int).length:Int))=true:=decide_eq_true (by rw [List.length_map,tl]; omega);rw [lt0];have hm:i - 1 < ns.length:=by omega
    have hlt:ns[i - 1] < n:=by
     have:=List.pairwise_iff_getElem.mp hp (i - 1) i hm hi (by omega);rw [(List.getElem?_eq_some_iff.mp en).2] at this;exact this
    have at1:atI ((ns.take i).map V.int) (-1)=some (V.int ns[i - 1]):=by
     have:((ns.take i).map V.int)[i - 1]?=some (V.int ns[i - 1]):=by
      rw [List.getElem?_map,List.getElem?_take_of_lt (by omega),List.getElem?_eq_getElem hm]; rfl
     have e1:((ns.take i).map V.int).length=i:=by rw [List.length_map,tl]
     unfold atI ixN;rw [e1,if_neg (by decide),if_pos (by omega)];show ((ns.take i).map V.int)[((-1:Int)+(i:Nat)).toNat]?=_;rw [show ((-1:Int)+(i:Nat)).toNat=i - 1 by omega];exact this
    refine Ef ⟨_,rfl,_,n,rfl,f1,(by show 1<=640; decide),_,rfl,_,rfl,l,_,_,_,rfl,rfl,SqL.of Ab,at1,_,_,rfl,rfl,_,rfl,?_⟩;rw [decide_eq_false (by omega:¬ n<=ns[i - 1])];exact CA app
  ·rintro σ H2 ⟨v,rfl,rfl⟩;have e:(Db ns).cps.size=ns.length:=by
    have:(Db ns).cps.toList.length=ns.length:=by rw [ec,List.length_map]
    simpa using this
   rw [e,List.take_length];refine ⟨_,rfl,l,_,rfl,.inl ⟨SqL.of Ab,fun t ht=>?_⟩⟩;exact k t _ ((Ae hl0).trans (Ae ht)) Ab
end
end J
namespace J
open PySem L2
seal L2.PA L2.PE L2.PS L2.PSs L2.PT L2.PW
section
variable {P:Program} {w:World} {K:PySem.W.Frag} {mg:Str->Option Value} {base:Heap} {a:Ad}
theorem eq_in (x:Str):(!(Builtin.Str.occurrences x (Str.ofString "=") 0 x.length 1).isEmpty)=decide (61 ∈ x.cps.toList):=by
 have:Str.ofString "=" = (⟨#[61]⟩:Str):=by decide +kernel
 rw [this];exact StrLaws.found_one x 61
inductive NA (a:Ad) (vs:List V) (H:Hp) (Q:VK):Prop
 | mk (d:AQ) (_:vs=[.str (AE d)]) (_:d.ok) (_:∀ (p:Addr) (H':Hp),As H H'->Dt a H' p d->Q (.ref p) H'):NA a vs H Q
def Ju (a:Ad):Sp:=fun vs H Q _=>NA a vs H Q
inductive SpRAm (a:Ad) (vs:List V) (H:Hp) (Q:VK):Prop
 | mk (s:Int) (ns:List Int) (_:vs=[.str (AE (.am s ns))]) (_:(AQ.am s ns).ok) (_:∀ (p:Addr) (H':Hp),As H H'->Dt a H' p (.am s ns)->Q (.ref p) H'):SpRAm a vs H Q
def ON (a:Ad):Sp:=fun vs H Q _=>SpRAm a vs H Q
theorem ok_ram {f:Addr} {fd:FuncData} (F:Fun K "read_amounts" "read_amounts" BC f fd) (T:Top K mg a) (aD:Cal P w K mg base CX0 1 "read_state" BQ OL) (b9:Cal P w K mg base CX0 1 "read_numbers" Cm spRN)
  (d5:Lc P w K mg base CX0 1 "Amounts" a.c_Amounts Cs (GK a)):AS P w K mg base CX0 3 f fd Cn (ON a):=by
 refine F.ok EE (fun vs H Q E h=>?_) (fun cdv A outer s H vs Q E hr h=>?_)
 ·obtain ⟨s,ns,rfl,_⟩:=h;rfl
 ·obtain ⟨d,ns,rfl,ho,k⟩:=h;have hlen:=FK ho;obtain ⟨hd,hne,hn,hp⟩:=ho;have hl:=GF ns 0 (by decide) hn hp;have e61:Str.ofString "=" = (⟨#[61]⟩:Str):=by decide +kernel
  have ep:Txt.partition (AE (.am d ns)) (Str.ofString "=")=(sgD d,⟨#[61]⟩,Db ns):=by
   rw [e61];refine Tx.part_at 61 (sgD d) (Db ns) ?_;intro z;have:61=48+d.toNat:=by simpa [sgD] using z
   have:=hd.2;omega
  refine ⟨_,(Ag (Av (i:=1) EE.nd rfl (Or.inl rfl) (Dx PySem.F.plainAttrs_str PySem.F.slot_str_partition PySem.F.type_str_partition JM (pv 0) (GZ Ac))) (Ai (Aq (GB d5 (rm hr) rfl Al (Aa (Aj aD (rm hr) rfl Al (Aa (AB AF (pv 1) Ah (fun _ _=>rfl)) Ac)) (Aa (Aj b9 (rm hr) rfl Al (Aa (AB AF (pv 1) Ah (fun _ _=>rfl)) Ac)) Ac)))))),?_⟩
  try dsimp only [cxK]
  refine ⟨_,rfl,rfl,_,_,rfl,rfl,(by decide +kernel),(by omega),fun t ht=>?_⟩;rw [ep];refine ⟨_,rfl,t,_,0,_,rfl,rfl,SqT.of Ab,rfl,d,rfl,hd,_,rfl,t,_,2,_,rfl,rfl,SqT.of Ab,rfl,ns,rfl,hne,by omega,hn,hp,fun t2 H2 s2 ht2=>?_⟩;intro x dx nx ndx nex;have sx:As H2 (upd (upd H2 dx (.own x)) x (.ins a.c_Amounts dx [])):=(Ae ndx).trans (Ae (by rw [Ak (Ne.symm nex)]; exact nx));refine ⟨x,t2,dx,d,rfl,Ab,rfl,?_⟩;have nx2:(upd H2 dx (.own x)) x=none:=by rw [Ak (Ne.symm nex)]; exact nx
  rw [DZ];have sy:As H2 (upd (upd H2 dx (.own x)) x (.ins a.c_Amounts dx (fl2 "state" "numbers" (.int d) (.ref t2)))):=(Ae ndx).trans (Ae nx2);exact k x _ (((Ae ht).trans s2).trans sy) (.am Ab (sy _ _ ht2))
inductive SpRPl (a:Ad) (vs:List V) (H:Hp) (Q:VK):Prop
 | mk (ws:List (Option Int)) (_:vs=[.str (AE (.pl ws))]) (_:(AQ.pl ws).ok) (_:∀ (p:Addr) (H':Hp),As H H'->Dt a H' p (.pl ws)->Q (.ref p) H'):SpRPl a vs H Q
def OM (a:Ad):Sp:=fun vs H Q _=>SpRPl a vs H Q
theorem ok_rpl {f:Addr} {fd:FuncData} (F:Fun K "read_places" "read_places" Bv f fd) (T:Top K mg a) (aH:Cal P w K mg base CX0 2 "read_wanted" Cd spRW)
  (eD:Lc P w K mg base CX0 1 "Places" a.c_Places CJ (GI a)):AS P w K mg base CX0 3 f fd CG (OM a):=by
 refine F.ok GM (fun vs H Q E h=>?_) (fun cdv A outer s H vs Q E hr h=>?_)
 ·obtain ⟨ws,rfl,_⟩:=h;rfl
 ·obtain ⟨ws,rfl,ho,k⟩:=h;have hlen:=FK ho;obtain ⟨h8,hw⟩:=ho;have el:(AE (.pl ws)).length=8:=by rw [Nu.len]; show (ws.map wC).length=8; rw [List.length_map,h8]
  have ec:(AE (.pl ws)).cps.toList=ws.map wC:=rfl;refine ⟨_,(Ag (AX (Ax Fc (AJ Ez rfl T.b_len PySem.boot_len (Aa (pv 0) Ac)) (Ni rfl T.k_NEIGHBOURS) (AI _)) (Ai Dh) Ay) (Ai (Aq (GB eD (rm hr) rfl Al (Aa (Bf CM rfl T.b_tuple PyProof.Rows.boot_tuple (Aa (Du rfl (BU.of (So:=Af Bv) (No:=Fe) (N:=["sign"]) (k:=1) (cs:=[]) rfl rfl (by decide +kernel)) (OZ (pv 0)) (fun _ _ _=>(BW (i:=0) (by decide +kernel) rfl rfl)) (fun _ _ _=>Dg) (fun _ _ _=>(Aj aH (rm hr) rfl Al (Aa (pv 0) Ac)))) Ac)) Ac))))),?_⟩
  try dsimp only [cxK]
  refine ⟨_,rfl,_,rfl,Nat.le_trans hlen (by decide),rfl,_,rfl,?_⟩;rw [el];refine Gh rfl ⟨_,rfl,_,rfl,?_⟩;refine blk_str (fun i acc H2=>H2=H/\acc=(ws.take i).map Ee) ⟨rfl,rfl⟩ ?_ ?_
  ·rintro i ch acc H2 hch ⟨rfl,rfl⟩;rw [ec,List.getElem?_map] at hch;obtain ⟨x,ex,rfl⟩:=Option.map_eq_some_iff.mp hch;refine ⟨⟨[some (.str ⟨#[wC x]⟩)],rfl,rfl⟩,?_,?_⟩
   ·rw [List.length_map,List.length_take];exact Nat.lt_of_le_of_lt (Nat.min_le_right _ _) (by rw [h8]; decide)
   ·refine GG ⟨_,rfl,x,rfl,hw x (List.mem_of_getElem? ex),rfl,?_⟩;rw [List.take_add_one,ex,List.map_append];rfl
  ·rintro acc H2 ⟨rfl,rfl⟩ q nq;rw [ec,List.length_map,List.take_length];refine ⟨q,_,rfl,.inl ⟨SqL.of Ab,fun t ht=>?_⟩⟩;intro x dx nx ndx nex;have nx2:∀ o,(upd (upd (upd H2 q (.lst (ws.map Ee))) t (.tup (ws.map Ee))) dx o) x=none:=fun o=>by rw [Ak (Ne.symm nex)]; exact nx
   refine ⟨x,t,dx,rfl,Ab,rfl,?_⟩;rw [DZ];have s1:As H2 (upd (upd H2 q (.lst (ws.map Ee))) t (.tup (ws.map Ee))):=(Ae nq).trans (Ae ht);have s2:As (upd (upd H2 q (.lst (ws.map Ee))) t (.tup (ws.map Ee))) (upd (upd (upd (upd H2 q (.lst (ws.map Ee))) t (.tup (ws.map Ee))) dx (.own x)) x (.ins a.c_Places dx (fl1 "wanted" (.ref t)))):=(Ae ndx).trans (Ae (nx2 _));exact k x _ (s1.trans s2) (.pl Ab (s2 _ _ Ab))
theorem Ph {f:Addr} {fd:FuncData} (F:Fun K "read_condition" "read_condition" Bd f fd) (T:Top K mg a) (bA:Cal P w K mg base CX0 3 "read_amounts" Cn (ON a)) (bL:Cal P w K mg base CX0 3 "read_places" CG (OM a)) :
  AS P w K mg base CX0 4 f fd BJ (Ju a):=by
 refine F.ok Fr (fun vs H Q E h=>?_) (fun cdv A outer s H vs Q E hr h=>?_)
 ·obtain ⟨d,rfl,_⟩:=h;rfl
 ·obtain ⟨d,rfl,ho,k⟩:=h;refine ⟨_,(Ag (AX (Ax NP DG (pv 0) rfl) (Ai (Aq (Aj bA (rm hr) rfl Al (Aa (pv 0) Ac)))) Ay) (Ai (Aq (Aj bL (rm hr) rfl Al (Aa (pv 0) Ac))))),?_⟩
  try dsimp only [cxK]
  refine ⟨_,rfl,_,_,rfl,rfl,_,rfl,?_⟩;rw [eq_in];cases d with
  | am s ns =>
   have m:61 ∈ (AE (.am s ns)).cps.toList:=by
    show 61 ∈ (sgD s ++ ⟨#[61]⟩ ++ Db ns).cps.toList;rw [Tx.BR,Tx.BR];simp
   rw [decide_eq_true m];exact Ef ⟨_,rfl,s,ns,rfl,ho,k⟩
  | pl ws =>
   have m:¬ 61 ∈ (AE (.pl ws)).cps.toList:=fun z=>by
    obtain ⟨x,hx,e⟩:=List.mem_map.mp (show 61 ∈ ws.map wC from z);exact (IP (ho.2 x hx)).1 e
   rw [decide_eq_false m];exact CA ⟨_,rfl,ws,rfl,ho,k⟩
inductive SpRC (a:Ad) (vs:List V) (H:Hp) (Q:VK):Prop
 | mk (c:AG) (_:vs=[.str (AZ c)]) (_:c.ok) (_:∀ (p:Addr) (H':Hp),As H H'->BY a H' p c->Q (.ref p) H'):SpRC a vs H Q
def spRC (a:Ad):Sp:=fun vs H Q _=>SpRC a vs H Q
theorem Fo {c:AG} (h:c.ok):(AZ c).length<=1000:=by
 have j:=StrLaws.join_length_le ⟨#[32]⟩ (wS c.cell :: (c.conds.map AE ++ [sgD c.makes]));have b:∀ l:List AQ,(∀ d ∈ l,d.ok)->((l.map AE).map (·.length)).sum<=11 * l.length:=by
  intro l;induction l with
  | nil=>intro _; exact Nat.zero_le _
  | cons d r ih =>
   intro hd;have h1:=FK (hd d List.mem_cons_self);have h2:=ih fun e he=>hd e (List.mem_cons_of_mem _ he);simp only [List.map_cons,List.sum_cons,List.length_cons];omega
 have b1:=b c.conds h.conds;have h50:=h.few;simp only [List.map_cons,List.map_append,List.map_nil,List.sum_cons,List.sum_append,List.sum_nil,List.length_cons,List.length_append,List.length_nil,List.length_map] at j;have l1:(wS c.cell).length=1:=rfl;have l2:(sgD c.makes).length=1:=rfl;have l3:(⟨#[32]⟩:Str).length=1:=rfl;rw [l1,l2,l3] at j;unfold AZ;omega
theorem EW (x:Option Int) (h:wOk x):32 ∉ (wS x).cps.toList/\59 ∉ (wS x).cps.toList:=by
 have:=IP h;constructor
 ·intro z;have:32=wC x:=by simpa [wS] using z
  exact (IP h).2.1 this.symm
 ·intro z;have:59=wC x:=by simpa [wS] using z
  exact (IP h).2.2 this.symm
theorem JV {c:AG} (h:c.ok):Txt.split (AZ c) (Str.ofString " ")=wS c.cell :: (c.conds.map AE ++ [sgD c.makes]):=by
 have e:Str.ofString " " = (⟨#[32]⟩:Str):=by decide +kernel
 rw [e];refine Tx.Lj 32 _ (by simp) fun t ht=>?_;rcases List.mem_cons.mp ht with rfl | ht
 ·exact (EW _ h.cell).1
 ·rcases List.mem_append.mp ht with ht | ht
  ·obtain ⟨d,hd,rfl⟩:=List.mem_map.mp ht;exact (Jk (h.conds d hd)).1
  ·rw [List.mem_singleton.mp ht];exact (EW (some c.makes) h.makes).1
theorem cut_mid (x z:V) (ys:List V):IJ (x :: (ys ++ [z])) (some 1) (some (-1))=ys:=by
 have n:(x :: (ys ++ [z])).length=ys.length+2:=by simp
 unfold IJ;rw [n];have h1:HT.sIx (ys.length+2) 0 (some 1)=1:=by
  show (if (1:Int) < 0 then ((1:Int)+((ys.length+2:Nat):Int)).toNat else min (1:Int).toNat (ys.length+2))=1;rw [if_neg (by decide)];show min 1 (ys.length+2)=1;omega
 have h2:HT.sIx (ys.length+2) (ys.length+2) (some (-1))=ys.length+1:=by
  show (if (-1:Int) < 0 then ((-1:Int)+((ys.length+2:Nat):Int)).toNat else min (-1:Int).toNat (ys.length+2))=ys.length+1;rw [if_pos (by decide)];omega
 rw [h1,h2];show (ys ++ [z]).take (ys.length+1 - 1)=ys;rw [Nat.add_sub_cancel,List.take_left' rfl]
theorem at_last (x:V) (ys:List V) (z:V):atI (x :: (ys ++ [z])) (-1)=some z:=by
 have n:(x :: (ys ++ [z])).length=ys.length+2:=by simp
 unfold atI ixN;rw [n,if_neg (by decide),if_pos (by omega)];show (x :: (ys ++ [z]))[((-1:Int)+((ys.length+2:Nat):Int)).toNat]?=some z;rw [show ((-1:Int)+((ys.length+2:Nat):Int)).toNat=ys.length+1 by omega,List.getElem?_cons_succ,List.getElem?_append_right (Nat.le_refl _),Nat.sub_self];rfl
theorem ok_rc {f:Addr} {fd:FuncData} (F:Fun K "read_clause" "read_clause" Bw f fd) (T:Top K mg a) (aD:Cal P w K mg base CX0 1 "read_state" BQ OL) (aH:Cal P w K mg base CX0 2 "read_wanted" Cd spRW)
  (aQ:Cal P w K mg base CX0 4 "read_condition" BJ (Ju a)) (eE:Lc P w K mg base CX0 1 "Clause" a.c_Clause CK (GJ a)):AS P w K mg base CX0 5 f fd CH (spRC a):=by
 refine F.ok Df (fun vs H Q E h=>?_) (fun cdv A outer s H vs Q E hr h=>?_)
 ·obtain ⟨c,rfl,_⟩:=h;rfl
 ·obtain ⟨c,rfl,ho,k⟩:=h;have hlen:=Fo ho;have f50:=ho.few;refine ⟨_,(Ag (AX (EK (Ed (AJ En rfl T.b_isinstance PyProof.Rows.boot_isinstance (Aa (pv 0) (Aa (EU (v:=.ty "str") rfl T.b_str PyProof.Rows.boot_str rfl) Ac))))) (Ai Dh) Ay) (Ag (Av (i:=1) Df.nd rfl (Or.inl rfl) (Dx PySem.F.plainAttrs_str PySem.F.slot_str_split PySem.F.type_str_split LC (pv 0) (GZ Ac))) (Ag (AX (Ax Pf (AJ AV rfl T.b_len PySem.boot_len (Aa (pv 1) Ac)) Ah (AI _)) (Ai Dh) Ay) (Ag (Av (i:=2) Df.nd rfl (Or.inl rfl) (Aj aH (rm hr) rfl Al (Aa (AB Bs (pv 1) Ah (fun _ _=>rfl)) Ac))) (Ag (Av (i:=3) Df.nd rfl (Or.inl rfl) (Bf CM rfl T.b_tuple PyProof.Rows.boot_tuple (Aa (Du rfl (BU.of (So:=Af Bw) (No:=Ff) (N:=["word"]) (k:=1) (cs:=[]) rfl rfl (by decide +kernel)) (Ce (GX Jw (pv 1) (Gz Ah) (Gz (Fw Ep Ah)))) (fun _ _ _=>(BW (i:=0) (by decide +kernel) rfl rfl)) (fun _ _ _=>Dg) (fun _ _ _=>(Aj aQ (rm hr) rfl Al (Aa (pv 0) Ac)))) Ac))) (Ai (Aq (GB eE (rm hr) rfl Al (Aa (pv 2) (Aa (pv 3) (Aa (Aj aD (rm hr) rfl Al (Aa (AB Bs (pv 1) (Fw Ep Ah) (fun _ _=>rfl)) Ac)) Ac))))))))))),?_⟩
  try dsimp only [cxK]
  refine ⟨_,rfl,_,_,_,.type "str",true,rfl,rfl,.of (.str _),MW K,true,rfl,?_⟩;refine CA ⟨_,rfl,rfl,_,_,rfl,rfl,(by decide +kernel),(by omega),fun l hl=>?_⟩;rw [JV ho];have eW:((wS c.cell :: (c.conds.map AE ++ [sgD c.makes])).map V.str)=V.str (wS c.cell) :: ((c.conds.map fun d=>V.str (AE d)) ++ [V.str (sgD c.makes)]):=by
   rw [List.map_cons,List.map_append,List.map_map];rfl
  rw [eW];have hL:∀ o,upd H l o l=some o:=fun o=>Ab;refine ⟨_,rfl,l,_,rfl,.inl (SqL.of Ab),_,_,rfl,rfl,_,rfl,?_⟩;rw [decide_eq_false (by simp; omega:¬ ((((V.str (wS c.cell) :: ((c.conds.map fun d=>V.str (AE d)) ++ [V.str (sgD c.makes)])).length:Nat):Int) < 2))];refine CA ⟨_,rfl,l,_,0,.str (wS c.cell),rfl,rfl,SqL.of Ab,An (j:=0) rfl,c.cell,rfl,ho.cell,?_⟩;refine ⟨_,rfl,_,rfl,_,rfl,_,rfl,l,_,rfl,SqL.of Ab,fun q hq=>⟨q,rfl,⟨_,SqL.of Ab⟩,?_⟩⟩;rw [cut_mid];have s0:As H (upd (upd H l (.lst (V.str (wS c.cell) :: ((c.conds.map fun d=>V.str (AE d)) ++ [V.str (sgD c.makes)])))) q (.lst (c.conds.map fun d=>V.str (AE d)))):=(Ae hl).trans (Ae hq);have nlq:l≠q:=fun z=>by rw [<-z,Ab] at hq; cases hq
  generalize hH1:upd (upd H l (.lst (V.str (wS c.cell) :: ((c.conds.map fun d=>V.str (AE d)) ++ [V.str (sgD c.makes)])))) q (.lst (c.conds.map fun d=>V.str (AE d)))=H1;rw [hH1] at s0;have hq1:H1 q=some (.lst (c.conds.map fun d=>V.str (AE d))):=by rw [<-hH1]; exact Ab
  have hl1:H1 l=some (.lst (V.str (wS c.cell) :: ((c.conds.map fun d=>V.str (AE d)) ++ [V.str (sgD c.makes)]))):=by rw [<-hH1,Ak nlq]; exact Ab
  refine DW (xs:=c.conds.map fun d=>V.str (AE d)) (fun i acc H2=>∃ ps:List Addr,acc=ps.map V.ref/\As H1 H2/\Paired (Dt a H2) ps (c.conds.take i)) ⟨[],rfl,As.refl H1,.nil⟩ (fun i acc H2 _ ⟨ps,_,sm,_⟩=>SqL.of (sm _ _ hq1)) ?_ ?_
  ·rintro i x acc H2 hx ⟨ps,rfl,sm,pr⟩;rw [List.getElem?_map] at hx;obtain ⟨d,ed,rfl⟩:=Option.map_eq_some_iff.mp hx;refine ⟨⟨[some (.str (AE d))],rfl,rfl⟩,?_,?_⟩
   ·have e1:=Paired.length pr;rw [List.length_take] at e1;rw [List.length_map,e1];exact Nat.lt_of_le_of_lt (Nat.min_le_right _ _) (Nat.lt_of_le_of_lt f50 (by decide))
   ·refine GG ⟨_,rfl,d,rfl,ho.conds d (List.mem_of_getElem? ed),fun p H3 s3 hp=>⟨ps ++ [p],by rw [List.map_append]; rfl,sm.trans s3,?_⟩⟩;rw [List.take_add_one,ed];exact Paired.snoc (Paired.imp (fun _ _ z=>z.same s3) pr) hp
  ·rintro acc H2 ⟨ps,rfl,sm,pr⟩ r nr;rw [List.length_map,List.take_length] at pr;refine ⟨r,_,rfl,.inl ⟨SqL.of Ab,fun t ht=>?_⟩⟩;have s3:As H1 (upd (upd H2 r (.lst (ps.map V.ref))) t (.tup (ps.map V.ref))):=(sm.trans (Ae nr)).trans (Ae ht);generalize hH3:upd (upd H2 r (.lst (ps.map V.ref))) t (.tup (ps.map V.ref))=H3;have ht3:H3 t=some (.tup (ps.map V.ref)):=by rw [<-hH3]; exact Ab
   have s23:As H2 H3:=by rw [<-hH3]; exact (Ae nr).trans (Ae ht)
   rw [hH3] at s3;refine ⟨_,rfl,_,rfl,_,rfl,_,rfl,l,_,_,_,rfl,rfl,SqL.of (s3 _ _ hl1),at_last _ _ _,c.makes,rfl,ho.makes,?_⟩;intro x dx nx ndx nex;have nx2:∀ o,(upd H3 dx o) x=none:=fun o=>by rw [Ak (Ne.symm nex)]; exact nx
   refine ⟨x,t,dx,c.cell,c.makes,rfl,Ab,rfl,?_⟩;rw [DZ];have s4:As H3 (upd (upd H3 dx (.own x)) x (.ins a.c_Clause dx (fl3 "cell" "conditions" "makes" (Ee c.cell) (.ref t) (.int c.makes)))):=(Ae ndx).trans (Ae (nx2 _));exact k x _ ((s0.trans s3).trans s4) ⟨dx,t,ps,Ab,s4 _ _ ht3,Paired.imp (fun _ _ z=>(z.same s23).same s4) pr⟩
theorem LS {c:AG} (h:c.ok):59 ∉ (AZ c).cps.toList:=by
 intro z;unfold AZ at z;rw [PyProof.Rows.mem_join] at z;rcases z with ⟨t,ht,z⟩ | ⟨_,z⟩
 ·rcases List.mem_cons.mp ht with rfl | ht
  ·exact (EW _ h.cell).2 z
  ·rcases List.mem_append.mp ht with ht | ht
   ·obtain ⟨d,hd,rfl⟩:=List.mem_map.mp ht;exact (Jk (h.conds d hd)).2 z
   ·rw [List.mem_singleton.mp ht] at z;exact (EW (some c.makes) h.makes).2 z
 ·have:59=32:=by simpa using z
  omega
end
end J
namespace J
open PySem L2
seal L2.PA L2.PE L2.PS L2.PSs L2.PT L2.PW
structure Gw (r:AU):Prop where
 few:r.length<=50
 ok:∀ c ∈ r,c.ok
theorem Gw.rok {r:AU} (h:Gw r):ROk r:=⟨Nat.le_trans h.few (by decide),fun c hc=>⟨Nat.le_trans (h.ok c hc).few (by decide),fun d hd ws e=>by
 subst e;rw [((h.ok c hc).conds _ hd).1];decide⟩⟩
theorem Ln {r:AU} (h:Gw r):(Do r).length<=60000:=by
 have j:=StrLaws.join_length_le IZ (r.map AZ);have b:∀ l:List AG,(∀ c ∈ l,c.ok)->((l.map AZ).map (·.length)).sum<=1000 * l.length:=by
  intro l;induction l with
  | nil=>intro _; exact Nat.zero_le _
  | cons d r ih =>
   intro hd;have h1:=Fo (hd d List.mem_cons_self);have h2:=ih fun e he=>hd e (List.mem_cons_of_mem _ he);simp only [List.map_cons,List.sum_cons,List.length_cons];omega
 have b1:=b r h.ok;have h50:=h.few;have l3:IZ.length=2:=rfl;rw [l3,List.length_map] at j;unfold Do;omega
theorem rule_ne {r:AU} (h:r≠[]):decide (V.str (Do r)=V.str (Str.ofString ""))=false:=by
 refine decide_eq_false fun z=>?_;injection z with z
 obtain ⟨c,hc⟩:=List.exists_mem_of_ne_nil r h;have h1:=PySem.join_mem_le IZ (r.map AZ) (AZ c) (List.mem_map.mpr ⟨c,hc,rfl⟩);have h2:=PySem.join_mem_le ⟨#[32]⟩ (wS c.cell :: (c.conds.map AE ++ [sgD c.makes])) (wS c.cell) List.mem_cons_self;have h3:(wS c.cell).length=1:=rfl;have h4:(Do r).length=0:=by rw [z]; decide +kernel
 unfold Do at h4;have h5:(AZ c).length=(Str.join ⟨#[32]⟩ (wS c.cell :: (c.conds.map AE ++ [sgD c.makes]))).length:=rfl;omega
theorem Dt.put {a:Ad} {H:Hp} {p q:Addr} {o u:HO} {c:AQ} (h:Dt a H q c) (hp:H p=some u) (n:∀ C d fs,u=HO.ins C d fs->fs.lookup ("state" : Str)=none/\fs.lookup ("wanted" : Str)=none/\fs.lookup ("makes" : Str)=none) (nt:∀ xs,u≠.tup xs):Dt a (upd H p o) q c:=by
 have other:∀ {b v},H b=some v->v≠u->upd H p o b=some v:=fun {b v} e d=>by rw [Ak (Da e hp d)]; exact e
 cases h with
 | am h ht =>
  refine .am (other h fun z=>?_) (other ht fun z=>nt _ z.symm);have:=(n _ _ _ z.symm).1;rw [fl2_1 (by decide +kernel)] at this;cases this
 | pl h ht =>
  refine .pl (other h fun z=>?_) (other ht fun z=>nt _ z.symm);have:=(n _ _ _ z.symm).2.1;rw [fl1_1] at this;cases this
theorem BY.put {a:Ad} {H:Hp} {p q:Addr} {o u:HO} {c:AG} (h:BY a H q c) (hp:H p=some u) (n:∀ C d fs,u=HO.ins C d fs->fs.lookup ("state" : Str)=none/\fs.lookup ("wanted" : Str)=none/\fs.lookup ("makes" : Str)=none) (nt:∀ xs,u≠.tup xs):BY a (upd H p o) q c:=by
 have other:∀ {b v},H b=some v->v≠u->upd H p o b=some v:=fun {b v} e d=>by rw [Ak (Da e hp d)]; exact e
 obtain ⟨dx,t,cs,h1,h2,h3⟩:=h.ex;refine ⟨dx,t,cs,other h1 fun z=>?_,other h2 fun z=>nt _ z.symm,Paired.imp (fun _ _ z=>z.put hp n nt) h3⟩;have:=(n _ _ _ z.symm).2.2;rw [fl3_3] at this;cases this
section
variable {P:Program} {w:World} {K:PySem.W.Frag} {mg:Str->Option Value} {base:Heap} {a:Ad}
inductive SpCT (vs:List V) (H:Hp) (Q:VK):Prop
 | mk (r:AU) (_:vs=[.str (Do r)]) (_:Gw r) (_:∀ (l:Addr) (H':Hp),As H H'->H' l=some (.lst (r.map fun c=>V.str (AZ c)))->Q (.ref l) H'):SpCT vs H Q
def spCT:Sp:=fun vs H Q _=>SpCT vs H Q
theorem ok_ct {f:Addr} {fd:FuncData} (F:Fun K "clause_texts" "clause_texts" BE f fd) (T:Top K mg a):AS P w K mg base CX0 1 f fd Cp spCT:=by
 refine F.ok Gm (fun vs H Q E h=>?_) (fun cdv A outer s H vs Q E hr h=>?_)
 ·obtain ⟨r,rfl,_⟩:=h;rfl
 ·obtain ⟨r,rfl,ho,k⟩:=h;have hlen:=Ln ho;refine ⟨_,(Ag (AX (Ax El (pv 0) DG (AI _)) (Ai (Aq (Ck Ac))) Ay) (Ai (Aq (Dx PySem.F.plainAttrs_str PySem.F.slot_str_split PySem.F.type_str_split LC (pv 0) (Aa (GA rfl T.k_CLAUSE_MARK) Ac))))),?_⟩
  try dsimp only [cxK]
  refine ⟨_,rfl,rfl,_,rfl,?_⟩;by_cases hr0:r=[]
  ·subst hr0;refine Ef ⟨(by show 0<=sizeLine; decide),fun l hl=>?_⟩;exact k l _ (Ae hl) Ab
  ·rw [rule_ne hr0];refine CA ⟨_,rfl,rfl,_,_,rfl,rfl,(by decide +kernel),(by omega),fun l hl=>?_⟩;have em:Str.ofString "; " = (⟨#[59,32]⟩:Str):=by decide +kernel
   have e:Txt.split (Do r) (Str.ofString "; ")=r.map AZ:=by
    rw [em];refine Tx.Li _ (by simpa using hr0) fun t ht=>?_;obtain ⟨c,hc,rfl⟩:=List.mem_map.mp ht;exact LS (ho.ok c hc)
   rw [e,List.map_map];exact k l _ (Ae hl) Ab
inductive SpRI (a:Ad) (vs:List V) (H:Hp) (Q:VK):Prop
 | mk (p dx:Addr) (r:AU) (_:vs=[.ref p,.str (Do r)]) (_:H p=some (.ins a.c_Rule dx [])) (_:Gw r) (_:∀ H',(∀ b o,H b=some o->b≠p->H' b=some o)->EA a H' p (Do r) r->Q .non H'):SpRI a vs H Q
def spRI (a:Ad):Sp:=fun vs H Q _=>SpRI a vs H Q
theorem ok_ri {f:Addr} {fd:FuncData} (F:Fun K "__init__" "Rule.__init__" Cj f fd) (T:Top K mg a) (bC:Cal P w K mg base CX0 1 "clause_texts" Cp spCT) (bM:Cal P w K mg base CX0 5 "read_clause" CH (spRC a)) :
  AS P w K mg base CX0 6 f fd DC (spRI a):=by
 refine F.ok Jy (fun vs H Q E h=>?_) (fun cdv A outer s H vs Q E hr h=>?_)
 ·obtain ⟨p,dx,r,rfl,_⟩:=h;rfl
 ·obtain ⟨p,dx,r,rfl,hp,ho,k⟩:=h;have hlen:=Ln ho;have f50:=ho.few;refine ⟨_,(Ag (EL (pv 0) (pv 1) rfl) (Ai (EL (pv 0) (Bf CM rfl T.b_tuple PyProof.Rows.boot_tuple (Aa (Du rfl (BU.of (So:=Af Cj) (No:=Gf) (N:=["part"]) (k:=1) (cs:=[]) rfl rfl (by decide +kernel)) (Ce (Aj bC (rm hr) rfl Al (Aa (pv 1) Ac))) (fun _ _ _=>(BW (i:=0) (by decide +kernel) rfl rfl)) (fun _ _ _=>Dg) (fun _ _ _=>(Aj bM (rm hr) rfl Al (Aa (pv 0) Ac)))) Ac)) rfl))),?_⟩
  try dsimp only [cxK]
  refine ⟨_,rfl,_,rfl,p,_,dx,[],rfl,hp,T.cl_Rule,T.na_Rule_text,(by show 0 < 1000; decide),?_⟩;generalize hH1:upd H p (.ins a.c_Rule dx (Dw "text" (.str (Do r)) []))=H1;have hp1:H1 p=some (.ins a.c_Rule dx (Dw "text" (.str (Do r)) [])):=by rw [<-hH1]; exact Ab
  have k1:∀ b o,H b=some o->b≠p->H1 b=some o:=fun b o e n=>by rw [<-hH1,Ak n]; exact e
  refine ⟨_,rfl,r,rfl,ho,fun l H2 s2 hl=>⟨l,rfl,⟨_,SqL.of hl⟩,?_⟩⟩;refine DW (xs:=r.map fun c=>V.str (AZ c)) (fun i acc H3=>∃ ps:List Addr,acc=ps.map V.ref/\As H2 H3/\Paired (BY a H3) ps (r.take i)) ⟨[],rfl,As.refl H2,.nil⟩ (fun i acc H3 _ ⟨ps,_,sm,_⟩=>SqL.of (sm _ _ hl)) ?_ ?_
  ·rintro i x acc H3 hx ⟨ps,rfl,sm,pr⟩;rw [List.getElem?_map] at hx;obtain ⟨c,ec,rfl⟩:=Option.map_eq_some_iff.mp hx;refine ⟨⟨[some (.str (AZ c))],rfl,rfl⟩,?_,?_⟩
   ·have e1:=Paired.length pr;rw [List.length_take] at e1;rw [List.length_map,e1];exact Nat.lt_of_le_of_lt (Nat.min_le_right _ _) (Nat.lt_of_le_of_lt f50 (by decide))
   ·refine GG ⟨_,rfl,c,rfl,ho.ok c (List.mem_of_getElem? ec),fun q H4 s4 hq=>⟨ps ++ [q],by rw [List.map_append]; rfl,sm.trans s4,?_⟩⟩;rw [List.take_add_one,ec];exact Paired.snoc (Paired.imp (fun _ _ z=>z.same s4) pr) hq
  ·rintro acc H3 ⟨ps,rfl,sm,pr⟩ q nq;rw [List.length_map,List.take_length] at pr;refine ⟨q,_,rfl,.inl ⟨SqL.of Ab,fun t ht=>?_⟩⟩;generalize hH4:upd (upd H3 q (.lst (ps.map V.ref))) t (.tup (ps.map V.ref))=H4;have s34:As H3 H4:=by rw [<-hH4]; exact (Ae nq).trans (Ae ht)
   have ht4:H4 t=some (.tup (ps.map V.ref)):=by rw [<-hH4]; exact Ab
   have s14:As H1 H4:=(s2.trans sm).trans s34;have ntp:t≠p:=fun z=>by rw [z,s14 _ _ hp1] at ht4; cases ht4
   refine ⟨_,rfl,p,_,dx,_,rfl,s14 _ _ hp1,T.cl_Rule,T.na_Rule_clauses,(by show 1 < 1000; decide),?_⟩;have up:∀ b o,H4 b=some o->b≠p->upd H4 p (.ins a.c_Rule dx (fl2 "text" "clauses" (.str (Do r)) (.ref t))) b=some o:=fun b o e n=>by rw [Ak n]; exact e
   have cl:∀ q' c,BY a H4 q' c->BY a (upd H4 p (.ins a.c_Rule dx (fl2 "text" "clauses" (.str (Do r)) (.ref t)))) q' c:=fun q' c hc=>by
    exact hc.put (s14 _ _ hp1) (fun C d fs e=>by
     cases e;exact ⟨JT (by decide +kernel),JT (by decide +kernel),JT (by decide +kernel)⟩) (fun xs z=>by cases z)
   exact k _ (fun b o e n=>up _ _ (s14 _ _ (k1 b o e n)) n) ⟨dx,t,ps,Ab,up _ _ ht4 ntp,Paired.imp (fun q' c z=>cl q' c (z.same s34)) pr⟩
def Eb:List Int:=[0,0,0,0,0,0,0,0]
inductive SpRR (a:Ad) (vs:List V) (H:Hp) (Q:VK):Prop
 | mk (r:AU) (_:vs=[.str (Do r)]) (_:Gw r) (_:Fp r 0 Eb=0) (_:∀ (p:Addr) (H':Hp),As H H'->EA a H' p (Do r) r->Q (.ref p) H'):SpRR a vs H Q
def spRR (a:Ad):Sp:=fun vs H Q _=>SpRR a vs H Q
theorem ok_rr {f:Addr} {fd:FuncData} (F:Fun K "read_rule" "read_rule" CW f fd) (T:Top K mg a) (fZ:Lc P w K mg base CX0 6 "Rule" a.c_Rule DC (spRI a)) (aW:Cal P w K mg base CX0 5 "becomes" DQ (MZ a)) :
  AS P w K mg base CX0 8 f fd Dy (spRR a):=by
 refine F.ok Fq (fun vs H Q E h=>?_) (fun cdv A outer s H vs Q E hr h=>?_)
 ·obtain ⟨r,rfl,_⟩:=h;rfl
 ·obtain ⟨r,rfl,ho,hz,k⟩:=h;refine ⟨_,(Ag (AX (EK (Ed (AJ En rfl T.b_isinstance PyProof.Rows.boot_isinstance (Aa (pv 0) (Aa (EU (v:=.ty "str") rfl T.b_str PyProof.Rows.boot_str rfl) Ac))))) (Ai Dh) Ay) (Ag (Av (i:=1) Fq.nd rfl (Or.inl rfl) (GB fZ (rm hr) rfl Al (Aa (pv 0) Ac))) (Ag (AX (Ax Fc (Aj aW (rm hr) rfl Al (Aa (pv 1) (Au (AO op_rep (Ck (Au Ac)) (Ni rfl T.k_NEIGHBOURS) Ac)))) Ah (AI _)) (Ai Dh) Ay) (Ai (Aq (pv 1)))))),?_⟩
  try dsimp only [cxK]
  refine ⟨_,rfl,_,_,_,.type "str",true,rfl,rfl,.of (.str _),MW K,true,rfl,?_⟩;refine CA ⟨_,rfl,?_⟩;intro x dx nx ndx nex;refine ⟨x,dx,r,rfl,Ab,ho,fun H2 kp hR=>⟨rfl,?_⟩⟩;have s2:As H H2:=fun b o e=>kp b o (by rw [Ak (Ar e nx),Ak (Ar e ndx)]; exact e) (Ar e nx);refine ⟨_,rfl,(by show 1<=sizeLine; decide),fun l hl=>?_⟩;refine ⟨l,8,_,rfl,rfl,Ab,(by decide),(by decide),(by decide),fun m hm=>?_⟩;have s3:=(s2.trans (Ae (o:=.lst [.int 0]) hl)).trans (Ae (o:=.lst (Eb.map V.int)) hm);have s23:=(Ae (o:=.lst [.int 0]) hl).trans (Ae (o:=.lst (Eb.map V.int)) hm);refine ⟨x,m,_,r,0,Eb,rfl,hR.same s23,ho.rok,Ab,fun H4 s4=>?_⟩;refine ⟨rfl,_,rfl,?_⟩;rw [hz];refine Gh rfl ⟨_,rfl,?_⟩;exact k x H4 (s3.trans s4) ((hR.same s23).same s4)
end
end J
namespace J
open PySem L2
seal L2.PA L2.PE L2.PS L2.PSs L2.PT L2.PW
def atN (ns:List Int) (k:Int):Int:=ns.getD k.toNat 0
theorem Pz (K:PySem.W.Frag):PySem.W.kitOne K (.type "int") (.type "int")=some true/\PySem.W.kitOne K (.type "int") (.type "bool")=some false:=⟨by kernel_rfl,by kernel_rfl⟩
theorem kit_ni (K:PySem.W.Frag):PySem.W.kitOne K (.type "NoneType") (.type "int")=some false:=by kernel_rfl
section
variable {P:Program} {w:World} {K:PySem.W.Frag} {mg:Str->Option Value} {base:Heap} {a:Ad}
inductive SpAt (K:PySem.W.Frag) (vs:List V) (H:Hp) (Q:VK):Prop
 | mk (l:Addr) (ns:List Int) (k:Int) (_:vs=[.ref l,.int k]) (_:SqL K H l (ns.map V.int)) (_:0<=k) (_:Q (.int (atN ns k)) H):SpAt K vs H Q
def OP (K:PySem.W.Frag):Sp:=fun vs H Q _=>SpAt K vs H Q
theorem ok_at {f:Addr} {fd:FuncData} (F:Fun K "_law_at" "_law_at" DP f fd) (T:Top K mg a):AS P w K mg base CX0 1 f fd Dr (OP K):=by
 refine F.ok Mm (fun vs H Q E h=>?_) (fun cdv A outer s H vs Q E hr h=>?_)
 ·obtain ⟨l,ns,k,rfl,_⟩:=h;rfl
 ·obtain ⟨l,ns,k,rfl,hS,h0,q⟩:=h;refine ⟨_,(Ag (AX (Ax Pf (pv 1) (AJ AV rfl T.b_len PySem.boot_len (Aa (pv 0) Ac)) (AI _)) (Ai (Aq (AB Bs (pv 0) (pv 1) (fun _ _=>rfl)))) Ay) (Ai (Aq Ah))),?_⟩
  try dsimp only [cxK]
  refine ⟨_,rfl,_,rfl,l,_,rfl,.inl hS,_,_,rfl,rfl,_,rfl,?_⟩;obtain ⟨n,rfl⟩:=Int.eq_ofNat_of_zero_le h0;refine II (fun hc=>?_) (fun hc=>?_)
  ·have hc':n < ns.length:=by
    have:=of_decide_eq_true hc;rw [List.length_map] at this;omega
   refine ⟨_,rfl,_,rfl,l,_,n,.int ns[n],rfl,rfl,hS,An (by rw [List.getElem?_map,List.getElem?_eq_getElem hc']; rfl),?_⟩;have e:atN ns (n:Int)=ns[n]:=by
    unfold atN;rw [Int.toNat_natCast,List.getD_eq_getElem?_getD,List.getElem?_eq_getElem hc'];rfl
   rw [e] at q;exact q
  ·have hc':ns.length<=n:=by
    have:¬ (n:Int) < ((ns.map V.int).length:Int):=fun z=>hc (decide_eq_true z);rw [List.length_map] at this;omega
   have e:atN ns (n:Int)=0:=by
    unfold atN;rw [Int.toNat_natCast,List.getD_eq_getElem?_getD,List.getElem?_eq_none hc'];rfl
   rw [e] at q;exact q
def spWh:Sp:=fun vs H Q _=>(∃ i:Int,vs=[.int i]/\Q (.bl true) H)\/(vs=[.non]/\Q (.bl false) H)
theorem ok_wh {f:Addr} {fd:FuncData} (F:Fun K "_law_whole" "_law_whole" Cv f fd) (T:Top K mg a):AS P w K mg base CX0 1 f fd Di spWh:=by
 refine F.ok IC (fun vs H Q E h=>?_) (fun cdv A outer s H vs Q E hr h=>?_)
 ·rcases h with ⟨i,rfl,_⟩ | ⟨rfl,_⟩<;>rfl
 ·refine ⟨_,(Ai (Aq (Mo (AJ En rfl T.b_isinstance PyProof.Rows.boot_isinstance (Aa (pv 0) (Aa (EU (v:=.ty "int") rfl T.b_int PyProof.Rows.boot_int rfl) Ac))) (JA (pe_not (AJ En rfl T.b_isinstance PyProof.Rows.boot_isinstance (Aa (pv 0) (Aa (EU (v:=.ty "bool") rfl T.b_bool PyProof.Rows.boot_bool rfl) Ac)))))))),?_⟩;rcases h with ⟨i,rfl,k⟩ | ⟨rfl,k⟩
  ·exact ⟨_,rfl,_,_,_,.type "int",true,rfl,rfl,.of (.int i),(Pz K).1,true,rfl,Ef ⟨_,rfl,_,_,_,.type "int",false,rfl,rfl,.of (.int i),(Pz K).2,false,rfl,k⟩⟩
  ·exact ⟨_,rfl,_,_,_,.type "NoneType",false,rfl,rfl,.of .non,kit_ni K,false,rfl,CA k⟩
end
theorem FO {d:Int} (h0:0<=d) (h1:d<=9):d.natAbs.log2 < 1920:=by
 obtain ⟨m,rfl⟩:=Int.eq_ofNat_of_zero_le h0;exact (show ∀ m:Nat,m < 10->(m:Int).natAbs.log2 < 1920 by decide +kernel) m (by omega)
theorem Eu {n:Nat} (h:n<=100000):n<=sizeLine:=Nat.le_trans h (by decide)
abbrev Lh:Str:=Str.ofString "01234567*"
theorem MX:∀ m:Nat,m < 9->Lh.cps.toList[m]?=some (if m=8 then 42 else 48+m):=by decide +kernel
inductive SpLaw (K:PySem.W.Frag) (vs:List V) (H:Hp) (Q:VK):Prop
 | mk (a:Addr) (ns:List Int) (_:vs=[.ref a]) (_:SqL K H a (ns.map V.int)) (_:ns.length<=63) (_:∀ H',Q (.bl true) H'):SpLaw K vs H Q
def MY (K:PySem.W.Frag):Sp:=fun vs H Q _=>SpLaw K vs H Q
def Fj (n:Int) (k:Nat):Bool:=decide (V.int (Builtin.bitAnd (n / 2 ^ k) 1)=V.int 1)
def EQ (n:Int):List Int:=((List.range 9).filter (Fj n)).map fun (k:Nat)=>(k:Int)
theorem nums_ne:∀ m:Nat,m < 511->EQ ((m:Int)+1)≠[]:=by decide +kernel
theorem Pi (n:Int):(EQ n).Pairwise (· < ·):=by
 unfold EQ;rw [List.pairwise_map];have:((List.range 9).filter (Fj n)).Pairwise (· < ·):=List.pairwise_lt_range.sublist List.filter_sublist;exact this.imp fun h=>by omega
theorem nums_in (n:Int):∀ m ∈ EQ n,0<=m/\m<=8:=fun m hm=>by
 obtain ⟨k,hk,rfl⟩:=List.mem_map.mp hm;have:=List.mem_range.mp (List.mem_filter.mp hk).1;omega
end J
namespace J
open PySem L2
seal L2.PA L2.PE L2.PS L2.PSs L2.PT L2.PW
abbrev amT:Str:=Str.ofString "amount"
abbrev plT:Str:=Str.ofString "places"
def unO:Option Int->Int
 | none=>8
 | some d=>d
inductive BT (H:Hp):Addr->AQ->Prop where
 | am {q l:Addr} {s:Int} {ns:List Int} (h:H q=some (.tup [.str amT,.int s,.ref l])) (hl:H l=some (.lst (ns.map V.int))):BT H q (.am s ns)
 | pl {q l:Addr} {ws:List (Option Int)} (h:H q=some (.tup [.str plT,.ref l])) (hl:H l=some (.lst (ws.map fun w=>V.int (unO w)))):BT H q (.pl ws)
structure Jr (H:Hp) (q:Addr) (c:AG):Prop where
 ex:∃ (l:Addr) (ds:List Addr),H q=some (.tup [.int (unO c.cell),.ref l,.int c.makes])/\H l=some (.lst (ds.map V.ref))/\Paired (BT H) ds c.conds
structure FL (H:Hp) (q:Addr) (r:AU):Prop where
 ex:∃ cs:List Addr,H q=some (.lst (cs.map V.ref))/\Paired (Jr H) cs r
theorem BT.same {H H':Hp} {q:Addr} {d:AQ} (s:As H H') (h:BT H q d):BT H' q d:=by
 cases h with
 | am h hl=>exact .am (s _ _ h) (s _ _ hl)
 | pl h hl=>exact .pl (s _ _ h) (s _ _ hl)
theorem Jr.same {H H':Hp} {q:Addr} {c:AG} (s:As H H') (h:Jr H q c):Jr H' q c:=by
 obtain ⟨l,ds,h1,h2,h3⟩:=h.ex;exact ⟨l,ds,s _ _ h1,s _ _ h2,Paired.imp (fun _ _ z=>z.same s) h3⟩
theorem FL.same {H H':Hp} {q:Addr} {r:AU} (s:As H H') (h:FL H q r):FL H' q r:=by
 obtain ⟨cs,h1,h2⟩:=h.ex;exact ⟨cs,s _ _ h1,Paired.imp (fun _ _ z=>z.same s) h2⟩
theorem unO_le {x:Option Int} (h:wOk x):0<=unO x/\unO x<=8:=by
 cases x with
 | none=>exact ⟨by decide,by decide⟩
 | some d=>exact ⟨h.1,Int.le_of_lt h.2⟩
theorem OH {x:Option Int} (h:wOk x):atI Lh.cps.toList (unO x)=some (wC x):=by
 cases x with
 | none=>exact An (MX 8 (by decide))
 | some d =>
  obtain ⟨n,hn⟩:=Int.eq_ofNat_of_zero_le h.1;have h2:=h.2;have hn8:n≠8:=by omega
  show atI Lh.cps.toList d=some (48+d.toNat);rw [hn,Int.toNat_natCast];have:=MX n (by omega);rw [if_neg hn8] at this;exact An this
theorem Lf {x:Option Int} (h:wOk x) (y:Int):Cg x y=(decide (unO x=8) || decide (unO x=y)):=by
 cases x with
 | none=>rfl
 | some d =>
  have:=h.2;show decide (d=y)=(decide (d=8) || decide (d=y))
  rw [decide_eq_false (by omega:¬ d=8),Bool.false_or]
theorem join_w (ws:List (Option Int)):Str.join (Str.ofString "") (ws.map fun w=>(⟨#[wC w]⟩:Str))=AE (.pl ws):=by
 have e3:Str.ofString "" = (⟨#[]⟩:Str):=by decide +kernel
 rw [e3];refine Nu.ext ?_;rw [Tx.DD,Tx.ME,List.map_map];show (ws.map _).flatten=ws.map wC;induction ws with
 | nil=>rfl
 | cons x r ih=>rw [List.map_cons,List.flatten_cons,ih,List.map_cons]; rfl
theorem PC {ns:List Int} (h:∀ m ∈ ns,0<=m/\m<=8):Str.join (Str.ofString "") (ns.map fun n=>Str.ofString (toString n))=Db ns:=by
 have e3:Str.ofString "" = (⟨#[]⟩:Str):=by decide +kernel
 rw [e3];refine Nu.ext ?_;rw [Tx.DD,Tx.ME,List.map_map];show (ns.map _).flatten=ns.map fun n=>48+n.toNat;induction ns with
 | nil=>rfl
 | cons n r ih =>
  have h1:=h n List.mem_cons_self;rw [List.map_cons,List.flatten_cons,ih fun m hm=>h m (List.mem_cons_of_mem _ hm)];show (Str.ofString (toString n)).cps.toList ++ _=_;rw [Tx.FI h1.1 (by omega)];rfl
theorem JU {d:Int} (h0:0<=d) (h1:d<=9):(Str.ofString (toString d)).length=1:=by rw [Tx.FI h0 h1]; rfl
section
variable {P:Program} {w:World} {K:PySem.W.Frag} {mg:Str->Option Value} {base:Heap} {a:Ad}
inductive SpMix (vs:List V) (H:Hp) (Q:VK):Prop
 | mk (c k:Int) (_:vs=[.int c,.int k]) (_:0<=k) (_:k<=1000000) (_:∀ i:Int,0<=i->Q (.int i) H):SpMix vs H Q
def Ll:Sp:=fun vs H Q _=>SpMix vs H Q
theorem ok_mix {f:Addr} {fd:FuncData} (F:Fun K "_law_mix" "_law_mix" Dq f fd):AS P w K mg base CX0 1 f fd CU Ll:=by
 refine F.ok Gc (fun vs H Q E h=>?_) (fun cdv A outer s H vs Q E hr h=>?_)
 ·obtain ⟨c,k,rfl,_⟩:=h;rfl
 ·obtain ⟨c,k,rfl,h0,h1,q⟩:=h;refine ⟨_,(Ag (Av (i:=2) Gc.nd rfl (Or.inl rfl) (AA Bb (AA Fn (AA AH (AA AH (AA Bb (pv 0) Ah) (AA Fn Ah (pv 1))) Ah) (AA AH Ah (AA Fn Ah (pv 1)))) Ah)) (Ai (Aq (AA Dv (AA Bb (AA Fn (AA AH (AA Dv (pv 2) Ah) (pv 1)) Ah) Ah) Ah)))),?_⟩
  try dsimp only [cxK]
  refine ⟨_,rfl,_,_,rfl,rfl,(by show (0:Int) < 998244353; decide),_,rfl,_,_,rfl,rfl,.inl ⟨by decide,by decide⟩,_,_,rfl,rfl,_,_,rfl,rfl,_,rfl,_,_,rfl,rfl,.inl ⟨by decide,by decide⟩,_,_,rfl,rfl,_,_,rfl,rfl,.inr ⟨by omega,by omega⟩,_,_,rfl,rfl,(by show (0:Int) < 2147483647; decide),?_⟩;refine ⟨_,rfl,_,_,rfl,rfl,⟨by decide,by decide⟩,_,rfl,_,_,rfl,rfl,_,_,rfl,rfl,.inr ⟨by decide,by decide⟩,_,_,rfl,rfl,(by show (0:Int) < 2147483629; decide),_,_,rfl,rfl,⟨by decide,by decide⟩,?_⟩;exact q _ (by omega)
inductive SpSt (vs:List V) (H:Hp) (Q:VK):Prop
 | mk (m:Addr) (x y v:Int) (_:vs=[.ref m,.int v]) (_:H m=some (.tup [.int x,.int y])) (_:Gk x) (_:Gk y) (_:∀ d:Int,Gk d->Q (.int d) H):SpSt vs H Q
def OK:Sp:=fun vs H Q _=>SpSt vs H Q
theorem ok_st {f:Addr} {fd:FuncData} (F:Fun K "_law_state_by" "_law_state_by" Bk f fd):AS P w K mg base CX0 1 f fd Ba OK:=by
 refine F.ok FQ (fun vs H Q E h=>?_) (fun cdv A outer s H vs Q E hr h=>?_)
 ·obtain ⟨m,x,y,v,rfl,_⟩:=h;rfl
 ·obtain ⟨m,x,y,v,rfl,hm,hx,hy,q⟩:=h;refine ⟨_,(Ag (AX (Ax Pf (AA Bb (pv 1) Ah) Ah (AI _)) (Ai (Aq (AB AF (pv 0) (AA Bb (pv 1) Ah) (fun _ _=>rfl)))) Ay) (Ai (Aq (AA Bb (AA Dv (pv 1) Ah) Ah)))),?_⟩
  try dsimp only [cxK]
  refine ⟨_,rfl,_,_,rfl,rfl,(by show (0:Int) < 3; decide),_,_,rfl,rfl,_,rfl,?_⟩;refine II (fun hc=>?_) (fun _=>?_)
  ·have hc':v % 3 < 2:=of_decide_eq_true hc;rcases (show v % 3=0\/v % 3=1 by omega) with e | e
   ·exact ⟨_,rfl,_,rfl,_,_,rfl,rfl,(by show (0:Int) < 3; decide),m,_,_,.int x,rfl,rfl,SqT.of hm,(by rw [e]; exact An (j:=0) rfl),q x hx⟩
   ·exact ⟨_,rfl,_,rfl,_,_,rfl,rfl,(by show (0:Int) < 3; decide),m,_,_,.int y,rfl,rfl,SqT.of hm,(by rw [e]; exact An (j:=1) rfl),q y hy⟩
  ·exact ⟨_,rfl,_,_,rfl,rfl,⟨by decide,by decide⟩,_,_,rfl,rfl,(by show (0:Int) < 8; decide),q _ ⟨by omega,by omega⟩⟩
def Md (H:Hp) (m:Addr):Prop:=∃ x y:Int,H m=some (.tup [.int x,.int y])/\Gk x/\Gk y
theorem Md.same {H H':Hp} {m:Addr} (s:As H H') (h:Md H m):Md H' m:=by
 obtain ⟨x,y,h1,h2⟩:=h;exact ⟨x,y,s _ _ h1,h2⟩
inductive SpCo (vs:List V) (H:Hp) (Q:VK):Prop
 | mk (m:Addr) (sd j:Int) (_:vs=[.ref m,.int sd,.int j]) (_:Md H m) (_:0<=j) (_:j<=900000) (_:∀ (q:Addr) (d:AQ) (H':Hp),As H H'->BT H' q d->d.ok->Q (.ref q) H'):SpCo vs H Q
def spCo:Sp:=fun vs H Q _=>SpCo vs H Q
theorem ok_co {f:Addr} {fd:FuncData} (F:Fun K "_law_condition_by" "_law_condition_by" AK f fd) (T:Top K mg a) (aC:Cal P w K mg base CX0 1 "_law_mix" CU Ll) (aB:Cal P w K mg base CX0 1 "_law_state_by" Ba OK) :
  AS P w K mg base CX0 2 f fd Bc spCo:=by
 refine F.ok AW (fun vs H Q E h=>?_) (fun cdv A outer s H vs Q E hr h=>?_)
 ·obtain ⟨m,sd,j,rfl,_⟩:=h;rfl
 ·obtain ⟨m,sd,j,rfl,⟨mx,my,hm,hx,hy⟩,h0,h1,k⟩:=h;refine ⟨_,(Ag (AX (Ax El (AA Bb (Aj aC (rm hr) rfl Al (Aa (pv 1) (Aa (pv 2) Ac))) Ah) Ah (AI _)) (Ag (Av (i:=3) AW.nd rfl (Or.inl rfl) (Ck Ac)) (Ag (BP PassesOwn.never rfl (CZ rfl T.b_range (Au Ac)) (AR (i:=4) AW.nd rfl (Or.inl rfl)) (Ag (Av (i:=5) AW.nd rfl (Or.inl rfl) (Aj aC (rm hr) rfl Al (Aa (pv 1) (AO AH (AA AH (pv 2) Ah) (pv 4) Ac)))) (Ai (AX (Ax El (AA Bb (AA Dv (pv 5) Ah) Ah) Ah (AI _)) (Ai (CO (Dx PySem.F.plainAttrs_list PySem.F.slot_list_append PySem.F.type_list_append Cz (pv 3) (Aa (Aj aB (rm hr) rfl Al (Aa (pv 0) (Aa (pv 5) Ac))) Ac)))) (Ai (CO (Dx PySem.F.plainAttrs_list PySem.F.slot_list_append PySem.F.type_list_append Cz (pv 3) (Au Ac)))))))) (Ai (Aq (CT (GZ (Aa (pv 3) Ac))))))) Ay) (Ag (Av (i:=6) AW.nd rfl (Or.inr rfl) (AA AH (AA Bb (Aj aC (rm hr) rfl Al (Aa (pv 1) (AO AH (pv 2) Ah Ac))) Ah) Ah)) (Ai (Aq (CT (GZ (Aa (Aj aB (rm hr) rfl Al (Aa (pv 0) (Aa (Aj aC (rm hr) rfl Al (Aa (pv 1) (AO AH (pv 2) Ah Ac))) Ac))) (Aa (Du rfl (BU.of (So:=Af AK) (No:=DI) (N:=["_law_k","_law_mask"]) (k:=1) (cs:=[6]) rfl rfl (by decide +kernel)) (CZ rfl T.b_range (Au Ac)) (fun _ _ _=>(BW (i:=0) (by decide +kernel) rfl rfl)) (fun _ _ _=>(pts_one (Ax El (AA op_and (AA op_shr (pv 1) (pv 0)) Ah) Ah (AI _)))) (fun _ _ _=>(pv 0))) Ac)))))))),?_⟩
  try dsimp only [cxK]
  refine ⟨_,rfl,_,rfl,sd,j,rfl,h0,by omega,fun v hv=>⟨_,_,rfl,rfl,(by show (0:Int) < 3; decide),rfl,_,rfl,?_⟩⟩;refine II (fun _=>?_) (fun _=>?_)
  ·refine ⟨(by show 0<=sizeLine; decide),fun l hl=>?_⟩;refine ⟨8,rfl,by decide,by decide,Ds (n:=8) (fun i σ H2=>∃ (ws:List (Option Int)) (u5 u6 u7:Option V),σ=[some (.ref m),some (.int sd),some (.int j),some (.ref l),u5,u6,u7]/\H2=upd H l (.lst (ws.map fun w=>V.int (unO w)))/\ws.length=i/\∀ x ∈ ws,wOk x) ⟨[],none,none,none,rfl,rfl,rfl,fun x hx=>by simp at hx⟩ ?_ ?_⟩
   ·rintro i σ H2 hi ⟨ws,u5,u6,u7,rfl,rfl,hn,hw⟩;have lt:(ws.map fun w=>V.int (unO w)).length < sizeLine:=by rw [List.length_map,hn]; exact Nat.lt_of_lt_of_le hi (by decide)
    have hm2:upd H l (.lst (ws.map fun w=>V.int (unO w))) m=some (.tup [.int mx,.int my]):=Ae hl _ _ hm;refine ⟨_,rfl,_,rfl,_,_,rfl,rfl,_,rfl,_,_,rfl,rfl,sd,_,rfl,by omega,by omega,fun v2 hv2=>?_⟩;have app:∀ x:Option Int,wOk x->∀ u6 u7,∃ (ws':List (Option Int)) (u5' u6' u7':Option V),([some (.ref m),some (.int sd),some (.int j),some (.ref l),some (.int (0+(i:Int))),u6,u7]:St)=[some (.ref m),some (.int sd),some (.int j),some (.ref l),u5',u6',u7'] /\
      upd (upd H l (.lst (ws.map fun w=>V.int (unO w)))) l (.lst ((ws.map fun w=>V.int (unO w)) ++ [V.int (unO x)]))=upd H l (.lst (ws'.map fun w=>V.int (unO w)))/\ws'.length=i+1/\∀ x ∈ ws',wOk x:=fun x hx u6 u7 =>
     ⟨ws ++ [x],_,_,_,rfl,by rw [DZ,List.map_append]; rfl,by rw [List.length_append,hn]; rfl,fun y hy=>by
      rcases List.mem_append.mp hy with q | q
      ·exact hw y q
      ·rw [List.mem_singleton.mp q]; exact hx⟩
    refine ⟨_,rfl,_,_,rfl,rfl,⟨by decide,by decide⟩,_,_,rfl,rfl,(by show (0:Int) < 3; decide),rfl,_,rfl,?_⟩;refine II (fun _=>?_) (fun _=>?_)
    ·exact ⟨_,rfl,.inl ⟨rfl,_,SqL.of Ab⟩,_,rfl,_,rfl,m,mx,my,v2,rfl,hm2,hx,hy,fun d hd=>⟨l,_,_,rfl,rfl,Ab,lt,app (some d) hd _ _⟩⟩
    ·exact ⟨_,rfl,.inl ⟨rfl,_,SqL.of Ab⟩,l,_,_,rfl,rfl,Ab,lt,app none trivial _ _⟩
   ·rintro σ H2 ⟨ws,u5,u6,u7,rfl,rfl,hn,hw⟩;refine ⟨_,rfl,(by show 2<=sizeLine; decide),fun q hq=>?_⟩;have s2:=(Ae (o:=.lst (ws.map fun w=>V.int (unO w))) hl).trans (Ae (o:=.tup [.str plT,.ref l]) hq);exact k q (.pl ws) _ s2 (.pl Ab (Ae hq _ _ Ab)) ⟨hn,hw⟩
  ·refine ⟨_,rfl,_,rfl,_,_,rfl,rfl,sd,_,rfl,by omega,by omega,fun v2 hv2=>⟨_,_,rfl,rfl,(by show (0:Int) < 511; decide),_,_,rfl,rfl,?_⟩⟩;have hmask:∃ n:Nat,n < 511/\v2 % 511+1=(n:Int)+1:=by
    obtain ⟨n,hn⟩:=Int.eq_ofNat_of_zero_le (show 0<=v2 % 511 by omega);exact ⟨n,by omega,by omega⟩
   refine ⟨_,rfl,_,rfl,_,rfl,_,_,rfl,rfl,sd,_,rfl,by omega,by omega,fun v3 hv3=>⟨m,mx,my,v3,rfl,hm,hx,hy,fun d hd=>?_⟩⟩;refine ⟨9,rfl,by decide,by decide,?_⟩;refine Ou (n:=9) (fun i acc H2=>H=H2/\acc=(((List.range i).filter (Fj (v2 % 511+1))).map fun (k:Nat)=>V.int (k:Int))) ⟨rfl,rfl⟩ ?_ ?_
   ·rintro i acc H2 hi ⟨rfl,rfl⟩;have lt:(((List.range i).filter (Fj (v2 % 511+1))).map fun (k:Nat)=>V.int (k:Int)).length < sizeLine:=by
     rw [List.length_map];have:=List.length_filter_le (Fj (v2 % 511+1)) (List.range i);rw [List.length_range] at this;exact Nat.lt_of_le_of_lt (Nat.le_trans this (Nat.le_of_lt hi)) (by decide)
    refine ⟨⟨[some (.int (0+(i:Int)))],rfl,rfl⟩,lt,?_⟩;refine ⟨_,rfl,_,rfl,_,_,rfl,rfl,(by show (0:Int)<=0+(i:Int); omega),_,_,rfl,rfl,rfl,_,rfl,?_⟩;have ei:(0+(i:Int)).toNat=i:=by omega
    have e:(List.range (i+1)).filter (Fj (v2 % 511+1))=(List.range i).filter (Fj (v2 % 511+1)) ++ if Fj (v2 % 511+1) i=true then [i] else []:=by
     rw [List.range_succ,List.filter_append,List.filter_cons,List.filter_nil]
    rw [ei];show if Fj (v2 % 511+1) i=true then _ else _;refine II (fun hb=>?_) (fun hb=>?_)
    ·refine ⟨_,rfl,rfl,?_⟩;rw [e,if_pos hb,List.map_append];show _ ++ [V.int (0+(i:Int))]=_ ++ [V.int (i:Int)]
     rw [Int.zero_add]
    ·refine ⟨rfl,?_⟩;rw [e,if_neg hb,List.append_nil]
   ·rintro acc H2 ⟨rfl,rfl⟩ l hl;have enum:(((List.range 9).filter (Fj (v2 % 511+1))).map fun (k:Nat)=>V.int (k:Int))=(EQ (v2 % 511+1)).map V.int:=by
     unfold EQ;rw [List.map_map];rfl
    rw [enum];refine ⟨(by show 3<=sizeLine; decide),fun q hq=>?_⟩;have s2:=(Ae (o:=.lst ((EQ (v2 % 511+1)).map V.int)) hl).trans (Ae (o:=.tup [.str amT,.int d,.ref l]) hq);refine k q (.am d (EQ (v2 % 511+1))) _ s2 (.am Ab (Ae hq _ _ Ab)) ⟨hd,?_,nums_in _,Pi _⟩;obtain ⟨n,hn,e⟩:=hmask;rw [e];exact nums_ne n hn
end
end J
namespace J
open PySem L2
seal L2.PA L2.PE L2.PS L2.PSs L2.PT L2.PW
theorem pl_am:decide (V.str amT=V.str (Str.ofString "places"))=false:=by decide +kernel
theorem pl_pl:decide (V.str plT=V.str (Str.ofString "places"))=true:=by decide +kernel
section
variable {P:Program} {w:World} {K:PySem.W.Frag} {mg:Str->Option Value} {base:Heap} {a:Ad}
inductive SpWd (vs:List V) (H:Hp) (Q:VK):Prop
 | mk (q:Addr) (d:AQ) (_:vs=[.ref q]) (_:BT H q d) (_:d.ok) (_:∀ H',As H H'->Q (.str (AE d)) H'):SpWd vs H Q
def spWd:Sp:=fun vs H Q _=>SpWd vs H Q
theorem ok_wd {f:Addr} {fd:FuncData} (F:Fun K "_law_word" "_law_word" BN f fd) (T:Top K mg a):AS P w K mg base CX0 1 f fd Dz spWd:=by
 refine F.ok Jx (fun vs H Q E h=>?_) (fun cdv A outer s H vs Q E hr h=>?_)
 ·obtain ⟨q,d,rfl,_⟩:=h;rfl
 ·obtain ⟨q,d,rfl,hd,ho,k⟩:=h;have l0:(Str.ofString "").length=0:=by decide +kernel
  refine ⟨_,(Ag (AX (Ax El (AB AF (pv 0) Ah (fun _ _=>rfl)) DG (AI _)) (Ai (Aq (Dx PySem.F.plainAttrs_str PySem.F.slot_str_join PySem.F.type_str_join GC DG (Aa (Du rfl (BU.of (So:=Af BN) (No:=ER) (N:=["_law_state"]) (k:=1) (cs:=[]) rfl rfl (by decide +kernel)) (Ce (AB AF (pv 0) Ah (fun _ _=>rfl))) (fun _ _ _=>(BW (i:=0) (by decide +kernel) rfl rfl)) (fun _ _ _=>Dg) (fun _ _ _=>(AB PD DG (pv 0) (fun _ _=>rfl)))) Ac)))) Ay) (Ai (Aq (AA Ib (AA Ib (Bf Ey rfl T.b_str PyProof.Rows.boot_str (Aa (AB AF (pv 0) Ah (fun _ _=>rfl)) Ac)) DG) (Dx PySem.F.plainAttrs_str PySem.F.slot_str_join PySem.F.type_str_join GC DG (Aa (Du rfl (BU.of (So:=Af BN) (No:=ER) (N:=["_law_k"]) (k:=1) (cs:=[]) rfl rfl (by decide +kernel)) (Ce (AB AF (pv 0) Ah (fun _ _=>rfl))) (fun _ _ _=>(BW (i:=0) (by decide +kernel) rfl rfl)) (fun _ _ _=>Dg) (fun _ _ _=>(Bf Ey rfl T.b_str PyProof.Rows.boot_str (Aa (pv 0) Ac)))) Ac)))))),?_⟩
  try dsimp only [cxK]
  cases hd with
  | @pl l ws h hl =>
   refine ⟨_,rfl,q,_,0,.str plT,rfl,rfl,SqT.of h,An (j:=0) rfl,rfl,_,rfl,?_⟩;rw [pl_pl];refine Ef ⟨rfl,_,rfl,q,_,1,.ref l,rfl,rfl,SqT.of h,An (j:=1) rfl,l,rfl,⟨_,SqL.of hl⟩,?_⟩;refine DW (xs:=ws.map fun w=>V.int (unO w)) (fun i acc H4=>H=H4/\acc=((ws.take i).map fun x=>(⟨#[wC x]⟩:Str)).map V.str) ⟨rfl,rfl⟩ (fun i acc H4 _ z=>z.1 ▸ SqL.of hl) ?_ ?_
   ·rintro i x acc H4 hx ⟨rfl,rfl⟩;rw [List.getElem?_map] at hx;obtain ⟨n,en,rfl⟩:=Option.map_eq_some_iff.mp hx;have hn:=ho.2 n (List.mem_of_getElem? en);refine ⟨⟨[some (.int (unO n))],rfl,rfl⟩,?_,GG ⟨_,rfl,Lh,_,wC n,rfl,rfl,(by decide +kernel),OH hn,rfl,?_⟩⟩
    ·rw [List.length_map,List.length_map,List.length_take,ho.1];exact Nat.lt_of_le_of_lt (Nat.min_le_right _ _) (by decide)
    ·rw [List.take_add_one,en,List.map_append,List.map_append];rfl
   ·rintro acc H4 ⟨rfl,rfl⟩ p hp;rw [List.length_map,List.take_length];have hjok:JoinOk (Str.ofString "") (ws.map fun x=>(⟨#[wC x]⟩:Str))=true:=by
     refine Tx.GD 1 (fun t ht=>?_) ?_
     ·obtain ⟨n,hn,rfl⟩:=List.mem_map.mp ht;exact Nat.le_refl 1
     ·rw [List.length_map,l0,ho.1];decide
    refine ⟨_,p,_,rfl,rfl,SqL.of Ab,hjok,?_⟩;rw [join_w];exact k _ (Ae hp)
  | @am l st ns h hl =>
   obtain ⟨hst,_,hn,hasc⟩:=ho;have hlen:=GF ns 0 (by decide) hn hasc;have hs9:st<=9:=by have:=hst.2; omega
   refine ⟨_,rfl,q,_,0,.str amT,rfl,rfl,SqT.of h,An (j:=0) rfl,rfl,_,rfl,?_⟩;rw [pl_am];refine CA ⟨_,rfl,q,_,1,.int st,rfl,rfl,SqT.of h,An (j:=1) rfl,st,rfl,FO hst.1 hs9,_,_,rfl,rfl,Eu (by erw [JU hst.1 hs9]; decide),rfl,_,rfl,q,_,2,.ref l,rfl,rfl,SqT.of h,An (j:=2) rfl,l,rfl,⟨_,SqL.of hl⟩,?_⟩;refine DW (xs:=ns.map V.int) (fun i acc H4=>H=H4/\acc=((ns.take i).map fun n=>Str.ofString (toString n)).map V.str) ⟨rfl,rfl⟩ (fun i acc H4 _ z=>z.1 ▸ SqL.of hl) ?_ ?_
   ·rintro i x acc H4 hx ⟨rfl,rfl⟩;rw [List.getElem?_map] at hx;obtain ⟨n,en,rfl⟩:=Option.map_eq_some_iff.mp hx;have hn':=hn n (List.mem_of_getElem? en);refine ⟨⟨[some (.int n)],rfl,rfl⟩,?_,GG ⟨_,rfl,n,rfl,FO hn'.1 (by omega),rfl,?_⟩⟩
    ·rw [List.length_map,List.length_map,List.length_take];exact Nat.lt_of_le_of_lt (Nat.min_le_right _ _) (Nat.lt_of_le_of_lt (show _<=9 by omega) (by decide))
    ·rw [List.take_add_one,en,List.map_append,List.map_append];rfl
   ·rintro acc H4 ⟨rfl,rfl⟩ p hp;rw [List.length_map,List.take_length];have hjok:JoinOk (Str.ofString "") (ns.map fun n=>Str.ofString (toString n))=true:=by
     refine Tx.GD 1 (fun t ht=>?_) ?_
     ·obtain ⟨n,hn2,rfl⟩:=List.mem_map.mp ht;have:=hn n hn2;rw [JU this.1 (by omega)];decide
     ·rw [List.length_map,l0];omega
    refine ⟨_,p,_,rfl,rfl,SqL.of Ab,hjok,_,_,rfl,rfl,Eu ?_,?_⟩
    ·rw [PC hn];have e1:(Db ns).length=ns.length:=by rw [Nu.len]; show (ns.map _).length=_; rw [List.length_map]
     have e2:(Str.ofString "=").length=1:=by decide +kernel
     rw [Tx.app_len,e1,e2]
     erw [JU hst.1 hs9]
     omega
    ·have e:Str.ofString (toString st) ++ Str.ofString "=" ++ Str.join (Str.ofString "") (ns.map fun n=>Str.ofString (toString n))=AE (.am st ns):=by
      rw [PC hn,Tx.FI hst.1 hs9,show Str.ofString "=" = (⟨#[61]⟩:Str) by decide +kernel];rfl
     have:=k _ (Ae (o:=.lst ((ns.map fun n=>Str.ofString (toString n)).map V.str)) hp);rw [<-e] at this;exact this
inductive SpTx (vs:List V) (H:Hp) (Q:VK):Prop
 | mk (q:Addr) (r:AU) (_:vs=[.ref q]) (_:FL H q r) (_:Gw r) (_:∀ H',As H H'->Q (.str (Do r)) H'):SpTx vs H Q
def spTx:Sp:=fun vs H Q _=>SpTx vs H Q
theorem ok_tx {f:Addr} {fd:FuncData} (F:Fun K "_law_text" "_law_text" Ci f fd) (T:Top K mg a) (cB:Cal P w K mg base CX0 1 "_law_word" Dz spWd):AS P w K mg base CX0 2 f fd DA spTx:=by
 refine F.ok DJ (fun vs H Q E h=>?_) (fun cdv A outer s H vs Q E hr h=>?_)
 ·obtain ⟨q,r,rfl,_⟩:=h;rfl
 ·obtain ⟨q,r,rfl,hR,ho,k⟩:=h;obtain ⟨cs,hq,hcs⟩:=hR.ex;have ln:cs.length=r.length:=Paired.length hcs;have f50:=ho.few;refine ⟨_,(Ag (Av (i:=1) DJ.nd rfl (Or.inl rfl) (Ck Ac)) (Ag (BP PassesOwn.never rfl (Ce (pv 0)) (AR (i:=2) DJ.nd rfl (Or.inl rfl)) (Ag (Av (i:=3) DJ.nd rfl (Or.inl rfl) (AA Ia (Ck (Aa (AB PD DG (AB AF (pv 2) Ah (fun _ _=>rfl)) (fun _ _=>rfl)) Ac)) (Du rfl (BU.of (So:=Af Ci) (No:=Ge) (N:=["_law_condition"]) (k:=1) (cs:=[]) rfl rfl (by decide +kernel)) (Ce (AB AF (pv 2) Ah (fun _ _=>rfl))) (fun _ _ _=>(BW (i:=0) (by decide +kernel) rfl rfl)) (fun _ _ _=>Dg) (fun _ _ _=>(Aj cB (rm hr) rfl Al (Aa (pv 0) Ac)))))) (Ai (CO (Dx PySem.F.plainAttrs_list PySem.F.slot_list_append PySem.F.type_list_append Cz (pv 1) (Aa (Dx PySem.F.plainAttrs_str PySem.F.slot_str_join PySem.F.type_str_join GC DG (AO Ia (pv 3) (Ck (Aa (Bf Ey rfl T.b_str PyProof.Rows.boot_str (Aa (AB AF (pv 2) Ah (fun _ _=>rfl)) Ac)) Ac)) Ac)) Ac)))))) (Ai (Aq (Dx PySem.F.plainAttrs_str PySem.F.slot_str_join PySem.F.type_str_join GC DG (Aa (pv 1) Ac)))))),?_⟩
  try dsimp only [cxK]
  refine ⟨(by show 0<=sizeLine; decide),fun pt hpt=>?_⟩;have hq1:∀ o,upd H pt o q=some (.lst (cs.map V.ref)):=fun o=>Ae hpt _ _ hq;refine ⟨_,rfl,q,rfl,⟨_,SqL.of (hq1 _)⟩,DV (xs:=cs.map V.ref) (fun i σ H2=>∃ u2 u3:Option V,σ=[some (.ref q),some (.ref pt),u2,u3]/\As H H2/\H2 pt=some (.lst ((r.take i).map fun c=>V.str (AZ c)))) ⟨none,none,rfl,Ae hpt,Ab⟩ (fun i σ H2 _ ⟨_,_,_,sm,_⟩=>SqL.of (sm _ _ hq)) ?_ ?_⟩
  ·rintro i x σ H2 hx ⟨u2,u3,rfl,sm,hp2⟩;rw [List.getElem?_map] at hx;obtain ⟨cq,ecq,rfl⟩:=Option.map_eq_some_iff.mp hx;obtain ⟨c,ec,hc⟩:=Paired.get hcs ecq;have mc:=List.mem_of_getElem? ec;have oc:=ho.ok c mc;have c50:=oc.few;obtain ⟨cl,ds,h1,h2,h3⟩:=(hc.same sm).ex;have md9:c.makes<=9:=by have:=oc.makes.2; omega
   have un:=unO_le oc.cell;refine ⟨_,rfl,cq,_,0,.int (unO c.cell),rfl,rfl,SqT.of h1,An (j:=0) rfl,Lh,_,wC c.cell,rfl,rfl,(by decide +kernel),OH oc.cell,(by show 1<=sizeLine; decide),fun w1 hw1=>?_⟩;have s1:=Ae (o:=.lst [.str ⟨#[wC c.cell]⟩]) hw1;refine ⟨_,rfl,cq,_,1,.ref cl,rfl,rfl,SqT.of (s1 _ _ h1),An (j:=1) rfl,cl,rfl,⟨_,SqL.of (s1 _ _ h2)⟩,?_⟩;have hw1':upd H2 w1 (.lst [.str ⟨#[wC c.cell]⟩]) w1=some (.lst [.str ⟨#[wC c.cell]⟩]):=Ab;generalize upd H2 w1 (.lst [.str ⟨#[wC c.cell]⟩])=H3 at s1 hw1' ⊢;refine DW (xs:=ds.map V.ref) (fun j acc H4=>As H3 H4/\acc=((c.conds.take j).map AE).map V.str) ⟨As.refl H3,rfl⟩ (fun j acc H4 _ z=>SqL.of (z.1 _ _ (s1 _ _ h2))) ?_ ?_
   ·rintro j x acc H4 hx ⟨s4,rfl⟩;rw [List.getElem?_map] at hx;obtain ⟨dq,edq,rfl⟩:=Option.map_eq_some_iff.mp hx;obtain ⟨d,ed,hd⟩:=Paired.get h3 edq;refine ⟨⟨[some (.ref dq)],rfl,rfl⟩,?_,GG ⟨_,rfl,dq,d,rfl,(hd.same s1).same s4,oc.conds d (List.mem_of_getElem? ed),fun H5 s5=>⟨s4.trans s5,?_⟩⟩⟩
    ·rw [List.length_map,List.length_map,List.length_take];exact Nat.lt_of_le_of_lt (Nat.min_le_right _ _) (Nat.lt_of_le_of_lt c50 (by decide))
    ·rw [List.take_add_one,ed,List.map_append,List.map_append];rfl
   ·rintro acc H4 ⟨s4,rfl⟩ w2 hw2;have ld:ds.length=c.conds.length:=Paired.length h3;rw [List.length_map,ld,List.take_length];have s5:=s4.trans (Ae (o:=.lst ((c.conds.map AE).map V.str)) hw2);have hw25:upd H4 w2 (.lst ((c.conds.map AE).map V.str)) w2=some (.lst ((c.conds.map AE).map V.str)):=Ab;generalize upd H4 w2 (.lst ((c.conds.map AE).map V.str))=H5 at s5 hw25 ⊢;refine ⟨w1,w2,_,_,rfl,rfl,s5 _ _ hw1',hw25,Eu (by simp only [List.length_cons,List.length_nil,List.length_map]; omega),fun w3 hw3=>?_⟩;have s6:=s5.trans (Ae (o:=.lst ([.str ⟨#[wC c.cell]⟩] ++ (c.conds.map AE).map V.str)) hw3);have hw36:upd H5 w3 (.lst ([.str ⟨#[wC c.cell]⟩] ++ (c.conds.map AE).map V.str)) w3=some (.lst ([.str ⟨#[wC c.cell]⟩] ++ (c.conds.map AE).map V.str)):=Ab;generalize upd H5 w3 (.lst ([.str ⟨#[wC c.cell]⟩] ++ (c.conds.map AE).map V.str))=H6 at s6 hw36 ⊢;have s26:As H2 H6:=s1.trans s6;refine ⟨_,rfl,.inl ⟨rfl,_,SqL.of (s26 _ _ hp2)⟩,rfl,_,rfl,_,rfl,cq,_,2,.int c.makes,rfl,rfl,SqT.of (s26 _ _ h1),An (j:=2) rfl,c.makes,rfl,FO oc.makes.1 md9,(by show 1<=sizeLine; decide),fun w4 hw4=>?_⟩;have s7:=s26.trans (Ae (o:=.lst [.str (Str.ofString (toString c.makes))]) hw4);have hw47:upd H6 w4 (.lst [.str (Str.ofString (toString c.makes))]) w4=some (.lst [.str (Str.ofString (toString c.makes))]):=Ab;have hw37:=Ae (o:=.lst [.str (Str.ofString (toString c.makes))]) hw4 _ _ hw36;generalize upd H6 w4 (.lst [.str (Str.ofString (toString c.makes))])=H7 at s7 hw47 hw37 ⊢;refine ⟨w3,w4,_,_,rfl,rfl,hw37,hw47,Eu (by simp only [List.length_append,List.length_cons,List.length_nil,List.length_map]; omega),fun w5 hw5=>?_⟩;have eL:([.str ⟨#[wC c.cell]⟩] ++ (c.conds.map AE).map V.str) ++ [.str (Str.ofString (toString c.makes))]=(wS c.cell :: (c.conds.map AE ++ [sgD c.makes])).map V.str:=by
     rw [Tx.FI oc.makes.1 md9,List.map_cons,List.map_append];rfl
    rw [eL];have s8:=s7.trans (Ae (o:=.lst ((wS c.cell :: (c.conds.map AE ++ [sgD c.makes])).map V.str)) hw5);have hw58:upd H7 w5 (.lst ((wS c.cell :: (c.conds.map AE ++ [sgD c.makes])).map V.str)) w5=some (.lst ((wS c.cell :: (c.conds.map AE ++ [sgD c.makes])).map V.str)):=Ab;generalize upd H7 w5 (.lst ((wS c.cell :: (c.conds.map AE ++ [sgD c.makes])).map V.str))=H8 at s8 hw58 ⊢;have lb:(Str.ofString " ").length=1:=by decide +kernel
    have hjok:JoinOk (Str.ofString " ") (wS c.cell :: (c.conds.map AE ++ [sgD c.makes]))=true:=by
     refine Tx.GD 11 (fun t ht=>?_) ?_
     ·rcases List.mem_cons.mp ht with rfl | ht
      ·show 1<=11; decide
      ·rcases List.mem_append.mp ht with ht | ht
       ·obtain ⟨d,hd,rfl⟩:=List.mem_map.mp ht;exact FK (oc.conds d hd)
       ·rw [List.mem_singleton.mp ht]; show 1<=11; decide
     ·rw [lb,List.length_cons,List.length_append,List.length_map,List.length_cons,List.length_nil];omega
    refine ⟨_,w5,_,rfl,rfl,SqL.of hw58,hjok,?_⟩;have eC:Str.join (Str.ofString " ") (wS c.cell :: (c.conds.map AE ++ [sgD c.makes]))=AZ c:=by
     rw [show Str.ofString " " = (⟨#[32]⟩:Str) by decide +kernel];rfl
    rw [eC];refine ⟨pt,_,_,rfl,rfl,s8 _ _ hp2,?_,?_⟩
    ·rw [List.length_map,List.length_take];exact Nat.lt_of_le_of_lt (Nat.min_le_right _ _) (Nat.lt_of_le_of_lt f50 (by decide))
    ·refine ⟨_,_,rfl,fun b o e=>?_,?_⟩
     ·have ne:b≠pt:=Ar e hpt;rw [Ak ne];exact s8 _ _ (sm _ _ e)
     ·rw [Ab,List.take_add_one,ec,List.map_append];rfl
  ·rintro σ H2 ⟨u2,u3,rfl,sm,hp2⟩;rw [List.length_map,ln,List.take_length] at hp2;have hp2':H2 pt=some (.lst ((r.map AZ).map V.str)):=by rw [hp2,List.map_map]; rfl
   have em:Str.ofString "; " = IZ:=by decide +kernel
   have hjok:JoinOk (Str.ofString "; ") (r.map AZ)=true:=by
    refine Tx.GD 1000 (fun t ht=>?_) ?_
    ·obtain ⟨c,hc,rfl⟩:=List.mem_map.mp ht;exact Fo (ho.ok c hc)
    ·rw [List.length_map,em,show IZ.length=2 from rfl];omega
   refine ⟨rfl,_,rfl,_,pt,_,rfl,rfl,SqL.of hp2',hjok,?_⟩;rw [em];exact k H2 sm
end
end J
namespace J
open PySem L2
seal L2.PA L2.PE L2.PS L2.PSs L2.PT L2.PW
section
variable {P:Program} {w:World} {K:PySem.W.Frag} {mg:Str->Option Value} {base:Heap} {a:Ad}
inductive SpHo (vs:List V) (H:Hp) (Q:VK):Prop
 | mk (q m:Addr) (d:AQ) (ar:List Int) (_:vs=[.ref q,.ref m]) (_:BT H q d) (_:d.ok) (_:H m=some (.lst (ar.map V.int))) (_:ar.length=8) (_:Q (.bl (d.holds ar)) H):SpHo vs H Q
def spHo:Sp:=fun vs H Q _=>SpHo vs H Q
theorem ok_ho {f:Addr} {fd:FuncData} (F:Fun K "_law_holds" "_law_holds" Cy f fd) (T:Top K mg a):AS P w K mg base CX0 1 f fd Dk spHo:=by
 refine F.ok CC (fun vs H Q E h=>?_) (fun cdv A outer s H vs Q E hr h=>?_)
 ·obtain ⟨q,m,d,ar,rfl,_⟩:=h;rfl
 ·obtain ⟨q,m,d,ar,rfl,hd,ho,hm,a8,k⟩:=h;refine ⟨_,(Ag (AX (Ax El (AB AF (pv 0) Ah (fun _ _=>rfl)) DG (AI _)) (Ag (BP PassesOwn.never rfl (CZ rfl T.b_range (Au Ac)) (AR (i:=2) CC.nd rfl (Or.inl rfl)) (Ai (AX (PW.pt (OX (Ax Fc (AB Bs (AB AF (pv 0) Ah (fun _ _=>rfl)) (pv 2) (fun _ _=>rfl)) Ah (AI _)) (Ng (Ax Fc (AB Bs (AB AF (pv 0) Ah (fun _ _=>rfl)) (pv 2) (fun _ _=>rfl)) (AB Bs (pv 1) (pv 2) (fun _ _=>rfl)) (AI _))))) (Ai (Aq Fb)) Ay))) (Ai (Aq Fb))) Ay) (Ag (Av (i:=3) CC.nd rfl (Or.inl rfl) Ah) (Ag (BP PassesOwn.never rfl (Ce (pv 1)) (AR (i:=4) CC.nd rfl (Or.inl rfl)) (Ai (AX (Ax El (pv 4) (AB AF (pv 0) Ah (fun _ _=>rfl)) (AI _)) (Ai (Av (i:=3) CC.nd rfl (Or.inl rfl) (AA AH (pv 3) Ah))) Ay))) (Ai (Aq (Fz FT (pv 3) (AB AF (pv 0) Ah (fun _ _=>rfl)) rfl)))))),?_⟩
  try dsimp only [cxK]
  cases hd with
  | @pl l ws h hl =>
   obtain ⟨w8,hw⟩:=ho;refine ⟨_,rfl,q,_,0,.str plT,rfl,rfl,SqT.of h,An (j:=0) rfl,rfl,_,rfl,?_⟩;rw [pl_pl];refine Ef ⟨8,rfl,by decide,by decide,Ds (n:=8) (fun i σ H2=>H=H2/\(∃ v,σ=[some (.ref q),some (.ref m),v,none,none])/\∀ p ∈ (ws.zip ar).take i,Cg p.1 p.2=true) ⟨rfl,⟨none,rfl⟩,fun p hp=>by simp at hp⟩ ?_ ?_⟩
   ·rintro i σ H2 hi ⟨rfl,⟨v,rfl⟩,no⟩;have iW:i < ws.length:=by omega
    have iA:i < ar.length:=by omega
    have eW:atI (ws.map fun w=>V.int (unO w)) (0+(i:Int))=some (V.int (unO ws[i])):=by rw [Int.zero_add]; exact An (by rw [List.getElem?_map,List.getElem?_eq_getElem iW]; rfl)
    have eA:atI (ar.map V.int) (0+(i:Int))=some (V.int ar[i]):=by rw [Int.zero_add]; exact An (by rw [List.getElem?_map,List.getElem?_eq_getElem iA]; rfl)
    have ez:(ws.zip ar)[i]?=some (ws[i],ar[i]):=by rw [List.getElem?_zip_eq_some]; exact ⟨List.getElem?_eq_getElem iW,List.getElem?_eq_getElem iA⟩
    have tk:=Lf (hw ws[i] (List.getElem_mem iW)) ar[i];refine ⟨_,rfl,q,_,1,.ref l,rfl,rfl,SqT.of h,An (j:=1) rfl,_,rfl,l,_,_,_,rfl,rfl,SqL.of hl,eW,rfl,_,rfl,?_⟩;rw [Ex];have nx:Cg ws[i] ar[i]=true->(∃ v,([some (.ref q),some (.ref m),some (.int (0+(i:Int))),none,none]:St)=[some (.ref q),some (.ref m),v,none,none])/\∀ p ∈ (ws.zip ar).take (i+1),Cg p.1 p.2=true:=fun h=>⟨⟨_,rfl⟩,fun p hp=>by
     rw [List.take_add_one,ez] at hp;rcases List.mem_append.mp hp with z | z
     ·exact no p z
     ·have:p=(ws[i],ar[i]):=by simpa using z
      rw [this]; exact h⟩
    by_cases h8:unO ws[i]=8
    ·rw [decide_eq_true h8] at tk ⊢;exact CA (CA ⟨rfl,nx (by rw [tk]; rfl)⟩)
    ·rw [decide_eq_false h8] at tk ⊢;refine Ef ⟨_,rfl,q,_,1,.ref l,rfl,rfl,SqT.of h,An (j:=1) rfl,_,rfl,l,_,_,_,rfl,rfl,SqL.of hl,eW,_,rfl,_,rfl,m,_,_,_,rfl,rfl,SqL.of hm,eA,rfl,_,rfl,?_⟩;rw [Ex];by_cases he:unO ws[i]=ar[i]
     ·rw [decide_eq_true he] at tk ⊢;exact CA ⟨rfl,nx (by rw [tk]; rfl)⟩
     ·rw [decide_eq_false he] at tk ⊢;refine Ef ?_;have e:AQ.holds ar (.pl ws)=false:=by
       show (ws.zip ar).all _=false;rw [List.all_eq_false];exact ⟨_,List.mem_of_getElem? ez,by rw [tk]; exact Bool.false_ne_true⟩
      rw [e] at k;exact k
   ·rintro σ H2 ⟨rfl,⟨v,rfl⟩,no⟩;have e:AQ.holds ar (.pl ws)=true:=by
     show (ws.zip ar).all _=true;rw [List.all_eq_true];intro p hp;have l8:(ws.zip ar).length=8:=by rw [List.length_zip]; omega
     rw [<-l8,List.take_length] at no;exact no p hp
    rw [e] at k;exact k
  | @am l st ns h hl =>
   refine ⟨_,rfl,q,_,0,.str amT,rfl,rfl,SqT.of h,An (j:=0) rfl,rfl,_,rfl,?_⟩;rw [pl_am];refine CA ?_;refine ⟨_,rfl,m,rfl,⟨_,SqL.of hm⟩,DV (xs:=ar.map V.int) (fun i σ H2=>H=H2/\∃ v,σ=[some (.ref q),some (.ref m),none,some (.int (((ar.take i).countP (· == st):Nat):Int)),v]) ⟨rfl,none,rfl⟩ (fun i σ H2 _ z=>z.1 ▸ SqL.of hm) ?_ ?_⟩
   ·rintro i x σ H2 hx ⟨rfl,v,rfl⟩;rw [List.getElem?_map] at hx;obtain ⟨n,en,rfl⟩:=Option.map_eq_some_iff.mp hx;have e:(((ar.take (i+1)).countP (· == st):Nat):Int)=(((ar.take i).countP (· == st):Nat):Int)+(if n=st then 1 else 0):=by
     rw [List.take_add_one,en,List.countP_append];by_cases h:n=st<;>simp [h]
    refine ⟨_,rfl,_,rfl,q,_,1,.int st,rfl,rfl,SqT.of h,An (j:=1) rfl,rfl,_,rfl,?_⟩;refine II (fun hc=>?_) (fun hc=>?_)
    ·have:n=st:=by
      have:=of_decide_eq_true hc;injection this
     refine ⟨_,rfl,_,_,rfl,rfl,rfl,some (.int n),?_⟩;rw [e,if_pos this];rfl
    ·have:¬ n=st:=fun z=>hc (decide_eq_true (by rw [z]));refine ⟨rfl,some (.int n),?_⟩;rw [e,if_neg this,Int.add_zero];rfl
   ·rintro σ H2 ⟨rfl,v,rfl⟩;rw [List.length_map,List.take_length];refine ⟨_,rfl,_,rfl,q,_,2,.ref l,rfl,rfl,SqT.of h,An (j:=2) rfl,l,_,rfl,.inl (SqL.of hl),rfl,Jg _,?_⟩;show Q (.bl (inV _ _)) H;rw [JP];exact k
inductive SpDe (vs:List V) (H:Hp) (Q:VK):Prop
 | mk (q m:Addr) (r:AU) (cell:Int) (ar:List Int) (_:vs=[.ref q,.int cell,.ref m]) (_:FL H q r) (_:Gw r) (_:H m=some (.lst (ar.map V.int))) (_:ar.length=8) (_:∀ H',As H H'->Q (decV (EX r cell ar)) H'):SpDe vs H Q
def spDe:Sp:=fun vs H Q _=>SpDe vs H Q
theorem ok_de {f:Addr} {fd:FuncData} (F:Fun K "_law_decides" "_law_decides" BF f fd) (T:Top K mg a) (bR:Cal P w K mg base CX0 1 "_law_holds" Dk spHo):AS P w K mg base CX0 2 f fd Cq spDe:=by
 refine F.ok BV (fun vs H Q E h=>?_) (fun cdv A outer s H vs Q E hr h=>?_)
 ·obtain ⟨q,m,r,cell,ar,rfl,_⟩:=h;rfl
 ·obtain ⟨q,m,r,cell,ar,rfl,hR,ho,hm,a8,k⟩:=h;obtain ⟨cs,hq,hcs⟩:=hR.ex;have ln:cs.length=r.length:=Paired.length hcs;have f50:=ho.few;refine ⟨_,(Ag (BP PassesOwn.never rfl (CZ rfl T.b_range (Aa (AJ AV rfl T.b_len PySem.boot_len (Aa (pv 0) Ac)) Ac)) (AR (i:=3) BV.nd rfl (Or.inl rfl)) (Ag (Av (i:=4) BV.nd rfl (Or.inl rfl) (Fz FT (AB AF (AB Bs (pv 0) (pv 3) (fun _ _=>rfl)) Ah (fun _ _=>rfl)) (Ck (Aa (pv 1) (Au Ac))) rfl)) (Ag (BP PassesOwn.never rfl (Ce (AB AF (AB Bs (pv 0) (pv 3) (fun _ _=>rfl)) Ah (fun _ _=>rfl))) (AR (i:=5) BV.nd rfl (Or.inl rfl)) (Ai (Av (i:=4) BV.nd rfl (Or.inl rfl) (Mo (pv 4) (JA (Aj bR (rm hr) rfl Al (Aa (pv 5) (Aa (pv 2) Ac)))))))) (Ai (AX (Ed (pv 4)) (Ai (Aq (pv 3))) Ay))))) (Ai (Aq Fm))),?_⟩
  try dsimp only [cxK]
  refine ⟨_,rfl,q,_,rfl,.inl (SqL.of hq),_,rfl,by rw [List.length_map]; omega,by rw [List.length_map]; omega,?_⟩;rw [show (((cs.map V.ref).length:Nat):Int).toNat=cs.length by rw [List.length_map,Int.toNat_natCast]];refine Ds (n:=cs.length) (fun i σ H2=>As H H2/\(∃ u3 u4 u5:Option V,σ=[some (.ref q),some (.int cell),some (.ref m),u3,u4,u5])/\∀ c ∈ r.take i,c.fits cell ar=false) ⟨As.refl H,⟨none,none,none,rfl⟩,fun c hc=>by simp at hc⟩ ?_ ?_
  ·rintro i σ H2 hi ⟨sm,⟨u3,u4,u5,rfl⟩,no⟩;have ecq:cs[i]?=some cs[i]:=List.getElem?_eq_getElem hi;obtain ⟨c,ec,hc⟩:=Paired.get hcs ecq;have oc:=ho.ok c (List.mem_of_getElem? ec);obtain ⟨cl,ds,h1,h2,h3⟩:=(hc.same sm).ex;have eI:atI (cs.map V.ref) (0+(i:Int))=some (.ref cs[i]):=by rw [Int.zero_add]; exact An (by rw [List.getElem?_map,ecq]; rfl)
   refine ⟨_,rfl,_,rfl,q,_,_,_,rfl,rfl,SqL.of (sm _ _ hq),eI,cs[i],_,0,.int (unO c.cell),rfl,rfl,SqT.of h1,An (j:=0) rfl,_,rfl,(by show 2<=sizeLine; decide),fun t ht=>⟨t,_,rfl,.inl (SqL.of Ab),rfl,rfl,?_⟩⟩;have s3:=Ae (o:=.lst [.int cell,.int 8]) ht;have eb:inV (.int (unO c.cell)) [.int cell,.int 8]=Cg c.cell cell:=by
    have:=JP (unO c.cell) [cell,8];rw [show ([cell,8]:List Int).map V.int=[V.int cell,V.int 8] from rfl] at this;rw [this,Lf oc.cell];simp only [List.any_cons,List.any_nil,Bool.or_false];rw [show decide (cell=unO c.cell)=decide (unO c.cell=cell) from decide_eq_decide.mpr eq_comm,show decide (8=unO c.cell)=decide (unO c.cell=8) from decide_eq_decide.mpr eq_comm,Bool.or_comm]
   show (tSeq _ _) _ _ _;rw [eb];generalize upd H2 t (.lst [.int cell,.int 8])=H3 at s3 ⊢;refine ⟨_,rfl,_,rfl,q,_,_,_,rfl,rfl,SqL.of (s3 _ _ (sm _ _ hq)),eI,cs[i],_,1,.ref cl,rfl,rfl,SqT.of (s3 _ _ h1),An (j:=1) rfl,cl,rfl,⟨_,SqL.of (s3 _ _ h2)⟩,?_⟩;refine DV (xs:=ds.map V.ref) (fun j σ H4=>H3=H4/\∃ v,σ=[some (.ref q),some (.int cell),some (.ref m),some (.int (0+(i:Int))),some (.bl (Cg c.cell cell && (c.conds.take j).all (AQ.holds ar))),v]) ⟨rfl,u5,by rw [List.take_zero,List.all_nil,Bool.and_true]; rfl⟩ (fun j σ H4 _ z=>z.1 ▸ SqL.of (s3 _ _ h2)) ?_ ?_
   ·rintro j x σ H4 hx ⟨rfl,v,rfl⟩;rw [List.getElem?_map] at hx;obtain ⟨dq,edq,rfl⟩:=Option.map_eq_some_iff.mp hx;obtain ⟨d,ed,hd⟩:=Paired.get h3 edq;refine ⟨_,rfl,?_⟩;refine and_end (b2:=AQ.holds ar d) (fun _ Q' q'=>⟨_,rfl,_,rfl,dq,m,d,ar,rfl,hd.same s3,oc.conds d (List.mem_of_getElem? ed),s3 _ _ (sm _ _ hm),a8,q'⟩) ?_;refine ⟨rfl,some (.ref dq),?_⟩;rw [List.take_add_one,ed,List.all_append,Bool.and_assoc];show _=[_,_,_,_,some (V.bl (Cg c.cell cell && ((c.conds.take j).all (AQ.holds ar) && (AQ.holds ar d && true)))),_]
    rw [Bool.and_true];rfl
   ·rintro σ H4 ⟨rfl,v,rfl⟩;have ld:ds.length=c.conds.length:=Paired.length h3;rw [List.length_map,ld,List.take_length];refine ⟨_,rfl,_,rfl,?_⟩;show if c.fits cell ar=true then _ else _;cases ef:c.fits cell ar with
    | true =>
     refine Ef ⟨_,rfl,?_⟩;have e:EX r cell ar=some i:=by
      unfold EX;rw [List.findIdx?_eq_some_iff_getElem];have hi:i < r.length:=(List.getElem?_eq_some_iff.mp ec).1;refine ⟨hi,?_,fun j hj=>?_⟩
      ·rw [(List.getElem?_eq_some_iff.mp ec).2]; exact ef
      ·have:=no r[j] (List.mem_take_iff_getElem.mpr ⟨j,by omega,rfl⟩);rw [this]; exact Bool.false_ne_true
     have:=k H3 (sm.trans s3);rw [e] at this;show Q (.int (0+(i:Int))) H3;rw [Int.zero_add];exact this
    | false =>
     refine CA ⟨sm.trans s3,⟨_,_,_,rfl⟩,fun d hd=>?_⟩;rw [List.take_add_one,ec] at hd;rcases List.mem_append.mp hd with z | z
     ·exact no d z
     ·have:d=c:=by simpa using z
      rw [this]; exact ef
  ·rintro σ H2 ⟨sm,⟨u3,u4,u5,rfl⟩,no⟩;rw [ln,List.take_length] at no;have e:EX r cell ar=none:=by
    unfold EX;rw [List.findIdx?_eq_none_iff];exact no
   have:=k H2 sm;rw [e] at this;exact this
inductive SpBe (vs:List V) (H:Hp) (Q:VK):Prop
 | mk (q m:Addr) (r:AU) (cell:Int) (ar:List Int) (_:vs=[.ref q,.int cell,.ref m]) (_:FL H q r) (_:Gw r) (_:H m=some (.lst (ar.map V.int))) (_:ar.length=8) (_:∀ H',As H H'->Q (.int (Fp r cell ar)) H'):SpBe vs H Q
def spBe:Sp:=fun vs H Q _=>SpBe vs H Q
theorem ok_be {f:Addr} {fd:FuncData} (F:Fun K "_law_becomes" "_law_becomes" BH f fd) (T:Top K mg a) (bD:Cal P w K mg base CX0 2 "_law_decides" Cq spDe):AS P w K mg base CX0 3 f fd BM spBe:=by
 refine F.ok EF (fun vs H Q E h=>?_) (fun cdv A outer s H vs Q E hr h=>?_)
 ·obtain ⟨q,m,r,cell,ar,rfl,_⟩:=h;rfl
 ·obtain ⟨q,m,r,cell,ar,rfl,hR,ho,hm,a8,k⟩:=h;refine ⟨_,(Ag (Av (i:=3) EF.nd rfl (Or.inl rfl) (Aj bD (rm hr) rfl Al (Aa (pv 0) (Aa (pv 1) (Aa (pv 2) Ac))))) (Ag (AX (Ax JD (pv 3) Fm (AI _)) (Ai (Aq (pv 1))) Ay) (Ai (Aq (AB AF (AB Bs (pv 0) (pv 3) (fun _ _=>rfl)) Ah (fun _ _=>rfl)))))),?_⟩
  try dsimp only [cxK]
  refine ⟨_,rfl,_,rfl,_,rfl,q,m,r,cell,ar,rfl,hR,ho,hm,a8,fun H2 s2=>?_⟩;refine ⟨_,rfl,rfl,_,rfl,?_⟩;cases e:EX r cell ar with
  | none =>
   refine Ef ⟨_,rfl,?_⟩;have:=k H2 s2;rw [LX e] at this;exact this
  | some i =>
   obtain ⟨c,ec,em⟩:=LW e;obtain ⟨cs,hq,hcs⟩:=(hR.same s2).ex;obtain ⟨cq,ecq⟩:∃ cq,cs[i]?=some cq:=by
    have ln:cs.length=r.length:=Paired.length hcs;have:i < cs.length:=by rw [ln]; exact (List.getElem?_eq_some_iff.mp ec).1
    exact ⟨_,List.getElem?_eq_getElem this⟩
   obtain ⟨c',ec',hc⟩:=Paired.get hcs ecq;rw [ec] at ec';cases ec';obtain ⟨cl,ds,h1,_⟩:=hc.ex;refine CA ⟨_,rfl,_,rfl,q,_,_,.ref cq,rfl,rfl,SqL.of hq,An (by rw [List.getElem?_map,ecq]; rfl),cq,_,2,.int c.makes,rfl,rfl,SqT.of h1,An (j:=2) rfl,?_⟩;have:=k H2 s2;rw [em] at this;exact this
end
end J
namespace J
open PySem L2
seal L2.PA L2.PE L2.PS L2.PSs L2.PT L2.PW
theorem Nc {ds:List Addr} {vs:List Int} (h:vs≠[]):ds.map V.ref≠vs.map V.int:=fun z=>by
 cases vs with
 | nil=>exact h rfl
 | cons v r =>
  cases ds with
  | nil=>simp at z
  | cons d q=>simp at z
theorem BT.put {H:Hp} {l q:Addr} {ds:List Addr} {o:HO} {d:AQ} (hl:H l=some (.lst (ds.map V.ref))) (h:BT H q d) (ok:d.ok):BT (upd H l o) q d:=by
 have other:∀ {b v},H b=some v->v≠.lst (ds.map V.ref)->upd H l o b=some v:=fun {b v} e n=>by rw [Ak (Da e hl n)]; exact e
 cases h with
 | @am l' s ns h hl'=>exact .am (other h (by intro z; cases z)) (other hl' fun z=>Nc ok.2.1 (HO.lst.inj z).symm)
 | @pl l' ws h hl' =>
  refine .pl (other h (by intro z; cases z)) (other hl' fun z=>?_);have z2:=(HO.lst.inj z).symm;rw [show (ws.map fun w=>V.int (unO w))=(ws.map unO).map V.int by rw [List.map_map]; rfl] at z2;refine Nc (ds:=ds) (fun q=>?_) z2;have:=congrArg List.length q;rw [List.length_map,ok.1] at this;cases this
theorem Paired.impMem {α β:Type} {F G:α->β->Prop}:∀ {l:List α} {m:List β},(∀ x y,y ∈ m->F x y->G x y)->Paired F l m->Paired G l m
 | _,_,_,.nil=>.nil
 | _,_,h,.cons r t=>.cons (h _ _ List.mem_cons_self r) (Paired.impMem (fun x y hy=>h x y (List.mem_cons_of_mem _ hy)) t)
def IN (l0:Addr) (H:Hp) (q:Addr) (c:AG):Prop:=∃ (l:Addr) (ds:List Addr),l≠l0/\H q=some (.tup [.int (unO c.cell),.ref l,.int c.makes])/\H l=some (.lst (ds.map V.ref))/\Paired (BT H) ds c.conds
theorem IN.at {l0:Addr} {H:Hp} {q:Addr} {c:AG} (h:IN l0 H q c):Jr H q c:=by
 obtain ⟨l,ds,_,r⟩:=h;exact ⟨l,ds,r⟩
theorem IN.same {l0:Addr} {H H':Hp} {q:Addr} {c:AG} (s:As H H') (h:IN l0 H q c):IN l0 H' q c:=by
 obtain ⟨l,ds,n,h1,h2,h3⟩:=h;exact ⟨l,ds,n,s _ _ h1,s _ _ h2,Paired.imp (fun _ _ z=>z.same s) h3⟩
theorem IN.put {l0:Addr} {H:Hp} {q:Addr} {c:AG} {cs:List Addr} {o:HO} (hl:H l0=some (.lst (cs.map V.ref))) (h:IN l0 H q c) (ok:c.ok):IN l0 (upd H l0 o) q c:=by
 obtain ⟨l,ds,n,h1,h2,h3⟩:=h;refine ⟨l,ds,n,?_,?_,Paired.impMem (fun x y hy z=>z.put hl (ok.conds y hy)) h3⟩
 ·rw [Ak (Da h1 hl (by intro z; cases z))]; exact h1
 ·rw [Ak n]; exact h2
def c00:AG:=⟨some 0,[.am 0 [8]],0⟩
theorem c00_ok:c00.ok where
 cell:=⟨by decide,by decide⟩
 makes:=⟨by decide,by decide⟩
 few:=by show 1<=50; decide
 conds:=fun d hd=>by
  rw [List.mem_singleton.mp hd];exact ⟨⟨by decide,by decide⟩,by simp,fun n hn=>by rw [List.mem_singleton.mp hn]; exact ⟨by decide,by decide⟩,List.pairwise_singleton _ _⟩
theorem PY (r:AU):Fp (c00 :: r) 0 Eb=0:=by
 unfold Fp;rw [List.find?_cons];have:c00.fits 0 Eb=true:=by decide
 rw [this];rfl
section
variable {P:Program} {w:World} {K:PySem.W.Frag} {mg:Str->Option Value} {base:Heap} {a:Ad}
inductive SpCl (vs:List V) (H:Hp) (Q:VK):Prop
 | mk (m:Addr) (sd j:Int) (_:vs=[.ref m,.int sd,.int j]) (_:Md H m) (_:0<=j) (_:j<=800000) (_:∀ (q l:Addr) (ds:List Addr) (c:AG) (H':Hp),As H H'->H l=none->H' q=some (.tup [.int (unO c.cell),.ref l,.int c.makes])->H' l=some (.lst (ds.map V.ref))->Paired (BT H') ds c.conds->c.ok->Q (.ref q) H'):SpCl vs H Q
def spCl:Sp:=fun vs H Q _=>SpCl vs H Q
theorem ok_cl {f:Addr} {fd:FuncData} (F:Fun K "_law_clause_by" "_law_clause_by" Be f fd) (T:Top K mg a) (aC:Cal P w K mg base CX0 1 "_law_mix" CU Ll) (aB:Cal P w K mg base CX0 1 "_law_state_by" Ba OK) (aJ:Cal P w K mg base CX0 2 "_law_condition_by" Bc spCo) :
  AS P w K mg base CX0 3 f fd BK spCl:=by
 refine F.ok Bp (fun vs H Q E h=>?_) (fun cdv A outer s H vs Q E hr h=>?_)
 ·obtain ⟨m,sd,j,rfl,_⟩:=h;rfl
 ·obtain ⟨m,sd,j,rfl,⟨mx,my,hm,hx,hy⟩,h0,h1,k⟩:=h;let J1:St->Hp->Prop:=fun σ H2=>∃ x:Option Int,σ=[some (.ref m),some (.int sd),some (.int j),some (.int (unO x)),none,none]/\wOk x/\H=H2;refine ⟨_,(Ag (Av (i:=3) Bp.nd rfl (Or.inl rfl) Ah) (Ag (ps_ifJ J1 (Ax op_gt (AA Bb (Aj aC (rm hr) rfl Al (Aa (pv 1) (Aa (pv 2) Ac))) Ah) Ah (AI _)) (Ai (Av (i:=3) Bp.nd rfl (Or.inl rfl) (Aj aB (rm hr) rfl Al (Aa (pv 0) (Aa (Aj aC (rm hr) rfl Al (Aa (pv 1) (AO AH (pv 2) Ah Ac))) Ac))))) Ay) (Ag (Av (i:=4) Bp.nd rfl (Or.inl rfl) (Ck Ac)) (Ag (BP PassesOwn.never rfl (CZ rfl T.b_range (AO Bb (Aj aC (rm hr) rfl Al (Aa (pv 1) (AO AH (pv 2) Ah Ac))) Ah Ac)) (AR (i:=5) Bp.nd rfl (Or.inl rfl)) (Ai (CO (Dx PySem.F.plainAttrs_list PySem.F.slot_list_append PySem.F.type_list_append Cz (pv 4) (Aa (Aj aJ (rm hr) rfl Al (Aa (pv 0) (Aa (pv 1) (AO AH (pv 2) (AA Fn Ah (AA AH (pv 5) Ah)) Ac)))) Ac))))) (Ai (Aq (CT (Aa (pv 3) (Aa (pv 4) (Aa (Aj aB (rm hr) rfl Al (Aa (pv 0) (Aa (Aj aC (rm hr) rfl Al (Aa (pv 1) (AO AH (pv 2) Ah Ac))) Ac))) Ac)))))))))),?_⟩
  try dsimp only [cxK]
  refine ⟨⟨_,rfl,_,rfl,sd,j,rfl,h0,by omega,fun v hv=>⟨_,_,rfl,rfl,(by show (0:Int) < 4; decide),_,_,rfl,rfl,_,rfl,?_⟩⟩,?_⟩
  ·refine II (fun _=>?_) (fun _=>?_)
   ·exact ⟨_,rfl,_,rfl,_,rfl,_,_,rfl,rfl,sd,_,rfl,by omega,by omega,fun v2 hv2=>⟨m,mx,my,v2,rfl,hm,hx,hy,fun d hd=>⟨some d,rfl,hd,rfl⟩⟩⟩
   ·exact ⟨none,rfl,trivial,rfl⟩
  ·rintro σ H2 ⟨x,rfl,ox,rfl⟩;refine ⟨(by show 0<=sizeLine; decide),fun l hl=>?_⟩;refine ⟨_,rfl,_,rfl,_,_,rfl,rfl,sd,_,rfl,by omega,by omega,fun v hv=>?_⟩;obtain ⟨n,hn0⟩:=Int.eq_ofNat_of_zero_le (show 0<=v % 4 by omega);refine ⟨_,_,rfl,rfl,(by show (0:Int) < 4; decide),_,rfl,by omega,by omega,?_⟩;rw [show (v % 4).toNat=n by omega];refine Ds (n:=n) (fun i σ H2=>∃ (ds:List Addr) (cn:List AQ) (u7:Option V),σ=[some (.ref m),some (.int sd),some (.int j),some (.int (unO x)),some (.ref l),u7]/\As H H2/\H2 l=some (.lst (ds.map V.ref))/\Paired (BT H2) ds cn/\cn.length=i/\∀ d ∈ cn,d.ok)
    ⟨[],[],none,rfl,Ae hl,Ab,.nil,rfl,fun d hd=>by simp at hd⟩ ?_ ?_
   ·rintro i σ H2 hi ⟨ds,cn,u7,rfl,sm,hl2,pr,hn,oks⟩;have ld:=Paired.length pr;refine ⟨_,rfl,.inl ⟨rfl,_,SqL.of hl2⟩,_,rfl,_,rfl,_,rfl,_,rfl,_,_,rfl,rfl,_,_,rfl,rfl,.inl ⟨by decide,by decide⟩,_,_,rfl,rfl,m,sd,_,rfl,⟨mx,my,sm _ _ hm,hx,hy⟩,by omega,by omega,fun q d H3 s3 hd od=>?_⟩;refine ⟨l,_,_,rfl,rfl,s3 _ _ hl2,by rw [List.length_map,ld,hn]; exact Nat.lt_of_lt_of_le hi (Eu (by omega)),?_⟩;refine ⟨ds ++ [q],cn ++ [d],_,rfl,fun b o e=>?_,?_,?_,by rw [List.length_append,hn]; rfl,fun e he=>?_⟩
    ·rw [Ak (Ar e hl)];exact s3 _ _ (sm _ _ e)
    ·rw [Ab,List.map_append]; rfl
    ·refine Paired.snoc (Paired.impMem (fun x' y hy z=>(z.same s3).put (s3 _ _ hl2) (oks y hy)) pr) (hd.put (s3 _ _ hl2) od)
    ·rcases List.mem_append.mp he with z | z
     ·exact oks e z
     ·rw [List.mem_singleton.mp z]; exact od
   ·rintro σ H2 ⟨ds,cn,u7,rfl,sm,hl2,pr,hn,oks⟩;refine ⟨_,rfl,_,rfl,_,rfl,_,rfl,_,rfl,_,_,rfl,rfl,sd,_,rfl,by omega,by omega,fun v2 hv2=>⟨m,mx,my,v2,rfl,sm _ _ hm,hx,hy,fun d hd=>⟨(by show 3<=sizeLine; decide),fun q hq=>?_⟩⟩⟩;have s3:=Ae (o:=.tup [.int (unO x),.ref l,.int d]) hq;exact k q l ds ⟨x,cn,d⟩ _ (sm.trans s3) hl Ab (s3 _ _ hl2) (Paired.imp (fun _ _ z=>z.same s3) pr) ⟨ox,hd,(by show cn.length<=50; omega),oks⟩
inductive SpCs (K:PySem.W.Frag) (vs:List V) (H:Hp) (Q:VK):Prop
 | mk (l:Addr) (ns:List Int) (ft mn:Int) (_:vs=[.ref l,.int ft,.int mn]) (_:SqL K H l (ns.map V.int)) (_:0<=ft) (_:0<=mn) (_:mn<=40) (_:∀ (q:Addr) (r:AU) (H':Hp),As H H'->FL H' q r->Gw r->Fp r 0 Eb=0->mn<=r.length->r.length<=mn+1->Q (.ref q) H'):SpCs K vs H Q
def spCs (K:PySem.W.Frag):Sp:=fun vs H Q _=>SpCs K vs H Q
theorem ok_cs {f:Addr} {fd:FuncData} (F:Fun K "_law_clauses_by" "_law_clauses_by" AY f fd) (T:Top K mg a) (aA:Cal P w K mg base CX0 1 "_law_at" Dr (OP K)) (aR:Cal P w K mg base CX0 3 "_law_clause_by" BK spCl) (aG:Cal P w K mg base CX0 3 "_law_becomes" BM spBe) :
  AS P w K mg base CX0 4 f fd Bq (spCs K):=by
 refine F.ok Bg (fun vs H Q E h=>?_) (fun cdv A outer s H vs Q E hr h=>?_)
 ·obtain ⟨l,ns,ft,mn,rfl,_⟩:=h;rfl
 ·obtain ⟨l,ns,ft,mn,rfl,hS,h0,m0,m40,k⟩:=h;refine ⟨_,(Ag (Av (i:=3) Bg.nd rfl (Or.inl rfl) (CT (AO Bb (Aj aA (rm hr) rfl Al (Aa (pv 0) (Aa (pv 1) Ac))) Ah (AO Bb (Aj aA (rm hr) rfl Al (Aa (pv 0) (AO AH (pv 1) Ah Ac))) Ah Ac)))) (Ag (Av (i:=4) Bg.nd rfl (Or.inl rfl) (Ck Ac)) (Ag (BP PassesOwn.never rfl (CZ rfl T.b_range (Aa (pv 2) Ac)) (AR (i:=5) Bg.nd rfl (Or.inl rfl)) (Ai (CO (Dx PySem.F.plainAttrs_list PySem.F.slot_list_append PySem.F.type_list_append Cz (pv 4) (Aa (Aj aR (rm hr) rfl Al (Aa (pv 3) (Aa (Aj aA (rm hr) rfl Al (Aa (pv 0) (AO AH (AA AH (pv 1) Ah) (pv 5) Ac))) (AO Fn Ah (pv 5) Ac)))) Ac))))) (Ag (AX (Ax Fc (Aj aG (rm hr) rfl Al (Aa (pv 4) (Au (Mp (Au (Au (Au (Au (Au (Au (Au (Au Ac)))))))) Ac)))) Ah (AI _)) (Ai (Av (i:=4) Bg.nd rfl (Or.inl rfl) (AA Ia (Ck (Bi (Au (Mp (Bi (GZ (Au (Mp (Au Ac) Ac))) Ac) (Au Ac))) Ac)) (pv 4)))) Ay) (Ai (Aq (pv 4))))))),?_⟩
  try dsimp only [cxK]
  refine ⟨_,rfl,_,rfl,l,ns,ft,rfl,hS,h0,?_⟩;refine ⟨_,_,rfl,rfl,(by show (0:Int) < 8; decide),_,rfl,?_⟩;refine ⟨_,rfl,_,_,rfl,rfl,l,ns,_,rfl,hS,by omega,?_⟩;refine ⟨_,_,rfl,rfl,(by show (0:Int) < 8; decide),(by show 2<=sizeLine; decide),fun m hm=>?_⟩;have s1:=Ae (o:=.tup [.int (atN ns ft % 8),.int (atN ns (ft+1) % 8)]) hm;have hM:Md (upd H m (.tup [.int (atN ns ft % 8),.int (atN ns (ft+1) % 8)])) m:=⟨_,_,Ab,⟨by omega,by omega⟩,⟨by omega,by omega⟩⟩
  have s1':As H (upd H m (.tup [.int (atN ns ft % 8),.int (atN ns (ft+1) % 8)])):=s1;show (tSeq _ _) _ _ (upd H m (.tup [.int (atN ns ft % 8),.int (atN ns (ft+1) % 8)]));generalize upd H m (.tup [.int (atN ns ft % 8),.int (atN ns (ft+1) % 8)])=H1 at s1 s1' hM ⊢;refine ⟨(by show 0<=sizeLine; decide),fun cl hcl=>?_⟩;obtain ⟨n,rfl⟩:=Int.eq_ofNat_of_zero_le m0;refine ⟨_,rfl,_,rfl,by omega,by omega,?_⟩;rw [Int.toNat_natCast];refine Ds (n:=n) (fun i σ H2=>∃ (cs:List Addr) (r:AU) (u5:Option V),σ=[some (.ref l),some (.int ft),some (.int n),some (.ref m),some (.ref cl),u5]/\As H1 H2/\H2 cl=some (.lst (cs.map V.ref))/\Paired (IN cl H2) cs r/\r.length=i/\∀ c ∈ r,c.ok)
   ⟨[],[],none,rfl,Ae hcl,Ab,.nil,rfl,fun d hd=>by simp at hd⟩ ?_ ?_
  ·rintro i σ H2 hi ⟨cs,r,u5,rfl,sm,hl2,pr,hn,oks⟩;have ld:=Paired.length pr;have hS2:SqL K H2 l (ns.map V.int):=(s1'.trans sm).seq hS;refine ⟨_,rfl,.inl ⟨rfl,_,SqL.of hl2⟩,_,rfl,_,rfl,_,rfl,_,_,rfl,rfl,_,rfl,_,_,rfl,rfl,l,ns,_,rfl,hS2,by omega,_,rfl,_,_,rfl,rfl,.inl ⟨by decide,by decide⟩,m,_,_,rfl,hM.same sm,by omega,by omega,fun q l' ds c H3 s3 nl e1 e2 e3 oc=>?_⟩;refine ⟨cl,_,_,rfl,rfl,s3 _ _ hl2,by rw [List.length_map,ld,hn]; exact Nat.lt_of_lt_of_le hi (Eu (by omega)),?_⟩;have nl':l'≠cl:=fun z=>by rw [z,hl2] at nl; cases nl
   refine ⟨cs ++ [q],r ++ [c],_,rfl,fun b o e=>?_,?_,?_,by rw [List.length_append,hn]; rfl,fun e he=>?_⟩
   ·rw [Ak (Ar e hcl)];exact s3 _ _ (sm _ _ e)
   ·rw [Ab,List.map_append]; rfl
   ·refine Paired.snoc (Paired.impMem (fun x' y hy z=>(z.same s3).put (s3 _ _ hl2) (oks y hy)) pr) (IN.put (s3 _ _ hl2) ⟨l',ds,nl',e1,e2,e3⟩ oc)
   ·rcases List.mem_append.mp he with z | z
    ·exact oks e z
    ·rw [List.mem_singleton.mp z]; exact oc
  ·rintro σ H2 ⟨cs,r,u5,rfl,sm,hl2,pr,hn,oks⟩;have hR:FL H2 cl r:=⟨cs,hl2,Paired.imp (fun _ _ z=>z.at) pr⟩
   have rk:Gw r:=⟨by omega,oks⟩
   refine ⟨_,rfl,(by show 8<=sizeLine; decide),fun z8 hz8=>?_⟩;have s3:=Ae (o:=.lst (Eb.map V.int)) hz8;refine ⟨cl,z8,r,0,Eb,rfl,hR.same s3,rk,Ab,rfl,fun H4 s4=>?_⟩;have s14:As H H4:=((s1'.trans sm).trans s3).trans s4;have hR4:=(hR.same s3).same s4;refine ⟨rfl,_,rfl,?_⟩;rw [Ex];by_cases hz:Fp r 0 Eb=0
   ·rw [decide_eq_true hz];exact CA ⟨_,rfl,k cl r H4 s14 hR4 rk hz (by omega) (by omega)⟩
   ·rw [decide_eq_false hz];refine Ef ?_;refine ⟨(by show 1<=sizeLine; decide),fun b1 hb1=>⟨(by show 3<=sizeLine; decide),fun b2 hb2=>⟨(by show 1<=sizeLine; decide),fun b3 hb3=>⟨(by show 3<=sizeLine; decide),fun b4 hb4=>⟨(by show 1<=sizeLine; decide),fun b5 hb5=>?_⟩⟩⟩⟩⟩;generalize hH5:upd (upd (upd (upd (upd H4 b1 (.lst [.int 8])) b2 (.tup [.str (Str.ofString "amount"),.int 0,.ref b1])) b3 (.lst [.ref b2])) b4 (.tup [.int 0,.ref b3,.int 0])) b5 (.lst [.ref b4])=H5;have s5:As H4 H5:=by rw [<-hH5]; exact (((Ae hb1).trans (Ae hb2)).trans (Ae hb3)).trans ((Ae hb4).trans (Ae hb5))
    have e1:H5 b1=some (.lst [.int 8]):=by rw [<-hH5]; exact Ae hb5 _ _ (Ae hb4 _ _ (Ae hb3 _ _ (Ae hb2 _ _ Ab)))
    have e2:H5 b2=some (.tup [.str (Str.ofString "amount"),.int 0,.ref b1]):=by rw [<-hH5]; exact Ae hb5 _ _ (Ae hb4 _ _ (Ae hb3 _ _ Ab))
    have e3:H5 b3=some (.lst [.ref b2]):=by rw [<-hH5]; exact Ae hb5 _ _ (Ae hb4 _ _ Ab)
    have e4:H5 b4=some (.tup [.int 0,.ref b3,.int 0]):=by rw [<-hH5]; exact Ae hb5 _ _ Ab
    have e5:H5 b5=some (.lst [.ref b4]):=by rw [<-hH5]; exact Ab
    obtain ⟨cs4,hcl4,pr4⟩:=(hR4.same s5).ex;have ld4:=Paired.length pr4;refine ⟨_,rfl,b5,cl,_,_,rfl,rfl,e5,hcl4,Eu (by simp only [List.length_cons,List.length_nil,List.length_map]; omega),fun q hq=>?_⟩;have s6:=Ae (o:=.lst ([V.ref b4] ++ cs4.map V.ref)) hq;have c0:Jr H5 b4 c00:=⟨b3,[b2],e4,e3,.cons (.am (ns:=[8]) e2 e1) .nil⟩
    refine ⟨_,rfl,k q (c00 :: r) _ ((s14.trans s5).trans s6) ⟨b4 :: cs4,Ab,.cons (c0.same s6) (Paired.imp (fun _ _ z=>z.same s6) pr4)⟩ ⟨by rw [List.length_cons]; omega,fun c hc=>?_⟩ (PY r) (by rw [List.length_cons]; omega) (by rw [List.length_cons]; omega)⟩;rcases List.mem_cons.mp hc with z | z
    ·rw [z]; exact c00_ok
    ·exact oks c z
end
end J
namespace J
open PySem L2
def kOf (ps:List Int):List Key:=ps.map Sum.inl
theorem FG:∀ {ps qs:List Int},kOf ps=kOf qs->ps=qs
 | [],[],_=>rfl
 | [],_ :: _,h=>by cases h
 | _ :: _,[],h=>by cases h
 | x :: r,y :: t,h=>by
  have h:Sum.inl x :: kOf r=(Sum.inl y:Key) :: kOf t:=h;injection h with h1 h2
  injection h1 with h1
  rw [h1,FG h2]
theorem PairedM.imp {α β:Type} {F G:α->β->Prop} (h:∀ x y,F x y->G x y):∀ {l:List α} {m:List β},Paired F l m->Paired G l m
 | _,_,.nil=>.nil
 | _,_,.cons r t=>.cons (h _ _ r) (PairedM.imp h t)
theorem PairedM.getL {α β:Type} {F:α->β->Prop}:∀ {l:List α} {m:List β} {i:Nat} {x:α},Paired F l m->l[i]?=some x->∃ y,m[i]?=some y/\F x y
 | _,_,_,_,.nil,e=>by simp at e
 | _,_,0,_,.cons r _,e=>by simp at e; subst e; exact ⟨_,rfl,r⟩
 | _,_,i+1,x,.cons _ t,e=>by
  obtain ⟨y,h1,h2⟩:=PairedM.getL (i:=i) (x:=x) t (by simpa using e);exact ⟨y,by simpa using h1,h2⟩
theorem le_ln {n:Nat} (h:n<=10000000):n<=sizeLine:=Nat.le_trans h (by decide)
theorem FE {n:Nat} (h:n < 10000000):n < sizeLine:=Nat.lt_of_lt_of_le h (by decide)
theorem As.noneOf {H H':Hp} (s:As H H') {x:Addr} (n:H' x=none):H x=none:=by
 cases e:H x with
 | none=>rfl
 | some o=>rw [s _ _ e] at n; cases n
theorem idx {n:Nat} (h:0 < n) (v:Int):∃ j:Nat,v % (n:Int)=(j:Int)/\j < n:=by
 have h1:=Int.emod_nonneg v (show (n:Int)≠0 by lia);have h2:=Int.emod_lt_of_pos v (show (0:Int) < (n:Int) by lia);obtain ⟨j,e⟩:=Int.eq_ofNat_of_zero_le h1;exact ⟨j,e,by lia⟩
theorem Pq {T:St->Hp->Prop} {C:Prop} (P:St->Hp->Prop) (h:(∀ σ H,P σ H->T σ H)->C) (k:∀ σ H,P σ H->T σ H):C:=h k
theorem MS {H H1:Hp} {L:Addr} {o:HO} (n:H L=none) (s:As H H1):As H (upd H1 L o):=fun b u e=>by
 rw [Ak (Ar e n)];exact s _ _ e
structure Cl where
 x:Int
 y:Int
 s:Int
def ClAt (H:Hp) (t:Addr) (c:Cl):Prop:=H t=some (.tup [.int c.x,.int c.y,.int c.s])
def kvC (ds:List Cl):List (List Key×V):=ds.map fun c=>(kOf [c.x,c.y],V.int (c.s:Int))
theorem Np:∀ {ds:List Cl},(ds.map fun c=>(c.x,c.y)).Nodup->∀ {c:Cl},c ∈ ds->De (kvC ds) (kOf [c.x,c.y])=some (.int (c.s:Int))
 | d :: ds,nd,c,hc=>by
  rw [List.map_cons,List.nodup_cons] at nd;show De ((kOf [d.x,d.y],V.int (d.s:Int)) :: kvC ds) (kOf [c.x,c.y])=_;rcases List.mem_cons.mp hc with rfl | hc
  ·exact Bn rfl
  ·rw [Bo fun z=>?_]
   ·exact Np nd.2 hc
   ·have z:=FG z;injection z with z1 z
    injection z with z2 z
    exact nd.1 (List.mem_map.mpr ⟨c,hc,by rw [z1,z2]⟩)
def Jz (ds:List Cl) (c:Cl):List Cl:=if ds.any (fun d=>decide (d.x=c.x/\d.y=c.y))=true then ds.map (fun d=>if d.x=c.x/\d.y=c.y then c else d) else ds ++ [c]
theorem Pu (ds:List Cl) (c:Cl):(Jz ds c).length<=ds.length+1:=by
 unfold Jz;split
 ·rw [List.length_map];lia
 ·rw [List.length_append];exact Nat.le_refl _
theorem nd_putC {ds:List Cl} {c:Cl} (h:(ds.map fun c=>(c.x,c.y)).Nodup):((Jz ds c).map fun c=>(c.x,c.y)).Nodup:=by
 unfold Jz;by_cases q:ds.any (fun d=>decide (d.x=c.x/\d.y=c.y))=true
 ·rw [if_pos q,List.map_map];have:((fun c:Cl=>(c.x,c.y)) ∘ fun d=>if d.x=c.x/\d.y=c.y then c else d)=fun d=>(d.x,d.y):=by
   funext d
   show ((if d.x=c.x/\d.y=c.y then c else d).x,(if d.x=c.x/\d.y=c.y then c else d).y)=(d.x,d.y)
   split
   ·rename_i z;rw [z.1,z.2]
   ·rfl
  rw [this];exact h
 ·rw [if_neg q,List.map_append,List.nodup_append];refine ⟨h,by simp,fun a ha b hb e=>q ?_⟩;obtain ⟨d,hd,rfl⟩:=List.mem_map.mp ha;rw [List.map_cons,List.map_nil,List.mem_singleton] at hb;rw [hb] at e;injection e with e1 e2
  exact List.any_eq_true.mpr ⟨d,hd,decide_eq_true ⟨e1,e2⟩⟩
theorem kv_putC (ds:List Cl) (c:Cl):DY (kvC ds) (kOf [c.x,c.y]) (.int (c.s:Int))=kvC (Jz ds c):=by
 have key:∀ d:Cl,(kOf [d.x,d.y]=kOf [c.x,c.y]) ↔ (d.x=c.x/\d.y=c.y):=fun d=>⟨fun z=>by
  have z:=FG z;injection z with z1 z
  injection z with z2 z
  exact ⟨z1,z2⟩,fun z=>by rw [z.1,z.2]⟩
 unfold DY Jz kvC;rw [List.any_map];have:((fun kv:List Key×V=>decide (kv.1=kOf [c.x,c.y])) ∘ fun c:Cl=>(kOf [c.x,c.y],V.int (c.s:Int)))=fun d=>decide (d.x=c.x/\d.y=c.y):=by
  funext d
  exact decide_eq_decide.mpr (key d)
 rw [this];split
 ·rw [List.map_map,List.map_map];congr 1
  funext d
  show (if kOf [d.x,d.y]=kOf [c.x,c.y] then (kOf [d.x,d.y],V.int (c.s:Int)) else (kOf [d.x,d.y],V.int (d.s:Int)))=(kOf [(if d.x=c.x/\d.y=c.y then c else d).x,(if d.x=c.x/\d.y=c.y then c else d).y],V.int ((if d.x=c.x/\d.y=c.y then c else d).s:Int))
  by_cases q:d.x=c.x/\d.y=c.y
  ·rw [if_pos ((key d).mpr q),if_pos q,q.1,q.2]
  ·rw [if_neg fun z=>q ((key d).mp z),if_neg q]
 ·rw [List.map_append];rfl
theorem dput {H:Hp} {D t:Addr} {ds:List Cl} {c:Cl} (e:H D=some (.dT (kvC ds))) (ht:H t=some (.tup [.int c.x,.int c.y])) (hl:ds.length < 1000):Me H D (.ref t) (.int (c.s:Int)) (upd H D (.dT (kvC (Jz ds c)))):=by
 rw [<-kv_putC];exact Me.t (k:=kOf [c.x,c.y]) e ht (FE (by rw [show (kvC ds).length=ds.length from List.length_map _]; lia))
theorem Lo:∀ {l m:List (List Int)},l.Pairwise (fun p q=>Cf q p=false)->m.Pairwise (fun p q=>Cf q p=false)->l.Perm m->l=m
 | [],m,_,_,h=>(List.nil_perm.mp h).symm
 | a :: l,[],_,_,h=>absurd h.length_eq (by simp)
 | a :: l,b :: m,h1,h2,h=>by
  rw [List.pairwise_cons] at h1 h2;have e:a=b:=by
   have ha:a ∈ b :: m:=h.mem_iff.mp (List.mem_cons_self ..);have hb:b ∈ a :: l:=h.mem_iff.mpr (List.mem_cons_self ..);rcases List.mem_cons.mp ha with z | z
   ·exact z
   ·rcases List.mem_cons.mp hb with y | y
    ·exact y.symm
    ·exact LF (h2.1 a z) (h1.1 b y)
  subst e;rw [Lo h1.2 h2.2 h.cons_inv]
def Er (q:It3):List Int:=q.y :: q.x :: q.r
theorem MT {out:List It3} (h:EB out) (nd:(out.map fun q=>(q.x,q.y)).Nodup):(out.map Er).Pairwise (fun p q=>Cf q p=false):=by
 rw [List.nodup_iff_pairwise_ne,List.pairwise_map] at nd;rw [List.pairwise_map];refine (h.and nd).imp fun {p q} ⟨h1,h2⟩=>?_;show (if q.y=p.y then (if q.x=p.x then Cf q.r p.r else decide (q.x < p.x)) else decide (q.y < p.y))=false;have h1:(if q.y=p.y then (if q.x=p.x then Cf [] [] else decide (q.x < p.x)) else decide (q.y < p.y))=false:=h1;by_cases e1:q.y=p.y
 ·rw [if_pos e1] at h1 ⊢;by_cases e2:q.x=p.x
  ·exact absurd (by rw [e1,e2]) h2
  ·rw [if_neg e2] at h1 ⊢;exact h1
 ·rw [if_neg e1] at h1 ⊢;exact h1
def fdC (ds:List Cl) (x y:Int):Option Cl:=ds.find? fun c=>decide (c.x=x/\c.y=y)
def lkC (ds:List Cl) (x y:Int):Int:=((fdC ds x y).map (·.s)).getD 0
theorem OD (x y:Int):∀ (ds:List Cl),De (kvC ds) (kOf [x,y])=(fdC ds x y).map fun c=>V.int c.s
 | []=>rfl
 | c :: ds=>by
  show De ((kOf [c.x,c.y],V.int c.s) :: kvC ds) (kOf [x,y])=(List.find? _ (c :: ds)).map _;by_cases e:c.x=x/\c.y=y
  ·rw [Bn (by show kOf [c.x,c.y]=_; rw [e.1,e.2]),List.find?_cons_of_pos (by simpa using e)];rfl
  ·rw [Bo (fun z=>e (by have z:kOf [c.x,c.y]=kOf [x,y]:=z; have:=FG z; injection this with a b; injection b with b; exact ⟨a,b⟩)),List.find?_cons_of_neg (by simpa using e)];exact OD x y ds
theorem Js (x y:Int) (ds:List Cl):(De (kvC ds) (kOf [x,y])).getD (V.int 0)=V.int (lkC ds x y):=by
 rw [OD];unfold lkC;cases fdC ds x y<;>rfl
def EO:List (Int×Int):=[(-1,-1),(0,-1),(1,-1),(-1,0),(1,0),(-1,1),(0,1),(1,1)]
def arC (ds:List Cl) (x y:Int):List Int:=EO.map fun o=>lkC ds (x+o.1) (y+o.2)
def nxC (r:AU) (ds:List Cl) (x y:Int):Int:=Fp r (lkC ds x y) (arC ds x y)
def Nb (ds:List Cl) (p:Int×Int):Prop:=∃ c ∈ ds,∃ o ∈ (0,0) :: EO,p=(c.x+o.1,c.y+o.2)
def kvP (ps:List (Int×Int)):List (List Key×V):=ps.map fun p=>(kOf [p.1,p.2],V.bl true)
def putP (ps:List (Int×Int)) (p:Int×Int):List (Int×Int):=if p ∈ ps then ps else ps ++ [p]
theorem Io {ps:List (Int×Int)} {p q:Int×Int}:q ∈ putP ps p ↔ q=p\/q ∈ ps:=by
 unfold putP;split
 ·rename_i h;exact ⟨.inr,fun z=>z.elim (fun e=>e ▸ h) id⟩
 ·rw [List.mem_append,List.mem_singleton];exact ⟨fun z=>z.elim .inr .inl,fun z=>z.elim .inr .inl⟩
theorem JH {ps:List (Int×Int)} {p:Int×Int} (h:ps.Nodup):(putP ps p).Nodup:=by
 unfold putP;split
 ·exact h
 ·rename_i n;exact List.nodup_append.mpr ⟨h,by simp,fun a ha b hb e=>n (by rw [List.mem_singleton] at hb; rw [<-hb,<-e]; exact ha)⟩
theorem Iu (ps:List (Int×Int)) (p:Int×Int):(putP ps p).length<=ps.length+1:=by
 unfold putP;split
 ·exact Nat.le_succ _
 ·rw [List.length_append];exact Nat.le_refl _
theorem kv_putP (ps:List (Int×Int)) (p:Int×Int):DY (kvP ps) (kOf [p.1,p.2]) (V.bl true)=kvP (putP ps p):=by
 have inj:∀ {q:Int×Int},kOf [q.1,q.2]=kOf [p.1,p.2]->q=p:=fun {q} z=>by
  have:=FG z;injection this with a b
  injection b with b
  exact Prod.ext a b
 unfold DY;by_cases m:p ∈ ps
 ·have an:((kvP ps).any fun kv=>decide (kv.1=kOf [p.1,p.2]))=true:=List.any_eq_true.mpr ⟨(kOf [p.1,p.2],V.bl true),List.mem_map.mpr ⟨p,m,rfl⟩,decide_eq_true rfl⟩;rw [if_pos an,show putP ps p=ps from if_pos m];refine (List.map_congr_left (g:=id) fun kv h=>?_).trans (List.map_id _);obtain ⟨q,_,rfl⟩:=List.mem_map.mp h;split<;>rfl
 ·rw [if_neg (fun z=>?_),show putP ps p=ps ++ [p] from if_neg m]
  ·exact (List.map_append (f:=fun p:Int×Int=>(kOf [p.1,p.2],V.bl true)) (l₁:=ps) (l₂:=[p])).symm
  ·obtain ⟨kv,h,e⟩:=List.any_eq_true.mp z;obtain ⟨q,hq,rfl⟩:=List.mem_map.mp h;exact m (inj (of_decide_eq_true e) ▸ hq)
theorem PU {H:Hp} {D t:Addr} {ps:List (Int×Int)} {p:Int×Int} (e:H D=some (.dT (kvP ps))) (ht:H t=some (.tup [.int p.1,.int p.2])) (hl:ps.length < 1000):Me H D (.ref t) (.bl true) (upd H D (.dT (kvP (putP ps p)))):=by
 rw [<-kv_putP];exact Me.t (k:=kOf [p.1,p.2]) e ht (FE (by rw [show (kvP ps).length=ps.length from List.length_map _]; lia))
structure IM (r:AU) (ds:List Cl) (out:List It3):Prop where
 nd:(out.map fun q=>(q.x,q.y)).Nodup
 mem:∀ row,row ∈ out.map Er ↔ ∃ x y,Nb ds (x,y)/\nxC r ds x y≠0/\row=[y,x,nxC r ds x y]
theorem Nj {out:List It3} (h:(out.map fun q=>(q.x,q.y)).Nodup):(out.map Er).Nodup:=by
 rw [List.nodup_iff_pairwise_ne,List.pairwise_map] at h ⊢;refine h.imp fun {p q} ne e=>ne ?_;injection e with a e
 injection e with b e
 rw [a,b]
theorem IM.perm {r:AU} {ds:List Cl} {out out2:List It3} (h:IM r ds out) (p:out2.Perm out):IM r ds out2:=⟨(p.map _).nodup_iff.mpr h.nd,fun row=>by rw [(p.map Er).mem_iff]; exact h.mem row⟩
theorem IM.one {r:AU} {ds ds2:List Cl} {out out2:List It3} (h:IM r ds out) (h2:IM r ds2 out2) (b:EB out) (b2:EB out2) (e1:∀ p,Nb ds p ↔ Nb ds2 p) (e2:∀ x y,lkC ds x y=lkC ds2 x y):out.map Er=out2.map Er:=by
 refine Lo (MT b h.nd) (MT b2 h2.nd) ((List.perm_ext_iff_of_nodup (Nj h.nd) (Nj h2.nd)).mpr fun row=>?_);have en:∀ x y,nxC r ds x y=nxC r ds2 x y:=fun x y=>by
  unfold nxC arC;rw [e2 x y];congr 1;exact List.map_congr_left fun o _=>e2 _ _
 rw [h.mem,h2.mem];constructor
 ·rintro ⟨x,y,n,z,rfl⟩;exact ⟨x,y,(e1 _).mp n,by rw [<-en]; exact z,by rw [en]⟩
 ·rintro ⟨x,y,n,z,rfl⟩;exact ⟨x,y,(e1 _).mpr n,by rw [en]; exact z,by rw [en]⟩
theorem fd_perm {ds es:List Cl} (p:ds.Perm es) (nd:(es.map fun c=>(c.x,c.y)).Nodup) (x y:Int):lkC ds x y=lkC es x y:=by
 have key:∀ {l:List Cl} {c:Cl},(l.map fun c=>(c.x,c.y)).Nodup->c ∈ l->fdC l c.x c.y=some c:=by
  intro l c;induction l with
  | nil=>intro _ h; cases h
  | cons d l ih =>
   intro nd h;rw [List.map_cons,List.nodup_cons] at nd;unfold fdC;by_cases e:d.x=c.x/\d.y=c.y
   ·rw [List.find?_cons_of_pos (by simpa using e)];rcases List.mem_cons.mp h with rfl | h
    ·rfl
    ·exact absurd (List.mem_map.mpr ⟨c,h,by rw [e.1,e.2]⟩) nd.1
   ·rw [List.find?_cons_of_neg (by simpa using e)];rcases List.mem_cons.mp h with rfl | h
    ·exact absurd ⟨rfl,rfl⟩ e
    ·exact ih nd.2 h
 have nd2:=(p.map fun c=>(c.x,c.y)).nodup_iff.mpr nd;unfold lkC;cases e:fdC es x y with
 | some c =>
  have h1:=List.mem_of_find?_eq_some e;have h2:=List.find?_some e;have h2:c.x=x/\c.y=y:=by simpa using h2
  have:=key nd2 (p.mem_iff.mpr h1);rw [h2.1,h2.2] at this;rw [this]
 | none =>
  have:fdC ds x y=none:=List.find?_eq_none.mpr fun c hc z=>by
   have z:c.x=x/\c.y=y:=by simpa using z
   have:=key nd (p.mem_iff.mp hc);rw [z.1,z.2,e] at this;cases this
  rw [this]
theorem nb_perm {ds es:List Cl} (p:ds.Perm es) (q:Int×Int):Nb ds q ↔ Nb es q:=by
 unfold Nb;constructor
 ·rintro ⟨c,hc,z⟩;exact ⟨c,p.mem_iff.mp hc,z⟩
 ·rintro ⟨c,hc,z⟩;exact ⟨c,p.mem_iff.mpr hc,z⟩
end J
namespace J
open PySem L2
seal L2.PA L2.PE L2.PS L2.PSs L2.PT L2.PW
def Lb (H:Hp) (t:Addr) (p:Int×Int):Prop:=H t=some (.tup [.int p.1,.int p.2])
def arP (x y:Int):List (Int×Int):=EO.map fun o=>(x+o.1,y+o.2)
section
variable {P:Program} {w:World} {K:PySem.W.Frag} {mg:Str->Option Value} {base:Heap} {a:Ad}
theorem ok_row {f:Addr} {fd:FuncData} (F:Fun K "by_rows" "by_rows" DN f fd) (T:Top K mg a):AS P w K mg base CX0 1 f fd Ek EI:=by
 refine F.ok Ml (fun vs H Q E h=>?_) (fun cdv A outer s H vs Q E hr h=>?_)
 ·obtain ⟨t,x,y,r,rfl,_⟩:=h;rfl
 ·obtain ⟨t,x,y,r,rfl,ht,k⟩:=h;refine ⟨_,(Ai (Aq (CT (Aa (AB AF (pv 0) Ah (fun _ _=>rfl)) (Aa (AB AF (pv 0) Ah (fun _ _=>rfl)) Ac))))),?_⟩
  try dsimp only [cxK]
  exact ⟨_,rfl,t,_,1,.int y,rfl,rfl,SqT.of ht,An (j:=1) rfl,_,rfl,t,_,0,.int x,rfl,rfl,SqT.of ht,An (j:=0) rfl,(by show 2<=sizeLine; decide),fun u hu=>k u hu⟩
inductive SpPA (vs:List V) (H:Hp) (Q:VK):Prop
 | mk (x y:Int) (_:vs=[.int x,.int y]) (_:∀ (L:Addr) (ts:List Addr) (H':Hp),As H H'->H L=none->H' L=some (.lst (ts.map V.ref))->Paired (Lb H') ts (arP x y)->Q (.ref L) H'):SpPA vs H Q
def spPA:Sp:=fun vs H Q _=>SpPA vs H Q
theorem ok_pa {f:Addr} {fd:FuncData} (F:Fun K "places_around" "places_around" Bj f fd) (T:Top K mg a):AS P w K mg base CX0 1 f fd Bm spPA:=by
 refine F.ok FP (fun vs H Q E h=>?_) (fun cdv A outer s H vs Q E hr h=>?_)
 ·obtain ⟨x,y,rfl,_⟩:=h;rfl
 ·obtain ⟨x,y,rfl,k⟩:=h;refine ⟨_,(Ai (Aq (Ck (Bi (AO EN (pv 0) Ah (AO EN (pv 1) Ah Ac)) (Bi (Aa (pv 0) (AO EN (pv 1) Ah Ac)) (Bi (AO AH (pv 0) Ah (AO EN (pv 1) Ah Ac)) (Bi (AO EN (pv 0) Ah (Aa (pv 1) Ac)) (Bi (AO AH (pv 0) Ah (Aa (pv 1) Ac)) (Bi (AO EN (pv 0) Ah (AO AH (pv 1) Ah Ac)) (Bi (Aa (pv 0) (AO AH (pv 1) Ah Ac)) (Bi (AO AH (pv 0) Ah (AO AH (pv 1) Ah Ac)) Ac))))))))))),?_⟩
  try dsimp only [cxK]
  refine ⟨_,rfl,_,_,rfl,rfl,_,rfl,_,_,rfl,rfl,(by show 2<=sizeLine; decide),fun t1 h1=>?_⟩;have s1:=Ae (o:=.tup [.int (x - 1),.int (y - 1)]) h1;have e1:upd H t1 (.tup [.int (x - 1),.int (y - 1)]) t1=some (.tup [.int (x - 1),.int (y - 1)]):=Ab;show Ch _ _ _ (upd H t1 (.tup [.int (x - 1),.int (y - 1)])) _;generalize upd H t1 (.tup [.int (x - 1),.int (y - 1)])=H1 at s1 e1 ⊢;refine ⟨_,rfl,_,rfl,_,_,rfl,rfl,(by show 2<=sizeLine; decide),fun t2 h2=>?_⟩;have s2:=Ae (o:=.tup [.int x,.int (y - 1)]) h2;have e2:upd H1 t2 (.tup [.int x,.int (y - 1)]) t2=some (.tup [.int x,.int (y - 1)]):=Ab;show Ch _ _ _ (upd H1 t2 (.tup [.int x,.int (y - 1)])) _;generalize upd H1 t2 (.tup [.int x,.int (y - 1)])=H2 at s2 e2 ⊢;refine ⟨_,rfl,_,_,rfl,rfl,_,rfl,_,_,rfl,rfl,(by show 2<=sizeLine; decide),fun t3 h3=>?_⟩;have s3:=Ae (o:=.tup [.int (x+1),.int (y - 1)]) h3;have e3:upd H2 t3 (.tup [.int (x+1),.int (y - 1)]) t3=some (.tup [.int (x+1),.int (y - 1)]):=Ab;show Ch _ _ _ (upd H2 t3 (.tup [.int (x+1),.int (y - 1)])) _;generalize upd H2 t3 (.tup [.int (x+1),.int (y - 1)])=H3 at s3 e3 ⊢;refine ⟨_,rfl,_,_,rfl,rfl,_,rfl,(by show 2<=sizeLine; decide),fun t4 h4=>?_⟩;have s4:=Ae (o:=.tup [.int (x - 1),.int y]) h4;have e4:upd H3 t4 (.tup [.int (x - 1),.int y]) t4=some (.tup [.int (x - 1),.int y]):=Ab;show Ch _ _ _ (upd H3 t4 (.tup [.int (x - 1),.int y])) _;generalize upd H3 t4 (.tup [.int (x - 1),.int y])=H4 at s4 e4 ⊢;refine ⟨_,rfl,_,_,rfl,rfl,_,rfl,(by show 2<=sizeLine; decide),fun t5 h5=>?_⟩;have s5:=Ae (o:=.tup [.int (x+1),.int y]) h5;have e5:upd H4 t5 (.tup [.int (x+1),.int y]) t5=some (.tup [.int (x+1),.int y]):=Ab;show Ch _ _ _ (upd H4 t5 (.tup [.int (x+1),.int y])) _;generalize upd H4 t5 (.tup [.int (x+1),.int y])=H5 at s5 e5 ⊢;refine ⟨_,rfl,_,_,rfl,rfl,_,rfl,_,_,rfl,rfl,(by show 2<=sizeLine; decide),fun t6 h6=>?_⟩;have s6:=Ae (o:=.tup [.int (x - 1),.int (y+1)]) h6;have e6:upd H5 t6 (.tup [.int (x - 1),.int (y+1)]) t6=some (.tup [.int (x - 1),.int (y+1)]):=Ab;show Ch _ _ _ (upd H5 t6 (.tup [.int (x - 1),.int (y+1)])) _;generalize upd H5 t6 (.tup [.int (x - 1),.int (y+1)])=H6 at s6 e6 ⊢;refine ⟨_,rfl,_,rfl,_,_,rfl,rfl,(by show 2<=sizeLine; decide),fun t7 h7=>?_⟩;have s7:=Ae (o:=.tup [.int x,.int (y+1)]) h7;have e7:upd H6 t7 (.tup [.int x,.int (y+1)]) t7=some (.tup [.int x,.int (y+1)]):=Ab;show Ch _ _ _ (upd H6 t7 (.tup [.int x,.int (y+1)])) _;generalize upd H6 t7 (.tup [.int x,.int (y+1)])=H7 at s7 e7 ⊢;refine ⟨_,rfl,_,_,rfl,rfl,_,rfl,_,_,rfl,rfl,(by show 2<=sizeLine; decide),fun t8 h8=>?_⟩;have s8:=Ae (o:=.tup [.int (x+1),.int (y+1)]) h8;have e8:upd H7 t8 (.tup [.int (x+1),.int (y+1)]) t8=some (.tup [.int (x+1),.int (y+1)]):=Ab;show Jt _ (upd H7 t8 (.tup [.int (x+1),.int (y+1)])) _;generalize upd H7 t8 (.tup [.int (x+1),.int (y+1)])=H8 at s8 e8 ⊢;refine ⟨(by show 8<=sizeLine; decide),fun L hL=>?_⟩;have s9:=Ae (o:=.lst [.ref t1,.ref t2,.ref t3,.ref t4,.ref t5,.ref t6,.ref t7,.ref t8]) hL;have sm:=((((((s1.trans s2).trans s3).trans s4).trans s5).trans s6).trans s7).trans s8;refine k L [t1,t2,t3,t4,t5,t6,t7,t8] _ (sm.trans s9) (As.noneOf sm hL) Ab ?_;show Paired (Lb _) _ [(x+-1,y+-1),(x+0,y+-1),(x+1,y+-1),(x+-1,y+0),(x+1,y+0),(x+-1,y+1),(x+0,y+1),(x+1,y+1)];rw [Int.add_zero x,Int.add_zero y];exact .cons (s9 _ _ (s8 _ _ (s7 _ _ (s6 _ _ (s5 _ _ (s4 _ _ (s3 _ _ (s2 _ _ (e1))))))))) (.cons (s9 _ _ (s8 _ _ (s7 _ _ (s6 _ _ (s5 _ _ (s4 _ _ (s3 _ _ (e2)))))))) (.cons (s9 _ _ (s8 _ _ (s7 _ _ (s6 _ _ (s5 _ _ (s4 _ _ (e3))))))) (.cons (s9 _ _ (s8 _ _ (s7 _ _ (s6 _ _ (s5 _ _ (e4)))))) (.cons (s9 _ _ (s8 _ _ (s7 _ _ (s6 _ _ (e5))))) (.cons (s9 _ _ (s8 _ _ (s7 _ _ (e6)))) (.cons (s9 _ _ (s8 _ _ (e7))) (.cons (s9 _ _ (e8)) .nil)))))))
theorem Nk {cs:List Cl} {j:Nat} {c:Cl} (e:cs[j]?=some c) (p:Int×Int):Nb (cs.take (j+1)) p ↔ (Nb (cs.take j) p\/p=(c.x,c.y))\/p ∈ arP c.x c.y:=by
 have tk:cs.take (j+1)=cs.take j ++ [c]:=by rw [List.take_add_one,e]; rfl
 unfold Nb arP;rw [tk];constructor
 ·rintro ⟨d,hd,o,ho,rfl⟩;rcases List.mem_append.mp hd with hd | hd
  ·exact .inl (.inl ⟨d,hd,o,ho,rfl⟩)
  ·rw [List.mem_singleton.mp hd];rcases List.mem_cons.mp ho with rfl | ho
   ·exact .inl (.inr (by rw [Int.add_zero,Int.add_zero]))
   ·exact .inr (List.mem_map.mpr ⟨o,ho,rfl⟩)
 ·rintro ((⟨d,hd,z⟩ | rfl) | h)
  ·exact ⟨d,List.mem_append.mpr (.inl hd),z⟩
  ·exact ⟨c,List.mem_append.mpr (.inr (List.mem_singleton.mpr rfl)),(0,0),List.mem_cons_self ..,by rw [Int.add_zero,Int.add_zero]⟩
  ·obtain ⟨o,ho,rfl⟩:=List.mem_map.mp h;exact ⟨c,List.mem_append.mpr (.inr (List.mem_singleton.mpr rfl)),o,List.mem_cons_of_mem _ ho,rfl⟩
inductive SpAb (vs:List V) (H:Hp) (Q:VK):Prop
 | mk (D:Addr) (cs:List Cl) (_:vs=[.ref D]) (_:H D=some (.dT (kvC cs))) (_:cs.length<=16) (_:∀ (L:Addr) (out:List (Addr×List Int)) (ps:List (Int×Int)) (H':Hp) (o:Obj),(∀ b u,H b=some u->b≠D->H' b=some u)->H' D=some (.frz o (.dT (kvC cs)))->H L=none->H' L=some (.lst (out.map fun q=>V.ref q.1))->(∀ q ∈ out,H' q.1=some (.tup (q.2.map V.int)))->out.map (·.2)=ps.map (fun p=>[p.1,p.2])->ps.Nodup->(∀ p,p ∈ ps ↔ Nb cs p)->ps.length<=144->Q (.ref L) H'):SpAb vs H Q
def spAb:Sp:=fun vs H Q _=>SpAb vs H Q
theorem ok_ab {f:Addr} {fd:FuncData} (F:Fun K "places_about" "places_about" BD f fd) (T:Top K mg a) (aE:Cal P w K mg base CX0 1 "places_around" Bm spPA):AS P w K mg base CX0 2 f fd Co spAb:=by
 refine F.ok CN (fun vs H Q E h=>?_) (fun cdv A outer s H vs Q E hr h=>?_)
 ·obtain ⟨D,cs,rfl,_⟩:=h;rfl
 ·obtain ⟨D,cs,rfl,hD,l16,k⟩:=h;refine ⟨_,(Ag (Av (i:=1) CN.nd rfl (Or.inl rfl) Fx) (Ag (BP PassesOwn.never rfl (Ls (pv 0)) (AR (i:=2) CN.nd rfl (Or.inl rfl)) (Ag (Fu (Fh hr) (pv 1) (pv 2) Fb rfl) (Ai (BP PassesOwn.never rfl (Ce (Aj aE (rm hr) rfl Al (Aa (AB AF (pv 2) Ah (fun _ _=>rfl)) (Aa (AB AF (pv 2) Ah (fun _ _=>rfl)) Ac)))) (AR (i:=3) CN.nd rfl (Or.inl rfl)) (Ai (Fu (Fh hr) (pv 1) (pv 3) Fb rfl)))))) (Ai (Aq (Bf (JX rfl) rfl T.b_list PyProof.Rows.boot_list (Aa (pv 1) Ac)))))),?_⟩
  try dsimp only [cxK]
  refine fun Pd hP=>?_;have nPD:Pd≠D:=fun z=>by rw [z,hD] at hP; cases hP
  have s1:=Ae (o:=.dT []) hP;have e1:upd H Pd (.dT []) Pd=some (.dT (kvP [])):=Ab;generalize upd H Pd (.dT [])=H1 at s1 e1 ⊢;refine ⟨_,rfl,D,kvC cs,rfl,s1 _ _ hD,fun o=>?_⟩;have k2:∀ b u,H1 b=some u->b≠D->upd H1 D (.frz o (.dT (kvC cs))) b=some u:=fun b u e n=>by rw [Ak n]; exact e
  have e2:upd H1 D (.frz o (.dT (kvC cs))) D=some (.frz o (.dT (kvC cs))):=Ab;generalize upd H1 D (.frz o (.dT (kvC cs)))=H2 at k2 e2 ⊢;have p2:=k2 _ _ e1 nPD;have ldk:(kvC cs).length=cs.length:=List.length_map _;refine MK (kvs:=kvC cs) (fun j σ H3=>∃ (ps:List (Int×Int)) (u2 u3:Option V),σ=[some (.ref D),some (.ref Pd),u2,u3]/\(∀ b u,H2 b=some u->b≠Pd->H3 b=some u)/\H3 Pd=some (.dT (kvP ps))/\ps.Nodup/\(∀ p,p ∈ ps ↔ Nb (cs.take j) p)/\ps.length<=9 * j) ⟨[],none,none,rfl,fun b u e _=>e,p2,List.nodup_nil,fun p=>⟨(fun z=>nomatch z),fun ⟨c,hc,_⟩=>(nomatch hc)⟩,Nat.le_refl _⟩ (fun j σ H3 _ z=>by obtain ⟨_,_,_,_,z,_⟩:=z; exact z _ _ e2 (Ne.symm nPD)) ?_ ?_
  ·rintro j kb kv v σ H3 ev hb ⟨ps,u2,u3,rfl,k3,p3,nd,me,le⟩;obtain ⟨c,ec,ee⟩:∃ c,cs[j]?=some c/\(kOf [c.x,c.y],V.int c.s)=(kv,v):=by
    unfold kvC at ev;rw [List.getElem?_map] at ev;obtain ⟨c,e1,e2⟩:=Option.map_eq_some_iff.mp ev;exact ⟨c,e1,e2⟩
   injection ee with ek ev2
   subst ek ev2;have jl:=(List.getElem?_eq_some_iff.mp ec).1;have hb:H3 kb=some (.tup [.int c.x,.int c.y]):=hb;refine ⟨_,rfl,_,rfl,Pd,_,rfl,PU (p:=(c.x,c.y)) p3 hb (by lia),?_⟩;have k4:∀ b u,H3 b=some u->b≠Pd->upd H3 Pd (.dT (kvP (putP ps (c.x,c.y)))) b=some u:=fun b u e n=>by rw [Ak n]; exact e
   have p4:upd H3 Pd (.dT (kvP (putP ps (c.x,c.y)))) Pd=some (.dT (kvP (putP ps (c.x,c.y)))):=Ab;have nd4:=JH (p:=(c.x,c.y)) nd;have le4:=Iu ps (c.x,c.y);have me4:∀ p,p ∈ putP ps (c.x,c.y) ↔ (Nb (cs.take j) p\/p=(c.x,c.y)):=fun p=>by
    rw [Io,me];exact ⟨fun z=>z.elim .inr .inl,fun z=>z.elim .inr .inl⟩
   generalize upd H3 Pd (.dT (kvP (putP ps (c.x,c.y))))=H4 at k4 p4 ⊢;generalize putP ps (c.x,c.y)=ps4 at p4 nd4 le4 me4;have hb4:=k4 _ _ hb (Da hb p3 (by intro z; cases z));refine ⟨_,rfl,kb,_,0,.int c.x,rfl,rfl,SqT.of hb4,An (j:=0) rfl,_,rfl,kb,_,1,.int c.y,rfl,rfl,SqT.of hb4,An (j:=1) rfl,c.x,c.y,rfl,fun L5 ts H5 s5 nL5 hL5 pr5=>⟨L5,rfl,⟨_,SqL.of hL5⟩,?_⟩⟩;have nLP:L5≠Pd:=fun z=>by rw [z,p4] at nL5; cases nL5
   have l8:ts.length=(arP c.x c.y).length:=Paired.length pr5;have l88:(arP c.x c.y).length=8:=rfl;refine DV (xs:=ts.map V.ref) (fun i σ H6=>∃ (ps6:List (Int×Int)) (u3:Option V),σ=[some (.ref D),some (.ref Pd),some (.ref kb),u3]/\(∀ b u,H5 b=some u->b≠Pd->H6 b=some u)/\H6 Pd=some (.dT (kvP ps6))/\ps6.Nodup/\(∀ p,p ∈ ps6 ↔ ((Nb (cs.take j) p\/p=(c.x,c.y))\/p ∈ (arP c.x c.y).take i))/\ps6.length<=9 * j+1+i) ⟨ps4,_,rfl,fun b u e _=>e,s5 _ _ p4,nd4,fun p=>by rw [me4]; exact ⟨.inl,fun z=>z.elim id fun y=>nomatch y⟩,by lia⟩ (fun i σ H6 _ z=>by obtain ⟨_,_,_,z,_⟩:=z; exact SqL.of (z _ _ hL5 nLP)) ?_ ?_
   ·rintro i x σ H6 ex ⟨ps6,u3,rfl,k6,p6,nd6,me6,le6⟩;rw [List.getElem?_map] at ex;obtain ⟨t,et,rfl⟩:=Option.map_eq_some_iff.mp ex;obtain ⟨q,eq,hq⟩:=PairedM.getL pr5 et;have il:=(List.getElem?_eq_some_iff.mp et).1;have hq6:H6 t=some (.tup [.int q.1,.int q.2]):=k6 _ _ hq (Da (show H5 t=some _ from hq) (s5 _ _ p4) (by intro z; cases z));refine ⟨_,rfl,_,rfl,Pd,_,rfl,PU (p:=q) p6 hq6 (by lia),putP ps6 q,_,rfl,fun b u e n=>?_,Ab,JH nd6,fun p=>?_,?_⟩
    ·rw [Ak n];exact k6 b u e n
    ·rw [Io,me6,List.take_add_one,eq];show _ ↔ _\/p ∈ (arP c.x c.y).take i ++ [q]
     rw [List.mem_append,List.mem_singleton];constructor
     ·rintro (z | z | z)
      ·exact .inr (.inr z)
      ·exact .inl z
      ·exact .inr (.inl z)
     ·rintro (z | z | z)
      ·exact .inr (.inl z)
      ·exact .inr (.inr z)
      ·exact .inl z
    ·have:=Iu ps6 q;lia
   ·rintro σ H6 ⟨ps6,u3,rfl,k6,p6,nd6,me6,le6⟩;rw [List.length_map,l8,List.take_length] at me6;rw [List.length_map,l8,l88] at le6;exact ⟨ps6,_,_,rfl,fun b u e n=>k6 _ _ (s5 _ _ (k4 _ _ (k3 b u e n) n)) n,p6,nd6,fun p=>by rw [me6,Nk ec],by lia⟩
  ·rintro σ H3 ⟨ps,u2,u3,rfl,k3,p3,nd,me,le⟩;rw [ldk,List.take_length] at me;rw [ldk] at le;refine ⟨_,rfl,Pd,ps.map (fun p=>([p.1,p.2],V.bl true)),rfl,.inl (by rw [List.map_map]; exact p3),fun L out hL eo ho=>?_⟩;have s4:=Ae (o:=.lst (out.map fun q=>V.ref q.1)) hL;have old:∀ b u,H b=some u->b≠D->H3 b=some u:=fun b u e n=>k3 _ _ (k2 _ _ (s1 _ _ e) n) (Ar e hP);have nL:H L=none:=by
    cases e:H L with
    | none=>rfl
    | some u =>
     exfalso;by_cases z:L=D
     ·rw [z,k3 _ _ e2 (Ne.symm nPD)] at hL;cases hL
     ·rw [old _ _ e z] at hL;cases hL
   refine k L out ps _ o (fun b u e n=>s4 _ _ (old b u e n)) (s4 _ _ (k3 _ _ e2 (Ne.symm nPD))) nL Ab (fun q hq=>s4 _ _ (ho q hq)) ?_ nd me (by lia);rw [eo,List.map_map];rfl
end
end J
namespace J
open PySem L2
seal L2.PA L2.PE L2.PS L2.PSs L2.PT L2.PW
def Ow (r:AU) (kvs:List (NK×V)):Prop:=∀ (cell:Int) (ar:List Int) (v:V),De kvs [Sum.inl cell,Sum.inr ar]=some v->v=.int (Fp r cell ar)
theorem Ow.put {r:AU} {kvs:List (NK×V)} (h:Ow r kvs) (cell:Int) (ar:List Int):Ow r (DY kvs [Sum.inl cell,Sum.inr ar] (.int (Fp r cell ar))):=fun c2 a2 v e=>by
 rw [OE] at e;by_cases q:([Sum.inl c2,Sum.inr a2]:NK)=[Sum.inl cell,Sum.inr ar]
 ·rw [if_pos q] at e;cases e;injection q with q1 q2
  injection q2 with q2 _
  cases q1;cases q2;rfl
 ·rw [if_neg q] at e;exact h c2 a2 v e
def EY (r:AU) (cs:List Cl) (ps:List (Int×Int)):List (List Int):=(ps.filter fun p=>decide (nxC r cs p.1 p.2≠0)).map fun p=>[p.2,p.1,nxC r cs p.1 p.2]
theorem GH {r:AU} {cs:List Cl} {ps:List (Int×Int)} {j:Nat} {p:Int×Int} (e:ps[j]?=some p):EY r cs (ps.take (j+1))=if nxC r cs p.1 p.2≠0 then EY r cs (ps.take j) ++ [[p.2,p.1,nxC r cs p.1 p.2]] else EY r cs (ps.take j):=by
 unfold EY;rw [List.take_add_one,e];show (((ps.take j ++ [p]).filter _).map _)=_;rw [List.filter_append,List.map_append];by_cases z:nxC r cs p.1 p.2≠0
 ·rw [if_pos z,List.filter_cons_of_pos (by simpa using z)];rfl
 ·rw [if_neg z,List.filter_cons_of_neg (by simpa using z)];simp
theorem Nl {r:AU} {cs:List Cl} {ps:List (Int×Int)} {items:List It3} (nd:ps.Nodup) (me:∀ p,p ∈ ps ↔ Nb cs p) (e:items.map Er=EY r cs ps):IM r cs items:=by
 refine ⟨?_,fun row=>?_⟩
 ·have h:(items.map Er).map (fun row=>(row.getD 1 0,row.getD 0 0))=(EY r cs ps).map fun row=>(row.getD 1 0,row.getD 0 0):=by rw [e]
  unfold EY at h;rw [List.map_map,List.map_map] at h;have h2:items.map (fun q=>(q.x,q.y))=ps.filter fun p=>decide (nxC r cs p.1 p.2≠0):=by
   refine Eq.trans ?_ (h.trans ?_)
   ·rfl
   ·exact (List.map_congr_left (g:=id) fun p _=>rfl).trans (List.map_id _)
  rw [h2];exact nd.filter _
 ·rw [e];unfold EY;rw [List.mem_map];constructor
  ·rintro ⟨p,hp,rfl⟩;obtain ⟨h1,h2⟩:=List.mem_filter.mp hp;exact ⟨p.1,p.2,(me p).mp h1,of_decide_eq_true h2,rfl⟩
  ·rintro ⟨x,y,n,z,rfl⟩;exact ⟨(x,y),List.mem_filter.mpr ⟨(me _).mpr n,decide_eq_true z⟩,rfl⟩
section
variable {P:Program} {w:World} {K:PySem.W.Frag} {mg:Str->Option Value} {base:Heap} {a:Ad}
theorem JR {H:Hp} {D t:Addr} {cs:List Cl} {o:Obj} {x y:Int} (hD:H D=some (.frz o (.dT (kvC cs)))) (ht:H t=some (.tup [.int x,.int y])):MP H D (.ref t) (De (kvC cs) (kOf [x,y])):=.inr ⟨kvC cs,kOf [x,y],t,.inr ⟨o,hD⟩,rfl,ht,rfl⟩
inductive SpSA (P:Program) (w:World) (a:Ad) (vs:List V) (H:Hp) (Q:VK):Prop
 | mk (p D t Kn:Addr) (z:Str) (r:AU) (cs:List Cl) (x y:Int) (o:Obj) (kvs:List (NK×V)) (_:vs=[.ref p,.ref D,.ref t,.ref Kn]) (_:EA a H p z r) (_:ROk r) (_:H D=some (.frz o (.dT (kvC cs)))) (_:H t=some (.tup [.int x,.int y])) (_:CV P w [false,true] H Kn kvs) (_:Ow r kvs) (_:kvs.length<=1000) (_:∀ (H':Hp) (kvs':List (NK×V)),(∀ b u,H b=some u->b≠Kn->H' b=some u)->CV P w [false,true] H' Kn kvs'->Ow r kvs'->kvs'.length<=kvs.length+1->Q (.int (nxC r cs x y)) H'):SpSA P w a vs H Q
def spSA (P:Program) (w:World) (a:Ad):Sp:=fun vs H Q _=>SpSA P w a vs H Q
theorem ok_sa {f:Addr} {fd:FuncData} (F:Fun K "state_after" "state_after" Bu f fd) (T:Top K mg a) (aE:Cal P w K mg base CX0 1 "places_around" Bm spPA) (aW:Cal P w K mg base CX0 5 "becomes" DQ (MZ a)):AS P w K mg base CX0 6 f fd CF (spSA P w a):=by
 refine F.ok BA (fun vs H Q E h=>?_) (fun cdv A outer s H vs Q E hr h=>?_)
 ·obtain ⟨p,D,t,Kn,z,r,cs,x,y,o,kvs,rfl,_⟩:=h;rfl
 ·obtain ⟨p,D,t,Kn,z,r,cs,x,y,o,kvs,rfl,hR,rok,hD,ht,nk,ko,kl,k⟩:=h;refine ⟨_,(Ag (Av (i:=4) BA.nd rfl (Or.inl rfl) (Fy (Fh hr) (pv 1) (pv 2) Ah ⟨rfl,rfl,rfl,rfl⟩)) (Ag (GV (i:=5) rfl BA.nd rfl rfl (BU.of (So:=Af Bu) (No:=Fd) (N:=["neighbour","states"]) (k:=1) (cs:=[1]) rfl rfl (by decide +kernel)) (Ce (Aj aE (rm hr) rfl Al (Aa (AB AF (pv 2) Ah (fun _ _=>rfl)) (Aa (AB AF (pv 2) Ah (fun _ _=>rfl)) Ac)))) (fun _ _ _=>(BW (i:=0) (by decide +kernel) rfl rfl)) (fun _ _ _=>Dg) (fun _ _ _=>(Fy (Fh hr) (pv 1) (pv 0) Ah ⟨rfl,rfl,rfl,rfl⟩))) (Ag (Av (i:=6) BA.nd rfl (Or.inl rfl) (CT (Aa (pv 4) (Aa (Bf CM rfl T.b_tuple PyProof.Rows.boot_tuple (Aa (pv 5) Ac)) Ac)))) (Ag (Av (i:=7) BA.nd rfl (Or.inl rfl) (Pc (sh:=[false,true]) hr.units (pv 3) (pv 6) ⟨rfl,rfl,rfl,rfl⟩)) (Ag (AX (Ax JD (pv 7) Fm (AI _)) (Ag (Av (i:=7) BA.nd rfl (Or.inl rfl) (Aj aW (rm hr) rfl Al (Aa (pv 0) (Aa (pv 4) (Aa (pv 5) Ac))))) (Ai (OY (sh:=[false,true]) hr.units (pv 3) (pv 6) (pv 7) rfl))) Ay) (Ai (Aq (pv 7)))))))),?_⟩
  try dsimp only [cxK]
  refine ⟨_,rfl,D,rfl,.inr ⟨_,.inr ⟨o,hD⟩⟩,_,rfl,_,JR hD ht,?_⟩;rw [Js];refine ⟨_,rfl,t,_,0,.int x,rfl,rfl,SqT.of ht,An (j:=0) rfl,_,rfl,t,_,1,.int y,rfl,rfl,SqT.of ht,An (j:=1) rfl,x,y,rfl,fun L1 ts H1 s1 nL1 hL1 pr1=>⟨L1,rfl,⟨_,SqL.of hL1⟩,?_⟩⟩;have hD1:=s1 _ _ hD;have l8:ts.length=(arP x y).length:=Paired.length pr1;have l88:(arP x y).length=8:=rfl;refine DW (xs:=ts.map V.ref) (fun j acc H2=>H1=H2/\acc=(((arP x y).take j).map fun q=>lkC cs q.1 q.2).map V.int) ⟨rfl,rfl⟩ (fun j acc H2 _ z=>z.1 ▸ SqL.of hL1) ?_ ?_
  ·rintro j v acc H2 ev ⟨rfl,rfl⟩;rw [List.getElem?_map] at ev;obtain ⟨u,eu,rfl⟩:=Option.map_eq_some_iff.mp ev;obtain ⟨q,eq,hq⟩:=PairedM.getL pr1 eu;have jl:=(List.getElem?_eq_some_iff.mp eu).1;refine ⟨⟨[some (.ref u)],rfl,rfl⟩,by rw [List.length_map,List.length_map,List.length_take]; exact FE (by lia),GG ⟨_,rfl,D,rfl,.inr ⟨_,.inr ⟨o,hD1⟩⟩,_,rfl,_,JR hD1 hq,?_⟩⟩;rw [Js];refine ⟨rfl,?_⟩;rw [List.take_add_one,eq];show _=(((arP x y).take j ++ [q]).map _).map _;rw [List.map_append,List.map_append];rfl
  ·rintro acc H2 ⟨rfl,rfl⟩ L2 hL2;rw [List.length_map,l8,List.take_length];have ea:((arP x y).map fun q=>lkC cs q.1 q.2)=arC cs x y:=by
    unfold arP arC;rw [List.map_map];rfl
   rw [ea];have s2:=Ae (o:=.lst ((arC cs x y).map V.int)) hL2;have e2:upd H1 L2 (.lst ((arC cs x y).map V.int)) L2=some (.lst ((arC cs x y).map V.int)):=Ab;generalize upd H1 L2 (.lst ((arC cs x y).map V.int))=H2 at s2 e2 ⊢;refine ⟨_,rfl,_,rfl,L2,_,rfl,.inl ⟨SqL.of e2,fun t3 h3=>?_⟩⟩;have s3:=Ae (o:=.tup ((arC cs x y).map V.int)) h3;have e3:upd H2 t3 (.tup ((arC cs x y).map V.int)) t3=some (.tup ((arC cs x y).map V.int)):=Ab;show Jt _ (upd H2 t3 (.tup ((arC cs x y).map V.int))) _;generalize upd H2 t3 (.tup ((arC cs x y).map V.int))=H3 at s3 e3 ⊢;refine ⟨(by show 2<=sizeLine; decide),fun t4 h4=>?_⟩;have s4:=Ae (o:=.tup [.int (lkC cs x y),.ref t3]) h4;have e4:upd H3 t4 (.tup [.int (lkC cs x y),.ref t3]) t4=some (.tup [.int (lkC cs x y),.ref t3]):=Ab;show Fi 6 (.ref t4) _ (upd H3 t4 (.tup [.int (lkC cs x y),.ref t3])) _;generalize upd H3 t4 (.tup [.int (lkC cs x y),.ref t3])=H4 at s4 e4 ⊢;have sm:=((s1.trans s2).trans s3).trans s4;have nk4:CV P w [false,true] H4 Kn kvs:=nk.keep (fun b ys e=>sm _ _ e) (fun o e=>sm _ _ e);have key4:DX H4 t4 [Sum.inl (lkC cs x y),Sum.inr (arC cs x y)]:=⟨_,e4,.cons rfl (.cons ⟨t3,rfl,s4 _ _ e3⟩ .nil)⟩
   refine ⟨_,rfl,Kn,rfl,⟨_,nk4⟩,_,rfl,t4,[Sum.inl (lkC cs x y),Sum.inr (arC cs x y)],kvs,rfl,nk4,key4,rfl,?_⟩;cases e:De kvs [Sum.inl (lkC cs x y),Sum.inr (arC cs x y)] with
   | some v =>
    have ev:=ko _ _ _ e;subst ev;exact ⟨_,rfl,rfl,_,rfl,CA ⟨_,rfl,k H4 kvs (fun b u e _=>sm _ _ e) nk4 ko (Nat.le_succ _)⟩⟩
   | none =>
    refine ⟨_,rfl,rfl,_,rfl,Ef ⟨_,rfl,_,rfl,_,rfl,p,L2,z,r,lkC cs x y,arC cs x y,rfl,hR.same sm,rok,s4 _ _ (s3 _ _ e2),fun H5 s5=>?_⟩⟩;have nk5:CV P w [false,true] H5 Kn kvs:=nk4.keep (fun b ys e=>s5 _ _ e) (fun o e=>s5 _ _ e);have key5:DX H5 t4 [Sum.inl (lkC cs x y),Sum.inr (arC cs x y)]:=⟨_,s5 _ _ e4,.cons rfl (.cons ⟨t3,rfl,s5 _ _ (s4 _ _ e3)⟩ .nil)⟩
    refine ⟨_,rfl,_,rfl,_,rfl,Kn,t4,[Sum.inl (lkC cs x y),Sum.inr (arC cs x y)],kvs,rfl,rfl,nk5,key5,rfl,FE (by lia),fun H6 fr6 nk6=>?_⟩;exact ⟨_,rfl,k H6 _ (fun b u e n=>fr6 _ _ (s5 _ _ (sm _ _ e)) n) nk6 (ko.put _ _) (Ea _ _ _)⟩
inductive SpStp (a:Ad) (vs:List V) (H:Hp) (Q:VK):Prop
 | mk (p L:Addr) (z:Str) (r:AU) (ts:List Addr) (cs:List Cl) (_:vs=[.ref p,.ref L]) (_:EA a H p z r) (_:ROk r) (_:H L=some (.lst (ts.map V.ref))) (_:Paired (ClAt H) ts cs) (_:(cs.map fun c=>(c.x,c.y)).Nodup) (_:cs.length<=16) (_:∀ (L':Addr) (out:List It3) (H':Hp),As H H'->H L'=none->H' L'=some (.lst (out.map fun q=>V.ref q.a))->(∀ q ∈ out,H' q.a=some (.tup (q.ns.map V.int)))->EB out->IM r cs out->Q (.ref L') H'):SpStp a vs H Q
def OJ (a:Ad):Sp:=fun vs H Q _=>SpStp a vs H Q
theorem put_new {ds:List Cl} {c:Cl} (n:(c.x,c.y) ∉ ds.map fun c=>(c.x,c.y)):Jz ds c=ds ++ [c]:=by
 unfold Jz;rw [if_neg];intro z;obtain ⟨d,hd,e⟩:=List.any_eq_true.mp z;have e:=of_decide_eq_true e;exact n (List.mem_map.mpr ⟨d,hd,by rw [e.1,e.2]⟩)
theorem ok_stp {f:Addr} {fd:FuncData} (F:Fun K "stepped" "stepped" DM f fd) (T:Top K mg a) (bB:Cal P w K mg base CX0 2 "places_about" Co spAb) (bK:Cal P w K mg base CX0 6 "state_after" CF (spSA P w a)) (d4:Cal P w K mg base CX0 1 "by_rows" Ek EI):AS P w K mg base CX0 7 f fd Ej (OJ a):=by
 refine F.ok CQ (fun vs H Q E h=>?_) (fun cdv A outer s H vs Q E hr h=>?_)
 ·obtain ⟨p,L,z,r,ts,cs,rfl,_⟩:=h;rfl
 ·obtain ⟨p,L,z,r,ts,cs,rfl,hR,rok,hL,pr,nd,l16,k⟩:=h;refine ⟨_,(Ag (Av (i:=2) CQ.nd rfl (Or.inl rfl) Fx) (Ag (BP PassesOwn.never rfl (Ce (pv 1)) (AR (i:=3) CQ.nd rfl (Or.inl rfl)) (Ai (Fu (Fh hr) (pv 2) (CT (Aa (AB AF (pv 3) Ah (fun _ _=>rfl)) (Aa (AB AF (pv 3) Ah (fun _ _=>rfl)) Ac))) (AB AF (pv 3) Ah (fun _ _=>rfl)) rfl))) (Ag (Av (i:=4) CQ.nd rfl (Or.inl rfl) (Ck Ac)) (Ag (Av (i:=5) CQ.nd rfl (Or.inl rfl) (Pb (sh:=[false,true]))) (Ag (BP PassesOwn.never rfl (Ce (Aj bB (rm hr) rfl Al (Aa (pv 2) Ac))) (AR (i:=6) CQ.nd rfl (Or.inl rfl)) (Ag (Av (i:=7) CQ.nd rfl (Or.inl rfl) (Aj bK (rm hr) rfl Al (Aa (pv 0) (Aa (pv 2) (Aa (pv 6) (Aa (pv 5) Ac)))))) (Ai (AX (Ax Fc (pv 7) Ah (AI _)) (Ai (CO (Dx PySem.F.plainAttrs_list PySem.F.slot_list_append PySem.F.type_list_append Cz (pv 4) (Bi (Aa (AB AF (pv 6) Ah (fun _ _=>rfl)) (Aa (AB AF (pv 6) Ah (fun _ _=>rfl)) (Aa (pv 7) Ac))) Ac)))) Ay)))) (Ai (Aq (Fl d4 (rm hr) rfl T.b_sorted rfl (Aa (pv 4) Ac))))))))),?_⟩
  try dsimp only [cxK]
  refine fun D hD=>?_;have s1:=Ae (o:=.dT []) hD;have e1:upd H D (.dT []) D=some (.dT (kvC [])):=Ab;generalize upd H D (.dT [])=H1 at s1 e1 ⊢;have tl:ts.length=cs.length:=Paired.length pr;refine ⟨_,rfl,L,rfl,⟨_,SqL.of (s1 _ _ hL)⟩,?_⟩;refine DV (xs:=ts.map V.ref) (fun j σ H3=>∃ u3:Option V,σ=[some (.ref p),some (.ref L),some (.ref D),u3,none,none,none,none]/\As H H3/\H3 D=some (.dT (kvC (cs.take j)))) ⟨none,rfl,s1,e1⟩ (fun j σ H3 _ z=>by obtain ⟨_,_,sm,_⟩:=z; exact SqL.of (sm _ _ hL)) ?_ ?_
  ·rintro j v σ H3 ev ⟨u3,rfl,sm3,hD3⟩;rw [List.getElem?_map] at ev;obtain ⟨t,et,rfl⟩:=Option.map_eq_some_iff.mp ev;obtain ⟨c,ec,hc⟩:=PairedM.getL pr et;have hc3:H3 t=some (.tup [.int c.x,.int c.y,.int c.s]):=sm3 _ _ hc;have jl:=(List.getElem?_eq_some_iff.mp ec).1;have tk:cs.take (j+1)=cs.take j ++ [c]:=by rw [List.take_add_one,ec]; rfl
   have nn:(c.x,c.y) ∉ (cs.take j).map fun c=>(c.x,c.y):=fun m=>by
    have nd2:((cs.take (j+1)).map fun c=>(c.x,c.y)).Nodup:=List.Sublist.nodup ((List.take_sublist _ _).map _) nd;rw [tk,List.map_append,List.nodup_append] at nd2;exact nd2.2.2 _ m _ (List.mem_singleton.mpr rfl) rfl
   refine ⟨_,rfl,t,_,2,.int c.s,rfl,rfl,SqT.of hc3,An (j:=2) rfl,_,rfl,_,rfl,t,_,0,.int c.x,rfl,rfl,SqT.of hc3,An (j:=0) rfl,_,rfl,t,_,1,.int c.y,rfl,rfl,SqT.of hc3,An (j:=1) rfl,(by show 2<=sizeLine; decide),fun t4 ht4=>?_⟩;have s4:=Ae (o:=.tup [.int c.x,.int c.y]) ht4;have e4:upd H3 t4 (.tup [.int c.x,.int c.y]) t4=some (.tup [.int c.x,.int c.y]):=Ab;show ∃ _,_;generalize upd H3 t4 (.tup [.int c.x,.int c.y])=H4 at s4 e4 ⊢;have dp:=dput (c:=c) (s4 _ _ hD3) e4 (by rw [List.length_take]; lia);rw [put_new nn,<-tk] at dp;exact ⟨D,_,rfl,dp,_,rfl,MS hD (sm3.trans s4),Ab⟩
  ·rintro σ H3 ⟨u3,rfl,sm3,hD3⟩;rw [List.length_map,tl,List.take_length] at hD3;refine ⟨(by show 0<=sizeLine; decide),fun M hM=>?_⟩;have s4:=Ae (o:=.lst []) hM;have e4:upd H3 M (.lst []) M=some (.lst (([]:List It3).map fun q=>V.ref q.a)):=Ab;generalize upd H3 M (.lst [])=H4 at s4 e4 ⊢;refine fun Kn H5 hK s5 nk5=>?_;have hD5:=s5 _ _ (s4 _ _ hD3);have nMD:M≠D:=fun z=>by rw [z,hD3] at hM; cases hM
   have nKD:Kn≠D:=fun z=>by rw [z,s4 _ _ hD3] at hK; cases hK
   have nKM:Kn≠M:=fun z=>by rw [z,e4] at hK; cases hK
   refine ⟨_,rfl,D,cs,rfl,hD5,l16,fun L6 out ps H6 o fr6 hD6 nL6 hL6 ho eo nd6 me6 le6=>⟨L6,rfl,⟨_,SqL.of hL6⟩,?_⟩⟩;have sm6:As H H6:=fun b u e=>fr6 _ _ (s5 _ _ (s4 _ _ (sm3 _ _ e))) (Ar e hD);have nk6:CV P w [false,true] H6 Kn []:=nk5.keep (fun b ys e=>fr6 _ _ e (Da e hD5 (by intro z; cases z))) (fun u e=>fr6 _ _ e nKD);have hM6:=fr6 _ _ (s5 _ _ e4) nMD;have nLM:L6≠M:=fun z=>by rw [z,s5 _ _ e4] at nL6; cases nL6
   have nLK:L6≠Kn:=fun z=>by
    obtain ⟨xs,hx,_⟩:=nk5.ex;rw [z,hx] at nL6;cases nL6
   have lo:out.length=ps.length:=by
    have:=congrArg List.length eo;rw [List.length_map,List.length_map] at this;exact this
   have hnM:H M=none:=As.noneOf sm3 hM;have hnK:H Kn=none:=As.noneOf (sm3.trans s4) hK;refine DV (xs:=out.map fun q=>V.ref q.1) (fun j σ H7=>∃ (items:List It3) (kvs:List (NK×V)) (u6 u7:Option V),σ=[some (.ref p),some (.ref L),some (.ref D),u3,some (.ref M),some (.ref Kn),u6,u7]/\(∀ b u,H6 b=some u->b≠M->b≠Kn->H7 b=some u)/\H7 M=some (.lst (items.map fun q=>V.ref q.a))/\(∀ q ∈ items,H7 q.a=some (.tup (q.ns.map V.int)))/\CV P w [false,true] H7 Kn kvs/\Ow r kvs/\kvs.length<=j/\items.length<=j/\items.map Er=EY r cs (ps.take j)) ⟨[],[],none,none,rfl,fun b u e _ _=>e,hM6,(fun q hq=>nomatch hq),nk6,(fun _ _ _ e=>by cases e),Nat.le_refl _,Nat.le_refl _,rfl⟩ (fun j σ H7 _ z=>by obtain ⟨_,_,_,_,_,z,_⟩:=z; exact SqL.of (z _ _ hL6 nLM nLK)) ?_ ?_
   ·rintro j v σ H7 ev ⟨items,kvs,u6,u7,rfl,k7,hM7,hi7,nk7,ko,kl,il,ei⟩;rw [List.getElem?_map] at ev;obtain ⟨q,eq,rfl⟩:=Option.map_eq_some_iff.mp ev;have mq:=List.mem_of_getElem? eq;have jl:=(List.getElem?_eq_some_iff.mp eq).1;obtain ⟨pp,epp⟩:∃ pp,ps[j]?=some pp:=⟨_,List.getElem?_eq_getElem (by lia)⟩
    have kq:q.2=[pp.1,pp.2]:=by
     have:(out.map (·.2))[j]?=(ps.map fun p=>[p.1,p.2])[j]?:=by rw [eo]
     rw [List.getElem?_map,List.getElem?_map,eq,epp] at this;exact Option.some.inj this
    have notT:∀ {b:Addr} {ys:List V},H6 b=some (.tup ys)->H7 b=some (.tup ys):=fun {b ys} e=>k7 _ _ e (Da e hM6 (by intro z; cases z)) (fun z=>by
     obtain ⟨xs,hx,_⟩:=nk6.ex;rw [z,hx] at e;cases e)
    have hq7:H7 q.1=some (.tup [.int pp.1,.int pp.2]):=by
     have:=notT (ho q mq);rw [kq] at this;exact this
    have sm7:As H H7:=fun b u e=>k7 _ _ (sm6 _ _ e) (Ar e hnM) (Ar e hnK);have hD7:=k7 _ _ hD6 (Ne.symm nMD) (Ne.symm nKD);have sn:=GH (r:=r) (cs:=cs) epp;refine ⟨_,rfl,_,rfl,_,rfl,_,rfl,p,D,q.1,Kn,z,r,cs,pp.1,pp.2,o,kvs,rfl,hR.same sm7,rok,hD7,hq7,nk7,ko,by lia,fun H8 kvs8 fr8 nk8 ko8 kl8=>?_⟩;have hM8:=fr8 _ _ hM7 (Ne.symm nKM);have hq8:=fr8 _ _ hq7 (fun z=>by
     obtain ⟨xs,hx,_⟩:=nk7.ex;rw [z,hx] at hq7;cases hq7)
    have hi8:∀ q ∈ items,H8 q.a=some (.tup (q.ns.map V.int)):=fun q hq=>fr8 _ _ (hi7 q hq) (fun z=>by
     have e:=hi7 q hq;obtain ⟨xs,hx,_⟩:=nk7.ex;rw [z,hx] at e;cases e)
    refine ⟨_,rfl,rfl,_,rfl,?_⟩;by_cases nz:nxC r cs pp.1 pp.2=0
    ·rw [if_neg (fun z=>z nz)] at sn;refine Gh (by rw [nz]) ?_;exact ⟨items,kvs8,_,_,rfl,fun b u e n1 n2=>fr8 _ _ (k7 b u e n1 n2) n2,hM8,hi8,nk8,ko8,by lia,by lia,by rw [sn,ei]⟩
    ·rw [if_pos nz] at sn;rw [decide_eq_false (by intro e; injection e with e; exact nz e)];refine Ef ⟨_,rfl,.inl ⟨rfl,_,SqL.of hM8⟩,_,rfl,q.1,_,0,.int pp.1,rfl,rfl,SqT.of hq8,An (j:=0) rfl,_,rfl,q.1,_,1,.int pp.2,rfl,rfl,SqT.of hq8,An (j:=1) rfl,_,rfl,(by show 3<=sizeLine; decide),fun t9 ht9=>?_⟩;have s9:=Ae (o:=.tup [.int pp.1,.int pp.2,.int (nxC r cs pp.1 pp.2)]) ht9;have e9:upd H8 t9 (.tup [.int pp.1,.int pp.2,.int (nxC r cs pp.1 pp.2)]) t9=some (.tup [.int pp.1,.int pp.2,.int (nxC r cs pp.1 pp.2)]):=Ab;generalize upd H8 t9 (.tup [.int pp.1,.int pp.2,.int (nxC r cs pp.1 pp.2)])=H9 at s9 e9 ⊢;have hM9:=s9 _ _ hM8;have tp:∀ {b:Addr} {ys:List V},H9 b=some (.tup ys)->upd H9 M (.lst ((items.map fun q=>V.ref q.a) ++ [.ref t9])) b=some (.tup ys):=fun {b ys} e=>by rw [Ak (Da e hM9 (by intro z; cases z))]; exact e
     refine ⟨M,_,.ref t9,rfl,rfl,hM9,FE (by rw [List.length_map]; lia),items ++ [⟨t9,pp.1,pp.2,[nxC r cs pp.1 pp.2]⟩],kvs8,_,_,rfl,fun b u e n1 n2=>?_,by rw [Ab,List.map_append]; rfl,fun q hq=>?_,?_,ko8,by lia,by rw [List.length_append]; show items.length+1<=j+1; lia,?_⟩
     ·rw [Ak n1];exact s9 _ _ (fr8 _ _ (k7 b u e n1 n2) n2)
     ·rcases List.mem_append.mp hq with hq | hq
      ·exact tp (s9 _ _ (hi8 q hq))
      ·rw [List.mem_singleton.mp hq];exact tp e9
     ·exact nk8.keep (fun b ys e=>tp (s9 _ _ e)) (fun u e=>by rw [Ak nKM]; exact s9 _ _ e)
     ·rw [sn,List.map_append,ei];rfl
   ·rintro σ H7 ⟨items,kvs,u6,u7,rfl,k7,hM7,hi7,nk7,ko,kl,il,ei⟩;rw [List.length_map,lo] at il;rw [List.length_map,lo,List.take_length] at ei;refine ⟨_,rfl,M,items,rfl,SqL.of hM7,by lia,hi7,fun L8 out8 H8 s8 nL8 pm ru=>?_⟩;have sm7:As H H7:=fun b u e=>k7 _ _ (sm6 _ _ e) (Ar e hnM) (Ar e hnK);have s8:As H7 H8:=s8;have s9:=Ae (o:=.lst (out8.map fun q=>V.ref q.a)) nL8;exact k L8 out8 _ ((sm7.trans s8).trans s9) (As.noneOf (sm7.trans s8) nL8) Ab (fun q hq=>s9 _ _ (s8 _ _ (hi7 q (pm.mem_iff.mp hq)))) ru ((Nl nd6 me6 ei).perm pm)
end
end J
namespace J
open PySem L2
seal L2.PA L2.PE L2.PS L2.PSs L2.PT L2.PW
section
variable {P:Program} {w:World} {K:PySem.W.Frag} {mg:Str->Option Value} {base:Heap} {a:Ad}
theorem ok_lrow {f:Addr} {fd:FuncData} (F:Fun K "_law_by_rows" "_law_by_rows" BG f fd) (T:Top K mg a):AS P w K mg base CX0 1 f fd BL EI:=by
 refine F.ok Gn (fun vs H Q E h=>?_) (fun cdv A outer s H vs Q E hr h=>?_)
 ·obtain ⟨t,x,y,r,rfl,_⟩:=h;rfl
 ·obtain ⟨t,x,y,r,rfl,ht,k⟩:=h;refine ⟨_,(Ai (Aq (CT (Aa (AB AF (pv 0) Ah (fun _ _=>rfl)) (Aa (AB AF (pv 0) Ah (fun _ _=>rfl)) Ac))))),?_⟩
  try dsimp only [cxK]
  exact ⟨_,rfl,t,_,1,.int y,rfl,rfl,SqT.of ht,An (j:=1) rfl,_,rfl,t,_,0,.int x,rfl,rfl,SqT.of ht,An (j:=0) rfl,(by show 2<=sizeLine; decide),fun u hu=>k u hu⟩
inductive SpNm (vs:List V) (H:Hp) (Q:VK):Prop
 | mk (c:Int) (_:vs=[.int c]) (_:∀ n:Int,Q (.int n) H):SpNm vs H Q
def spNm:Sp:=fun vs H Q _=>SpNm vs H Q
theorem ok_nm {f:Addr} {fd:FuncData} (F:Fun K "_law_number" "_law_number" Ca f fd) (T:Top K mg a):AS P w K mg base CX0 1 f fd CI spNm:=by
 refine F.ok GO (fun vs H Q E h=>?_) (fun cdv A outer s H vs Q E hr h=>?_)
 ·obtain ⟨c,rfl,_⟩:=h;rfl
 ·obtain ⟨c,rfl,k⟩:=h;refine ⟨_,(Ai (Aq (AA EN (AA Bb (AA Dv (pv 0) Ah) (AA Fn Ah (AA Pe Ah Ah))) (AA Pe Ah Ah)))),?_⟩
  try dsimp only [cxK]
  refine ⟨_,rfl,_,_,rfl,rfl,⟨by decide,by decide⟩,_,_,rfl,rfl,⟨by decide,by decide,by decide⟩,_,_,rfl,rfl,.inl ⟨by decide,by decide⟩,_,_,rfl,rfl,(by show (0:Int) < 2 * 10 ^ 29; decide),_,_,rfl,rfl,⟨by decide,by decide,by decide⟩,_,_,rfl,rfl,k _⟩
structure DsC (ds:List Cl) (n:Nat):Prop where
 nd:(ds.map fun c=>(c.x,c.y)).Nodup
 len:ds.length<=n
inductive SpHp (K:PySem.W.Frag) (vs:List V) (H:Hp) (Q:VK):Prop
 | mk (l:Addr) (ns:List Int) (ft lf tp:Int) (D:Addr) (ds:List Cl) (n:Nat) (_:vs=[.ref l,.int ft,.int lf,.int tp,.ref D]) (_:∀ H':Hp,(∀ b u,H b=some u->b≠D->H' b=some u)->SqL K H' l (ns.map V.int)) (_:0<=ft) (_:H D=some (.dT (kvC ds))) (_:DsC ds n) (_:n<=100) (_:∀ (ds':List Cl) (H':Hp),(∀ b u,H b=some u->b≠D->H' b=some u)->H' D=some (.dT (kvC ds'))->DsC ds' (n+8)->Q .non H'):SpHp K vs H Q
def spHp (K:PySem.W.Frag):Sp:=fun vs H Q _=>SpHp K vs H Q
theorem ok_hp {f:Addr} {fd:FuncData} (F:Fun K "_law_heap" "_law_heap" CY f fd) (T:Top K mg a) (aA:Cal P w K mg base CX0 1 "_law_at" Dr (OP K)) (aC:Cal P w K mg base CX0 1 "_law_mix" CU Ll) (aB:Cal P w K mg base CX0 1 "_law_state_by" Ba OK):AS P w K mg base CX0 2 f fd DB (spHp K):=by
 refine F.ok DK (fun vs H Q E h=>?_) (fun cdv A outer s H vs Q E hr h=>?_)
 ·obtain ⟨l,ns,ft,lf,tp,D,ds,n,rfl,_⟩:=h;rfl
 ·obtain ⟨l,ns,ft,lf,tp,D,ds,n,rfl,hS,f0,hD,dc,n100,k⟩:=h;refine ⟨_,(Ag (Av (i:=5) DK.nd rfl (Or.inl rfl) (CT (AO Bb (Aj aA (rm hr) rfl Al (Aa (pv 0) (Au Ac))) Ah (AO Bb (Aj aA (rm hr) rfl Al (Aa (pv 0) (Au Ac))) Ah Ac)))) (Ai (BP PassesOwn.never rfl (CZ rfl T.b_range (AO Bb (Aj aA (rm hr) rfl Al (Aa (pv 0) (Aa (pv 1) Ac))) Ah Ac)) (AR (i:=6) DK.nd rfl (Or.inl rfl)) (Ag (Av (i:=7) DK.nd rfl (Or.inl rfl) (Aj aC (rm hr) rfl Al (Aa (Aj aA (rm hr) rfl Al (Aa (pv 0) (AO AH (AA AH (pv 1) Ah) (pv 6) Ac))) (AO AH Ah (pv 6) Ac)))) (Ai (Fu (Fh hr) (pv 4) (CT (AO AH (pv 2) (AA Bb (pv 7) Ah) (AO AH (pv 3) (AA Bb (AA Dv (pv 7) Ah) Ah) Ac))) (AJ (Ot rfl) rfl T.b_max PyProof.Rows.boot_max (Au (Aa (Aj aB (rm hr) rfl Al (Aa (pv 5) (AO Dv (pv 7) Ah Ac))) Ac))) rfl)))))),?_⟩
  try dsimp only [cxK]
  have hS0:=hS H fun b u e _=>e;refine ⟨_,rfl,l,ns,0,rfl,hS0,by decide,_,_,rfl,rfl,(by show (0:Int) < 8; decide),_,rfl,l,ns,1,rfl,hS0,by decide,_,_,rfl,rfl,(by show (0:Int) < 8; decide),(by show 2<=sizeLine; decide),fun m hm=>?_⟩;have s1:=Ae (o:=.tup [.int (atN ns 0 % 8),.int (atN ns 1 % 8)]) hm;have e1:upd H m (.tup [.int (atN ns 0 % 8),.int (atN ns 1 % 8)]) m=some (.tup [.int (atN ns 0 % 8),.int (atN ns 1 % 8)]):=Ab;show Fi 5 _ _ (upd H m (.tup [.int (atN ns 0 % 8),.int (atN ns 1 % 8)])) _;generalize upd H m (.tup [.int (atN ns 0 % 8),.int (atN ns 1 % 8)])=H1 at s1 e1 ⊢;have mn:Md H1 m:=⟨_,_,e1,⟨by lia,by lia⟩,⟨by lia,by lia⟩⟩
  have hS1:=hS H1 fun b u e _=>s1 _ _ e;obtain ⟨kk,ek,k9⟩:=idx (n:=9) (by decide) (atN ns ft);have ek:atN ns ft % 9=(kk:Int):=ek;refine ⟨_,rfl,_,rfl,l,ns,ft,rfl,hS1,f0,_,_,rfl,rfl,(by show (0:Int) < 9; decide),atN ns ft % 9,rfl,by lia,by lia,?_⟩;rw [show (atN ns ft % 9).toNat=kk by lia];have nDm:m≠D:=fun z=>by rw [z,hD] at hm; cases hm
  refine Ds (n:=kk) (fun j σ H3=>∃ (ds3:List Cl) (u6 u7:Option V),σ=[some (.ref l),some (.int ft),some (.int lf),some (.int tp),some (.ref D),some (.ref m),u6,u7]/\(∀ b u,H b=some u->b≠D->H3 b=some u)/\Md H3 m/\H3 D=some (.dT (kvC ds3))/\DsC ds3 (n+j)) ⟨ds,none,none,rfl,fun b u e _=>s1 _ _ e,mn,s1 _ _ hD,dc⟩ ?_ ?_
  ·rintro j σ H3 hj ⟨ds3,u6,u7,rfl,k3,mn3,hD3,dc3⟩;have hS3:=hS H3 k3;refine ⟨_,rfl,_,rfl,_,_,rfl,rfl,_,rfl,_,_,rfl,rfl,l,ns,ft+1+(0+(j:Int)),rfl,hS3,by lia,_,rfl,_,_,rfl,rfl,atN ns (ft+1+(0+(j:Int))),60+(0+(j:Int)),rfl,by lia,by lia,fun v hv=>?_⟩;obtain ⟨mx,my,hmm,ox,oy⟩:=id mn3;refine ⟨_,rfl,_,rfl,_,_,rfl,rfl,⟨by decide,by decide⟩,m,mx,my,v / 20,rfl,hmm,ox,oy,fun d hd=>?_⟩;refine ⟨1,d,rfl,_,rfl,_,rfl,_,rfl,_,_,rfl,rfl,(by show (0:Int) < 5; decide),_,_,rfl,rfl,_,rfl,_,rfl,_,_,rfl,rfl,⟨by decide,by decide⟩,_,_,rfl,rfl,(by show (0:Int) < 4; decide),_,_,rfl,rfl,(by show 2<=sizeLine; decide),fun t4 ht4=>?_⟩;have s4:=Ae (o:=.tup [.int (lf+v % 5),.int (tp+v / 5 % 4)]) ht4;have e4:upd H3 t4 (.tup [.int (lf+v % 5),.int (tp+v / 5 % 4)]) t4=some (.tup [.int (lf+v % 5),.int (tp+v / 5 % 4)]):=Ab;show ∃ _,_;generalize upd H3 t4 (.tup [.int (lf+v % 5),.int (tp+v / 5 % 4)])=H4 at s4 e4 ⊢;have dl:=dc3.len;refine ⟨D,_,rfl,dput (c:=⟨lf+v % 5,tp+v / 5 % 4,if d > 1 then d else 1⟩) (s4 _ _ hD3) e4 (by lia),_,_,_,rfl,fun b u e n=>?_,⟨mx,my,?_,ox,oy⟩,Ab,nd_putC dc3.nd,?_⟩
   ·rw [Ak n];exact s4 _ _ (k3 b u e n)
   ·rw [Ak nDm];exact s4 _ _ hmm
   ·have:=Pu ds3 ⟨lf+v % 5,tp+v / 5 % 4,if d > 1 then d else 1⟩;lia
  ·rintro σ H3 ⟨ds3,u6,u7,rfl,k3,mn3,hD3,dc3⟩;exact k ds3 H3 k3 hD3 ⟨dc3.nd,by have:=dc3.len; lia⟩
theorem kit_ll (K:PySem.W.Frag):PySem.W.kitOne K (.type "list") (.type "list")=some true:=by kernel_rfl
theorem kit_tt (K:PySem.W.Frag):PySem.W.kitOne K (.type "tuple") (.type "tuple")=some true:=by kernel_rfl
inductive SpRt (vs:List V) (H:Hp) (Q:VK):Prop
 | mk (L M:Addr) (is js:List It3) (_:vs=[.ref L,.ref M]) (_:H L=some (.lst (is.map fun q=>V.ref q.a))) (_:H M=some (.lst (js.map fun q=>V.ref q.a))) (_:∀ q ∈ is,H q.a=some (.tup (q.ns.map V.int))) (_:∀ q ∈ js,H q.a=some (.tup (q.ns.map V.int))) (_:is.map Er=js.map Er) (_:∀ q ∈ is,q.r.length=1) (_:is.length<=1000) (_:Q (.bl true) H):SpRt vs H Q
def spRt:Sp:=fun vs H Q _=>SpRt vs H Q
theorem ok_rt {f:Addr} {fd:FuncData} (F:Fun K "_law_right" "_law_right" Cw f fd) (T:Top K mg a) (aM:Cal P w K mg base CX0 1 "_law_whole" Di spWh):AS P w K mg base CX0 2 f fd Dj spRt:=by
 refine F.ok EZ (fun vs H Q E h=>?_) (fun cdv A outer s H vs Q E hr h=>?_)
 ·obtain ⟨L,M,is,js,rfl,_⟩:=h;rfl
 ·obtain ⟨L,M,is,js,rfl,hL,hM,hi,hj,e,r1,l1,k⟩:=h;refine ⟨_,(Ag (AX (PW.pt (GU (EK (Ed (AJ En rfl T.b_isinstance PyProof.Rows.boot_isinstance (Aa (pv 0) (Aa (EU (v:=.ty "list") rfl T.b_list PyProof.Rows.boot_list rfl) Ac))))) (GT (Ax Fc (AJ AV rfl T.b_len PySem.boot_len (Aa (pv 0) Ac)) (AJ AV rfl T.b_len PySem.boot_len (Aa (pv 1) Ac)) (AI _))))) (Ai (Aq Fb)) Ay) (Ag (BP PassesOwn.never rfl (CZ rfl T.b_range (Aa (AJ AV rfl T.b_len PySem.boot_len (Aa (pv 1) Ac)) Ac)) (AR (i:=2) EZ.nd rfl (Or.inl rfl)) (Ag (AX (PW.pt (GU (EK (Ed (AJ En rfl T.b_isinstance PyProof.Rows.boot_isinstance (Aa (AB Bs (pv 0) (pv 2) (fun _ _=>rfl)) (Aa (EU (v:=.ty "tuple") rfl T.b_tuple PyProof.Rows.boot_tuple rfl) Ac))))) (GU (Ax Fc (AJ AV rfl T.b_len PySem.boot_len (Aa (AB Bs (pv 0) (pv 2) (fun _ _=>rfl)) Ac)) Ah (AI _)) (GT (Ax (NO hr.units) (AB Bs (pv 0) (pv 2) (fun _ _=>rfl)) (AB Bs (pv 1) (pv 2) (fun _ _=>rfl)) (AI _)))))) (Ai (Aq Fb)) Ay) (Ai (AX (PW.pt (GU (EK (Ed (Aj aM (rm hr) rfl Al (Aa (AB AF (AB Bs (pv 0) (pv 2) (fun _ _=>rfl)) Ah (fun _ _=>rfl)) Ac)))) (GU (EK (Ed (Aj aM (rm hr) rfl Al (Aa (AB AF (AB Bs (pv 0) (pv 2) (fun _ _=>rfl)) Ah (fun _ _=>rfl)) Ac)))) (GT (EK (Ed (Aj aM (rm hr) rfl Al (Aa (AB AF (AB Bs (pv 0) (pv 2) (fun _ _=>rfl)) Ah (fun _ _=>rfl)) Ac)))))))) (Ai (Aq Fb)) Ay)))) (Ai (Aq Fb)))),?_⟩
  try dsimp only [cxK]
  have le:is.length=js.length:=by
   have:=congrArg List.length e;rw [List.length_map,List.length_map] at this;exact this
  refine ⟨_,rfl,_,_,_,.type "list",true,rfl,rfl,.of (.lst hL),kit_ll K,true,rfl,CA ⟨_,rfl,L,_,rfl,.inl (SqL.of hL),_,rfl,M,_,rfl,.inl (SqL.of hM),rfl,_,rfl,?_⟩⟩;rw [List.length_map,List.length_map,le];refine Gh rfl ⟨_,rfl,M,_,rfl,.inl (SqL.of hM),_,rfl,by rw [List.length_map]; lia,by rw [List.length_map]; lia,?_⟩;rw [List.length_map,Int.toNat_natCast];refine Ds (n:=js.length) (fun i σ H3=>H=H3/\∃ u2:Option V,σ=[some (.ref L),some (.ref M),u2]) ⟨rfl,none,rfl⟩ ?_ ?_
  ·rintro i σ H3 hi' ⟨rfl,u2,rfl⟩;obtain ⟨q,eq⟩:∃ q,is[i]?=some q:=⟨_,List.getElem?_eq_getElem (by lia)⟩
   obtain ⟨q2,eq2⟩:∃ q2,js[i]?=some q2:=⟨_,List.getElem?_eq_getElem (by lia)⟩
   have mq:=List.mem_of_getElem? eq;have er:Er q=Er q2:=by
    have:(is.map Er)[i]?=(js.map Er)[i]?:=by rw [e]
    rw [List.getElem?_map,List.getElem?_map,eq,eq2] at this;exact Option.some.inj this
   obtain ⟨s0,es⟩:∃ s0,q.r=[s0]:=by
    have:=r1 q mq
    match hq:q.r,this with
    | [s0],_=>exact ⟨s0,rfl⟩
   have hq:H q.a=some (.tup [.int q.x,.int q.y,.int s0]):=by
    have:=hi q mq;unfold It3.ns at this;rw [es] at this;exact this
   have hq2:H q2.a=some (.tup [.int q.x,.int q.y,.int s0]):=by
    have h2:=hj q2 (List.mem_of_getElem? eq2);have er:q.y :: q.x :: q.r=q2.y :: q2.x :: q2.r:=er;injection er with a1 er
    injection er with a2 a3
    unfold It3.ns at h2;rw [<-a1,<-a2,<-a3,es] at h2;exact h2
   have ix:atI (is.map fun q=>V.ref q.a) (0+(i:Int))=some (.ref q.a):=by
    rw [Int.zero_add];exact An (by rw [List.getElem?_map,eq]; rfl)
   have ix2:atI (js.map fun q=>V.ref q.a) (0+(i:Int))=some (.ref q2.a):=by
    rw [Int.zero_add];exact An (by rw [List.getElem?_map,eq2]; rfl)
   refine ⟨_,rfl,_,rfl,L,_,0+(i:Int),.ref q.a,rfl,rfl,SqL.of hL,ix,_,_,_,.type "tuple",true,rfl,rfl,.of (.tup hq),kit_tt K,true,rfl,CA ?_⟩;refine ⟨_,rfl,_,rfl,L,_,0+(i:Int),.ref q.a,rfl,rfl,SqL.of hL,ix,q.a,_,rfl,.inr (SqT.of hq),rfl,_,rfl,Gh rfl ?_⟩;refine ⟨_,rfl,_,rfl,L,_,0+(i:Int),.ref q.a,rfl,rfl,SqL.of hL,ix,_,rfl,_,rfl,M,_,0+(i:Int),.ref q2.a,rfl,rfl,SqL.of hM,ix2,q.a,q2.a,[q.x,q.y,s0],[q.x,q.y,s0],rfl,rfl,SqT.of hq,SqT.of hq2,_,rfl,Gh rfl ?_⟩;refine ⟨_,rfl,_,rfl,L,_,0+(i:Int),.ref q.a,rfl,rfl,SqL.of hL,ix,q.a,_,0,.int q.x,rfl,rfl,SqT.of hq,An (j:=0) rfl,.inl ⟨q.x,rfl,true,rfl,CA ?_⟩⟩;refine ⟨_,rfl,_,rfl,L,_,0+(i:Int),.ref q.a,rfl,rfl,SqL.of hL,ix,q.a,_,1,.int q.y,rfl,rfl,SqT.of hq,An (j:=1) rfl,.inl ⟨q.y,rfl,true,rfl,CA ?_⟩⟩;refine ⟨_,rfl,_,rfl,L,_,0+(i:Int),.ref q.a,rfl,rfl,SqL.of hL,ix,q.a,_,2,.int s0,rfl,rfl,SqT.of hq,An (j:=2) rfl,.inl ⟨s0,rfl,true,rfl,CA ?_⟩⟩;exact ⟨rfl,_,rfl⟩
  ·rintro σ H3 ⟨rfl,u2,rfl⟩;exact k
end
end J
namespace J
open PySem L2
seal L2.PA L2.PE L2.PS L2.PSs L2.PT L2.PW
section
variable {P:Program} {w:World} {K:PySem.W.Frag} {mg:Str->Option Value} {base:Heap} {a:Ad}
inductive SpDu (vs:List V) (H:Hp) (Q:VK):Prop
 | mk (q D:Addr) (r:AU) (ds:List Cl) (_:vs=[.ref q,.ref D]) (_:∀ H':Hp,(∀ b u,H b=some u->b≠D->H' b=some u)->FL H' q r) (_:Gw r) (_:Rd H D (.dT (kvC ds))) (_:ds.length<=16) (_:∀ (L:Addr) (out:List It3) (H':Hp) (o:Obj),(∀ b u,H b=some u->b≠D->H' b=some u)->H' D=some (.frz o (.dT (kvC ds)))->H L=none->H' L=some (.lst (out.map fun q=>V.ref q.a))->(∀ q ∈ out,H' q.a=some (.tup (q.ns.map V.int)))->EB out->IM r ds out->out.length<=144->Q (.ref L) H'):SpDu vs H Q
def spDu:Sp:=fun vs H Q _=>SpDu vs H Q
theorem ok_du {f:Addr} {fd:FuncData} (F:Fun K "_law_due" "_law_due" CS f fd) (T:Top K mg a) (aG:Cal P w K mg base CX0 3 "_law_becomes" BM spBe) (aF:Cal P w K mg base CX0 1 "_law_by_rows" BL EI):AS P w K mg base CX0 4 f fd DT spDu:=by
 refine F.ok AT (fun vs H Q E h=>?_) (fun cdv A outer s H vs Q E hr h=>?_)
 ·obtain ⟨q,D,r,ds,rfl,_⟩:=h;rfl
 ·obtain ⟨q,D,r,ds,rfl,hq,rok,rd,l16,k⟩:=h;refine ⟨_,(Ag (Av (i:=2) AT.nd rfl (Or.inl rfl) (Ck (Bi (Aa (Fw Ep Ah) (Aa (Fw Ep Ah) Ac)) (Bi (Au (Aa (Fw Ep Ah) Ac)) (Bi (Au (Aa (Fw Ep Ah) Ac)) (Bi (Aa (Fw Ep Ah) (Au Ac)) (Bi (Au (Au Ac)) (Bi (Aa (Fw Ep Ah) (Au Ac)) (Bi (Au (Au Ac)) (Bi (Au (Au Ac)) Ac)))))))))) (Ag (Av (i:=3) AT.nd rfl (Or.inl rfl) Fx) (Ag (BP PassesOwn.never rfl (Lu (pv 1)) (GW rfl (CD (AR (i:=4) AT.nd rfl (Or.inr rfl)) (CD (AR (i:=5) AT.nd rfl (Or.inr rfl)) Fv))) (Ai (BP PassesOwn.never rfl (Ce (AA Ia (pv 2) (Ck (Bi (Au (Au Ac)) Ac)))) (GW rfl (CD (AR (i:=6) AT.nd rfl (Or.inl rfl)) (CD (AR (i:=7) AT.nd rfl (Or.inl rfl)) Fv))) (Ai (Fu (Fh hr) (pv 3) (CT (AO AH (pv 4) (pv 6) (AO AH (pv 5) (pv 7) Ac))) Fb rfl))))) (Ag (Av (i:=8) AT.nd rfl (Or.inl rfl) (Ck Ac)) (Ag (BP PassesOwn.never rfl (Ls (pv 3)) (GW rfl (CD (AR (i:=4) AT.nd rfl (Or.inr rfl)) (CD (AR (i:=5) AT.nd rfl (Or.inr rfl)) Fv))) (Ag (GV (i:=9) rfl AT.nd rfl rfl (BU.of (So:=Af CS) (No:=Ih) (N:=["_law_dx","_law_dy","_law_states","_law_x","_law_y"]) (k:=2) (cs:=[1,4,5]) rfl rfl (by decide +kernel)) (Ce (pv 2)) (fun _ _ _=>(Lw (i:=0) (j:=1) rfl (by decide +kernel) rfl rfl rfl rfl)) (fun _ _ _=>Dg) (fun _ _ _=>(Fy (Fh hr) (pv 2) (CT (AO AH (pv 3) (pv 0) (AO AH (pv 4) (pv 1) Ac))) Ah ⟨rfl,rfl,rfl,rfl⟩))) (Ag (Av (i:=10) AT.nd rfl (Or.inl rfl) (Aj aG (rm hr) rfl Al (Aa (pv 0) (Aa (Fy (Fh hr) (pv 1) (CT (Aa (pv 4) (Aa (pv 5) Ac))) Ah ⟨rfl,rfl,rfl,rfl⟩) (Aa (pv 9) Ac))))) (Ai (AX (Ax Fc (pv 10) Ah (AI _)) (Ai (CO (Dx PySem.F.plainAttrs_list PySem.F.slot_list_append PySem.F.type_list_append Cz (pv 8) (Bi (Aa (pv 4) (Aa (pv 5) (Aa (pv 10) Ac))) Ac)))) Ay))))) (Ai (Aq (Fl aF (rm hr) rfl T.b_sorted rfl (Aa (pv 8) Ac))))))))),?_⟩
  try dsimp only [cxK]
  have nD:∀ {x:Addr},H x=none->x≠D:=fun {x} n z=>by
   rw [z] at n;rcases rd with y | ⟨o,y⟩
   ·rw [y] at n; cases n
   ·rw [y] at n; cases n
  refine ⟨_,rfl,_,rfl,(by show 2<=sizeLine; decide),fun t1 h1=>?_⟩;have s1:=Ae (o:=.tup [.int (-1),.int (-1)]) h1;have e1:upd H t1 (.tup [.int (-1),.int (-1)]) t1=some (.tup [.int (-1),.int (-1)]):=Ab;show Ch _ _ _ (upd H t1 (.tup [.int (-1),.int (-1)])) _;generalize upd H t1 (.tup [.int (-1),.int (-1)])=H1 at s1 e1 ⊢;refine ⟨_,rfl,(by show 2<=sizeLine; decide),fun t2 h2=>?_⟩;have s2:=Ae (o:=.tup [.int 0,.int (-1)]) h2;have e2:upd H1 t2 (.tup [.int 0,.int (-1)]) t2=some (.tup [.int 0,.int (-1)]):=Ab;show Ch _ _ _ (upd H1 t2 (.tup [.int 0,.int (-1)])) _;generalize upd H1 t2 (.tup [.int 0,.int (-1)])=H2 at s2 e2 ⊢;refine ⟨_,rfl,(by show 2<=sizeLine; decide),fun t3 h3=>?_⟩;have s3:=Ae (o:=.tup [.int 1,.int (-1)]) h3;have e3:upd H2 t3 (.tup [.int 1,.int (-1)]) t3=some (.tup [.int 1,.int (-1)]):=Ab;show Ch _ _ _ (upd H2 t3 (.tup [.int 1,.int (-1)])) _;generalize upd H2 t3 (.tup [.int 1,.int (-1)])=H3 at s3 e3 ⊢;refine ⟨_,rfl,(by show 2<=sizeLine; decide),fun t4 h4=>?_⟩;have s4:=Ae (o:=.tup [.int (-1),.int 0]) h4;have e4:upd H3 t4 (.tup [.int (-1),.int 0]) t4=some (.tup [.int (-1),.int 0]):=Ab;show Ch _ _ _ (upd H3 t4 (.tup [.int (-1),.int 0])) _;generalize upd H3 t4 (.tup [.int (-1),.int 0])=H4 at s4 e4 ⊢;refine ⟨(by show 2<=sizeLine; decide),fun t5 h5=>?_⟩;have s5:=Ae (o:=.tup [.int 1,.int 0]) h5;have e5:upd H4 t5 (.tup [.int 1,.int 0]) t5=some (.tup [.int 1,.int 0]):=Ab;show Ch _ _ _ (upd H4 t5 (.tup [.int 1,.int 0])) _;generalize upd H4 t5 (.tup [.int 1,.int 0])=H5 at s5 e5 ⊢;refine ⟨_,rfl,(by show 2<=sizeLine; decide),fun t6 h6=>?_⟩;have s6:=Ae (o:=.tup [.int (-1),.int 1]) h6;have e6:upd H5 t6 (.tup [.int (-1),.int 1]) t6=some (.tup [.int (-1),.int 1]):=Ab;show Ch _ _ _ (upd H5 t6 (.tup [.int (-1),.int 1])) _;generalize upd H5 t6 (.tup [.int (-1),.int 1])=H6 at s6 e6 ⊢;refine ⟨(by show 2<=sizeLine; decide),fun t7 h7=>?_⟩;have s7:=Ae (o:=.tup [.int 0,.int 1]) h7;have e7:upd H6 t7 (.tup [.int 0,.int 1]) t7=some (.tup [.int 0,.int 1]):=Ab;show Ch _ _ _ (upd H6 t7 (.tup [.int 0,.int 1])) _;generalize upd H6 t7 (.tup [.int 0,.int 1])=H7 at s7 e7 ⊢;refine ⟨(by show 2<=sizeLine; decide),fun t8 h8=>?_⟩;have s8:=Ae (o:=.tup [.int 1,.int 1]) h8;have e8:upd H7 t8 (.tup [.int 1,.int 1]) t8=some (.tup [.int 1,.int 1]):=Ab;show Jt _ (upd H7 t8 (.tup [.int 1,.int 1])) _;generalize upd H7 t8 (.tup [.int 1,.int 1])=H8 at s8 e8 ⊢;refine ⟨(by show 8<=sizeLine; decide),fun O hO=>?_⟩;have s9:=Ae (o:=.lst [.ref t1,.ref t2,.ref t3,.ref t4,.ref t5,.ref t6,.ref t7,.ref t8]) hO;have sm8:=((((((s1.trans s2).trans s3).trans s4).trans s5).trans s6).trans s7).trans s8;have e9:upd H8 O (.lst [.ref t1,.ref t2,.ref t3,.ref t4,.ref t5,.ref t6,.ref t7,.ref t8]) O=some (.lst (([t1,t2,t3,t4,t5,t6,t7,t8]:List Addr).map V.ref)):=Ab;have pr9:Paired (Lb (upd H8 O (.lst [.ref t1,.ref t2,.ref t3,.ref t4,.ref t5,.ref t6,.ref t7,.ref t8]))) [t1,t2,t3,t4,t5,t6,t7,t8] EO:=.cons (s9 _ _ (s8 _ _ (s7 _ _ (s6 _ _ (s5 _ _ (s4 _ _ (s3 _ _ (s2 _ _ (e1))))))))) (.cons (s9 _ _ (s8 _ _ (s7 _ _ (s6 _ _ (s5 _ _ (s4 _ _ (s3 _ _ (e2)))))))) (.cons (s9 _ _ (s8 _ _ (s7 _ _ (s6 _ _ (s5 _ _ (s4 _ _ (e3))))))) (.cons (s9 _ _ (s8 _ _ (s7 _ _ (s6 _ _ (s5 _ _ (e4)))))) (.cons (s9 _ _ (s8 _ _ (s7 _ _ (s6 _ _ (e5))))) (.cons (s9 _ _ (s8 _ _ (s7 _ _ (e6)))) (.cons (s9 _ _ (s8 _ _ (e7))) (.cons (s9 _ _ (e8)) .nil)))))));show Fi 2 (.ref O) _ (upd H8 O (.lst [.ref t1,.ref t2,.ref t3,.ref t4,.ref t5,.ref t6,.ref t7,.ref t8])) _;generalize upd H8 O (.lst [.ref t1,.ref t2,.ref t3,.ref t4,.ref t5,.ref t6,.ref t7,.ref t8])=H9 at s9 e9 pr9 ⊢;have hnO:H O=none:=As.noneOf sm8 hO;have sm9:=sm8.trans s9;generalize ([t1,t2,t3,t4,t5,t6,t7,t8]:List Addr)=us at e9 pr9;clear s1 s2 s3 s4 s5 s6 s7 s8 s9 e1 e2 e3 e4 e5 e6 e7 e8 sm8 h1 h2 h3 h4 h5 h6 h7 h8 hO;have rd9:Rd H9 D (.dT (kvC ds)):=by
   rcases rd with y | ⟨o,y⟩
   ·exact .inl (sm9 _ _ y)
   ·exact .inr ⟨o,sm9 _ _ y⟩
  refine fun Pd hP=>?_;have hnP:H Pd=none:=As.noneOf sm9 hP;have nPD:=nD hnP;have nOD:=nD hnO;have nPO:Pd≠O:=fun z=>by rw [z,e9] at hP; cases hP
  have s10:=Ae (o:=.dT []) hP;have e10:upd H9 Pd (.dT []) Pd=some (.dT (kvP [])):=Ab;generalize upd H9 Pd (.dT [])=H10 at s10 e10 ⊢;have sm10:=sm9.trans s10;have rd10:Rd H10 D (.dT (kvC ds)):=by
   rcases rd9 with y | ⟨o,y⟩
   ·exact .inl (s10 _ _ y)
   ·exact .inr ⟨o,s10 _ _ y⟩
  refine ⟨_,rfl,D,kvC ds,rfl,rd10,fun o H11 hD11 fr11=>?_⟩;have old11:∀ b u,H b=some u->b≠D->H11 b=some u:=fun b u e n=>fr11 _ _ (sm10 _ _ e) n;have hO11:=fr11 _ _ (s10 _ _ e9) nOD;have hP11:=fr11 _ _ e10 nPD;have notD:∀ {b:Addr} {ys:List V},H10 b=some (.tup ys)->H11 b=some (.tup ys):=fun {b ys} e=>fr11 _ _ e (fun z=>by
   rw [z] at e;rcases rd10 with y | ⟨o2,y⟩
   ·rw [y] at e; cases e
   ·rw [y] at e; cases e)
  have pr11:Paired (Lb H11) us EO:=PairedM.imp (fun t p z=>notD (s10 _ _ z)) pr9;have lu:us.length=EO.length:=Paired.length pr9;have l8:EO.length=8:=rfl;have ldk:(kvC ds).length=ds.length:=List.length_map _;refine MK (kvs:=kvC ds) (fun j σ H12=>∃ (ps:List (Int×Int)) (u4 u5 u6 u7:Option V),σ=[some (.ref q),some (.ref D),some (.ref O),some (.ref Pd),u4,u5,u6,u7,none,none,none]/\(∀ b u,H11 b=some u->b≠Pd->H12 b=some u)/\H12 Pd=some (.dT (kvP ps))/\ps.Nodup/\(∀ p,p ∈ ps ↔ Nb (ds.take j) p)/\ps.length<=9 * j) ⟨[],none,none,none,none,rfl,fun b u e _=>e,hP11,List.nodup_nil,fun p=>⟨(fun z=>nomatch z),fun ⟨c,hc,_⟩=>(nomatch hc)⟩,Nat.le_refl _⟩ (fun j σ H12 _ z=>by obtain ⟨_,_,_,_,_,_,z,_⟩:=z; exact z _ _ hD11 (Ne.symm nPD)) ?_ ?_
  ·rintro j kb kv v σ H12 ev hb ⟨ps,u4,u5,u6,u7,rfl,k12,p12,nd,me,le⟩;obtain ⟨c,ec,ee⟩:∃ c,ds[j]?=some c/\(kOf [c.x,c.y],V.int c.s)=(kv,v):=by
    unfold kvC at ev;rw [List.getElem?_map] at ev;obtain ⟨c,e1,e2⟩:=Option.map_eq_some_iff.mp ev;exact ⟨c,e1,e2⟩
   injection ee with ek ev2
   subst ek ev2;have jl:=(List.getElem?_eq_some_iff.mp ec).1;have hb:H12 kb=some (.tup [.int c.x,.int c.y]):=hb;refine Jd hb ?_;have hO12:=k12 _ _ hO11 (Ne.symm nPO);have pr12:Paired (Lb H12) us EO:=PairedM.imp (fun t p z=>k12 _ _ z (Da (show H11 t=some _ from z) hP11 (by intro z; cases z))) pr11;refine ⟨_,rfl,(by show 2<=sizeLine; decide),fun tz htz=>?_⟩;have s13:=Ae (o:=.tup [.int 0,.int 0]) htz;have e13:upd H12 tz (.tup [.int 0,.int 0]) tz=some (.tup [.int 0,.int 0]):=Ab;show Jt _ (upd H12 tz (.tup [.int 0,.int 0])) _;generalize upd H12 tz (.tup [.int 0,.int 0])=H13 at s13 e13 ⊢;refine ⟨(by show 1<=sizeLine; decide),fun Z hZ=>?_⟩;have s14:=Ae (o:=.lst [.ref tz]) hZ;have e14:upd H13 Z (.lst [.ref tz]) Z=some (.lst [.ref tz]):=Ab;show rCat _ _ (upd H13 Z (.lst [.ref tz])) _;generalize upd H13 Z (.lst [.ref tz])=H14 at s14 e14 ⊢;refine ⟨O,Z,_,_,rfl,rfl,s14 _ _ (s13 _ _ hO12),e14,le_ln (by rw [List.length_map,lu]; show 8+1<=10000000; decide),fun C hC=>?_⟩;have s15:=Ae (o:=.lst (us.map V.ref ++ [.ref tz])) hC;have e15:upd H14 C (.lst (us.map V.ref ++ [.ref tz])) C=some (.lst ((us ++ [tz]).map V.ref)):=by rw [Ab,List.map_append]; rfl
   generalize upd H14 C (.lst (us.map V.ref ++ [.ref tz]))=H15 at s15 e15 ⊢;have s1215:=(s13.trans s14).trans s15;have p15:=s1215 _ _ p12;have pr15:Paired (Lb H15) (us ++ [tz]) (EO ++ [(0,0)]):=Paired.snoc (PairedM.imp (fun t p z=>s1215 _ _ z) pr12) (s15 _ _ (s14 _ _ e13));have nCP:C≠Pd:=fun z=>by rw [z,s14 _ _ (s13 _ _ p12)] at hC; cases hC
   refine ⟨C,rfl,⟨_,SqL.of e15⟩,?_⟩;refine DV (xs:=(us ++ [tz]).map V.ref) (fun i σ H16=>∃ (ps6:List (Int×Int)) (u6 u7:Option V),σ=[some (.ref q),some (.ref D),some (.ref O),some (.ref Pd),some (.int c.x),some (.int c.y),u6,u7,none,none,none]/\(∀ b u,H15 b=some u->b≠Pd->H16 b=some u)/\H16 Pd=some (.dT (kvP ps6))/\ps6.Nodup/\(∀ p,p ∈ ps6 ↔ (Nb (ds.take j) p\/p ∈ ((EO ++ [(0,0)]).take i).map fun o:Int×Int=>(c.x+o.1,c.y+o.2)))/\ps6.length<=9 * j+i) ⟨ps,_,_,rfl,fun b u e _=>e,p15,nd,fun p=>by rw [me]; exact ⟨.inl,fun z=>z.elim id fun y=>nomatch y⟩,le⟩ (fun i σ H16 _ z=>by obtain ⟨_,_,_,_,z,_⟩:=z; exact SqL.of (z _ _ e15 nCP)) ?_ ?_
   ·rintro i x σ H16 ex ⟨ps6,u6,u7,rfl,k16,p16,nd16,me16,le16⟩;rw [List.getElem?_map] at ex;obtain ⟨t,et,rfl⟩:=Option.map_eq_some_iff.mp ex;obtain ⟨oo,eo,ho⟩:=PairedM.getL pr15 et;have il:=(List.getElem?_eq_some_iff.mp et).1;rw [List.length_append,lu] at il;have il:i < 9:=il;have ho16:H16 t=some (.tup [.int oo.1,.int oo.2]):=k16 _ _ ho (Da (show H15 t=some _ from ho) p15 (by intro z; cases z));refine Jd ho16 ?_;refine ⟨_,rfl,_,rfl,_,rfl,_,_,rfl,rfl,_,rfl,_,rfl,_,_,rfl,rfl,(by show 2<=sizeLine; decide),fun t17 ht17=>?_⟩;have s17:=Ae (o:=.tup [.int (c.x+oo.1),.int (c.y+oo.2)]) ht17;have e17:upd H16 t17 (.tup [.int (c.x+oo.1),.int (c.y+oo.2)]) t17=some (.tup [.int (c.x+oo.1),.int (c.y+oo.2)]):=Ab;show ∃ _,_;generalize upd H16 t17 (.tup [.int (c.x+oo.1),.int (c.y+oo.2)])=H17 at s17 e17 ⊢;refine ⟨Pd,_,rfl,PU (p:=(c.x+oo.1,c.y+oo.2)) (s17 _ _ p16) e17 (by lia),putP ps6 (c.x+oo.1,c.y+oo.2),_,_,rfl,fun b u e n=>?_,Ab,JH nd16,fun p=>?_,?_⟩
    ·rw [Ak n];exact s17 _ _ (k16 b u e n)
    ·rw [Io,me16,List.take_add_one,eo];show _ ↔ _\/p ∈ ((EO ++ [(0,0)]).take i ++ [oo]).map _;rw [List.map_append,List.mem_append];show _ ↔ _\/_\/p ∈ [(c.x+oo.1,c.y+oo.2)];rw [List.mem_singleton];constructor
     ·rintro (z | z | z)
      ·exact .inr (.inr z)
      ·exact .inl z
      ·exact .inr (.inl z)
     ·rintro (z | z | z)
      ·exact .inr (.inl z)
      ·exact .inr (.inr z)
      ·exact .inl z
    ·have:=Iu ps6 (c.x+oo.1,c.y+oo.2);lia
   ·rintro σ H16 ⟨ps6,u6,u7,rfl,k16,p16,nd16,me16,le16⟩;have l9:((us ++ [tz]).map V.ref).length=(EO ++ [(0,0)]).length:=by rw [List.length_map,List.length_append,List.length_append,lu]; rfl
    rw [l9,List.take_length] at me16;rw [l9] at le16;have le16:ps6.length<=9 * j+9:=le16;refine ⟨ps6,_,_,_,_,rfl,fun b u e n=>k16 _ _ (s1215 _ _ (k12 b u e n)) n,p16,nd16,fun p=>?_,by lia⟩;rw [me16,Nk ec,List.map_append,List.mem_append];show _\/_\/p ∈ [(c.x+0,c.y+0)] ↔ _;rw [List.mem_singleton,Int.add_zero,Int.add_zero];unfold arP;constructor
    ·rintro (z | z | z)
     ·exact .inl (.inl z)
     ·exact .inr z
     ·exact .inl (.inr z)
    ·rintro ((z | z) | z)
     ·exact .inl z
     ·exact .inr (.inr z)
     ·exact .inr (.inl z)
  ·rintro σ H12 ⟨ps,u4,u5,u6,u7,rfl,k12,p12,nd,me,le⟩;rw [ldk,List.take_length] at me;rw [ldk] at le;have old12:∀ b u,H b=some u->b≠D->H12 b=some u:=fun b u e n=>k12 _ _ (old11 b u e n) (Ar e hnP);have hD12:=k12 _ _ hD11 (Ne.symm nPD);have hO12:=k12 _ _ hO11 (Ne.symm nPO);have pr12:Paired (Lb H12) us EO:=PairedM.imp (fun t p z=>k12 _ _ z (Da (show H11 t=some _ from z) hP11 (by intro z; cases z))) pr11;refine ⟨(by show 0<=sizeLine; decide),fun M hM=>?_⟩;have s13:=Ae (o:=.lst []) hM;have e13:upd H12 M (.lst []) M=some (.lst (([]:List It3).map fun q=>V.ref q.a)):=Ab;generalize upd H12 M (.lst [])=H13 at s13 e13 ⊢;have nMD:M≠D:=fun z=>by rw [z,hD12] at hM; cases hM
   have nMP:M≠Pd:=fun z=>by rw [z,p12] at hM; cases hM
   have nMO:M≠O:=fun z=>by rw [z,hO12] at hM; cases hM
   have hnM:H M=none:=by
    cases e:H M with
    | none=>rfl
    | some u=>rw [old12 _ _ e nMD] at hM; cases hM
   refine ⟨_,rfl,Pd,kvP ps,rfl,s13 _ _ p12,fun o2=>?_⟩;have k14:∀ b u,H13 b=some u->b≠Pd->upd H13 Pd (.frz o2 (.dT (kvP ps))) b=some u:=fun b u e n=>by rw [Ak n]; exact e
   have e14:upd H13 Pd (.frz o2 (.dT (kvP ps))) Pd=some (.frz o2 (.dT (kvP ps))):=Ab;generalize upd H13 Pd (.frz o2 (.dT (kvP ps)))=H14 at k14 e14 ⊢;have old14:∀ b u,H b=some u->b≠D->H14 b=some u:=fun b u e n=>k14 _ _ (s13 _ _ (old12 b u e n)) (Ar e hnP);have hD14:=k14 _ _ (s13 _ _ hD12) (Ne.symm nPD);have hO14:=k14 _ _ (s13 _ _ hO12) (Ne.symm nPO);have hM14:=k14 _ _ e13 nMP;have pr14:Paired (Lb H14) us EO:=PairedM.imp (fun t p z=>k14 _ _ (s13 _ _ z) (Da (show H12 t=some _ from z) p12 (by intro z; cases z))) pr12;have lpk:(kvP ps).length=ps.length:=List.length_map _;refine MK (kvs:=kvP ps) (fun j σ H15=>∃ (items:List It3) (u4 u5 u9 u10:Option V),σ=[some (.ref q),some (.ref D),some (.ref O),some (.ref Pd),u4,u5,u6,u7,some (.ref M),u9,u10]/\(∀ b u,H14 b=some u->b≠M->H15 b=some u)/\H15 M=some (.lst (items.map fun q=>V.ref q.a))/\(∀ q ∈ items,H15 q.a=some (.tup (q.ns.map V.int)))/\items.length<=j/\items.map Er=EY r ds (ps.take j)) ⟨[],_,_,none,none,rfl,fun b u e _=>e,hM14,(fun q hq=>nomatch hq),Nat.le_refl _,rfl⟩ (fun j σ H15 _ z=>by obtain ⟨_,_,_,_,_,_,z,_⟩:=z; exact z _ _ e14 (Ne.symm nMP)) ?_ ?_
   ·rintro j kb kv v σ H15 ev hb ⟨items,u4,u5,u9,u10,rfl,k15,hM15,hi15,il,ei⟩;obtain ⟨pp,epp,ee⟩:∃ pp,ps[j]?=some pp/\(kOf [pp.1,pp.2],V.bl true)=(kv,v):=by
     unfold kvP at ev;rw [List.getElem?_map] at ev;obtain ⟨c,e1,e2⟩:=Option.map_eq_some_iff.mp ev;exact ⟨c,e1,e2⟩
    injection ee with ek ev2
    subst ek ev2;have jl:=(List.getElem?_eq_some_iff.mp epp).1;have hb:H15 kb=some (.tup [.int pp.1,.int pp.2]):=hb;refine Jd hb ?_;have hD15:=k15 _ _ hD14 (Ne.symm nMD);have hO15:=k15 _ _ hO14 (Ne.symm nMO);have pr15:Paired (Lb H15) us EO:=PairedM.imp (fun t p z=>k15 _ _ z (Da (show H14 t=some _ from z) hM14 (by intro z; cases z))) pr14;refine ⟨_,rfl,O,rfl,⟨_,SqL.of hO15⟩,?_⟩;refine DW (xs:=us.map V.ref) (fun i acc H16=>As H15 H16/\acc=((EO.take i).map fun o=>lkC ds (pp.1+o.1) (pp.2+o.2)).map V.int) ⟨As.refl _,rfl⟩ (fun i acc H16 _ z=>SqL.of (z.1 _ _ hO15)) ?_ ?_
    ·rintro i x acc H16 ex ⟨s16,rfl⟩;rw [List.getElem?_map] at ex;obtain ⟨t,et,rfl⟩:=Option.map_eq_some_iff.mp ex;obtain ⟨oo,eo,ho⟩:=PairedM.getL pr15 et;have i8:=(List.getElem?_eq_some_iff.mp et).1;have hD16:=s16 _ _ hD15;refine Jd (s16 _ _ ho) ?_;refine ⟨⟨[some (.int oo.1),some (.int oo.2)],rfl,rfl⟩,by rw [List.length_map,List.length_map,List.length_take]; exact FE (by lia),GG ⟨_,rfl,D,rfl,.inr ⟨_,.inr ⟨o,hD16⟩⟩,_,rfl,_,rfl,_,_,rfl,rfl,_,rfl,_,rfl,_,_,rfl,rfl,(by show 2<=sizeLine; decide),fun t17 ht17=>?_⟩⟩;have s17:=Ae (o:=.tup [.int (pp.1+oo.1),.int (pp.2+oo.2)]) ht17;have e17:upd H16 t17 (.tup [.int (pp.1+oo.1),.int (pp.2+oo.2)]) t17=some (.tup [.int (pp.1+oo.1),.int (pp.2+oo.2)]):=Ab;show ∃ _,_;generalize upd H16 t17 (.tup [.int (pp.1+oo.1),.int (pp.2+oo.2)])=H17 at s17 e17 ⊢;refine ⟨_,JR (s17 _ _ hD16) e17,?_⟩;rw [Js];refine ⟨s16.trans s17,?_⟩;rw [List.take_add_one,eo];show _=((EO.take i ++ [oo]).map _).map _;rw [List.map_append,List.map_append];rfl
    ·rintro acc H16 ⟨s16,rfl⟩ A1 hA1;rw [List.length_map,lu,List.take_length];have s17:=Ae (o:=.lst ((arC ds pp.1 pp.2).map V.int)) hA1;have e17:upd H16 A1 (.lst ((arC ds pp.1 pp.2).map V.int)) A1=some (.lst ((arC ds pp.1 pp.2).map V.int)):=Ab;show tSeq _ _ _ _ (upd H16 A1 (.lst ((arC ds pp.1 pp.2).map V.int)));generalize upd H16 A1 (.lst ((arC ds pp.1 pp.2).map V.int))=H17 at s17 e17 ⊢;have s1517:=s16.trans s17;have hD17:=s1517 _ _ hD15;refine ⟨_,rfl,_,rfl,D,rfl,.inr ⟨_,.inr ⟨o,hD17⟩⟩,_,rfl,_,rfl,(by show 2<=sizeLine; decide),fun t18 ht18=>?_⟩;have s18:=Ae (o:=.tup [.int pp.1,.int pp.2]) ht18;have e18:upd H17 t18 (.tup [.int pp.1,.int pp.2]) t18=some (.tup [.int pp.1,.int pp.2]):=Ab;show ∃ _,_;generalize upd H17 t18 (.tup [.int pp.1,.int pp.2])=H18 at s18 e18 ⊢;have s1518:=s1517.trans s18;refine ⟨_,JR (s18 _ _ hD17) e18,?_⟩;rw [Js];have old18:∀ b u,H b=some u->b≠D->H18 b=some u:=fun b u e n=>s1518 _ _ (k15 _ _ (old14 b u e n) (Ar e hnM));refine ⟨_,rfl,q,A1,r,lkC ds pp.1 pp.2,arC ds pp.1 pp.2,rfl,hq H18 old18,rok,s18 _ _ e17,rfl,fun H19 s19=>?_⟩;have s1519:=s1518.trans s19;have hM19:=s1519 _ _ hM15;have hi19:∀ q ∈ items,H19 q.a=some (.tup (q.ns.map V.int)):=fun q hq=>s1519 _ _ (hi15 q hq);have sn:=GH (r:=r) (cs:=ds) epp;have old:∀ b u,H14 b=some u->b≠M->H19 b=some u:=fun b u e n=>s1519 _ _ (k15 b u e n);refine ⟨_,rfl,rfl,_,rfl,?_⟩;by_cases nz:nxC r ds pp.1 pp.2=0
     ·rw [if_neg (fun z=>z nz)] at sn;have nz':Fp r (lkC ds pp.1 pp.2) (arC ds pp.1 pp.2)=0:=nz;refine Gh (by rw [nz']) ?_;exact ⟨items,_,_,_,_,rfl,old,hM19,hi19,by lia,by rw [sn,ei]⟩
     ·rw [if_pos nz] at sn;rw [decide_eq_false (by intro e; injection e with e; exact nz e)];refine Ef ⟨_,rfl,.inl ⟨rfl,_,SqL.of hM19⟩,_,rfl,_,rfl,_,rfl,(by show 3<=sizeLine; decide),fun t20 ht20=>?_⟩;have s20:=Ae (o:=.tup [.int pp.1,.int pp.2,.int (nxC r ds pp.1 pp.2)]) ht20;have e20:upd H19 t20 (.tup [.int pp.1,.int pp.2,.int (nxC r ds pp.1 pp.2)]) t20=some (.tup [.int pp.1,.int pp.2,.int (nxC r ds pp.1 pp.2)]):=Ab;show Jt _ (upd H19 t20 (.tup [.int pp.1,.int pp.2,.int (nxC r ds pp.1 pp.2)])) _;generalize upd H19 t20 (.tup [.int pp.1,.int pp.2,.int (nxC r ds pp.1 pp.2)])=H20 at s20 e20 ⊢;have hM20:=s20 _ _ hM19;have tp:∀ {b:Addr} {ys:List V},H20 b=some (.tup ys)->upd H20 M (.lst ((items.map fun q=>V.ref q.a) ++ [.ref t20])) b=some (.tup ys):=fun {b ys} e=>by rw [Ak (Da e hM20 (by intro z; cases z))]; exact e
      refine ⟨M,_,.ref t20,rfl,rfl,hM20,FE (by rw [List.length_map]; lia),items ++ [⟨t20,pp.1,pp.2,[nxC r ds pp.1 pp.2]⟩],_,_,_,_,rfl,fun b u e n1=>?_,by rw [Ab,List.map_append]; rfl,fun q hq=>?_,by rw [List.length_append]; show items.length+1<=j+1; lia,?_⟩
      ·rw [Ak n1];exact s20 _ _ (old b u e n1)
      ·rcases List.mem_append.mp hq with hq | hq
       ·exact tp (s20 _ _ (hi19 q hq))
       ·rw [List.mem_singleton.mp hq];exact tp e20
      ·rw [sn,List.map_append,ei];rfl
   ·rintro σ H15 ⟨items,u4,u5,u9,u10,rfl,k15,hM15,hi15,il,ei⟩;rw [lpk] at il;rw [lpk,List.take_length] at ei;refine ⟨_,rfl,M,items,rfl,SqL.of hM15,by lia,hi15,fun L8 out8 H16 s16 nL8 pm ru=>?_⟩;have s16:As H15 H16:=s16;have s17:=Ae (o:=.lst (out8.map fun q=>V.ref q.a)) nL8;have s1517:=s16.trans s17;have hD15:=k15 _ _ hD14 (Ne.symm nMD);have old15:∀ b u,H b=some u->b≠D->H15 b=some u:=fun b u e n=>k15 _ _ (old14 b u e n) (Ar e hnM);have nL:H L8=none:=by
     cases e:H L8 with
     | none=>rfl
     | some u =>
      exfalso;by_cases z:L8=D
      ·rw [z,s16 _ _ hD15] at nL8;cases nL8
      ·rw [s16 _ _ (old15 _ _ e z)] at nL8;cases nL8
    have lo:=pm.length_eq;exact k L8 out8 _ o (fun b u e n=>s1517 _ _ (old15 b u e n)) (s1517 _ _ hD15) nL Ab (fun q hq=>s1517 _ _ (hi15 q (pm.mem_iff.mp hq))) ru ((Nl nd me ei).perm pm) (by lia)
end
end J
namespace J
open PySem L2
seal L2.PA L2.PE L2.PS L2.PSs L2.PT L2.PW
def clI (q:It3):Cl:=⟨q.x,q.y,q.r.headD 0⟩
def IO (H:Hp) (q:It3):Prop:=q.r.length=1/\H q.a=some (.tup (q.ns.map V.int))
theorem IO.cl {H:Hp} {q:It3} (h:IO H q):ClAt H q.a (clI q):=by
 obtain ⟨h1,h2⟩:=h;unfold It3.ns at h2;unfold ClAt clI
 match hq:q.r,h1 with
 | [s0],_ =>
  rw [hq] at h2;exact h2
theorem FZ {H:Hp}:∀ {out:List It3},(∀ q ∈ out,IO H q)->Paired (ClAt H) (out.map (·.a)) (out.map clI)
 | [],_=>.nil
 | q :: out,h=>.cons (h q (List.mem_cons_self ..)).cl (FZ fun p hp=>h p (List.mem_cons_of_mem _ hp))
theorem six {n k:Nat} (h:k<=n) (d:Nat):HT.sIx n d (some (k:Int))=k:=by
 unfold HT.sIx;dsimp only;split<;>lia
theorem PX {xs:List V} {k:Nat} (h:k<=xs.length):IJ xs (some (k:Int)) none=xs.drop k:=by
 unfold IJ;rw [six h];show (xs.drop k).take (xs.length - k)=xs.drop k;rw [List.take_of_length_le (by rw [List.length_drop]; lia)]
theorem cut_to {xs:List V} {k:Nat} (h:k<=xs.length):IJ xs none (some (k:Int))=xs.take k:=by
 unfold IJ;rw [six h];rfl
section
variable {P:Program} {w:World} {K:PySem.W.Frag} {mg:Str->Option Value} {base:Heap} {a:Ad}
theorem ok_law {f:Addr} {fd:FuncData} (F:Fun K "law" "law" Fa f fd) (T:Top K mg a) (aA:Cal P w K mg base CX0 1 "_law_at" Dr (OP K)) (aN:Cal P w K mg base CX0 4 "_law_clauses_by" Bq (spCs K)) (aK:Cal P w K mg base CX0 1 "_law_number" CI spNm) (aS:Cal P w K mg base CX0 2 "_law_heap" DB (spHp K)) (aF:Cal P w K mg base CX0 1 "_law_by_rows" BL EI) (cR:Cal P w K mg base CX0 4 "_law_due" DT spDu) (cC:Cal P w K mg base CX0 2 "_law_text" DA spTx) (cA:Cal P w K mg base CX0 8 "read_rule" Dy (spRR a)) (cE:Cal P w K mg base CX0 7 "stepped" Ej (OJ a)) (aV:Cal P w K mg base CX0 2 "_law_right" Dj spRt):AS P w K mg base CX0 10 f fd p_law (MY K):=by
 refine F.ok DF (fun vs H Q E h=>?_) (fun cdv A outer s H vs Q E hr h=>?_)
 ·obtain ⟨l,ns,rfl,_⟩:=h;rfl
 ·obtain ⟨l,ns,rfl,hS,hlen,kq⟩:=h;refine ⟨_,(Ag (Av (i:=1) DF.nd rfl (Or.inl rfl) (Aj aN (rm hr) rfl Al (Aa (pv 0) (Au (AO Bb (Aj aA (rm hr) rfl Al (Aa (pv 0) (Au Ac))) Ah Ac))))) (Ag (Av (i:=2) DF.nd rfl (Or.inl rfl) (Aj aK (rm hr) rfl Al (Aa (Aj aA (rm hr) rfl Al (Aa (pv 0) (Au Ac))) Ac))) (Ag (Av (i:=3) DF.nd rfl (Or.inl rfl) (Aj aK (rm hr) rfl Al (Aa (Aj aA (rm hr) rfl Al (Aa (pv 0) (Au Ac))) Ac))) (Ag (Av (i:=4) DF.nd rfl (Or.inr rfl) Fx) (Ag (CO (Aj aS (rm hr) rfl Al (Aa (pv 0) (Au (Aa (pv 2) (Aa (pv 3) (Aa (pv 4) Ac))))))) (Ag (AX (Ax El (AA Bb (Aj aA (rm hr) rfl Al (Aa (pv 0) (Au Ac))) Ah) Ah (AI _)) (Ai (CO (Aj aS (rm hr) rfl Al (Aa (pv 0) (Au (AO AH (pv 2) (AA Bb (Aj aA (rm hr) rfl Al (Aa (pv 0) (Au Ac))) Ah) (AO EN (AA AH (pv 3) (AA Bb (AA Dv (Aj aA (rm hr) rfl Al (Aa (pv 0) (Au Ac))) Ah) Ah)) Ah (Aa (pv 4) Ac)))))))) (Ai (CO (Aj aS (rm hr) rfl Al (Aa (pv 0) (Au (Aa (Aj aK (rm hr) rfl Al (Aa (Aj aA (rm hr) rfl Al (Aa (pv 0) (Au Ac))) Ac)) (Aa (pv 3) (Aa (pv 4) Ac))))))))) (Ag (Av (i:=5) DF.nd rfl (Or.inl rfl) (Fl aF (rm hr) rfl T.b_sorted rfl (Aa (Du rfl (BU.of (So:=Af Fa) (No:=gJ) (N:=["_law_place","_law_states"]) (k:=1) (cs:=[4]) rfl rfl (by decide +kernel)) (Lu (pv 4)) (fun _ _ _=>(BW (i:=0) (by decide +kernel) rfl rfl)) (fun _ _ _=>Dg) (fun _ _ _=>(CT (Aa (AB (Nt (K:=K) rfl) (pv 0) Ah (fun _ _=>rfl)) (Aa (AB (Nt (K:=K) rfl) (pv 0) Ah (fun _ _=>rfl)) (Aa (pe_dget (Fh hr) (pv 1) (pv 0) (fun _ _=>rfl)) Ac)))))) Ac))) (Ag (AX (Ax El (AA Bb (Aj aA (rm hr) rfl Al (Aa (pv 0) (Au Ac))) Ah) Ah (AI _)) (Ai (Av (i:=5) DF.nd rfl (Or.inl rfl) (Mn rfl rfl T.b_list rfl T.b_reversed (Aa (pv 5) Ac)))) Ay) (Ag (AX (Ax El (AA Bb (Aj aA (rm hr) rfl Al (Aa (pv 0) (Au Ac))) Ah) Ah (AI _)) (Ai (Av (i:=5) DF.nd rfl (Or.inl rfl) (AA Ia (GX Jw (pv 5) (Gz (AA Dv (AJ AV rfl T.b_len PySem.boot_len (Aa (pv 5) Ac)) Ah)) Nh) (GX Jw (pv 5) Nh (Gz (AA Dv (AJ AV rfl T.b_len PySem.boot_len (Aa (pv 5) Ac)) Ah)))))) Ay) (Ag (Av (i:=6) DF.nd rfl (Or.inl rfl) (Aj cR (rm hr) rfl Al (Aa (pv 1) (Aa (pv 4) Ac)))) (Ag (Av (i:=7) DF.nd rfl (Or.inl rfl) (Aj cA (rm hr) rfl Al (Aa (Aj cC (rm hr) rfl Al (Aa (pv 1) Ac)) Ac))) (Ag (Av (i:=8) DF.nd rfl (Or.inl rfl) (Bf JW rfl T.b_list PyProof.Rows.boot_list (Aa (pv 5) Ac))) (Ag (Av (i:=9) DF.nd rfl (Or.inl rfl) (Aj cE (rm hr) rfl Al (Aa (pv 7) (Aa (pv 8) Ac)))) (Ag (AX (PW.pt (GU (Ax (Lx hr.units) (pv 8) (pv 5) (AI _)) (GT (EK (Ed (Aj aV (rm hr) rfl Al (Aa (pv 9) (Aa (pv 6) Ac)))))))) (Ai (Aq Fb)) Ay) (Ag (CO (Dx PySem.F.plainAttrs_list PySem.F.slot_list_append PySem.F.type_list_append Cz (pv 9) (Bi (Au (Au (Au Ac))) Ac))) (Ai (Aq (Aj aV (rm hr) rfl Al (Aa (Aj cE (rm hr) rfl Al (Aa (pv 7) (Aa (pv 8) Ac))) (Aa (pv 6) Ac)))))))))))))))))))),?_⟩
  try dsimp only [cxK]
  refine ⟨_,rfl,_,rfl,l,ns,7,rfl,hS,by decide,_,_,rfl,rfl,(by show (0:Int) < 6; decide),l,ns,0,atN ns 7 % 6,rfl,hS,by decide,by lia,by lia,fun qc r H1 s1 hr1 rok bz rl1 rl2=>?_⟩;have hS1:=s1.seq hS;refine ⟨_,rfl,l,ns,8,rfl,hS1,by decide,_,rfl,fun lf=>?_⟩;refine ⟨_,rfl,l,ns,9,rfl,hS1,by decide,_,rfl,fun tp=>?_⟩;refine fun D hD=>?_;have s2:=Ae (o:=.dT []) hD;have e2:upd H1 D (.dT []) D=some (.dT (kvC [])):=Ab;generalize upd H1 D (.dT [])=H2 at s2 e2 ⊢;have ks:∀ {Ha:Hp},As H1 Ha->∀ H':Hp,(∀ b u,Ha b=some u->b≠D->H' b=some u)->As H1 H':=fun {Ha} sa H' k b u e=>k b u (sa _ _ e) (Ar e hD);have kS:∀ {Ha:Hp},As H1 Ha->∀ H':Hp,(∀ b u,Ha b=some u->b≠D->H' b=some u)->SqL K H' l (ns.map V.int):=fun {Ha} sa H' k=>(ks sa H' k).seq hS1;refine ⟨_,rfl,_,rfl,_,rfl,_,rfl,l,ns,10,lf,tp,D,[],0,rfl,kS s2,by decide,e2,⟨List.nodup_nil,Nat.le_refl _⟩,by decide,fun ds3 H3 k3 hD3 dc3=>?_⟩;have s3:=ks s2 H3 k3;have hS3:=s3.seq hS1;apply Pq (fun σ H4=>∃ ds4:List Cl,σ=[some (.ref l),some (.ref qc),some (.int lf),some (.int tp),some (.ref D),none,none,none,none,none]/\As H1 H4/\H4 D=some (.dT (kvC ds4))/\DsC ds4 16)
  ·intro rest;refine ⟨_,rfl,l,ns,8,rfl,hS3,by decide,_,_,rfl,rfl,(by show (0:Int) < 2; decide),rfl,_,rfl,II (fun _=>?_) (fun _=>?_)⟩
   ·refine ⟨_,rfl,_,rfl,_,rfl,l,ns,19,rfl,hS3,by decide,_,_,rfl,rfl,(by show (0:Int) < 8; decide),_,_,rfl,rfl,_,rfl,_,rfl,l,ns,19,rfl,hS3,by decide,_,_,rfl,rfl,⟨by decide,by decide⟩,_,_,rfl,rfl,(by show (0:Int) < 8; decide),_,_,rfl,rfl,_,_,rfl,rfl,_,rfl,l,ns,20,_,_,D,ds3,8,rfl,kS s3,by decide,hD3,dc3,by decide,fun ds4 H4 k4 hD4 dc4=>rest _ _ ⟨ds4,rfl,ks s3 H4 k4,hD4,dc4⟩⟩
   ·refine ⟨_,rfl,_,rfl,l,ns,19,rfl,hS3,by decide,_,rfl,fun lf2=>⟨_,rfl,_,rfl,l,ns,20,lf2,tp,D,ds3,8,rfl,kS s3,by decide,hD3,dc3,by decide,fun ds4 H4 k4 hD4 dc4=>rest _ _ ⟨ds4,rfl,ks s3 H4 k4,hD4,dc4⟩⟩⟩
  clear s3 hS3 hD3 dc3 k3 e2 s2;rintro σ H4 ⟨ds,rfl,s4,hD4,dc⟩;have hS4:=s4.seq hS1;have ldk:(kvC ds).length=ds.length:=List.length_map _;have l16:=dc.len;refine ⟨_,rfl,D,kvC ds,rfl,.inl hD4,fun o H5 hD5 fr5=>?_⟩;have s5:=ks s4 H5 fr5;refine blk_dT (kvs:=kvC ds) (fun j acc H6=>∃ items:List It3,acc=items.map (fun q=>V.ref q.a)/\As H5 H6/\(∀ q ∈ items,IO H6 q)/\items.map clI=ds.take j) ⟨[],rfl,As.refl _,(fun q hq=>nomatch hq),rfl⟩ (fun j acc H6 _ z=>by obtain ⟨_,_,z,_⟩:=z; exact z _ _ hD5) ?_ ?_
  ·rintro j kb kv v acc H6 ev hb ⟨items,rfl,s6,hi6,ei⟩;obtain ⟨c,ec,ee⟩:∃ c,ds[j]?=some c/\(kOf [c.x,c.y],V.int c.s)=(kv,v):=by
    unfold kvC at ev;rw [List.getElem?_map] at ev;obtain ⟨c,e1,e2⟩:=Option.map_eq_some_iff.mp ev;exact ⟨c,e1,e2⟩
   injection ee with ek ev2
   subst ek ev2;have jl:=(List.getElem?_eq_some_iff.mp ec).1;have hb:H6 kb=some (.tup [.int c.x,.int c.y]):=hb;have li:items.length<=j:=by
    have:=congrArg List.length ei;rw [List.length_map,List.length_take] at this;lia
   have gt:MP H6 D (.ref kb) (some (.int c.s)):=.inr ⟨kvC ds,kOf [c.x,c.y],kb,.inr ⟨o,s6 _ _ hD5⟩,rfl,hb,(Np dc.nd (List.mem_of_getElem? ec)).symm⟩;refine ⟨⟨[some (.ref kb)],rfl,rfl⟩,by rw [List.length_map]; exact FE (by lia),GG ⟨_,rfl,kb,_,0,.int c.x,rfl,rfl,SqT.of hb,An (j:=0) rfl,_,rfl,kb,_,1,.int c.y,rfl,rfl,SqT.of hb,An (j:=1) rfl,_,rfl,_,rfl,D,.int c.s,rfl,gt,(by show 3<=sizeLine; decide),fun t7 ht7=>?_⟩⟩;have s7:=Ae (o:=.tup [.int c.x,.int c.y,.int c.s]) ht7;refine ⟨items ++ [⟨t7,c.x,c.y,[c.s]⟩],by rw [List.map_append]; rfl,s6.trans s7,fun q hq=>?_,?_⟩
   ·rcases List.mem_append.mp hq with hq | hq
    ·exact ⟨(hi6 q hq).1,s7 _ _ (hi6 q hq).2⟩
    ·rw [List.mem_singleton.mp hq];exact ⟨rfl,Ab⟩
   ·rw [List.map_append,ei,List.take_add_one,ec];rfl
  rintro acc H6 ⟨items,rfl,s6,hi6,ei⟩ L7 hL7;rw [ldk,List.take_length] at ei;have s7:=Ae (o:=.lst (items.map fun q=>V.ref q.a)) hL7;have e7:upd H6 L7 (.lst (items.map fun q=>V.ref q.a)) L7=some (.lst (items.map fun q=>V.ref q.a)):=Ab;generalize upd H6 L7 (.lst (items.map fun q=>V.ref q.a))=H7 at s7 e7 ⊢;have li:items.length=ds.length:=by
   have:=congrArg List.length ei;rw [List.length_map] at this;exact this
  refine ⟨L7,items,rfl,SqL.of e7,by lia,fun q hq=>s7 _ _ (hi6 q hq).2,fun L8 out H8 s8 nL8 pm ru=>?_⟩;have s8:As H7 H8:=s8;have s9:=Ae (o:=.lst (out.map fun q=>V.ref q.a)) nL8;have e9:upd H8 L8 (.lst (out.map fun q=>V.ref q.a)) L8=some (.lst (out.map fun q=>V.ref q.a)):=Ab;generalize upd H8 L8 (.lst (out.map fun q=>V.ref q.a))=H9 at s9 e9 ⊢;have s59:=((s6.trans s7).trans s8).trans s9;have hi9:∀ q ∈ out,IO H9 q:=fun q hq=>⟨(hi6 q (pm.mem_iff.mp hq)).1,s9 _ _ (s8 _ _ (s7 _ _ (hi6 q (pm.mem_iff.mp hq)).2))⟩
  have sm9:=s5.trans s59;have hD9:=s59 _ _ hD5;have hS9:=sm9.seq hS1;have pmc:(out.map clI).Perm ds:=by rw [<-ei]; exact pm.map _
  clear s6 s7 s8 s9 e7 hi6 ei pm ru li hL7 nL8 s59 fr5 hD5 s5;apply Pq (fun σ H10=>∃ (out10:List It3) (L10:Addr),σ=[some (.ref l),some (.ref qc),some (.int lf),some (.int tp),some (.ref D),some (.ref L10),none,none,none,none]/\As H9 H10/\H10 L10=some (.lst (out10.map fun q=>V.ref q.a))/\out10.Perm out)
  ·intro rest;refine ⟨_,rfl,l,ns,9,rfl,hS9,by decide,_,_,rfl,rfl,(by show (0:Int) < 3; decide),rfl,_,rfl,II (fun _=>?_) (fun _=>rest _ _ ⟨out,L8,rfl,As.refl _,e9,List.Perm.refl _⟩)⟩;refine ⟨_,rfl,L8,_,rfl,SqL.of e9,fun L10 hL10=>rest _ _ ⟨out.reverse,L10,rfl,Ae hL10,by rw [Ab,List.map_reverse],List.reverse_perm _⟩⟩
  rintro σ H10 ⟨out10,L10,rfl,s10,e10,pm10⟩;have hS10:=s10.seq hS9;have l10:out10.length<=16:=by
   have a1:=pm10.length_eq;have a2:=pmc.length_eq;rw [List.length_map] at a2;lia
  have hi10:∀ q ∈ out10,IO H10 q:=fun q hq=>⟨(hi9 q (pm10.mem_iff.mp hq)).1,s10 _ _ (hi9 q (pm10.mem_iff.mp hq)).2⟩
  have pmc10:(out10.map clI).Perm ds:=(pm10.map _).trans pmc;have sm10:=sm9.trans s10;have hD10:=s10 _ _ hD9;clear s10 hS9 hi9 pm10 pmc sm9 hD9 e9;apply Pq (fun σ H11=>∃ (out11:List It3) (L11:Addr),σ=[some (.ref l),some (.ref qc),some (.int lf),some (.int tp),some (.ref D),some (.ref L11),none,none,none,none]/\As H10 H11/\H11 L11=some (.lst (out11.map fun q=>V.ref q.a))/\out11.Perm out10)
  ·intro rest;refine ⟨_,rfl,l,ns,9,rfl,hS10,by decide,_,_,rfl,rfl,(by show (0:Int) < 3; decide),rfl,_,rfl,II (fun _=>?_) (fun _=>rest _ _ ⟨out10,L10,rfl,As.refl _,e10,List.Perm.refl _⟩)⟩;have ll:(out10.map fun q=>V.ref q.a).length=out10.length:=List.length_map _;have hh:(out10.length / 2:Nat)<=(out10.map fun q=>V.ref q.a).length:=by rw [ll]; lia
   have ei:(((out10.map fun q=>V.ref q.a).length:Nat):Int) / 2=((out10.length / 2:Nat):Int):=by rw [ll]; lia
   refine ⟨_,rfl,_,rfl,L10,_,rfl,.inl (SqL.of e10),_,_,rfl,rfl,⟨by decide,by decide⟩,((out10.length / 2:Nat):Int),congrArg V.int ei,L10,_,rfl,SqL.of e10,fun A1 hA1=>?_⟩;rw [PX hh];have s11:=Ae (o:=.lst ((out10.map fun q=>V.ref q.a).drop (out10.length / 2))) hA1;have e11:upd H10 A1 (.lst ((out10.map fun q=>V.ref q.a).drop (out10.length / 2))) A1=some (.lst ((out10.map fun q=>V.ref q.a).drop (out10.length / 2))):=Ab;show tSl _ _ _ _ _ (upd H10 A1 (.lst ((out10.map fun q=>V.ref q.a).drop (out10.length / 2)))) _;generalize upd H10 A1 (.lst ((out10.map fun q=>V.ref q.a).drop (out10.length / 2)))=H11 at s11 e11 ⊢;have e1011:=s11 _ _ e10;refine ⟨_,rfl,_,rfl,L10,_,rfl,.inl (SqL.of e1011),_,_,rfl,rfl,⟨by decide,by decide⟩,((out10.length / 2:Nat):Int),congrArg V.int ei,L10,_,rfl,SqL.of e1011,fun A2 hA2=>?_⟩;rw [cut_to hh];have s12:=Ae (o:=.lst ((out10.map fun q=>V.ref q.a).take (out10.length / 2))) hA2;refine ⟨A1,A2,_,_,rfl,rfl,s12 _ _ e11,Ab,le_ln (by rw [List.length_drop,List.length_take,ll]; lia),fun A3 hA3=>rest _ _ ⟨out10.drop (out10.length / 2) ++ out10.take (out10.length / 2),A3,rfl,(s11.trans s12).trans (Ae hA3),?_,?_⟩⟩
   ·rw [Ab,List.map_append,List.map_drop,List.map_take]
   ·exact (List.perm_append_comm).trans (by rw [List.take_append_drop])
  rintro σ H11 ⟨out11,L11,rfl,s11,e11,pm11⟩;have l11:out11.length<=16:=by have:=pm11.length_eq; lia
  have hi11:∀ q ∈ out11,IO H11 q:=fun q hq=>⟨(hi10 q (pm11.mem_iff.mp hq)).1,s11 _ _ (hi10 q (pm11.mem_iff.mp hq)).2⟩
  have pmc11:(out11.map clI).Perm ds:=(pm11.map _).trans pmc10;have sm11:=sm10.trans s11;have hD11:=s11 _ _ hD10;clear s11 hS10 hi10 pm11 pmc10 sm10 hD10 e10 l10;refine ⟨_,rfl,_,rfl,qc,D,r,ds,rfl,fun H' k=>hr1.same (ks sm11 H' k),rok,.inr ⟨o,hD11⟩,l16,fun M due H12 o2 fr12 hD12 nM hM hdu rdu mdu ldu=>?_⟩;have sm12:=ks sm11 H12 fr12;have nLD:L11≠D:=fun z=>by rw [z,hD11] at e11; cases e11
  have e12:=fr12 _ _ e11 nLD;have hi12:∀ q ∈ out11,IO H12 q:=fun q hq=>⟨(hi11 q hq).1,fr12 _ _ (hi11 q hq).2 (Da (hi11 q hq).2 hD11 (by intro z; cases z))⟩
  refine ⟨_,rfl,qc,r,rfl,hr1.same sm12,rok,fun H13 s13=>?_⟩;refine ⟨r,rfl,rok,bz,fun p H14 s14 hR14=>?_⟩;have s1214:=s13.trans s14;refine ⟨_,rfl,L11,_,rfl,.inl (SqL.of (s1214 _ _ e12)),fun Hd hHd=>?_⟩;have s15:=Ae (o:=.lst (out11.map fun q=>V.ref q.a)) hHd;have e15:upd H14 Hd (.lst (out11.map fun q=>V.ref q.a)) Hd=some (.lst (out11.map fun q=>V.ref q.a)):=Ab;generalize upd H14 Hd (.lst (out11.map fun q=>V.ref q.a))=H15 at s15 e15 ⊢;have s1215:=s1214.trans s15;have hi15:∀ q ∈ out11,IO H15 q:=fun q hq=>⟨(hi12 q hq).1,s1215 _ _ (hi12 q hq).2⟩
  have ndc:((out11.map clI).map fun c=>(c.x,c.y)).Nodup:=(pmc11.map _).nodup_iff.mpr dc.nd;have hM15:=s1215 _ _ hM;have hdu15:∀ q ∈ due,H15 q.a=some (.tup (q.ns.map V.int)):=fun q hq=>s1215 _ _ (hdu q hq);have rows:∀ {found:List It3},EB found->IM r (out11.map clI) found->found.map Er=due.map Er/\(∀ q ∈ found,q.r.length=1)/\found.length<=1000:=fun {found} rf mf=>by
   have e:=mf.one mdu rf rdu (fun p=>nb_perm pmc11 p) (fun x y=>fd_perm pmc11 dc.nd x y);refine ⟨e,fun q hq=>?_,?_⟩
   ·obtain ⟨x,y,_,_,er⟩:=(mf.mem (Er q)).mp (List.mem_map.mpr ⟨q,hq,rfl⟩);have er:q.y :: q.x :: q.r=[y,x,nxC r (out11.map clI) x y]:=er;injection er with _ er
    injection er with _ er
    rw [er];rfl
   ·have:=congrArg List.length e;rw [List.length_map,List.length_map] at this;lia
  refine ⟨_,rfl,_,rfl,p,Hd,Do r,r,out11.map (·.a),out11.map clI,rfl,hR14.same s15,rok.rok,by rw [List.map_map]; exact e15,FZ hi15,ndc,by rw [List.length_map]; exact l11,fun L16 found H16 s16 nL16 hL16 hf16 rf mf=>?_⟩;obtain ⟨er,r1,lf16⟩:=rows rf mf;have hM16:=s16 _ _ hM15;have hdu16:∀ q ∈ due,H16 q.a=some (.tup (q.ns.map V.int)):=fun q hq=>s16 _ _ (hdu15 q hq);have e16:=s16 _ _ e15;have c16:=s16 _ _ (s15 _ _ (s1214 _ _ e12));have ti:∀ q ∈ out11.map fun q=>(q.a,q.ns),H16 q.1=some (.tup (q.2.map V.int)):=fun q hq=>by
   obtain ⟨q0,h0,rfl⟩:=List.mem_map.mp hq;exact s16 _ _ (hi15 q0 h0).2
  have sl:∀ {K1:PySem.W.Frag} {A1:Addr},H16 A1=some (.lst (out11.map fun q=>V.ref q.a))->SqL K1 H16 A1 ((out11.map fun q=>(q.a,q.ns)).map fun q=>V.ref q.1):=fun {K1 A1} e=>by
   rw [List.map_map];exact SqL.of e
  refine ⟨_,rfl,_,rfl,⟨Hd,L11,out11.map (fun q=>(q.a,q.ns)),out11.map (fun q=>(q.a,q.ns)),rfl,rfl,sl e16,sl c16,ti,ti,rfl⟩,_,rfl,CA ?_⟩;refine ⟨_,rfl,_,rfl,L16,M,found,due,rfl,hL16,hM16,hf16,hdu16,er,r1,lf16,true,rfl,CA ?_⟩;refine ⟨_,rfl,.inl ⟨rfl,_,SqL.of hL16⟩,(by show 3<=sizeLine; decide),fun t17 ht17=>?_⟩;have s17:=Ae (o:=.tup [.int 0,.int 0,.int 1]) ht17;generalize upd H16 t17 (.tup [.int 0,.int 0,.int 1])=H17 at s17 ⊢;have hL17:=s17 _ _ hL16;refine ⟨L16,_,.ref t17,rfl,rfl,hL17,FE (by rw [List.length_map]; lia),?_⟩;have s1518:As H15 (upd H17 L16 (.lst ((found.map fun q=>V.ref q.a) ++ [.ref t17]))):=MS nL16 (s16.trans s17);generalize upd H17 L16 (.lst ((found.map fun q=>V.ref q.a) ++ [.ref t17]))=H18 at s1518 ⊢;have hi18:∀ q ∈ out11,IO H18 q:=fun q hq=>⟨(hi15 q hq).1,s1518 _ _ (hi15 q hq).2⟩
  refine ⟨_,rfl,_,rfl,p,Hd,Do r,r,out11.map (·.a),out11.map clI,rfl,(hR14.same s15).same s1518,rok.rok,by rw [List.map_map]; exact s1518 _ _ e15,FZ hi18,ndc,by rw [List.length_map]; exact l11,fun L19 found2 H19 s19 nL19 hL19 hf19 rf2 mf2=>?_⟩;obtain ⟨er2,r2,lf2⟩:=rows rf2 mf2;exact ⟨_,rfl,L19,M,found2,due,rfl,hL19,s19 _ _ (s1518 _ _ hM15),hf19,fun q hq=>s19 _ _ (s1518 _ _ (hdu15 q hq)),er2,r2,lf2,kq _⟩
end
end J
namespace J
open PySem L2
theorem ar1 {α:Type}:∀ us:List α,us.length=1->∃ a0,us=[a0]
 | [a0],_=>⟨a0,rfl⟩
theorem ar2 {α:Type}:∀ us:List α,us.length=2->∃ a0 a1,us=[a0,a1]
 | [a0,a1],_=>⟨a0,a1,rfl⟩
theorem ar3 {α:Type}:∀ us:List α,us.length=3->∃ a0 a1 a2,us=[a0,a1,a2]
 | [a0,a1,a2],_=>⟨a0,a1,a2,rfl⟩
theorem ar4 {α:Type}:∀ us:List α,us.length=4->∃ a0 a1 a2 a3,us=[a0,a1,a2,a3]
 | [a0,a1,a2,a3],_=>⟨a0,a1,a2,a3,rfl⟩
theorem ar5 {α:Type}:∀ us:List α,us.length=5->∃ a0 a1 a2 a3 a4,us=[a0,a1,a2,a3,a4]
 | [a0,a1,a2,a3,a4],_=>⟨a0,a1,a2,a3,a4,rfl⟩
theorem fin {l:PySem.W.OpenLaw} {w:World} {K:PySem.W.Frag} {h:Heap} {mg:Str->Option Value} {fa:Addr} (X:K.In h) (G:h.Ns mainGlobals mg) (hfa:mg "law" = some (.ref fa))
  {c_Amounts:Addr} {c_Places:Addr} {c_Clause:Addr} {c_Rule:Addr} {f0:Addr} {od0 an0:Option Addr} {sl0:Array (Option Value)} {oc0 kV0 dc0 pm0 cd0 ct0:Value} {f1:Addr} {od1 an1:Option Addr} {sl1:Array (Option Value)} {oc1 kV1 dc1 pm1 cd1 ct1:Value} {f2:Addr} {od2 an2:Option Addr} {sl2:Array (Option Value)} {oc2 kV2 dc2 pm2 cd2 ct2:Value} {f3:Addr} {od3 an3:Option Addr} {sl3:Array (Option Value)} {oc3 kV3 dc3 pm3 cd3 ct3:Value} {f4:Addr} {od4 an4:Option Addr} {sl4:Array (Option Value)} {oc4 kV4 dc4 pm4 cd4 ct4:Value} {f5:Addr} {od5 an5:Option Addr} {sl5:Array (Option Value)} {oc5 kV5 dc5 pm5 cd5 ct5:Value} {f6:Addr} {od6 an6:Option Addr} {sl6:Array (Option Value)} {oc6 kV6 dc6 pm6 cd6 ct6:Value} {f7:Addr} {od7 an7:Option Addr} {sl7:Array (Option Value)} {oc7 kV7 dc7 pm7 cd7 ct7:Value} {f8:Addr} {od8 an8:Option Addr} {sl8:Array (Option Value)} {oc8 kV8 dc8 pm8 cd8 ct8:Value} {f9:Addr} {od9 an9:Option Addr} {sl9:Array (Option Value)} {oc9 kV9 dc9 pm9 cd9 ct9:Value} {f10:Addr} {od10 an10:Option Addr} {sl10:Array (Option Value)} {oc10 kV10 dc10 pm10 cd10 ct10:Value} {f11:Addr} {od11 an11:Option Addr} {sl11:Array (Option Value)} {oc11 kV11 dc11 pm11 cd11 ct11:Value} {f12:Addr} {od12 an12:Option Addr} {sl12:Array (Option Value)} {oc12 kV12 dc12 pm12 cd12 ct12:Value} {f13:Addr} {od13 an13:Option Addr} {sl13:Array (Option Value)} {oc13 kV13 dc13 pm13 cd13 ct13:Value} {f14:Addr} {od14 an14:Option Addr} {sl14:Array (Option Value)} {oc14 kV14 dc14 pm14 cd14 ct14:Value} {f15:Addr} {od15 an15:Option Addr} {sl15:Array (Option Value)} {oc15 kV15 dc15 pm15 cd15 ct15:Value} {f16:Addr} {od16 an16:Option Addr} {sl16:Array (Option Value)} {oc16 kV16 dc16 pm16 cd16 ct16:Value} {f17:Addr} {od17 an17:Option Addr} {sl17:Array (Option Value)} {oc17 kV17 dc17 pm17 cd17 ct17:Value} {f18:Addr} {od18 an18:Option Addr} {sl18:Array (Option Value)} {oc18 kV18 dc18 pm18 cd18 ct18:Value} {f19:Addr} {od19 an19:Option Addr} {sl19:Array (Option Value)} {oc19 kV19 dc19 pm19 cd19 ct19:Value} {f20:Addr} {od20 an20:Option Addr} {sl20:Array (Option Value)} {oc20 kV20 dc20 pm20 cd20 ct20:Value} {f21:Addr} {od21 an21:Option Addr} {sl21:Array (Option Value)} {oc21 kV21 dc21 pm21 cd21 ct21:Value} {f22:Addr} {od22 an22:Option Addr} {sl22:Array (Option Value)} {oc22 kV22 dc22 pm22 cd22 ct22:Value} {f23:Addr} {od23 an23:Option Addr} {sl23:Array (Option Value)} {oc23 kV23 dc23 pm23 cd23 ct23:Value} {f24:Addr} {od24 an24:Option Addr} {sl24:Array (Option Value)} {oc24 kV24 dc24 pm24 cd24 ct24:Value} {f25:Addr} {od25 an25:Option Addr} {sl25:Array (Option Value)} {oc25 kV25 dc25 pm25 cd25 ct25:Value} {f26:Addr} {od26 an26:Option Addr} {sl26:Array (Option Value)} {oc26 kV26 dc26 pm26 cd26 ct26:Value} {f27:Addr} {od27 an27:Option Addr} {sl27:Array (Option Value)} {oc27 kV27 dc27 pm27 cd27 ct27:Value} {f28:Addr} {od28 an28:Option Addr} {sl28:Array (Option Value)} {oc28 kV28 dc28 pm28 cd28 ct28:Value} {f29:Addr} {od29 an29:Option Addr} {sl29:Array (Option Value)} {oc29 kV29 dc29 pm29 cd29 ct29:Value} {f30:Addr} {od30 an30:Option Addr} {sl30:Array (Option Value)} {oc30 kV30 dc30 pm30 cd30 ct30:Value} {f31:Addr} {od31 an31:Option Addr} {sl31:Array (Option Value)} {oc31 kV31 dc31 pm31 cd31 ct31:Value} {f32:Addr} {od32 an32:Option Addr} {sl32:Array (Option Value)} {oc32 kV32 dc32 pm32 cd32 ct32:Value} {f33:Addr} {od33 an33:Option Addr} {sl33:Array (Option Value)} {oc33 kV33 dc33 pm33 cd33 ct33:Value} {f34:Addr} {od34 an34:Option Addr} {sl34:Array (Option Value)} {oc34 kV34 dc34 pm34 cd34 ct34:Value} {f35:Addr} {od35 an35:Option Addr} {sl35:Array (Option Value)} {oc35 kV35 dc35 pm35 cd35 ct35:Value} {f36:Addr} {od36 an36:Option Addr} {sl36:Array (Option Value)} {oc36 kV36 dc36 pm36 cd36 ct36:Value} {f37:Addr} {od37 an37:Option Addr} {sl37:Array (Option Value)} {oc37 kV37 dc37 pm37 cd37 ct37:Value} {f38:Addr} {od38 an38:Option Addr} {sl38:Array (Option Value)} {oc38 kV38 dc38 pm38 cd38 ct38:Value} {f39:Addr} {od39 an39:Option Addr} {sl39:Array (Option Value)} {oc39 kV39 dc39 pm39 cd39 ct39:Value} {f40:Addr} {od40 an40:Option Addr} {sl40:Array (Option Value)} {oc40 kV40 dc40 pm40 cd40 ct40:Value} {f41:Addr} {od41 an41:Option Addr} {sl41:Array (Option Value)} {oc41 kV41 dc41 pm41 cd41 ct41:Value} {t_NEIGHBOURS:Tok} {t_STATE_FIGURES:Tok} {x_STATE_FIGURES:Str} {t_AMOUNT_FIGURES:Tok} {x_AMOUNT_FIGURES:Str} {t_ANY_SIGN:Tok} {x_ANY_SIGN:Str} {t_CLAUSE_MARK:Tok} {x_CLAUSE_MARK:Str}
  (bT:PySem.W.nsIn K mainGlobals "Amounts" = some (some (.ref c_Amounts)))
  (pg_Amounts:PySem.W.plainGet K c_Amounts Str.empty=true)
  (hd_Amounts:PySem.W.hasDictIn K c_Amounts=true)
  (po_Amounts:PySem.W.plainOver K c_Amounts=true)
  (sa_Amounts:PySem.W.findIn K (.ref c_Amounts) "__setattr__" = some (some (.builtin "object.__setattr__")))
  (mk_Amounts:PySem.W.makesIn K c_Amounts=true)
  (kc_Amounts:PySem.W.keepIn K (.ref c_Amounts)=true)
  (na_Amounts_state:PySem.W.findIn K (.ref c_Amounts) "state" = some none)
  (na_Amounts_numbers:PySem.W.findIn K (.ref c_Amounts) "numbers" = some none)
  (cL:PySem.W.nsIn K mainGlobals "Places" = some (some (.ref c_Places)))
  (pg_Places:PySem.W.plainGet K c_Places Str.empty=true)
  (hd_Places:PySem.W.hasDictIn K c_Places=true)
  (po_Places:PySem.W.plainOver K c_Places=true)
  (sa_Places:PySem.W.findIn K (.ref c_Places) "__setattr__" = some (some (.builtin "object.__setattr__")))
  (mk_Places:PySem.W.makesIn K c_Places=true)
  (kc_Places:PySem.W.keepIn K (.ref c_Places)=true)
  (na_Places_wanted:PySem.W.findIn K (.ref c_Places) "wanted" = some none)
  (cM:PySem.W.nsIn K mainGlobals "Clause" = some (some (.ref c_Clause)))
  (pg_Clause:PySem.W.plainGet K c_Clause Str.empty=true)
  (hd_Clause:PySem.W.hasDictIn K c_Clause=true)
  (po_Clause:PySem.W.plainOver K c_Clause=true)
  (sa_Clause:PySem.W.findIn K (.ref c_Clause) "__setattr__" = some (some (.builtin "object.__setattr__")))
  (mk_Clause:PySem.W.makesIn K c_Clause=true)
  (kc_Clause:PySem.W.keepIn K (.ref c_Clause)=true)
  (na_Clause_cell:PySem.W.findIn K (.ref c_Clause) "cell" = some none)
  (na_Clause_conditions:PySem.W.findIn K (.ref c_Clause) "conditions" = some none)
  (na_Clause_makes:PySem.W.findIn K (.ref c_Clause) "makes" = some none)
  (dE:PySem.W.nsIn K mainGlobals "Rule" = some (some (.ref c_Rule)))
  (pg_Rule:PySem.W.plainGet K c_Rule Str.empty=true)
  (hd_Rule:PySem.W.hasDictIn K c_Rule=true)
  (po_Rule:PySem.W.plainOver K c_Rule=true)
  (sa_Rule:PySem.W.findIn K (.ref c_Rule) "__setattr__" = some (some (.builtin "object.__setattr__")))
  (mk_Rule:PySem.W.makesIn K c_Rule=true)
  (kc_Rule:PySem.W.keepIn K (.ref c_Rule)=true)
  (na_Rule_text:PySem.W.findIn K (.ref c_Rule) "text" = some none)
  (na_Rule_clauses:PySem.W.findIn K (.ref c_Rule) "clauses" = some none)
  (a0:PySem.W.nsIn K mainGlobals "places_around" = some (some (.ref f0)))
  (l0:K.lookup f0=some ⟨oc0,od0,.func (PySem.W.fnOf "places_around" "places_around" (Ao Bj) (Am Bj) (Af Bj) .none kV0 dc0 pm0 an0 cd0 ct0),sl0⟩)
  (c0:PySem.W.codeIn K cd0 "places_around" = true)
  (k0:PySem.W.keepIn K (.ref f0)=true)
  (a1:PySem.W.nsIn K mainGlobals "takes" = some (some (.ref f1)))
  (l1:K.lookup f1=some ⟨oc1,od1,.func (PySem.W.fnOf "takes" "takes" (Ao ET) (Am ET) (Af ET) .none kV1 dc1 pm1 an1 cd1 ct1),sl1⟩)
  (c1:PySem.W.codeIn K cd1 "takes" = true)
  (k1:PySem.W.keepIn K (.ref f1)=true)
  (a2:PySem.W.nsIn K mainGlobals "read_clause" = some (some (.ref f2)))
  (l2:K.lookup f2=some ⟨oc2,od2,.func (PySem.W.fnOf "read_clause" "read_clause" (Ao Bw) (Am Bw) (Af Bw) .none kV2 dc2 pm2 an2 cd2 ct2),sl2⟩)
  (c2:PySem.W.codeIn K cd2 "read_clause" = true)
  (k2:PySem.W.keepIn K (.ref f2)=true)
  (a3:PySem.W.nsIn K mainGlobals "read_state" = some (some (.ref f3)))
  (l3:K.lookup f3=some ⟨oc3,od3,.func (PySem.W.fnOf "read_state" "read_state" (Ao Cu) (Am Cu) (Af Cu) .none kV3 dc3 pm3 an3 cd3 ct3),sl3⟩)
  (c3:PySem.W.codeIn K cd3 "read_state" = true)
  (k3:PySem.W.keepIn K (.ref f3)=true)
  (a4:PySem.W.nsIn K mainGlobals "read_wanted" = some (some (.ref f4)))
  (l4:K.lookup f4=some ⟨oc4,od4,.func (PySem.W.fnOf "read_wanted" "read_wanted" (Ao BZ) (Am BZ) (Af BZ) .none kV4 dc4 pm4 an4 cd4 ct4),sl4⟩)
  (c4:PySem.W.codeIn K cd4 "read_wanted" = true)
  (k4:PySem.W.keepIn K (.ref f4)=true)
  (a5:PySem.W.nsIn K mainGlobals "read_condition" = some (some (.ref f5)))
  (l5:K.lookup f5=some ⟨oc5,od5,.func (PySem.W.fnOf "read_condition" "read_condition" (Ao Bd) (Am Bd) (Af Bd) .none kV5 dc5 pm5 an5 cd5 ct5),sl5⟩)
  (c5:PySem.W.codeIn K cd5 "read_condition" = true)
  (k5:PySem.W.keepIn K (.ref f5)=true)
  (a6:PySem.W.nsIn K mainGlobals "read_amounts" = some (some (.ref f6)))
  (l6:K.lookup f6=some ⟨oc6,od6,.func (PySem.W.fnOf "read_amounts" "read_amounts" (Ao BC) (Am BC) (Af BC) .none kV6 dc6 pm6 an6 cd6 ct6),sl6⟩)
  (c6:PySem.W.codeIn K cd6 "read_amounts" = true)
  (k6:PySem.W.keepIn K (.ref f6)=true)
  (a7:PySem.W.nsIn K mainGlobals "read_numbers" = some (some (.ref f7)))
  (l7:K.lookup f7=some ⟨oc7,od7,.func (PySem.W.fnOf "read_numbers" "read_numbers" (Ao BB) (Am BB) (Af BB) .none kV7 dc7 pm7 an7 cd7 ct7),sl7⟩)
  (c7:PySem.W.codeIn K cd7 "read_numbers" = true)
  (k7:PySem.W.keepIn K (.ref f7)=true)
  (a8:PySem.W.nsIn K mainGlobals "read_places" = some (some (.ref f8)))
  (l8:K.lookup f8=some ⟨oc8,od8,.func (PySem.W.fnOf "read_places" "read_places" (Ao Bv) (Am Bv) (Af Bv) .none kV8 dc8 pm8 an8 cd8 ct8),sl8⟩)
  (c8:PySem.W.codeIn K cd8 "read_places" = true)
  (k8:PySem.W.keepIn K (.ref f8)=true)
  (a9:PySem.W.nsIn K mainGlobals "by_rows" = some (some (.ref f9)))
  (l9:K.lookup f9=some ⟨oc9,od9,.func (PySem.W.fnOf "by_rows" "by_rows" (Ao DN) (Am DN) (Af DN) .none kV9 dc9 pm9 an9 cd9 ct9),sl9⟩)
  (c9:PySem.W.codeIn K cd9 "by_rows" = true)
  (k9:PySem.W.keepIn K (.ref f9)=true)
  (a10:PySem.W.nsIn K mainGlobals "clause_texts" = some (some (.ref f10)))
  (l10:K.lookup f10=some ⟨oc10,od10,.func (PySem.W.fnOf "clause_texts" "clause_texts" (Ao BE) (Am BE) (Af BE) .none kV10 dc10 pm10 an10 cd10 ct10),sl10⟩)
  (c10:PySem.W.codeIn K cd10 "clause_texts" = true)
  (k10:PySem.W.keepIn K (.ref f10)=true)
  (a11:PySem.W.nsIn K mainGlobals "read_rule" = some (some (.ref f11)))
  (l11:K.lookup f11=some ⟨oc11,od11,.func (PySem.W.fnOf "read_rule" "read_rule" (Ao CW) (Am CW) (Af CW) .none kV11 dc11 pm11 an11 cd11 ct11),sl11⟩)
  (c11:PySem.W.codeIn K cd11 "read_rule" = true)
  (k11:PySem.W.keepIn K (.ref f11)=true)
  (a12:PySem.W.nsIn K mainGlobals "deciding" = some (some (.ref f12)))
  (l12:K.lookup f12=some ⟨oc12,od12,.func (PySem.W.fnOf "deciding" "deciding" (Ao Dp) (Am Dp) (Af Dp) .none kV12 dc12 pm12 an12 cd12 ct12),sl12⟩)
  (c12:PySem.W.codeIn K cd12 "deciding" = true)
  (k12:PySem.W.keepIn K (.ref f12)=true)
  (a13:PySem.W.nsIn K mainGlobals "becomes" = some (some (.ref f13)))
  (l13:K.lookup f13=some ⟨oc13,od13,.func (PySem.W.fnOf "becomes" "becomes" (Ao DO) (Am DO) (Af DO) .none kV13 dc13 pm13 an13 cd13 ct13),sl13⟩)
  (c13:PySem.W.codeIn K cd13 "becomes" = true)
  (k13:PySem.W.keepIn K (.ref f13)=true)
  (a14:PySem.W.nsIn K mainGlobals "stepped" = some (some (.ref f14)))
  (l14:K.lookup f14=some ⟨oc14,od14,.func (PySem.W.fnOf "stepped" "stepped" (Ao DM) (Am DM) (Af DM) .none kV14 dc14 pm14 an14 cd14 ct14),sl14⟩)
  (c14:PySem.W.codeIn K cd14 "stepped" = true)
  (k14:PySem.W.keepIn K (.ref f14)=true)
  (a15:PySem.W.nsIn K mainGlobals "places_about" = some (some (.ref f15)))
  (l15:K.lookup f15=some ⟨oc15,od15,.func (PySem.W.fnOf "places_about" "places_about" (Ao BD) (Am BD) (Af BD) .none kV15 dc15 pm15 an15 cd15 ct15),sl15⟩)
  (c15:PySem.W.codeIn K cd15 "places_about" = true)
  (k15:PySem.W.keepIn K (.ref f15)=true)
  (a16:PySem.W.nsIn K mainGlobals "state_after" = some (some (.ref f16)))
  (l16:K.lookup f16=some ⟨oc16,od16,.func (PySem.W.fnOf "state_after" "state_after" (Ao Bu) (Am Bu) (Af Bu) .none kV16 dc16 pm16 an16 cd16 ct16),sl16⟩)
  (c16:PySem.W.codeIn K cd16 "state_after" = true)
  (k16:PySem.W.keepIn K (.ref f16)=true)
  (a17:PySem.W.nsIn K mainGlobals "_law_at" = some (some (.ref f17)))
  (l17:K.lookup f17=some ⟨oc17,od17,.func (PySem.W.fnOf "_law_at" "_law_at" (Ao DP) (Am DP) (Af DP) .none kV17 dc17 pm17 an17 cd17 ct17),sl17⟩)
  (c17:PySem.W.codeIn K cd17 "_law_at" = true)
  (k17:PySem.W.keepIn K (.ref f17)=true)
  (a18:PySem.W.nsIn K mainGlobals "_law_mix" = some (some (.ref f18)))
  (l18:K.lookup f18=some ⟨oc18,od18,.func (PySem.W.fnOf "_law_mix" "_law_mix" (Ao Dq) (Am Dq) (Af Dq) .none kV18 dc18 pm18 an18 cd18 ct18),sl18⟩)
  (c18:PySem.W.codeIn K cd18 "_law_mix" = true)
  (k18:PySem.W.keepIn K (.ref f18)=true)
  (a19:PySem.W.nsIn K mainGlobals "_law_state_by" = some (some (.ref f19)))
  (l19:K.lookup f19=some ⟨oc19,od19,.func (PySem.W.fnOf "_law_state_by" "_law_state_by" (Ao Bk) (Am Bk) (Af Bk) .none kV19 dc19 pm19 an19 cd19 ct19),sl19⟩)
  (c19:PySem.W.codeIn K cd19 "_law_state_by" = true)
  (k19:PySem.W.keepIn K (.ref f19)=true)
  (a20:PySem.W.nsIn K mainGlobals "_law_condition_by" = some (some (.ref f20)))
  (l20:K.lookup f20=some ⟨oc20,od20,.func (PySem.W.fnOf "_law_condition_by" "_law_condition_by" (Ao AK) (Am AK) (Af AK) .none kV20 dc20 pm20 an20 cd20 ct20),sl20⟩)
  (c20:PySem.W.codeIn K cd20 "_law_condition_by" = true)
  (k20:PySem.W.keepIn K (.ref f20)=true)
  (a21:PySem.W.nsIn K mainGlobals "_law_clause_by" = some (some (.ref f21)))
  (l21:K.lookup f21=some ⟨oc21,od21,.func (PySem.W.fnOf "_law_clause_by" "_law_clause_by" (Ao Be) (Am Be) (Af Be) .none kV21 dc21 pm21 an21 cd21 ct21),sl21⟩)
  (c21:PySem.W.codeIn K cd21 "_law_clause_by" = true)
  (k21:PySem.W.keepIn K (.ref f21)=true)
  (a22:PySem.W.nsIn K mainGlobals "_law_holds" = some (some (.ref f22)))
  (l22:K.lookup f22=some ⟨oc22,od22,.func (PySem.W.fnOf "_law_holds" "_law_holds" (Ao Cy) (Am Cy) (Af Cy) .none kV22 dc22 pm22 an22 cd22 ct22),sl22⟩)
  (c22:PySem.W.codeIn K cd22 "_law_holds" = true)
  (k22:PySem.W.keepIn K (.ref f22)=true)
  (a23:PySem.W.nsIn K mainGlobals "_law_decides" = some (some (.ref f23)))
  (l23:K.lookup f23=some ⟨oc23,od23,.func (PySem.W.fnOf "_law_decides" "_law_decides" (Ao BF) (Am BF) (Af BF) .none kV23 dc23 pm23 an23 cd23 ct23),sl23⟩)
  (c23:PySem.W.codeIn K cd23 "_law_decides" = true)
  (k23:PySem.W.keepIn K (.ref f23)=true)
  (a24:PySem.W.nsIn K mainGlobals "_law_becomes" = some (some (.ref f24)))
  (l24:K.lookup f24=some ⟨oc24,od24,.func (PySem.W.fnOf "_law_becomes" "_law_becomes" (Ao BH) (Am BH) (Af BH) .none kV24 dc24 pm24 an24 cd24 ct24),sl24⟩)
  (c24:PySem.W.codeIn K cd24 "_law_becomes" = true)
  (k24:PySem.W.keepIn K (.ref f24)=true)
  (a25:PySem.W.nsIn K mainGlobals "_law_clauses_by" = some (some (.ref f25)))
  (l25:K.lookup f25=some ⟨oc25,od25,.func (PySem.W.fnOf "_law_clauses_by" "_law_clauses_by" (Ao AY) (Am AY) (Af AY) .none kV25 dc25 pm25 an25 cd25 ct25),sl25⟩)
  (c25:PySem.W.codeIn K cd25 "_law_clauses_by" = true)
  (k25:PySem.W.keepIn K (.ref f25)=true)
  (a26:PySem.W.nsIn K mainGlobals "_law_word" = some (some (.ref f26)))
  (l26:K.lookup f26=some ⟨oc26,od26,.func (PySem.W.fnOf "_law_word" "_law_word" (Ao BN) (Am BN) (Af BN) .none kV26 dc26 pm26 an26 cd26 ct26),sl26⟩)
  (c26:PySem.W.codeIn K cd26 "_law_word" = true)
  (k26:PySem.W.keepIn K (.ref f26)=true)
  (a27:PySem.W.nsIn K mainGlobals "_law_text" = some (some (.ref f27)))
  (l27:K.lookup f27=some ⟨oc27,od27,.func (PySem.W.fnOf "_law_text" "_law_text" (Ao Ci) (Am Ci) (Af Ci) .none kV27 dc27 pm27 an27 cd27 ct27),sl27⟩)
  (c27:PySem.W.codeIn K cd27 "_law_text" = true)
  (k27:PySem.W.keepIn K (.ref f27)=true)
  (a28:PySem.W.nsIn K mainGlobals "_law_by_rows" = some (some (.ref f28)))
  (l28:K.lookup f28=some ⟨oc28,od28,.func (PySem.W.fnOf "_law_by_rows" "_law_by_rows" (Ao BG) (Am BG) (Af BG) .none kV28 dc28 pm28 an28 cd28 ct28),sl28⟩)
  (c28:PySem.W.codeIn K cd28 "_law_by_rows" = true)
  (k28:PySem.W.keepIn K (.ref f28)=true)
  (a29:PySem.W.nsIn K mainGlobals "_law_whole" = some (some (.ref f29)))
  (l29:K.lookup f29=some ⟨oc29,od29,.func (PySem.W.fnOf "_law_whole" "_law_whole" (Ao Cv) (Am Cv) (Af Cv) .none kV29 dc29 pm29 an29 cd29 ct29),sl29⟩)
  (c29:PySem.W.codeIn K cd29 "_law_whole" = true)
  (k29:PySem.W.keepIn K (.ref f29)=true)
  (a30:PySem.W.nsIn K mainGlobals "_law_right" = some (some (.ref f30)))
  (l30:K.lookup f30=some ⟨oc30,od30,.func (PySem.W.fnOf "_law_right" "_law_right" (Ao Cw) (Am Cw) (Af Cw) .none kV30 dc30 pm30 an30 cd30 ct30),sl30⟩)
  (c30:PySem.W.codeIn K cd30 "_law_right" = true)
  (k30:PySem.W.keepIn K (.ref f30)=true)
  (a31:PySem.W.nsIn K mainGlobals "_law_heap" = some (some (.ref f31)))
  (l31:K.lookup f31=some ⟨oc31,od31,.func (PySem.W.fnOf "_law_heap" "_law_heap" (Ao CY) (Am CY) (Af CY) .none kV31 dc31 pm31 an31 cd31 ct31),sl31⟩)
  (c31:PySem.W.codeIn K cd31 "_law_heap" = true)
  (k31:PySem.W.keepIn K (.ref f31)=true)
  (a32:PySem.W.nsIn K mainGlobals "_law_due" = some (some (.ref f32)))
  (l32:K.lookup f32=some ⟨oc32,od32,.func (PySem.W.fnOf "_law_due" "_law_due" (Ao CS) (Am CS) (Af CS) .none kV32 dc32 pm32 an32 cd32 ct32),sl32⟩)
  (c32:PySem.W.codeIn K cd32 "_law_due" = true)
  (k32:PySem.W.keepIn K (.ref f32)=true)
  (a33:PySem.W.nsIn K mainGlobals "_law_number" = some (some (.ref f33)))
  (l33:K.lookup f33=some ⟨oc33,od33,.func (PySem.W.fnOf "_law_number" "_law_number" (Ao Ca) (Am Ca) (Af Ca) .none kV33 dc33 pm33 an33 cd33 ct33),sl33⟩)
  (c33:PySem.W.codeIn K cd33 "_law_number" = true)
  (k33:PySem.W.keepIn K (.ref f33)=true)
  (a34:PySem.W.nsIn K mainGlobals "law" = some (some (.ref f34)))
  (l34:K.lookup f34=some ⟨oc34,od34,.func (PySem.W.fnOf "law" "law" (Ao Fa) (Am Fa) (Af Fa) .none kV34 dc34 pm34 an34 cd34 ct34),sl34⟩)
  (c34:PySem.W.codeIn K cd34 "law" = true)
  (k34:PySem.W.keepIn K (.ref f34)=true)
  (a35:PySem.W.findIn K (.ref c_Amounts) "__init__" = some (some (.ref f35)))
  (i35:PySem.W.isFn K (.ref f35)=true)
  (l35:K.lookup f35=some ⟨oc35,od35,.func (PySem.W.fnOf "__init__" "Amounts.__init__" (Ao BI) (Am BI) (Af BI) .none kV35 dc35 pm35 an35 cd35 ct35),sl35⟩)
  (c35:PySem.W.codeIn K cd35 "Amounts.__init__" = true)
  (k35:PySem.W.keepIn K (.ref f35)=true)
  (a36:PySem.W.findIn K (.ref c_Amounts) "holds" = some (some (.ref f36)))
  (i36:PySem.W.isFn K (.ref f36)=true)
  (l36:K.lookup f36=some ⟨oc36,od36,.func (PySem.W.fnOf "holds" "Amounts.holds" (Ao Bl) (Am Bl) (Af Bl) .none kV36 dc36 pm36 an36 cd36 ct36),sl36⟩)
  (c36:PySem.W.codeIn K cd36 "Amounts.holds" = true)
  (k36:PySem.W.keepIn K (.ref f36)=true)
  (a37:PySem.W.findIn K (.ref c_Places) "__init__" = some (some (.ref f37)))
  (i37:PySem.W.isFn K (.ref f37)=true)
  (l37:K.lookup f37=some ⟨oc37,od37,.func (PySem.W.fnOf "__init__" "Places.__init__" (Ao Cb) (Am Cb) (Af Cb) .none kV37 dc37 pm37 an37 cd37 ct37),sl37⟩)
  (c37:PySem.W.codeIn K cd37 "Places.__init__" = true)
  (k37:PySem.W.keepIn K (.ref f37)=true)
  (a38:PySem.W.findIn K (.ref c_Places) "holds" = some (some (.ref f38)))
  (i38:PySem.W.isFn K (.ref f38)=true)
  (l38:K.lookup f38=some ⟨oc38,od38,.func (PySem.W.fnOf "holds" "Places.holds" (Ao Bh) (Am Bh) (Af Bh) .none kV38 dc38 pm38 an38 cd38 ct38),sl38⟩)
  (c38:PySem.W.codeIn K cd38 "Places.holds" = true)
  (k38:PySem.W.keepIn K (.ref f38)=true)
  (a39:PySem.W.findIn K (.ref c_Clause) "__init__" = some (some (.ref f39)))
  (i39:PySem.W.isFn K (.ref f39)=true)
  (l39:K.lookup f39=some ⟨oc39,od39,.func (PySem.W.fnOf "__init__" "Clause.__init__" (Ao Cc) (Am Cc) (Af Cc) .none kV39 dc39 pm39 an39 cd39 ct39),sl39⟩)
  (c39:PySem.W.codeIn K cd39 "Clause.__init__" = true)
  (k39:PySem.W.keepIn K (.ref f39)=true)
  (a40:PySem.W.findIn K (.ref c_Clause) "fits" = some (some (.ref f40)))
  (i40:PySem.W.isFn K (.ref f40)=true)
  (l40:K.lookup f40=some ⟨oc40,od40,.func (PySem.W.fnOf "fits" "Clause.fits" (Ao Bx) (Am Bx) (Af Bx) .none kV40 dc40 pm40 an40 cd40 ct40),sl40⟩)
  (c40:PySem.W.codeIn K cd40 "Clause.fits" = true)
  (k40:PySem.W.keepIn K (.ref f40)=true)
  (a41:PySem.W.findIn K (.ref c_Rule) "__init__" = some (some (.ref f41)))
  (i41:PySem.W.isFn K (.ref f41)=true)
  (l41:K.lookup f41=some ⟨oc41,od41,.func (PySem.W.fnOf "__init__" "Rule.__init__" (Ao Cj) (Am Cj) (Af Cj) .none kV41 dc41 pm41 an41 cd41 ct41),sl41⟩)
  (c41:PySem.W.codeIn K cd41 "Rule.__init__" = true)
  (k41:PySem.W.keepIn K (.ref f41)=true)
  (z_all:PySem.W.nsIn K mainGlobals "all" = some none)
  (z_bool:PySem.W.nsIn K mainGlobals "bool" = some none)
  (z_enumerate:PySem.W.nsIn K mainGlobals "enumerate" = some none)
  (z_int:PySem.W.nsIn K mainGlobals "int" = some none)
  (z_isinstance:PySem.W.nsIn K mainGlobals "isinstance" = some none)
  (z_len:PySem.W.nsIn K mainGlobals "len" = some none)
  (z_list:PySem.W.nsIn K mainGlobals "list" = some none)
  (z_max:PySem.W.nsIn K mainGlobals "max" = some none)
  (z_range:PySem.W.nsIn K mainGlobals "range" = some none)
  (z_reversed:PySem.W.nsIn K mainGlobals "reversed" = some none)
  (z_sorted:PySem.W.nsIn K mainGlobals "sorted" = some none)
  (z_str:PySem.W.nsIn K mainGlobals "str" = some none)
  (z_tuple:PySem.W.nsIn K mainGlobals "tuple" = some none)
  (z_zip:PySem.W.nsIn K mainGlobals "zip" = some none)
  (g_NEIGHBOURS:PySem.W.nsIn K mainGlobals "NEIGHBOURS" = some (some (.int 8 t_NEIGHBOURS)))
  (g_STATE_FIGURES:PySem.W.nsIn K mainGlobals "STATE_FIGURES" = some (some (.str x_STATE_FIGURES t_STATE_FIGURES)))
  (gx_STATE_FIGURES:x_STATE_FIGURES=Str.ofString "01234567")
  (g_AMOUNT_FIGURES:PySem.W.nsIn K mainGlobals "AMOUNT_FIGURES" = some (some (.str x_AMOUNT_FIGURES t_AMOUNT_FIGURES)))
  (gx_AMOUNT_FIGURES:x_AMOUNT_FIGURES=Str.ofString "012345678")
  (g_ANY_SIGN:PySem.W.nsIn K mainGlobals "ANY_SIGN" = some (some (.str x_ANY_SIGN t_ANY_SIGN)))
  (gx_ANY_SIGN:x_ANY_SIGN=Str.ofString "*")
  (g_CLAUSE_MARK:PySem.W.nsIn K mainGlobals "CLAUSE_MARK" = some (some (.str x_CLAUSE_MARK t_CLAUSE_MARK)))
  (gx_CLAUSE_MARK:x_CLAUSE_MARK=Str.ofString "; ")
  : ∃ fd:FuncData,(∀ (s:Shared) (v:Value),BindsTo s fd ⟨[v],[]⟩ [("_law_script",v)])/\∀ base:Heap,K.In base->base.Ns mainGlobals mg->AS l.prog w K mg base CX0 10 fa fd ["_law_script"] (MY K):=by
 have e:=hfa.symm.trans (PySem.W.mg_of X G a34);cases e;have no:∀ {x:Str},PySem.W.nsIn K mainGlobals x=some none->mg x=none:=fun z=>PySem.W.mg_none_of X G z;subst gx_CLAUSE_MARK;subst gx_ANY_SIGN;subst gx_AMOUNT_FIGURES;subst gx_STATE_FIGURES;have T:Top K mg (⟨c_Amounts,c_Places,c_Clause,c_Rule⟩:Ad):=⟨no z_all,no z_bool,no z_enumerate,no z_int,no z_isinstance,no z_len,no z_list,no z_max,no z_range,no z_reversed,no z_sorted,no z_str,no z_tuple,no z_zip,⟨t_NEIGHBOURS,PySem.W.mg_of X G g_NEIGHBOURS⟩,⟨t_STATE_FIGURES,PySem.W.mg_of X G g_STATE_FIGURES⟩,⟨t_AMOUNT_FIGURES,PySem.W.mg_of X G g_AMOUNT_FIGURES⟩,⟨t_ANY_SIGN,PySem.W.mg_of X G g_ANY_SIGN⟩,⟨t_CLAUSE_MARK,PySem.W.mg_of X G g_CLAUSE_MARK⟩,PySem.W.mg_of X G bT,⟨pg_Amounts,hd_Amounts,po_Amounts,sa_Amounts⟩,na_Amounts_state,na_Amounts_numbers,PySem.W.mg_of X G cL,⟨pg_Places,hd_Places,po_Places,sa_Places⟩,na_Places_wanted,PySem.W.mg_of X G cM,⟨pg_Clause,hd_Clause,po_Clause,sa_Clause⟩,na_Clause_cell,na_Clause_conditions,na_Clause_makes,PySem.W.mg_of X G dE,⟨pg_Rule,hd_Rule,po_Rule,sa_Rule⟩,na_Rule_text,na_Rule_clauses⟩
 have aT:=Az (x:="places_around") (qual:="places_around") (st:=Bj) l0 c0 k0;have dA:=aT.binds (ps:=Bm) fun _ _ _ _ _ _ us hl=>by obtain ⟨x0,x1,rfl⟩:=ar2 us hl; exact rfl
 have d7:=PySem.W.mg_of X G a0;have fI:=Az (x:="takes") (qual:="takes") (st:=ET) l1 c1 k1;have gI:=fI.binds (ps:=EV) fun _ _ _ _ _ _ us hl=>by obtain ⟨x0,x1,rfl⟩:=ar2 us hl; exact rfl
 have gH:=PySem.W.mg_of X G a1;have bI:=Az (x:="read_clause") (qual:="read_clause") (st:=Bw) l2 c2 k2;have eR:=bI.binds (ps:=CH) fun _ _ _ _ _ _ us hl=>by obtain ⟨x0,rfl⟩:=ar1 us hl; exact rfl
 have eK:=PySem.W.mg_of X G a2;have bN:=Az (x:="read_state") (qual:="read_state") (st:=Cu) l3 c3 k3;have fE:=bN.binds (ps:=BQ) fun _ _ _ _ _ _ us hl=>by obtain ⟨x0,rfl⟩:=ar1 us hl; exact rfl
 have eY:=PySem.W.mg_of X G a3;have bG:=Az (x:="read_wanted") (qual:="read_wanted") (st:=BZ) l4 c4 k4;have eP:=bG.binds (ps:=Cd) fun _ _ _ _ _ _ us hl=>by obtain ⟨x0,rfl⟩:=ar1 us hl; exact rfl
 have eG:=PySem.W.mg_of X G a4;have aO:=Az (x:="read_condition") (qual:="read_condition") (st:=Bd) l5 c5 k5;have cW:=aO.binds (ps:=BJ) fun _ _ _ _ _ _ us hl=>by obtain ⟨x0,rfl⟩:=ar1 us hl; exact rfl
 have cU:=PySem.W.mg_of X G a5;have aY:=Az (x:="read_amounts") (qual:="read_amounts") (st:=BC) l6 c6 k6;have dQ:=aY.binds (ps:=Cn) fun _ _ _ _ _ _ us hl=>by obtain ⟨x0,rfl⟩:=ar1 us hl; exact rfl
 have dG:=PySem.W.mg_of X G a6;have aX:=Az (x:="read_numbers") (qual:="read_numbers") (st:=BB) l7 c7 k7;have dP:=aX.binds (ps:=Cm) fun _ _ _ _ _ _ us hl=>by obtain ⟨x0,rfl⟩:=ar1 us hl; exact rfl
 have dF:=PySem.W.mg_of X G a7;have bH:=Az (x:="read_places") (qual:="read_places") (st:=Bv) l8 c8 k8;have eQ:=bH.binds (ps:=CG) fun _ _ _ _ _ _ us hl=>by obtain ⟨x0,rfl⟩:=ar1 us hl; exact rfl
 have eJ:=PySem.W.mg_of X G a8;have cZ:=Az (x:="by_rows") (qual:="by_rows") (st:=DN) l9 c9 k9;have g9:=cZ.binds (ps:=Ek) fun _ _ _ _ _ _ us hl=>by obtain ⟨x0,rfl⟩:=ar1 us hl; exact rfl
 have g4:=PySem.W.mg_of X G a9;have b0:=Az (x:="clause_texts") (qual:="clause_texts") (st:=BE) l10 c10 k10;have dS:=b0.binds (ps:=Cp) fun _ _ _ _ _ _ us hl=>by obtain ⟨x0,rfl⟩:=ar1 us hl; exact rfl
 have dJ:=PySem.W.mg_of X G a10;have bU:=Az (x:="read_rule") (qual:="read_rule") (st:=CW) l11 c11 k11;have fN:=bU.binds (ps:=Dy) fun _ _ _ _ _ _ us hl=>by obtain ⟨x0,rfl⟩:=ar1 us hl; exact rfl
 have fJ:=PySem.W.mg_of X G a11;have cN:=Az (x:="deciding") (qual:="deciding") (st:=Dp) l12 c12 k12;have fW:=cN.binds (ps:=DS) fun _ _ _ _ _ _ us hl=>by obtain ⟨x0,x1,x2,rfl⟩:=ar3 us hl; exact rfl
 have fT:=PySem.W.mg_of X G a12;have d0:=Az (x:="becomes") (qual:="becomes") (st:=DO) l13 c13 k13;have gA:=d0.binds (ps:=DQ) fun _ _ _ _ _ _ us hl=>by obtain ⟨x0,x1,x2,rfl⟩:=ar3 us hl; exact rfl
 have g6:=PySem.W.mg_of X G a13;have cY:=Az (x:="stepped") (qual:="stepped") (st:=DM) l14 c14 k14;have g8:=cY.binds (ps:=Ej) fun _ _ _ _ _ _ us hl=>by obtain ⟨x0,x1,rfl⟩:=ar2 us hl; exact rfl
 have g0:=PySem.W.mg_of X G a14;have aZ:=Az (x:="places_about") (qual:="places_about") (st:=BD) l15 c15 k15;have dR:=aZ.binds (ps:=Co) fun _ _ _ _ _ _ us hl=>by obtain ⟨x0,rfl⟩:=ar1 us hl; exact rfl
 have dH:=PySem.W.mg_of X G a15;have bF:=Az (x:="state_after") (qual:="state_after") (st:=Bu) l16 c16 k16;have eO:=bF.binds (ps:=CF) fun _ _ _ _ _ _ us hl=>by obtain ⟨x0,x1,x2,x3,rfl⟩:=ar4 us hl; exact rfl
 have eF:=PySem.W.mg_of X G a16;have d3:=Az (x:="_law_at") (qual:="_law_at") (st:=DP) l17 c17 k17;have gB:=d3.binds (ps:=Dr) fun _ _ _ _ _ _ us hl=>by obtain ⟨x0,x1,rfl⟩:=ar2 us hl; exact rfl
 have g7:=PySem.W.mg_of X G a17;have cO:=Az (x:="_law_mix") (qual:="_law_mix") (st:=Dq) l18 c18 k18;have fX:=cO.binds (ps:=CU) fun _ _ _ _ _ _ us hl=>by obtain ⟨x0,x1,rfl⟩:=ar2 us hl; exact rfl
 have fU:=PySem.W.mg_of X G a18;have aU:=Az (x:="_law_state_by") (qual:="_law_state_by") (st:=Bk) l19 c19 k19;have dB:=aU.binds (ps:=Ba) fun _ _ _ _ _ _ us hl=>by obtain ⟨x0,x1,rfl⟩:=ar2 us hl; exact rfl
 have d8:=PySem.W.mg_of X G a19;have aI:=Az (x:="_law_condition_by") (qual:="_law_condition_by") (st:=AK) l20 c20 k20;have cG:=aI.binds (ps:=Bc) fun _ _ _ _ _ _ us hl=>by obtain ⟨x0,x1,x2,rfl⟩:=ar3 us hl; exact rfl
 have cF:=PySem.W.mg_of X G a20;have aP:=Az (x:="_law_clause_by") (qual:="_law_clause_by") (st:=Be) l21 c21 k21;have cX:=aP.binds (ps:=BK) fun _ _ _ _ _ _ us hl=>by obtain ⟨x0,x1,x2,rfl⟩:=ar3 us hl; exact rfl
 have cV:=PySem.W.mg_of X G a21;have bQ:=Az (x:="_law_holds") (qual:="_law_holds") (st:=Cy) l22 c22 k22;have fH:=bQ.binds (ps:=Dk) fun _ _ _ _ _ _ us hl=>by obtain ⟨x0,x1,rfl⟩:=ar2 us hl; exact rfl
 have fB:=PySem.W.mg_of X G a22;have b6:=Az (x:="_law_decides") (qual:="_law_decides") (st:=BF) l23 c23 k23;have dU:=b6.binds (ps:=Cq) fun _ _ _ _ _ _ us hl=>by obtain ⟨x0,x1,x2,rfl⟩:=ar3 us hl; exact rfl
 have dL:=PySem.W.mg_of X G a23;have b8:=Az (x:="_law_becomes") (qual:="_law_becomes") (st:=BH) l24 c24 k24;have dX:=b8.binds (ps:=BM) fun _ _ _ _ _ _ us hl=>by obtain ⟨x0,x1,x2,rfl⟩:=ar3 us hl; exact rfl
 have dN:=PySem.W.mg_of X G a24;have aL:=Az (x:="_law_clauses_by") (qual:="_law_clauses_by") (st:=AY) l25 c25 k25;have cT:=aL.binds (ps:=Bq) fun _ _ _ _ _ _ us hl=>by obtain ⟨x0,x1,x2,rfl⟩:=ar3 us hl; exact rfl
 have cS:=PySem.W.mg_of X G a25;have bV:=Az (x:="_law_word") (qual:="_law_word") (st:=BN) l26 c26 k26;have fO:=bV.binds (ps:=Dz) fun _ _ _ _ _ _ us hl=>by obtain ⟨x0,rfl⟩:=ar1 us hl; exact rfl
 have fK:=PySem.W.mg_of X G a26;have bW:=Az (x:="_law_text") (qual:="_law_text") (st:=Ci) l27 c27 k27;have fP:=bW.binds (ps:=DA) fun _ _ _ _ _ _ us hl=>by obtain ⟨x0,rfl⟩:=ar1 us hl; exact rfl
 have fL:=PySem.W.mg_of X G a27;have b7:=Az (x:="_law_by_rows") (qual:="_law_by_rows") (st:=BG) l28 c28 k28;have dW:=b7.binds (ps:=BL) fun _ _ _ _ _ _ us hl=>by obtain ⟨x0,rfl⟩:=ar1 us hl; exact rfl
 have dM:=PySem.W.mg_of X G a28;have bO:=Az (x:="_law_whole") (qual:="_law_whole") (st:=Cv) l29 c29 k29;have fF:=bO.binds (ps:=Di) fun _ _ _ _ _ _ us hl=>by obtain ⟨x0,rfl⟩:=ar1 us hl; exact rfl
 have eZ:=PySem.W.mg_of X G a29;have bP:=Az (x:="_law_right") (qual:="_law_right") (st:=Cw) l30 c30 k30;have fG:=bP.binds (ps:=Dj) fun _ _ _ _ _ _ us hl=>by obtain ⟨x0,x1,rfl⟩:=ar2 us hl; exact rfl
 have fA:=PySem.W.mg_of X G a30;have bX:=Az (x:="_law_heap") (qual:="_law_heap") (st:=CY) l31 c31 k31;have fQ:=bX.binds (ps:=DB) fun _ _ _ _ _ _ us hl=>by obtain ⟨x0,x1,x2,x3,x4,rfl⟩:=ar5 us hl; exact rfl
 have fM:=PySem.W.mg_of X G a31;have cP:=Az (x:="_law_due") (qual:="_law_due") (st:=CS) l32 c32 k32;have fY:=cP.binds (ps:=DT) fun _ _ _ _ _ _ us hl=>by obtain ⟨x0,x1,rfl⟩:=ar2 us hl; exact rfl
 have fV:=PySem.W.mg_of X G a32;have bJ:=Az (x:="_law_number") (qual:="_law_number") (st:=Ca) l33 c33 k33;have eS:=bJ.binds (ps:=CI) fun _ _ _ _ _ _ us hl=>by obtain ⟨x0,rfl⟩:=ar1 us hl; exact rfl
 have eM:=PySem.W.mg_of X G a33;have F_law:=Az (x:="law") (qual:="law") (st:=Fa) l34 c34 k34;have m_law:=PySem.W.mg_of X G a34;have bZ:=Az (x:="__init__") (qual:="Amounts.__init__") (st:=BI) l35 c35 k35;have dZ:=bZ.binds (ps:=Cs) fun _ _ _ _ _ _ us hl=>by obtain ⟨x0,x1,x2,rfl⟩:=ar3 us hl; exact rfl
 have gC:Mk K c_Amounts f35:=⟨mk_Amounts,a35,i35,kc_Amounts⟩
 have bS:=Az (x:="holds") (qual:="Amounts.holds") (st:=Bl) l36 c36 k36;have dC:=bS.binds (ps:=BX) fun _ _ _ _ _ _ us hl=>by obtain ⟨x0,x1,rfl⟩:=ar2 us hl; exact rfl
 have d9:Ov K c_Amounts "holds" f36:=⟨a36,i36,k36⟩
 have cH:=Az (x:="__init__") (qual:="Places.__init__") (st:=Cb) l37 c37 k37;have eT:=cH.binds (ps:=CJ) fun _ _ _ _ _ _ us hl=>by obtain ⟨x0,x1,rfl⟩:=ar2 us hl; exact rfl
 have gD:Mk K c_Places f37:=⟨mk_Places,a37,i37,kc_Places⟩
 have bY:=Az (x:="holds") (qual:="Places.holds") (st:=Bh) l38 c38 k38;have dY:=bY.binds (ps:=Cr) fun _ _ _ _ _ _ us hl=>by obtain ⟨x0,x1,rfl⟩:=ar2 us hl; exact rfl
 have dO:Ov K c_Places "holds" f38:=⟨a38,i38,k38⟩
 have cJ:=Az (x:="__init__") (qual:="Clause.__init__") (st:=Cc) l39 c39 k39;have eU:=cJ.binds (ps:=CK) fun _ _ _ _ _ _ us hl=>by obtain ⟨x0,x1,x2,x3,rfl⟩:=ar4 us hl; exact rfl
 have gF:Mk K c_Clause f39:=⟨mk_Clause,a39,i39,kc_Clause⟩
 have cK:=Az (x:="fits") (qual:="Clause.fits") (st:=Bx) l40 c40 k40;have eX:=cK.binds (ps:=CL) fun _ _ _ _ _ _ us hl=>by obtain ⟨x0,x1,x2,rfl⟩:=ar3 us hl; exact rfl
 have eN:Ov K c_Clause "fits" f40:=⟨a40,i40,k40⟩
 have d6:=Az (x:="__init__") (qual:="Rule.__init__") (st:=Cj) l41 c41 k41;have fR:=d6.binds (ps:=DC) fun _ _ _ _ _ _ us hl=>by obtain ⟨x0,x1,rfl⟩:=ar2 us hl; exact rfl
 have gK:Mk K c_Rule f41:=⟨mk_Rule,a41,i41,kc_Rule⟩
 refine ⟨PySem.W.fnOf "law" "law" (Ao Fa) (Am Fa) (Af Fa) .none kV34 dc34 pm34 an34 cd34 ct34,fun s v=>.of_eq rfl,fun base _ _=>?_⟩;have cD:Cal l.prog w K mg base CX0 1 "takes" EV Gy:=⟨_,_,Pg fI,gH,fI.kp,gI⟩
 have d5:Lc l.prog w K mg base CX0 1 "Amounts" c_Amounts Cs (GK _):=⟨_,_,NS bZ T,gC,T.m_Amounts,dZ⟩
 have eD:Lc l.prog w K mg base CX0 1 "Places" c_Places CJ (GI _):=⟨_,_,NQ cH T,gD,T.m_Places,eT⟩
 have eE:Lc l.prog w K mg base CX0 1 "Clause" c_Clause CK (GJ _):=⟨_,_,NR cJ T,gF,T.m_Clause,eU⟩
 have dD:MQ l.prog w K mg base CX0 1 c_Amounts "holds" BX (FN _):=⟨⟨_,_,Mr bS T,d9,dC⟩,T.cl_Amounts⟩
 have eB:MQ l.prog w K mg base CX0 2 c_Places "holds" Cr (FM _):=⟨⟨_,_,Mq bY T cD,dO,dY⟩,T.cl_Places⟩
 have bE:MQ l.prog w K mg base CX0 3 c_Clause "fits" CL (Mi _):=⟨⟨_,_,ok_Fits cK T cD dD eB,eN,eX⟩,T.cl_Clause⟩
 have cQ:Cal l.prog w K mg base CX0 4 "deciding" DS (OO _):=⟨_,_,ok_dec cN T bE,fT,cN.kp,fW⟩
 have aW:Cal l.prog w K mg base CX0 5 "becomes" DQ (MZ _):=⟨_,_,ok_bec d0 T cQ,g6,d0.kp,gA⟩
 have aD:Cal l.prog w K mg base CX0 1 "read_state" BQ OL:=⟨_,_,ok_rs bN T,eY,bN.kp,fE⟩
 have aH:Cal l.prog w K mg base CX0 2 "read_wanted" Cd spRW:=⟨_,_,ok_rw bG T aD,eG,bG.kp,eP⟩
 have b9:Cal l.prog w K mg base CX0 1 "read_numbers" Cm spRN:=⟨_,_,ok_rn aX T,dF,aX.kp,dP⟩
 have bA:Cal l.prog w K mg base CX0 3 "read_amounts" Cn (ON _):=⟨_,_,ok_ram aY T aD b9 d5,dG,aY.kp,dQ⟩
 have bL:Cal l.prog w K mg base CX0 3 "read_places" CG (OM _):=⟨_,_,ok_rpl bH T aH eD,eJ,bH.kp,eQ⟩
 have aQ:Cal l.prog w K mg base CX0 4 "read_condition" BJ (Ju _):=⟨_,_,Ph aO T bA bL,cU,aO.kp,cW⟩
 have bM:Cal l.prog w K mg base CX0 5 "read_clause" CH (spRC _):=⟨_,_,ok_rc bI T aD aH aQ eE,eK,bI.kp,eR⟩
 have bC:Cal l.prog w K mg base CX0 1 "clause_texts" Cp spCT:=⟨_,_,ok_ct b0 T,dJ,b0.kp,dS⟩
 have fZ:Lc l.prog w K mg base CX0 6 "Rule" c_Rule DC (spRI _):=⟨_,_,ok_ri d6 T bC bM,gK,T.m_Rule,fR⟩
 have cA:Cal l.prog w K mg base CX0 8 "read_rule" Dy (spRR _):=⟨_,_,ok_rr bU T fZ aW,fJ,bU.kp,fN⟩
 have aA:Cal l.prog w K mg base CX0 1 "_law_at" Dr (OP K):=⟨_,_,ok_at d3 T,g7,d3.kp,gB⟩
 have aC:Cal l.prog w K mg base CX0 1 "_law_mix" CU Ll:=⟨_,_,ok_mix cO,fU,cO.kp,fX⟩
 have aB:Cal l.prog w K mg base CX0 1 "_law_state_by" Ba OK:=⟨_,_,ok_st aU,d8,aU.kp,dB⟩
 have aJ:Cal l.prog w K mg base CX0 2 "_law_condition_by" Bc spCo:=⟨_,_,ok_co aI T aC aB,cF,aI.kp,cG⟩
 have aR:Cal l.prog w K mg base CX0 3 "_law_clause_by" BK spCl:=⟨_,_,ok_cl aP T aC aB aJ,cV,aP.kp,cX⟩
 have bR:Cal l.prog w K mg base CX0 1 "_law_holds" Dk spHo:=⟨_,_,ok_ho bQ T,fB,bQ.kp,fH⟩
 have bD:Cal l.prog w K mg base CX0 2 "_law_decides" Cq spDe:=⟨_,_,ok_de b6 T bR,dL,b6.kp,dU⟩
 have aG:Cal l.prog w K mg base CX0 3 "_law_becomes" BM spBe:=⟨_,_,ok_be b8 T bD,dN,b8.kp,dX⟩
 have aN:Cal l.prog w K mg base CX0 4 "_law_clauses_by" Bq (spCs K):=⟨_,_,ok_cs aL T aA aR aG,cS,aL.kp,cT⟩
 have cB:Cal l.prog w K mg base CX0 1 "_law_word" Dz spWd:=⟨_,_,ok_wd bV T,fK,bV.kp,fO⟩
 have cC:Cal l.prog w K mg base CX0 2 "_law_text" DA spTx:=⟨_,_,ok_tx bW T cB,fL,bW.kp,fP⟩
 have aM:Cal l.prog w K mg base CX0 1 "_law_whole" Di spWh:=⟨_,_,ok_wh bO T,eZ,bO.kp,fF⟩
 have aF:Cal l.prog w K mg base CX0 1 "_law_by_rows" BL EI:=⟨_,_,ok_lrow b7 T,dM,b7.kp,dW⟩
 have aK:Cal l.prog w K mg base CX0 1 "_law_number" CI spNm:=⟨_,_,ok_nm bJ T,eM,bJ.kp,eS⟩
 have aS:Cal l.prog w K mg base CX0 2 "_law_heap" DB (spHp K):=⟨_,_,ok_hp bX T aA aC aB,fM,bX.kp,fQ⟩
 have cR:Cal l.prog w K mg base CX0 4 "_law_due" DT spDu:=⟨_,_,ok_du cP T aG aF,fV,cP.kp,fY⟩
 have aV:Cal l.prog w K mg base CX0 2 "_law_right" Dj spRt:=⟨_,_,ok_rt bP T aM,fA,bP.kp,fG⟩
 have d4:Cal l.prog w K mg base CX0 1 "by_rows" Ek EI:=⟨_,_,ok_row cZ T,g4,cZ.kp,g9⟩
 have aE:Cal l.prog w K mg base CX0 1 "places_around" Bm spPA:=⟨_,_,ok_pa aT T,d7,aT.kp,dA⟩
 have bB:Cal l.prog w K mg base CX0 2 "places_about" Co spAb:=⟨_,_,ok_ab aZ T aE,dH,aZ.kp,dR⟩
 have bK:Cal l.prog w K mg base CX0 6 "state_after" CF (spSA _ _ _):=⟨_,_,ok_sa bF T aE aW,eF,bF.kp,eO⟩
 have cE:Cal l.prog w K mg base CX0 7 "stepped" Ej (OJ _):=⟨_,_,ok_stp cY T bB bK d4,g0,cY.kp,g8⟩
 exact ok_law F_law T aA aN aK aS aF cR cC cA cE aV
theorem walk {l:PySem.W.OpenLaw} {q:Program} {loose:List Str} {XP:(Str->Option Value)->Heap->Prop} {YP:World->Heap->Prop} {d:DefRec} {K:Params->PySem.W.Frag} (hn:l.most=some 63) (hdf:d.params.defaults=[])
  (hY:∀ (w:World) (h:Heap),YP w h->(K w.params).In h)
  (F:∀ (w:World) (mg:Str->Option Value) (fa:Addr) (h:Heap),(K w.params).In h->h.Ns mainGlobals mg->mg d.name=some (.ref fa) ->
   ∃ fd:FuncData,(∀ (s:Shared) (u:Value),BindsTo s fd ⟨[u],[]⟩ [("_law_script",u)])/\∀ base:Heap,(K w.params).In base->base.Ns mainGlobals mg->AS l.prog w (K w.params) mg base CX0 10 fa fd ["_law_script"] (MY (K w.params))) :
  PySem.W.WalkO q loose XP YP l.row.toRowW d [] (fun f vs=>PySem.call f vs) :=
 L2.MR (n:=63) (k:=10) (x:="_law_script") (CX:=fun _=>CX0) (sp:=fun w=>MY (K w.params)) hn (by decide) hdf ⟨rfl,by decide,by decide⟩ hY F (fun _ _ a ns hl _ hS=>⟨a,ns,rfl,hS,hl,fun _=>rfl⟩) fun _ _ _ _ _ z=>z
end J
theorem PySem.W.Fast.tw2944210183220204302:True:=True.intro
theorem PySem.W.Fast.tw16181043367145785817:True:=True.intro
theorem PySem.W.Fast.tw16725263246131047387:True:=True.intro
theorem PySem.W.Fast.tw17773895574874327892:True:=True.intro
theorem PySem.W.Fast.tw11274278818086029125:True:=True.intro
theorem PySem.W.Fast.tw6450961739879440476:True:=True.intro
theorem PySem.W.Fast.tw8809578380089835850:True:=True.intro
theorem PySem.W.Fast.tw13670094528946466984:True:=True.intro
theorem PySem.W.Fast.tw3127945651914512982:True:=True.intro
theorem PySem.W.Fast.tw9202509618470591138:True:=True.intro
theorem PySem.W.Fast.tw18063903491279921159:True:=True.intro
theorem PySem.W.Fast.tw986891745053390245:True:=True.intro
theorem PySem.W.Fast.tw4798228201740836855:True:=True.intro
theorem PySem.W.Fast.tw9946768118322223245:True:=True.intro
theorem PySem.W.Fast.tw15771632276546846699:True:=True.intro
theorem PySem.W.Fast.tw7636849307848415473:True:=True.intro
theorem PySem.W.Fast.tw15298252112029681417:True:=True.intro
theorem PySem.W.Fast.tw6094068600790482105:True:=True.intro
theorem PySem.W.Fast.tw12873958070575213790:True:=True.intro
theorem PySem.W.Fast.tw8340152649947175108:True:=True.intro
theorem PySem.W.Fast.tw17702167957675297549:True:=True.intro
theorem PySem.W.Fast.tw12567791411401882429:True:=True.intro
theorem PySem.W.Fast.tw587678831837330854:True:=True.intro
theorem PySem.W.Fast.tw10490221011624820825:True:=True.intro
theorem PySem.W.Fast.tw4727709318497205268:True:=True.intro
theorem PySem.W.Fast.tw1957244355008341106:True:=True.intro
theorem PySem.W.Fast.tw15332441333121209466:True:=True.intro
theorem PySem.W.Fast.tw3556700934901719368:True:=True.intro
theorem PySem.W.Fast.tw11347522520085255428:True:=True.intro
theorem PySem.W.Fast.tw12020977748157819398:True:=True.intro
theorem PySem.W.Fast.tw10074922857252586131:True:=True.intro
theorem PySem.W.Fast.tw12918207687966107890:True:=True.intro
theorem PySem.W.Fast.tw816883244568787612:True:=True.intro
theorem PySem.W.Fast.tw11892760059749891888:True:=True.intro
theorem PySem.W.Fast.tw1933385683905307509:True:=True.intro
theorem PySem.W.Fast.tw16698975072209799995:True:=True.intro
theorem PySem.W.Fast.tw986269100912288004:True:=True.intro
theorem PySem.W.Fast.tw7738159806947849808:True:=True.intro
theorem PySem.W.Fast.tw18304244315759223358:True:=True.intro
theorem PySem.W.Fast.tw9422096026876967450:True:=True.intro
theorem PySem.W.Fast.tw10462987766172282404:True:=True.intro
theorem PySem.W.Fast.tw9045449053905535166:True:=True.intro
theorem PySem.W.Fast.tw7429894558497749378:True:=True.intro
theorem PySem.W.Fast.tw14100977716863836894:True:=True.intro
theorem PySem.W.Fast.tw15800689855167436554:True:=True.intro
theorem PySem.W.Fast.tw3389913841556658297:True:=True.intro
theorem PySem.W.Fast.tw18143776071214250432:True:=True.intro
theorem PySem.W.Fast.tw13041674356795025217:True:=True.intro
theorem PySem.W.Fast.tw17583652463792070066:True:=True.intro
theorem PySem.W.Fast.tw4985678348695817362:True:=True.intro
theorem PySem.W.Fast.tw14273464409021043117:True:=True.intro
theorem PySem.W.Fast.tw9126913362253196462:True:=True.intro
theorem PySem.W.Fast.tw15303761729700006587:True:=True.intro
theorem PySem.W.Fast.tw2174095172941089260:True:=True.intro
theorem PySem.W.Fast.tw1379135677171122627:True:=True.intro
theorem PySem.W.Fast.tw6146813470065974030:True:=True.intro
theorem PySem.W.Fast.tw9590974388134236895:True:=True.intro
theorem PySem.W.Fast.tw17709523987074126133:True:=True.intro
theorem PySem.W.Fast.tw14794027506098998980:True:=True.intro
theorem PySem.W.Fast.tw5829496325629702768:True:=True.intro
theorem PySem.W.Fast.tw17149715251602913790:True:=True.intro
theorem PySem.W.Fast.tw4702546922162759932:True:=True.intro
open PySem PySem.W PyProof.Rows
set_option maxRecDepth 100000 in
set_option maxHeartbeats 0 in
theorem PySem.Challenge.cw_jumpfield_k41_a_plain_step_holds : PySem.Challenge.rw_jumpfield_k41_a_plain_step.Holds := by
 w_on; o_law; k_head; (case hw=>w_witness2)
 k_fill
 refine J.walk (l:=PySem.Challenge.rw_jumpfield_k41_a_plain_step) rfl rfl (fun w h Y=>PySem.W.kIn_of Y) ?F
 case F =>
  intro w mg fa h KX G hmg;refine' J.fin KX G hmg ?bT ?pg_Amounts ?hd_Amounts ?po_Amounts ?sa_Amounts ?mk_Amounts ?kc_Amounts ?na_Amounts_state ?na_Amounts_numbers ?cL ?pg_Places ?hd_Places ?po_Places ?sa_Places ?mk_Places ?kc_Places ?na_Places_wanted ?cM ?pg_Clause ?hd_Clause ?po_Clause ?sa_Clause ?mk_Clause ?kc_Clause ?na_Clause_cell ?na_Clause_conditions ?na_Clause_makes ?dE ?pg_Rule ?hd_Rule ?po_Rule ?sa_Rule ?mk_Rule ?kc_Rule ?na_Rule_text ?na_Rule_clauses ?a0 ?l0 ?c0 ?k0 ?a1 ?l1 ?c1 ?k1 ?a2 ?l2 ?c2 ?k2 ?a3 ?l3 ?c3 ?k3 ?a4 ?l4 ?c4 ?k4 ?a5 ?l5 ?c5 ?k5 ?a6 ?l6 ?c6 ?k6 ?a7 ?l7 ?c7 ?k7 ?a8 ?l8 ?c8 ?k8 ?a9 ?l9 ?c9 ?k9 ?a10 ?l10 ?c10 ?k10 ?a11 ?l11 ?c11 ?k11 ?a12 ?l12 ?c12 ?k12 ?a13 ?l13 ?c13 ?k13 ?a14 ?l14 ?c14 ?k14 ?a15 ?l15 ?c15 ?k15 ?a16 ?l16 ?c16 ?k16 ?a17 ?l17 ?c17 ?k17 ?a18 ?l18 ?c18 ?k18 ?a19 ?l19 ?c19 ?k19 ?a20 ?l20 ?c20 ?k20 ?a21 ?l21 ?c21 ?k21 ?a22 ?l22 ?c22 ?k22 ?a23 ?l23 ?c23 ?k23 ?a24 ?l24 ?c24 ?k24 ?a25 ?l25 ?c25 ?k25 ?a26 ?l26 ?c26 ?k26 ?a27 ?l27 ?c27 ?k27 ?a28 ?l28 ?c28 ?k28 ?a29 ?l29 ?c29 ?k29 ?a30 ?l30 ?c30 ?k30 ?a31 ?l31 ?c31 ?k31 ?a32 ?l32 ?c32 ?k32 ?a33 ?l33 ?c33 ?k33 ?a34 ?l34 ?c34 ?k34 ?a35 ?i35 ?l35 ?c35 ?k35 ?a36 ?i36 ?l36 ?c36 ?k36 ?a37 ?i37 ?l37 ?c37 ?k37 ?a38 ?i38 ?l38 ?c38 ?k38 ?a39 ?i39 ?l39 ?c39 ?k39 ?a40 ?i40 ?l40 ?c40 ?k40 ?a41 ?i41 ?l41 ?c41 ?k41 ?z_all ?z_bool ?z_enumerate ?z_int ?z_isinstance ?z_len ?z_list ?z_max ?z_range ?z_reversed ?z_sorted ?z_str ?z_tuple ?z_zip ?g_NEIGHBOURS ?g_STATE_FIGURES ?gx_STATE_FIGURES ?g_AMOUNT_FIGURES ?gx_AMOUNT_FIGURES ?g_ANY_SIGN ?gx_ANY_SIGN ?g_CLAUSE_MARK ?gx_CLAUSE_MARK
  (case bT=>k_is)
  (case pg_Amounts=>k_is)
  (case hd_Amounts=>k_is)
  (case po_Amounts=>k_is)
  (case sa_Amounts=>k_is)
  (case mk_Amounts=>k_is)
  (case kc_Amounts=>k_is)
  (case na_Amounts_state=>k_is)
  (case na_Amounts_numbers=>k_is)
  (case cL=>k_is)
  (case pg_Places=>k_is)
  (case hd_Places=>k_is)
  (case po_Places=>k_is)
  (case sa_Places=>k_is)
  (case mk_Places=>k_is)
  (case kc_Places=>k_is)
  (case na_Places_wanted=>k_is)
  (case cM=>k_is)
  (case pg_Clause=>k_is)
  (case hd_Clause=>k_is)
  (case po_Clause=>k_is)
  (case sa_Clause=>k_is)
  (case mk_Clause=>k_is)
  (case kc_Clause=>k_is)
  (case na_Clause_cell=>k_is)
  (case na_Clause_conditions=>k_is)
  (case na_Clause_makes=>k_is)
  (case dE=>k_is)
  (case pg_Rule=>k_is)
  (case hd_Rule=>k_is)
  (case po_Rule=>k_is)
  (case sa_Rule=>k_is)
  (case mk_Rule=>k_is)
  (case kc_Rule=>k_is)
  (case na_Rule_text=>k_is)
  (case na_Rule_clauses=>k_is)
  (case a0=>k_is)
  (case l0=>k_is)
  (case c0=>k_is)
  (case k0=>k_is)
  (case a1=>k_is)
  (case l1=>k_is)
  (case c1=>k_is)
  (case k1=>k_is)
  (case a2=>k_is)
  (case l2=>k_is)
  (case c2=>k_is)
  (case k2=>k_is)
  (case a3=>k_is)
  (case l3=>k_is)
  (case c3=>k_is)
  (case k3=>k_is)
  (case a4=>k_is)
  (case l4=>k_is)
  (case c4=>k_is)
  (case k4=>k_is)
  (case a5=>k_is)
  (case l5=>k_is)
  (case c5=>k_is)
  (case k5=>k_is)
  (case a6=>k_is)
  (case l6=>k_is)
  (case c6=>k_is)
  (case k6=>k_is)
  (case a7=>k_is)
  (case l7=>k_is)
  (case c7=>k_is)
  (case k7=>k_is)
  (case a8=>k_is)
  (case l8=>k_is)
  (case c8=>k_is)
  (case k8=>k_is)
  (case a9=>k_is)
  (case l9=>k_is)
  (case c9=>k_is)
  (case k9=>k_is)
  (case a10=>k_is)
  (case l10=>k_is)
  (case c10=>k_is)
  (case k10=>k_is)
  (case a11=>k_is)
  (case l11=>k_is)
  (case c11=>k_is)
  (case k11=>k_is)
  (case a12=>k_is)
  (case l12=>k_is)
  (case c12=>k_is)
  (case k12=>k_is)
  (case a13=>k_is)
  (case l13=>k_is)
  (case c13=>k_is)
  (case k13=>k_is)
  (case a14=>k_is)
  (case l14=>k_is)
  (case c14=>k_is)
  (case k14=>k_is)
  (case a15=>k_is)
  (case l15=>k_is)
  (case c15=>k_is)
  (case k15=>k_is)
  (case a16=>k_is)
  (case l16=>k_is)
  (case c16=>k_is)
  (case k16=>k_is)
  (case a17=>k_is)
  (case l17=>k_is)
  (case c17=>k_is)
  (case k17=>k_is)
  (case a18=>k_is)
  (case l18=>k_is)
  (case c18=>k_is)
  (case k18=>k_is)
  (case a19=>k_is)
  (case l19=>k_is)
  (case c19=>k_is)
  (case k19=>k_is)
  (case a20=>k_is)
  (case l20=>k_is)
  (case c20=>k_is)
  (case k20=>k_is)
  (case a21=>k_is)
  (case l21=>k_is)
  (case c21=>k_is)
  (case k21=>k_is)
  (case a22=>k_is)
  (case l22=>k_is)
  (case c22=>k_is)
  (case k22=>k_is)
  (case a23=>k_is)
  (case l23=>k_is)
  (case c23=>k_is)
  (case k23=>k_is)
  (case a24=>k_is)
  (case l24=>k_is)
  (case c24=>k_is)
  (case k24=>k_is)
  (case a25=>k_is)
  (case l25=>k_is)
  (case c25=>k_is)
  (case k25=>k_is)
  (case a26=>k_is)
  (case l26=>k_is)
  (case c26=>k_is)
  (case k26=>k_is)
  (case a27=>k_is)
  (case l27=>k_is)
  (case c27=>k_is)
  (case k27=>k_is)
  (case a28=>k_is)
  (case l28=>k_is)
  (case c28=>k_is)
  (case k28=>k_is)
  (case a29=>k_is)
  (case l29=>k_is)
  (case c29=>k_is)
  (case k29=>k_is)
  (case a30=>k_is)
  (case l30=>k_is)
  (case c30=>k_is)
  (case k30=>k_is)
  (case a31=>k_is)
  (case l31=>k_is)
  (case c31=>k_is)
  (case k31=>k_is)
  (case a32=>k_is)
  (case l32=>k_is)
  (case c32=>k_is)
  (case k32=>k_is)
  (case a33=>k_is)
  (case l33=>k_is)
  (case c33=>k_is)
  (case k33=>k_is)
  (case a34=>k_is)
  (case l34=>k_is)
  (case c34=>k_is)
  (case k34=>k_is)
  (case a35=>k_is)
  (case i35=>k_is)
  (case l35=>k_is)
  (case c35=>k_is)
  (case k35=>k_is)
  (case a36=>k_is)
  (case i36=>k_is)
  (case l36=>k_is)
  (case c36=>k_is)
  (case k36=>k_is)
  (case a37=>k_is)
  (case i37=>k_is)
  (case l37=>k_is)
  (case c37=>k_is)
  (case k37=>k_is)
  (case a38=>k_is)
  (case i38=>k_is)
  (case l38=>k_is)
  (case c38=>k_is)
  (case k38=>k_is)
  (case a39=>k_is)
  (case i39=>k_is)
  (case l39=>k_is)
  (case c39=>k_is)
  (case k39=>k_is)
  (case a40=>k_is)
  (case i40=>k_is)
  (case l40=>k_is)
  (case c40=>k_is)
  (case k40=>k_is)
  (case a41=>k_is)
  (case i41=>k_is)
  (case l41=>k_is)
  (case c41=>k_is)
  (case k41=>k_is)
  (case z_all=>k_is)
  (case z_bool=>k_is)
  (case z_enumerate=>k_is)
  (case z_int=>k_is)
  (case z_isinstance=>k_is)
  (case z_len=>k_is)
  (case z_list=>k_is)
  (case z_max=>k_is)
  (case z_range=>k_is)
  (case z_reversed=>k_is)
  (case z_sorted=>k_is)
  (case z_str=>k_is)
  (case z_tuple=>k_is)
  (case z_zip=>k_is)
  (case g_NEIGHBOURS=>k_is)
  (case g_STATE_FIGURES=>k_is)
  (case gx_STATE_FIGURES=>decide +kernel)
  (case g_AMOUNT_FIGURES=>k_is)
  (case gx_AMOUNT_FIGURES=>decide +kernel)
  (case g_ANY_SIGN=>k_is)
  (case gx_ANY_SIGN=>decide +kernel)
  (case g_CLAUSE_MARK=>k_is)
  (case gx_CLAUSE_MARK=>decide +kernel)
