import PyProof.Rows.All
import Wide.All
import OpenK.AllK
import Wide.FinOn
import Lean
import PyProof.EqAt
import PyProof.EqKinds
import PyProof.TupleCall
import PyProof.Rows.CatFin
import PyProof.StrLawsIn
import KE.IntTextLaws
import KE.IntTextText
import PyProof.StrLawsTight
import PyProof.StrLawsChain
import PyProof.Rows.StrLawsPart
import PyProof.Rows.StrFirst
import PyProof.Rows.ReprOcc
import PyProof.Rows.StrItems
import KE.KIntText
import PyProof.Rows.FStr
import PyProof.SumAny
import PyProof.SeqI3
import PyProof.WalkInts
import PyProof.NeKinds
import KE.KDictLaws
import PyProof.DictIter
import PyProof.DictWalks
import PyProof.Rows.DictUnroll
import KE.KSortTup
import KE.KDictSum
import KE.KSortKey
import PyProof.Rows.SortRuns
import PySem.Challenge.RW_jumpfield_k82_a_pattern_read
set_option Elab.async false
set_option linter.all false
set_option maxRecDepth 100000
set_option maxHeartbeats 8000000
namespace L2
open PySem PySem.Spec PyProof.Rows
abbrev Key:=Sum Int Str
def LS:Key->Value->Bool
 | .inl k,v=>Value.isInt k v
 | .inr x,v=>Value.isStrOf x v
def keyH (w:World):Key->Int
 | .inl k=>hashInt k
 | .inr x=>hashStr w x
theorem BQ:∀ {k:Key} {v:Value},LS k v=true->(∃ i t,k=Sum.inl i/\v=Value.int i t)\/(∃ x t,k=Sum.inr x/\v=Value.str x t)
 | .inl i,v,h=>by
  obtain ⟨t,e⟩:=Value.isInt_shape (k:=i) (v:=v) h;exact .inl ⟨i,t,rfl,e⟩
 | .inr x,v,h=>by
  obtain ⟨t,e⟩:=Value.isStrOf_shape (x:=x) (v:=v) h;exact .inr ⟨x,t,rfl,e⟩
theorem QO (i:Int) (t:Tok):LS (.inl i) (.int i t)=true:=by simp [LS,Value.isInt]
theorem QN (x:Str) (t:Tok):LS (.inr x) (.str x t)=true:=by simp [LS,Value.isStrOf]
theorem key_ll (a b:Int):decide ((Sum.inl a:Key)=Sum.inl b)=(a == b):=by
 by_cases e:a=b
 ·subst e; simp
 ·have h:¬ (Sum.inl a:Key)=Sum.inl b:=fun q=>e (Sum.inl.inj q);rw [decide_eq_false h];exact (beq_eq_false_iff_ne.mpr e).symm
theorem key_rr (a b:Str):decide ((Sum.inr a:Key)=Sum.inr b)=decide (a=b):=by
 by_cases e:a=b
 ·subst e; simp
 ·have h:¬ (Sum.inr a:Key)=Sum.inr b:=fun q=>e (Sum.inr.inj q);rw [decide_eq_false h,decide_eq_false e]
theorem key_lr (a:Int) (b:Str):decide ((Sum.inl a:Key)=Sum.inr b)=false:=decide_eq_false (fun q=>nomatch q)
theorem key_rl (a:Str) (b:Int):decide ((Sum.inr a:Key)=Sum.inl b)=false:=decide_eq_false (fun q=>nomatch q)
def Cf (prog:Program) (w:World):PySem.KeyKind prog w Key where
 is:=LS
 hash:=keyH w
 inj:=fun v a b ha hb=>by
  rcases BQ ha with ⟨i,t,rfl,rfl⟩ | ⟨x,t,rfl,rfl⟩
  ·rcases BQ hb with ⟨j,u,rfl,e⟩ | ⟨y,u,rfl,e⟩
   ·injection e with e1 _; rw [e1]
   ·exact nomatch e
  ·rcases BQ hb with ⟨j,u,rfl,e⟩ | ⟨y,u,rfl,e⟩
   ·exact nomatch e
   ·injection e with e1 _; rw [e1]
 byValue:=fun k v h=>by
  rcases BQ h with ⟨i,t,rfl,rfl⟩ | ⟨x,t,rfl,rfl⟩<;>rfl
 pyHash:=fun hv h=>by
  rcases BQ hv with ⟨i,t,rfl,rfl⟩ | ⟨x,t,rfl,rfl⟩
  ·exact wpAny_pyHash_int h
  ·exact wpAny_pyHash_str h
 eqBool:=fun hu hv h=>by
  rcases BQ hu with ⟨i,t,rfl,rfl⟩ | ⟨x,t,rfl,rfl⟩
  ·rcases BQ hv with ⟨j,u,rfl,rfl⟩ | ⟨y,u,rfl,rfl⟩
   ·rw [key_ll] at h; exact wpAny_eqBool_int h
   ·rw [key_lr] at h; exact SeqAt.EqAt.int_str i t y u _ _ _ _ h
  ·rcases BQ hv with ⟨j,u,rfl,rfl⟩ | ⟨y,u,rfl,rfl⟩
   ·rw [key_rl] at h; exact SeqAt.EqAt.str_int x t j u _ _ _ _ h
   ·rw [key_rr] at h; exact wpAny_eqBool_str h
 «strs»:=fun k x t v h=>by
  rcases BQ h with ⟨i,u,rfl,e⟩ | ⟨y,u,rfl,e⟩
  ·exact nomatch e
  ·injection e with e1 _
   subst e1;cases v<;>rfl
theorem NU (prog:Program) (w:World) (i:Int) (t:Tok):(Cf prog w).is (.inl i) (.int i t)=true:=QO i t
theorem NT (prog:Program) (w:World) (x:Str) (t:Tok):(Cf prog w).is (.inr x) (.str x t)=true:=QN x t
end L2
namespace L2
open PySem PySem.Spec PyProof.Rows
inductive V where
 | non | bl (b:Bool) | int (i:Int) | str (x:Str) | byt (b:Array UInt8) | flt (b:UInt64) | ref (a:Addr) | ty (n:String)
 deriving DecidableEq
def AX:V->Value->Prop
 | .non,u=>u=Value.none
 | .bl b,u=>u=Value.bool b
 | .int i,u=>∃ t,u=Value.int i t
 | .str x,u=>∃ t,u=Value.str x t
 | .byt b,u=>∃ t,u=Value.bytes b t
 | .flt b,u=>∃ t,u=Value.float b t
 | .ref a,u=>u=Value.ref a
 | .ty n,u=>u=Value.type n
abbrev AJ:List V->List Value->Prop:=Paired AX
theorem AJ.length {xs:List V} {us:List Value} (r:AJ xs us):xs.length=us.length:=Paired.length r
theorem AJ.get:∀ {xs:List V} {us:List Value} {i:Nat} {x:V},AJ xs us->xs[i]?=some x->∃ u,us[i]?=some u/\AX x u
 | _,_,_,_,.nil,e=>by simp at e
 | _,_,0,_,.cons r _,e=>by simp at e; subst e; exact ⟨_,rfl,r⟩
 | _,_,i+1,x,.cons _ t,e=>by
  obtain ⟨u,h1,h2⟩:=AJ.get (i:=i) (x:=x) t (by simpa using e);exact ⟨u,by simpa using h1,h2⟩
theorem AJ.append:∀ {xs ys:List V} {us ws:List Value},AJ xs us->AJ ys ws->AJ (xs ++ ys) (us ++ ws)
 | _,_,_,_,.nil,s=>s
 | _,_,_,_,.cons r t,s=>.cons r (AJ.append t s)
theorem AJ.take:∀ {xs:List V} {us:List Value} (n:Nat),AJ xs us->AJ (xs.take n) (us.take n)
 | _,_,0,_=>.nil
 | _,_,_+1,.nil=>.nil
 | _,_,n+1,.cons r t=>.cons r (AJ.take n t)
theorem AJ.drop:∀ {xs:List V} {us:List Value} (n:Nat),AJ xs us->AJ (xs.drop n) (us.drop n)
 | _,_,0,r=>r
 | _,_,_+1,.nil=>.nil
 | _,_,n+1,.cons _ t=>AJ.drop n t
theorem AJ.none_of:∀ {xs:List V} {us:List Value} {i:Nat},AJ xs us->xs[i]?=none->us[i]?=none:=fun {xs us i} r e=>by
 have h1:=r.length;have h2:xs.length<=i:=List.getElem?_eq_none_iff.mp e;exact List.getElem?_eq_none_iff.mpr (by lia)
def FP:Option V->Option Value->Prop
 | some v,some u=>AX v u
 | none,none=>True
 | _,_=>False
def KV {κ:Type}:List (κ×V)->List (κ×Value)->Prop:=Paired fun (p:κ×V) (q:κ×Value)=>p.1=q.1/\AX p.2 q.2
def kV:Key->V
 | .inl i=>.int i
 | .inr x=>.str x
inductive HO where
 /-- a list -/
 | lst (xs:List V)
 /-- a tuple (never changes) -/
 | tup (xs:List V)
 /-- a dict whose keys are ints and texts; one whose keys are tuples of ints and texts (the empty one is both) -/
 | dK (kvs:List (Key×V)) | dT (kvs:List (List Key×V))
 /-- a set of ints: its members,its size -/
 | set (S:Int->Bool) (n:Nat)
 /-- an instance of the class at C,its dict at dx,its attributes -/
 | ins (C dx:Addr) (fs:List (Str×V))
 /-- the dict of the instance at x -/
 | own (x:Addr)
 /-- the dict of an exception -/
 | xd (fs:List (Str×V))
 /-- a bound method,f of x -/
 | met (f x:Addr)
 /-- a range object lo,lo+1,.. below hi -/
 | rng (lo hi:Int)
 /-- a thing that is known to the object (the script; a dict while a loop walks it): read,never written while it is so -/
 | frz (o:Obj) (u:HO)
 /-- a code object's table -/
 | tbl (ps:Array Value)
 /-- any other thing,by what is true of its one object (a def of one's own: SetO a S n:=HO.ext fun h=>..) -/
 | ext (φ:Heap->Prop)
abbrev Hp:=Addr->Option HO
def upd (H:Hp) (a:Addr) (o:HO):Hp:=fun b=>if b=a then some o else H b
theorem Ah {H:Hp} {a:Addr} {o:HO}:upd H a o a=some o:=by unfold upd; rw [if_pos rfl]
theorem Az {H:Hp} {a b:Addr} {o:HO} (h:b≠a):upd H a o b=H b:=by unfold upd; rw [if_neg h]
theorem AR {H:Hp} {a b:Addr} {o u:HO} (h:H a=some o) (h':H b=some u) (d:o≠u):a≠b:=by
 intro e; subst e; rw [h] at h'; exact d (Option.some.inj h')
theorem As {H:Hp} {a b:Addr} {o:HO} (h:H a=some o) (h':H b=none):a≠b:=by
 intro e; subst e; rw [h] at h'; cases h'
section
variable (P:Program) (w:World)
def Bd (H:Hp) (h:Heap) (a:Addr):HO->Prop
 | .lst xs=>xs.length<=sizeLine/\∃ (its:List Value) (n:Nat),AJ xs its/\h.get? a=some { cls:=.type "list",data:=.seq its.toArray n }
 | .tup xs=>xs.length<=sizeLine/\∃ its:List Value,AJ xs its/\IsTup h a its.toArray
 | .dK kvs=>kvs.length<=sizeLine/\(a == sysModules)=false/\∃ vs,KV kvs vs/\h.DictOf (Cf P w) a vs
 | .dT kvs=>kvs.length<=sizeLine/\(a == sysModules)=false/\∃ xs:List (List Key×Addr×Value),
   Paired (fun (p:List Key×V) (q:List Key×Addr×Value)=>p.1=q.1/\H q.2.1=some (.tup (p.1.map kV))/\AX p.2 q.2.2) kvs xs /\
   ∃ o es ep,h.get? a=some o/\o.ExactDict/\o.data=.dict es ep/\es.toList=xs.map (entryOfKey (tupleKind (Cf P w)))/\(xs.map (·.1)).Nodup
 | .set S n=>h.SetOf (intKind P w) a S n
 | .ins C dx fs=>H dx=some (.own a)/\fs.length<=1000/\dx≠a/\h.get? a=some (PySem.W.instObj C dx) /\
   ∃ mA,h.Ns1 dx mA/\(∀ f,FP (fs.lookup f) (mA f))/\PySem.Within mA (fs.map (·.1))
 | .own _=>∃ o,h.get? a=some o
 | .xd fs=>∃ mA,h.Ns1 a mA/\∀ f,FP (fs.lookup f) (mA f)
 | .rng lo hi=>∃ t u v,h.get? a=some { cls:=.type "range",data:=.fields #[.int lo t,.int hi u,.int 1 v] }
 | .frz o u=>h.get? a=some o/\Bd H h a u
 | .tbl ps=>h.get? a=some { cls:=.none,data:=.fields ps }
 | .met f x=>h.get? a=some (PySem.W.methodObj (.ref f) (.ref x))
 | .ext φ=>φ h/\(∃ o,h.get? a=some o)/\∀ h1 h2:Heap,φ h1->(∀ o,h1.get? a=some o->h2.get? a=some o)->φ h2
def HOk (H:Hp) (h:Heap):Prop:=∀ a o,H a=some o->Bd P w H h a o
end
section
variable {P:Program} {w:World} {H H':Hp} {h h':Heap} {a:Addr} {o:HO}
theorem Bd.lt (x:Bd P w H h a o):a < h.objs.size:=by
 cases o with
 | lst xs=>obtain ⟨_,_,_,_,e⟩:=x; exact Heap.lt_size e
 | tup xs=>obtain ⟨_,_,_,p⟩:=x; exact p.lt
 | dK kvs=>obtain ⟨_,_,_,_,o,_,_,e,_⟩:=x; exact Heap.lt_size e
 | dT kvs=>obtain ⟨_,_,_,_,o,_,_,e,_⟩:=x; exact Heap.lt_size e
 | set S n=>obtain ⟨o,_,_,_,e,_⟩:=x; exact Heap.lt_size e
 | ins C dx fs=>obtain ⟨_,_,_,e,_⟩:=x; exact Heap.lt_size e
 | own y=>obtain ⟨_,e⟩:=x; exact Heap.lt_size e
 | xd fs=>obtain ⟨_,⟨_,_,_,e,_⟩,_⟩:=x; exact Heap.lt_size e
 | rng lo hi=>obtain ⟨_,_,_,e⟩:=x; exact Heap.lt_size e
 | frz ob u=>obtain ⟨e,_⟩:=x; exact Heap.lt_size e
 | tbl ps=>exact Heap.lt_size (show h.get? a=some _ from x)
 | met f y=>exact Heap.lt_size (show h.get? a=some _ from x)
 | ext φ=>obtain ⟨_,⟨_,e⟩,_⟩:=x; exact Heap.lt_size e
theorem Paired.mapP {α β:Type} {F G:α->β->Prop}:∀ {l₁:List α} {l₂:List β},Paired F l₁ l₂->(∀ a b,F a b->G a b)->Paired G l₁ l₂
 | _,_,.nil,_=>.nil
 | _,_,.cons r t,f=>.cons (f _ _ r) (Paired.mapP t f)
theorem Paired.imp' {α β:Type} {F G:α->β->Prop} (f:∀ a b,F a b->G a b) {l₁:List α} {l₂:List β} (r:Paired F l₁ l₂):Paired G l₁ l₂:=Paired.mapP r f
theorem Bd.stay (x:Bd P w H h a o) (k:∀ b u,(b=a\/H b=some (.own a))->h.get? b=some u->h'.get? b=some u)
  (ho:∀ b,H b=some (.own a)->H' b=some (.own a)) (ht:∀ b xs,H b=some (.tup xs)->H' b=some (.tup xs)):Bd P w H' h' a o:=by
 induction o with
 | lst xs=>obtain ⟨z,its,n,r,e⟩:=x; exact ⟨z,its,n,r,k _ _ (.inl rfl) e⟩
 | tup xs=>obtain ⟨z,its,r,ob,e,c⟩:=x; exact ⟨z,its,r,ob,k _ _ (.inl rfl) e,c⟩
 | dK kvs=>obtain ⟨z,y,vs,r,ob,es,ep,e,c⟩:=x; exact ⟨z,y,vs,r,ob,es,ep,k _ _ (.inl rfl) e,c⟩
 | dT kvs =>
  obtain ⟨z,y,xs,r,ob,es,ep,e,c⟩:=x;exact ⟨z,y,xs,Paired.mapP r fun p q z=>⟨z.1,ht _ _ z.2.1,z.2.2⟩,ob,es,ep,k _ _ (.inl rfl) e,c⟩
 | set S n=>obtain ⟨ob,es,ep,t,e,c⟩:=x; exact ⟨ob,es,ep,t,k _ _ (.inl rfl) e,c⟩
 | ins C dx fs =>
  obtain ⟨d,z,ne,e,mA,⟨od,es,ep,e2,c⟩,r⟩:=x;exact ⟨ho _ d,z,ne,k _ _ (.inl rfl) e,mA,⟨od,es,ep,k _ _ (.inr d) e2,c⟩,r⟩
 | own y=>obtain ⟨ob,e⟩:=x; exact ⟨ob,k _ _ (.inl rfl) e⟩
 | xd fs=>obtain ⟨mA,⟨od,es,ep,e,c⟩,r⟩:=x; exact ⟨mA,⟨od,es,ep,k _ _ (.inl rfl) e,c⟩,r⟩
 | rng lo hi=>obtain ⟨t,u,v,e⟩:=x; exact ⟨t,u,v,k _ _ (.inl rfl) e⟩
 | frz ob u ih=>obtain ⟨e,q⟩:=x; exact ⟨k _ _ (.inl rfl) e,ih q⟩
 | tbl ps =>
  have e:h.get? a=some { cls:=.none,data:=.fields ps }:=x;show h'.get? a=some { cls:=.none,data:=.fields ps };exact k a _ (.inl rfl) e
 | met f y =>
  have e:h.get? a=some (PySem.W.methodObj (.ref f) (.ref y)):=x;show h'.get? a=some (PySem.W.methodObj (.ref f) (.ref y));exact k a _ (.inl rfl) e
 | ext φ=>obtain ⟨p,⟨o,e⟩,st⟩:=x; exact ⟨st _ _ p fun o q=>k _ _ (.inl rfl) q,⟨o,k _ _ (.inl rfl) e⟩,st⟩
theorem HOk.lt (x:HOk P w H h) (e:H a=some o):a < h.objs.size:=(x a o e).lt
theorem HOk.fresh (x:HOk P w H h) (e:h.objs.size<=a):H a=none:=by
 cases q:H a with
 | none=>rfl
 | some u=>exact absurd (Nat.lt_of_lt_of_le (x.lt q) e) (Nat.lt_irrefl _)
theorem HOk.kept (x:HOk P w H h) (k:∀ b u,h.get? b=some u->h'.get? b=some u):HOk P w H h':=fun a o e =>
 (x a o e).stay (fun b u _ q=>k b u q) (fun _ q=>q) fun _ _ q=>q
theorem HOk.laid (x:HOk P w H h) (k:∀ b u,h.get? b=some u->h'.get? b=some u) (hp:h.objs.size<=a) (new:Bd P w (upd H a o) h' a o):HOk P w (upd H a o) h':=fun b u e=>by
 have hn:=x.fresh hp;by_cases hb:b=a
 ·subst hb; rw [Ah] at e; cases e; exact new
 ·rw [Az hb] at e;exact (x b u e).stay (fun c v _ q=>k c v q) (fun c q=>by rw [Az (As q hn)]; exact q) fun c xs q=>by rw [Az (As q hn)]; exact q
end
def Rd (H:Hp) (a:Addr) (u:HO):Prop:=H a=some u\/∃ o,H a=some (.frz o u)
theorem Rd.ok {P:Program} {w:World} {H:Hp} {h:Heap} {a:Addr} {u:HO} (r:Rd H a u) (x:HOk P w H h):Bd P w H h a u:=by
 rcases r with r | ⟨o,r⟩
 ·exact x a u r
 ·obtain ⟨_,q⟩:=x a _ r;exact q
def Mut:Option HO->Prop
 | some (.lst _)=>True
 | some (.dK _)=>True
 | some (.dT _)=>True
 | some (.set _ _)=>True
 | some (.ins _ _ _)=>True
 | some (.ext _)=>True
 | _=>False
section
variable {P:Program} {w:World} {H:Hp} {h h':Heap} {x e:Addr} {o':HO}
theorem HOk.write (ok:HOk P w H h) (mu:Mut (H x)) (he:e=x\/H e=some (.own x)) (k:∀ b u,b≠e->h.get? b=some u->h'.get? b=some u) (heo:∃ u,h'.get? e=some u)
  (new:Bd P w (upd H x o') h' x o'):HOk P w (upd H x o') h':=fun b u q=>by
 have nown:∀ c y,H c=some (.own y)->c≠x:=fun c y r z=>by subst z; rw [r] at mu; exact mu
 have ntup:∀ c xs,H c=some (.tup xs)->c≠x:=fun c xs r z=>by subst z; rw [r] at mu; exact mu
 by_cases hb:b=x
 ·subst hb; rw [Ah] at q; cases q; exact new
 ·rw [Az hb] at q;by_cases hbe:b=e
  ·have q':H b=some (.own x):=by
    rcases he with z | z
    ·exact absurd (hbe.trans z) hb
    ·rw [hbe]; exact z
   rw [q] at q'; cases q';obtain ⟨v,hv⟩:=heo;exact ⟨v,by rw [hbe]; exact hv⟩
  ·refine (ok b u q).stay (fun c v hc r=>k c v ?_ r) (fun c r=>by rw [Az (nown c b r)]; exact r) fun c xs r=>by rw [Az (ntup c xs r)]; exact r
   rcases hc with rfl | hc
   ·exact hbe
   ·rintro rfl;rcases he with z | z
    ·exact nown c b hc z
    ·rw [hc] at z; cases z; exact hb rfl
end
structure Un (fs ex:List Addr) (H H':Hp) (h h':Heap):Prop where
 keep:∀ b o,h.get? b=some o->H b=none->b ∉ fs->b ∉ ex->h'.get? b=some o
 slot:∀ b o,h.get? b=some o->H b=none->b ∈ fs->b ∉ ex->∃ sl,h'.get? b=some { o with slots:=sl }
 free:∀ b o,h.get? b=some o->H b=none->b ∉ ex->H' b=none
 there:∀ b o,h.get? b=some o->b ∉ ex->∃ o',h'.get? b=some o'
 tups:∀ b xs,H b=some (.tup xs)->H' b=some (.tup xs)
 frzs:∀ b o u,H b=some (.frz o u)->H' b=some (.frz o u)
 tbls:∀ b ps,H b=some (.tbl ps)->∃ more,H' b=some (.tbl (ps ++ more))
section
variable {fs fs' ex ex':List Addr} {H H1 H2:Hp} {h h1 h2 h':Heap} {a x e:Addr} {o:HO}
theorem Un.any (u:Un fs ex H H1 h h1) {b:Addr} {ob:Obj} (q:h.get? b=some ob) (n:H b=none) (hx:b ∉ ex):∃ sl,h1.get? b=some { ob with slots:=sl }:=by
 by_cases hb:b ∈ fs
 ·exact u.slot b ob q n hb hx
 ·exact ⟨ob.slots,u.keep b ob q n hb hx⟩
theorem Un.kept (k:∀ b u,h.get? b=some u->h'.get? b=some u):Un fs ex H H h h' :=
 ⟨fun b ob q _ _ _=>k b ob q,fun b ob q _ _ _=>⟨ob.slots,k b ob q⟩,fun _ _ _ n _=>n,fun b ob q _=>⟨ob,k b ob q⟩,fun _ _ q=>q,fun _ _ _ q=>q,fun _ ps q=>⟨#[],by rw [q]; simp⟩⟩
theorem Un.refl:Un fs ex H H h h:=Un.kept fun _ _ q=>q
theorem Un.laid (k:∀ b u,h.get? b=some u->h'.get? b=some u) (hp:h.objs.size<=a) (hn:H a=none):Un fs ex H (upd H a o) h h' where
 keep:=fun b u q _ _ _=>k b u q
 slot:=fun b u q _ _ _=>⟨u.slots,k b u q⟩
 free:=fun b u q n _=>by rw [Az (Nat.ne_of_lt (Nat.lt_of_lt_of_le (Heap.lt_size q) hp))]; exact n
 there:=fun b u q _=>⟨u,k b u q⟩
 tups:=fun b xs q=>by rw [Az (As q hn)]; exact q
 frzs:=fun b u xs q=>by rw [Az (As q hn)]; exact q
 tbls:=fun b ps q=>⟨#[],by rw [Az (As q hn),q]; simp⟩
theorem Un.write (mu:Mut (H x)) (he:e=x\/H e=some (.own x)) (k:∀ b u,b≠e->h.get? b=some u->h'.get? b=some u) (heo:∃ u,h'.get? e=some u):Un fs ex H (upd H x o) h h':=by
 have hx:∀ b,H b=none->b≠x:=fun b n z=>by subst z; rw [n] at mu; exact mu
 have hb:∀ b,H b=none->b≠e:=fun b n z=>by
  subst z;rcases he with r | r
  ·exact hx b n r
  ·rw [n] at r; cases r
 have hm:∀ b u,H b=some u->¬ Mut (some u)->b≠x:=fun b u q nm z=>by subst z; rw [q] at mu; exact nm mu
 refine ⟨fun b u q n _ _=>k b u (hb b n) q,fun b u q n _ _=>⟨u.slots,k b u (hb b n) q⟩,fun b u q n _=>by rw [Az (hx b n)]; exact n,fun b u q _=>?_,
  fun b xs q=>by rw [Az (hm b _ q fun z=>z)]; exact q,fun b u xs q=>by rw [Az (hm b _ q fun z=>z)]; exact q,fun b ps q=>⟨#[],by rw [Az (hm b _ q fun z=>z),q]; simp⟩⟩
 by_cases hbe:b=e
 ·subst hbe; exact heo
 ·exact ⟨u,k b u hbe q⟩
end
def trk (h:Heap) (H:Hp):List Addr:=(List.range h.objs.size).filter fun a=>(H a).isSome
def MX (h:Heap) (H:Hp):Heap:=PySem.W.hideAll h (trk h H)
theorem QR (h:Heap) (H:Hp):(MX h H).objs.size=h.objs.size:=PySem.W.hideAll_size _ _
theorem SR {h:Heap} {H:Hp} {b:Addr} {o:Obj} (e:h.get? b=some o) (n:H b=none):(MX h H).get? b=some o :=
 PySem.W.hideAll_get _ e fun hm=>by
  have q:(H b).isSome=true:=(List.mem_filter.mp hm).2;rw [n] at q; simp at q
theorem of_hidT {h:Heap} {H:Hp} {b:Addr} {o:Obj} (e:(MX h H).get? b=some o):h.get? b=some o/\H b=none:=by
 have e':h.get? b=some o:=PySem.W.of_hideAll (trk h H) e;refine ⟨e',?_⟩;cases q:H b with
 | none=>rfl
 | some x =>
  have hm:b ∈ trk h H:=List.mem_filter.mpr ⟨List.mem_range.mpr (Heap.lt_size e'),by simp [q]⟩;have z:(MX h H).get? b=none:=PySem.W.hideAll_none (trk h H) hm;rw [z] at e; cases e
end L2
namespace L2
open PySem PySem.Spec PyProof.Rows
structure Mod (K:PySem.W.Frag) (mg:Str->Option Value) (base:Heap):Prop where
 kin:K.In base
 glob:base.Ns mainGlobals mg
 blt:∃ mb,base.Ns builtinsNs mb/\∀ x:Str,x≠"__name__" -> mb x=bootBuiltins x
 nolimit:base.NoLimit
/-- the context: a def's body (or a comprehension's block) running. base: fixed through the whole law; s₀,H₀: the entry; outer: the frames whose slots others may change (a def's callers); stack: all frames that run;
 ex: iterators that were made ahead of the entry and are walked here (a comprehension's); fn: the names whose cells were made at the entry (a def: all; a comprehension's block: its own); calm: not within an except suite; pn: pins that every state bears; xe: what is wanted of an exception that leaves the code -/
structure Cx where
 prog:Program
 w:World
 K:PySem.W.Frag
 mg:Str->Option Value
 base:Heap
 A:Around
 N:List Str
 s₀:Shared
 H₀:Hp
 env:Env
 outer:List Env
 stack:List Env
 ex:List Addr
 fn:Str->Bool
 calm:Bool
 pn:List (Addr×Obj)
 xe:Value->Shared->Prop
def frs (l:List Env):List Addr:=l.filterMap (·.frame)
abbrev Cx.fs (X:Cx):List Addr:=frs X.outer
def Vis (sc:Scope) (x:Str):Prop:=sc.names.lookup x=some .local\/sc.names.lookup x=some .cell\/sc.names.lookup x=some .free
def Loc (sc:Scope) (x:Str):Prop:=sc.names.lookup x=some .local\/sc.names.lookup x=some .cell
def Look (env:Env) (h:Heap) (m:Str->Option Value) (x:Str) (u:Value):Prop :=
 (env.kindOf x=some .local/\m x=some u)\/((env.kindOf x=some .cell\/env.kindOf x=some .free)/\∃ c,env.cells.lookup x=some c/\h.IsCell c (some u))
structure Cx.Ok (X:Cx):Prop where
 mod:Mod X.K X.mg X.base
 kind:X.env.scope.kind=.function
 glob:X.env.globals=mainGlobals
 blt:X.env.builtins=builtinsNs
 above:X.s₀.heap.objs.size<=X.env.locals
 inj:∀ x y c,X.env.cells.lookup x=some c->X.env.cells.lookup y=some c->x=y
 has:∀ x,(X.env.kindOf x=some .cell\/X.env.kindOf x=some .free)->∃ c,X.env.cells.lookup x=some c
 cab:∀ x c,X.fn x=true->X.env.cells.lookup x=some c->X.s₀.heap.objs.size<=c
 hd:X.calm=true->X.A.handled=none
 frames:X.A.frames=some X.stack
 stk:X.stack=X.outer\/(X.stack=X.env :: X.outer/\X.env.frame=some X.env.locals)
 exf:∀ b ∈ X.ex,b≠X.env.locals/\∀ x c,X.env.cells.lookup x=some c->c≠b
 bs:∀ b o,X.base.get? b=some o->X.s₀.heap.get? b=some o/\X.H₀ b=none
 bsz:X.base.objs.size<=X.s₀.heap.objs.size
 noex:∀ b o,X.base.get? b=some o->b ∉ X.ex
 exfs:∀ b ∈ X.ex,b ∉ X.fs
 funs:X.s₀.heap.FunFrames X.base X.outer
 frf:∀ b ∈ X.fs,X.H₀ b=none
structure Inv (X:Cx) (pins:List (Addr×Obj)) (σ:List (Option V)) (H:Hp) (s:Shared):Prop where
 ok:X.Ok
 os:s.os=X.s₀.os
 bare:AllBare s.gens
 base:Un X.fs X.ex X.H₀ H X.s₀.heap s.heap
 loc:∃ m,s.heap.Ns X.env.locals m/\∀ (i:Nat) (x:Str) (v:V),X.N[i]?=some x->σ[i]?=some (some v)->Vis X.env.scope x->∃ u,AX v u/\Look X.env s.heap m x u
 cell:∀ x c,X.env.cells.lookup x=some c->∃ v,s.heap.IsCell c v
 free:H X.env.locals=none
 freeC:∀ x c,X.env.cells.lookup x=some c->H c=none
 pin:∀ p ∈ X.pn ++ pins,s.heap.get? p.1=some p.2/\H p.1=none/\p.1≠X.env.locals/\p.1 ∉ X.fs/\∀ v,p.2.data≠.cell v
 hok:HOk X.prog X.w H s.heap
 len:σ.length=X.N.length
section
variable {X:Cx} {pins:List (Addr×Obj)} {σ:List (Option V)} {H H':Hp} {s:Shared} {h':Heap}
theorem Cx.Ok.nofr (ok:X.Ok) {b:Addr} {o:Obj} (e:X.base.get? b=some o):b ∉ X.fs:=fun hb=>by
 have:=(ok.funs.mem hb).1;rw [e] at this; cases this
theorem Inv.bs (I:Inv X pins σ H s):∀ b o,X.base.get? b=some o->s.heap.get? b=some o/\H b=none:=fun b o e =>
 ⟨I.base.keep b o (I.ok.bs b o e).1 (I.ok.bs b o e).2 (I.ok.nofr e) (I.ok.noex b o e),I.base.free b o (I.ok.bs b o e).1 (I.ok.bs b o e).2 (I.ok.noex b o e)⟩
theorem Inv.bk (I:Inv X pins σ H s):∀ b o,X.base.get? b=some o->s.heap.get? b=some o:=fun b o e=>(I.bs b o e).1
theorem Inv.mod (I:Inv X pins σ H s):Mod X.K X.mg X.base:=I.ok.mod
theorem Inv.kIn (I:Inv X pins σ H s):X.K.In s.heap:=I.ok.mod.kin.keeps I.bk
theorem Inv.lt (I:Inv X pins σ H s):X.env.locals < s.heap.objs.size:=let ⟨_,hn,_⟩:=I.loc; hn.lt
theorem Inv.sz (I:Inv X pins σ H s):X.s₀.heap.objs.size<=s.heap.objs.size:=Nat.le_trans I.ok.above (Nat.le_of_lt I.lt)
theorem Inv.nofs (I:Inv X pins σ H s) {a:Addr} (h:s.heap.objs.size<=a):a ∉ X.fs:=fun hb=>by
 obtain ⟨_,o,ho,_⟩:=I.ok.funs.mem hb;exact absurd (Nat.lt_of_lt_of_le (Heap.lt_size ho) (Nat.le_trans I.sz h)) (Nat.lt_irrefl _)
theorem Inv.cne (I:Inv X pins σ H s):∀ x c,X.env.cells.lookup x=some c->c≠X.env.locals:=fun x c e z=>by
 obtain ⟨v,o,ho,hd⟩:=I.cell x c e;obtain ⟨m,⟨o',es,ep,ho',hd',_⟩,_⟩:=I.loc;rw [z,ho'] at ho; cases ho; rw [hd'] at hd; cases hd
theorem Inv.funs (I:Inv X pins σ H s):s.heap.FunFrames X.base X.outer:=by
 have all:∀ (l:List Env),(∀ b ∈ frs l,b ∈ X.fs)->X.s₀.heap.FunFrames X.base l->s.heap.FunFrames X.base l:=by
  intro l;induction l with
  | nil=>intro _ _; trivial
  | cons env r ih =>
   intro hs hl;obtain ⟨hk,⟨L,o,hf,hn,ho,hd⟩,hr⟩:=hl;have hL:L ∈ X.fs:=hs L (by unfold frs; rw [List.filterMap_cons,hf]; exact List.mem_cons_self);obtain ⟨sl,e⟩:=I.base.slot L o ho (I.ok.frf L hL) hL fun z=>I.ok.exfs L z hL;exact ⟨hk,⟨L,_,hf,hn,e,hd⟩,ih (fun b hb=>hs b (by unfold frs; rw [List.filterMap_cons,hf]; exact List.mem_cons_of_mem _ hb)) hr⟩
 exact all X.outer (fun _ hb=>hb) I.ok.funs
theorem Inv.stack (I:Inv X pins σ H s):s.heap.FunFrames X.base X.stack:=by
 rcases I.ok.stk with e | ⟨e,hf⟩
 ·rw [e]; exact I.funs
 ·rw [e];obtain ⟨m,hn,_⟩:=I.loc;refine .cons (by rw [I.ok.kind]; decide) hf hn ?_ I.funs;exact Heap.get?_none_of_le (Nat.le_trans I.ok.bsz I.ok.above)
theorem Inv.stkSub (I:Inv X pins σ H s):∀ b ∈ frs X.stack,b ∈ X.env.locals :: X.fs:=fun b hb=>by
 rcases I.ok.stk with e | ⟨e,hf⟩
 ·rw [e] at hb; exact List.mem_cons_of_mem _ hb
 ·rw [e] at hb;unfold frs at hb;rw [List.filterMap_cons,hf] at hb;exact hb
theorem Inv.stkFree (I:Inv X pins σ H s):∀ b ∈ frs X.stack,H b=none:=fun b hb=>by
 rcases List.mem_cons.mp (I.stkSub b hb) with e | hb
 ·rw [e]; exact I.free
 ·obtain ⟨_,o,ho,_⟩:=I.ok.funs.mem hb;exact I.base.free b o ho (I.ok.frf b hb) fun z=>I.ok.exfs b z hb
theorem Inv.step {g':Array GenState} {t':Nat} {d':Drawn} {ch:List Addr} (I:Inv X pins σ H s)
  (hch:∀ b ∈ ch,(b ∈ X.ex\/X.s₀.heap.objs.size<=b)/\b≠X.env.locals/\(∀ x c,X.env.cells.lookup x=some c->c≠b)/\∀ p ∈ X.pn ++ pins,p.1≠b)
  (keep:∀ b o,b≠X.env.locals->b ∉ X.fs->b ∉ ch->s.heap.get? b=some o->H b=none->h'.get? b=some o)
  (slot:∀ b o,b≠X.env.locals->b ∈ X.fs->b ∉ ch->s.heap.get? b=some o->H b=none->∃ sl,h'.get? b=some { o with slots:=sl }) (free:∀ b o,b ∉ ch->s.heap.get? b=some o->H b=none->H' b=none)
  (there:∀ b o,b ∉ ch->s.heap.get? b=some o->∃ o',h'.get? b=some o')
  (tups:∀ b xs,H b=some (.tup xs)->H' b=some (.tup xs)) (frzs:∀ b o u,H b=some (.frz o u)->H' b=some (.frz o u)) (tbls:∀ b ps,H b=some (.tbl ps)->∃ more,H' b=some (.tbl (ps ++ more)))
  (ns:∀ m,s.heap.Ns X.env.locals m->h'.Ns X.env.locals m) (hok:HOk X.prog X.w H' h') (hg:AllBare g') :
  Inv X pins σ H' { s with heap:=h',gens:=g',drawn:=d',toks:=t' }:=by
 have neL:∀ b o,X.s₀.heap.get? b=some o->b≠X.env.locals:=fun b o e=>Nat.ne_of_lt (Nat.lt_of_lt_of_le (Heap.lt_size e) I.ok.above);have neC:∀ b o,X.s₀.heap.get? b=some o->b ∉ X.ex->b ∉ ch:=fun b o e hx hb=>by
  rcases (hch b hb).1 with z | z
  ·exact hx z
  ·exact absurd (Nat.lt_of_lt_of_le (Heap.lt_size e) z) (Nat.lt_irrefl _)
 have cellK:∀ x c,X.env.cells.lookup x=some c->∀ v,s.heap.IsCell c v->h'.IsCell c v:=fun x c e v ⟨o,ho,hd⟩=>by
  have nch:c ∉ ch:=fun z=>(hch c z).2.2.1 x c e rfl;by_cases hc:c ∈ X.fs
  ·obtain ⟨sl,q⟩:=slot c o (I.cne x c e) hc nch ho (I.freeC x c e);exact ⟨_,q,hd⟩
  ·exact ⟨o,keep c o (I.cne x c e) hc nch ho (I.freeC x c e),hd⟩
 refine ⟨I.ok,I.os,hg,⟨fun b o e n hb hx=>?_,fun b o e n hb hx=>?_,fun b o e n hx=>?_,fun b o e hx=>?_,fun b xs e=>tups b xs (I.base.tups b xs e),fun b o xs e=>frzs b o xs (I.base.frzs b o xs e),fun b ps e=>?_⟩,?_,fun x c e=>?_,?_,fun x c e=>?_,fun p hp=>?_,hok,I.len⟩
 ·exact keep b o (neL b o e) hb (neC b o e hx) (I.base.keep b o e n hb hx) (I.base.free b o e n hx)
 ·obtain ⟨sl,e1⟩:=I.base.slot b o e n hb hx;obtain ⟨sl',e2⟩:=slot b _ (neL b o e) hb (neC b o e hx) e1 (I.base.free b o e n hx);exact ⟨sl',e2⟩
 ·obtain ⟨o',e1⟩:=I.base.there b o e hx;exact free b o' (neC b o e hx) e1 (I.base.free b o e n hx)
 ·obtain ⟨o',e1⟩:=I.base.there b o e hx;exact there b o' (neC b o e hx) e1
 ·obtain ⟨m1,e1⟩:=I.base.tbls b ps e;obtain ⟨m2,e2⟩:=tbls b _ e1;exact ⟨m1 ++ m2,by rw [e2,Array.append_assoc]⟩
 ·obtain ⟨m,hn,hl⟩:=I.loc;refine ⟨m,ns m hn,fun i x v e1 e2 e3=>?_⟩;obtain ⟨u,r,l⟩:=hl i x v e1 e2 e3;refine ⟨u,r,?_⟩;rcases l with l | ⟨k,c,e,z⟩
  ·exact .inl l
  ·exact .inr ⟨k,c,e,cellK x c e _ z⟩
 ·obtain ⟨v,z⟩:=I.cell x c e;exact ⟨v,cellK x c e v z⟩
 ·obtain ⟨m,⟨o,_,_,ho,_⟩,_⟩:=I.loc;exact free _ o (fun z=>(hch _ z).2.1 rfl) ho I.free
 ·obtain ⟨v,o,ho,hd⟩:=I.cell x c e;exact free c o (fun z=>(hch c z).2.2.1 x c e rfl) ho (I.freeC x c e)
 ·obtain ⟨e,n,ne,nf,d⟩:=I.pin p hp;have nch:p.1 ∉ ch:=fun z=>(hch p.1 z).2.2.2 p hp rfl;exact ⟨keep p.1 p.2 ne nf nch e n,free p.1 p.2 nch e n,ne,nf,d⟩
theorem Inv.un {t':Nat} (I:Inv X pins σ H s) (u:Un X.fs [] H H' s.heap h') (hok:HOk X.prog X.w H' h'):Inv X pins σ H' { s with heap:=h',toks:=t' }:=by
 obtain ⟨m,⟨o,es,ep,ho,r⟩,_⟩:=id I.loc;obtain ⟨sl,hL⟩:=u.any ho I.free (by simp);exact I.step (g':=s.gens) (d':=s.drawn) (ch:=[]) (fun _ z=>nomatch z) (fun b o _ hb _ e n=>u.keep b o e n hb (by simp)) (fun b o _ hb _ e n=>u.slot b o e n hb (by simp)) (fun b o _ e n=>u.free b o e n (by simp)) (fun b o _ e=>u.there b o e (by simp)) u.tups u.frzs u.tbls (fun m' hm=>by
  obtain ⟨o',es',ep',ho',r'⟩:=hm;rw [ho] at ho'; cases ho';exact ⟨_,es',ep',hL,r'⟩) hok I.bare
theorem Inv.call {g':Array GenState} {t':Nat} {d':Drawn} {ch:List Addr} (I:Inv X pins σ H s) (u:Un (frs X.stack) ch H H' s.heap h') (hok:HOk X.prog X.w H' h') (hg:AllBare g')
  (hch:∀ b ∈ ch,(b ∈ X.ex\/X.s₀.heap.objs.size<=b)/\b≠X.env.locals/\(∀ x c,X.env.cells.lookup x=some c->c≠b)/\∀ p ∈ X.pn ++ pins,p.1≠b) :
  Inv X pins σ H' { s with heap:=h',gens:=g',drawn:=d',toks:=t' }:=by
 obtain ⟨m,⟨o,es,ep,ho,r⟩,_⟩:=id I.loc;obtain ⟨sl,hL⟩:=u.any ho I.free fun z=>(hch _ z).2.1 rfl;exact I.step (ch:=ch) hch (fun b o hL hb hc e n=>u.keep b o e n (fun z=>(List.mem_cons.mp (I.stkSub b z)).elim hL hb) hc) (fun b o _ _ hc e n=>u.any e n hc) (fun b o hc e n=>u.free b o e n hc) (fun b o hc e=>u.there b o e hc) u.tups u.frzs u.tbls (fun m' hm=>by
  obtain ⟨o',es',ep',ho',r'⟩:=hm;rw [ho] at ho'; cases ho';exact ⟨_,es',ep',hL,r'⟩) hok hg
theorem Inv.turned {t':Nat} {it:Addr} (I:Inv X pins σ H s) (k:∀ b o,b≠it->s.heap.get? b=some o->h'.get? b=some o) (hn:H it=none) (hL:it≠X.env.locals)
  (h1:it ∈ X.ex\/X.s₀.heap.objs.size<=it) (h2:∀ x c,X.env.cells.lookup x=some c->c≠it) (h3:∀ p ∈ X.pn ++ pins,p.1≠it):Inv X pins σ H { s with heap:=h',toks:=t' }:=by
 have nit:∀ b u,H b=some u->b≠it:=fun b u e z=>by rw [z,hn] at e; cases e
 refine I.step (g':=s.gens) (d':=s.drawn) (ch:=[it]) (fun b hb=>?_) (fun b o _ _ hc e _=>k b o (fun z=>hc (by simp [z])) e) (fun b o _ _ hc e _=>⟨o.slots,k b o (fun z=>hc (by simp [z])) e⟩) (fun _ _ _ _ n=>n)
  (fun b o hc e=>⟨o,k b o (fun z=>hc (by simp [z])) e⟩) (fun _ _ e=>e) (fun _ _ _ e=>e) (fun b ps e=>⟨#[],by rw [e]; simp⟩) (fun m hm=>?_) (fun b u e=>?_) I.bare
 ·have e:b=it:=by simpa using hb
  subst e;exact ⟨h1,hL,h2,h3⟩
 ·obtain ⟨o,es,ep,ho,r⟩:=hm;exact ⟨o,es,ep,k _ o (Ne.symm hL) ho,r⟩
 ·refine (I.hok b u e).stay (fun c v hc q=>k c v ?_ q) (fun _ q=>q) fun _ _ q=>q;rcases hc with z | z
  ·rw [z]; exact nit b u e
  ·exact nit c _ z
theorem Inv.tok (I:Inv X pins σ H s) (t:Nat):Inv X pins σ H { s with toks:=t }:=I.un (h':=s.heap) (t':=t) Un.refl I.hok
theorem Inv.kept {t':Nat} (I:Inv X pins σ H s) (k:∀ b u,s.heap.get? b=some u->h'.get? b=some u):Inv X pins σ H { s with heap:=h',toks:=t' }:=I.un (Un.kept k) (I.hok.kept k)
theorem Inv.laid {a:Addr} {o:HO} {t':Nat} (I:Inv X pins σ H s) (k:∀ b u,s.heap.get? b=some u->h'.get? b=some u) (hp:s.heap.objs.size<=a) (new:Bd X.prog X.w (upd H a o) h' a o) :
  Inv X pins σ (upd H a o) { s with heap:=h',toks:=t' }:=I.un (Un.laid k hp (I.hok.fresh hp)) (I.hok.laid k hp new)
theorem Inv.write {x e:Addr} {o:HO} {t':Nat} (I:Inv X pins σ H s) (mu:Mut (H x)) (he:e=x\/H e=some (.own x)) (k:∀ b u,b≠e->s.heap.get? b=some u->h'.get? b=some u) (heo:∃ u,h'.get? e=some u)
  (new:Bd X.prog X.w (upd H x o) h' x o):Inv X pins σ (upd H x o) { s with heap:=h',toks:=t' }:=I.un (Un.write mu he k heo) (I.hok.write mu he k heo new)
theorem Inv.weak {σ':List (Option V)} (I:Inv X pins σ H s) (hl:σ'.length=σ.length) (w:∀ (i:Nat) v,σ'[i]?=some (some v)->σ[i]?=some (some v)):Inv X pins σ' H s :=
 ⟨I.ok,I.os,I.bare,I.base,let ⟨m,hn,hl'⟩:=I.loc; ⟨m,hn,fun i x v e1 e2 e3=>hl' i x v e1 (w i v e2) e3⟩,I.cell,I.free,I.freeC,I.pin,I.hok,hl.trans I.len⟩
theorem Inv.pins_of {pins':List (Addr×Obj)} (I:Inv X pins σ H s) (h:∀ p ∈ pins',s.heap.get? p.1=some p.2/\H p.1=none/\p.1≠X.env.locals/\p.1 ∉ X.fs/\∀ v,p.2.data≠.cell v):Inv X pins' σ H s :=
 ⟨I.ok,I.os,I.bare,I.base,I.loc,I.cell,I.free,I.freeC,fun p hp=>(List.mem_append.mp hp).elim (fun z=>I.pin p (List.mem_append_left _ z)) (h p),I.hok,I.len⟩
theorem JI {N:List Str} (hN:N.Nodup) {i j:Nat} {x:Str} (a:N[i]?=some x) (b:N[j]?=some x):i=j:=by
 obtain ⟨h1,e1⟩:=List.getElem?_eq_some_iff.mp a;obtain ⟨h2,e2⟩:=List.getElem?_eq_some_iff.mp b;exact (List.getElem_inj hN).mp (e1.trans e2.symm)
theorem LK {M:Model} {A:Around} {E:Value->Shared->Prop} {i:Nat} {x:Str} {v:V} {u:Value} {Q:Unit->Shared->Prop} (I:Inv X pins σ H s) (hN:X.N.Nodup) (hi:X.N[i]?=some x) (hx:Loc X.env.scope x) (r:AX v u)
  (h:∀ s',Inv X pins (σ.set i (some v)) H s'->(∃ a,Heap.SameBut a s.heap s'.heap/\(a=X.env.locals\/X.env.cells.lookup x=some a))->Q () s') (hf:X.fn x=true\/X.env.scope.names.lookup x=some .local:=by first | exact .inl rfl | exact .inr rfl | assumption):wpAny M A (storeName X.env x u) Q E s:=by
 obtain ⟨m,hn,hl⟩:=id I.loc;have hcls:(X.env.scope.kind == .class || (X.env.scope.kind == .module && X.env.locals != X.env.globals))=false:=by rw [I.ok.kind]; rfl
 have hiσ:i < σ.length:=by rw [I.len]; exact (List.getElem?_eq_some_iff.mp hi).1
 have cne:=I.cne;have tracked:∀ {a:Addr} {h':Heap},(∃ o,s.heap.get? a=some o/\H a=none)->Heap.SameBut a s.heap h'->HOk X.prog X.w H h':=fun {a h'} ha hs b ob e=>by
  obtain ⟨_,_,hfree⟩:=ha;refine (I.hok b ob e).stay (fun c w' hc q=>(hs.2 c ?_).trans q) (fun _ q=>q) fun _ _ q=>q;rintro rfl;rcases hc with rfl | hc
  ·rw [hfree] at e; cases e
  ·rw [hfree] at hc; cases hc
 rcases hx with hk | hk
 ·refine wpAny_storeName_local hk hn (fun h' hn' hs=>?_) hcls;obtain ⟨oL,_,_,hoL,_⟩:=id hn;refine h _ ⟨I.ok,I.os,I.bare,⟨fun b o e n hb hx=>?_,fun b o e n hb hx=>?_,I.base.free,fun b o e hx=>?_,I.base.tups,I.base.frzs,I.base.tbls⟩,⟨_,hn',fun j y v' e1 e2 e3=>?_⟩,fun y c e=>?_,I.free,I.freeC,fun p hp=>?_,tracked ⟨oL,hoL,I.free⟩ hs,by simpa using I.len⟩ ⟨_,hs,.inl rfl⟩
  ·exact (hs.2 b (Nat.ne_of_lt (Nat.lt_of_lt_of_le (Heap.lt_size e) I.ok.above))).trans (I.base.keep b o e n hb hx)
  ·obtain ⟨sl,e1⟩:=I.base.slot b o e n hb hx;exact ⟨sl,(hs.2 b (Nat.ne_of_lt (Nat.lt_of_lt_of_le (Heap.lt_size e) I.ok.above))).trans e1⟩
  ·obtain ⟨o',e1⟩:=I.base.there b o e hx;exact ⟨o',(hs.2 b (Nat.ne_of_lt (Nat.lt_of_lt_of_le (Heap.lt_size e) I.ok.above))).trans e1⟩
  ·by_cases hj:j=i
   ·subst hj;rw [hi] at e1; cases e1;rw [List.getElem?_set_self hiσ] at e2;cases e2;exact ⟨u,r,.inl ⟨hk,by simp⟩⟩
   ·rw [List.getElem?_set_ne (Ne.symm hj)] at e2;obtain ⟨u',r',q⟩:=hl j y v' e1 e2 e3;refine ⟨u',r',?_⟩;rcases q with ⟨k,e⟩ | ⟨k,c,e,z⟩
    ·refine .inl ⟨k,?_⟩;have:y≠x:=fun e=>hj (JI hN e1 (e ▸ hi));simp [this,e]
    ·exact .inr ⟨k,c,e,z.sameBut hs (cne y c e)⟩
  ·obtain ⟨w',z⟩:=I.cell y c e;exact ⟨w',z.sameBut hs (cne y c e)⟩
  ·obtain ⟨e,n,ne,nf,d⟩:=I.pin p hp;exact ⟨(hs.2 p.1 ne).trans e,n,ne,nf,d⟩
 ·have hfn:X.fn x=true:=by
   rcases hf with z | z
   ·exact z
   ·rw [z] at hk; cases hk
  obtain ⟨c,hc⟩:=I.ok.has x (.inl hk);obtain ⟨w',z⟩:=I.cell x c hc;refine wpAny_storeName_cell I.ok.kind hk hc z (fun h' hc' hs=>?_);obtain ⟨oc,hoc,hocd⟩:=id z;refine h { s with heap:=h' } ⟨I.ok,I.os,I.bare,⟨fun b o e n hb hx=>?_,fun b o e n hb hx=>?_,I.base.free,fun b o e hx=>?_,I.base.tups,I.base.frzs,I.base.tbls⟩,⟨m,hn.sameBut hs (Ne.symm (cne x c hc)),fun j y v' e1 e2 e3=>?_⟩,fun y c' e=>?_,I.free,I.freeC,fun p hp=>?_,tracked ⟨oc,hoc,I.freeC x c hc⟩ hs,by simpa using I.len⟩ ⟨c,hs,.inr hc⟩
  ·exact (hs.2 b (Nat.ne_of_lt (Nat.lt_of_lt_of_le (Heap.lt_size e) (I.ok.cab x c hfn hc)))).trans (I.base.keep b o e n hb hx)
  ·obtain ⟨sl,e1⟩:=I.base.slot b o e n hb hx;exact ⟨sl,(hs.2 b (Nat.ne_of_lt (Nat.lt_of_lt_of_le (Heap.lt_size e) (I.ok.cab x c hfn hc)))).trans e1⟩
  ·obtain ⟨o',e1⟩:=I.base.there b o e hx;exact ⟨o',(hs.2 b (Nat.ne_of_lt (Nat.lt_of_lt_of_le (Heap.lt_size e) (I.ok.cab x c hfn hc)))).trans e1⟩
  ·by_cases hj:j=i
   ·subst hj;rw [hi] at e1; cases e1;rw [List.getElem?_set_self hiσ] at e2;cases e2;exact ⟨u,r,.inr ⟨.inl hk,c,hc,hc'⟩⟩
   ·rw [List.getElem?_set_ne (Ne.symm hj)] at e2;obtain ⟨u',r',q⟩:=hl j y v' e1 e2 e3;refine ⟨u',r',?_⟩;rcases q with q | ⟨k,c',e,z'⟩
    ·exact .inl q
    ·refine .inr ⟨k,c',e,z'.sameBut hs ?_⟩;rintro rfl;exact hj (JI hN e1 (I.ok.inj _ _ _ e hc ▸ hi))
  ·by_cases hcc:c'=c
   ·subst hcc; exact ⟨_,hc'⟩
   ·obtain ⟨w2,z2⟩:=I.cell y c' e;exact ⟨w2,z2.sameBut hs hcc⟩
  ·obtain ⟨e,n,ne,nf,d⟩:=I.pin p hp;refine ⟨(hs.2 p.1 ?_).trans e,n,ne,nf,d⟩;intro q;rw [q,hoc] at e;have q':oc=p.2:=Option.some.inj e;exact d w' (by rw [<-q']; exact hocd)
theorem Jz {M:Model} {A:Around} {E:Value->Shared->Prop} {i:Nat} {x:Str} {v:V} {u:Value} {Q:Unit->Shared->Prop} (I:Inv X pins σ H s) (hN:X.N.Nodup) (hi:X.N[i]?=some x) (hx:Loc X.env.scope x) (r:AX v u)
  (h:∀ s',Inv X pins (σ.set i (some v)) H s'->Q () s') (hf:X.fn x=true\/X.env.scope.names.lookup x=some .local:=by first | exact .inl rfl | exact .inr rfl | assumption):wpAny M A (storeName X.env x u) Q E s :=
 LK I hN hi hx r (fun s' I' _=>h s' I') hf
theorem Inv.call' {s':Shared} {ch:List Addr} (I:Inv X pins σ H s) (ho:s'.os=s.os) (u:Un (frs X.stack) ch H H' s.heap s'.heap) (hok:HOk X.prog X.w H' s'.heap) (hg:AllBare s'.gens)
  (hch:∀ b ∈ ch,(b ∈ X.ex\/X.s₀.heap.objs.size<=b)/\b≠X.env.locals/\(∀ x c,X.env.cells.lookup x=some c->c≠b)/\∀ p ∈ X.pn ++ pins,p.1≠b):Inv X pins σ H' s':=by
 obtain ⟨h',g',d',t',o'⟩:=s';have e:o'=s.os:=ho;subst e;exact I.call (g':=g') (t':=t') (d':=d') u hok hg hch
end
abbrev XK:=Value->Option Addr->Hp->Prop
abbrev St:=List (Option V)
abbrev VK:=V->Hp->Prop
abbrev TE:=St->Hp->VK->Prop
abbrev TT:=St->Hp->(Bool->Hp->Prop)->Prop
abbrev TA:=St->Hp->(List V->Hp->Prop)->Prop
structure Ll where
 nx:St->Hp->Prop
 rt:VK
 bk:St->Hp->Prop:=fun _ _=>False
 ct:St->Hp->Prop:=fun _ _=>False
abbrev TS:=Ll->St->Hp->Prop
def EP (X:Cx) (pins:List (Addr×Obj)) (σ:St) (Q:VK) (u:Value) (s':Shared):Prop:=∃ v H',Inv X pins σ H' s'/\AX v u/\Q v H'
def TP (X:Cx) (pins:List (Addr×Obj)) (σ:St) (Q:Bool->Hp->Prop) (b:Bool) (s':Shared):Prop:=∃ H',Inv X pins σ H' s'/\Q b H'
def AP (X:Cx) (pins:List (Addr×Obj)) (σ:St) (Q:List V->Hp->Prop) (us:List Value) (s':Shared):Prop:=∃ vs H',Inv X pins σ H' s'/\AJ vs us/\Q vs H'
def SP (X:Cx) (pins:List (Addr×Obj)) (D:Ll) (f:Flow) (s':Shared):Prop :=
 match f with
 | .next=>∃ σ' H',Inv X pins σ' H' s'/\D.nx σ' H'
 | .brk=>∃ σ' H',Inv X pins σ' H' s'/\D.bk σ' H'
 | .cont=>∃ σ' H',Inv X pins σ' H' s'/\D.ct σ' H'
 | .ret u=>∃ v σ' H',Inv X pins σ' H' s'/\AX v u/\D.rt v H'
def PE (X:Cx) (e:Expr) (t:TE):Prop :=
 ∀ (pins:List (Addr×Obj)) (s:Shared) (σ:St) (H:Hp) (Q:VK),Inv X pins σ H s->t σ H Q->wpAny (model X.prog X.w) X.A (eval e X.env) (EP X pins σ Q) X.xe s
def PT (X:Cx) (e:Expr) (t:TT):Prop :=
 ∀ (pins:List (Addr×Obj)) (s:Shared) (σ:St) (H:Hp) (Q:Bool->Hp->Prop),Inv X pins σ H s->t σ H Q->wpAny (model X.prog X.w) X.A (isTrue e X.env (eval e X.env)) (TP X pins σ Q) X.xe s
def PW (X:Cx) (e:Expr) (t:TT):Prop :=
 ∀ (whole:Sem Value) (pins:List (Addr×Obj)) (s:Shared) (σ:St) (H:Hp) (Q:Bool->Hp->Prop),Inv X pins σ H s->t σ H Q->wpAny (model X.prog X.w) X.A (isTrue e X.env whole) (TP X pins σ Q) X.xe s
theorem PW.pt {X:Cx} {e:Expr} {t:TT} (h:PW X e t):PT X e t:=h _
def PA (X:Cx) (es:List Expr) (t:TA):Prop :=
 ∀ (pos:Pos) (pins:List (Addr×Obj)) (s:Shared) (σ:St) (H:Hp) (Q:List V->Hp->Prop),Inv X pins σ H s->t σ H Q->wpAny (model X.prog X.w) X.A (spliced (backTo pos (starEach es X.env))) (AP X pins σ Q) X.xe s
def PS (X:Cx) (st:Stmt) (t:TS):Prop :=
 ∀ (pins:List (Addr×Obj)) (s:Shared) (σ:St) (H:Hp) (D:Ll),Inv X pins σ H s->t D σ H->wpAny (model X.prog X.w) X.A (exec st X.env) (SP X pins D) X.xe s
def PSs (X:Cx) (st:List Stmt) (t:TS):Prop :=
 ∀ (pins:List (Addr×Obj)) (s:Shared) (σ:St) (H:Hp) (D:Ll),Inv X pins σ H s->t D σ H->wpAny (model X.prog X.w) X.A (execs st X.env) (SP X pins D) X.xe s
theorem thn {α:Type} {t:Sem α} {Q Q':α->Shared->Prop} {M:Model} {A:Around} {E:Value->Shared->Prop} {s:Shared} (h:wpAny M A t Q E s) (hQ:∀ a s,Q a s->Q' a s):wpAny M A t Q' E s:=wpAny_mono h hQ fun _ _ x=>x
end L2
namespace L2
open PySem PySem.Spec PyProof.Rows
section
variable {X:Cx}
def Nq (i:Nat):TE:=fun σ H Q=>∃ v,σ[i]?=some (some v)/\Q v H
def tC (v:V):TE:=fun _ H Q=>Q v H
theorem pe_var {i:Nat} {x:Str} {pos:Pos} (hN:X.N[i]?=some x) (hv:Vis X.env.scope x) (hd:(x == ("__debug__" : Str))=false:=by decide) (hcd:(x == ("__classdict__" : Str))=false:=by decide):PE X (.Name x pos) (Nq i):=by
 intro pins s σ H Q I h;obtain ⟨v,e,h⟩:=h;obtain ⟨m,hn,hl⟩:=I.loc;obtain ⟨u,r,l⟩:=hl i x v hN e hv;have fin:EP X pins σ Q u s:=⟨v,H,I,r,h⟩
 rcases l with ⟨hk,hm⟩ | ⟨hk,c,hc,hcell⟩
 ·exact wpAny_Name (wpAny_loadName_local I.ok.kind hk hn hm fin) hd
 ·rcases hk with hk | hk
  ·exact wpAny_Name (wpAny_loadName_cell I.ok.kind hk hc hcell fin) hd
  ·exact wpAny_Name (wpAny_loadName_free I.ok.kind hk hc hcell fin hcd) hd
theorem Ag {i j pos}:PE X (.Constant (.int i) j pos) (tC (.int i)):=fun _ _ _ H _ I h=>wpAny_Constant_int ⟨.int i,H,I.tok _,⟨_,rfl⟩,h⟩
theorem FY {b j pos}:PE X (.Constant (.bool b) j pos) (tC (.bl b)):=fun _ _ _ H _ I h=>Constant_bool ⟨.bl b,H,I,rfl,h⟩
theorem OE {j pos}:PE X (.Constant .none j pos) (tC .non):=fun _ _ _ H _ I h=>Constant_none ⟨.non,H,I,rfl,h⟩
theorem Cv {x j pos}:PE X (.Constant (.str x) j pos) (tC (.str x)):=fun _ _ _ H _ I h=>Calls.Constant_str ⟨.str x,H,I.tok _,⟨_,rfl⟩,h⟩
def Gl (X:Cx) (x:Str):Prop:=X.env.kindOf x=some .globalImplicit
theorem FH {E:Value->Shared->Prop} {pins:List (Addr×Obj)} {s:Shared} {σ:St} {H:Hp} {x:Str} {u:Value} {pos:Pos} {Q:Value->Shared->Prop} (I:Inv X pins σ H s) (hg:Gl X x) (hm:X.mg x=some u) (h:Q u s)
  (hd:(x == ("__debug__" : Str))=false:=by decide):wpAny (model X.prog X.w) X.A (eval (.Name x pos) X.env) Q E s :=
 Calls.Name_function_global I.ok.kind hg (Calls.loadGlobal_global (by rw [I.ok.glob]; exact I.mod.glob.keeps I.bk) hm h) hd
theorem IE {E:Value->Shared->Prop} {pins:List (Addr×Obj)} {s:Shared} {σ:St} {H:Hp} {x:Str} {u:Value} {pos:Pos} {Q:Value->Shared->Prop} (I:Inv X pins σ H s) (hg:Gl X x) (hm:X.mg x=none) (hv:bootBuiltins x=some u) (h:Q u s)
  (hn:x≠"__name__" := by decide) (hd:(x == ("__debug__" : Str))=false:=by decide):wpAny (model X.prog X.w) X.A (eval (.Name x pos) X.env) Q E s:=by
 obtain ⟨mb,h1,h2⟩:=I.mod.blt;exact Calls.Name_function_global I.ok.kind hg (Calls.loadGlobal_builtin (by rw [I.ok.glob]; exact I.mod.glob.keeps I.bk) hm (by rw [I.ok.blt]; exact h1.keeps I.bk) ((h2 x hn).trans hv) h) hd
theorem MC {x:Str} {v:V} {u:Value} {pos:Pos} (hg:Gl X x) (hm:X.mg x=some u) (r:AX v u) (hd:(x == ("__debug__" : Str))=false:=by decide):PE X (.Name x pos) (tC v) :=
 fun _ _ _ H _ I h=>FH I hg hm ⟨v,H,I,r,h⟩ hd
theorem ES {x:Str} {v:V} {u:Value} {pos:Pos} (hg:Gl X x) (hm:X.mg x=none) (hv:bootBuiltins x=some u) (r:AX v u) (hn:x≠"__name__" := by decide) (hd:(x == ("__debug__" : Str))=false:=by decide):PE X (.Name x pos) (tC v) :=
 fun _ _ _ H _ I h=>IE I hg hm hv ⟨v,H,I,r,h⟩ hn hd
variable {a b:Expr} {ta tb:TE} {pos:Pos}
def PC (X:Cx) (op:CmpOp) (a b:Expr) (t:TE):Prop :=
 ∀ (pins:List (Addr×Obj)) (s:Shared) (σ:St) (H:Hp) (Q:VK),Inv X pins σ H s->t σ H Q ->
  wpAny (model X.prog X.w) X.A (eval a X.env) (fun v s₁=>wpAny (model X.prog X.w) X.A (eval b X.env) (fun u s₂=>wpAny (model X.prog X.w) X.A (compareOp op v u) (EP X pins σ Q) X.xe s₂) X.xe s₁) X.xe s
def tB (t:TE):TT:=fun σ H Q=>t σ H fun x H1=>∃ c,x=.bl c/\Q c H1
theorem pt_cmp {op:CmpOp} {t:TE} (h:PC X op a b t) (h1:behindInMarks op b=false:=by first | exact nobehind _ (by decide) (by decide) | rfl):PT X (.Compare a [op] [b] pos) (tB t):=by
 intro pins s σ H Q I hw;refine wpAny_isTrue_Compare1 (thn (h pins s σ H _ I hw) fun v s1 h1=>thn h1 fun u s2 h2=>thn h2 fun c s3 ⟨x,H1,I1,r1,q1⟩=>?_) h1;obtain ⟨d,rfl,q⟩:=q1;cases r1;exact wpAny_truthy_bool ⟨H1,I1,q⟩
theorem BJ {e:Expr} {t:TE} (h:PE X e t) (he:∀ whole,isTrue e X.env whole=(do let v <-whole; standAt e.pos; holding [v] (truthy v)):=by intro _; rfl):PT X e (tB t):=by
 intro pins s σ H Q I hw;refine isTrue_plain (thn (h pins s σ H _ I hw) fun v s1 ⟨x,H1,I1,r1,q1⟩=>?_) (he _);obtain ⟨d,rfl,q⟩:=q1;cases r1;exact wpAny_truthy_bool ⟨H1,I1,q⟩
variable {tA tB':TT} {rest:List Expr}
def tAnd (t u:TT):TT:=fun σ H Q=>t σ H fun c H1=>if c=true then u σ H1 Q else Q false H1
def tOr (t u:TT):TT:=fun σ H Q=>t σ H fun c H1=>if c=true then Q true H1 else u σ H1 Q
def tNot (t:TT):TT:=fun σ H Q=>t σ H fun c H1=>Q (!c) H1
theorem Jp (ha:PT X a tA):PW X (.BoolOp .And [a] pos) tA:=by
 intro wh pins s σ H Q I h;refine isTrue_and (thn (ha pins s σ H Q I h) fun c s1 e=>?_);cases c with
 | true=>exact isTrue_and_nil e
 | false=>exact e
theorem Dx (ha:PT X a tA):PW X (.BoolOp .Or [a] pos) tA:=by
 intro wh pins s σ H Q I h;refine isTrue_or (thn (ha pins s σ H Q I h) fun c s1 e=>?_);cases c with
 | false=>exact isTrue_or_nil e
 | true=>exact e
theorem MA (ha:PT X a tA) (hb:PW X (.BoolOp .And (b :: rest) pos) tB'):PW X (.BoolOp .And (a :: b :: rest) pos) (tAnd tA tB'):=by
 intro wh pins s σ H Q I h;refine isTrue_and (thn (ha pins s σ H _ I h) fun c s1 ⟨H1,I1,q1⟩=>?_);cases c with
 | true=>exact hb wh pins s1 σ H1 Q I1 q1
 | false=>exact ⟨H1,I1,q1⟩
theorem Ej (ha:PT X a tA) (hb:PW X (.BoolOp .Or (b :: rest) pos) tB'):PW X (.BoolOp .Or (a :: b :: rest) pos) (tOr tA tB'):=by
 intro wh pins s σ H Q I h;refine isTrue_or (thn (ha pins s σ H _ I h) fun c s1 ⟨H1,I1,q1⟩=>?_);cases c with
 | true=>exact ⟨H1,I1,q1⟩
 | false=>exact hb wh pins s1 σ H1 Q I1 q1
theorem Ce (ha:PT X a tA):PT X (.UnaryOp .Not a pos) (tNot tA):=by
 intro pins s σ H Q I h;exact isTrue_not (ha pins s σ H (fun c H1=>Q (!c) H1) I h)
def tAndV (ta tb:TE):TE:=fun σ H Q=>ta σ H fun x H1=>∃ c,x=.bl c/\if c=true then tb σ H1 Q else Q (.bl false) H1
def tNotV (ta:TE):TE:=fun σ H Q=>ta σ H fun x H1=>∃ c,x=.bl c/\Q (.bl (!c)) H1
theorem GN {op} {t:TE} (h:PE X a t):PE X (.BoolOp op [a] pos) t:=fun pins s σ H Q I hw=>BoolOp_one (h pins s σ H Q I hw)
theorem FD (ha:PE X a ta) (hb:PE X (.BoolOp .And (b :: rest) pos) tb):PE X (.BoolOp .And (a :: b :: rest) pos) (tAndV ta tb):=by
 intro pins s σ H Q I h;refine BoolOp_and (thn (ha pins s σ H _ I h) fun v s1 ⟨x,H1,I1,r1,q1⟩=>?_);obtain ⟨c,rfl,q1⟩:=q1;cases r1;refine wpAny_truthy_bool ?_;cases c with
 | true=>exact hb pins s1 σ H1 Q I1 q1
 | false=>exact ⟨.bl false,H1,I1,rfl,q1⟩
theorem RS (ha:PE X a ta):PE X (.UnaryOp .Not a pos) (tNotV ta):=by
 intro pins s σ H Q I h;refine UnaryOp_ (thn (ha pins s σ H _ I h) fun v s1 ⟨x,H1,I1,r1,q1⟩=>?_);obtain ⟨c,rfl,q1⟩:=q1;cases r1;exact not_of (wpAny_truthy_bool ⟨.bl (!c),H1,I1,rfl,q1⟩)
end
end L2
namespace L2
open PySem PySem.Spec PyProof.Rows
def SqL (K:PySem.W.Frag) (H:Hp) (a:Addr) (xs:List V):Prop :=
 Rd H a (.lst xs) \/
  ∃ (o:Obj) (its:Array Value) (n:Nat),K.lookup a=some o/\o.cls=.type "list" /\ o.dict=none/\o.data=.seq its n/\its.size<=sizeLine/\AJ xs its.toList
def SqT (K:PySem.W.Frag) (H:Hp) (a:Addr) (xs:List V):Prop :=
 Rd H a (.tup xs) \/
  ∃ (o:Obj) (its:Array Value) (n:Nat),K.lookup a=some o/\o.cls=.type "tuple" /\ o.data=.seq its n/\its.size<=sizeLine/\AJ xs its.toList
def absV:Value->Option V
 | .none=>some .non
 | .bool b=>some (.bl b)
 | .int i _=>some (.int i)
 | .str x _=>some (.str x)
 | .bytes b _=>some (.byt b)
 | .float b _=>some (.flt b)
 | .ref a=>some (.ref a)
 | .type n=>some (.ty n)
 | _=>none
theorem AX.abs {x:V} {u:Value} (r:AX x u):absV u=some x:=by
 cases x with
 | non=>cases r; rfl
 | bl _=>cases r; rfl
 | int _=>obtain ⟨t,rfl⟩:=r; rfl
 | str _=>obtain ⟨t,rfl⟩:=r; rfl
 | byt _=>obtain ⟨t,rfl⟩:=r; rfl
 | flt _=>obtain ⟨t,rfl⟩:=r; rfl
 | ref _=>cases r; rfl
 | ty _=>cases r; rfl
theorem AX.inj {x y:V} {u:Value} (r:AX x u) (q:AX y u):x=y:=Option.some.inj (r.abs.symm.trans q.abs)
theorem AJ.inj:∀ {xs ys:List V} {us:List Value},AJ xs us->AJ ys us->xs=ys
 | _,_,_,.nil,.nil=>rfl
 | _,_,_,.cons r t,.cons r' t'=>by rw [r.inj r',AJ.inj t t']
section
variable {X:Cx} {pins:List (Addr×Obj)} {σ:St} {H:Hp} {s:Shared} {a:Addr} {xs ys:List V}
theorem SqL.of {K:PySem.W.Frag} (h:H a=some (.lst xs)):SqL K H a xs:=.inl (.inl h)
theorem SqT.of {K:PySem.W.Frag} (h:H a=some (.tup xs)):SqT K H a xs:=.inl (.inl h)
theorem Inv.list (I:Inv X pins σ H s) (h:SqL X.K H a xs):∃ its:List Value,AJ xs its/\PlainL s.heap a its.toArray/\xs.length<=sizeLine:=by
 rcases h with h | ⟨o,its,n,hk,hc,hd,hs,hz,r⟩
 ·obtain ⟨z,its,n,r,e⟩:=h.ok I.hok;exact ⟨its,r,⟨_,n,e,rfl,rfl,rfl⟩,z⟩
 ·refine ⟨its.toList,r,⟨o,n,I.kIn a o hk,hc,hd,by simpa using hs⟩,?_⟩;have e:=r.length;simp only [Array.length_toList] at e;lia
theorem Inv.tuple (I:Inv X pins σ H s) (h:SqT X.K H a xs):∃ its:List Value,AJ xs its/\IsTup s.heap a its.toArray/\xs.length<=sizeLine:=by
 rcases h with h | ⟨o,its,n,hk,hc,hs,hz,r⟩
 ·obtain ⟨z,its,r,p⟩:=h.ok I.hok;exact ⟨its,r,p,z⟩
 ·refine ⟨its.toList,r,⟨o,I.kIn a o hk,hc,n,by simpa using hs⟩,?_⟩;have e:=r.length;simp only [Array.length_toList] at e;lia
theorem Inv.list_inj (I:Inv X pins σ H s) (h:SqL X.K H a xs) (h':SqL X.K H a ys):xs=ys:=by
 obtain ⟨its,r,⟨o,n,e,_,_,d⟩,_⟩:=I.list h;obtain ⟨its',r',⟨o',n',e',_,_,d'⟩,_⟩:=I.list h';rw [e] at e'; cases e';rw [d] at d';injection d' with d1 _
 have:its=its':=by simpa using congrArg Array.toList d1
 subst this;exact r.inj r'
theorem Inv.tuple_inj (I:Inv X pins σ H s) (h:SqT X.K H a xs) (h':SqT X.K H a ys):xs=ys:=by
 obtain ⟨its,r,⟨o,e,_,n,d⟩,_⟩:=I.tuple h;obtain ⟨its',r',⟨o',e',_,n',d'⟩,_⟩:=I.tuple h';rw [e] at e'; cases e';rw [d] at d';injection d' with d1 _
 have:its=its':=by simpa using congrArg Array.toList d1
 subst this;exact r.inj r'
end
abbrev Cx.wish (X:Cx) (E:Value->Shared->Prop):Cx:={ X with xe:=E }
abbrev Cx.nox (X:Cx):Cx:=X.wish fun _ _=>False
theorem Cx.Ok.wish {X:Cx} (ok:X.Ok) (E:Value->Shared->Prop):(X.wish E).Ok :=
 ⟨ok.mod,ok.kind,ok.glob,ok.blt,ok.above,ok.inj,ok.has,ok.cab,ok.hd,ok.frames,ok.stk,ok.exf,ok.bs,ok.bsz,ok.noex,ok.exfs,ok.funs,ok.frf⟩
theorem Cx.Ok.unwish {X:Cx} {E:Value->Shared->Prop} (ok:(X.wish E).Ok):X.Ok :=
 ⟨ok.mod,ok.kind,ok.glob,ok.blt,ok.above,ok.inj,ok.has,ok.cab,ok.hd,ok.frames,ok.stk,ok.exf,ok.bs,ok.bsz,ok.noex,ok.exfs,ok.funs,ok.frf⟩
section
variable {X:Cx} {pins:List (Addr×Obj)} {σ:St} {H:Hp} {s:Shared} {E:Value->Shared->Prop}
theorem Inv.wish (I:Inv X pins σ H s) (E:Value->Shared->Prop):Inv (X.wish E) pins σ H s:=⟨I.ok.wish E,I.os,I.bare,I.base,I.loc,I.cell,I.free,I.freeC,I.pin,I.hok,I.len⟩
theorem Inv.unwish (I:Inv (X.wish E) pins σ H s):Inv X pins σ H s:=⟨I.ok.unwish,I.os,I.bare,I.base,I.loc,I.cell,I.free,I.freeC,I.pin,I.hok,I.len⟩
theorem SP.unwish {D:Ll} {f:Flow} {s':Shared} (h:SP (X.wish E) pins D f s'):SP X pins D f s':=by
 cases f with
 | next=>obtain ⟨σ',H',I,q⟩:=h; exact ⟨σ',H',I.unwish,q⟩
 | brk=>obtain ⟨σ',H',I,q⟩:=h; exact ⟨σ',H',I.unwish,q⟩
 | cont=>obtain ⟨σ',H',I,q⟩:=h; exact ⟨σ',H',I.unwish,q⟩
 | ret u=>obtain ⟨v,σ',H',I,r,q⟩:=h; exact ⟨v,σ',H',I.unwish,r,q⟩
theorem PSs.nox {st:List Stmt} {t:TS} (h:PSs X.nox st t):PSs X st t:=fun pins s σ H D I hw =>
 wpAny_mono (h pins s σ H D (I.wish _) hw) (fun _ _ q=>q.unwish) fun _ _ z=>False.elim z
end
section
variable {X:Cx} {st:Stmt} {rest:List Stmt} {t u:TS} {e:Expr} {te:TE} {pos:Pos}
def tNext:TS:=fun D σ H=>D.nx σ H
def Rr (t u:TS):TS:=fun D σ H=>t { D with nx:=u D } σ H
theorem Aw:PSs X [] tNext:=fun _ _ σ H _ I h=>wpAny_execs_nil ⟨σ,H,I,h⟩
theorem Ab (h1:PS X st t) (h2:PSs X rest u):PSs X (st :: rest) (Rr t u):=by
 intro pins s σ H D I h;refine wpAny_execs_cons (thn (h1 pins s σ H { D with nx:=u D } I h) fun f s1 q=>?_);cases f with
 | next =>
  obtain ⟨σ',H',I',q⟩:=q;exact h2 pins s1 σ' H' D I' q
 | ret v=>exact q
 | brk=>exact q
 | cont=>exact q
theorem Af (h1:PS X st t):PSs X [st] t:=by
 intro pins s σ H D I h;refine wpAny_execs_cons (thn (h1 pins s σ H D I h) fun f s1 q=>?_);cases f with
 | next=>exact wpAny_execs_nil q
 | ret v=>exact q
 | brk=>exact q
 | cont=>exact q
theorem Inv.quiet {pins:List (Addr×Obj)} {σ:St} {H:Hp} {s:Shared} (I:Inv X pins σ H s):interactive X.env=false:=by simp [interactive,I.ok.kind]
def tDrop (te:TE):TS:=fun D σ H=>te σ H fun _ H1=>D.nx σ H1
theorem Dz (he:PE X e te) (hs:swapsWith e none pos.line X.env=pure false:=by rfl):PS X (.Expr e pos) (tDrop te):=by
 intro pins s σ H D I h;exact wpAny_Expr_any (thn (he pins s σ H _ I h) fun v s1 ⟨x,H1,I1,r1,q1⟩=>⟨σ,H1,I1,q1⟩) I.quiet hs
def tRet (te:TE):TS:=fun D σ H=>te σ H D.rt
theorem Ao (he:PE X e te):PS X (.Return (some e) pos) (tRet te):=by
 intro pins s σ H D I h;exact wpAny_Return_some (thn (he pins s σ H _ I h) fun v s1 ⟨x,H1,I1,r1,q1⟩=>⟨x,σ,H1,I1,r1,q1⟩)
def tIfS (c:TT) (t u:TS):TS:=fun D σ H=>c σ H fun b H1=>if b=true then t D σ H1 else u D σ H1
theorem AH {c:Expr} {a b:List Stmt} {tc:TT} (hc:PT X c tc) (ha:PSs X a t) (hb:PSs X b u):PS X (.If c a b pos) (tIfS tc t u):=by
 intro pins s σ H D I h;refine wpAny_If (thn (hc pins s σ H _ I h) fun d s1 ⟨H1,I1,q1⟩=>?_);cases d with
 | true=>exact ha pins s1 σ H1 D I1 q1
 | false=>exact hb pins s1 σ H1 D I1 q1
def tNever:TS:=fun _ _ _=>False
theorem AS:PS X st tNever:=fun _ _ _ _ _ _ h=>h.elim
end
abbrev TG:=V->St->Hp->(St->Hp->Prop)->Prop
abbrev TGs:=List V->St->Hp->(St->Hp->Prop)->Prop
def PG (X:Cx) (target:Expr) (t:TG):Prop :=
 ∀ (pins:List (Addr×Obj)) (s:Shared) (σ:St) (H:Hp) (v:V) (u:Value) (Q:St->Hp->Prop),Inv X pins σ H s->AX v u->t v σ H Q ->
  wpAny (model X.prog X.w) X.A (assign target X.env u) (fun _ s'=>∃ σ' H',Inv X pins σ' H' s'/\Q σ' H') X.xe s
def PGs (X:Cx) (ts:List Expr) (t:TGs):Prop :=
 ∀ (pins:List (Addr×Obj)) (s:Shared) (σ:St) (H:Hp) (vs:List V) (us:List Value) (Q:St->Hp->Prop),Inv X pins σ H s->AJ vs us->t vs σ H Q ->
  wpAny (model X.prog X.w) X.A (assignInOrder ((assignEach ts X.env).map (·.2)) us) (fun _ s'=>∃ σ' H',Inv X pins σ' H' s'/\Q σ' H') X.xe s
section
variable {X:Cx} {pos:Pos}
def GH (i:Nat):TG:=fun v σ H Q=>Q (σ.set i (some v)) H
theorem AY {i:Nat} {x:Str} (hN:X.N.Nodup) (hi:X.N[i]?=some x) (hx:Loc X.env.scope x) (hf:X.fn x=true\/X.env.scope.names.lookup x=some .local:=by first | exact .inl rfl | exact .inr rfl | assumption):PG X (.Name x pos) (GH i):=by
 intro pins s σ H v u Q I r h;exact wpAny_assign_Name (Jz I hN hi hx r (fun s' I'=>⟨_,H,I',h⟩) hf)
def gNil:TGs:=fun vs σ H Q=>vs=[]/\Q σ H
def IU (t:TG) (u:TGs):TGs:=fun vs σ H Q=>∃ v r,vs=v :: r/\t v σ H fun σ' H'=>u r σ' H' Q
theorem El:PGs X [] gNil:=by
 intro pins s σ H vs us Q I r h;obtain ⟨e,h⟩:=h;subst e;cases r;exact assignInOrder_nil ⟨σ,H,I,h⟩
theorem Be {e:Expr} {es:List Expr} {t:TG} {u:TGs} (h1:PG X e t) (h2:PGs X es u)
  (hs:(assignEach (e :: es) X.env).map (·.2)=assign e X.env :: (assignEach es X.env).map (·.2):=by rfl):PGs X (e :: es) (IU t u):=by
 intro pins s σ H vs us Q I r h;obtain ⟨v,vr,e1,h⟩:=h;subst e1;cases r with
 | cons r rr =>
  rw [hs];refine assignInOrder_cons (thn (h1 pins s σ H _ _ _ I r h) fun _ s1 ⟨σ1,H1,I1,q1⟩=>?_);exact h2 pins s1 σ1 H1 _ _ Q I1 rr q1
def gTup (K:PySem.W.Frag) (n:Nat) (t:TGs):TG:=fun v σ H Q=>∃ a xs,v=.ref a/\SqT K H a xs/\xs.length=n/\t xs σ H Q
theorem FB {es:List Expr} {k:Nat} {t:TGs} {n:Nat} (hc:X.calm=true) (h:PGs X es t)
  (hn:(assignEach es X.env).length=n:=by rfl) (hst:(assignEach es X.env).findIdx? (·.1)=none:=by rfl):PG X (.Tuple es k pos) (gTup X.K n t):=by
 intro pins s σ H v u Q I r hw;obtain ⟨a,xs,e1,hq,hl,hw⟩:=hw;subst e1;cases r;obtain ⟨its,rv,ht,hz⟩:=I.tuple hq;refine assign_Tuple_tuple (I.ok.hd hc) ht (by simp [hn,<-hl,rv.length]) hst fun h' hx=>?_;have I1:Inv X pins σ H { s with heap:=h' }:=I.kept (t':=s.toks) fun b o e=>hx b o (Nat.ne_of_lt (Heap.lt_size e)) e;exact h pins _ σ H xs _ Q I1 (by simpa using rv) hw
def tAsg (te:TE) (g:TG):TS:=fun D σ H=>te σ H fun x H1=>g x σ H1 D.nx
theorem Aj {i:Nat} {x:Str} {e:Expr} {te:TE} {pos':Pos} (hN:X.N.Nodup) (hi:X.N[i]?=some x) (hx:Loc X.env.scope x) (he:PE X e te) (hs:swapsWith e (some (.Name x pos')) pos.line X.env=pure false:=by rfl) (hf:X.fn x=true\/X.env.scope.names.lookup x=some .local:=by first | exact .inl rfl | exact .inr rfl | assumption) :
  PS X (.Assign [.Name x pos'] e pos) (tAsg te (GH i)):=by
 intro pins s σ H D I h;refine wpAny_Assign_Name (thn (he pins s σ H _ I h) fun v s1 ⟨y,H1,I1,r1,q1⟩=>?_) hs;exact Jz I1 hN hi hx r1 (fun s2 I2=>⟨_,H1,I2,q1⟩) hf
end
section
variable {X:Cx} {pos:Pos}
def tWhile (c:TT) (tb:TS):TS:=fun D σ H=>∃ W:Nat->St->Hp->Prop,(∃ m,W m σ H)/\∀ m σ H,W m σ H ->
 c σ H fun b H1=>if b=true then ∃ N:St->Hp->Prop,(∀ σ' H',N σ' H'->∃ m',m' < m/\W m' σ' H')/\tb { D with nx:=N,ct:=N,bk:=D.nx } σ H1 else D.nx σ H1
theorem NG {c:Expr} {body:List Stmt} {tc:TT} {tb:TS} (hp:PassesOwn (model X.prog X.w) X.A X.env X.xe) (hc:PT X c tc) (hb:PSs X body tb):PS X (.While c body [] pos) (tWhile tc tb):=by
 intro pins s σ H D I h;obtain ⟨W,⟨m0,w0⟩,turn⟩:=h;refine wpAny_While (codeAny_whileLoop (fun n s'=>∃ σ' H',Inv X pins σ' H' s'/\W n σ' H') ?_ m0 ⟨σ,H,I,w0⟩);rintro n s1 ⟨σ1,H1,I1,w1⟩;refine wpAny_passesOwn hp (thn (hc pins s1 σ1 H1 _ I1 (turn n σ1 H1 w1)) fun b s2 ⟨H2,I2,q2⟩=>?_);cases b with
 | true =>
  obtain ⟨N,hN,q2⟩:=q2;rw [if_pos rfl];refine wpAny_passesOwn hp (thn (hb pins s2 σ1 H2 _ I2 q2) fun f s3 q3=>?_);cases f with
  | next =>
   obtain ⟨σ3,H3,I3,n3⟩:=q3;obtain ⟨m',hm,w3⟩:=hN σ3 H3 n3;exact ⟨m',hm,σ3,H3,I3,w3⟩
  | cont =>
   obtain ⟨σ3,H3,I3,n3⟩:=q3;obtain ⟨m',hm,w3⟩:=hN σ3 H3 n3;exact ⟨m',hm,σ3,H3,I3,w3⟩
  | brk=>exact q3
  | ret v=>exact q3
 | false =>
  rw [if_neg Bool.false_ne_true];exact wpAny_execs_nil ⟨σ1,H2,I2,q2⟩
end
structure It where
 go:Nat->Hp->Prop
 yld:Nat->Hp->V->Hp->Prop
 stop:Nat->Hp->Prop
def Gn (X:Cx) (pins:List (Addr×Obj)) (H:Hp) (b:Addr):Prop :=
 H b=none/\b≠X.env.locals/\b ∉ X.fs/\(b ∈ X.ex\/X.s₀.heap.objs.size<=b)/\(∀ x c,X.env.cells.lookup x=some c->c≠b)/\∀ p ∈ X.pn ++ pins,p.1≠b
theorem Inv.fpOk {X:Cx} {pins:List (Addr×Obj)} {σ:St} {H H':Hp} {s:Shared} {b:Addr} (I:Inv X pins σ H s) (hb:s.heap.objs.size<=b) (hn:H' b=none):Gn X pins H' b:=by
 refine ⟨hn,Nat.ne_of_gt (Nat.lt_of_lt_of_le I.lt hb),I.nofs hb,.inr (Nat.le_trans I.sz hb),fun x c e z=>?_,fun p hp z=>?_⟩
 ·obtain ⟨v,q⟩:=I.cell x c e;exact absurd (Nat.lt_of_lt_of_le q.lt (by rw [z]; exact hb)) (Nat.lt_irrefl _)
 ·exact absurd (Nat.lt_of_lt_of_le (Heap.lt_size (I.pin p hp).1) (by rw [z]; exact hb)) (Nat.lt_irrefl _)
structure Oq (P:Program) (w:World) (K:PySem.W.Frag) (tg:Expr) (J:It) (fp:List Addr) (it:Addr) (tn:Nat->Heap->Prop):Prop where
 mem:it ∈ fp
 obj:∀ i h,tn i h->∀ b ∈ fp,∃ o,h.get? b=some o/\∀ v,o.data≠.cell v
 keep:∀ i h h',tn i h->(∀ b ∈ fp,∀ o,h.get? b=some o->h'.get? b=some o)->tn i h'
 item:∀ (X:Cx),X.prog=P->X.w=w->X.K=K->X.calm=true->∀ (i:Nat) (pins:List (Addr×Obj)) (s:Shared) (σ:St) (H:Hp) (E:Value->Shared->Prop),Inv X pins σ H s->(∀ b ∈ fp,Gn X pins H b)->tn i s.heap->J.go i H ->
  wpAny (model P w) X.A (pyNext (.ref it)) (fun r s1=>∃ u,r=some u /\
   wpAny (model P w) X.A (letOwnedTupleGo tg (.ref it) u) (fun _ s2=>∃ x H',Inv X pins σ H' s2/\AX x u/\J.yld i H x H'/\tn (i+1) s2.heap/\∀ b ∈ fp,H' b=none) E s1) E s
 done:∀ (X:Cx),X.prog=P->X.w=w->X.K=K->X.calm=true->∀ (i:Nat) (pins:List (Addr×Obj)) (s:Shared) (σ:St) (H:Hp) (E:Value->Shared->Prop),Inv X pins σ H s->(∀ b ∈ fp,Gn X pins H b)->tn i s.heap->J.stop i H ->
  wpAny (model P w) X.A (pyNext (.ref it)) (fun r s1=>r=none/\Inv X pins σ H s1) E s
 self:∀ (A:Around) (i:Nat) (s:Shared) (Q:Value->Shared->Prop) (E:Value->Shared->Prop),tn i s.heap->Q (.ref it) s->wpAny (model P w) A (pyIter (.ref it)) Q E s
abbrev TI:=St->Hp->(It->Hp->Prop)->Prop
def PIE (X:Cx) (pins:List (Addr×Obj)) (σ:St) (tg:Expr) (R:It->Hp->Prop) (itv:Value) (s2:Shared):Prop :=
 ∃ (it:Addr) (fp:List Addr) (tn:Nat->Heap->Prop) (J:It) (H':Hp),itv=.ref it/\Inv X pins σ H' s2/\Oq X.prog X.w X.K tg J fp it tn/\tn 0 s2.heap/\(∀ b ∈ fp,Gn X pins H' b)/\R J H'
def PI (X:Cx) (tg iter:Expr) (wi:TI):Prop :=
 ∀ (pins:List (Addr×Obj)) (s:Shared) (σ:St) (H:Hp) (R:It->Hp->Prop),Inv X pins σ H s->wi σ H R ->
  wpAny (model X.prog X.w) X.A (eval iter X.env) (fun v s1=>wpAny (model X.prog X.w) X.A (pyIter v) (PIE X pins σ tg R) X.xe s1) X.xe s
theorem PJ {M:Model} {A:Around} {E:Value->Shared->Prop} {s:Shared} {tg:Expr} {it:Addr} {u:Value} {o:Obj} {n:String} {vs:Array Value} {Q:Unit->Shared->Prop} (ho:s.heap.get? it=some o) (hc:o.cls=.type n) (hd:o.data=.fields vs)
    (hn:["enumerate","zip","dict_itemiterator","dict_reverseitemiterator","odict_iterator","itertools.zip_longest","itertools.pairwise"].contains n=false) (hQ:Q () s):wpAny M A (letOwnedTupleGo tg (.ref it) u) Q E s:=by
  unfold letOwnedTupleGo;cases tg<;>first
    | exact wpAny_pure hQ
    | (cases u<;>first
        | exact wpAny_pure hQ
        | (refine wpAny_bind (wpAny_load ho ?_)
           rw [hc,hd];show wpAny M A (if (["enumerate","zip","dict_itemiterator","dict_reverseitemiterator","odict_iterator","itertools.zip_longest","itertools.pairwise"].contains n && vs[0]? == some (rawInt _))=true then _ else _) Q E s;rw [if_neg (by intro h; rw [hn,Bool.false_and] at h; cases h)];exact wpAny_pure hQ))
def Itl (K:PySem.W.Frag) (a:Addr):It :=
 ⟨fun i H=>∃ xs x,SqL K H a xs/\xs[i]?=some x,fun i H x H'=>H'=H/\∀ xs,SqL K H a xs->xs[i]?=some x,fun i H=>∃ xs,SqL K H a xs/\xs.length<=i⟩
def Itt (K:PySem.W.Frag) (a:Addr):It :=
 ⟨fun i H=>∃ xs x,SqT K H a xs/\xs[i]?=some x,fun i H x H'=>H'=H/\∀ xs,SqT K H a xs->xs[i]?=some x,fun i H=>∃ xs,SqT K H a xs/\xs.length<=i⟩
def Itr (lo:Int) (n:Nat):It:=⟨fun i _=>i < n,fun i H x H'=>H'=H/\x=.int (lo+i),fun i _=>n<=i⟩
theorem Qj {P:Program} {w:World} {K:PySem.W.Frag} {tg:Expr} (a it:Addr):Oq P w K tg (Itl K a) [it] it (fun i h=>h.IsListIter it a i) where
 mem:=by simp
 obj:=fun i h st b hb=>by
  have e:b=it:=by simpa using hb
  subst e;obtain ⟨o,e,c,d⟩:=st;exact ⟨o,e,fun v z=>by rw [d] at z; cases z⟩
 keep:=fun i h h' st k=>st.at fun o e=>k it (by simp) o e
 item:=by
  intro X hP hw hK hc i pins s σ H E I hf st hg;subst hP hw hK;obtain ⟨xs,x,hq,hx⟩:=hg;obtain ⟨its,rv,p,hz⟩:=I.list hq;obtain ⟨u,hu,ru⟩:=rv.get hx;obtain ⟨f0,f1,f2,f3,f4,f5⟩:=hf it (by simp);refine wpAny_pyNext_list_item st p.isList (x:=u) (by simpa using hu) fun h' st' sb=>?_;have I1:Inv X pins σ H { s with heap:=h' }:=I.turned (t':=s.toks) (fun b o hb e=>(sb.2 b hb).trans e) f0 f1 f3 f4 f5;obtain ⟨o,e,c,d⟩:=id st';exact ⟨u,rfl,PJ (s:={ s with heap:=h' }) e c d (by decide) ⟨x,H,I1,ru,⟨rfl,fun ys hy=>by rw [I.list_inj hy hq]; exact hx⟩,st',fun b hb=>(hf b hb).1⟩⟩
 done:=by
  intro X hP hw hK hc i pins s σ H E I hf st hg;subst hP hw hK;obtain ⟨xs,hq,hx⟩:=hg;obtain ⟨its,rv,p,hz⟩:=I.list hq;obtain ⟨f0,f1,f2,f3,f4,f5⟩:=hf it (by simp);have hl:=rv.length;exact wpAny_pyNext_list_end (I.ok.hd hc) st p.isList (by simp; lia) fun h' eb=>⟨rfl,I.turned (t':=s.toks) (fun b o hb e=>eb b o hb e) f0 f1 f3 f4 f5⟩
 self:=fun _ _ _ _ _ st h=>wpAny_pyIter_listiter st h
theorem Ov {P:Program} {w:World} {K:PySem.W.Frag} {tg:Expr} (a it:Addr):Oq P w K tg (Itt K a) [it] it (fun i h=>h.IsTupleIter it a i) where
 mem:=by simp
 obj:=fun i h st b hb=>by
  have e:b=it:=by simpa using hb
  subst e;obtain ⟨o,e,c,d⟩:=st;exact ⟨o,e,fun v z=>by rw [d] at z; cases z⟩
 keep:=fun i h h' st k=>st.at fun o e=>k it (by simp) o e
 item:=by
  intro X hP hw hK hc i pins s σ H E I hf st hg;subst hP hw hK;obtain ⟨xs,x,hq,hx⟩:=hg;obtain ⟨its,rv,p,hz⟩:=I.tuple hq;obtain ⟨u,hu,ru⟩:=rv.get hx;obtain ⟨f0,f1,f2,f3,f4,f5⟩:=hf it (by simp);refine wpAny_pyNext_tuple_item st (show s.heap.IsTuple a its.toArray from p) (x:=u) (by simpa using hu) fun h' st' sb=>?_;have I1:Inv X pins σ H { s with heap:=h' }:=I.turned (t':=s.toks) (fun b o hb e=>(sb.2 b hb).trans e) f0 f1 f3 f4 f5;obtain ⟨o,e,c,d⟩:=id st';exact ⟨u,rfl,PJ (s:={ s with heap:=h' }) e c d (by decide) ⟨x,H,I1,ru,⟨rfl,fun ys hy=>by rw [I.tuple_inj hy hq]; exact hx⟩,st',fun b hb=>(hf b hb).1⟩⟩
 done:=by
  intro X hP hw hK hc i pins s σ H E I hf st hg;subst hP hw hK;obtain ⟨xs,hq,hx⟩:=hg;obtain ⟨its,rv,p,hz⟩:=I.tuple hq;obtain ⟨f0,f1,f2,f3,f4,f5⟩:=hf it (by simp);have hl:=rv.length;exact wpAny_pyNext_tuple_end (I.ok.hd hc) st (show s.heap.IsTuple a its.toArray from p) (by simp; lia) fun h' eb=>⟨rfl,I.turned (t':=s.toks) (fun b o hb e=>eb b o hb e) f0 f1 f3 f4 f5⟩
 self:=fun _ _ _ _ _ st h=>wpAny_pyIter_tupleiter st h
theorem Ow {P:Program} {w:World} {K:PySem.W.Frag} {tg:Expr} (it:Addr) (lo:Int) (n:Nat):Oq P w K tg (Itr lo n) [it] it (fun i h=>IsRangeIter h it (lo+(i:Nat) * 1) ((n:Int) - (i:Nat)) 1) where
 mem:=by simp
 obj:=fun i h st b hb=>by
  have e:b=it:=by simpa using hb
  subst e;exact ⟨_,st,fun v z=>by
   have z':Data.fields _=Data.cell v:=z;cases z'⟩
 keep:=fun i h h' st k=>k it (by simp) _ st
 item:=by
  intro X hP hw hK hc i pins s σ H E I hf st hg;subst hP hw hK;obtain ⟨f0,f1,f2,f3,f4,f5⟩:=hf it (by simp);have W:=Walks.range (prog:=X.prog) (w:=X.w) (I.ok.hd hc) it lo 1 n;refine W.item i s _ _ hg st fun v h' tk hv st' kk=>?_;obtain ⟨t,rfl⟩:=hv;have I1:Inv X pins σ H { s with heap:=h',toks:=tk }:=I.turned (fun b o hb e=>kk b o (by simpa using hb) e) f0 f1 f3 f4 f5;refine ⟨_,rfl,PJ (s:={ s with heap:=h',toks:=tk }) (n:="range_iterator") st' rfl rfl (by decide) ⟨.int (lo+i),H,I1,⟨t,?_⟩,⟨rfl,rfl⟩,st',fun b hb=>(hf b hb).1⟩⟩;rw [Int.mul_one]
 done:=by
  intro X hP hw hK hc i pins s σ H E I hf st hg;subst hP hw hK;obtain ⟨f0,f1,f2,f3,f4,f5⟩:=hf it (by simp);exact wpAny_pyNext_range_end (I.ok.hd hc) st (by have:n<=i:=hg; lia) fun h' eb=>⟨rfl,I.turned (t':=s.toks) (fun b o hb e=>eb b o hb e) f0 f1 f3 f4 f5⟩
 self:=fun _ _ _ _ _ st h=>wpAny_pyIter_rangeiter st h
end L2
namespace L2
open PySem PySem.Spec PyProof.Rows
section
variable {X:Cx} {tg:Expr}
def iList (K:PySem.W.Frag) (tl:TE):TI:=fun σ H R=>tl σ H fun x H1=>∃ a,x=.ref a/\(∃ xs,SqL K H1 a xs)/\R (Itl K a) H1
def iTup (K:PySem.W.Frag) (tl:TE):TI:=fun σ H R=>tl σ H fun x H1=>∃ a,x=.ref a/\(∃ xs,SqT K H1 a xs)/\R (Itt K a) H1
theorem Jr {l:Expr} {tl:TE} (hl:PE X l tl):PI X tg l (iList X.K tl):=by
 intro pins s σ H R I h;refine thn (hl pins s σ H _ I h) fun v s1 ⟨x,H1,I1,r1,q1⟩=>?_;obtain ⟨a,e,⟨xs,hq⟩,q⟩:=q1;subst e;cases r1;obtain ⟨its,rv,p,hz⟩:=I1.list hq;refine wpAny_pyIter_list p.isList ?_;refine ⟨s1.heap.objs.size,[s1.heap.objs.size],_,_,H1,rfl,I1.kept (t':=s1.toks) fun b o e=>Heap.get?_push_of_some _ e,Qj a _,⟨_,Heap.get?_push_size _ rfl,rfl,rfl⟩,fun b hb=>?_,q⟩;have e:b=s1.heap.objs.size:=by simpa using hb
 subst e;exact I1.fpOk (Nat.le_refl _) (I1.hok.fresh (Nat.le_refl _))
theorem RN {l:Expr} {tl:TE} (hl:PE X l tl):PI X tg l (iTup X.K tl):=by
 intro pins s σ H R I h;refine thn (hl pins s σ H _ I h) fun v s1 ⟨x,H1,I1,r1,q1⟩=>?_;obtain ⟨a,e,⟨xs,hq⟩,q⟩:=q1;subst e;cases r1;obtain ⟨its,rv,p,hz⟩:=I1.tuple hq;refine wpAny_pyIter_tuple (show s1.heap.IsTuple a its.toArray from p) ?_;refine ⟨s1.heap.objs.size,[s1.heap.objs.size],_,_,H1,rfl,I1.kept (t':=s1.toks) fun b o e=>Heap.get?_push_of_some _ e,Ov a _,⟨_,Heap.get?_push_size _ rfl,rfl,rfl⟩,fun b hb=>?_,q⟩;have e:b=s1.heap.objs.size:=by simpa using hb
 subst e;exact I1.fpOk (Nat.le_refl _) (I1.hok.fresh (Nat.le_refl _))
theorem ND {pins:List (Addr×Obj)} {σ:St} {H:Hp} {s:Shared} {R:It->Hp->Prop} {E:Value->Shared->Prop} {lo hi:Int} {t u v:Tok} {tk:Nat} (I:Inv X pins σ H s) (h1:-(2 ^ 62)<=lo) (h2:lo < 2 ^ 62) (h3:-(2 ^ 62)<=hi) (h4:hi < 2 ^ 62)
  (q:R (Itr lo (hi - lo).toNat) H):wpAny (model X.prog X.w) X.A (pyIter (.ref s.heap.objs.size)) (PIE X pins σ tg R) E { s with heap:=s.heap.push { cls:=.type "range",data:=.fields #[.int lo t,.int hi u,.int 1 v] },toks:=tk }:=by
 refine wpAny_pyIter_range (IsRange.new ..) (small_one h1 h2 h3 h4) ?_;have I1:Inv X pins σ H { s with heap:=s.heap.push { cls:=.type "range",data:=.fields #[.int lo t,.int hi u,.int 1 v] },toks:=tk }:=I.kept fun b o e=>Heap.get?_push_of_some _ e;refine ⟨(s.heap.push { cls:=.type "range",data:=.fields #[.int lo t,.int hi u,.int 1 v] }).objs.size,[(s.heap.push { cls:=.type "range",data:=.fields #[.int lo t,.int hi u,.int 1 v] }).objs.size],_,_,H,rfl,
  I1.kept (t':=tk) fun b o e=>Heap.get?_push_of_some _ e,Ow _ lo (hi - lo).toNat,?_,fun b hb=>?_,q⟩
 ·have e1:lo+((0:Nat):Int) * 1=lo:=by simp
  have e2:(((hi - lo).toNat:Nat):Int) - ((0:Nat):Int)=Builtin.Range.rangeSize lo hi 1:=by rw [rangeSize_one]; split<;>lia
  show IsRangeIter _ _ (lo+((0:Nat):Int) * 1) ((((hi - lo).toNat:Nat):Int) - ((0:Nat):Int)) 1;rw [e1,e2];exact Heap.get?_push_size _ rfl
 ·have e:b=(s.heap.push { cls:=.type "range",data:=.fields #[.int lo t,.int hi u,.int 1 v] }).objs.size:=by simpa using hb
  subst e;exact I1.fpOk (Nat.le_refl _) (I1.hok.fresh (Nat.le_refl _))
def iRng1 (ta:TA):TI:=fun σ H R=>ta σ H fun vs H1=>∃ j:Int,vs=[.int j]/\-(2 ^ 62)<=j/\j < 2 ^ 62/\R (Itr 0 j.toNat) H1
def iRng2 (ta:TA):TI:=fun σ H R=>ta σ H fun vs H1=>∃ i j:Int,vs=[.int i,.int j]/\(-(2 ^ 62)<=i/\i < 2 ^ 62/\-(2 ^ 62)<=j/\j < 2 ^ 62)/\R (Itr i (j - i).toNat) H1
theorem Fg {a:Expr} {ta:TA} {p pos:Pos} (hg:Gl X "range") (hm:X.mg "range" = none) (ha:PA X [a] ta) (hs:starEach [a] X.env=[(false,eval a X.env)]:=by rfl):PI X tg (.Call (.Name "range" p) [a] [] pos) (iRng1 ta):=by
 intro pins s σ H R I h;refine Call_ (IE I hg hm boot_range (PyProof.Rows.callWith_type1 (thn (ha pos pins s σ H _ I h) fun us s1 ⟨vs,H1,I1,r1,q1⟩=>?_) hs rfl));obtain ⟨j,e,q1,q2,q⟩:=q1;subst e;cases r1 with
 | cons r rr =>
  cases rr;obtain ⟨t,rfl⟩:=r;exact call_range_1 (ND I1 (by lia) (by lia) q1 q2 (by simpa using q))
theorem Qs {a b:Expr} {ta:TA} {p pos:Pos} (hg:Gl X "range") (hm:X.mg "range" = none) (ha:PA X [a,b] ta) (hs:starEach [a,b] X.env=[(false,eval a X.env),(false,eval b X.env)]:=by rfl) (hs2:starEach [b] X.env=[(false,eval b X.env)]:=by rfl) :
  PI X tg (.Call (.Name "range" p) [a,b] [] pos) (iRng2 ta):=by
 intro pins s σ H R I h;refine Call_ (IE I hg hm boot_range (PyProof.Rows.callWith_type1 (thn (ha pos pins s σ H _ I h) fun us s1 ⟨vs,H1,I1,r1,q1⟩=>?_) (by rw [hs,hs2]) (by rw [hs2]; rfl)));obtain ⟨i,j,e,⟨q1,q2,q3,q4⟩,q⟩:=q1;subst e;cases r1 with
 | cons r rr =>
  cases rr with
  | cons r' rr =>
   cases rr;obtain ⟨t,rfl⟩:=r;obtain ⟨t',rfl⟩:=r';exact call_range_2 (ND I1 q1 q2 q3 q4 q)
def tFor (wi:TI) (g:TG) (tb:TS):TS:=fun D σ H=>wi σ H fun J H1=>∃ W:Nat->Nat->St->Hp->Prop,(∃ m,W 0 m σ H1)/\∀ i m σ H,W i m σ H ->
 (J.stop i H/\D.nx σ H)\/(J.go i H/\∃ N:St->Hp->Prop,(∀ σ' H',N σ' H'->∃ m',m' < m/\W (i+1) m' σ' H')/\∀ x H',J.yld i H x H'->g x σ H' fun σ2 H2=>tb { D with nx:=N,ct:=N,bk:=D.nx } σ2 H2)
def Iu (fp:List Addr) (h:Heap):List (Addr×Obj):=fp.filterMap fun b=>(h.get? b).map fun o=>(b,o)
theorem FG {fp:List Addr} {h:Heap} {b:Addr} {o:Obj} (hb:b ∈ fp) (e:h.get? b=some o):(b,o) ∈ Iu fp h:=List.mem_filterMap.mpr ⟨b,hb,by rw [e]; rfl⟩
theorem LO {fp:List Addr} {h:Heap} {p:Addr×Obj} (hp:p ∈ Iu fp h):p.1 ∈ fp/\h.get? p.1=some p.2:=by
 obtain ⟨b,hb,e⟩:=List.mem_filterMap.mp hp;cases q:h.get? b with
 | none=>rw [q] at e; cases e
 | some o =>
  rw [q] at e;have e':(b,o)=p:=Option.some.inj e;subst e';exact ⟨hb,q⟩
theorem Inv.pinned {pins:List (Addr×Obj)} {σ:St} {H:Hp} {s:Shared} {fp:List Addr} (I:Inv X pins σ H s) (hf:∀ b ∈ fp,Gn X pins H b) (ho:∀ b ∈ fp,∃ o,s.heap.get? b=some o/\∀ v,o.data≠.cell v):Inv X (pins ++ Iu fp s.heap) σ H s :=
 I.pins_of fun p hp=>(List.mem_append.mp hp).elim (fun z=>I.pin p (List.mem_append_right _ z)) fun z=>by
  obtain ⟨hb,e⟩:=LO z;obtain ⟨f0,f1,f2,_⟩:=hf p.1 hb;obtain ⟨o,e',d⟩:=ho p.1 hb;rw [e] at e'; cases e';exact ⟨e,f0,f1,f2,d⟩
theorem Inv.unpinned {pins pl:List (Addr×Obj)} {σ:St} {H:Hp} {s:Shared} (I:Inv X (pins ++ pl) σ H s):Inv X pins σ H s:=I.pins_of fun p hp=>I.pin p (List.mem_append_right _ (List.mem_append_left _ hp))
theorem Dy {iter:Expr} {body:List Stmt} {wi:TI} {g:TG} {tb:TS} {pos:Pos} (hp:PassesOwn (model X.prog X.w) X.A X.env X.xe) (hc:X.calm=true) (hi:PI X tg iter wi) (hg:PG X tg g) (hb:PSs X body tb)
  (hs:∀ x,foldedSetIterable iter X.env x=pure x:=by intro _; rfl):PS X (.For tg iter body [] pos) (tFor wi g tb):=by
 intro pins s σ H D I h;refine wpAny_For (thn (hi pins s σ H _ I h) fun v s1 h1=>thn h1 fun itv s2 h2=>?_) hs;obtain ⟨it,fp,tn,J,H2,e,I2,T,st2,f2,W,⟨m0,w0⟩,turn⟩:=h2;subst e;have stat:∀ {H':Hp},(∀ b ∈ fp,H' b=none)->∀ b ∈ fp,Gn X pins H' b:=fun hn b hb=>⟨hn b hb,(f2 b hb).2⟩
 refine codeAny_forLoop_any (fun n s'=>∃ i σ' H',Inv X pins σ' H' s'/\tn i s'.heap/\(∀ b ∈ fp,H' b=none)/\W i n σ' H') ?_ m0 ⟨0,σ,H2,I2,st2,fun b hb=>(f2 b hb).1,w0⟩;rintro n s3 ⟨i,σ3,H3,I3,st3,fr3,w3⟩;rcases turn i n σ3 H3 w3 with ⟨stop,qn⟩ | ⟨go,N,hN,step⟩
 ·refine wpAny_passesOwn hp (thn (T.done X rfl rfl rfl hc i pins s3 σ3 H3 X.xe I3 (stat fr3) st3 stop) fun r s4 ⟨hr,I4⟩=>?_);subst hr;exact wpAny_execs_nil ⟨σ3,H3,I4,qn⟩
 ·refine wpAny_passesOwn hp (thn (T.item X rfl rfl rfl hc i pins s3 σ3 H3 X.xe I3 (stat fr3) st3 go) fun r s4 ⟨u,hr,h4⟩=>?_);subst hr;refine wpAny_passesOwn hp (thn h4 fun _ s5 ⟨x,H5,I5,r5,y5,st5,fr5⟩=>?_);have I5':=I5.pinned (stat fr5) (T.obj _ _ st5);refine wpAny_passesOwn hp (thn (hg _ s5 σ3 H5 x u _ I5' r5 (step x H5 y5)) fun _ s6 ⟨σ6,H6,I6,q6⟩=>?_);refine wpAny_passesOwn hp (thn (hb _ s6 σ6 H6 _ I6 q6) fun f s7 q7=>?_);have again:∀ {σ7:St} {H7:Hp},Inv X (pins ++ Iu fp s5.heap) σ7 H7 s7->N σ7 H7->∃ m,m < n/\∃ i σ' H',Inv X pins σ' H' s7/\tn i s7.heap/\(∀ b ∈ fp,H' b=none)/\W i m σ' H':=fun {σ7 H7} I7 n7=>by
   obtain ⟨m',hm,w7⟩:=hN σ7 H7 n7;refine ⟨m',hm,i+1,σ7,H7,I7.unpinned,T.keep _ _ _ st5 fun b hb o e=>(I7.pin (b,o) (List.mem_append_right _ (List.mem_append_right _ (FG hb e)))).1,fun b hb=>?_,w7⟩;obtain ⟨o,e,d⟩:=T.obj _ _ st5 b hb;exact (I7.pin (b,o) (List.mem_append_right _ (List.mem_append_right _ (FG hb e)))).2.1
  cases f with
  | next=>obtain ⟨σ7,H7,I7,n7⟩:=q7; exact again I7 n7
  | cont=>obtain ⟨σ7,H7,I7,n7⟩:=q7; exact again I7 n7
  | brk=>obtain ⟨σ7,H7,I7,q7⟩:=q7; exact ⟨σ7,H7,I7.unpinned,q7⟩
  | ret v=>obtain ⟨x7,σ7,H7,I7,r7,q7⟩:=q7; exact ⟨x7,σ7,H7,I7.unpinned,r7,q7⟩
end
theorem JY {K:PySem.W.Frag} {a:Addr} {xs:List V} {g:TG} {tb:TS} {D:Ll} {σ:St} {H:Hp} (Pv:Nat->St->Hp->Prop) (h0:Pv 0 σ H) (hl:∀ i σ H,i<=xs.length->Pv i σ H->SqL K H a xs)
  (hs:∀ i x σ H,xs[i]?=some x->Pv i σ H->g x σ H fun σ2 H2=>tb { D with nx:=Pv (i+1),ct:=Pv (i+1),bk:=D.nx } σ2 H2) (hd:∀ σ H,Pv xs.length σ H->D.nx σ H) :
  ∃ W:Nat->Nat->St->Hp->Prop,(∃ m,W 0 m σ H)/\∀ i m σ H,W i m σ H ->
   ((Itl K a).stop i H/\D.nx σ H)\/((Itl K a).go i H/\∃ N:St->Hp->Prop,(∀ σ' H',N σ' H'->∃ m',m' < m/\W (i+1) m' σ' H')/\∀ x H',(Itl K a).yld i H x H'->g x σ H' fun σ2 H2=>tb { D with nx:=N,ct:=N,bk:=D.nx } σ2 H2):=by
 refine ⟨fun i m σ H=>m=xs.length - i/\i<=xs.length/\Pv i σ H,⟨xs.length,by simp,Nat.zero_le _,h0⟩,?_⟩;rintro i m σ H ⟨rfl,hi,p⟩;have q:=hl i σ H hi p;by_cases hlt:i < xs.length
 ·refine .inr ⟨⟨xs,xs[i],q,by simp [hlt]⟩,Pv (i+1),fun σ' H' p'=>⟨xs.length - (i+1),by lia,rfl,hlt,p'⟩,fun x H' y=>?_⟩;obtain ⟨e,y⟩:=y;subst e;exact hs i x σ _ (y xs q) p
 ·have e:i=xs.length:=by lia
  subst e;exact .inl ⟨⟨xs,q,Nat.le_refl _⟩,hd σ H p⟩
theorem Fn {lo:Int} {n:Nat} {g:TG} {tb:TS} {D:Ll} {σ:St} {H:Hp} (Pv:Nat->St->Hp->Prop) (h0:Pv 0 σ H)
  (hs:∀ i σ H,i < n->Pv i σ H->g (.int (lo+i)) σ H fun σ2 H2=>tb { D with nx:=Pv (i+1),ct:=Pv (i+1),bk:=D.nx } σ2 H2) (hd:∀ σ H,Pv n σ H->D.nx σ H) :
  ∃ W:Nat->Nat->St->Hp->Prop,(∃ m,W 0 m σ H)/\∀ i m σ H,W i m σ H ->
   ((Itr lo n).stop i H/\D.nx σ H)\/((Itr lo n).go i H/\∃ N:St->Hp->Prop,(∀ σ' H',N σ' H'->∃ m',m' < m/\W (i+1) m' σ' H')/\∀ x H',(Itr lo n).yld i H x H'->g x σ H' fun σ2 H2=>tb { D with nx:=N,ct:=N,bk:=D.nx } σ2 H2):=by
 refine ⟨fun i m σ H=>m=n - i/\i<=n/\Pv i σ H,⟨n,by simp,Nat.zero_le _,h0⟩,?_⟩;rintro i m σ H ⟨rfl,hi,p⟩;by_cases hlt:i < n
 ·refine .inr ⟨hlt,Pv (i+1),fun σ' H' p'=>⟨n - (i+1),by lia,rfl,hlt,p'⟩,fun x H' y=>?_⟩;obtain ⟨e,y⟩:=y;subst e y;exact hs i σ _ hlt p
 ·have e:i=n:=by lia
  subst e;exact .inl ⟨Nat.le_refl _,hd σ H p⟩
end L2
namespace L2
open PySem PySem.Spec PyProof.Rows
abbrev R2:=V->V->Hp->VK->Prop
def OpR (X:Cx) (f:Value->Value->Sem Value) (r:R2):Prop :=
 ∀ (pins:List (Addr×Obj)) (s:Shared) (σ:St) (H:Hp) (x y:V) (v u:Value) (Q:VK),Inv X pins σ H s->AX x v->AX y u->r x y H Q ->
  wpAny (model X.prog X.w) X.A (f v u) (EP X pins σ Q) X.xe s
def UnR (X:Cx) (f:Value->Sem Value) (r:V->Hp->VK->Prop):Prop :=
 ∀ (pins:List (Addr×Obj)) (s:Shared) (σ:St) (H:Hp) (x:V) (v:Value) (Q:VK),Inv X pins σ H s->AX x v->r x H Q ->
  wpAny (model X.prog X.w) X.A (f v) (EP X pins σ Q) X.xe s
def EQ (X:Cx) (f:Value) (r:List V->Hp->VK->Prop):Prop :=
 ∀ (pins:List (Addr×Obj)) (s:Shared) (σ:St) (H:Hp) (xs:List V) (us:List Value) (Q:VK),Inv X pins σ H s->AJ xs us->r xs H Q ->
  wpAny (model X.prog X.w) X.A (call f us) (EP X pins σ Q) X.xe s
def tOp (r:R2) (ta tb:TE):TE:=fun σ H Q=>ta σ H fun x H1=>tb σ H1 fun y H2=>r x y H2 Q
def tUn (r:V->Hp->VK->Prop) (ta:TE):TE:=fun σ H Q=>ta σ H fun x H1=>r x H1 Q
def rI (C:Int->Int->Prop) (g:Int->Int->V):R2:=fun x y H Q=>∃ i j,x=.int i/\y=.int j/\C i j/\Q (g i j) H
def rI0 (g:Int->Int->V):R2:=fun x y H Q=>∃ i j,x=.int i/\y=.int j/\Q (g i j) H
def rU (g:Int->V):V->Hp->VK->Prop:=fun x H Q=>∃ i,x=.int i/\Q (g i) H
section
variable {X:Cx} {a b c:Expr} {ta tb tc:TE} {pos:Pos}
theorem binT (ha:PE X a ta) (hb:PE X b tb) {pins:List (Addr×Obj)} {s:Shared} {σ:St} {H:Hp} {R:V->V->Hp->Prop} (I:Inv X pins σ H s)
  (h:ta σ H fun x H1=>tb σ H1 fun y H2=>R x y H2) {Q:Value->Shared->Prop} {f:Value->Value->Sem Value}
  (hf:∀ v u s2 x y H2,Inv X pins σ H2 s2->AX x v->AX y u->R x y H2->wpAny (model X.prog X.w) X.A (f v u) Q X.xe s2) :
  wpAny (model X.prog X.w) X.A (eval a X.env) (fun v s₁=>wpAny (model X.prog X.w) X.A (eval b X.env) (fun u s₂=>wpAny (model X.prog X.w) X.A (f v u) Q X.xe s₂) X.xe s₁) X.xe s:=by
 refine thn (ha pins s σ H _ I h) fun v s1 ⟨x,H1,I1,r1,q1⟩=>?_;refine thn (hb pins s1 σ H1 _ I1 q1) fun u s2 ⟨y,H2,I2,r2,q2⟩=>?_;exact hf v u s2 x y H2 I2 r1 r2 q2
theorem AA {op:Operator} {r:R2} (ho:OpR X (binaryOp op) r) (ha:PE X a ta) (hb:PE X b tb):PE X (.BinOp a op b pos) (tOp r ta tb):=by
 intro pins s σ H Q I h;exact wpAny_BinOp (binT ha hb I h fun v u s2 x y H2 I2 rx ry q=>ho pins s2 σ H2 x y v u Q I2 rx ry q)
theorem LM {op:UnaryOp} {r:V->Hp->VK->Prop} (ho:UnR X (unaryOp op) r) (ha:PE X a ta):PE X (.UnaryOp op a pos) (tUn r ta):=by
 intro pins s σ H Q I h;exact UnaryOp_ (thn (ha pins s σ H _ I h) fun v s1 ⟨x,H1,I1,r1,q1⟩=>ho pins s1 σ H1 x v Q I1 r1 q1)
theorem opI {f:Value->Value->Sem Value} {C:Int->Int->Prop} {g:Int->Int->Int}
  (rule:∀ (i j:Int) (t u:Tok) (s:Shared) (Q:Value->Shared->Prop) (E:Value->Shared->Prop),C i j->Q (.int (g i j) s.toks) { s with toks:=s.toks+1 }->wpAny (model X.prog X.w) X.A (f (.int i t) (.int j u)) Q E s) :
  OpR X f (rI C fun i j=>.int (g i j)):=by
 intro pins s σ H x y v u Q I rx ry h;obtain ⟨i,j,rfl,rfl,hc,q⟩:=h;obtain ⟨t,rfl⟩:=rx;obtain ⟨t',rfl⟩:=ry;exact rule i j t t' s _ _ hc ⟨.int (g i j),H,I.tok _,⟨_,rfl⟩,q⟩
theorem opI0 {f:Value->Value->Sem Value} {g:Int->Int->Int}
  (rule:∀ (i j:Int) (t u:Tok) (s:Shared) (Q:Value->Shared->Prop) (E:Value->Shared->Prop),Q (.int (g i j) s.toks) { s with toks:=s.toks+1 }->wpAny (model X.prog X.w) X.A (f (.int i t) (.int j u)) Q E s) :
  OpR X f (rI0 fun i j=>.int (g i j)):=by
 intro pins s σ H x y v u Q I rx ry h;obtain ⟨i,j,rfl,rfl,q⟩:=h;obtain ⟨t,rfl⟩:=rx;obtain ⟨t',rfl⟩:=ry;exact rule i j t t' s _ _ ⟨.int (g i j),H,I.tok _,⟨_,rfl⟩,q⟩
theorem opB0 {f:Value->Value->Sem Value} {g:Int->Int->Bool}
  (rule:∀ (i j:Int) (t u:Tok) (s:Shared) (Q:Value->Shared->Prop) (E:Value->Shared->Prop),Q (.bool (g i j)) s->wpAny (model X.prog X.w) X.A (f (.int i t) (.int j u)) Q E s) :
  OpR X f (rI0 fun i j=>.bl (g i j)):=by
 intro pins s σ H x y v u Q I rx ry h;obtain ⟨i,j,rfl,rfl,q⟩:=h;obtain ⟨t,rfl⟩:=rx;obtain ⟨t',rfl⟩:=ry;exact rule i j t t' s _ _ ⟨.bl (g i j),H,I,rfl,q⟩
def CDiv (i j:Int):Prop:=0 < j/\j < 1073741824
def CPow (i j:Int):Prop:=0<=j/\j<=1000000/\i.natAbs < 2 ^ 64
def CMul (i j:Int):Prop:=(-(2 ^ 64) < i/\i < 2 ^ 64)\/(-(2 ^ 64) < j/\j < 2 ^ 64)
theorem CMul.ok {i j:Int} (h:CMul i j):IntMulOk i j:=by
 rcases h with ⟨h1,h2⟩ | ⟨h1,h2⟩
 ·exact .of_left (intBits_le_64 h1 h2)
 ·exact .of_right (intBits_le_64 h1 h2)
theorem Bm:OpR X (binaryOp .Add) (rI0 fun i j=>.int (i+j)):=opI0 fun _ _ _ _ _ _ _ q=>add_int q
theorem Ga:OpR X (binaryOp .Sub) (rI0 fun i j=>.int (i - j)):=opI0 fun _ _ _ _ _ _ _ q=>sub_int q
theorem Gb:OpR X (binaryOp .Mult) (rI CMul fun i j=>.int (i * j)):=opI fun _ _ _ _ _ _ _ hc q=>mul_int q hc.ok
theorem CT:OpR X (binaryOp .FloorDiv) (rI CDiv fun i j=>.int (i / j)):=opI fun i j _ _ _ _ _ hc q=>by
 have h1:(0:Int) < j:=hc.1;have h2:j < 1073741824:=hc.2;exact floordiv_int (by lia) (by rw [Int.fdiv_eq_ediv_of_nonneg i (by lia)]; exact q) (.inl (PyProof.noPylong_small (by lia)))
theorem CD:OpR X (binaryOp .Mod) (rI (fun _ j=>0 < j) fun i j=>.int (i % j)):=opI fun i j _ _ _ _ _ hc q=>by
 have h1:(0:Int) < j:=hc;exact mod_int' (by lia) (by rw [Int.fmod_eq_emod_of_nonneg i (by lia)]; exact q)
theorem FF:OpR X (binaryOp .LShift) (rI CPow fun i j=>.int (i * 2 ^ j.toNat)):=opI fun _ _ _ _ _ _ _ hc q=>lshift_int_small hc.1 hc.2.1 hc.2.2 q
theorem unI {f:Value->Sem Value} {g:Int->Int}
  (rule:∀ (i:Int) (t:Tok) (s:Shared) (Q:Value->Shared->Prop) (E:Value->Shared->Prop),Q (.int (g i) s.toks) { s with toks:=s.toks+1 }->wpAny (model X.prog X.w) X.A (f (.int i t)) Q E s) :
  UnR X f (rU fun i=>.int (g i)):=by
 intro pins s σ H x v Q I rx h;obtain ⟨i,rfl,q⟩:=h;obtain ⟨t,rfl⟩:=rx;exact rule i t s _ _ ⟨.int (g i),H,I.tok _,⟨_,rfl⟩,q⟩
theorem Im:UnR X (unaryOp .USub) (rU fun i=>.int (-i)):=unI fun _ _ _ _ _ q=>neg_int q
end
def scal:V->V->Bool
 | .non,.non=>true | .non,.int _=>true | .int _,.non=>true | .non,.bl _=>true | .bl _,.non=>true | .non,.str _=>true | .str _,.non=>true
 | .int _,.int _=>true | .bl _,.bl _=>true | .str _,.str _=>true | .byt _,.byt _=>true
 | .int _,.str _=>true | .str _,.int _=>true | .bl _,.str _=>true | .str _,.bl _=>true
 | _,_=>false
def rEq:R2:=fun x y H Q=>scal x y=true/\Q (.bl (decide (x=y))) H
def rNe:R2:=fun x y H Q=>scal x y=true/\Q (.bl (!decide (x=y))) H
theorem PN {i j:Int}:decide (V.int i=V.int j)=(i == j):=by
 rw [Bool.eq_iff_iff];simp
theorem Ta {i j:Bool}:decide (V.bl i=V.bl j)=(i == j):=by
 rw [Bool.eq_iff_iff];simp
theorem PM {i j:Str}:decide (V.str i=V.str j)=(i == j):=by
 rw [Bool.eq_iff_iff];simp
theorem PP {i j:Array UInt8}:decide (V.byt i=V.byt j)=(i.toList == j.toList):=by
 rw [Bool.eq_iff_iff];cases i;cases j;simp
section
variable {X:Cx} {a b c:Expr} {ta tb tc:TE} {pos:Pos}
theorem AT {pins:List (Addr×Obj)} {σ:St} {H:Hp} {s:Shared} {Q:VK} {k k':Bool} (I:Inv X pins σ H s) (q:Q (.bl k) H) (e:k=k'):EP X pins σ Q (.bool k') s:=by
 subst e;exact ⟨.bl k,H,I,rfl,q⟩
theorem De:OpR X (compareOp .Eq) rEq:=by
 intro pins s σ H x y v u Q I rx ry h;obtain ⟨hs,q⟩:=h;cases x with
 | non =>
  cases rx;cases y with
  | non=>cases ry; exact PySem.EqNone.eq_none_none (AT I q (by simp))
  | bl j=>cases ry; exact PySem.EqNone.eq_none_bool (AT I q (by simp))
  | int j=>obtain ⟨t',rfl⟩:=ry; exact PySem.EqNone.eq_none_int (AT I q (by simp))
  | str j=>obtain ⟨t',rfl⟩:=ry; exact PySem.EqNone.eq_none_str (AT I q (by simp))
  | _=>exact absurd (show false=true from hs) Bool.false_ne_true
 | bl i =>
  cases rx;cases y with
  | non=>cases ry; exact PySem.EqNone.eq_bool_none (AT I q (by simp))
  | bl j=>cases ry; exact eq_bool (AT I q Ta)
  | str j=>obtain ⟨t',rfl⟩:=ry; exact PySem.EqMixed.eq_bool_str (AT I q (by simp))
  | _=>exact absurd (show false=true from hs) Bool.false_ne_true
 | int i =>
  obtain ⟨t,rfl⟩:=rx;cases y with
  | non=>cases ry; exact PySem.EqNone.eq_int_none (AT I q (by simp))
  | int j=>obtain ⟨t',rfl⟩:=ry; exact eq_int (AT I q PN)
  | str j=>obtain ⟨t',rfl⟩:=ry; exact PySem.EqMixed.eq_int_str (AT I q (by simp))
  | _=>exact absurd (show false=true from hs) Bool.false_ne_true
 | str i =>
  obtain ⟨t,rfl⟩:=rx;cases y with
  | non=>cases ry; exact PySem.EqNone.eq_str_none (AT I q (by simp))
  | bl j=>cases ry; exact PySem.EqMixed.eq_str_bool (AT I q (by simp))
  | int j=>obtain ⟨t',rfl⟩:=ry; exact PySem.EqMixed.eq_str_int (AT I q (by simp))
  | str j=>obtain ⟨t',rfl⟩:=ry; exact eq_str (AT I q PM)
  | _=>exact absurd (show false=true from hs) Bool.false_ne_true
 | byt i =>
  obtain ⟨t,rfl⟩:=rx;cases y with
  | byt j=>obtain ⟨t',rfl⟩:=ry; exact PySem.W.eq_bytes (AT I q PP)
  | _=>exact absurd (show false=true from hs) Bool.false_ne_true
 | _=>cases y<;>exact absurd (show false=true from hs) Bool.false_ne_true
theorem IN:OpR X (compareOp .NotEq) rNe:=by
 intro pins s σ H x y v u Q I rx ry h;obtain ⟨hs,q⟩:=h;cases x with
 | non =>
  cases rx;cases y with
  | non=>cases ry; exact PySem.EqNone.ne_none_none (AT I q (by simp))
  | bl j=>cases ry; exact PySem.EqNone.ne_none_bool (AT I q (by simp))
  | int j=>obtain ⟨t',rfl⟩:=ry; exact PySem.EqNone.ne_none_int (AT I q (by simp))
  | str j=>obtain ⟨t',rfl⟩:=ry; exact PySem.EqNone.ne_none_str (AT I q (by simp))
  | _=>exact absurd (show false=true from hs) Bool.false_ne_true
 | bl i =>
  cases rx;cases y with
  | non=>cases ry; exact PySem.EqNone.ne_bool_none (AT I q (by simp))
  | bl j=>cases ry; exact ne_bool (AT I q (congrArg not Ta))
  | str j=>obtain ⟨t',rfl⟩:=ry; exact PySem.EqMixed.ne_bool_str (AT I q (by simp))
  | _=>exact absurd (show false=true from hs) Bool.false_ne_true
 | int i =>
  obtain ⟨t,rfl⟩:=rx;cases y with
  | non=>cases ry; exact PySem.EqNone.ne_int_none (AT I q (by simp))
  | int j=>obtain ⟨t',rfl⟩:=ry; exact ne_int (AT I q (congrArg not PN))
  | str j=>obtain ⟨t',rfl⟩:=ry; exact PySem.EqMixed.ne_int_str (AT I q (by simp))
  | _=>exact absurd (show false=true from hs) Bool.false_ne_true
 | str i =>
  obtain ⟨t,rfl⟩:=rx;cases y with
  | non=>cases ry; exact PySem.EqNone.ne_str_none (AT I q (by simp))
  | bl j=>cases ry; exact PySem.EqMixed.ne_str_bool (AT I q (by simp))
  | int j=>obtain ⟨t',rfl⟩:=ry; exact PySem.EqMixed.ne_str_int (AT I q (by simp))
  | str j=>obtain ⟨t',rfl⟩:=ry; exact ne_str (AT I q (congrArg not PM))
  | _=>exact absurd (show false=true from hs) Bool.false_ne_true
 | byt i =>
  obtain ⟨t,rfl⟩:=rx;cases y with
  | byt j=>obtain ⟨t',rfl⟩:=ry; exact PySem.W.ne_bytes (AT I q (congrArg not PP))
  | _=>exact absurd (show false=true from hs) Bool.false_ne_true
 | _=>cases y<;>exact absurd (show false=true from hs) Bool.false_ne_true
theorem GX:OpR X (compareOp .Lt) (rI0 fun i j=>.bl (decide (i < j))):=opB0 fun _ _ _ _ _ _ _ q=>lt_int q
theorem IO:OpR X (compareOp .LtE) (rI0 fun i j=>.bl (decide (i<=j))):=opB0 fun _ _ _ _ _ _ _ q=>le_int q
theorem Fl:OpR X (compareOp .Gt) (rI0 fun i j=>.bl (decide (j < i))):=opB0 fun _ _ _ _ _ _ _ q=>gt_int q
theorem Sf:OpR X (compareOp .GtE) (rI0 fun i j=>.bl (decide (j<=i))):=opB0 fun _ _ _ _ _ _ _ q=>ge_int q
theorem Iv:OpR X (compareOp .In) (fun x y H Q=>∃ i j,x=.str i/\y=.str j/\Q (.bl (!(Builtin.Str.occurrences j i 0 j.length 1).isEmpty)) H):=by
 intro pins s σ H x y v u Q I rx ry h;obtain ⟨i,j,rfl,rfl,q⟩:=h;obtain ⟨t,rfl⟩:=rx;obtain ⟨t',rfl⟩:=ry;exact in_str (AT I q rfl)
theorem Se:OpR X (compareOp .Is) (fun x y H Q=>y=.non/\Q (.bl (decide (x=.non))) H):=by
 intro pins s σ H x y v u Q I rx ry h;obtain ⟨rfl,q⟩:=h;cases ry;refine is_none_gen (AT I q ?_);cases x<;>first
  | (cases rx; rfl)
  | (obtain ⟨t,rfl⟩:=rx; rfl)
theorem Ay (b:Expr) {op:CmpOp} (h:op≠.In:=by decide) (h2:op≠.NotIn:=by decide):behindInMarks op b=false:=by
 have e1:(op == CmpOp.In)=false:=by cases op<;>first | rfl | exact absurd rfl h
 have e2:(op == CmpOp.NotIn)=false:=by cases op<;>first | rfl | exact absurd rfl h2
 cases b<;>simp [behindInMarks,e1,e2]
theorem CQ {op:CmpOp} {r:R2} (ho:OpR X (compareOp op) r) (ha:PE X a ta) (hb:PE X b tb) (hm:behindInMarks op b=false):PE X (.Compare a [op] [b] pos) (tOp r ta tb):=by
 intro pins s σ H Q I h;exact wpAny_Compare1 (binT ha hb I h fun v u s2 x y H2 I2 rx ry q=>ho pins s2 σ H2 x y v u Q I2 rx ry q) hm
def Pp (t:TE):TT:=fun σ H Q=>t σ H fun x H'=>∃ k,x=.bl k/\Q k H'
theorem Au {op:CmpOp} {r:R2} (ho:OpR X (compareOp op) r) (ha:PE X a ta) (hb:PE X b tb) (hm:behindInMarks op b=false):PT X (.Compare a [op] [b] pos) (Pp (tOp r ta tb)):=by
 intro pins s σ H Q I h;refine wpAny_isTrue_Compare1 (thn (ha pins s σ H _ I h) fun v s1 ⟨x,H1,I1,r1,q1⟩=>thn (hb pins s1 σ H1 _ I1 q1) fun u s2 ⟨y,H2,I2,r2,q2⟩ =>
  thn (ho pins s2 σ H2 x y v u _ I2 r1 r2 q2) fun c s3 ⟨z,H3,I3,r3,k,e,q3⟩=>?_) hm
 subst e;cases r3;exact wpAny_truthy_bool ⟨H3,I3,q3⟩
def Rs (r r':R2) (ta tb tc:TE):TE:=fun σ H Q=>ta σ H fun x H1=>tb σ H1 fun y H2=>r x y H2 fun z H3=>∃ k,z=.bl k /\
 (if k=true then tc σ H3 fun w' H4=>r' y w' H4 Q else Q (.bl false) H3)
theorem RY {op op':CmpOp} {r r':R2} (ho:OpR X (compareOp op) r) (ho':OpR X (compareOp op') r') (ha:PE X a ta) (hb:PE X b tb) (hc:PE X c tc)
  (hm:lastMarks [op,op'] [b,c]=false:=by with_unfolding_all rfl):PE X (.Compare a [op,op'] [b,c] pos) (Rs r r' ta tb tc):=by
 intro pins s σ H Q I h;refine Compare_chain (thn (ha pins s σ H _ I h) fun v s1 ⟨x,H1,I1,r1,q1⟩=>chain_link (thn (hb pins s1 σ H1 _ I1 q1) fun u s2 ⟨y,H2,I2,r2,q2⟩ =>
  thn (ho pins s2 σ H2 x y v u _ I2 r1 r2 q2) fun d s3 ⟨z,H3,I3,r3,k,e,q3⟩=>?_)) hm
 subst e;cases r3;refine wpAny_truthy_bool ?_;cases k with
 | false=>exact ite_ff ⟨.bl false,H3,I3,rfl,q3⟩
 | true=>exact ite_tt (chain_last (thn (hc pins s3 σ H3 _ I3 q3) fun w' s4 ⟨z',H4,I4,r4,q4⟩=>ho' pins s4 σ H4 y z' u w' Q I4 r2 r4 q4))
theorem NF {op op':CmpOp} {r r':R2} (ho:OpR X (compareOp op) r) (ho':OpR X (compareOp op') r') (ha:PE X a ta) (hb:PE X b tb) (hc:PE X c tc)
  (hm:lastMarks [op,op'] [b,c]=false:=by with_unfolding_all rfl):PT X (.Compare a [op,op'] [b,c] pos) (Pp (Rs r r' ta tb tc)):=by
 intro pins s σ H Q I h;refine isTrue_chain (thn (ha pins s σ H _ I h) fun v s1 ⟨x,H1,I1,r1,q1⟩=>test_link (thn (hb pins s1 σ H1 _ I1 q1) fun u s2 ⟨y,H2,I2,r2,q2⟩ =>
  thn (ho pins s2 σ H2 x y v u _ I2 r1 r2 q2) fun d s3 ⟨z,H3,I3,r3,k,e,q3⟩=>?_)) hm
 subst e;cases r3;refine wpAny_truthy_bool ?_;cases k with
 | false =>
  obtain ⟨k',e',q'⟩:=q3;cases e';exact ite_ff ⟨H3,I3,q'⟩
 | true =>
  refine ite_tt (test_last (thn (hc pins s3 σ H3 _ I3 q3) fun w' s4 ⟨z',H4,I4,r4,q4⟩=>thn (ho' pins s4 σ H4 y z' u w' _ I4 r2 r4 q4) fun d' s5 ⟨z2,H5,I5,r5,k2,e2,q5⟩=>?_));subst e2;cases r5;exact wpAny_truthy_bool ⟨H5,I5,q5⟩
theorem JS:(sizeLine:Nat) < 2 ^ 63:=by rw [sizeLine_eq]; decide
theorem GO:OpR X (binaryOp .Add) (fun x y H Q=>∃ i j,x=.str i/\y=.str j/\i.length+j.length<=sizeLine/\Q (.str (i ++ j)) H):=by
 intro pins s σ H x y v u Q I rx ry h;obtain ⟨i,j,rfl,rfl,hz,q⟩:=h;obtain ⟨t,rfl⟩:=rx;obtain ⟨t',rfl⟩:=ry;exact add_str (fun t' tk=>⟨.str (i ++ j),H,I.tok _,⟨_,rfl⟩,q⟩) hz
theorem Jw {x:V} {us:List Value} (r:AJ [x] us):∃ u,us=[u]/\AX x u:=by
 cases r with
 | cons r1 r2=>cases r2; exact ⟨_,rfl,r1⟩
theorem vals2 {x y:V} {us:List Value} (r:AJ [x,y] us):∃ u w',us=[u,w']/\AX x u/\AX y w':=by
 cases r with
 | cons r1 r2 =>
  cases r2 with
  | cons r3 r4=>cases r4; exact ⟨_,_,rfl,r1,r3⟩
theorem Th:EQ X (.builtin "abs") (fun xs H Q=>∃ i,xs=[.int i]/\Q (.int (if i < 0 then -i else i)) H):=by
 intro pins s σ H xs us Q I r h;obtain ⟨i,rfl,q⟩:=h;obtain ⟨u,rfl,t,rfl⟩:=Jw r;exact call_abs_int fun u tk=>⟨.int (if i < 0 then -i else i),H,I.tok _,⟨_,rfl⟩,q⟩
theorem Gw (hc:X.calm=true):EQ X (.builtin "max") (fun xs H Q=>∃ i j,xs=[.int i,.int j]/\Q (.int (if j > i then j else i)) H):=by
 intro pins s σ H xs us Q I r h;obtain ⟨i,j,rfl,q⟩:=h;obtain ⟨u,w',rfl,⟨t,rfl⟩,⟨t',rfl⟩⟩:=vals2 r;refine max_two_ints (I.ok.hd hc) fun h' tk k=>⟨_,H,I.kept k,?_,q⟩
 by_cases hj:j > i
 ·rw [if_pos hj,if_pos hj]; exact ⟨_,rfl⟩
 ·rw [if_neg hj,if_neg hj]; exact ⟨_,rfl⟩
theorem Fp (hc:X.calm=true):EQ X (.builtin "min") (fun xs H Q=>∃ i j,xs=[.int i,.int j]/\Q (.int (if j < i then j else i)) H):=by
 intro pins s σ H xs us Q I r h;obtain ⟨i,j,rfl,q⟩:=h;obtain ⟨u,w',rfl,⟨t,rfl⟩,⟨t',rfl⟩⟩:=vals2 r;refine min_two_ints (I.ok.hd hc) fun h' tk k=>⟨_,H,I.kept k,?_,q⟩
 by_cases hj:j < i
 ·rw [if_pos hj,if_pos hj]; exact ⟨_,rfl⟩
 ·rw [if_neg hj,if_neg hj]; exact ⟨_,rfl⟩
theorem Rc:EQ X (.type "int") (fun xs H Q=>(∃ i,xs=[.int i]/\Q (.int i) H)\/∃ k,xs=[.bl k]/\Q (.int (if k then 1 else 0)) H):=by
 intro pins s σ H xs us Q I r h;rcases h with ⟨i,rfl,q⟩ | ⟨k,rfl,q⟩
 ·obtain ⟨u,rfl,t,rfl⟩:=Jw r;exact call_int_int ⟨.int i,H,I,⟨_,rfl⟩,q⟩
 ·obtain ⟨u,rfl,r1⟩:=Jw r;cases r1;exact call_int_bool ⟨.int (if k then 1 else 0),H,I.tok _,⟨_,rfl⟩,q⟩
theorem Ng:EQ X (.type "str") (fun xs H Q=>∃ i,xs=[.int i]/\i.natAbs.log2 < 1920/\Q (.str (toString i)) H):=by
 intro pins s σ H xs us Q I r h;obtain ⟨i,rfl,hz,q⟩:=h;obtain ⟨u,rfl,t,rfl⟩:=Jw r;exact PySem.P.str_of_int hz ⟨.str _,H,I.tok _,⟨_,rfl⟩,q⟩
end
end L2
namespace L2
open PySem PySem.Spec PyProof.Rows
structure Pf (h:Heap) (x dx C:Addr) (mA:Str->Option Value):Prop where
 obj:h.get? x=some (PySem.W.instObj C dx)
 ns:h.Ns1 dx mA
 ne:dx≠x
theorem QH {h:Heap} {dx:Addr} {mA:Str->Option Value} (n:h.Ns1 dx mA):∃ od,h.get? dx=some od/\∀ name,PySem.W.lookIn name od=some (mA name):=by
 obtain ⟨o,es,ep,ho,hd,hk,_,hm⟩:=n;refine ⟨o,ho,fun name=>?_⟩;have e:=hm name;unfold nsFind findBy at e;rw [<-Array.find?_toList] at e;unfold PySem.W.lookIn;rw [hd];dsimp only;split
 ·rename_i y q;rw [q] at e;exact congrArg some e
 ·rename_i q;rw [q] at e;have a:es.toList.any (·.refKey)=false:=by
   rw [List.any_eq_false];intro y hy;obtain ⟨z,t,hkey⟩:=hk y (Array.mem_toList_iff.mp hy);simp [DictEntry.refKey,hkey]
  have a':¬ es.toList.any (·.refKey)=true:=by rw [a]; exact Bool.false_ne_true
  rw [if_neg a'];exact congrArg some e
theorem Pf.look {h:Heap} {x dx C:Addr} {mA:Str->Option Value} (I:Pf h x dx C mA):∃ od,PySem.W.InstAt h x (PySem.W.instObj C dx) C (some od)/\∀ name,PySem.W.lookIn name od=some (mA name) :=
 let ⟨od,ho,hl⟩:=QH I.ns
 ⟨od,⟨I.obj,rfl,rfl,ho⟩,hl⟩
section
variable {prog:Program} {w:World} {A:Around} {E:Value->Shared->Prop} {s:Shared} {K:PySem.W.Frag} {x dx C f:Addr} {mA:Str->Option Value} {name:Str} {v:Value}
theorem get_map {expr:Bool} {Q:Value->Shared->Prop} (X:K.In s.heap) (I:Pf s.heap x dx C mA) (hg:PySem.W.plainGet K C name=true) (hh:PySem.W.hasDictIn K C=true)
  (ha:PySem.W.findIn K (.ref C) name=some none) (hv:mA name=some v) (hv':PySem.W.handedIn v=true) (h:Q v { s with toks:=s.toks+1 }) :
  wpAny (model prog w) A (getAttr (.ref x) name expr) Q E s:=by
 obtain ⟨od,J,hl⟩:=I.look;exact PySem.W.get_value X J (PySem.W.plainGet_of hg).1 (PySem.W.findObj_own hh ha rfl (by rw [hl,hv])) hv' h
theorem ST {pl:Sem Bool} {Q:Value×List Value->Shared->Prop} (X:K.In s.heap) (I:Pf s.heap x dx C mA) (hg:PySem.W.plainGet K C name=true)
  (hf:PySem.W.findIn K (.ref C) name=some (some (.ref f))) (ht:PySem.W.isFn K (.ref f)=true) (hv:mA name=none) (h:Q (.ref f,[.ref x]) s) :
  wpAny (model prog w) A (getMethod (.ref x) name pl) Q E s:=by
 obtain ⟨od,J,hl⟩:=I.look;exact PySem.W.method_fn X J (PySem.W.plainGet_of hg).1 (PySem.W.plainGet_of hg).2 hf (beq_iff_eq.mp ht) (by show (PySem.W.lookIn name od).map (·.isSome)=some false; rw [hl,hv]; rfl) h
theorem set_map {ns:List Str} {Q:Unit->Shared->Prop} (X:K.In s.heap) (I:Pf s.heap x dx C mA)
  (hs:PySem.W.findIn K (.ref C) "__setattr__" = some (some (.builtin "object.__setattr__"))) (hp:PySem.W.plainOver K C=true) (ht:PySem.W.takerIn K C name=some none) (hh:PySem.W.hasDictIn K C=true)
  (hw:PySem.Within mA ns) (hsz:ns.length<=sizeLine)
  (h:∀ h',Pf h' x dx C (fun y=>if y=name then some v else mA y)->Heap.SameBut dx s.heap h'->Q () { s with heap:=h',toks:=s.toks+2 }) :
  wpAny (model prog w) A (setAttr (.ref x) name v) Q E s:=by
 obtain ⟨od,J,hl⟩:=I.look;refine PySem.W.set_plain X J hs (PySem.W.osa_open (s:={ s with toks:=s.toks+1 }) (r:=none) X J hp ht fun b=>?_)
 obtain ⟨cd,hc,hd'⟩:=PySem.W.any_some hh;have hx:s.heap.get? x=some ⟨.ref C,some dx,.plain,#[]⟩:=I.obj;refine wpAny_bind (wpAny_pure (wpAny_bind (wpAny_bind (wpAny_loadPart hx (wpAny_bind (PySem.W.Looks.here (s:={ s with toks:=s.toks+1 }) (PySem.W.looks_clsIn X hc) ?_))))))
 rw [hd'];refine wpAny_pure (a:=some dx) (wpAny_bind (wpAny_pure (wpAny_bind ?_)));refine wpAny_nsSet1 (s:={ s with toks:=s.toks+1 }) I.ns fun h' hn2 hs2=>?_;obtain ⟨oD,esD,epD,hoD,hdD,hcD⟩:=hn2.count (PySem.Within.cons name v hw);refine wpAny_bind (wpAny_lookBehind hoD (by rw [hdD]; exact pastItsLine_dict (Nat.le_trans hcD (by rw [List.length_cons]; lia))) ?_);exact wpAny_pure (h _ ⟨(hs2.2 _ (Ne.symm I.ne)).trans I.obj,hn2,I.ne⟩ hs2)
theorem SH {R:Result->Shared->Prop} {vs:List Value} {kw:List (Str×Value)} (X:K.In s.heap) (hm:PySem.W.makesIn K C=true)
  (hi:PySem.W.findIn K (.ref C) "__init__" = some (some (.ref f))) (hf:PySem.W.typeIn K (.ref f)=some (.type "function"))
  (h:codeAny (model prog w) (A.under (.builtin "type.__call__" ⟨.ref C :: vs,kw⟩)) (.call (.ref f) ⟨.ref (s.heap.objs.size+1) :: vs,kw⟩) (PySem.W.InitBack (s.heap.objs.size+1) R)
   { s with heap:=(s.heap.push PySem.W.emptyDict).push (PySem.W.instObj C s.heap.objs.size) }) :
  codeAny (model prog w) A (.call (.ref C) ⟨vs,kw⟩) R s:=by
 obtain ⟨hh,g,d,t,os⟩:=s;exact PySem.W.make_core (PySem.W.makes_of X hm) (PySem.W.looks_findIn X hi) (fun self=>PySem.W.bind_fn X self hf) (.inl rfl) h
end
def Bs (f:Str) (v:V):List (Str×V)->List (Str×V)
 | []=>[(f,v)]
 | (g,x) :: r=>if g=f then (g,v) :: r else (g,x) :: Bs f v r
theorem At (f g:Str) (v:V):∀ fs:List (Str×V),(Bs f v fs).lookup g=if g=f then some v else fs.lookup g
 | []=>by
  show List.lookup g [(f,v)]=_;by_cases h:g=f
  ·have hb:(g == f)=true:=beq_iff_eq.mpr h;simp only [List.lookup,hb,if_pos h]
  ·have hb:(g == f)=false:=beq_eq_false_iff_ne.mpr h;simp only [List.lookup,hb,if_neg h]
 | (k,x) :: r=>by
  have ih:=At f g v r;rw [show Bs f v ((k,x) :: r)=(if k=f then (k,v) :: r else (k,x) :: Bs f v r) from rfl];by_cases hk:k=f
  ·rw [if_pos hk];by_cases h:g=k
   ·have hb:(g == k)=true:=beq_iff_eq.mpr h;simp only [List.lookup,hb,if_pos (h.trans hk)]
   ·have hb:(g == k)=false:=beq_eq_false_iff_ne.mpr h;simp only [List.lookup,hb,if_neg (fun e:g=f=>h (e.trans hk.symm))]
  ·rw [if_neg hk];by_cases h:g=k
   ·have hb:(g == k)=true:=beq_iff_eq.mpr h;simp only [List.lookup,hb,if_neg (fun e:g=f=>hk (h.symm.trans e))]
   ·have hb:(g == k)=false:=beq_eq_false_iff_ne.mpr h;simp only [List.lookup,hb];exact ih
theorem IF (f:Str) (v:V):∀ fs:List (Str×V),f ∈ (Bs f v fs).map (·.1)/\∀ g,g ∈ fs.map (·.1)->g ∈ (Bs f v fs).map (·.1)
 | []=>⟨by simp [Bs],fun g h=>by simp at h⟩
 | (k,x) :: r=>by
  obtain ⟨i1,i2⟩:=IF f v r;rw [show Bs f v ((k,x) :: r)=(if k=f then (k,v) :: r else (k,x) :: Bs f v r) from rfl];by_cases hk:k=f
  ·rw [if_pos hk];subst hk;exact ⟨by simp,fun g h=>by simpa using h⟩
  ·rw [if_neg hk];refine ⟨?_,fun g h=>?_⟩
   ·rw [List.map_cons];exact List.mem_cons_of_mem _ i1
   ·rw [List.map_cons] at h ⊢;rcases List.mem_cons.mp h with e | e
    ·exact List.mem_cons.mpr (.inl e)
    ·exact List.mem_cons_of_mem _ (i2 g e)
theorem IR (f:Str) (v:V):∀ fs:List (Str×V),(Bs f v fs).length<=fs.length+1
 | []=>by simp [Bs]
 | (k,x) :: r=>by
  have ih:=IR f v r;rw [show Bs f v ((k,x) :: r)=(if k=f then (k,v) :: r else (k,x) :: Bs f v r) from rfl];by_cases hk:k=f
  ·rw [if_pos hk,List.length_cons,List.length_cons]; lia
  ·rw [if_neg hk,List.length_cons,List.length_cons]; lia
theorem FP.some_of {v:V} {o:Option Value} (r:FP (some v) o):∃ u,o=some u/\AX v u:=by
 cases o with
 | none=>exact (show False from r).elim
 | some u=>exact ⟨u,rfl,r⟩
theorem FP.none_of {o:Option Value} (r:FP none o):o=none:=by
 cases o with
 | none=>rfl
 | some u=>exact (show False from r).elim
theorem QS {v:V} {u:Value} (r:AX v u):PySem.W.handedIn u=true:=by
 cases v with
 | non=>cases (show u=Value.none from r); rfl
 | bl b=>cases (show u=Value.bool b from r); rfl
 | int i=>obtain ⟨t,e⟩:=(show ∃ t,u=Value.int i t from r); cases e; rfl
 | str x=>obtain ⟨t,e⟩:=(show ∃ t,u=Value.str x t from r); cases e; rfl
 | byt b=>obtain ⟨t,e⟩:=(show ∃ t,u=Value.bytes b t from r); cases e; rfl
 | flt b=>obtain ⟨t,e⟩:=(show ∃ t,u=Value.float b t from r); cases e; rfl
 | ref a=>cases (show u=Value.ref a from r); rfl
 | ty n=>cases (show u=Value.type n from r); rfl
section
variable {P:Program} {w:World} {H H':Hp} {h h':Heap} {a C dx:Addr} {fs fs':List (Str×V)}
theorem Jt (hok:HOk P w H h) (e:H a=some (.ins C dx fs)):∃ mA,Pf h a dx C mA/\(∀ f,FP (fs.lookup f) (mA f))/\PySem.Within mA (fs.map (·.1))/\fs.length<=1000/\H dx=some (.own a):=by
 obtain ⟨d,z,ne,ob,mA,n,r,q⟩:=(show Bd P w H h a (.ins C dx fs) from hok a _ e)
 exact ⟨mA,⟨ob,n,ne⟩,r,q,z,d⟩
end
structure Cls (K:PySem.W.Frag) (C:Addr):Prop where
 pg:PySem.W.plainGet K C Str.empty=true
 hd:PySem.W.hasDictIn K C=true
 po:PySem.W.plainOver K C=true
 sa:PySem.W.findIn K (.ref C) "__setattr__" = some (some (.builtin "object.__setattr__"))
theorem Cls.get {K:PySem.W.Frag} {C:Addr} (c:Cls K C) (f:Str):PySem.W.plainGet K C f=true:=c.pg
def Ei (K:PySem.W.Frag) (C:Addr) (f:Str):Prop:=PySem.W.findIn K (.ref C) f=some none
theorem Ei.taker {K:PySem.W.Frag} {C:Addr} {f:Str} (n:Ei K C f):PySem.W.takerIn K C f=some none:=by
 unfold PySem.W.takerIn;rw [show PySem.W.findIn K (.ref C) f=some none from n];rfl
structure Lj (K:PySem.W.Frag) (C:Addr) (m:Str) (f:Addr):Prop where
 at_:PySem.W.findIn K (.ref C) m=some (some (.ref f))
 fn:PySem.W.isFn K (.ref f)=true
 kp:PySem.W.keepIn K (.ref f)=true
section
variable {X:Cx} {pins:List (Addr×Obj)} {σ:St} {H:Hp} {s:Shared} {a C dx:Addr} {fs:List (Str×V)} {f:Str} {v:V} {A:Around} {E:Value->Shared->Prop}
theorem OW {b:Bool} {Q:Value->Shared->Prop} (I:Inv X pins σ H s) (e:H a=some (.ins C dx fs)) (c:Cls X.K C) (n:Ei X.K C f) (l:fs.lookup f=some v)
  (h:∀ u s',Inv X pins σ H s'->AX v u->Q u s'):wpAny (model X.prog X.w) A (getAttr (.ref a) f b) Q E s:=by
 obtain ⟨mA,O,r,_,_,_⟩:=Jt I.hok e;obtain ⟨u,hu,ru⟩:=FP.some_of (v:=v) (o:=mA f) (by rw [<-l]; exact r f);exact get_map I.kIn O (c.get f) c.hd n hu (QS ru) (h u _ (I.tok _) ru)
theorem OV {m:Str} {g:Addr} {pl:Sem Bool} {Q:Value×List Value->Shared->Prop} (I:Inv X pins σ H s) (e:H a=some (.ins C dx fs)) (c:Cls X.K C) (k:Lj X.K C m g) (l:fs.lookup m=none)
  (h:Q (.ref g,[.ref a]) s):wpAny (model X.prog X.w) A (getMethod (.ref a) m pl) Q E s:=by
 obtain ⟨mA,O,r,_,_,_⟩:=Jt I.hok e;have hn:mA m=none:=FP.none_of (by rw [<-l]; exact r m);exact ST I.kIn O (c.get m) k.at_ k.fn hn h
theorem OB {y:V} {u:Value} {Q:Unit->Shared->Prop} (I:Inv X pins σ H s) (e:H a=some (.ins C dx fs)) (c:Cls X.K C) (n:Ei X.K C f) (hl:fs.length < 1000) (ry:AX y u)
  (h:∀ s',Inv X pins σ (upd H a (.ins C dx (Bs f y fs))) s'->Q () s'):wpAny (model X.prog X.w) A (setAttr (.ref a) f u) Q E s:=by
 obtain ⟨mA,O,r,wi,_,ho⟩:=Jt I.hok e;have hz:(fs.map (·.1)).length<=sizeLine:=by rw [List.length_map,sizeLine_eq]; lia
 refine set_map I.kIn O c.sa c.po n.taker c.hd wi hz fun h' O' sb=>h _ ?_;have hd:∃ o,h'.get? dx=some o:=let ⟨o,_,_,e',_⟩:=O'.ns; ⟨o,e'⟩;refine I.write (x:=a) (e:=dx) (by rw [e]; exact True.intro) (.inr ho) (fun b q hb z=>(sb.2 b hb).trans z) hd ?_;refine ⟨by rw [Az O.ne]; exact ho,?_,O.ne,O'.obj,_,O'.ns,fun g=>?_,fun g hg=>?_⟩
 ·have:=IR f y fs; lia
 ·show FP ((Bs f y fs).lookup g) (if g=f then some u else mA g);rw [At];by_cases q:g=f
  ·rw [if_pos q,if_pos q]; exact ry
  ·rw [if_neg q,if_neg q]; exact r g
 ·by_cases q:g=f
  ·rw [q]; exact (IF f y fs).1
  ·refine (IF f y fs).2 g (wi g fun z=>hg ?_);show (if g=f then some u else mA g)=none;rw [if_neg q]; exact z
theorem Inv.made (I:Inv X pins σ H s):Inv X pins σ (upd (upd H s.heap.objs.size (.own (s.heap.objs.size+1))) (s.heap.objs.size+1) (.ins C s.heap.objs.size []))
  { s with heap:=(s.heap.push PySem.W.emptyDict).push (PySem.W.instObj C s.heap.objs.size) }:=by
 have e1:(s.heap.push PySem.W.emptyDict).get? s.heap.objs.size=some PySem.W.emptyDict:=Heap.get?_push_size s.heap rfl;have e2:((s.heap.push PySem.W.emptyDict).push (PySem.W.instObj C s.heap.objs.size)).get? (s.heap.objs.size+1)=some (PySem.W.instObj C s.heap.objs.size):=by
  have:=Heap.get?_push_size (s.heap.push PySem.W.emptyDict) (o:=PySem.W.instObj C s.heap.objs.size) rfl
  rwa [Heap.size_push] at this
 have e3:(s.heap.push PySem.W.emptyDict).Ns s.heap.objs.size (fun _=>none):=⟨PySem.W.emptyDict,#[],_,e1,rfl,(fun e he=>absurd he (by simp)),fun _=>rfl⟩
 have I1:=I.laid (a:=s.heap.objs.size) (o:=.own (s.heap.objs.size+1)) (h':=s.heap.push PySem.W.emptyDict) (t':=s.toks) (fun b u q=>Heap.get?_push_of_some _ q) (Nat.le_refl _) ⟨_,e1⟩;refine I1.laid (a:=s.heap.objs.size+1) (o:=.ins C s.heap.objs.size []) (t':=s.toks) (fun b u q=>Heap.get?_push_of_some _ q) (Nat.le_of_eq (Heap.size_push _ _)) ?_;have ne:s.heap.objs.size≠s.heap.objs.size+1:=Nat.ne_of_lt (Nat.lt_succ_self _);refine ⟨by rw [Az ne,Ah],Nat.zero_le _,ne,e2,fun _=>none,(Heap.Ns1.of_empty e3).at fun o q=>Heap.get?_push_of_some _ q,fun _=>True.intro,fun y hy=>absurd rfl hy⟩
theorem attr_of {prog:Program} {w:World} {env:Env} {e:Expr} {f:Str} {pos:Pos} {s:Shared} {Q:Value->Shared->Prop} (hb:attributeBase e f env (eval e env)=eval e env)
  (h:wpAny (model prog w) A (eval e env) (fun o s₁=>wpAny (model prog w) A (getAttr o f true) Q E s₁) E s):wpAny (model prog w) A (eval (.Attribute e f pos) env) Q E s :=
 Attribute_any_ h (by rw [arm_eval_Attribute,hb])
end
def tFld (K:PySem.W.Frag) (ta:TE) (f:Str):TE:=fun σ H Q=>ta σ H fun x H1=>∃ a C dx fs v,x=.ref a/\H1 a=some (.ins C dx fs)/\Cls K C/\Ei K C f/\fs.lookup f=some v/\Q v H1
def sFld (K:PySem.W.Frag) (ta tv:TE) (f:Str):TS:=fun D σ H=>tv σ H fun y H1=>ta σ H1 fun x H2=>∃ a C dx fs,x=.ref a/\H2 a=some (.ins C dx fs)/\Cls K C/\Ei K C f/\fs.length < 1000 /\
 D.nx σ (upd H2 a (.ins C dx (Bs f y fs)))
section
variable {X:Cx} {o e value:Expr} {f:Str} {pos pos' tpos:Pos} {ta tv:TE}
theorem Bv (he:PE X e ta) (hb:attributeBase e f X.env (eval e X.env)=eval e X.env):PE X (.Attribute e f pos) (tFld X.K ta f):=by
 intro pins s σ H Q I h;refine attr_of hb (thn (he pins s σ H _ I h) fun u s1 ⟨x,H1,I1,rx,a,C,dx,fs,v,ex,ea,c,n,l,q⟩=>?_);subst ex;obtain rfl:u=Value.ref a:=rx;exact OW I1 ea c n l fun u' s2 I2 ru=>⟨v,H1,I2,ru,q⟩
theorem Ir (ha:PE X o ta) (hv:PE X value tv) (hs:swapsWith value (some (.Attribute o f pos')) pos.line X.env=pure false):PS X (.Assign [.Attribute o f pos'] value pos) (sFld X.K ta tv f):=by
 intro pins s σ H D I h;refine plainObj_wpAny_Assign_Attribute (thn (hv pins s σ H _ I h) fun u s1 ⟨y,H1,I1,ry,q⟩=>thn (ha pins s1 σ H1 _ I1 q) fun ov s2 ⟨x,H2,I2,rx,a,C,dx,fs,ex,ea,c,n,l,q2⟩=>?_) hs;subst ex;obtain rfl:ov=Value.ref a:=rx;exact OB I2 ea c n l ry fun s3 I3=>⟨σ,_,I3,q2⟩
end
section
variable {X:Cx} {pins:List (Addr×Obj)} {σ:St} {H:Hp} {s:Shared} {A:Around} {E:Value->Shared->Prop} {Q:Value->Shared->Prop} {c:Value} {b:Bool}
inductive IL (K:PySem.W.Frag) (H:Hp):V->Value->Prop where
 | non:IL K H .non (.type "NoneType")
 | bl (x:Bool):IL K H (.bl x) (.type "bool")
 | int (i:Int):IL K H (.int i) (.type "int")
 | str (x:Str):IL K H (.str x) (.type "str")
 | flt (x:UInt64):IL K H (.flt x) (.type "float")
 | lst {a:Addr} {xs:List V} (e:H a=some (.lst xs)):IL K H (.ref a) (.type "list")
 | frz {a:Addr} {o:Obj} {xs:List V} (e:H a=some (.frz o (.lst xs))):IL K H (.ref a) (.type "list")
 | tup {a:Addr} {xs:List V} (e:H a=some (.tup xs)):IL K H (.ref a) (.type "tuple")
 | dK {a:Addr} {kvs:List (Key×V)} (e:H a=some (.dK kvs)):IL K H (.ref a) (.type "dict")
 | dT {a:Addr} {kvs:List (List Key×V)} (e:H a=some (.dT kvs)):IL K H (.ref a) (.type "dict")
 | ins {a C dx:Addr} {fs:List (Str×V)} (e:H a=some (.ins C dx fs)) (cl:Cls K C) (ha:PySem.W.findIn K (.ref C) "__class__" = some (some (.builtin "object.__class__")))
   (hn:PySem.W.specialIn K (.builtin "object.__class__") "__get__" = some (some (.builtin "getset_descriptor.__get__"))) (htk:PySem.W.takesIn K (.builtin "object.__class__")=some true)
   (hm:PySem.W.mroIn K C (.type "object")=some true):IL K H (.ref a) (.ref C)
theorem QP {x:V} {u t:Value} (I:Inv X pins σ H s) (rx:AX x u) (ty:IL X.K H x t) (e:PySem.W.kitOne X.K t c=some b) (h:∀ tk,Q (.bool b) { s with toks:=tk }) :
  wpAny (model X.prog X.w) A (call (.builtin "isinstance") [u,c]) Q E s:=by
 cases ty with
 | non=>cases (show u=Value.none from rx); exact PySem.W.kia_one PySem.W.kitx_none I.kIn True.intro e (fun z=>nomatch z) h
 | bl y=>cases (show u=Value.bool y from rx); exact PySem.W.kia_one PySem.W.kitx_bool I.kIn True.intro e (fun z=>nomatch z) h
 | int i=>obtain ⟨t,q⟩:=(show ∃ t,u=Value.int i t from rx); cases q; exact PySem.W.kia_one PySem.W.kitx_int I.kIn True.intro e (fun z=>nomatch z) h
 | str y=>obtain ⟨t,q⟩:=(show ∃ t,u=Value.str y t from rx); cases q; exact PySem.W.kia_one PySem.W.kitx_str I.kIn True.intro e (fun z=>nomatch z) h
 | flt y=>obtain ⟨t,q⟩:=(show ∃ t,u=Value.float y t from rx); cases q; exact PySem.W.kia_one PySem.W.kitx_float I.kIn True.intro e (fun z=>nomatch z) h
 | @lst a xs ea =>
  cases (show u=Value.ref a from rx);obtain ⟨_,_,n,_,h1⟩:=(show Bd X.prog X.w H s.heap a (.lst xs) from I.hok a _ ea)
  exact PySem.W.kia_one PySem.W.kitx_list I.kIn ⟨_,h1,rfl⟩ e (fun z=>nomatch z) h
 | @frz a ob xs ea =>
  cases (show u=Value.ref a from rx);obtain ⟨_,_,_,n,_,h1⟩:=(show Bd X.prog X.w H s.heap a (.frz ob (.lst xs)) from I.hok a _ ea)
  exact PySem.W.kia_one PySem.W.kitx_list I.kIn ⟨_,h1,rfl⟩ e (fun z=>nomatch z) h
 | @tup a xs ea =>
  cases (show u=Value.ref a from rx);obtain ⟨_,_,_,p⟩:=(show Bd X.prog X.w H s.heap a (.tup xs) from I.hok a _ ea)
  obtain ⟨o,h1,h2,_⟩:=p;exact PySem.W.kia_one PySem.W.kitx_tuple I.kIn ⟨o,h1,h2⟩ e (fun z=>nomatch z) h
 | @dK a kvs ea =>
  cases (show u=Value.ref a from rx);obtain ⟨_,_,vs,_,p⟩:=(show Bd X.prog X.w H s.heap a (.dK kvs) from I.hok a _ ea)
  obtain ⟨o,es,ep,h1,h2,_⟩:=p;exact PySem.W.kia_one PySem.W.kitx_dict I.kIn ⟨o,h1,h2.1⟩ e (fun z=>nomatch z) h
 | @dT a kvs ea =>
  cases (show u=Value.ref a from rx);obtain ⟨_,_,xs,_,o,es,ep,h1,h2,_⟩:=(show Bd X.prog X.w H s.heap a (.dT kvs) from I.hok a _ ea)
  exact PySem.W.kia_one PySem.W.kitx_dict I.kIn ⟨o,h1,h2.1⟩ e (fun z=>nomatch z) h
 | @ins a C dx fs ea cl ha hn htk hm =>
  cases (show u=Value.ref a from rx);obtain ⟨mA,O,_⟩:=Jt I.hok ea;obtain ⟨od,J,_⟩:=O.look;exact PySem.W.kia_one (PySem.W.kitx_own (cl.get _) cl.hd ha hn htk hm) I.kIn J e (fun z=>nomatch z) h
end
end L2
namespace L2
open PySem PySem.Spec PyProof.Rows
structure CF (k:Nat) (A:Around):Prop where
 hd:A.handled=none
 dp:A.depth+3 * k+5 < recursionLimit
 un:A.units+16 * k+200 < cLine
theorem CF.mono {j k:Nat} {A:Around} (r:CF k A) (h:j<=k):CF j A:=⟨r.hd,by have:=r.dp; lia,by have:=r.un; lia⟩
theorem CF.deeper {k:Nat} {A:Around} (r:CF (k+1) A) (env:Env):CF k (A.deeper env) :=
 ⟨r.hd,by have:=r.dp; show A.depth+1+3 * k+5 < _; lia,by have:=r.un; show A.units+3+16 * k+200 < _; lia⟩
theorem OQ {A:Around} {C:Addr} {us:List Value} {kw:List (Str×Value)}:(A.under (.builtin "type.__call__" ⟨.ref C :: us,kw⟩)).depth=A.depth+1:=by
 first | rfl | simp [Around.under,Code.weight,Code.isCreation,Code.isGuard,Code.isCaller,Code.frames,Code.isFrame,guardIds]
theorem OP {A:Around} {C:Addr} {us:List Value} {kw:List (Str×Value)}:(A.under (.builtin "type.__call__" ⟨.ref C :: us,kw⟩)).units=A.units+1:=by
 first | rfl | simp [Around.under,Code.cUnits,Code.frames,Code.isFrame]
theorem CF.make {k:Nat} {A:Around} (r:CF (k+1) A) (C:Addr) (us:List Value) (kw:List (Str×Value)):CF k (A.under (.builtin "type.__call__" ⟨.ref C :: us,kw⟩)) :=
 ⟨r.hd,by have:=r.dp; rw [OQ]; lia,by have:=r.un; rw [OP]; lia⟩
theorem CF.depth {k:Nat} {A:Around} (r:CF k A):A.depth < recursionLimit:=by have:=r.dp; lia
theorem CF.units {k:Nat} {A:Around} (r:CF k A):A.units+64 < cLine:=by have:=r.un; lia
def tNil:TA:=fun _ H Q=>Q [] H
def Nr (ta:TE) (tr:TA):TA:=fun σ H Q=>ta σ H fun x H1=>tr σ H1 fun xs H2=>Q (x :: xs) H2
section
variable {X:Cx} {e:Expr} {es:List Expr} {te:TE} {t:TA} {pos:Pos}
theorem Ac:PA X [] tNil:=fun _ _ _ _ H Q I h=>Calls.spliced_nil ⟨[],H,I,.nil,h⟩
theorem Aa (ha:PE X e te) (hr:PA X es t) (hs:starEach (e :: es) X.env=(false,eval e X.env) :: starEach es X.env:=by rfl):PA X (e :: es) (Nr te t):=by
 intro pos pins s σ H Q I h;rw [hs];show wpAny _ _ (spliced ((false,eval e X.env) :: backTo pos (starEach es X.env))) _ _ s;refine Calls.spliced_cons (thn (ha pins s σ H _ I h) fun u s1 ⟨x,H1,I1,r1,q1⟩=>?_);exact thn (hr pos pins s1 σ H1 _ I1 q1) fun us s2 ⟨xs,H2,I2,r2,q2⟩=>⟨x :: xs,H2,I2,.cons r1 r2,q2⟩
def tTup (t:TA):TE:=fun σ H Q=>t σ H fun xs H1=>xs.length<=sizeLine/\∀ p,H1 p=none->Q (.ref p) (upd H1 p (.tup xs))
def tLst (t:TA):TE:=fun σ H Q=>t σ H fun xs H1=>xs.length<=sizeLine/\∀ p,H1 p=none->Q (.ref p) (upd H1 p (.lst xs))
theorem FC {x1} (h:PA X es t):PE X (.Tuple es x1 pos) (tTup t):=by
 intro pins s σ H Q I hq;refine wpAny_Tuple_spliced (thn (h pos pins s σ H _ I hq) fun us s1 ⟨xs,H1,I1,r,z,q⟩=>⟨by rw [<-r.length]; exact z,?_⟩);have hf:H1 s1.heap.objs.size=none:=I1.hok.fresh (Nat.le_refl _);refine ⟨.ref s1.heap.objs.size,upd H1 s1.heap.objs.size (.tup xs),I1.laid (t':=s1.toks) (fun b u e=>Heap.get?_push_of_some _ e) (Nat.le_refl _) ?_,rfl,q _ hf⟩;exact ⟨z,us,r,⟨_,Heap.get?_push_size _ rfl,rfl,_,rfl⟩⟩
theorem CW (h:PA X es t):PE X (.List es pos) (tLst t):=by
 intro pins s σ H Q I hq;refine wpAny_List_spliced (thn (h pos pins s σ H _ I hq) fun us s1 ⟨xs,H1,I1,r,z,q⟩=>⟨by rw [<-r.length]; exact z,?_⟩);have hf:H1 s1.heap.objs.size=none:=I1.hok.fresh (Nat.le_refl _);refine ⟨.ref s1.heap.objs.size,upd H1 s1.heap.objs.size (.lst xs),I1.laid (t':=s1.toks) (fun b u e=>Heap.get?_push_of_some _ e) (Nat.le_refl _) ?_,rfl,q _ hf⟩;exact ⟨z,us,0,r,Heap.get?_push_size _ rfl⟩
end
abbrev Sp:=List V->Hp->VK->XK->Prop
abbrev CXT:=List Env->Hp->Shared->XK->Value->Shared->Prop
structure Ou (P:Program) (w:World) (K:PySem.W.Frag) (mg:Str->Option Value) (base:Heap) (A:Around) (outer:List Env) (s:Shared) (H:Hp):Prop where
 frames:A.frames=some outer
 mod:Mod K mg base
 bs:∀ b o,base.get? b=some o->s.heap.get? b=some o/\H b=none
 bsz:base.objs.size<=s.heap.objs.size
 funs:s.heap.FunFrames base outer
 frf:∀ b ∈ frs outer,H b=none
 hok:HOk P w H s.heap
 bare:AllBare s.gens
def CE (outer:List Env) (P:Program) (w:World) (H:Hp) (s:Shared) (Q:VK) (u:Value) (s':Shared):Prop :=
 ∃ v H',s'.os=s.os/\AllBare s'.gens/\Un (frs outer) [] H H' s.heap s'.heap/\HOk P w H' s'.heap/\AX v u/\Q v H'
def CR (CX:CXT) (outer:List Env) (P:Program) (w:World) (H:Hp) (s:Shared) (Q:VK) (E:XK) (r:Result) (s':Shared):Prop :=
 match r with
 | .ok (.ret u)=>CE outer P w H s Q u s'
 | .ok _=>False
 | .error e=>CX outer H s E e s'
structure AI (P:Program) (w:World) (K:PySem.W.Frag) (mg:Str->Option Value) (base:Heap) (CX:CXT) (k:Nat) (f:Addr) (fd:FuncData) (ps:List Str) (sp:Sp):Prop where
 len:∀ vs H Q E,sp vs H Q E->vs.length=ps.length
 run:∀ (A:Around) (outer:List Env) (s:Shared) (H:Hp) (args:Args) (us:List Value) (vs:List V) (Q:VK) (E:XK),CF k A->Ou P w K mg base A outer s H->BindsTo s fd args (ps.zip us)->AJ vs us->sp vs H Q E ->
  codeAny (model P w) A (.call (.ref f) args) (CR CX outer P w H s Q E) s
theorem Ou.make {P:Program} {w:World} {K:PySem.W.Frag} {mg:Str->Option Value} {base:Heap} {A:Around} {outer:List Env} {s:Shared} {H:Hp} (e:Ou P w K mg base A outer s H) (C:Addr) (us:List Value) (kw:List (Str×Value)) :
  Ou P w K mg base (A.under (.builtin "type.__call__" ⟨.ref C :: us,kw⟩)) outer s H:=⟨by first | exact e.frames | (simpa [Around.under,Code.envs,Code.isFrame,pushEnvs] using e.frames),e.mod,e.bs,e.bsz,e.funs,e.frf,e.hok,e.bare⟩
section
variable {X:Cx} {pins:List (Addr×Obj)} {σ:St} {H:Hp} {s s':Shared}
theorem Inv.env0 (I:Inv X pins σ H s):Ou X.prog X.w X.K X.mg X.base X.A X.stack s H :=
 ⟨I.ok.frames,I.ok.mod,I.bs,Nat.le_trans I.ok.bsz I.sz,I.stack,I.stkFree,I.hok,I.bare⟩
theorem Inv.after {Q:VK} {u:Value} (I:Inv X pins σ H s) (h:CE X.stack X.prog X.w H s Q u s'):EP X pins σ Q u s':=by
 obtain ⟨v,H',os,bare,un,hok,r,q⟩:=h;obtain ⟨hh,g,d,t,os'⟩:=s';obtain rfl:os'=s.os:=os;exact ⟨v,H',I.call (h':=hh) (g':=g) (d':=d) (t':=t) (ch:=[]) un hok bare (fun b z=>absurd z (by simp)),r,q⟩
end
def Pq (sp:Sp) (dvs:List V) (E:XK) (t:TA):TE:=fun σ H Q=>t σ H fun vs H1=>sp (vs ++ dvs) H1 Q E
def tMeth (C:Addr) (m:Str) (sp:Sp) (dvs:List V) (E:XK) (ta:TE) (t:TA):TE:=fun σ H Q=>ta σ H fun x H1=>∃ a dx fs,x=.ref a/\H1 a=some (.ins C dx fs)/\fs.lookup m=none /\
 t σ H1 fun vs H2=>sp (x :: (vs ++ dvs)) H2 Q E
def tMake (C:Addr) (sp:Sp) (dvs:List V) (E:XK) (t:TA):TE:=fun σ H Q=>t σ H fun vs H1=>∀ x dx,H1 x=none->H1 dx=none->dx≠x ->
 sp (.ref x :: (vs ++ dvs)) (upd (upd H1 dx (.own x)) x (.ins C dx [])) (fun v H2=>v=.non/\Q (.ref x) H2) E
def DN (K:PySem.W.Frag) (fd:FuncData) (ps:List Str) (ds:List Value):Prop :=
 ∀ (s:Shared) (us:List Value),K.In s.heap->(us ++ ds).length=ps.length->BindsTo s fd ⟨us,[]⟩ (ps.zip (us ++ ds))
theorem DN.all {K:PySem.W.Frag} {fd:FuncData} {ps:List Str} (h:∀ us:List Value,us.length=ps.length->bindArgs fd ⟨us,[]⟩=pure (ps.zip us)):DN K fd ps []:=fun s us _ hl=>by
 rw [List.append_nil] at hl ⊢;exact .of_eq (h us hl)
def EY (CX:CXT) (X:Cx) (E:XK):Prop:=∀ (pins:List (Addr×Obj)) (σ:St) (H:Hp) (s:Shared) (e:Value) (s':Shared),Inv X pins σ H s->CX X.stack H s E e s'->X.xe e s'
section
variable {X:Cx} {CX:CXT} {k:Nat} {f C:Addr} {fd:FuncData} {ps:List Str} {sp:Sp} {dvs:List V} {ds:List Value} {E:XK} {x m:Str} {p pos apos:Pos} {e o:Expr} {es:List Expr} {ta:TE} {t:TA}
theorem RI {pins:List (Addr×Obj)} {σ:St} {H:Hp} {s:Shared} {Q:VK} {us:List Value} {vs:List V} (F:AI X.prog X.w X.K X.mg X.base CX k f fd ps sp) (hr:CF k X.A) (hb:DN X.K fd ps ds) (hd:AJ dvs ds) (hx:EY CX X E)
  (I:Inv X pins σ H s) (r:AJ vs us) (h:sp (vs ++ dvs) H Q E):wpAny (model X.prog X.w) X.A (call (.ref f) us) (EP X pins σ Q) X.xe s:=by
 have r2:AJ (vs ++ dvs) (us ++ ds):=r.append hd;have hl:(us ++ ds).length=ps.length:=by rw [<-r2.length]; exact F.len _ _ _ _ h
 refine wpAny_call (codeAny_mono (F.run X.A X.stack s H ⟨us,[]⟩ (us ++ ds) (vs ++ dvs) Q E hr I.env0 (hb s us I.kIn hl) r2 h) fun r s' hq=>?_);cases r with
 | error e=>exact hx pins σ H s e s' I hq
 | ok fl =>
  cases fl with
  | ret u=>exact I.after hq
  | next=>exact False.elim hq
  | brk=>exact False.elim hq
  | cont=>exact False.elim hq
theorem pe_call (F:AI X.prog X.w X.K X.mg X.base CX k f fd ps sp) (hr:CF k X.A) (hg:Gl X x) (hm:X.mg x=some (.ref f)) (hk:PySem.W.keepIn X.K (.ref f)=true) (hb:DN X.K fd ps ds) (hd:AJ dvs ds) (hx:EY CX X E)
  (ha:PA X (e :: es) t) (hdb:(x == ("__debug__" : Str))=false:=by decide) (he:starEach (e :: es) X.env=(false,eval e X.env) :: starEach es X.env:=by rfl) (hpl:(backTo pos (starEach es X.env)).any (·.1)=false:=by rfl) :
  PE X (.Call (.Name x p) (e :: es) [] pos) (Pq sp dvs E t):=by
 intro pins s σ H Q I h;refine wpAny_Call_Name_kw (FH I hg hm ?_ hdb);refine PySem.W.callWith_K (h₀:=X.base) I.ok.mod.kin hk (thn (ha pos pins s σ H _ I h) fun us s1 ⟨vs,H1,I1,r,q⟩=>⟨I1.kIn,?_⟩) he hpl;exact RI F hr hb hd hx I1 r q
theorem pe_meth {pl:Sem Bool} (he:PE X o ta) (c:Cls X.K C) (hm:Lj X.K C m f) (F:AI X.prog X.w X.K X.mg X.base CX k f fd ps sp) (hr:CF k X.A) (hb:DN X.K fd ps ds) (hd:AJ dvs ds) (hx:EY CX X E) (ha:PA X (e :: es) t)
  (hst:starEach (e :: es) X.env=(false,eval e X.env) :: starEach es X.env:=by rfl) (hpl:(backTo pos (starEach es X.env)).any (·.1)=false:=by rfl)
  (ht:eval (.Call (.Attribute o m apos) (e :: es) [] pos) X.env=(do
   let ov <-eval o X.env
   standAt apos.atName
   let (f,first) <-holding [ov] (getMethod ov m pl)
   callWith pos f first (backTo pos (starEach (e :: es) X.env)) (backToKw pos (keywordEach [] X.env))):=by rfl) :
  PE X (.Call (.Attribute o m apos) (e :: es) [] pos) (tMeth C m sp dvs E ta t):=by
 intro pins s σ H Q I h;refine PySem.W.methodCall_KW (pl:=pl) (thn (he pins s σ H _ I h) fun u s1 ⟨x,H1,I1,rx,a,dx,fs,ex,ea,l,q⟩=>?_) ht;subst ex;obtain rfl:u=Value.ref a:=rx;refine OV I1 ea c hm l ?_;refine PySem.W.callWith_K (first:=[.ref a]) (h₀:=X.base) I.ok.mod.kin hm.kp (thn (ha pos pins s1 σ H1 _ I1 q) fun us s2 ⟨vs,H2,I2,r,q2⟩=>⟨I2.kIn,?_⟩) hst hpl;exact RI (us:=.ref a :: us) (vs:=.ref a :: vs) F hr hb hd hx I2 (.cons rfl r) q2
structure Mk (K:PySem.W.Frag) (C f:Addr):Prop where
 makes:PySem.W.makesIn K C=true
 init:PySem.W.findIn K (.ref C) "__init__" = some (some (.ref f))
 fn:PySem.W.isFn K (.ref f)=true
 kp:PySem.W.keepIn K (.ref C)=true
theorem RH {pins:List (Addr×Obj)} {σ:St} {H:Hp} {s:Shared} {Q:VK} {us:List Value} {vs:List V} (M:Mk X.K C f) (F:AI X.prog X.w X.K X.mg X.base CX k f fd ps sp) (hr:CF (k+1) X.A) (hb:DN X.K fd ps ds) (hd:AJ dvs ds)
  (hx:EY CX X E) (I:Inv X pins σ H s) (r:AJ vs us)
  (h:∀ x dx,H x=none->H dx=none->dx≠x->sp (.ref x :: (vs ++ dvs)) (upd (upd H dx (.own x)) x (.ins C dx [])) (fun v H2=>v=.non/\Q (.ref x) H2) E) :
  wpAny (model X.prog X.w) X.A (call (.ref C) us) (EP X pins σ Q) X.xe s:=by
 have hq:=h (s.heap.objs.size+1) s.heap.objs.size (I.hok.fresh (Nat.le_succ _)) (I.hok.fresh (Nat.le_refl _)) (Nat.ne_of_lt (Nat.lt_succ_self _));have I2:=Inv.made (C:=C) I;have r2:AJ (V.ref (s.heap.objs.size+1) :: (vs ++ dvs)) (Value.ref (s.heap.objs.size+1) :: (us ++ ds)):=.cons rfl (r.append hd);have hl:(Value.ref (s.heap.objs.size+1) :: us ++ ds).length=ps.length:=by
  have e:=r2.length;rw [F.len _ _ _ _ hq] at e;exact e.symm
 refine wpAny_call (SH (f:=f) I.kIn M.makes M.init (beq_iff_eq.mp M.fn) (codeAny_mono (F.run _ X.stack _ _ ⟨Value.ref (s.heap.objs.size+1) :: us,[]⟩ (Value.ref (s.heap.objs.size+1) :: (us ++ ds)) _ _ E (hr.make C us [])
  (I2.env0.make C us []) (hb _ (Value.ref (s.heap.objs.size+1) :: us) I2.kIn hl) r2 hq) fun r s' hq'=>?_))
 cases r with
 | error e=>exact hx pins σ _ _ e s' I2 hq'
 | ok fl =>
  cases fl with
  | ret u =>
   obtain ⟨v,H',I3,rv,ev,q3⟩:=I2.after hq';subst ev;exact ⟨rv,⟨V.ref (s.heap.objs.size+1),H',I3,rfl,q3⟩⟩
  | next=>exact False.elim hq'
  | brk=>exact False.elim hq'
  | cont=>exact False.elim hq'
theorem RT (M:Mk X.K C f) (F:AI X.prog X.w X.K X.mg X.base CX k f fd ps sp) (hr:CF (k+1) X.A) (hg:Gl X x) (hm:X.mg x=some (.ref C)) (hb:DN X.K fd ps ds) (hd:AJ dvs ds) (hx:EY CX X E)
  (hdb:(x == ("__debug__" : Str))=false:=by decide):PE X (.Call (.Name x p) [] [] pos) (tMake C sp dvs E tNil):=by
 intro pins s σ H Q I h;refine wpAny_Call_Name_kw (FH I hg hm ?_ hdb);exact PySem.W.callWith_K0 I.kIn M.kp (RH (us:=[]) M F hr hb hd hx I .nil h)
end
section
variable {X:Cx} {CX:CXT} {k:Nat} {f C:Addr} {fd:FuncData} {ps ks:List Str} {sp:Sp} {E:XK} {x m:Str} {p pos apos kpos:Pos} {e o:Expr} {es:List Expr} {kws:List Keyword} {te ta:TE} {t tk:TA} {nm:Option Str}
variable {g:List Value->List Value->List Value} {gV:List V->List V->List V}
end
structure Ar (N P:List Str) (sc:Scope):Prop where
 kind:sc.kind=.function
 co:sc.isCoroutine=false
 gen:sc.isGenerator=false
 nd:N.Nodup
 pre:N.take P.length=P
 par:∀ x ∈ P,sc.names.lookup x=some .local\/sc.names.lookup x=some .cell
 nofree:∀ y ∈ sc.names,y.2≠.free
theorem Me {kindOf:Str->Option NameKind} {x:Str}:∀ {binds:List (Str×Value)} {m:Str->Option Value},(∀ v,(x,v) ∉ binds)->bindL kindOf binds m x=m x
 | [],_,_=>rfl
 | (n,v) :: r,m,h=>by
  unfold bindL;rw [Me fun w hw=>h w (List.mem_cons_of_mem _ hw)];split
  ·have:x≠n:=by rintro rfl; exact h v List.mem_cons_self
   simp [this]
  ·rfl
theorem Mg {kindOf:Str->Option NameKind} {x:Str}:∀ {binds:List (Str×Value)} {m:Str->Option Value},(∀ v,(x,v) ∉ binds)->bindC kindOf binds m x=m x
 | [],_,_=>rfl
 | (n,v) :: r,m,h=>by
  unfold bindC;rw [Mg fun w hw=>h w (List.mem_cons_of_mem _ hw)];split
  ·rfl
  ·have:x≠n:=by rintro rfl; exact h v List.mem_cons_self
   simp [this]
theorem Mf {kindOf:Str->Option NameKind} {x:Str} {v:Value}:∀ {P:List Str} {vs:List Value} {i:Nat} {m:Str->Option Value},P.Nodup->P[i]?=some x->vs[i]?=some v->kindOf x=some .local ->
  bindL kindOf (P.zip vs) m x=some v
 | [],_,_,_,_,h,_,_=>by simp at h
 | _ :: _,[],_,_,_,_,h,_=>by simp at h
 | p :: P,w :: vs,0,m,nd,h1,h2,hk=>by
  simp at h1 h2; subst h1; subst h2;show bindL kindOf ((p,w) :: P.zip vs) m p=_;unfold bindL;rw [Me fun v hv=>(List.nodup_cons.mp nd).1 (List.of_mem_zip hv).1,if_pos hk];simp
 | p :: P,w :: vs,i+1,m,nd,h1,h2,hk=>by
  show bindL kindOf ((p,w) :: P.zip vs) m x=_;unfold bindL;exact Mf (i:=i) (List.nodup_cons.mp nd).2 (by simpa using h1) (by simpa using h2) hk
theorem Mh {kindOf:Str->Option NameKind} {x:Str} {v:Value}:∀ {P:List Str} {vs:List Value} {i:Nat} {m:Str->Option Value},P.Nodup->P[i]?=some x->vs[i]?=some v->kindOf x≠some .local ->
  bindC kindOf (P.zip vs) m x=some v
 | [],_,_,_,_,h,_,_=>by simp at h
 | _ :: _,[],_,_,_,_,h,_=>by simp at h
 | p :: P,w :: vs,0,m,nd,h1,h2,hk=>by
  simp at h1 h2; subst h1; subst h2;show bindC kindOf ((p,w) :: P.zip vs) m p=_;unfold bindC;rw [Mg fun v hv=>(List.nodup_cons.mp nd).1 (List.of_mem_zip hv).1,if_neg hk];simp
 | p :: P,w :: vs,i+1,m,nd,h1,h2,hk=>by
  show bindC kindOf ((p,w) :: P.zip vs) m x=_;unfold bindC;exact Mh (i:=i) (List.nodup_cons.mp nd).2 (by simpa using h1) (by simpa using h2) hk
def Fb (N:List Str) (vs:List V):St:=vs.map some ++ List.replicate (N.length - vs.length) none
def EV (CX:CXT) (P:Program) (w:World) (K:PySem.W.Frag) (mg:Str->Option Value) (base:Heap) (N:List Str) (qual:Str) (scope:Scope) (f:Addr) (cd:Value) (A:Around) (outer:List Env) (s:Shared) (H:Hp) (E:XK):Cx where
 prog:=P
 w:=w
 K:=K
 mg:=mg
 base:=base
 A:=A.deeper (envOfC qual scope s.heap.objs.size f cd)
 N:=N
 s₀:=s
 H₀:=H
 env:=envOfC qual scope s.heap.objs.size f cd
 outer:=outer
 stack:=envOfC qual scope s.heap.objs.size f cd :: outer
 ex:=[]
 calm:=true
 fn:=fun _=>true
 pn:=[]
 xe:=fun e s'=>wpAny (model P w) (A.deeper (envOfC qual scope s.heap.objs.size f cd)) (leaving (envOfC qual scope s.heap.objs.size f cd) e) (fun _ s''=>CX outer H s E e s'') (fun e' s''=>CX outer H s E e' s'') s'
theorem Oj {sc:Scope} {n:Nat} {x:Str} (h:sc.names.lookup x=some .cell):∃ c,(cellsFrom n sc.names []).lookup x=some c:=by
 have q:=PySem.W.cellsFrom_some sc.names n [] (.inl h);exact Option.isSome_iff_exists.mp q
theorem LU {CX:CXT} {P:Program} {w:World} {K:PySem.W.Frag} {mg:Str->Option Value} {base:Heap} {N ps:List Str} {qual:Str} {scope:Scope} {f:Addr} {cd:Value} {A:Around} {outer:List Env} {s s1:Shared} {H:Hp} {E:XK} {us:List Value} {vs:List V}
  (S:Ar N ps scope) (hd:A.handled=none) (e0:Ou P w K mg base A outer s H) (hl:vs.length=ps.length) (r:AJ vs us)
  (x:InCallC s s.heap.objs.size (bindL (envOfC qual scope s.heap.objs.size f cd).kindOf (ps.zip us) fun _=>none) (cellsFrom (s.heap.objs.size+1) scope.names []) (bindC (envOfC qual scope s.heap.objs.size f cd).kindOf (ps.zip us) fun _=>none) s1) :
  Inv (EV CX P w K mg base N qual scope f cd A outer s H E) [] (Fb N vs) H s1:=by
 have hpl:ps.length<=N.length:=by have:=congrArg List.length S.pre; rw [List.length_take] at this; lia
 obtain ⟨h1,tk,rfl,hk⟩:=x.done;have noA:∀ b:Addr,b ∉ (EV CX P w K mg base N qual scope f cd A outer s H E).ex:=fun b z=>absurd (show b ∈ ([]:List Addr) from z) (by simp);refine ⟨⟨e0.mod,S.kind,rfl,rfl,Nat.le_refl _,fun y z c h1 h2=>?_,fun y hy=>?_,fun y c _ h=>?_,fun _=>hd,Around.frames_deeper e0.frames,.inr ⟨rfl,rfl⟩,fun b z=>absurd z (noA b),e0.bs,e0.bsz,fun b _ _=>noA b,fun b z=>absurd z (noA b),e0.funs,e0.frf⟩,
  rfl,e0.bare,Un.kept hk,⟨_,x.toInCall.ns,fun i y v h1 h2 h3=>?_⟩,fun y c h=>⟨_,x.cell y c h⟩,e0.hok.fresh (Nat.le_refl _),fun y c h=>?_,fun p hp=>absurd (show p ∈ ([]:List (Addr×Obj)) from hp) (by simp),e0.hok.kept hk,?_⟩
 ·exact name_of_addr x.apart (PySem.mem_of_lookup h1) (PySem.mem_of_lookup h2)
 ·have hy:scope.names.lookup y=some .cell\/scope.names.lookup y=some .free:=hy;rcases hy with hy | hy
  ·exact Oj hy
  ·exact absurd rfl (S.nofree _ (PySem.mem_of_lookup hy))
 ·exact Nat.le_of_lt (x.above y c (PySem.mem_of_lookup h))
 ·have hi:i < vs.length:=by
   unfold Fb at h2;by_cases hi:i < vs.length
   ·exact hi
   ·rw [List.getElem?_append_right (by simpa using hi)] at h2;rw [List.getElem?_replicate] at h2;split at h2<;>cases h2
  have ha:vs[i]?=some v:=by
   unfold Fb at h2;rw [List.getElem?_append_left (by simpa using hi),List.getElem?_map] at h2;cases e:vs[i]? with
   | none=>rw [e] at h2; cases h2
   | some a=>rw [e] at h2; cases h2; rfl
  obtain ⟨u,hu,rv⟩:=r.get ha;have hp:ps[i]?=some y:=by
   rw [<-S.pre,List.getElem?_take_of_lt (by lia)]; exact h1
  have ndP:ps.Nodup:=by rw [<-S.pre]; exact S.nd.sublist (List.take_sublist _ _)
  refine ⟨u,rv,?_⟩;rcases S.par y (List.mem_of_getElem? hp) with k | k
  ·exact .inl ⟨k,Mf ndP hp hu k⟩
  ·obtain ⟨c,e⟩:=Oj (n:=s.heap.objs.size+1) k;refine .inr ⟨.inl k,c,e,?_⟩;have q:=x.cell y c e;rw [Mh ndP hp hu (by show scope.names.lookup y≠_; rw [k]; decide)] at q;exact q
 ·exact e0.hok.fresh (Nat.le_of_lt (x.above y c (PySem.mem_of_lookup h)))
 ·unfold Fb;show _=N.length;rw [List.length_append,List.length_map,List.length_replicate];lia
theorem fn_of {CX:CXT} {P:Program} {w:World} {K:PySem.W.Frag} {mg:Str->Option Value} {base:Heap} {k:Nat} {f:Addr} {name qual:Str} {params:Arguments} {body:List Stmt} {scope:Scope} {dV kV doc pm cdv ct oc:Value} {an od:Option Addr}
  {osl:Array (Option Value)} {N ps:List Str} {sp:Sp} (lk:K.lookup f=some ⟨oc,od,.func (PySem.W.fnOf name qual params body scope dV kV doc pm an cdv ct),osl⟩) (hcd:PySem.W.codeIn K cdv qual=true) (S:Ar N ps scope)
  (len:∀ vs H Q E,sp vs H Q E->vs.length=ps.length)
  (hbody:∀ (A:Around) (outer:List Env) (s:Shared) (H:Hp) (vs:List V) (Q:VK) (E:XK),CF k (A.deeper (envOfC qual scope s.heap.objs.size f cdv))->sp vs H Q E ->
   ∃ t,PSs (EV CX P w K mg base N qual scope f cdv A outer s H E) body t/\t { nx:=fun _ H'=>Q .non H',rt:=Q } (Fb N vs) H) :
  AI P w K mg base CX (k+1) f (PySem.W.fnOf name qual params body scope dV kV doc pm an cdv ct) ps sp:=by
 refine ⟨len,fun A outer s H args us vs Q E hr e0 hb r hsp=>?_⟩;have hl:=len _ _ _ _ hsp;have KX:K.In s.heap:=e0.mod.kin.keeps fun b o e=>(e0.bs b o e).1;have lim:s.heap.NoLimit:=e0.mod.nolimit.keeps fun b o e=>(e0.bs b o e).1;have hkind:∀ y ∈ ps.zip us,scope.names.lookup y.1=some .local\/(scope.names.lookup y.1=some .cell/\((cellsFrom (s.heap.objs.size+1) scope.names []).lookup y.1).isSome=true):=fun ⟨n,v⟩ hy=>by
  rcases S.par n (List.of_mem_zip hy).1 with q | q
  ·exact .inl q
  ·exact .inr ⟨q,PySem.W.cellsFrom_some _ _ _ (.inl q)⟩
 refine codeAny_call_function hr.depth (KX _ _ lk) rfl S.co S.gen rfl (PySem.W.codeRec_of KX hcd) (hb _ _ _ _ ?_);refine wpAny_newFunctionEnv_cells S.kind hkind fun env he s1 x=>?_;subst he;refine ⟨lim.keeps x.toInCall.keep,codeAny_func ?_⟩;obtain ⟨t,ht,hq⟩:=hbody A outer s H vs Q E (hr.deeper _) hsp;have I:Inv (EV CX P w K mg base N qual scope f cdv A outer s H E) [] (Fb N vs) H s1:=LU S hr.hd e0 hl r x;refine wpAny_mono (ht [] s1 (Fb N vs) H _ I hq) (fun fl s' hs=>?_) fun e s' hs=>hs;have fin:∀ {σ':St} {H':Hp} {v:V} {u:Value},Inv (EV CX P w K mg base N qual scope f cdv A outer s H E) [] σ' H' s'->AX v u->Q v H'->CE outer P w H s Q u s' :=
  fun {σ' H' v u} J rv q=>⟨v,H',J.os,J.bare,J.base,J.hok,rv,q⟩
 cases fl with
 | ret u =>
  obtain ⟨v,σ',H',J,rv,q⟩:=hs;exact fin J rv q
 | next =>
  obtain ⟨σ',H',J,q⟩:=hs;exact fin (v:=V.non) (u:=Value.none) J rfl q
 | brk =>
  obtain ⟨_,_,_,q⟩:=hs;exact False.elim q
 | cont =>
  obtain ⟨_,_,_,q⟩:=hs;exact False.elim q
end L2
namespace L2
open PySem PySem.Spec PyProof.Rows
section
variable {X:Cx} {x:Str} {p pos:Pos} {e:Expr} {es:List Expr} {t:TA} {id T:String} {r:List V->Hp->VK->Prop}
def tCB (r:List V->Hp->VK->Prop) (t:TA):TE:=fun σ H Q=>t σ H fun vs H1=>r vs H1 Q
theorem Av (hc:EQ X (.builtin id) r) (hg:Gl X x) (hm:X.mg x=none) (hv:bootBuiltins x=some (.builtin id)) (ha:PA X (e :: es) t) (hn:x≠"__name__" := by decide) (hdb:(x == ("__debug__" : Str))=false:=by decide)
  (he:starEach (e :: es) X.env=(false,eval e X.env) :: starEach es X.env:=by rfl) (hpl:(backTo pos (starEach es X.env)).any (·.1)=false:=by rfl):PE X (.Call (.Name x p) (e :: es) [] pos) (tCB r t):=by
 intro pins s σ H Q I h;refine wpAny_Call_Name_kw (IE I hg hm hv ?_ hn hdb);exact PyProof.Rows.callWith_builtin1 (thn (ha pos pins s σ H _ I h) fun us s1 ⟨vs,H1,I1,r1,q1⟩=>hc pins s1 σ H1 vs us Q I1 r1 q1) he hpl
theorem Fh (hc:EQ X (.type T) r) (hg:Gl X x) (hm:X.mg x=none) (hv:bootBuiltins x=some (.type T)) (ha:PA X (e :: es) t) (hn:x≠"__name__" := by decide) (hdb:(x == ("__debug__" : Str))=false:=by decide)
  (he:starEach (e :: es) X.env=(false,eval e X.env) :: starEach es X.env:=by rfl) (hpl:(backTo pos (starEach es X.env)).any (·.1)=false:=by rfl):PE X (.Call (.Name x p) (e :: es) [] pos) (tCB r t):=by
 intro pins s σ H Q I h;refine wpAny_Call_Name_kw (IE I hg hm hv ?_ hn hdb);exact PyProof.Rows.callWith_type1 (thn (ha pos pins s σ H _ I h) fun us s1 ⟨vs,H1,I1,r1,q1⟩=>hc pins s1 σ H1 vs us Q I1 r1 q1) he hpl
end
end L2
namespace HT
open PySem PyProof.Rows
section
open PySem.SeqAt
open PySem.AutoSeq1 (wpAny_loadPart')
open PySem.MeetsSeq PySem.MeetsSeq2 PySem.MeetsSeq3
end
section
variable {prog:Program} {w:World} {A:Around} {E:Value->Shared->Prop} {s:Shared}
def sIx (n d:Nat):Option Int->Nat
 | none=>d
 | some v=>if v < 0 then (v+(n:Int)).toNat else min v.toNat n
end
end HT
namespace L2
open PySem PySem.Spec PyProof.Rows
abbrev TO:=St->Hp->(Option Int->Hp->Prop)->Prop
def PO (X:Cx) (e:Option Expr) (t:TO):Prop :=
 ∀ (pins:List (Addr×Obj)) (s:Shared) (σ:St) (H:Hp) (Q:Option Int->Hp->Prop),Inv X pins σ H s->t σ H Q ->
  wpAny (model X.prog X.w) X.A (evalPart e X.env) (fun u s'=>∃ o H',Inv X pins σ H' s'/\IsPart u o/\Q o H') X.xe s
def tNoPart:TO:=fun _ H Q=>Q none H
def tPart (t:TE):TO:=fun σ H Q=>t σ H fun x H1=>∃ i,x=.int i/\Q (some i) H1
section
variable {X:Cx} {e:Expr} {te:TE} {lo hi:Option Expr} {tl th:TO} {pos p2:Pos}
theorem po_none:PO X none tNoPart:=by
 intro pins s σ H Q I h;rw [evalPart_none];exact wpAny_pure ⟨none,H,I,.none,h⟩
theorem MB (h:PE X e te):PO X (some e) (tPart te):=by
 intro pins s σ H Q I hw;rw [evalPart_some];refine thn (h pins s σ H _ I hw) fun u s1 ⟨x,H1,I1,r1,q1⟩=>?_;obtain ⟨i,rfl,q⟩:=q1;obtain ⟨t,rfl⟩:=r1;exact ⟨some i,H1,I1,.int i t,q⟩
def SlR (X:Cx) (r:V->Option Int->Option Int->Hp->VK->Prop):Prop :=
 ∀ (pins:List (Addr×Obj)) (s:Shared) (σ:St) (H:Hp) (x:V) (v vl vu:Value) (lo hi:Option Int) (sl:Addr) (Q:VK),Inv X pins σ H s->AX x v->s.heap.IsSliceOf sl vl vu .none->IsPart vl lo->IsPart vu hi->r x lo hi H Q ->
  ∃ T id,typeLookup (.type T) "__getitem__" = pure (some (.builtin id))/\s.TypeIs v T/\wpAny (model X.prog X.w) X.A (getItem v (.ref sl)) (EP X pins σ Q) X.xe s
def tSl (r:V->Option Int->Option Int->Hp->VK->Prop) (te:TE) (tl th:TO):TE:=fun σ H Q=>te σ H fun x H1=>tl σ H1 fun l H2=>th σ H2 fun u H3=>r x l u H3 Q
theorem NI {r:V->Option Int->Option Int->Hp->VK->Prop} (hr:SlR X r) (he:PE X e te) (hl:PO X lo tl) (hu:PO X hi th):PE X (.Subscript e (.Slice lo hi none p2) pos) (tSl r te tl th):=by
 intro pins s σ H Q I h;refine Subscript_ (thn (he pins s σ H _ I h) fun v s1 ⟨x,H1,I1,r1,q1⟩=>?_);refine wpAny_Slice (thn (hl pins s1 σ H1 _ I1 q1) fun vl s2 ⟨l,H2,I2,pl,q2⟩=>thn (hu pins s2 σ H2 _ I2 q2) fun vu s3 ⟨u,H3,I3,pu,q3⟩=>?_);rw [evalPart_none];refine wpAny_pure ?_;have I4:Inv X pins σ H3 { s3 with heap:=s3.heap.push { cls:=.type "slice",data:=.fields #[vl,vu,.none] } }:=I3.kept (t':=s3.toks) fun b ob q=>Heap.get?_push_of_some _ q;obtain ⟨T,id,hT,ht,hg⟩:=hr pins { s3 with heap:=s3.heap.push { cls:=.type "slice",data:=.fields #[vl,vu,.none] } } σ H3 x v vl vu l u s3.heap.objs.size Q I4 r1 (Heap.IsSliceOf.new ..) pl pu q3;show wpAny (model X.prog X.w) X.A (subscriptTail e (.Slice lo hi none p2) v (.ref s3.heap.objs.size)) (EP X pins σ Q) X.xe { s3 with heap:=s3.heap.push { cls:=.type "slice",data:=.fields #[vl,vu,.none] } };exact tail_any (ops:=[.ref s3.heap.objs.size,v]) ht hT hg (by with_unfolding_all rfl)
def Ra (xs:List V) (lo hi:Option Int):List V:=(xs.drop (HT.sIx xs.length 0 lo)).take (HT.sIx xs.length xs.length hi - HT.sIx xs.length 0 lo)
theorem Od (xs:List V) (lo hi:Option Int):(Ra xs lo hi).length<=xs.length:=by
 unfold Ra;rw [List.length_take,List.length_drop];lia
end
end L2
namespace L2
open PySem PySem.Spec PyProof.Rows
def ixN (n:Nat) (i:Int):Option Nat:=if 0<=i then (if i < n then some i.toNat else none) else if -(n:Int)<=i then some (i+n).toNat else none
def atI {α:Type} (xs:List α) (i:Int):Option α:=(ixN xs.length i).bind fun j=>xs[j]?
theorem ixN_seq {n:Nat} {i:Int} {j:Nat} (h:ixN n i=some j):seqIndex? i n=some j/\j < n/\-(n:Int)<=i/\i < n:=by
 unfold ixN at h;by_cases h0:0<=i
 ·rw [if_pos h0] at h;by_cases h1:i < n
  ·rw [if_pos h1] at h;have e:i.toNat=j:=Option.some.inj h;exact ⟨by rw [seqIndex_of h0 h1,e],by lia,by lia,h1⟩
  ·rw [if_neg h1] at h; cases h
 ·rw [if_neg h0] at h;by_cases h1:-(n:Int)<=i
  ·rw [if_pos h1] at h;have e:(i+n).toNat=j:=Option.some.inj h;exact ⟨by rw [seqIndex_neg (by lia) h1,e],by lia,h1,by lia⟩
  ·rw [if_neg h1] at h; cases h
theorem Nh {α:Type} {xs:List α} {i:Int} {v:α} (h:atI xs i=some v):∃ j,seqIndex? i xs.length=some j/\xs[j]?=some v/\j < xs.length/\-(xs.length:Int)<=i/\i < xs.length:=by
 unfold atI at h;cases e:ixN xs.length i with
 | none=>rw [e] at h; cases h
 | some j =>
  rw [e] at h;obtain ⟨h1,h2,h3,h4⟩:=ixN_seq e;exact ⟨j,h1,h,h2,h3,h4⟩
theorem Ai {α:Type} {xs:List α} {j:Nat} {v:α} (h:xs[j]?=some v):atI xs (j:Int)=some v:=by
 have hj:j < xs.length:=(List.getElem?_eq_some_iff.mp h).1;have e:ixN xs.length (j:Int)=some j:=by
  unfold ixN;rw [if_pos (by lia),if_pos (by lia)]; simp
 unfold atI; rw [e]; exact h
def PlainIx (b:Expr):Prop:=∀ o i,subscripted b false o i=operate [o,i] (getItem o i)
def IxR (X:Cx) (r:R2):Prop :=
 ∀ (value slice:Expr) (pins:List (Addr×Obj)) (s:Shared) (σ:St) (H:Hp) (x y:V) (v u:Value) (Q:VK),Inv X pins σ H s->AX x v->AX y u->r x y H Q ->
  subscripted slice false v u=operate [v,u] (getItem v u)->wpAny (model X.prog X.w) X.A (subscriptTail value slice v u) (EP X pins σ Q) X.xe s
def MtR (X:Cx) (id:String) (r:V->List V->Hp->VK->Prop):Prop :=
 ∀ (pins:List (Addr×Obj)) (s:Shared) (σ:St) (H:Hp) (x:V) (xs:List V) (v:Value) (us:List Value) (Q:VK),Inv X pins σ H s->AX x v->AJ xs us->r x xs H Q ->
  wpAny (model X.prog X.w) X.A (call (.builtin id) (v :: us)) (EP X pins σ Q) X.xe s
section
variable {X:Cx} {a b:Expr} {ta tb:TE} {pos:Pos}
theorem Ax {r:R2} (hr:IxR X r) (ha:PE X a ta) (hb:PE X b tb) (hs:PlainIx b):PE X (.Subscript a b pos) (tOp r ta tb):=by
 intro pins s σ H Q I h;exact Subscript_ (binT ha hb I h fun v u s2 x y H2 I2 rx ry q=>hr a b pins s2 σ H2 x y v u Q I2 rx ry q (hs _ _))
def rIxL (K:PySem.W.Frag):R2:=fun x y H Q=>∃ p xs i v,x=.ref p/\y=.int i/\SqL K H p xs/\atI xs i=some v/\Q v H
def OD (K:PySem.W.Frag):R2:=fun x y H Q=>∃ p xs i v,x=.ref p/\y=.int i/\SqT K H p xs/\atI xs i=some v/\Q v H
def rIxS:R2:=fun x y H Q=>∃ z i c,x=.str z/\y=.int i/\z.length<=sizeLine/\atI z.cps.toList i=some c/\Q (.str ⟨#[c]⟩) H
theorem AZ:IxR X (rIxL X.K):=by
 intro value slice pins s σ H x y v u Q I rx ry h hs;obtain ⟨p,xs,i,z,rfl,rfl,hq,he,q⟩:=h;cases rx;obtain ⟨t,rfl⟩:=ry;obtain ⟨its,r,pl,hz⟩:=I.list hq;obtain ⟨j,h1,h2,h3,h4,h5⟩:=Nh he;obtain ⟨w,ew,rw'⟩:=r.get h2;have hl:=r.length;have hn:=JS;have fin:EP X pins σ Q w s:=⟨z,H,I,rw',q⟩
 by_cases h0:0<=i
 ·have hj:i.toNat=j:=by
   rw [seqIndex_of h0 h5] at h1;exact Option.some.inj h1
  exact item_listR pl.isList h0 (by lia) (by rw [hj]; simpa using ew) fin hs
 ·have hj:(i+(its.toArray.size:Int)).toNat=j:=by
   rw [seqIndex_neg (by lia) h4] at h1;rw [List.size_toArray,<-hl];exact Option.some.inj h1
  exact subscriptTail_builtinR (x:=w) pl.isList.typeIs slot_list_getitem.lookup
   (wpAny_getItem_list_neg (Q:=fun r s'=>r=w/\EP X pins σ Q r s') pl.isList (by lia) (by rw [List.size_toArray]<;>lia) (by lia) (by rw [hj]; simpa using ew) ⟨rfl,fin⟩) hs
theorem AC:IxR X (OD X.K):=by
 intro value slice pins s σ H x y v u Q I rx ry h hs;obtain ⟨p,xs,i,z,rfl,rfl,hq,he,q⟩:=h;cases rx;obtain ⟨t,rfl⟩:=ry;obtain ⟨its,r,pl,hz⟩:=I.tuple hq;obtain ⟨j,h1,h2,h3,h4,h5⟩:=Nh he;obtain ⟨w,ew,rw'⟩:=r.get h2;have hl:=r.length;have hn:=JS;have fin:EP X pins σ Q w s:=⟨z,H,I,rw',q⟩
 exact subscriptTail_builtinR (x:=w) pl.typeIs slot_tuple_getitem.lookup
  (getItem_tuple (j:=j) (Q:=fun r s'=>r=w/\EP X pins σ Q r s') pl (by lia) (by lia) (by rw [List.size_toArray,<-hl]; exact h1) (by simpa using ew) ⟨rfl,fin⟩) hs
theorem MW:IxR X rIxS:=by
 intro value slice pins s σ H x y v u Q I rx ry h hs;obtain ⟨z,i,c,rfl,rfl,hz,he,q⟩:=h;obtain ⟨t,rfl⟩:=rx;obtain ⟨t',rfl⟩:=ry;obtain ⟨j,h1,h2,h3,h4,h5⟩:=Nh he;have hl:z.cps.toList.length=z.length:=by simp [Str.length]
 rw [hl] at h1 h4 h5;have hn:=JS;exact tail_any (typeIs_str s z t) slot_str_getitem.lookup (getItem_str (c:=c) (by
  have e1:decide (i < -(2 ^ 63:Int))=false:=decide_eq_false (by lia);have e2:decide (i ≥ 2 ^ 63)=false:=decide_eq_false (by lia);rw [e1,e2,Bool.or_false]) (by rw [h1]; simpa using h2) ⟨.str ⟨#[c]⟩,H,I.tok _,⟨_,rfl⟩,q⟩) hs
theorem Mv (lo hi:Option Int) (n:Nat):(sliceBounds lo hi none n).1=((HT.sIx n 0 lo:Nat):Int)/\(sliceBounds lo hi none n).2.1=((HT.sIx n n hi:Nat):Int)/\(sliceBounds lo hi none n).2.2=1:=by
 refine ⟨?_,?_,rfl⟩
 ·cases lo with
  | none=>simp [sliceBounds,HT.sIx]
  | some i =>
   simp only [sliceBounds,HT.sIx,Option.getD_none,show (1:Int) > 0 by decide,if_true];by_cases h:i < 0
   ·simp only [h,if_true]<;>lia
   ·simp only [h,if_false]<;>lia
 ·cases hi with
  | none=>simp [sliceBounds,HT.sIx]
  | some i =>
   simp only [sliceBounds,HT.sIx,Option.getD_none,show (1:Int) > 0 by decide,if_true];by_cases h:i < 0
   ·simp only [h,if_true]<;>lia
   ·simp only [h,if_false]<;>lia
theorem Lm (its:List Value) (lo hi:Option Int):slicePick its.toArray lo hi none=((its.drop (HT.sIx its.length 0 lo)).take (HT.sIx its.length its.length hi - HT.sIx its.length 0 lo)).toArray:=by
 obtain ⟨h1,h2,h3⟩:=Mv lo hi its.toArray.size;unfold slicePick;rw [h1,h2,h3];simp only [sliceRange_one,pick_run,List.size_toArray]<;>rfl
def rSlL (K:PySem.W.Frag):V->Option Int->Option Int->Hp->VK->Prop:=fun x lo hi H Q=>∃ a xs,x=.ref a/\SqL K H a xs/\∀ p,H p=none->Q (.ref p) (upd H p (.lst (Ra xs lo hi)))
theorem sl_list:SlR X (rSlL X.K):=by
 intro pins s σ H x v vl vu lo hi sl Q I rx hs pl pu h;obtain ⟨a,xs,rfl,hx,q⟩:=h;cases rx;obtain ⟨its,r,ht,hz⟩:=I.list hx;have hlen:=r.length;refine ⟨"list",_,slot_list_getitem.lookup,ht.isList.typeIs,?_⟩;refine wpAny_getItem_list_slice ht.isList hs pl pu .none (by simp) ?_ (by rw [List.size_toArray]<;>lia);rw [Lm,<-hlen];refine ⟨.ref s.heap.objs.size,_,I.laid (t':=s.toks) (o:=.lst (Ra xs lo hi)) (fun b ob q=>Heap.get?_push_of_some _ q) (Nat.le_refl _) ?_,rfl,q _ (I.hok.fresh (Nat.le_refl _))⟩;exact ⟨Nat.le_trans (Od xs lo hi) hz,_,0,(r.drop (HT.sIx xs.length 0 lo)).take (HT.sIx xs.length xs.length hi - HT.sIx xs.length 0 lo),Heap.get?_push_size _ rfl⟩
theorem FO:EQ X (.builtin "len") (fun xs H Q=>∃ p ys,xs=[.ref p]/\(SqL X.K H p ys\/SqT X.K H p ys)/\Q (.int ys.length) H):=by
 intro pins s σ H xs us Q I r h;obtain ⟨p,ys,rfl,hq,q⟩:=h;obtain ⟨u,rfl,rx⟩:=Jw r;cases rx;have hn:=JS;rcases hq with hq | hq
 ·obtain ⟨its,r',pl,hz⟩:=I.list hq;have hlen:=r'.length;exact Calls.call_len_list pl.isList (by simp only [List.size_toArray]<;>lia) ⟨.int ys.length,H,I.tok _,⟨s.toks+1,by rw [List.size_toArray,hlen]⟩,q⟩
 ·obtain ⟨its,r',pl,hz⟩:=I.tuple hq;have hlen:=r'.length;exact len_tuple pl (by simp only [List.size_toArray]<;>lia) ⟨.int ys.length,H,I.tok _,⟨s.toks+1,by rw [List.size_toArray,hlen]⟩,q⟩
theorem FN:EQ X (.builtin "len") (fun xs H Q=>∃ z,xs=[.str z]/\z.length<=sizeLine/\Q (.int z.length) H):=by
 intro pins s σ H xs us Q I r h;obtain ⟨z,rfl,hz,q⟩:=h;obtain ⟨u,rfl,t,rfl⟩:=Jw r;have hn:=JS;exact len_str (by lia) ⟨.int z.length,H,I.tok _,⟨_,rfl⟩,q⟩
theorem LC:EQ X (.type "tuple") (fun xs H Q=>∃ p ys,xs=[.ref p]/\((SqL X.K H p ys/\∀ l,H l=none->Q (.ref l) (upd H l (.tup ys)))\/(SqT X.K H p ys/\Q (.ref p) H))):=by
 intro pins s σ H xs us Q I r h;obtain ⟨p,ys,rfl,h⟩:=h;obtain ⟨u,rfl,rx⟩:=Jw r;cases rx;rcases h with ⟨hq,q⟩ | ⟨hq,q⟩
 ·obtain ⟨its,r',pl,hz⟩:=I.list hq;have hlen:=r'.length;refine call_tuple_list pl.isList (fun h' kp=>?_) (by simp only [List.size_toArray]<;>lia);have I1:Inv X pins σ H { s with heap:=h' }:=I.kept (t':=s.toks) kp
  have I2:Inv X pins σ (upd H h'.objs.size (.tup ys)) { s with heap:=h'.push { cls:=.type "tuple",data:=.seq its.toArray } } :=
   I1.laid (t':=s.toks) (fun b o e=>Heap.get?_push_of_some _ e) (Nat.le_refl _) (show Bd X.prog X.w _ _ _ (.tup ys) from ⟨hz,its,r',IsTup.new _ _⟩)
  exact ⟨.ref h'.objs.size,_,I2,rfl,q _ (I1.hok.fresh (Nat.le_refl _))⟩
 ·obtain ⟨its,r',pl,hz⟩:=I.tuple hq;exact call_tuple_same pl ⟨.ref p,H,I,rfl,q⟩
def tyV (K:PySem.W.Frag) (T:String) (x:V) (H:Hp):Prop:=match x with
 | .str _=>T="str"
 | .int _=>T="int"
 | .ref p=>(T="list" /\ ∃ xs,SqL K H p xs)\/(T="tuple" /\ ∃ o,K.lookup p=some o/\o.cls=.type "tuple" /\ o.dict=none) \/
   (T="dict" /\ ((∃ kvs,H p=some (.dK kvs))\/∃ kvs,H p=some (.dT kvs)))\/(T="set" /\ ∃ S n,H p=some (.set S n))
 | _=>False
theorem tyV_is {pins:List (Addr×Obj)} {σ:St} {H:Hp} {s:Shared} {T:String} {x:V} {v:Value} (I:Inv X pins σ H s) (r:AX x v) (ty:tyV X.K T x H) :
  s.TypeIs v T/\∀ a,v=.ref a->∃ ob,s.heap.get? a=some ob/\ob.dict=none:=by
 cases x with
 | str z =>
  obtain ⟨t,rfl⟩:=r;cases (show T="str" from ty);exact ⟨typeIs_str s z t,fun _ e=>nomatch e⟩
 | int i =>
  obtain ⟨t,rfl⟩:=r;cases (show T="int" from ty);exact ⟨typeIs_int s i t,fun _ e=>nomatch e⟩
 | ref p =>
  cases r;rcases ty with ⟨rfl,xs,hq⟩ | ⟨rfl,o,hk,hc,hd⟩ | ⟨rfl,hk⟩ | ⟨rfl,S,n,hk⟩
  ·obtain ⟨its,_,pl,_⟩:=I.list hq;refine ⟨pl.isList.typeIs,fun a e=>?_⟩;cases e;obtain ⟨o,n,e,c,hd,_⟩:=pl;exact ⟨o,e,hd⟩
  ·refine ⟨⟨o,I.kIn p o hk,hc⟩,fun a e=>?_⟩;cases e;exact ⟨o,I.kIn _ o hk,hd⟩
  ·have z:∃ o,s.heap.get? p=some o/\o.ExactDict:=by
    rcases hk with ⟨kvs,hk⟩ | ⟨kvs,hk⟩
    ·obtain ⟨_,_,_,_,o,_,_,e,ex,_⟩:=I.hok p _ hk;exact ⟨o,e,ex⟩
    ·obtain ⟨_,_,_,_,o,_,_,e,ex,_⟩:=I.hok p _ hk;exact ⟨o,e,ex⟩
   obtain ⟨o,e,ex⟩:=z;refine ⟨⟨o,e,ex.1⟩,fun a e2=>?_⟩;cases e2;exact ⟨o,e,ex.2.1⟩
  ·obtain ⟨o,_,_,_,e,ex,_⟩:=I.hok p _ hk;refine ⟨⟨o,e,ex.1⟩,fun a e2=>?_⟩;cases e2;exact ⟨o,e,ex.2.1⟩
 | _=>exact False.elim ty
def tBM (K:PySem.W.Frag) (T:String) (r:V->List V->Hp->VK->Prop) (to:TE) (t:TA):TE:=fun σ H Q=>to σ H fun x H1=>tyV K T x H1/\t σ H1 fun xs H2=>r x xs H2 Q
variable {o e:Expr} {es:List Expr} {to:TE} {t:TA} {name:Str} {apos cpos:Pos} {T id:String} {r:V->List V->Hp->VK->Prop}
theorem Fi (pa:PlainAttrs T) (slot:Slot T name id) (hty:typeOf (.builtin id)=pure (.type "method_descriptor")) (hm:MtR X id r) (ho:PE X o to) (ha:PA X (e :: es) t)
  (hbase:attributeBase o name X.env (eval o X.env)=eval o X.env:=by rfl)
  (hfew:((backTo cpos (starEach (e :: es) X.env)).all (fun x=>!x.1) && (backToKw cpos (keywordEach [] X.env)).all (fun x=>x.1.isSome)
   && decide ((e :: es).length+([]:List Keyword).length+(if ([]:List Keyword).isEmpty then 0 else 1) < 30))=true:=by rfl)
  (hline:(apos.endLine == cpos.line)=true:=by rfl) (hs:starEach (e :: es) X.env=(false,eval e X.env) :: starEach es X.env:=by rfl) (hplain:(backTo cpos (starEach es X.env)).any (·.1)=false:=by rfl) :
  PE X (.Call (.Attribute o name apos) (e :: es) [] cpos) (tBM X.K T r to t):=by
 intro pins s σ H Q I h;refine wpAny_Call_method_late hbase hfew hline rfl (thn (ho pins s σ H _ I h) fun v s1 ⟨x,H1,I1,r1,ty,q1⟩=>?_);obtain ⟨h1,h2⟩:=tyV_is I1 r1 ty;refine ⟨T,id,pa,slot,hty,h1,h2,?_⟩;have hA:=ha cpos pins s1 σ H1 _ I1 q1;rw [hs] at hA ⊢;refine Calls.callWith_builtin (by show (false || (backTo cpos (starEach es X.env)).any (·.1))=false; rw [hplain]<;>rfl) (Calls.evalArgs_plain ?_);exact thn hA fun us s2 ⟨vs,H2,I2,r2,q2⟩=>hm pins s2 σ H2 x vs v us Q I2 r1 r2 q2
/- xs.append(e),list.index on a module's tuple .. are MtR facts of 06m -/
end
end L2
namespace L2
open PySem PySem.Spec PyProof.Rows
def MtM (X:Cx) (id:String) (r:V->List V->Hp->VK->Prop):Prop :=
 ∀ (pins:List (Addr×Obj)) (s:Shared) (σ:St) (H:Hp) (x:V) (xs:List V) (v:Value) (us:List Value) (Q:VK),Inv X pins σ H s->AX x v->AJ xs us->r x xs H Q ->
  wpAny (model X.prog X.w) X.A (call (.builtin id) (v :: us)) (EP X pins σ Q) X.xe s
theorem AJ.one:∀ {x:V} {us:List Value},AJ [x] us->∃ u,us=[u]/\AX x u
 | _,_,.cons r .nil=>⟨_,rfl,r⟩
section
variable {X:Cx} {pins:List (Addr×Obj)} {σ:St} {H:Hp} {s:Shared} {l b:Addr} {xs ys zs:List V}
theorem Inv.lset {its its':List Value} {n:Nat} {f:Array Value->Array Value} {t':Nat} (I:Inv X pins σ H s) (hH:H l=some (.lst xs))
  (e:s.heap.get? l=some { cls:=.type "list",data:=.seq its.toArray n }) (hf:f its.toArray=its'.toArray) (hv:AJ ys its') (hz:ys.length<=sizeLine) :
  Inv X pins σ (upd H l (.lst ys)) { s with heap:=s.heap.update l (Obj.mapSeq f),toks:=t' }:=by
 have q:=PySem.IsL.update e f;rw [hf] at q;refine I.write (x:=l) (e:=l) (by rw [hH]; exact trivial) (.inl rfl) (fun b' u hb hu=>(Heap.get?_update_other s.heap (Obj.mapSeq f) (Ne.symm hb)).trans hu) ⟨_,q⟩ ?_;exact ⟨hz,its',_,hv,q⟩
theorem Inv.lnew {its:List Value} {t':Nat} (I:Inv X pins σ H s) (hv:AJ ys its) (hz:ys.length<=sizeLine) :
  Inv X pins σ (upd H s.heap.objs.size (.lst ys)) { s with heap:=s.heap.push { cls:=.type "list",data:=.seq its.toArray },toks:=t' } :=
 I.laid (fun _ _ q=>Heap.get?_push_of_some _ q) (Nat.le_refl _) ⟨hz,its,0,hv,Heap.get?_push_size _ rfl⟩
theorem Inv.fresh (I:Inv X pins σ H s):H s.heap.objs.size=none:=I.hok.fresh (Nat.le_refl _)
theorem Inv.lstM (I:Inv X pins σ H s) (hH:H l=some (.lst xs)):xs.length<=sizeLine/\∃ (its:List Value) (n:Nat),AJ xs its/\xs.length=its.length/\s.heap.get? l=some { cls:=.type "list",data:=.seq its.toArray n }:=by
 obtain ⟨z,its,n,r,e⟩:=I.hok l _ hH;exact ⟨z,its,n,r,r.length,e⟩
end
section
variable {X:Cx}
def rAppend:V->List V->Hp->VK->Prop:=fun x vs H Q=>∃ l xs y,x=.ref l/\vs=[y]/\H l=some (.lst xs)/\xs.length < sizeLine/\Q .non (upd H l (.lst (xs ++ [y])))
theorem Ex:MtM X "list.append" rAppend:=by
 intro pins s σ H x vs v us Q I rx rv h;obtain ⟨l,xs,y,rfl,rfl,hH,hz,q⟩:=h;cases rx;obtain ⟨u,rfl,ru⟩:=rv.one;obtain ⟨z,its,n,r,hl,e⟩:=I.lstM hH;refine call_meets F.slot_list_append ⟨_,e,rfl⟩ F.entry_list_append (F.args_list_append_2 _ _) (PySem.list_append l its.toArray n u (by rw [List.size_toArray]; lia)) ⟨e,?_⟩;refine ⟨.non,_,I.lset (its':=its ++ [u]) hH e (by simp) (r.append (.cons ru .nil)) ?_,rfl,q⟩;rw [List.length_append,List.length_singleton];lia
def rCat:R2:=fun x y H Q=>∃ l b xs zs,x=.ref l/\y=.ref b/\H l=some (.lst xs)/\H b=some (.lst zs)/\xs.length+zs.length<=sizeLine/\∀ p,H p=none->Q (.ref p) (upd H p (.lst (xs ++ zs)))
theorem Iw:OpR X (binaryOp .Add) rCat:=by
 intro pins s σ H x y v u Q I rx ry h;obtain ⟨l,b,xs,zs,rfl,rfl,hH,hB,hz,q⟩:=h;cases rx;cases ry;obtain ⟨z,its,n,r,hl,e⟩:=I.lstM hH;obtain ⟨z2,its2,n2,r2,hl2,e2⟩:=I.lstM hB;refine PySem.P.add_list e e2 ?_ (by rw [List.size_toArray,List.size_toArray]; lia);have ea:its.toArray ++ its2.toArray=(its ++ its2).toArray:=by simp
 rw [ea];exact ⟨.ref _,_,I.lnew (t':=s.toks) (r.append r2) (by rw [List.length_append]; lia),rfl,q _ I.fresh⟩
end
section
variable {prog:Program} {w:World} {A:Around} {E:Value->Shared->Prop} {s:Shared}
end
section
variable {X:Cx}
end
end L2
namespace Att
open PySem PySem.W PySem.Calls PyProof.Rows
theorem Jh {P:Params} {h:Heap}:∀ (ns:List Int) (vs:List Value),WellAll P h vs (ns.map WData.int)->IntsAre vs ns:=by
 intro ns;induction ns with
 | nil =>
  intro vs w;rw [List.map_nil] at w;cases w;exact .nil
 | cons n ns ih =>
  intro vs w;rw [List.map_cons] at w;cases w with
  | cons a b =>
   cases a;exact .cons _ _ (ih _ b)
theorem Qn {l:OpenLaw} {n:Nat} (hn:l.most=some n) {P:Params} {h:Heap} {args:List WData} {vals:List Value}
  (hpre:l.row.toRowW.claim.pre args=true) (hwl:WellAll P h vals args) :
  ∃ a vs ns,vals=[Value.ref a]/\args=[WData.list (ns.map WData.int)]/\h.get? a=some { cls:=.type "list",data:=.seq vs.toArray }/\IntsAre vs ns/\ns.length<=n:=by
 have hsh:WShape.hasAll [] args [.list .int]=true:=(pre_splitW hpre).1;have hc:l.pre.holds [] { args:=args }=true:=(pre_splitW hpre).2;obtain ⟨d,r,rfl,h1,h2⟩:=hasAllW_cons hsh;obtain rfl:=hasAllW_nil h2;obtain ⟨xs,rfl,h3⟩:=hasW_list h1;obtain ⟨ns,rfl⟩:=items_int h3;have hlen:ns.length<=n:=by
  unfold OpenLaw.pre at hc;have h4:(WTm.not (.lt (.lit (.int (n:Int))) (.len (.arg 0)))).holds [] { args:=[.list (ns.map .int)] }=true:=by
   have h4:=(holds_andW hc).1;rw [hn] at h4;exact h4
  have h5:=condW_of h4 (w_not (w_lt w_lit (w_len_list (w_arg rfl))));rw [List.length_map] at h5;refine Nat.le_of_not_lt fun q=>?_;have q':(n:Int) < ((ns.length:Nat):Int):=by lia
  first
   | (rw [decide_eq_true q'] at h5; exact absurd h5 (by decide))
   | (simp at h5; lia)
 cases hwl with
 | cons w1 w2 =>
  cases w2;cases w1 with
  | list ho hall=>exact ⟨_,_,ns,rfl,rfl,ho,Jh ns _ hall,hlen⟩
theorem Qr (l:OpenLaw) (args:List WData):l.row.toRowW.claim.post args (.bool true) args=true :=
 postW_of (r:=l.row.toRowW) (X:=(true == true))
  (show WShape.has [] (.bool true) .bool=true by first | rfl | decide | simp [WShape.has,WShape.arms,WShape.armsAll])
  (show (WTm.eq .res (.lit (.bool true))).value [] { args:=args,res:=some (.bool true),after:=args }=some (.bool (true == true)) from w_eq_bool (w_res rfl) w_lit) rfl
theorem Ol {l:OpenLaw} {n:Nat} {q:Program} {loose:List Str} {XP:(Str->Option Value)->Heap->Prop} {YP:World->Heap->Prop} {d:DefRec}
  (hn:l.most=some n) (hdf:d.params.defaults=[])
  (call:∀ (w:World) (s₀ s₁:Shared) (mg mb:Str->Option Value) (fa:Addr) (o:Obj) (pm cd doc:Value) (a:Addr) (vs:List Value) (ns:List Int),
   Ground q loose [] XP w s₀ mg mb s₁.heap->YP w s₁.heap ->
   s₁.heap.get? fa=some o->o.data=.func (docDef d.name d.params d.body d.scope pm cd doc)->s₁.heap.CodeRec cd d.name->mg d.name=some (.ref fa) ->
   s₁.heap.get? a=some { cls:=.type "list",data:=.seq vs.toArray }->IntsAre vs ns->ns.length<=n->s₁.gens=#[] ->
   codeAny (model l.prog w) callerA (.call (.ref fa) ⟨[.ref a],[]⟩) (fun r s'=>r=.ok (.ret (.bool true))/\OldK s₁.heap s'.heap/\s'.os=s₁.os/\AllBare s'.gens) s₁) :
  WalkO q loose XP YP l.row.toRowW d [] (fun f vs=>PySem.call f vs):=by
 intro w s₀ s₁ mg mb G Y fa o pm cd doc dV kV ho hd hcd hD hmg hg args vals as hpre hlay hrd hwl hlo;obtain rfl:dV=.none:=Dflts.none hD hdf;obtain rfl:kV=.none:=Dflts.noKw hD;obtain ⟨a,vs,ns,rfl,rfl,hobj,hints,hlen⟩:=Qn hn hpre hwl;refine enter_call (codeAny_mono (call w s₀ s₁ mg mb fa o pm cd doc a vs ns G Y ho (fd_plain hd) hcd hmg hobj hints hlen hg) fun r s' hq=>?_);obtain ⟨rfl,h2,h3,h4⟩:=hq;exact ⟨.inl ⟨.bool true,.bool true,[],rfl,fun _=>rfl,.bool true,Qr l _,fun _=>⟨List.Pairwise.nil,fun _ hm=>(nomatch hm)⟩⟩,h2,h3,h4⟩
section
variable {prog:Program} {w:World} {A:Around} {E:Value->Shared->Prop} {s:Shared} {K:Frag}
end
end Att
namespace L2
open PySem PySem.Spec PyProof.Rows
theorem LF:∀ {vs:List Value} {ns:List Int},IntsAre vs ns->AJ (ns.map V.int) vs
 | _,_,.nil=>.nil
 | _,_,.cons n t h=>.cons ⟨t,rfl⟩ (LF h)
def Only (H:Hp):Prop:=∀ b,H b=none\/∃ o xs,H b=some (.frz o (.lst xs))
theorem SK {P:Program} {w:World} {K:PySem.W.Frag} {mg mb:Str->Option Value} {CX:CXT} {k:Nat} {fa a:Addr} {fd:FuncData} {x:Str} {sp:Sp} {s₁:Shared} {vs:List Value} {ns:List Int}
  (KX:K.In s₁.heap) (hns:s₁.heap.Ns mainGlobals mg) (hb:s₁.heap.Ns builtinsNs mb) (hbb:∀ x:Str,x≠"__name__" -> mb x=bootBuiltins x) (hlim:s₁.heap.NoLimit) (hg:s₁.gens=#[])
  (ha:s₁.heap.get? a=some { cls:=.type "list",data:=.seq vs.toArray }) (hi:IntsAre vs ns) (hl:ns.length<=sizeLine) (hr:CF k callerA)
  (F:∀ base:Heap,K.In base->base.Ns mainGlobals mg->AI P w K mg base CX k fa fd [x] sp) (hbind:∀ (s:Shared) (u:Value),BindsTo s fd ⟨[u],[]⟩ [(x,u)])
  (hsp:∀ H:Hp,Only H->SqL K H a (ns.map V.int)->sp [.ref a] H (fun v _=>v=.bl true) fun _ _ _=>False)
  (hCX:∀ H e s',CX [] H s₁ (fun _ _ _=>False) e s'->False) :
  codeAny (model P w) callerA (.call (.ref fa) ⟨[.ref a],[]⟩) (fun r s'=>r=.ok (.ret (.bool true))/\OldK s₁.heap s'.heap/\s'.os=s₁.os/\AllBare s'.gens) s₁:=by
 have rv:=LF hi;have lenV:=hi.length;have core:∀ H:Hp,Only H->SqL K H a (ns.map V.int)->HOk P w H s₁.heap->(∀ b,H b≠none->b=a)->(H a≠none->K.lookup a=none) ->
   codeAny (model P w) callerA (.call (.ref fa) ⟨[.ref a],[]⟩) (fun r s'=>r=.ok (.ret (.bool true))/\OldK s₁.heap s'.heap/\s'.os=s₁.os/\AllBare s'.gens) s₁:=by
  intro H hO hS hok hA hK;have base_of:∀ {b:Addr} {o:Obj},s₁.heap.get? b=some o->H b=none->(MX s₁.heap H).get? b=some o:=fun e n=>SR e n;have noA:∀ {b:Addr} {o:Obj} {es:Array DictEntry} {ep:Nat},s₁.heap.get? b=some o->o.data=.dict es ep->H b=none:=fun {b o es ep} e d=>by
   cases q:H b with
   | none=>rfl
   | some u =>
    have e':b=a:=hA b (by rw [q]; simp);subst e';rw [ha] at e; cases e;have d':Data.seq vs.toArray _=Data.dict es ep:=d;cases d'
  have nsK:∀ {b:Addr} {m:Str->Option Value},s₁.heap.Ns b m->(MX s₁.heap H).Ns b m:=fun {b m} ⟨o,es,ep,e,d,r⟩=>⟨o,es,ep,base_of e (noA e d),d,r⟩
  have hKb:K.In (MX s₁.heap H):=fun b o e=>base_of (KX b o e) (by
   cases q:H b with
   | none=>rfl
   | some u =>
    have e':b=a:=hA b (by rw [q]; simp);subst e';rw [hK (by rw [q]; simp)] at e; cases e)
  have hM:Mod K mg (MX s₁.heap H):=⟨hKb,nsK hns,⟨mb,nsK hb,hbb⟩,let ⟨mc,h1,h2⟩:=hlim; ⟨mc,nsK h1,h2⟩⟩
  have e0:Ou P w K mg (MX s₁.heap H) callerA [] s₁ H:=⟨rfl,hM,fun b o e=>of_hidT e,Nat.le_of_eq (QR _ _),trivial,fun b hb=>absurd (show b ∈ ([]:List Addr) from hb) (by simp),hok,.of_eq hg⟩
  refine codeAny_mono ((F _ hKb (nsK hns)).run callerA [] s₁ H ⟨[.ref a],[]⟩ [.ref a] [.ref a] _ _ hr e0 (hbind s₁ (.ref a)) (.cons rfl .nil) (hsp H hO hS)) fun r s' h=>?_;cases r with
  | error e=>exact (hCX H e s' h).elim
  | ok fl =>
   cases fl with
   | next=>exact False.elim h
   | brk=>exact False.elim h
   | cont=>exact False.elim h
   | ret u =>
    obtain ⟨v,H',os,bare,un,hok',r',q⟩:=h;have q':v=.bl true:=q;subst q';obtain rfl:u=Value.bool true:=r';refine ⟨rfl,OldK.of_keep fun b o e=>?_,os,bare⟩;cases q:H b with
    | none=>exact un.keep b o e q (by intro z; exact absurd (show b ∈ ([]:List Addr) from z) (by simp)) (by simp)
    | some u =>
     rcases hO b with z | ⟨ob,xs,z⟩
     ·rw [q] at z; cases z
     ·have z2:=un.frzs b ob _ z;obtain ⟨e1,_⟩:=hok b _ z;obtain ⟨e2,_⟩:=hok' b _ z2;rw [e] at e1; cases e1;exact e2
 cases hk:K.lookup a with
 | some o =>
  have e:=KX a o hk;rw [ha] at e;cases e;refine core (fun _=>none) (fun _=>.inl rfl) (.inr ⟨_,vs.toArray,_,hk,rfl,rfl,rfl,by rw [List.size_toArray,lenV]; exact hl,by simpa using rv⟩) (fun b u z=>by have z':(none:Option HO)=some u:=z; cases z') (fun b z=>absurd rfl z) fun z=>absurd rfl z
 | none =>
  refine core (fun b=>if b=a then some (.frz { cls:=.type "list",data:=.seq vs.toArray } (.lst (ns.map V.int))) else none) (fun b=>?_) (.inl (.inr ⟨{ cls:=.type "list",data:=.seq vs.toArray },if_pos rfl⟩)) (fun b u z=>?_) (fun b z=>?_) fun _=>hk
  ·by_cases hb:b=a
   ·exact .inr ⟨_,_,if_pos hb⟩
   ·exact .inl (if_neg hb)
  ·by_cases hb:b=a
   ·have z':=(if_pos hb).symm.trans z;cases z';subst hb;exact ⟨ha,by rw [List.length_map]; exact hl,vs,_,rv,ha⟩
   ·have z':=(if_neg hb).symm.trans z;cases z'
  ·by_cases hb:b=a
   ·exact hb
   ·exact absurd (if_neg hb) z
end L2
namespace L2
open PySem PySem.Spec PyProof.Rows
theorem Pk {l:PySem.W.OpenLaw} {n k:Nat} {q:Program} {loose:List Str} {XP:(Str->Option Value)->Heap->Prop} {YP:World->Heap->Prop} {d:DefRec} {K:Params->PySem.W.Frag} {CX:World->CXT} {sp:World->Sp} {x:Str}
  (hn:l.most=some n) (hn2:n<=sizeLine) (hdf:d.params.defaults=[]) (hr:CF k callerA)
  (hY:∀ (w:World) (h:Heap),YP w h->(K w.params).In h)
  (F:∀ (w:World) (mg:Str->Option Value) (fa:Addr) (h:Heap),(K w.params).In h->h.Ns mainGlobals mg->mg d.name=some (.ref fa) ->
   ∃ fd:FuncData,(∀ (s:Shared) (u:Value),BindsTo s fd ⟨[u],[]⟩ [(x,u)]) /\
    ∀ base:Heap,(K w.params).In base->base.Ns mainGlobals mg->AI l.prog w (K w.params) mg base (CX w) k fa fd [x] (sp w))
  (hsp:∀ (w:World) (H:Hp) (a:Addr) (ns:List Int),ns.length<=n->Only H->SqL (K w.params) H a (ns.map V.int)->sp w [.ref a] H (fun v _=>v=.bl true) fun _ _ _=>False)
  (hCX:∀ (w:World) (H:Hp) (s:Shared) (e:Value) (s':Shared),CX w [] H s (fun _ _ _=>False) e s'->False) :
  PySem.W.WalkO q loose XP YP l.row.toRowW d [] (fun f vs=>PySem.call f vs):=by
 refine Att.Ol hn hdf fun w s₀ s₁ mg mb fa o pm cd doc a vs ns G Y ho hd hcd hmg hobj hints hlen hg=>?_;have KX:=hY w _ Y;obtain ⟨fd,hb,hF⟩:=F w mg fa _ KX G.T.g hmg;exact SK KX G.T.g G.T.b G.T.builtins G.T.nolimit hg hobj hints (Nat.le_trans hlen hn2) hr hF hb (fun H hO hS=>hsp w H a ns hlen hO hS) fun H e s'=>hCX w H s₁ e s'
end L2
/- THE LAST THEOREM (shape; LID,My.* are yours):
 My.Adr: a structure of the addresses that your layer names (classes,functions); My.Txt K t: a structure (Prop) of the equations over K;
 My.txt_mk:{K} {implicit addresses ..} (e1:nsIn K mainGlobals "law" = some (some (.ref f))) (e2:K.lookup f=some ⟨oc,od,.func (fnOf "law" "law" params body scope dV kV doc pm an cdv ct),sl⟩) (e3:codeIn K cdv "law" = true) ..:∃ t,My.Txt K t
set_option maxRecDepth 100000 in
set_option maxHeartbeats 0 in
theorem PySem.Challenge.cw_LID_holds:PySem.Challenge.rw_LID.Holds:=by
 w_on; o_law; k_head; (case hw=>w_witness2)
 k_fill
 refine L2.Pk (l:=PySem.Challenge.rw_LID) (n:=63) (k:=40) (x:="script") (CX:=fun w=>..) (sp:=fun _=>My.sp_law) rfl (by decide) rfl ⟨rfl,by decide,by decide⟩ (fun w h Y=>PySem.W.kIn_of Y) ?F ?S ?C
 case F =>
  intro w mg fa h KX G hmg;have T:∃ t,My.Txt (L2.KOf KX) t:=by
   dsimp only [L2.KOf]                          -- K must stand as «<heap const> w.params» for k_is;refine' My.txt_mk ?e1 ?e2 ?e3 ..
   (case e1=>PySem.W.k_is)                    -- in the order: a name->its address->its object->its parts
   (case e2=>PySem.W.k_is)
   ..
  obtain ⟨t,T⟩:=T;have e0:=hmg.symm.trans (PySem.W.mg_of KX G T.law);cases e0                                       -- fa is the law's own address;exact ⟨_,fun s u=>.of_eq rfl,fun base kb nb=>My.law_fn T kb nb⟩     -- if «.of_eq rfl» comes too early: refine' ⟨_,?b,fun base kb nb=>My.law_fn T kb nb⟩; exact fun s u=>.of_eq rfl
 case S=>exact fun w H a ns hl hO hS=>..
 case C=>exact ..
(the tactic k_is has no namespace: write k_is) -/
namespace L2
open PySem PySem.Spec PyProof.Rows
def Ep (s:Stmt) (j:Nat):Stmt:=match s with
 | .ClassDef _ _ _ body _ _ _ _ _ _ _=>body.getD j (.Pass ⟨0,0,0,0⟩)
 | _=>.Pass ⟨0,0,0,0⟩
def Aq (s:Stmt):Arguments:=match s with
 | .FunctionDef _ a _ _ _ _ _ _ _ _=>a
 | _=>{ posonlyargs:=[],args:=[],vararg:=none,kwonlyargs:=[],kw_defaults:=[],kwarg:=none,defaults:=[] }
def An (s:Stmt):List Stmt:=match s with
 | .FunctionDef _ _ b _ _ _ _ _ _ _=>b
 | _=>[]
def Ae (s:Stmt):Scope:=match s with
 | .FunctionDef _ _ _ _ _ _ sc _ _ _=>sc
 | _=>{ kind:=.function,names:=[],isGenerator:=false,isCoroutine:=false }
abbrev CX0:CXT:=fun _ _ _ _ _ _=>False
abbrev E0:XK:=fun _ _ _=>False
theorem Am {X:Cx}:EY CX0 X E0:=fun _ _ _ _ _ _ _ h=>h.elim
structure Fun (K:PySem.W.Frag) (x qual:Str) (st:Stmt) (f:Addr) (fd:FuncData):Prop where
 ex:∃ (oc:Value) (od:Option Addr) (kV doc pm:Value) (an:Option Addr) (cdv ct:Value) (osl:Array (Option Value)),
  fd=PySem.W.fnOf x qual (Aq st) (An st) (Ae st) .none kV doc pm an cdv ct/\K.lookup f=some ⟨oc,od,.func fd,osl⟩/\PySem.W.codeIn K cdv qual=true
 kp:PySem.W.keepIn K (.ref f)=true
section
variable {P:Program} {w:World} {K:PySem.W.Frag} {mg:Str->Option Value} {base:Heap}
theorem Fun.ok {x qual:Str} {st:Stmt} {f:Addr} {fd:FuncData} {N ps:List Str} {k:Nat} {sp:Sp} (F:Fun K x qual st f fd) (S:Ar N ps (Ae st)) (len:∀ vs H Q E,sp vs H Q E->vs.length=ps.length)
  (hbody:∀ (cdv:Value) (A:Around) (outer:List Env) (s:Shared) (H:Hp) (vs:List V) (Q:VK) (E:XK),CF k (A.deeper (envOfC qual (Ae st) s.heap.objs.size f cdv))->sp vs H Q E ->
   ∃ t,PSs (EV CX0 P w K mg base N qual (Ae st) f cdv A outer s H E).nox (An st) t/\t { nx:=fun _ H'=>Q .non H',rt:=Q } (Fb N vs) H):AI P w K mg base CX0 (k+1) f fd ps sp:=by
 obtain ⟨oc,od,kV,doc,pm,an,cdv,ct,osl,rfl,lk,hcd⟩:=F.ex;refine fn_of lk hcd S len fun A outer s H vs Q E hr hsp=>?_;obtain ⟨t,h,q⟩:=hbody cdv A outer s H vs Q E hr hsp;exact ⟨t,h.nox,q⟩
theorem Fun.binds {x qual:Str} {st:Stmt} {f:Addr} {fd:FuncData} {ps:List Str} (F:Fun K x qual st f fd)
  (h:∀ (kV doc pm:Value) (an:Option Addr) (cdv ct:Value) (us:List Value),us.length=ps.length->bindArgs (PySem.W.fnOf x qual (Aq st) (An st) (Ae st) .none kV doc pm an cdv ct) ⟨us,[]⟩=pure (ps.zip us)):DN K fd ps []:=by
 obtain ⟨oc,od,kV,doc,pm,an,cdv,ct,osl,rfl,lk,hcd⟩:=F.ex;exact .all (h kV doc pm an cdv ct)
theorem AD {x qual:Str} {st:Stmt} {f:Addr} {oc:Value} {od an:Option Addr} {osl:Array (Option Value)} {kV doc pm cdv ct:Value} (l:K.lookup f=some ⟨oc,od,.func (PySem.W.fnOf x qual (Aq st) (An st) (Ae st) .none kV doc pm an cdv ct),osl⟩)
  (c:PySem.W.codeIn K cdv qual=true) (k:PySem.W.keepIn K (.ref f)=true):Fun K x qual st f (PySem.W.fnOf x qual (Aq st) (An st) (Ae st) .none kV doc pm an cdv ct):=⟨⟨oc,od,kV,doc,pm,an,cdv,ct,osl,rfl,l,c⟩,k⟩
end
theorem JW {A:Around} {k:Nat} (hr:CF k A):A.units+1 < cLine:=Nat.lt_of_le_of_lt (Nat.add_le_add_left (by decide:1<=64) _) hr.units
section
variable {X:Cx}
theorem pv (i:Nat) {x:Str} {pos:Pos} (hN:X.N[i]?=some x:=by rfl) (hv:Vis X.env.scope x:=by first | exact Or.inl rfl | exact Or.inr (Or.inl rfl) | exact Or.inr (Or.inr rfl)) (hd:(x == ("__debug__" : Str))=false:=by decide)
  (hcd:(x == ("__classdict__" : Str))=false:=by decide):PE X (.Name x pos) (Nq i):=pe_var hN hv hd hcd
end
theorem Bb {A B:Prop} (h:B):if false=true then A else B:=by
 rw [if_neg Bool.false_ne_true];exact h
theorem Cg {A B:Prop} (h:A):if true=true then A else B:=by
 rw [if_pos rfl];exact h
theorem Jg {c A B:Prop} [Decidable c] (h1:c->A) (h2:¬ c->B):if c then A else B:=by
 by_cases h:c
 ·rw [if_pos h];exact h1 h
 ·rw [if_neg h];exact h2 h
theorem PH {c A B:Prop} [Decidable c] (hc:c) (h:B):if (!decide c)=true then A else B:=by
 rw [decide_eq_true hc];exact Bb h
def AE (H H':Hp):Prop:=∀ b o,H b=some o->H' b=some o
theorem AE.refl (H:Hp):AE H H:=fun _ _ h=>h
theorem AE.trans {H H1 H2:Hp} (a:AE H H1) (b:AE H1 H2):AE H H2:=fun c o h=>b c o (a c o h)
theorem AE.seq {K:PySem.W.Frag} {H H':Hp} {a:Addr} {xs:List V} (e:AE H H') (h:SqL K H a xs):SqL K H' a xs:=by
 rcases h with (h | ⟨o,h⟩) | h
 ·exact .inl (.inl (e _ _ h))
 ·exact .inl (.inr ⟨o,e _ _ h⟩)
 ·exact .inr h
end L2
namespace L2
open PySem PySem.Spec PyProof.Rows
section
variable {κ:Type} [DecidableEq κ]
def BH (kvs:List (κ×V)) (k:κ):Option V:=(kvs.find? fun kv=>decide (kv.1=k)).map (·.2)
def Dt (kvs:List (κ×V)) (k:κ) (v:V):List (κ×V) :=
 if (kvs.any fun kv=>decide (kv.1=k))=true then kvs.map (fun kv=>if kv.1=k then (kv.1,v) else kv) else kvs ++ [(k,v)]
theorem BG {p:κ×V} {r:List (κ×V)} {k:κ} (e:p.1=k):BH (p :: r) k=some p.2:=by simp [BH,List.find?_cons,e]
theorem Bh {p:κ×V} {r:List (κ×V)} {k:κ} (e:¬ p.1=k):BH (p :: r) k=BH r k:=by simp [BH,List.find?_cons,e]
theorem ED (k:κ):∀ kvs:List (κ×V),(kvs.any fun kv=>decide (kv.1=k))=(BH kvs k).isSome
 | []=>rfl
 | p :: r=>by
  rw [List.any_cons];by_cases e:p.1=k
  ·simp only [BG e,decide_eq_true e,Bool.true_or,Option.isSome_some]
  ·rw [Bh e,decide_eq_false e,Bool.false_or]; exact ED k r
theorem Nl (k j:κ) (y:V):∀ kvs:List (κ×V),BH (kvs.map fun kv=>if kv.1=k then (kv.1,y) else kv) j=(BH kvs j).map fun x=>if j=k then y else x
 | []=>rfl
 | p :: r=>by
  have ih:=Nl k j y r;rw [List.map_cons];by_cases h:p.1=k
  ·rw [if_pos h];by_cases e:p.1=j
   ·rw [BG (p:=(p.1,y)) e,BG e,Option.map_some,if_pos (e.symm.trans h)]
   ·rw [Bh (p:=(p.1,y)) e,Bh e,ih]
  ·rw [if_neg h];by_cases e:p.1=j
   ·rw [BG (p:=p) e,BG e,Option.map_some,if_neg (fun z=>h (e.trans z))]
   ·rw [Bh (p:=p) e,Bh e,ih]
theorem LG (k j:κ) (y:V):∀ kvs:List (κ×V),BH kvs k=none->BH (kvs ++ [(k,y)]) j=if j=k then some y else BH kvs j
 | [],_=>by
  by_cases e:k=j
  ·rw [if_pos e.symm]; exact BG (p:=(k,y)) e
  ·rw [if_neg (fun z=>e z.symm)]; exact Bh (p:=(k,y)) e
 | p :: r,hn=>by
  rw [List.cons_append];have hk:¬ p.1=k:=fun z=>by rw [BG z] at hn; cases hn
  rw [Bh hk] at hn;have ih:=LG k j y r hn;by_cases e:p.1=j
  ·rw [BG e,BG e,if_neg (fun z=>hk (e.trans z))]
  ·rw [Bh e,Bh e,ih]
theorem Jx (kvs:List (κ×V)) (k j:κ) (y:V):BH (Dt kvs k y) j=if j=k then some y else BH kvs j:=by
 unfold Dt;by_cases a:(kvs.any fun kv=>decide (kv.1=k))=true
 ·rw [if_pos a,Nl];rw [ED] at a;by_cases e:j=k
  ·obtain ⟨x,hx⟩:=Option.isSome_iff_exists.mp a;rw [if_pos e,e,hx,Option.map_some,if_pos rfl]
  ·rw [if_neg e];cases BH kvs j with
   | none=>rfl
   | some x=>rw [Option.map_some,if_neg e]
 ·rw [if_neg a];refine LG k j y kvs ?_;rw [ED] at a;cases q:BH kvs k with
  | none=>rfl
  | some x=>rw [q] at a; exact (a rfl).elim
theorem Gd (kvs:List (κ×V)) (k:κ) (v:V):(Dt kvs k v).length<=kvs.length+1:=by
 unfold Dt;split
 ·rw [List.length_map]; lia
 ·rw [List.length_append,List.length_cons,List.length_nil]; lia
theorem GW {kvs:List (κ×V)} {k:κ} (v:V) (h:BH kvs k=none):Dt kvs k v=kvs ++ [(k,v)]:=by
 unfold Dt;rw [ED,h];exact if_neg (by decide)
theorem FP.isSome_eq {o:Option V} {u:Option Value} (r:FP o u):o.isSome=u.isSome:=by
 cases o with
 | none=>cases u with
  | none=>rfl
  | some _=>exact (show False from r).elim
 | some _=>cases u with
  | none=>exact (show False from r).elim
  | some _=>rfl
theorem FP.getD {o:Option V} {u:Option Value} {d:V} {d':Value} (r:FP o u) (rd:AX d d'):AX (o.getD d) (u.getD d'):=by
 cases o with
 | none=>cases u with
  | none=>exact rd
  | some _=>exact (show False from r).elim
 | some _=>cases u with
  | none=>exact (show False from r).elim
  | some _=>exact r
theorem KV.val {kvs:List (κ×V)} {vs:List (κ×Value)} (r:KV kvs vs) (k:κ):FP (BH kvs k) (valueAt vs k):=by
 unfold KV at r;induction r with
 | nil=>exact True.intro
 | @cons p q ps qs h t ih =>
  obtain ⟨h1,h2⟩:=h;by_cases e:p.1=k
  ·have e':q.1=k:=h1.symm.trans e;have b:valueAt (q :: qs) k=some q.2:=by simp [valueAt,List.find?_cons,e']
   rw [BG e,b]; exact h2
  ·have e':¬ q.1=k:=fun z=>e (h1.trans z);have b:valueAt (q :: qs) k=valueAt qs k:=by simp [valueAt,List.find?_cons,e']
   rw [Bh e,b]; exact ih
theorem KV.any {kvs:List (κ×V)} {vs:List (κ×Value)} (r:KV kvs vs) (k:κ):(kvs.any fun kv=>decide (kv.1=k))=vs.any fun kv=>decide (kv.1=k):=by
 unfold KV at r;induction r with
 | nil=>rfl
 | cons h t ih=>rw [List.any_cons,List.any_cons,ih,h.1]
theorem KV.repl {kvs:List (κ×V)} {vs:List (κ×Value)} (r:KV kvs vs) (k:κ) {y:V} {u:Value} (ry:AX y u) :
  KV (kvs.map fun kv=>if kv.1=k then (kv.1,y) else kv) (vs.map fun kv=>if kv.1=k then (kv.1,u) else kv):=by
 unfold KV at r ⊢;induction r with
 | nil=>exact .nil
 | @cons p q ps qs h t ih =>
  rw [List.map_cons,List.map_cons];refine .cons ?_ ih;obtain ⟨h1,h2⟩:=h;by_cases e:p.1=k
  ·rw [if_pos e,if_pos (h1.symm.trans e)]; exact ⟨h1,ry⟩
  ·rw [if_neg e,if_neg (fun z=>e (h1.trans z))]; exact ⟨h1,h2⟩
theorem KV.put {kvs:List (κ×V)} {vs:List (κ×Value)} (r:KV kvs vs) (k:κ) {y:V} {u:Value} (ry:AX y u):KV (Dt kvs k y) (stored vs k u):=by
 unfold Dt stored;rw [r.any k];by_cases e:(vs.any fun kv=>decide (kv.1=k))=true
 ·rw [if_pos e,if_pos e]; exact r.repl k ry
 ·rw [if_neg e,if_neg e]; exact Paired.snoc r ⟨rfl,ry⟩
theorem KV.length {kvs:List (κ×V)} {vs:List (κ×Value)} (r:KV kvs vs):kvs.length=vs.length:=Paired.length r
end
theorem NY {P:Program} {w:World} {k:Key} {u:Value} (r:AX (kV k) u):(Cf P w).is k u=true:=by
 cases k with
 | inl i=>obtain ⟨t,e⟩:=(show ∃ t,u=Value.int i t from r); subst e; exact NU P w i t
 | inr x=>obtain ⟨t,e⟩:=(show ∃ t,u=Value.str x t from r); subst e; exact NT P w x t
theorem LT {P:Program} {w:World}:∀ {ks:List Key} {us:List Value},AJ (ks.map kV) us->ItemsAre (Cf P w) ks us
 | [],_,r=>by rw [List.map_nil] at r; cases r; exact .nil
 | k :: ks,_,r=>by
  rw [List.map_cons] at r;cases r with
  | cons h t=>exact .cons (NY h) (LT t)
abbrev KT (H:Hp):List (List Key×V)->List (List Key×Addr×Value)->Prop:=Paired fun p q=>p.1=q.1/\H q.2.1=some (.tup (p.1.map kV))/\AX p.2 q.2.2
theorem KT.val {H:Hp} {kvs:List (List Key×V)} {xs:List (List Key×Addr×Value)} (r:KT H kvs xs) (k:List Key):FP (BH kvs k) ((atKey xs k).map (·.2)):=by
 induction r with
 | nil=>exact True.intro
 | @cons p q ps qs h t ih =>
  obtain ⟨h1,_,h2⟩:=h;by_cases e:p.1=k
  ·have e':q.1=k:=h1.symm.trans e;have b:atKey (q :: qs) k=some q.2:=by simp [atKey,List.find?_cons,e']
   rw [BG e,b]; exact h2
  ·have e':¬ q.1=k:=fun z=>e (h1.trans z);have b:atKey (q :: qs) k=atKey qs k:=by simp [atKey,List.find?_cons,e']
   rw [Bh e,b]; exact ih
theorem KT.repl {H:Hp} {kvs:List (List Key×V)} {xs:List (List Key×Addr×Value)} (r:KT H kvs xs) (k:List Key) {y:V} {u:Value} (ry:AX y u) :
  KT H (kvs.map fun kv=>if kv.1=k then (kv.1,y) else kv) (xs.map (putAt k u)):=by
 induction r with
 | nil=>exact .nil
 | @cons p q ps qs h t ih =>
  rw [List.map_cons,List.map_cons];refine .cons ?_ ih;obtain ⟨h1,h2,h3⟩:=h;unfold putAt;by_cases e:p.1=k
  ·rw [if_pos e,if_pos (h1.symm.trans e)]; exact ⟨h1,h2,ry⟩
  ·rw [if_neg e,if_neg (fun z=>e (h1.trans z))]; exact ⟨h1,h2,h3⟩
theorem KT.put {H:Hp} {kvs:List (List Key×V)} {xs:List (List Key×Addr×Value)} (r:KT H kvs xs) (k:List Key) {b:Addr} {y:V} {u:Value} (hb:H b=some (.tup (k.map kV))) (ry:AX y u) :
  KT H (Dt kvs k y) (storedH xs k b u):=by
 have e:(kvs.any fun kv=>decide (kv.1=k))=(atKey xs k).isSome:=by
  rw [ED,(r.val k).isSome_eq,Option.isSome_map]
 unfold Dt storedH;rw [e];by_cases q:(atKey xs k).isSome=true
 ·rw [if_pos q,if_pos q]; exact r.repl k ry
 ·rw [if_neg q,if_neg q]; exact Paired.snoc r ⟨rfl,hb,ry⟩
theorem KT.keeps {H H':Hp} {kvs:List (List Key×V)} {xs:List (List Key×Addr×Value)} (r:KT H kvs xs) (ht:∀ b ys,H b=some (.tup ys)->H' b=some (.tup ys)):KT H' kvs xs :=
 Paired.mapP r fun _ _ z=>⟨z.1,ht _ _ z.2.1,z.2.2⟩
section
variable {P:Program} {w:World} {H:Hp} {h:Heap} {a:Addr}
theorem rd_of {u:HO} (ok:HOk P w H h) (e:Rd H a u):Bd P w H h a u:=e.ok ok
theorem Ma {kvs:List (Key×V)} (ok:HOk P w H h) (e:Rd H a (.dK kvs)):kvs.length<=sizeLine/\(a == sysModules)=false/\∃ vs,KV kvs vs/\h.DictOf (Cf P w) a vs :=
 show Bd P w H h a (.dK kvs) from rd_of ok e
theorem dk_of {kvs:List (Key×V)} (ok:HOk P w H h) (e:H a=some (.dK kvs)):kvs.length<=sizeLine/\(a == sysModules)=false/\∃ vs,KV kvs vs/\h.DictOf (Cf P w) a vs:=Ma ok (.inl e)
theorem JU {ks:List Key} (ok:HOk P w H h) (e:H a=some (.tup (ks.map kV))):(tupleKind (Cf P w)).is h ks a:=by
 obtain ⟨_,its,r,o,h1,h2,n,h3⟩:=(show Bd P w H h a (.tup (ks.map kV)) from ok a _ e)
 exact ⟨o,its.toArray,n,h1,h2,h3,by simpa using LT r⟩
theorem LY {kvs:List (List Key×V)} (ok:HOk P w H h) (e:Rd H a (.dT kvs)):kvs.length<=sizeLine/\(a == sysModules)=false /\
  ∃ xs,KT H kvs xs/\h.DictOfH (tupleKind (Cf P w)) a xs:=by
 obtain ⟨z,y,xs,r,o,es,ep,h1,h2,h3,h4,h5⟩:=(show Bd P w H h a (.dT kvs) from rd_of ok e)
 refine ⟨z,y,xs,r,o,es,ep,h1,h2,h3,h4,fun x hx=>?_,h5⟩;have all:∀ {l:List (List Key×V)} {m:List (List Key×Addr×Value)},KT H l m->∀ x ∈ m,(tupleKind (Cf P w)).is h x.1 x.2.1:=by
  intro l m q;induction q with
  | nil=>intro x hx; exact nomatch hx
  | @cons p q ps qs hq t ih =>
   intro x hx;rcases List.mem_cons.mp hx with e | hx
   ·subst e;exact JU ok (by rw [<-hq.1]; exact hq.2.1)
   ·exact ih x hx
 exact all r x hx
theorem dt_of {kvs:List (List Key×V)} (ok:HOk P w H h) (e:H a=some (.dT kvs)):kvs.length<=sizeLine/\(a == sysModules)=false /\
  ∃ xs,KT H kvs xs/\h.DictOfH (tupleKind (Cf P w)) a xs:=LY ok (.inl e)
end
def GB (H:Hp) (a:Addr) (y:V) (r:Option V):Prop :=
 (∃ kvs k,Rd H a (.dK kvs)/\y=kV k/\r=BH kvs k)\/∃ kvs k b,Rd H a (.dT kvs)/\y=.ref b/\H b=some (.tup (k.map kV))/\r=BH kvs k
def LE (H:Hp) (a:Addr) (y v:V) (H':Hp):Prop :=
 (∃ kvs k,H a=some (.dK kvs)/\y=kV k/\kvs.length < sizeLine/\H'=upd H a (.dK (Dt kvs k v))) \/
 ∃ kvs k b,H a=some (.dT kvs)/\y=.ref b/\H b=some (.tup (k.map kV))/\kvs.length < sizeLine/\H'=upd H a (.dT (Dt kvs k v))
theorem GB.k {H:Hp} {a:Addr} {kvs:List (Key×V)} {k:Key} (e:H a=some (.dK kvs)):GB H a (kV k) (BH kvs k):=.inl ⟨kvs,k,.inl e,rfl,rfl⟩
theorem GB.t {H:Hp} {a b:Addr} {kvs:List (List Key×V)} {k:List Key} (e:H a=some (.dT kvs)) (eb:H b=some (.tup (k.map kV))):GB H a (.ref b) (BH kvs k):=.inr ⟨kvs,k,b,.inl e,rfl,eb,rfl⟩
theorem LE.k {H:Hp} {a:Addr} {kvs:List (Key×V)} {k:Key} {v:V} (e:H a=some (.dK kvs)) (hl:kvs.length < sizeLine):LE H a (kV k) v (upd H a (.dK (Dt kvs k v))):=.inl ⟨kvs,k,e,rfl,hl,rfl⟩
theorem LE.t {H:Hp} {a b:Addr} {kvs:List (List Key×V)} {k:List Key} {v:V} (e:H a=some (.dT kvs)) (eb:H b=some (.tup (k.map kV))) (hl:kvs.length < sizeLine) :
  LE H a (.ref b) v (upd H a (.dT (Dt kvs k v))):=.inr ⟨kvs,k,b,e,rfl,eb,hl,rfl⟩
section
variable {X:Cx} {pins:List (Addr×Obj)} {σ:St} {H:Hp} {s:Shared} {a:Addr} {y v:V} {u r:Value} {o:Option V} {A:Around} {E:Value->Shared->Prop}
theorem Inv.big (I:Inv X pins σ H s):sysModules < s.heap.objs.size:=by
 have h:mainGlobals < s.heap.objs.size:=(I.mod.glob.keeps I.bk).lt;exact Nat.lt_trans (by decide) h
theorem QZ {Q:Value->Shared->Prop} (hu:A.units+1 < cLine) (I:Inv X pins σ H s) (g:GB H a y (some v)) (ry:AX y u) (h:∀ w' s',Inv X pins σ H s'->AX v w'->Q w' s') :
  wpAny (model X.prog X.w) A (getItem (.ref a) u) Q E s:=by
 rcases g with ⟨kvs,k,e,ey,l⟩ | ⟨kvs,k,b,e,ey,eb,l⟩
 ·subst ey;obtain ⟨z,hd,vs,rel,dd⟩:=Ma I.hok e;obtain ⟨w',hw,rw'⟩:=FP.some_of (v:=v) (o:=valueAt vs k) (by rw [l]; exact rel.val k);exact wpAny_getItem_of (NY ry) dd.mapOf hw (h w' _ (I.tok _) rw')
 ·subst ey;cases (show u=Value.ref b from ry);obtain ⟨z,hd,xs,rel,dd⟩:=LY I.hok e;obtain ⟨w',hw,rw'⟩:=FP.some_of (v:=v) (o:=(atKey xs k).map (·.2)) (by rw [l]; exact rel.val k);obtain ⟨p,hp,hp2⟩:=Option.map_eq_some_iff.mp hw;refine wpAny_getItem_heap (tupleKind_room_in1 hu) (JU I.hok eb) dd hp ?_;rw [hp2];exact h w' _ (I.tok _) rw'
theorem d_notIn {Q:Value->Shared->Prop} (hu:A.units+1 < cLine) (I:Inv X pins σ H s) (g:GB H a y o) (ry:AX y u) (h:∀ s',Inv X pins σ H s'->Q (.bool (!o.isSome)) s') :
  wpAny (model X.prog X.w) A (compareOp .NotIn u (.ref a)) Q E s:=by
 rcases g with ⟨kvs,k,e,ey,l⟩ | ⟨kvs,k,b,e,ey,eb,l⟩
 ·subst ey;obtain ⟨z,hd,vs,rel,dd⟩:=Ma I.hok e;refine wpAny_notIn_of (NY ry) hd dd.mapOf ?_;rw [<-(rel.val k).isSome_eq,<-l];exact h _ (I.tok _)
 ·subst ey;cases (show u=Value.ref b from ry);obtain ⟨z,hd,xs,rel,dd⟩:=LY I.hok e;refine wpAny_notIn_heap (tupleKind_room_in1 hu) (JU I.hok eb) hd dd ?_;have q:=(rel.val k).isSome_eq;rw [Option.isSome_map] at q;rw [<-q,<-l];exact h _ (I.tok _)
theorem Nf {h':Heap} {t':Nat} {ob:HO} (I:Inv X pins σ H s) (mu:Mut (H a)) (hs:Heap.SameBut a s.heap h') (he:∃ q,h'.get? a=some q) (new:Bd X.prog X.w (upd H a ob) h' a ob) :
  Inv X pins σ (upd H a ob) { s with heap:=h',toks:=t' } :=
 I.write (x:=a) (e:=a) mu (.inl rfl) (fun b q hb z=>(hs.2 b hb).trans z) he new
theorem dk_new {P:Program} {w:World} {H':Hp} {h':Heap} {kvs:List (Key×V)} {vs:List (Key×Value)} (z:kvs.length<=sizeLine) (hd:(a == sysModules)=false) (rel:KV kvs vs) (dd:h'.DictOf (Cf P w) a vs) :
  Bd P w H' h' a (.dK kvs):=⟨z,hd,vs,rel,dd⟩
theorem QY {H':Hp} {Q:Unit->Shared->Prop} (hu:A.units+1 < cLine) (I:Inv X pins σ H s) (g:LE H a y v H') (ry:AX y u) (rv:AX v r) (h:∀ s',Inv X pins σ H' s'->Q () s') :
  wpAny (model X.prog X.w) A (setItem (.ref a) u r) Q E s:=by
 rcases g with ⟨kvs,k,e,ey,l,eH⟩ | ⟨kvs,k,b,e,ey,eb,l,eH⟩
 ·subst ey eH;obtain ⟨z,hd,vs,rel,dd⟩:=dk_of I.hok e;have hz:vs.length<=sizeLine:=by rw [<-rel.length]; exact z
  have hl:(Dt kvs k v).length<=sizeLine:=by have:=Gd kvs k v; lia
  refine wpAny_setItem_pairs (hsz:=hz) (NY ry) dd fun h' dd' hs=>h _ ?_;have he:∃ q,h'.get? a=some q:=let ⟨q,_,_,hq,_⟩:=dd'; ⟨q,hq⟩;exact Nf I (by rw [e]; exact True.intro) hs he (dk_new hl hd (rel.put k rv) dd')
 ·subst ey eH;cases (show u=Value.ref b from ry);obtain ⟨z,hd,xs,rel,dd⟩:=dt_of I.hok e;have hz:xs.length<=sizeLine:=by rw [<-Paired.length rel]; exact z
  have hl:(Dt kvs k v).length<=sizeLine:=by have:=Gd kvs k v; lia
  refine wpAny_setItem_heap (hsz:=hz) (tupleKind_room_in1 hu) (JU I.hok eb) dd fun h' dd' hs=>h _ ?_;obtain ⟨q,es,ep,hq,h2,h3,h4,_,h5⟩:=dd';refine Nf I (by rw [e]; exact True.intro) hs ⟨q,hq⟩ ⟨hl,hd,_,(rel.put k eb rv).keeps fun c ys ec=>?_,q,es,ep,hq,h2,h3,h4,h5⟩;rw [Az (AR ec e (fun z=>nomatch z))];exact ec
end
section
variable {X:Cx} {pins:List (Addr×Obj)} {σ:St} {H:Hp} {s:Shared} {a:Addr} {kvs:List (Key×V)} {k:Key} {u:Value} {A:Around} {E:Value->Shared->Prop}
end
def NoSl (i:Expr):Prop:=∀ ov iv,subscripted i false ov iv=operate [ov,iv] (getItem ov iv)
theorem subD_of {prog:Program} {w:World} {A:Around} {E:Value->Shared->Prop} {s:Shared} {env:Env} {value slice:Expr} {pos:Pos} {T id:String} {Q:Value->Shared->Prop}
  (hl:typeLookup (.type T) "__getitem__" = pure (some (.builtin id))) (hs:NoSl slice)
  (h:wpAny (model prog w) A (eval value env) (fun o s₁=>wpAny (model prog w) A (eval slice env) (fun i s₂=>s₂.TypeIs o T/\wpAny (model prog w) A (getItem o i) Q E s₂) E s₁) E s) :
  wpAny (model prog w) A (eval (.Subscript value slice pos) env) Q E s:=by
 refine Subscript_ (wpAny_mono h (fun o s₁ h₁=>wpAny_mono h₁ (fun i s₂ h₂=>?_) fun _ _ x=>x) fun _ _ x=>x);obtain ⟨hT,h₂⟩:=h₂;unfold subscriptTail;refine wpAny_bind ?_;rw [getitemInPython_of_ne hT.not_modules];refine wpAny_bind (wpAny_specialOf hT hl ?_);have fin:wpAny (model prog w) A (subscripted slice false o i) (fun r s₃=>wpAny (model prog w) A (letTemporaryGo value o r >>= fun _=>pure r) Q E s₃) E s₂:=by
  rw [hs o i];exact wpAny_operating (wpAny_mono h₂ (fun r s₃ h₃=>wpAny_bind (wpAny_letTemporaryGo (wpAny_pure h₃))) fun _ _ x=>x)
 first
  | exact wpAny_pure (wpAny_bind fin)
  | exact wpAny_bind (wpAny_pure (wpAny_bind fin))
  | exact wpAny_bind fin
theorem Oc {X:Cx} {pins:List (Addr×Obj)} {σ:St} {H:Hp} {s:Shared} {a:Addr} {y:V} {o:Option V} (I:Inv X pins σ H s) (g:GB H a y o):s.TypeIs (.ref a) "dict" := by
 rcases g with ⟨kvs,k,e,_,_⟩ | ⟨kvs,k,b,e,_,_,_⟩
 ·obtain ⟨_,_,vs,_,dd⟩:=Ma I.hok e;exact dd.typeIs
 ·obtain ⟨_,_,xs,_,dd⟩:=LY I.hok e;exact dd.typeIs
def tDGet (td ty:TE):TE:=fun σ H Q=>td σ H fun x H1=>ty σ H1 fun y H2=>∃ a v,x=.ref a/\GB H2 a y (some v)/\Q v H2
def tDNotIn (ty td:TE):TE:=fun σ H Q=>ty σ H fun y H1=>td σ H1 fun x H2=>∃ a o,x=.ref a/\GB H2 a y o/\Q (.bl (!o.isSome)) H2
def sDPut (td ty tv:TE):TS:=fun D σ H=>tv σ H fun v H1=>td σ H1 fun x H2=>ty σ H2 fun y H3=>∃ a H4,x=.ref a/\LE H3 a y v H4/\D.nx σ H4
section
variable {X:Cx} {o i e value:Expr} {pos pos' tpos:Pos} {td ty tv:TE}
theorem pe_dget (hu:X.A.units+1 < cLine) (ho:PE X o td) (hi:PE X i ty) (hs:NoSl i):PE X (.Subscript o i pos) (tDGet td ty):=by
 intro pins s σ H Q I h;refine subD_of PySem.F.slot_dict_getitem.lookup hs (thn (ho pins s σ H _ I h) fun u s1 ⟨x,H1,I1,rx,q1⟩=>thn (hi pins s1 σ H1 _ I1 q1) fun iv s2 ⟨y,H2,I2,ry,a,v,ex,g,q2⟩=>?_);subst ex;obtain rfl:u=Value.ref a:=rx;exact ⟨Oc I2 g,QZ hu I2 g ry fun w' s3 I3 rw'=>⟨v,H2,I3,rw',q2⟩⟩
theorem Qu (hu:X.A.units+1 < cLine) (hi:PE X i ty) (ho:PE X o td):PC X .NotIn i o (tDNotIn ty td):=by
 intro pins s σ H Q I h;refine thn (hi pins s σ H _ I h) fun iv s1 ⟨y,H1,I1,ry,q1⟩=>thn (ho pins s1 σ H1 _ I1 q1) fun u s2 ⟨x,H2,I2,rx,a,ov,ex,g,q2⟩=>?_;subst ex;obtain rfl:u=Value.ref a:=rx;exact d_notIn hu I2 g ry fun s3 I3=>⟨.bl (!ov.isSome),H2,I3,rfl,q2⟩
theorem Jq (hu:X.A.units+1 < cLine) (ho:PE X o td) (hi:PE X i ty) (hv:PE X value tv) (hs:swapsWith value (some (.Subscript o i pos')) pos.line X.env=pure false) :
  PS X (.Assign [.Subscript o i pos'] value pos) (sDPut td ty tv):=by
 intro pins s σ H D I h;refine wpAny_Assign_Subscript (thn (hv pins s σ H _ I h) fun r s1 ⟨v,H1,I1,rv,q1⟩=>thn (ho pins s1 σ H1 _ I1 q1) fun u s2 ⟨x,H2,I2,rx,q2⟩=>thn (hi pins s2 σ H2 _ I2 q2) fun iv s3 ⟨y,H3,I3,ry,a,H4,ex,g,q3⟩=>?_) hs;subst ex;obtain rfl:u=Value.ref a:=rx;exact QY hu I3 g ry rv fun s4 I4=>⟨σ,H4,I4,q3⟩
end
theorem SZ {P:Program} {w:World} {H:Hp} (h:Heap) (hb:sysModules < h.objs.size):Bd P w H (h.push { cls:=.type "dict",data:=.dict #[] }) h.objs.size (.dK []) :=
 ⟨Nat.zero_le _,beq_eq_false_iff_ne.mpr (Ne.symm (Nat.ne_of_lt hb)),[],.nil,Heap.DictOf.new h⟩
theorem SY {P:Program} {w:World} {H:Hp} (h:Heap) (hb:sysModules < h.objs.size):Bd P w H (h.push { cls:=.type "dict",data:=.dict #[] }) h.objs.size (.dT []) :=
 ⟨Nat.zero_le _,beq_eq_false_iff_ne.mpr (Ne.symm (Nat.ne_of_lt hb)),[],.nil,_,#[],0,Heap.get?_push_size _ rfl,⟨rfl,rfl,rfl⟩,rfl,rfl,List.nodup_nil⟩
def tDNewK:TE:=fun _ H Q=>∀ p,H p=none->Q (.ref p) (upd H p (.dK []))
def tDNewT:TE:=fun _ H Q=>∀ p,H p=none->Q (.ref p) (upd H p (.dT []))
section
variable {X:Cx} {pos:Pos}
theorem JH:PE X (.Dict [] [] pos) tDNewK:=fun pins s σ H Q I h =>
 wpAny_Dict_empty ⟨.ref s.heap.objs.size,_,I.laid (a:=s.heap.objs.size) (o:=.dK []) (t':=s.toks) (fun _ _ q=>Heap.get?_push_of_some _ q) (Nat.le_refl _) (SZ s.heap I.big),rfl,h _ (I.hok.fresh (Nat.le_refl _))⟩
theorem RV:PE X (.Dict [] [] pos) tDNewT:=fun pins s σ H Q I h =>
 wpAny_Dict_empty ⟨.ref s.heap.objs.size,_,I.laid (a:=s.heap.objs.size) (o:=.dT []) (t':=s.toks) (fun _ _ q=>Heap.get?_push_of_some _ q) (Nat.le_refl _) (SY s.heap I.big),rfl,h _ (I.hok.fresh (Nat.le_refl _))⟩
end
structure M1 (X:Cx) (o:Expr) (m:Str) (apos:Pos) (e:Expr) (cpos:Pos):Prop where
 base:attributeBase o m X.env (eval o X.env)=eval o X.env
 few:((backTo cpos (starEach [e] X.env)).all (fun x=>!x.1) && (backToKw cpos (keywordEach [] X.env)).all (fun x=>x.1.isSome)
  && decide (([e]:List Expr).length+([]:List Keyword).length+(if ([]:List Keyword).isEmpty then 0 else 1) < 30))=true
 line:(apos.endLine == cpos.line)=true
 trees:backTo cpos (starEach [e] X.env)=[(false,eval e X.env)]
def IsD (H:Hp) (a:Addr):Prop:=(∃ kvs,Rd H a (.dK kvs))\/∃ kvs,Rd H a (.dT kvs)
theorem isD_at {X:Cx} {pins:List (Addr×Obj)} {σ:St} {H:Hp} {s:Shared} {a:Addr} (I:Inv X pins σ H s) (d:IsD H a) :
  s.TypeIs (.ref a) "dict" /\ (∀ b,Value.ref a=.ref b->∃ ob,s.heap.get? b=some ob/\ob.dict=none)/\(a == sysModules)=false:=by
 rcases d with ⟨kvs,e⟩ | ⟨kvs,e⟩
 ·obtain ⟨_,hd,vs,_,dd⟩:=Ma I.hok e;refine ⟨dd.typeIs,fun b q=>?_,hd⟩;cases q;obtain ⟨ob,_,_,h1,h2,_⟩:=dd;exact ⟨ob,h1,h2.2.1⟩
 ·obtain ⟨_,hd,xs,_,dd⟩:=LY I.hok e;refine ⟨dd.typeIs,fun b q=>?_,hd⟩;cases q;obtain ⟨ob,_,_,h1,h2,_⟩:=dd;exact ⟨ob,h1,h2.2.1⟩
section
variable {X:Cx} {pins:List (Addr×Obj)} {σ:St} {H:Hp} {s:Shared} {a:Addr} {y d:V} {u r:Value} {o:Option V} {A:Around} {E:Value->Shared->Prop}
theorem d_get1 {Q:Value->Shared->Prop} (hu:A.units+1 < cLine) (I:Inv X pins σ H s) (g:GB H a y o) (ry:AX y u) (h:∀ w' s',Inv X pins σ H s'->AX (o.getD .non) w'->Q w' s') :
  wpAny (model X.prog X.w) A (call (.builtin "dict.get") [.ref a,u]) Q E s:=by
 rcases g with ⟨kvs,k,e,ey,l⟩ | ⟨kvs,k,b,e,ey,eb,l⟩
 ·subst ey;obtain ⟨z,hd,vs,rel,dd⟩:=Ma I.hok e;refine call_meetsIn PySem.F.slot_dict_get dd.typeIs PySem.F.entry_dict_get (PySem.F.args_dict_get_2 _ _) (meets_dict_get (Cf X.prog X.w) a (NY ry) hd) ⟨_,dd.mapOf,h _ _ (I.tok _) ?_⟩;rw [l];exact (rel.val k).getD rfl
 ·subst ey;cases (show u=Value.ref b from ry);obtain ⟨z,hd,xs,rel,dd⟩:=LY I.hok e;refine call_meetsIn PySem.F.slot_dict_get dd.typeIs PySem.F.entry_dict_get (PySem.F.args_dict_get_2 _ _) (meetsH_dict_get (tupleKind (Cf X.prog X.w)) a b hd) ⟨tupleKind_room_in1 hu,k,xs,JU I.hok eb,dd,h _ _ (I.tok _) ?_⟩;rw [l];exact (rel.val k).getD rfl
end
def tDGet1 (td ty:TE):TE:=fun σ H Q=>td σ H fun x H1=>∃ a,x=.ref a/\IsD H1 a/\ty σ H1 fun y H2=>∃ o,GB H2 a y o/\Q (o.getD .non) H2
section
variable {X:Cx} {o e f:Expr} {apos cpos:Pos} {td ty tx:TE}
theorem RX (hu:X.A.units+1 < cLine) (ho:PE X o td) (he:PE X e ty) (m:M1 X o "get" apos e cpos):PE X (.Call (.Attribute o "get" apos) [e] [] cpos) (tDGet1 td ty):=by
 intro pins s σ H Q I h;refine wpAny_Call_method m.base m.few m.line PySem.F.plainAttrs_dict PySem.F.slot_dict_get PySem.F.type_dict_get (thn (ho pins s σ H _ I h) fun u s1 ⟨x,H1,I1,rx,a,ex,d,q1⟩=>?_);subst ex;obtain rfl:u=Value.ref a:=rx;obtain ⟨t1,t2,_⟩:=isD_at I1 d;refine ⟨t1,t2,?_⟩;rw [m.trees];refine Calls.callWith_builtin rfl (Calls.evalArgs_plain (Calls.spliced_cons (thn (he pins s1 σ H1 _ I1 q1) fun iv s2 ⟨y,H2,I2,ry,ov,g,q2⟩=>Calls.spliced_nil ?_)));exact d_get1 hu I2 g ry fun w' s3 I3 rw'=>⟨_,H2,I3,rw',q2⟩
end
section
variable {X:Cx} {pins:List (Addr×Obj)} {σ:St} {H:Hp} {s:Shared} {a:Addr} {kvs:List (Key×V)} {A:Around} {E:Value->Shared->Prop}
end
section
variable {X:Cx} {pins:List (Addr×Obj)} {σ:St} {H:Hp} {s:Shared} {a:Addr} {y:V} {u:Value} {A:Around} {E:Value->Shared->Prop}
end
end L2
namespace L2
open PySem PySem.Spec PyProof.Rows
section
variable {X:Cx}
end
section
variable {κ:Type} [DecidableEq κ]
theorem Rm {kvs:List (κ×V)} {k:κ} (h:BH kvs k=none):¬ k ∈ kvs.map (·.1):=by
 intro m;obtain ⟨p,hp,e⟩:=List.mem_map.mp m;have q:(kvs.any fun kv=>decide (kv.1=k))=true:=List.any_eq_true.mpr ⟨p,hp,decide_eq_true e⟩;rw [ED,h] at q;exact absurd q (by simp)
theorem Px:∀ {l:List κ} {k:κ},l.Nodup->¬ k ∈ l->(l ++ [k]).Nodup
 | [],k,_,_=>by simp
 | a :: r,k,h,hk=>by
  obtain ⟨h1,h2⟩:=List.nodup_cons.mp h;show (a :: (r ++ [k])).Nodup;refine List.nodup_cons.mpr ⟨fun m=>?_,Px h2 fun m=>hk (List.mem_cons.mpr (Or.inr m))⟩;rcases List.mem_append.mp m with q | q
  ·exact h1 q
  ·exact hk (List.mem_cons.mpr (Or.inl (List.mem_singleton.mp q).symm))
theorem nd_putK {kvs:List (κ×V)} {k:κ} (v:V) (hn:(kvs.map (·.1)).Nodup) (h:BH kvs k=none):((Dt kvs k v).map (·.1)).Nodup:=by
 rw [GW v h,List.map_append];exact Px hn (Rm h)
end
end L2
namespace L2
open PySem PySem.Spec PyProof.Rows
theorem Bd.be {P:Program} {w:World} {H:Hp} {h:Heap} {a:Addr} {o:HO} (x:Bd P w H h a o):∃ u,h.get? a=some u:=by
 cases o with
 | lst xs=>obtain ⟨_,_,_,_,e⟩:=x; exact ⟨_,e⟩
 | tup xs=>obtain ⟨_,_,_,u,e,_⟩:=x; exact ⟨u,e⟩
 | dK kvs=>obtain ⟨_,_,_,_,u,_,_,e,_⟩:=x; exact ⟨u,e⟩
 | dT kvs=>obtain ⟨_,_,_,_,u,_,_,e,_⟩:=x; exact ⟨u,e⟩
 | set S n=>obtain ⟨u,_,_,_,e,_⟩:=x; exact ⟨u,e⟩
 | ins C dx fs=>obtain ⟨_,_,_,e,_⟩:=x; exact ⟨_,e⟩
 | own y=>exact x
 | xd fs=>obtain ⟨_,⟨u,_,_,e,_⟩,_⟩:=x; exact ⟨u,e⟩
 | rng lo hi=>obtain ⟨_,_,_,e⟩:=x; exact ⟨_,e⟩
 | frz ob u=>exact ⟨_,x.1⟩
 | tbl ps=>exact ⟨_,x⟩
 | met f y=>exact ⟨_,x⟩
 | ext φ=>exact x.2.1
structure Pg (hid fs:List Addr) (h h':Heap):Prop where
 keep:∀ b o,h.get? b=some o->b ∉ hid->h'.get? b=some o
 slot:∀ b o,b ∈ fs->h.get? b=some o->∃ sl,h'.get? b=some { o with slots:=sl }
 sub:∀ b,b ∈ fs->b ∈ hid
theorem MK {hid:List Addr} {l:List Env} {b0 h h':Heap} (k:(PySem.W.hideAll h hid).StaysIn h') (up:h.UpToSlots h') (fr:h.FunFrames b0 l) (sub:∀ b,b ∈ frs l->b ∈ hid):Pg hid (frs l) h h' where
 keep:=fun b o q n=>k b o (PySem.W.hideAll_get _ q n)
 slot:=fun b o m q=>by
  obtain ⟨_,o',q',d⟩:=fr.mem m;rw [q] at q';cases q';exact up b o q d
 sub:=sub
theorem JX {P:Program} {w:World} {H:Hp} {h h':Heap} {hid fs:List Addr} (hok:HOk P w H h) (n:Pg hid fs h h') (free:∀ b,b ∈ hid->H b=none):HOk P w H h':=fun b u q =>
 (hok b u q).stay (fun c v hc r=>n.keep c v r fun m=>by
  have z:=free c m;rcases hc with rfl | hc
  ·rw [q] at z; cases z
  ·rw [hc] at z; cases z) (fun _ z=>z) fun _ _ z=>z
theorem Mp {gs hid fs:List Addr} {H0 H:Hp} {g h h':Heap} (u:Un gs [] H0 H g h) (n:Pg hid fs h h') (out:∀ b,b ∈ hid->b ∈ fs\/g.get? b=none) (inn:∀ b,b ∈ fs->b ∈ gs\/g.get? b=none):Un gs [] H0 H g h' where
 keep:=fun b o q m hb hx=>n.keep b o (u.keep b o q m hb hx) fun z=>by
  rcases out b z with y | y
  ·rcases inn b y with y | y
   ·exact hb y
   ·rw [q] at y; cases y
  ·rw [q] at y; cases y
 slot:=fun b o q m hb hx=>by
  obtain ⟨sl,e⟩:=u.slot b o q m hb hx;by_cases z:b ∈ hid
  ·rcases out b z with y | y
   ·obtain ⟨sl',e'⟩:=n.slot b _ y e;exact ⟨sl',e'⟩
   ·rw [q] at y; cases y
  ·exact ⟨sl,n.keep b _ e z⟩
 free:=u.free
 there:=fun b o q hx=>by
  obtain ⟨o',e⟩:=u.there b o q hx;by_cases z:b ∈ hid
  ·rcases out b z with y | y
   ·obtain ⟨sl',e'⟩:=n.slot b _ y e;exact ⟨_,e'⟩
   ·rw [q] at y; cases y
  ·exact ⟨_,n.keep b _ e z⟩
 tups:=u.tups
 frzs:=u.frzs
 tbls:=u.tbls
def FlyT (a T:Addr) (cls:Value) (h:Heap):Prop :=
 ∃ (oe:Obj) (vs:Array Value) (oT:Obj) (ts:Array Value) (a0:Value),h.get? a=some oe/\(oe.cls=cls/\vs[0]?=some a0)/\oe.data=.fields vs/\vs[1]?=some (.ref T)/\T≠a/\h.get? T=some oT/\oT.data=.fields ts/\ts[3]?=some .none
def CXE (P:Program) (w:World):CXT:=fun outer H s E e s' =>
 ∃ (a T:Addr) (cls:Value) (H':Hp),e=.ref a/\s'.os=s.os/\AllBare s'.gens/\Un (frs outer) [] H H' s.heap s'.heap/\HOk P w H' s'.heap /\
  FlyT a T cls s'.heap/\s.heap.get? a=none/\s.heap.get? T=none/\H' a=none/\H' T=none/\E cls none H'
theorem flyW {a T:Addr} {cls:Value} {h b0:Heap} {l:List Env} (f:FlyT a T cls h) (fr:h.FunFrames b0 l):∃ a0,Heap.FlyingW (PySem.W.hideAll h (a :: T :: frs l)) l a cls a0 h:=by
 obtain ⟨oe,vs,oT,ts,a0,e1,e2,e3,e4,e5,e6,e7,e8⟩:=f;refine ⟨a0,fun b o q=>PySem.W.of_hideAll _ q,PySem.W.hideAll_none _ (.head _),PySem.W.funFrames_hide fr (fun env he b hb=>?_),oe,vs,T,oT,ts,e1,e2,e3,e4,PySem.W.hideAll_none _ (.tail _ (.head _)),e5,e6,e7,e8⟩;exact .tail _ (.tail _ (List.mem_filterMap.mpr ⟨env,he,hb⟩))
theorem SV {P:Program} {w:World} {a:Addr} {cls a0:Value} {h h' g b0:Heap} {H:Hp} {l l':List Env} {hid:List Addr} (fr:h.FunFrames b0 l) (fl:Heap.FlyingW (PySem.W.hideAll h hid) l' a cls a0 h') (n:Pg hid (frs l) h h')
  (gk:∀ b o,g.get? b=some o->∃ o',h.get? b=some o') (hh:∀ b,b ∈ hid->b ∈ frs l\/(g.get? b=none/\H b=none)) (hok:HOk P w H h):∃ T',FlyT a T' cls h'/\g.get? T'=none/\H T'=none:=by
 obtain ⟨_,_,_,oe,vs,T',oT,ts,e1,e2,e3,e4,e5,e6,e7,e8,e9⟩:=fl;refine ⟨T',⟨oe,vs,oT,ts,a0,e1,e2,e3,e4,e6,e7,e8,e9⟩,?_⟩;by_cases z:T' ∈ hid
 ·rcases hh T' z with y | y
  ·obtain ⟨_,o,ho,hd⟩:=fr.mem y;obtain ⟨sl,q⟩:=n.slot T' o y ho;rw [e7] at q;cases q;exact absurd e8 (hd ts)
  ·exact y
 ·have nh:h.get? T'=none:=by
   cases q:h.get? T' with
   | none=>rfl
   | some o =>
    have:=PySem.W.hideAll_get hid q z;rw [e5] at this;cases this
  constructor
  ·cases q:g.get? T' with
   | none=>rfl
   | some o =>
    obtain ⟨o',q'⟩:=gk _ _ q;rw [nh] at q';cases q'
  ·cases q:H T' with
   | none=>rfl
   | some u =>
    obtain ⟨v,e⟩:=(hok T' u q).be;rw [nh] at e;cases e
section
variable {P:Program} {w:World} {K:PySem.W.Frag} {mg:Str->Option Value} {base:Heap} {N:List Str} {qual:Str} {scope:Scope} {f:Addr} {cd:Value} {A:Around} {outer:List Env} {s:Shared} {H:Hp} {E:XK}
def Tw (X:Cx) (E:XK):Prop:=∀ (pins:List (Addr×Obj)) (σ:St) (H:Hp) (s:Shared) (e:Addr) (cls:Value) (args:List Value) (h':Heap),Inv X pins σ H s->Heap.MadeExcOf s.heap h' e cls args->E cls none H->X.xe (.ref e) { s with heap:=h' }
theorem Inv.gk {X:Cx} {pins:List (Addr×Obj)} {σ:St} {H:Hp} {s:Shared} (I:Inv X pins σ H s) (hx:X.ex=[]):∀ b o,X.s₀.heap.get? b=some o->∃ o',s.heap.get? b=some o':=fun b o q=>I.base.there b o q (by rw [hx]; simp)
theorem Inv.gn {X:Cx} {pins:List (Addr×Obj)} {σ:St} {H:Hp} {s:Shared} (I:Inv X pins σ H s) (hx:X.ex=[]) {b:Addr} (q:s.heap.get? b=none):X.s₀.heap.get? b=none:=by
 cases e:X.s₀.heap.get? b with
 | none=>rfl
 | some o =>
  obtain ⟨o',e'⟩:=I.gk hx b o e;rw [q] at e';cases e'
theorem Inv.ownNew {X:Cx} {pins:List (Addr×Obj)} {σ:St} {H:Hp} {s:Shared} (I:Inv X pins σ H s):X.s₀.heap.get? X.env.locals=none:=Heap.get?_none_of_le I.ok.above
theorem Inv.frsOut {X:Cx} {pins:List (Addr×Obj)} {σ:St} {H:Hp} {s:Shared} (I:Inv X pins σ H s):∀ b,b ∈ frs X.stack->b ∈ frs X.outer\/X.s₀.heap.get? b=none:=fun b hb=>by
 rcases List.mem_cons.mp (I.stkSub b hb) with z | z
 ·right; rw [z]; exact I.ownNew
 ·exact .inl z
theorem raisesE:Tw (EV (CXE P w) P w K mg base N qual scope f cd A outer s H E) E:=by
 intro pins σ H1 s1 e cls args h' I hx hE;have fr:=I.stack;have hs:∀ b,b ∈ frs (EV (CXE P w) P w K mg base N qual scope f cd A outer s H E).stack->b ∈ frs (EV (CXE P w) P w K mg base N qual scope f cd A outer s H E).stack:=fun _ z=>z;have st:(PySem.W.hideAll s1.heap (frs (EV (CXE P w) P w K mg base N qual scope f cd A outer s H E).stack)).StaysIn s1.heap:=fun b o q=>PySem.W.of_hideAll _ q;have fr2:=PySem.W.funFrames_hide (as:=frs (EV (CXE P w) P w K mg base N qual scope f cd A outer s H E).stack) fr (fun env he b hb=>List.mem_filterMap.mpr ⟨env,he,hb⟩);refine wpAny_leaves_madeW (s:={ s1 with heap:=h' }) I.ok.frames rfl st fr2 hx fun h2 t x1 x2 x3 x4=>?_;have nr:Pg (frs (EV (CXE P w) P w K mg base N qual scope f cd A outer s H E).stack) (frs (EV (CXE P w) P w K mg base N qual scope f cd A outer s H E).stack) s1.heap h2 :=
  ⟨fun b o q z=>x1.1 b o (PySem.W.hideAll_get _ q z),fun b o z q=>by
   obtain ⟨_,o',q',d⟩:=fr.mem z;rw [q] at q';cases q';exact x4 b o (hx.keeps b o q) d,fun _ z=>z⟩
 obtain ⟨T,fl,gT,nT⟩:=SV (P:=P) (w:=w) (g:=s.heap) (H:=H1) fr x1 nr (I.gk rfl) (fun b z=>.inl z) I.hok;refine ⟨e,T,cls,H1,rfl,I.os,I.bare,Mp I.base nr (fun b z=>.inl z) I.frsOut,JX I.hok nr I.stkFree,fl,I.gn rfl hx.new,gT,?_,nT,hE⟩;cases q:H1 e with
 | none=>rfl
 | some u =>
  obtain ⟨v,z⟩:=(I.hok e u q).be;rw [hx.new] at z;cases z
theorem passE:EY (CXE P w) (EV (CXE P w) P w K mg base N qual scope f cd A outer s H E) E:=by
 intro pins σ H1 s1 e s' I h;obtain ⟨a,T,cls,H',rfl,os,bare,un,hok,fl,na,nT,ha,hT,hE⟩:=h;have J:Inv (EV (CXE P w) P w K mg base N qual scope f cd A outer s H E) pins σ H' s':=I.call' (ch:=[]) os un hok bare (fun b z=>absurd z (by simp));have fr:=J.stack;obtain ⟨a0,fw⟩:=flyW fl fr;refine wpAny_leaves_onW J.ok.frames rfl fw fun h2 x1 x2=>?_;have nr:=MK x1.1 x2 fr (fun b z=>.tail _ (.tail _ z));have ga:=I.gn rfl na;have gT:=I.gn rfl nT;have hid:∀ b,b ∈ a :: T :: frs (EV (CXE P w) P w K mg base N qual scope f cd A outer s H E).stack->b ∈ frs (EV (CXE P w) P w K mg base N qual scope f cd A outer s H E).stack\/(s.heap.get? b=none/\H' b=none):=fun b z=>by
  rcases List.mem_cons.mp z with rfl | z
  ·exact .inr ⟨ga,ha⟩
  ·rcases List.mem_cons.mp z with rfl | z
   ·exact .inr ⟨gT,hT⟩
   ·exact .inl z
 obtain ⟨T2,fl2,gT2,nT2⟩:=SV (P:=P) (w:=w) (g:=s.heap) (H:=H') fr x1 nr (J.gk rfl) hid J.hok;refine ⟨a,T2,cls,H',rfl,J.os,J.bare,Mp J.base nr (fun b z=>(hid b z).imp id (·.1)) J.frsOut,JX J.hok nr (fun b z=>?_),fl2,ga,gT2,ha,nT2,hE⟩;rcases hid b z with y | y
 ·exact J.stkFree b y
 ·exact y.2
theorem Fun.okE {x:Str} {st:Stmt} {fd:FuncData} {ps:List Str} {k:Nat} {sp:Sp} (F:Fun K x qual st f fd) (S:Ar N ps (Ae st)) (len:∀ vs H Q E,sp vs H Q E->vs.length=ps.length)
  (hbody:∀ (cdv:Value) (A:Around) (outer:List Env) (s:Shared) (H:Hp) (vs:List V) (Q:VK) (E:XK),CF k (A.deeper (envOfC qual (Ae st) s.heap.objs.size f cdv))->sp vs H Q E ->
   ∃ t,PSs (EV (CXE P w) P w K mg base N qual (Ae st) f cdv A outer s H E) (An st) t/\t { nx:=fun _ H'=>Q .non H',rt:=Q } (Fb N vs) H):AI P w K mg base (CXE P w) (k+1) f fd ps sp:=by
 obtain ⟨oc,od,kV,doc,pm,an,cdv,ct,osl,rfl,lk,hcd⟩:=F.ex;exact fn_of lk hcd S len fun A outer s H vs Q E hr hsp=>hbody cdv A outer s H vs Q E hr hsp
end
end L2
namespace L2
open PySem PySem.Spec PyProof.Rows
def vmro:List Value:=[.type "ValueError",.type "Exception",.type "BaseException",.type "object"]
abbrev Gz (K:PySem.W.Frag) (C:Addr):Prop:=PySem.W.excIn K C vmro "ValueError.__new__" = true
theorem Nc {K:PySem.W.Frag} {h:Heap} {C:Addr} {bmB:List Value} {newId:String} (X:K.In h) (q:PySem.W.excIn K C bmB newId=true) :
  ∃ (bm:List Value) (N:Addr) (nm qn:Str) (bs:List Value) (hd:Bool) (sn:List Str) (sub:List Value) (ab:Bool) (col:Option Bool) (dd:Option Addr) (k0 k1 k2 k3 k5:Option Value) (mN:Str->Option Value),
   h.get? C=some (excClassObj nm qn C N bs bm hd sn sub ab col dd k0 k1 k2 k3 k5 newId)/\h.Ns N mN/\mN "__init__" = none/\OwnTail h bmB bm/\∀ v,PySem.W.mroIn K C v=some ((Value.ref C :: bm).contains v):=by
 unfold PySem.W.excIn at q;split at q
 case h_2=>cases q
 rename_i dd cd sl ho;split at q
 case h_2=>cases q
 rename_i C' bm k0 k1 k2 k3 n k5 hm hs;simp only [Bool.and_eq_true,beq_iff_eq,Bool.not_eq_true'] at q;obtain ⟨⟨⟨⟨⟨q1,q2⟩,q3⟩,q4⟩,q5⟩,q6⟩:=q;subst q1 q2;have mro:∀ v,PySem.W.mroIn K C' v=some ((Value.ref C' :: bm).contains v):=fun v=>by
  unfold PySem.W.mroIn PySem.W.clsIn;rw [ho];show (if cd.mro.isEmpty=true then none else some (cd.mro.contains v))=_;rw [hm];rfl
 obtain ⟨nm,bs,mr,ns,qn,hd,sn,sub,ab,col,del⟩:=cd;dsimp only at hm q3 q5 q6;subst hm;subst q3;obtain ⟨l⟩:=sl;dsimp only at hs;subst hs;exact ⟨bm,ns,nm,qn,bs,hd,sn,sub,ab,col,dd,k0,k1,k2,k3,k5,_,X _ _ ho,.of_isNs (PySem.W.isNs_of_in X q5),PySem.W.nsMap_none_of_in X q5 q6,PySem.W.tail_of_in X q4,mro⟩
section
variable {X:Cx} {C:Addr} {x:Str} {np cpos pos:Pos} {e:Expr} {es:List Expr} {t:TA} {E:XK}
def tRaise (C:Addr) (E:XK) (t:TA):TS:=fun _ σ H=>t σ H fun vs H1=>vs.length<=100/\E (.ref C) none H1
theorem RL (hx:Tw X E) (hc:X.calm=true) (hg:Gl X x) (hm:X.mg x=some (.ref C)) (hC:Gz X.K C) (ha:PA X (e :: es) t)
  (hdb:(x == ("__debug__" : Str))=false:=by decide) (he:starEach (e :: es) X.env=(false,eval e X.env) :: starEach es X.env:=by rfl) (hpl:(backTo cpos (starEach es X.env)).any (·.1)=false:=by rfl) :
  PS X (.Raise (some (.Call (.Name x np) (e :: es) [] cpos)) none pos) (tRaise C E t):=by
 intro pins s σ H D I h;obtain ⟨bm,N,nm,qn,bs,hd,sn,sub,ab,col,dd,k0,k1,k2,k3,k5,mN,hO,hN,hi,hT,hM⟩:=Nc I.mod.kin hC;have hbase:bm.contains (.type "BaseException")=true:=hT.hasType (by decide);refine wpAny_Raise_call_subU (C:=C) (nm:=nm) (q:=qn) (N:=N) (bs:=bs) (bm:=bm) (hdct:=hd) (sn:=sn) (sub:=sub) (ab:=ab) (col:=col) (dd:=dd) (k0:=k0) (k1:=k1) (k2:=k2) (k3:=k3) (k5:=k5) (newId:="ValueError.__new__") (mN:=mN)
  PySem.F.excBase_ValueError (by decide) PySem.F.excBase_ValueError hbase (I.ok.hd hc) (by rw [he]; show (false || (backTo cpos (starEach es X.env)).any (·.1))=false; rw [hpl]; rfl) hi (FH I hg hm ⟨rfl,?_⟩ hdb)
 have hA:=ha cpos pins s σ H _ I h;rw [he] at hA ⊢;refine Calls.evalArgs_plain (thn hA fun us s1 ⟨vs,H1,I1,r1,hl,q1⟩=>?_);have k:∀ b o,X.base.get? b=some o->s1.heap.get? b=some o:=I1.bk;refine ⟨rfl,?_,k _ _ hO,hN.keeps k,hT.keeps k,fun h' e' hx'=>hx pins σ H1 s1 e' _ _ h' I1 hx' q1⟩;show us.length<=sizeLine;rw [<-r1.length];exact Nat.le_trans hl (by decide)
end
def Il (CX:CXT) (X:Cx) (E:XK) (S:St->Prop):Prop:=∀ (pins:List (Addr×Obj)) (σ:St) (H:Hp) (s:Shared) (e:Value) (s':Shared),S σ->Inv X pins σ H s->CX X.stack H s E e s'->X.xe e s'
def Rt (S:St->Prop) (sp:Sp) (dvs:List V) (E:XK) (t:TA):TE:=fun σ H Q=>S σ/\t σ H fun vs H1=>sp (vs ++ dvs) H1 Q E
section
variable {X:Cx} {CX:CXT} {k:Nat} {f:Addr} {fd:FuncData} {ps:List Str} {sp:Sp} {dvs:List V} {ds:List Value} {E:XK} {x:Str} {p pos:Pos} {e:Expr} {es:List Expr} {t:TA} {S:St->Prop}
theorem run_fnS {pins:List (Addr×Obj)} {σ:St} {H:Hp} {s:Shared} {Q:VK} {us:List Value} {vs:List V} (F:AI X.prog X.w X.K X.mg X.base CX k f fd ps sp) (hr:CF k X.A) (hb:DN X.K fd ps ds) (hd:AJ dvs ds) (hx:Il CX X E S)
  (hS:S σ) (I:Inv X pins σ H s) (r:AJ vs us) (h:sp (vs ++ dvs) H Q E):wpAny (model X.prog X.w) X.A (call (.ref f) us) (EP X pins σ Q) X.xe s:=by
 have r2:AJ (vs ++ dvs) (us ++ ds):=r.append hd;have hl:(us ++ ds).length=ps.length:=r2.length.symm.trans (F.len _ _ _ _ h);refine wpAny_call (codeAny_mono (F.run X.A X.stack s H ⟨us,[]⟩ (us ++ ds) (vs ++ dvs) Q E hr I.env0 (hb s us I.kIn hl) r2 h) ?_);intro r s' hq;rcases r with e | (_ | _ | _ | _)
 ·exact hx pins σ H s e s' hS I hq
 all_goals first
  | exact I.after hq
  | exact hq.elim
theorem RZ (F:AI X.prog X.w X.K X.mg X.base CX k f fd ps sp) (hr:CF k X.A) (hg:Gl X x) (hm:X.mg x=some (.ref f)) (hk:PySem.W.keepIn X.K (.ref f)=true) (hb:DN X.K fd ps ds) (hd:AJ dvs ds) (hx:Il CX X E S)
  (ha:PA X (e :: es) t) (hdb:(x == ("__debug__" : Str))=false:=by decide) (he:starEach (e :: es) X.env=(false,eval e X.env) :: starEach es X.env:=by rfl) (hpl:(backTo pos (starEach es X.env)).any (·.1)=false:=by rfl) :
  PE X (.Call (.Name x p) (e :: es) [] pos) (Rt S sp dvs E t):=by
 intro pins s σ H Q I h;obtain ⟨hS,h⟩:=h;refine wpAny_Call_Name_kw (FH I hg hm ?_ hdb);refine PySem.W.callWith_K (h₀:=X.base) I.ok.mod.kin hk ?_ he hpl;exact thn (ha pos pins s σ H _ I h) fun us s1 ⟨vs,H1,I1,r,q⟩=>⟨I1.kIn,run_fnS F hr hb hd hx hS I1 r q⟩
end
theorem Inv.re {X:Cx} {pins pins2 pn2:List (Addr×Obj)} {σ:St} {H:Hp} {s:Shared} {A2:Around} {c2:Bool} {xe2:Value->Shared->Prop} (I:Inv X pins σ H s) (hd:c2=true->A2.handled=none) (hf:A2.frames=X.A.frames)
  (hp:∀ p,p ∈ pn2 ++ pins2->p ∈ X.pn ++ pins):Inv { X with A:=A2,calm:=c2,xe:=xe2,pn:=pn2 } pins2 σ H s :=
 ⟨⟨I.ok.mod,I.ok.kind,I.ok.glob,I.ok.blt,I.ok.above,I.ok.inj,I.ok.has,I.ok.cab,hd,hf.trans I.ok.frames,I.ok.stk,I.ok.exf,I.ok.bs,I.ok.bsz,I.ok.noex,I.ok.exfs,I.ok.funs,I.ok.frf⟩,
  I.os,I.bare,I.base,I.loc,I.cell,I.free,I.freeC,fun p z=>I.pin p (hp p z),I.hok,I.len⟩
theorem Inv.un_re {X:Cx} {pins pins2 pn2:List (Addr×Obj)} {σ:St} {H:Hp} {s:Shared} {A2:Around} {c2:Bool} {xe2:Value->Shared->Prop} (I:Inv { X with A:=A2,calm:=c2,xe:=xe2,pn:=pn2 } pins2 σ H s) (hd:X.calm=true->X.A.handled=none)
  (hf:X.A.frames=A2.frames) (hp:∀ p,p ∈ X.pn ++ pins->p ∈ pn2 ++ pins2):Inv X pins σ H s :=
 ⟨⟨I.ok.mod,I.ok.kind,I.ok.glob,I.ok.blt,I.ok.above,I.ok.inj,I.ok.has,I.ok.cab,hd,hf.trans I.ok.frames,I.ok.stk,I.ok.exf,I.ok.bs,I.ok.bsz,I.ok.noex,I.ok.exfs,I.ok.funs,I.ok.frf⟩,
  I.os,I.bare,I.base,I.loc,I.cell,I.free,I.freeC,fun p z=>I.pin p (hp p z),I.hok,I.len⟩
theorem SP.map {X Y:Cx} {p q:List (Addr×Obj)} {D:Ll} {f:Flow} {s:Shared} (k:∀ σ H,Inv X p σ H s->Inv Y q σ H s) (h:SP X p D f s):SP Y q D f s:=by
 cases f with
 | next=>obtain ⟨σ',H',I,z⟩:=h; exact ⟨σ',H',k _ _ I,z⟩
 | brk=>obtain ⟨σ',H',I,z⟩:=h; exact ⟨σ',H',k _ _ I,z⟩
 | cont=>obtain ⟨σ',H',I,z⟩:=h; exact ⟨σ',H',k _ _ I,z⟩
 | ret u=>obtain ⟨v,σ',H',I,r,z⟩:=h; exact ⟨v,σ',H',k _ _ I,r,z⟩
def IS (a D:Addr):HO:=.ext fun h=>∃ o,h.get? a=some o/\o.cls=.ref D/\PySem.W.notCls o=true
theorem SO {P:Program} {w:World} {H:Hp} {h:Heap} {a D:Addr} {o:Obj} (e:h.get? a=some o) (c:o.cls=.ref D) (n:PySem.W.notCls o=true):Bd P w H h a (IS a D) :=
 ⟨⟨o,e,c,n⟩,⟨o,e⟩,fun h1 h2 ⟨o1,e1,c1,n1⟩ k=>⟨o1,k _ e1,c1,n1⟩⟩
theorem Inv.track {X:Cx} {pins:List (Addr×Obj)} {σ:St} {H:Hp} {s:Shared} {a:Addr} {o:HO} (I:Inv X pins σ H s) (ha:H a=none) (h0:X.s₀.heap.get? a=none) (hb:X.base.get? a=none) (hL:X.env.locals≠a) (hc:∀ x c,X.env.cells.lookup x=some c->c≠a)
  (hp:∀ p,p ∈ X.pn ++ pins->p.1≠a) (hs:∀ b,b ∈ X.fs->b≠a) (new:Bd X.prog X.w (upd H a o) s.heap a o):Inv X pins σ (upd H a o) s:=by
 have ne:∀ b u,H b=some u->b≠a:=fun b u q z=>by rw [z,ha] at q; cases q
 refine ⟨I.ok,I.os,I.bare,⟨I.base.keep,I.base.slot,fun b u q n x=>?_,I.base.there,fun b xs q=>?_,fun b u v q=>?_,fun b ps q=>?_⟩,I.loc,I.cell,?_,fun x c q=>?_,fun p z=>?_,fun b u q=>?_,I.len⟩
 ·rw [Az (fun z=>by rw [z,h0] at q; cases q)];exact I.base.free b u q n x
 ·have z:=I.base.tups b xs q;rw [Az (ne _ _ z)]; exact z
 ·have z:=I.base.frzs b u v q;rw [Az (ne _ _ z)]; exact z
 ·obtain ⟨m,z⟩:=I.base.tbls b ps q;exact ⟨m,by rw [Az (ne _ _ z)]; exact z⟩
 ·rw [Az hL]; exact I.free
 ·rw [Az (hc x c q)]; exact I.freeC x c q
 ·obtain ⟨e,n,r⟩:=I.pin p z;exact ⟨e,by rw [Az (hp p z)]; exact n,r⟩
 ·by_cases z:b=a
  ·subst z;rw [Ah] at q;cases q;exact new
  ·rw [Az z] at q;exact (I.hok b u q).stay (fun c v _ r=>r) (fun c r=>by rw [Az (ne _ _ r)]; exact r) fun c xs r=>by rw [Az (ne _ _ r)]; exact r
theorem Inv.gone {X:Cx} {pins:List (Addr×Obj)} {σ:St} {H:Hp} {s:Shared} {h':Heap} {n:Str} {i:Nat} {v:Option Value} {m:Str->Option Value} {tk:Nat} (I:Inv X pins σ H s) (hN:X.N.Nodup) (hi:X.N[i]?=some n) (hl:X.env.scope.names.lookup n=some .local)
  (hl0:∀ (i:Nat) (x:Str) (v:V),X.N[i]?=some x->σ[i]?=some (some v)->Vis X.env.scope x->∃ u,AX v u/\Look X.env s.heap m x u) (hn':h'.Ns X.env.locals (fun x=>if x=n then v else m x)) (sb:Heap.SameBut X.env.locals s.heap h'):Inv X pins (σ.set i none) H { s with heap:=h',toks:=tk }:=by
 have neL:∀ b o,X.s₀.heap.get? b=some o->b≠X.env.locals:=fun b o e=>Nat.ne_of_lt (Nat.lt_of_lt_of_le (Heap.lt_size e) I.ok.above);refine ⟨I.ok,I.os,I.bare,⟨fun b o e z hb hx=>?_,fun b o e z hb hx=>?_,I.base.free,fun b o e hx=>?_,I.base.tups,I.base.frzs,I.base.tbls⟩,⟨_,hn',fun j y v' e1 e2 e3=>?_⟩,fun y c e=>?_,I.free,I.freeC,fun p hp=>?_,fun b u q=>?_,by simpa using I.len⟩
 ·exact (sb.2 b (neL b o e)).trans (I.base.keep b o e z hb hx)
 ·obtain ⟨sl,q⟩:=I.base.slot b o e z hb hx;exact ⟨sl,(sb.2 b (neL b o e)).trans q⟩
 ·obtain ⟨o',q⟩:=I.base.there b o e hx;exact ⟨o',(sb.2 b (neL b o e)).trans q⟩
 ·by_cases hj:j=i
  ·subst hj;rw [List.getElem?_set_self (by rw [I.len]; exact (List.getElem?_eq_some_iff.mp hi).1)] at e2;cases e2
  ·rw [List.getElem?_set_ne (Ne.symm hj)] at e2;obtain ⟨u,r,l⟩:=hl0 j y v' e1 e2 e3;refine ⟨u,r,?_⟩;have ny:y≠n:=fun z=>hj (JI hN e1 (z ▸ hi));rcases l with ⟨k,q⟩ | ⟨k,c,q,z⟩
   ·exact .inl ⟨k,by simp [ny,q]⟩
   ·exact .inr ⟨k,c,q,z.sameBut sb (I.cne y c q)⟩
 ·obtain ⟨w',z⟩:=I.cell y c e;exact ⟨w',z.sameBut sb (I.cne y c e)⟩
 ·obtain ⟨e,z,ne,r⟩:=I.pin p hp;exact ⟨(sb.2 p.1 ne).trans e,z,ne,r⟩
 ·have ne:∀ c v,H c=some v->c≠X.env.locals:=fun c v q z=>by rw [z,I.free] at q; cases q
  refine (I.hok b u q).stay (fun c v hc r=>(sb.2 c ?_).trans r) (fun _ z=>z) fun _ _ z=>z;rcases hc with rfl | hc
  ·exact ne _ _ q
  ·exact ne _ _ hc
end L2
namespace L2
open PySem PySem.Spec PyProof.Rows
theorem QU {K:PySem.W.Frag} {M:Model} {A:Around} {E:Value->Shared->Prop} {s:Shared} {e C D:Addr} {oe:Obj} {Q:Bool->Shared->Prop} (X:K.In s.heap) (hC:Gz K C) (hD:Gz K D) (hs:PySem.W.mroIn K D (.ref C)=some true)
  (he:s.heap.get? e=some oe) (hcls:oe.cls=.ref D) (hq:Q true s):wpAny M A (excMatches (.ref e) (.ref C)) Q E s:=by
 obtain ⟨h,g,d,t,os⟩:=s;obtain ⟨bm,N,nm,qn,bs,hd,sn,sub,ab,col,dd,k0,k1,k2,k3,k5,mN,hO,hN,hi,hT,hM⟩:=Nc X hD;have hbase:bm.contains (.type "BaseException")=true:=hT.hasType (by decide);by_cases z:D=C
 ·subst z;exact wpAny_excMatches_sub_self hO he hcls hbase hq
 ·obtain ⟨bm',N',nm',qn',bs',hd',sn',sub',ab',col',dd',k0',k1',k2',k3',k5',mN',hO',hN',hi',hT',hM'⟩:=Nc X hC;have hcB:(Value.ref C :: bm').contains (.type "BaseException")=true:=by rw [List.contains_cons,hT'.hasType (X:="BaseException") (b:=true) (by decide),Bool.or_true]
  have hcC:(Value.ref D :: bm).contains (.ref C)=true:=Option.some.inj ((hM (.ref C)).symm.trans hs);have f:=tc_notTuple;unfold excMatches
  repeat (first
   | (with_reducible refine wpAny_loadPart_at he ?_; rw [hcls])
   | with_reducible refine wpAny_loadPart_at hO' ?_
   | (with_reducible refine wpAny_isSubtype_exc hO' ?_; rw [hcB])
   | (with_reducible refine wpAny_isSubtype_exc hO ?_; rw [hcC])
   | wp_step)
  exact hq
section
variable {X:Cx} {C:Addr} {x n:Str} {np hpos pos:Pos} {i:Nat} {b₀:Stmt} {suite body:List Stmt} {S:St->Prop} {tb:XK->TS} {th:TS}
theorem land {pins pins':List (Addr×Obj)} {σ:St} {H1:Hp} {s1 s':Shared} {e:Value} {E1:XK} {Q:Flow->Shared->Prop} {nm:Option Str} {xe1:Value->Shared->Prop}
  (hstk:X.stack=X.env :: X.outer) (hfr:X.env.frame=some X.env.locals) (hex:X.ex=[]) (hg:Gl X x) (hm:X.mg x=some (.ref C)) (hC:Gz X.K C) (hcalm:X.calm=true)
  (hE1:∀ cls d H',E1 cls d H'->∃ D,cls=.ref D/\Gz X.K D/\PySem.W.mroIn X.K D (.ref C)=some true)
  (J0:Inv { X with xe:=xe1,pn:=X.pn ++ pins } pins' σ H1 s1) (hcx:CXE X.prog X.w X.stack H1 s1 E1 e s')
  (go:∀ (a D:Addr) (H':Hp) (s2:Shared),e=.ref a->E1 (.ref D) none H'->H' a=none->(∃ o,s2.heap.get? a=some o/\o.cls=.ref D/\PySem.W.notCls o=true)->X.s₀.heap.get? a=none->X.base.get? a=none->X.env.locals≠a->(∀ x c,X.env.cells.lookup x=some c->c≠a) ->
   (∀ p,p ∈ X.pn ++ pins->p.1≠a)->(∀ b,b ∈ X.fs->b≠a)->Inv X pins σ H' s2 ->
   (∀ (Q':Unit->Shared->Prop) (E':Value->Shared->Prop),(∀ s3,Inv X pins σ H' s3->(∃ o,s3.heap.get? a=some o/\o.cls=.ref D/\PySem.W.notCls o=true)->Q' () s3)->wpAny (model X.prog X.w) (X.A.mark (some (.ref a))) (setFlight (.ref a) none) Q' E' s2) ->
   codeAny (model X.prog X.w) (X.A.mark (some (.ref a))) (.handlers (.ref a) [.ExceptHandler none nm (b₀ :: suite) hpos] X.env) (fun r s₂=>match r with
     | .ok f=>(match nm with
      | none=>Q f s₂
      | some n=>wpAny (model X.prog X.w) X.A (do bindName X.env n .none; unbindBehindTheSuite X.env n hpos) (fun _ s₃=>Q f s₃) X.xe s₂)
     | .error x=>cameBackBy (model X.prog X.w) X.A X.env X.xe x s₂) s2)
  (hdb:(x == ("__debug__" : Str))=false:=by decide) :
  wpAny (model X.prog X.w) X.A (noteFrame e X.env) (fun _ s₂=>wpAny (model X.prog X.w) X.A (setFlight e none) (fun _ s₃=>wpAny (model X.prog X.w) X.A (handleBy e X.env [.ExceptHandler (some (.Name x np)) nm (b₀ :: suite) hpos]) Q X.xe s₃) X.xe s₂) X.xe s':=by
 obtain ⟨a,T,cls,H',rfl,os,bare,un,hok,fl,na,nT,ha,hT,hE⟩:=hcx;obtain ⟨D,rfl,hD,hDC⟩:=hE1 _ _ _ hE;have hpin:∀ p,p ∈ X.pn ++ pins->p.1≠a:=fun p hp z=>by
  have q:=(J0.pin p (List.mem_append_left _ hp)).1;rw [z,na] at q;cases q
 have I0:Inv X pins σ H1 s1:=J0.un_re J0.ok.hd rfl (fun p hp=>List.mem_append_left _ hp);have J:Inv X pins σ H' s':=I0.call' (ch:=[]) os un hok bare (fun b z=>absurd z (by simp));have fr:=J.stack;obtain ⟨a0,fw⟩:=flyW fl fr;have sub:∀ b,b ∈ frs X.stack->b ∈ a :: T :: frs X.stack:=fun b z=>.tail _ (.tail _ z);have hf2:X.A.frames=some (X.env :: X.outer):=J.ok.frames.trans (by rw [hstk]);have free:∀ b,b ∈ a :: T :: frs X.stack->H' b=none:=fun b z=>by
  rcases List.mem_cons.mp z with rfl | z
  ·exact ha
  ·rcases List.mem_cons.mp z with rfl | z
   ·exact hT
   ·exact J.stkFree b z
 have g0:∀ {b},s1.heap.get? b=none->X.s₀.heap.get? b=none:=fun q=>I0.gn hex q;have out:∀ b,b ∈ a :: T :: frs X.stack->b ∈ frs X.stack\/X.s₀.heap.get? b=none:=fun b z=>by
  rcases List.mem_cons.mp z with rfl | z
  ·exact .inr (g0 na)
  ·rcases List.mem_cons.mp z with rfl | z
   ·exact .inr (g0 nT)
   ·exact .inl z
 have out1:∀ b,b ∈ a :: T :: frs X.stack->b ∈ frs X.stack\/s1.heap.get? b=none:=fun b z=>by
  rcases List.mem_cons.mp z with rfl | z
  ·exact .inr na
  ·rcases List.mem_cons.mp z with rfl | z
   ·exact .inr nT
   ·exact .inl z
 have over:∀ h2,Pg (a :: T :: frs X.stack) (frs X.stack) s'.heap h2->Inv X pins σ H' { s' with heap:=h2 }:=fun h2 nr =>
  I0.call' (s':={ s' with heap:=h2 }) (ch:=[]) os (Mp un nr out1 fun b z=>.inl z) (JX hok nr free) bare (fun b z=>absurd z (by simp))
 rw [hstk] at fw;refine wpAny_looks_onW hf2 hfr fw fun h4 held4 up4=>?_;refine wpAny_landsW held4 fun h5 fw5 up5=>?_;have nr5:Pg (a :: T :: frs X.stack) (frs X.stack) s'.heap h5:=MK (by rw [hstk]; exact fw5.1) (up4.trans up5) fr sub;have J5:=over h5 nr5;obtain ⟨oe5,q5,c5⟩:=fw5.there;have M5:Inv { X with A:=X.A.mark (some (.ref a)),calm:=false,xe:=fun _ _=>False,pn:=X.pn } pins σ H' { s' with heap:=h5 }:=J5.re (fun z=>nomatch z) rfl (fun _ z=>z);refine wpAny_handleBy_cons (codeAny_handlers_test (FH (X:={ X with A:=X.A.mark (some (.ref a)),calm:=false,xe:=fun _ _=>False,pn:=X.pn }) M5 hg hm ?_ hdb)) (by intro q; cases q);refine QU M5.kIn hC hD hDC q5 c5 ?_;have held:∀ {h2},Heap.FlyingW (PySem.W.hideAll s'.heap (a :: T :: frs (X.env :: X.outer))) (X.env :: X.outer) a (.ref D) a0 h2->∃ o,h2.get? a=some o/\o.cls=.ref D/\PySem.W.notCls o=true:=fun fw=>by
  obtain ⟨_,_,_,oe,vs,T',oT,ts,e1,e2,e3,_⟩:=fw;exact ⟨oe,e1,e2.1,by unfold PySem.W.notCls; rw [e3]⟩
 have nL:∀ {b o},s1.heap.get? b=some o->b≠a:=fun q z=>by rw [z,na] at q; cases q
 refine go a D H' { s' with heap:=h5 } rfl hE ha (held fw5) (g0 na) ?_ ?_ ?_ hpin ?_ J5 ?_
 ·cases q:X.base.get? a with
  | none=>rfl
  | some o =>
   have:=I0.bk a o q;rw [na] at this;cases this
 ·obtain ⟨m,⟨o,_,_,q,_⟩,_⟩:=I0.loc;exact nL q
 ·intro y c q;obtain ⟨v,o,ho,_⟩:=I0.cell y c q;exact nL ho
 ·intro b hb;obtain ⟨_,o,ho,_⟩:=I0.funs.mem hb;exact nL ho
 ·intro Q' E' hk;refine lands_againW (s:={ s' with heap:=h5 }) fw5 fun h6 fw6 up6=>hk _ (over h6 (MK (by rw [hstk]; exact fw6.1) ((up4.trans up5).trans up6) fr sub)) (held fw6)
abbrev LI (X:Cx) (pins:List (Addr×Obj)) (D:Ll) (hs:List ExceptHandler):Value->Shared->Prop:=fun e s₁ =>
 wpAny (model X.prog X.w) X.A (noteFrame e X.env) (fun _ s₂=>wpAny (model X.prog X.w) X.A (setFlight e none) (fun _ s₃=>wpAny (model X.prog X.w) X.A (handleBy e X.env hs) (SP X pins D) X.xe s₃) X.xe s₂) X.xe s₁
def tTry (K:PySem.W.Frag) (C:Addr) (S:St->Prop) (tb:XK->TS) (th:TS):TS:=fun D σ H =>
 tb (fun cls _ H'=>∃ D',cls=.ref D'/\Gz K D'/\PySem.W.mroIn K D' (.ref C)=some true/\∀ σ',S σ'->th D σ' H') D σ H
theorem ps_try (hstk:X.stack=X.env :: X.outer) (hfr:X.env.frame=some X.env.locals) (hex:X.ex=[]) (hcalm:X.calm=true) (hg:Gl X x) (hm:X.mg x=some (.ref C)) (hC:Gz X.K C)
  (hb:∀ (xe:Value->Shared->Prop) (pn:List (Addr×Obj)) (E1:XK),Il (CXE X.prog X.w) { X with xe:=xe,pn:=pn } E1 S->PSs { X with xe:=xe,pn:=pn } body (tb E1))
  (hth:∀ (a:Addr),PSs { X with A:=X.A.mark (some (.ref a)),calm:=false,xe:=fun _ _=>False,pn:=X.pn } (b₀ :: suite) th) (hdb:(x == ("__debug__" : Str))=false:=by decide) :
  PS X (.Try body [.ExceptHandler (some (.Name x np)) none (b₀ :: suite) hpos] [] [] pos) (tTry X.K C S tb th):=by
 intro pins s σ H D I h;refine wpAny_Try_except ?_;have I1:Inv { X with xe:=LI X pins D [.ExceptHandler (some (.Name x np)) none (b₀ :: suite) hpos],pn:=X.pn ++ pins } [] σ H s :=
  I.re I.ok.hd rfl (fun p z=>by simpa using z)
 refine wpAny_mono (hb (LI X pins D [.ExceptHandler (some (.Name x np)) none (b₀ :: suite) hpos]) (X.pn ++ pins) _ ?pass [] s σ H D I1 h) (fun f s1 q=>?_) (fun e s1 q=>q)
 case pass =>
  intro pins' σ' H1 s1 e s' hS J hcx;refine land (pins:=pins) hstk hfr hex hg hm hC hcalm (fun cls d H' ⟨D',z,a,b,_⟩=>⟨D',z,a,b⟩) J hcx (fun a D' H' s2 _ hE ha ho _ _ _ _ _ _ J5 hset=>?_) hdb;obtain ⟨D2,z,_,_,k⟩:=hE;refine codeAny_handlers_suite (hset _ _ fun s3 J3 L3=>?_);have J6:Inv { X with A:=X.A.mark (some (.ref a)),calm:=false,xe:=fun _ _=>False,pn:=X.pn } pins σ' H' s3:=J3.re (fun z=>nomatch z) rfl (fun _ z=>z);refine wpAny_mono (hth a pins s3 σ' H' D J6 (k σ' hS)) (fun f s4 q=>?_) (fun _ _ z=>z.elim);exact q.map fun σ4 H4 (J4:Inv { X with A:=X.A.mark (some (.ref a)),calm:=false,xe:=fun _ _=>False,pn:=X.pn } pins σ4 H4 s4)=>J4.un_re J3.ok.hd rfl (fun _ z=>z)
 have back:∀ σ H,Inv { X with xe:=LI X pins D [.ExceptHandler (some (.Name x np)) none (b₀ :: suite) hpos],pn:=X.pn ++ pins } [] σ H s1->Inv X pins σ H s1 :=
  fun σ H J=>J.un_re J.ok.hd rfl (fun p z=>by simpa using z)
 cases f with
 | next=>exact wpAny_execs_nil (q.map back)
 | brk=>exact q.map back
 | cont=>exact q.map back
 | ret u=>exact q.map back
def tTryAs (K:PySem.W.Frag) (C:Addr) (i:Nat) (S:St->Prop) (tb:XK->TS) (th:TS):TS:=fun D σ H =>
 tb (fun cls _ H'=>∃ D',cls=.ref D'/\Gz K D'/\PySem.W.mroIn K D' (.ref C)=some true/\∀ σ' a,S σ'->H' a=none ->
  th { nx:=fun σ2 H2=>D.nx (σ2.set i none) H2,rt:=D.rt,bk:=fun σ2 H2=>D.bk (σ2.set i none) H2,ct:=fun σ2 H2=>D.ct (σ2.set i none) H2 } (σ'.set i (some (.ref a))) (upd H' a (IS a D'))) D σ H
theorem RK (hstk:X.stack=X.env :: X.outer) (hfr:X.env.frame=some X.env.locals) (hex:X.ex=[]) (hcalm:X.calm=true) (hg:Gl X x) (hm:X.mg x=some (.ref C)) (hC:Gz X.K C) (hN:X.N.Nodup) (hi:X.N[i]?=some n) (hl:X.env.scope.names.lookup n=some .local)
  (hb:∀ (xe:Value->Shared->Prop) (pn:List (Addr×Obj)) (E1:XK),Il (CXE X.prog X.w) { X with xe:=xe,pn:=pn } E1 S->PSs { X with xe:=xe,pn:=pn } body (tb E1))
  (hth:∀ (a:Addr),PSs { X with A:=X.A.mark (some (.ref a)),calm:=false,xe:=fun _ _=>False,pn:=X.pn } (b₀ :: suite) th) (hdb:(x == ("__debug__" : Str))=false:=by decide) :
  PS X (.Try body [.ExceptHandler (some (.Name x np)) (some n) (b₀ :: suite) hpos] [] [] pos) (tTryAs X.K C i S tb th):=by
 intro pins s σ H D I h;refine wpAny_Try_except ?_;have I1:Inv { X with xe:=LI X pins D [.ExceptHandler (some (.Name x np)) (some n) (b₀ :: suite) hpos],pn:=X.pn ++ pins } [] σ H s :=
  I.re I.ok.hd rfl (fun p z=>by simpa using z)
 refine wpAny_mono (hb (LI X pins D [.ExceptHandler (some (.Name x np)) (some n) (b₀ :: suite) hpos]) (X.pn ++ pins) _ ?pass [] s σ H D I1 h) (fun f s1 q=>?_) (fun e s1 q=>q)
 case pass =>
  intro pins' σ' H1 s1 e s' hS J hcx;refine land (pins:=pins) hstk hfr hex hg hm hC hcalm (fun cls d H' ⟨D',z,a,b,_⟩=>⟨D',z,a,b⟩) J hcx (fun a D' H' s2 _ hE ha ho g0 gb nL nC nP nF J5 hset=>?_) hdb;obtain ⟨D2,z,_,_,k⟩:=hE;cases z;refine codeAny_handlers_suite_as (hset _ _ fun s3 J3 L3=>?_);obtain ⟨o3,e3,c3,n3⟩:=L3;have J4:=J3.track (o:=IS a D') ha g0 gb nL nC nP nF (SO e3 c3 n3);refine Jz J4 hN hi (.inl hl) (v:=.ref a) rfl (fun s4 K4=>?_) (.inr hl);have J6:Inv { X with A:=X.A.mark (some (.ref a)),calm:=false,xe:=fun _ _=>False,pn:=X.pn } pins (σ'.set i (some (.ref a))) (upd H' a (IS a D')) s4:=K4.re (fun z=>nomatch z) rfl (fun _ z=>z);refine wpAny_mono (hth a pins s4 _ _ _ J6 (k σ' a hS ha)) (fun f s5 q=>?_) (fun _ _ z=>z.elim);have gone:∀ {σ5:St} {H5:Hp},Inv { X with A:=X.A.mark (some (.ref a)),calm:=false,xe:=fun _ _=>False,pn:=X.pn } pins σ5 H5 s5->∀ {Q:Unit->Shared->Prop},(∀ s6,Inv X pins (σ5.set i none) H5 s6->Q () s6) ->
    wpAny (model X.prog X.w) X.A (do bindName X.env n .none; unbindBehindTheSuite X.env n hpos) Q X.xe s5:=fun {σ5 H5} J7 Q hq=>by
   have J8:Inv X pins σ5 H5 s5:=J7.un_re J3.ok.hd rfl (fun _ z=>z);obtain ⟨m,hn,hl0⟩:=id J8.loc;exact wpAny_nameGoes_keeps hl hn (by rw [J8.ok.kind]; rfl) fun h' v hn' sb=>hq _ (J8.gone hN hi hl hl0 hn' sb)
  cases f with
  | next=>obtain ⟨σ5,H5,J7,q⟩:=q; exact gone J7 fun s6 J8=>⟨_,H5,J8,q⟩
  | brk=>obtain ⟨σ5,H5,J7,q⟩:=q; exact gone J7 fun s6 J8=>⟨_,H5,J8,q⟩
  | cont=>obtain ⟨σ5,H5,J7,q⟩:=q; exact gone J7 fun s6 J8=>⟨_,H5,J8,q⟩
  | ret u=>obtain ⟨v,σ5,H5,J7,r,q⟩:=q; exact gone J7 fun s6 J8=>⟨v,_,H5,J8,r,q⟩
 have back:∀ σ H,Inv { X with xe:=LI X pins D [.ExceptHandler (some (.Name x np)) (some n) (b₀ :: suite) hpos],pn:=X.pn ++ pins } [] σ H s1->Inv X pins σ H s1 :=
  fun σ H J=>J.un_re J.ok.hd rfl (fun p z=>by simpa using z)
 cases f with
 | next=>exact wpAny_execs_nil (q.map back)
 | brk=>exact q.map back
 | cont=>exact q.map back
 | ret u=>exact q.map back
end
structure Os (k:Nat) (A:Around):Prop where
 dp:A.depth+3 * k+5 < recursionLimit
 un:A.units+16 * k+200 < cLine
theorem CF.marked {k:Nat} {A:Around} (r:CF k A) (e:Option Value):Os k (A.mark e):=⟨r.dp,r.un⟩
structure Qe (P:Program) (w:World) (K:PySem.W.Frag) (mg:Str->Option Value) (base:Heap) (k:Nat) (f:Addr) (fd:FuncData) (ps:List Str) (sp:Sp):Prop where
 len:∀ vs H Q E,sp vs H Q E->vs.length=ps.length
 run:∀ (A:Around) (outer:List Env) (s:Shared) (H:Hp) (args:Args) (us:List Value) (vs:List V) (Q:VK),Os k A->Ou P w K mg base A outer s H->BindsTo s fd args (ps.zip us)->AJ vs us->sp vs H Q E0 ->
  codeAny (model P w) A (.call (.ref f) args) (CR CX0 outer P w H s Q E0) s
section
variable {P:Program} {w:World} {K:PySem.W.Frag} {mg:Str->Option Value} {base:Heap}
theorem Fun.okH {x qual:Str} {st:Stmt} {f:Addr} {fd:FuncData} {N ps:List Str} {k:Nat} {sp:Sp} (F:Fun K x qual st f fd) (S:Ar N ps (Ae st)) (len:∀ vs H Q E,sp vs H Q E->vs.length=ps.length)
  (hbody:∀ (cdv:Value) (A:Around) (outer:List Env) (s:Shared) (H:Hp) (vs:List V) (Q:VK),Os k (A.deeper (envOfC qual (Ae st) s.heap.objs.size f cdv))->sp vs H Q E0 ->
   ∃ t,PSs { EV CX0 P w K mg base N qual (Ae st) f cdv A outer s H E0 with calm:=false,xe:=fun _ _=>False } (An st) t/\t { nx:=fun _ H'=>Q .non H',rt:=Q } (Fb N vs) H):Qe P w K mg base (k+1) f fd ps sp:=by
 obtain ⟨oc,od,kV,doc,pm,an,cdv,ct,osl,rfl,lk,hcd⟩:=F.ex;refine ⟨len,fun A outer s H args us vs Q hr e0 hb r hsp=>?_⟩;have hl:=len _ _ _ _ hsp;have KX:K.In s.heap:=e0.mod.kin.keeps fun b o e=>(e0.bs b o e).1;have lim:s.heap.NoLimit:=e0.mod.nolimit.keeps fun b o e=>(e0.bs b o e).1;refine codeAny_call_function (by have:=hr.dp; lia) (KX _ _ lk) rfl S.co S.gen rfl (PySem.W.codeRec_of KX hcd) (hb _ _ _ _ ?_);refine wpAny_newFunctionEnv_cells S.kind (fun ⟨y,v⟩ hy=>?_) fun env he s1 z=>?_
 ·rcases S.par y (List.of_mem_zip hy).1 with q | q
  ·exact .inl q
  ·exact .inr ⟨q,PySem.W.cellsFrom_some _ _ _ (.inl q)⟩
 subst he;refine ⟨lim.keeps z.toInCall.keep,codeAny_func ?_⟩;obtain ⟨t,ht,hq⟩:=hbody cdv A outer s H vs Q ⟨by have:=hr.dp; show A.depth+1+3 * k+5 < _; lia,by have:=hr.un; show A.units+3+16 * k+200 < _; lia⟩ hsp;have I:Inv (EV CX0 P w K mg base N qual (Ae st) f cdv { A with handled:=none } outer s H E0) [] (Fb N vs) H s1:=LU S rfl ⟨e0.frames,e0.mod,e0.bs,e0.bsz,e0.funs,e0.frf,e0.hok,e0.bare⟩ hl r z;have J:Inv { EV CX0 P w K mg base N qual (Ae st) f cdv A outer s H E0 with calm:=false,xe:=fun _ _=>False } [] (Fb N vs) H s1:=I.re (A2:=A.deeper (envOfC qual (Ae st) s.heap.objs.size f cdv)) (c2:=false) (fun z=>nomatch z) rfl (fun _ z=>z);refine wpAny_mono (ht [] s1 (Fb N vs) H _ J hq) (fun fl s' hs=>?_) fun _ _ z=>z.elim;cases fl with
 | ret u =>
  obtain ⟨v,σ',H',J,rv,q⟩:=hs;exact ⟨v,H',J.os,J.bare,J.base,J.hok,rv,q⟩
 | next =>
  obtain ⟨σ',H',J,q⟩:=hs;exact ⟨.non,H',J.os,J.bare,J.base,J.hok,rfl,q⟩
 | brk=>obtain ⟨_,_,_,q⟩:=hs; exact q.elim
 | cont=>obtain ⟨_,_,_,q⟩:=hs; exact q.elim
end
section
variable {X:Cx} {k:Nat} {f:Addr} {fd:FuncData} {ps:List Str} {sp:Sp} {x:Str} {p pos:Pos} {e:Expr} {es:List Expr} {t:TA}
theorem Sc (F:Qe X.prog X.w X.K X.mg X.base k f fd ps sp) (hr:Os k X.A) (hg:Gl X x) (hm:X.mg x=some (.ref f)) (hk:PySem.W.keepIn X.K (.ref f)=true) (hb:DN X.K fd ps [])
  (ha:PA X (e :: es) t) (hdb:(x == ("__debug__" : Str))=false:=by decide) (he:starEach (e :: es) X.env=(false,eval e X.env) :: starEach es X.env:=by rfl) (hpl:(backTo pos (starEach es X.env)).any (·.1)=false:=by rfl) :
  PE X (.Call (.Name x p) (e :: es) [] pos) (Pq sp [] E0 t):=by
 intro pins s σ H Q I h;refine wpAny_Call_Name_kw (FH I hg hm ?_ hdb);refine PySem.W.callWith_K (h₀:=X.base) I.ok.mod.kin hk ?_ he hpl;refine thn (ha pos pins s σ H _ I h) fun us s1 ⟨vs,H1,I1,r,q⟩=>⟨I1.kIn,?_⟩
 have q:sp (vs ++ []) H1 Q E0:=q;rw [List.append_nil] at q;have hl:us.length=ps.length:=r.length.symm.trans (F.len _ _ _ _ q);have hb1:=hb s1 us I1.kIn (by rw [List.append_nil]; exact hl);rw [List.append_nil] at hb1;refine wpAny_call (codeAny_mono (F.run X.A X.stack s1 H1 ⟨us,[]⟩ us vs Q hr I1.env0 hb1 r q) ?_);intro r s' hq;rcases r with e | (_ | _ | _ | _)
 all_goals first
  | exact I1.after hq
  | exact hq.elim
end
end L2
namespace L2
open PySem PySem.Spec PyProof.Rows
section
variable {X:Cx} {tg:Expr}
def Its (x:Str):It:=⟨fun i _=>i < x.cps.size,fun i H v H'=>H'=H/\∃ c,x.cps[i]?=some c/\v=.str ⟨#[c]⟩,fun i _=>i=x.cps.size⟩
theorem Np {P:Program} {w:World} {K:PySem.W.Frag} (it:Addr) (x:Str) (t:Tok) (T:String) (hn:["enumerate","zip","dict_itemiterator","dict_reverseitemiterator","odict_iterator","itertools.zip_longest","itertools.pairwise"].contains T=false)
  (W:∀ A:Around,A.handled=none->Walks P w A it [it] [it] x.cps.size (SignAt x) (fun i h=>h.IsStrIter it T x t i))
  (hself:∀ (A:Around) (i:Nat) (s:Shared) (Q:Value->Shared->Prop) (E:Value->Shared->Prop),s.heap.IsStrIter it T x t i->Q (.ref it) s->wpAny (model P w) A (pyIter (.ref it)) Q E s):Oq P w K tg (Its x) [it] it (fun i h=>h.IsStrIter it T x t i) where
 mem:=by simp
 obj:=fun i h st b hb=>by
  have e:b=it:=by simpa using hb
  subst e;obtain ⟨o,e,c,d⟩:=st;exact ⟨o,e,fun v z=>by rw [d] at z; cases z⟩
 keep:=fun i h h' ⟨o,e,r⟩ k=>⟨o,k it (by simp) o e,r⟩
 item:=by
  intro X hP hw hK hc i pins s σ H E I hf st hg;subst hP hw hK;obtain ⟨f0,f1,f2,f3,f4,f5⟩:=hf it (by simp);refine (W X.A (I.ok.hd hc)).item i s _ _ hg st fun v h' tk hv st' kk=>?_;obtain ⟨c,u,hc',rfl⟩:=hv;have I1:Inv X pins σ H { s with heap:=h',toks:=tk }:=I.turned (fun b o hb e=>kk b o (by simpa using hb) e) f0 f1 f3 f4 f5;obtain ⟨o,e,oc,od⟩:=id st';exact ⟨_,rfl,PJ (s:={ s with heap:=h',toks:=tk }) e oc od hn ⟨.str ⟨#[c]⟩,H,I1,⟨u,rfl⟩,⟨rfl,c,hc',rfl⟩,st',fun b hb=>(hf b hb).1⟩⟩
 done:=by
  intro X hP hw hK hc i pins s σ H E I hf st hg;subst hP hw hK;obtain ⟨f0,f1,f2,f3,f4,f5⟩:=hf it (by simp);have z:i=x.cps.size:=hg;subst z;exact (W X.A (I.ok.hd hc)).done s _ _ st fun h' tk kk=>⟨rfl,I.turned (fun b o hb e=>kk b o (by simpa using hb) e) f0 f1 f3 f4 f5⟩
 self:=hself
def iStr (tl:TE):TI:=fun σ H R=>tl σ H fun v H1=>∃ x,v=.str x/\R (Its x) H1
theorem RO {l:Expr} {tl:TE} (hl:PE X l tl):PI X tg l (iStr tl):=by
 intro pins s σ H R I h;refine thn (hl pins s σ H _ I h) fun v s1 ⟨y,H1,I1,r1,q1⟩=>?_;obtain ⟨x,rfl,q⟩:=q1;obtain ⟨t,rfl⟩:=r1;have fp:∀ b,b ∈ [s1.heap.objs.size]->Gn X pins H1 b:=fun b hb=>by
  have e:b=s1.heap.objs.size:=by simpa using hb
  subst e;exact I1.fpOk (Nat.le_refl _) (I1.hok.fresh (Nat.le_refl _))
 cases ha:x.cps.all (· < 128) with
 | true =>
  refine wpAny_pyIter_ascii ha ?_;refine ⟨s1.heap.objs.size,[s1.heap.objs.size],_,_,H1,rfl,I1.kept (t':=s1.toks) fun b o e=>Heap.get?_push_of_some _ e,Np _ x t "str_ascii_iterator" (by decide) (fun A hA=>Walks.strAscii hA _ x t) (fun _ _ _ _ _ st h=>wpAny_pyIter_striter_ascii st h),⟨_,Heap.get?_push_size _ rfl,rfl,rfl⟩,fp,q⟩
 | false =>
  refine wpAny_pyIter_wide ha ?_;refine ⟨s1.heap.objs.size,[s1.heap.objs.size],_,_,H1,rfl,I1.kept (t':=s1.toks) fun b o e=>Heap.get?_push_of_some _ e,Np _ x t "str_iterator" (by decide) (fun A hA=>Walks.strWide hA _ x t) (fun _ _ _ _ _ st h=>wpAny_pyIter_striter_wide st h),⟨_,Heap.get?_push_size _ rfl,rfl,rfl⟩,fp,q⟩
theorem for_str {x:Str} {g:TG} {tb:TS} {D:Ll} {σ:St} {H:Hp} (Pv:Nat->St->Hp->Prop) (h0:Pv 0 σ H)
  (hs:∀ i c σ H,x.cps[i]?=some c->Pv i σ H->g (.str ⟨#[c]⟩) σ H fun σ2 H2=>tb { D with nx:=Pv (i+1),ct:=Pv (i+1),bk:=D.nx } σ2 H2) (hd:∀ σ H,Pv x.cps.size σ H->D.nx σ H) :
  ∃ W:Nat->Nat->St->Hp->Prop,(∃ m,W 0 m σ H)/\∀ i m σ H,W i m σ H ->
   ((Its x).stop i H/\D.nx σ H)\/((Its x).go i H/\∃ N:St->Hp->Prop,(∀ σ' H',N σ' H'->∃ m',m' < m/\W (i+1) m' σ' H')/\∀ v H',(Its x).yld i H v H'->g v σ H' fun σ2 H2=>tb { D with nx:=N,ct:=N,bk:=D.nx } σ2 H2):=by
 refine ⟨fun i m σ H=>m=x.cps.size - i/\i<=x.cps.size/\Pv i σ H,⟨x.cps.size,by simp,Nat.zero_le _,h0⟩,?_⟩;rintro i m σ H ⟨rfl,hi,p⟩;by_cases hlt:i < x.cps.size
 ·refine .inr ⟨hlt,Pv (i+1),fun σ' H' p'=>⟨x.cps.size - (i+1),by lia,rfl,hlt,p'⟩,fun v H' y=>?_⟩;obtain ⟨e,c,hc,rfl⟩:=y;subst e;exact hs i c σ _ hc p
 ·have e:i=x.cps.size:=by lia
  subst e;exact .inl ⟨rfl,hd σ H p⟩
def rSlS:V->Option Int->Option Int->Hp->VK->Prop:=fun x lo hi H Q=>∃ z,x=.str z/\z.length<=sizeLine/\Q (.str (Txt.slice z lo hi)) H
theorem sl_str:SlR X rSlS:=by
 intro pins s σ H x v vl vu lo hi sl Q I rx hs pl pu h;obtain ⟨z,rfl,hz,q⟩:=h;obtain ⟨t,rfl⟩:=rx;refine ⟨"str",_,F.slot_str_getitem.lookup,typeIs_str _ _ _,?_⟩;obtain ⟨o,ho,hc,hd⟩:=hs;have fin:∀ t' k,EP X pins σ Q (.str (Txt.slice z lo hi) t') { s with toks:=k }:=fun t' k=>⟨.str _,H,I.tok k,⟨t',rfl⟩,q⟩
 have le:=Nat.le_trans (Txt.slice_le z lo hi) hz;cases pl with
 | none =>
  cases pu with
  | none=>exact wpAny_getItem_str_slice (l:=none) (u:=none) (st:=none) ⟨o,ho,hc,hd⟩ rfl (post_val_or_str ⟨le,fin⟩)
  | int j uj=>exact wpAny_getItem_str_slice (l:=none) (u:=some (j,uj)) (st:=none) ⟨o,ho,hc,hd⟩ rfl (post_val_or_str ⟨le,fin⟩)
 | int i ui =>
  cases pu with
  | none=>exact wpAny_getItem_str_slice (l:=some (i,ui)) (u:=none) (st:=none) ⟨o,ho,hc,hd⟩ rfl (post_val_or_str ⟨le,fin⟩)
  | int j uj=>exact wpAny_getItem_str_slice (l:=some (i,ui)) (u:=some (j,uj)) (st:=none) ⟨o,ho,hc,hd⟩ rfl (post_val_or_str ⟨le,fin⟩)
theorem LB:MtR X "str.startswith" (fun x xs H Q=>∃ a b,x=.str a/\xs=[.str b]/\Q (.bl (Txt.startswith a b)) H):=by
 intro pins s σ H x xs v us Q I rx r h;obtain ⟨a,b,rfl,rfl,q⟩:=h;obtain ⟨t,rfl⟩:=rx;cases r with
 | cons r1 r2 =>
  cases r2;obtain ⟨u,rfl⟩:=r1;exact SC.startswith ⟨.bl _,H,I,rfl,q⟩
theorem GI:EQ X (.type "int") (fun xs H Q=>∃ x n,xs=[.str x]/\PySem.intText? x=some n/\x.length<=640/\Q (.int n) H):=by
 intro pins s σ H xs us Q I r h;obtain ⟨x,n,rfl,hn,hl,q⟩:=h;cases r with
 | cons r1 r2 =>
  cases r2;obtain ⟨t,rfl⟩:=r1;exact PySem.W.KIN.call_text hn hl ⟨.int n,H,I.tok _,⟨_,rfl⟩,q⟩
theorem Tg (hc:X.calm=true):EQ X (.builtin "all") (fun xs H Q=>∃ (p:Addr) (bs:List Bool),xs=[.ref p]/\SqL X.K H p (bs.map V.bl)/\Q (.bl (bs.all id)) H):=by
 intro pins s σ H xs us Q I r h;obtain ⟨p,bs,rfl,hq,q⟩:=h;cases r with
 | cons r1 r2 =>
  cases r2;cases (show _=Value.ref p from r1);obtain ⟨its,rv,pl,hz⟩:=I.list hq;have hne:p≠s.heap.objs.size:=Nat.ne_of_lt (by obtain ⟨o,n,e,_⟩:=pl; exact Heap.lt_size e);refine call_all_walk (wpAny_pyIter_list pl.isList ?_);have vals:∀ (i:Nat) v,its[i]?=some v->∃ b,bs[i]?=some b/\v=.bool b:=fun i v e=>by
   cases eb:bs[i]? with
   | none =>
    have:its[i]?=none:=rv.none_of (by rw [List.getElem?_map,eb]; rfl);rw [e] at this;cases this
   | some b =>
    obtain ⟨u,hu,ru⟩:=rv.get (i:=i) (x:=V.bl b) (by rw [List.getElem?_map,eb]; rfl);rw [e] at hu;cases hu;exact ⟨b,rfl,ru⟩
  refine ⟨s.heap.objs.size,_,_,_,_,_,fun i=>bs.getD i true,rfl,Walks.list (A:=X.A.in1) (I.ok.hd hc) s.heap.objs.size p hne its.toArray,⟨⟨_,Heap.get?_push_size _ rfl,rfl,rfl⟩,?_⟩,?_,?_⟩
  ·exact pl.isList.at fun o e=>Heap.get?_push_of_some _ e
  ·intro i v s2 Q2 E2 hP hQ;obtain ⟨b,eb,rfl⟩:=vals i v (by simpa using hP);have e2:bs.getD i true=b:=by rw [List.getD_eq_getElem?_getD,eb]; rfl
   have hQ:Q2 (bs.getD i true) s2:=hQ;rw [e2] at hQ;exact wpAny_truthy_bool hQ
  ·intro h' tk kk;have I2:Inv X pins σ H { s with heap:=h',toks:=tk }:=I.kept fun b o e=>kk b o (by intro z; exact Nat.ne_of_lt (Heap.lt_size e) (by simpa using z)) (Heap.get?_push_of_some _ e);have len:its.toArray.size=bs.length:=by rw [List.size_toArray,<-rv.length,List.length_map]
   have e3:(List.range its.toArray.size).all (fun i=>bs.getD i true)=bs.all id:=by
    rw [len,Bool.eq_iff_iff,List.all_eq_true,List.all_eq_true];constructor
    ·intro z b hb;obtain ⟨i,hi,e⟩:=List.mem_iff_getElem.mp hb;have:=z i (List.mem_range.mpr hi);rw [List.getD_eq_getElem?_getD,List.getElem?_eq_getElem hi,e] at this;exact this
    ·intro z i hi;have hi':=List.mem_range.mp hi;rw [List.getD_eq_getElem?_getD,List.getElem?_eq_getElem hi'];exact z _ (List.getElem_mem hi')
   rw [e3];exact ⟨.bl _,H,I2,rfl,q⟩
end
end L2
namespace L2
open PySem PySem.Spec PyProof.Rows
section
variable {X:Cx} {iter:Expr} {ti:TE} {x G:Str} {px px1 px2 cpos pos:Pos} {scope:Scope} {g:Str}
end
structure Pi (K:PySem.W.Frag) (D:Addr):Prop where
 hd:PySem.W.hasDictIn K D=true
 ga:PySem.W.findIn K (.ref D) "__getattribute__" = some (some (.builtin "BaseException.__getattribute__"))
 gt:PySem.W.findIn K (.ref D) "__getattr__" = some none
 cl:PySem.W.findIn K (.ref D) "__class__" = some (some (.builtin "object.__class__"))
 sp:PySem.W.specialIn K (.builtin "object.__class__") "__get__" = some (some (.builtin "getset_descriptor.__get__"))
 tk:PySem.W.takesIn K (.builtin "object.__class__")=some true
 mo:PySem.W.mroIn K D (.type "object")=some true
 mb:PySem.W.mroIn K D (.type "BaseException")=some true
section
variable {K:PySem.W.Frag} {prog:Program} {w:World} {A:Around} {E:Value->Shared->Prop} {s:Shared} {a D:Addr} {o:Obj}
open PySem.W Builtin Builtin.ObjectAttr Builtin.Getset_descriptor
theorem SX {M:Model} {h:Heap} (X:K.In h) (f:Pi K D):Looks M h (find (.ref a) (.ref D) "__class__") (.bind (.builtin "getset_descriptor.__get__") (.builtin "object.__class__")) :=
 (looks_findIn X f.cl).andThen ((looks_specialIn X f.sp).andThen ((show Looks M h (dataDescriptor? (some (.builtin "object.__class__")) (some (.builtin "getset_descriptor.__get__"))) (some (.builtin "getset_descriptor.__get__",.builtin "object.__class__")) from (looks_takesIn X f.tk).andThen .now).andThen (Looks.tag .now)))
theorem exc_get {R:Result->Shared->Prop} {tp:Value} (X:K.In s.heap) (f:Pi K D) (he:s.heap.get? a=some o) (hc:o.cls=.ref D) (hq:R (.ok (.ret (.ref D))) s) :
  codeAny (model prog w) A (.call (.builtin "getset_descriptor.__get__") ⟨[.builtin "object.__class__",.ref a,tp],[]⟩) R s:=by
 obtain ⟨h,g,d,t,os⟩:=s;have L0:Looks (model prog w) h (typeOf (.ref a)) (.ref D):=hc ▸ (Looks.ld he).andThen .now;have L1:=looks_mroIn (M:=model prog w) X f.mo;refine codeAny_call_builtin KF.slot_gs.plain KF.entry_gs (KF.slot_gs.check _ _ _ _ _ _ _ _ KF.type_class (KF.args_gs _ _ _) ?_);unfold Builtin.«getset_descriptor.__get__» descrGet;rw [dga_obj];refine wpAny_bind (wpAny_pure ?_);unfold descrGetter descrCheckInstance descrNameAndClass isInstance;simp only [KF.owner_class]
 repeat lk
 refine ⟨Code.quiet_builtin _ (by decide +kernel),codeAny_builtin KF.entry_class ?_⟩;unfold Builtin.«object.__class__» shownTypeOf
 repeat lk
 exact hq
theorem QV {Q:Option Value->Shared->Prop} (X:K.In s.heap) (f:Pi K D) (he:s.heap.get? a=some o) (hc:o.cls=.ref D) (hq:Q (some (.ref D)) { s with toks:=s.toks+1 }) :
  wpAny (model prog w) A (getAttr? (.ref a) "__class__") Q E s:=by
 obtain ⟨h,g,d,t,os⟩:=s;have L0:Looks (model prog w) h (typeOf (.ref a)) (.ref D):=hc ▸ (Looks.ld he).andThen .now;have L1:=looks_findIn (M:=model prog w) X f.ga;have L2:=looks_findIn (M:=model prog w) X f.gt;have L3:=SX (M:=model prog w) (a:=a) X f;have L4:Looks (model prog w) h (isInstance (.ref a) (.type "BaseException")) true:=L0.andThen (looks_mroIn X f.mb);unfold getAttr? getAttrBy? getAttrBy;refine wpAny_bind (wpAny_mkText (wpAny_bind (wpAny_attempt (wpAny_holding (wpAny_bind (L0.at (wpAny_bind (L1.at ?_))))))));dsimp only;have n0:(Value.builtin "BaseException.__getattribute__" == Value.builtin "object.__getattribute__")=false:=by decide +kernel
 rw [if_neg (by rw [n0,Bool.and_false]; exact Bool.false_ne_true)];unfold getAttrByItsOwn hookBefore;rw [if_pos (by rfl)];refine wpAny_bind (L2.at ?_);refine wpAny_bind (wpAny_attempt (wpAny_holding ?_));unfold callGetattribute;rw [if_neg (by decide)];unfold boundAndCalled;refine wpAny_bind (wpAny_of_eq (PySem.F.excAttr_ValueError.ga.bind (.ref a)) ?_);dsimp only;refine wpAny_call (codeAny_call_builtin PySem.F.excAttr_ValueError.ga.plain PySem.F.entry_bexc_ga ?_);have hk:builtinKind "BaseException.__getattribute__" = some .slot:=by decide +kernel
 have hsp:splitId "BaseException.__getattribute__" = some ("BaseException","__getattribute__"):=by decide +kernel
 have har:=PySem.F.args_bexc_ga (.ref a) (.str "__class__" t);simp only [checkBuiltinCall,hk,hsp];refine wpAny_bind (L4.at ?_);rw [if_neg (by decide)];refine wpAny_of_eq (a:=()) har ?_;unfold Builtin.«object.__getattribute__»;dsimp only at L3
 repeat ((fail_if_success (with_reducible show wpAny _ _ (call _ _) _ _ _)); lk)
 refine wpAny_call (exc_get (s:=⟨h,g,d,t+1,os⟩) X f he hc ?_);dsimp only
 repeat lk
 exact hq
end
end L2
namespace L2
open PySem PySem.Spec PyProof.Rows
inductive TyX (K:PySem.W.Frag) (H:Hp):V->Value->Prop where
 | of {x:V} {t:Value} (h:IL K H x t):TyX K H x t
 | exc {a D:Addr} (e:H a=some (IS a D)) (f:Pi K D):TyX K H (.ref a) (.ref D)
theorem SL {K:PySem.W.Frag} {a D:Addr} (f:Pi K D):PySem.W.KitX K (.ref a) (.ref D) (fun h=>∃ o,h.get? a=some o/\o.cls=.ref D/\PySem.W.notCls o=true) where
 ty:=fun M h X ⟨o,e,c,_⟩=>c ▸ (PySem.W.Looks.ld e).andThen .now
 it:=fun M h X _=>by
  obtain ⟨cd,hc,_⟩:=PySem.W.any_some f.hd;unfold PySem.W.clsIn at hc;split at hc
  ·rename_i c' d' cd' sl' ho;intro A' Q' E' s' k q;unfold isType loadHead;exact wpAny_bind (wpAny_loadPart (k _ _ (X _ _ ho)) (wpAny_pure q))
  ·cases hc
 ne:=fun h tp dd its n sl X htp=>by
  obtain ⟨cd,hc,_⟩:=PySem.W.any_some f.hd;refine Bool.eq_false_iff.mpr fun q=>?_;have e:D=tp:=Value.ref.inj (beq_iff_eq.mp q);subst e;unfold PySem.W.clsIn at hc;split at hc
  ·rename_i c' d' cd' sl' ho;have z:=(X _ _ ho).symm.trans htp;cases z
  ·cases hc
 ca:=fun X ⟨o,e,c,_⟩ k=>QV X f e c k
def clsV:V->Option Value
 | .ty n=>some (.type n)
 | .ref C=>some (.ref C)
 | _=>none
theorem AU {X:Cx}:EQ X (.builtin "isinstance") (fun xs H Q=>∃ x c cv t b,xs=[x,c]/\clsV c=some cv/\TyX X.K H x t/\PySem.W.kitOne X.K t cv=some b/\Q (.bl b) H):=by
 intro pins s σ H xs us Q I r h;obtain ⟨x,c,cv,t,b,rfl,hc,ty,hk,q⟩:=h;cases r with
 | @cons _ u _ _ rx rr =>
  cases rr with
  | @cons _ v _ _ rc rn =>
   cases rn;have ev:v=cv:=by
    cases c with
    | ty n=>cases hc; exact rc
    | ref C=>cases hc; exact rc
    | _=>cases hc
   subst ev;cases ty with
   | of ty=>exact QP I rx ty hk fun tk=>⟨.bl b,H,I.tok tk,rfl,q⟩
   | @exc a D e f =>
    cases (show u=Value.ref a from rx);obtain ⟨p,_,_⟩:=(show Bd X.prog X.w H s.heap a (IS a D) from I.hok a _ e)
    exact PySem.W.kia_one (SL f) I.kIn p hk (fun z=>nomatch z) fun tk=>⟨.bl b,H,I.tok tk,rfl,q⟩
section
variable {X:Cx} {c:Expr} {a b:List Stmt} {tc:TT} {t u:TS} {pos:Pos}
end
end L2
namespace L2
open PySem PySem.Spec PyProof.Rows
def EW (env:Env) (a:List (Str×Addr)) (x:Str×NameKind):List (Str×Addr):=if (x.2 == NameKind.free)=true then (x.1,(env.cells.lookup x.1).getD 0) :: a else a
def Pc (env:Env) (l:List (Str×NameKind)):List (Str×Addr):=l.foldl (EW env) []
theorem OY {α β:Type} {l:List α} {f:α->β->Sem (ForInStep β)} {g:β->α->β} (h:∀ x ∈ l,∀ b,f x b=pure (.yield (g b x))):∀ b,forIn l b f=pure (l.foldl g b):=by
 induction l with
 | nil=>intro b; rfl
 | cons x l ih =>
  intro b;rw [List.forIn_cons,h x List.mem_cons_self,pure_bind];exact ih (fun y hy=>h y (List.mem_cons_of_mem _ hy)) _
theorem Le {scope:Scope} {env:Env} (h:∀ y ∈ scope.names,y.2=.free->∃ c,env.cells.lookup y.1=some c):closureFor scope env=pure (Pc env scope.names):=by
 simp only [closureFor];rw [OY (g:=EW env) (fun x hx c=>by
  obtain ⟨n,k⟩:=x;by_cases hk:k=.free
  ·subst hk;obtain ⟨a,ha⟩:=h _ hx rfl;have e:cellOf env n=pure a:=by unfold cellOf; rw [show env.cells.lookup n=some a from ha]
   simp only [EW,beq_self_eq_true,if_true,e,show env.cells.lookup n=some a from ha,Option.getD_some];rfl
  ·have hb:(k == NameKind.free)=false:=by simpa using hk
   simp only [EW,hb,Bool.false_eq_true,if_false])]
 rfl
theorem Md (env:Env) {y:Str} {c:Addr}:∀ (l:List (Str×NameKind)) (a:List (Str×Addr)),(l.foldl (EW env) a).lookup y=some c->a.lookup y=some c\/((y,NameKind.free) ∈ l/\c=(env.cells.lookup y).getD 0)
 | [],a,h=>.inl h
 | (n,k) :: r,a,h=>by
  rw [List.foldl_cons] at h;rcases Md env r _ h with z | ⟨z,e⟩
  ·unfold EW at z;split at z
   ·rename_i hk;have hk':k=.free:=by simpa using hk
    rw [List.lookup_cons] at z;split at z
    ·rename_i hy;have hy':y=n:=by simpa using hy
     subst hy' hk';exact .inr ⟨List.mem_cons_self,(Option.some.inj z).symm⟩
    ·exact .inl z
   ·exact .inl z
  ·exact .inr ⟨List.mem_cons_of_mem _ z,e⟩
theorem Oh (env:Env) {y:Str}:∀ (l:List (Str×NameKind)) (a:List (Str×Addr)),(∃ c,a.lookup y=some c)->∃ c,(l.foldl (EW env) a).lookup y=some c
 | [],_,h=>h
 | (n,k) :: r,a,h=>by
  rw [List.foldl_cons];refine Oh env r _ ?_;unfold EW;split
  ·rw [List.lookup_cons];split
   ·exact ⟨_,rfl⟩
   ·exact h
  ·exact h
theorem Pb (env:Env) {y:Str}:∀ (l:List (Str×NameKind)) (a:List (Str×Addr)),(y,NameKind.free) ∈ l->∃ c,(l.foldl (EW env) a).lookup y=some c
 | [],_,h=>by simp at h
 | (n,k) :: r,a,h=>by
  rw [List.foldl_cons];rcases List.mem_cons.mp h with e | h
  ·cases e;refine Oh env r _ ⟨(env.cells.lookup y).getD 0,?_⟩;unfold EW;simp only [beq_self_eq_true,if_true,List.lookup_cons]
  ·exact Pb env r _ h
theorem JF {env:Env} {y:Str}:∀ {names:List (Str×NameKind)},(∀ z ∈ names,z.2≠.cell) ->
  ((names.map fun (n,k)=>if (k == NameKind.free && env.scope.kind == .function && env.kindOf n == some .cell) then (n,NameKind.cell) else (n,k)).lookup y=some .cell \/
   (names.map fun (n,k)=>if (k == NameKind.free && env.scope.kind == .function && env.kindOf n == some .cell) then (n,NameKind.cell) else (n,k)).lookup y=some .free)->(y,NameKind.free) ∈ names
 | [],_,h=>by simp at h
 | (n,k) :: r,hc,h=>by
  have ih:=@JF env y r (fun z hz=>hc z (List.mem_cons_of_mem _ hz));have h':List.lookup y ((if (k == NameKind.free && env.scope.kind == .function && env.kindOf n == some .cell)=true then (n,NameKind.cell) else (n,k)) :: (r.map fun (n,k)=>if (k == NameKind.free && env.scope.kind == .function && env.kindOf n == some .cell) then (n,NameKind.cell) else (n,k)))=some .cell \/
   List.lookup y ((if (k == NameKind.free && env.scope.kind == .function && env.kindOf n == some .cell)=true then (n,NameKind.cell) else (n,k)) :: (r.map fun (n,k)=>if (k == NameKind.free && env.scope.kind == .function && env.kindOf n == some .cell) then (n,NameKind.cell) else (n,k)))=some .free:=h
  clear h;by_cases hb:(k == NameKind.free && env.scope.kind == .function && env.kindOf n == some .cell)=true
  ·rw [if_pos hb] at h';have hk:k=.free:=by
    simp only [Bool.and_eq_true,beq_iff_eq] at hb;exact hb.1.1
   simp only [List.lookup_cons] at h';cases hy:y == n with
   | true =>
    have:y=n:=by simpa using hy
    subst this hk;exact List.mem_cons_self
   | false =>
    rw [hy] at h';exact List.mem_cons_of_mem _ (ih h')
  ·rw [if_neg hb] at h';simp only [List.lookup_cons] at h';cases hy:y == n with
   | true =>
    rw [hy] at h';have:y=n:=by simpa using hy
    subst this;rcases h' with z | z
    ·exact absurd (Option.some.inj z) (hc (y,k) List.mem_cons_self)
    ·cases Option.some.inj z;exact List.mem_cons_self
   | false =>
    rw [hy] at h';exact List.mem_cons_of_mem _ (ih h')
theorem GV {env:Env} {y:Str}:∀ {names:List (Str×NameKind)},names.lookup y=some .free ->
  ((names.map fun (n,k)=>if (k == NameKind.free && env.scope.kind == .function && env.kindOf n == some .cell) then (n,NameKind.cell) else (n,k)).lookup y=some .cell \/
   (names.map fun (n,k)=>if (k == NameKind.free && env.scope.kind == .function && env.kindOf n == some .cell) then (n,NameKind.cell) else (n,k)).lookup y=some .free)
 | [],h=>by simp at h
 | (n,k) :: r,h=>by
  have ih:=@GV env y r;show List.lookup y ((if (k == NameKind.free && env.scope.kind == .function && env.kindOf n == some .cell)=true then (n,NameKind.cell) else (n,k)) :: (r.map fun (n,k)=>if (k == NameKind.free && env.scope.kind == .function && env.kindOf n == some .cell) then (n,NameKind.cell) else (n,k)))=some .cell \/
   List.lookup y ((if (k == NameKind.free && env.scope.kind == .function && env.kindOf n == some .cell)=true then (n,NameKind.cell) else (n,k)) :: (r.map fun (n,k)=>if (k == NameKind.free && env.scope.kind == .function && env.kindOf n == some .cell) then (n,NameKind.cell) else (n,k)))=some .free
  rw [List.lookup_cons] at h;by_cases hb:(k == NameKind.free && env.scope.kind == .function && env.kindOf n == some .cell)=true
  ·rw [if_pos hb];simp only [List.lookup_cons];cases hy:y == n with
   | true=>exact .inl rfl
   | false=>rw [hy] at h; exact ih h
  ·rw [if_neg hb];simp only [List.lookup_cons];cases hy:y == n with
   | true=>rw [hy] at h; exact .inr h
   | false=>rw [hy] at h; exact ih h
section
variable {prog:Program} {w:World} {A:Around} {R:Result->Shared->Prop} {s:Shared}
abbrev Po (ifs:List Expr) (env:Env):Sem Bool:=forIn ifs true fun c r=>if r=true then do let ok <-isTrue c env (eval c env); pure (ForInStep.yield ok) else pure (ForInStep.yield r)
theorem Og {elt target iter:Expr} {ifs:List Expr} {scope:Scope} {pos:Pos} {it acc:Value} {env:Env} (I:Nat->Shared->Prop)
  (turn:∀ n s,I n s->wpAny (model prog w) A (pyNext it) (fun r s₁=>match r with
   | none=>R (.ok .next) s₁
   | some v=>wpAny (model prog w) A (letOwnedTupleGo target it v) (fun _ s₀=>wpAny (model prog w) A (assign target env v) (fun _ s₂ =>
     wpAny (model prog w) A (Po ifs env) (fun ok s₃ =>
      if ok=true then wpAny (model prog w) A (eval elt env) (fun x s₄ =>
       wpAny (model prog w) A (call (.builtin "list.append") [acc,x]) (fun _ s₅=>∃ m,m < n/\I m s₅) (fun _ _=>False) s₄) (fun _ _=>False) s₃
      else ∃ m,m < n/\I m s₃) (fun _ _=>False) s₂) (fun _ _=>False) s₀) (fun _ _=>False) s₁) (fun _ _=>False) s)
  (n:Nat) (h:I n s):codeAny (model prog w) A (.compLoop (.ListComp elt [⟨target,iter,ifs,0⟩] scope pos) 0 it acc env) R s:=by
 refine codeAny_loop rfl I (fun n s hI=>?_) n h;show wpAny _ A ((compTurn (.ListComp elt [⟨target,iter,ifs,0⟩] scope pos) 0 it acc env).onRaise (fun x=>do noteFrame x env; theTreesLotGoes x)) _ _ s;refine wpAny_noted ?_;rw [compTurn_list];refine wpAny_bind (wpAny_standAt (wpAny_bind (wpAny_mono (turn n s hI) (fun r s₁ h₁=>?_) fun _ _ h'=>h'.elim)));cases r with
 | none=>exact wpAny_pure h₁
 | some v =>
  refine wpAny_bind (wpAny_mono h₁ (fun _ s₀ h₀=>?_) fun _ _ h'=>h'.elim);refine wpAny_bind (wpAny_mono h₀ (fun _ s₂ h₂=>wpAny_bind (wpAny_mono h₂ (fun ok s₃ h₃=>?_) fun _ _ h'=>h'.elim)) fun _ _ h'=>h'.elim);cases ok with
  | false=>exact wpAny_pure ⟨rfl,h₃⟩
  | true =>
   exact wpAny_bind (wpAny_bind (wpAny_mono h₃ (fun x s₄ h₄=>wpAny_bind (wpAny_mono h₄ (fun _ s₅ h₅=>wpAny_pure (wpAny_pure ⟨rfl,h₅⟩)) fun _ _ h'=>h'.elim)) fun _ _ h'=>h'.elim))
end
def Ji (cs:List Nat) (σ:St):St:=cs.map fun j=>(σ[j]?).getD none
def cxC (X:Cx) (scope:Scope) (N:List Str) (s:Shared) (H:Hp) (ex:List Addr):Cx :=
 { X with N:=N,s₀:=s,H₀:=H,env:=compEnvC scope (Pc X.env scope.names) s.heap.objs.size X.env,outer:=X.stack,stack:=X.stack,ex:=ex,fn:=fun _=>false,pn:=[],xe:=fun _ _=>False }
def PTs (X:Cx) (ifs:List Expr) (t:TT):Prop :=
 ∀ (pins:List (Addr×Obj)) (s:Shared) (σ:St) (H:Hp) (Q:Bool->Hp->Prop),Inv X pins σ H s->t σ H Q->wpAny (model X.prog X.w) X.A (Po ifs X.env) (TP X pins σ Q) X.xe s
def tYes:TT:=fun _ H Q=>Q true H
theorem Gp {X:Cx}:PTs X [] tYes:=fun _ _ _ H _ I h=>wpAny_tests_nil ⟨H,I,h⟩
structure DX (X:Cx) (scope:Scope) (N:List Str) (k:Nat) (cs:List Nat):Prop where
 cell:∀ y ∈ scope.names,y.2≠.cell
 kind:scope.kind=.function
 names:∀ y ∈ scope.names,y.2=.local->scope.names.lookup y.1=some .local
 free:∀ y ∈ scope.names,y.2=.free->X.env.scope.names.lookup y.1=some .cell\/X.env.scope.names.lookup y.1=some .free
 len:N.length=k+cs.length
 cap:∀ j,j < cs.length->∃ x,N[k+j]?=some x/\X.N[cs.getD j 0]?=some x/\scope.names.lookup x=some .free
def Fu (k:Nat) (cs:List Nat) (g:TG) (tc:TT) (te:TE) (J:It) (σ:St) (H1:Hp) (fin:List V->Hp->Prop):Prop :=
 ∃ W:Nat->Nat->List V->Hp->Prop,(∃ m,W 0 m [] H1)/\∀ i m acc H,W i m acc H ->
  (J.stop i H/\fin acc H)\/(J.go i H/\∃ Nx:List V->Hp->Prop,(∀ acc' H',Nx acc' H'->∃ m',m' < m/\W (i+1) m' acc' H')/\∀ x H',J.yld i H x H'->g x (List.replicate k none ++ Ji cs σ) H' fun σ2 H2=>(∃ ts:St,ts.length=k/\σ2=ts ++ Ji cs σ)/\acc.length < sizeLine /\
   tc σ2 H2 fun b H3=>if b=true then te σ2 H3 fun v H4=>Nx (acc ++ [v]) H4 else Nx acc H3)
def tComp (k:Nat) (cs:List Nat) (wi:TI) (g:TG) (tc:TT) (te:TE):TE:=fun σ H Q=>wi σ H fun J H1=>Fu k cs g tc te J σ H1 fun acc H2=>∀ p,H2 p=none->Q (.ref p) (upd H2 p (.lst acc))
section
variable {X:Cx} {tg iter elt:Expr} {ifs:List Expr} {scope:Scope} {pos:Pos} {wi:TI} {g:TG} {tc:TT} {te:TE} {N:List Str} {k:Nat} {cs:List Nat}
theorem Inv.block {pins:List (Addr×Obj)} {σ:St} {H:Hp} {s s':Shared} {ex:List Addr} (hc:X.calm=true) (S:DX X scope N k cs) (I:Inv X pins σ H s)
  (hex:∀ b ∈ ex,Gn X pins H b/\∃ o,s.heap.get? b=some o) (hos:s'.os=s.os) (hg:AllBare s'.gens) (hk:∀ b o,s.heap.get? b=some o->s'.heap.get? b=some o) (hn:∃ m,s'.heap.Ns s.heap.objs.size m) :
  Inv (cxC X scope N s H ex) [] (List.replicate k none ++ Ji cs σ) H s':=by
 have lk:∀ {x c},(Pc X.env scope.names).lookup x=some c->X.env.cells.lookup x=some c:=fun {x c} h=>by
  rcases Md X.env _ _ h with z | ⟨z,e⟩
  ·simp at z
  ·obtain ⟨a,ha⟩:=I.ok.has x (S.free _ z rfl);rw [e,ha]; rfl
 have nex:∀ b,b ∈ ex->b≠s.heap.objs.size:=fun b hb z=>by
  obtain ⟨_,o,ho⟩:=hex b hb;exact absurd (Heap.lt_size ho) (by rw [z]; exact Nat.lt_irrefl _)
 refine ⟨⟨I.ok.mod,S.kind,I.ok.glob,I.ok.blt,Nat.le_refl _,fun x y c h1 h2=>I.ok.inj x y c (lk h1) (lk h2),fun x hx=>?_,fun x c h _=>(nomatch h),I.ok.hd,I.ok.frames,.inl rfl,fun b hb=>⟨nex b hb,fun x c h=>?_⟩,I.bs,?_,fun b o e hb=>?_,fun b hb hf=>?_,I.stack,I.stkFree⟩,
  hos,hg,Un.kept hk,?_,fun x c h=>?_,I.hok.fresh (Nat.le_refl _),fun x c h=>I.freeC x c (lk h),fun p hp=>absurd (show p ∈ ([]:List (Addr×Obj)) from hp) (by simp),I.hok.kept hk,?_⟩
 ·exact Pb X.env _ _ (JF S.cell hx)
 ·exact (hex b hb).1.2.2.2.2.1 x c (lk h)
 ·exact Nat.le_trans I.ok.bsz I.sz
 ·rcases (hex b hb).1.2.2.2.1 with z | z
  ·exact I.ok.noex b o e z
  ·exact absurd (Nat.lt_of_lt_of_le (Heap.lt_size e) (Nat.le_trans I.ok.bsz z)) (Nat.lt_irrefl _)
 ·rcases List.mem_cons.mp (I.stkSub b hf) with z | z
  ·exact (hex b hb).1.2.1 z
  ·exact (hex b hb).1.2.2.1 z
 ·obtain ⟨m,hm⟩:=hn;obtain ⟨mo,hmo,hlo⟩:=I.loc;refine ⟨m,hm,fun i x v h1 h2 h3=>?_⟩;have hi:k<=i:=by
   by_cases z:i < k
   ·rw [List.getElem?_append_left (by simpa using z),List.getElem?_replicate,if_pos z] at h2;cases h2
   ·lia
  obtain ⟨j,rfl⟩:∃ j,i=k+j:=⟨i - k,by lia⟩
  rw [List.getElem?_append_right (by simp),List.length_replicate,Nat.add_sub_cancel_left] at h2;unfold Ji at h2;rw [List.getElem?_map] at h2;have hj:j < cs.length:=by
   by_cases z:j < cs.length
   ·exact z
   ·rw [List.getElem?_eq_none (by lia)] at h2;cases h2
  obtain ⟨x',e1,e2,e3⟩:=S.cap j hj;rw [show N[k+j]?=some x from h1] at e1;cases e1;rw [List.getElem?_eq_getElem hj] at h2;have h2':(σ[cs[j]]?).getD none=some v:=Option.some.inj h2;rw [List.getD_eq_getElem?_getD,List.getElem?_eq_getElem hj] at e2;have h4:σ[cs[j]]?=some (some v):=by
   cases q:σ[cs[j]]? with
   | none=>rw [q] at h2'; cases h2'
   | some w=>rw [q] at h2'; rw [show w=some v from h2']
  have kO:=S.free (x,.free) (PySem.mem_of_lookup e3) rfl;obtain ⟨u,ru,l⟩:=hlo _ x v e2 h4 (.inr kO);refine ⟨u,ru,?_⟩;rcases l with ⟨z,_⟩ | ⟨_,c,hc',z⟩
  ·have z':X.env.scope.names.lookup x=some .local:=z;rcases kO with q | q<;>· rw [z'] at q; cases q
  ·obtain ⟨c',h5⟩:=Pb X.env _ [] (PySem.mem_of_lookup e3);have h6:=lk h5;rw [hc'] at h6;cases h6;obtain ⟨o,ho,hd⟩:=z;exact .inr ⟨GV e3,c,h5,o,hk _ _ ho,hd⟩
 ·obtain ⟨v,o,ho,hd⟩:=I.cell x c (lk h);exact ⟨v,o,hk _ _ ho,hd⟩
 ·show (List.replicate k none ++ Ji cs σ).length=N.length;rw [List.length_append,List.length_replicate,S.len];unfold Ji;rw [List.length_map]
end
end L2
namespace L2
open PySem PySem.Spec PyProof.Rows
section
variable {X:Cx} {tg iter elt:Expr} {ifs:List Expr} {scope:Scope} {pos:Pos} {wi:TI} {g:TG} {tc:TT} {te:TE} {N:List Str} {k:Nat} {cs:List Nat} {fin:List V->Hp->Prop}
theorem Rb {pins:List (Addr×Obj)} {σ:St} {H2:Hp} {sD s1:Shared} {it D:Addr} {fp:List Addr} {tn:Nat->Heap->Prop} {J:It} {n0:Nat} {RR:Result->Shared->Prop} (hc:X.calm=true) (S:DX X scope N k cs)
  (hg:∀ s H ex,PG (cxC X scope N s H ex) tg g) (ht:∀ s H ex,PTs (cxC X scope N s H ex) ifs tc) (he:∀ s H ex,PE (cxC X scope N s H ex) elt te)
  (ID:Inv X pins σ H2 sD) (hD:sD.heap.get? D=some { cls:=.type "list",data:=.seq ([]:List Value).toArray n0 }) (hD0:X.s₀.heap.objs.size<=D) (fD:Gn X pins H2 D) (nfp:D ∉ fp)
  (T:Oq X.prog X.w X.K tg J fp it tn) (st:tn 0 sD.heap) (f2:∀ b ∈ fp,Gn X pins H2 b) (hb:Fu k cs g tc te J σ H2 fin)
  (hos:s1.os=sD.os) (hgn:AllBare s1.gens) (hk:∀ b o,sD.heap.get? b=some o->s1.heap.get? b=some o) (hn:∃ m,s1.heap.Ns sD.heap.objs.size m)
  (hRR:∀ (H':Hp) (acc:List V) (s4:Shared),fin acc H'->H' D=none->Inv X pins σ (upd H' D (.lst acc)) s4->(∃ m,s4.heap.Ns sD.heap.objs.size m)->Gn X pins (upd H' D (.lst acc)) sD.heap.objs.size->RR (.ok .next) s4) :
  codeAny (model X.prog X.w) X.A (.compLoop (.ListComp elt [⟨tg,iter,ifs,0⟩] scope pos) 0 (.ref it) (.ref D) (compEnvC scope (Pc X.env scope.names) sD.heap.objs.size X.env)) RR s1:=by
 obtain ⟨W,⟨m0,w0⟩,turn⟩:=hb;have hobj:∀ b,b ∈ D :: fp->∃ o,sD.heap.get? b=some o:=fun b hb=>by
  rcases List.mem_cons.mp hb with rfl | z
  ·exact ⟨_,hD⟩
  ·obtain ⟨o,e,_⟩:=T.obj _ _ st b z;exact ⟨o,e⟩
 have hexx:∀ b ∈ D :: fp,Gn X pins H2 b/\∃ o,sD.heap.get? b=some o:=fun b hb=>⟨by
  rcases List.mem_cons.mp hb with rfl | z
  ·exact fD
  ·exact f2 b z,hobj b hb⟩
 have neC:∀ b,b ∈ D :: fp->b≠sD.heap.objs.size:=fun b hb z=>by
  obtain ⟨o,e⟩:=hobj b hb;exact absurd (Heap.lt_size e) (by rw [z]; exact Nat.lt_irrefl _)
 have nfr:∀ b,b ∈ D :: fp->b ∉ frs X.stack:=fun b hb hf=>by
  rcases List.mem_cons.mp (ID.stkSub b hf) with z | z
  ·exact (hexx b hb).1.2.1 z
  ·exact (hexx b hb).1.2.2.1 z
 have I0:=ID.block hc S hexx hos hgn hk hn;have I0ok:=I0.ok;have cells:∀ b,b ∈ D :: fp->∀ x c,(Pc X.env scope.names).lookup x=some c->c≠b:=fun b hb x c h=>(I0ok.exf b hb).2 x c h;have fpok:∀ {H':Hp} {pl:List (Addr×Obj)},(∀ b ∈ fp,H' b=none)->(∀ p ∈ pl,p.1=D)->∀ b ∈ fp,Gn (cxC X scope N sD H2 (D :: fp)) pl H' b:=fun hn hp b hb =>
  ⟨hn b hb,neC b (.tail _ hb),nfr b (.tail _ hb),.inl (.tail _ hb),cells b (.tail _ hb),fun p hp' z=>nfp (by
   have:=hp p hp';rw [<-this,z]; exact hb)⟩
 refine Og (fun n s'=>∃ (i:Nat) (acc:List V) (its:List Value) (nn:Nat) (H':Hp),Inv (cxC X scope N sD H2 (D :: fp)) [] (List.replicate k none ++ Ji cs σ) H' s'/\tn i s'.heap/\(∀ b ∈ fp,H' b=none)/\H' D=none/\acc.length<=sizeLine/\AJ acc its /\
  s'.heap.get? D=some { cls:=.type "list",data:=.seq its.toArray nn }/\W i n acc H') ?_ m0
  ⟨0,[],[],n0,H2,I0,T.keep _ _ _ st (fun b _ o e=>hk b o e),fun b hb=>(f2 b hb).1,fD.1,Nat.zero_le _,.nil,hk _ _ hD,w0⟩
 rintro n s3 ⟨i,acc,its,nn,H3,I3,st3,fr3,nD3,hl3,v3,e3,w3⟩;have I3p:Inv (cxC X scope N sD H2 (D :: fp)) [(D,{ cls:=.type "list",data:=.seq its.toArray nn })] (List.replicate k none ++ Ji cs σ) H3 s3:=I3.pins_of fun p hp=>by
  rw [List.mem_singleton] at hp;subst hp;exact ⟨e3,nD3,neC D (.head _),nfr D (.head _),fun v z=>by cases z⟩
 have one:∀ p ∈ [((D,{ cls:=.type "list",data:=.seq its.toArray nn }):Addr×Obj)],p.1=D:=fun p hp=>by
  rw [List.mem_singleton] at hp;subst hp;rfl
 rcases turn i n acc H3 w3 with ⟨stop,qf⟩ | ⟨go,Nx,hNx,step⟩
 ·refine thn (T.done (cxC X scope N sD H2 (D :: fp)) rfl rfl rfl hc i _ s3 _ H3 _ I3p (fpok fr3 one) st3 stop) fun r s4 ⟨hr,I4⟩=>?_;subst hr;have IX:Inv X pins σ H3 s4:=ID.call' (ch:=D :: fp) I4.os I4.base I4.hok I4.bare fun b hb=>⟨(hexx b hb).1.2.2.2.1,(hexx b hb).1.2.1,(hexx b hb).1.2.2.2.2.1,(hexx b hb).1.2.2.2.2.2⟩
  have p4:=(I4.pin (D,{ cls:=.type "list",data:=.seq its.toArray nn }) (by show _ ∈ [] ++ [_]; simp)).1;have IY:Inv X pins σ (upd H3 D (.lst acc)) s4:=by
   refine IX.track nD3 (Heap.get?_none_of_le hD0) (Heap.get?_none_of_le (Nat.le_trans ID.ok.bsz hD0)) (Ne.symm fD.2.1) fD.2.2.2.2.1 fD.2.2.2.2.2 (fun b hb z=>fD.2.2.1 (z ▸ hb)) ?_;exact ⟨hl3,its,nn,v3,p4⟩
  refine hRR H3 acc s4 qf nD3 IY ?_ (ID.fpOk (Nat.le_refl _) ?_)
  ·obtain ⟨m,hm,_⟩:=I4.loc;exact ⟨m,hm⟩
  ·rw [Az (Ne.symm (neC D (.head _)))];exact I4.free
 ·refine thn (T.item (cxC X scope N sD H2 (D :: fp)) rfl rfl rfl hc i _ s3 _ H3 (fun _ _=>False) I3p (fpok fr3 one) st3 go) fun r s4 ⟨u,hr,h4⟩=>?_;subst hr;refine thn h4 fun _ s5 ⟨x,H5,I5,r5,y5,st5,fr5⟩=>?_;have I5':=I5.pinned (fpok fr5 one) (T.obj _ _ st5);refine thn (hg sD H2 (D :: fp) _ s5 _ H5 x u _ I5' r5 (step x H5 y5)) fun _ s6 ⟨σ6,H6,I6,⟨ts,tl,eσ⟩,hz6,q6⟩=>?_;refine thn (ht sD H2 (D :: fp) _ s6 σ6 H6 _ I6 q6) fun b s7 ⟨H7,I7,q7⟩=>?_;have weak:∀ {pl:List (Addr×Obj)} {H':Hp} {s':Shared},Inv (cxC X scope N sD H2 (D :: fp)) pl σ6 H' s'->Inv (cxC X scope N sD H2 (D :: fp)) [] (List.replicate k none ++ Ji cs σ) H' s':=fun {pl H' s'} J=>by
   refine (J.weak (σ':=List.replicate k none ++ Ji cs σ) ?_ fun j v e=>?_).pins_of fun p hp=>absurd hp (by simp)
   ·rw [eσ,List.length_append,List.length_append,List.length_replicate,tl]
   ·by_cases z:j < k
    ·rw [List.getElem?_append_left (by simpa using z),List.getElem?_replicate,if_pos z] at e;cases e
    ·rw [List.getElem?_append_right (by rw [List.length_replicate]; lia),List.length_replicate] at e;rw [eσ,List.getElem?_append_right (by lia),tl];exact e
  have later:∀ {pl:List (Addr×Obj)} {σ':St} {H':Hp} {s':Shared},Inv (cxC X scope N sD H2 (D :: fp)) (pl ++ Iu fp s5.heap) σ' H' s'->tn (i+1) s'.heap/\∀ b ∈ fp,H' b=none:=fun {pl σ' H' s'} J =>
   ⟨T.keep _ _ _ st5 fun b hb o e=>(J.pin (b,o) (List.mem_append_right _ (List.mem_append_right _ (FG hb e)))).1,fun b hb=>by
    obtain ⟨o,e,_⟩:=T.obj _ _ st5 b hb;exact (J.pin (b,o) (List.mem_append_right _ (List.mem_append_right _ (FG hb e)))).2.1⟩
  cases b with
  | false =>
   have q7':Nx acc H7:=by simpa using q7
   obtain ⟨m',hm,w7⟩:=hNx _ _ q7';rw [if_neg Bool.false_ne_true];have p7:=I7.pin (D,{ cls:=.type "list",data:=.seq its.toArray nn }) (List.mem_append_right _ (List.mem_append_left _ (List.mem_singleton.mpr rfl)));exact ⟨m',hm,i+1,acc,its,nn,H7,weak I7,(later I7).1,(later I7).2,p7.2.1,hl3,v3,p7.1,w7⟩
  | true =>
   rw [if_pos rfl] at q7;rw [if_pos rfl];refine thn (he sD H2 (D :: fp) _ s7 σ6 H7 _ I7 q7) fun y s8 ⟨v,H8,I8,r8,q8⟩=>?_;obtain ⟨m',hm,w8⟩:=hNx _ _ q8;have p8:=I8.pin (D,{ cls:=.type "list",data:=.seq its.toArray nn }) (List.mem_append_right _ (List.mem_append_left _ (List.mem_singleton.mpr rfl)));have hlen:=v3.length;refine call_meets F.slot_list_append ⟨_,p8.1,rfl⟩ F.entry_list_append (F.args_list_append_2 _ _) (PySem.list_append D its.toArray nn y (by rw [List.size_toArray]; lia)) ⟨p8.1,?_⟩;have q:=PySem.IsL.update p8.1 (·.push y);have eq:its.toArray.push y=(its ++ [y]).toArray:=by simp
   dsimp only at q;rw [eq] at q;have I8':Inv (cxC X scope N sD H2 (D :: fp)) ([] ++ Iu fp s5.heap) σ6 H8 s8:=I8.pins_of fun p hp=>I8.pin p (List.mem_append_right _ (List.mem_append_right _ hp));have I9:=I8'.turned (t':=s8.toks) (it:=D) (h':=s8.heap.update D (Obj.mapSeq (·.push y))) (fun b o hb e=>(Heap.get?_update_other s8.heap (Obj.mapSeq (·.push y)) (Ne.symm hb)).trans e) p8.2.1 (neC D (.head _)) (.inl (.head _)) (cells D (.head _))
    (fun p hp z=>nfp (by
     have:=(LO (fp:=fp) (h:=s5.heap) (p:=p) (by simpa [cxC] using hp)).1;rw [z] at this;exact this))
   refine ⟨m',hm,i+1,acc ++ [v],its ++ [y],_,H8,weak I9,(later I9).1,(later I9).2,p8.2.1,?_,v3.append (.cons r8 .nil),q,w8⟩;rw [List.length_append,List.length_singleton];lia
theorem Lc {pins:List (Addr×Obj)} {σ:St} {H2:Hp} {s2:Shared} {it:Addr} {fp:List Addr} {tn:Nat->Heap->Prop} {J:It} {RR:Value->Addr->Result->Shared->Prop} {E:Value->Shared->Prop} (hc:X.calm=true) (S:DX X scope N k cs)
  (hg:∀ s H ex,PG (cxC X scope N s H ex) tg g) (ht:∀ s H ex,PTs (cxC X scope N s H ex) ifs tc) (he:∀ s H ex,PE (cxC X scope N s H ex) elt te)
  (I2:Inv X pins σ H2 s2) (T:Oq X.prog X.w X.K tg J fp it tn) (st:tn 0 s2.heap) (f2:∀ b ∈ fp,Gn X pins H2 b) (hb:Fu k cs g tc te J σ H2 fin)
  (hRR:∀ (D C:Addr) (H':Hp) (acc:List V) (s4:Shared),fin acc H'->H' D=none->Inv X pins σ (upd H' D (.lst acc)) s4->(∃ m,s4.heap.Ns C m)->Gn X pins (upd H' D (.lst acc)) C->RR (.ref D) C (.ok .next) s4) :
  wpAny (model X.prog X.w) X.A (newList []) (fun acc s₃=>wpAny (model X.prog X.w) X.A (newFunctionEnv scope X.env.globals (Pc X.env scope.names) [] X.env.qual none .none (some X.env)) (fun cenv s₄ =>
   codeAny (model X.prog X.w) X.A (.compStart (.ListComp elt [⟨tg,iter,ifs,0⟩] scope pos) 0 (.ref it) acc { cenv with scope:=relabel scope X.env }) (RR acc cenv.locals) s₄) E s₃) E s2:=by
 refine wpAny_newObj_type (wpAny_newFunctionEnv S.cell (by intro y hy; simp at hy) (fun h₁ hns₁ hsb₁=>?_) S.kind);dsimp only at hns₁ hsb₁ ⊢;have keepD:∀ b o,s2.heap.get? b=some o->(s2.heap.push { cls:=.type "list",dict:=none,data:=.seq ([]:List Value).toArray }).get? b=some o:=fun b o e=>Heap.get?_push_of_some _ e;have ID:Inv X pins σ H2 { s2 with heap:=s2.heap.push { cls:=.type "list",dict:=none,data:=.seq ([]:List Value).toArray } }:=I2.kept (t':=s2.toks) keepD;have hD:(s2.heap.push { cls:=.type "list",dict:=none,data:=.seq ([]:List Value).toArray }).get? s2.heap.objs.size=some { cls:=.type "list",data:=.seq ([]:List Value).toArray }:=Heap.get?_push_size _ rfl;have nfp:s2.heap.objs.size ∉ fp:=fun z=>by
  obtain ⟨o,e,_⟩:=T.obj _ _ st _ z;exact absurd (Heap.lt_size e) (Nat.lt_irrefl _)
 have stD:tn 0 (s2.heap.push { cls:=.type "list",dict:=none,data:=.seq ([]:List Value).toArray }):=T.keep _ _ _ st fun b _ o e=>keepD b o e;have hk:∀ b o,(s2.heap.push { cls:=.type "list",dict:=none,data:=.seq ([]:List Value).toArray }).get? b=some o->h₁.get? b=some o:=fun b o e=>hsb₁.extBut b o (Nat.ne_of_lt (Heap.lt_size e)) (Heap.get?_push_of_some _ e);have loop:∀ s₃:Shared,s₃={ s2 with heap:=h₁,toks:=s2.toks+([]:List (Str×Value)).length } ->
   codeAny (model X.prog X.w) X.A (.compLoop (.ListComp elt [⟨tg,iter,ifs,0⟩] scope pos) 0 (.ref it) (.ref s2.heap.objs.size) (compEnvC scope (Pc X.env scope.names) (s2.heap.push { cls:=.type "list",dict:=none,data:=.seq ([]:List Value).toArray }).objs.size X.env))
    (RR (.ref s2.heap.objs.size) (s2.heap.push { cls:=.type "list",dict:=none,data:=.seq ([]:List Value).toArray }).objs.size) s₃:=by
  rintro s₃ rfl;exact Rb (sD:={ s2 with heap:=s2.heap.push { cls:=.type "list",dict:=none,data:=.seq ([]:List Value).toArray } }) hc S hg ht he ID hD I2.sz (I2.fpOk (Nat.le_refl _) I2.fresh) nfp T stD f2 hb rfl I2.bare hk ⟨_,hns₁⟩ fun H' acc s4=>hRR _ _ H' acc s4
 exact codeAny_compStart_list (loop _ rfl) (T.self _ 0 _ _ _ (T.keep _ _ _ stD fun b _ o e=>hk b o e) (loop _ rfl))
theorem Js (hc:X.calm=true) (S:DX X scope N k cs) (hi:PI X tg iter wi) (hg:∀ s H ex,PG (cxC X scope N s H ex) tg g) (ht:∀ s H ex,PTs (cxC X scope N s H ex) ifs tc) (he:∀ s H ex,PE (cxC X scope N s H ex) elt te)
  (hs:∀ x,foldedSetIterable iter X.env x=pure x:=by intro _; rfl):PE X (.ListComp elt [⟨tg,iter,ifs,0⟩] scope pos) (tComp k cs wi g tc te):=by
 intro pins s σ H Q I h;rw [eval_ListComp];refine wpAny_comprehension_free (use:=none) rfl hs (Le fun y hy hf=>I.ok.has _ (S.free y hy hf)) S.kind S.names (thn (hi pins s σ H _ I h) fun v s1 h1=>thn h1 fun itv s2 h2=>?_);obtain ⟨it,fp,tn,J,H2,rfl,I2,T,st2,f2,hb⟩:=h2;refine Lc (RR:=fun acc C=>compPost (model X.prog X.w) X.A X.xe none (EP X pins σ Q) acc C) hc S hg ht he I2 T st2 f2 hb fun D C H' acc s4 qf nD J4 hn fC=>?_;obtain ⟨m,hm⟩:=hn;refine ⟨m,hm,fun h' sb=>⟨.ref D,upd H' D (.lst acc),?_,rfl,qf D nD⟩⟩;exact J4.turned (t':=s4.toks) (it:=C) (fun b o hb e=>(sb.2 b hb).trans e) fC.1 fC.2.1 fC.2.2.2.1 fC.2.2.2.2.1 fC.2.2.2.2.2
def Rq (i k:Nat) (cs:List Nat) (wi:TI) (g:TG) (tc:TT) (te:TE):TS:=fun D σ H=>wi σ H fun J H1=>Fu k cs g tc te J σ H1 fun acc H2=>∀ p,H2 p=none->D.nx (σ.set i (some (.ref p))) (upd H2 p (.lst acc))
theorem JG {i:Nat} {y:Str} {py spos:Pos} (hc:X.calm=true) (hN:X.N.Nodup) (hi':X.N[i]?=some y) (hy:X.env.scope.names.lookup y=some .local) (S:DX X scope N k cs) (hi:PI X tg iter wi)
  (hg:∀ s H ex,PG (cxC X scope N s H ex) tg g) (ht:∀ s H ex,PTs (cxC X scope N s H ex) ifs tc) (he:∀ s H ex,PE (cxC X scope N s H ex) elt te)
  (hsw:swapsWith (.ListComp elt [⟨tg,iter,ifs,0⟩] scope pos) (some (.Name y py)) spos.line X.env=pure true:=by rfl) (hs:∀ x,foldedSetIterable iter X.env x=pure x:=by intro _; rfl) :
  PS X (.Assign [.Name y py] (.ListComp elt [⟨tg,iter,ifs,0⟩] scope pos) spos) (Rq i k cs wi g tc te):=by
 intro pins s σ H D I h;rw [exec_Assign_Name_used _ _ _ _ hsw];refine wpAny_bind (wpAny_standAt (wpAny_bind ?_));show wpAny _ X.A (do let _ <-comprehension (.ListComp elt [⟨tg,iter,ifs,0⟩] scope pos) scope X.env _ (newList []) false (eval iter X.env) (some (assign (.Name y py) X.env))) _ _ s;refine wpAny_bind (wpAny_mono (wpAny_comprehension_free (use:=some (assign (.Name y py) X.env)) (Q:=fun _ s'=>SP X pins D .next s') rfl hs (Le fun y hy hf=>I.ok.has _ (S.free y hy hf)) S.kind S.names
  (thn (hi pins s σ H _ I h) fun v s1 h1=>thn h1 fun itv s2 h2=>?_)) (fun _ s' hq=>wpAny_pure (wpAny_pure hq)) fun _ _ e=>e)
 obtain ⟨it,fp,tn,J,H2,rfl,I2,T,st2,f2,hb⟩:=h2;refine Lc (RR:=fun acc C=>compPost (model X.prog X.w) X.A X.xe (some (assign (.Name y py) X.env)) (fun _ s'=>SP X pins D .next s') acc C) hc S hg ht he I2 T st2 f2 hb fun L C H' acc s4 qf nD J4 hn fC=>?_;obtain ⟨m,hm⟩:=hn;show wpAny _ X.A (assign (.Name y py) X.env (.ref L)) _ _ _;refine wpAny_assign_Name (LK J4 hN hi' (.inl hy) (v:=.ref L) rfl (fun s5 J5 hsb=>?_) (.inr hy));obtain ⟨a,sb,ha⟩:=hsb;have nCa:C≠a:=by
  rcases ha with z | z
  ·rw [z]; exact fC.2.1
  ·exact fun q=>fC.2.2.2.2.1 y a z q.symm
 refine ⟨m,hm.sameBut sb nCa,fun h' sb'=>⟨σ.set i (some (.ref L)),upd H' L (.lst acc),?_,qf L nD⟩⟩;exact J5.turned (t':=s5.toks) (it:=C) (fun b o hb e=>(sb'.2 b hb).trans e) fC.1 fC.2.1 fC.2.2.2.1 fC.2.2.2.2.1 fC.2.2.2.2.2
end
section
variable {K:PySem.W.Frag} {k:Nat} {cs:List Nat} {g:TG} {tc:TT} {te:TE} {σ:St} {H:Hp} {fin:List V->Hp->Prop}
abbrev Bt (k:Nat) (cs:List Nat) (g:TG) (tc:TT) (te:TE) (σ:St) (x:V) (acc:List V) (H:Hp) (Nx:List V->Hp->Prop):Prop :=
 g x (List.replicate k none ++ Ji cs σ) H fun σ2 H2=>(∃ ts:St,ts.length=k/\σ2=ts ++ Ji cs σ)/\acc.length < sizeLine/\tc σ2 H2 fun b H3=>if b=true then te σ2 H3 fun v H4=>Nx (acc ++ [v]) H4 else Nx acc H3
theorem Ti {a:Addr} {xs:List V} (Pv:Nat->List V->Hp->Prop) (h0:Pv 0 [] H) (hl:∀ i acc H,i<=xs.length->Pv i acc H->SqL K H a xs)
  (hs:∀ i x acc H,xs[i]?=some x->Pv i acc H->Bt k cs g tc te σ x acc H (Pv (i+1))) (hd:∀ acc H,Pv xs.length acc H->fin acc H):Fu k cs g tc te (Itl K a) σ H fin:=by
 refine ⟨fun i m acc H=>m=xs.length - i/\i<=xs.length/\Pv i acc H,⟨xs.length,by simp,Nat.zero_le _,h0⟩,?_⟩;rintro i m acc H ⟨rfl,hi,p⟩;have q:=hl i acc H hi p;by_cases hlt:i < xs.length
 ·refine .inr ⟨⟨xs,xs[i],q,by simp [hlt]⟩,Pv (i+1),fun acc' H' p'=>⟨xs.length - (i+1),by lia,rfl,hlt,p'⟩,fun x H' y=>?_⟩;obtain ⟨e,y⟩:=y;subst e;exact hs i x acc _ (y xs q) p
 ·have e:i=xs.length:=by lia
  subst e;exact .inl ⟨⟨xs,q,Nat.le_refl _⟩,hd acc H p⟩
theorem PV {a:Addr} {xs:List V} (Pv:Nat->List V->Hp->Prop) (h0:Pv 0 [] H) (hl:∀ i acc H,i<=xs.length->Pv i acc H->SqT K H a xs)
  (hs:∀ i x acc H,xs[i]?=some x->Pv i acc H->Bt k cs g tc te σ x acc H (Pv (i+1))) (hd:∀ acc H,Pv xs.length acc H->fin acc H):Fu k cs g tc te (Itt K a) σ H fin:=by
 refine ⟨fun i m acc H=>m=xs.length - i/\i<=xs.length/\Pv i acc H,⟨xs.length,by simp,Nat.zero_le _,h0⟩,?_⟩;rintro i m acc H ⟨rfl,hi,p⟩;have q:=hl i acc H hi p;by_cases hlt:i < xs.length
 ·refine .inr ⟨⟨xs,xs[i],q,by simp [hlt]⟩,Pv (i+1),fun acc' H' p'=>⟨xs.length - (i+1),by lia,rfl,hlt,p'⟩,fun x H' y=>?_⟩;obtain ⟨e,y⟩:=y;subst e;exact hs i x acc _ (y xs q) p
 ·have e:i=xs.length:=by lia
  subst e;exact .inl ⟨⟨xs,q,Nat.le_refl _⟩,hd acc H p⟩
theorem Re {lo:Int} {n:Nat} (Pv:Nat->List V->Hp->Prop) (h0:Pv 0 [] H) (hs:∀ i acc H,i < n->Pv i acc H->Bt k cs g tc te σ (.int (lo+i)) acc H (Pv (i+1))) (hd:∀ acc H,Pv n acc H->fin acc H):Fu k cs g tc te (Itr lo n) σ H fin:=by
 refine ⟨fun i m acc H=>m=n - i/\i<=n/\Pv i acc H,⟨n,by simp,Nat.zero_le _,h0⟩,?_⟩;rintro i m acc H ⟨rfl,hi,p⟩;by_cases hlt:i < n
 ·refine .inr ⟨hlt,Pv (i+1),fun acc' H' p'=>⟨n - (i+1),by lia,rfl,hlt,p'⟩,fun x H' y=>?_⟩;obtain ⟨e,y⟩:=y;subst e y;exact hs i acc _ hlt p
 ·have e:i=n:=by lia
  subst e;exact .inl ⟨Nat.le_refl _,hd acc H p⟩
end
end L2
namespace L2
open PySem PySem.Spec PyProof.Rows
section
variable {prog:Program} {w:World} {A:Around} {E:Value->Shared->Prop} {s:Shared}
theorem Ia {I t:Addr} {k:Nat} {vs:Array Value} {v:Value} {Q:Value->Shared->Prop} (hI:s.heap.IsTupleIter I t k) (hV:s.heap.IsTuple t vs) (hv:vs[k]?=some v)
  (q:∀ g,g.IsTupleIter I t (k+1)->Heap.SameBut I s.heap g->Q v { s with heap:=g }):wpAny (model prog w) A (Builtin.SmallTypes.nextOf (.ref I)) Q E s:=by
 obtain ⟨oI,eI,cI,dI⟩:=id hI;obtain ⟨oV,eV,_,nV,dV⟩:=hV;unfold Builtin.SmallTypes.nextOf;refine wpAny_bind (wpAny_callSpecial?_slot (name:=Str.ofString "__next__") hI.typeIs F.slot_tuple_iterator_next (wpAny_call_entry F.slot_tuple_iterator_next hI.typeIs F.entry_tuple_iterator_next ?_ (F.args_tuple_iterator_next_1 _)));show wpAny _ _ (field (.ref I) 0 >>= _) _ _ s;refine wpAny_bind (wpAny_field eI dI (x:=.ref t) rfl ?_);show wpAny _ _ (if (Value.ref t == Value.none)=true then _ else _) _ _ s;rw [if_neg (fun z:(Value.ref t == Value.none)=true=>Bool.false_ne_true z)];show wpAny _ _ (field (.ref I) 1 >>= _) _ _ s;refine wpAny_bind (wpAny_field eI dI (x:=.int k 0) rfl ?_);show wpAny _ _ (seqItems? (.ref t) >>= _) _ _ s;refine wpAny_bind (wpAny_seqItems eV dV ?_);simp only [Int.toNat_natCast,hv];refine wpAny_bind (wpAny_setField eI dI (by simp) (wpAny_pure ⟨v,rfl,wpAny_pure (q _ ?_ (Heap.SameBut.update ..))⟩));exact ⟨_,Heap.get?_update_self _ eI (Obj.isFreed_of_fields (Obj.data_mapFields dI _)),(Obj.cls_mapFields ..).trans cI,by rw [Obj.data_mapFields dI]; simp [rawInt]⟩
theorem Ix {I t:Addr} {k:Nat} {vs:Array Value} {Q:Value->Shared->Prop} (hA:A.handled=none) (hI:s.heap.IsTupleIter I t k) (hV:s.heap.IsTuple t vs) (hv:vs[k]?=none)
  (q:∀ g e,Heap.ExtBut I s.heap g->(∃ o,g.get? e=some o/\o.cls=.type "StopIteration")->E (.ref e) { s with heap:=g }):wpAny (model prog w) A (Builtin.SmallTypes.nextOf (.ref I)) Q E s:=by
 obtain ⟨oI,eI,cI,dI⟩:=id hI;obtain ⟨oV,eV,_,nV,dV⟩:=hV;unfold Builtin.SmallTypes.nextOf;refine wpAny_bind (wpAny_callSpecial?_slot (name:=Str.ofString "__next__") hI.typeIs F.slot_tuple_iterator_next (wpAny_call_entry F.slot_tuple_iterator_next hI.typeIs F.entry_tuple_iterator_next ?_ (F.args_tuple_iterator_next_1 _)));show wpAny _ _ (field (.ref I) 0 >>= _) _ _ s;refine wpAny_bind (wpAny_field eI dI (x:=.ref t) rfl ?_);show wpAny _ _ (if (Value.ref t == Value.none)=true then _ else _) _ _ s;rw [if_neg (fun z:(Value.ref t == Value.none)=true=>Bool.false_ne_true z)];show wpAny _ _ (field (.ref I) 1 >>= _) _ _ s;refine wpAny_bind (wpAny_field eI dI (x:=.int k 0) rfl ?_);show wpAny _ _ (seqItems? (.ref t) >>= _) _ _ s;refine wpAny_bind (wpAny_seqItems eV dV ?_);simp only [Int.toNat_natCast,hv];refine wpAny_bind (wpAny_rule (wpAny_bind (wpAny_setField eI dI (by simp) ?_)));show wpAny _ _ (newExc (.type "StopIteration") [] >>= _) _ _ _;refine wpAny_bind ?_;simp only [newExc,newTuple];refine wpAny_bind (wpAny_newObj_type ?_ (by size_fits));refine wpAny_bind (m:=firstArgMember _ _) (wpAny_of_eq (a:=Value.none) (by first | rfl | (simp only [firstArgMember]; rfl)) (wpAny_newObj_type ?_ (by size_fits)));simp only [raiseNew];refine wpAny_bind (wpAny_handled ?_)
 first | rw [show A.in1.handled=none from hA] | rw [hA]
 refine wpAny_bind (wpAny_pure (wpAny_throw (q _ _ (((Heap.SameBut.update ..).extBut.push _).push _) ⟨_,Heap.get?_push_size _ rfl,rfl⟩)))
def Ft:Bool->Heap->Addr->Addr->Nat->Prop
 | true,h,I,l,k=>h.IsTupleIter I l k
 | false,h,I,l,k=>h.IsListIter I l k
def Fs:Bool->Heap->Addr->Array Value->Prop
 | true,h,l,vs=>h.IsTuple l vs
 | false,h,l,vs=>h.IsList l vs
def SqX (K:PySem.W.Frag):Bool->Hp->Addr->List V->Prop
 | true,H,a,xs=>SqT K H a xs
 | false,H,a,xs=>SqL K H a xs
theorem Ft.move {b:Bool} {h g:Heap} {I l:Addr} {k:Nat} (x:Ft b h I l k) (e:∀ o,h.get? I=some o->g.get? I=some o):Ft b g I l k:=by
 cases b with
 | true=>obtain ⟨o,ho,r⟩:=x; exact ⟨o,e _ ho,r⟩
 | false=>obtain ⟨o,ho,r⟩:=x; exact ⟨o,e _ ho,r⟩
theorem Ft.there {b:Bool} {h:Heap} {I l:Addr} {k:Nat} (x:Ft b h I l k):∃ o,h.get? I=some o/\∀ v,o.data≠.cell v:=by
 cases b with
 | true=>obtain ⟨o,ho,_,d⟩:=x; exact ⟨o,ho,fun v z=>by rw [d] at z; cases z⟩
 | false=>obtain ⟨o,ho,_,d⟩:=x; exact ⟨o,ho,fun v z=>by rw [d] at z; cases z⟩
theorem Fs.move {b:Bool} {h g:Heap} {l:Addr} {vs:Array Value} (x:Fs b h l vs) (e:∀ o,h.get? l=some o->g.get? l=some o):Fs b g l vs:=by
 cases b with
 | true=>obtain ⟨o,ho,r⟩:=x; exact ⟨o,e _ ho,r⟩
 | false=>obtain ⟨o,ho,r⟩:=x; exact ⟨o,e _ ho,r⟩
theorem Ja {b:Bool} {I l:Addr} {k:Nat} {vs:Array Value} {v:Value} {Q:Value->Shared->Prop} (hI:Ft b s.heap I l k) (hV:Fs b s.heap l vs) (hv:vs[k]?=some v)
  (q:∀ g,Ft b g I l (k+1)->Heap.SameBut I s.heap g->Q v { s with heap:=g }):wpAny (model prog w) A (Builtin.SmallTypes.nextOf (.ref I)) Q E s:=by
 cases b with
 | true=>exact Ia hI hV hv q
 | false=>exact wpAny_nextOf_list_item hI hV hv q
theorem JK {b:Bool} {I l:Addr} {k:Nat} {vs:Array Value} {Q:Value->Shared->Prop} (hA:A.handled=none) (hI:Ft b s.heap I l k) (hV:Fs b s.heap l vs) (hv:vs[k]?=none)
  (q:∀ g e,Heap.ExtBut I s.heap g->(∃ o,g.get? e=some o/\o.cls=.type "StopIteration")->E (.ref e) { s with heap:=g }):wpAny (model prog w) A (Builtin.SmallTypes.nextOf (.ref I)) Q E s:=by
 cases b with
 | true=>exact Ix hA hI hV hv q
 | false=>exact wpAny_nextOf_list_end hA hI hV hv q
theorem GM {b:Bool} {l:Addr} {vs:Array Value} {Q:Value->Shared->Prop} (hV:Fs b s.heap l vs)
  (q:∀ g,Ft b g s.heap.objs.size l 0->g.objs.size=s.heap.objs.size+1->(∀ c o,s.heap.get? c=some o->g.get? c=some o)->Q (.ref s.heap.objs.size) { s with heap:=g }):wpAny (model prog w) A (pyIter (.ref l)) Q E s:=by
 cases b with
 | true=>exact wpAny_pyIter_tuple hV (q _ ⟨_,Heap.get?_push_size _ rfl,rfl,rfl⟩ (Heap.size_push ..) fun c o e=>Heap.get?_push_of_some _ e)
 | false=>exact wpAny_pyIter_list hV (q _ ⟨_,Heap.get?_push_size _ rfl,rfl,rfl⟩ (Heap.size_push ..) fun c o e=>Heap.get?_push_of_some _ e)
theorem Inv.turnedL {X:Cx} {pins:List (Addr×Obj)} {σ:St} {H:Hp} {s:Shared} {g:Heap} {tk:Nat} {ch:List Addr} (I:Inv X pins σ H s) (k:∀ b o,b ∉ ch->s.heap.get? b=some o->g.get? b=some o) (hch:∀ b ∈ ch,Gn X pins H b):Inv X pins σ H { s with heap:=g,toks:=tk }:=by
 have nch:∀ b u,H b=some u->b ∉ ch:=fun b u e z=>by rw [(hch b z).1] at e; cases e
 refine I.step (g':=s.gens) (d':=s.drawn) (ch:=ch) (fun b hb=>⟨(hch b hb).2.2.2.1,(hch b hb).2.1,(hch b hb).2.2.2.2.1,(hch b hb).2.2.2.2.2⟩) (fun b o _ _ hc e _=>k b o hc e) (fun b o _ _ hc e _=>⟨o.slots,k b o hc e⟩) (fun _ _ _ _ n=>n)
  (fun b o hc e=>⟨o,k b o hc e⟩) (fun _ _ e=>e) (fun _ _ _ e=>e) (fun b ps e=>⟨#[],by rw [e]; simp⟩) (fun m hm=>?_) (fun b u e=>?_) I.bare
 ·obtain ⟨o,es,ep,ho,r⟩:=hm;exact ⟨o,es,ep,k _ o (fun z=>(hch _ z).2.1 rfl) ho,r⟩
 ·refine (I.hok b u e).stay (fun c v hc q=>k c v ?_ q) (fun _ q=>q) fun _ _ q=>q;rcases hc with z | z
  ·rw [z]; exact nch b u e
  ·exact nch c _ z
theorem Inv.pair {X:Cx} {pins:List (Addr×Obj)} {σ:St} {H:Hp} {s:Shared} {g:Heap} {tk n:Nat} {ch:List Addr} {x y:V} {u v:Value} (I:Inv X pins σ H s) (k:∀ b o,b ∉ ch->s.heap.get? b=some o->g.get? b=some o) (hch:∀ b ∈ ch,Gn X pins H b)
  (rx:AX x u) (ry:AX y v) (e:g.get? s.heap.objs.size=some { cls:=.type "tuple",data:=.seq #[u,v] n }):H s.heap.objs.size=none/\Inv X pins σ (upd H s.heap.objs.size (.tup [x,y])) { s with heap:=g,toks:=tk }:=by
 have f:=I.fpOk (Nat.le_refl _) I.fresh;refine ⟨f.1,(I.turnedL (tk:=tk) k hch).track f.1 (Heap.get?_none_of_le I.sz) (Heap.get?_none_of_le (Nat.le_trans I.ok.bsz I.sz)) (Ne.symm f.2.1) f.2.2.2.2.1 f.2.2.2.2.2 (fun b hb z=>f.2.2.1 (z ▸ hb)) ?_⟩;exact ⟨by show 2<=sizeLine; decide,[u,v],.cons rx (.cons ry .nil),_,e,rfl,n,rfl⟩
theorem Inv.sq {X:Cx} {pins:List (Addr×Obj)} {σ:St} {H:Hp} {s:Shared} {b:Bool} {a:Addr} {xs:List V} (I:Inv X pins σ H s) (h:SqX X.K b H a xs):∃ its:List Value,AJ xs its/\Fs b s.heap a its.toArray:=by
 cases b with
 | true =>
  obtain ⟨its,r,p,_⟩:=I.tuple h;exact ⟨its,r,p⟩
 | false =>
  obtain ⟨its,r,p,_⟩:=I.list h;exact ⟨its,r,p.isList⟩
theorem Inv.sq_inj {X:Cx} {pins:List (Addr×Obj)} {σ:St} {H:Hp} {s:Shared} {b:Bool} {a:Addr} {xs ys:List V} (I:Inv X pins σ H s) (h:SqX X.K b H a xs) (h':SqX X.K b H a ys):xs=ys:=by
 cases b with
 | true=>exact I.tuple_inj h h'
 | false=>exact I.list_inj h h'
end
end L2
namespace L2
open PySem PySem.Spec PyProof.Rows
theorem Fs.obj {b:Bool} {h:Heap} {l:Addr} {vs:Array Value} (x:Fs b h l vs):∃ o,h.get? l=some o:=by
 cases b with
 | true=>obtain ⟨o,e,_⟩:=x; exact ⟨o,e⟩
 | false=>obtain ⟨o,e,_⟩:=x; exact ⟨o,e⟩
theorem QW (g1:Heap) (n:Nat) (e1:g1.objs.size=n+1):∃ g2,g2=g1.push { cls:=.type "enumerate",data:=.fields #[.none,.bool false,.ref n,rawInt 0,.none,.none] }/\IsEnum g2 (n+1) n 0 .none/\∀ a o,g1.get? a=some o->g2.get? a=some o:=by
 refine ⟨_,rfl,?_,fun a o e=>Heap.get?_push_of_some _ e⟩;have q:=Heap.get?_push_size g1 (o:={ cls:=.type "enumerate",data:=.fields #[.none,.bool false,.ref n,rawInt 0,.none,.none] }) rfl;rw [e1] at q;exact q
set_option maxHeartbeats 1000000 in
theorem OO {b:Bool} (l:Addr) (xs:Array Value):Meets (Builtin.«enumerate.__new__» ⟨[.type "enumerate",.ref l],[]⟩) (fun _ R s=>Fs b s.heap l xs /\
   ∀ g,IsEnum g (s.heap.objs.size+1) s.heap.objs.size 0 .none->Ft b g s.heap.objs.size l 0->(∀ a o,s.heap.get? a=some o->g.get? a=some o)->R (.ok (.ret (.ref (s.heap.objs.size+1)))) { s with heap:=g }) :=
 .of_wp fun prog w A R s h=>by
  obtain ⟨hp,g,d,tk,os⟩:=s;obtain ⟨hl,h⟩:=h;obtain ⟨ol,eol⟩:=hl.obj;have hsub:=sub_enumerate;have fin:∀ g1,Ft b g1 hp.objs.size l 0->g1.objs.size=hp.objs.size+1->(∀ c o,hp.get? c=some o->g1.get? c=some o)->∃ v,Fin.done (Flow.ret (.ref g1.objs.size))=Fin.done (Flow.ret v)/\R (.ok (.ret v)) ⟨g1.push { cls:=.type "enumerate",data:=.fields #[.none,.bool false,.ref hp.objs.size,rawInt 0,.none,.none] },g,d,tk,os⟩:=fun g1 i1 z1 k1=>by
   obtain ⟨g2,e2,a1,k2⟩:=QW g1 hp.objs.size z1;refine ⟨_,rfl,?_⟩;have key:=h g2 a1 (i1.move fun o e=>k2 _ o e) fun a o e=>k2 _ _ (k1 _ _ e);dsimp only at key;rw [e2,<-z1] at key;exact key
  wp_walk using AutoSeq1.wpAny_loadPart' eol
  refine wpAny_stack_any fun st=>wpAny_pure ?_;split
  ·rename_i c' _ _ _ _ _;cases (c' == Value.type "enumerate")
   ·wp_walk using AutoSeq1.wpAny_loadPart' eol,GM hl
    intro g1 i1 z1 k1
    wp_walk
    exact fin g1 i1 z1 k1
   ·wp_walk using AutoSeq1.wpAny_loadPart' eol,GM hl
    intro g1 i1 z1 k1
    wp_walk
    exact fin g1 i1 z1 k1
  ·wp_walk using AutoSeq1.wpAny_loadPart' eol,GM hl
   intro g1 i1 z1 k1
   wp_walk
   exact fin g1 i1 z1 k1
theorem LZ {prog:Program} {w:World} {A:Around} {b:Bool} (hA:A.handled=none) (I l:Addr) (ne:l≠I) (vs:Array Value) :
  Draws prog w A I [I,l] vs.size (fun k v=>vs[k]?=some v) (fun k h=>Ft b h I l k/\Fs b h l vs) where
 live:=fun _ _ st=>let ⟨o,ho,_⟩:=st.1.there; ⟨o,ho⟩
 frame:=fun _ _ _ st hk=>⟨st.1.move fun o e=>hk I (by simp) o e,st.2.move fun o e=>hk l (by simp) o e⟩
 item:=fun k s Q E hi st hQ=>Ja st.1 st.2 (v:=vs[k]) (by simp [hi]) fun g hI sb=>hQ _ g s.toks (by simp [hi]) ⟨hI,st.2.move fun o e=>(sb.2 l ne).trans e⟩ sb
 done:=fun s Q E st hE=>JK hA st.1 st.2 (by simp) hE
def Ite (K:PySem.W.Frag) (b:Bool) (l:Addr):It :=
 ⟨fun i H=>∃ xs x,SqX K b H l xs/\xs[i]?=some x,
  fun i H v H'=>∃ (T:Addr) (x:V),v=.ref T/\H T=none/\H'=upd H T (.tup [.int i,x])/\∀ xs,SqX K b H l xs->xs[i]?=some x,
  fun i H=>∃ xs,SqX K b H l xs/\xs.length=i⟩
theorem Qk {P:Program} {w:World} {K:PySem.W.Frag} {es:List Expr} {n:Nat} {tpos:Pos} {b:Bool} {e I l:Addr} (eI:e≠I) (le:l≠e) (lI:l≠I) :
  Oq P w K (.Tuple es n tpos) (Ite K b l) [e,I] e (fun k h=>(∃ old,IsEnum h e I k old)/\Ft b h I l k) where
 mem:=by simp
 obj:=fun k h st a ha=>by
  obtain ⟨⟨old,he⟩,hI⟩:=st;simp only [List.mem_cons,List.not_mem_nil,or_false] at ha;rcases ha with rfl | rfl
  ·exact ⟨_,he,fun v t=>by cases t⟩
  ·exact hI.there
 keep:=fun k h h' st kp=>by
  obtain ⟨⟨old,he⟩,hI⟩:=st;exact ⟨⟨old,kp e (by simp) _ he⟩,hI.move fun o t=>kp I (by simp) o t⟩
 item:=by
  intro X hP hw hK hc k pins s σ H E J hf st hg;subst hP hw hK;obtain ⟨⟨old,he⟩,hI⟩:=st;obtain ⟨xs,x,sx,hx⟩:=hg;obtain ⟨us,ru,ou⟩:=J.sq sx;have lu:=ru.length;have hk:k < xs.length:=(List.getElem?_eq_some_iff.mp hx).1;refine wpAny_pyNext_enum_itemD (LZ (b:=b) (A:=X.A.in1) (J.ok.hd hc) I l lI us.toArray) he ⟨hI,ou⟩ (by simp; lia) eI (by simp [eI,Ne.symm le]) fun u g tk hu gE gS gT gs gk=>⟨_,rfl,?_⟩
  obtain ⟨u',hu',rxu⟩:=ru.get hx;have eu:u=u':=by
   have:us[k]?=some u:=by simpa using hu
   rw [hu'] at this;exact (Option.some.inj this).symm
  subst eu;refine wpAny_letOwnedTupleGo_enum (s:={ s with heap:=g,toks:=tk+1 }) gE fun g2 gE2 sb=>?_;have elt:e < s.heap.objs.size:=Heap.lt_size he;have kk:∀ a o,a ∉ [e,I]->s.heap.get? a=some o->g2.get? a=some o:=fun a o ha t=>(sb.2 a (fun z=>ha (by simp [z]))).trans (gk a o (fun z=>ha (by simp [z])) (fun z=>ha (by simp [z])) t);obtain ⟨nT,J2⟩:=J.pair (tk:=tk+1) (x:=.int k) (u:=.int k tk) kk hf ⟨tk,rfl⟩ rxu ((sb.2 _ (Nat.ne_of_gt elt)).trans gT);refine ⟨.ref s.heap.objs.size,_,J2,rfl,⟨_,x,rfl,nT,rfl,fun xs' q'=>by rw [J.sq_inj q' sx]; exact hx⟩,⟨⟨_,by simpa using gE2⟩,gS.1.move fun o t=>(sb.2 I (Ne.symm eI)).trans t⟩,fun a ha=>?_⟩;have t:=(hf a ha).1;have lt:a≠s.heap.objs.size:=by
   simp only [List.mem_cons,List.not_mem_nil,or_false] at ha;rcases ha with z | z<;>subst z
   ·exact Nat.ne_of_lt elt
   ·obtain ⟨o,t,_⟩:=hI.there; exact Nat.ne_of_lt (Heap.lt_size t)
  rw [Az lt];exact t
 done:=by
  intro X hP hw hK hc k pins s σ H E J hf st hg;subst hP hw hK;obtain ⟨⟨old,he⟩,hI⟩:=st;obtain ⟨xs,sx,hend⟩:=hg;obtain ⟨us,ru,ou⟩:=J.sq sx;have lu:=ru.length;have ek:k=us.toArray.size:=by simp; lia
  refine wpAny_pyNext_enum_endD (LZ (b:=b) (A:=X.A.in1) (J.ok.hd hc) I l lI us.toArray) he ⟨ek ▸ hI,ou⟩ fun g gk=>⟨rfl,?_⟩
  exact J.turnedL (tk:=s.toks) (ch:=[e,I]) (fun a o ha t=>gk a o (fun z=>ha (by simp [z])) t) hf
 self:=fun A i s Q E st h=>by
  obtain ⟨⟨old,he⟩,_⟩:=st;exact wpAny_pyIter_enum he h
section
variable {X:Cx} {es:List Expr} {n:Nat} {tpos p pos:Pos} {e1 e2:Expr} {t:TA}
theorem Fs.lt {b:Bool} {h:Heap} {l:Addr} {vs:Array Value} (x:Fs b h l vs):l < h.objs.size:=by
 cases b with
 | true=>obtain ⟨o,e,_⟩:=x; exact Heap.lt_size e
 | false=>obtain ⟨o,e,_⟩:=x; exact Heap.lt_size e
def iEnum (b:Bool) (K:PySem.W.Frag) (t:TA):TI:=fun σ H R=>t σ H fun vs H1=>∃ (l:Addr),vs=[.ref l]/\(∃ xs,SqX K b H1 l xs)/\R (Ite K b l) H1
theorem Gq (b:Bool) (hg:Gl X "enumerate") (hm:X.mg "enumerate" = none) (ha:PA X [e1] t) (hs:starEach [e1] X.env=[(false,eval e1 X.env)]:=by rfl) :
  PI X (.Tuple es n tpos) (.Call (.Name "enumerate" p) [e1] [] pos) (iEnum b X.K t):=by
 intro pins s σ H R I h;refine Call_ (IE I hg hm PyProof.Rows.boot_enumerate (PyProof.Rows.callWith_type1 (thn (ha pos pins s σ H _ I h) fun us s1 ⟨vs,H1,I1,r1,q1⟩=>?_) hs rfl));obtain ⟨l,rfl,⟨xs,sx⟩,q⟩:=q1;obtain ⟨u,rfl,ru⟩:=r1.one;cases (show u=Value.ref l from ru);obtain ⟨ul,_,ol⟩:=I1.sq sx;refine callType_new F.called_enumerate (by decide) (F.typeCall_enumerate_1 _) (F.newCall_enumerate_1 _) (fun obj=>F.args_object_init_2 obj _) F.entry_enumerate_new (OO (b:=b) l ul.toArray) ⟨ol,fun g gE gi gk=>?_⟩;refine ⟨⟨_,gE,rfl⟩,wpAny_pyIter_enum (s:={ s1 with heap:=g }) gE ?_⟩;have ll:=ol.lt;refine ⟨s1.heap.objs.size+1,_,_,_,H1,rfl,I1.kept (t':=s1.toks) gk,Qk (e:=s1.heap.objs.size+1) (I:=s1.heap.objs.size) (l:=l) (Nat.succ_ne_self _) (Nat.ne_of_lt (Nat.lt_succ_of_lt ll)) (Nat.ne_of_lt ll),⟨⟨_,gE⟩,gi⟩,fun a ha=>?_,q⟩;have le:s1.heap.objs.size<=a:=by
  simp only [List.mem_cons,List.not_mem_nil,or_false] at ha;rcases ha with t | t<;>rw [t]<;>first | exact Nat.le_refl _ | exact Nat.le_add_right _ _
 exact I1.fpOk le (I1.hok.fresh le)
end
section
variable {K:PySem.W.Frag} {b c:Bool} {l m:Addr} {xs ys:List V} {σ:St} {H:Hp}
theorem IT {K:PySem.W.Frag} {i j:Nat} {T:Addr} {x y:V} {σ:St} {H:Hp} {Q:St->Hp->Prop} (h:H T=some (.tup [x,y])) (q:Q ((σ.set i (some x)).set j (some y)) H):gTup K 2 (IU (GH i) (IU (GH j) gNil)) (.ref T) σ H Q :=
 ⟨T,_,rfl,SqT.of h,rfl,x,_,rfl,y,_,rfl,rfl,q⟩
theorem Gf {g:TG} {tb:TS} {D:Ll} (Pv:Nat->St->Hp->Prop) (h0:Pv 0 σ H) (hl:∀ i σ H,i<=xs.length->Pv i σ H->SqX K b H l xs)
  (hs:∀ i x σ H T,xs[i]?=some x->Pv i σ H->H T=none->g (.ref T) σ (upd H T (.tup [.int i,x])) fun σ2 H2=>tb { D with nx:=Pv (i+1),ct:=Pv (i+1),bk:=D.nx } σ2 H2) (hd:∀ σ H,Pv xs.length σ H->D.nx σ H) :
  ∃ W:Nat->Nat->St->Hp->Prop,(∃ m,W 0 m σ H)/\∀ i m σ H,W i m σ H ->
   ((Ite K b l).stop i H/\D.nx σ H)\/((Ite K b l).go i H/\∃ N:St->Hp->Prop,(∀ σ' H',N σ' H'->∃ m',m' < m/\W (i+1) m' σ' H')/\∀ x H',(Ite K b l).yld i H x H'->g x σ H' fun σ2 H2=>tb { D with nx:=N,ct:=N,bk:=D.nx } σ2 H2):=by
 refine ⟨fun i m σ H=>m=xs.length - i/\i<=xs.length/\Pv i σ H,⟨xs.length,by simp,Nat.zero_le _,h0⟩,?_⟩;rintro i m σ H ⟨rfl,hi,p⟩;have q:=hl i σ H hi p;by_cases hlt:i < xs.length
 ·refine .inr ⟨⟨xs,xs[i],q,by simp [hlt]⟩,Pv (i+1),fun σ' H' p'=>⟨xs.length - (i+1),by lia,rfl,hlt,p'⟩,fun x H' y=>?_⟩;obtain ⟨T,z,rfl,nT,rfl,hz⟩:=y;exact hs i z σ _ T (hz xs q) p nT
 ·have e:i=xs.length:=by lia
  subst e;exact .inl ⟨⟨xs,q,rfl⟩,hd σ H p⟩
variable {k:Nat} {cs:List Nat} {g:TG} {tc:TT} {te:TE} {fin:List V->Hp->Prop}
theorem blk_str {x:Str} (Pv:Nat->List V->Hp->Prop) (h0:Pv 0 [] H) (hs:∀ i ch acc H,x.cps.toList[i]?=some ch->Pv i acc H->Bt k cs g tc te σ (.str ⟨#[ch]⟩) acc H (Pv (i+1))) (hd:∀ acc H,Pv x.cps.toList.length acc H->fin acc H):Fu k cs g tc te (Its x) σ H fin:=by
 have e0:x.cps.toList.length=x.cps.size:=by simp
 refine ⟨fun i m acc H=>m=x.cps.size - i/\i<=x.cps.size/\Pv i acc H,⟨x.cps.size,by simp,Nat.zero_le _,h0⟩,?_⟩;rintro i m acc H ⟨rfl,hi,p⟩;by_cases hlt:i < x.cps.size
 ·refine .inr ⟨hlt,Pv (i+1),fun acc' H' p'=>⟨x.cps.size - (i+1),by lia,rfl,hlt,p'⟩,fun v H' y=>?_⟩;obtain ⟨e,ch,hch,rfl⟩:=y;subst e;exact hs i ch acc _ (by simpa using hch) p
 ·have e:i=x.cps.size:=by lia
  subst e;exact .inl ⟨rfl,hd acc H (by rw [e0]; exact p)⟩
end
end L2
namespace L2
open PySem PySem.Spec PyProof.Rows
theorem rm {a b:Nat} {A:Around} (h:CF b A) (hle:a<=b:=by first | decide | lia):CF a A:=h.mono hle
structure Cal (P:Program) (w:World) (K:PySem.W.Frag) (mg:Str->Option Value) (base:Heap) (CX:CXT) (k:Nat) (x:Str) (ps:List Str) (sp:Sp):Prop where
 ex:∃ (f:Addr) (fd:FuncData),AI P w K mg base CX k f fd ps sp/\mg x=some (.ref f)/\PySem.W.keepIn K (.ref f)=true/\DN K fd ps []
structure Cy (P:Program) (w:World) (K:PySem.W.Frag) (mg:Str->Option Value) (base:Heap) (CX:CXT) (k:Nat) (C:Addr) (m:Str) (ps:List Str) (sp:Sp):Prop where
 ex:∃ (f:Addr) (fd:FuncData),AI P w K mg base CX k f fd ps sp/\Lj K C m f/\DN K fd ps []
 cl:Cls K C
structure CalC (P:Program) (w:World) (K:PySem.W.Frag) (mg:Str->Option Value) (base:Heap) (CX:CXT) (k:Nat) (x:Str) (C:Addr) (ps:List Str) (sp:Sp):Prop where
 ex:∃ (f:Addr) (fd:FuncData),AI P w K mg base CX k f fd ps sp/\Mk K C f/\mg x=some (.ref C)/\DN K fd ps []
section
variable {X:Cx} {CX:CXT} {k:Nat} {C:Addr} {ps:List Str} {sp:Sp} {E:XK} {x m:Str} {p pos apos:Pos} {e o:Expr} {es:List Expr} {ta:TE} {t:TA}
theorem Ap (c:Cal X.prog X.w X.K X.mg X.base CX k x ps sp) (hr:CF k X.A) (hg:Gl X x) (hx:EY CX X E) (ha:PA X (e :: es) t) (hdb:(x == ("__debug__" : Str))=false:=by decide)
  (he:starEach (e :: es) X.env=(false,eval e X.env) :: starEach es X.env:=by rfl) (hpl:(backTo pos (starEach es X.env)).any (·.1)=false:=by rfl):PE X (.Call (.Name x p) (e :: es) [] pos) (Pq sp [] E t):=by
 obtain ⟨f,fd,F,hm,hk,hb⟩:=c.ex;exact pe_call F hr hg hm hk hb .nil hx ha hdb he hpl
theorem AG {pl:Sem Bool} (he:PE X o ta) (c:Cy X.prog X.w X.K X.mg X.base CX k C m ps sp) (hr:CF k X.A) (hx:EY CX X E) (ha:PA X (e :: es) t)
  (hst:starEach (e :: es) X.env=(false,eval e X.env) :: starEach es X.env:=by rfl) (hpl:(backTo pos (starEach es X.env)).any (·.1)=false:=by rfl)
  (ht:eval (.Call (.Attribute o m apos) (e :: es) [] pos) X.env=(do
   let ov <-eval o X.env; standAt apos.atName;let (f,first) <-holding [ov] (getMethod ov m pl); callWith pos f first (backTo pos (starEach (e :: es) X.env)) (backToKw pos (keywordEach [] X.env))):=by rfl):PE X (.Call (.Attribute o m apos) (e :: es) [] pos) (tMeth C m sp [] E ta t):=by
 obtain ⟨f,fd,F,hm,hb⟩:=c.ex;exact pe_meth he c.cl hm F hr hb .nil hx ha hst hpl ht
theorem NL (c:CalC X.prog X.w X.K X.mg X.base CX k x C ps sp) (hr:CF (k+1) X.A) (hg:Gl X x) (hx:EY CX X E) (hdb:(x == ("__debug__" : Str))=false:=by decide):PE X (.Call (.Name x p) [] [] pos) (tMake C sp [] E tNil):=by
 obtain ⟨f,fd,F,M,hm,hb⟩:=c.ex;exact RT M F hr hg hm hb .nil hx hdb
theorem Cw {i:Int} (hg:Gl X x) (hm:∃ tk,X.mg x=some (.int i tk)) (hd:(x == ("__debug__" : Str))=false:=by decide):PE X (.Name x pos) (tC (.int i)):=by
 obtain ⟨tk,hm⟩:=hm;exact MC hg hm ⟨tk,rfl⟩ hd
theorem Gr {z:Str} (hg:Gl X x) (hm:∃ tk,X.mg x=some (.str z tk)) (hd:(x == ("__debug__" : Str))=false:=by decide):PE X (.Name x pos) (tC (.str z)):=by
 obtain ⟨tk,hm⟩:=hm;exact MC hg hm ⟨tk,rfl⟩ hd
theorem CP {a:Addr} (hg:Gl X x) (hm:X.mg x=some (.ref a)) (hd:(x == ("__debug__" : Str))=false:=by decide):PE X (.Name x pos) (tC (.ref a)):=MC hg hm rfl hd
end
def cOk (So:Scope) (No:List Str) (scope:Scope) (N:List Str) (k:Nat) (cs:List Nat):Bool :=
 scope.names.all (fun y=>y.2 != .cell) && (scope.kind == .function && (scope.names.all (fun y=>y.2 != .local || scope.names.lookup y.1 == some .local) && (scope.names.all (fun y=>y.2 != .free || (So.names.lookup y.1 == some .cell || So.names.lookup y.1 == some .free)) &&
  (N.length == k+cs.length && (List.range cs.length).all fun j=>match N[k+j]?,No[cs.getD j 0]? with
   | some x,some y=>x == y && scope.names.lookup x == some .free
   | _,_=>false))))
theorem DX.of {X:Cx} {So:Scope} {No:List Str} {scope:Scope} {N:List Str} {k:Nat} {cs:List Nat} (hS:X.env.scope=So) (hN:X.N=No) (h:cOk So No scope N k cs=true):DX X scope N k cs:=by
 subst hS hN;unfold cOk at h;simp only [Bool.and_eq_true,List.all_eq_true,bne_iff_ne,ne_eq,Bool.or_eq_true,beq_iff_eq,List.mem_range] at h;obtain ⟨h1,h2,h3,h4,h5,h6⟩:=h;refine ⟨h1,h2,fun y hy e=>?_,fun y hy e=>?_,h5,fun j hj=>?_⟩
 ·rcases h3 y hy with z | z
  ·exact absurd e z
  ·exact z
 ·rcases h4 y hy with z | z
  ·exact absurd e z
  ·exact z
 ·have z:=h6 j hj;split at z
  ·rename_i x y e1 e2;simp only [Bool.and_eq_true,beq_iff_eq] at z;obtain ⟨z1,z2⟩:=z;subst z1;exact ⟨x,e1,e2,z2⟩
  ·cases z
theorem Qi {σ:St} {H:Hp} {A B:Hp->Prop} (h:A H):tYes σ H fun b H3=>if b=true then A H3 else B H3:=by
 show if true=true then A H else B H;exact Cg h
theorem Nj {tb:TE} {σ:St} {H:Hp} {Q:VK} {b1 b2:Bool} (h2:b1=true->∀ Q':VK,Q' (.bl b2) H->tb σ H Q') (q:Q (.bl (b1 && b2)) H):∃ c,V.bl b1=.bl c/\if c=true then tb σ H Q else Q (.bl false) H:=by
 cases b1 with
 | true=>exact ⟨true,rfl,Cg (h2 rfl Q q)⟩
 | false=>exact ⟨false,rfl,Bb q⟩
theorem Rp {u:TT} {σ:St} {H:Hp} {Q:Bool->Hp->Prop} {b1 b2:Bool} (h2:b1=true->∀ Q':Bool->Hp->Prop,Q' b2 H->u σ H Q') (q:Q (b1 && b2) H):if b1=true then u σ H Q else Q false H:=by
 cases b1 with
 | true=>exact Cg (h2 rfl Q q)
 | false=>exact Bb q
section
variable {X:Cx} {scope:Scope} {N:List Str} {s:Shared} {H:Hp} {ex:List Addr} {x y:Str} {px py pos:Pos} {k:Nat}
theorem EI {i:Nat} (hN:N.Nodup) (hi:N[i]?=some x) (hl:(relabel scope X.env).names.lookup x=some .local):PG (cxC X scope N s H ex) (.Name x pos) (GH i):=AY (X:=cxC X scope N s H ex) hN hi (.inl hl) (.inr hl)
theorem RP {i j:Nat} (hc:X.calm=true) (hN:N.Nodup) (hi:N[i]?=some x) (hj:N[j]?=some y) (hl:(relabel scope X.env).names.lookup x=some .local) (hm:(relabel scope X.env).names.lookup y=some .local) :
  PG (cxC X scope N s H ex) (.Tuple [.Name x px,.Name y py] k pos) (gTup X.K 2 (IU (GH i) (IU (GH j) gNil))) :=
 FB (X:=cxC X scope N s H ex) hc (Be (EI hN hi hl) (Be (EI hN hj hm) El))
end
section
variable {X:Cx}
theorem Id:MtR X "str.partition" (fun x xs H Q=>∃ a b,x=.str a/\xs=[.str b]/\(b.length == 0)=false/\a.length<=100000/\∀ p,H p=none->Q (.ref p) (upd H p (.tup [.str (Txt.partition a b).1,.str (Txt.partition a b).2.1,.str (Txt.partition a b).2.2]))):=by
 intro pins s σ H x xs v us Q I rx r h;obtain ⟨a,b,rfl,rfl,hb,ha,q⟩:=h;obtain ⟨t,rfl⟩:=rx;obtain ⟨u,rfl,hu⟩:=r.one;obtain ⟨tb,rfl⟩:=hu;have fin:∀ (its:List Value) (tk:Nat),AJ [.str (Txt.partition a b).1,.str (Txt.partition a b).2.1,.str (Txt.partition a b).2.2] its->EP X pins σ Q (.ref s.heap.objs.size) { s with heap:=s.heap.push { cls:=.type "tuple",data:=.seq its.toArray },toks:=tk }:=fun its tk hv =>
  ⟨.ref _,_,I.laid (t':=tk) (o:=.tup [.str (Txt.partition a b).1,.str (Txt.partition a b).2.1,.str (Txt.partition a b).2.2]) (fun _ _ e=>Heap.get?_push_of_some _ e) (Nat.le_refl _) ⟨by show 3<=sizeLine; decide,its,hv,_,Heap.get?_push_size _ rfl,rfl,_,rfl⟩,rfl,q _ I.fresh⟩
 refine call_meets F.slot_str_partition (typeIs_str _ _ _) F.entry_str_partition (F.args_str_partition_2 _ _) (meets_str_partition a b t tb hb (Nat.le_trans ha (by decide))) ?_;show EP X pins σ Q _ _;cases e:Builtin.Str.occurrences a b 0 a.length 1 with
 | nil =>
  refine fin _ _ ?_;unfold Txt.partition;rw [e];exact .cons ⟨_,rfl⟩ (.cons ⟨_,rfl⟩ (.cons ⟨_,rfl⟩ .nil))
 | cons i l =>
  refine fin _ _ ?_;unfold Txt.partition;rw [e];exact .cons ⟨_,rfl⟩ (.cons ⟨_,rfl⟩ (.cons ⟨_,rfl⟩ .nil))
theorem AJ.tstrs:∀ {l:List Str} {its:List Value},AJ (l.map V.str) its->∃ ts:List (Str×Tok),its=strValues ts/\ts.map (·.1)=l
 | [],_,.nil=>⟨[],rfl,rfl⟩
 | x :: r,_,.cons ⟨t,e⟩ rr=>by
  obtain ⟨ts,e1,e2⟩:=AJ.tstrs rr;subst e e1;exact ⟨(x,t) :: ts,rfl,by rw [List.map_cons,e2]⟩
theorem mt_join:MtR X "str.join" (fun x xs H Q=>∃ (sep:Str) (p:Addr) (l:List Str),x=.str sep/\xs=[.ref p]/\SqL X.K H p (l.map V.str)/\JoinOk sep l=true/\Q (.str (Str.join sep l)) H):=by
 intro pins s σ H x xs v us Q I rx r h;obtain ⟨sep,p,l,rfl,rfl,hl,hok,q⟩:=h;obtain ⟨t,rfl⟩:=rx;obtain ⟨u,rfl,hu⟩:=r.one;cases (show u=Value.ref p from hu);obtain ⟨its,rv,pl,_⟩:=I.list hl;obtain ⟨ts,rfl,e⟩:=AJ.tstrs rv;refine SC.join (texts:=l) pl.isList e hok fun t' k=>⟨.str _,H,I.tok k,⟨t',rfl⟩,?_⟩
 have:Txt.join sep l=Str.join sep l:=StrLaws.glued_eq_join sep l;rw [this];exact q
end
end L2
namespace L2
open PySem
section
variable {X:Cx} {es es':List Expr} {t t':TA} {pos:Pos}
theorem BY {i:Int} {j} (hr:PA X es t):PA X (.Constant (.int i) j pos :: es) (Nr (tC (.int i)) t):=Aa Ag hr
theorem CA {z:Str} {j} (hr:PA X es t):PA X (.Constant (.str z) j pos :: es) (Nr (tC (.str z)) t):=Aa Cv hr
theorem DA {x1} (h:PA X es' t') (hr:PA X es t):PA X (.Tuple es' x1 pos :: es) (Nr (tTup t') t):=Aa (FC h) hr
theorem Ek {op:Operator} {r:R2} {a b:Expr} {ta tb:TE} (ho:OpR X (binaryOp op) r) (ha:PE X a ta) (hb:PE X b tb) (hr:PA X es t):PA X (.BinOp a op b pos :: es) (Nr (tOp r ta tb) t):=Aa (AA ho ha hb) hr
theorem SN {K:PySem.W.Frag} (h:X.K=K):IxR X (rIxL K):=h ▸ AZ
end
end L2
namespace Nu
open PySem PySem.NumText PyProof.Rows
theorem ext {a b:Str} (h:a.cps.toList=b.cps.toList):a=b:=by
 obtain ⟨⟨l⟩⟩:=a;obtain ⟨⟨r⟩⟩:=b;cases h;rfl
theorem len (x:Str):x.length=x.cps.toList.length:=by simp [Str.length]
theorem cutFrom (x:Str) (i:Int) (h0:0<=i):(Txt.slice x (some i) none).cps.toList=x.cps.toList.drop i.toNat:=by
 by_cases h:i<=x.length
 ·rw [slice_from_eq (x:=x) (i:=i) (b:=(x.length:Int)) h0 h rfl];show ((x.cps.toList.drop i.toNat).take _)=_;refine List.take_of_length_le ?_;rw [List.length_drop,<-len];omega
 ·rw [slice_beyond (x:=x) (i:=i) (by omega)];rw [List.drop_eq_nil_of_le (by rw [<-len]; omega)];rfl
theorem cut1' (x:Str):(Txt.slice x (some 1) none).cps.toList=x.cps.toList.drop 1:=cutFrom x 1 (by decide)
def neg:List Nat->Bool
 | 45 :: _=>true
 | _=>false
def fig:List Nat->List Nat
 | 45 :: r=>r
 | cs=>cs
theorem MJ (cs:List Nat):neg cs=true ↔ cs.take 1=[45]:=by
 cases cs with
 | nil=>simp [neg]
 | cons c r =>
  by_cases h:c=45
  ·subst h; simp [neg]
  ·simp [neg,h]
theorem Lb {cs:List Nat} (h:neg cs=true):fig cs=cs.drop 1/\cs=45 :: fig cs:=by
 cases cs with
 | nil=>simp [neg] at h
 | cons c r =>
  by_cases z:c=45
  ·subst z; exact ⟨rfl,rfl⟩
  ·simp [neg,z] at h
theorem FK {cs:List Nat} (h:neg cs=false):fig cs=cs:=by
 cases cs with
 | nil=>rfl
 | cons c r =>
  by_cases z:c=45
  ·subst z; simp [neg] at h
  ·simp [fig,z]
def dig (c:Nat):Bool:=decide (48<=c) && decide (c<=57)
def due (cs:List Nat):Option Int :=
 if fig cs=[]\/30 < (fig cs).length\/((fig cs).head?=some 48/\cs≠[48]) then none
 else if (fig cs).all dig=true then some (if neg cs=true then -((digitsVal (fig cs):Nat):Int) else ((digitsVal (fig cs):Nat):Int)) else none
theorem all_dig {cs:List Nat} (h:cs.all dig=true):AllDigits cs:=fun c hc=>by
 have:=List.all_eq_true.mp h c hc;simp [dig] at this;exact this
theorem SQ {x:Str} {n:Int} (h:due x.cps.toList=some n):PySem.intText? x=some n:=by
 unfold due at h;split at h
 ·cases h
 ·rename_i hc;split at h
  ·rename_i ha;have hd:=all_dig ha;have hne:fig x.cps.toList≠[]:=fun z=>hc (.inl z);have hl:(fig x.cps.toList).length<=30:=Nat.le_of_not_lt fun z=>hc (.inr (.inl z));cases hn:neg x.cps.toList with
   | true =>
    rw [hn] at h;obtain ⟨_,e⟩:=Lb hn;have:=intText_neg (x:=x) e hd hne (by rw [len,e,List.length_cons]; omega);rw [this]
    simpa using h
   | false =>
    rw [hn] at h;rw [FK hn] at hd hne hl h;rw [intText_digits (x:=x) hd hne (by rw [len]; omega)]
    simpa using h
  ·cases h
theorem QX (c:Nat):decide (c ∈ (Str.ofString "0123456789").cps.toList)=dig c:=by
 have e:(Str.ofString "0123456789").cps.toList=[48,49,50,51,52,53,54,55,56,57]:=by decide +kernel
 rw [e,Bool.eq_iff_iff];simp [dig];omega
theorem LV (c:Nat):(!(Builtin.Str.occurrences (Str.ofString "0123456789") ⟨#[c]⟩ 0 (Str.ofString "0123456789").length 1).isEmpty)=dig c:=by
 rw [StrLaws.found_one,QX]
theorem starts (x:Str):Txt.startswith x (Str.ofString "-")=neg x.cps.toList:=by
 have e1:(Str.ofString "-").cps=#[45]:=by decide +kernel
 have e2:(Str.ofString "-").length=1:=by decide +kernel
 unfold Txt.startswith Builtin.Str.subAt;rw [e1,e2];obtain ⟨⟨l⟩⟩:=x;cases l with
 | nil=>rfl
 | cons c r =>
  have h1:(decide (0+1<=(⟨⟨c :: r⟩⟩:Str).length))=true:=by simp [Str.length]
  rw [h1,Bool.true_and,Bool.eq_iff_iff,MJ,beq_iff_eq];constructor
  ·intro z;have:=congrArg Array.toList z
   simpa using this
  ·intro z;apply Array.toList_inj.mp
   simpa using z
end Nu
namespace Tx
open PySem PySem.Builtin PySem.Builtin.Str PyProof.Rows
theorem Ba (a b:Str):(a ++ b).cps.toList=a.cps.toList ++ b.cps.toList:=cps_toList_append a b
def jl (sep:List Nat):List (List Nat)->List Nat
 | []=>[]
 | [x]=>x
 | x :: y :: r=>x ++ sep ++ jl sep (y :: r)
theorem Oe (sep:Str):∀ ts:List Str,(Str.join sep ts).cps.toList=jl sep.cps.toList (ts.map fun t=>t.cps.toList)
 | []=>rfl
 | [x]=>rfl
 | x :: y :: r=>by
  have e:Str.join sep (x :: y :: r)=x ++ sep ++ Str.join sep (y :: r):=rfl;rw [e,Ba,Ba,Oe sep (y :: r)];rfl
theorem PX {c:Nat}:∀ {x y A B:List Nat},c ∉ x->c ∉ y->x ++ c :: A=y ++ c :: B->x=y/\A=B
 | [],[],A,B,_,_,h=>⟨rfl,by simpa using h⟩
 | [],y :: ys,A,B,_,hy,h=>by
  simp at h;exact absurd (by rw [h.1]; exact List.mem_cons_self) hy
 | x :: xs,[],A,B,hx,_,h=>by
  simp at h;exact absurd (by rw [<-h.1]; exact List.mem_cons_self) hx
 | x :: xs,y :: ys,A,B,hx,hy,h=>by
  simp at h;obtain ⟨e,h⟩:=h;obtain ⟨e2,e3⟩:=PX (x:=xs) (y:=ys) (fun z=>hx (List.mem_cons_of_mem _ z)) (fun z=>hy (List.mem_cons_of_mem _ z)) h;exact ⟨by rw [e,e2],e3⟩
theorem FE (c:Nat) (a b:Str) (h:c ∉ a.cps.toList):Txt.partition (a ++ ⟨#[c]⟩ ++ b) ⟨#[c]⟩=(a,⟨#[c]⟩,b):=by
 have hin:c ∈ (a ++ ⟨#[c]⟩ ++ b).cps.toList:=by rw [Ba,Ba]; simp
 have hs:=StrLaws.partition_sum (a ++ ⟨#[c]⟩ ++ b) ⟨#[c]⟩;have hh:=partition_head (a ++ ⟨#[c]⟩ ++ b) ⟨#[c]⟩;have ho:=StrLaws.found_one (a ++ ⟨#[c]⟩ ++ b) c;rw [decide_eq_true hin] at ho;have hp2:(Txt.partition (a ++ ⟨#[c]⟩ ++ b) ⟨#[c]⟩).2.1=⟨#[c]⟩:=by
  unfold Txt.partition;cases e:occurrences (a ++ ⟨#[c]⟩ ++ b) ⟨#[c]⟩ 0 (a ++ ⟨#[c]⟩ ++ b).length 1 with
  | nil=>rw [e] at ho; simp at ho
  | cons i l=>rfl
 have hp1:c ∉ (Txt.partition (a ++ ⟨#[c]⟩ ++ b) ⟨#[c]⟩).1.cps.toList:=by
  rcases hh with ⟨_,no⟩ | ⟨i,e,hA,no⟩
  ·obtain ⟨j,hj⟩:=List.getElem?_of_mem hin;exact absurd ((StrLaws.subAt_one _ c j).mpr hj) (no j)
  ·rw [e];exact StrLaws.part_free _ c 0 i (by have:i+1<=_:=hA.1; omega) fun k _ hk=>no k hk
 have e:(Txt.partition (a ++ ⟨#[c]⟩ ++ b) ⟨#[c]⟩).1.cps.toList ++ (Txt.partition (a ++ ⟨#[c]⟩ ++ b) ⟨#[c]⟩).2.1.cps.toList ++ (Txt.partition (a ++ ⟨#[c]⟩ ++ b) ⟨#[c]⟩).2.2.cps.toList=a.cps.toList ++ [c] ++ b.cps.toList:=by
  have e0:=congrArg (fun z:Str=>z.cps.toList) hs;rw [Ba,Ba,Ba,Ba] at e0;exact e0
 rw [hp2] at e;have e':(Txt.partition (a ++ ⟨#[c]⟩ ++ b) ⟨#[c]⟩).1.cps.toList ++ c :: (Txt.partition (a ++ ⟨#[c]⟩ ++ b) ⟨#[c]⟩).2.2.cps.toList=a.cps.toList ++ c :: b.cps.toList:=by simpa using e
 obtain ⟨e1,e2⟩:=PX hp1 h e';exact Prod.ext (Nu.ext e1) (Prod.ext hp2 (Nu.ext e2))
end Tx
namespace Tx
open PySem PySem.Builtin PySem.Builtin.Str PyProof.Rows
theorem SM:∀ ts:List (List Nat),jl [] ts=ts.flatten
 | []=>rfl
 | [x]=>by simp [jl]
 | x :: y :: r=>by
  show x ++ [] ++ jl [] (y :: r)=_;rw [SM (y :: r)];simp
theorem PK (sep:Str) (m:Nat):∀ (l:List Str) (acc:Nat),(∀ t ∈ l,t.length<=m)->l.foldl (fun a t=>a+t.length+sep.length) acc<=acc+l.length * (m+sep.length)
 | [],acc,_=>by simp
 | t :: r,acc,h=>by
  have h1:=h t List.mem_cons_self;have h2:=PK sep m r (acc+t.length+sep.length) fun z hz=>h z (List.mem_cons_of_mem _ hz);rw [List.foldl_cons,List.length_cons,Nat.succ_mul];omega
theorem join_ok {sep:Str} {l:List Str} (m:Nat) (h:∀ t ∈ l,t.length<=m) (hs:l.length * (m+sep.length)<=100000):JoinOk sep l=true:=by
 unfold JoinOk;have h2:=PK sep m l 0 h;have e:l.toArray.foldl (fun a t=>a+t.length+sep.length) 0=l.foldl (fun a t=>a+t.length+sep.length) 0:=by simp
 rw [e];have:tooLong (l.foldl (fun a t=>a+t.length+sep.length) 0)=false:=by
  unfold tooLong;refine decide_eq_false ?_;have:(100000:Nat)<=sizeLine:=by decide
  omega
 rw [this];rfl
theorem Ni (a b:Str):(a ++ b).length=a.length+b.length:=by
 rw [Nu.len,Nu.len,Nu.len,Ba,List.length_append]
end Tx
namespace Tx
open PySem PySem.Builtin PySem.Builtin.Str PyProof.Rows
end Tx
namespace Tn
open PySem PySem.Builtin PySem.NumText PyProof.Rows
def dg (m:Nat):List Nat:=(Nat.toDigits 10 m).map Char.toNat
theorem dchar:∀ d:Nat,d < 10->(Nat.digitChar d).toNat=48+d:=by decide
theorem Gi {m:Nat} (h:m < 10):dg m=[48+m]:=by
 unfold dg;rw [Nat.toDigits_of_lt_base h,List.map_cons,dchar m h];rfl
theorem Pa {m:Nat} (h:10<=m):dg m=dg (m / 10) ++ [48+m % 10]:=by
 have hm:m % 10 < 10:=Nat.mod_lt m (by decide);have t:Nat.toDigits 10 (m / 10) ++ Nat.toDigits 10 (m % 10)=Nat.toDigits 10 (10 * (m / 10)+m % 10):=Nat.toDigits_append_toDigits (by decide) (by omega) hm;rw [Nat.div_add_mod] at t;have e:dg m=dg (m / 10) ++ dg (m % 10):=by
  unfold dg;rw [<-t,List.map_append]
 rw [e,Gi hm]
theorem IJ (m:Nat):(dg m).all Nu.dig=true:=by
 induction m using Nat.strongRecOn with
 | _ m ih =>
  by_cases h:m < 10
  ·rw [Gi h];simp [Nu.dig];omega
  ·have hm:m % 10 < 10:=Nat.mod_lt m (by decide);rw [Pa (by omega),List.all_append,ih (m / 10) (by omega)];simp [Nu.dig];omega
theorem FL:∀ (k m:Nat),m < 10 ^ (k+1)->(dg m).length<=k+1
 | 0,m,h=>by
  rw [Gi (by simpa using h)];exact Nat.le_refl 1
 | k+1,m,h=>by
  by_cases h10:m < 10
  ·rw [Gi h10];show 1<=_;omega
  ·rw [Pa (by omega),List.length_append];have:=FL k (m / 10) (by rw [Nat.div_lt_iff_lt_mul (by decide),<-Nat.pow_succ]; exact h);show _+1<=_;omega
theorem Gu (m:Nat) (h:1<=m):∃ c r,dg m=c :: r/\c≠48/\c≠45:=by
 induction m using Nat.strongRecOn with
 | _ m ih =>
  by_cases h10:m < 10
  ·exact ⟨48+m,[],Gi h10,by omega,by omega⟩
  ·obtain ⟨c,r,e,n1,n2⟩:=ih (m / 10) (by omega) (by omega);exact ⟨c,r ++ [48+m % 10],by rw [Pa (by omega),e]; rfl,n1,n2⟩
theorem Nd (m:Nat):digitsVal (dg m)=m:=PySem.W.KIN.val_back m
theorem text (m:Nat):(Str.ofString (toString ((m:Nat):Int))).cps.toList=dg m:=PySem.W.KIN.signs_num m
theorem dg_inj {m n:Nat} (h:dg m=dg n):m=n:=by rw [<-Nd m,h,Nd]
theorem dg_due {m:Nat} (h1:1<=m) (h2:m < 10 ^ 13):Nu.due (dg m)=some (m:Int):=by
 obtain ⟨c,r,e,n1,n2⟩:=Gu m h1;have hn:Nu.neg (dg m)=false:=by
  rw [e];cases hh:Nu.neg (c :: r) with
  | false=>rfl
  | true =>
   have:=(Nu.MJ (c :: r)).mp hh;simp at this;exact absurd this n2
 have hl:=FL 12 m h2;unfold Nu.due;rw [Nu.FK hn,if_neg,if_pos (IJ m),hn,if_neg (by decide),Nd];rintro (z | z | ⟨z,_⟩)
 ·rw [e] at z; cases z
 ·omega
 ·rw [e] at z;injection z with z
  exact n1 z
theorem LQ {m:Nat} (h:m < 10 ^ 30):((m:Nat):Int).natAbs.log2 < 1920:=by
 rw [Int.natAbs_natCast];by_cases h0:m=0
 ·subst h0; decide
 ·have:m.log2 < 100:=(Nat.log2_lt h0).mpr (Nat.lt_of_lt_of_le h (by decide));omega
end Tn
namespace L2
open PySem PySem.Spec PyProof.Rows
section
variable {X:Cx}
theorem Tm (x:Str):Str.empty ++ x=x:=Nu.ext (by rw [cps_toList_append]; rfl)
end
end L2
namespace L2
open PySem PySem.Spec PyProof.Rows
def tFstr4 (ta tc tb td:TE):TE:=fun σ H Q=>ta σ H fun x H1=>∃ i:Int,x=.int i/\i.natAbs.log2 < 1920/\tc σ H1 fun y H2=>∃ z:Str,y=.str z/\z.length<=1000/\tb σ H2 fun x2 H3=>∃ j:Int,x2=.int j/\j.natAbs.log2 < 1920/\td σ H3 fun y2 H4=>∃ z2:Str,y2=.str z2/\z2.length<=1000/\Q (.str (Str.ofString (toString i) ++ z ++ Str.ofString (toString j) ++ z2)) H4
section
variable {X:Cx}
theorem RU {a b c d:Expr} {ta tb tc td:TE} {p q pos:Pos} (ha:PE X a ta) (hc:PE X c tc) (hb:PE X b tb) (hd:PE X d td):PE X (.JoinedStr [.FormattedValue a (-1) none p,c,.FormattedValue b (-1) none q,d] pos) (tFstr4 ta tc tb td):=by
 intro pins s σ H Q I h;refine JoinedStr_many (joinParts_cons (FormattedValue_plain (thn (ha pins s σ H _ I h) fun v s1 ⟨x,H1,I1,rx,i,ex,hz,q1⟩=>?_)));subst ex;obtain ⟨t,rfl⟩:=rx;have hl:(Str.ofString (toString i)).length<=1921:=PyProof.Rows.int_text_len_1921 hz;refine formatField_int_small hz ⟨?_,?_⟩
 ·rw [Tm];exact Nat.le_trans hl (by decide)
 refine joinParts_cons (thn (hc pins _ σ H1 _ (I1.tok _) q1) fun v s2 ⟨y,H2,I2,ry,z,ez,hz2,q2⟩=>?_);subst ez;obtain ⟨t',rfl⟩:=ry;have hs:(Str.empty ++ Str.ofString (toString i) ++ z).length<=3000:=by
  rw [Tm,strLen_append];exact Nat.le_trans (Nat.add_le_add hl hz2) (by decide)
 refine ⟨Nat.le_trans hs (by decide),?_⟩;refine joinParts_cons (FormattedValue_plain (thn (hb pins _ σ H2 _ I2 q2) fun v s3 ⟨x3,H3,I3,rx3,j,ex3,hz3,q3⟩=>?_));subst ex3;obtain ⟨t3,rfl⟩:=rx3;have hl3:(Str.ofString (toString j)).length<=1921:=PyProof.Rows.int_text_len_1921 hz3;have hs3:(Str.empty ++ Str.ofString (toString i) ++ z ++ Str.ofString (toString j)).length<=5000:=by
  rw [strLen_append];exact Nat.le_trans (Nat.add_le_add hs hl3) (by decide)
 refine formatField_int_small hz3 ⟨Nat.le_trans hs3 (by decide),?_⟩;refine joinParts_cons (thn (hd pins _ σ H3 _ (I3.tok _) q3) fun v s4 ⟨y4,H4,I4,ry4,z4,ez4,hz4,q4⟩=>?_);subst ez4;obtain ⟨t4,rfl⟩:=ry4;have hs4:(Str.empty ++ Str.ofString (toString i) ++ z ++ Str.ofString (toString j) ++ z4).length<=sizeLine:=by
  rw [strLen_append];exact Nat.le_trans (Nat.add_le_add hs3 hz4) (by decide)
 refine ⟨hs4,joinParts_nil ?_ hs4⟩;rw [Tm];exact ⟨.str _,H4,I4.tok _,⟨_,rfl⟩,q4⟩
theorem SA:MtR X "str.index" (fun x xs H Q=>∃ (a b:Str) (i:Nat) (r:List Nat),x=.str a/\xs=[.str b]/\Builtin.Str.occurrences a b 0 a.length 1=i :: r/\Q (.int (i:Int)) H):=by
 intro pins s σ H x xs v us Q I rx r h;obtain ⟨a,b,i,rr,rfl,rfl,ho,q⟩:=h;obtain ⟨t,rfl⟩:=rx;cases r with
 | cons r1 r2 =>
  cases r2;obtain ⟨u,rfl⟩:=r1;exact call_gives PySem.F.slot_str_index (typeIs_str _ _ _) PySem.F.entry_str_index (PySem.F.args_str_index_2 _ _) (gives_str_index a b t u i rr ho) ⟨.int _,H,I.tok _,⟨_,rfl⟩,q⟩
end
section
variable {K:PySem.W.Frag} {b:Bool} {l:Addr} {xs:List V} {σ:St} {H:Hp} {k:Nat} {cs:List Nat} {g:TG} {tc:TT} {te:TE} {fin:List V->Hp->Prop}
theorem Tj (Pv:Nat->List V->Hp->Prop) (h0:Pv 0 [] H) (hl:∀ i acc H,Pv i acc H->SqX K b H l xs)
  (hs:∀ i x acc H T,xs[i]?=some x->Pv i acc H->H T=none->Bt k cs g tc te σ (.ref T) acc (upd H T (.tup [.int i,x])) (Pv (i+1))) (hd:∀ acc H,Pv xs.length acc H->fin acc H):Fu k cs g tc te (Ite K b l) σ H fin:=by
 refine ⟨fun i m acc H=>m=xs.length - i/\i<=xs.length/\Pv i acc H,⟨xs.length,by simp,Nat.zero_le _,h0⟩,?_⟩;rintro i m acc H ⟨rfl,hi,p⟩;have q:=hl i acc H p;by_cases hlt:i < xs.length
 ·refine .inr ⟨⟨xs,xs[i],q,by simp [hlt]⟩,Pv (i+1),fun acc' H' p'=>⟨xs.length - (i+1),by lia,rfl,hlt,p'⟩,fun x H' y=>?_⟩;obtain ⟨T,z,rfl,nT,rfl,hz⟩:=y;exact hs i z acc _ T (hz xs q) p nT
 ·have e:i=xs.length:=by lia
  subst e;exact .inl ⟨⟨xs,q,rfl⟩,hd acc H p⟩
end
end L2
namespace L2
open PySem PySem.Spec PyProof.Rows
section
variable {X:Cx}
theorem pe_fldK {K:PySem.W.Frag} {e:Expr} {f:Str} {ta:TE} {pos:Pos} (hK:X.K=K) (he:PE X e ta) (hb:attributeBase e f X.env (eval e X.env)=eval e X.env):PE X (.Attribute e f pos) (tFld K ta f):=hK ▸ Bv he hb
end
end L2
namespace L2
open PySem PySem.Spec PyProof.Rows
section
variable {X:Cx}
theorem IM (ns:List Int):∀ k,k<=ns.length->preSum (fun i=>ns.getD i 0) k=(ns.take k).sum
 | 0,_=>by simp [preSum]
 | k+1,h=>by
  have h':k < ns.length:=h;show preSum _ k+ns.getD k 0=_;rw [IM ns k (Nat.le_of_lt h'),List.take_add_one,List.getElem?_eq_getElem h',List.getD_eq_getElem?_getD,List.getElem?_eq_getElem h',List.sum_append];show _+ns[k]=_+(ns[k]+0)
  rw [Int.add_zero]
theorem JV {ns:List Int} {its:List Value} (rv:AJ (ns.map V.int) its):∀ (i:Nat) v,its.toArray[i]?=some v->∃ t,v=.int (ns.getD i 0) t:=fun i v e=>by
 have e:its[i]?=some v:=by simpa using e
 cases eb:ns[i]? with
 | none =>
  have:its[i]?=none:=rv.none_of (by rw [List.getElem?_map,eb]; rfl);rw [e] at this;cases this
 | some b =>
  obtain ⟨u,hu,ru⟩:=rv.get (i:=i) (x:=V.int b) (by rw [List.getElem?_map,eb]; rfl);rw [e] at hu;cases hu;rw [List.getD_eq_getElem?_getD,eb];obtain ⟨t,rfl⟩:=ru;exact ⟨t,rfl⟩
theorem Tf (hc:X.calm=true):EQ X (.builtin "sum") (fun xs H Q=>∃ (p:Addr) (ns:List Int),xs=[.ref p]/\SqL X.K H p (ns.map V.int)/\Q (.int ns.sum) H):=by
 intro pins s σ H xs us Q I r h;obtain ⟨p,ns,rfl,hq,q⟩:=h;cases r with
 | cons r1 r2 =>
  cases r2;cases (show _=Value.ref p from r1);obtain ⟨its,rv,pl,hz⟩:=I.list hq;have hlt:p < s.heap.objs.size:=by obtain ⟨o,n,e,_⟩:=pl; exact Heap.lt_size e
  have hne:p≠s.heap.objs.size:=Nat.ne_of_lt hlt;have len:its.toArray.size=ns.length:=by rw [List.size_toArray,<-rv.length,List.length_map]
  refine call_sum_walkAnyS (wpAny_pyIter_list pl.isList ?_);refine ⟨s.heap.objs.size,_,_,_,_,_,_,fun i=>ns.getD i 0,rfl,(Walks.list (A:=X.A.in1) (I.ok.hd hc) s.heap.objs.size p hne its.toArray).toS,⟨⟨_,Heap.get?_push_size _ rfl,rfl,rfl⟩,?_⟩,?_,JV rv,?_⟩
  ·exact pl.isList.at fun o e=>Heap.get?_push_of_some _ e
  ·intro b hb;show b < (s.heap.push _).objs.size;rw [Heap.size_push];rcases List.mem_cons.mp hb with rfl | hb
   ·exact Nat.lt_succ_self _
   ·rcases List.mem_cons.mp hb with rfl | hb
    ·exact Nat.lt_succ_of_lt hlt
    ·cases hb
  ·intro s' t' mv;have I2:Inv X pins σ H { s with heap:=s'.heap,toks:=s'.toks }:=I.kept fun b o e=>mv.heap b o (by intro z; exact Nat.ne_of_lt (Heap.lt_size e) (by simpa using z)) (Heap.get?_push_of_some _ e);have es:s'={ s with heap:=s'.heap,toks:=s'.toks }:=by
    obtain ⟨m1,m2,m3,m4,m5⟩:=mv;cases s';simp only at m2 m3 m4;subst m2;subst m3;subst m4;rfl
   rw [es,len,IM ns _ (Nat.le_refl _),List.take_length];exact ⟨.int ns.sum,H,I2,⟨t',rfl⟩,q⟩
end
end L2
namespace L2
open PySem PySem.Spec PyProof.Rows
theorem Op (ns ms:List Int):((List.range (min ns.length ms.length)).all (fun j=>ns.getD j 0 == ms.getD j 0) && ns.length == ms.length)=decide (ns=ms):=by
 rw [Bool.eq_iff_iff,Bool.and_eq_true,List.all_eq_true,beq_iff_eq,decide_eq_true_iff];constructor
 ·rintro ⟨h1,h2⟩;refine List.ext_getElem h2 fun i h3 h4=>?_;have:=h1 i (List.mem_range.mpr (by lia));rw [beq_iff_eq,List.getD_eq_getElem?_getD,List.getD_eq_getElem?_getD,List.getElem?_eq_getElem h3,List.getElem?_eq_getElem h4] at this;exact this
 ·rintro rfl;exact ⟨fun x _=>beq_iff_eq.mpr rfl,rfl⟩
section
variable {X:Cx}
theorem LH {H:Hp} {ns:List Int} {its:List Value} (rv:AJ (ns.map V.int) its) {A:Around} {s:Shared} {ms:List Int} {jts:List Value} (rw':AJ (ms.map V.int) jts) (j:Nat) (h1:j < its.toArray.size) (h2:j < jts.toArray.size):PySem.SeqAt.EqAt A s its.toArray[j] jts.toArray[j] (ns.getD j 0 == ms.getD j 0):=by
 obtain ⟨t,e⟩:=JV rv j _ (Array.getElem?_eq_getElem h1);obtain ⟨u,e2⟩:=JV rw' j _ (Array.getElem?_eq_getElem h2);rw [e,e2];exact PySem.SeqAt.EqAt.int_int _ t _ u
theorem Qy (hu:X.A.units+64 < cLine):OpR X (compareOp .Eq) (fun x y H Q=>∃ (a b:Addr) (ns ms:List Int),x=.ref a/\y=.ref b/\SqT X.K H a (ns.map V.int)/\SqT X.K H b (ms.map V.int)/\Q (.bl (decide (ns=ms))) H):=by
 intro pins s σ H x y v u Q I rx ry h;obtain ⟨a,b,ns,ms,rfl,rfl,h1,h2,q⟩:=h;cases rx;cases ry;obtain ⟨xs,r1,p1,_⟩:=I.tuple h1;obtain ⟨ys,r2,p2,_⟩:=I.tuple h2;refine PySem.SeqAt.eq_tupleAt p1 p2 (by lia) (fun j k1 k2=>LH (H:=H) r1 r2 j k1 k2) ?_;rw [List.size_toArray,List.size_toArray,<-r1.length,<-r2.length,List.length_map,List.length_map,Op];exact ⟨.bl _,H,I,rfl,q⟩
end
section
variable {prog:Program} {w:World} {κ:Type} [DecidableEq κ] {knd:HeapKind prog w κ} {A:Around} {E:Value->Shared->Prop} {s:Shared}
end
section
variable {X:Cx} {pins:List (Addr×Obj)} {σ:St} {H:Hp} {s:Shared} {a:Addr} {y v:V} {u r:Value} {o:Option V} {A:Around} {E:Value->Shared->Prop}
end
section
variable {X:Cx} {o e f:Expr} {apos cpos:Pos} {td ty tx:TE}
end
end L2
namespace L2
open PySem PySem.Spec PyProof.Rows
section
variable {prog:Program} {w:World} {A:Around} {E:Value->Shared->Prop} {s:Shared} {d it:Addr} {o:Obj} {es:Array DictEntry} {ep i:Nat}
end
end L2
namespace L2
open PySem PySem.Spec PyProof.Rows
section
variable {X:Cx}
end
theorem gtriple {K:PySem.W.Frag} {i j k:Nat} {T:Addr} {x y z:V} {σ:St} {H:Hp} {Q:St->Hp->Prop} (h:H T=some (.tup [x,y,z])) (q:Q (((σ.set i (some x)).set j (some y)).set k (some z)) H):gTup K 3 (IU (GH i) (IU (GH j) (IU (GH k) gNil))) (.ref T) σ H Q :=
 ⟨T,_,rfl,SqT.of h,rfl,x,_,rfl,y,_,rfl,z,_,rfl,rfl,q⟩
end L2
namespace L2
open PySem PySem.Spec PyProof.Rows
abbrev NE:=Sum Int (List Int)
abbrev NK:=List NE
def isR:NE->Bool
 | .inl _=>false
 | .inr _=>true
section
variable (P:Program) (w:World)
inductive Ci (h:Heap):NK->List Value->Prop
 | nil:Ci h [] []
 | int {i:Int} {v:Value} {ks:NK} {vs:List Value} (e:(intKind P w).is i v=true) (r:Ci h ks vs):Ci h (.inl i :: ks) (v :: vs)
 | tup {ps:List Int} {b:Addr} {ks:NK} {vs:List Value} (e:IsTupleKey (intKind P w) h ps b) (r:Ci h ks vs):Ci h (.inr ps :: ks) (.ref b :: vs)
structure Fa (sh:List Bool) (h:Heap) (k:NK) (a:Addr):Prop where
 shape:k.map isR=sh
 ex:∃ o its n,h.get? a=some o/\o.cls=.type "tuple" /\ o.data=.seq its n/\Ci P w h k its.toList
def IV:NE->Int
 | .inl i=>(intKind P w).hash i
 | .inr ps=>tupleKeyHash (intKind P w) ps
def IW:NE->Nat
 | .inl _=>1
 | .inr ps=>ps.length+1
def Sw (k:NK):Int:=reduceHash (Builtin.Tuple.tupleHashOf (k.map (IV P w)))
def Sz (k:NK):Nat:=(k.map IW).sum+1
end
section
variable {P:Program} {w:World} {sh:List Bool} {h h':Heap}
theorem Ci.inj {x y:NK} {vs:List Value} (hx:Ci P w h x vs):Ci P w h y vs->x.map isR=y.map isR->x=y:=by
 induction hx generalizing y with
 | nil=>intro hy _; cases hy; rfl
 | int e r ih =>
  intro hy hs;cases hy with
  | int e' r' =>
   rw [List.map_cons,List.map_cons] at hs;rw [(intKind P w).inj _ _ _ e e',ih r' (List.cons.inj hs).2]
  | tup e' r'=>cases hs
 | tup e r ih =>
  intro hy hs;cases hy with
  | int e' r'=>cases hs
  | tup e' r' =>
   rw [List.map_cons,List.map_cons] at hs;rw [e.inj e',ih r' (List.cons.inj hs).2]
theorem Ci.keep {x:NK} {vs:List Value} (hx:Ci P w h x vs) (k:∀ ps b,IsTupleKey (intKind P w) h ps b->IsTupleKey (intKind P w) h' ps b):Ci P w h' x vs:=by
 induction hx with
 | nil=>exact .nil
 | int e r ih=>exact .int e ih
 | tup e r ih=>exact .tup (k _ _ e) ih
theorem Fa.ty {s:Shared} {k:NK} {a:Addr} (x:Fa P w sh s.heap k a):s.TypeIs (.ref a) "tuple" := by
 obtain ⟨o,_,_,ho,hc,_⟩:=x.ex;exact ⟨o,ho,hc⟩
variable {A:Around} {E:Value->Shared->Prop} {s:Shared}
theorem Qz {k:NK} {a:Addr} {Q:Int->Shared->Prop} (hu:A.units+1 < cLine) (hk:Fa P w sh s.heap k a) (q:Q (Sw P w k) { s with toks:=s.toks+Sz k }):wpAny (model P w) A (pyHash (.ref a)) Q E s:=by
 have ty:=hk.ty;obtain ⟨_,o,its,n,ho,_,hd,hi⟩:=hk;unfold pyHash
 first | unfold pyHashByItsType | skip
 first | refine wpAny_bind (wpAny_cRoomFor_or (.inr (by lia)) ?_) | skip
 refine wpAny_bind (wpAny_specialOf ty PySem.F.slot_tuple_hash.lookup ?_);show wpAny _ _ (if (some (Value.builtin "tuple.__hash__") == some Value.none)=true then _ else _) Q E s;rw [if_neg (by rw [beq_builtin_none]; exact Bool.false_ne_true)];refine wpAny_bind (wpAny_specialOf ty PySem.F.slot_tuple_hash.lookup ?_);show wpAny _ _ (callSpecialIfBoundUnlessNone? (.ref a) "__hash__" _ >>= _) Q E s;refine wpAny_bind (wpAny_callSpecialIfBoundUnlessNone?_slot ty PySem.F.slot_tuple_hash (wpAny_call_entry PySem.F.slot_tuple_hash ty PySem.F.entry_tuple_hash ?_ (PySem.F.args_tuple_hash_1 _)));show wpAny _ _ (Builtin.Tuple.tupleItemsOf (.ref a) >>= _) _ _ s;refine wpAny_bind (wpAny_tupleItemsOf ho hd (wpAny_bind ?_));rw [<-Array.forIn_toList];refine wpAny_forIn_list _ (fun rest (b:Array Int) s'=>∃ dn lf,k=dn ++ lf/\Ci P w s.heap lf rest/\b.toList=dn.map (IV P w)/\s'={ s with toks:=s.toks+(dn.map IW).sum }) _ ?_ ?_ _ _ ⟨[],k,rfl,hi,rfl,rfl⟩
 ·rintro x rest b s' ⟨dn,lf,rfl,hl,hb,rfl⟩;cases hl with
  | @int i v ks vs e r =>
   refine wpAny_bind ((intKind P w).pyHash e ?_);have fin:∃ d l,dn ++ Sum.inl i :: ks=d ++ l/\Ci P w s.heap l rest/\(b.push ((intKind P w).hash i)).toList=d.map (IV P w)/\({ s with toks:=s.toks+(dn.map IW).sum+1 }:Shared)={ s with toks:=s.toks+(d.map IW).sum }:=⟨dn ++ [.inl i],ks,by simp,r,by simp [hb,IV],by simp [IW,Nat.add_assoc]⟩
   first | exact wpAny_pure fin | exact wpAny_bind (wpAny_pure (wpAny_pure fin))
  | @tup ps c ks vs e r =>
   refine wpAny_bind (wpAny_pyHash_tuple (by show A.units+1 < cLine; exact hu) e ?_);have fin:∃ d l,dn ++ Sum.inr ps :: ks=d ++ l/\Ci P w s.heap l rest/\(b.push (tupleKeyHash (intKind P w) ps)).toList=d.map (IV P w)/\({ s with toks:=s.toks+(dn.map IW).sum+(ps.length+1) }:Shared)={ s with toks:=s.toks+(d.map IW).sum }:=⟨dn ++ [.inr ps],ks,by simp,r,by simp [hb,IV],by simp [IW,Nat.add_assoc]⟩
   first | exact wpAny_pure fin | exact wpAny_bind (wpAny_pure (wpAny_pure fin))
 ·rintro b s' ⟨dn,lf,rfl,hl,hb,rfl⟩;cases hl;rw [List.append_nil] at q;show wpAny _ _ (retInt (Builtin.Tuple.tupleHashOf b.toList)) _ _ _;rw [hb];refine wpAny_ret_mkInt ?_;unfold Sw Sz reduceHash at q;show wpAny _ _ (if (decide (-(2:Int) ^ 63<=Builtin.Tuple.tupleHashOf (dn.map (IV P w))) && decide (Builtin.Tuple.tupleHashOf (dn.map (IV P w)) < 2 ^ 63))=true then _ else _) Q E _;split at q
  ·rename_i z;rw [if_pos z];exact wpAny_pure (by simpa [Nat.add_assoc] using q)
  ·rename_i z;rw [if_neg z];exact wpAny_bind (wpAny_rule (wpAny_pure (by simpa [Nat.add_assoc] using q)))
theorem MG {x y:NK} {a b:Addr} {R:Fin->Shared->Prop} (hu:A.units < cLine) (hx:Fa P w sh s.heap x a) (hy:Fa P w sh s.heap y b) (q:R (.done (.ret (.bool (decide (x=y))))) s):wpAny (model P w) A (Builtin.«tuple.__eq__» ⟨[.ref a,.ref b],[]⟩) R E s:=by
 have tb:=hy.ty;obtain ⟨sx,oa,xs,na,hoa,_,hda,hia⟩:=hx;obtain ⟨sy,ob,ys,nb,hob,_,hdb,hib⟩:=hy;show wpAny _ _ (isInstance (.ref b) (.type "tuple") >>= _) _ _ s;refine wpAny_bind (wpAny_isInstance tb isSubtype_tuple_tuple ?_);simp only [Bool.not_true,Bool.false_eq_true,if_false];refine wpAny_bind (wpAny_tupleItemsOf hoa hda (wpAny_bind (wpAny_tupleItemsOf hob hdb (wpAny_bind ?_))));refine wpAny_forIn_list _ (fun rest r s'=>r.1=none/\s'=s/\∃ x' y' us vs,rest=List.zip us vs/\Ci P w s.heap x' us/\Ci P w s.heap y' vs/\x'.map isR=y'.map isR/\decide (x'=y')=decide (x=y)/\(us.length == vs.length)=(xs.size == ys.size)) _ ?_ ?_ _ _ ⟨rfl,rfl,x,y,xs.toList,ys.toList,rfl,hia,hib,sx.trans sy.symm,rfl,by simp⟩
 ·rintro ⟨u,v⟩ rest r s' ⟨hr,rfl,x',y',us,vs,hz,hx',hy',hsh,hdec,hlen⟩;cases hx' with
  | nil=>simp at hz
  | @int i1 u' ks us' e1 r1 =>
   cases hy' with
   | nil=>simp at hz
   | @int i2 v' ks' vs' e2 r2 =>
    simp only [List.zip_cons_cons,List.cons.injEq,Prod.mk.injEq] at hz;obtain ⟨⟨rfl,rfl⟩,rfl⟩:=hz;rw [List.map_cons,List.map_cons] at hsh;refine wpAny_bind ((intKind P w).eqBool e1 e2 ?_);by_cases hk:i1=i2
    ·subst hk;rw [decide_eq_true rfl];simp only [Bool.not_true,Bool.false_eq_true,if_false];refine wpAny_pure ⟨rfl,rfl,ks,ks',us',vs',rfl,r1,r2,(List.cons.inj hsh).2,?_,by simpa using hlen⟩;rw [<-hdec];exact decide_eq_decide.mpr ⟨fun z=>by rw [z],fun z=>(List.cons.inj z).2⟩
    ·rw [decide_eq_false hk];simp only [Bool.not_false,if_true];have hf:decide (x=y)=false:=by rw [<-hdec]; exact decide_eq_false fun z=>hk (Sum.inl.inj (List.cons.inj z).1)
     rw [hf] at q;exact wpAny_bind (wpAny_pure (wpAny_pure (wpAny_pure q)))
   | tup e2 r2=>cases hsh
  | @tup ps1 c1 ks us' e1 r1 =>
   cases hy' with
   | nil=>simp at hz
   | int e2 r2=>cases hsh
   | @tup ps2 c2 ks' vs' e2 r2 =>
    simp only [List.zip_cons_cons,List.cons.injEq,Prod.mk.injEq] at hz;obtain ⟨⟨rfl,rfl⟩,rfl⟩:=hz;rw [List.map_cons,List.map_cons] at hsh;refine wpAny_bind (wpAny_eqBool_tuple hu e1 e2 ?_);by_cases hk:ps1=ps2
    ·subst hk;rw [decide_eq_true rfl];simp only [Bool.not_true,Bool.false_eq_true,if_false];refine wpAny_pure ⟨rfl,rfl,ks,ks',us',vs',rfl,r1,r2,(List.cons.inj hsh).2,?_,by simpa using hlen⟩;rw [<-hdec];exact decide_eq_decide.mpr ⟨fun z=>by rw [z],fun z=>(List.cons.inj z).2⟩
    ·rw [decide_eq_false hk];simp only [Bool.not_false,if_true];have hf:decide (x=y)=false:=by rw [<-hdec]; exact decide_eq_false fun z=>hk (Sum.inr.inj (List.cons.inj z).1)
     rw [hf] at q;exact wpAny_bind (wpAny_pure (wpAny_pure (wpAny_pure q)))
 ·rintro ⟨r1,r2⟩ s' ⟨hr,rfl,x',y',us,vs,hz,hx',hy',hsh,hdec,hlen⟩;simp only at hr;subst hr;refine wpAny_pure ?_;have hfin:(xs.size == ys.size)=decide (x=y):=by
   rw [<-hdec,<-hlen];cases hx' with
   | nil =>
    cases hy' with
    | nil=>simp
    | int _ _=>cases hsh
    | tup _ _=>cases hsh
   | int _ _ =>
    cases hy' with
    | nil=>cases hsh
    | int _ _=>simp at hz
    | tup _ _=>cases hsh
   | tup _ _ =>
    cases hy' with
    | nil=>cases hsh
    | int _ _=>cases hsh
    | tup _ _=>simp at hz
  show R (.done (.ret (.bool (xs.size == ys.size)))) s';rw [hfin];exact q
theorem nest_eq {x y:NK} {a b:Addr} {Q:Bool->Shared->Prop} (hu:A.units+1 < cLine) (hx:Fa P w sh s.heap x a) (hy:Fa P w sh s.heap y b) (q:Q (decide (x=y)) s):wpAny (model P w) A (eqBool (.ref a) (.ref b)) Q E s:=by
 unfold eqBool
 try with_reducible refine wpAny_holding ?_
 show wpAny _ _ (if (Value.ref a == Value.ref b)=true then _ else _) Q E s;by_cases hab:(Value.ref a == Value.ref b)=true
 ·rw [if_pos hab];have e:a=b:=by have:=eq_of_beq hab; injection this
  subst e;have:x=y:=by
   obtain ⟨s1,o,its,n,ho,_,hd,hi⟩:=hx;obtain ⟨s2,o',its',n',ho',_,hd',hi'⟩:=hy;obtain rfl:o=o':=Option.some.inj (ho.symm.trans ho');rw [hd] at hd';injection hd' with h1 _
   subst h1;exact hi.inj hi' (s1.trans s2.symm)
  subst this;exact wpAny_bind (wpAny_rule (wpAny_pure (by simpa using q)))
 ·rw [if_neg hab];exact wpAny_bind (wpAny_richCompare_same_room (op:=.Eq) hx.ty hy.ty PySem.F.slot_tuple_eq (wpAny_call_entry PySem.F.slot_tuple_eq hx.ty PySem.F.entry_tuple_eq (MG (by show A.units+1 < cLine; exact hu) hx hy ⟨_,rfl,(fun e=>nomatch e),wpAny_truthy_bool q⟩) (PySem.F.args_tuple_eq_2 _ _)) (by lia))
theorem Qq {n:Nat} {ps:List Int} {a:Addr} {Q:Bool->Shared->Prop} (hk:IsTupleKey (intKind P w) s.heap ps a) (q:Q true s):wpAny (model P w) A (eqIsQuiet (n+1) (.ref a)) Q E s:=by
 have ty:=hk.typeIs;obtain ⟨o,its,m,ho,_,hd,hi⟩:=hk;unfold eqIsQuiet;refine wpAny_bind (wpAny_specialOf ty PySem.F.slot_tuple_eq.lookup ?_);show wpAny _ _ (isInstance (.ref a) (.type "tuple") >>= _) _ _ s;refine wpAny_bind (wpAny_isInstance ty isSubtype_tuple_tuple ?_);simp only [Bool.not_true,Bool.false_eq_true,if_false];refine wpAny_bind (wpAny_seqItems ho hd (wpAny_bind ?_));show wpAny _ _ (forIn its _ _) _ _ s;rw [<-Array.forIn_toList];refine wpAny_forIn_list _ (fun rest r s'=>r.1=none/\s'=s/\∀ v ∈ rest,carriedByValue v=true) _ ?_ ?_ _ _ ⟨rfl,rfl,hi.byValue⟩
 ·rintro v rest r s' ⟨hr,rfl,hall⟩;rw [eqIsQuiet_byValue _ (hall v List.mem_cons_self)];refine wpAny_bind (wpAny_pure ?_);simp only [Bool.not_true,Bool.false_eq_true,if_false];exact wpAny_pure ⟨rfl,rfl,fun u hv=>hall u (List.mem_cons_of_mem _ hv)⟩
 ·rintro ⟨r1,r2⟩ s' ⟨hr,rfl,_⟩;simp only at hr;subst hr;exact wpAny_pure q
theorem OG {x:NK} {a:Addr} {Q:Bool->Shared->Prop} (hk:Fa P w sh s.heap x a) (q:Q true s):wpAny (model P w) A (eqIsQuiet 8 (.ref a)) Q E s:=by
 have ty:=hk.ty;obtain ⟨_,o,its,m,ho,_,hd,hi⟩:=hk;unfold eqIsQuiet;refine wpAny_bind (wpAny_specialOf ty PySem.F.slot_tuple_eq.lookup ?_);show wpAny _ _ (isInstance (.ref a) (.type "tuple") >>= _) _ _ s;refine wpAny_bind (wpAny_isInstance ty isSubtype_tuple_tuple ?_);simp only [Bool.not_true,Bool.false_eq_true,if_false];refine wpAny_bind (wpAny_seqItems ho hd (wpAny_bind ?_));show wpAny _ _ (forIn its _ _) _ _ s;rw [<-Array.forIn_toList];refine wpAny_forIn_list _ (fun rest r s'=>r.1=none/\s'=s/\∃ x',Ci P w s.heap x' rest) _ ?_ ?_ _ _ ⟨rfl,rfl,x,hi⟩
 ·rintro v rest r s' ⟨hr,rfl,x',hx'⟩;cases hx' with
  | int e r1 =>
   rw [eqIsQuiet_byValue _ ((intKind P w).byValue _ _ e)];refine wpAny_bind (wpAny_pure ?_);simp only [Bool.not_true,Bool.false_eq_true,if_false];exact wpAny_pure ⟨rfl,rfl,_,r1⟩
  | tup e r1 =>
   refine wpAny_bind (Qq (n:=6) e ?_);simp only [Bool.not_true,Bool.false_eq_true,if_false];exact wpAny_pure ⟨rfl,rfl,_,r1⟩
 ·rintro ⟨r1,r2⟩ s' ⟨hr,rfl,_⟩;simp only at hr;subst hr;exact wpAny_pure q
end
def Ib (P:Program) (w:World) (sh:List Bool):HeapKind P w NK where
 is:=Fa P w sh
 hash:=Sw P w
 draws:=Sz
 room:=fun A=>A.units+1 < cLine
 inj:=fun hx hy=>by
  obtain ⟨s1,o,its,n,ho,_,hd,hi⟩:=hx;obtain ⟨s2,o',its',n',ho',_,hd',hi'⟩:=hy;obtain rfl:o=o':=Option.some.inj (ho.symm.trans ho');rw [hd] at hd';injection hd' with h1 _
  subst h1;exact hi.inj hi' (s1.trans s2.symm)
 keeps:=fun {h h' k a d o es ep} hx ho hd hs=>by
  obtain ⟨s1,o',its,n,ho',hc,hd',hi⟩:=hx;have ne:a≠d:=by
   rintro rfl;obtain rfl:o'=o:=Option.some.inj (ho'.symm.trans ho);rw [hd] at hd';exact nomatch hd'
  exact ⟨s1,o',its,n,(hs.2 a ne).trans ho',hc,hd',hi.keep fun ps b e=>e.keeps ho hd hs⟩
 pyHash:=fun hu hk q=>Qz hu hk q
 eqBool:=fun hu hx hy q=>nest_eq hu hx hy q
 quiet:=fun hk q=>OG hk q
def NEl (H:Hp):NE->V->Prop
 | .inl i,v=>v=.int i
 | .inr ps,v=>∃ t,v=.ref t/\H t=some (.tup (ps.map V.int))
def EZ (H:Hp) (b:Addr) (k:NK):Prop:=∃ vs,H b=some (.tup vs)/\Paired (NEl H) k vs
abbrev KN (H:Hp):List (NK×V)->List (NK×Addr×Value)->Prop:=Paired fun p q=>p.1=q.1/\EZ H q.2.1 p.1/\AX p.2 q.2.2
def Qp (P:Program) (w:World) (sh:List Bool) (a:Addr) (xs:List (NK×Addr×Value)):Heap->Prop:=fun h=>∃ o es ep,h.get? a=some o/\o.ExactDict/\o.data=.dict es ep/\es.toList=xs.map (entryOfKey (Ib P w sh))
structure Bn (P:Program) (w:World) (sh:List Bool) (H:Hp) (a:Addr) (kvs:List (NK×V)):Prop where
 ex:∃ xs,H a=some (.ext (Qp P w sh a xs))/\KN H kvs xs/\(xs.map (·.1)).Nodup/\(∀ x ∈ xs,x.1.map isR=sh)/\kvs.length<=sizeLine/\(a == sysModules)=false
section
variable {P:Program} {w:World} {sh:List Bool} {H H':Hp} {h h':Heap} {a b:Addr} {k:NK} {kvs:List (NK×V)}
theorem EZ.keep (ht:∀ b ys,H b=some (.tup ys)->H' b=some (.tup ys)) (e:EZ H b k):EZ H' b k:=by
 obtain ⟨vs,e,r⟩:=e;refine ⟨vs,ht _ _ e,Paired.imp' (fun x v z=>?_) r⟩;cases x with
 | inl i=>exact z
 | inr ps =>
  obtain ⟨t,z1,z2⟩:=z;exact ⟨t,z1,ht _ _ z2⟩
theorem KN.keep {xs:List (NK×Addr×Value)} (ht:∀ b ys,H b=some (.tup ys)->H' b=some (.tup ys)) (r:KN H kvs xs):KN H' kvs xs:=Paired.imp' (fun p q z=>⟨z.1,z.2.1.keep ht,z.2.2⟩) r
theorem Bn.keep (n:Bn P w sh H a kvs) (ht:∀ b ys,H b=some (.tup ys)->H' b=some (.tup ys)) (ha:∀ o,H a=some o->H' a=some o):Bn P w sh H' a kvs:=by
 obtain ⟨xs,e,r,z⟩:=n.ex;exact ⟨xs,ha _ e,KN.keep ht r,z⟩
theorem QQ {ps:List Int} {us:List Value} (r:AJ (ps.map V.int) us):ItemsAre (intKind P w) ps us:=by
 induction ps generalizing us with
 | nil=>cases r; exact .nil
 | cons i ps ih =>
  cases r with
  | cons r1 r2 =>
   obtain ⟨t,rfl⟩:=(show ∃ t,_=Value.int i t from r1)
   exact .cons (by show Value.isInt i (.int i t)=true; simp [Value.isInt]) (ih r2)
theorem int_key (ok:HOk P w H h) {ps:List Int} (e:H a=some (.tup (ps.map V.int))):IsTupleKey (intKind P w) h ps a:=by
 obtain ⟨_,its,r,o,h1,h2,n,h3⟩:=(show Bd P w H h a (.tup (ps.map V.int)) from ok a _ e)
 exact ⟨o,its.toArray,n,h1,h2,h3,by simpa using QQ r⟩
theorem ME (ok:HOk P w H h) (e:EZ H b k) (hs:k.map isR=sh):Fa P w sh h k b:=by
 obtain ⟨vs,e,r⟩:=e;obtain ⟨_,its,rv,o,h1,h2,n,h3⟩:=(show Bd P w H h b (.tup vs) from ok b _ e)
 refine ⟨hs,o,its.toArray,n,h1,h2,h3,?_⟩;have go:∀ {k:NK} {vs:List V} {us:List Value},Paired (NEl H) k vs->AJ vs us->Ci P w h k us:=by
  intro k vs us r;induction r generalizing us with
  | nil=>intro rv; cases rv; exact .nil
  | @cons x v ks vs hx t ih =>
   intro rv;cases rv with
   | cons r1 r2 =>
    cases x with
    | inl i =>
     have hx:v=.int i:=hx;subst hx;obtain ⟨tk,rfl⟩:=(show ∃ t,_=Value.int i t from r1)
     exact .int (by show Value.isInt i (.int i tk)=true; simp [Value.isInt]) (ih r2)
    | inr ps =>
     obtain ⟨tt,rfl,h4⟩:=hx;cases (show _=Value.ref tt from r1);exact .tup (int_key ok h4) (ih r2)
 simpa using go r rv
theorem MF (ok:HOk P w H h) (n:Bn P w sh H a kvs):∃ xs,H a=some (.ext (Qp P w sh a xs))/\KN H kvs xs/\h.DictOfH (Ib P w sh) a xs/\(∀ x ∈ xs,x.1.map isR=sh)/\kvs.length<=sizeLine/\(a == sysModules)=false:=by
 obtain ⟨xs,e,r,nd,hs,z,y⟩:=n.ex;obtain ⟨⟨o,es,ep,h1,h2,h3,h4⟩,_⟩:=(show Bd P w H h a (.ext _) from ok a _ e)
 refine ⟨xs,e,r,⟨o,es,ep,h1,h2,h3,h4,fun x hx=>?_,nd⟩,hs,z,y⟩;have all:∀ {l:List (NK×V)} {m:List (NK×Addr×Value)},KN H l m->∀ x ∈ m,EZ H x.2.1 x.1:=by
  intro l m q;induction q with
  | nil=>intro x hx; exact nomatch hx
  | @cons p q ps qs hq t ih =>
   intro x hx;rcases List.mem_cons.mp hx with e | hx
   ·subst e;rw [<-hq.1];exact hq.2.1
   ·exact ih x hx
 exact ME ok (all r x hx) (hs x hx)
theorem KN.val {xs:List (NK×Addr×Value)} (r:KN H kvs xs) (k:NK):FP (BH kvs k) ((atKey xs k).map (·.2)):=by
 induction r with
 | nil=>exact True.intro
 | @cons p q ps qs h t ih =>
  obtain ⟨h1,_,h2⟩:=h;by_cases e:p.1=k
  ·rw [BG e,show atKey (q :: qs) k=some q.2 by simp [atKey,List.find?_cons,h1.symm.trans e]];exact h2
  ·have e':¬ q.1=k:=fun z=>e (h1.trans z);rw [Bh e,show atKey (q :: qs) k=atKey qs k by simp [atKey,List.find?_cons,e']];exact ih
theorem KN.put {xs:List (NK×Addr×Value)} (r:KN H kvs xs) (k:NK) {y:V} {u:Value} (hb:EZ H b k) (ry:AX y u):KN H (Dt kvs k y) (storedH xs k b u):=by
 have e:(kvs.any fun kv=>decide (kv.1=k))=(atKey xs k).isSome:=by rw [ED,(r.val k).isSome_eq,Option.isSome_map]
 unfold Dt storedH;rw [e];by_cases q:(atKey xs k).isSome=true
 ·rw [if_pos q,if_pos q];clear e q;induction r with
  | nil=>exact .nil
  | @cons p q ps qs h t ih =>
   refine .cons ?_ ih;obtain ⟨h1,h2,h3⟩:=h;unfold putAt;dsimp only;by_cases z:p.1=k
   ·rw [if_pos z,if_pos (h1.symm.trans z)];exact ⟨h1,h2,ry⟩
   ·rw [if_neg z,if_neg fun q=>z (h1.trans q)];exact ⟨h1,h2,h3⟩
 ·rw [if_neg q,if_neg q];exact Paired.snoc r ⟨rfl,hb,ry⟩
end
def tDNewN (P:Program) (w:World) (sh:List Bool):TE:=fun _ H Q=>∀ p H',H p=none->AE H H'->Bn P w sh H' p []->Q (.ref p) H'
def tDGetN (P:Program) (w:World) (sh:List Bool) (td ty:TE):TE:=fun σ H Q=>td σ H fun x H1=>∃ a,x=.ref a/\(∃ kvs,Bn P w sh H1 a kvs)/\ty σ H1 fun y H2=>∃ b k kvs,y=.ref b/\Bn P w sh H2 a kvs/\EZ H2 b k/\k.map isR=sh/\Q ((BH kvs k).getD .non) H2
def sDPutN (P:Program) (w:World) (sh:List Bool) (td ty tv:TE):TS:=fun D σ H=>tv σ H fun v H1=>td σ H1 fun x H2=>ty σ H2 fun y H3=>∃ a b k kvs,x=.ref a/\y=.ref b/\Bn P w sh H3 a kvs/\EZ H3 b k/\k.map isR=sh/\kvs.length < sizeLine/\∀ H4,(∀ c o,H3 c=some o->c≠a->H4 c=some o)->Bn P w sh H4 a (Dt kvs k v)->D.nx σ H4
section
variable {X:Cx} {sh:List Bool}
theorem NO {xs:List (NK×Addr×Value)} {H:Hp} {h:Heap} {a:Addr} (r:Qp X.prog X.w sh a xs h):Bd X.prog X.w H h a (.ext (Qp X.prog X.w sh a xs)):=by
 obtain ⟨o,es,ep,h1,h2,h3,h4⟩:=id r;refine ⟨r,⟨o,h1⟩,fun g1 g2 hp hk=>?_⟩;obtain ⟨o',es',ep',i1,i2,i3,i4⟩:=hp;exact ⟨o',es',ep',hk o' i1,i2,i3,i4⟩
theorem NJ {pos:Pos}:PE X (.Dict [] [] pos) (tDNewN X.prog X.w sh):=fun pins s σ H Q I h=>by
 have fr:=I.hok.fresh (Nat.le_refl s.heap.objs.size);have lo:(s.heap.objs.size == sysModules)=false:=beq_eq_false_iff_ne.mpr (Ne.symm (Nat.ne_of_lt I.big));refine wpAny_Dict_empty ⟨.ref s.heap.objs.size,upd H s.heap.objs.size (.ext (Qp X.prog X.w sh s.heap.objs.size [])),I.laid (a:=s.heap.objs.size) (t':=s.toks) (fun _ _ q=>Heap.get?_push_of_some _ q) (Nat.le_refl _) (NO ⟨_,#[],0,Heap.get?_push_size _ rfl,⟨rfl,rfl,rfl⟩,rfl,rfl⟩),rfl,h _ _ fr (fun b o e=>by rw [Az (As e fr)]; exact e) ⟨[],Ah,.nil,List.nodup_nil,(fun x hx=>by simp at hx),Nat.zero_le _,lo⟩⟩
variable {o e:Expr} {apos cpos:Pos} {td ty:TE}
theorem RW (hu:X.A.units+64 < cLine) (ho:PE X o td) (he:PE X e ty) (m:M1 X o "get" apos e cpos):PE X (.Call (.Attribute o "get" apos) [e] [] cpos) (tDGetN X.prog X.w sh td ty):=by
 intro pins s σ H Q I h;refine wpAny_Call_method m.base m.few m.line PySem.F.plainAttrs_dict PySem.F.slot_dict_get PySem.F.type_dict_get (thn (ho pins s σ H _ I h) fun u s1 ⟨x,H1,I1,rx,a,ex,⟨kvs,d⟩,q1⟩=>?_);subst ex;obtain rfl:u=Value.ref a:=rx;obtain ⟨xs,_,_,dd,_⟩:=MF I1.hok d;refine ⟨dd.typeIs,fun b q=>?_,?_⟩
 ·cases q;obtain ⟨ob,_,_,h1,h2,_⟩:=dd;exact ⟨ob,h1,h2.2.1⟩
 rw [m.trees];refine Calls.callWith_builtin rfl (Calls.evalArgs_plain (Calls.spliced_cons (thn (he pins s1 σ H1 _ I1 q1) fun iv s2 ⟨y,H2,I2,ry,b,k,kvs2,ey,n2,kb,hs,q2⟩=>Calls.spliced_nil ?_)));subst ey;cases (show iv=Value.ref b from ry);obtain ⟨xs2,_,r2,d2,_,_,lo⟩:=MF I2.hok n2;refine call_meetsIn PySem.F.slot_dict_get d2.typeIs PySem.F.entry_dict_get (PySem.F.args_dict_get_2 _ _) (meetsH_dict_get (Ib X.prog X.w sh) a b lo) ⟨by show X.A.units+1+1 < cLine; lia,k,xs2,ME I2.hok kb hs,d2,_,H2,I2.tok _,(KN.val r2 k).getD (d:=.non) rfl,q2⟩
variable {i value:Expr} {pos pos':Pos} {tv:TE}
theorem RM (hu:X.A.units+64 < cLine) (ho:PE X o td) (hi:PE X i ty) (hv:PE X value tv) (hs:swapsWith value (some (.Subscript o i pos')) pos.line X.env=pure false):PS X (.Assign [.Subscript o i pos'] value pos) (sDPutN X.prog X.w sh td ty tv):=by
 intro pins s σ H D I h;refine wpAny_Assign_Subscript (thn (hv pins s σ H _ I h) fun r s1 ⟨v,H1,I1,rv,q1⟩=>thn (ho pins s1 σ H1 _ I1 q1) fun u s2 ⟨x,H2,I2,rx,q2⟩=>thn (hi pins s2 σ H2 _ I2 q2) fun iv s3 ⟨y,H3,I3,ry,a,b,k,kvs,ex,ey,n3,kb,ks,lt,q3⟩=>?_) hs;subst ex ey;obtain rfl:u=Value.ref a:=rx;cases (show iv=Value.ref b from ry);obtain ⟨xs,e3,rel,dd,hsh,z,lo⟩:=MF I3.hok n3;have hz:xs.length<=sizeLine:=by rw [<-Paired.length rel]; exact z
 have hl:(Dt kvs k v).length<=sizeLine:=by have:=Gd kvs k v; lia
 refine wpAny_setItem_heap (knd:=Ib X.prog X.w sh) (hsz:=hz) (by show X.A.units+1+1 < cLine; lia) (ME I3.hok kb ks) dd fun h' dd' hsb=>?_;obtain ⟨ob,es,ep,hq,h2,h3,h4,_,h5⟩:=dd';have tk:∀ c ys,H3 c=some (.tup ys)->upd H3 a (.ext (Qp X.prog X.w sh a (storedH xs k b r))) c=some (.tup ys):=fun c ys ec=>by
  rw [Az (AR ec e3 (fun z=>nomatch z))];exact ec
 refine ⟨σ,_,Nf I3 (by rw [e3]; exact True.intro) hsb ⟨ob,hq⟩ (NO ⟨ob,es,ep,hq,h2,h3,h4⟩),q3 _ (fun c o ec ne=>by rw [Az ne]; exact ec) ⟨_,Ah,KN.keep tk (KN.put rel k kb rv),h5,fun x hx=>?_,hl,lo⟩⟩;unfold storedH at hx;split at hx
 ·obtain ⟨y,hy,rfl⟩:=List.mem_map.mp hx;unfold putAt;split
  ·exact hsh y hy
  ·exact hsh y hy
 ·rcases List.mem_append.mp hx with w | w
  ·exact hsh x w
  ·rw [List.mem_singleton] at w;subst w;exact ks
end
end L2
namespace L2
open PySem PySem.W PyProof.Rows
section
variable {rk:Nat->Int} {n:Nat}
structure Qd (n:Nat) (p:Array Nat):Prop where
 sz:p.size=n
 pm:p.Perm (List.range n).toArray
def kk (rk:Nat->Int) (p:Array Nat) (i:Nat):Int:=rk (p.getD i 0)
def Up (rk:Nat->Int) (p:Array Nat) (m:Nat):Prop:=∀ i j,i<=j->j < m->kk rk p i<=kk rk p j
end
end L2
namespace L2
open PySem PySem.W PySem.Spec PyProof.Rows
def CU:List Int->List Int->Bool
 | [],[]=>false
 | [],_ :: _=>true
 | _ :: _,[]=>false
 | a :: as,b :: bs=>if a=b then CU as bs else decide (a < b)
theorem JT:∀ a,CU a a=false
 | []=>rfl
 | a :: as=>by unfold CU; rw [if_pos rfl]; exact JT as
theorem Ig:∀ {a b c:List Int},CU a c=true->CU a b=true\/CU b c=true
 | [],[],_,h=>.inr h
 | [],_ :: _,_,_=>.inl rfl
 | _ :: _,_,[],h=>by cases h
 | a :: as,[],c :: cs,_=>.inr rfl
 | a :: as,b :: bs,c :: cs,h=>by
  unfold CU at h ⊢;by_cases ac:a=c
  ·subst ac;rw [if_pos rfl] at h;by_cases ab:a=b
   ·subst ab;rw [if_pos rfl,if_pos rfl];exact Ig h
   ·rw [if_neg ab,if_neg (fun z=>ab z.symm)];rcases Int.lt_or_gt_of_ne ab with z | z
    ·exact .inl (decide_eq_true z)
    ·exact .inr (decide_eq_true z)
  ·rw [if_neg ac] at h;have h:=of_decide_eq_true h;by_cases ab:a=b
   ·subst ab;rw [if_neg ac];exact .inr (decide_eq_true h)
   ·rw [if_neg ab];by_cases z:a < b
    ·exact .inl (decide_eq_true z)
    ·by_cases bc:b=c
     ·lia
     ·rw [if_neg bc];exact .inr (decide_eq_true (by lia))
theorem NV:∀ {a b:List Int},CU a b=false->CU b a=false->a=b
 | [],[],_,_=>rfl
 | [],_ :: _,h,_=>by cases h
 | _ :: _,[],_,h=>by cases h
 | a :: as,b :: bs,h,h'=>by
  unfold CU at h h';by_cases ab:a=b
  ·subst ab;rw [if_pos rfl] at h h';rw [NV h h']
  ·rw [if_neg ab] at h;rw [if_neg (fun z=>ab z.symm)] at h';have:=of_decide_eq_false h;have:=of_decide_eq_false h';lia
theorem SJ {a b:List Int} (h:CU a b=true):CU b a=false:=by
 cases e:CU b a with
 | false=>rfl
 | true =>
  rcases Ig (b:=b) (show CU a b=true from h) with z | z
  ·-- both ways: through a
   have:CU a a=true\/CU a a=false:=by cases CU a a<;>simp
   exact absurd (lexI_two h e) (by simp)
  ·rw [JT] at z;cases z
where lexI_two:∀ {a b:List Int},CU a b=true->CU b a=true->false=true
 | [],[],h,_=>h
 | [],_ :: _,_,h=>h
 | _ :: _,[],h,_=>h
 | a :: as,b :: bs,h,h'=>by
  unfold CU at h h';by_cases ab:a=b
  ·subst ab;rw [if_pos rfl] at h h';exact lexI_two h h'
  ·rw [if_neg ab] at h;rw [if_neg (fun z=>ab z.symm)] at h';have:=of_decide_eq_true h;have:=of_decide_eq_true h';lia
def Qo (rows:List (List Int)) (i:Nat):Int:=((rows.countP fun r=>CU r (rows.getD i []):Nat):Int)
theorem Mb {α:Type} {p q:α->Bool}:∀ {l:List α} {x:α},x ∈ l->(∀ y,p y=true->q y=true)->p x=false->q x=true->l.countP p < l.countP q
 | y :: l,x,hx,h,hp,hq=>by
  rw [List.countP_cons,List.countP_cons];have le:l.countP p<=l.countP q:=List.countP_mono_left fun z _=>h z;rcases List.mem_cons.mp hx with rfl | hx
  ·rw [hp,hq];simp only [Bool.false_eq_true,if_false,if_true];lia
  ·have:=Mb hx h hp hq;by_cases py:p y=true
   ·rw [py,h y py];lia
   ·rw [if_neg py];split<;>lia
theorem RJ {rows:List (List Int)} {i j:Nat} (hi:i < rows.length):decide (Qo rows i < Qo rows j)=CU (rows.getD i []) (rows.getD j []):=by
 have mi:rows.getD i [] ∈ rows:=by
  rw [List.getD_eq_getElem?_getD,List.getElem?_eq_getElem hi];exact List.getElem_mem hi
 unfold Qo;generalize rows.getD i []=a at *
 generalize rows.getD j []=b;cases h:CU a b with
 | true =>
  refine decide_eq_true ?_;have:=Mb (p:=fun r=>CU r a) (q:=fun r=>CU r b) mi (fun y hy=>?_) (JT a) h
  ·lia
  ·rcases Ig (b:=b) hy with z | z
   ·exact z
   ·rw [SJ h] at z;cases z
 | false =>
  refine decide_eq_false ?_;have:=List.countP_mono_left (l:=rows) (p:=fun r=>CU r b) (q:=fun r=>CU r a) fun y _ hy=>?_
  ·lia
  ·rcases Ig (b:=a) hy with z | z
   ·exact z
   ·rw [h] at z;cases z
section
variable {prog:Program} {w:World} {A:Around} {E:Value->Shared->Prop}
theorem Py {b:Bool} {Q:Bool->Shared->Prop} {s:Shared}:∀ {xs ys:List Int} {us vs:List Value} {i:Nat},AJ (xs.map V.int) us->AJ (ys.map V.int) vs->Q (CU xs ys) s->KatLex prog w A b (decide (xs.length < ys.length)) Q (us.zip vs) i s
 | [],[],_,_,i,.nil,.nil,q=>q
 | [],y :: ys,_,_,i,.nil,.cons _ _,q=>by
  show Q (decide (0 < ys.length+1)) s;rw [decide_eq_true (Nat.succ_pos _)];exact q
 | x :: xs,[],_,_,i,.cons _ _,.nil,q=>by
  show Q (decide (xs.length+1 < 0)) s;rw [decide_eq_false (Nat.not_lt_zero _)];exact q
 | x :: xs,y :: ys,u :: us,v :: vs,i,.cons r1 t1,.cons r2 t2,q=>by
  obtain ⟨t,rfl⟩:=(show ∃ t,u=.int x t from r1)
  obtain ⟨t',rfl⟩:=(show ∃ t,v=.int y t from r2)
  refine wpAny_eqBool_int ?_;unfold CU at q;by_cases e:x=y
  ·subst e;rw [if_pos rfl] at q;simp only [beq_self_eq_true,if_true];have h:=Py (b:=b) (i:=i+1) t1 t2 q;rw [show decide ((x :: xs).length < (x :: ys).length)=decide (xs.length < ys.length) by simp];exact h
  ·rw [if_neg e] at q;have e':(x == y)=false:=by simpa using e
   simp only [e',Bool.false_eq_true,if_false];cases b && i == 0 with
   | true=>exact oneLt_int q
   | false =>
    exact kat_one _ _ (wpAny_lt_int q)
end
section
variable {X:Cx}
theorem Pn {H:Hp} {h:Heap} (ok:HOk X.prog X.w H h) {items:List (Addr×List Int)} (hq:∀ q ∈ items,H q.1=some (.tup (q.2.map V.int))/\q.2≠[]) {i:Nat} (hi:i < items.length) :
  ∃ (b:Addr) (o:Obj) (us:List Value) (m:Nat),(items.map fun q=>Value.ref q.1).getD i Value.none=.ref b/\h.get? b=some o/\o.cls=.type "tuple" /\ o.data=.seq us.toArray m/\AJ (((items.map (·.2)).getD i []).map V.int) us:=by
 have hm:=List.getElem_mem hi;obtain ⟨h1,h2⟩:=hq _ hm;obtain ⟨_,its,r,o,e,c,n,d⟩:=(show Bd X.prog X.w H h _ (.tup _) from ok _ _ h1)
 refine ⟨_,o,its,n,?_,e,c,d,?_⟩
 ·rw [List.getD_eq_getElem?_getD,List.getElem?_map,List.getElem?_eq_getElem hi];rfl
 ·rw [List.getD_eq_getElem?_getD,List.getElem?_map,List.getElem?_eq_getElem hi];exact r
theorem LX {H:Hp} {h:Heap} (ok:HOk X.prog X.w H h):∀ {items:List (Addr×List Int)},(∀ q ∈ items,H q.1=some (.tup (q.2.map V.int))/\q.2≠[])->∃ fs:List Value,KatTups h (items.map fun q=>Value.ref q.1) fs/\fs.length=items.length/\∀ v ∈ fs,∃ x t,v=.int x t
 | [],_=>⟨[],.nil,rfl,fun v hv=>nomatch hv⟩
 | q :: items,hq=>by
  obtain ⟨fs,h1,h2,h3⟩:=LX ok fun q' hq'=>hq q' (List.mem_cons_of_mem _ hq');obtain ⟨e,ne⟩:=hq q (List.mem_cons_self ..);obtain ⟨_,its,r,o,e1,c,n,d⟩:=(show Bd X.prog X.w H h _ (.tup _) from ok _ _ e)
  match hx:q.2,ne with
  | x :: xs,_ =>
   rw [hx] at r;cases r with
   | @cons _ u _ us r1 r2 =>
    obtain ⟨t,rfl⟩:=(show ∃ t,u=.int x t from r1)
    refine ⟨.int x t :: fs,.cons e1 c d (by simp) h1,by rw [List.length_cons,List.length_cons,h2],fun v hv=>?_⟩;rcases List.mem_cons.mp hv with rfl | hv
    ·exact ⟨x,t,rfl⟩
    ·exact h3 v hv
def EX:List (Addr×List Int)->Prop:=List.Pairwise fun p q=>CU q.2 p.2=false
end
end L2
namespace L2
open PySem PySem.Spec PyProof.Rows
section
variable {X:Cx}
theorem Ql {H:Hp} {s:Shared} {A:Around} (ok:HOk X.prog X.w H s.heap) (hu:A.units < cLine) {a b:Addr} {ns:List Int} (h1:H a=some (.tup (ns.map V.int))) (h2:H b=some (.tup (ns.map V.int))):PySem.SeqAt.EqAt A s (.ref a) (.ref b) true:=by
 by_cases e:a=b
 ·subst e;exact PySem.SeqAt.EqAt.same _
 ·obtain ⟨_,its,r,pt⟩:=(show Bd X.prog X.w H s.heap _ (.tup _) from ok _ _ h1)
  obtain ⟨_,jts,r',pt'⟩:=(show Bd X.prog X.w H s.heap _ (.tup _) from ok _ _ h2)
  refine PySem.SeqAt.EqAt.of_refs e ?_;have:=PySem.SeqAt.RcAt.tuples (A:=A) (s:=s) (e:=fun j=>ns.getD j 0 == ns.getD j 0) pt pt' hu fun j k1 k2=>LH (H:=H) r r' j k1 k2;rw [List.size_toArray,List.size_toArray,<-r.length,<-r'.length,List.length_map,Op,decide_eq_true rfl] at this;exact this
theorem Mz {H:Hp} {s:Shared} {A:Around} (ok:HOk X.prog X.w H s.heap) (hu:A.units < cLine):∀ {is js:List (Addr×List Int)},(∀ q ∈ is,H q.1=some (.tup (q.2.map V.int)))->(∀ q ∈ js,H q.1=some (.tup (q.2.map V.int)))->is.map (·.2)=js.map (·.2) ->
  ∀ {xs ys:List Value},AJ (is.map fun q=>V.ref q.1) xs->AJ (js.map fun q=>V.ref q.1) ys->xs.length=ys.length/\∀ j (h1:j < xs.length) (h2:j < ys.length),PySem.SeqAt.EqAt A s xs[j] ys[j] true
 | [],[],_,_,_,_,_,.nil,.nil=>⟨rfl,fun j h1=>absurd h1 (Nat.not_lt_zero _)⟩
 | [],_ :: _,_,_,e,_,_,_,_=>by cases e
 | _ :: _,[],_,_,e,_,_,_,_=>by cases e
 | i :: is,j :: js,h1,h2,e,x :: xs,y :: ys,.cons r1 t1,.cons r2 t2=>by
  rw [List.map_cons,List.map_cons] at e;injection e with e0 e1
  obtain ⟨l,k⟩:=Mz ok hu (fun q hq=>h1 q (List.mem_cons_of_mem _ hq)) (fun q hq=>h2 q (List.mem_cons_of_mem _ hq)) e1 t1 t2;refine ⟨by rw [List.length_cons,List.length_cons,l],fun n p1 p2=>?_⟩;cases n with
  | zero =>
   cases (show x=Value.ref i.1 from r1);cases (show y=Value.ref j.1 from r2);have q1:=h1 i (List.mem_cons_self ..);have q2:=h2 j (List.mem_cons_self ..);rw [<-e0] at q2;exact Ql ok hu q1 q2
  | succ n=>exact k n (by simpa using p1) (by simpa using p2)
theorem Oo (n:Nat):(List.range n).all (fun _=>true)=true:=List.all_eq_true.mpr fun _ _=>rfl
def Tz (K:PySem.W.Frag) (H:Hp) (x y:V):Prop:=∃ (a b:Addr) (is js:List (Addr×List Int)),x=.ref a/\y=.ref b/\SqL K H a (is.map fun q=>V.ref q.1)/\SqL K H b (js.map fun q=>V.ref q.1)/\(∀ q ∈ is,H q.1=some (.tup (q.2.map V.int)))/\(∀ q ∈ js,H q.1=some (.tup (q.2.map V.int)))/\is.map (·.2)=js.map (·.2)
theorem NN (hu:X.A.units+64 < cLine):OpR X (compareOp .Eq) (fun x y H Q=>Tz X.K H x y/\Q (.bl true) H):=by
 intro pins s σ H x y v u Q I rx ry h;obtain ⟨⟨a,b,is,js,rfl,rfl,h1,h2,t1,t2,e⟩,q⟩:=h;cases rx;cases ry;obtain ⟨xs,r1,p1,_⟩:=I.list h1;obtain ⟨ys,r2,p2,_⟩:=I.list h2;obtain ⟨l,k⟩:=Mz (A:=X.A.in1) I.hok (by show X.A.units+1 < _; lia) t1 t2 e r1 r2;refine PySem.SeqAt.eq_listAt (e:=fun _=>true) p1.isList p2.isList (by rw [List.size_toArray,List.size_toArray,l]) (by lia) (fun j k1 k2=>?_) ?_
 ·simp only [List.size_toArray] at k1 k2
  simpa using k j k1 k2
 ·rw [Oo];exact ⟨.bl _,H,I,rfl,q⟩
theorem NM (hu:X.A.units+64 < cLine):OpR X (compareOp .NotEq) (fun x y H Q=>Tz X.K H x y/\Q (.bl false) H):=by
 intro pins s σ H x y v u Q I rx ry h;obtain ⟨⟨a,b,is,js,rfl,rfl,h1,h2,t1,t2,e⟩,q⟩:=h;cases rx;cases ry;obtain ⟨xs,r1,p1,_⟩:=I.list h1;obtain ⟨ys,r2,p2,_⟩:=I.list h2;obtain ⟨l,k⟩:=Mz (A:=X.A.in1) I.hok (by show X.A.units+1 < _; lia) t1 t2 e r1 r2;refine PySem.SeqAt.RcNeAt.lists (e:=fun _=>true) p1.isList p2.isList (by rw [List.size_toArray,List.size_toArray,l]) (by lia) (fun j k1 k2=>?_) _ _ _ _ ?_
 ·simp only [List.size_toArray] at k1 k2
  simpa using k j k1 k2
 ·rw [Oo];exact ⟨.bl _,H,I,rfl,q⟩
end
end L2
namespace L2
open PySem PySem.W PySem.Spec PyProof.Rows
section
variable {prog:Program} {w:World} {A:Around} {E:Value->Shared->Prop} {s:Shared} {r d:Addr} {o:Obj} {es:Array DictEntry} {ep:Nat}
end
section
variable {X:Cx} {o:Expr} {apos cpos:Pos} {td:TE}
end
section
variable {X:Cx}
end
end L2
namespace L2
open PySem PySem.W PySem.Spec PyProof.Rows
end L2
namespace L2
open PySem PySem.Spec PyProof.Rows
theorem AI.up {P:Program} {w:World} {K:PySem.W.Frag} {mg:Str->Option Value} {base:Heap} {CX:CXT} {k:Nat} {f:Addr} {fd:FuncData} {ps:List Str} {sp:Sp} (F:AI P w K mg base CX0 k f fd ps sp):AI P w K mg base CX k f fd ps sp :=
 ⟨F.len,fun A outer s H args us vs Q E hr e hb r h=>codeAny_mono (F.run A outer s H args us vs Q E hr e hb r h) fun r s' q=>by
  rcases r with e | (_ | _ | _ | _)
  ·exact q.elim
  all_goals exact q⟩
theorem AI.or {P:Program} {w:World} {K:PySem.W.Frag} {mg:Str->Option Value} {base:Heap} {CX:CXT} {k:Nat} {f:Addr} {fd:FuncData} {ps:List Str} {sp sp':Sp} (F:AI P w K mg base CX k f fd ps sp) (F':AI P w K mg base CX k f fd ps sp'):AI P w K mg base CX k f fd ps (fun vs H Q E=>sp vs H Q E\/sp' vs H Q E) :=
 ⟨fun vs H Q E h=>h.elim (F.len vs H Q E) (F'.len vs H Q E),fun A outer s H args us vs Q E hr e hb r h=>h.elim (F.run A outer s H args us vs Q E hr e hb r) (F'.run A outer s H args us vs Q E hr e hb r)⟩
def isT:Value->Bool
 | .bool b=>b
 | _=>false
theorem Mo:∀ {bs:List Bool} {its:List Value},AJ (bs.map V.bl) its->its=bs.map Value.bool
 | [],_,.nil=>rfl
 | b :: bs,_,.cons r t=>by
  cases (show _=Value.bool b from r);rw [Mo t];rfl
theorem eq_isT (b:Bool):PySem.MeetsSeq.EqGives (.bool b) (.bool true) b:=fun P w A E s Q q=>SeqAt.EqAt.bool_bool b true P w E Q (by
 cases b<;>exact q)
theorem PL {bs:List Bool} {y:Value} (hy:y ∈ bs.map Value.bool):PySem.MeetsSeq.EqGives y (.bool true) (isT y):=by
 obtain ⟨b,_,rfl⟩:=List.mem_map.mp hy;exact eq_isT b
theorem PR:∀ bs:List Bool,(bs.map Value.bool).countP isT=bs.countP id
 | []=>rfl
 | b :: bs=>by
  rw [List.map_cons,List.countP_cons,List.countP_cons,PR bs];rfl
structure CalH (P:Program) (w:World) (K:PySem.W.Frag) (mg:Str->Option Value) (base:Heap) (k:Nat) (x:Str) (ps:List Str) (sp:Sp):Prop where
 ex:∃ (f:Addr) (fd:FuncData),Qe P w K mg base k f fd ps sp/\mg x=some (.ref f)/\PySem.W.keepIn K (.ref f)=true/\DN K fd ps []
section
variable {X:Cx} {CX:CXT} {k:Nat} {ps:List Str} {sp:Sp} {E:XK} {x:Str} {p pos:Pos} {e:Expr} {es:List Expr} {t:TA} {S:St->Prop}
theorem pe_calS (c:Cal X.prog X.w X.K X.mg X.base CX k x ps sp) (hr:CF k X.A) (hg:Gl X x) (hx:Il CX X E S) (ha:PA X (e :: es) t) (hdb:(x == ("__debug__" : Str))=false:=by decide)
  (he:starEach (e :: es) X.env=(false,eval e X.env) :: starEach es X.env:=by rfl) (hpl:(backTo pos (starEach es X.env)).any (·.1)=false:=by rfl):PE X (.Call (.Name x p) (e :: es) [] pos) (Rt S sp [] E t):=by
 obtain ⟨f,fd,h1,h2,h3,h4⟩:=c;exact RZ h1 hr hg h2 h3 h4 .nil hx ha hdb he hpl
theorem pe_calH (c:CalH X.prog X.w X.K X.mg X.base k x ps sp) (hr:Os k X.A) (hg:Gl X x) (ha:PA X (e :: es) t) (hdb:(x == ("__debug__" : Str))=false:=by decide)
  (he:starEach (e :: es) X.env=(false,eval e X.env) :: starEach es X.env:=by rfl) (hpl:(backTo pos (starEach es X.env)).any (·.1)=false:=by rfl):PE X (.Call (.Name x p) (e :: es) [] pos) (Pq sp [] E0 t):=by
 obtain ⟨f,fd,h1,h2,h3,h4⟩:=c.ex;exact Sc h1 hr hg h2 h3 h4 ha hdb he hpl
end
section
variable {X:Cx}
theorem QF:MtR X "list.count" (fun x xs H Q=>∃ (l:Addr) (bs:List Bool),x=.ref l/\xs=[.bl true]/\H l=some (.lst (bs.map V.bl))/\Q (.int (bs.countP id:Nat)) H):=by
 intro pins s σ H x xs v us Q I rx r h;obtain ⟨l,bs,rfl,rfl,hH,q⟩:=h;cases rx;obtain ⟨u,rfl,hu⟩:=r.one;cases hu;obtain ⟨z,its,k,rv,hl,e⟩:=I.lstM hH;have ei:=Mo rv;subst ei;refine call_meets F.slot_list_count ⟨_,e,rfl⟩ F.entry_list_count (F.args_list_count_2 _ _) (MeetsSeq.list_count l _ k (.bool true) isT (fun y hy=>PL (by simpa using hy))) ⟨e,?_⟩;refine ⟨.int _,H,I.tok _,⟨_,rfl⟩,?_⟩;rw [List.toList_toArray,PR];exact q
theorem QE:MtR X "list.index" (fun x xs H Q=>∃ (l:Addr) (bs:List Bool) (j:Nat),x=.ref l/\xs=[.bl true]/\H l=some (.lst (bs.map V.bl))/\bs.length < 1000/\bs[j]?=some true/\(∀ m,m < j->bs[m]?=some false)/\Q (.int (j:Nat)) H):=by
 intro pins s σ H x xs v us Q I rx r h;obtain ⟨l,bs,j,rfl,rfl,hH,hl',hj,hm,q⟩:=h;cases rx;obtain ⟨u,rfl,hu⟩:=r.one;cases hu;obtain ⟨z,its,k,rv,hl,e⟩:=I.lstM hH;have ei:=Mo rv;subst ei;have jl:j < bs.length:=(List.getElem?_eq_some_iff.mp hj).1;refine call_meets F.slot_list_index ⟨_,e,rfl⟩ F.entry_list_index (F.args_list_index_2 _ _) (MeetsSeq.list_index l _ k (.bool true) isT (fun y hy=>PL (by simpa using hy)) j (by simpa using jl) (by lia) ?_ ?_) ⟨e,?_⟩
 ·have:=(List.getElem?_eq_some_iff.mp hj).2;simp [isT,this]
 ·intro m h1 h2;have:=(List.getElem?_eq_some_iff.mp (hm m h2)).2;simp [isT,this]
 ·exact ⟨.int _,H,I.tok _,⟨_,rfl⟩,q⟩
end
end L2
namespace L2
open PySem PySem.Spec PyProof.Rows
section
variable {X:Cx}
end
end L2
namespace L2
open PySem PySem.Spec PyProof.Rows
section
variable {X:Cx}
end
end L2
namespace L2
open PySem PySem.Spec PyProof.Rows
section
variable {X:Cx}
end
end L2
namespace L2
open PySem PySem.W PySem.Spec PyProof.Rows
section
variable {X:Cx} {pins:List (Addr×Obj)} {σ:St} {H H':Hp} {s:Shared} {k:Nat} {f b:Addr} {fd:FuncData} {ps:List Str}
end
end L2
namespace PyProof.Rows
open PySem
def MY:Bool->Keyed->Array Keyed->Nat->Nat->Nat->StateT SortSt Sem (Option Nat):=sortPriv% PySem.Builtin.gallop
section
variable {prog:Program} {w:World} {A:Around} {E:Value->Shared->Prop} {s:Shared}
def beyE (left:Bool) (key:Keyed) (arr:Array Keyed) (base i:Nat):StateT SortSt Sem (Option Bool):=elem' arr (base+i) >>= fun x=>if left=true then lt' x key else lt' key x >>= fun r=>pure (r.map fun b=>!b)
def BeyOk (prog:Program) (w:World) (A:Around) (E:Value->Shared->Prop) (s:Shared) (left:Bool) (key:Keyed) (st:SortSt) (x:Keyed) (b:Bool):Prop :=
 (left=true->∀ Q:Option Bool->SortSt->Prop,Q (some b) st->wpS (model prog w) A E s (lt' x key) Q st)/\(left=false->∀ Q:Option Bool->SortSt->Prop,Q (some (!b)) st->wpS (model prog w) A E s (lt' key x) Q st)
theorem Lf {left:Bool} {key:Keyed} {arr:Array Keyed} {base n i:Nat} {st:SortSt} {B:Nat->Bool} {Q:Option Bool->SortSt->Prop} (hz:base+n<=arr.size) (hB:∀ i x,i < n->arr[base+i]?=some x->BeyOk prog w A E s left key st x (B i)) (hi:i < n) (h:Q (some (B i)) st):wpS (model prog w) A E s (beyE left key arr base i) Q st:=by
 unfold beyE;have hl:base+i < arr.size:=by omega
 refine wpS_bind ?_;rw [elem'_eq,Array.getElem?_eq_getElem hl];refine wpS_pure ?_;obtain ⟨h1,h2⟩:=hB i arr[base+i] hi (Array.getElem?_eq_getElem hl);cases left with
 | true =>
  rw [if_pos rfl];exact h1 rfl _ h
 | false =>
  rw [if_neg (by simp)];refine wpS_bind (h2 rfl _ (wpS_pure ?_));show Q (some (!!B i)) st;rw [Bool.not_not];exact h
theorem up_ok {γ:Type} {f:Nat->(Option γ×Nat×Nat)->StateT SortSt Sem (ForInStep (Option γ×Nat×Nat))} {m n:Nat} {C:Nat->Bool} {st:SortSt} (h1:m<=n+1)
  (hs:∀ x l o Q',(m<=o->Q' (.done (none,l,o)) st)->(o < m->C o=true->Q' (.yield (none,o,2 * o+1)) st)->(o < m->C o=false->Q' (.done (none,l,o)) st)->wpS (model prog w) A E s (f x (none,l,o)) Q' st) :
  wpS (model prog w) A E s (forIn [0:n] (none,0,1) f) (fun r st'=>st'=st/\∃ l o,r=(none,l,o)/\l < o/\(l=0\/(l < m/\C l=true))/\(m<=o\/C o=false)) st:=by
 refine wpS_forRange (I:=fun x r st'=>st'=st/\∃ l o,r=(none,l,o)/\x < o/\l < o/\(l=0\/(l < m/\C l=true))) ?_ ?_ ⟨rfl,0,1,rfl,by omega,by omega,.inl rfl⟩
 ·rintro x c st' _ _ ⟨rfl,l,o,rfl,hx,hl,hc⟩;refine hs x l o _ (fun z=>?_) (fun z y=>?_) (fun z y=>?_)
  ·exact ⟨rfl,l,o,rfl,hl,hc,.inl z⟩
  ·exact ⟨rfl,o,2 * o+1,rfl,by omega,by omega,.inr ⟨z,y⟩⟩
  ·exact ⟨rfl,l,o,rfl,hl,hc,.inr y⟩
 ·rintro c st' ⟨rfl,l,o,rfl,hx,hl,hc⟩;exact ⟨rfl,l,o,rfl,hl,hc,.inl (by omega)⟩
theorem Tk {γ:Type} {f:Nat->(Option γ×Nat×Nat)->StateT SortSt Sem (ForInStep (Option γ×Nat×Nat))} {n lo hi:Nat} {B:Nat->Bool} {st:SortSt} (hn:hi<=n) (hl:lo<=hi) (mono:∀ i j,i<=j->j < n->B j=true->B i=true) (h1:∀ i,i < lo->B i=true) (h2:∀ i,hi<=i->i < n->B i=false)
  (hs:∀ x l h Q',(h<=l->Q' (.done (none,l,h)) st)->(l < h->h<=n->B (l+(h - l) / 2)=true->Q' (.yield (none,l+(h - l) / 2+1,h)) st)->(l < h->h<=n->B (l+(h - l) / 2)=false->Q' (.yield (none,l,l+(h - l) / 2)) st)->(l < h->h<=n)->wpS (model prog w) A E s (f x (none,l,h)) Q' st) :
  wpS (model prog w) A E s (forIn [0:n] (none,lo,hi) f) (fun r st'=>st'=st/\∃ l h,r=(none,l,h)/\h<=n/\(∀ i,i < h->B i=true)/\(∀ i,h<=i->i < n->B i=false)) st:=by
 refine wpS_forRange (I:=fun x r st'=>st'=st/\∃ l h,r=(none,l,h)/\l<=h/\h - l<=n - x/\h<=n/\(∀ i,i < l->B i=true)/\(∀ i,h<=i->i < n->B i=false)) ?_ ?_ ⟨rfl,lo,hi,rfl,hl,by omega,hn,h1,h2⟩
 ·rintro x c st' _ hx ⟨rfl,l,h,rfl,lh,me,hh,i1,i2⟩;refine hs x l h _ (fun z=>?_) (fun z _ y=>?_) (fun z _ y=>?_) (fun _=>hh)
  ·exact ⟨rfl,l,h,rfl,hh,fun i hi=>i1 i (by omega),i2⟩
  ·exact ⟨rfl,_,h,rfl,by omega,by omega,hh,fun i hi=>mono i _ (by omega) (by omega) y,i2⟩
  ·refine ⟨rfl,l,_,rfl,by omega,by omega,by omega,i1,fun i hi hn=>?_⟩;cases e:B i with
   | false=>rfl
   | true=>rw [mono _ i hi hn e] at y; cases y
 ·rintro c st' ⟨rfl,l,h,rfl,lh,me,hh,i1,i2⟩;exact ⟨rfl,l,h,rfl,hh,fun i hi=>i1 i (by omega),i2⟩
theorem LW {left:Bool} {key:Keyed} {arr:Array Keyed} {base n hint:Nat} {st:SortSt} {B:Nat->Bool} {Q:Option Nat->SortSt->Prop} (hz:base+n<=arr.size) (hh:hint < n) (hB:∀ i x,i < n->arr[base+i]?=some x->BeyOk prog w A E s left key st x (B i)) (mono:∀ i j,i<=j->j < n->B j=true->B i=true) (k:∀ h,h<=n->(∀ i,i < h->B i=true)->(∀ i,h<=i->i < n->B i=false)->Q (some h) st):wpS (model prog w) A E s (MY left key arr base n hint) Q st:=by
 have monoF:∀ i j,i<=j->j < n->B i=false->B j=false:=fun i j h1 h2 z=>by
  cases e:B j with
  | false=>rfl
  | true=>rw [mono i j h1 h2 e] at z; cases z
 refine wpS_bind ?_;refine Lf (i:=hint) hz hB hh ?_;dsimp only;cases hb:B hint with
 | true =>
  rw [if_pos rfl];refine wpS_bind (wpS_mono (up_ok (m:=n - hint) (C:=fun o=>B (hint+o)) (by omega) ?_) ?_)
  ·intro x l o Q' q1 q2 q3;dsimp only;by_cases z:o ≥ n - hint
   ·rw [if_pos z];exact wpS_pure (q1 z)
   rw [if_neg z];refine wpS_bind (Lf (i:=hint+o) hz hB (by omega) ?_);dsimp only;cases e:B (hint+o) with
   | true=>exact wpS_pure (q2 (by omega) e)
   | false=>exact wpS_pure (q3 (by omega) e)
  ·rintro r st' ⟨rfl,l,o,rfl,lo,hl,ho⟩;dsimp only;refine wpS_bind (wpS_mono (Tk (lo:=hint+l+1) (hi:=hint+min o (n - hint)) (by omega) ?_ mono ?_ ?_ ?_) ?_)
   ·rcases hl with z | z<;>omega
   ·intro i hi;rcases hl with z | z
    ·exact mono i hint (by omega) hh hb
    ·exact mono i (hint+l) (by omega) (by omega) z.2
   ·intro i hi hn;rcases ho with z | z
    ·omega
    ·by_cases y:n - hint<=o
     ·omega
     ·exact monoF (hint+o) i (by omega) hn z
   ·intro x l h Q' q1 q2 q3 q4;dsimp only;by_cases z:l ≥ h
    ·rw [if_pos z];exact wpS_pure (q1 z)
    rw [if_neg z];have:=q4 (by omega);refine wpS_bind (Lf (i:=l+(h - l) / 2) hz hB (by omega) ?_);dsimp only;cases e:B (l+(h - l) / 2) with
    | true=>exact wpS_pure (q2 (by omega) this e)
    | false=>exact wpS_pure (q3 (by omega) this e)
   ·rintro r st' ⟨rfl,l',h,rfl,hn,i1,i2⟩;exact wpS_pure (k h hn i1 i2)
 | false =>
  rw [if_neg (by simp)];refine wpS_bind (wpS_mono (up_ok (m:=hint+1) (C:=fun o=>!B (hint - o)) (by omega) ?_) ?_)
  ·intro x l o Q' q1 q2 q3;dsimp only;by_cases z:o ≥ hint+1
   ·rw [if_pos z];exact wpS_pure (q1 z)
   rw [if_neg z];refine wpS_bind (Lf (i:=hint - o) hz hB (by omega) ?_);dsimp only;cases e:B (hint - o) with
   | true=>exact wpS_pure (q3 (by omega) (by rw [e]; rfl))
   | false=>exact wpS_pure (q2 (by omega) (by rw [e]; rfl))
  ·rintro r st' ⟨rfl,l,o,rfl,lo,hl,ho⟩;dsimp only;have hlF:B (hint - l)=false:=by
    rcases hl with z | z
    ·rw [z]; exact hb
    ·simpa using z.2
   refine wpS_bind (wpS_mono (Tk (lo:=hint+1 - min o (hint+1)) (hi:=hint - l) (by omega) ?_ mono ?_ ?_ ?_) ?_)
   ·rcases hl with z | z<;>omega
   ·intro i hi;rcases ho with z | z
    ·omega
    ·by_cases y:hint+1<=o
     ·omega
     ·have z:B (hint - o)=true:=by simpa using z
      exact mono i (hint - o) (by omega) (by omega) z
   ·intro i hi hn;exact monoF (hint - l) i hi hn hlF
   ·intro x l h Q' q1 q2 q3 q4;dsimp only;by_cases z:l ≥ h
    ·rw [if_pos z];exact wpS_pure (q1 z)
    rw [if_neg z];have:=q4 (by omega);refine wpS_bind (Lf (i:=l+(h - l) / 2) hz hB (by omega) ?_);dsimp only;cases e:B (l+(h - l) / 2) with
    | true=>exact wpS_pure (q2 (by omega) this e)
    | false=>exact wpS_pure (q3 (by omega) this e)
   ·rintro r st' ⟨rfl,l',h,rfl,hn,i1,i2⟩;exact wpS_pure (k h hn i1 i2)
end
end PyProof.Rows
namespace PyProof.Rows
open PySem
def SoA (rk:Keyed->Nat) (a:Array Keyed):Prop:=∀ (i j:Nat) (x y:Keyed),i<=j->a[i]?=some x->a[j]?=some y->rk x<=rk y
structure MI (rk:Keyed->Nat) (a b out:Array Keyed) (ia ib:Nat):Prop where
 pm:out.toList.Perm (a.toList.take ia ++ b.toList.take ib)
 so:out.toList.Pairwise (fun x y=>rk x<=rk y)
 ba:∀ o ∈ out.toList,∀ i x,ia<=i->a[i]?=some x->rk o<=rk x
 bb:∀ o ∈ out.toList,∀ i x,ib<=i->b[i]?=some x->rk o<=rk x
section
variable {rk:Keyed->Nat} {a b out:Array Keyed} {ia ib:Nat}
theorem MI.nil:MI rk a b #[] 0 0:=⟨by simp,by simp,fun o h=>by simp at h,fun o h=>by simp at h⟩
theorem LJ {a:Array Keyed} {i:Nat} {x:Keyed} (h:a[i]?=some x):a.toList.take (i+1)=a.toList.take i ++ [x]:=by
 rw [List.take_add_one,Array.getElem?_toList,h];rfl
theorem MI.pushA {x:Keyed} (h:MI rk a b out ia ib) (sa:SoA rk a) (e:a[ia]?=some x) (le:∀ j y,ib<=j->b[j]?=some y->rk x<=rk y):MI rk a b (out.push x) (ia+1) ib:=by
 have me:∀ o,o ∈ (out.push x).toList->o ∈ out.toList\/o=x:=fun o ho=>by
  rw [Array.toList_push,List.mem_append,List.mem_singleton] at ho;exact ho
 refine ⟨?_,?_,fun o ho i y hi ey=>?_,fun o ho i y hi ey=>?_⟩
 ·rw [Array.toList_push,LJ e,List.append_assoc];refine (h.pm.append_right _).trans ?_;rw [List.append_assoc];exact List.Perm.append_left _ List.perm_append_comm
 ·rw [Array.toList_push,List.pairwise_append];refine ⟨h.so,by simp,fun o ho y hy=>?_⟩;rw [List.mem_singleton.mp hy];exact h.ba o ho ia x (Nat.le_refl _) e
 ·rcases me o ho with z | rfl
  ·exact h.ba o z i y (by omega) ey
  ·exact sa ia i _ y (by omega) e ey
 ·rcases me o ho with z | rfl
  ·exact h.bb o z i y hi ey
  ·exact le i y hi ey
theorem MI.pushB {x:Keyed} (h:MI rk a b out ia ib) (sb:SoA rk b) (e:b[ib]?=some x) (le:∀ j y,ia<=j->a[j]?=some y->rk x<=rk y):MI rk a b (out.push x) ia (ib+1):=by
 have me:∀ o,o ∈ (out.push x).toList->o ∈ out.toList\/o=x:=fun o ho=>by
  rw [Array.toList_push,List.mem_append,List.mem_singleton] at ho;exact ho
 refine ⟨?_,?_,fun o ho i y hi ey=>?_,fun o ho i y hi ey=>?_⟩
 ·rw [Array.toList_push,LJ e,<-List.append_assoc];exact h.pm.append_right _
 ·rw [Array.toList_push,List.pairwise_append];refine ⟨h.so,by simp,fun o ho y hy=>?_⟩;rw [List.mem_singleton.mp hy];exact h.bb o ho ib x (Nat.le_refl _) e
 ·rcases me o ho with z | rfl
  ·exact h.ba o z i y hi ey
  ·exact le i y hi ey
 ·rcases me o ho with z | rfl
  ·exact h.bb o z i y (by omega) ey
  ·exact sb ib i _ y (by omega) e ey
theorem Ob {a:Array Keyed} {i k:Nat} (h:i+k < a.size):a.extract i (i+(k+1))=(a.extract i (i+k)).push a[i+k]:=by
 apply Array.toList_inj.mp;rw [Array.toList_push,Array.toList_extract,Array.toList_extract];simp only [List.extract,Nat.add_sub_cancel_left];rw [List.take_add_one];congr 1;rw [List.getElem?_drop,Array.getElem?_toList,Array.getElem?_eq_getElem h];rfl
theorem MI.addA (sa:SoA rk a) (h:MI rk a b out ia ib):∀ {k:Nat},ia+k<=a.size->(∀ i x,ia<=i->i < ia+k->a[i]?=some x->∀ j y,ib<=j->b[j]?=some y->rk x<=rk y)->MI rk a b (out ++ a.extract ia (ia+k)) (ia+k) ib
 | 0,_,_=>by rw [Nat.add_zero,Array.extract_eq_empty_of_le (by omega),Array.append_empty]; exact h
 | k+1,hk,le=>by
  have hl:ia+k < a.size:=by omega
  have:=(MI.addA sa h (k:=k) (by omega) (fun i x h1 h2=>le i x h1 (by omega))).pushA sa (Array.getElem?_eq_getElem hl) (le _ _ (by omega) (by omega) (Array.getElem?_eq_getElem hl));rw [Ob hl,Array.append_push];exact this
theorem MI.addB (sb:SoA rk b) (h:MI rk a b out ia ib):∀ {k:Nat},ib+k<=b.size->(∀ i x,ib<=i->i < ib+k->b[i]?=some x->∀ j y,ia<=j->a[j]?=some y->rk x<=rk y)->MI rk a b (out ++ b.extract ib (ib+k)) ia (ib+k)
 | 0,_,_=>by rw [Nat.add_zero,Array.extract_eq_empty_of_le (by omega),Array.append_empty]; exact h
 | k+1,hk,le=>by
  have hl:ib+k < b.size:=by omega
  have:=(MI.addB sb h (k:=k) (by omega) (fun i x h1 h2=>le i x h1 (by omega))).pushB sb (Array.getElem?_eq_getElem hl) (le _ _ (by omega) (by omega) (Array.getElem?_eq_getElem hl));rw [Ob hl,Array.append_push];exact this
structure Mgd (rk:Keyed->Nat) (a b out:Array Keyed):Prop where
 pm:out.toList.Perm (a.toList ++ b.toList)
 so:out.toList.Pairwise (fun x y=>rk x<=rk y)
theorem MI.whole (h:MI rk a b out a.size b.size):Mgd rk a b out:=by
 refine ⟨?_,h.so⟩;have:=h.pm;rw [show a.size=a.toList.length from Array.length_toList.symm,show b.size=b.toList.length from Array.length_toList.symm,List.take_length,List.take_length] at this;exact this
theorem MI.doneA (sa:SoA rk a) (h:MI rk a b out ia b.size) (ha:ia<=a.size):Mgd rk a b (out ++ a.extract ia a.size ++ b.extract b.size b.size):=by
 have h1:=MI.addA sa h (k:=a.size - ia) (by omega) fun i x _ _ _ j y hj ey=>by
  rw [Array.getElem?_eq_none (by omega)] at ey;cases ey
 rw [show ia+(a.size - ia)=a.size by omega] at h1;have e:b.extract b.size b.size=#[]:=by simp
 rw [e,Array.append_empty];exact h1.whole
theorem MI.doneB (sb:SoA rk b) (h:MI rk a b out a.size ib) (hb:ib<=b.size):Mgd rk a b (out ++ a.extract a.size a.size ++ b.extract ib b.size):=by
 have e:a.extract a.size a.size=#[]:=by simp
 rw [e,Array.append_empty];have h1:=MI.addB sb h (k:=b.size - ib) (by omega) fun i x _ _ _ j y hj ey=>by
  rw [Array.getElem?_eq_none (by omega)] at ey;cases ey
 rw [show ib+(b.size - ib)=b.size by omega] at h1;exact h1.whole
theorem MI.lastA (sa:SoA rk a) (sb:SoA rk b) (h:MI rk a b out ia ib) (ha:ia<=a.size) (hb:ib<=b.size) (le:∀ i x,ib<=i->b[i]?=some x->∀ j y,ia<=j->a[j]?=some y->rk x<=rk y):Mgd rk a b (out ++ b.extract ib b.size ++ a.extract ia a.size):=by
 have h1:=MI.addB sb h (k:=b.size - ib) (by omega) fun i x h1 _=>le i x h1;rw [show ib+(b.size - ib)=b.size by omega] at h1;have h2:=MI.addA sa h1 (k:=a.size - ia) (by omega) fun i x _ _ _ j y hj ey=>by
  rw [Array.getElem?_eq_none (by omega)] at ey;cases ey
 rw [show ia+(a.size - ia)=a.size by omega] at h2;exact h2.whole
end
end PyProof.Rows
namespace PyProof.Rows
open PySem
section
variable {prog:Program} {w:World} {A:Around} {E:Value->Shared->Prop} {s:Shared} {rk:Keyed->Nat} {S:Keyed->Prop} {κ:SortKind}
def Lk (prog:Program) (w:World) (A:Around) (E:Value->Shared->Prop) (s:Shared) (rk:Keyed->Nat) (S:Keyed->Prop) (κ:SortKind):Prop:=∀ x y st (Q:Option Bool->SortSt->Prop),S x->S y->kindOf st=κ->Q (some (decide (rk x < rk y))) st->wpS (model prog w) A E s (lt' x y) Q st
def Eh (st st':SortSt):Prop:=∃ g,st'=SortSt.mk' (kindOf st) (arrOf st) (pendingOf st) g (failedOf st)
theorem Eh.refl (st:SortSt):Eh st st:=⟨gallopOf st,rfl⟩
theorem Eh.kind {st st':SortSt} (h:Eh st st'):kindOf st'=kindOf st:=by
 obtain ⟨g,rfl⟩:=h;rfl
theorem AL {arr:Array Keyed} {i:Nat} {x:Keyed} {st:SortSt} {Q:Keyed->SortSt->Prop} (e:arr[i]?=some x) (h:Q x st):wpS (model prog w) A E s (elem' arr i) Q st:=by
 rw [elem'_eq,e];exact wpS_pure h
theorem Fm {key:Keyed} {arr:Array Keyed} {base n hint:Nat} {st:SortSt} {Q:Option Nat->SortSt->Prop} (hl:Lk prog w A E s rk S κ) (hk:kindOf st=κ) (Sk:S key) (Sa:∀ (i:Nat) x,base<=i->i < base+n->arr[i]?=some x->S x) (so:∀ (i j:Nat) x y,base<=i->i<=j->j < base+n->arr[i]?=some x->arr[j]?=some y->rk x<=rk y) (hz:base+n<=arr.size) (hh:hint < n)
  (k:∀ h,h<=n->(∀ (i:Nat) x,base<=i->i < base+h->arr[i]?=some x->rk x<=rk key)->(∀ (i:Nat) x,base+h<=i->i < base+n->arr[i]?=some x->rk key < rk x)->Q (some h) st):wpS (model prog w) A E s (MY false key arr base n hint) Q st:=by
 refine LW (B:=fun i=>(arr[base+i]?).any fun x=>!decide (rk key < rk x)) hz hh (fun i x hi e=>?_) (fun i j ij jn z=>?_) fun h hn h1 h2=>?_
 ·refine ⟨(fun z=>by cases z),fun _ Q' q=>hl _ _ _ _ Sk (Sa _ x (by omega) (by omega) e) hk ?_⟩;have:(some (decide (rk key < rk x)))=some (!((arr[base+i]?).any fun x=>!decide (rk key < rk x))):=by rw [e]; simp
  rw [this];exact q
 ·have e1:arr[base+i]?=some arr[base+i]:=Array.getElem?_eq_getElem (by omega);have e2:arr[base+j]?=some arr[base+j]:=Array.getElem?_eq_getElem (by omega);have:=so _ _ _ _ (by omega) (by omega:base+i<=base+j) (by omega) e1 e2;simp only [e1,e2,Option.any_some,Bool.not_eq_true',decide_eq_false_iff_not] at z ⊢;omega
 ·refine k h hn (fun i x b1 b2 e=>?_) (fun i x b1 b2 e=>?_)
  ·have:=h1 (i - base) (by omega);rw [show base+(i - base)=i by omega,e] at this;simp only [Option.any_some,Bool.not_eq_true',decide_eq_false_iff_not] at this;omega
  ·have:=h2 (i - base) (by omega) (by omega);rw [show base+(i - base)=i by omega,e] at this
   simpa using this
theorem DJ {key:Keyed} {arr:Array Keyed} {base n hint:Nat} {st:SortSt} {Q:Option Nat->SortSt->Prop} (hl:Lk prog w A E s rk S κ) (hk:kindOf st=κ) (Sk:S key) (Sa:∀ (i:Nat) x,base<=i->i < base+n->arr[i]?=some x->S x) (so:∀ (i j:Nat) x y,base<=i->i<=j->j < base+n->arr[i]?=some x->arr[j]?=some y->rk x<=rk y) (hz:base+n<=arr.size) (hh:hint < n)
  (k:∀ h,h<=n->(∀ (i:Nat) x,base<=i->i < base+h->arr[i]?=some x->rk x < rk key)->(∀ (i:Nat) x,base+h<=i->i < base+n->arr[i]?=some x->rk key<=rk x)->Q (some h) st):wpS (model prog w) A E s (MY true key arr base n hint) Q st:=by
 refine LW (B:=fun i=>(arr[base+i]?).any fun x=>decide (rk x < rk key)) hz hh (fun i x hi e=>?_) (fun i j ij jn z=>?_) fun h hn h1 h2=>?_
 ·refine ⟨fun _ Q' q=>hl _ _ _ _ (Sa _ x (by omega) (by omega) e) Sk hk ?_,fun z=>by cases z⟩;have:(some (decide (rk x < rk key)))=some ((arr[base+i]?).any fun x=>decide (rk x < rk key)):=by rw [e]; simp
  rw [this];exact q
 ·have e1:arr[base+i]?=some arr[base+i]:=Array.getElem?_eq_getElem (by omega);have e2:arr[base+j]?=some arr[base+j]:=Array.getElem?_eq_getElem (by omega);have:=so _ _ _ _ (by omega) (by omega:base+i<=base+j) (by omega) e1 e2;simp only [e1,e2,Option.any_some,decide_eq_true_eq] at z ⊢;omega
 ·refine k h hn (fun i x b1 b2 e=>?_) (fun i x b1 b2 e=>?_)
  ·have:=h1 (i - base) (by omega);rw [show base+(i - base)=i by omega,e] at this
   simpa using this
  ·have:=h2 (i - base) (by omega) (by omega);rw [show base+(i - base)=i by omega,e] at this
   simpa using this
end
end PyProof.Rows
namespace PyProof.Rows
open PySem
def SF:Array Keyed->Array Keyed->StateT SortSt Sem (Array Keyed):=sortPriv% PySem.Builtin.mergeLo
structure Lv (rk:Keyed->Nat) (a b out:Array Keyed) (ia ib:Nat):Prop where
 mi:MI rk a b out ia ib
 la:ia+1 < a.size
 lb:ib < b.size
section
variable {prog:Program} {w:World} {A:Around} {E:Value->Shared->Prop} {s:Shared} {rk:Keyed->Nat} {S:Keyed->Prop} {κ:SortKind}
theorem OL {a b:Array Keyed} {st:SortSt} {Q:Array Keyed->SortSt->Prop} (hl:Lk prog w A E s rk S κ) (hk:kindOf st=κ) (na:1<=a.size) (nb:1<=b.size) (Sa:∀ (i:Nat) x,a[i]?=some x->S x) (Sb:∀ (i:Nat) x,b[i]?=some x->S x) (sa:SoA rk a) (sb:SoA rk b) (first:∀ x y,b[0]?=some x->a[0]?=some y->rk x<=rk y) (last:∀ (i:Nat) x y,b[i]?=some x->a[a.size - 1]?=some y->rk x<=rk y) (k:∀ out st',Mgd rk a b out->Eh st st'->Q out st'):wpS (model prog w) A E s (SF a b) Q st:=by
 have atA:∀ {i:Nat},i < a.size->∃ x,a[i]?=some x:=fun {i} h=>⟨_,Array.getElem?_eq_getElem h⟩
 have atB:∀ {i:Nat},i < b.size->∃ x,b[i]?=some x:=fun {i} h=>⟨_,Array.getElem?_eq_getElem h⟩
 have lastL:∀ {ia:Nat},ia+1=a.size->∀ {ib:Nat} (i:Nat) x,ib<=i->b[i]?=some x->∀ (j:Nat) y,ia<=j->a[j]?=some y->rk x<=rk y:=fun {ia} e {ib} i x _ ex j y hj ey=>by
  have jl:=(Array.getElem?_eq_some_iff.mp ey).1;have:j=a.size - 1:=by omega
  subst this;exact last i x y ex ey
 refine wpS_bind (wpS_lift (wpAny_rule ⟨rfl,?_⟩));obtain ⟨x0,e0⟩:=atB nb;refine wpS_bind (AL e0 ?_);dsimp only;have m0:MI rk a b #[x0] 0 1:=by
  have:=MI.pushB (MI.nil (rk:=rk) (a:=a) (b:=b)) sb e0 fun j y _ ey=>by
   obtain ⟨y0,f0⟩:=atA na;exact Nat.le_trans (first _ _ e0 f0) (sa 0 j _ _ (Nat.zero_le _) f0 ey)
  exact this
 by_cases z1:(1 == b.size)=true
 ·rw [if_pos z1];have z1:1=b.size:=by simpa using z1
  refine wpS_pure (k _ _ ?_ (Eh.refl st));rw [z1] at m0;have:=m0.doneA sa (Nat.zero_le _);rw [<-z1] at this ⊢;exact this
 rw [if_neg z1];by_cases z2:(0+1 == a.size)=true
 ·rw [if_pos z2];have z2:0+1=a.size:=by simpa using z2
  exact wpS_pure (k _ _ (m0.lastA sa sb (Nat.zero_le _) nb (lastL z2)) (Eh.refl st))
 rw [if_neg z2];have z1:1 < b.size:=by
  have:¬ 1=b.size:=fun z=>z1 (by simpa using z);omega
 have z2:0+1 < a.size:=by
  have:¬ 0+1=a.size:=fun z=>z2 (by simpa using z);omega
 refine wpS_bind (wpS_get ?_);refine wpS_bind (wpS_mono (wpS_forRange (I:=fun x r st'=>Eh st st'/\∃ out ia ib g,r=(none,out,ia,ib,g)/\Lv rk a b out ia ib/\x<=ia+ib) (Q:=fun r st'=>Eh st st'/\∃ o t,r=(some o,t)/\Mgd rk a b o) ?_ ?_ ⟨Eh.refl st,_,_,_,_,rfl,⟨m0,z2,z1⟩,Nat.zero_le _⟩) ?_)
 ·rintro x c st1 _ hx ⟨sy,out,ia,ib,g,rfl,lv,le⟩;dsimp only;have hk1:kindOf st1=κ:=by rw [sy.kind,hk]
  refine wpS_bind (wpS_mono (wpS_forRange (I:=fun x r st'=>st'=st1/\∃ out' ia' ib' ac bc,r=(none,out',ia',ib',ac,bc)/\Lv rk a b out' ia' ib'/\ia+ib+x<=ia'+ib') (Q:=fun r st'=>st'=st1/\((∃ o t,r=(some o,t)/\Mgd rk a b o)\/∃ out' ia' ib' ac bc,r=(none,out',ia',ib',ac,bc)/\Lv rk a b out' ia' ib'/\ia+ib+1<=ia'+ib')) ?_ ?_ ⟨rfl,out,ia,ib,0,0,rfl,lv,Nat.le_refl _⟩) ?_)
  ·rintro x' c' st2 _ hx' ⟨rfl,out',ia',ib',ac,bc,rfl,lv',le'⟩;dsimp only;obtain ⟨y,ey⟩:=atB lv'.lb;obtain ⟨z,ez⟩:=atA (Nat.lt_of_succ_lt lv'.la);refine wpS_bind (AL ey (wpS_bind (AL ez (wpS_bind (hl _ _ _ _ (Sb _ _ ey) (Sa _ _ ez) hk1 ?_)))));dsimp only;by_cases lt:rk y < rk z
   ·rw [decide_eq_true lt,if_pos rfl];refine wpS_bind (AL ey ?_)
    try dsimp only
    have mi:=lv'.mi.pushB sb ey fun j y' hj ey'=>by
     have:=sa _ _ _ _ hj ez ey';omega
    by_cases q:(ib'+1 == b.size)=true
    ·rw [if_pos q];have q:ib'+1=b.size:=by simpa using q
     refine wpS_pure ⟨rfl,.inl ⟨_,_,rfl,?_⟩⟩;rw [q] at mi ⊢;exact mi.doneA sa (by have:=lv'.la; omega)
    rw [if_neg q];have q:¬ ib'+1=b.size:=fun z=>q (by simpa using z);have lv2:Lv rk a b (out'.push y) ia' (ib'+1):=⟨mi,lv'.la,by have:=lv'.lb; omega⟩
    split
    ·exact wpS_pure ⟨rfl,.inr ⟨_,_,_,_,_,rfl,lv2,by omega⟩⟩
    ·exact wpS_pure ⟨rfl,_,_,_,_,_,rfl,lv2,by omega⟩
   ·rw [decide_eq_false lt,if_neg (by simp)];refine wpS_bind (AL ez ?_)
    try dsimp only
    have mi:=lv'.mi.pushA sa ez fun j y' hj ey'=>by
     have:=sb _ _ _ _ hj ey ey';omega
    by_cases q:(ia'+1+1 == a.size)=true
    ·rw [if_pos q];have q:ia'+1+1=a.size:=by simpa using q
     exact wpS_pure ⟨rfl,.inl ⟨_,_,rfl,mi.lastA sa sb (by omega) (Nat.le_of_lt lv'.lb) (lastL q)⟩⟩
    rw [if_neg q];have q:¬ ia'+1+1=a.size:=fun z=>q (by simpa using z);have lv2:Lv rk a b (out'.push z) (ia'+1) ib':=⟨mi,by have:=lv'.la; omega,lv'.lb⟩
    split
    ·exact wpS_pure ⟨rfl,.inr ⟨_,_,_,_,_,rfl,lv2,by omega⟩⟩
    ·exact wpS_pure ⟨rfl,_,_,_,_,_,rfl,lv2,by omega⟩
  ·rintro c' st2 ⟨rfl,out',ia',ib',ac,bc,rfl,lv',le'⟩;have:=lv'.la;have:=lv'.lb;omega
  rintro r st2 ⟨rfl,⟨o,t,rfl,mg⟩ | ⟨out',ia',ib',ac,bc,rfl,lv',le'⟩⟩
  ·exact wpS_pure ⟨sy,_,_,rfl,mg⟩
  dsimp only;refine wpS_bind (wpS_lift (wpAny_rule ⟨rfl,?_⟩));refine wpS_bind (wpS_mono (wpS_forRange (I:=fun x r st'=>Eh st st'/\∃ out2 ia2 ib2 g2 ac2 bc2,r=(none,out2,ia2,ib2,g2,ac2,bc2)/\Lv rk a b out2 ia2 ib2/\ia'+ib'+x<=ia2+ib2) (Q:=fun r st'=>Eh st st'/\((∃ o t,r=(some o,t)/\Mgd rk a b o)\/∃ out2 ia2 ib2 g2 ac2 bc2,r=(none,out2,ia2,ib2,g2,ac2,bc2)/\Lv rk a b out2 ia2 ib2/\ia'+ib'<=ia2+ib2)) ?_ ?_ ⟨sy,out',ia',ib',_,_,_,rfl,lv',Nat.le_refl _⟩) ?_)
  ·rintro x2 c2 st3 _ hx2 ⟨sy2,out2,ia2,ib2,g2,ac2,bc2,rfl,lv2,le2⟩;dsimp only;by_cases zg:g2 > 1
   ·rw [if_pos zg];have sy3:Eh st (SortSt.mk' (kindOf st3) (arrOf st3) (pendingOf st3) (g2 - 1) (failedOf st3)):=by
     obtain ⟨gg,rfl⟩:=sy2;exact ⟨_,rfl⟩
    have hk3:kindOf (SortSt.mk' (kindOf st3) (arrOf st3) (pendingOf st3) (g2 - 1) (failedOf st3))=κ:=by rw [sy3.kind,hk]
    refine wpS_bind (wpS_modify ?_);obtain ⟨y,ey⟩:=atB lv2.lb;have la2:=lv2.la;have lb2:=lv2.lb;refine wpS_bind (AL ey (wpS_bind (Fm hl hk3 (Sb _ _ ey) (fun i x _ _ e=>Sa i x e) (fun i j x y _ h _=>sa i j x y h) (by omega) (by omega) fun kk hkk h1 h2=>?_)))
    try dsimp only
    by_cases zk:kk > 0
    ·rw [if_pos zk];have mi2:=MI.addA sa lv2.mi (k:=kk) (by omega) fun i x h1' h2' ex j y' hj ey'=>Nat.le_trans (h1 i x h1' h2' ex) (sb _ _ _ _ hj ey ey');by_cases q1:(ia2+kk+1 == a.size)=true
     ·rw [if_pos q1];have q1:ia2+kk+1=a.size:=by simpa using q1
      exact wpS_pure ⟨sy3,.inl ⟨_,_,rfl,mi2.lastA sa sb (by omega) (by omega) (lastL q1)⟩⟩
     rw [if_neg q1];have q1:¬ ia2+kk+1=a.size:=fun z=>q1 (by simpa using z);by_cases q2:(ia2+kk == a.size)=true
     ·rw [if_pos q2];have q2:ia2+kk=a.size:=by simpa using q2
      refine wpS_pure ⟨sy3,.inl ⟨_,_,rfl,?_⟩⟩;have mi2':=mi2;rw [q2] at mi2' ⊢;exact mi2'.doneB sb (by omega)
     rw [if_neg q2];have q2:¬ ia2+kk=a.size:=fun z=>q2 (by simpa using z);have gt:∀ (i:Nat) x,ia2+kk<=i->a[i]?=some x->rk y < rk x:=fun i x hi ex=>h2 i x hi (by have:=(Array.getElem?_eq_some_iff.mp ex).1; omega) ex;have mi3:=mi2.pushB sb ey fun j y' hj ey'=>Nat.le_of_lt (gt j y' hj ey');refine wpS_bind (AL ey ?_)
     try dsimp only
     by_cases q3:(ib2+1 == b.size)=true
     ·rw [if_pos q3];have q3:ib2+1=b.size:=by simpa using q3
      refine wpS_pure ⟨sy3,.inl ⟨_,_,rfl,?_⟩⟩;rw [q3] at mi3 ⊢;exact mi3.doneA sa (by omega)
     rw [if_neg q3];have q3:¬ ib2+1=b.size:=fun z=>q3 (by simpa using z);obtain ⟨z,ez⟩:=atA (i:=ia2+kk) (by omega);refine wpS_bind (AL ez (wpS_bind (DJ hl hk3 (Sa _ _ ez) (fun i x _ _ e=>Sb i x e) (fun i j x y _ h _=>sb i j x y h) (by omega) (by omega) fun k2 hk2 h3 h4=>?_)))
     try dsimp only
     by_cases zk2:k2 > 0
     ·rw [if_pos zk2];have mi4:=MI.addB sb mi3 (k:=k2) (by omega) fun i x h1' h2' ex j y' hj ey'=>Nat.le_trans (Nat.le_of_lt (h3 i x h1' h2' ex)) (sa _ _ _ _ hj ez ey');by_cases q4:(ib2+1+k2 == b.size)=true
      ·rw [if_pos q4];have q4:ib2+1+k2=b.size:=by simpa using q4
       refine wpS_pure ⟨sy3,.inl ⟨_,_,rfl,?_⟩⟩;have mi4':=mi4;rw [q4] at mi4' ⊢;exact mi4'.doneA sa (by omega)
      rw [if_neg q4];have q4:¬ ib2+1+k2=b.size:=fun z=>q4 (by simpa using z);have mi5:=mi4.pushA sa ez fun j y' hj ey'=>h4 j y' (by omega) (by have:=(Array.getElem?_eq_some_iff.mp ey').1; omega) ey';refine wpS_bind (AL ez ?_)
      try dsimp only
      by_cases q5:(ia2+kk+1+1 == a.size)=true
      ·rw [if_pos q5];have q5:ia2+kk+1+1=a.size:=by simpa using q5
       exact wpS_pure ⟨sy3,.inl ⟨_,_,rfl,mi5.lastA sa sb (by omega) (by omega) (lastL q5)⟩⟩
      rw [if_neg q5];have q5:¬ ia2+kk+1+1=a.size:=fun z=>q5 (by simpa using z);have lv3:Lv rk a b _ (ia2+kk+1) (ib2+1+k2):=⟨mi5,by omega,by omega⟩
      split
      ·exact wpS_pure ⟨sy3,.inr ⟨_,_,_,_,_,_,rfl,lv3,by omega⟩⟩
      ·exact wpS_pure ⟨sy3,_,_,_,_,_,_,rfl,lv3,by omega⟩
     ·rw [if_neg zk2];have zk2:k2=0:=by omega
      subst zk2;have mi5:=mi3.pushA sa ez fun j y' hj ey'=>h4 j y' (by omega) (by have:=(Array.getElem?_eq_some_iff.mp ey').1; omega) ey';refine wpS_bind (AL ez ?_)
      try dsimp only
      by_cases q5:(ia2+kk+1+1 == a.size)=true
      ·rw [if_pos q5];have q5:ia2+kk+1+1=a.size:=by simpa using q5
       exact wpS_pure ⟨sy3,.inl ⟨_,_,rfl,mi5.lastA sa sb (by omega) (by omega) (lastL q5)⟩⟩
      rw [if_neg q5];have q5:¬ ia2+kk+1+1=a.size:=fun z=>q5 (by simpa using z);have lv3:Lv rk a b _ (ia2+kk+1) (ib2+1):=⟨mi5,by omega,by omega⟩
      split
      ·exact wpS_pure ⟨sy3,.inr ⟨_,_,_,_,_,_,rfl,lv3,by omega⟩⟩
      ·exact wpS_pure ⟨sy3,_,_,_,_,_,_,rfl,lv3,by omega⟩
    ·rw [if_neg zk];have zk:kk=0:=by omega
     subst zk;have gt:∀ (i:Nat) x,ia2<=i->a[i]?=some x->rk y < rk x:=fun i x hi ex=>h2 i x hi (by have:=(Array.getElem?_eq_some_iff.mp ex).1; omega) ex;have mi3:=lv2.mi.pushB sb ey fun j y' hj ey'=>Nat.le_of_lt (gt j y' hj ey');refine wpS_bind (AL ey ?_)
     try dsimp only
     by_cases q3:(ib2+1 == b.size)=true
     ·rw [if_pos q3];have q3:ib2+1=b.size:=by simpa using q3
      refine wpS_pure ⟨sy3,.inl ⟨_,_,rfl,?_⟩⟩;rw [q3] at mi3 ⊢;exact mi3.doneA sa (by omega)
     rw [if_neg q3];have q3:¬ ib2+1=b.size:=fun z=>q3 (by simpa using z);obtain ⟨z,ez⟩:=atA (i:=ia2) (by omega);refine wpS_bind (AL ez (wpS_bind (DJ hl hk3 (Sa _ _ ez) (fun i x _ _ e=>Sb i x e) (fun i j x y _ h _=>sb i j x y h) (by omega) (by omega) fun k2 hk2 h3 h4=>?_)))
     try dsimp only
     by_cases zk2:k2 > 0
     ·rw [if_pos zk2];have mi4:=MI.addB sb mi3 (k:=k2) (by omega) fun i x h1' h2' ex j y' hj ey'=>Nat.le_trans (Nat.le_of_lt (h3 i x h1' h2' ex)) (sa _ _ _ _ hj ez ey');by_cases q4:(ib2+1+k2 == b.size)=true
      ·rw [if_pos q4];have q4:ib2+1+k2=b.size:=by simpa using q4
       refine wpS_pure ⟨sy3,.inl ⟨_,_,rfl,?_⟩⟩;have mi4':=mi4;rw [q4] at mi4' ⊢;exact mi4'.doneA sa (by omega)
      rw [if_neg q4];have q4:¬ ib2+1+k2=b.size:=fun z=>q4 (by simpa using z);have mi5:=mi4.pushA sa ez fun j y' hj ey'=>h4 j y' (by omega) (by have:=(Array.getElem?_eq_some_iff.mp ey').1; omega) ey';refine wpS_bind (AL ez ?_)
      try dsimp only
      by_cases q5:(ia2+1+1 == a.size)=true
      ·rw [if_pos q5];have q5:ia2+1+1=a.size:=by simpa using q5
       exact wpS_pure ⟨sy3,.inl ⟨_,_,rfl,mi5.lastA sa sb (by omega) (by omega) (lastL q5)⟩⟩
      rw [if_neg q5];have q5:¬ ia2+1+1=a.size:=fun z=>q5 (by simpa using z);have lv3:Lv rk a b _ (ia2+1) (ib2+1+k2):=⟨mi5,by omega,by omega⟩
      split
      ·exact wpS_pure ⟨sy3,.inr ⟨_,_,_,_,_,_,rfl,lv3,by omega⟩⟩
      ·exact wpS_pure ⟨sy3,_,_,_,_,_,_,rfl,lv3,by omega⟩
     ·rw [if_neg zk2];have zk2:k2=0:=by omega
      subst zk2;have mi5:=mi3.pushA sa ez fun j y' hj ey'=>h4 j y' (by omega) (by have:=(Array.getElem?_eq_some_iff.mp ey').1; omega) ey';refine wpS_bind (AL ez ?_)
      try dsimp only
      by_cases q5:(ia2+1+1 == a.size)=true
      ·rw [if_pos q5];have q5:ia2+1+1=a.size:=by simpa using q5
       exact wpS_pure ⟨sy3,.inl ⟨_,_,rfl,mi5.lastA sa sb (by omega) (by omega) (lastL q5)⟩⟩
      rw [if_neg q5];have q5:¬ ia2+1+1=a.size:=fun z=>q5 (by simpa using z);have lv3:Lv rk a b _ (ia2+1) (ib2+1):=⟨mi5,by omega,by omega⟩
      split
      ·exact wpS_pure ⟨sy3,.inr ⟨_,_,_,_,_,_,rfl,lv3,by omega⟩⟩
      ·exact wpS_pure ⟨sy3,_,_,_,_,_,_,rfl,lv3,by omega⟩
   ·rw [if_neg zg];have sy3:Eh st (SortSt.mk' (kindOf st3) (arrOf st3) (pendingOf st3) g2 (failedOf st3)):=by
     obtain ⟨gg,rfl⟩:=sy2;exact ⟨_,rfl⟩
    have hk3:kindOf (SortSt.mk' (kindOf st3) (arrOf st3) (pendingOf st3) g2 (failedOf st3))=κ:=by rw [sy3.kind,hk]
    refine wpS_bind (wpS_modify ?_);obtain ⟨y,ey⟩:=atB lv2.lb;have la2:=lv2.la;have lb2:=lv2.lb;refine wpS_bind (AL ey (wpS_bind (Fm hl hk3 (Sb _ _ ey) (fun i x _ _ e=>Sa i x e) (fun i j x y _ h _=>sa i j x y h) (by omega) (by omega) fun kk hkk h1 h2=>?_)))
    try dsimp only
    by_cases zk:kk > 0
    ·rw [if_pos zk];have mi2:=MI.addA sa lv2.mi (k:=kk) (by omega) fun i x h1' h2' ex j y' hj ey'=>Nat.le_trans (h1 i x h1' h2' ex) (sb _ _ _ _ hj ey ey');by_cases q1:(ia2+kk+1 == a.size)=true
     ·rw [if_pos q1];have q1:ia2+kk+1=a.size:=by simpa using q1
      exact wpS_pure ⟨sy3,.inl ⟨_,_,rfl,mi2.lastA sa sb (by omega) (by omega) (lastL q1)⟩⟩
     rw [if_neg q1];have q1:¬ ia2+kk+1=a.size:=fun z=>q1 (by simpa using z);by_cases q2:(ia2+kk == a.size)=true
     ·rw [if_pos q2];have q2:ia2+kk=a.size:=by simpa using q2
      refine wpS_pure ⟨sy3,.inl ⟨_,_,rfl,?_⟩⟩;have mi2':=mi2;rw [q2] at mi2' ⊢;exact mi2'.doneB sb (by omega)
     rw [if_neg q2];have q2:¬ ia2+kk=a.size:=fun z=>q2 (by simpa using z);have gt:∀ (i:Nat) x,ia2+kk<=i->a[i]?=some x->rk y < rk x:=fun i x hi ex=>h2 i x hi (by have:=(Array.getElem?_eq_some_iff.mp ex).1; omega) ex;have mi3:=mi2.pushB sb ey fun j y' hj ey'=>Nat.le_of_lt (gt j y' hj ey');refine wpS_bind (AL ey ?_)
     try dsimp only
     by_cases q3:(ib2+1 == b.size)=true
     ·rw [if_pos q3];have q3:ib2+1=b.size:=by simpa using q3
      refine wpS_pure ⟨sy3,.inl ⟨_,_,rfl,?_⟩⟩;rw [q3] at mi3 ⊢;exact mi3.doneA sa (by omega)
     rw [if_neg q3];have q3:¬ ib2+1=b.size:=fun z=>q3 (by simpa using z);obtain ⟨z,ez⟩:=atA (i:=ia2+kk) (by omega);refine wpS_bind (AL ez (wpS_bind (DJ hl hk3 (Sa _ _ ez) (fun i x _ _ e=>Sb i x e) (fun i j x y _ h _=>sb i j x y h) (by omega) (by omega) fun k2 hk2 h3 h4=>?_)))
     try dsimp only
     by_cases zk2:k2 > 0
     ·rw [if_pos zk2];have mi4:=MI.addB sb mi3 (k:=k2) (by omega) fun i x h1' h2' ex j y' hj ey'=>Nat.le_trans (Nat.le_of_lt (h3 i x h1' h2' ex)) (sa _ _ _ _ hj ez ey');by_cases q4:(ib2+1+k2 == b.size)=true
      ·rw [if_pos q4];have q4:ib2+1+k2=b.size:=by simpa using q4
       refine wpS_pure ⟨sy3,.inl ⟨_,_,rfl,?_⟩⟩;have mi4':=mi4;rw [q4] at mi4' ⊢;exact mi4'.doneA sa (by omega)
      rw [if_neg q4];have q4:¬ ib2+1+k2=b.size:=fun z=>q4 (by simpa using z);have mi5:=mi4.pushA sa ez fun j y' hj ey'=>h4 j y' (by omega) (by have:=(Array.getElem?_eq_some_iff.mp ey').1; omega) ey';refine wpS_bind (AL ez ?_)
      try dsimp only
      by_cases q5:(ia2+kk+1+1 == a.size)=true
      ·rw [if_pos q5];have q5:ia2+kk+1+1=a.size:=by simpa using q5
       exact wpS_pure ⟨sy3,.inl ⟨_,_,rfl,mi5.lastA sa sb (by omega) (by omega) (lastL q5)⟩⟩
      rw [if_neg q5];have q5:¬ ia2+kk+1+1=a.size:=fun z=>q5 (by simpa using z);have lv3:Lv rk a b _ (ia2+kk+1) (ib2+1+k2):=⟨mi5,by omega,by omega⟩
      split
      ·exact wpS_pure ⟨sy3,.inr ⟨_,_,_,_,_,_,rfl,lv3,by omega⟩⟩
      ·exact wpS_pure ⟨sy3,_,_,_,_,_,_,rfl,lv3,by omega⟩
     ·rw [if_neg zk2];have zk2:k2=0:=by omega
      subst zk2;have mi5:=mi3.pushA sa ez fun j y' hj ey'=>h4 j y' (by omega) (by have:=(Array.getElem?_eq_some_iff.mp ey').1; omega) ey';refine wpS_bind (AL ez ?_)
      try dsimp only
      by_cases q5:(ia2+kk+1+1 == a.size)=true
      ·rw [if_pos q5];have q5:ia2+kk+1+1=a.size:=by simpa using q5
       exact wpS_pure ⟨sy3,.inl ⟨_,_,rfl,mi5.lastA sa sb (by omega) (by omega) (lastL q5)⟩⟩
      rw [if_neg q5];have q5:¬ ia2+kk+1+1=a.size:=fun z=>q5 (by simpa using z);have lv3:Lv rk a b _ (ia2+kk+1) (ib2+1):=⟨mi5,by omega,by omega⟩
      split
      ·exact wpS_pure ⟨sy3,.inr ⟨_,_,_,_,_,_,rfl,lv3,by omega⟩⟩
      ·exact wpS_pure ⟨sy3,_,_,_,_,_,_,rfl,lv3,by omega⟩
    ·rw [if_neg zk];have zk:kk=0:=by omega
     subst zk;have gt:∀ (i:Nat) x,ia2<=i->a[i]?=some x->rk y < rk x:=fun i x hi ex=>h2 i x hi (by have:=(Array.getElem?_eq_some_iff.mp ex).1; omega) ex;have mi3:=lv2.mi.pushB sb ey fun j y' hj ey'=>Nat.le_of_lt (gt j y' hj ey');refine wpS_bind (AL ey ?_)
     try dsimp only
     by_cases q3:(ib2+1 == b.size)=true
     ·rw [if_pos q3];have q3:ib2+1=b.size:=by simpa using q3
      refine wpS_pure ⟨sy3,.inl ⟨_,_,rfl,?_⟩⟩;rw [q3] at mi3 ⊢;exact mi3.doneA sa (by omega)
     rw [if_neg q3];have q3:¬ ib2+1=b.size:=fun z=>q3 (by simpa using z);obtain ⟨z,ez⟩:=atA (i:=ia2) (by omega);refine wpS_bind (AL ez (wpS_bind (DJ hl hk3 (Sa _ _ ez) (fun i x _ _ e=>Sb i x e) (fun i j x y _ h _=>sb i j x y h) (by omega) (by omega) fun k2 hk2 h3 h4=>?_)))
     try dsimp only
     by_cases zk2:k2 > 0
     ·rw [if_pos zk2];have mi4:=MI.addB sb mi3 (k:=k2) (by omega) fun i x h1' h2' ex j y' hj ey'=>Nat.le_trans (Nat.le_of_lt (h3 i x h1' h2' ex)) (sa _ _ _ _ hj ez ey');by_cases q4:(ib2+1+k2 == b.size)=true
      ·rw [if_pos q4];have q4:ib2+1+k2=b.size:=by simpa using q4
       refine wpS_pure ⟨sy3,.inl ⟨_,_,rfl,?_⟩⟩;have mi4':=mi4;rw [q4] at mi4' ⊢;exact mi4'.doneA sa (by omega)
      rw [if_neg q4];have q4:¬ ib2+1+k2=b.size:=fun z=>q4 (by simpa using z);have mi5:=mi4.pushA sa ez fun j y' hj ey'=>h4 j y' (by omega) (by have:=(Array.getElem?_eq_some_iff.mp ey').1; omega) ey';refine wpS_bind (AL ez ?_)
      try dsimp only
      by_cases q5:(ia2+1+1 == a.size)=true
      ·rw [if_pos q5];have q5:ia2+1+1=a.size:=by simpa using q5
       exact wpS_pure ⟨sy3,.inl ⟨_,_,rfl,mi5.lastA sa sb (by omega) (by omega) (lastL q5)⟩⟩
      rw [if_neg q5];have q5:¬ ia2+1+1=a.size:=fun z=>q5 (by simpa using z);have lv3:Lv rk a b _ (ia2+1) (ib2+1+k2):=⟨mi5,by omega,by omega⟩
      split
      ·exact wpS_pure ⟨sy3,.inr ⟨_,_,_,_,_,_,rfl,lv3,by omega⟩⟩
      ·exact wpS_pure ⟨sy3,_,_,_,_,_,_,rfl,lv3,by omega⟩
     ·rw [if_neg zk2];have zk2:k2=0:=by omega
      subst zk2;have mi5:=mi3.pushA sa ez fun j y' hj ey'=>h4 j y' (by omega) (by have:=(Array.getElem?_eq_some_iff.mp ey').1; omega) ey';refine wpS_bind (AL ez ?_)
      try dsimp only
      by_cases q5:(ia2+1+1 == a.size)=true
      ·rw [if_pos q5];have q5:ia2+1+1=a.size:=by simpa using q5
       exact wpS_pure ⟨sy3,.inl ⟨_,_,rfl,mi5.lastA sa sb (by omega) (by omega) (lastL q5)⟩⟩
      rw [if_neg q5];have q5:¬ ia2+1+1=a.size:=fun z=>q5 (by simpa using z);have lv3:Lv rk a b _ (ia2+1) (ib2+1):=⟨mi5,by omega,by omega⟩
      split
      ·exact wpS_pure ⟨sy3,.inr ⟨_,_,_,_,_,_,rfl,lv3,by omega⟩⟩
      ·exact wpS_pure ⟨sy3,_,_,_,_,_,_,rfl,lv3,by omega⟩
  ·rintro c2 st3 ⟨sy2,out2,ia2,ib2,g2,ac2,bc2,rfl,lv2,le2⟩;have:=lv2.la;have:=lv2.lb;omega
  rintro r st3 ⟨sy2,⟨o,t,rfl,mg⟩ | ⟨out2,ia2,ib2,g2,ac2,bc2,rfl,lv2,le2⟩⟩
  ·exact wpS_pure ⟨sy2,_,_,rfl,mg⟩
  refine wpS_bind (wpS_modify (wpS_pure ?_));refine ⟨?_,_,_,_,_,rfl,lv2,by show x+1<=ia2+ib2; omega⟩;obtain ⟨gg,rfl⟩:=sy2;exact ⟨_,rfl⟩
 ·rintro c st1 ⟨sy,out,ia,ib,g,rfl,lv,le⟩;have:=lv.la;have:=lv.lb;omega
 ·rintro r st1 ⟨sy,o,t,rfl,mg⟩;exact wpS_pure (k _ _ mg sy)
end
end PyProof.Rows
namespace PyProof.Rows
open PySem
structure MH (rk:Keyed->Nat) (a b out:Array Keyed) (na nb:Nat):Prop where
 pm:out.toList.Perm (a.toList.drop na ++ b.toList.drop nb)
 so:out.toList.Pairwise (fun x y=>rk y<=rk x)
 ba:∀ o ∈ out.toList,∀ i x,i < na->a[i]?=some x->rk x<=rk o
 bb:∀ o ∈ out.toList,∀ i x,i < nb->b[i]?=some x->rk x<=rk o
section
variable {rk:Keyed->Nat} {a b out:Array Keyed} {na nb:Nat}
theorem MH.nil:MH rk a b #[] a.size b.size:=by
 refine ⟨?_,by simp,fun o h=>by simp at h,fun o h=>by simp at h⟩;rw [show a.size=a.toList.length from Array.length_toList.symm,show b.size=b.toList.length from Array.length_toList.symm,List.drop_length,List.drop_length];exact List.Perm.refl _
theorem II {a:Array Keyed} {i:Nat} {x:Keyed} (h:a[i]?=some x):a.toList.drop i=x :: a.toList.drop (i+1):=by
 obtain ⟨hl,e⟩:=Array.getElem?_eq_some_iff.mp h;rw [List.drop_eq_getElem_cons (by rw [Array.length_toList]; exact hl),Array.getElem_toList,e]
theorem MH.pushA {x:Keyed} (h:MH rk a b out (na+1) nb) (sa:SoA rk a) (e:a[na]?=some x) (le:∀ j y,j < nb->b[j]?=some y->rk y<=rk x):MH rk a b (out.push x) na nb:=by
 have me:∀ o,o ∈ (out.push x).toList->o ∈ out.toList\/o=x:=fun o ho=>by
  rw [Array.toList_push,List.mem_append,List.mem_singleton] at ho;exact ho
 refine ⟨?_,?_,fun o ho i y hi ey=>?_,fun o ho i y hi ey=>?_⟩
 ·rw [Array.toList_push,II e,List.cons_append];exact List.perm_append_singleton x _ |>.trans (h.pm.cons x)
 ·rw [Array.toList_push,List.pairwise_append];refine ⟨h.so,by simp,fun o ho y hy=>?_⟩;rw [List.mem_singleton.mp hy];exact h.ba o ho na x (by omega) e
 ·rcases me o ho with z | rfl
  ·exact h.ba o z i y (by omega) ey
  ·exact sa i na y _ (by omega) ey e
 ·rcases me o ho with z | rfl
  ·exact h.bb o z i y hi ey
  ·exact le i y hi ey
theorem MH.pushB {x:Keyed} (h:MH rk a b out na (nb+1)) (sb:SoA rk b) (e:b[nb]?=some x) (le:∀ j y,j < na->a[j]?=some y->rk y<=rk x):MH rk a b (out.push x) na nb:=by
 have me:∀ o,o ∈ (out.push x).toList->o ∈ out.toList\/o=x:=fun o ho=>by
  rw [Array.toList_push,List.mem_append,List.mem_singleton] at ho;exact ho
 refine ⟨?_,?_,fun o ho i y hi ey=>?_,fun o ho i y hi ey=>?_⟩
 ·rw [Array.toList_push,II e];exact (List.perm_append_singleton x _).trans ((h.pm.cons x).trans List.perm_middle.symm)
 ·rw [Array.toList_push,List.pairwise_append];refine ⟨h.so,by simp,fun o ho y hy=>?_⟩;rw [List.mem_singleton.mp hy];exact h.bb o ho nb x (by omega) e
 ·rcases me o ho with z | rfl
  ·exact h.ba o z i y hi ey
  ·exact le i y hi ey
 ·rcases me o ho with z | rfl
  ·exact h.bb o z i y (by omega) ey
  ·exact sb i nb y _ (by omega) ey e
theorem Oa {a:Array Keyed} {i j:Nat} {x:Keyed} (h:a[i]?=some x) (ij:i < j):(a.extract i j).reverse=(a.extract (i+1) j).reverse.push x:=by
 apply Array.toList_inj.mp;rw [Array.toList_push,Array.toList_reverse,Array.toList_reverse,Array.toList_extract,Array.toList_extract];simp only [List.extract];rw [II h,show j - i=(j - (i+1))+1 by omega,List.take_succ_cons,List.reverse_cons]
theorem MH.addA (sa:SoA rk a) {n:Nat} (h:MH rk a b out n nb) (hn:n<=a.size):∀ {k t:Nat},t+k=n->(∀ i x,t<=i->i < n->a[i]?=some x->∀ j y,j < nb->b[j]?=some y->rk y<=rk x)->MH rk a b (out ++ (a.extract t n).reverse) t nb
 | 0,t,e,_=>by
  have:t=n:=by omega
  subst this;rw [Array.extract_eq_empty_of_le (by omega),Array.reverse_empty,Array.append_empty];exact h
 | k+1,t,e,le=>by
  have hl:t < a.size:=by omega
  have ex:a[t]?=some a[t]:=Array.getElem?_eq_getElem hl;have:=(MH.addA sa h hn (k:=k) (t:=t+1) (by omega) (fun i x h1 h2=>le i x (by omega) h2)).pushA sa ex (le t _ (Nat.le_refl _) (by omega) ex);rw [Oa ex (by omega),Array.append_push];exact this
theorem MH.addB (sb:SoA rk b) {n:Nat} (h:MH rk a b out na n) (hn:n<=b.size):∀ {k t:Nat},t+k=n->(∀ i x,t<=i->i < n->b[i]?=some x->∀ j y,j < na->a[j]?=some y->rk y<=rk x)->MH rk a b (out ++ (b.extract t n).reverse) na t
 | 0,t,e,_=>by
  have:t=n:=by omega
  subst this;rw [Array.extract_eq_empty_of_le (by omega),Array.reverse_empty,Array.append_empty];exact h
 | k+1,t,e,le=>by
  have hl:t < b.size:=by omega
  have ex:b[t]?=some b[t]:=Array.getElem?_eq_getElem hl;have:=(MH.addB sb h hn (k:=k) (t:=t+1) (by omega) (fun i x h1 h2=>le i x (by omega) h2)).pushB sb ex (le t _ (Nat.le_refl _) (by omega) ex);rw [Oa ex (by omega),Array.append_push];exact this
theorem MH.whole (h:MH rk a b out 0 0):Mgd rk a b out.reverse:=by
 refine ⟨?_,?_⟩
 ·rw [Array.toList_reverse];exact (List.reverse_perm _).trans h.pm
 ·rw [Array.toList_reverse,List.pairwise_reverse];exact h.so
theorem MH.doneA (sa:SoA rk a) (h:MH rk a b out na 0) (hn:na<=a.size):Mgd rk a b (a.extract 0 na ++ b.extract 0 0 ++ out.reverse):=by
 have h1:=(MH.addA sa h hn (k:=na) (t:=0) (by omega) fun i x _ _ _ j y hj=>absurd hj (by omega)).whole;have e:b.extract 0 0=#[]:=by simp
 rw [e,Array.append_empty];rw [Array.reverse_append,Array.reverse_reverse] at h1;exact h1
theorem MH.doneB (sb:SoA rk b) (h:MH rk a b out 0 nb) (hn:nb<=b.size):Mgd rk a b (a.extract 0 0 ++ b.extract 0 nb ++ out.reverse):=by
 have h1:=(MH.addB sb h hn (k:=nb) (t:=0) (by omega) fun i x _ _ _ j y hj=>absurd hj (by omega)).whole;have e:a.extract 0 0=#[]:=by simp
 rw [e,Array.empty_append];rw [Array.reverse_append,Array.reverse_reverse] at h1;exact h1
theorem MH.firstB (sa:SoA rk a) (sb:SoA rk b) (h:MH rk a b out na nb) (ha:na<=a.size) (hb:nb<=b.size) (le:∀ i x,i < na->a[i]?=some x->∀ j y,j < nb->b[j]?=some y->rk y<=rk x):Mgd rk a b (b.extract 0 nb ++ a.extract 0 na ++ out.reverse):=by
 have h1:=MH.addA sa h ha (k:=na) (t:=0) (by omega) fun i x _ h2=>le i x h2;have h2:=(MH.addB sb h1 hb (k:=nb) (t:=0) (by omega) fun i x _ _ _ j y hj=>absurd hj (by omega)).whole;rw [Array.reverse_append,Array.reverse_append,Array.reverse_reverse,Array.reverse_reverse,<-Array.append_assoc] at h2;exact h2
end
end PyProof.Rows
namespace PyProof.Rows
open PySem
def SG:Array Keyed->Array Keyed->StateT SortSt Sem (Array Keyed):=sortPriv% PySem.Builtin.mergeHi
structure LvH (rk:Keyed->Nat) (a b out:Array Keyed) (na nb:Nat):Prop where
 mh:MH rk a b out na nb
 la:1<=na
 ka:na<=a.size
 lb:2<=nb
 kb:nb<=b.size
section
variable {prog:Program} {w:World} {A:Around} {E:Value->Shared->Prop} {s:Shared} {rk:Keyed->Nat} {S:Keyed->Prop} {κ:SortKind}
theorem OM {a b:Array Keyed} {st:SortSt} {Q:Array Keyed->SortSt->Prop} (hl:Lk prog w A E s rk S κ) (hk:kindOf st=κ) (na:1<=a.size) (nb:1<=b.size) (Sa:∀ (i:Nat) x,a[i]?=some x->S x) (Sb:∀ (i:Nat) x,b[i]?=some x->S x) (sa:SoA rk a) (sb:SoA rk b) (first:∀ x y,b[0]?=some x->a[0]?=some y->rk x<=rk y) (last:∀ (i:Nat) x y,b[i]?=some x->a[a.size - 1]?=some y->rk x<=rk y) (k:∀ out st',Mgd rk a b out->Eh st st'->Q out st'):wpS (model prog w) A E s (SG a b) Q st:=by
 have atA:∀ {i:Nat},i < a.size->∃ x,a[i]?=some x:=fun {i} h=>⟨_,Array.getElem?_eq_getElem h⟩
 have atB:∀ {i:Nat},i < b.size->∃ x,b[i]?=some x:=fun {i} h=>⟨_,Array.getElem?_eq_getElem h⟩
 obtain ⟨f0,ef0⟩:=atA na;have firstL:∀ {nb:Nat},nb=1->∀ {na:Nat} (i:Nat) x,i < na->a[i]?=some x->∀ (j:Nat) y,j < nb->b[j]?=some y->rk y<=rk x:=fun {nb} e {na} i x _ ex j y hj ey=>by
  have:j=0:=by omega
  subst this;exact Nat.le_trans (first _ _ ey ef0) (sa 0 i _ _ (Nat.zero_le _) ef0 ex)
 refine wpS_bind (wpS_lift (wpAny_rule ⟨rfl,?_⟩));obtain ⟨x0,e0⟩:=atA (i:=a.size - 1) (by omega);refine wpS_bind (AL e0 ?_);dsimp only;have m0:MH rk a b #[x0] (a.size - 1) b.size:=by
  have:=MH.pushA (na:=a.size - 1) (show MH rk a b #[] (a.size - 1+1) b.size by rw [Nat.sub_add_cancel na]; exact MH.nil) sa e0 fun j y _ ey=>last j y x0 ey e0;exact this
 by_cases z1:(a.size - 1 == 0)=true
 ·rw [if_pos z1];have z1:a.size - 1=0:=by simpa using z1
  refine wpS_pure (k _ _ ?_ (Eh.refl st));rw [z1] at m0 ⊢;exact m0.doneB sb (Nat.le_refl _)
 rw [if_neg z1];have z1:¬ a.size - 1=0:=fun z=>z1 (by simpa using z);by_cases z2:(b.size == 1)=true
 ·rw [if_pos z2];have z2:b.size=1:=by simpa using z2
  exact wpS_pure (k _ _ (m0.firstB sa sb (by omega) (Nat.le_refl _) (firstL z2)) (Eh.refl st))
 rw [if_neg z2];have z2:¬ b.size=1:=fun z=>z2 (by simpa using z);refine wpS_bind (wpS_get ?_);refine wpS_bind (wpS_mono (wpS_forRange (I:=fun x r st'=>Eh st st'/\∃ na nb out g,r=(none,na,nb,out,g)/\LvH rk a b out na nb/\na+nb+x<=a.size+b.size) (Q:=fun r st'=>Eh st st'/\∃ o t,r=(some o,t)/\Mgd rk a b o) ?_ ?_ ⟨Eh.refl st,_,_,_,_,rfl,⟨m0,by omega,by omega,by omega,Nat.le_refl _⟩,by omega⟩) ?_)
 ·rintro x c st1 _ hx ⟨sy,na1,nb1,out,g,rfl,lv,le⟩;dsimp only;have hk1:kindOf st1=κ:=by rw [sy.kind,hk]
  refine wpS_bind (wpS_mono (wpS_forRange (I:=fun x r st'=>st'=st1/\∃ na' nb' out' ac bc,r=(none,na',nb',out',ac,bc)/\LvH rk a b out' na' nb'/\na'+nb'+x<=na1+nb1) (Q:=fun r st'=>st'=st1/\((∃ o t,r=(some o,t)/\Mgd rk a b o)\/∃ na' nb' out' ac bc,r=(none,na',nb',out',ac,bc)/\LvH rk a b out' na' nb'/\na'+nb'+1<=na1+nb1)) ?_ ?_ ⟨rfl,na1,nb1,out,0,0,rfl,lv,Nat.le_refl _⟩) ?_)
  ·rintro x' c' st2 _ hx' ⟨rfl,na',nb',out',ac,bc,rfl,lv',le'⟩;dsimp only;have la':=lv'.la;have ka':=lv'.ka;have lb':=lv'.lb;have kb':=lv'.kb;obtain ⟨y,ey⟩:=atB (i:=nb' - 1) (by omega);obtain ⟨z,ez⟩:=atA (i:=na' - 1) (by omega);refine wpS_bind (AL ey (wpS_bind (AL ez (wpS_bind (hl _ _ _ _ (Sb _ _ ey) (Sa _ _ ez) hk1 ?_)))));dsimp only;by_cases lt:rk y < rk z
   ·rw [decide_eq_true lt,if_pos rfl];refine wpS_bind (AL ez ?_)
    try dsimp only
    have mi:=(show MH rk a b out' (na' - 1+1) nb' by rw [Nat.sub_add_cancel la']; exact lv'.mh).pushA sa ez fun j y' hj ey'=>by
     have:=sb j (nb' - 1) _ _ (by omega) ey' ey;omega
    by_cases q:(na' - 1 == 0)=true
    ·rw [if_pos q];have q:na' - 1=0:=by simpa using q
     refine wpS_pure ⟨rfl,.inl ⟨_,_,rfl,?_⟩⟩;rw [q] at mi ⊢;exact mi.doneB sb (by omega)
    rw [if_neg q];have q:¬ na' - 1=0:=fun z=>q (by simpa using z);have lv2:LvH rk a b (out'.push z) (na' - 1) nb':=⟨mi,by omega,by omega,by omega,by omega⟩
    split
    ·exact wpS_pure ⟨rfl,.inr ⟨_,_,_,_,_,rfl,lv2,by omega⟩⟩
    ·exact wpS_pure ⟨rfl,_,_,_,_,_,rfl,lv2,by omega⟩
   ·rw [decide_eq_false lt,if_neg (by simp)];refine wpS_bind (AL ey ?_)
    try dsimp only
    have mi:=(show MH rk a b out' na' (nb' - 1+1) by rw [Nat.sub_add_cancel (by omega)]; exact lv'.mh).pushB sb ey fun j y' hj ey'=>by
     have:=sa j (na' - 1) _ _ (by omega) ey' ez;omega
    by_cases q:(nb' - 1 == 1)=true
    ·rw [if_pos q];have q:nb' - 1=1:=by simpa using q
     exact wpS_pure ⟨rfl,.inl ⟨_,_,rfl,mi.firstB sa sb (by omega) (by omega) (firstL q)⟩⟩
    rw [if_neg q];have q:¬ nb' - 1=1:=fun z=>q (by simpa using z);have lv2:LvH rk a b (out'.push y) na' (nb' - 1):=⟨mi,by omega,by omega,by omega,by omega⟩
    split
    ·exact wpS_pure ⟨rfl,.inr ⟨_,_,_,_,_,rfl,lv2,by omega⟩⟩
    ·exact wpS_pure ⟨rfl,_,_,_,_,_,rfl,lv2,by omega⟩
  ·rintro c' st2 ⟨rfl,na',nb',out',ac,bc,rfl,lv',le'⟩;have:=lv'.la;have:=lv'.lb;have:=lv.ka;have:=lv.kb;omega
  rintro r st2 ⟨rfl,⟨o,t,rfl,mg⟩ | ⟨na',nb',out',ac,bc,rfl,lv',le'⟩⟩
  ·exact wpS_pure ⟨sy,_,_,rfl,mg⟩
  dsimp only;refine wpS_bind (wpS_lift (wpAny_rule ⟨rfl,?_⟩));refine wpS_bind (wpS_mono (wpS_forRange (I:=fun x r st'=>Eh st st'/\∃ na2 nb2 out2 g2 ac2 bc2,r=(none,na2,nb2,out2,g2,ac2,bc2)/\LvH rk a b out2 na2 nb2/\na2+nb2+x<=na'+nb') (Q:=fun r st'=>Eh st st'/\((∃ o t,r=(some o,t)/\Mgd rk a b o)\/∃ na2 nb2 out2 g2 ac2 bc2,r=(none,na2,nb2,out2,g2,ac2,bc2)/\LvH rk a b out2 na2 nb2/\na2+nb2<=na'+nb')) ?_ ?_ ⟨sy,na',nb',out',_,_,_,rfl,lv',Nat.le_refl _⟩) ?_)
  ·rintro x2 c2 st3 _ hx2 ⟨sy2,na2,nb2,out2,g2,ac2,bc2,rfl,lv2,le2⟩;dsimp only;by_cases zg:g2 > 1
   ·rw [if_pos zg];have sy3:Eh st (SortSt.mk' (kindOf st3) (arrOf st3) (pendingOf st3) (g2 - 1) (failedOf st3)):=by
     obtain ⟨gg,rfl⟩:=sy2;exact ⟨_,rfl⟩
    have hk3:kindOf (SortSt.mk' (kindOf st3) (arrOf st3) (pendingOf st3) (g2 - 1) (failedOf st3))=κ:=by rw [sy3.kind,hk]
    refine wpS_bind (wpS_modify ?_);have la2:=lv2.la;have lb2:=lv2.lb;have ka2:=lv2.ka;have kb2:=lv2.kb;obtain ⟨y,ey⟩:=atB (i:=nb2 - 1) (by omega);refine wpS_bind (AL ey (wpS_bind (Fm hl hk3 (Sb _ _ ey) (fun i x _ _ e=>Sa i x e) (fun i j x y _ h _=>sa i j x y h) (by omega) (by omega) fun t1 ht1 h1 h2=>?_)))
    try dsimp only
    by_cases zk:na2 - t1 > 0
    ·rw [if_pos zk];have mi2:=MH.addA sa lv2.mh (by omega) (k:=na2 - t1) (t:=t1) (by omega) fun i x h1' h2' ex j y' hj ey'=>Nat.le_trans (sb j (nb2 - 1) _ _ (by omega) ey' ey) (Nat.le_of_lt (h2 i x (by omega) (by omega) ex));by_cases q1:(t1 == 0)=true
     ·rw [if_pos q1];have q1:t1=0:=by simpa using q1
      refine wpS_pure ⟨sy3,.inl ⟨_,_,rfl,?_⟩⟩;subst q1;exact mi2.doneB sb (by omega)
     rw [if_neg q1];have q1:¬ t1=0:=fun z=>q1 (by simpa using z);have mi3:=(show MH rk a b _ (t1) (nb2 - 1+1) by rw [Nat.sub_add_cancel (by omega)]; exact mi2).pushB sb ey fun j y' hj ey'=>h1 j y' (by omega) (by omega) ey';refine wpS_bind (AL ey ?_)
     try dsimp only
     by_cases q3:(nb2 - 1 == 1)=true
     ·rw [if_pos q3];have q3:nb2 - 1=1:=by simpa using q3
      exact wpS_pure ⟨sy3,.inl ⟨_,_,rfl,mi3.firstB sa sb (by omega) (by omega) (firstL q3)⟩⟩
     rw [if_neg q3];have q3:¬ nb2 - 1=1:=fun z=>q3 (by simpa using z);obtain ⟨z,ez⟩:=atA (i:=t1 - 1) (by omega);refine wpS_bind (AL ez (wpS_bind (DJ hl hk3 (Sa _ _ ez) (fun i x _ _ e=>Sb i x e) (fun i j x y _ h _=>sb i j x y h) (by omega) (by omega) fun t2 ht2 h3 h4=>?_)))
     try dsimp only
     by_cases zk2:nb2 - 1 - t2 > 0
     ·rw [if_pos zk2];have mi4:=MH.addB sb mi3 (by omega) (k:=nb2 - 1 - t2) (t:=t2) (by omega) fun i x h1' h2' ex j y' hj ey'=>Nat.le_trans (sa j (t1 - 1) _ _ (by omega) ey' ez) (h4 i x (by omega) (by omega) ex);by_cases q4:(t2 == 1)=true
      ·rw [if_pos q4];have q4:t2=1:=by simpa using q4
       exact wpS_pure ⟨sy3,.inl ⟨_,_,rfl,mi4.firstB sa sb (by omega) (by omega) (firstL q4)⟩⟩
      rw [if_neg q4];have q4:¬ t2=1:=fun z=>q4 (by simpa using z);by_cases q6:(t2 == 0)=true
      ·rw [if_pos q6];have q6:t2=0:=by simpa using q6
       refine wpS_pure ⟨sy3,.inl ⟨_,_,rfl,?_⟩⟩;subst q6;exact mi4.doneA sa (by omega)
      rw [if_neg q6];have q6:¬ t2=0:=fun z=>q6 (by simpa using z);have mi5:=(show MH rk a b _ (t1 - 1+1) (t2) by rw [Nat.sub_add_cancel (by omega)]; exact mi4).pushA sa ez fun j y' hj ey'=>Nat.le_of_lt (h3 j y' (by omega) (by omega) ey');refine wpS_bind (AL ez ?_)
      try dsimp only
      by_cases q5:(t1 - 1 == 0)=true
      ·rw [if_pos q5];have q5:t1 - 1=0:=by simpa using q5
       refine wpS_pure ⟨sy3,.inl ⟨_,_,rfl,?_⟩⟩;rw [q5] at mi5 ⊢;exact mi5.doneB sb (by omega)
      rw [if_neg q5];have q5:¬ t1 - 1=0:=fun z=>q5 (by simpa using z);have lv3:LvH rk a b _ (t1 - 1) (t2):=⟨mi5,by omega,by omega,by omega,by omega⟩
      split
      ·exact wpS_pure ⟨sy3,.inr ⟨_,_,_,_,_,_,rfl,lv3,by omega⟩⟩
      ·exact wpS_pure ⟨sy3,_,_,_,_,_,_,rfl,lv3,by omega⟩
     ·rw [if_neg zk2];have zk2:t2=nb2 - 1:=by omega
      subst zk2;have mi5:=(show MH rk a b _ (t1 - 1+1) (nb2 - 1) by rw [Nat.sub_add_cancel (by omega)]; exact mi3).pushA sa ez fun j y' hj ey'=>Nat.le_of_lt (h3 j y' (by omega) (by omega) ey');refine wpS_bind (AL ez ?_)
      try dsimp only
      by_cases q5:(t1 - 1 == 0)=true
      ·rw [if_pos q5];have q5:t1 - 1=0:=by simpa using q5
       refine wpS_pure ⟨sy3,.inl ⟨_,_,rfl,?_⟩⟩;rw [q5] at mi5 ⊢;exact mi5.doneB sb (by omega)
      rw [if_neg q5];have q5:¬ t1 - 1=0:=fun z=>q5 (by simpa using z);have lv3:LvH rk a b _ (t1 - 1) (nb2 - 1):=⟨mi5,by omega,by omega,by omega,by omega⟩
      split
      ·exact wpS_pure ⟨sy3,.inr ⟨_,_,_,_,_,_,rfl,lv3,by omega⟩⟩
      ·exact wpS_pure ⟨sy3,_,_,_,_,_,_,rfl,lv3,by omega⟩
    ·rw [if_neg zk];have zk:t1=na2:=by omega
     subst zk;have mi3:=(show MH rk a b _ (t1) (nb2 - 1+1) by rw [Nat.sub_add_cancel (by omega)]; exact lv2.mh).pushB sb ey fun j y' hj ey'=>h1 j y' (by omega) (by omega) ey';refine wpS_bind (AL ey ?_)
     try dsimp only
     by_cases q3:(nb2 - 1 == 1)=true
     ·rw [if_pos q3];have q3:nb2 - 1=1:=by simpa using q3
      exact wpS_pure ⟨sy3,.inl ⟨_,_,rfl,mi3.firstB sa sb (by omega) (by omega) (firstL q3)⟩⟩
     rw [if_neg q3];have q3:¬ nb2 - 1=1:=fun z=>q3 (by simpa using z);obtain ⟨z,ez⟩:=atA (i:=t1 - 1) (by omega);refine wpS_bind (AL ez (wpS_bind (DJ hl hk3 (Sa _ _ ez) (fun i x _ _ e=>Sb i x e) (fun i j x y _ h _=>sb i j x y h) (by omega) (by omega) fun t2 ht2 h3 h4=>?_)))
     try dsimp only
     by_cases zk2:nb2 - 1 - t2 > 0
     ·rw [if_pos zk2];have mi4:=MH.addB sb mi3 (by omega) (k:=nb2 - 1 - t2) (t:=t2) (by omega) fun i x h1' h2' ex j y' hj ey'=>Nat.le_trans (sa j (t1 - 1) _ _ (by omega) ey' ez) (h4 i x (by omega) (by omega) ex);by_cases q4:(t2 == 1)=true
      ·rw [if_pos q4];have q4:t2=1:=by simpa using q4
       exact wpS_pure ⟨sy3,.inl ⟨_,_,rfl,mi4.firstB sa sb (by omega) (by omega) (firstL q4)⟩⟩
      rw [if_neg q4];have q4:¬ t2=1:=fun z=>q4 (by simpa using z);by_cases q6:(t2 == 0)=true
      ·rw [if_pos q6];have q6:t2=0:=by simpa using q6
       refine wpS_pure ⟨sy3,.inl ⟨_,_,rfl,?_⟩⟩;subst q6;exact mi4.doneA sa (by omega)
      rw [if_neg q6];have q6:¬ t2=0:=fun z=>q6 (by simpa using z);have mi5:=(show MH rk a b _ (t1 - 1+1) (t2) by rw [Nat.sub_add_cancel (by omega)]; exact mi4).pushA sa ez fun j y' hj ey'=>Nat.le_of_lt (h3 j y' (by omega) (by omega) ey');refine wpS_bind (AL ez ?_)
      try dsimp only
      by_cases q5:(t1 - 1 == 0)=true
      ·rw [if_pos q5];have q5:t1 - 1=0:=by simpa using q5
       refine wpS_pure ⟨sy3,.inl ⟨_,_,rfl,?_⟩⟩;rw [q5] at mi5 ⊢;exact mi5.doneB sb (by omega)
      rw [if_neg q5];have q5:¬ t1 - 1=0:=fun z=>q5 (by simpa using z);have lv3:LvH rk a b _ (t1 - 1) (t2):=⟨mi5,by omega,by omega,by omega,by omega⟩
      split
      ·exact wpS_pure ⟨sy3,.inr ⟨_,_,_,_,_,_,rfl,lv3,by omega⟩⟩
      ·exact wpS_pure ⟨sy3,_,_,_,_,_,_,rfl,lv3,by omega⟩
     ·rw [if_neg zk2];have zk2:t2=nb2 - 1:=by omega
      subst zk2;have mi5:=(show MH rk a b _ (t1 - 1+1) (nb2 - 1) by rw [Nat.sub_add_cancel (by omega)]; exact mi3).pushA sa ez fun j y' hj ey'=>Nat.le_of_lt (h3 j y' (by omega) (by omega) ey');refine wpS_bind (AL ez ?_)
      try dsimp only
      by_cases q5:(t1 - 1 == 0)=true
      ·rw [if_pos q5];have q5:t1 - 1=0:=by simpa using q5
       refine wpS_pure ⟨sy3,.inl ⟨_,_,rfl,?_⟩⟩;rw [q5] at mi5 ⊢;exact mi5.doneB sb (by omega)
      rw [if_neg q5];have q5:¬ t1 - 1=0:=fun z=>q5 (by simpa using z);have lv3:LvH rk a b _ (t1 - 1) (nb2 - 1):=⟨mi5,by omega,by omega,by omega,by omega⟩
      split
      ·exact wpS_pure ⟨sy3,.inr ⟨_,_,_,_,_,_,rfl,lv3,by omega⟩⟩
      ·exact wpS_pure ⟨sy3,_,_,_,_,_,_,rfl,lv3,by omega⟩
   ·rw [if_neg zg];have sy3:Eh st (SortSt.mk' (kindOf st3) (arrOf st3) (pendingOf st3) g2 (failedOf st3)):=by
     obtain ⟨gg,rfl⟩:=sy2;exact ⟨_,rfl⟩
    have hk3:kindOf (SortSt.mk' (kindOf st3) (arrOf st3) (pendingOf st3) g2 (failedOf st3))=κ:=by rw [sy3.kind,hk]
    refine wpS_bind (wpS_modify ?_);have la2:=lv2.la;have lb2:=lv2.lb;have ka2:=lv2.ka;have kb2:=lv2.kb;obtain ⟨y,ey⟩:=atB (i:=nb2 - 1) (by omega);refine wpS_bind (AL ey (wpS_bind (Fm hl hk3 (Sb _ _ ey) (fun i x _ _ e=>Sa i x e) (fun i j x y _ h _=>sa i j x y h) (by omega) (by omega) fun t1 ht1 h1 h2=>?_)))
    try dsimp only
    by_cases zk:na2 - t1 > 0
    ·rw [if_pos zk];have mi2:=MH.addA sa lv2.mh (by omega) (k:=na2 - t1) (t:=t1) (by omega) fun i x h1' h2' ex j y' hj ey'=>Nat.le_trans (sb j (nb2 - 1) _ _ (by omega) ey' ey) (Nat.le_of_lt (h2 i x (by omega) (by omega) ex));by_cases q1:(t1 == 0)=true
     ·rw [if_pos q1];have q1:t1=0:=by simpa using q1
      refine wpS_pure ⟨sy3,.inl ⟨_,_,rfl,?_⟩⟩;subst q1;exact mi2.doneB sb (by omega)
     rw [if_neg q1];have q1:¬ t1=0:=fun z=>q1 (by simpa using z);have mi3:=(show MH rk a b _ (t1) (nb2 - 1+1) by rw [Nat.sub_add_cancel (by omega)]; exact mi2).pushB sb ey fun j y' hj ey'=>h1 j y' (by omega) (by omega) ey';refine wpS_bind (AL ey ?_)
     try dsimp only
     by_cases q3:(nb2 - 1 == 1)=true
     ·rw [if_pos q3];have q3:nb2 - 1=1:=by simpa using q3
      exact wpS_pure ⟨sy3,.inl ⟨_,_,rfl,mi3.firstB sa sb (by omega) (by omega) (firstL q3)⟩⟩
     rw [if_neg q3];have q3:¬ nb2 - 1=1:=fun z=>q3 (by simpa using z);obtain ⟨z,ez⟩:=atA (i:=t1 - 1) (by omega);refine wpS_bind (AL ez (wpS_bind (DJ hl hk3 (Sa _ _ ez) (fun i x _ _ e=>Sb i x e) (fun i j x y _ h _=>sb i j x y h) (by omega) (by omega) fun t2 ht2 h3 h4=>?_)))
     try dsimp only
     by_cases zk2:nb2 - 1 - t2 > 0
     ·rw [if_pos zk2];have mi4:=MH.addB sb mi3 (by omega) (k:=nb2 - 1 - t2) (t:=t2) (by omega) fun i x h1' h2' ex j y' hj ey'=>Nat.le_trans (sa j (t1 - 1) _ _ (by omega) ey' ez) (h4 i x (by omega) (by omega) ex);by_cases q4:(t2 == 1)=true
      ·rw [if_pos q4];have q4:t2=1:=by simpa using q4
       exact wpS_pure ⟨sy3,.inl ⟨_,_,rfl,mi4.firstB sa sb (by omega) (by omega) (firstL q4)⟩⟩
      rw [if_neg q4];have q4:¬ t2=1:=fun z=>q4 (by simpa using z);by_cases q6:(t2 == 0)=true
      ·rw [if_pos q6];have q6:t2=0:=by simpa using q6
       refine wpS_pure ⟨sy3,.inl ⟨_,_,rfl,?_⟩⟩;subst q6;exact mi4.doneA sa (by omega)
      rw [if_neg q6];have q6:¬ t2=0:=fun z=>q6 (by simpa using z);have mi5:=(show MH rk a b _ (t1 - 1+1) (t2) by rw [Nat.sub_add_cancel (by omega)]; exact mi4).pushA sa ez fun j y' hj ey'=>Nat.le_of_lt (h3 j y' (by omega) (by omega) ey');refine wpS_bind (AL ez ?_)
      try dsimp only
      by_cases q5:(t1 - 1 == 0)=true
      ·rw [if_pos q5];have q5:t1 - 1=0:=by simpa using q5
       refine wpS_pure ⟨sy3,.inl ⟨_,_,rfl,?_⟩⟩;rw [q5] at mi5 ⊢;exact mi5.doneB sb (by omega)
      rw [if_neg q5];have q5:¬ t1 - 1=0:=fun z=>q5 (by simpa using z);have lv3:LvH rk a b _ (t1 - 1) (t2):=⟨mi5,by omega,by omega,by omega,by omega⟩
      split
      ·exact wpS_pure ⟨sy3,.inr ⟨_,_,_,_,_,_,rfl,lv3,by omega⟩⟩
      ·exact wpS_pure ⟨sy3,_,_,_,_,_,_,rfl,lv3,by omega⟩
     ·rw [if_neg zk2];have zk2:t2=nb2 - 1:=by omega
      subst zk2;have mi5:=(show MH rk a b _ (t1 - 1+1) (nb2 - 1) by rw [Nat.sub_add_cancel (by omega)]; exact mi3).pushA sa ez fun j y' hj ey'=>Nat.le_of_lt (h3 j y' (by omega) (by omega) ey');refine wpS_bind (AL ez ?_)
      try dsimp only
      by_cases q5:(t1 - 1 == 0)=true
      ·rw [if_pos q5];have q5:t1 - 1=0:=by simpa using q5
       refine wpS_pure ⟨sy3,.inl ⟨_,_,rfl,?_⟩⟩;rw [q5] at mi5 ⊢;exact mi5.doneB sb (by omega)
      rw [if_neg q5];have q5:¬ t1 - 1=0:=fun z=>q5 (by simpa using z);have lv3:LvH rk a b _ (t1 - 1) (nb2 - 1):=⟨mi5,by omega,by omega,by omega,by omega⟩
      split
      ·exact wpS_pure ⟨sy3,.inr ⟨_,_,_,_,_,_,rfl,lv3,by omega⟩⟩
      ·exact wpS_pure ⟨sy3,_,_,_,_,_,_,rfl,lv3,by omega⟩
    ·rw [if_neg zk];have zk:t1=na2:=by omega
     subst zk;have mi3:=(show MH rk a b _ (t1) (nb2 - 1+1) by rw [Nat.sub_add_cancel (by omega)]; exact lv2.mh).pushB sb ey fun j y' hj ey'=>h1 j y' (by omega) (by omega) ey';refine wpS_bind (AL ey ?_)
     try dsimp only
     by_cases q3:(nb2 - 1 == 1)=true
     ·rw [if_pos q3];have q3:nb2 - 1=1:=by simpa using q3
      exact wpS_pure ⟨sy3,.inl ⟨_,_,rfl,mi3.firstB sa sb (by omega) (by omega) (firstL q3)⟩⟩
     rw [if_neg q3];have q3:¬ nb2 - 1=1:=fun z=>q3 (by simpa using z);obtain ⟨z,ez⟩:=atA (i:=t1 - 1) (by omega);refine wpS_bind (AL ez (wpS_bind (DJ hl hk3 (Sa _ _ ez) (fun i x _ _ e=>Sb i x e) (fun i j x y _ h _=>sb i j x y h) (by omega) (by omega) fun t2 ht2 h3 h4=>?_)))
     try dsimp only
     by_cases zk2:nb2 - 1 - t2 > 0
     ·rw [if_pos zk2];have mi4:=MH.addB sb mi3 (by omega) (k:=nb2 - 1 - t2) (t:=t2) (by omega) fun i x h1' h2' ex j y' hj ey'=>Nat.le_trans (sa j (t1 - 1) _ _ (by omega) ey' ez) (h4 i x (by omega) (by omega) ex);by_cases q4:(t2 == 1)=true
      ·rw [if_pos q4];have q4:t2=1:=by simpa using q4
       exact wpS_pure ⟨sy3,.inl ⟨_,_,rfl,mi4.firstB sa sb (by omega) (by omega) (firstL q4)⟩⟩
      rw [if_neg q4];have q4:¬ t2=1:=fun z=>q4 (by simpa using z);by_cases q6:(t2 == 0)=true
      ·rw [if_pos q6];have q6:t2=0:=by simpa using q6
       refine wpS_pure ⟨sy3,.inl ⟨_,_,rfl,?_⟩⟩;subst q6;exact mi4.doneA sa (by omega)
      rw [if_neg q6];have q6:¬ t2=0:=fun z=>q6 (by simpa using z);have mi5:=(show MH rk a b _ (t1 - 1+1) (t2) by rw [Nat.sub_add_cancel (by omega)]; exact mi4).pushA sa ez fun j y' hj ey'=>Nat.le_of_lt (h3 j y' (by omega) (by omega) ey');refine wpS_bind (AL ez ?_)
      try dsimp only
      by_cases q5:(t1 - 1 == 0)=true
      ·rw [if_pos q5];have q5:t1 - 1=0:=by simpa using q5
       refine wpS_pure ⟨sy3,.inl ⟨_,_,rfl,?_⟩⟩;rw [q5] at mi5 ⊢;exact mi5.doneB sb (by omega)
      rw [if_neg q5];have q5:¬ t1 - 1=0:=fun z=>q5 (by simpa using z);have lv3:LvH rk a b _ (t1 - 1) (t2):=⟨mi5,by omega,by omega,by omega,by omega⟩
      split
      ·exact wpS_pure ⟨sy3,.inr ⟨_,_,_,_,_,_,rfl,lv3,by omega⟩⟩
      ·exact wpS_pure ⟨sy3,_,_,_,_,_,_,rfl,lv3,by omega⟩
     ·rw [if_neg zk2];have zk2:t2=nb2 - 1:=by omega
      subst zk2;have mi5:=(show MH rk a b _ (t1 - 1+1) (nb2 - 1) by rw [Nat.sub_add_cancel (by omega)]; exact mi3).pushA sa ez fun j y' hj ey'=>Nat.le_of_lt (h3 j y' (by omega) (by omega) ey');refine wpS_bind (AL ez ?_)
      try dsimp only
      by_cases q5:(t1 - 1 == 0)=true
      ·rw [if_pos q5];have q5:t1 - 1=0:=by simpa using q5
       refine wpS_pure ⟨sy3,.inl ⟨_,_,rfl,?_⟩⟩;rw [q5] at mi5 ⊢;exact mi5.doneB sb (by omega)
      rw [if_neg q5];have q5:¬ t1 - 1=0:=fun z=>q5 (by simpa using z);have lv3:LvH rk a b _ (t1 - 1) (nb2 - 1):=⟨mi5,by omega,by omega,by omega,by omega⟩
      split
      ·exact wpS_pure ⟨sy3,.inr ⟨_,_,_,_,_,_,rfl,lv3,by omega⟩⟩
      ·exact wpS_pure ⟨sy3,_,_,_,_,_,_,rfl,lv3,by omega⟩
  ·rintro c2 st3 ⟨sy2,na2,nb2,out2,g2,ac2,bc2,rfl,lv2,le2⟩;have:=lv2.la;have:=lv2.lb;have:=lv'.ka;have:=lv'.kb;omega
  rintro r st3 ⟨sy2,⟨o,t,rfl,mg⟩ | ⟨na2,nb2,out2,g2,ac2,bc2,rfl,lv2,le2⟩⟩
  ·exact wpS_pure ⟨sy2,_,_,rfl,mg⟩
  refine wpS_bind (wpS_modify (wpS_pure ?_));refine ⟨?_,_,_,_,_,rfl,lv2,by show na2+nb2+(x+1)<=a.size+b.size; omega⟩;obtain ⟨gg,rfl⟩:=sy2;exact ⟨_,rfl⟩
 ·rintro c st1 ⟨sy,na1,nb1,out,g,rfl,lv,le⟩;have:=lv.la;have:=lv.lb;omega
 ·rintro r st1 ⟨sy,o,t,rfl,mg⟩;exact wpS_pure (k _ _ mg sy)
end
end PyProof.Rows
namespace PyProof.Rows
open PySem
theorem PB (t:Nat):∀ (l:List Keyed) (n:Nat) (arr:Array Keyed),t+n+l.length<=arr.size->((l.zipIdx n).foldl (fun a (p:Keyed×Nat)=>a.setIfInBounds (t+p.2) p.1) arr).toList=arr.toList.take (t+n) ++ l ++ arr.toList.drop (t+n+l.length)
 | [],n,arr,h=>by simp
 | x :: l,n,arr,h=>by
  rw [List.length_cons] at h;rw [List.zipIdx_cons,List.foldl_cons,PB t l (n+1) _ (by rw [Array.size_setIfInBounds]; omega)];have hl:t+n < arr.toList.length:=by rw [Array.length_toList]; omega
  rw [Array.toList_setIfInBounds,List.length_cons];have e1:(arr.toList.set (t+n) x).take (t+(n+1))=arr.toList.take (t+n) ++ [x]:=by
   rw [show t+(n+1)=(t+n)+1 by omega,List.take_add_one,List.take_set_of_le (Nat.le_refl _),List.getElem?_set_self hl];rfl
  have e2:(arr.toList.set (t+n) x).drop (t+(n+1)+l.length)=arr.toList.drop (t+n+(l.length+1)):=by
   rw [List.drop_set_of_lt (by omega)];congr 1;omega
  rw [e1,e2];simp
theorem QK {t:Nat} {m arr:Array Keyed} (h:t+m.size<=arr.size):(m.toList.zipIdx.foldl (fun a (p:Keyed×Nat)=>a.setIfInBounds (t+p.2) p.1) arr).toList=arr.toList.take t ++ m.toList ++ arr.toList.drop (t+m.size):=by
 have:=PB t m.toList 0 arr (by rw [Array.length_toList]; omega);rw [Array.length_toList] at this;exact this
end PyProof.Rows
namespace PyProof.Rows
open PySem
def SoR (rk:Keyed->Nat) (arr:Array Keyed) (lo hi:Nat):Prop:=∀ (i j:Nat) (x y:Keyed),lo<=i->i<=j->j < hi->arr[i]?=some x->arr[j]?=some y->rk x<=rk y
structure Mgr (rk:Keyed->Nat) (arr arr':Array Keyed) (lo hi:Nat):Prop where
 pm:arr'.toList.Perm arr.toList
 out:∀ i:Nat,i < lo\/hi<=i->arr'[i]?=arr[i]?
 so:SoR rk arr' lo hi
section
variable {prog:Program} {w:World} {A:Around} {E:Value->Shared->Prop} {s:Shared} {rk:Keyed->Nat} {S:Keyed->Prop} {κ:SortKind}
theorem SoR.ext {arr:Array Keyed} {lo hi:Nat} (h:SoR rk arr lo hi) (hz:hi<=arr.size):SoA rk (arr.extract lo hi):=fun i j x y ij ex ey=>by
 have jl:=(Array.getElem?_eq_some_iff.mp ey).1;rw [Array.size_extract] at jl;rw [Array.getElem?_extract] at ex ey;rw [if_pos (by omega)] at ex ey;exact h (lo+i) (lo+j) x y (by omega) (by omega) (by omega) ex ey
theorem SoR.join {arr:Array Keyed} {lo mid hi:Nat} (h1:SoR rk arr lo mid) (h2:SoR rk arr mid hi) (h:∀ (i j:Nat) x y,lo<=i->i < mid->mid<=j->j < hi->arr[i]?=some x->arr[j]?=some y->rk x<=rk y):SoR rk arr lo hi:=fun i j x y li ij jh ex ey=>by
 by_cases a:j < mid
 ·exact h1 i j x y li ij a ex ey
 ·by_cases b:i < mid
  ·exact h i j x y li b (by omega) jh ex ey
  ·exact h2 i j x y (by omega) ij jh ex ey
theorem Mgr.same {arr:Array Keyed} {lo hi:Nat} (h:SoR rk arr lo hi):Mgr rk arr arr lo hi:=⟨List.Perm.refl _,fun _ _=>rfl,h⟩
theorem laid_at {t:Nat} {m arr arr':Array Keyed} (h:t+m.size<=arr.size) (e:arr'.toList=arr.toList.take t ++ m.toList ++ arr.toList.drop (t+m.size)) (i:Nat):arr'[i]?=if t<=i/\i < t+m.size then m[i - t]? else arr[i]?:=by
 rw [<-Array.getElem?_toList,e];have l1:(arr.toList.take t).length=t:=by rw [List.length_take,Array.length_toList]; omega
 have l2:(arr.toList.take t ++ m.toList).length=t+m.size:=by rw [List.length_append,l1,Array.length_toList]
 by_cases a:i < t
 ·rw [if_neg (by omega),List.append_assoc,List.getElem?_append_left (by omega),List.getElem?_take,if_pos a,Array.getElem?_toList]
 ·by_cases b:i < t+m.size
  ·rw [if_pos (by omega),List.getElem?_append_left (by omega),List.getElem?_append_right (by omega),l1,Array.getElem?_toList]
  ·rw [if_neg (by omega),List.getElem?_append_right (by omega),l2,List.getElem?_drop,show t+m.size+(i - (t+m.size))=i by omega,Array.getElem?_toList]
theorem SE {arr arr' m:Array Keyed} {lo t mid u hi:Nat} (b1:lo<=t) (b2:t < mid) (b3:mid < u) (b4:u<=hi) (hz:hi<=arr.size) (h1:SoR rk arr lo mid) (h2:SoR rk arr mid hi) (low:∀ (i j:Nat) x y,lo<=i->i < t->mid<=j->j < hi->arr[i]?=some x->arr[j]?=some y->rk x<=rk y) (high:∀ (i j:Nat) x y,lo<=i->i < mid->u<=j->j < hi->arr[i]?=some x->arr[j]?=some y->rk x<=rk y) (mg:Mgd rk (arr.extract t mid) (arr.extract mid u) m) (e:arr'.toList=arr.toList.take t ++ m.toList ++ arr.toList.drop (t+m.size)):Mgr rk arr arr' lo hi:=by
 have ms:m.size=u - t:=by
  have:=mg.pm.length_eq;rw [List.length_append,Array.length_toList,Array.length_toList,Array.length_toList,Array.size_extract,Array.size_extract] at this;omega
 have tm:t+m.size=u:=by omega
 have at':=laid_at (t:=t) (m:=m) (arr:=arr) (arr':=arr') (by omega) e;have ml:arr.extract t mid ++ arr.extract mid u=arr.extract t u:=by
  rw [Array.extract_append_extract];congr 1<;>omega
 have inm:∀ {i:Nat} {x:Keyed},m[i]?=some x->∃ j,t<=j/\j < u/\arr[j]?=some x:=fun {i x} ex=>by
  have hm:x ∈ m.toList:=by rw [<-Array.getElem?_toList] at ex; exact List.mem_of_getElem? ex
  have:=mg.pm.mem_iff.mp hm;rw [<-Array.toList_append,ml] at this;obtain ⟨j,hj⟩:=List.getElem?_of_mem this;rw [Array.getElem?_toList,Array.getElem?_extract] at hj;split at hj
  ·exact ⟨t+j,by omega,by omega,hj⟩
  ·cases hj
 refine ⟨?_,fun i hi'=>?_,fun i j x y li ij jh ex ey=>?_⟩
 ·rw [e];have:arr.toList=arr.toList.take t ++ (arr.extract t u).toList ++ arr.toList.drop (t+m.size):=by
   rw [Array.toList_extract,tm,List.append_assoc];simp only [List.extract];have:(arr.toList.drop t).take (u - t) ++ arr.toList.drop u=arr.toList.drop t:=by
    have:=List.take_append_drop (u - t) (arr.toList.drop t);rw [List.drop_drop,show t+(u - t)=u by omega] at this;exact this
   rw [this,List.take_append_drop]
  rw (occs:=.pos [3]) [this];refine List.Perm.append_right _ (List.Perm.append_left _ ?_);rw [<-ml,Array.toList_append];exact mg.pm
 ·rw [at',if_neg (by omega)]
 ·rw [at'] at ex ey;by_cases ci:t<=i/\i < t+m.size
  ·rw [if_pos ci] at ex;by_cases cj:t<=j/\j < t+m.size
   ·rw [if_pos cj] at ey;by_cases q:i=j
    ·subst q;rw [ex] at ey;cases ey;exact Nat.le_refl _
    ·have:=List.pairwise_iff_getElem.mp mg.so (i - t) (j - t) (by rw [Array.length_toList]; omega) (by rw [Array.length_toList]; omega) (by omega);obtain ⟨_,f1⟩:=Array.getElem?_eq_some_iff.mp ex;obtain ⟨_,f2⟩:=Array.getElem?_eq_some_iff.mp ey;rw [Array.getElem_toList,Array.getElem_toList,f1,f2] at this;exact this
   ·rw [if_neg cj] at ey;obtain ⟨k,k1,k2,ek⟩:=inm ex;by_cases q:k < mid
    ·exact high k j x y (by omega) q (by omega) jh ek ey
    ·exact h2 k j x y (by omega) (by omega) jh ek ey
  ·rw [if_neg ci] at ex;by_cases cj:t<=j/\j < t+m.size
   ·rw [if_pos cj] at ey;obtain ⟨k,k1,k2,ek⟩:=inm ey;by_cases q:k < mid
    ·exact h1 i k x y li (by omega) q ex ek
    ·exact low i k x y li (by omega) (by omega) (by omega) ex ek
   ·rw [if_neg cj] at ey;by_cases q:i < t
    ·by_cases r:j < mid
     ·exact h1 i j x y li ij r ex ey
     ·exact low i j x y li q (by omega) jh ex ey
    ·exact h2 i j x y (by omega) ij jh ex ey
end
end PyProof.Rows
namespace PyProof.Rows
open PySem
section
variable {prog:Program} {w:World} {A:Around} {E:Value->Shared->Prop} {s:Shared} {rk:Keyed->Nat} {S:Keyed->Prop} {κ:SortKind}
theorem Rj {st st':SortSt} {Q:PUnit->SortSt->Prop} (h:Q ⟨⟩ st'):wpS (model prog w) A E s (set st':StateT SortSt Sem PUnit) Q st:=by
 unfold wpS;rw [StateT.run_set];exact wpAny_pure ⟨rfl,h⟩
theorem ON {st:SortSt} {Q:Bool->SortSt->Prop} {i sa na pw sb nb pw':Nat} (hl:Lk prog w A E s rk S κ) (hk:kindOf st=κ) (hf:failedOf st=none) (e1:(pendingOf st)[i]?=some (sa,na,pw)) (e2:(pendingOf st)[i+1]?=some (sb,nb,pw')) (hab:sb=sa+na) (na1:1<=na) (nb1:1<=nb) (hz:sb+nb<=(arrOf st).size) (Sall:∀ (i:Nat) x,(arrOf st)[i]?=some x->S x) (s1:SoR rk (arrOf st) sa sb) (s2:SoR rk (arrOf st) sb (sb+nb))
  (k:∀ st',kindOf st'=κ->failedOf st'=none->pendingOf st'=((pendingOf st).setIfInBounds i (sa,na+nb,pw)).eraseIdxIfInBounds (i+1)->Mgr rk (arrOf st) (arrOf st') sa (sb+nb)->Q true st'):wpS (model prog w) A E s (mergeAt' i) Q st:=by
 subst hab;have at':∀ {j:Nat},j < (arrOf st).size->∃ x,(arrOf st)[j]?=some x:=fun {j} h=>⟨_,Array.getElem?_eq_getElem h⟩
 refine wpS_bind (wpS_get ?_);rw [e1,e2];dsimp only;refine wpS_bind (Rj ?_);obtain ⟨y0,ey0⟩:=at' (j:=sa+na) (by omega);refine wpS_bind (AL ey0 (wpS_bind (Fm hl hk (Sall _ _ ey0) (fun i x _ _ e=>Sall i x e) (fun i j x y h1 h2 h3=>s1 i j x y h1 h2 h3) (show sa+na<=(arrOf st).size by omega) (by omega) fun kk hkk h1 h2=>?_)));dsimp only;by_cases q1:(na - kk == 0)=true
 ·rw [if_pos q1];have q1:na - kk=0:=by simpa using q1
  refine wpS_pure (k _ hk hf rfl (Mgr.same (s1.join s2 fun i j x y a1 a2 a3 a4 ex ey=>?_)));exact Nat.le_trans (h1 i x a1 (by omega) ex) (s2 _ _ _ _ (Nat.le_refl _) a3 a4 ey0 ey)
 rw [if_neg q1];have q1:¬ na - kk=0:=fun z=>q1 (by simpa using z);obtain ⟨xl,exl⟩:=at' (j:=sa+kk+(na - kk) - 1) (by omega);refine wpS_bind (AL exl (wpS_bind (DJ hl hk (Sall _ _ exl) (fun i x _ _ e=>Sall i x e) (fun i j x y h1 h2 h3=>s2 i j x y h1 h2 h3) (show sa+na+nb<=(arrOf st).size by omega) (by omega) fun t2 ht2 h3 h4=>?_)));dsimp only;have low:∀ (i j:Nat) x y,sa<=i->i < sa+kk->sa+na<=j->j < sa+na+nb->(arrOf st)[i]?=some x->(arrOf st)[j]?=some y->rk x<=rk y:=fun i j x y a1 a2 a3 a4 ex ey=>Nat.le_trans (h1 i x a1 a2 ex) (s2 _ _ _ _ (Nat.le_refl _) a3 a4 ey0 ey);have high:∀ (i j:Nat) x y,sa<=i->i < sa+na->sa+na+t2<=j->j < sa+na+nb->(arrOf st)[i]?=some x->(arrOf st)[j]?=some y->rk x<=rk y:=fun i j x y a1 a2 a3 a4 ex ey=>Nat.le_trans (s1 i _ x xl a1 (by omega) (by omega) ex exl) (h4 j y a3 a4 ey);by_cases q2:(t2 == 0)=true
 ·rw [if_pos q2];have q2:t2=0:=by simpa using q2
  subst q2;exact wpS_pure (k _ hk hf rfl (Mgr.same (s1.join s2 fun i j x y a1 a2 a3 a4 ex ey=>high i j x y a1 a2 a3 a4 ex ey)))
 rw [if_neg q2];have q2:¬ t2=0:=fun z=>q2 (by simpa using z);have sx:SoA rk ((arrOf st).extract (sa+kk) (sa+na)):=SoR.ext (fun i j x y a1 a2 a3=>s1 i j x y (by omega) a2 a3) (by omega);have sy:SoA rk ((arrOf st).extract (sa+na) (sa+na+t2)):=SoR.ext (fun i j x y a1 a2 a3=>s2 i j x y (by omega) a2 (by omega)) (by omega);have zx:((arrOf st).extract (sa+kk) (sa+na)).size=na - kk:=by rw [Array.size_extract]; omega
 have zy:((arrOf st).extract (sa+na) (sa+na+t2)).size=t2:=by rw [Array.size_extract]; omega
 have ax:∀ {j:Nat} {x:Keyed},((arrOf st).extract (sa+kk) (sa+na))[j]?=some x->(arrOf st)[sa+kk+j]?=some x/\j < na - kk:=fun {j x} e=>by
  have:=(Array.getElem?_eq_some_iff.mp e).1;rw [Array.getElem?_extract,if_pos (by omega)] at e;exact ⟨e,by omega⟩
 have ay:∀ {j:Nat} {x:Keyed},((arrOf st).extract (sa+na) (sa+na+t2))[j]?=some x->(arrOf st)[sa+na+j]?=some x/\j < t2:=fun {j x} e=>by
  have:=(Array.getElem?_eq_some_iff.mp e).1;rw [Array.getElem?_extract,if_pos (by omega)] at e;exact ⟨e,by omega⟩
 have fst:∀ x y,((arrOf st).extract (sa+na) (sa+na+t2))[0]?=some x->((arrOf st).extract (sa+kk) (sa+na))[0]?=some y->rk x<=rk y:=fun x y ex ey=>by
  have e:=(ay ex).1;rw [Nat.add_zero,ey0] at e;cases e;exact Nat.le_of_lt (h2 _ y (by omega) (by omega) (ax ey).1)
 have lst:∀ (i:Nat) x y,((arrOf st).extract (sa+na) (sa+na+t2))[i]?=some x->((arrOf st).extract (sa+kk) (sa+na))[((arrOf st).extract (sa+kk) (sa+na)).size - 1]?=some y->rk x<=rk y:=fun i x y ex ey=>by
  have e:=(ax ey).1;rw [zx,show sa+kk+(na - kk - 1)=sa+kk+(na - kk) - 1 by omega,exl] at e;cases e;exact Nat.le_of_lt (h3 _ x (by omega) (by have:=(ay ex).2; omega) (ay ex).1)
 have fin:∀ (m:Array Keyed) (st1:SortSt),Mgd rk ((arrOf st).extract (sa+kk) (sa+na)) ((arrOf st).extract (sa+na) (sa+na+t2)) m->Eh (SortSt.mk' (kindOf st) (arrOf st) (((pendingOf st).setIfInBounds i (sa,na+nb,pw)).eraseIdxIfInBounds (i+1)) (gallopOf st) (failedOf st)) st1->wpS (model prog w) A E s (do modify fun s=>setArr s (m.toList.zipIdx.foldl (fun a (p:Keyed×Nat)=>a.setIfInBounds (sa+kk+p.2) p.1) (arrOf s)); pure (failedOf (<-get)).isNone) Q st1:=fun m st1 mg sy1=>by
  obtain ⟨g,rfl⟩:=sy1;refine wpS_bind (wpS_modify (wpS_bind (wpS_get (wpS_pure ?_))));show Q (failedOf st).isNone _;rw [hf];have ms:m.size=na - kk+t2:=by
   have:=mg.pm.length_eq;rw [List.length_append,Array.length_toList,Array.length_toList,Array.length_toList,zx,zy] at this;exact this
  refine k _ hk rfl rfl (SE (t:=sa+kk) (mid:=sa+na) (u:=sa+na+t2) (by omega) (by omega) (by omega) (by omega) (by omega) s1 s2 low high mg (QK (show sa+kk+m.size<=(arrOf st).size by omega)))
 by_cases q3:na - kk<=t2
 ·rw [if_pos q3];exact wpS_bind (OL hl hk (show 1<=((arrOf st).extract (sa+kk) (sa+na)).size by rw [zx]; omega) (show 1<=((arrOf st).extract (sa+na) (sa+na+t2)).size by rw [zy]; omega) (fun i x e=>Sall _ x (ax e).1) (fun i x e=>Sall _ x (ay e).1) sx sy fst lst fin)
 ·rw [if_neg q3];exact wpS_bind (OM hl hk (show 1<=((arrOf st).extract (sa+kk) (sa+na)).size by rw [zx]; omega) (show 1<=((arrOf st).extract (sa+na) (sa+na+t2)).size by rw [zy]; omega) (fun i x e=>Sall _ x (ax e).1) (fun i x e=>Sall _ x (ay e).1) sx sy fst lst fin)
end
end PyProof.Rows
namespace PyProof.Rows
open PySem
structure Rea (arr arr':Array Keyed) (lo hi:Nat):Prop where
 pm:arr'.toList.Perm arr.toList
 out:∀ i:Nat,i < lo\/hi<=i->arr'[i]?=arr[i]?
section
variable {prog:Program} {w:World} {A:Around} {E:Value->Shared->Prop} {s:Shared} {rk:Keyed->Nat} {S:Keyed->Prop} {κ:SortKind}
theorem Rea.refl (arr:Array Keyed) (lo hi:Nat):Rea arr arr lo hi:=⟨List.Perm.refl _,fun _ _=>rfl⟩
theorem Rea.size {arr arr':Array Keyed} {lo hi:Nat} (h:Rea arr arr' lo hi):arr'.size=arr.size:=by
 have:=h.pm.length_eq;rw [Array.length_toList,Array.length_toList] at this;exact this
theorem Rea.all {arr arr':Array Keyed} {lo hi:Nat} (h:Rea arr arr' lo hi) (Sa:∀ (i:Nat) x,arr[i]?=some x->S x) (i:Nat) (x:Keyed) (e:arr'[i]?=some x):S x:=by
 rw [<-Array.getElem?_toList] at e;obtain ⟨j,hj⟩:=List.getElem?_of_mem (h.pm.mem_iff.mp (List.mem_of_getElem? e));rw [Array.getElem?_toList] at hj;exact Sa j x hj
theorem Rea.trans {a b c:Array Keyed} {lo hi:Nat} (h:Rea a b lo hi) (h2:Rea b c lo hi):Rea a c lo hi:=⟨h2.pm.trans h.pm,fun i hi=>(h2.out i hi).trans (h.out i hi)⟩
theorem ins_ok {arr:Array Keyed} {lo k l hi:Nat} {key:Keyed} (hk:lo+k < hi) (hz:hi<=arr.size) (lk:l<=k) (ek:arr[lo+k]?=some key) (so:SoR rk arr lo (lo+k)) (h1:∀ (i:Nat) x,lo<=i->i < lo+l->arr[i]?=some x->rk x<=rk key) (h2:∀ (i:Nat) x,lo+l<=i->i < lo+k->arr[i]?=some x->rk key<=rk x):Rea arr (bubble arr (lo+k) (lo+k - (lo+l))) lo hi/\SoR rk (bubble arr (lo+k) (lo+k - (lo+l))) lo (lo+k+1):=by
 have g:=getElem?_bubble (xs:=arr) (src:=lo+k) (by omega) (lo+k - (lo+l)) (by omega);rw [show lo+k - (lo+k - (lo+l))=lo+l by omega] at g;refine ⟨⟨Array.perm_iff_toList_perm.mp (bubble_perm _ _ _),fun i hi'=>?_⟩,fun i j x y li ij jh ex ey=>?_⟩
 ·rw [g,if_neg (by omega),if_neg (by omega)]
 ·rw [g] at ex ey;by_cases ci:i=lo+l
  ·rw [if_pos ci,ek] at ex;cases ex;by_cases cj:j=lo+l
   ·rw [if_pos cj,ek] at ey;cases ey;exact Nat.le_refl _
   ·rw [if_neg cj,if_pos (by omega)] at ey;exact h2 (j - 1) y (by omega) (by omega) ey
  ·rw [if_neg ci] at ex;by_cases di:lo+l < i/\i<=lo+k
   ·rw [if_pos di] at ex;rw [if_neg (by omega),if_pos (by omega)] at ey;exact so (i - 1) (j - 1) x y (by omega) (by omega) (by omega) ex ey
   ·rw [if_neg di] at ex;by_cases cj:j=lo+l
    ·rw [if_pos cj,ek] at ey;cases ey;exact h1 i x li (by omega) ex
    ·rw [if_neg cj] at ey;by_cases dj:lo+l < j/\j<=lo+k
     ·rw [if_pos dj] at ey;exact so i (j - 1) x y li (by omega) (by omega) ex ey
     ·rw [if_neg dj] at ey;exact so i j x y li ij (by omega) ex ey
end
end PyProof.Rows
namespace PyProof.Rows
open PySem
section
variable {prog:Program} {w:World} {A:Around} {E:Value->Shared->Prop} {s:Shared} {rk:Keyed->Nat} {S:Keyed->Prop} {κ:SortKind}
theorem DI {st:SortSt} {i j:Nat} {x y:Keyed} {Q:Option Bool->SortSt->Prop} (hl:Lk prog w A E s rk S κ) (hk:kindOf st=κ) (ex:(arrOf st)[i]?=some x) (ey:(arrOf st)[j]?=some y) (Sx:S x) (Sy:S y) (h:Q (some (decide (rk x < rk y))) st):wpS (model prog w) A E s (ltAt' i j) Q st:=by
 rw [ltAt'_eq];exact wpS_bind (wpS_get (wpS_bind (AL ex (wpS_bind (AL ey (hl _ _ _ _ Sx Sy hk h))))))
theorem move_ok {st:SortSt} {src dst:Nat} {Q:Unit->SortSt->Prop} (h:Q () (setArr st (bubble (arrOf st) src (src - dst)))):wpS (model prog w) A E s (moveDown' src dst) Q st:=by
 rw [moveDown'_eq];exact wpS_modify h
theorem LD {st:SortSt} {Q:Bool->SortSt->Prop} {lo n ok:Nat} (hl:Lk prog w A E s rk S κ) (hk:kindOf st=κ) (hz:lo+n<=(arrOf st).size) (hok:ok<=n) (Sall:∀ (i:Nat) x,(arrOf st)[i]?=some x->S x) (so:SoR rk (arrOf st) lo (lo+ok)) (k:∀ arr',Rea (arrOf st) arr' lo (lo+n)->SoR rk arr' lo (lo+n)->Q true (setArr st arr')):wpS (model prog w) A E s (binarySort' lo n ok) Q st:=by
 refine wpS_bind (wpS_mono (wpS_forRange (I:=fun x c st'=>c=(none,())/\∃ arr',st'=setArr st arr'/\Rea (arrOf st) arr' lo (lo+n)/\SoR rk arr' lo (lo+x)) (Q:=fun c st'=>c=(none,())/\∃ arr',st'=setArr st arr'/\Rea (arrOf st) arr' lo (lo+n)/\SoR rk arr' lo (lo+n)) ?_ ?_ ⟨rfl,arrOf st,rfl,Rea.refl _ _ _,?_⟩) ?_)
 ·rintro x c st' hx1 hx ⟨rfl,arr',rfl,re,so'⟩;have sz:=re.size;obtain ⟨key,ek⟩:∃ key,arr'[lo+x]?=some key:=⟨_,Array.getElem?_eq_getElem (by omega)⟩
  refine wpS_bind (wpS_mono (wpS_forRange (I:=fun y r st''=>st''=setArr st arr'/\∃ l h,r=(none,l,h)/\l<=h/\h - l<=x - y/\h<=x/\(∀ (i:Nat) z,lo<=i->i < lo+l->arr'[i]?=some z->rk z<=rk key)/\(∀ (i:Nat) z,lo+h<=i->i < lo+x->arr'[i]?=some z->rk key<=rk z)) (Q:=fun r st''=>st''=setArr st arr'/\∃ l h,r=(none,l,h)/\l<=x/\(∀ (i:Nat) z,lo<=i->i < lo+l->arr'[i]?=some z->rk z<=rk key)/\(∀ (i:Nat) z,lo+l<=i->i < lo+x->arr'[i]?=some z->rk key<=rk z)) ?_ ?_ ⟨rfl,0,x,rfl,by omega,by omega,by omega,fun i z h1 h2=>absurd h2 (by omega),fun i z h1 h2=>absurd h2 (by omega)⟩) ?_)
  ·rintro y r st'' _ hy ⟨rfl,l,h,rfl,lh,me,hh,i1,i2⟩;dsimp only;by_cases z:l ≥ h
   ·rw [if_pos z];exact wpS_pure ⟨rfl,l,h,rfl,by omega,i1,fun i z' a b=>i2 i z' (by omega) b⟩
   rw [if_neg z];obtain ⟨v,ev⟩:∃ v,arr'[lo+(l+h) / 2]?=some v:=⟨_,Array.getElem?_eq_getElem (by omega)⟩
   refine wpS_bind (DI hl hk ek ev (re.all Sall _ _ ek) (re.all Sall _ _ ev) ?_);dsimp only;by_cases lt:rk key < rk v
   ·rw [decide_eq_true lt,if_pos rfl];exact wpS_pure ⟨rfl,l,(l+h) / 2,rfl,by omega,by omega,by omega,i1,fun i z' a b e=>by
     have:=so' _ i _ _ (by omega) a (by omega) ev e;omega⟩
   ·rw [decide_eq_false lt,if_neg (by simp)];exact wpS_pure ⟨rfl,(l+h) / 2+1,h,rfl,by omega,by omega,hh,fun i z' a b e=>by
     have:=so' i (lo+(l+h) / 2) _ _ a (by omega) (by omega) e ev;omega,i2⟩
  ·rintro r st'' ⟨rfl,l,h,rfl,lh,me,hh,i1,i2⟩;exact ⟨rfl,l,h,rfl,by omega,i1,fun i z' a b=>i2 i z' (by omega) b⟩
  ·rintro r st'' ⟨rfl,l,h,rfl,lx,i1,i2⟩;dsimp only;have fin:=ins_ok (hi:=lo+n) (by omega) (by omega) lx ek so' i1 i2;exact wpS_bind (move_ok (wpS_pure ⟨rfl,_,rfl,re.trans fin.1,fin.2⟩))
 ·rintro c st' ⟨rfl,arr',rfl,re,so'⟩;exact ⟨rfl,arr',rfl,re,fun i j x y a b d=>so' i j x y a b (by omega)⟩
 ·intro i j x y a b d ex ey;by_cases z:j < lo+ok
  ·exact so i j x y a b z ex ey
  ·have:i=j:=by omega
   subst this;rw [ex] at ey;cases ey;exact Nat.le_refl _
 ·rintro c st' ⟨rfl,arr',rfl,re,so'⟩;exact wpS_pure (k arr' re so')
end
end PyProof.Rows
namespace PyProof.Rows
open PySem
def DeR (rk:Keyed->Nat) (arr:Array Keyed) (lo hi:Nat):Prop:=∀ (i j:Nat) (x y:Keyed),lo<=i->i<=j->j < hi->arr[i]?=some x->arr[j]?=some y->rk y<=rk x
def EqR (rk:Keyed->Nat) (arr:Array Keyed) (lo hi:Nat):Prop:=∀ (i j:Nat) (x y:Keyed),lo<=i->i < hi->lo<=j->j < hi->arr[i]?=some x->arr[j]?=some y->rk x=rk y
def Kr (rk:Keyed->Nat) (arr arr':Array Keyed):Prop:=∀ (k:Nat) (x':Keyed),arr'[k]?=some x'->∃ x,arr[k]?=some x/\rk x'=rk x
section
variable {prog:Program} {w:World} {A:Around} {E:Value->Shared->Prop} {s:Shared} {rk:Keyed->Nat} {S:Keyed->Prop} {κ:SortKind}
theorem SoR.one {arr:Array Keyed} {lo:Nat}:SoR rk arr lo (lo+1):=fun i j x y a b c ex ey=>by
 have:i=j:=by omega
 subst this;rw [ex] at ey;cases ey;exact Nat.le_refl _
theorem EqR.one {arr:Array Keyed} {lo:Nat}:EqR rk arr (lo+1 - (0+1)) (lo+1):=fun i j x y a b c d ex ey=>by
 have:i=j:=by omega
 subst this;rw [ex] at ey;cases ey;rfl
theorem SoR.snoc {arr:Array Keyed} {lo hi:Nat} {x y:Keyed} (h:SoR rk arr lo hi) (l:lo < hi) (ex:arr[hi]?=some x) (ey:arr[hi - 1]?=some y) (le:rk y<=rk x):SoR rk arr lo (hi+1):=fun i j a b li ij jh ea eb=>by
 by_cases z:j < hi
 ·exact h i j a b li ij z ea eb
 ·have:j=hi:=by omega
  subst this;rw [ex] at eb;cases eb;by_cases q:i=j
  ·subst q;rw [ex] at ea;cases ea;exact Nat.le_refl _
  ·exact Nat.le_trans (h i (j - 1) a y li (by omega) (by omega) ea ey) le
theorem DeR.snoc {arr:Array Keyed} {lo hi:Nat} {x y:Keyed} (h:DeR rk arr lo hi) (l:lo < hi) (ex:arr[hi]?=some x) (ey:arr[hi - 1]?=some y) (le:rk x<=rk y):DeR rk arr lo (hi+1):=fun i j a b li ij jh ea eb=>by
 by_cases z:j < hi
 ·exact h i j a b li ij z ea eb
 ·have:j=hi:=by omega
  subst this;rw [ex] at eb;cases eb;by_cases q:i=j
  ·subst q;rw [ex] at ea;cases ea;exact Nat.le_refl _
  ·exact Nat.le_trans le (h i (j - 1) a y li (by omega) (by omega) ea ey)
theorem EqR.snoc {arr:Array Keyed} {lo hi:Nat} {x y:Keyed} (h:EqR rk arr lo hi) (l:lo < hi) (ex:arr[hi]?=some x) (ey:arr[hi - 1]?=some y) (le:rk x=rk y):EqR rk arr lo (hi+1):=by
 have key:∀ (i:Nat) a,lo<=i->i < hi+1->arr[i]?=some a->rk a=rk y:=fun i a li ih ea=>by
  by_cases z:i < hi
  ·exact h i (hi - 1) a y li z (by omega) (by omega) ea ey
  ·have:i=hi:=by omega
   subst this;rw [ex] at ea;cases ea;exact le
 exact fun i j a b li ih lj jh ea eb=>(key i a li ih ea).trans (key j b lj jh eb).symm
theorem DeR.kr {arr arr':Array Keyed} {lo hi:Nat} (h:DeR rk arr lo hi) (k:Kr rk arr arr'):DeR rk arr' lo hi:=fun i j a b li ij jh ea eb=>by
 obtain ⟨a',e1,q1⟩:=k i a ea;obtain ⟨b',e2,q2⟩:=k j b eb;rw [q1,q2];exact h i j a' b' li ij jh e1 e2
theorem EqR.mir {arr:Array Keyed} {lo hi:Nat} (h:EqR rk arr lo hi) (hz:hi<=arr.size):Kr rk arr (mirror arr lo hi ((hi - lo) / 2)):=fun k x' e=>by
 have g:=getElem?_mirror_all (xs:=arr) (i:=lo) hz k;rw [g] at e;split at e
 ·rename_i q;obtain ⟨x,ex⟩:∃ x,arr[k]?=some x:=⟨_,Array.getElem?_eq_getElem (by omega)⟩
  exact ⟨x,ex,h _ _ _ _ (by omega) (by omega) q.1 q.2 e ex⟩
 ·exact ⟨x',e,rfl⟩
theorem En {arr:Array Keyed} {i j lo hi:Nat} (li:lo<=i) (jh:j<=hi) (hz:hi<=arr.size):Rea arr (mirror arr i j ((j - i) / 2)) lo hi:=⟨Array.perm_iff_toList_perm.mp (mirror_perm _ _ _ _),fun k hk=>by
 rw [getElem?_mirror_all (by omega)];by_cases q:i<=k/\k < j
 ·omega
 ·rw [if_neg q]⟩
theorem DeR.mir {arr:Array Keyed} {lo hi:Nat} (h:DeR rk arr lo hi) (hz:hi<=arr.size):SoR rk (mirror arr lo hi ((hi - lo) / 2)) lo hi:=fun i j a b li ij jh ea eb=>by
 rw [getElem?_mirror_all hz,if_pos (by omega)] at ea eb;exact h _ _ b a (by omega) (by omega) (by omega) eb ea
theorem Fy {st:SortSt} {i j:Nat} {Q:Unit->SortSt->Prop} (h:Q () (setArr st (mirror (arrOf st) i j ((j - i) / 2)))):wpS (model prog w) A E s (reverseSlice' i j) Q st:=by
 rw [reverseSlice'_eq];exact wpS_modify h
theorem Of {st:SortSt} {Q:Option Nat->SortSt->Prop} {lo nrem:Nat} (hl:Lk prog w A E s rk S κ) (hk:kindOf st=κ) (hz:lo+nrem<=(arrOf st).size) (h1:1<=nrem) (Sall:∀ (i:Nat) x,(arrOf st)[i]?=some x->S x)
  (k:∀ arr' m,Rea (arrOf st) arr' lo (lo+nrem)->1<=m->m<=nrem->SoR rk arr' lo (lo+m)->Q (some m) (setArr st arr')):wpS (model prog w) A E s (countRun' lo nrem) Q st:=by
 refine wpS_bind (wpS_mono (wpS_forRange (I:=fun x c st'=>st'=setArr st (arrOf st)/\c=(none,x)/\SoR rk (arrOf st) lo (lo+x)) (Q:=fun c st'=>st'=setArr st (arrOf st)/\∃ n,c=(none,n)/\1<=n/\n<=nrem/\SoR rk (arrOf st) lo (lo+n)/\(n=nrem\/∀ x y,(arrOf st)[lo+n]?=some x->(arrOf st)[lo+n - 1]?=some y->rk x < rk y)) ?_ ?_ ⟨rfl,rfl,?_⟩) ?_)
 ·rintro x c st' hx1 hx ⟨rfl,rfl,so⟩;dsimp only;have hzz:lo+nrem<=(arrOf st).size:=by rw [Rea.size (Rea.refl (arrOf st) lo (lo+nrem))]; exact hz
  obtain ⟨a,ea⟩:∃ a,(arrOf st)[lo+x]?=some a:=⟨_,Array.getElem?_eq_getElem (by omega)⟩
  obtain ⟨b,eb⟩:∃ b,(arrOf st)[lo+x - 1]?=some b:=⟨_,Array.getElem?_eq_getElem (by omega)⟩
  refine wpS_bind (DI hl hk ea eb (Rea.all (Rea.refl (arrOf st) lo (lo+nrem)) Sall _ _ ea) (Rea.all (Rea.refl (arrOf st) lo (lo+nrem)) Sall _ _ eb) ?_);dsimp only;by_cases lt:rk a < rk b
  ·rw [decide_eq_true lt,if_pos rfl];exact wpS_pure ⟨rfl,x,rfl,by omega,by omega,so,.inr fun p q ep eq=>by rw [ea] at ep; rw [eb] at eq; cases ep; cases eq; exact lt⟩
  ·rw [decide_eq_false lt,if_neg (by simp)];exact wpS_pure ⟨rfl,rfl,so.snoc (by omega) ea eb (by omega)⟩
 ·rintro c st' ⟨rfl,rfl,so⟩;rw [Nat.max_eq_right (by omega)] at so ⊢;exact ⟨rfl,nrem,rfl,h1,Nat.le_refl _,so,.inl rfl⟩
 ·exact SoR.one
 ·rintro c st' ⟨rfl,n,rfl,n1,n2,so,fall⟩;dsimp only;by_cases q1:(n == nrem)=true
  ·rw [if_pos q1];exact wpS_pure (k (arrOf st) n (Rea.refl _ _ _) n1 n2 so)
  rw [if_neg q1];have q1:¬ n=nrem:=fun z=>q1 (by simpa using z);have fall:=fall.resolve_left q1;obtain ⟨a,ea⟩:∃ a,(arrOf st)[lo+n]?=some a:=⟨_,Array.getElem?_eq_getElem (by omega)⟩
  obtain ⟨b,eb⟩:∃ b,(arrOf st)[lo+n - 1]?=some b:=⟨_,Array.getElem?_eq_getElem (by omega)⟩
  have flt:=fall a b ea eb;by_cases q2:n > 1
  ·rw [if_pos q2];obtain ⟨z,ez⟩:∃ z,(arrOf st)[lo]?=some z:=⟨_,Array.getElem?_eq_getElem (by omega)⟩
   refine wpS_bind (DI hl hk ez eb (Sall _ _ ez) (Sall _ _ eb) ?_);dsimp only;by_cases rose:rk z < rk b
   ·rw [decide_eq_true rose,if_pos rfl];exact wpS_pure (k (arrOf st) n (Rea.refl _ _ _) n1 n2 so)
   rw [decide_eq_false rose,if_neg (by simp)];have eqa:EqR rk (arrOf st) lo (lo+n):=by
    have key:∀ (i:Nat) x,lo<=i->i < lo+n->(arrOf st)[i]?=some x->rk x=rk b:=fun i x li ih ex=>by
     have:=so lo i z x (Nat.le_refl _) li ih ez ex;have:=so i (lo+n - 1) x b li (by omega) (by omega) ex eb;omega
    exact fun i j x y li ih lj jh ex ey=>(key i x li ih ex).trans (key j y lj jh ey).symm
   have re0:Rea (arrOf st) (mirror (arrOf st) lo (lo+n) ((lo+n - lo) / 2)) lo (lo+nrem):=En (Nat.le_refl _) (by omega) hz;have de0:DeR rk (mirror (arrOf st) lo (lo+n) ((lo+n - lo) / 2)) lo (lo+n+1):=DeR.kr (DeR.snoc (fun i j x y li ij jh ex ey=>Nat.le_of_eq (eqa j i y x (by omega) jh li (by omega) ey ex)) (by omega) ea eb (Nat.le_of_lt flt)) (eqa.mir (by omega));refine wpS_bind (Fy ?_);refine wpS_bind (wpS_lift (wpAny_rule ⟨rfl,?_⟩));refine wpS_bind (wpS_mono (wpS_forRange (I:=fun x c st'=>∃ arr' neq,st'=setArr st arr'/\c=(none,x,neq)/\Rea (arrOf st) arr' lo (lo+nrem)/\neq+1<=x/\DeR rk arr' lo (lo+x)/\EqR rk arr' (lo+x - (neq+1)) (lo+x)) (Q:=fun c st'=>∃ arr' n neq,st'=setArr st arr'/\c=(none,n,neq)/\Rea (arrOf st) arr' lo (lo+nrem)/\1<=n/\n<=nrem/\neq+1<=n/\DeR rk arr' lo (lo+n)/\EqR rk arr' (lo+n - (neq+1)) (lo+n)) ?_ ?_ ⟨mirror (arrOf st) lo (lo+n) ((lo+n - lo) / 2),0,rfl,rfl,re0,by omega,de0,EqR.one (lo:=lo+n)⟩) ?_)
   ·rintro x c st' hx1 hx ⟨arr',neq,rfl,rfl,re',nq,de',eq'⟩;dsimp only;have hzz:lo+nrem<=arr'.size:=by rw [Rea.size re']; exact hz
    obtain ⟨a,ea⟩:∃ a,arr'[lo+x]?=some a:=⟨_,Array.getElem?_eq_getElem (by omega)⟩
    obtain ⟨b,eb⟩:∃ b,arr'[lo+x - 1]?=some b:=⟨_,Array.getElem?_eq_getElem (by omega)⟩
    refine wpS_bind (DI hl hk ea eb (Rea.all re' Sall _ _ ea) (Rea.all re' Sall _ _ eb) ?_);dsimp only;by_cases lt:rk a < rk b
    ·rw [decide_eq_true lt,if_pos rfl];have dn:DeR rk arr' lo (lo+x+1):=de'.snoc (by omega) ea eb (by omega);by_cases q:neq > 0
     ·rw [if_pos q];exact wpS_bind (Fy (wpS_pure ⟨_,0,rfl,rfl,Rea.trans re' (En (by omega) (by omega) hzz),by omega,dn.kr (eq'.mir (by omega)),EqR.one (lo:=lo+x)⟩))
     ·rw [if_neg q];exact wpS_pure ⟨arr',0,rfl,rfl,re',by omega,dn,EqR.one (lo:=lo+x)⟩
    ·rw [decide_eq_false lt,if_neg (by simp)];refine wpS_bind (DI hl hk eb ea (Rea.all re' Sall _ _ eb) (Rea.all re' Sall _ _ ea) ?_);dsimp only;by_cases gt:rk b < rk a
     ·rw [decide_eq_true gt,if_pos rfl];exact wpS_pure ⟨arr',x,neq,rfl,rfl,re',by omega,by omega,nq,de',eq'⟩
     ·rw [decide_eq_false gt,if_neg (by simp)];refine wpS_pure ⟨arr',neq+1,rfl,rfl,re',by omega,de'.snoc (by omega) ea eb (by omega),?_⟩;have:=eq'.snoc (by omega) ea eb (by omega);rw [show lo+(x+1) - (neq+1+1)=lo+x - (neq+1) by omega];exact this
   ·rintro c st' ⟨arr',neq,rfl,rfl,re',nq,de',eq'⟩;rw [Nat.max_eq_right (by omega)] at nq de' eq' ⊢;exact ⟨arr',nrem,neq,rfl,rfl,re',h1,Nat.le_refl _,nq,de',eq'⟩
   ·rintro c st' ⟨arr',n',neq,rfl,rfl,re',n1,n2,nq,de',eq'⟩;dsimp only;have hzz:lo+nrem<=arr'.size:=by rw [Rea.size re']; exact hz
    by_cases q:neq > 0
    ·rw [if_pos q];have reM:Rea (arrOf st) (mirror arr' (lo+n' - (neq+1)) (lo+n') ((lo+n' - (lo+n' - (neq+1))) / 2)) lo (lo+nrem):=Rea.trans re' (En (by omega) (by omega) hzz);have deM:=de'.kr (eq'.mir (by omega));refine wpS_bind (Fy ?_);have reT:Rea (arrOf st) (mirror (mirror arr' (lo+n' - (neq+1)) (lo+n') ((lo+n' - (lo+n' - (neq+1))) / 2)) lo (lo+n') ((lo+n' - lo) / 2)) lo (lo+nrem):=Rea.trans reM (En (Nat.le_refl _) (by omega) (by rw [Rea.size reM]; exact hz));refine wpS_bind (Fy ?_);refine wpS_bind (wpS_mono (wpS_forRange (I:=fun x c st'=>st'=setArr st (mirror (mirror arr' (lo+n' - (neq+1)) (lo+n') ((lo+n' - (lo+n' - (neq+1))) / 2)) lo (lo+n') ((lo+n' - lo) / 2))/\c=(none,x)/\SoR rk (mirror (mirror arr' (lo+n' - (neq+1)) (lo+n') ((lo+n' - (lo+n' - (neq+1))) / 2)) lo (lo+n') ((lo+n' - lo) / 2)) lo (lo+x)) (Q:=fun c st'=>st'=setArr st (mirror (mirror arr' (lo+n' - (neq+1)) (lo+n') ((lo+n' - (lo+n' - (neq+1))) / 2)) lo (lo+n') ((lo+n' - lo) / 2))/\∃ n,c=(none,n)/\1<=n/\n<=nrem/\SoR rk (mirror (mirror arr' (lo+n' - (neq+1)) (lo+n') ((lo+n' - (lo+n' - (neq+1))) / 2)) lo (lo+n') ((lo+n' - lo) / 2)) lo (lo+n)) ?_ ?_ ⟨rfl,rfl,?_⟩) ?_)
     ·rintro x c st' hx1 hx ⟨rfl,rfl,so⟩;dsimp only;have hzz:lo+nrem<=(mirror (mirror arr' (lo+n' - (neq+1)) (lo+n') ((lo+n' - (lo+n' - (neq+1))) / 2)) lo (lo+n') ((lo+n' - lo) / 2)).size:=by rw [Rea.size reT]; exact hz
      obtain ⟨a,ea⟩:∃ a,(mirror (mirror arr' (lo+n' - (neq+1)) (lo+n') ((lo+n' - (lo+n' - (neq+1))) / 2)) lo (lo+n') ((lo+n' - lo) / 2))[lo+x]?=some a:=⟨_,Array.getElem?_eq_getElem (by omega)⟩
      obtain ⟨b,eb⟩:∃ b,(mirror (mirror arr' (lo+n' - (neq+1)) (lo+n') ((lo+n' - (lo+n' - (neq+1))) / 2)) lo (lo+n') ((lo+n' - lo) / 2))[lo+x - 1]?=some b:=⟨_,Array.getElem?_eq_getElem (by omega)⟩
      refine wpS_bind (DI hl hk ea eb (Rea.all reT Sall _ _ ea) (Rea.all reT Sall _ _ eb) ?_);dsimp only;by_cases lt:rk a < rk b
      ·rw [decide_eq_true lt,if_pos rfl];exact wpS_pure ⟨rfl,x,rfl,by omega,by omega,so⟩
      ·rw [decide_eq_false lt,if_neg (by simp)];exact wpS_pure ⟨rfl,rfl,so.snoc (by omega) ea eb (by omega)⟩
     ·rintro c st' ⟨rfl,rfl,so⟩;rw [Nat.max_eq_right (by omega)] at so ⊢;exact ⟨rfl,nrem,rfl,h1,Nat.le_refl _,so⟩
     ·exact DeR.mir deM (by rw [Rea.size reM]; omega)
     ·rintro c st' ⟨rfl,m,rfl,m1,m2,so⟩;exact wpS_pure (k _ m reT m1 m2 so)
    ·rw [if_neg q];have reT:Rea (arrOf st) (mirror (arr') lo (lo+n') ((lo+n' - lo) / 2)) lo (lo+nrem):=Rea.trans re' (En (Nat.le_refl _) (by omega) (by rw [Rea.size re']; exact hz));refine wpS_bind (Fy ?_);refine wpS_bind (wpS_mono (wpS_forRange (I:=fun x c st'=>st'=setArr st (mirror (arr') lo (lo+n') ((lo+n' - lo) / 2))/\c=(none,x)/\SoR rk (mirror (arr') lo (lo+n') ((lo+n' - lo) / 2)) lo (lo+x)) (Q:=fun c st'=>st'=setArr st (mirror (arr') lo (lo+n') ((lo+n' - lo) / 2))/\∃ n,c=(none,n)/\1<=n/\n<=nrem/\SoR rk (mirror (arr') lo (lo+n') ((lo+n' - lo) / 2)) lo (lo+n)) ?_ ?_ ⟨rfl,rfl,?_⟩) ?_)
     ·rintro x c st' hx1 hx ⟨rfl,rfl,so⟩;dsimp only;have hzz:lo+nrem<=(mirror (arr') lo (lo+n') ((lo+n' - lo) / 2)).size:=by rw [Rea.size reT]; exact hz
      obtain ⟨a,ea⟩:∃ a,(mirror (arr') lo (lo+n') ((lo+n' - lo) / 2))[lo+x]?=some a:=⟨_,Array.getElem?_eq_getElem (by omega)⟩
      obtain ⟨b,eb⟩:∃ b,(mirror (arr') lo (lo+n') ((lo+n' - lo) / 2))[lo+x - 1]?=some b:=⟨_,Array.getElem?_eq_getElem (by omega)⟩
      refine wpS_bind (DI hl hk ea eb (Rea.all reT Sall _ _ ea) (Rea.all reT Sall _ _ eb) ?_);dsimp only;by_cases lt:rk a < rk b
      ·rw [decide_eq_true lt,if_pos rfl];exact wpS_pure ⟨rfl,x,rfl,by omega,by omega,so⟩
      ·rw [decide_eq_false lt,if_neg (by simp)];exact wpS_pure ⟨rfl,rfl,so.snoc (by omega) ea eb (by omega)⟩
     ·rintro c st' ⟨rfl,rfl,so⟩;rw [Nat.max_eq_right (by omega)] at so ⊢;exact ⟨rfl,nrem,rfl,h1,Nat.le_refl _,so⟩
     ·exact DeR.mir de' (by rw [Rea.size re']; omega)
     ·rintro c st' ⟨rfl,m,rfl,m1,m2,so⟩;exact wpS_pure (k _ m reT m1 m2 so)
  ·rw [if_neg q2];have de0:DeR rk (arrOf st) lo (lo+n+1):=DeR.snoc (fun i j x y li ij jh ex ey=>by
    have:i=j:=by omega
    subst this;rw [ex] at ey;cases ey;exact Nat.le_refl _) (by omega) ea eb (Nat.le_of_lt flt)
   have re0:Rea (arrOf st) (arrOf st) lo (lo+nrem):=Rea.refl _ _ _;refine wpS_bind (wpS_lift (wpAny_rule ⟨rfl,?_⟩));refine wpS_bind (wpS_mono (wpS_forRange (I:=fun x c st'=>∃ arr' neq,st'=setArr st arr'/\c=(none,x,neq)/\Rea (arrOf st) arr' lo (lo+nrem)/\neq+1<=x/\DeR rk arr' lo (lo+x)/\EqR rk arr' (lo+x - (neq+1)) (lo+x)) (Q:=fun c st'=>∃ arr' n neq,st'=setArr st arr'/\c=(none,n,neq)/\Rea (arrOf st) arr' lo (lo+nrem)/\1<=n/\n<=nrem/\neq+1<=n/\DeR rk arr' lo (lo+n)/\EqR rk arr' (lo+n - (neq+1)) (lo+n)) ?_ ?_ ⟨arrOf st,0,rfl,rfl,re0,by omega,de0,EqR.one (lo:=lo+n)⟩) ?_)
   ·rintro x c st' hx1 hx ⟨arr',neq,rfl,rfl,re',nq,de',eq'⟩;dsimp only;have hzz:lo+nrem<=arr'.size:=by rw [Rea.size re']; exact hz
    obtain ⟨a,ea⟩:∃ a,arr'[lo+x]?=some a:=⟨_,Array.getElem?_eq_getElem (by omega)⟩
    obtain ⟨b,eb⟩:∃ b,arr'[lo+x - 1]?=some b:=⟨_,Array.getElem?_eq_getElem (by omega)⟩
    refine wpS_bind (DI hl hk ea eb (Rea.all re' Sall _ _ ea) (Rea.all re' Sall _ _ eb) ?_);dsimp only;by_cases lt:rk a < rk b
    ·rw [decide_eq_true lt,if_pos rfl];have dn:DeR rk arr' lo (lo+x+1):=de'.snoc (by omega) ea eb (by omega);by_cases q:neq > 0
     ·rw [if_pos q];exact wpS_bind (Fy (wpS_pure ⟨_,0,rfl,rfl,Rea.trans re' (En (by omega) (by omega) hzz),by omega,dn.kr (eq'.mir (by omega)),EqR.one (lo:=lo+x)⟩))
     ·rw [if_neg q];exact wpS_pure ⟨arr',0,rfl,rfl,re',by omega,dn,EqR.one (lo:=lo+x)⟩
    ·rw [decide_eq_false lt,if_neg (by simp)];refine wpS_bind (DI hl hk eb ea (Rea.all re' Sall _ _ eb) (Rea.all re' Sall _ _ ea) ?_);dsimp only;by_cases gt:rk b < rk a
     ·rw [decide_eq_true gt,if_pos rfl];exact wpS_pure ⟨arr',x,neq,rfl,rfl,re',by omega,by omega,nq,de',eq'⟩
     ·rw [decide_eq_false gt,if_neg (by simp)];refine wpS_pure ⟨arr',neq+1,rfl,rfl,re',by omega,de'.snoc (by omega) ea eb (by omega),?_⟩;have:=eq'.snoc (by omega) ea eb (by omega);rw [show lo+(x+1) - (neq+1+1)=lo+x - (neq+1) by omega];exact this
   ·rintro c st' ⟨arr',neq,rfl,rfl,re',nq,de',eq'⟩;rw [Nat.max_eq_right (by omega)] at nq de' eq' ⊢;exact ⟨arr',nrem,neq,rfl,rfl,re',h1,Nat.le_refl _,nq,de',eq'⟩
   ·rintro c st' ⟨arr',n',neq,rfl,rfl,re',n1,n2,nq,de',eq'⟩;dsimp only;have hzz:lo+nrem<=arr'.size:=by rw [Rea.size re']; exact hz
    by_cases q:neq > 0
    ·rw [if_pos q];have reM:Rea (arrOf st) (mirror arr' (lo+n' - (neq+1)) (lo+n') ((lo+n' - (lo+n' - (neq+1))) / 2)) lo (lo+nrem):=Rea.trans re' (En (by omega) (by omega) hzz);have deM:=de'.kr (eq'.mir (by omega));refine wpS_bind (Fy ?_);have reT:Rea (arrOf st) (mirror (mirror arr' (lo+n' - (neq+1)) (lo+n') ((lo+n' - (lo+n' - (neq+1))) / 2)) lo (lo+n') ((lo+n' - lo) / 2)) lo (lo+nrem):=Rea.trans reM (En (Nat.le_refl _) (by omega) (by rw [Rea.size reM]; exact hz));refine wpS_bind (Fy ?_);refine wpS_bind (wpS_mono (wpS_forRange (I:=fun x c st'=>st'=setArr st (mirror (mirror arr' (lo+n' - (neq+1)) (lo+n') ((lo+n' - (lo+n' - (neq+1))) / 2)) lo (lo+n') ((lo+n' - lo) / 2))/\c=(none,x)/\SoR rk (mirror (mirror arr' (lo+n' - (neq+1)) (lo+n') ((lo+n' - (lo+n' - (neq+1))) / 2)) lo (lo+n') ((lo+n' - lo) / 2)) lo (lo+x)) (Q:=fun c st'=>st'=setArr st (mirror (mirror arr' (lo+n' - (neq+1)) (lo+n') ((lo+n' - (lo+n' - (neq+1))) / 2)) lo (lo+n') ((lo+n' - lo) / 2))/\∃ n,c=(none,n)/\1<=n/\n<=nrem/\SoR rk (mirror (mirror arr' (lo+n' - (neq+1)) (lo+n') ((lo+n' - (lo+n' - (neq+1))) / 2)) lo (lo+n') ((lo+n' - lo) / 2)) lo (lo+n)) ?_ ?_ ⟨rfl,rfl,?_⟩) ?_)
     ·rintro x c st' hx1 hx ⟨rfl,rfl,so⟩;dsimp only;have hzz:lo+nrem<=(mirror (mirror arr' (lo+n' - (neq+1)) (lo+n') ((lo+n' - (lo+n' - (neq+1))) / 2)) lo (lo+n') ((lo+n' - lo) / 2)).size:=by rw [Rea.size reT]; exact hz
      obtain ⟨a,ea⟩:∃ a,(mirror (mirror arr' (lo+n' - (neq+1)) (lo+n') ((lo+n' - (lo+n' - (neq+1))) / 2)) lo (lo+n') ((lo+n' - lo) / 2))[lo+x]?=some a:=⟨_,Array.getElem?_eq_getElem (by omega)⟩
      obtain ⟨b,eb⟩:∃ b,(mirror (mirror arr' (lo+n' - (neq+1)) (lo+n') ((lo+n' - (lo+n' - (neq+1))) / 2)) lo (lo+n') ((lo+n' - lo) / 2))[lo+x - 1]?=some b:=⟨_,Array.getElem?_eq_getElem (by omega)⟩
      refine wpS_bind (DI hl hk ea eb (Rea.all reT Sall _ _ ea) (Rea.all reT Sall _ _ eb) ?_);dsimp only;by_cases lt:rk a < rk b
      ·rw [decide_eq_true lt,if_pos rfl];exact wpS_pure ⟨rfl,x,rfl,by omega,by omega,so⟩
      ·rw [decide_eq_false lt,if_neg (by simp)];exact wpS_pure ⟨rfl,rfl,so.snoc (by omega) ea eb (by omega)⟩
     ·rintro c st' ⟨rfl,rfl,so⟩;rw [Nat.max_eq_right (by omega)] at so ⊢;exact ⟨rfl,nrem,rfl,h1,Nat.le_refl _,so⟩
     ·exact DeR.mir deM (by rw [Rea.size reM]; omega)
     ·rintro c st' ⟨rfl,m,rfl,m1,m2,so⟩;exact wpS_pure (k _ m reT m1 m2 so)
    ·rw [if_neg q];have reT:Rea (arrOf st) (mirror (arr') lo (lo+n') ((lo+n' - lo) / 2)) lo (lo+nrem):=Rea.trans re' (En (Nat.le_refl _) (by omega) (by rw [Rea.size re']; exact hz));refine wpS_bind (Fy ?_);refine wpS_bind (wpS_mono (wpS_forRange (I:=fun x c st'=>st'=setArr st (mirror (arr') lo (lo+n') ((lo+n' - lo) / 2))/\c=(none,x)/\SoR rk (mirror (arr') lo (lo+n') ((lo+n' - lo) / 2)) lo (lo+x)) (Q:=fun c st'=>st'=setArr st (mirror (arr') lo (lo+n') ((lo+n' - lo) / 2))/\∃ n,c=(none,n)/\1<=n/\n<=nrem/\SoR rk (mirror (arr') lo (lo+n') ((lo+n' - lo) / 2)) lo (lo+n)) ?_ ?_ ⟨rfl,rfl,?_⟩) ?_)
     ·rintro x c st' hx1 hx ⟨rfl,rfl,so⟩;dsimp only;have hzz:lo+nrem<=(mirror (arr') lo (lo+n') ((lo+n' - lo) / 2)).size:=by rw [Rea.size reT]; exact hz
      obtain ⟨a,ea⟩:∃ a,(mirror (arr') lo (lo+n') ((lo+n' - lo) / 2))[lo+x]?=some a:=⟨_,Array.getElem?_eq_getElem (by omega)⟩
      obtain ⟨b,eb⟩:∃ b,(mirror (arr') lo (lo+n') ((lo+n' - lo) / 2))[lo+x - 1]?=some b:=⟨_,Array.getElem?_eq_getElem (by omega)⟩
      refine wpS_bind (DI hl hk ea eb (Rea.all reT Sall _ _ ea) (Rea.all reT Sall _ _ eb) ?_);dsimp only;by_cases lt:rk a < rk b
      ·rw [decide_eq_true lt,if_pos rfl];exact wpS_pure ⟨rfl,x,rfl,by omega,by omega,so⟩
      ·rw [decide_eq_false lt,if_neg (by simp)];exact wpS_pure ⟨rfl,rfl,so.snoc (by omega) ea eb (by omega)⟩
     ·rintro c st' ⟨rfl,rfl,so⟩;rw [Nat.max_eq_right (by omega)] at so ⊢;exact ⟨rfl,nrem,rfl,h1,Nat.le_refl _,so⟩
     ·exact DeR.mir de' (by rw [Rea.size re']; omega)
     ·rintro c st' ⟨rfl,m,rfl,m1,m2,so⟩;exact wpS_pure (k _ m reT m1 m2 so)
end
end PyProof.Rows
namespace PyProof.Rows
open PySem
def CV (rk:Keyed->Nat) (arr:Array Keyed):List (Nat×Nat×Nat)->Nat->Nat->Prop
 | [],a,b=>a=b
 | r :: l,a,b=>r.1=a/\1<=r.2.1/\SoR rk arr a (a+r.2.1)/\CV rk arr l (a+r.2.1) b
section
variable {prog:Program} {w:World} {A:Around} {E:Value->Shared->Prop} {s:Shared} {rk:Keyed->Nat} {S:Keyed->Prop} {κ:SortKind}
theorem CV.le {arr:Array Keyed}:∀ {l:List (Nat×Nat×Nat)} {a b:Nat},CV rk arr l a b->a+l.length<=b
 | [],a,b,h=>Nat.le_of_eq h
 | r :: l,a,b,h=>by
  have:=CV.le h.2.2.2;have:=h.2.1;rw [List.length_cons];omega
theorem CV.app {arr:Array Keyed}:∀ {l l2:List (Nat×Nat×Nat)} {a b c:Nat},CV rk arr l a b->CV rk arr l2 b c->CV rk arr (l ++ l2) a c
 | [],l2,a,b,c,h,h2=>by
  cases (show a=b from h);exact h2
 | r :: l,l2,a,b,c,h,h2=>⟨h.1,h.2.1,h.2.2.1,CV.app h.2.2.2 h2⟩
theorem CV.cut {arr:Array Keyed}:∀ {l l2:List (Nat×Nat×Nat)} {a c:Nat},CV rk arr (l ++ l2) a c->∃ b,CV rk arr l a b/\CV rk arr l2 b c
 | [],l2,a,c,h=>⟨a,rfl,h⟩
 | r :: l,l2,a,c,h=>by
  obtain ⟨b,h1,h2⟩:=CV.cut h.2.2.2;exact ⟨b,⟨h.1,h.2.1,h.2.2.1,h1⟩,h2⟩
theorem CV.out {arr arr':Array Keyed}:∀ {l:List (Nat×Nat×Nat)} {a b:Nat},CV rk arr l a b->(∀ i:Nat,a<=i->i < b->arr'[i]?=arr[i]?)->CV rk arr' l a b
 | [],a,b,h,k=>h
 | r :: l,a,b,h,k=>by
  have:=CV.le h.2.2.2;refine ⟨h.1,h.2.1,fun i j x y li ij jh ex ey=>?_,CV.out h.2.2.2 fun i p q=>k i (by omega) q⟩;rw [k _ (by omega) (by omega)] at ex ey;exact h.2.2.1 i j x y li ij jh ex ey
theorem CV.last {arr:Array Keyed} {f:Nat×Nat×Nat->Nat×Nat×Nat} (hf:∀ r,(f r).1=r.1/\(f r).2.1=r.2.1):∀ {l:List (Nat×Nat×Nat)} {a b k:Nat},CV rk arr l a b->CV rk arr (l.modify k f) a b
 | [],a,b,k,h=>by
  rw [List.modify_nil];exact h
 | r :: l,a,b,0,h=>by
  rw [List.modify_zero_cons];refine ⟨(hf r).1.trans h.1,?_,?_,?_⟩
  ·rw [(hf r).2];exact h.2.1
  ·rw [(hf r).2];exact h.2.2.1
  ·rw [(hf r).2];exact h.2.2.2
 | r :: l,a,b,k+1,h=>by
  rw [List.modify_succ_cons];exact ⟨h.1,h.2.1,h.2.2.1,CV.last hf h.2.2.2⟩
theorem two_of {α:Type} {l:List α} {i:Nat} {x y:α} (e1:l[i]?=some x) (e2:l[i+1]?=some y):∃ l1 l2,l=l1 ++ x :: y :: l2/\l1.length=i:=by
 have h1:=(List.getElem?_eq_some_iff.mp e1).1;have h2:=(List.getElem?_eq_some_iff.mp e2).1;refine ⟨l.take i,l.drop (i+2),?_,by rw [List.length_take]; omega⟩;have d1:l.drop i=x :: l.drop (i+1):=by
  rw [List.drop_eq_getElem_cons h1,(List.getElem?_eq_some_iff.mp e1).2]
 have d2:l.drop (i+1)=y :: l.drop (i+2):=by
  rw [List.drop_eq_getElem_cons h2,(List.getElem?_eq_some_iff.mp e2).2]
 rw [<-d2,<-d1,List.take_append_drop]
theorem RQ {p:Array (Nat×Nat×Nat)} {i:Nat} {x y z:Nat×Nat×Nat} {l1 l2:List (Nat×Nat×Nat)} (e:p.toList=l1 ++ x :: y :: l2) (li:l1.length=i):((p.setIfInBounds i z).eraseIdxIfInBounds (i+1)).toList=l1 ++ z :: l2:=by
 subst li;have e1:(p.setIfInBounds l1.length z).toList=l1 ++ z :: y :: l2:=by
  rw [Array.toList_setIfInBounds,e,List.set_append_right _ _ (Nat.le_refl _),Nat.sub_self];rfl
 have sz:(p.setIfInBounds l1.length z).size=l1.length+2+l2.length:=by
  rw [<-Array.length_toList,e1,List.length_append,List.length_cons,List.length_cons];omega
 unfold Array.eraseIdxIfInBounds;rw [dif_pos (by omega),Array.toList_eraseIdx,e1,List.eraseIdx_append_of_length_le (by omega),Nat.add_sub_cancel_left];rfl
structure Srn (rk:Keyed->Nat) (κ:SortKind) (a0:Array Keyed) (lo:Nat) (st:SortSt):Prop where
 kind:kindOf st=κ
 fail:failedOf st=none
 pm:(arrOf st).toList.Perm a0.toList
 runs:CV rk (arrOf st) (pendingOf st).toList 0 lo
theorem Srn.size {a0:Array Keyed} {lo:Nat} {st:SortSt} (h:Srn rk κ a0 lo st):(arrOf st).size=a0.size:=by
 have:=h.pm.length_eq;rw [Array.length_toList,Array.length_toList] at this;exact this
theorem Srn.all {a0:Array Keyed} {lo:Nat} {st:SortSt} (h:Srn rk κ a0 lo st) (Sa:∀ (i:Nat) x,a0[i]?=some x->S x) (i:Nat) (x:Keyed) (e:(arrOf st)[i]?=some x):S x:=by
 rw [<-Array.getElem?_toList] at e;obtain ⟨j,hj⟩:=List.getElem?_of_mem (h.pm.mem_iff.mp (List.mem_of_getElem? e));rw [Array.getElem?_toList] at hj;exact Sa j x hj
theorem JQ {st:SortSt} {Q:Bool->SortSt->Prop} {i lo:Nat} {a0:Array Keyed} (hl:Lk prog w A E s rk S κ) (h:Srn rk κ a0 lo st) (Sa:∀ (i:Nat) x,a0[i]?=some x->S x) (hi:i+1 < (pendingOf st).size) (hlo:lo<=a0.size)
  (k:∀ st',Srn rk κ a0 lo st'->(pendingOf st').size+1=(pendingOf st).size->(∀ j:Nat,lo<=j->(arrOf st')[j]?=(arrOf st)[j]?)->Q true st'):wpS (model prog w) A E s (mergeAt' i) Q st:=by
 obtain ⟨⟨sa,na,pa⟩,e1⟩:∃ x,(pendingOf st)[i]?=some x:=⟨_,Array.getElem?_eq_getElem (by omega)⟩
 obtain ⟨⟨sb,nb,pb⟩,e2⟩:∃ x,(pendingOf st)[i+1]?=some x:=⟨_,Array.getElem?_eq_getElem hi⟩
 obtain ⟨l1,l2,el,li⟩:=two_of (l:=(pendingOf st).toList) (by rw [Array.getElem?_toList]; exact e1) (by rw [Array.getElem?_toList]; exact e2);have rn:=h.runs;rw [el] at rn;obtain ⟨c,r1,rn⟩:=rn.cut;obtain ⟨q1,n1,s1,rn⟩:=rn;obtain ⟨q2,n2,s2,rn⟩:=rn;dsimp only at q1 n1 s1 q2 n2 s2 rn;subst q1;have r1le:=r1.le;have rnle:=rn.le;have sz:=h.size;refine ON hl h.kind h.fail e1 e2 q2 n1 n2 (by omega) (h.all Sa) (q2 ▸ s1) (q2 ▸ s2) fun st' k1 k2 k3 mg=>?_;have pl:=RQ (z:=(sa,na+nb,pa)) el li;rw [<-k3] at pl;refine k st' ⟨k1,k2,mg.pm.trans h.pm,?_⟩ ?_ fun j hj=>mg.out j (.inr (by omega))
 ·rw [pl];refine CV.app (CV.out r1 fun j _ hj=>mg.out j (.inl hj)) ⟨rfl,by show 1<=na+nb; omega,?_,?_⟩
  ·have:=mg.so;rw [q2,Nat.add_assoc] at this;exact this
  ·show CV rk (arrOf st') l2 (sa+(na+nb)) lo;rw [<-Nat.add_assoc];exact CV.out rn fun j hj _=>mg.out j (.inr (by omega))
 ·have a1:=congrArg List.length pl;have a2:=congrArg List.length el;rw [Array.length_toList,List.length_append,List.length_cons] at a1;rw [Array.length_toList,List.length_append,List.length_cons,List.length_cons] at a2;omega
end
end PyProof.Rows
namespace PyProof.Rows
open PySem
section
variable {prog:Program} {w:World} {A:Around} {E:Value->Shared->Prop} {s:Shared} {rk:Keyed->Nat} {S:Keyed->Prop} {κ:SortKind}
theorem Srn.push {a0:Array Keyed} {lo n pw:Nat} {st:SortSt} (h:Srn rk κ a0 lo st) (n1:1<=n) (so:SoR rk (arrOf st) lo (lo+n)):Srn rk κ a0 (lo+n) (setPending st ((pendingOf st).push (lo,n,pw))) :=
 ⟨h.kind,h.fail,h.pm,by
  show CV rk (arrOf st) ((pendingOf st).push (lo,n,pw)).toList 0 (lo+n);rw [Array.toList_push];exact CV.app h.runs ⟨rfl,n1,so,rfl⟩⟩
theorem Srn.last {a0:Array Keyed} {lo k:Nat} {st:SortSt} {f:Nat×Nat×Nat->Nat×Nat×Nat} (hf:∀ r,(f r).1=r.1/\(f r).2.1=r.2.1) (h:Srn rk κ a0 lo st):Srn rk κ a0 lo (setPending st ((pendingOf st).modify k f)) :=
 ⟨h.kind,h.fail,h.pm,by
  show CV rk (arrOf st) ((pendingOf st).modify k f).toList 0 lo;rw [Array.toList_modify];exact CV.last hf h.runs⟩
theorem Nz {st:SortSt} {Q:Unit->SortSt->Prop} (hl:Lk prog w A E s rk S κ) (hk:kindOf st=κ) (hf:failedOf st=none) (hp:pendingOf st=#[]) (Sa:∀ (i:Nat) x,(arrOf st)[i]?=some x->S x)
  (k:∀ st',failedOf st'=none->(arrOf st').toList.Perm (arrOf st).toList->SoR rk (arrOf st') 0 (arrOf st).size->Q () st'):wpS (model prog w) A E s sortRuns' Q st:=by
 have h0:Srn rk κ (arrOf st) 0 st:=⟨hk,hf,List.Perm.refl _,by rw [hp]; rfl⟩
 generalize e0:arrOf st=a0 at h0 Sa k;rw [sortRuns'_eq];refine wpS_bind (wpS_get ?_);dsimp only;have esz:(arrOf st).size=a0.size:=by rw [e0]
 simp only [esz];generalize minRun' a0.size a0.size 0=mr;refine wpS_bind (wpS_mono (wpS_forRange (I:=fun x c st'=>∃ lo,c=(none,lo)/\Srn rk κ a0 lo st'/\lo<=a0.size/\(x<=lo\/a0.size<=lo)) (Q:=fun c st'=>c=(none,a0.size)/\Srn rk κ a0 a0.size st') ?step ?fin ⟨0,rfl,h0,by omega,by omega⟩) ?post)
 case fin =>
  rintro c st' ⟨lo,rfl,hS,l1,l2⟩;have:lo=a0.size:=by omega
  subst this;exact ⟨rfl,hS⟩
 case step =>
  rintro x c st' _ hx ⟨lo,rfl,hS,l1,l2⟩;dsimp only;by_cases ge:lo ≥ a0.size
  ·rw [if_pos ge];have:lo=a0.size:=by omega
   subst this;exact wpS_pure ⟨rfl,hS⟩
  rw [if_neg ge];have sz:=hS.size;have rest:∀ (n:Nat) (st2:SortSt),Srn rk κ a0 lo st2->1<=n->lo+n<=a0.size->SoR rk (arrOf st2) lo (lo+n)->∃ lo',((none,lo+n):Option Unit×Nat)=(none,lo')/\Srn rk κ a0 lo' (setPending st2 ((pendingOf st2).push (lo,n,0)))/\lo'<=a0.size/\(x+1<=lo'\/a0.size<=lo'):=fun n st2 h2 n1 nl so=>⟨lo+n,rfl,h2.push n1 so,nl,by omega⟩
  refine wpS_bind (Of hl hS.kind (show lo+(a0.size - lo)<=(arrOf st').size by omega) (by omega) (hS.all Sa) fun arr' m re m1 m2 so=>?_);dsimp only;have hS1:Srn rk κ a0 lo (setArr st' arr'):=⟨hS.kind,hS.fail,re.pm.trans hS.pm,CV.out hS.runs fun i _ h=>re.out i (.inl h)⟩
  by_cases few:m < mr
  ·rw [if_pos few];refine wpS_bind (wpS_lift (wpAny_rule ⟨rfl,?_⟩));refine wpS_bind (LD hl hS1.kind (show lo+min (a0.size - lo) mr<=(arrOf (setArr st' arr')).size by rw [hS1.size]; omega) (by omega) (hS1.all Sa) so fun arr2 re2 so2=>?_);have hS2:Srn rk κ a0 lo (setArr st' arr2):=⟨hS.kind,hS.fail,re2.pm.trans hS1.pm,CV.out hS1.runs fun i _ h=>re2.out i (.inl h)⟩
   generalize hn:min (a0.size - lo) mr=n at so2 ⊢;have n1:1<=n:=by omega
   have nl:lo+n<=a0.size:=by omega
   simp only [Bool.not_true,Bool.false_eq_true,if_false];have so2:SoR rk (arrOf (setArr st' arr2)) lo (lo+n):=so2;generalize setArr st' arr2=st2 at hS2 so2 ⊢;refine wpS_bind (wpS_get ?_);cases hb:(pendingOf st2).back? with
   | none =>
    dsimp only;exact wpS_bind (wpS_modify (wpS_pure (rest n st2 hS2 n1 nl so2)))
   | some r =>
    obtain ⟨s1,n1',p1⟩:=r;dsimp only;refine wpS_bind (wpS_mono (wpS_forRange (I:=fun _ c st3=>c=(none,())/\Srn rk κ a0 lo st3/\SoR rk (arrOf st3) lo (lo+n)) (Q:=fun c st3=>c=(none,())/\Srn rk κ a0 lo st3/\SoR rk (arrOf st3) lo (lo+n)) ?_ (fun c st3 h=>h) ⟨rfl,hS2,so2⟩) ?_)
    ·rintro y c st3 _ _ ⟨rfl,h3,so3⟩;refine wpS_bind (wpS_get ?_);by_cases g:(pendingOf st3).size > 1
     ·rw [if_pos g];obtain ⟨⟨sx,nx,older⟩,e⟩:∃ x,(pendingOf st3)[(pendingOf st3).size - 2]?=some x:=⟨_,Array.getElem?_eq_getElem (by omega)⟩
      rw [e];dsimp only;split
      ·exact wpS_pure ⟨rfl,h3,so3⟩
      ·refine wpS_bind (JQ hl h3 Sa (by omega) l1 fun st4 h4 _ keep=>?_);simp only [Bool.not_true,Bool.false_eq_true,if_false];refine wpS_pure ⟨rfl,h4,fun i j x y li ij jh ex ey=>?_⟩;rw [keep _ (by omega)] at ex ey;exact so3 i j x y li ij jh ex ey
     ·rw [if_neg g];exact wpS_pure ⟨rfl,h3,so3⟩
    ·rintro c st3 ⟨rfl,h3,so3⟩;dsimp only;exact wpS_bind (wpS_modify (wpS_bind (wpS_modify (wpS_pure (rest n _ (Srn.last (fun r=>⟨rfl,rfl⟩) h3) n1 nl so3)))))
  ·rw [if_neg few];have so2:SoR rk (arrOf (setArr st' arr')) lo (lo+m):=so;have hS2:=hS1;generalize setArr st' arr'=st2 at hS2 so2 ⊢;have n1:1<=m:=m1;have nl:lo+m<=a0.size:=by omega
   generalize m=n at so2 n1 nl ⊢;refine wpS_bind (wpS_get ?_);cases hb:(pendingOf st2).back? with
   | none =>
    dsimp only;exact wpS_bind (wpS_modify (wpS_pure (rest n st2 hS2 n1 nl so2)))
   | some r =>
    obtain ⟨s1,n1',p1⟩:=r;dsimp only;refine wpS_bind (wpS_mono (wpS_forRange (I:=fun _ c st3=>c=(none,())/\Srn rk κ a0 lo st3/\SoR rk (arrOf st3) lo (lo+n)) (Q:=fun c st3=>c=(none,())/\Srn rk κ a0 lo st3/\SoR rk (arrOf st3) lo (lo+n)) ?_ (fun c st3 h=>h) ⟨rfl,hS2,so2⟩) ?_)
    ·rintro y c st3 _ _ ⟨rfl,h3,so3⟩;refine wpS_bind (wpS_get ?_);by_cases g:(pendingOf st3).size > 1
     ·rw [if_pos g];obtain ⟨⟨sx,nx,older⟩,e⟩:∃ x,(pendingOf st3)[(pendingOf st3).size - 2]?=some x:=⟨_,Array.getElem?_eq_getElem (by omega)⟩
      rw [e];dsimp only;split
      ·exact wpS_pure ⟨rfl,h3,so3⟩
      ·refine wpS_bind (JQ hl h3 Sa (by omega) l1 fun st4 h4 _ keep=>?_);simp only [Bool.not_true,Bool.false_eq_true,if_false];refine wpS_pure ⟨rfl,h4,fun i j x y li ij jh ex ey=>?_⟩;rw [keep _ (by omega)] at ex ey;exact so3 i j x y li ij jh ex ey
     ·rw [if_neg g];exact wpS_pure ⟨rfl,h3,so3⟩
    ·rintro c st3 ⟨rfl,h3,so3⟩;dsimp only;exact wpS_bind (wpS_modify (wpS_bind (wpS_modify (wpS_pure (rest n _ (Srn.last (fun r=>⟨rfl,rfl⟩) h3) n1 nl so3)))))
 case post =>
  rintro c st' ⟨rfl,hS⟩;dsimp only;refine wpS_bind (wpS_mono (wpS_forRange (I:=fun x c st''=>c=(none,())/\Srn rk κ a0 a0.size st''/\((pendingOf st'').size<=1\/(pendingOf st'').size+x<=a0.size)) (Q:=fun c st''=>c=(none,())/\Srn rk κ a0 a0.size st''/\(pendingOf st'').size<=1) ?_ ?_ ⟨rfl,hS,?_⟩) ?_)
  ·rintro x c st'' _ hx ⟨rfl,h1,h2⟩;refine wpS_bind (wpS_get ?_);by_cases q:(pendingOf st'').size<=1
   ·rw [if_pos q];exact wpS_pure ⟨rfl,h1,q⟩
   rw [if_neg q];have go:∀ i,i+1 < (pendingOf st'').size->wpS (model prog w) A E s (mergeAt' i) (fun b st4=>b=true/\Srn rk κ a0 a0.size st4/\(pendingOf st4).size+(x+1)<=a0.size) st'':=fun i hi=>JQ hl h1 Sa hi (Nat.le_refl _) fun st4 h4 h5 _=>⟨rfl,h4,by omega⟩
   refine wpS_bind (wpS_mono (go _ ?_) fun b st4 h=>?_)
   ·repeat' split
    all_goals omega
   ·obtain ⟨rfl,h4,h5⟩:=h;simp only [Bool.not_true,Bool.false_eq_true,if_false];exact wpS_pure ⟨rfl,h4,.inr h5⟩
  ·rintro c st'' ⟨rfl,h1,h2⟩;exact ⟨rfl,h1,by omega⟩
  ·have:=hS.runs.le;rw [Array.length_toList] at this;exact .inr (by omega)
  ·rintro c st'' ⟨rfl,h1,h2⟩;refine wpS_pure (k st'' h1.fail h1.pm ?_);have rn:=h1.runs;have lz:(pendingOf st'').toList.length<=1:=by rw [Array.length_toList]; exact h2
   generalize (pendingOf st'').toList=l at rn lz
   match l,rn,lz with
   | [],rn,_ =>
    have z:0=a0.size:=rn;exact fun i j x y _ _ h=>absurd h (by omega)
   | [r],rn,_ =>
    obtain ⟨q1,q2,q3,q4⟩:=rn;have:0+r.2.1=a0.size:=q4;rw [this] at q3;exact q3
end
end PyProof.Rows
namespace L2
open PySem PySem.W PySem.Spec PyProof.Rows
theorem Qt {α β:Type} {f:β->α} {l' l:List α} (h:l'.Perm l):∀ p:List β,p.map f=l->∃ p':List β,p'.Perm p/\p'.map f=l':=by
 induction h with
 | nil=>exact fun p e=>⟨p,List.Perm.refl _,e⟩
 | cons x _ ih =>
  intro p e;cases p with
  | nil=>cases e
  | cons i p =>
   rw [List.map_cons] at e;injection e with e1 e2
   obtain ⟨p',h1,h2⟩:=ih p e2;exact ⟨i :: p',h1.cons i,by rw [List.map_cons,h2,e1]⟩
 | swap x y l =>
  intro p e
  match p,e with
  | i :: j :: p,e =>
   rw [List.map_cons,List.map_cons] at e;injection e with e1 e2
   injection e2 with e2 e3
   exact ⟨j :: i :: p,List.Perm.swap i j p,by rw [List.map_cons,List.map_cons,e1,e2,e3]⟩
 | trans _ _ ih1 ih2 =>
  intro p e;obtain ⟨p1,h1,h2⟩:=ih2 p e;obtain ⟨p2,h3,h4⟩:=ih1 p1 h2;exact ⟨p2,h3.trans h1,h4⟩
section
variable {prog:Program} {w:World} {A:Around} {E:Value->Shared->Prop} {s:Shared} {ks vs:List Value} {κ:SortKind}
theorem run_any {Q:SortSt->Shared->Prop} {rk:Nat->Int} {rk':Keyed->Nat} (lk:ks.length=vs.length) (hr:∀ i,i < vs.length->rk i=(rk' (kas_item (ks.toArray.zip vs.toArray) i):Int)) (hc:∀ i j C,i < vs.length->j < vs.length->C (decide (rk i < rk j)) s->kas_ask prog w A κ ks i j C s)
  (k:∀ p st',Qd vs.length p->Up rk p vs.length->failedOf st'=none->arrOf st'=p.map (kas_item (ks.toArray.zip vs.toArray))->Q st' s):wpAny (model prog w) A ((sortRuns').run (SortSt.mk' κ (ks.toArray.zip vs.toArray) #[] 7 none)) (fun r s'=>Q r.2 s') E s:=by
 have sz:(ks.toArray.zip vs.toArray).size=vs.length:=by simp [lk]
 have whole:((List.range vs.length).map (kas_item (ks.toArray.zip vs.toArray)))=(ks.toArray.zip vs.toArray).toList:=by
  have e:=kas_range (ks.toArray.zip vs.toArray);rw [sz] at e;rw [<-congrArg Array.toList e];simp
 have fst:∀ i,i < vs.length->(kas_item (ks.toArray.zip vs.toArray) i).1=ks.getD i Value.none:=fun i hi=>by
  have h1:i < ks.length:=by rw [lk]; exact hi
  unfold kas_item;rw [Array.getD_eq_getD_getElem?,Array.getElem?_eq_getElem (by rw [sz]; exact hi),List.getD_eq_getElem?_getD,List.getElem?_eq_getElem h1];simp
 have hl:Lk prog w A E s rk' (fun x=>∃ i,i < vs.length/\x=kas_item (ks.toArray.zip vs.toArray) i) κ:=by
  rintro x y st Q' ⟨i,hi,rfl⟩ ⟨j,hj,rfl⟩ hk q;rw [lt'_eq];refine wpS_bind (wpS_get ?_);rw [hk];have c:=hc i j (fun b s'=>s'=s/\b=decide (rk i < rk j)) hi hj ⟨rfl,rfl⟩;unfold kas_ask at c;rw [<-fst i hi,<-fst j hj] at c;refine wpS_bind (wpS_lift (wpAny_attempt (wpAny_mono c (fun b s' h=>?_) fun _ _ x=>x.elim)));obtain ⟨rfl,rfl⟩:=h;refine ⟨rfl,?_⟩;refine wpS_pure ?_;have e:decide (rk i < rk j)=decide (rk' (kas_item (ks.toArray.zip vs.toArray) i) < rk' (kas_item (ks.toArray.zip vs.toArray) j)):=by
   rw [hr i hi,hr j hj];exact decide_eq_decide.mpr Int.ofNat_lt
  rw [e];exact q
 have run:=Nz (st:=SortSt.mk' κ (ks.toArray.zip vs.toArray) #[] 7 none) (Q:=fun _ st'=>Q st' s) hl rfl rfl rfl (fun i x e=>?_) fun st' hf pm so=>?_
 ·exact wpAny_mono run (fun r s' h=>by obtain ⟨rfl,q⟩:=h; exact q) fun _ _ e=>e
 ·have hi:i < vs.length:=by
   have:=(Array.getElem?_eq_some_iff.mp e).1;rw [sz] at this;exact this
  refine ⟨i,hi,?_⟩;have e:(ks.toArray.zip vs.toArray)[i]?=some x:=e;unfold kas_item;rw [Array.getD_eq_getD_getElem?,e];rfl
 ·have pm:(arrOf st').toList.Perm (ks.toArray.zip vs.toArray).toList:=pm;obtain ⟨p,h1,h2⟩:=Qt pm _ whole;have lp:p.length=vs.length:=by rw [h1.length_eq,List.length_range]
  have ea:arrOf st'=p.toArray.map (kas_item (ks.toArray.zip vs.toArray)):=by
   apply Array.toList_inj.mp;rw [Array.toList_map];exact h2.symm
  refine k p.toArray st' ⟨by simpa using lp,Array.perm_iff_toList_perm.mpr (by simpa using h1)⟩ (fun i j ij hj=>?_) hf ea;have so:SoR rk' (arrOf st') 0 vs.length:=by
   rw [<-sz];exact so
  have at':∀ {i:Nat},i < vs.length->p.toArray.getD i 0 < vs.length/\(arrOf st')[i]?=some (kas_item (ks.toArray.zip vs.toArray) (p.toArray.getD i 0)):=fun {i} hi=>by
   have hp:i < p.length:=by rw [lp]; exact hi
   have e:p.toArray.getD i 0=p[i]:=by simp [Array.getD,hp]
   rw [e];refine ⟨by simpa using h1.mem_iff.mp (List.getElem_mem hp),?_⟩;rw [ea,Array.getElem?_map,List.getElem?_toArray,List.getElem?_eq_getElem hp];rfl
  obtain ⟨a1,a2⟩:=at' (i:=i) (by lia);obtain ⟨b1,b2⟩:=at' hj;unfold kk;rw [hr _ a1,hr _ b1];exact Int.ofNat_le.mpr (so i j _ _ (Nat.zero_le _) ij hj a2 b2)
end
def OT (H:Hp) (v:Value):List Int:=match v with
 | .ref u=>(match H u with
  | some (.tup vs)=>vs.filterMap fun v=>(match v with | .int n=>some n | _=>none)
  | _=>[])
 | _=>[]
theorem QM {H:Hp} {u:Addr} {ns:List Int} (h:H u=some (.tup (ns.map V.int))):OT H (.ref u)=ns:=by
 unfold OT;dsimp only;rw [h];dsimp only;clear h;induction ns with
 | nil=>rfl
 | cons n ns ih =>
  rw [List.map_cons,List.filterMap_cons];dsimp only;rw [ih]
def rkK (H:Hp) (rows:List (List Int)) (x:Keyed):Nat:=rows.countP fun r=>CU r (OT H x.1)
theorem rkK_of {H:Hp} {items:List (Addr×List Int)} (ht:∀ q ∈ items,H q.1=some (.tup (q.2.map V.int))) {vs:List Value} (lv:vs.length=items.length) {i:Nat} (hi:i < items.length):Qo (items.map (·.2)) i=(rkK H (items.map (·.2)) (kas_item ((items.map fun q=>Value.ref q.1).toArray.zip vs.toArray) i):Int):=by
 have e:(kas_item ((items.map fun q=>Value.ref q.1).toArray.zip vs.toArray) i).1=.ref items[i].1:=by
  unfold kas_item;rw [Array.getD_eq_getD_getElem?,Array.getElem?_eq_getElem (by simp; lia)];simp
 unfold Qo rkK;rw [e,QM (ht _ (List.getElem_mem hi)),List.getD_eq_getElem?_getD,List.getElem?_map,List.getElem?_eq_getElem hi];rfl
section
variable {prog:Program} {w:World} {A:Around} {E:Value->Shared->Prop}
theorem QI {s:Shared} {a:Addr} {vs:List Value} {n:Nat} {P:PySem.Fin->Shared->Prop} {κ:SortKind} {rk:Nat->Int} {rk':Keyed->Nat} (ho:s.heap.get? a=some (seqObj "list" vs.toArray n)) (h64:vs.length<=100000) (hr:∀ i,i < vs.length->rk i=(rk' (kas_item (vs.toArray.zip vs.toArray) i):Int))
  (hk:∀ (s':Shared) (Q:SortKind->Shared->Prop),(∀ b o,b≠a->s.heap.get? b=some o->s'.heap.get? b=some o)->2<=vs.length->Q κ s'->wpAny (model prog w) A (keyKind' vs.toArray) Q E s')
  (hc:∀ (s':Shared),(∀ b o,b≠a->s.heap.get? b=some o->s'.heap.get? b=some o)->∀ i j C,i < vs.length->j < vs.length->C (decide (rk i < rk j)) s'->kas_ask prog w A κ vs i j C s')
  (fin:∀ p,Qd vs.length p->Up rk p vs.length->P (.done (.ret .none)) { s with heap:=sortedHeap s.heap a vs (p.toList.map fun i=>vs.getD i Value.none).toArray }) :
  wpAny (model prog w) A (Builtin.«list.sort» ⟨[.ref a],[]⟩) P E s:=by
 have alt:a < s.heap.objs.size:=Heap.lt_size ho;have len:vs.toArray.size=vs.length:=List.size_toArray;have ln:vs.length<=sizeLine:=Nat.le_trans h64 (by decide);rw [list_sort_plain];refine wpAny_bind (listItems_at ho rfl (wpAny_bind (listUpdate_at ho rfl ?_)));have ⟨e1,he1⟩:∃ e1,(s.heap.update a (Obj.mapSeq fun _=>#[])).get? a=some (seqObj "list" #[] e1):=⟨_,get?_update_seq ho _⟩
 refine wpAny_bind (seqEpoch_at he1 rfl (wpAny_bind (wpAny_newTuple (wpAny_bind (wpAny_newList (wpAny_holding ?_))))));have hin:(((s.heap.update a (Obj.mapSeq fun _=>#[])).push (seqObj "tuple" vs.toArray 0)).push (seqObj "list" #[] 0)).get? a=some (seqObj "list" #[] e1):=by
  refine Heap.get?_push_of_some _ (Heap.get?_push_of_some _ he1)
 have keep:∀ b o,b≠a->s.heap.get? b=some o->(((s.heap.update a (Obj.mapSeq fun _=>#[])).push (seqObj "tuple" vs.toArray 0)).push (seqObj "list" #[] 0)).get? b=some o:=fun b o hb e =>
  Heap.get?_push_of_some _ (Heap.get?_push_of_some _ (by rw [Heap.get?_update_ne _ _ _ _ hb]; exact e))
 show wpAny (model prog w) A _ P E { s with heap:=(((s.heap.update a (Obj.mapSeq fun _=>#[])).push (seqObj "tuple" vs.toArray 0)).push (seqObj "list" #[] 0)) };dsimp only;by_cases few:vs.toArray.size < 2
 ·rw [if_pos few,if_pos few];refine wpAny_bind (wpAny_pure ?_);rw [StateT.run_pure];refine wpAny_bind (wpAny_pure ?_);dsimp only;have eo:(arrOf (SortSt.mk' general' (vs.toArray.zip vs.toArray) #[] 7 none)).map (·.2)=((List.range vs.length).toArray.toList.map fun i=>vs.getD i Value.none).toArray:=by
   rw [len] at few;clear hk hc fin keep hin ho hr;show (vs.toArray.zip vs.toArray).map (·.2)=_
   match vs,few with
   | [],_=>simp
   | [v],_=>simp
  refine wpAny_bind (seqEpoch_at hin rfl (wpAny_bind (listUpdate_at hin rfl ?_ (hsz2:=by rw [eo]; simp; lia))));simp only [bne_self_eq_false,Bool.false_eq_true,if_false];rw [eo];refine wpAny_pure (fin _ ⟨by simp,Array.Perm.refl _⟩ fun i j ij hj=>?_);have:i=j:=by lia
  rw [this];exact Int.le_refl _
 ·rw [if_neg few,if_neg few];have two:2<=vs.length:=by lia
  refine wpAny_bind (hk _ _ keep two ?_);refine wpAny_bind (wpAny_mono (run_any (ks:=vs) (rk:=rk) (Q:=fun st' s'=>s'={ s with heap:=(((s.heap.update a (Obj.mapSeq fun _=>#[])).push (seqObj "tuple" vs.toArray 0)).push (seqObj "list" #[] 0)) }/\failedOf st'=none/\∃ p,Qd vs.length p/\Up rk p vs.length/\arrOf st'=p.map (kas_item (vs.toArray.zip vs.toArray))) rfl hr (hc _ keep) fun p st' h1 h2 h3 h4=>⟨rfl,h3,p,h1,h2,h4⟩) ?_ fun _ _ e=>e);rintro ⟨⟨⟩,st'⟩ s' ⟨rfl,hf,p,pn,up,ea⟩;dsimp only at hf ea ⊢;have eo:=kat_snds (ks:=vs) (vs:=vs) rfl ea;refine wpAny_bind (seqEpoch_at hin rfl (wpAny_bind (listUpdate_at hin rfl ?_ (hsz2:=by rw [eo]; simp only [List.size_toArray,List.length_map,Array.length_toList,pn.sz]; lia))));rw [hf,eo];simp only [bne_self_eq_false,Bool.false_eq_true,if_false];exact wpAny_pure (fin p pn up)
theorem Ny {s:Shared} {l:Addr} {vs:List Value} {Q:Value->Shared->Prop} {κ:SortKind} {rk:Nat->Int} {rk':Keyed->Nat} (hl:s.heap.IsList l vs.toArray) (h64:vs.length<=100000) (hr:∀ i,i < vs.length->rk i=(rk' (kas_item (vs.toArray.zip vs.toArray) i):Int))
  (hk:∀ (A:Around) (E:Value->Shared->Prop) (s':Shared) (Q:SortKind->Shared->Prop),(∀ b o,s.heap.get? b=some o->s'.heap.get? b=some o)->2<=vs.length->Q κ s'->wpAny (model prog w) A (keyKind' vs.toArray) Q E s')
  (hc:∀ (A:Around) (s':Shared),(∀ b o,s.heap.get? b=some o->s'.heap.get? b=some o)->∀ i j C,i < vs.length->j < vs.length->C (decide (rk i < rk j)) s'->kas_ask prog w A κ vs i j C s')
  (fin:∀ p,Qd vs.length p->Up rk p vs.length->Q (.ref (s.heap.objs.size+1)) { s with heap:=sortedAll s.heap vs (p.toList.map fun i=>vs.getD i Value.none).toArray }) :
  wpAny (model prog w) A (call (.builtin "sorted") [.ref l]) Q E s:=by
 have ln:vs.length<=sizeLine:=Nat.le_trans h64 (by decide);refine Calls.call_function_entry kind_sorted plain_sorted entry_sorted (args_sorted1 _) ?_;unfold Builtin.«sorted»;refine wpAny_bind (m:=checkCount "sorted" 1 1 _) (wpAny_pure (wpAny_bind (collect_list hl (wpAny_bind (wpAny_newList ?_)))));have sz1:((s.heap.push (seqObj "list" #[] 0)).update s.heap.objs.size (Obj.mapSeq (· ++ vs.toArray))).objs.size=s.heap.objs.size+1:=by
  rw [Heap.size_update]; exact size_push' ..
 have at1:(((s.heap.push (seqObj "list" #[] 0)).update s.heap.objs.size (Obj.mapSeq (· ++ vs.toArray))).push (seqObj "list" vs.toArray 0)).get? (s.heap.objs.size+1)=some (seqObj "list" vs.toArray 0):=by
  have:=Heap.get?_push_size ((s.heap.push (seqObj "list" #[] 0)).update s.heap.objs.size (Obj.mapSeq (· ++ vs.toArray))) (show (seqObj "list" vs.toArray 0).isFreed=false from rfl);rw [sz1] at this;exact this
 have keep1:∀ b o,s.heap.get? b=some o->(((s.heap.push (seqObj "list" #[] 0)).update s.heap.objs.size (Obj.mapSeq (· ++ vs.toArray))).push (seqObj "list" vs.toArray 0)).get? b=some o:=fun b o e =>
  Heap.get?_push_of_some _ (by rw [Heap.get?_update_ne _ _ _ _ (Nat.ne_of_lt (Heap.lt_size e))]; exact Heap.get?_push_of_some _ e)
 show wpAny (model prog w) _ _ _ _ { s with heap:=(((s.heap.push (seqObj "list" #[] 0)).update s.heap.objs.size (Obj.mapSeq (· ++ vs.toArray))).push (seqObj "list" vs.toArray 0)) };rw [sz1];have ne:∀ b o,s.heap.get? b=some o->b≠s.heap.objs.size+1:=fun b o e=>Nat.ne_of_lt (Nat.lt_succ_of_lt (Heap.lt_size e));refine wpAny_bind (wpAny_holding (wpAny_call_entry slot_list_sort ⟨_,at1,rfl⟩ entry_list_sort (QI (κ:=κ) (rk:=rk) (rk':=rk') at1 h64 hr (fun s' Q' kp t2 q=>hk _ _ s' Q' (fun b o e=>kp b o (ne b o e) (keep1 b o e)) t2 q) (fun s' kp=>hc _ s' fun b o e=>kp b o (ne b o e) (keep1 b o e)) fun p pn up=>⟨_,rfl,wpAny_pure ⟨_,rfl,fin p pn up⟩⟩) (args_list_sort _)))
end
section
variable {X:Cx}
theorem Ii:EQ X (.builtin "sorted") (fun xs H Q=>∃ (p:Addr) (items:List (Addr×List Int)),xs=[.ref p]/\SqL X.K H p (items.map fun q=>V.ref q.1)/\items.length<=100000/\(∀ q ∈ items,H q.1=some (.tup (q.2.map V.int))/\q.2≠[]) /\
  ∀ (L:Addr) (out:List (Addr×List Int)),H L=none->out.Perm items->EX out->Q (.ref L) (upd H L (.lst (out.map fun q=>V.ref q.1)))):=by
 intro pins s σ H xs us Q I r h;obtain ⟨p,items,rfl,hq,h64,ht,q⟩:=h;cases r with
 | cons r1 r2 =>
  cases r2;cases (show _=Value.ref p from r1);obtain ⟨its,rv,pl,hz⟩:=I.list hq;have ei:its=items.map fun q=>Value.ref q.1:=by
   clear pl hz ht q hq h64;induction items generalizing its with
   | nil=>cases rv; rfl
   | cons it items ih =>
    cases rv with
    | cons a1 a2 =>
     cases (show _=Value.ref it.1 from a1);rw [List.map_cons,ih _ a2]
  subst ei;have len:(items.map fun q=>Value.ref q.1).length=items.length:=List.length_map _;have ln:items.length<=sizeLine:=Nat.le_trans h64 (by decide);refine Ny (κ:=tuples' true) (rk:=Qo (items.map (·.2))) (rk':=rkK H (items.map (·.2))) pl.isList (by rw [len]; exact h64) (fun i hi=>rkK_of (fun q hq=>(ht q hq).1) len (by rw [len] at hi; exact hi)) (fun A E s' Q' kp two q'=>?_) (fun A s' kp i j C hi hj c=>?_) fun pm pn up=>?_
  ·obtain ⟨fs,k1,k2,k3⟩:=LX (I.hok.kept kp) ht;refine kat_kind (T:=.type "int") k1 (by rw [k2,<-len]; lia) (fun v hv=>?_) rfl q';obtain ⟨x,t,rfl⟩:=k3 v hv;exact .now
  ·rw [len] at hi hj;obtain ⟨b,o,us,m,e1,e2,e3,e4,e5⟩:=Pn (I.hok.kept kp) ht hi;obtain ⟨b',o',us',m',f1,f2,f3,f4,f5⟩:=Pn (I.hok.kept kp) ht hj;unfold kas_ask;rw [e1,f1];refine kat_lt e2 e4 f2 f4 ?_;rw [RJ (by rw [List.length_map]; exact hi)] at c;have:=Py (prog:=X.prog) (w:=X.w) (A:=A) (b:=true) (i:=0) e5 f5 c;have l1:=e5.length;have l2:=f5.length;rw [List.length_map] at l1 l2;rw [List.size_toArray,List.size_toArray,<-l1,<-l2];exact this
  ·obtain ⟨ep,at1⟩:=sortedAll_at s.heap (items.map fun q=>Value.ref q.1) (pm.toList.map fun i=>(items.map fun q=>Value.ref q.1).getD i Value.none).toArray;have pl2:pm.toList.Perm (List.range items.length):=by
    have:=pn.pm;rw [len] at this
    simpa using this.toList
   have sz:pm.size=items.length:=pn.sz.trans len;have lt:∀ i ∈ pm.toList,i < items.length:=fun i hi=>by simpa using (pl2.mem_iff).mp hi
   let d:Addr×List Int:=(0,[])
   have out:(pm.toList.map fun i=>items.getD i d).Perm items:=by
    refine (pl2.map _).trans ?_;refine List.Perm.of_eq (List.ext_getElem? fun i=>?_);rw [List.getElem?_map];by_cases hi:i < items.length
    ·rw [List.getElem?_range hi,List.getElem?_eq_getElem hi];show some (items.getD i d)=_;rw [List.getD_eq_getElem?_getD,List.getElem?_eq_getElem hi];rfl
    ·rw [List.getElem?_eq_none (by simpa using hi),List.getElem?_eq_none (by lia)];rfl
   have rows:EX (pm.toList.map fun i=>items.getD i d):=by
    refine List.pairwise_iff_getElem.mpr fun i j hi hj ij=>?_;rw [List.length_map,Array.length_toList,sz] at hi hj;have u:=up i j (Nat.le_of_lt ij) (by rw [len]; exact hj);have gi:pm.getD i 0=pm[i]'(by lia):=by simp [Array.getD,sz,hi]
    have gj:pm.getD j 0=pm[j]'(by lia):=by simp [Array.getD,sz,hj]
    have li:=lt _ (List.getElem_mem (l:=pm.toList) (n:=i) (by rw [Array.length_toList]; lia));have lj:=lt _ (List.getElem_mem (l:=pm.toList) (n:=j) (by rw [Array.length_toList]; lia));rw [Array.getElem_toList] at li lj;unfold kk at u;rw [gi,gj] at u;rw [List.getElem_map,List.getElem_map,Array.getElem_toList,Array.getElem_toList];generalize pm[i]=a at *
    generalize pm[j]=b at *
    have:=RJ (rows:=items.map (·.2)) (i:=b) (j:=a) (by rw [List.length_map]; exact lj);rw [decide_eq_false (by lia)] at this;have gd:∀ {c:Nat},c < items.length->(items.map (·.2)).getD c []=(items.getD c d).2:=fun {c} hc=>by
     rw [List.getD_eq_getElem?_getD,List.getElem?_map,List.getD_eq_getElem?_getD,List.getElem?_eq_getElem hc];rfl
    rw [gd lj,gd li] at this;exact this.symm
   refine ⟨.ref (s.heap.objs.size+1),_,?_,rfl,q (s.heap.objs.size+1) _ (I.hok.fresh (Nat.le_succ _)) out rows⟩;refine I.laid (a:=s.heap.objs.size+1) (fun b o e=>sortedAll_old e) (Nat.le_succ _) ⟨by rw [List.length_map,List.length_map,Array.length_toList,sz]; exact ln,_,ep,?_,at1⟩;have:∀ {l:List Nat},(∀ i ∈ l,i < items.length)->AJ ((l.map fun i=>items.getD i d).map fun q=>V.ref q.1) (l.map fun i=>(items.map fun q=>Value.ref q.1).getD i Value.none):=by
    intro l;induction l with
    | nil=>intro _; exact .nil
    | cons i l ih =>
     intro hl;refine .cons ?_ (ih fun j hj=>hl j (List.mem_cons_of_mem _ hj));have hi:=hl i (List.mem_cons_self ..);show AX (V.ref (items.getD i d).1) ((items.map fun q=>Value.ref q.1).getD i Value.none);rw [List.getD_eq_getElem?_getD,List.getD_eq_getElem?_getD,List.getElem?_map,List.getElem?_eq_getElem hi];rfl
   exact this lt
end
section
variable {X:Cx} {pins:List (Addr×Obj)} {σ:St} {H H':Hp} {s:Shared} {k:Nat} {f b:Addr} {fd:FuncData} {ps:List Str}
end
section
variable {prog:Program} {w:World} {A:Around} {E:Value->Shared->Prop} {s:Shared} {r d:Addr} {o:Obj} {es:Array DictEntry} {ep:Nat}
end
section
variable {X:Cx}
end
end L2
namespace J
open PySem L2
def top (i:Nat):Stmt:=PySem.Challenge.pw_jumpfield_k82_a_pattern_read.main.body.getD i (.Pass ⟨0,0,0,0⟩)
abbrev DQ:Stmt:=top 19
abbrev OI:List Str:=["thing"]
abbrev Di:List Str:=["thing"]
theorem NB:Ar OI Di (Ae DQ):=⟨rfl,rfl,rfl,by decide +kernel,rfl,by decide +kernel,by decide +kernel⟩
abbrev CH:Stmt:=top 20
abbrev ML:List Str:=["text"]
abbrev DB:List Str:=["text"]
theorem Ln:Ar ML DB (Ae CH):=⟨rfl,rfl,rfl,by decide +kernel,rfl,by decide +kernel,by decide +kernel⟩
abbrev BK:Stmt:=top 21
abbrev Jb:List Str:=["text"]
abbrev Ck:List Str:=["text"]
theorem Io:Ar Jb Ck (Ae BK):=⟨rfl,rfl,rfl,by decide +kernel,rfl,by decide +kernel,by decide +kernel⟩
abbrev BR:Stmt:=top 22
abbrev GF:List Str:=["signs"]
abbrev Da:List Str:=["signs"]
theorem JC:Ar GF Da (Ae BR):=⟨rfl,rfl,rfl,by decide +kernel,rfl,by decide +kernel,by decide +kernel⟩
abbrev DR:Stmt:=top 25
abbrev OJ:List Str:=["thing"]
abbrev Dj:List Str:=["thing"]
theorem NC:Ar OJ Dj (Ae DR):=⟨rfl,rfl,rfl,by decide +kernel,rfl,by decide +kernel,by decide +kernel⟩
abbrev Co:Stmt:=top 32
abbrev Lu:List Str:=["box","limit"]
abbrev BS:List Str:=["box","limit"]
theorem JB:Ar Lu BS (Ae Co):=⟨rfl,rfl,rfl,by decide +kernel,rfl,by decide +kernel,by decide +kernel⟩
abbrev DP:Stmt:=top 33
abbrev OH:List Str:=["grove","field"]
abbrev DT:List Str:=["grove","field"]
theorem NA:Ar OH DT (Ae DP):=⟨rfl,rfl,rfl,by decide +kernel,rfl,by decide +kernel,by decide +kernel⟩
abbrev CJ:Stmt:=top 34
abbrev MN:List Str:=["grove"]
abbrev DD:List Str:=["grove"]
theorem Lo:Ar MN DD (Ae CJ):=⟨rfl,rfl,rfl,by decide +kernel,rfl,by decide +kernel,by decide +kernel⟩
abbrev Er:Stmt:=top 35
abbrev QA:List Str:=["grove","square","level","parts","bare"]
abbrev Fj:List Str:=["grove","square"]
theorem Fv:Ar QA Fj (Ae Er):=⟨rfl,rfl,rfl,by decide +kernel,rfl,by decide +kernel,by decide +kernel⟩
abbrev Es:Stmt:=top 36
abbrev QB:List Str:=["grove","square","kept"]
abbrev Ev:List Str:=["grove","square"]
theorem GL:Ar QB Ev (Ae Es):=⟨rfl,rfl,rfl,by decide +kernel,rfl,by decide +kernel,by decide +kernel⟩
abbrev Cz:Stmt:=top 37
abbrev IQ:List Str:=["grove","square","inner"]
abbrev Ea:List Str:=["grove","square"]
theorem GR:Ar IQ Ea (Ae Cz):=⟨rfl,rfl,rfl,by decide +kernel,rfl,by decide +kernel,by decide +kernel⟩
abbrev BB:Stmt:=top 38
abbrev Iz:List Str:=["grove","square","bare","place","quarter","part_place","part"]
abbrev Cb:List Str:=["grove","square"]
theorem Bu:Ar Iz Cb (Ae BB):=⟨rfl,rfl,rfl,by decide +kernel,rfl,by decide +kernel,by decide +kernel⟩
abbrev BU:Stmt:=top 39
abbrev JL:List Str:=["grove","field","box","wide"]
abbrev BZ:List Str:=["grove","field","box"]
theorem Ee:Ar JL BZ (Ae BU):=⟨rfl,rfl,rfl,by decide +kernel,rfl,by decide +kernel,by decide +kernel⟩
abbrev EH:Stmt:=top 41
abbrev Sv:List Str:=["grove","field","box","state","has_places","wide","solid"]
abbrev FZ:List Str:=["grove","field","box","state"]
theorem Dk:Ar Sv FZ (Ae EH):=⟨rfl,rfl,rfl,by decide +kernel,rfl,by decide +kernel,by decide +kernel⟩
abbrev Dm:Stmt:=top 42
abbrev NQ:List Str:=["box"]
abbrev Dp:List Str:=["box"]
theorem Mw:Ar NQ Dp (Ae Dm):=⟨rfl,rfl,rfl,by decide +kernel,rfl,by decide +kernel,by decide +kernel⟩
abbrev Et:Stmt:=top 43
abbrev QC:List Str:=["grove","field","box","reach","left","top","size"]
abbrev Ew:List Str:=["grove","field","box"]
theorem EE:Ar QC Ew (Ae Et):=⟨rfl,rfl,rfl,by decide +kernel,rfl,by decide +kernel,by decide +kernel⟩
abbrev Fw:Stmt:=top 44
abbrev iI:List Str:=["grove","inner","outer","part","known","size","key","square"]
abbrev Em:List Str:=["grove","inner","outer","part","known"]
theorem Fe:Ar iI Em (Ae Fw):=⟨rfl,rfl,rfl,by decide +kernel,rfl,by decide +kernel,by decide +kernel⟩
abbrev Bk:Stmt:=top 45
abbrev Iy:List Str:=["grove","key","half","known","inners","outers","part","columns","rows","made","place","column","row","quarter_part"]
abbrev Ca:List Str:=["grove","key","half","known"]
theorem AF:Ar Iy Ca (Ae Bk):=⟨rfl,rfl,rfl,by decide +kernel,rfl,by decide +kernel,by decide +kernel⟩
abbrev BL:Stmt:=top 46
abbrev Jc:List Str:=["start","stop","half"]
abbrev BP:List Str:=["start","stop","half"]
theorem Ip:Ar Jc BP (Ae BL):=⟨rfl,rfl,rfl,by decide +kernel,rfl,by decide +kernel,by decide +kernel⟩
abbrev Dl:Stmt:=top 53
abbrev NP:List Str:=["text","runs","figures","sign"]
abbrev DZ:List Str:=["text"]
theorem CG:Ar NP DZ (Ae Dl):=⟨rfl,rfl,rfl,by decide +kernel,rfl,by decide +kernel,by decide +kernel⟩
abbrev Cn:Stmt:=top 54
abbrev Ls:List Str:=["figures"]
abbrev CZ:List Str:=["figures"]
theorem JA:Ar Ls CZ (Ae Cn):=⟨rfl,rfl,rfl,by decide +kernel,rfl,by decide +kernel,by decide +kernel⟩
abbrev BV:Stmt:=top 57
abbrev JM:List Str:=["grove","text","parts","place","x","y"]
abbrev CB:List Str:=["grove","text"]
theorem Cj:Ar JM CB (Ae BV):=⟨rfl,rfl,rfl,by decide +kernel,rfl,by decide +kernel,by decide +kernel⟩
abbrev CI:Stmt:=top 58
abbrev MM:List Str:=["word","number"]
abbrev DC:List Str:=["word"]
theorem GC:Ar MM DC (Ae CI):=⟨rfl,rfl,rfl,by decide +kernel,rfl,by decide +kernel,by decide +kernel⟩
abbrev BM:Stmt:=top 59
abbrev Jd:List Str:=["grove","x","y","runs","field","right","down","amount","sign"]
abbrev Df:List Str:=["grove","x","y","runs"]
theorem AK:Ar Jd Df (Ae BM):=⟨rfl,rfl,rfl,by decide +kernel,rfl,by decide +kernel,by decide +kernel⟩
abbrev Eu:Stmt:=top 61
abbrev QD:List Str:=["_law_script","_law_k"]
abbrev Fk:List Str:=["_law_script","_law_k"]
theorem OC:Ar QD Fk (Ae Eu):=⟨rfl,rfl,rfl,by decide +kernel,rfl,by decide +kernel,by decide +kernel⟩
abbrev CK:Stmt:=top 62
abbrev MO:List Str:=["_law_found"]
abbrev DE:List Str:=["_law_found"]
theorem Lp:Ar MO DE (Ae CK):=⟨rfl,rfl,rfl,by decide +kernel,rfl,by decide +kernel,by decide +kernel⟩
abbrev DS:Stmt:=top 63
abbrev OK:List Str:=["_law_cell","_law_k","_law_value"]
abbrev DU:List Str:=["_law_cell","_law_k"]
theorem FW:Ar OK DU (Ae DS):=⟨rfl,rfl,rfl,by decide +kernel,rfl,by decide +kernel,by decide +kernel⟩
abbrev Do:Stmt:=top 64
abbrev NS:List Str:=["_law_cell"]
abbrev Ec:List Str:=["_law_cell"]
theorem Mx:Ar NS Ec (Ae Do):=⟨rfl,rfl,rfl,by decide +kernel,rfl,by decide +kernel,by decide +kernel⟩
abbrev CL:Stmt:=top 65
abbrev MP:List Str:=["_law_cell","_law_k","_law_bits_here"]
abbrev DF:List Str:=["_law_cell","_law_k","_law_bits_here"]
theorem Lq:Ar MP DF (Ae CL):=⟨rfl,rfl,rfl,by decide +kernel,rfl,by decide +kernel,by decide +kernel⟩
abbrev Cd:Stmt:=top 66
abbrev Ic:List Str:=["_law_grove","_law_square","_law_known"]
abbrev Bw:List Str:=["_law_grove","_law_square","_law_known"]
theorem GD:Ar Ic Bw (Ae Cd):=⟨rfl,rfl,rfl,by decide +kernel,rfl,by decide +kernel,by decide +kernel⟩
abbrev BO:Stmt:=top 67
abbrev Jf:List Str:=["_law_grove","_law_field","_law_known","_law_outer","_law_k","_law_quarter","_law_j","_law_part"]
abbrev Cm:List Str:=["_law_grove","_law_field","_law_known"]
theorem Bj:Ar Jf Cm (Ae BO):=⟨rfl,rfl,rfl,by decide +kernel,rfl,by decide +kernel,by decide +kernel⟩
abbrev Cp:Stmt:=top 68
abbrev Lw:List Str:=["_law_grove","_law_square","_law_x","_law_y","_law_known","_law_level","_law_half","_law_cells","_law_k","_law_one"]
abbrev BT:List Str:=["_law_grove","_law_square","_law_x","_law_y","_law_known"]
theorem Bq:Ar Lw BT (Ae Cp):=⟨rfl,rfl,rfl,by decide +kernel,rfl,by decide +kernel,by decide +kernel⟩
abbrev Cq:Stmt:=top 69
abbrev Lx:List Str:=["_law_grove","_law_field","_law_known","_law_half"]
abbrev Db:List Str:=["_law_grove","_law_field"]
theorem EG:Ar Lx Db (Ae Cq):=⟨rfl,rfl,rfl,by decide +kernel,rfl,by decide +kernel,by decide +kernel⟩
abbrev Cr:Stmt:=top 70
abbrev Ly:List Str:=["_law_cell","_law_k","_law_value","_law_amount"]
abbrev Dc:List Str:=["_law_cell","_law_k"]
theorem Du:Ar Ly Dc (Ae Cr):=⟨rfl,rfl,rfl,by decide +kernel,rfl,by decide +kernel,by decide +kernel⟩
abbrev BN:Stmt:=top 71
abbrev Je:List Str:=["_law_run"]
abbrev Cl:List Str:=["_law_run"]
theorem Iq:Ar Je Cl (Ae BN):=⟨rfl,rfl,rfl,by decide +kernel,rfl,by decide +kernel,by decide +kernel⟩
abbrev Dh:Stmt:=top 72
abbrev JO:List Str:=["_law_left","_law_top","_law_runs","_law_due_here","_law_x","_law_y","_law_amount","_law_sign"]
abbrev EJ:List Str:=["_law_left","_law_top","_law_runs"]
theorem Bz:Ar JO EJ (Ae Dh):=⟨rfl,rfl,rfl,by decide +kernel,rfl,by decide +kernel,by decide +kernel⟩
abbrev Cs:Stmt:=top 73
abbrev Lz:List Str:=["_law_cells","_law_y","_law_x","_law_state"]
abbrev Dd:List Str:=["_law_cells"]
theorem Dv:Ar Lz Dd (Ae Cs):=⟨rfl,rfl,rfl,by decide +kernel,rfl,by decide +kernel,by decide +kernel⟩
abbrev Dn:Stmt:=top 74
abbrev NR:List Str:=["_law_e","_law_kinds","_law_words"]
abbrev Eb:List Str:=["_law_e"]
theorem Cc:Ar NR Eb (Ae Dn):=⟨rfl,rfl,rfl,by decide +kernel,rfl,by decide +kernel,by decide +kernel⟩
abbrev BW:Stmt:=top 75
abbrev JN:List Str:=["_law_grove","_law_text","_law_e"]
abbrev CC:List Str:=["_law_grove","_law_text"]
theorem FR:Ar JN CC (Ae BW):=⟨rfl,rfl,rfl,by decide +kernel,rfl,by decide +kernel,by decide +kernel⟩
abbrev FX:Stmt:=top 76
abbrev Su:List Str:=["_law_script","_law_bits_here","_law_left","_law_top","_law_runs","_law_k","_law_text","_law_due_here","_law_grove","_law_found","_law_other"]
abbrev p_law:List Str:=["_law_script"]
theorem EF:Ar Su p_law (Ae FX):=⟨rfl,rfl,rfl,by decide +kernel,rfl,by decide +kernel,by decide +kernel⟩
abbrev CO:Stmt:=Ep (top 28) 0
abbrev MS:List Str:=["self","state","level","bare"]
abbrev DH:List Str:=["self"]
theorem DY:Ar MS DH (Ae CO):=⟨rfl,rfl,rfl,by decide +kernel,rfl,by decide +kernel,by decide +kernel⟩
abbrev CN:Stmt:=Ep (top 28) 1
abbrev MR:List Str:=["self","parts","level","number"]
abbrev CS:List Str:=["self","parts","level"]
theorem GE:Ar MR CS (Ae CN):=⟨rfl,rfl,rfl,by decide +kernel,rfl,by decide +kernel,by decide +kernel⟩
abbrev BX:Stmt:=Ep (top 28) 2
abbrev JP:List Str:=["self","parts","number"]
abbrev Bf:List Str:=["self","parts"]
theorem FT:Ar JP Bf (Ae BX):=⟨rfl,rfl,rfl,by decide +kernel,rfl,by decide +kernel,by decide +kernel⟩
abbrev AV:Stmt:=Ep (top 28) 3
abbrev Gc:List Str:=["self","square"]
abbrev Br:List Str:=["self","square"]
theorem FV:Ar Gc Br (Ae AV):=⟨rfl,rfl,rfl,by decide +kernel,rfl,by decide +kernel,by decide +kernel⟩
abbrev CM:Stmt:=Ep (top 28) 4
abbrev MQ:List Str:=["self","state"]
abbrev DG:List Str:=["self","state"]
theorem Lr:Ar MQ DG (Ae CM):=⟨rfl,rfl,rfl,by decide +kernel,rfl,by decide +kernel,by decide +kernel⟩
abbrev Ct:Stmt:=Ep (top 28) 6
abbrev LA:List Str:=["self","level","state","square","below"]
abbrev Cu:List Str:=["self","level","state"]
theorem Dw:Ar LA Cu (Ae Ct):=⟨rfl,rfl,rfl,by decide +kernel,rfl,by decide +kernel,by decide +kernel⟩
abbrev BE:Stmt:=Ep (top 28) 7
abbrev IC:List Str:=["self","square"]
abbrev AB:List Str:=["self","square"]
theorem GU:Ar IC AB (Ae BE):=⟨rfl,rfl,rfl,by decide +kernel,rfl,by decide +kernel,by decide +kernel⟩
abbrev BD:Stmt:=Ep (top 28) 8
abbrev IB:List Str:=["self","square"]
abbrev Bl:List Str:=["self","square"]
theorem GT:Ar IB Bl (Ae BD):=⟨rfl,rfl,rfl,by decide +kernel,rfl,by decide +kernel,by decide +kernel⟩
abbrev BC:Stmt:=Ep (top 28) 9
abbrev IA:List Str:=["self","square"]
abbrev BF:List Str:=["self","square"]
theorem GS:Ar IA BF (Ae BC):=⟨rfl,rfl,rfl,by decide +kernel,rfl,by decide +kernel,by decide +kernel⟩
structure Ad where
 c_Grove:Addr
 x_FieldError:Addr
 x_NoNumber:Addr
 x_NoRule:Addr
 x_Restless:Addr
 x_NoSquare:Addr
 x_NoLevel:Addr
 x_NoState:Addr
 x_NoBox:Addr
 x_TooFar:Addr
 x_TooMany:Addr
 x_NoSteps:Addr
 x_NoPattern:Addr
 x_NoName:Addr
 x_NoRow:Addr
structure Top (K:PySem.W.Frag) (mg:Str->Option Value) (a:Ad):Prop where
 b_abs:mg "abs" = none
 b_all:mg "all" = none
 b_bool:mg "bool" = none
 b_enumerate:mg "enumerate" = none
 b_int:mg "int" = none
 b_isinstance:mg "isinstance" = none
 b_len:mg "len" = none
 b_max:mg "max" = none
 b_min:mg "min" = none
 b_range:mg "range" = none
 b_sorted:mg "sorted" = none
 b_str:mg "str" = none
 b_sum:mg "sum" = none
 b_tuple:mg "tuple" = none
 k_FIGURES:∃ t,mg "FIGURES" = some (.str (Str.ofString "0123456789") t)
 k_MOST_FIGURES:∃ t,mg "MOST_FIGURES" = some (.int 30 t)
 k_STATES:∃ t,mg "STATES" = some (.int 8 t)
 k_TOP_LEVEL:∃ t,mg "TOP_LEVEL" = some (.int 48 t)
 k_LIMIT:∃ t,mg "LIMIT" = some (.int 1099511627776 t)
 k_LEAST_LEVEL:∃ t,mg "LEAST_LEVEL" = some (.int 1 t)
 k_BLANK_SIGN:∃ t,mg "BLANK_SIGN" = some (.str (Str.ofString ".") t)
 k_ROW_SIGN:∃ t,mg "ROW_SIGN" = some (.str (Str.ofString "/") t)
 k_STATE_SIGNS:∃ t,mg "STATE_SIGNS" = some (.str (Str.ofString ".ABCDEFG") t)
 k_RUN_SIGNS:∃ t,mg "RUN_SIGNS" = some (.str (Str.ofString ".ABCDEFG/") t)
 k_MOST_AMOUNT_FIGURES:∃ t,mg "MOST_AMOUNT_FIGURES" = some (.int 13 t)
 k_MOST_PLACE:∃ t,mg "MOST_PLACE" = some (.int 9999999999999 t)
 m_Grove:mg "Grove" = some (.ref a.c_Grove)
 cl_Grove:Cls K a.c_Grove
 na_Grove_levels:Ei K a.c_Grove "levels"
 na_Grove_parts:Ei K a.c_Grove "parts"
 na_Grove_numbers:Ei K a.c_Grove "numbers"
 na_Grove_bares:Ei K a.c_Grove "bares"
 na_Grove_amounts:Ei K a.c_Grove "amounts"
 na_Grove_boxes:Ei K a.c_Grove "boxes"
 b_ValueError:mg "ValueError" = none
 mx_FieldError:mg "FieldError" = some (.ref a.x_FieldError)
 mx_NoNumber:mg "NoNumber" = some (.ref a.x_NoNumber)
 mx_NoRule:mg "NoRule" = some (.ref a.x_NoRule)
 mx_Restless:mg "Restless" = some (.ref a.x_Restless)
 mx_NoSquare:mg "NoSquare" = some (.ref a.x_NoSquare)
 mx_NoLevel:mg "NoLevel" = some (.ref a.x_NoLevel)
 mx_NoState:mg "NoState" = some (.ref a.x_NoState)
 mx_NoBox:mg "NoBox" = some (.ref a.x_NoBox)
 mx_TooFar:mg "TooFar" = some (.ref a.x_TooFar)
 mx_TooMany:mg "TooMany" = some (.ref a.x_TooMany)
 mx_NoSteps:mg "NoSteps" = some (.ref a.x_NoSteps)
 mx_NoPattern:mg "NoPattern" = some (.ref a.x_NoPattern)
 mx_NoName:mg "NoName" = some (.ref a.x_NoName)
 mx_NoRow:mg "NoRow" = some (.ref a.x_NoRow)
 ec_TooFar:Gz K a.x_TooFar
 ec_NoNumber:Gz K a.x_NoNumber
 ec_FieldError:Gz K a.x_FieldError
 ef_TooFar:Pi K a.x_TooFar
 mr_TooFar:PySem.W.mroIn K a.x_TooFar (.ref a.x_FieldError)=some true
 kv_TooFar:PySem.W.kitOne K (.ref a.x_TooFar) (.type "ValueError")=some true
 ki_TooFar_NoNumber:PySem.W.kitOne K (.ref a.x_TooFar) (.ref a.x_NoNumber)=some false
 ki_TooFar_NoRule:PySem.W.kitOne K (.ref a.x_TooFar) (.ref a.x_NoRule)=some false
 ki_TooFar_Restless:PySem.W.kitOne K (.ref a.x_TooFar) (.ref a.x_Restless)=some false
 ki_TooFar_NoSquare:PySem.W.kitOne K (.ref a.x_TooFar) (.ref a.x_NoSquare)=some false
 ki_TooFar_NoLevel:PySem.W.kitOne K (.ref a.x_TooFar) (.ref a.x_NoLevel)=some false
 ki_TooFar_NoState:PySem.W.kitOne K (.ref a.x_TooFar) (.ref a.x_NoState)=some false
 ki_TooFar_NoBox:PySem.W.kitOne K (.ref a.x_TooFar) (.ref a.x_NoBox)=some false
 ki_TooFar_TooFar:PySem.W.kitOne K (.ref a.x_TooFar) (.ref a.x_TooFar)=some true
 ki_TooFar_TooMany:PySem.W.kitOne K (.ref a.x_TooFar) (.ref a.x_TooMany)=some false
 ki_TooFar_NoSteps:PySem.W.kitOne K (.ref a.x_TooFar) (.ref a.x_NoSteps)=some false
 ki_TooFar_NoPattern:PySem.W.kitOne K (.ref a.x_TooFar) (.ref a.x_NoPattern)=some false
 ki_TooFar_NoName:PySem.W.kitOne K (.ref a.x_TooFar) (.ref a.x_NoName)=some false
 ki_TooFar_NoRow:PySem.W.kitOne K (.ref a.x_TooFar) (.ref a.x_NoRow)=some false
end J
namespace J
open PySem L2
structure Sq where
 parts:List Int
 lev:Int
abbrev Gv:=List Sq
structure GA where
 p:Addr
 dx:Addr
 lv:Addr
 pt:Addr
 nm:Addr
 br:Addr
 am:Addr
 bx:Addr
def fl6 (g:GA):List (Str×V):=Bs "boxes" (.ref g.bx) (Bs "amounts" (.ref g.am) (Bs "bares" (.ref g.br) (Bs "numbers" (.ref g.nm) (Bs "parts" (.ref g.pt) (Bs "levels" (.ref g.lv) [])))))
theorem Gh (g:GA):(fl6 g).lookup ("levels" : Str)=some (V.ref g.lv):=by
 unfold fl6;rw [At,if_neg (by decide +kernel),At,if_neg (by decide +kernel),At,if_neg (by decide +kernel),At,if_neg (by decide +kernel),At,if_neg (by decide +kernel),At,if_pos rfl]
theorem FJ (g:GA):(fl6 g).lookup ("parts" : Str)=some (V.ref g.pt):=by
 unfold fl6;rw [At,if_neg (by decide +kernel),At,if_neg (by decide +kernel),At,if_neg (by decide +kernel),At,if_neg (by decide +kernel),At,if_pos rfl]
theorem SW (g:GA):(fl6 g).lookup ("numbers" : Str)=some (V.ref g.nm):=by
 unfold fl6;rw [At,if_neg (by decide +kernel),At,if_neg (by decide +kernel),At,if_neg (by decide +kernel),At,if_pos rfl]
theorem La (g:GA):(fl6 g).lookup ("bares" : Str)=some (V.ref g.br):=by
 unfold fl6;rw [At,if_neg (by decide +kernel),At,if_neg (by decide +kernel),At,if_pos rfl]
theorem fl6_am (g:GA):(fl6 g).lookup ("amounts" : Str)=some (V.ref g.am):=by
 unfold fl6;rw [At,if_neg (by decide +kernel),At,if_pos rfl]
theorem Gg (g:GA) {m:Str} (h1:¬ m=("boxes" : Str)) (h2:¬ m=("amounts" : Str)) (h3:¬ m=("bares" : Str)) (h4:¬ m=("numbers" : Str)) (h5:¬ m=("parts" : Str)) (h6:¬ m=("levels" : Str)):(fl6 g).lookup m=none:=by
 unfold fl6;rw [At,if_neg h1,At,if_neg h2,At,if_neg h3,At,if_neg h4,At,if_neg h5,At,if_neg h6];rfl
theorem MD (g:GA):(fl6 g).lookup ("kept" : Str)=none:=Gg g (by decide +kernel) (by decide +kernel) (by decide +kernel) (by decide +kernel) (by decide +kernel) (by decide +kernel)
theorem Dq (g:GA):(fl6 g).lookup ("linked" : Str)=none:=Gg g (by decide +kernel) (by decide +kernel) (by decide +kernel) (by decide +kernel) (by decide +kernel) (by decide +kernel)
theorem Ss (g:GA):(fl6 g).lookup ("check_square" : Str)=none:=Gg g (by decide +kernel) (by decide +kernel) (by decide +kernel) (by decide +kernel) (by decide +kernel) (by decide +kernel)
theorem no_leaf (g:GA):(fl6 g).lookup ("leaf" : Str)=none:=Gg g (by decide +kernel) (by decide +kernel) (by decide +kernel) (by decide +kernel) (by decide +kernel) (by decide +kernel)
theorem BI (g:GA):(fl6 g).lookup ("level_of" : Str)=none:=Gg g (by decide +kernel) (by decide +kernel) (by decide +kernel) (by decide +kernel) (by decide +kernel) (by decide +kernel)
theorem Sr (g:GA):(fl6 g).lookup ("solid" : Str)=none:=Gg g (by decide +kernel) (by decide +kernel) (by decide +kernel) (by decide +kernel) (by decide +kernel) (by decide +kernel)
theorem ET (g:GA):(fl6 g).lookup ("quarters" : Str)=none:=Gg g (by decide +kernel) (by decide +kernel) (by decide +kernel) (by decide +kernel) (by decide +kernel) (by decide +kernel)
theorem JJ (g:GA):(fl6 g).lookup ("state_of" : Str)=none:=Gg g (by decide +kernel) (by decide +kernel) (by decide +kernel) (by decide +kernel) (by decide +kernel) (by decide +kernel)
def kOf (ps:List Int):List Key:=ps.map Sum.inl
theorem kOf_v (ps:List Int):(kOf ps).map kV=ps.map V.int:=by unfold kOf; rw [List.map_map]; rfl
theorem PF:∀ {ps qs:List Int},kOf ps=kOf qs->ps=qs
 | [],[],_=>rfl
 | [],_ :: _,h=>by cases h
 | _ :: _,[],h=>by cases h
 | x :: r,y :: t,h=>by
  have h:Sum.inl x :: kOf r=(Sum.inl y:Key) :: kOf t:=h;injection h with h1 h2
  injection h1 with h1
  rw [h1,PF h2]
def Ge:Nat->Gv->List (List Key×V)
 | _,[]=>[]
 | n,q :: r=>(kOf q.parts,.int (n:Int)) :: Ge (n+1) r
theorem NW:∀ (G:Gv) (n:Nat),(Ge n G).length=G.length
 | [],_=>rfl
 | q :: r,n=>by show (Ge (n+1) r).length+1=r.length+1; rw [NW r]
theorem LR (q:Sq):∀ (G:Gv) (n:Nat),Ge n (G ++ [q])=Ge n G ++ [(kOf q.parts,.int ((n+G.length:Nat):Int))]
 | [],_=>rfl
 | p :: r,n=>by
  show (kOf p.parts,V.int (n:Int)) :: Ge (n+1) (r ++ [q])=_;rw [LR q r (n+1)];show _=(kOf p.parts,V.int (n:Int)) :: (Ge (n+1) r ++ [(kOf q.parts,V.int ((n+(r.length+1):Nat):Int))]);rw [show n+1+r.length=n+(r.length+1) by lia]
theorem MU (ps:List Int):∀ (G:Gv) (n:Nat),(∃ (i:Nat) (q:Sq),G[i]?=some q/\q.parts=ps/\BH (Ge n G) (kOf ps)=some (.int ((n+i:Nat):Int)))\/(BH (Ge n G) (kOf ps)=none/\∀ q ∈ G,q.parts≠ps)
 | [],n=>.inr ⟨rfl,fun q hq=>by simp at hq⟩
 | p :: r,n=>by
  by_cases e:p.parts=ps
  ·exact .inl ⟨0,p,rfl,e,BG (by rw [e])⟩
  ·have ne:¬ (kOf p.parts,V.int (n:Int)).1=kOf ps:=fun z=>e (PF z);rcases MU ps r (n+1) with ⟨i,q,h1,h2,h3⟩ | ⟨h1,h2⟩
   ·refine .inl ⟨i+1,q,h1,h2,?_⟩;show BH ((kOf p.parts,V.int (n:Int)) :: Ge (n+1) r) (kOf ps)=_;rw [Bh ne,h3,show n+1+i=n+(i+1) by lia]
   ·refine .inr ⟨?_,fun q hq=>?_⟩
    ·show BH ((kOf p.parts,V.int (n:Int)) :: Ge (n+1) r) (kOf ps)=_;rw [Bh ne,h1]
    ·rcases List.mem_cons.mp hq with rfl | hq
     ·exact e
     ·exact h2 q hq
def TupAt (H:Hp) (t:Addr) (q:Sq):Prop:=H t=some (.tup (q.parts.map V.int))
structure AN (a:Ad) (H:Hp) (g:GA) (G:Gv):Prop where
 hp:H g.p=some (.ins a.c_Grove g.dx (fl6 g))
 lv:H g.lv=some (.lst (G.map fun q=>.int q.lev))
 pt:∃ ts:List Addr,H g.pt=some (.lst (ts.map V.ref))/\Paired (TupAt H) ts G
 nm:H g.nm=some (.dT (Ge 0 G))
 ne:g.lv≠g.pt
def Fr (g:GA) (H H':Hp):Prop:=∀ b o,H b=some o->b≠g.lv->b≠g.pt->b≠g.nm->H' b=some o
theorem Fr.refl (g:GA) (H:Hp):Fr g H H:=fun _ _ e _ _ _=>e
theorem Fr.trans {g:GA} {H1 H2 H3:Hp} (h:Fr g H1 H2) (h2:Fr g H2 H3):Fr g H1 H3:=fun b o e n1 n2 n3=>h2 b o (h b o e n1 n2 n3) n1 n2 n3
theorem AE.fr {g:GA} {H1 H2:Hp} (h:AE H1 H2):Fr g H1 H2:=fun b o e _ _ _=>h b o e
theorem PairedM.imp {α β:Type} {F G:α->β->Prop} (h:∀ x y,F x y->G x y):∀ {l:List α} {m:List β},Paired F l m->Paired G l m
 | _,_,.nil=>.nil
 | _,_,.cons r t=>.cons (h _ _ r) (PairedM.imp h t)
theorem PairedM.get {α β:Type} {F:α->β->Prop}:∀ {l:List α} {m:List β} {i:Nat} {y:β},Paired F l m->m[i]?=some y->∃ x,l[i]?=some x/\F x y
 | _,_,_,_,.nil,e=>by simp at e
 | _,_,0,_,.cons r _,e=>by simp at e; subst e; exact ⟨_,rfl,r⟩
 | _,_,i+1,y,.cons _ t,e=>by
  obtain ⟨x,h1,h2⟩:=PairedM.get (i:=i) (y:=y) t (by simpa using e);exact ⟨x,by simpa using h1,h2⟩
theorem Ak {H:Hp} {p:Addr} {o:HO} (h:H p=none):AE H (upd H p o):=fun b u e=>by
 rw [Az (As e h)];exact e
theorem AN.same {a:Ad} {H H':Hp} {g:GA} {G:Gv} (s:AE H H') (h:AN a H g G):AN a H' g G:=by
 obtain ⟨h1,h2,⟨ts,h3,h4⟩,h5,h6⟩:=h;exact ⟨s _ _ h1,s _ _ h2,⟨ts,s _ _ h3,PairedM.imp (fun t q z=>s _ _ z) h4⟩,s _ _ h5,h6⟩
theorem AN.put {a:Ad} {H:Hp} {g:GA} {G:Gv} {l:Addr} {xs:List V} {o:HO} (hl:H l=some (.lst xs)) (n1:l≠g.lv) (n2:l≠g.pt) (h:AN a H g G):AN a (upd H l o) g G:=by
 obtain ⟨h1,h2,⟨ts,h3,h4⟩,h5,h6⟩:=h;have other:∀ {b v},H b=some v->v≠.lst xs->upd H l o b=some v:=fun {b v} e n=>by rw [Az (AR e hl n)]; exact e
 exact ⟨other h1 (by intro z; cases z),by rw [Az (Ne.symm n1)]; exact h2,⟨ts,by rw [Az (Ne.symm n2)]; exact h3,PairedM.imp (fun t q z=>other z (by intro z; cases z)) h4⟩,other h5 (by intro z; cases z),h6⟩
def Al (G:Gv) (x:Nat) (l:Int):Prop:=∃ q,G[x]?=some q/\q.lev=l
structure GOk (G:Gv):Prop where
 leaf:∀ s:Nat,s < 8->G[s]?=some ⟨[(s:Int)],0⟩
 node:∀ (i:Nat) q,G[i]?=some q->8<=i->∃ x y z w:Nat,q.parts=[(x:Int),(y:Int),(z:Int),(w:Int)]/\(Al G x (q.lev - 1)/\Al G y (q.lev - 1)/\Al G z (q.lev - 1)/\Al G w (q.lev - 1))/\1<=q.lev/\q.lev<=48
 nd:(G.map Sq.parts).Nodup
theorem Al.lt {G:Gv} {x:Nat} {l:Int} (h:Al G x l):x < G.length:=by
 obtain ⟨q,h,_⟩:=h;exact (List.getElem?_eq_some_iff.mp h).1
theorem Ju {G r:Gv} {x:Nat} {q:Sq} (h:G[x]?=some q):(G ++ r)[x]?=some q:=by
 rw [List.getElem?_append_left (List.getElem?_eq_some_iff.mp h).1];exact h
theorem Al.app {G r:Gv} {x:Nat} {l:Int} (h:Al G x l):Al (G ++ r) x l:=by
 obtain ⟨q,h,e⟩:=h;exact ⟨q,Ju h,e⟩
theorem GOk.lev {G:Gv} (h:GOk G) {i:Nat} {q:Sq} (e:G[i]?=some q):0<=q.lev/\q.lev<=48:=by
 by_cases h8:i < 8
 ·rw [h.leaf i h8] at e;cases e;exact ⟨Int.le_refl 0,by show (0:Int)<=48; decide⟩
 ·obtain ⟨x,y,z,w,_,_,h1,h2⟩:=h.node i q e (by lia);exact ⟨by lia,h2⟩
theorem GOk.snoc {G:Gv} (h:GOk G) {x y z w:Nat} {l:Int} (hx:Al G x l) (hy:Al G y l) (hz:Al G z l) (hw:Al G w l) (h47:l<=47) (new:∀ q ∈ G,q.parts≠[(x:Int),(y:Int),(z:Int),(w:Int)]):GOk (G ++ [⟨[(x:Int),(y:Int),(z:Int),(w:Int)],l+1⟩]) where
 leaf:=fun s hs=>Ju (h.leaf s hs)
 node:=fun i q e hi=>by
  by_cases hl:i < G.length
  ·rw [List.getElem?_append_left hl] at e;obtain ⟨x,y,z,w,h1,⟨a1,a2,a3,a4⟩,h3⟩:=h.node i q e hi;exact ⟨x,y,z,w,h1,⟨a1.app,a2.app,a3.app,a4.app⟩,h3⟩
  ·rw [List.getElem?_append_right (by lia)] at e;have:i - G.length=0:=by
    by_cases z:i - G.length=0
    ·exact z
    ·rw [List.getElem?_eq_none (by rw [List.length_singleton]; lia)] at e; cases e
   rw [this] at e;cases e;obtain ⟨q0,e0,l0⟩:=hx;have:=(h.lev e0).1;have el:l+1 - 1=l:=by lia
   refine ⟨x,y,z,w,rfl,?_,?_,?_⟩
   ·show Al _ x (l+1 - 1)/\Al _ y (l+1 - 1)/\Al _ z (l+1 - 1)/\Al _ w (l+1 - 1);rw [el];exact ⟨Al.app ⟨q0,e0,l0⟩,hy.app,hz.app,hw.app⟩
   ·show 1<=l+1; lia
   ·show l+1<=48; lia
 nd:=by
  rw [List.map_append,List.nodup_append];refine ⟨h.nd,by simp,fun p hp p' hp'=>?_⟩;obtain ⟨q,hq,rfl⟩:=List.mem_map.mp hp;rw [show p'=[(x:Int),(y:Int),(z:Int),(w:Int)] by simpa using hp'];exact new q hq
theorem GOk.one {G:Gv} (h:GOk G) {i j:Nat} {p q:Sq} (hi:G[i]?=some p) (hj:G[j]?=some q) (e:p.parts=q.parts):i=j:=by
 have li:=(List.getElem?_eq_some_iff.mp hi).1;have lj:=(List.getElem?_eq_some_iff.mp hj).1;have h1:(G.map Sq.parts)[i]'(by rw [List.length_map]; exact li)=(G.map Sq.parts)[j]'(by rw [List.length_map]; exact lj):=by
  rw [List.getElem_map,List.getElem_map,(List.getElem?_eq_some_iff.mp hi).2,(List.getElem?_eq_some_iff.mp hj).2,e]
 exact (List.getElem_inj h.nd).mp h1
end J
namespace J
open PySem L2
seal L2.PA L2.PE L2.PS L2.PSs L2.PT L2.PW
theorem GG {n:Nat} (h:n<=10000000):n<=sizeLine:=Nat.le_trans h (by decide)
theorem Ed {n:Nat} (h:n < 10000000):n < sizeLine:=Nat.lt_of_lt_of_le h (by decide)
theorem PD (K:PySem.W.Frag):PySem.W.kitOne K (.type "int") (.type "int")=some true/\PySem.W.kitOne K (.type "int") (.type "bool")=some false:=⟨by kernel_rfl,by kernel_rfl⟩
section
variable {P:Program} {w:World} {K:PySem.W.Frag} {mg:Str->Option Value} {base:Heap} {a:Ad}
inductive SpIW (vs:List V) (H:Hp) (Q:VK):Prop
 | mk (i:Int) (_:vs=[.int i]) (_:Q (.bl true) H):SpIW vs H Q
def RB:Sp:=fun vs H Q _=>SpIW vs H Q
theorem ok_iw {f:Addr} {fd:FuncData} (F:Fun K "is_whole" "is_whole" DQ f fd) (T:Top K mg a):AI P w K mg base CX0 1 f fd Di RB:=by
 refine F.ok NB (fun vs H Q E h=>?_) (fun cdv A outer s H vs Q E hr h=>?_)
 ·obtain ⟨i,rfl,_⟩:=h;rfl
 ·obtain ⟨i,rfl,k⟩:=h;exact ⟨_,(Af (Ao (FD (Av AU rfl T.b_isinstance PyProof.Rows.boot_isinstance (Aa (pv 0) (Aa (ES (v:=.ty "int") rfl T.b_int PyProof.Rows.boot_int rfl) Ac))) (GN (RS (Av AU rfl T.b_isinstance PyProof.Rows.boot_isinstance (Aa (pv 0) (Aa (ES (v:=.ty "bool") rfl T.b_bool PyProof.Rows.boot_bool rfl) Ac)))))))),_,rfl,_,_,_,.type "int",true,rfl,rfl,.of (.int i),(PD K).1,true,rfl,Cg ⟨_,rfl,_,_,_,.type "int",false,rfl,rfl,.of (.int i),(PD K).2,false,rfl,k⟩⟩
inductive SpIS (vs:List V) (H:Hp) (Q:VK):Prop
 | mk (i:Int) (_:vs=[.int i]) (_:0<=i) (_:i < 8) (_:Q (.bl true) H):SpIS vs H Q
def RC:Sp:=fun vs H Q _=>SpIS vs H Q
theorem ok_is {f:Addr} {fd:FuncData} (F:Fun K "is_state" "is_state" DR f fd) (T:Top K mg a) (aK:Cal P w K mg base CX0 1 "is_whole" Di RB):AI P w K mg base CX0 2 f fd Dj RC:=by
 refine F.ok NC (fun vs H Q E h=>?_) (fun cdv A outer s H vs Q E hr h=>?_)
 ·obtain ⟨i,rfl,_⟩:=h;rfl
 ·obtain ⟨i,rfl,h0,h1,k⟩:=h;refine ⟨_,(Af (Ao (FD (Ap aK (rm hr) rfl Am (Aa (pv 0) Ac)) (GN (RY IO GX Ag (pv 0) (Cw rfl T.k_STATES)))))),?_⟩
  try dsimp only [cxK]
  refine ⟨_,rfl,i,rfl,true,rfl,Cg ⟨_,rfl,_,_,rfl,rfl,_,rfl,?_⟩⟩;rw [decide_eq_true h0];refine Cg ⟨_,_,rfl,rfl,?_⟩;show Q (.bl (decide (i < 8))) H;rw [decide_eq_true h1];exact k
inductive Ts (a:Ad) (vs:List V) (H:Hp) (Q:VK):Prop
 | mk (g:GA) (G:Gv) (t:Addr) (ps:List Int) (l:Int) (_:vs=[.ref g.p,.ref t,.int l]) (_:AN a H g G) (_:H t=some (.tup (ps.map V.int))) (_:(∀ q ∈ G,q.parts≠ps)) (_:G.length < 9000000) (_:∀ H',Fr g H H'->AN a H' g (G ++ [⟨ps,l⟩])->Q (.int (G.length:Int)) H'):Ts a vs H Q
def Ms (a:Ad):Sp:=fun vs H Q _=>Ts a vs H Q
theorem ok_kept {f:Addr} {fd:FuncData} (F:Fun K "kept" "Grove.kept" CN f fd) (T:Top K mg a):AI P w K mg base CX0 1 f fd CS (Ms a):=by
 refine F.ok GE (fun vs H Q E h=>?_) (fun cdv A outer s H vs Q E hr h=>?_)
 ·obtain ⟨g,G,t,ps,l,rfl,_⟩:=h;rfl
 ·obtain ⟨g,G,t,ps,l,rfl,hg,ht,new,few,k⟩:=h;obtain ⟨h1,h2,⟨ts,h3,h4⟩,h5,h6⟩:=hg;have lt:ts.length=G.length:=Paired.length h4;refine ⟨_,(Ab (Aj (i:=3) GE.nd rfl (Or.inl rfl) (Av FO rfl T.b_len PySem.boot_len (Aa (Bv (pv 0) rfl) Ac))) (Ab (Jq (JW hr) (Bv (pv 0) rfl) (pv 1) (pv 3) rfl) (Ab (Dz (Fi PySem.F.plainAttrs_list PySem.F.slot_list_append PySem.F.type_list_append Ex (Bv (pv 0) rfl) (Aa (pv 2) Ac))) (Ab (Dz (Fi PySem.F.plainAttrs_list PySem.F.slot_list_append PySem.F.type_list_append Ex (Bv (pv 0) rfl) (Aa (pv 1) Ac))) (Af (Ao (pv 3))))))),?_⟩
  try dsimp only [cxK]
  refine ⟨_,rfl,g.p,_,g.dx,_,_,rfl,h1,T.cl_Grove,T.na_Grove_levels,Gh g,g.lv,_,rfl,.inl (SqL.of h2),?_⟩;rw [List.length_map];have ne1:g.p≠g.nm:=AR h1 h5 (by intro z; cases z);have ne2:g.lv≠g.nm:=AR h2 h5 (by intro z; cases z);have ne3:g.pt≠g.nm:=AR h3 h5 (by intro z; cases z);have ne4:g.p≠g.lv:=AR h1 h2 (by intro z; cases z);have ne5:g.p≠g.pt:=AR h1 h3 (by intro z; cases z);have vn:BH (Ge 0 G) (kOf ps)=none:=by
   rcases MU ps G 0 with ⟨i,q,e1,e2,_⟩ | ⟨e,_⟩
   ·exact absurd e2 (new q (List.mem_of_getElem? e1))
   ·exact e
  refine ⟨_,rfl,_,rfl,g.p,_,g.dx,_,_,rfl,h1,T.cl_Grove,T.na_Grove_numbers,SW g,_,rfl,g.nm,_,rfl,LE.t (k:=kOf ps) h5 (by rw [kOf_v]; exact ht) (by rw [NW]; exact Ed (by lia)),?_⟩;rw [GW _ vn];have e5:Ge 0 G ++ [(kOf ps,V.int (G.length:Int))]=Ge 0 (G ++ [⟨ps,l⟩]):=by rw [LR,Nat.zero_add]
  rw [e5];generalize hH1:upd H g.nm (.dT (Ge 0 (G ++ [⟨ps,l⟩])))=H1;have k1:∀ b o,H b=some o->b≠g.nm->H1 b=some o:=fun b o e n=>by rw [<-hH1,Az n]; exact e
  have n1:H1 g.nm=some (.dT (Ge 0 (G ++ [⟨ps,l⟩]))):=by rw [<-hH1]; exact Ah
  refine ⟨_,rfl,g.p,_,g.dx,_,_,rfl,k1 _ _ h1 ne1,T.cl_Grove,T.na_Grove_levels,Gh g,.inl ⟨rfl,_,SqL.of (k1 _ _ h2 ne2)⟩,_,rfl,g.lv,_,_,rfl,rfl,k1 _ _ h2 ne2,by rw [List.length_map]; exact Ed (by lia),?_⟩;generalize hH2:upd H1 g.lv (.lst ((G.map fun q=>V.int q.lev) ++ [.int l]))=H2;have k2:∀ b o,H1 b=some o->b≠g.lv->H2 b=some o:=fun b o e n=>by rw [<-hH2,Az n]; exact e
  have n2:H2 g.lv=some (.lst ((G ++ [(⟨ps,l⟩:Sq)]).map fun q=>V.int q.lev)):=by rw [<-hH2,Ah,List.map_append]; rfl
  have h3':=k2 _ _ (k1 _ _ h3 ne3) (Ne.symm h6);refine ⟨_,rfl,g.p,_,g.dx,_,_,rfl,k2 _ _ (k1 _ _ h1 ne1) ne4,T.cl_Grove,T.na_Grove_parts,FJ g,.inl ⟨rfl,_,SqL.of h3'⟩,_,rfl,g.pt,_,_,rfl,rfl,h3',by rw [List.length_map,lt]; exact Ed (by lia),?_⟩;generalize hH3:upd H2 g.pt (.lst (ts.map V.ref ++ [.ref t]))=H3;have k3:∀ b o,H2 b=some o->b≠g.pt->H3 b=some o:=fun b o e n=>by rw [<-hH3,Az n]; exact e
  have n3:H3 g.pt=some (.lst ((ts ++ [t]).map V.ref)):=by rw [<-hH3,Ah,List.map_append]; rfl
  have fr:Fr g H H3:=fun b o e m1 m2 m3=>k3 _ _ (k2 _ _ (k1 _ _ e m3) m1) m2;have tp:∀ (c:Addr) (xs:List V),H c=some (.tup xs)->H3 c=some (.tup xs):=fun c xs e=>fr _ _ e (AR e h2 (by intro z; cases z)) (AR e h3 (by intro z; cases z)) (AR e h5 (by intro z; cases z));refine ⟨_,rfl,k H3 fr ⟨fr _ _ h1 ne4 ne5 ne1,k3 _ _ n2 h6,⟨ts ++ [t],n3,Paired.snoc (PairedM.imp (fun c q z=>tp c _ z) h4) (tp t _ ht)⟩,k3 _ _ (k2 _ _ n1 (Ne.symm ne2)) (Ne.symm ne3),h6⟩⟩
structure AM (G G':Gv) (n:Nat):Prop where
 ok:GOk G'
 pre:∃ r,G'=G ++ r
 few:G'.length<=G.length+n
theorem AM.refl {G:Gv} (h:GOk G):AM G G 0:=⟨h,⟨[],by simp⟩,Nat.le_refl _⟩
theorem AM.trans {G G' G'':Gv} {n m:Nat} (h:AM G G' n) (h2:AM G' G'' m):AM G G'' (n+m):=by
 obtain ⟨r,e⟩:=h.pre;obtain ⟨t,e2⟩:=h2.pre;have f1:=h.few;have f2:=h2.few;exact ⟨h2.ok,⟨r ++ t,by rw [e2,e,List.append_assoc]⟩,by lia⟩
theorem AM.get {G G':Gv} {n x:Nat} {q:Sq} (h:AM G G' n) (e:G[x]?=some q):G'[x]?=some q:=by
 obtain ⟨r,e2⟩:=h.pre;rw [e2];exact Ju e
theorem AM.lev {G G':Gv} {n x:Nat} {l:Int} (h:AM G G' n) (e:Al G x l):Al G' x l:=by
 obtain ⟨q,e,z⟩:=e;exact ⟨q,h.get e,z⟩
inductive Tp (a:Ad) (vs:List V) (H:Hp) (Q:VK):Prop
 | mk (g:GA) (G:Gv) (t:Addr) (x y z w:Nat) (l:Int) (_:vs=[.ref g.p,.ref t]) (_:AN a H g G) (_:GOk G) (_:H t=some (.tup [.int x,.int y,.int z,.int w])) (_:(Al G x l/\Al G y l/\Al G z l/\Al G w l)) (_:l<=47) (_:G.length < 9000000) (_:∀ (n:Nat) (G':Gv) (H':Hp),Fr g H H'->AN a H' g G'->AM G G' 1->G'[n]?=some ⟨[(x:Int),(y:Int),(z:Int),(w:Int)],l+1⟩->Q (.int n) H'):Tp a vs H Q
def GK (a:Ad):Sp:=fun vs H Q _=>Tp a vs H Q
theorem ok_link {f:Addr} {fd:FuncData} (F:Fun K "linked" "Grove.linked" BX f fd) (T:Top K mg a) (aJ:Cy P w K mg base CX0 1 a.c_Grove "kept" CS (Ms a)):AI P w K mg base CX0 2 f fd Bf (GK a):=by
 refine F.ok FT (fun vs H Q E h=>?_) (fun cdv A outer s H vs Q E hr h=>?_)
 ·obtain ⟨g,G,t,x,y,z,w,l,rfl,_⟩:=h;rfl
 ·obtain ⟨g,G,t,x,y,z,w,l,rfl,hg,ok,ht,⟨hx,hy,hz,hw⟩,h47,few,k⟩:=h;have hg0:=hg;obtain ⟨h1,h2,⟨ts,h3,h4⟩,h5,h6⟩:=hg;refine ⟨_,(Ab (Aj (i:=2) FT.nd rfl (Or.inl rfl) (RX (JW hr) (Bv (pv 0) rfl) (pv 1) ⟨rfl,rfl,rfl,rfl⟩)) (Ab (AH (Au Se (pv 2) OE (Ay _)) (Af (Ao (AG (pv 0) aJ (rm hr) Am (Aa (pv 1) (Ek Bm (Ax AZ (Bv (pv 0) rfl) (Ax AC (pv 1) Ag (fun _ _=>rfl)) (fun _ _=>rfl)) Ag Ac))))) Aw) (Af (Ao (pv 2))))),?_⟩
  try dsimp only [cxK]
  refine ⟨_,rfl,g.p,_,g.dx,_,_,rfl,h1,T.cl_Grove,T.na_Grove_numbers,SW g,g.nm,rfl,.inr ⟨_,.inl h5⟩,_,rfl,_,GB.t (k:=kOf [(x:Int),(y:Int),(z:Int),(w:Int)]) h5 (by rw [kOf_v]; exact ht),?_⟩;rcases MU [(x:Int),(y:Int),(z:Int),(w:Int)] G 0 with ⟨i,q,e1,e2,e3⟩ | ⟨e,new⟩
  ·rw [e3];refine ⟨_,rfl,rfl,_,rfl,Bb ⟨_,rfl,?_⟩⟩;rw [Nat.zero_add];refine k i G H (Fr.refl g H) hg0 ⟨ok,⟨[],by simp⟩,by lia⟩ ?_;have h8:8<=i:=by
    refine Nat.le_of_not_lt fun z'=>?_;rw [ok.leaf i z'] at e1;cases e1;cases e2
   obtain ⟨x',y',z',w',p1,⟨lx,_⟩,_⟩:=ok.node i q e1 h8;have exx:x'=x:=by
    rw [p1] at e2;injection e2 with e2 _
    exact Int.ofNat.inj e2
   rw [exx] at lx;obtain ⟨qa,a1,a2⟩:=lx;obtain ⟨qb,b1,b2⟩:=hx;rw [a1] at b1;cases b1;have el:q.lev=l+1:=by lia
   rw [e1];cases q with
   | mk pp ll=>cases e2; cases el; rfl
  ·rw [e];refine ⟨_,rfl,rfl,_,rfl,Cg ?_⟩;obtain ⟨q,e1,e2⟩:=id hx;refine ⟨_,rfl,g.p,g.dx,_,rfl,h1,MD g,_,rfl,_,rfl,g.p,_,g.dx,_,_,rfl,h1,T.cl_Grove,T.na_Grove_levels,Gh g,_,rfl,t,_,0,.int x,rfl,rfl,SqT.of ht,Ai (j:=0) rfl,g.lv,_,(x:Int),.int q.lev,rfl,rfl,SqL.of h2,Ai (by rw [List.getElem?_map,e1]; rfl),_,_,rfl,rfl,?_⟩;refine ⟨g,G,t,[(x:Int),(y:Int),(z:Int),(w:Int)],l+1,by rw [<-e2]; rfl,hg0,ht,new,few,fun H' fr hg'=>?_⟩;refine k G.length _ H' fr hg' ⟨ok.snoc hx hy hz hw h47 new,⟨_,rfl⟩,by rw [List.length_append]; exact Nat.le_refl _⟩ ?_;rw [List.getElem?_append_right (Nat.le_refl _),Nat.sub_self];rfl
inductive SpChk (a:Ad) (vs:List V) (H:Hp) (Q:VK):Prop
 | mk (g:GA) (G:Gv) (i:Nat) (_:vs=[.ref g.p,.int i]) (_:AN a H g G) (_:i < G.length) (_:Q .non H):SpChk a vs H Q
def RF (a:Ad):Sp:=fun vs H Q _=>SpChk a vs H Q
theorem ok_chk {f:Addr} {fd:FuncData} (F:Fun K "check_square" "Grove.check_square" AV f fd) (T:Top K mg a) (aK:Cal P w K mg base CX0 1 "is_whole" Di RB):AI P w K mg base CX0 2 f fd Br (RF a):=by
 refine F.ok FV (fun vs H Q E h=>?_) (fun cdv A outer s H vs Q E hr h=>?_)
 ·obtain ⟨g,G,i,rfl,_⟩:=h;rfl
 ·obtain ⟨g,G,i,rfl,hg,hi,k⟩:=h;refine ⟨_,(Af (AH (PW.pt (Ej (Ce (BJ (Ap aK (rm hr) rfl Am (Aa (pv 1) Ac)))) (Dx (Ce (NF IO GX Ag (pv 1) (Av FO rfl T.b_len PySem.boot_len (Aa (Bv (pv 0) rfl) Ac))))))) (Af AS) Aw)),?_⟩
  try dsimp only [cxK]
  refine ⟨_,rfl,_,rfl,true,rfl,Bb ⟨_,rfl,_,_,rfl,rfl,_,rfl,?_⟩⟩;rw [decide_eq_true (by lia:(0:Int)<=(i:Int))];refine Cg ⟨_,rfl,g.p,_,g.dx,_,_,rfl,hg.hp,T.cl_Grove,T.na_Grove_levels,Gh g,g.lv,_,rfl,.inl (SqL.of hg.lv),_,_,rfl,rfl,_,rfl,?_⟩;rw [List.length_map,decide_eq_true (by lia:(i:Int) < (G.length:Int))];exact Bb k
inductive Tq (a:Ad) (vs:List V) (H:Hp) (Q:VK):Prop
 | mk (p:Addr) (i:Int) (_:vs=[.ref p,.int i]) (_:0<=i) (_:i < 8) (_:Q (.int i) H):Tq a vs H Q
def Oy (a:Ad):Sp:=fun vs H Q _=>Tq a vs H Q
theorem ok_leaf {f:Addr} {fd:FuncData} (F:Fun K "leaf" "Grove.leaf" CM f fd) (T:Top K mg a) (aL:Cal P w K mg base CX0 2 "is_state" Dj RC):AI P w K mg base CX0 3 f fd DG (Oy a):=by
 refine F.ok Lr (fun vs H Q E h=>?_) (fun cdv A outer s H vs Q E hr h=>?_)
 ·obtain ⟨g,i,rfl,_⟩:=h;rfl
 ·obtain ⟨g,i,rfl,h0,h1,k⟩:=h;exact ⟨_,(Ab (AH (Ce (BJ (Ap aL (rm hr) rfl Am (Aa (pv 1) Ac)))) (Af AS) Aw) (Af (Ao (pv 1)))),_,rfl,i,rfl,h0,h1,true,rfl,Bb ⟨_,rfl,k⟩⟩
inductive SpLev (a:Ad) (vs:List V) (H:Hp) (Q:VK):Prop
 | mk (g:GA) (G:Gv) (i:Nat) (q:Sq) (_:vs=[.ref g.p,.int i]) (_:AN a H g G) (_:G[i]?=some q) (_:Q (.int q.lev) H):SpLev a vs H Q
def Fc (a:Ad):Sp:=fun vs H Q _=>SpLev a vs H Q
theorem ok_lev {f:Addr} {fd:FuncData} (F:Fun K "level_of" "Grove.level_of" BE f fd) (T:Top K mg a) (aN:Cy P w K mg base CX0 2 a.c_Grove "check_square" Br (RF a)):AI P w K mg base CX0 3 f fd AB (Fc a):=by
 refine F.ok GU (fun vs H Q E h=>?_) (fun cdv A outer s H vs Q E hr h=>?_)
 ·obtain ⟨g,G,i,q,rfl,_⟩:=h;rfl
 ·obtain ⟨g,G,i,q,rfl,hg,hi,k⟩:=h;refine ⟨_,(Ab (Dz (AG (pv 0) aN (rm hr) Am (Aa (pv 1) Ac))) (Af (Ao (Ax AZ (Bv (pv 0) rfl) (pv 1) (fun _ _=>rfl))))),?_⟩
  try dsimp only [cxK]
  refine ⟨_,rfl,g.p,g.dx,_,rfl,hg.hp,Ss g,_,rfl,g,G,i,rfl,hg,(List.getElem?_eq_some_iff.mp hi).1,?_⟩;exact ⟨_,rfl,g.p,_,g.dx,_,_,rfl,hg.hp,T.cl_Grove,T.na_Grove_levels,Gh g,_,rfl,g.lv,_,(i:Int),.int q.lev,rfl,rfl,SqL.of hg.lv,Ai (by rw [List.getElem?_map,hi]; rfl),k⟩
inductive SpQua (a:Ad) (vs:List V) (H:Hp) (Q:VK):Prop
 | mk (g:GA) (G:Gv) (i:Nat) (q:Sq) (_:vs=[.ref g.p,.int i]) (_:AN a H g G) (_:G[i]?=some q) (_:q.lev≠0) (_:∀ t,H t=some (.tup (q.parts.map V.int))->Q (.ref t) H):SpQua a vs H Q
def Nt (a:Ad):Sp:=fun vs H Q _=>SpQua a vs H Q
theorem ok_qua {f:Addr} {fd:FuncData} (F:Fun K "quarters" "Grove.quarters" BD f fd) (T:Top K mg a) (aA:Cy P w K mg base CX0 3 a.c_Grove "level_of" AB (Fc a)):AI P w K mg base CX0 4 f fd Bl (Nt a):=by
 refine F.ok GT (fun vs H Q E h=>?_) (fun cdv A outer s H vs Q E hr h=>?_)
 ·obtain ⟨g,G,i,q,rfl,_⟩:=h;rfl
 ·obtain ⟨g,G,i,q,rfl,hg,hi,h0,k⟩:=h;refine ⟨_,(Ab (AH (Au De (AG (pv 0) aA (rm hr) Am (Aa (pv 1) Ac)) Ag (Ay _)) (Af AS) Aw) (Af (Ao (Ax AZ (Bv (pv 0) rfl) (pv 1) (fun _ _=>rfl))))),?_⟩
  try dsimp only [cxK]
  refine ⟨_,rfl,g.p,g.dx,_,rfl,hg.hp,BI g,_,rfl,g,G,i,q,rfl,hg,hi,rfl,_,rfl,?_⟩;rw [decide_eq_false (by intro z; injection z with z; exact h0 z)];obtain ⟨ts,h3,h4⟩:=hg.pt;obtain ⟨t,et,ht⟩:=PairedM.get h4 hi;exact Bb ⟨_,rfl,g.p,_,g.dx,_,_,rfl,hg.hp,T.cl_Grove,T.na_Grove_parts,FJ g,_,rfl,g.pt,_,(i:Int),.ref t,rfl,rfl,SqL.of h3,Ai (by rw [List.getElem?_map,et]; rfl),k t ht⟩
inductive SpSta (a:Ad) (vs:List V) (H:Hp) (Q:VK):Prop
 | mk (g:GA) (G:Gv) (i:Nat) (q:Sq) (_:vs=[.ref g.p,.int i]) (_:AN a H g G) (_:G[i]?=some q) (_:q.lev=0) (_:Q (.int i) H):SpSta a vs H Q
def Pr (a:Ad):Sp:=fun vs H Q _=>SpSta a vs H Q
theorem ok_sta {f:Addr} {fd:FuncData} (F:Fun K "state_of" "Grove.state_of" BC f fd) (T:Top K mg a) (aA:Cy P w K mg base CX0 3 a.c_Grove "level_of" AB (Fc a)):AI P w K mg base CX0 4 f fd BF (Pr a):=by
 refine F.ok GS (fun vs H Q E h=>?_) (fun cdv A outer s H vs Q E hr h=>?_)
 ·obtain ⟨g,G,i,q,rfl,_⟩:=h;rfl
 ·obtain ⟨g,G,i,q,rfl,hg,hi,h0,k⟩:=h;refine ⟨_,(Ab (AH (Au IN (AG (pv 0) aA (rm hr) Am (Aa (pv 1) Ac)) Ag (Ay _)) (Af AS) Aw) (Af (Ao (pv 1)))),?_⟩
  try dsimp only [cxK]
  refine ⟨_,rfl,g.p,g.dx,_,rfl,hg.hp,BI g,_,rfl,g,G,i,q,rfl,hg,hi,rfl,_,rfl,?_⟩;rw [h0];exact PH rfl ⟨_,rfl,k⟩
end
end J
namespace J
open PySem L2
seal L2.PA L2.PE L2.PS L2.PSs L2.PT L2.PW
def Sol (G:Gv) (s:Nat):Nat->Nat->Prop
 | 0,n=>n=s
 | l+1,n=>∃ m:Nat,Sol G s l m/\G[n]?=some ⟨[(m:Int),(m:Int),(m:Int),(m:Int)],(l:Int)+1⟩
theorem Sol.lev {G:Gv} (h:GOk G) {s:Nat} (hs:s < 8):∀ {l n:Nat},Sol G s l n->Al G n l
 | 0,n,e=>by
  have e:n=s:=e;subst e;exact ⟨_,h.leaf n hs,rfl⟩
 | l+1,n,e=>by
  obtain ⟨m,_,e⟩:=e;exact ⟨_,e,rfl⟩
theorem Sol.goes {G G':Gv} {k:Nat} (h:AM G G' k) {s:Nat}:∀ {l n:Nat},Sol G s l n->Sol G' s l n
 | 0,n,e=>e
 | l+1,n,e=>by
  obtain ⟨m,e1,e2⟩:=e;exact ⟨m,Sol.goes h e1,h.get e2⟩
section
variable {P:Program} {w:World} {K:PySem.W.Frag} {mg:Str->Option Value} {base:Heap} {a:Ad}
inductive PZ (a:Ad) (vs:List V) (H:Hp) (Q:VK):Prop
 | mk (g:GA) (G:Gv) (l s:Nat) (_:vs=[.ref g.p,.int l,.int s]) (_:AN a H g G) (_:GOk G) (_:l<=48) (_:s < 8) (_:G.length < 8000000) (_:∀ (n:Nat) (G':Gv) (H':Hp),Fr g H H'->AN a H' g G'->AM G G' l->Sol G' s l n->Q (.int n) H'):PZ a vs H Q
def Jn (a:Ad):Sp:=fun vs H Q _=>PZ a vs H Q
theorem Sh {f:Addr} {fd:FuncData} (F:Fun K "solid" "Grove.solid" Ct f fd) (T:Top K mg a) (aK:Cal P w K mg base CX0 1 "is_whole" Di RB) (bZ:Cy P w K mg base CX0 3 a.c_Grove "leaf" DG (Oy a)) (aB:Cy P w K mg base CX0 2 a.c_Grove "linked" Bf (GK a)):AI P w K mg base CX0 4 f fd Cu (Jn a):=by
 refine F.ok Dw (fun vs H Q E h=>?_) (fun cdv A outer s H vs Q E hr h=>?_)
 ·obtain ⟨g,G,l,s,rfl,_⟩:=h;rfl
 ·obtain ⟨g,G,l,st,rfl,hg,ok,h48,h8,few,k⟩:=h;refine ⟨_,(Ab (AH (PW.pt (Ej (Ce (BJ (Ap aK (rm hr) rfl Am (Aa (pv 1) Ac)))) (Dx (Ce (NF IO IO Ag (pv 1) (Cw rfl T.k_TOP_LEVEL)))))) (Af AS) Aw) (Ab (Aj (i:=3) Dw.nd rfl (Or.inl rfl) (AG (pv 0) bZ (rm hr) Am (Aa (pv 2) Ac))) (Ab (Dy PassesOwn.never rfl (Fg rfl T.b_range (Aa (pv 1) Ac)) (AY (i:=4) Dw.nd rfl (Or.inl rfl)) (Af (Aj (i:=3) Dw.nd rfl (Or.inl rfl) (AG (pv 0) aB (rm hr) Am (DA (Aa (pv 3) (Aa (pv 3) (Aa (pv 3) (Aa (pv 3) Ac)))) Ac))))) (Af (Ao (pv 3)))))),?_⟩
  try dsimp only [cxK]
  refine ⟨_,rfl,_,rfl,true,rfl,Bb ⟨_,rfl,_,_,rfl,rfl,_,rfl,?_⟩⟩;rw [decide_eq_true (by lia:(0:Int)<=(l:Int))];refine Cg ⟨_,_,rfl,rfl,_,rfl,?_⟩;rw [decide_eq_true (by lia:(l:Int)<=(48:Int))];refine Bb ⟨_,rfl,g.p,g.dx,_,rfl,hg.hp,no_leaf g,_,rfl,g.p,(st:Int),rfl,by lia,by lia,?_⟩;refine ⟨_,rfl,_,rfl,by lia,by lia,?_⟩;rw [Int.toNat_natCast];refine Fn (n:=l) (fun i σ H2=>∃ (G':Gv) (m:Nat) (u4:Option V),σ=[some (.ref g.p),some (.int l),some (.int st),some (.int m),u4]/\Fr g H H2/\AN a H2 g G'/\AM G G' i/\Sol G' st i m) ⟨G,st,none,rfl,Fr.refl g H,hg,AM.refl ok,rfl⟩ ?_ ?_
  ·rintro i σ H2 hi ⟨G',m,u4,rfl,fr,hg2,go,so⟩;have lf:=go.few;have lm:=Sol.lev go.ok h8 so;refine ⟨_,rfl,g.p,g.dx,_,rfl,hg2.hp,Dq g,_,rfl,_,rfl,_,rfl,_,rfl,(by show 4<=sizeLine; decide),fun t ht=>?_⟩;have s3:=Ak (o:=.tup [.int m,.int m,.int m,.int m]) ht;refine ⟨g,G',t,m,m,m,m,(i:Int),rfl,hg2.same s3,go.ok,Ah,⟨lm,lm,lm,lm⟩,by lia,by lia,fun n G'' H' fr' hg' go' e=>?_⟩;exact ⟨G'',n,_,rfl,(fr.trans (AE.fr s3)).trans fr',hg',go.trans go',m,Sol.goes go' so,e⟩
  ·rintro σ H2 ⟨G',m,u4,rfl,fr,hg2,go,so⟩;exact ⟨_,rfl,k m G' H2 fr hg2 go so⟩
end
end J
namespace J
open PySem L2
def bareN:Nat->Nat
 | 0=>0
 | j+1=>8+j
def Ds (n:Nat):Gv:=(List.range n).map fun (s:Nat)=>(⟨[(s:Int)],0⟩:Sq)
def EM (n:Nat):Gv:=(List.range n).map fun (j:Nat)=>(⟨[(bareN j:Int),(bareN j:Int),(bareN j:Int),(bareN j:Int)],(j:Int)+1⟩:Sq)
def G0:Gv:=Ds 8 ++ EM 48
theorem OR (n:Nat):Ds (n+1)=Ds n ++ [⟨[(n:Int)],0⟩]:=by unfold Ds; rw [List.range_succ,List.map_append]; rfl
theorem Lg (n:Nat):EM (n+1)=EM n ++ [⟨[(bareN n:Int),(bareN n:Int),(bareN n:Int),(bareN n:Int)],(n:Int)+1⟩]:=by unfold EM; rw [List.range_succ,List.map_append]; rfl
theorem Ez (n:Nat):(Ds n).length=n:=by unfold Ds; rw [List.length_map,List.length_range]
theorem Mj (n:Nat):(EM n).length=n:=by unfold EM; rw [List.length_map,List.length_range]
theorem Rg {i j:Nat} (h:bareN i=bareN j):i=j:=by
 cases i<;>cases j
 ·rfl
 ·have:0=8+_:=h; lia
 ·have:8+_=0:=h; lia
 ·have:8+_=8+_:=h; lia
theorem QJ (n:Nat):∀ q ∈ Ds n,q.parts≠[(n:Int)]:=fun q hq z=>by
 obtain ⟨s,hs,rfl⟩:=List.mem_map.mp hq;have:=List.mem_range.mp hs;injection z with z _
 have:s=n:=Int.ofNat.inj z;lia
theorem Mi (n:Nat):∀ q ∈ Ds 8 ++ EM n,q.parts≠[(bareN n:Int),(bareN n:Int),(bareN n:Int),(bareN n:Int)]:=fun q hq z=>by
 rcases List.mem_append.mp hq with hq | hq
 ·obtain ⟨s,hs,rfl⟩:=List.mem_map.mp hq;cases z
 ·obtain ⟨s,hs,rfl⟩:=List.mem_map.mp hq;have:=List.mem_range.mp hs;injection z with z _
  have:=Rg (Int.ofNat.inj z);lia
theorem IG:G0.length=56:=by unfold G0; rw [List.length_append,Ez,Mj]
theorem Na (j:Nat) (h:j < 48):G0[8+j]?=some ⟨[(bareN j:Int),(bareN j:Int),(bareN j:Int),(bareN j:Int)],(j:Int)+1⟩:=by
 unfold G0;rw [List.getElem?_append_right (by rw [Ez]; lia),Ez,show 8+j - 8=j by lia];unfold EM;rw [List.getElem?_map,List.getElem?_range h];rfl
theorem MZ (s:Nat) (h:s < 8):G0[s]?=some ⟨[(s:Int)],0⟩:=by
 unfold G0;rw [List.getElem?_append_left (by rw [Ez]; exact h)];unfold Ds;rw [List.getElem?_map,List.getElem?_range h];rfl
theorem SU (j:Nat) (h:j<=48):Al G0 (bareN j) (j:Int):=by
 cases j with
 | zero=>exact ⟨_,MZ 0 (by decide),rfl⟩
 | succ j=>exact ⟨_,Na j (by lia),rfl⟩
theorem g0_nd:∀ n,((Ds 8 ++ EM n).map Sq.parts).Nodup
 | 0=>by decide
 | n+1=>by
  rw [Lg,<-List.append_assoc,List.map_append,List.nodup_append];refine ⟨g0_nd n,by simp,fun p hp p' hp'=>?_⟩;obtain ⟨q,hq,rfl⟩:=List.mem_map.mp hp;rw [show p'=[(bareN n:Int),(bareN n:Int),(bareN n:Int),(bareN n:Int)] by simpa using hp'];exact Mi n q hq
theorem g0_ok:GOk G0 where
 leaf:=MZ
 node:=fun i q e h8=>by
  have hi:i < 56:=by rw [<-IG]; exact (List.getElem?_eq_some_iff.mp e).1
  obtain ⟨j,rfl⟩:∃ j,i=8+j:=⟨i - 8,by lia⟩
  rw [Na j (by lia)] at e;cases e;have:=SU j (by lia);refine ⟨bareN j,bareN j,bareN j,bareN j,rfl,?_,?_,?_⟩
  ·show Al G0 _ ((j:Int)+1 - 1)/\Al G0 _ ((j:Int)+1 - 1)/\Al G0 _ ((j:Int)+1 - 1)/\Al G0 _ ((j:Int)+1 - 1);rw [show (j:Int)+1 - 1=(j:Int) by lia];exact ⟨this,this,this,this⟩
  ·show 1<=(j:Int)+1; lia
  ·show (j:Int)+1<=48; lia
 nd:=g0_nd 48
def amK (n:Nat):List (Key×V):=(List.range n).map fun (s:Nat)=>(Sum.inl (s:Int),V.int (if (1:Int) < (s:Int) then 1 else (s:Int)))
theorem Om (n:Nat):amK (n+1)=amK n ++ [(Sum.inl (n:Int),V.int (if (1:Int) < (n:Int) then 1 else (n:Int)))]:=by unfold amK; rw [List.range_succ,List.map_append]; rfl
theorem amK_len (n:Nat):(amK n).length=n:=by unfold amK; rw [List.length_map,List.length_range]
theorem Pl {κ:Type} [DecidableEq κ] {k:κ}:∀ {l m:List (κ×V)},BH l k=none->BH (l ++ m) k=BH m k
 | [],_,_=>rfl
 | p :: r,m,h=>by
  by_cases e:p.1=k
  ·rw [BG e] at h; cases h
  ·rw [Bh e] at h;show BH (p :: (r ++ m)) k=_;rw [Bh e];exact Pl h
theorem On (n:Nat):∀ m,n<=m->BH (amK n) (Sum.inl (m:Int))=none:=by
 induction n with
 | zero=>intro m _; rfl
 | succ n ih =>
  intro m hm;rw [Om,Pl (ih m (by lia)),Bh (by intro z; injection z with z; have:=Int.ofNat.inj z; lia)];rfl
def DO (n:Nat):List Int:=(List.range (n+1)).map fun j=>((bareN j:Nat):Int)
theorem Lh (n:Nat):DO (n+1)=DO n ++ [((bareN (n+1):Nat):Int)]:=by unfold DO; rw [List.range_succ,List.map_append]; rfl
theorem Pe (n:Nat):(DO n).getLast?=some ((bareN n:Nat):Int):=by
 cases n with
 | zero=>rfl
 | succ n=>rw [Lh,List.getLast?_append]; rfl
theorem Tl {xs:List V} {x:V} (h:xs.getLast?=some x):atI xs (-1)=some x:=by
 obtain ⟨ys,rfl⟩:=List.getLast?_eq_some_iff.mp h;unfold atI ixN;rw [if_neg (by decide),if_pos (by rw [List.length_append,List.length_singleton]; lia)];show (ys ++ [x])[((-1:Int)+((ys ++ [x]).length:Nat)).toNat]?=some x;rw [List.length_append,List.length_singleton,show ((-1:Int)+((ys.length+1:Nat):Int)).toNat=ys.length by lia,List.getElem?_append_right (Nat.le_refl _),Nat.sub_self];rfl
end J
namespace J
open PySem L2
seal L2.PA L2.PE L2.PS L2.PSs L2.PT L2.PW
structure Ot (a:Ad) (H H':Hp) (g:GA) (G:Gv) (B:List Int) (am:List (Key×V)):Prop where
 kp:∀ b o,H b=some o->b≠g.p->H' b=some o
 at':AN a H' g G
 br:H' g.br=some (.lst (B.map V.int))
 am:H' g.am=some (.dK am)
 bx:H' g.bx=some (.dK [])
 fresh:H g.lv=none/\H g.pt=none/\H g.nm=none/\H g.br=none/\H g.am=none/\H g.bx=none
 n1:g.br≠g.lv
 n2:g.br≠g.pt
 n3:g.am≠g.bx
section
variable {P:Program} {w:World} {K:PySem.W.Frag} {mg:Str->Option Value} {base:Heap} {a:Ad}
inductive Qb (a:Ad) (vs:List V) (H:Hp) (Q:VK):Prop
 | mk (p dx:Addr) (_:vs=[.ref p]) (_:H p=some (.ins a.c_Grove dx [])) (_:∀ (g:GA) (H':Hp),g.p=p->Ot a H H' g G0 (DO 48) (amK 8)->Q .non H'):Qb a vs H Q
def Mt (a:Ad):Sp:=fun vs H Q _=>Qb a vs H Q
theorem Sl {f:Addr} {fd:FuncData} (F:Fun K "__init__" "Grove.__init__" CO f fd) (T:Top K mg a) (aJ:Cy P w K mg base CX0 1 a.c_Grove "kept" CS (Ms a)):AI P w K mg base CX0 2 f fd DH (Mt a):=by
 refine F.ok DY (fun vs H Q E h=>?_) (fun cdv A outer s H vs Q E hr h=>?_)
 ·obtain ⟨p,dx,rfl,_⟩:=h;rfl
 ·obtain ⟨p,dx,rfl,hp,k⟩:=h;refine ⟨_,(Ab (Ir (pv 0) (CW Ac) rfl) (Ab (Ir (pv 0) (CW Ac) rfl) (Ab (Ir (pv 0) RV rfl) (Ab (Ir (pv 0) (CW (BY Ac)) rfl) (Ab (Ir (pv 0) JH rfl) (Ab (Ir (pv 0) JH rfl) (Ab (Dy PassesOwn.never rfl (Fg rfl T.b_range (Aa (Cw rfl T.k_STATES) Ac)) (AY (i:=1) DY.nd rfl (Or.inl rfl)) (Ab (Dz (AG (pv 0) aJ (rm hr) Am (DA (Aa (pv 1) Ac) (BY Ac)))) (Af (Jq (JW hr) (Bv (pv 0) rfl) (pv 1) (Av (Fp rfl) rfl T.b_min PyProof.Rows.boot_min (Aa (pv 1) (BY Ac))) rfl)))) (Af (Dy PassesOwn.never rfl (Qs rfl T.b_range (BY (Ek Bm (Cw rfl T.k_TOP_LEVEL) Ag Ac))) (AY (i:=2) DY.nd rfl (Or.inl rfl)) (Ab (Aj (i:=3) DY.nd rfl (Or.inl rfl) (Ax AZ (Bv (pv 0) rfl) (LM Im Ag) (fun _ _=>rfl))) (Af (Dz (Fi PySem.F.plainAttrs_list PySem.F.slot_list_append PySem.F.type_list_append Ex (Bv (pv 0) rfl) (Aa (AG (pv 0) aJ (rm hr) Am (DA (Aa (pv 3) (Aa (pv 3) (Aa (pv 3) (Aa (pv 3) Ac)))) (Aa (pv 2) Ac))) Ac)))))))))))))),?_⟩
  try dsimp only [cxK]
  have stp:∀ {Hk:Hp} {x:Addr} {o:HO} {fs fs':List (Str×V)},Hk p=some (.ins a.c_Grove dx fs)->Hk x=none->(∀ b v,Hk b=some v->b≠p->upd (upd Hk x o) p (.ins a.c_Grove dx fs') b=some v)/\upd (upd Hk x o) p (.ins a.c_Grove dx fs') x=some o/\upd (upd Hk x o) p (.ins a.c_Grove dx fs') p=some (.ins a.c_Grove dx fs')/\upd Hk x o p=some (.ins a.c_Grove dx fs):=fun {Hk x o fs fs'} e1 e2=>by
   have n:x≠p:=fun z=>by rw [z,e1] at e2; cases e2
   exact ⟨fun b v e nb=>by rw [Az nb,Az (As e e2)]; exact e,by rw [Az n]; exact Ah,Ah,by rw [Az (Ne.symm n)]; exact e1⟩
  refine ⟨(by show 0<=sizeLine; decide),fun lv hlv=>?_⟩;obtain ⟨k1,x1,p1,q1⟩:=stp (o:=.lst []) (fs':=Bs "levels" (.ref lv) []) hp hlv;refine ⟨_,rfl,p,_,dx,[],rfl,q1,T.cl_Grove,T.na_Grove_levels,(by show 0 < 1000; decide),?_⟩;generalize upd (upd H lv (.lst [])) p (.ins a.c_Grove dx (Bs "levels" (.ref lv) []))=H1 at k1 x1 p1 ⊢;refine ⟨(by show 0<=sizeLine; decide),fun pt hpt=>?_⟩;obtain ⟨k2,x2,p2,q2⟩:=stp (o:=.lst []) (fs':=Bs "parts" (.ref pt) (Bs "levels" (.ref lv) [])) p1 hpt;refine ⟨_,rfl,p,_,dx,_,rfl,q2,T.cl_Grove,T.na_Grove_parts,(by show 1 < 1000; decide),?_⟩;generalize upd (upd H1 pt (.lst [])) p (.ins a.c_Grove dx (Bs "parts" (.ref pt) (Bs "levels" (.ref lv) [])))=H2 at k2 x2 p2 ⊢;intro nm hnm;obtain ⟨k3,x3,p3,q3⟩:=stp (o:=.dT []) (fs':=Bs "numbers" (.ref nm) (Bs "parts" (.ref pt) (Bs "levels" (.ref lv) []))) p2 hnm;refine ⟨_,rfl,p,_,dx,_,rfl,q3,T.cl_Grove,T.na_Grove_numbers,(by show 2 < 1000; decide),?_⟩;generalize upd (upd H2 nm (.dT [])) p (.ins a.c_Grove dx (Bs "numbers" (.ref nm) (Bs "parts" (.ref pt) (Bs "levels" (.ref lv) []))))=H3 at k3 x3 p3 ⊢;refine ⟨(by show 1<=sizeLine; decide),fun br hbr=>?_⟩;obtain ⟨k4,x4,p4,q4⟩:=stp (o:=.lst [.int 0]) (fs':=Bs "bares" (.ref br) (Bs "numbers" (.ref nm) (Bs "parts" (.ref pt) (Bs "levels" (.ref lv) [])))) p3 hbr;refine ⟨_,rfl,p,_,dx,_,rfl,q4,T.cl_Grove,T.na_Grove_bares,(by show 3 < 1000; decide),?_⟩;generalize upd (upd H3 br (.lst [.int 0])) p (.ins a.c_Grove dx (Bs "bares" (.ref br) (Bs "numbers" (.ref nm) (Bs "parts" (.ref pt) (Bs "levels" (.ref lv) [])))))=H4 at k4 x4 p4 ⊢;intro am ham;obtain ⟨k5,x5,p5,q5⟩:=stp (o:=.dK []) (fs':=Bs "amounts" (.ref am) (Bs "bares" (.ref br) (Bs "numbers" (.ref nm) (Bs "parts" (.ref pt) (Bs "levels" (.ref lv) []))))) p4 ham;refine ⟨_,rfl,p,_,dx,_,rfl,q5,T.cl_Grove,T.na_Grove_amounts,(by show 4 < 1000; decide),?_⟩;generalize upd (upd H4 am (.dK [])) p (.ins a.c_Grove dx (Bs "amounts" (.ref am) (Bs "bares" (.ref br) (Bs "numbers" (.ref nm) (Bs "parts" (.ref pt) (Bs "levels" (.ref lv) []))))))=H5 at k5 x5 p5 ⊢;intro bx hbx;obtain ⟨k6,x6,p6,q6⟩:=stp (o:=.dK []) (fs':=fl6 ⟨p,dx,lv,pt,nm,br,am,bx⟩) p5 hbx;refine ⟨_,rfl,p,_,dx,_,rfl,q6,T.cl_Grove,T.na_Grove_boxes,(by show 5 < 1000; decide),?_⟩;show (Rr _ _) _ _ (upd (upd H5 bx (.dK [])) p (.ins a.c_Grove dx (fl6 ⟨p,dx,lv,pt,nm,br,am,bx⟩)));generalize upd (upd H5 bx (.dK [])) p (.ins a.c_Grove dx (fl6 ⟨p,dx,lv,pt,nm,br,am,bx⟩))=H6 at k6 x6 p6 ⊢;have f26:∀ b v,H1 b=some v->b≠p->H6 b=some v:=fun b v e n=>k6 _ _ (k5 _ _ (k4 _ _ (k3 _ _ (k2 _ _ e n) n) n) n) n;have f36:∀ b v,H2 b=some v->b≠p->H6 b=some v:=fun b v e n=>k6 _ _ (k5 _ _ (k4 _ _ (k3 _ _ e n) n) n) n;have f46:∀ b v,H3 b=some v->b≠p->H6 b=some v:=fun b v e n=>k6 _ _ (k5 _ _ (k4 _ _ e n) n) n;have f56:∀ b v,H4 b=some v->b≠p->H6 b=some v:=fun b v e n=>k6 _ _ (k5 _ _ e n) n;have np:∀ {Hk:Hp} {x:Addr} {fs:List (Str×V)},Hk p=some (.ins a.c_Grove dx fs)->Hk x=none->x≠p:=fun {Hk x fs} e1 e2 z=>by rw [z,e1] at e2; cases e2
  have no:∀ {Hk Hm:Hp} {x y:Addr} {v:HO},Hk x=some v->Hk y=none->x≠y:=fun {Hk Hm x y v} e1 e2=>As e1 e2;have nlv:=np hp hlv;have npt:=np p1 hpt;have nnm:=np p2 hnm;have nbr:=np p3 hbr;have nam:=np p4 ham;have nbx:=np p5 hbx;have y1:=f26 _ _ x1 nlv;have y2:=f36 _ _ x2 npt;have y3:=f46 _ _ x3 nnm;have y4:=f56 _ _ x4 nbr;have y5:=k6 _ _ x5 nam;have back:∀ {Hk:Hp} {x:Addr},(∀ b v,H b=some v->b≠p->Hk b=some v)->x≠p->Hk x=none->H x=none:=fun {Hk x} kp n e=>by
   cases h:H x with
   | none=>rfl
   | some v=>rw [kp _ _ h n] at e; cases e
  have c2:∀ b v,H b=some v->b≠p->H2 b=some v:=fun b v e n=>k2 _ _ (k1 _ _ e n) n;have c3:∀ b v,H b=some v->b≠p->H3 b=some v:=fun b v e n=>k3 _ _ (c2 _ _ e n) n;have c4:∀ b v,H b=some v->b≠p->H4 b=some v:=fun b v e n=>k4 _ _ (c3 _ _ e n) n;have c5:∀ b v,H b=some v->b≠p->H5 b=some v:=fun b v e n=>k5 _ _ (c4 _ _ e n) n;have c6:∀ b v,H b=some v->b≠p->H6 b=some v:=fun b v e n=>k6 _ _ (c5 _ _ e n) n;have d1:lv≠pt:=As x1 hpt;have d2:br≠lv:=Ne.symm (As (k3 _ _ (k2 _ _ x1 nlv) nlv) hbr);have d3:br≠pt:=Ne.symm (As (k3 _ _ x2 npt) hbr);have d4:am≠bx:=As x5 hbx;have N0:Ot a H H6 ⟨p,dx,lv,pt,nm,br,am,bx⟩ (Ds 0) (DO 0) (amK 0):=⟨c6,⟨p6,y1,⟨[],y2,.nil⟩,y3,d1⟩,y4,y5,x6,⟨hlv,back k1 npt hpt,back c2 nnm hnm,back c3 nbr hbr,back c4 nam ham,back c5 nbx hbx⟩,d2,d3,d4⟩
  have k':=k ⟨p,dx,lv,pt,nm,br,am,bx⟩;have gp:(⟨p,dx,lv,pt,nm,br,am,bx⟩:GA).p=p:=rfl;generalize (⟨p,dx,lv,pt,nm,br,am,bx⟩:GA)=g at N0 k' gp;subst gp;clear k p6 q6 q5 q4 q3 q2 q1 y1 y2 y3 y4 y5 x6 c6 c5 c4 c3 c2 f26 f36 f46 f56 k1 k2 k3 k4 k5 k6 x1 x2 x3 x4 x5 p1 p2 p3 p4 p5 d1 d2 d3 d4 nlv npt nnm nbr nam nbx hbx ham hbr hnm hpt hlv back no np stp;refine ⟨8,rfl,by decide,by decide,?_⟩;refine Fn (n:=8) (fun i σ H7=>∃ u1:Option V,σ=[some (.ref g.p),u1,none,none]/\Ot a H H7 g (Ds i) (DO 0) (amK i)) ⟨none,rfl,N0⟩ ?_ ?_
  ·rintro i σ H7 hi ⟨u1,rfl,N⟩;obtain ⟨kp,at',hbr,ham,hbx,fresh,n1,n2,n3⟩:=N;have cl:(i:Int)=0+(i:Int):=(Int.zero_add _).symm;refine ⟨_,rfl,g.p,g.dx,_,rfl,at'.hp,MD g,_,rfl,(by show 1<=sizeLine; decide),fun t ht=>?_⟩;have s1:=Ak (o:=.tup [.int (0+(i:Int))]) ht;refine ⟨g,Ds i,t,[0+(i:Int)],0,rfl,at'.same s1,Ah,by rw [<-cl]; exact QJ i,by rw [Ez]; lia,fun H8 fr at8=>?_⟩;rw [<-cl,<-OR] at at8;have fr':Fr g H7 H8:=(AE.fr s1).trans fr;obtain ⟨ts,h3,h4⟩:=at'.pt;have kd:∀ (b:Addr) (kvs:List (Key×V)),H7 b=some (.dK kvs)->H8 b=some (.dK kvs):=fun b kvs e=>fr' _ _ e (AR e at'.lv (by intro z; cases z)) (AR e h3 (by intro z; cases z)) (AR e at'.nm (by intro z; cases z));have ham8:=kd _ _ ham;refine ⟨_,rfl,_,_,rfl,_,rfl,g.p,_,g.dx,_,_,rfl,at8.hp,T.cl_Grove,T.na_Grove_amounts,fl6_am g,_,rfl,g.am,_,rfl,LE.k (k:=Sum.inl (0+(i:Int))) ham8 (by rw [amK_len]; exact Ed (by lia)),?_⟩;rw [<-cl,GW _ (On i i (Nat.le_refl _)),<-Om];have other:∀ {b:Addr} {v:HO},H8 b=some v->b≠g.am->upd H8 g.am (.dK (amK (i+1))) b=some v:=fun {b v} e n=>by rw [Az n]; exact e
   have na:∀ {b:Addr} {v:HO},H8 b=some v->v≠.dK (amK i)->b≠g.am:=fun {b v} e n=>AR e ham8 n;obtain ⟨ts8,h38,h48⟩:=at8.pt;refine ⟨_,rfl,?_,⟨other at8.hp (na at8.hp (by intro z; cases z)),other at8.lv (na at8.lv (by intro z; cases z)),⟨ts8,other h38 (na h38 (by intro z; cases z)),PairedM.imp (fun c q z=>other z (na z (by intro z; cases z))) h48⟩,other at8.nm (na at8.nm (by intro z; cases z)),at8.ne⟩,?_,Ah,?_,fresh,n1,n2,n3⟩
   ·intro b v e nb;have e8:H8 b=some v:=fr' _ _ (kp _ _ e nb) (As e fresh.1) (As e fresh.2.1) (As e fresh.2.2.1);exact other e8 (As e fresh.2.2.2.2.1)
   ·have e8:H8 g.br=_:=fr' _ _ hbr n1 n2 (AR hbr at'.nm (by intro z; cases z));exact other e8 (na e8 (by intro z; cases z))
   ·exact other (kd _ _ hbx) (Ne.symm n3)
  ·rintro σ H7 ⟨u1,rfl,N⟩;refine ⟨_,_,rfl,rfl,1,49,rfl,⟨by decide,by decide,by decide,by decide⟩,?_⟩;have N0:Ot a H H7 g (Ds 8 ++ EM 0) (DO 0) (amK 8):=by rw [show Ds 8 ++ EM 0=Ds 8 from List.append_nil _]; exact N
   clear N;refine Fn (lo:=1) (n:=48) (fun j σ H8=>∃ u2 u3:Option V,σ=[some (.ref g.p),u1,u2,u3]/\Ot a H H8 g (Ds 8 ++ EM j) (DO j) (amK 8)) ⟨none,none,rfl,N0⟩ ?_ ?_
   ·rintro j σ H8 hj ⟨u2,u3,rfl,N⟩;obtain ⟨kp,at',hbr,ham,hbx,fresh,n1,n2,n3⟩:=N;refine ⟨_,rfl,g.p,_,g.dx,_,_,rfl,at'.hp,T.cl_Grove,T.na_Grove_bares,La g,_,rfl,g.br,_,-1,.int (bareN j:Int),rfl,rfl,SqL.of hbr,Tl (by rw [List.getLast?_map,Pe]; rfl),?_⟩;refine ⟨_,rfl,g.p,_,g.dx,_,_,rfl,at'.hp,T.cl_Grove,T.na_Grove_bares,La g,.inl ⟨rfl,_,SqL.of hbr⟩,_,rfl,g.p,g.dx,_,rfl,at'.hp,MD g,_,rfl,_,rfl,_,rfl,_,rfl,(by show 4<=sizeLine; decide),fun t ht=>⟨_,rfl,?_⟩⟩;have s1:=Ak (o:=.tup [.int (bareN j:Int),.int (bareN j:Int),.int (bareN j:Int),.int (bareN j:Int)]) ht;have ln:(Ds 8 ++ EM j).length=8+j:=by rw [List.length_append,Ez,Mj]
    refine ⟨g,Ds 8 ++ EM j,t,[(bareN j:Int),(bareN j:Int),(bareN j:Int),(bareN j:Int)],1+(j:Int),rfl,at'.same s1,Ah,Mi j,by rw [ln]; lia,fun H9 fr at9=>?_⟩;rw [show (1:Int)+(j:Int)=(j:Int)+1 by lia,List.append_assoc,<-Lg] at at9;have fr':Fr g H8 H9:=(AE.fr s1).trans fr;obtain ⟨ts,h3,h4⟩:=at'.pt;have kd:∀ (b:Addr) (kvs:List (Key×V)),H8 b=some (.dK kvs)->H9 b=some (.dK kvs):=fun b kvs e=>fr' _ _ e (AR e at'.lv (by intro z; cases z)) (AR e h3 (by intro z; cases z)) (AR e at'.nm (by intro z; cases z));have hbr9:H9 g.br=_:=fr' _ _ hbr n1 n2 (AR hbr at'.nm (by intro z; cases z));refine ⟨g.br,_,_,rfl,rfl,hbr9,by rw [List.length_map]; unfold DO; rw [List.length_map,List.length_range]; exact Ed (by lia),?_⟩;have eb:(DO j).map V.int ++ [V.int ((Ds 8 ++ EM j).length:Int)]=(DO (j+1)).map V.int:=by rw [Lh,List.map_append,ln]; rfl
    rw [eb];have other:∀ {b:Addr} {v:HO},H9 b=some v->v≠.lst ((DO j).map V.int)->upd H9 g.br (.lst ((DO (j+1)).map V.int)) b=some v:=fun {b v} e n=>by rw [Az (AR e hbr9 n)]; exact e
    refine ⟨_,_,rfl,?_,at9.put hbr9 n1 n2,Ah,other (kd _ _ ham) (by intro z; cases z),other (kd _ _ hbx) (by intro z; cases z),fresh,n1,n2,n3⟩;intro b v e nb;rw [Az (As e fresh.2.2.2.1)];exact fr' _ _ (kp _ _ e nb) (As e fresh.1) (As e fresh.2.1) (As e fresh.2.2.1)
   ·rintro σ H8 ⟨u2,u3,rfl,N⟩;exact k' H8 rfl N
end
end J
namespace J
open PySem L2
theorem Al.uniq {G:Gv} {i:Nat} {l m:Int} (h:Al G i l) (h2:Al G i m):l=m:=by
 obtain ⟨q,e,z⟩:=h;obtain ⟨p,e2,z2⟩:=h2;rw [e] at e2;cases e2;exact z.symm.trans z2
theorem Pz {G:Gv} (ok:GOk G) {i:Nat} (h:Al G i 0):i < 8:=by
 obtain ⟨q,e,z⟩:=h;refine Nat.lt_of_not_le fun n=>?_;obtain ⟨_,_,_,_,_,_,l1,_⟩:=ok.node i q e n;lia
structure Ch (G:Gv) (n i:Nat) (q:Sq) (x y z w:Nat):Prop where
 g:G[i]?=some q
 ps:q.parts=[(x:Int),(y:Int),(z:Int),(w:Int)]
 lev:q.lev=(n:Int)+1
 hx:Al G x n
 hy:Al G y n
 hz:Al G z n
 hw:Al G w n
theorem AO {G:Gv} (ok:GOk G) {n i:Nat} (h:Al G i ((n+1:Nat):Int)):∃ q x y z w,Ch G n i q x y z w:=by
 obtain ⟨q,e,el⟩:=h;have n8:8<=i:=by
  refine Nat.le_of_not_lt fun l8=>?_;rw [ok.leaf i l8] at e;cases e;have:(0:Int)=((n+1:Nat):Int):=el;lia
 obtain ⟨x,y,z,w,ep,⟨hx,hy,hz,hw⟩,_,_⟩:=ok.node i q e n8;have en:q.lev - 1=(n:Int):=by lia
 rw [en] at hx hy hz hw;exact ⟨q,x,y,z,w,e,ep,by lia,hx,hy,hz,hw⟩
theorem Ch.app {G G':Gv} {k n i:Nat} {q:Sq} {x y z w:Nat} (go:AM G G' k) (h:Ch G n i q x y z w):Ch G' n i q x y z w:=⟨go.get h.g,h.ps,h.lev,go.lev h.hx,go.lev h.hy,go.lev h.hz,go.lev h.hw⟩
def Bc (G:Gv):Nat->Nat->Int
 | 0,i=>if i=0 then 0 else 1
 | n+1,i=>match G[i]? with
  | some q=>(q.parts.map fun p=>Bc G n p.toNat).sum
  | none=>0
theorem EA {G:Gv} {n i:Nat} {q:Sq} {x y z w:Nat} (h:Ch G n i q x y z w):Bc G (n+1) i=([x,y,z,w].map fun k=>Bc G n k).sum:=by
 rw [show Bc G (n+1) i=(match G[i]? with | some q=>(q.parts.map fun (p:Int)=>Bc G n p.toNat).sum | none=>0) from rfl,h.g];show (q.parts.map fun (p:Int)=>Bc G n p.toNat).sum=_;rw [h.ps];rfl
theorem Gj {G G':Gv} {k:Nat} (ok:GOk G) (go:AM G G' k):∀ (n i:Nat),Al G i (n:Int)->Bc G' n i=Bc G n i
 | 0,i,_=>rfl
 | n+1,i,h=>by
  obtain ⟨q,x,y,z,w,nd⟩:=AO ok h;rw [EA nd,EA (nd.app go)];show Bc G' n x+(Bc G' n y+(Bc G' n z+(Bc G' n w+0)))=_;rw [Gj ok go n x nd.hx,Gj ok go n y nd.hy,Gj ok go n z nd.hz,Gj ok go n w nd.hw];rfl
theorem DL (G:Gv):∀ (n i:Nat),0<=Bc G n i
 | 0,i=>by
  show 0<=if i=0 then (0:Int) else 1;split<;>lia
 | n+1,i=>by
  unfold Bc;split
  ·rename_i q _;have:∀ l:List Int,0<=(l.map fun p=>Bc G n p.toNat).sum:=by
    intro l;induction l with
    | nil=>exact Int.le_refl 0
    | cons p r ih=>rw [List.map_cons,List.sum_cons]; have:=DL G n p.toNat; lia
   exact this _
  ·exact Int.le_refl 0
theorem Gs:∀ (n:Nat) (l:List Nat),l.Nodup->(∀ x ∈ l,x < n)->l.length<=n
 | 0,l,_,h=>by
  cases l with
  | nil=>exact Nat.le_refl 0
  | cons x r=>exact absurd (h x List.mem_cons_self) (Nat.not_lt_zero _)
 | n+1,l,nd,h=>by
  by_cases hm:n ∈ l
  ·have:=Gs n (l.erase n) (nd.erase n) fun x hx=>by
    have h1:=(nd.mem_erase_iff).mp hx;have:=h x h1.2;have:=h1.1;lia
   rw [List.length_erase_of_mem hm] at this;lia
  ·have:=Gs n l nd fun x hx=>by
    have:=h x hx;have:x≠n:=fun z=>hm (z ▸ hx);lia
   lia
structure EO (G:Gv) (ks:List (Key×V)):Prop where
 nd:(ks.map Prod.fst).Nodup
 lt:∀ k ∈ ks.map Prod.fst,∃ i:Nat,i < G.length/\k=Sum.inl (i:Int)
theorem EO.len {G:Gv} {ks:List (Key×V)} (h:EO G ks):ks.length<=G.length:=by
 let f:Key->Nat:=fun k=>match k with | .inl i=>i.toNat | .inr _=>0
 have:=Gs G.length ((ks.map Prod.fst).map f) (by
  rw [List.nodup_iff_pairwise_ne,List.pairwise_map];refine List.Pairwise.imp_of_mem (fun {a b} ha hb hne z=>hne ?_) (List.nodup_iff_pairwise_ne.mp h.nd);obtain ⟨i,_,rfl⟩:=h.lt a ha;obtain ⟨j,_,rfl⟩:=h.lt b hb;have:(i:Int).toNat=(j:Int).toNat:=z;rw [Int.toNat_natCast,Int.toNat_natCast] at this;rw [this]) (fun x hx=>by
  obtain ⟨k,hk,rfl⟩:=List.mem_map.mp hx;obtain ⟨i,hi,rfl⟩:=h.lt k hk;show (i:Int).toNat < _;rw [Int.toNat_natCast];exact hi)
 rw [List.length_map,List.length_map] at this;exact this
theorem EO.app {G G':Gv} {ks:List (Key×V)} (le:G.length<=G'.length) (h:EO G ks):EO G' ks:=⟨h.nd,fun k hk=>by
 obtain ⟨i,hi,e⟩:=h.lt k hk;exact ⟨i,by lia,e⟩⟩
theorem EO.put {G:Gv} {ks:List (Key×V)} (h:EO G ks) {i:Nat} (hi:i < G.length) (v:V):EO G (Dt ks (Sum.inl (i:Int)) v):=by
 unfold Dt;by_cases a:(ks.any fun kv=>decide (kv.1=Sum.inl (i:Int)))=true
 ·rw [if_pos a];have e:(ks.map fun kv=>if kv.1=Sum.inl (i:Int) then (kv.1,v) else kv).map Prod.fst=ks.map Prod.fst:=by
   rw [List.map_map];refine List.map_congr_left fun kv _=>?_;show (if kv.1=Sum.inl (i:Int) then (kv.1,v) else kv).1=kv.1;split<;>rfl
  exact ⟨by rw [e]; exact h.nd,by rw [e]; exact h.lt⟩
 ·rw [if_neg a];refine ⟨?_,fun k hk=>?_⟩
  ·rw [List.map_append,List.nodup_append];refine ⟨h.nd,by simp,fun k hk k' hk' z=>a ?_⟩;have:k'=Sum.inl (i:Int):=by simpa using hk'
   subst this;subst z;obtain ⟨kv,h1,h2⟩:=List.mem_map.mp hk;exact List.any_eq_true.mpr ⟨kv,h1,decide_eq_true h2⟩
  ·rw [List.map_append] at hk;rcases List.mem_append.mp hk with z | z
   ·exact h.lt k z
   ·exact ⟨i,hi,by simpa using z⟩
structure Ty (G:Gv) (ks:List (Key×V)):Prop where
 keys:EO G ks
 leaf:∀ s:Nat,s < 8->∃ v,BH ks (Sum.inl (s:Int))=some v
 val:∀ (i:Nat) v,BH ks (Sum.inl (i:Int))=some v->∃ l:Nat,Al G i l/\v=.int (Bc G l i)
theorem Ty.app {G G':Gv} {k:Nat} {ks:List (Key×V)} (ok:GOk G) (go:AM G G' k) (h:Ty G ks):Ty G' ks:=⟨h.keys.app (by obtain ⟨r,e⟩:=go.pre; rw [e,List.length_append]; lia),h.leaf,fun i v e=>by
 obtain ⟨l,h1,h2⟩:=h.val i v e;exact ⟨l,go.lev h1,by rw [Gj ok go l i h1]; exact h2⟩⟩
theorem am0:Ty G0 (amK 8) where
 keys:=⟨by decide +kernel,fun k hk=>by
  obtain ⟨p,hp,rfl⟩:=List.mem_map.mp hk;obtain ⟨s,hs,rfl⟩:=List.mem_map.mp hp;have:=List.mem_range.mp hs;exact ⟨s,by rw [IG]; lia,rfl⟩⟩
 leaf:=fun s hs=>by
  match s,hs with
  | 0,_=>exact ⟨_,rfl⟩
  | 1,_=>exact ⟨_,rfl⟩
  | 2,_=>exact ⟨_,rfl⟩
  | 3,_=>exact ⟨_,rfl⟩
  | 4,_=>exact ⟨_,rfl⟩
  | 5,_=>exact ⟨_,rfl⟩
  | 6,_=>exact ⟨_,rfl⟩
  | 7,_=>exact ⟨_,rfl⟩
 val:=fun i v e=>by
  have hi:i < 8:=by
   refine Nat.lt_of_not_le fun z=>?_;rw [On 8 i z] at e;cases e
  refine ⟨0,⟨_,MZ i hi,rfl⟩,?_⟩
  match i,hi with
  | 0,_=>cases e; rfl
  | 1,_=>cases e; rfl
  | 2,_=>cases e; rfl
  | 3,_=>cases e; rfl
  | 4,_=>cases e; rfl
  | 5,_=>cases e; rfl
  | 6,_=>cases e; rfl
  | 7,_=>cases e; rfl
end J
namespace J
open PySem L2
structure Bx where
 l:Int
 t:Int
 w:Int
 h:Int
def Bx.ns (b:Bx):List Int:=[b.l,b.t,b.w,b.h]
def shB (half:Int) (k:Nat) (b:Bx):Bx:=⟨b.l+half * ((k:Int) % 2),b.t+half * ((k:Int) / 2),b.w,b.h⟩
def QT (half:Int):Nat->List (Option Bx)->List Bx
 | _,[]=>[]
 | k,none :: r=>QT half (k+1) r
 | k,some b :: r=>shB half k b :: QT half (k+1) r
def mnL (l:List Int):Int:=l.min?.getD 0
def mxL (l:List Int):Int:=l.max?.getD 0
def leastB (bs:List Bx):Bx:=⟨mnL (bs.map (·.l)),mnL (bs.map (·.t)),mxL (bs.map fun b=>b.l+b.w) - mnL (bs.map (·.l)),mxL (bs.map fun b=>b.t+b.h) - mnL (bs.map (·.t))⟩
def Qw (half:Int) (obs:List (Option Bx)):Option Bx:=match QT half 0 obs with
 | []=>none
 | b :: r=>some (leastB (b :: r))
def Ik (G:Gv):Nat->Nat->Option Bx
 | 0,i=>if i=0 then none else some ⟨0,0,1,1⟩
 | n+1,i=>match G[i]? with
  | some q=>Qw (2 ^ n) (q.parts.map fun (p:Int)=>Ik G n p.toNat)
  | none=>none
theorem Gx {G:Gv} {n i:Nat} {q:Sq} {x y z w:Nat} (h:Ch G n i q x y z w):Ik G (n+1) i=Qw (2 ^ n) [Ik G n x,Ik G n y,Ik G n z,Ik G n w]:=by
 rw [show Ik G (n+1) i=(match G[i]? with | some q=>Qw (2 ^ n) (q.parts.map fun (p:Int)=>Ik G n p.toNat) | none=>none) from rfl,h.g];show Qw (2 ^ n) (q.parts.map fun (p:Int)=>Ik G n p.toNat)=_;rw [h.ps];rfl
theorem Fq {G G':Gv} {k:Nat} (ok:GOk G) (go:AM G G' k):∀ (n i:Nat),Al G i (n:Int)->Ik G' n i=Ik G n i
 | 0,i,_=>rfl
 | n+1,i,h=>by
  obtain ⟨q,x,y,z,w,nd⟩:=AO ok h;rw [Gx nd,Gx (nd.app go),Fq ok go n x nd.hx,Fq ok go n y nd.hy,Fq ok go n z nd.hz,Fq ok go n w nd.hw]
theorem LN {half:Int}:∀ {obs:List (Option Bx)},Qw half obs=none ↔ ∀ o ∈ obs,o=none:=by
 intro obs;have g:∀ (obs:List (Option Bx)) (k:Nat),QT half k obs=[] ↔ ∀ o ∈ obs,o=none:=by
  intro obs;induction obs with
  | nil=>intro k; exact ⟨fun _ o ho=>by simp at ho,fun _=>rfl⟩
  | cons o r ih =>
   intro k;cases o with
   | none =>
    rw [show QT half k (none :: r)=QT half (k+1) r from rfl,ih (k+1)];exact ⟨fun h o ho=>by rcases List.mem_cons.mp ho with z | z; exact z; exact h o z,fun h o ho=>h o (List.mem_cons_of_mem _ ho)⟩
   | some b=>exact ⟨fun h=>(by cases h),fun h=>(by cases h (some b) List.mem_cons_self)⟩
 rw [<-g obs 0];unfold Qw;constructor
 ·intro h;split at h
  ·assumption
  ·cases h
 ·intro h;rw [h]
theorem Ij {G:Gv} (ok:GOk G):∀ (n i:Nat),Al G i (n:Int)->(Ik G n i=none ↔ Bc G n i=0)
 | 0,i,_=>by
  show (if i=0 then none else some (⟨0,0,1,1⟩:Bx))=none ↔ (if i=0 then (0:Int) else 1)=0;split
  ·exact ⟨fun _=>rfl,fun _=>rfl⟩
  ·exact ⟨fun h=>(by cases h),fun h=>(by lia)⟩
 | n+1,i,h=>by
  obtain ⟨q,x,y,z,w,nd⟩:=AO ok h;rw [Gx nd,EA nd,LN];show _ ↔ Bc G n x+(Bc G n y+(Bc G n z+(Bc G n w+0)))=0;have ex:=Ij ok n x nd.hx;have ey:=Ij ok n y nd.hy;have ez:=Ij ok n z nd.hz;have ew:=Ij ok n w nd.hw;have nx:=DL G n x;have ny:=DL G n y;have nz:=DL G n z;have nw:=DL G n w;constructor
  ·intro h;rw [ex.mp (h _ (by simp)),ey.mp (h _ (by simp)),ez.mp (h _ (by simp)),ew.mp (h _ (by simp))];rfl
  ·intro h o ho;simp only [List.mem_cons,List.not_mem_nil,or_false] at ho;rcases ho with rfl | rfl | rfl | rfl
   ·exact ex.mpr (by lia)
   ·exact ey.mpr (by lia)
   ·exact ez.mpr (by lia)
   ·exact ew.mpr (by lia)
theorem OX {G r:Gv} (e:G=G0 ++ r) (j:Nat) (h:j < 48):G[8+j]?=some ⟨[(bareN j:Int),(bareN j:Int),(bareN j:Int),(bareN j:Int)],(j:Int)+1⟩:=by
 rw [e];exact Ju (Na j h)
theorem Gm {G:Gv} (ok:GOk G) {r:Gv} (e:G=G0 ++ r):∀ (n i:Nat),n<=48->Al G i (n:Int)->(Ik G n i=none ↔ i=bareN n)
 | 0,i,_,_=>by
  show (if i=0 then none else some (⟨0,0,1,1⟩:Bx))=none ↔ i=0;split
  ·rename_i z; exact ⟨fun _=>z,fun _=>rfl⟩
  ·rename_i z; exact ⟨fun h=>(by cases h),fun h=>absurd h z⟩
 | n+1,i,hn,h=>by
  obtain ⟨q,x,y,z,w,nd⟩:=AO ok h;rw [Gx nd,LN];have ex:=Gm ok e n x (by lia) nd.hx;have ey:=Gm ok e n y (by lia) nd.hy;have ez:=Gm ok e n z (by lia) nd.hz;have ew:=Gm ok e n w (by lia) nd.hw;have hb:=OX e n (by lia);constructor
  ·intro h;have hx:=ex.mp (h _ (by simp));have hy:=ey.mp (h _ (by simp));have hz:=ez.mp (h _ (by simp));have hw:=ew.mp (h _ (by simp));show i=8+n;refine ok.one nd.g hb ?_;rw [nd.ps,hx,hy,hz,hw]
  ·intro h;have h:i=8+n:=h;have g:=nd.g;rw [h,hb] at g;cases g;have p:=nd.ps;have p:[(bareN n:Int),(bareN n:Int),(bareN n:Int),(bareN n:Int)]=[(x:Int),(y:Int),(z:Int),(w:Int)]:=p;injection p with p1 p
   injection p with p2 p
   injection p with p3 p
   injection p with p4 p
   intro o ho;simp only [List.mem_cons,List.not_mem_nil,or_false] at ho;rcases ho with rfl | rfl | rfl | rfl
   ·exact ex.mpr (Int.ofNat.inj p1).symm
   ·exact ey.mpr (Int.ofNat.inj p2).symm
   ·exact ez.mpr (Int.ofNat.inj p3).symm
   ·exact ew.mpr (Int.ofNat.inj p4).symm
structure BxOk (G:Gv) (H:Hp) (ks:List (Key×V)):Prop where
 keys:EO G ks
 val:∀ (i:Nat) v,BH ks (Sum.inl (i:Int))=some v->∃ (l:Nat) (b:Bx) (t:Addr),Al G i l/\Ik G l i=some b/\v=.ref t/\H t=some (.tup (b.ns.map V.int))
structure Bp (a:Ad) (H:Hp) (g:GA) (G:Gv):Prop where
 at':AN a H g G
 ok:GOk G
 g0:∃ r,G=G0 ++ r
 br:H g.br=some (.lst ((DO 48).map V.int))
 am:∃ ks,H g.am=some (.dK ks)/\Ty G ks
 bx:∃ ks,H g.bx=some (.dK ks)/\BxOk G H ks
 n1:g.br≠g.lv
 n2:g.br≠g.pt
 n3:g.am≠g.bx
theorem Bp.new {a:Ad} {H H':Hp} {g:GA} (h:Ot a H H' g G0 (DO 48) (amK 8)):Bp a H' g G0:=⟨h.at',g0_ok,⟨[],by simp⟩,h.br,⟨_,h.am,am0⟩,⟨_,h.bx,⟨by simp,fun k hk=>by simp at hk⟩,fun i v e=>by cases e⟩,h.n1,h.n2,h.n3⟩
theorem Bp.same {a:Ad} {H H':Hp} {g:GA} {G:Gv} (s:AE H H') (h:Bp a H g G):Bp a H' g G:=by
 obtain ⟨at',ok,g0,br,⟨ks,h1,h2⟩,⟨ks',h3,h4⟩,n1,n2,n3⟩:=h;refine ⟨at'.same s,ok,g0,s _ _ br,⟨ks,s _ _ h1,h2⟩,⟨ks',s _ _ h3,h4.keys,fun i v e=>?_⟩,n1,n2,n3⟩;obtain ⟨l,b,t,e1,e2,e3,e4⟩:=h4.val i v e;exact ⟨l,b,t,e1,e2,e3,s _ _ e4⟩
theorem AM.le {G G':Gv} {k:Nat} (go:AM G G' k):G.length<=G'.length:=by
 obtain ⟨r,e⟩:=go.pre;rw [e,List.length_append];lia
theorem Bp.fr {a:Ad} {H H':Hp} {g:GA} {G G':Gv} {m:Nat} (h:Bp a H g G) (f:Fr g H H') (at2:AN a H' g G') (go:AM G G' m):Bp a H' g G':=by
 obtain ⟨at',ok,⟨r,g0⟩,br,⟨ks,h1,h2⟩,⟨ks',h3,h4⟩,n1,n2,n3⟩:=h;obtain ⟨us,hp,_⟩:=at'.pt;have keep:∀ {b:Addr} {o:HO},H b=some o->(∀ l,o≠.lst l)->(∀ l,o≠.dT l)->H' b=some o:=fun {b o} e z1 z2=>f _ _ e (AR e at'.lv (z1 _)) (AR e hp (z1 _)) (AR e at'.nm (z2 _));obtain ⟨t,et⟩:=go.pre;refine ⟨at2,go.ok,⟨r ++ t,by rw [et,g0,List.append_assoc]⟩,f _ _ br n1 n2 (AR br at'.nm (by intro z; cases z)),⟨ks,keep h1 (by intro l z; cases z) (by intro l z; cases z),h2.app ok go⟩,⟨ks',keep h3 (by intro l z; cases z) (by intro l z; cases z),h4.keys.app go.le,fun i v e=>?_⟩,n1,n2,n3⟩;obtain ⟨l,b,t,e1,e2,e3,e4⟩:=h4.val i v e;exact ⟨l,b,t,go.lev e1,by rw [Fq ok go l i e1]; exact e2,e3,keep e4 (by intro l z; cases z) (by intro l z; cases z)⟩
end J
namespace J
open PySem L2
theorem Ch.mem {G:Gv} {n i:Nat} {q:Sq} {x y z w:Nat} (h:Ch G n i q x y z w) {j:Nat} {v:V} (e:(q.parts.map V.int)[j]?=some v):∃ k:Nat,v=.int k/\Al G k n/\q.parts[j]?=some (k:Int):=by
 rw [List.getElem?_map] at e;obtain ⟨p,hp,rfl⟩:=Option.map_eq_some_iff.mp e;have hm:=List.mem_of_getElem? hp;rw [h.ps] at hm;simp only [List.mem_cons,List.not_mem_nil,or_false] at hm;rcases hm with rfl | rfl | rfl | rfl
 ·exact ⟨x,rfl,h.hx,hp⟩
 ·exact ⟨y,rfl,h.hy,hp⟩
 ·exact ⟨z,rfl,h.hz,hp⟩
 ·exact ⟨w,rfl,h.hw,hp⟩
section
variable {P:Program} {w:World} {K:PySem.W.Frag} {mg:Str->Option Value} {base:Heap} {a:Ad}
end
end J
namespace J
open PySem L2
theorem PairedM.getL {α β:Type} {F:α->β->Prop}:∀ {l:List α} {m:List β} {i:Nat} {x:α},Paired F l m->l[i]?=some x->∃ y,m[i]?=some y/\F x y
 | _,_,_,_,.nil,e=>by simp at e
 | _,_,0,_,.cons r _,e=>by simp at e; subst e; exact ⟨_,rfl,r⟩
 | _,_,i+1,x,.cons _ t,e=>by
  obtain ⟨y,h1,h2⟩:=PairedM.getL (i:=i) (x:=x) t (by simpa using e);exact ⟨y,by simpa using h1,h2⟩
section
variable {P:Program} {w:World} {K:PySem.W.Frag} {mg:Str->Option Value} {base:Heap} {a:Ad}
theorem two_pow (m:Nat) {l:Int} (e:l=(m:Int)+1):(1:Int) * 2 ^ (l - 1).toNat=2 ^ m:=by
 rw [e,Int.one_mul,show ((m:Int)+1 - 1).toNat=m by lia]
end
end J
namespace J
open PySem L2
seal L2.PA L2.PE L2.PS L2.PSs L2.PT L2.PW
def atN (ns:List Int) (k:Int):Int:=ns.getD k.toNat 0
section
variable {P:Program} {w:World} {K:PySem.W.Frag} {mg:Str->Option Value} {base:Heap} {a:Ad}
inductive SpAt (K:PySem.W.Frag) (vs:List V) (H:Hp) (Q:VK):Prop
 | mk (l:Addr) (ns:List Int) (k:Int) (_:vs=[.ref l,.int k]) (_:SqL K H l (ns.map V.int)) (_:0<=k) (_:Q (.int (atN ns k)) H):SpAt K vs H Q
def spAt (K:PySem.W.Frag):Sp:=fun vs H Q _=>SpAt K vs H Q
theorem ok_at {f:Addr} {fd:FuncData} (F:Fun K "_law_at" "_law_at" Eu f fd) (T:Top K mg a):AI P w K mg base CX0 1 f fd Fk (spAt K):=by
 refine F.ok OC (fun vs H Q E h=>?_) (fun cdv A outer s H vs Q E hr h=>?_)
 ·obtain ⟨l,ns,k,rfl,_⟩:=h;rfl
 ·obtain ⟨l,ns,k,rfl,hS,h0,q⟩:=h;refine ⟨_,(Ab (AH (Au GX (pv 1) (Av FO rfl T.b_len PySem.boot_len (Aa (pv 0) Ac)) (Ay _)) (Af (Ao (Ax AZ (pv 0) (pv 1) (fun _ _=>rfl)))) Aw) (Af (Ao Ag))),?_⟩
  try dsimp only [cxK]
  refine ⟨_,rfl,_,rfl,l,_,rfl,.inl hS,_,_,rfl,rfl,_,rfl,?_⟩;obtain ⟨n,rfl⟩:=Int.eq_ofNat_of_zero_le h0;refine Jg (fun hc=>?_) (fun hc=>?_)
  ·have hc':n < ns.length:=by
    have:=of_decide_eq_true hc;rw [List.length_map] at this;lia
   refine ⟨_,rfl,_,rfl,l,_,n,.int ns[n],rfl,rfl,hS,Ai (by rw [List.getElem?_map,List.getElem?_eq_getElem hc']; rfl),?_⟩;have e:atN ns (n:Int)=ns[n]:=by
    unfold atN;rw [Int.toNat_natCast,List.getD_eq_getElem?_getD,List.getElem?_eq_getElem hc'];rfl
   rw [e] at q;exact q
  ·have hc':ns.length<=n:=by
    have:¬ (n:Int) < ((ns.map V.int).length:Int):=fun z=>hc (decide_eq_true z);rw [List.length_map] at this;lia
   have e:atN ns (n:Int)=0:=by
    unfold atN;rw [Int.toNat_natCast,List.getD_eq_getElem?_getD,List.getElem?_eq_none hc'];rfl
   rw [e] at q;exact q
end
inductive SpLaw (K:PySem.W.Frag) (vs:List V) (H:Hp) (Q:VK):Prop
 | mk (a:Addr) (ns:List Int) (_:vs=[.ref a]) (_:SqL K H a (ns.map V.int)) (_:ns.length<=63) (_:∀ H',Q (.bl true) H'):SpLaw K vs H Q
def Ps (K:PySem.W.Frag):Sp:=fun vs H Q _=>SpLaw K vs H Q
end J
namespace J
open PySem L2
theorem Fr.tup {a:Ad} {g:GA} {G:Gv} {H H':Hp} {x:Addr} {l:List V} (f:Fr g H H') (h:AN a H g G) (e:H x=some (.tup l)):H' x=some (.tup l):=by
 obtain ⟨us,h3,_⟩:=h.pt;exact f _ _ e (AR e h.lv (by intro z; cases z)) (AR e h3 (by intro z; cases z)) (AR e h.nm (by intro z; cases z))
theorem AM.mono {G G':Gv} {n m:Nat} (h:AM G G' n) (e:n<=m):AM G G' m:=⟨h.ok,h.pre,Nat.le_trans h.few (by lia)⟩
theorem FA (l:Nat):(0:Int) < 2 ^ l:=Int.pow_pos (by decide)
theorem pow2_lt {l:Nat} (h:l < 64):(2:Int) ^ l < 2 ^ 64:=by
 have:(2:Nat) ^ l < 2 ^ 64:=Nat.pow_lt_pow_right (by decide) h
 exact_mod_cast this
section
variable {P:Program} {w:World} {K:PySem.W.Frag} {mg:Str->Option Value} {base:Heap} {a:Ad}
end
end J
namespace J
open PySem L2
seal L2.PA L2.PE L2.PS L2.PSs L2.PT L2.PW
theorem Ff (l:Nat):(2:Int) ^ (l+1)=2 ^ l+2 ^ l:=by rw [Int.pow_succ]; lia
def DW (x y w h r:Int):Prop:=-r<=x/\-r<=y/\x+w<=r/\y+h<=r
instance (x y w h r:Int):Decidable (DW x y w h r):=by unfold DW; infer_instance
theorem lies_b (x y w h r:Int):(decide (-r<=x) && (decide (-r<=y) && (decide (x+w<=r) && decide (y+h<=r))))=decide (DW x y w h r):=by
 rw [Bool.eq_iff_iff];simp only [Bool.and_eq_true,decide_eq_true_eq];exact Iff.rfl
structure Wid (G:Gv) (n f w:Nat):Prop where
 ex:∃ (q:Sq) (x y z v a b c d:Nat),Ch G n f q x y z v/\G[a]?=some ⟨[(bareN n:Int),(bareN n:Int),(bareN n:Int),(x:Int)],(n:Int)+1⟩/\G[b]?=some ⟨[(bareN n:Int),(bareN n:Int),(y:Int),(bareN n:Int)],(n:Int)+1⟩ /\
  G[c]?=some ⟨[(bareN n:Int),(z:Int),(bareN n:Int),(bareN n:Int)],(n:Int)+1⟩/\G[d]?=some ⟨[(v:Int),(bareN n:Int),(bareN n:Int),(bareN n:Int)],(n:Int)+1⟩/\G[w]?=some ⟨[(a:Int),(b:Int),(c:Int),(d:Int)],(n:Int)+2⟩
theorem Wid.lev {G:Gv} {n f w:Nat} (h:Wid G n f w):Al G w ((n+2:Nat):Int):=by
 obtain ⟨q,x,y,z,v,a,b,c,d,nd,ea,eb,ec,ed,ew⟩:=h.ex;exact ⟨_,ew,by show (n:Int)+2=_; lia⟩
theorem Wid.app {G G':Gv} {k n f w:Nat} (go:AM G G' k) (h:Wid G n f w):Wid G' n f w:=by
 obtain ⟨q,x,y,z,v,a,b,c,d,nd,ea,eb,ec,ed,ew⟩:=h.ex;exact ⟨q,x,y,z,v,a,b,c,d,nd.app go,go.get ea,go.get eb,go.get ec,go.get ed,go.get ew⟩
theorem DM {G r:Gv} (e:G=G0 ++ r) {n:Nat} (h:n<=48):Al G (bareN n) (n:Int):=by
 rw [e];exact (SU n h).app
theorem bareL_at' {l:Nat} (h:l<=48):((DO 48).map V.int)[l]?=some (.int (bareN l:Int)):=by
 unfold DO;rw [List.getElem?_map,List.getElem?_map,List.getElem?_range (by lia)];rfl
section
variable {P:Program} {w:World} {K:PySem.W.Frag} {mg:Str->Option Value} {base:Heap} {a:Ad}
inductive SpLie (vs:List V) (H:Hp) (Q:VK):Prop
 | mk (t:Addr) (x y w h r:Int) (_:vs=[.ref t,.int r]) (_:H t=some (.tup [.int x,.int y,.int w,.int h])) (_:Q (.bl (decide (DW x y w h r))) H):SpLie vs H Q
def Nv:Sp:=fun vs H Q _=>SpLie vs H Q
theorem ok_lie {f:Addr} {fd:FuncData} (F:Fun K "lies_within" "lies_within" Co f fd) (T:Top K mg a):AI P w K mg base CX0 1 f fd BS Nv:=by
 refine F.ok JB (fun vs H Q E h=>?_) (fun cdv A outer s H vs Q E hr h=>?_)
 ·obtain ⟨t,x,y,w,h,r,rfl,_⟩:=h;rfl
 ·obtain ⟨t,x,y,wd,hh,r,rfl,ht,k⟩:=h;rw [<-lies_b] at k;refine ⟨_,(Af (Ao (FD (CQ IO (LM Im (pv 1)) (Ax AC (pv 0) Ag (fun _ _=>rfl)) (Ay _)) (FD (CQ IO (LM Im (pv 1)) (Ax AC (pv 0) Ag (fun _ _=>rfl)) (Ay _)) (FD (CQ IO (AA Bm (Ax AC (pv 0) Ag (fun _ _=>rfl)) (Ax AC (pv 0) Ag (fun _ _=>rfl))) (pv 1) (Ay _)) (GN (CQ IO (AA Bm (Ax AC (pv 0) Ag (fun _ _=>rfl)) (Ax AC (pv 0) Ag (fun _ _=>rfl))) (pv 1) (Ay _)))))))),?_⟩
  try dsimp only [cxK]
  refine ⟨_,rfl,_,rfl,_,rfl,t,_,0,.int x,rfl,rfl,SqT.of ht,Ai (j:=0) rfl,_,_,rfl,rfl,Nj (fun _ Q1 q1=>?_) k⟩;refine ⟨_,rfl,_,rfl,_,rfl,t,_,1,.int y,rfl,rfl,SqT.of ht,Ai (j:=1) rfl,_,_,rfl,rfl,Nj (fun _ Q2 q2=>?_) q1⟩;refine ⟨_,rfl,t,_,0,.int x,rfl,rfl,SqT.of ht,Ai (j:=0) rfl,_,rfl,t,_,2,.int wd,rfl,rfl,SqT.of ht,Ai (j:=2) rfl,_,_,rfl,rfl,_,rfl,_,_,rfl,rfl,Nj (fun _ Q3 q3=>?_) q2⟩;exact ⟨_,rfl,t,_,1,.int y,rfl,rfl,SqT.of ht,Ai (j:=1) rfl,_,rfl,t,_,3,.int hh,rfl,rfl,SqT.of ht,Ai (j:=3) rfl,_,_,rfl,rfl,_,rfl,_,_,rfl,rfl,q3⟩
inductive Qa (a:Ad) (vs:List V) (H:Hp) (Q:VK):Prop
 | mk (g:GA) (G:Gv) (i n:Nat) (_:vs=[.ref g.p,.int i]) (_:AN a H g G) (_:Al G i ((n+1:Nat):Int)) (_:n < 48) (_:Q (.int (2 ^ n)) H):Qa a vs H Q
def Jo (a:Ad):Sp:=fun vs H Q _=>Qa a vs H Q
theorem Si {f:Addr} {fd:FuncData} (F:Fun K "reach_of" "reach_of" DP f fd) (T:Top K mg a) (aA:Cy P w K mg base CX0 3 a.c_Grove "level_of" AB (Fc a)):AI P w K mg base CX0 4 f fd DT (Jo a):=by
 refine F.ok NA (fun vs H Q E h=>?_) (fun cdv A outer s H vs Q E hr h=>?_)
 ·obtain ⟨g,G,i,n,rfl,_⟩:=h;rfl
 ·obtain ⟨g,G,i,n,rfl,hg,⟨q,e,el⟩,n48,k⟩:=h;refine ⟨_,(Af (Ao (AA FF Ag (AA Ga (AG (pv 0) aA (rm hr) Am (Aa (pv 1) Ac)) Ag)))),?_⟩
  try dsimp only [cxK]
  have en:q.lev=(n:Int)+1:=by rw [el]; lia
  refine ⟨_,rfl,g.p,g.dx,_,rfl,hg.hp,BI g,_,rfl,g,G,i,q,rfl,hg,e,_,_,rfl,rfl,_,_,rfl,rfl,⟨by lia,by lia,by decide⟩,?_⟩;show Q (.int (1 * 2 ^ (q.lev - 1).toNat)) H;rw [two_pow n en];exact k
inductive Qc (a:Ad) (vs:List V) (H:Hp) (Q:VK):Prop
 | mk (g:GA) (G:Gv) (_:vs=[.ref g.p]) (_:Bp a H g G) (_:Q (.int (bareN 1:Int)) H):Qc a vs H Q
def Mu (a:Ad):Sp:=fun vs H Q _=>Qc a vs H Q
theorem Sm {f:Addr} {fd:FuncData} (F:Fun K "bare_field" "bare_field" CJ f fd) (T:Top K mg a):AI P w K mg base CX0 1 f fd DD (Mu a):=by
 refine F.ok Lo (fun vs H Q E h=>?_) (fun cdv A outer s H vs Q E hr h=>?_)
 ·obtain ⟨g,G,rfl,_⟩:=h;rfl
 ·obtain ⟨g,G,rfl,fu,k⟩:=h;exact ⟨_,(Af (Ao (Ax AZ (Bv (pv 0) rfl) (Cw rfl T.k_LEAST_LEVEL) (fun _ _=>rfl)))),_,rfl,g.p,_,g.dx,_,_,rfl,fu.at'.hp,T.cl_Grove,T.na_Grove_bares,La g,g.br,_,1,.int (bareN 1:Int),rfl,rfl,SqL.of fu.br,Ai (j:=1) (bareL_at' (by lia)),k⟩
inductive SpWid (a:Ad) (vs:List V) (H:Hp) (Q:VK):Prop
 | mk (g:GA) (G:Gv) (f n:Nat) (_:vs=[.ref g.p,.int f]) (_:Bp a H g G) (_:Al G f ((n+1:Nat):Int)) (_:n < 47) (_:G.length < 8900000) (_:∀ (w:Nat) (G':Gv) (H':Hp),Fr g H H'->AN a H' g G'->AM G G' 5->Wid G' n f w->Q (.int w) H'):SpWid a vs H Q
def Rv (a:Ad):Sp:=fun vs H Q _=>SpWid a vs H Q
theorem ok_wid {f:Addr} {fd:FuncData} (F:Fun K "widened" "widened" Er f fd) (T:Top K mg a) (aA:Cy P w K mg base CX0 3 a.c_Grove "level_of" AB (Fc a)) (aB:Cy P w K mg base CX0 2 a.c_Grove "linked" Bf (GK a)):AI P w K mg base CX0 4 f fd Fj (Rv a):=by
 refine F.ok Fv (fun vs H Q E h=>?_) (fun cdv A outer s H vs Q E hr h=>?_)
 ·obtain ⟨g,G,f',n,rfl,_⟩:=h;rfl
 ·obtain ⟨g,G,f',n,rfl,fu,hl,n47,few,k⟩:=h;obtain ⟨q,x,y,z,v,nd⟩:=AO fu.ok hl;have lq:=nd.lev;obtain ⟨ts,h3,h4⟩:=fu.at'.pt;obtain ⟨t,et,ht⟩:=PairedM.get h4 nd.g;have ht:H t=some (.tup [.int x,.int y,.int z,.int v]):=by
   have ht:H t=some (.tup (q.parts.map V.int)):=ht;rw [nd.ps] at ht;exact ht
  obtain ⟨r,e0⟩:=fu.g0;have lb:=DM e0 (n:=n) (by lia);refine ⟨_,(Ab (Aj (i:=2) Fv.nd rfl (Or.inl rfl) (AG (pv 0) aA (rm hr) Am (Aa (pv 1) Ac))) (Ab (AH (PW.pt (Ej (Au GX (pv 2) (Cw rfl T.k_LEAST_LEVEL) (Ay _)) (Dx (Au De (pv 2) (Cw rfl T.k_TOP_LEVEL) (Ay _))))) (Af AS) Aw) (Ab (Aj (i:=3) Fv.nd rfl (Or.inl rfl) (Ax AZ (Bv (pv 0) rfl) (pv 1) (fun _ _=>rfl))) (Ab (Aj (i:=4) Fv.nd rfl (Or.inl rfl) (Ax AZ (Bv (pv 0) rfl) (AA Ga (pv 2) Ag) (fun _ _=>rfl))) (Af (Ao (AG (pv 0) aB (rm hr) Am (DA (Aa (AG (pv 0) aB (rm hr) Am (DA (Aa (pv 4) (Aa (pv 4) (Aa (pv 4) (Aa (Ax AC (pv 3) Ag (fun _ _=>rfl)) Ac)))) Ac)) (Aa (AG (pv 0) aB (rm hr) Am (DA (Aa (pv 4) (Aa (pv 4) (Aa (Ax AC (pv 3) Ag (fun _ _=>rfl)) (Aa (pv 4) Ac)))) Ac)) (Aa (AG (pv 0) aB (rm hr) Am (DA (Aa (pv 4) (Aa (Ax AC (pv 3) Ag (fun _ _=>rfl)) (Aa (pv 4) (Aa (pv 4) Ac)))) Ac)) (Aa (AG (pv 0) aB (rm hr) Am (DA (Aa (Ax AC (pv 3) Ag (fun _ _=>rfl)) (Aa (pv 4) (Aa (pv 4) (Aa (pv 4) Ac)))) Ac)) Ac)))) Ac)))))))),?_⟩
  try dsimp only [cxK]
  refine ⟨_,rfl,g.p,g.dx,_,rfl,fu.at'.hp,BI g,_,rfl,g,G,f',q,rfl,fu.at',nd.g,?_⟩;refine ⟨_,rfl,_,_,rfl,rfl,_,rfl,?_⟩;rw [decide_eq_false (by lia:¬ q.lev < 1)];refine Bb ⟨_,rfl,rfl,_,rfl,?_⟩;rw [decide_eq_false (by intro z; injection z with z; lia)];refine Bb ⟨_,rfl,g.p,_,g.dx,_,_,rfl,fu.at'.hp,T.cl_Grove,T.na_Grove_parts,FJ g,_,rfl,g.pt,_,(f':Int),.ref t,rfl,rfl,SqL.of h3,Ai (by rw [List.getElem?_map,et]; rfl),?_⟩;refine ⟨_,rfl,g.p,_,g.dx,_,_,rfl,fu.at'.hp,T.cl_Grove,T.na_Grove_bares,La g,_,rfl,_,_,rfl,rfl,g.br,_,q.lev - 1,.int (bareN n:Int),rfl,rfl,SqL.of fu.br,by rw [show q.lev - 1=(n:Int) by lia]; exact Ai (bareL_at' (by lia)),?_⟩;refine ⟨_,rfl,g.p,g.dx,_,rfl,fu.at'.hp,Dq g,?_⟩;refine ⟨_,rfl,g.p,g.dx,_,rfl,fu.at'.hp,Dq g,_,rfl,_,rfl,_,rfl,_,rfl,t,_,0,.int x,rfl,rfl,SqT.of ht,Ai (j:=0) rfl,(by show 4<=sizeLine; decide),fun t1 ht1=>?_⟩;have s1:=Ak (o:=.tup [.int (bareN n:Int),.int (bareN n:Int),.int (bareN n:Int),.int x]) ht1;refine ⟨g,G,t1,bareN n,bareN n,bareN n,x,(n:Int),rfl,fu.at'.same s1,fu.ok,Ah,⟨lb,lb,lb,nd.hx⟩,by lia,by lia,fun a1 G1 H1 fr1 hg1 go1 e1=>?_⟩;have f1:=(AE.fr s1).trans fr1;have htA:=f1.tup fu.at' ht;have n1:=go1.few;refine ⟨_,rfl,g.p,g.dx,_,rfl,hg1.hp,Dq g,_,rfl,_,rfl,_,rfl,t,_,1,.int y,rfl,rfl,SqT.of htA,Ai (j:=1) rfl,_,rfl,(by show 4<=sizeLine; decide),fun t2 ht2=>?_⟩;have s2:=Ak (o:=.tup [.int (bareN n:Int),.int (bareN n:Int),.int y,.int (bareN n:Int)]) ht2;refine ⟨g,G1,t2,bareN n,bareN n,y,bareN n,(n:Int),rfl,hg1.same s2,go1.ok,Ah,⟨go1.lev lb,go1.lev lb,go1.lev nd.hy,go1.lev lb⟩,by lia,by lia,fun a2 G2 H2 fr2 hg2 go2 e2=>?_⟩;have f2:=f1.trans ((AE.fr s2).trans fr2);have htB:=f2.tup fu.at' ht;have n2:=go2.few;have go12:=go1.trans go2;refine ⟨_,rfl,g.p,g.dx,_,rfl,hg2.hp,Dq g,_,rfl,_,rfl,t,_,2,.int z,rfl,rfl,SqT.of htB,Ai (j:=2) rfl,_,rfl,_,rfl,(by show 4<=sizeLine; decide),fun t3 ht3=>?_⟩;have s3:=Ak (o:=.tup [.int (bareN n:Int),.int z,.int (bareN n:Int),.int (bareN n:Int)]) ht3;refine ⟨g,G2,t3,bareN n,z,bareN n,bareN n,(n:Int),rfl,hg2.same s3,go2.ok,Ah,⟨go12.lev lb,go12.lev nd.hz,go12.lev lb,go12.lev lb⟩,by lia,by lia,fun a3 G3 H3 fr3 hg3 go3 e3=>?_⟩;have f3:=f2.trans ((AE.fr s3).trans fr3);have htC:=f3.tup fu.at' ht;have n3:=go3.few;have go13:=go12.trans go3;refine ⟨_,rfl,g.p,g.dx,_,rfl,hg3.hp,Dq g,_,rfl,t,_,3,.int v,rfl,rfl,SqT.of htC,Ai (j:=3) rfl,_,rfl,_,rfl,_,rfl,(by show 4<=sizeLine; decide),fun t4 ht4=>?_⟩;have s4:=Ak (o:=.tup [.int v,.int (bareN n:Int),.int (bareN n:Int),.int (bareN n:Int)]) ht4;refine ⟨g,G3,t4,v,bareN n,bareN n,bareN n,(n:Int),rfl,hg3.same s4,go3.ok,Ah,⟨go13.lev nd.hw,go13.lev lb,go13.lev lb,go13.lev lb⟩,by lia,by lia,fun a4 G4 H4 fr4 hg4 go4 e4=>?_⟩;have f4:=f3.trans ((AE.fr s4).trans fr4);have n4:=go4.few;have go14:=go13.trans go4;refine ⟨(by show 4<=sizeLine; decide),fun t5 ht5=>?_⟩;have s5:=Ak (o:=.tup [.int a1,.int a2,.int a3,.int a4]) ht5;have E1:=(go2.trans (go3.trans go4)).get e1;have E2:=(go3.trans go4).get e2;have E3:=go4.get e3;refine ⟨g,G4,t5,a1,a2,a3,a4,(n:Int)+1,rfl,hg4.same s5,go4.ok,Ah,⟨⟨_,E1,rfl⟩,⟨_,E2,rfl⟩,⟨_,E3,rfl⟩,⟨_,e4,rfl⟩⟩,by lia,by lia,fun w' G5 H5 fr5 hg5 go5 e5=>?_⟩;have go15:=go14.trans go5;exact k w' G5 H5 (f4.trans ((AE.fr s5).trans fr5)) hg5 go15 ⟨q,x,y,z,v,a1,a2,a3,a4,nd.app go15,go5.get E1,go5.get E2,go5.get E3,go5.get e4,by rw [e5,show (n:Int)+1+1=(n:Int)+2 by lia]⟩
end
end J
namespace J
open PySem L2
seal L2.PA L2.PE L2.PS L2.PSs L2.PT L2.PW
structure Jk (G:Gv) (n i:Nat) (qs:Nat->Nat) (ps:Nat->Nat->Nat):Prop where
 node:∃ q,Ch G (n+1) i q (qs 0) (qs 1) (qs 2) (qs 3)
 sub:∀ k,k < 4->∃ q,Ch G n (qs k) q (ps k 0) (ps k 1) (ps k 2) (ps k 3)
theorem Jk.app {G G':Gv} {k n i:Nat} {qs:Nat->Nat} {ps:Nat->Nat->Nat} (go:AM G G' k) (h:Jk G n i qs ps):Jk G' n i qs ps:=by
 obtain ⟨q,nd⟩:=h.node;exact ⟨⟨q,nd.app go⟩,fun k hk=>by obtain ⟨q,nd⟩:=h.sub k hk; exact ⟨q,nd.app go⟩⟩
def f4 (x y z w:Nat) (k:Nat):Nat:=match k with | 0=>x | 1=>y | 2=>z | _=>w
theorem deep_of {G:Gv} (ok:GOk G) {n i:Nat} (h:Al G i ((n+2:Nat):Int)):∃ qs ps,Jk G n i qs ps:=by
 obtain ⟨q,x,y,z,w,nd⟩:=AO ok (n:=n+1) h;obtain ⟨_,x0,x1,x2,x3,nx⟩:=AO ok nd.hx;obtain ⟨_,y0,y1,y2,y3,ny⟩:=AO ok nd.hy;obtain ⟨_,z0,z1,z2,z3,nz⟩:=AO ok nd.hz;obtain ⟨_,w0,w1,w2,w3,nw⟩:=AO ok nd.hw;refine ⟨f4 x y z w,fun k=>match k with | 0=>f4 x0 x1 x2 x3 | 1=>f4 y0 y1 y2 y3 | 2=>f4 z0 z1 z2 z3 | _=>f4 w0 w1 w2 w3,⟨q,nd⟩,fun k hk=>?_⟩
 match k,hk with
 | 0,_=>exact ⟨_,nx⟩
 | 1,_=>exact ⟨_,ny⟩
 | 2,_=>exact ⟨_,nz⟩
 | 3,_=>exact ⟨_,nw⟩
theorem Ch.nat {G:Gv} {n i:Nat} {q:Sq} {x y z w:Nat} (h:Ch G n i q x y z w) {j:Nat} (hj:j < 4):q.parts[j]?=some ((f4 x y z w j:Nat):Int)/\Al G (f4 x y z w j) n:=by
 rw [h.ps]
 match j,hj with
 | 0,_=>exact ⟨rfl,h.hx⟩
 | 1,_=>exact ⟨rfl,h.hy⟩
 | 2,_=>exact ⟨rfl,h.hz⟩
 | 3,_=>exact ⟨rfl,h.hw⟩
theorem IH (p:Nat->Nat) {j:Nat} (hj:j < 4):f4 (p 0) (p 1) (p 2) (p 3) j=p j:=by
 match j,hj with
 | 0,_=>rfl
 | 1,_=>rfl
 | 2,_=>rfl
 | 3,_=>rfl
def BA (n:Nat) (ps:Nat->Nat->Nat):Prop:=∀ k j,k < 4->j < 4->j+k≠3->ps k j=bareN n
def IZ (G:Gv):Nat->Nat->Nat->Prop
 | 0,_,_=>False
 | 1,f,r=>r=f
 | n+2,f,r=>∃ qs ps,Jk G n f qs ps/\((¬ BA n ps/\r=f)\/(BA n ps/\∃ m,G[m]?=some ⟨[(ps 0 3:Int),(ps 1 2:Int),(ps 2 1:Int),(ps 3 0:Int)],(n:Int)+1⟩/\IZ G (n+1) m r))
section
variable {P:Program} {w:World} {K:PySem.W.Frag} {mg:Str->Option Value} {base:Heap} {a:Ad}
theorem FE {H:Hp} {g:GA} {G:Gv} (h:AN a H g G) {n i:Nat} {q:Sq} {x y z w:Nat} (nd:Ch G n i q x y z w):∃ (ts:List Addr) (t:Addr),H g.pt=some (.lst (ts.map V.ref))/\(ts.map V.ref)[i]?=some (.ref t)/\H t=some (.tup [.int x,.int y,.int z,.int w]):=by
 obtain ⟨ts,h3,h4⟩:=h.pt;obtain ⟨t,et,ht⟩:=PairedM.get h4 nd.g;refine ⟨ts,t,h3,by rw [List.getElem?_map,et]; rfl,?_⟩;have ht:H t=some (.tup (q.parts.map V.int)):=ht;rw [nd.ps] at ht;exact ht
inductive SpMid (a:Ad) (vs:List V) (H:Hp) (Q:VK):Prop
 | mk (g:GA) (G:Gv) (i n:Nat) (qs:Nat->Nat) (ps:Nat->Nat->Nat) (_:vs=[.ref g.p,.int i]) (_:AN a H g G) (_:GOk G) (_:Jk G n i qs ps) (_:n < 47) (_:G.length < 8900000) (_:∀ (m:Nat) (G':Gv) (H':Hp),Fr g H H'->AN a H' g G'->AM G G' 1->G'[m]?=some ⟨[(ps 0 3:Int),(ps 1 2:Int),(ps 2 1:Int),(ps 3 0:Int)],(n:Int)+1⟩->Q (.int m) H'):SpMid a vs H Q
def RA (a:Ad):Sp:=fun vs H Q _=>SpMid a vs H Q
theorem ok_mid {f:Addr} {fd:FuncData} (F:Fun K "middle_of" "middle_of" Cz f fd) (T:Top K mg a) (aB:Cy P w K mg base CX0 2 a.c_Grove "linked" Bf (GK a)):AI P w K mg base CX0 3 f fd Ea (RA a):=by
 refine F.ok GR (fun vs H Q E h=>?_) (fun cdv A outer s H vs Q E hr h=>?_)
 ·obtain ⟨g,G,i,n,qs,ps,rfl,_⟩:=h;rfl
 ·obtain ⟨g,G,i,n,qs,ps,rfl,hg,ok,dp,n47,few,k⟩:=h;obtain ⟨q,nd⟩:=dp.node;obtain ⟨ts,t,h3,et,ht⟩:=FE hg nd;refine ⟨_,(Ab (JG (i:=2) rfl GR.nd rfl rfl (DX.of (So:=Ae Cz) (No:=IQ) (N:=["quarter","grove"]) (k:=1) (cs:=[0]) rfl rfl (by decide +kernel)) (RN (Ax AZ (Bv (pv 0) rfl) (pv 1) (fun _ _=>rfl))) (fun _ _ _=>(EI (i:=0) (by decide +kernel) rfl rfl)) (fun _ _ _=>Gp) (fun _ _ _=>(Ax (SN (K:=K) rfl) (pe_fldK (K:=K) rfl (pv 1) rfl) (pv 0) (fun _ _=>rfl)))) (Af (Ao (AG (pv 0) aB (rm hr) Am (DA (Aa (Ax AC (Ax AZ (pv 2) Ag (fun _ _=>rfl)) Ag (fun _ _=>rfl)) (Aa (Ax AC (Ax AZ (pv 2) Ag (fun _ _=>rfl)) Ag (fun _ _=>rfl)) (Aa (Ax AC (Ax AZ (pv 2) Ag (fun _ _=>rfl)) Ag (fun _ _=>rfl)) (Aa (Ax AC (Ax AZ (pv 2) Ag (fun _ _=>rfl)) Ag (fun _ _=>rfl)) Ac)))) Ac))))),?_⟩
  try dsimp only [cxK]
  refine ⟨_,rfl,g.p,_,g.dx,_,_,rfl,hg.hp,T.cl_Grove,T.na_Grove_parts,FJ g,_,rfl,g.pt,_,(i:Int),.ref t,rfl,rfl,SqL.of h3,Ai et,t,rfl,⟨_,SqT.of ht⟩,?_⟩;have sub:∀ k,k < 4->∃ tk,(ts.map V.ref)[qs k]?=some (.ref tk)/\H tk=some (.tup [.int (ps k 0),.int (ps k 1),.int (ps k 2),.int (ps k 3)]):=fun k hk=>by
   obtain ⟨qk,ndk⟩:=dp.sub k hk;obtain ⟨ts',tk,h3',et',ht'⟩:=FE hg ndk;rw [h3] at h3';have h3':=HO.lst.inj (Option.some.inj h3');exact ⟨tk,by rw [h3']; exact et',ht'⟩
  obtain ⟨t0,e0,p0⟩:=sub 0 (by decide);obtain ⟨t1,e1,p1⟩:=sub 1 (by decide);obtain ⟨t2,e2,p2⟩:=sub 2 (by decide);obtain ⟨t3,e3,p3⟩:=sub 3 (by decide);have all:∀ (j:Nat) (v:V),[V.int (qs 0:Int),V.int (qs 1:Int),V.int (qs 2:Int),V.int (qs 3:Int)][j]?=some v->∃ (k:Nat) (tk:Addr),v=.int (k:Int)/\(ts.map V.ref)[k]?=some (.ref tk)/\[V.ref t0,V.ref t1,V.ref t2,V.ref t3][j]?=some (.ref tk):=fun j v ev=>by
   match j,ev with
   | 0,ev=>cases ev; exact ⟨qs 0,t0,rfl,e0,rfl⟩
   | 1,ev=>cases ev; exact ⟨qs 1,t1,rfl,e1,rfl⟩
   | 2,ev=>cases ev; exact ⟨qs 2,t2,rfl,e2,rfl⟩
   | 3,ev=>cases ev; exact ⟨qs 3,t3,rfl,e3,rfl⟩
   | j+4,ev=>simp at ev
  refine PV (xs:=[.int (qs 0:Int),.int (qs 1:Int),.int (qs 2:Int),.int (qs 3:Int)]) (fun j acc H2=>H=H2/\acc=[V.ref t0,V.ref t1,V.ref t2,V.ref t3].take j) ⟨rfl,rfl⟩ (fun j acc H2 _ z=>z.1 ▸ SqT.of ht) ?_ ?_
  ·rintro j v acc H2 ev ⟨rfl,rfl⟩;obtain ⟨k',tk,rfl,ek,el⟩:=all j v ev;refine ⟨⟨[some (.int k')],rfl,rfl⟩,by rw [List.length_take]; exact Ed (by show min j 4 < 10000000; lia),Qi ⟨_,rfl,g.p,_,g.dx,_,_,rfl,hg.hp,T.cl_Grove,T.na_Grove_parts,FJ g,_,rfl,g.pt,_,(k':Int),.ref tk,rfl,rfl,SqL.of h3,Ai ek,rfl,?_⟩⟩;rw [List.take_add_one,el];rfl
  ·rintro acc H2 ⟨rfl,rfl⟩ L hL;have s1:=Ak (o:=.lst [V.ref t0,V.ref t1,V.ref t2,V.ref t3]) hL;have hL1:upd H L (.lst [V.ref t0,V.ref t1,V.ref t2,V.ref t3]) L=some (.lst [V.ref t0,V.ref t1,V.ref t2,V.ref t3]):=Ah;rw [show (List.take [V.int (qs 0:Int),V.int (qs 1:Int),V.int (qs 2:Int),V.int (qs 3:Int)].length [V.ref t0,V.ref t1,V.ref t2,V.ref t3])=[V.ref t0,V.ref t1,V.ref t2,V.ref t3] from rfl];generalize upd H L (.lst [V.ref t0,V.ref t1,V.ref t2,V.ref t3])=H1 at s1 hL1 ⊢;have hg1:=hg.same s1;refine ⟨_,rfl,g.p,g.dx,_,rfl,hg1.hp,Dq g,_,rfl,L,_,0,.ref t0,rfl,rfl,SqL.of hL1,Ai (j:=0) rfl,t0,_,3,.int (ps 0 3),rfl,rfl,SqT.of (s1 _ _ p0),Ai (j:=3) rfl,_,rfl,L,_,1,.ref t1,rfl,rfl,SqL.of hL1,Ai (j:=1) rfl,t1,_,2,.int (ps 1 2),rfl,rfl,SqT.of (s1 _ _ p1),Ai (j:=2) rfl,?_⟩;refine ⟨_,rfl,L,_,2,.ref t2,rfl,rfl,SqL.of hL1,Ai (j:=2) rfl,t2,_,1,.int (ps 2 1),rfl,rfl,SqT.of (s1 _ _ p2),Ai (j:=1) rfl,_,rfl,L,_,3,.ref t3,rfl,rfl,SqL.of hL1,Ai (j:=3) rfl,t3,_,0,.int (ps 3 0),rfl,rfl,SqT.of (s1 _ _ p3),Ai (j:=0) rfl,(by show 4<=sizeLine; decide),fun t4 ht4=>?_⟩;have s2:=Ak (o:=.tup [.int (ps 0 3),.int (ps 1 2),.int (ps 2 1),.int (ps 3 0)]) ht4;obtain ⟨_,n0⟩:=dp.sub 0 (by decide);obtain ⟨_,n1⟩:=dp.sub 1 (by decide);obtain ⟨_,n2⟩:=dp.sub 2 (by decide);obtain ⟨_,n3⟩:=dp.sub 3 (by decide);exact ⟨g,G,t4,ps 0 3,ps 1 2,ps 2 1,ps 3 0,(n:Int),rfl,hg1.same s2,ok,Ah,⟨n0.hw,n1.hz,n2.hy,n3.hx⟩,by lia,by lia,fun m G' H' fr hg' go e=>k m G' H' ((AE.fr s1).trans ((AE.fr s2).trans fr)) hg' go e⟩
inductive SpBA (a:Ad) (vs:List V) (H:Hp) (Q:VK):Prop
 | mk (g:GA) (G:Gv) (i n:Nat) (qs:Nat->Nat) (ps:Nat->Nat->Nat) (_:vs=[.ref g.p,.int i]) (_:Bp a H g G) (_:Jk G n i qs ps) (_:n < 47) (_:(BA n ps->∀ H',AE H H'->Q (.bl true) H')) (_:(¬ BA n ps->∀ H',AE H H'->Q (.bl false) H')):SpBA a vs H Q
def spBA (a:Ad):Sp:=fun vs H Q _=>SpBA a vs H Q
theorem ok_ba {f:Addr} {fd:FuncData} (F:Fun K "is_bare_around" "is_bare_around" BB f fd) (T:Top K mg a):AI P w K mg base CX0 1 f fd Cb (spBA a):=by
 refine F.ok Bu (fun vs H Q E h=>?_) (fun cdv A outer s H vs Q E hr h=>?_)
 ·obtain ⟨g,G,i,n,qs,ps,rfl,_⟩:=h;rfl
 ·obtain ⟨g,G,i,n,qs,ps,rfl,fu,dp,n47,k1,k2⟩:=h;obtain ⟨q,nd⟩:=dp.node;have lq:=nd.lev;obtain ⟨ts,t,h3,et,ht⟩:=FE fu.at' nd;refine ⟨_,(Ab (Aj (i:=2) Bu.nd rfl (Or.inl rfl) (Ax AZ (Bv (pv 0) rfl) (AA Ga (Ax AZ (Bv (pv 0) rfl) (pv 1) (fun _ _=>rfl)) Ag) (fun _ _=>rfl))) (Ab (Dy PassesOwn.never rfl (Gq true rfl T.b_enumerate (Aa (Ax AZ (Bv (pv 0) rfl) (pv 1) (fun _ _=>rfl)) Ac)) (FB rfl (Be (AY (i:=3) Bu.nd rfl (Or.inl rfl)) (Be (AY (i:=4) Bu.nd rfl (Or.inl rfl)) El))) (Af (Dy PassesOwn.never rfl (Gq true rfl T.b_enumerate (Aa (Ax AZ (Bv (pv 0) rfl) (pv 4) (fun _ _=>rfl)) Ac)) (FB rfl (Be (AY (i:=5) Bu.nd rfl (Or.inl rfl)) (Be (AY (i:=6) Bu.nd rfl (Or.inl rfl)) El))) (Af (AH (PW.pt (MA (Au IN (pv 6) (pv 2) (Ay _)) (Jp (Au IN (pv 5) (AA Ga Ag (pv 3)) (Ay _))))) (Af (Ao FY)) Aw))))) (Af (Ao FY)))),?_⟩
  try dsimp only [cxK]
  refine ⟨_,rfl,g.p,_,g.dx,_,_,rfl,fu.at'.hp,T.cl_Grove,T.na_Grove_bares,La g,_,rfl,g.p,_,g.dx,_,_,rfl,fu.at'.hp,T.cl_Grove,T.na_Grove_levels,Gh g,_,rfl,g.lv,_,(i:Int),.int q.lev,rfl,rfl,SqL.of fu.at'.lv,Ai (by rw [List.getElem?_map,nd.g]; rfl),_,_,rfl,rfl,g.br,_,q.lev - 2,.int (bareN n:Int),rfl,rfl,SqL.of fu.br,by rw [show q.lev - 2=(n:Int) by lia]; exact Ai (bareL_at' (by lia)),?_⟩;refine ⟨_,rfl,g.p,_,g.dx,_,_,rfl,fu.at'.hp,T.cl_Grove,T.na_Grove_parts,FJ g,_,rfl,g.pt,_,(i:Int),.ref t,rfl,rfl,SqL.of h3,Ai et,t,rfl,⟨_,SqT.of ht⟩,?_⟩;refine Gf (b:=true) (xs:=[.int (qs 0:Int),.int (qs 1:Int),.int (qs 2:Int),.int (qs 3:Int)]) (fun j σ H2=>AE H H2/\(∃ u3 u4 u5 u6:Option V,σ=[some (.ref g.p),some (.int i),some (.int (bareN n:Int)),u3,u4,u5,u6])/\∀ k' j',k' < j->k' < 4->j' < 4->j'+k'≠3->ps k' j'=bareN n) ⟨AE.refl H,⟨none,none,none,none,rfl⟩,fun k' j' h=>absurd h (Nat.not_lt_zero _)⟩ (fun j σ H2 _ z=>SqT.of (z.1 _ _ ht)) ?_ ?_
  ·rintro j v σ H2 T' ev ⟨sm,⟨u3,u4,u5,u6,rfl⟩,al⟩ nT;have hj:j < 4:=(List.getElem?_eq_some_iff.mp ev).1;have ev':v=.int (qs j:Int):=by
    match j,hj,ev with
    | 0,_,ev=>cases ev; rfl
    | 1,_,ev=>cases ev; rfl
    | 2,_,ev=>cases ev; rfl
    | 3,_,ev=>cases ev; rfl
   subst ev';obtain ⟨qk,ndk⟩:=dp.sub j hj;have s2:=sm.trans (Ak (o:=.tup [.int j,.int (qs j)]) nT);refine IT Ah ?_;generalize upd H2 T' (.tup [.int j,.int (qs j)])=H3 at s2 ⊢;obtain ⟨ts3,t3,h33,et3,ht3⟩:=FE (fu.at'.same s2) ndk;refine ⟨_,rfl,g.p,_,g.dx,_,_,rfl,(fu.at'.same s2).hp,T.cl_Grove,T.na_Grove_parts,FJ g,_,rfl,g.pt,_,(qs j:Int),.ref t3,rfl,rfl,SqL.of h33,Ai et3,t3,rfl,⟨_,SqT.of ht3⟩,?_⟩;refine Gf (b:=true) (xs:=[.int (ps j 0:Int),.int (ps j 1:Int),.int (ps j 2:Int),.int (ps j 3:Int)]) (fun j2 σ H4=>AE H3 H4/\(∃ u5 u6:Option V,σ=[some (.ref g.p),some (.int i),some (.int (bareN n:Int)),some (.int j),some (.int (qs j)),u5,u6])/\∀ j',j' < j2->j' < 4->j'+j≠3->ps j j'=bareN n) ⟨AE.refl H3,⟨_,_,rfl⟩,fun j' h=>absurd h (Nat.not_lt_zero _)⟩ (fun j2 σ H4 _ z=>SqT.of (z.1 _ _ ht3)) ?_ ?_
   ·rintro j2 v σ H4 T2 ev ⟨sm2,⟨u5,u6,rfl⟩,al2⟩ nT2;have hj2:j2 < 4:=(List.getElem?_eq_some_iff.mp ev).1;have ev':v=.int (ps j j2:Int):=by
     match j2,hj2,ev with
     | 0,_,ev=>cases ev; rfl
     | 1,_,ev=>cases ev; rfl
     | 2,_,ev=>cases ev; rfl
     | 3,_,ev=>cases ev; rfl
    subst ev';have s4:=sm2.trans (Ak (o:=.tup [.int j2,.int (ps j j2)]) nT2);refine IT Ah ?_;generalize upd H4 T2 (.tup [.int j2,.int (ps j j2)])=H5 at s4 ⊢;refine ⟨_,rfl,_,rfl,rfl,_,rfl,?_⟩;refine Rp (b2:=!decide (V.int (j2:Int)=V.int (3 - (j:Int)))) (fun _ Q' q=>⟨_,rfl,_,rfl,_,_,rfl,rfl,rfl,_,rfl,q⟩) ?_;refine Jg (fun hc=>?_) (fun hc=>?_)
    ·refine k2 (fun ba=>?_) H5 (s2.trans s4);rw [Bool.and_eq_true] at hc;have c2:¬ j2+j=3:=fun z=>by
      have:=hc.2;rw [decide_eq_true (show V.int (j2:Int)=V.int (3 - (j:Int)) by congr 1; lia)] at this;cases this
     have c1:=hc.1;rw [ba j j2 hj hj2 c2,decide_eq_true rfl] at c1;cases c1
    ·refine ⟨s4,⟨_,_,rfl⟩,fun j' h1 h2 h3'=>?_⟩;rcases Nat.lt_succ_iff_lt_or_eq.mp h1 with h | h
     ·exact al2 j' h h2 h3'
     ·subst h;refine Classical.byContradiction fun z=>hc ?_;rw [decide_eq_false (show ¬ V.int (ps j j':Int)=V.int (bareN n:Int) by intro q; injection q with q; exact z (Int.ofNat.inj q)),decide_eq_false (show ¬ V.int (j':Int)=V.int (3 - (j:Int)) by intro q; injection q with q; lia)];rfl
   ·rintro σ H4 ⟨sm2,⟨u5,u6,rfl⟩,al2⟩;refine ⟨s2.trans sm2,⟨_,_,_,_,rfl⟩,fun k' j' h1 h2 h3' h4=>?_⟩;rcases Nat.lt_succ_iff_lt_or_eq.mp h1 with h | h
    ·exact al k' j' h h2 h3' h4
    ·subst h;exact al2 j' h3' h3' h4
  ·rintro σ H2 ⟨sm,⟨u3,u4,u5,u6,rfl⟩,al⟩;exact k1 (fun k' j' h1 h2 h3'=>al k' j' h1 h1 h2 h3') H2 sm
end
end J
namespace J
open PySem L2
seal L2.PA L2.PE L2.PS L2.PSs L2.PT L2.PW
section
variable {P:Program} {w:World} {K:PySem.W.Frag} {mg:Str->Option Value} {base:Heap} {a:Ad}
inductive To (a:Ad) (vs:List V) (H:Hp) (Q:VK):Prop
 | mk (g:GA) (G:Gv) (f n:Nat) (_:vs=[.ref g.p,.int f]) (_:Bp a H g G) (_:Al G f ((n+1:Nat):Int)) (_:G.length < 8800000) (_:∀ (r:Nat) (G':Gv) (H':Hp),Fr g H H'->Bp a H' g G'->AM G G' 48->IZ G' (n+1) f r->Q (.int r) H'):To a vs H Q
def Mq (a:Ad):Sp:=fun vs H Q _=>To a vs H Q
theorem ok_trim {f:Addr} {fd:FuncData} (F:Fun K "trimmed" "trimmed" Es f fd) (T:Top K mg a) (aA:Cy P w K mg base CX0 3 a.c_Grove "level_of" AB (Fc a)) (aV:Cal P w K mg base CX0 1 "is_bare_around" Cb (spBA a)) (cW:Cal P w K mg base CX0 3 "middle_of" Ea (RA a)):AI P w K mg base CX0 4 f fd Ev (Mq a):=by
 refine F.ok GL (fun vs H Q E h=>?_) (fun cdv A outer s H vs Q E hr h=>?_)
 ·obtain ⟨g,G,f',n,rfl,_⟩:=h;rfl
 ·obtain ⟨g,G,f',n,rfl,fu,hl,few,k⟩:=h;obtain ⟨q,eq,lq⟩:=id hl;have n48:n+1<=48:=by have:=(fu.ok.lev eq).2; lia
  refine ⟨_,(Ab (AH (Au GX (AG (pv 0) aA (rm hr) Am (Aa (pv 1) Ac)) (Cw rfl T.k_LEAST_LEVEL) (Ay _)) (Af AS) Aw) (Ab (Aj (i:=2) GL.nd rfl (Or.inl rfl) (pv 1)) (Ab (NG PassesOwn.never (PW.pt (MA (Au Fl (Ax AZ (Bv (pv 0) rfl) (pv 2) (fun _ _=>rfl)) (Cw rfl T.k_LEAST_LEVEL) (Ay _)) (Jp (BJ (Ap aV (rm hr) rfl Am (Aa (pv 0) (Aa (pv 2) Ac))))))) (Af (Aj (i:=2) GL.nd rfl (Or.inl rfl) (Ap cW (rm hr) rfl Am (Aa (pv 0) (Aa (pv 2) Ac)))))) (Af (Ao (pv 2)))))),?_⟩
  try dsimp only [cxK]
  refine ⟨_,rfl,g.p,g.dx,_,rfl,fu.at'.hp,BI g,_,rfl,g,G,f',q,rfl,fu.at',eq,_,_,rfl,rfl,_,rfl,?_⟩;rw [decide_eq_false (by lia:¬ q.lev < 1)];refine Bb ⟨_,rfl,?_⟩;refine ⟨fun m σ H2=>∃ (G':Gv) (c:Nat),σ=[some (.ref g.p),some (.int f'),some (.int c)]/\Fr g H H2/\Bp a H2 g G'/\AM G G' (n - m)/\m<=n/\Al G' c ((m+1:Nat):Int)/\∀ (r:Nat) (G'':Gv) (k:Nat),AM G' G'' k->IZ G'' (m+1) c r->IZ G'' (n+1) f' r,⟨n,G,f',rfl,Fr.refl g H,fu,(AM.refl fu.ok).mono (by lia),Nat.le_refl _,hl,fun _ _ _ _ h=>h⟩,?_⟩;rintro m σ H2 ⟨G',c,rfl,fr,fu2,go,mn,lc,tr⟩;have gf:=go.few;obtain ⟨qc,ec,lqc⟩:=id lc;refine ⟨_,rfl,g.p,_,g.dx,_,_,rfl,fu2.at'.hp,T.cl_Grove,T.na_Grove_levels,Gh g,_,rfl,g.lv,_,(c:Int),.int qc.lev,rfl,rfl,SqL.of fu2.at'.lv,Ai (by rw [List.getElem?_map,ec]; rfl),_,_,rfl,rfl,_,rfl,?_⟩;cases m with
  | zero =>
   rw [decide_eq_false (by lia:¬ (1:Int) < qc.lev)];exact Bb (Bb ⟨_,rfl,k c G' H2 fr fu2 (go.mono (by lia)) (tr c G' 0 (AM.refl fu2.ok) rfl)⟩)
  | succ m =>
   rw [decide_eq_true (by lia:(1:Int) < qc.lev)];obtain ⟨qs,ps,dp⟩:=deep_of fu2.ok lc;refine Cg ⟨_,rfl,_,rfl,g,G',c,m,qs,ps,rfl,fu2,dp,by lia,fun ba H3 s3=>⟨true,rfl,Cg ?_⟩,fun nba H3 s3=>⟨false,rfl,Bb ?_⟩⟩
   ·refine ⟨fun σ' H'=>∃ (G2:Gv) (c2:Nat),σ'=[some (.ref g.p),some (.int f'),some (.int c2)]/\Fr g H H'/\Bp a H' g G2/\AM G G2 (n - m)/\m<=n/\Al G2 c2 ((m+1:Nat):Int)/\∀ (r:Nat) (G'':Gv) (k:Nat),AM G2 G'' k->IZ G'' (m+1) c2 r->IZ G'' (n+1) f' r,fun σ' H' z=>⟨m,by lia,z⟩,?_⟩;refine ⟨_,rfl,_,rfl,g,G',c,m,qs,ps,rfl,fu2.at'.same s3,fu2.ok,dp,by lia,by lia,fun c2 G2 H4 fr4 hg4 go4 e4=>?_⟩;have fu4:=(fu2.same s3).fr fr4 hg4 go4;refine ⟨G2,c2,rfl,fr.trans ((AE.fr s3).trans fr4),fu4,(go.trans go4).mono (by lia),by lia,⟨_,e4,by show (m:Int)+1=_; lia⟩,fun r G'' k' go5 t5=>?_⟩;exact tr r G'' _ (go4.trans go5) ⟨qs,ps,dp.app (go4.trans go5),.inr ⟨ba,c2,go5.get e4,t5⟩⟩
   ·exact ⟨_,rfl,k c G' H3 (fr.trans (AE.fr s3)) (fu2.same s3) (go.mono (by lia)) (tr c G' 0 (AM.refl fu2.ok) ⟨qs,ps,dp,.inl ⟨nba,rfl⟩⟩)⟩
def Li (G:Gv) (n f:Nat):Nat->Nat->Prop
 | 0,w=>w=f
 | k+1,w=>∃ u,Li G n f k u/\Wid G (n+k) u w
theorem Li.app {G G':Gv} {m n f:Nat} (go:AM G G' m):∀ {k w:Nat},Li G n f k w->Li G' n f k w
 | 0,_,h=>h
 | k+1,w,h=>by
  obtain ⟨u,h1,h2⟩:=h;exact ⟨u,Li.app go h1,h2.app go⟩
inductive SpWO (a:Ad) (vs:List V) (H:Hp) (Q:VK):Prop
 | mk (g:GA) (G:Gv) (f n:Nat) (t:Addr) (x y wd ht:Int) (_:vs=[.ref g.p,.int f,.ref t]) (_:Bp a H g G) (_:Al G f ((n+1:Nat):Int)) (_:n<=40) (_:H t=some (.tup [.int x,.int y,.int wd,.int ht])) (_:DW x y wd ht (2 ^ 40)) (_:G.length < 8700000) (_:∀ (k w:Nat) (G':Gv) (H':Hp),Fr g H H'->Bp a H' g G'->AM G G' (5 * k)->n+k<=40->Li G' n f k w->Al G' w ((n+k+1:Nat):Int)->DW x y wd ht (2 ^ (n+k))->(∀ j,j < k->¬ DW x y wd ht (2 ^ (n+j)))->Q (.int w) H'):SpWO a vs H Q
def spWO (a:Ad):Sp:=fun vs H Q _=>SpWO a vs H Q
theorem ok_wo {f:Addr} {fd:FuncData} (F:Fun K "widened_over" "widened_over" BU f fd) (T:Top K mg a) (aF:Cal P w K mg base CX0 1 "lies_within" BS Nv) (aU:Cal P w K mg base CX0 4 "reach_of" DT (Jo a)) (eA:Cal P w K mg base CX0 4 "widened" Fj (Rv a)):AI P w K mg base CX0 5 f fd BZ (spWO a):=by
 refine F.ok Ee (fun vs H Q E h=>?_) (fun cdv A outer s H vs Q E hr h=>?_)
 ·obtain ⟨g,G,f',n,t,x,y,wd,ht,rfl,_⟩:=h;rfl
 ·obtain ⟨g,G,f',n,t,x,y,wd,hh,rfl,fu,hl,n40,ht,li,few,k⟩:=h;refine ⟨_,(Ab (Aj (i:=3) Ee.nd rfl (Or.inl rfl) (pv 1)) (Ab (NG PassesOwn.never (Ce (BJ (Ap aF (rm hr) rfl Am (Aa (pv 2) (Aa (Ap aU (rm hr) rfl Am (Aa (pv 0) (Aa (pv 3) Ac))) Ac))))) (Af (Aj (i:=3) Ee.nd rfl (Or.inl rfl) (Ap eA (rm hr) rfl Am (Aa (pv 0) (Aa (pv 3) Ac)))))) (Af (Ao (pv 3))))),?_⟩
  try dsimp only [cxK]
  refine ⟨_,rfl,?_⟩;refine ⟨fun m σ H2=>∃ (G':Gv) (c j:Nat),σ=[some (.ref g.p),some (.int f'),some (.ref t),some (.int c)]/\Fr g H H2/\Bp a H2 g G'/\AM G G' (5 * j)/\n+j+m=40/\Al G' c ((n+j+1:Nat):Int)/\Li G' n f' j c/\∀ i,i < j->¬ DW x y wd hh (2 ^ (n+i)),⟨40 - n,G,f',0,rfl,Fr.refl g H,fu,AM.refl fu.ok,by lia,hl,rfl,fun i hi=>absurd hi (Nat.not_lt_zero _)⟩,?_⟩;rintro m σ H2 ⟨G',c,j,rfl,fr,fu2,go,e40,lc,wn,no⟩;have gf:=go.few;have ht2:=fr.tup fu.at' ht;refine ⟨_,rfl,_,rfl,_,rfl,g,G',c,n+j,rfl,fu2.at',lc,by lia,t,x,y,wd,hh,_,rfl,ht2,_,rfl,?_⟩;by_cases hL:DW x y wd hh (2 ^ (n+j))
  ·rw [decide_eq_true hL];exact Bb ⟨_,rfl,k j c G' H2 fr fu2 go (by lia) wn lc hL no⟩
  ·rw [decide_eq_false hL];have m0:m≠0:=fun z=>by
    subst z;have:n+j=40:=by lia
    rw [this] at hL;exact hL li
   refine Cg ⟨fun σ' H'=>∃ (G2:Gv) (c2 j2:Nat),σ'=[some (.ref g.p),some (.int f'),some (.ref t),some (.int c2)]/\Fr g H H'/\Bp a H' g G2/\AM G G2 (5 * j2)/\n+j2+(m - 1)=40/\Al G2 c2 ((n+j2+1:Nat):Int)/\Li G2 n f' j2 c2/\∀ i,i < j2->¬ DW x y wd hh (2 ^ (n+i)),fun σ' H' z=>⟨m - 1,by lia,z⟩,?_⟩;refine ⟨_,rfl,_,rfl,g,G',c,n+j,rfl,fu2,lc,by lia,by lia,fun c2 G2 H3 fr3 hg3 go3 wi=>?_⟩;refine ⟨G2,c2,j+1,rfl,fr.trans fr3,fu2.fr fr3 hg3 go3,(go.trans go3).mono (by lia),by lia,?_,⟨c,wn.app go3,wi⟩,fun i hi=>?_⟩
   ·have:=wi.lev;rw [show n+(j+1)+1=n+j+2 by lia];exact this
   ·rcases Nat.lt_succ_iff_lt_or_eq.mp hi with h | h
    ·exact no i h
    ·rw [h];exact hL
end
end J
namespace J
open PySem L2
def CY (l x y:Nat):Nat:=x / 2 ^ l+2 * (y / 2 ^ l)
theorem FI {l x:Nat} (h:x < 2 ^ (l+1)):x / 2 ^ l < 2:=by
 rw [Nat.div_lt_iff_lt_mul (Nat.pow_pos (by decide)),Nat.mul_comm,<-Nat.pow_succ];exact h
theorem Fz {l x y:Nat} (hx:x < 2 ^ (l+1)) (hy:y < 2 ^ (l+1)):CY l x y < 4:=by
 have h1:=FI hx;have h2:=FI hy;unfold CY;lia
theorem FU (l:Nat):((2 ^ l:Nat):Int)=(2:Int) ^ l:=Int.natCast_pow 2 l
section
variable {P:Program} {w:World} {K:PySem.W.Frag} {mg:Str->Option Value} {base:Heap} {a:Ad}
end
end J
namespace J
open PySem L2
section
variable {P:Program} {w:World} {K:PySem.W.Frag} {mg:Str->Option Value} {base:Heap} {a:Ad}
end
def Jj (G:Gv) (n f:Nat):Prop:=n=0\/∃ m qs ps,n=m+1/\Jk G m f qs ps/\¬ BA m ps
theorem Jj.app {G G':Gv} {k n f:Nat} (go:AM G G' k) (h:Jj G n f):Jj G' n f:=by
 rcases h with h | ⟨m,qs,ps,e,d,b⟩
 ·exact .inl h
 ·exact .inr ⟨m,qs,ps,e,d.app go,b⟩
end J
namespace J
open PySem L2
def cellF (G:Gv):Nat->Nat->Nat->Nat->Nat
 | 0,i,_,_=>i
 | n+1,i,x,y=>match G[i]? with
  | some q=>cellF G n (q.parts.getD (CY n x y) 0).toNat (x % 2 ^ n) (y % 2 ^ n)
  | none=>0
theorem Bg (n:Nat):0 < 2 ^ n:=Nat.pow_pos (by decide)
theorem AW {G:Gv} {n i:Nat} {q:Sq} {a b c d:Nat} (h:Ch G n i q a b c d) {x y:Nat} (hx:x < 2 ^ (n+1)) (hy:y < 2 ^ (n+1)):cellF G (n+1) i x y=cellF G n (f4 a b c d (CY n x y)) (x % 2 ^ n) (y % 2 ^ n):=by
 rw [show cellF G (n+1) i x y=(match G[i]? with | some q=>cellF G n (q.parts.getD (CY n x y) 0).toNat (x % 2 ^ n) (y % 2 ^ n) | none=>0) from rfl,h.g];show cellF G n (q.parts.getD (CY n x y) 0).toNat _ _=_;have:=(h.nat (Fz hx hy)).1;rw [List.getD_eq_getElem?_getD,this];rfl
theorem Gk {G G':Gv} {k:Nat} (ok:GOk G) (go:AM G G' k):∀ {n i x y:Nat},Al G i (n:Int)->x < 2 ^ n->y < 2 ^ n->cellF G' n i x y=cellF G n i x y
 | 0,_,_,_,_,_,_=>rfl
 | n+1,i,x,y,h,hx,hy=>by
  obtain ⟨q,a,b,c,d,nd⟩:=AO ok h;rw [AW nd hx hy,AW (nd.app go) hx hy];exact Gk ok go (nd.nat (Fz hx hy)).2 (Nat.mod_lt _ (Bg n)) (Nat.mod_lt _ (Bg n))
theorem EC {G r:Gv} (e:G=G0 ++ r) (ok:GOk G):∀ {n x y:Nat},n<=48->x < 2 ^ n->y < 2 ^ n->cellF G n (bareN n) x y=0
 | 0,_,_,_,_,_=>rfl
 | n+1,x,y,hn,hx,hy=>by
  obtain ⟨q,a,b,c,d,nd⟩:=AO ok (DM e (n:=n+1) hn);have bn:a=bareN n/\b=bareN n/\c=bareN n/\d=bareN n:=by
   have g:=nd.g;rw [show bareN (n+1)=8+n from rfl,OX e n (by lia)] at g;cases g;have s:[(bareN n:Int),(bareN n:Int),(bareN n:Int),(bareN n:Int)]=[(a:Int),(b:Int),(c:Int),(d:Int)]:=nd.ps;injection s with s0 s
   injection s with s1 s
   injection s with s2 s
   injection s with s3 s
   exact ⟨(Int.ofNat.inj s0).symm,(Int.ofNat.inj s1).symm,(Int.ofNat.inj s2).symm,(Int.ofNat.inj s3).symm⟩
  obtain ⟨rfl,rfl,rfl,rfl⟩:=bn;rw [AW nd hx hy];have:f4 (bareN n) (bareN n) (bareN n) (bareN n) (CY n x y)=bareN n:=by unfold f4; split<;>rfl
  rw [this];exact EC e ok (by lia) (Nat.mod_lt _ (Bg n)) (Nat.mod_lt _ (Bg n))
theorem EL {n k x y:Nat} (hk:k < 4) (hx:x < 2 ^ n) (hy:y < 2 ^ n):(x+2 ^ n * (k % 2)) < 2 ^ (n+1)/\(y+2 ^ n * (k / 2)) < 2 ^ (n+1)/\CY n (x+2 ^ n * (k % 2)) (y+2 ^ n * (k / 2))=k/\(x+2 ^ n * (k % 2)) % 2 ^ n=x/\(y+2 ^ n * (k / 2)) % 2 ^ n=y:=by
 have p:=Bg n;have e:2 ^ (n+1)=2 * 2 ^ n:=by rw [Nat.pow_succ]; lia
 unfold CY;rw [Nat.add_mul_div_left _ _ p,Nat.add_mul_div_left _ _ p,Nat.add_mul_mod_self_left,Nat.add_mul_mod_self_left,Nat.div_eq_of_lt hx,Nat.div_eq_of_lt hy,Nat.mod_eq_of_lt hx,Nat.mod_eq_of_lt hy,e];generalize 2 ^ n=h at *
 match k,hk with
 | 0,_=>exact ⟨by lia,by lia,rfl,rfl,rfl⟩
 | 1,_=>exact ⟨by lia,by lia,rfl,rfl,rfl⟩
 | 2,_=>exact ⟨by lia,by lia,rfl,rfl,rfl⟩
 | 3,_=>exact ⟨by lia,by lia,rfl,rfl,rfl⟩
theorem EB {G:Gv} (ok:GOk G):∀ {n i j:Nat},Al G i (n:Int)->Al G j (n:Int)->(∀ x y,x < 2 ^ n->y < 2 ^ n->cellF G n i x y=cellF G n j x y)->i=j
 | 0,i,j,_,_,h=>h 0 0 (by decide) (by decide)
 | n+1,i,j,hi,hj,h=>by
  obtain ⟨q,a,b,c,d,nd⟩:=AO ok hi;obtain ⟨q',a',b',c',d',nd'⟩:=AO ok hj;have key:∀ k,k < 4->f4 a b c d k=f4 a' b' c' d' k:=fun k hk=>by
   refine EB ok (nd.nat hk).2 (nd'.nat hk).2 fun x y hx hy=>?_;obtain ⟨h1,h2,h3,h4,h5⟩:=EL hk hx hy;have:=h _ _ h1 h2;rw [AW nd h1 h2,AW nd' h1 h2,h3,h4,h5] at this;exact this
  have k0:a=a':=key 0 (by decide);have k1:b=b':=key 1 (by decide);have k2:c=c':=key 2 (by decide);have k3:d=d':=key 3 (by decide);subst k0 k1 k2 k3;exact ok.one nd.g nd'.g (nd.ps.trans nd'.ps.symm)
def AQ (G:Gv) (n f:Nat) (x y:Int):Nat:=if -(2 ^ n)<=x/\x < 2 ^ n/\-(2 ^ n)<=y/\y < 2 ^ n then cellF G (n+1) f (x+2 ^ n).toNat (y+2 ^ n).toNat else 0
theorem FQ {n:Nat} {x:Int} (h0:-(2 ^ n)<=x) (h1:x < 2 ^ n):(x+2 ^ n).toNat < 2 ^ (n+1):=by
 have e:=FU (n+1);rw [Ff] at e;lia
theorem Fo {G G':Gv} {k n f:Nat} (ok:GOk G) (go:AM G G' k) (h:Al G f ((n+1:Nat):Int)) (x y:Int):AQ G' n f x y=AQ G n f x y:=by
 unfold AQ;split
 ·rename_i z;exact Gk ok go h (FQ z.1 z.2.1) (FQ z.2.2.1 z.2.2.2)
 ·rfl
theorem MT {h X:Nat} (u:Nat) (h1:h * u<=X) (h2:X < h * (u+1)):X / h=u/\X % h=X - h * u:=by
 have e:X / h=u:=Nat.div_eq_of_lt_le (by rw [Nat.mul_comm]; exact h1) (by rw [Nat.mul_comm]; exact h2);exact ⟨e,by have:=Nat.div_add_mod X h; rw [e] at this; lia⟩
end J
namespace J
open PySem L2
theorem Ie (x n:Nat):x % 2 ^ (n+1) % 2 ^ n=x % 2 ^ n:=Nat.mod_mod_of_dvd x ⟨2,by rw [Nat.pow_succ]⟩
theorem IK {G:Gv} {n i:Nat} {qs:Nat->Nat} {ps:Nat->Nat->Nat} (h:Jk G n i qs ps) {x y:Nat} (hx:x < 2 ^ (n+2)) (hy:y < 2 ^ (n+2)):cellF G (n+2) i x y=cellF G n (ps (CY (n+1) x y) (CY n (x % 2 ^ (n+1)) (y % 2 ^ (n+1)))) (x % 2 ^ n) (y % 2 ^ n):=by
 obtain ⟨q,nd⟩:=h.node;have qk:=Fz (l:=n+1) hx hy;have hx1:x % 2 ^ (n+1) < 2 ^ (n+1):=Nat.mod_lt _ (Bg _);have hy1:y % 2 ^ (n+1) < 2 ^ (n+1):=Nat.mod_lt _ (Bg _);obtain ⟨q',nk⟩:=h.sub _ qk;rw [AW nd hx hy,IH qs qk,AW nk hx1 hy1,IH (ps _) (Fz hx1 hy1),Ie,Ie]
theorem bits {h u:Nat} (hu:u < 2 * h):(u+h) / (2 * h)=u / h/\(u+h) % (2 * h) / h=1 - u / h/\(u+h) % h=u % h/\u / h < 2:=by
 have p:0 < h:=by lia
 rcases Nat.lt_or_ge u h with z | z
 ·have e1:u / h=0:=Nat.div_eq_of_lt z;have e2:(u+h) / (2 * h)=0:=Nat.div_eq_of_lt (by lia);have e3:(u+h) % (2 * h)=u+h:=Nat.mod_eq_of_lt (by lia);have e4:(u+h) / h=1:=(MT (X:=u+h) 1 (by lia) (by lia)).1;exact ⟨by rw [e1,e2],by rw [e3,e4,e1],Nat.add_mod_right u h,by lia⟩
 ·have e1:u / h=1:=(MT 1 (by lia) (by lia)).1;have e2:=MT (h:=2 * h) (X:=u+h) 1 (by lia) (by lia);have e3:(u+h - 2 * h * 1) / h=0:=Nat.div_eq_of_lt (by lia);exact ⟨by rw [e1,e2.1],by rw [e2.2,e3,e1],Nat.add_mod_right u h,by lia⟩
theorem NH (n:Nat):2 ^ (n+1)=2 * 2 ^ n:=by rw [Nat.pow_succ]; lia
theorem SD {G:Gv} (ok:GOk G) {n i m:Nat} {qs:Nat->Nat} {ps:Nat->Nat->Nat} (h:Jk G n i qs ps) (em:G[m]?=some ⟨[(ps 0 3:Int),(ps 1 2:Int),(ps 2 1:Int),(ps 3 0:Int)],(n:Int)+1⟩) {u v:Nat} (hu:u < 2 ^ (n+1)) (hv:v < 2 ^ (n+1)):cellF G (n+2) i (u+2 ^ n) (v+2 ^ n)=cellF G (n+1) m u v:=by
 have lp:∀ k j,k < 4->j < 4->Al G (ps k j) (n:Int):=fun k j hk hj=>by
  obtain ⟨q,nk⟩:=h.sub k hk;have:=(nk.nat hj).2;rw [IH (ps k) hj] at this;exact this
 have nm:Ch G n m _ (ps 0 3) (ps 1 2) (ps 2 1) (ps 3 0):=⟨em,rfl,rfl,lp 0 3 (by decide) (by decide),lp 1 2 (by decide) (by decide),lp 2 1 (by decide) (by decide),lp 3 0 (by decide) (by decide)⟩
 have e1:=NH n;have e2:2 ^ (n+2)=2 * 2 ^ (n+1):=NH (n+1);have p:=Bg n;rw [IK h (by lia) (by lia),AW nm hu hv];unfold CY;rw [e1];rw [e1] at hu hv;obtain ⟨a1,a2,a3,a4⟩:=bits hu;obtain ⟨b1,b2,b3,b4⟩:=bits hv;rw [a1,a2,a3,b1,b2,b3];have two:∀ {A:Nat},A < 2->A=0\/A=1:=fun {A} h=>by lia
 have hu2:=two a4;have hv2:=two b4;rcases hu2 with z | z<;>rcases hv2 with z' | z'<;>rw [z,z']<;>rfl
theorem mid_iff' {m X Y:Nat} {x y:Int} (eX:(X:Int)=x+2 ^ (m+1)) (eY:(Y:Int)=y+2 ^ (m+1)) (hX:X < 2 ^ (m+2)) (hY:Y < 2 ^ (m+2)):CY m (X % 2 ^ (m+1)) (Y % 2 ^ (m+1))+CY (m+1) X Y=3 ↔ (-(2 ^ m)<=x/\x < 2 ^ m/\-(2 ^ m)<=y/\y < 2 ^ m):=by
 have p:=Bg m;have e1:=NH m;have e2:2 ^ (m+2)=2 * 2 ^ (m+1):=NH (m+1);have c1:=FU m;have c2:=FU (m+1);rw [e1] at c2;unfold CY;rw [e1];rw [e2,e1] at hX hY;rw [<-c2] at eX eY;rw [<-c1];generalize 2 ^ m=h at *
 have key:∀ {X:Nat} {x:Int},(X:Int)=x+((2 * h:Nat):Int)->X < 2 * (2 * h)->(X % (2 * h) / h+X / (2 * h)=1 ↔ -(h:Int)<=x/\x < (h:Int))/\X % (2 * h) / h < 2/\X / (2 * h) < 2:=by
  intro X x e l;have h2:0 < 2 * h:=by lia
  have q2:X / (2 * h) < 2:=by rw [Nat.div_lt_iff_lt_mul h2]; exact l
  have r2:X % (2 * h) < 2 * h:=Nat.mod_lt _ h2;have q1:X % (2 * h) / h < 2:=by rw [Nat.div_lt_iff_lt_mul p]; exact r2
  have d2:=Nat.div_add_mod X (2 * h);have d1:=Nat.div_add_mod (X % (2 * h)) h;have m1:=Nat.mod_lt (X % (2 * h)) p;refine ⟨?_,q1,q2⟩;generalize X / (2 * h)=u at *
  generalize X % (2 * h) / h=v at *
  generalize X % (2 * h) % h=t at *
  generalize X % (2 * h)=rr at *
  have hu:u=0\/u=1:=by lia
  have hv:v=0\/v=1:=by lia
  rcases hu with rfl | rfl<;>rcases hv with rfl | rfl<;>simp only [Nat.mul_zero,Nat.mul_one,Nat.zero_add] at d1 d2<;>lia
 obtain ⟨kx,x1,x2⟩:=key eX hX;obtain ⟨ky,y1,y2⟩:=key eY hY;clear key;generalize X % (2 * h) / h=A at *
 generalize X / (2 * h)=B at *
 generalize Y % (2 * h) / h=C at *
 generalize Y / (2 * h)=D at *
 constructor
 ·intro z;have zx:=kx.mp (by lia);have zy:=ky.mp (by lia);exact ⟨zx.1,zx.2,zy.1,zy.2⟩
 ·rintro ⟨z1,z2,z3,z4⟩;have zx:=kx.mpr ⟨z1,z2⟩;have zy:=ky.mpr ⟨z3,z4⟩;lia
theorem LP {G r:Gv} (e0:G=G0 ++ r) (ok:GOk G) {n i m:Nat} (hn:n<=46) {qs:Nat->Nat} {ps:Nat->Nat->Nat} (h:Jk G n i qs ps) (ba:BA n ps) (em:G[m]?=some ⟨[(ps 0 3:Int),(ps 1 2:Int),(ps 2 1:Int),(ps 3 0:Int)],(n:Int)+1⟩) (x y:Int):AQ G (n+1) i x y=AQ G n m x y:=by
 have s1:=Ff n;have p:=FA n;unfold AQ;by_cases hin:-(2 ^ n)<=x/\x < 2 ^ n/\-(2 ^ n)<=y/\y < 2 ^ n
 ·obtain ⟨a1,a2,a3,a4⟩:=hin;rw [if_pos ⟨by lia,by lia,by lia,by lia⟩,if_pos ⟨a1,a2,a3,a4⟩];have hu:=FQ a1 a2;have hv:=FQ a3 a4;have c:=FU n;have ex:(x+2 ^ (n+1)).toNat=(x+2 ^ n).toNat+2 ^ n:=by lia
  have ey:(y+2 ^ (n+1)).toNat=(y+2 ^ n).toNat+2 ^ n:=by lia
  rw [ex,ey];exact SD ok h em hu hv
 ·rw [if_neg hin];split
  ·rename_i z;obtain ⟨z1,z2,z3,z4⟩:=z;have hX:=FQ z1 z2;have hY:=FQ z3 z4;rw [IK h hX hY];have ne:¬ CY n ((x+2 ^ (n+1)).toNat % 2 ^ (n+1)) ((y+2 ^ (n+1)).toNat % 2 ^ (n+1))+CY (n+1) (x+2 ^ (n+1)).toNat (y+2 ^ (n+1)).toNat=3:=fun q=>hin ((mid_iff' (Int.toNat_of_nonneg (by lia)) (Int.toNat_of_nonneg (by lia)) hX hY).mp q);rw [ba _ _ (Fz hX hY) (Fz (Nat.mod_lt _ (Bg _)) (Nat.mod_lt _ (Bg _))) ne];exact EC e0 ok (by lia) (Nat.mod_lt _ (Bg _)) (Nat.mod_lt _ (Bg _))
  ·rfl
theorem Jy {G r0:Gv} (e0:G=G0 ++ r0) (ok:GOk G):∀ {n f r:Nat},n<=47->Al G f ((n+1:Nat):Int)->IZ G (n+1) f r->∃ m,m<=n/\Al G r ((m+1:Nat):Int)/\Jj G m r/\∀ x y,AQ G m r x y=AQ G n f x y
 | 0,f,r,_,hl,h=>by
  have h:r=f:=h;subst h;exact ⟨0,Nat.le_refl _,hl,.inl rfl,fun _ _=>rfl⟩
 | n+1,f,r,hn,hl,h=>by
  obtain ⟨qs,ps,d,h⟩:=h;rcases h with ⟨nb,rfl⟩ | ⟨ba,m,em,h⟩
  ·exact ⟨n+1,Nat.le_refl _,hl,.inr ⟨n,qs,ps,rfl,d,nb⟩,fun _ _=>rfl⟩
  ·obtain ⟨k,hk,lk,tk,ek⟩:=Jy e0 ok (by lia) ⟨_,em,by show (n:Int)+1=_; lia⟩ h;refine ⟨k,by lia,lk,tk,fun x y=>?_⟩;rw [ek x y,LP e0 ok (by lia) d ba em x y]
theorem Qg {G r:Gv} (e0:G=G0 ++ r) (ok:GOk G) {n f w:Nat} (hn:n<=46) (h:Wid G n f w) (x y:Int):AQ G (n+1) w x y=AQ G n f x y:=by
 obtain ⟨q,a,b,c,d,w0,w1,w2,w3,nd,ea,eb,ec,ed,ew⟩:=h.ex;have lb:=DM e0 (n:=n) (by lia);have lv:∀ {p:Nat} {l:List Int},G[p]?=some ⟨l,(n:Int)+1⟩->Al G p ((n+1:Nat):Int):=fun {p l} e=>⟨_,e,by show (n:Int)+1=_; lia⟩
 have dp:Jk G n w (f4 w0 w1 w2 w3) (fun k j=>if j+k=3 then f4 a b c d k else bareN n):=by
  refine ⟨⟨_,ew,rfl,by show (n:Int)+2=_; lia,lv ea,lv eb,lv ec,lv ed⟩,fun k hk=>?_⟩
  match k,hk with
  | 0,_=>exact ⟨_,ea,rfl,rfl,lb,lb,lb,nd.hx⟩
  | 1,_=>exact ⟨_,eb,rfl,rfl,lb,lb,nd.hy,lb⟩
  | 2,_=>exact ⟨_,ec,rfl,rfl,lb,nd.hz,lb,lb⟩
  | 3,_=>exact ⟨_,ed,rfl,rfl,nd.hw,lb,lb,lb⟩
 have g:=nd.g;have l:=nd.lev;have ps:=nd.ps;refine LP e0 ok hn dp (fun k j _ _ ne=>if_neg ne) ?_ x y;rw [g];cases q with
 | mk pp ll=>cases ps; cases l; rfl
theorem GJ {G r:Gv} (e0:G=G0 ++ r) (ok:GOk G) {n f:Nat}:∀ {k w:Nat},n+k<=46->Li G n f k w->∀ x y,AQ G (n+k) w x y=AQ G n f x y
 | 0,w,_,h,x,y=>by
  have h:w=f:=h;subst h;rfl
 | k+1,w,hk,h,x,y=>by
  obtain ⟨u,h1,h2⟩:=h;rw [show n+(k+1)=n+k+1 by lia,Qg e0 ok (by lia) h2 x y];exact GJ e0 ok (by lia) h1 x y
theorem SI {G r:Gv} (e0:G=G0 ++ r) (ok:GOk G) {n i:Nat} (hn:n<=48) (h:Al G i (n:Int)) (ne:i≠bareN n):∃ x y,x < 2 ^ n/\y < 2 ^ n/\cellF G n i x y≠0:=by
 refine Classical.byContradiction fun z=>ne (EB ok h (DM e0 hn) fun x y hx hy=>?_);rw [EC e0 ok hn hx hy];exact Classical.byContradiction fun q=>z ⟨x,y,hx,hy,q⟩
theorem Ro {G r:Gv} (e0:G=G0 ++ r) (ok:GOk G) {m f:Nat} (hm:m<=46) (h:Jj G (m+1) f):∃ x y:Int,¬ (-(2 ^ m)<=x/\x < 2 ^ m/\-(2 ^ m)<=y/\y < 2 ^ m)/\AQ G (m+1) f x y≠0:=by
 rcases h with h | ⟨m',qs,ps,e,dp,nb⟩
 ·lia
 ·have:m'=m:=by lia
  subst this;have:∃ k j,k < 4/\j < 4/\j+k≠3/\ps k j≠bareN m':=by
   refine Classical.byContradiction fun z=>nb fun k j hk hj ne=>Classical.byContradiction fun q=>z ⟨k,j,hk,hj,ne,q⟩
  obtain ⟨k,j,hk,hj,ne,nbare⟩:=this;obtain ⟨qk,nk⟩:=dp.sub k hk;have lp:Al G (ps k j) (m':Int):=by
   have:=(nk.nat hj).2;rw [IH (ps k) hj] at this;exact this
  obtain ⟨u,v,hu,hv,hc⟩:=SI e0 ok (by lia) lp nbare;obtain ⟨a1,a2,a3,a4,a5⟩:=EL hj hu hv;obtain ⟨b1,b2,b3,b4,b5⟩:=EL (n:=m'+1) hk a1 a2;generalize hX:u+2 ^ m' * (j % 2)+2 ^ (m'+1) * (k % 2)=X at *
  generalize hY:v+2 ^ m' * (j / 2)+2 ^ (m'+1) * (k / 2)=Y at *
  have c1:=FU (m'+1);have c2:=FU (m'+2);have s2:=Ff (m'+1);rw [s2] at c2;refine ⟨(X:Int) - 2 ^ (m'+1),(Y:Int) - 2 ^ (m'+1),fun z=>ne ?_,?_⟩
  ·have:=(mid_iff' (X:=X) (Y:=Y) (by lia) (by lia) b1 b2).mpr z;rw [b3,b4,b5,a3] at this;exact this
  ·unfold AQ;rw [if_pos ⟨by lia,by lia,by lia,by lia⟩,show ((X:Int) - 2 ^ (m'+1)+2 ^ (m'+1)).toNat=X by lia,show ((Y:Int) - 2 ^ (m'+1)+2 ^ (m'+1)).toNat=Y by lia,IK dp b1 b2,b3,b4,b5,a3];have d1:X % 2 ^ m'=u:=by rw [<-Ie,b4,a4]
   have d2:Y % 2 ^ m'=v:=by rw [<-Ie,b5,a5]
   rw [d1,d2];exact hc
theorem OZ {G r:Gv} (e0:G=G0 ++ r) (ok:GOk G) {n m f f':Nat} (hn:n<=47) (hm:m<=47) (lf:Al G f ((n+1:Nat):Int)) (lf':Al G f' ((m+1:Nat):Int)) (t:Jj G n f) (t':Jj G m f') (h:∀ x y,AQ G n f x y=AQ G m f' x y):n=m/\f=f':=by
 have le:∀ {n m f f':Nat},m<=47->Jj G m f'->(∀ x y,AQ G n f x y=AQ G m f' x y)->m<=n:=by
  intro n m f f' hm t' h;refine Nat.le_of_not_lt fun z=>?_;obtain ⟨k,rfl⟩:∃ k,m=k+1:=⟨m - 1,by lia⟩
  obtain ⟨x,y,out,lv⟩:=Ro e0 ok (by lia) t';rw [<-h x y] at lv;unfold AQ at lv;split at lv
  ·rename_i q;have:(2:Int) ^ n<=2 ^ k:=by
    have:=Nat.pow_le_pow_right (show 0 < 2 by decide) (show n<=k by lia)
    exact_mod_cast this
   exact out ⟨by lia,by lia,by lia,by lia⟩
  ·exact lv rfl
 have e1:=le hm t' h;have e2:=le hn t fun x y=>(h x y).symm;have e:n=m:=by lia
 subst e;refine ⟨rfl,EB ok lf lf' fun x y hx hy=>?_⟩;have c1:=FU n;have c2:=FU (n+1);have s2:=Ff n;rw [s2] at c2;have:=h ((x:Int) - 2 ^ n) ((y:Int) - 2 ^ n);unfold AQ at this;rw [if_pos ⟨by lia,by lia,by lia,by lia⟩,if_pos ⟨by lia,by lia,by lia,by lia⟩,show ((x:Int) - 2 ^ n+2 ^ n).toNat=x by lia,show ((y:Int) - 2 ^ n+2 ^ n).toNat=y by lia] at this;exact this
end J
namespace J
open PySem L2
def Fix:HO->Prop
 | .tup _=>True
 | .ins _ _ _=>True
 | _=>False
def Fx (l:List Addr) (H H':Hp):Prop:=∀ b o,H b=some o->(b ∈ l->Fix o)->H' b=some o
theorem Fx.refl (l:List Addr) (H:Hp):Fx l H H:=fun _ _ e _=>e
theorem Fx.trans {l:List Addr} {H1 H2 H3:Hp} (h:Fx l H1 H2) (h2:Fx l H2 H3):Fx l H1 H3:=fun b o e n=>h2 b o (h b o e n) n
theorem AE.fx {l:List Addr} {H1 H2:Hp} (h:AE H1 H2):Fx l H1 H2:=fun b o e _=>h b o e
theorem Fx.mono {l m:List Addr} {H1 H2:Hp} (h:Fx l H1 H2) (s:∀ x ∈ l,x ∈ m):Fx m H1 H2:=fun b o e n=>h b o e fun z=>n (s b z)
theorem Fx.get {l:List Addr} {H1 H2:Hp} (h:Fx l H1 H2) {b:Addr} {o:HO} (n:b ∉ l) (e:H1 b=some o):H2 b=some o:=h b o e fun z=>absurd z n
theorem Fx.tup {l:List Addr} {H1 H2:Hp} (h:Fx l H1 H2) {b:Addr} {xs:List V} (e:H1 b=some (.tup xs)):H2 b=some (.tup xs):=h b _ e fun _=>True.intro
theorem fx_up {H:Hp} {x:Addr} {o o':HO} (e:H x=some o) (n:¬ Fix o):Fx [x] H (upd H x o'):=fun b u e2 f=>by
 by_cases z:b=x
 ·subst z;rw [e] at e2;cases e2;exact absurd (f (List.mem_singleton.mpr rfl)) n
 ·rw [Az z];exact e2
theorem Fr.fx {a:Ad} {g:GA} {G:Gv} {H H':Hp} (h:Fr g H H') (at':AN a H g G):Fx [g.lv,g.pt,g.nm] H H':=fun b o e f=>by
 obtain ⟨ts,h3,_⟩:=at'.pt;refine h b o e (fun z=>?_) (fun z=>?_) (fun z=>?_)
 ·subst z; rw [at'.lv] at e; cases e; exact f (by simp)
 ·subst z; rw [h3] at e; cases e; exact f (by simp)
 ·subst z; rw [at'.nm] at e; cases e; exact f (by simp)
def DK (g:GA):List Addr:=[g.lv,g.pt,g.nm,g.br,g.am,g.bx]
theorem Bp.fx {a:Ad} {g:GA} {G:Gv} {H H':Hp} {l:List Addr} (h:Bp a H g G) (f:Fx l H H') (n:∀ x ∈ DK g,x ∉ l):Bp a H' g G:=by
 obtain ⟨at',ok,g0,br,⟨ks,h1,h2⟩,⟨ks',h3,h4⟩,n1,n2,n3⟩:=h;obtain ⟨p1,p2,⟨ts,p3,p4⟩,p5,p6⟩:=at';have m:∀ x ∈ DK g,∀ o,H x=some o->H' x=some o:=fun x hx o e=>f.get (n x hx) e;refine ⟨⟨f _ _ p1 fun _=>True.intro,m _ (by simp [DK]) _ p2,⟨ts,m _ (by simp [DK]) _ p3,PairedM.imp (fun t q z=>f.tup z) p4⟩,m _ (by simp [DK]) _ p5,p6⟩,ok,g0,m _ (by simp [DK]) _ br,⟨ks,m _ (by simp [DK]) _ h1,h2⟩,⟨ks',m _ (by simp [DK]) _ h3,h4.keys,fun i v e=>?_⟩,n1,n2,n3⟩;obtain ⟨l,b,t,e1,e2,e3,e4⟩:=h4.val i v e;exact ⟨l,b,t,e1,e2,e3,f.tup e4⟩
theorem AE.noneOf {H H':Hp} (s:AE H H') {x:Addr} (n:H' x=none):H x=none:=by
 cases e:H x with
 | none=>rfl
 | some o=>rw [s _ _ e] at n; cases n
structure Nw (H:Hp) (l:List Addr):Prop where
 nd:l.Nodup
 s:∀ x ∈ l,∃ o,H x=some o
theorem Bp.nw {a:Ad} {H:Hp} {g:GA} {G:Gv} (h:Bp a H g G):Nw H (DK g):=by
 obtain ⟨⟨_,h2,⟨ts,h3,_⟩,h5,h6⟩,_,_,h7,⟨ks,h8,_⟩,⟨ks',h9,_⟩,n1,n2,n3⟩:=h;have t:∀ {x y:Addr} {o o':HO},H x=some o->H y=some o'->o≠o'->x≠y:=fun {x y o o'} e e' n=>AR e e' n;refine ⟨?_,fun x hx=>?_⟩
 ·simp only [DK,List.nodup_cons,List.mem_cons,List.not_mem_nil,or_false,not_or,not_false_eq_true,List.nodup_nil,and_true];exact ⟨⟨h6,t h2 h5 (by intro z; cases z),Ne.symm n1,t h2 h8 (by intro z; cases z),t h2 h9 (by intro z; cases z)⟩,⟨t h3 h5 (by intro z; cases z),Ne.symm n2,t h3 h8 (by intro z; cases z),t h3 h9 (by intro z; cases z)⟩,⟨t h5 h7 (by intro z; cases z),t h5 h8 (by intro z; cases z),t h5 h9 (by intro z; cases z)⟩,⟨t h7 h8 (by intro z; cases z),t h7 h9 (by intro z; cases z)⟩,n3⟩
 ·simp only [DK,List.mem_cons,List.not_mem_nil,or_false] at hx;rcases hx with rfl | rfl | rfl | rfl | rfl | rfl
  ·exact ⟨_,h2⟩
  ·exact ⟨_,h3⟩
  ·exact ⟨_,h5⟩
  ·exact ⟨_,h7⟩
  ·exact ⟨_,h8⟩
  ·exact ⟨_,h9⟩
theorem Dg {H:Hp} {x y:Addr} {o:HO} (h:upd H x o y=none):H y=none:=by
 by_cases e:y=x
 ·subst e;rw [Ah] at h;cases h
 ·rw [Az e] at h;exact h
theorem Ot.none {a:Ad} {H H':Hp} {x dx:Addr} {o o':HO} {g:GA} {G:Gv} {B:List Int} {am:List (Key×V)} (N:Ot a (upd (upd H dx o) x o') H' g G B am):∀ y ∈ DK g,H y=none:=fun y hy=>by
 obtain ⟨f1,f2,f3,f4,f5,f6⟩:=N.fresh;simp only [DK,List.mem_cons,List.not_mem_nil,or_false] at hy;rcases hy with rfl | rfl | rfl | rfl | rfl | rfl
 ·exact Dg (Dg f1)
 ·exact Dg (Dg f2)
 ·exact Dg (Dg f3)
 ·exact Dg (Dg f4)
 ·exact Dg (Dg f5)
 ·exact Dg (Dg f6)
theorem ev_test {c:TT} {σ:St} {H:Hp} {Q:Bool->Hp->Prop} (b:Bool) (h:∀ Q':Bool->Hp->Prop,Q' b H->c σ H Q') (q:Q b H):c σ H Q:=h Q q
theorem ev_val {t:TE} {σ:St} {H:Hp} {Q:VK} (P:V->Hp->Prop) (h:∀ Q':VK,(∀ v H',P v H'->Q' v H')->t σ H Q') (q:∀ v H',P v H'->Q v H'):t σ H Q:=h Q q
end J
namespace J
open PySem L2
theorem Sol.uniq {G:Gv} (ok:GOk G) {s:Nat}:∀ {l n m:Nat},Sol G s l n->Sol G s l m->n=m
 | 0,n,m,h,h2=>by
  have h:n=s:=h;have h2:m=s:=h2;rw [h,h2]
 | l+1,n,m,h,h2=>by
  obtain ⟨a,h1,e1⟩:=h;obtain ⟨b,h3,e3⟩:=h2;have:=Sol.uniq ok h1 h3;subst this;exact ok.one e1 e3 rfl
structure EN (G:Gv) (n i o:Nat) (l t r b:Int) (m:Nat):Prop where
 lev:Al G m (n:Int)
 cell:∀ x y:Nat,x < 2 ^ n->y < 2 ^ n->cellF G n m x y=if (l<=x/\(x:Int) < r)/\(t<=y/\(y:Int) < b) then cellF G n i x y else cellF G n o x y
theorem EN.app {G G':Gv} {k n i o m:Nat} {l t r b:Int} (ok:GOk G) (go:AM G G' k) (hi:Al G i (n:Int)) (ho:Al G o (n:Int)) (h:EN G n i o l t r b m):EN G' n i o l t r b m:=⟨go.lev h.lev,fun x y hx hy=>by rw [Gk ok go h.lev hx hy,Gk ok go hi hx hy,Gk ok go ho hx hy]; exact h.cell x y hx hy⟩
def spl (s e h:Int):Nat->Int×Int
 | 0=>(s,if h < e then h else e)
 | _=>(if s - h < 0 then 0 else s - h,e - h)
theorem Jl {s e:Int} {n x u:Nat} (hx:x < 2 ^ (n+1)) (hu:x / 2 ^ n=u):((spl s e (2 ^ n) u).1<=((x % 2 ^ n:Nat):Int)/\((x % 2 ^ n:Nat):Int) < (spl s e (2 ^ n) u).2) ↔ (s<=x/\(x:Int) < e):=by
 have p:(0:Int) < 2 ^ n:=FA n;have e1:(2:Int) ^ n=((2 ^ n:Nat):Int):=by exact_mod_cast rfl
 have dm:=Nat.div_add_mod x (2 ^ n);have lt:=Nat.mod_lt x (Bg n);have hu2:=FI hx;rw [hu] at dm hu2;rw [e1] at p ⊢;generalize 2 ^ n=h at *
 match u,hu2 with
 | 0,_ =>
  have ex:x % h=x:=by rw [Nat.mul_zero,Nat.zero_add] at dm; exact dm
  show (s<=((x % h:Nat):Int)/\((x % h:Nat):Int) < if (h:Int) < e then (h:Int) else e) ↔ _;rw [ex];split<;>lia
 | 1,_ =>
  have ex:x=h+x % h:=by rw [Nat.mul_one] at dm; exact dm.symm
  show ((if s - (h:Int) < 0 then (0:Int) else s - h)<=((x % h:Nat):Int)/\((x % h:Nat):Int) < e - h) ↔ _;split<;>lia
theorem EN.join {G:Gv} {n i o m:Nat} {l t r b:Int} {qi qo:Sq} {i0 i1 i2 i3 o0 o1 o2 o3:Nat} {ms:Nat->Nat} (ni:Ch G n i qi i0 i1 i2 i3) (no:Ch G n o qo o0 o1 o2 o3)
  (h:∀ k,k < 4->EN G n (f4 i0 i1 i2 i3 k) (f4 o0 o1 o2 o3 k) (spl l r (2 ^ n) (k % 2)).1 (spl t b (2 ^ n) (k / 2)).1 (spl l r (2 ^ n) (k % 2)).2 (spl t b (2 ^ n) (k / 2)).2 (ms k))
  (em:G[m]?=some ⟨[(ms 0:Int),(ms 1:Int),(ms 2:Int),(ms 3:Int)],(n:Int)+1⟩):EN G (n+1) i o l t r b m:=by
 have nm:Ch G n m _ (ms 0) (ms 1) (ms 2) (ms 3):=⟨em,rfl,rfl,(h 0 (by decide)).lev,(h 1 (by decide)).lev,(h 2 (by decide)).lev,(h 3 (by decide)).lev⟩
 refine ⟨⟨_,em,by show (n:Int)+1=_; lia⟩,fun x y hx hy=>?_⟩;have ux:=FI hx;have uy:=FI hy;have q4:CY n x y < 4:=by unfold CY; lia
 have c:=(h _ q4).cell (x % 2 ^ n) (y % 2 ^ n) (Nat.mod_lt _ (Bg n)) (Nat.mod_lt _ (Bg n));have f:f4 (ms 0) (ms 1) (ms 2) (ms 3) (CY n x y)=ms (CY n x y):=by
  match CY n x y,q4 with
  | 0,_=>rfl
  | 1,_=>rfl
  | 2,_=>rfl
  | 3,_=>rfl
 have e1:CY n x y % 2=x / 2 ^ n:=by unfold CY; lia
 have e2:CY n x y / 2=y / 2 ^ n:=by unfold CY; lia
 rw [AW nm hx hy,f,c,AW ni hx hy,AW no hx hy,e1,e2];have i1:=Jl (s:=l) (e:=r) hx rfl;have i2:=Jl (s:=t) (e:=b) hy rfl;by_cases z:(l<=(x:Int)/\(x:Int) < r)/\(t<=(y:Int)/\(y:Int) < b)
 ·rw [if_pos z,if_pos ⟨i1.mpr z.1,i2.mpr z.2⟩]
 ·rw [if_neg z,if_neg fun q=>z ⟨i1.mp q.1,i2.mp q.2⟩]
def Gy (A B:Int) (n:Nat) (s e:Int):Prop:=(s=0\/s=A % 2 ^ n)/\(e=2 ^ n\/e=B % 2 ^ n)
theorem Gy.spl {A B:Int} {n u:Nat} {s e:Int} (h:Gy A B (n+1) s e) (ne:(spl s e (2 ^ n) u).1 < (spl s e (2 ^ n) u).2):Gy A B n (spl s e (2 ^ n) u).1 (spl s e (2 ^ n) u).2:=by
 have p:(0:Int) < 2 ^ n:=FA n;have e2:(2:Int) ^ (n+1)=2 ^ n+2 ^ n:=by rw [Int.pow_succ]; lia
 have md:∀ C:Int,C % 2 ^ n=if C % 2 ^ (n+1) < 2 ^ n then C % 2 ^ (n+1) else C % 2 ^ (n+1) - 2 ^ n:=fun C=>by
  have h0:=Int.emod_nonneg C (show (2:Int) ^ (n+1)≠0 by lia);have h1:=Int.emod_lt_of_pos C (show (0:Int) < 2 ^ (n+1) by lia);have h2:C % 2 ^ n=(C % 2 ^ (n+1)) % 2 ^ n:=(Int.emod_emod_of_dvd C ⟨2,by rw [e2]; lia⟩).symm;rw [h2];split
  ·rename_i z;exact Int.emod_eq_of_lt h0 z
  ·rename_i z;rw [<-Int.sub_emod_right,Int.emod_eq_of_lt (by lia) (by lia)]
 have a1:=md A;have b1:=md B;have a2:=Int.emod_nonneg A (show (2:Int) ^ (n+1)≠0 by lia);have b2:=Int.emod_nonneg B (show (2:Int) ^ (n+1)≠0 by lia);have a3:=Int.emod_lt_of_pos A (show (0:Int) < 2 ^ (n+1) by lia);have b3:=Int.emod_lt_of_pos B (show (0:Int) < 2 ^ (n+1) by lia);obtain ⟨h1,h2⟩:=h;unfold Gy;rw [a1,b1];rw [e2] at h1 h2 a2 b2 a3 b3 ⊢;clear a1 b1 md e2;generalize (2:Int) ^ n=H at *
 generalize A % (H+H)=a at *
 generalize B % (H+H)=c at *
 unfold J.spl at ne ⊢;split at ne
 ·dsimp only at ne ⊢;split at ne<;>rcases h1 with h1 | h1<;>rcases h2 with h2 | h2<;>subst h1 h2<;>(constructor<;>split<;>lia)
 ·dsimp only at ne ⊢;split at ne<;>rcases h1 with h1 | h1<;>rcases h2 with h2 | h2<;>subst h1 h2<;>(constructor<;>split<;>lia)
theorem Gy.top {A B:Int} {n:Nat} (h0:0<=A) (h1:A < B) (h2:B<=2 ^ n):Gy A B n A B:=by
 refine ⟨.inr (Int.emod_eq_of_lt h0 (by lia)).symm,?_⟩;by_cases e:B=2 ^ n
 ·exact .inl e
 ·exact .inr (Int.emod_eq_of_lt (by lia) (by lia)).symm
end J
namespace J
open PySem L2
def Clo (G:Gv) (S:List Nat):Prop:=∀ o ∈ S,o < 8\/∃ (n:Nat) (q:Sq) (a b c d:Nat),Ch G n o q a b c d/\a ∈ S/\b ∈ S/\c ∈ S/\d ∈ S
theorem Clo.app {G G':Gv} {k:Nat} {S:List Nat} (go:AM G G' k) (h:Clo G S):Clo G' S:=fun o ho=>by
 rcases h o ho with z | ⟨n,q,a,b,c,d,nd,m⟩
 ·exact .inl z
 ·exact .inr ⟨n,q,a,b,c,d,nd.app go,m⟩
theorem cast4' {x y z w a b c d:Nat} (e:[(x:Int),(y:Int),(z:Int),(w:Int)]=[(a:Int),(b:Int),(c:Int),(d:Int)]):x=a/\y=b/\z=c/\w=d:=by
 injection e with e1 e
 injection e with e2 e
 injection e with e3 e
 injection e with e4 e
 exact ⟨Int.ofNat.inj e1,Int.ofNat.inj e2,Int.ofNat.inj e3,Int.ofNat.inj e4⟩
theorem Clo.get {G:Gv} (ok:GOk G) {S:List Nat} (h:Clo G S) {n o a b c d:Nat} {q:Sq} (ho:o ∈ S) (nd:Ch G n o q a b c d):a ∈ S/\b ∈ S/\c ∈ S/\d ∈ S:=by
 rcases h o ho with z | ⟨n',q',a',b',c',d',nd',m⟩
 ·have:=nd.g;rw [ok.leaf o z] at this;cases this;have:=nd.lev;have:(0:Int)=(n:Int)+1:=this;lia
 ·have e:q=q':=Option.some.inj (nd.g.symm.trans nd'.g);subst e;obtain ⟨rfl,rfl,rfl,rfl⟩:=cast4' (nd.ps.symm.trans nd'.ps);exact m
abbrev shM:List Bool:=[false,false,true]
def kMx (i o:Nat) (l t r b:Int):NK:=[.inl (i:Int),.inl (o:Int),.inr [l,t,r,b]]
theorem MV {i o i' o':Nat} {l t r b l' t' r' b':Int} (e:kMx i o l t r b=kMx i' o' l' t' r' b'):i=i'/\o=o'/\l=l'/\t=t'/\r=r'/\b=b':=by
 unfold kMx at e;injection e with e1 e
 injection e with e2 e
 injection e with e3 e
 injection e1 with e1
 injection e2 with e2
 injection e3 with e3
 injection e3 with f1 e3
 injection e3 with f2 e3
 injection e3 with f3 e3
 injection e3 with f4 e3
 exact ⟨Int.ofNat.inj e1,Int.ofNat.inj e2,f1,f2,f3,f4⟩
structure Mc where
 s:Nat
 S:List Nat
 A:Int
 R:Int
 T:Int
 B:Int
 ro:Bool
def Eo (c:Mc) (i o:Nat):Nat:=if c.ro=true then i else o
def Qx (c:Mc) (i o:Nat):Nat:=if c.ro=true then o else i
structure Pd (G:Gv) (c:Mc) (n i o:Nat):Prop where
 li:Al G i (n:Int)
 lo:Al G o (n:Int)
 so:Sol G c.s n (Qx c i o)
 mo:Eo c i o ∈ c.S
theorem Pd.go {G G':Gv} {k:Nat} {c:Mc} {n i o:Nat} (h:Pd G c n i o) (go:AM G G' k):Pd G' c n i o:=⟨go.lev h.li,go.lev h.lo,Sol.goes go h.so,h.mo⟩
theorem Pd.lm {G:Gv} {c:Mc} {n i o:Nat} (h:Pd G c n i o):Al G (Eo c i o) (n:Int):=by
 unfold Eo;split
 ·exact h.li
 ·exact h.lo
theorem f4_in {a b c d k:Nat} {S:List Nat} (hk:k < 4) (h:a ∈ S/\b ∈ S/\c ∈ S/\d ∈ S):f4 a b c d k ∈ S:=by
 match k,hk with
 | 0,_=>exact h.1
 | 1,_=>exact h.2.1
 | 2,_=>exact h.2.2.1
 | 3,_=>exact h.2.2.2
theorem Sol.part {G:Gv} {s n i a b c d:Nat} {q:Sq} (h:Sol G s (n+1) i) (nd:Ch G n i q a b c d) {k:Nat} (hk:k < 4):Sol G s n (f4 a b c d k):=by
 obtain ⟨m,h1,e⟩:=h;have eq:q=_:=Option.some.inj (nd.g.symm.trans e);have ps:=nd.ps;rw [eq] at ps;obtain ⟨rfl,rfl,rfl,rfl⟩:=cast4' ps
 match k,hk with
 | 0,_=>exact h1
 | 1,_=>exact h1
 | 2,_=>exact h1
 | 3,_=>exact h1
theorem Pd.part {G:Gv} (ok:GOk G) {c:Mc} (clo:Clo G c.S) {n i o:Nat} (h:Pd G c (n+1) i o) {qi qo:Sq} {i0 i1 i2 i3 o0 o1 o2 o3:Nat} (ni:Ch G n i qi i0 i1 i2 i3) (no:Ch G n o qo o0 o1 o2 o3) {k:Nat} (hk:k < 4):Pd G c n (f4 i0 i1 i2 i3 k) (f4 o0 o1 o2 o3 k):=by
 refine ⟨(ni.nat hk).2,(no.nat hk).2,?_,?_⟩
 ·have:=h.so;unfold Qx at this ⊢;by_cases z:c.ro=true
  ·rw [if_pos z] at this ⊢;exact Sol.part this no hk
  ·rw [if_neg z] at this ⊢;exact Sol.part this ni hk
 ·have:=h.mo;unfold Eo at this ⊢;by_cases z:c.ro=true
  ·rw [if_pos z] at this ⊢;exact f4_in hk (clo.get ok this ni)
  ·rw [if_neg z] at this ⊢;exact f4_in hk (clo.get ok this no)
structure Ent (G:Gv) (c:Mc) (p:NK×V) (n i o:Nat) (l t r b:Int) (m:Nat):Prop where
 e:p=(kMx i o l t r b,.int m)
 pd:Pd G c n i o
 mx:EN G n i o l t r b m
 sx:Gy c.A c.R n l r
 sy:Gy c.T c.B n t b
structure KOk (G:Gv) (c:Mc) (kvs:List (NK×V)):Prop where
 nd:(kvs.map (·.1)).Nodup
 val:∀ p ∈ kvs,∃ n i o l t r b m,Ent G c p n i o l t r b m
theorem kok0 (G:Gv) (c:Mc):KOk G c []:=⟨List.nodup_nil,fun p hp=>by simp at hp⟩
theorem Ent.go {G G':Gv} {k:Nat} {c:Mc} {p:NK×V} {n i o:Nat} {l t r b:Int} {m:Nat} (ok:GOk G) (s8:c.s < 8) (go:AM G G' k) (h:Ent G c p n i o l t r b m):Ent G' c p n i o l t r b m:=⟨h.e,h.pd.go go,h.mx.app ok go h.pd.li h.pd.lo,h.sx,h.sy⟩
theorem KOk.go {G G':Gv} {k:Nat} {c:Mc} {kvs:List (NK×V)} (ok:GOk G) (s8:c.s < 8) (go:AM G G' k) (h:KOk G c kvs):KOk G' c kvs:=⟨h.nd,fun p hp=>by
 obtain ⟨n,i,o,l,t,r,b,m,e⟩:=h.val p hp;exact ⟨n,i,o,l,t,r,b,m,e.go ok s8 go⟩⟩
theorem Rl {kvs:List (NK×V)} {k:NK} {v:V} (h:BH kvs k=some v):(k,v) ∈ kvs:=by
 induction kvs with
 | nil=>cases h
 | cons p r ih =>
  by_cases e:p.1=k
  ·rw [BG e] at h;cases h;rw [<-e];exact List.mem_cons_self
  ·rw [Bh e] at h;exact List.mem_cons_of_mem _ (ih h)
theorem KOk.put {G:Gv} {c:Mc} {kvs:List (NK×V)} {n i o:Nat} {l t r b:Int} {m:Nat} (h:KOk G c kvs) (en:Ent G c (kMx i o l t r b,.int m) n i o l t r b m) (no:BH kvs (kMx i o l t r b)=none):KOk G c (Dt kvs (kMx i o l t r b) (.int m))/\(Dt kvs (kMx i o l t r b) (.int m)).length=kvs.length+1:=by
 have nd:=nd_putK (.int m) h.nd no;rw [GW _ no] at nd ⊢;refine ⟨⟨nd,fun p hp=>?_⟩,by rw [List.length_append]; rfl⟩;rcases List.mem_append.mp hp with z | z
 ·exact h.val p z
 ·rw [List.mem_singleton] at z;subst z;exact ⟨n,i,o,l,t,r,b,m,en⟩
def lvN (G:Gv) (o:Nat):Nat:=match G[o]? with
 | some q=>q.lev.toNat
 | none=>0
theorem lvN_eq {G:Gv} {o n:Nat} (h:Al G o (n:Int)):lvN G o=n:=by
 obtain ⟨q,e,el⟩:=h;unfold lvN;rw [e];show q.lev.toNat=n;rw [el,Int.toNat_natCast]
def b01 (c:Prop) [Decidable c]:Nat:=if c then 0 else 1
theorem Eg (c:Prop) [Decidable c]:b01 c < 2:=by unfold b01; split<;>decide
theorem Jv {c d:Prop} [Decidable c] [Decidable d] (h:b01 c=b01 d):c ↔ d:=by
 unfold b01 at h;split at h<;>split at h<;>simp_all
def code (G:Gv) (c:Mc) (k:NK):Nat:=match k with
 | [.inl i,.inl o,.inr [l,t,r,b]]=>c.S.idxOf (Eo c i.toNat o.toNat) * 16+(b01 (l=0)+2 * b01 (r=2 ^ lvN G (Eo c i.toNat o.toNat))+4 * b01 (t=0)+8 * b01 (b=2 ^ lvN G (Eo c i.toNat o.toNat)))
 | _=>0
theorem Ld (G:Gv) (c:Mc) (i o:Nat) (l t r b:Int):code G c (kMx i o l t r b)=c.S.idxOf (Eo c i o) * 16+(b01 (l=0)+2 * b01 (r=2 ^ lvN G (Eo c i o))+4 * b01 (t=0)+8 * b01 (b=2 ^ lvN G (Eo c i o))):=rfl
theorem KOk.len {G:Gv} (ok:GOk G) {c:Mc} {kvs:List (NK×V)} (h:KOk G c kvs):kvs.length<=16 * c.S.length:=by
 have:=Gs (16 * c.S.length) ((kvs.map (·.1)).map (code G c)) (by
  rw [List.nodup_iff_pairwise_ne,List.pairwise_map];refine List.Pairwise.imp_of_mem (fun {x y} hx hy hne z=>hne ?_) (List.nodup_iff_pairwise_ne.mp h.nd);obtain ⟨p,hp,rfl⟩:=List.mem_map.mp hx;obtain ⟨p',hp',rfl⟩:=List.mem_map.mp hy;obtain ⟨n,i,o,l,t,r,b,m,e⟩:=h.val p hp;obtain ⟨n',i',o',l',t',r',b',m',e'⟩:=h.val p' hp';have e1:=e.e;have e2:=e'.e;subst e1 e2;dsimp only at z ⊢;rw [Ld,Ld] at z;have q1:=Eg (l=0);have q2:=Eg (r=2 ^ lvN G (Eo c i o));have q3:=Eg (t=0);have q4:=Eg (b=2 ^ lvN G (Eo c i o));have q1':=Eg (l'=0);have q2':=Eg (r'=2 ^ lvN G (Eo c i' o'));have q3':=Eg (t'=0);have q4':=Eg (b'=2 ^ lvN G (Eo c i' o'));have io:c.S.idxOf (Eo c i o)=c.S.idxOf (Eo c i' o'):=by lia
  have eo:Eo c i o=Eo c i' o':=by
   have a1:=List.getElem_idxOf (List.idxOf_lt_length_of_mem e.pd.mo);have a2:=List.getElem_idxOf (List.idxOf_lt_length_of_mem e'.pd.mo);have:c.S[c.S.idxOf (Eo c i o)]?=c.S[c.S.idxOf (Eo c i' o')]?:=by rw [io]
   rw [List.getElem?_eq_getElem (List.idxOf_lt_length_of_mem e.pd.mo),List.getElem?_eq_getElem (List.idxOf_lt_length_of_mem e'.pd.mo),a1,a2] at this;exact Option.some.inj this
  have en:n=n':=by
   have h1:=e.pd.lm;rw [eo] at h1;exact Int.ofNat.inj (h1.uniq e'.pd.lm)
  subst en;have ei:Qx c i o=Qx c i' o':=Sol.uniq ok e.pd.so e'.pd.so;obtain ⟨rfl,rfl⟩:i=i'/\o=o':=by
   unfold Eo at eo;unfold Qx at ei;by_cases z:c.ro=true
   ·rw [if_pos z,if_pos z] at eo ei;exact ⟨eo,ei⟩
   ·rw [if_neg z,if_neg z] at eo ei;exact ⟨ei,eo⟩
  clear eo ei io;rw [lvN_eq e.pd.lm] at *
  have z1:=Jv (show b01 (l=0)=b01 (l'=0) by lia);have z2:=Jv (show b01 (r=2 ^ n)=b01 (r'=2 ^ n) by lia);have z3:=Jv (show b01 (t=0)=b01 (t'=0) by lia);have z4:=Jv (show b01 (b=2 ^ n)=b01 (b'=2 ^ n) by lia);have same:∀ {x x' u v:Int},(x=u\/x=v)->(x'=u\/x'=v)->(x=u ↔ x'=u)->x=x':=fun {x x' u v} a1 a2 a3=>by
   rcases a1 with a1 | a1
   ·rw [a1,a3.mp a1]
   ·rcases a2 with a2 | a2
    ·rw [a2,a3.mpr a2]
    ·rw [a1,a2]
  rw [same e.sx.1 e'.sx.1 z1,same e.sx.2 e'.sx.2 z2,same e.sy.1 e'.sy.1 z3,same e.sy.2 e'.sy.2 z4]) (fun x hx=>by
  obtain ⟨y,hy,rfl⟩:=List.mem_map.mp hx;obtain ⟨p,hp,rfl⟩:=List.mem_map.mp hy;obtain ⟨n,i,o,l,t,r,b,m,e⟩:=h.val p hp;have e1:=e.e;subst e1;dsimp only;rw [Ld];have:=List.idxOf_lt_length_of_mem e.pd.mo;have q1:=Eg (l=0);have q2:=Eg (r=2 ^ lvN G (Eo c i o));have q3:=Eg (t=0);have q4:=Eg (b=2 ^ lvN G (Eo c i o));lia)
 rw [List.length_map,List.length_map] at this;exact this
def Un (G:Gv) (N:Nat) (kvs kvs':List (NK×V)):Prop:=∀ (i o:Nat) (l t r b:Int) (N':Nat),Al G o (N':Int)->N < N'->BH kvs (kMx i o l t r b)=none->BH kvs' (kMx i o l t r b)=none
theorem Un.refl (G:Gv) (N:Nat) (kvs:List (NK×V)):Un G N kvs kvs:=fun _ _ _ _ _ _ _ _ _ h=>h
theorem Un.trans {G G':Gv} {k N:Nat} {a b c:List (NK×V)} (go:AM G G' k) (h:Un G N a b) (h2:Un G' N b c):Un G N a c:=fun i o l t r b' N' h1 hl z=>h2 i o l t r b' N' (go.lev h1) hl (h i o l t r b' N' h1 hl z)
end J
namespace J
open PySem L2
seal L2.PA L2.PE L2.PS L2.PSs L2.PT L2.PW
theorem Fx.fresh {l:List Addr} {H H1 H2:Hp} {x:Addr} (s:AE H H1) (f:Fx (x :: l) H1 H2) (n:H x=none):Fx l H H2:=fun b o e z=>f b o (s _ _ e) fun m=>by
 rcases List.mem_cons.mp m with rfl | m
 ·rw [n] at e;cases e
 ·exact z m
theorem Bn.fx {P:Program} {w:World} {sh:List Bool} {H H':Hp} {a:Addr} {kvs:List (NK×V)} {l:List Addr} (f:Fx l H H') (n:a ∉ l) (h:Bn P w sh H a kvs):Bn P w sh H' a kvs:=h.keep (fun b ys e=>f.tup e) (fun o e=>f.get n e)
theorem Bn.same {P:Program} {w:World} {sh:List Bool} {H H':Hp} {a:Addr} {kvs:List (NK×V)} (s:AE H H') (h:Bn P w sh H a kvs):Bn P w sh H' a kvs:=h.keep (fun b ys e=>s _ _ e) (fun o e=>s _ _ e)
def frM (g:GA) (kn:Addr):List Addr:=[g.lv,g.pt,g.nm,kn]
section
variable {P:Program} {w:World} {K:PySem.W.Frag} {mg:Str->Option Value} {base:Heap} {a:Ad}
inductive PY (vs:List V) (H:Hp) (Q:VK):Prop
 | mk (s e h:Int) (_:vs=[.int s,.int e,.int h]) (_:∀ (c0 c1 cc:Addr) (H':Hp),AE H H'->H' cc=some (.tup [.ref c0,.ref c1])->H' c0=some (.tup [.int (spl s e h 0).1,.int (spl s e h 0).2])->H' c1=some (.tup [.int (spl s e h 1).1,.int (spl s e h 1).2])->Q (.ref cc) H'):PY vs H Q
def Jm:Sp:=fun vs H Q _=>PY vs H Q
theorem Sg {f:Addr} {fd:FuncData} (F:Fun K "split_stretch" "split_stretch" BL f fd) (T:Top K mg a):AI P w K mg base CX0 1 f fd BP Jm:=by
 refine F.ok Ip (fun vs H Q E h=>?_) (fun cdv A outer s H vs Q E hr h=>?_)
 ·obtain ⟨s',e,h',rfl,_⟩:=h;rfl
 ·obtain ⟨st,en,hf,rfl,k⟩:=h;refine ⟨_,(Af (Ao (FC (DA (Aa (pv 0) (Aa (Av (Fp rfl) rfl T.b_min PyProof.Rows.boot_min (Aa (pv 1) (Aa (pv 2) Ac))) Ac)) (DA (Aa (Av (Gw rfl) rfl T.b_max PyProof.Rows.boot_max (Ek Ga (pv 0) (pv 2) (BY Ac))) (Ek Ga (pv 1) (pv 2) Ac)) Ac))))),?_⟩
  try dsimp only [cxK]
  refine ⟨_,rfl,_,rfl,_,rfl,_,_,rfl,(by show 2<=sizeLine; decide),fun c0 h0=>?_⟩;have s1:=Ak (o:=.tup [.int st,.int (if hf < en then hf else en)]) h0;have e1:upd H c0 (.tup [.int st,.int (if hf < en then hf else en)]) c0=some (.tup [.int (spl st en hf 0).1,.int (spl st en hf 0).2]):=Ah;show ∃ _,_;generalize upd H c0 (.tup [.int st,.int (if hf < en then hf else en)])=H1 at s1 e1 ⊢;refine ⟨_,rfl,_,rfl,_,_,rfl,rfl,_,_,rfl,_,rfl,_,rfl,_,_,rfl,rfl,(by show 2<=sizeLine; decide),fun c1 h1=>⟨(by show 2<=sizeLine; decide),fun cc hcc=>?_⟩⟩;have s2:=Ak (o:=.tup [.int (if 0 > st - hf then 0 else st - hf),.int (en - hf)]) h1;have s3:=Ak (o:=.tup [.ref c0,.ref c1]) hcc;exact k c0 c1 cc _ (s1.trans (s2.trans s3)) Ah (s3 _ _ (s2 _ _ e1)) (s3 _ _ Ah)
inductive SpMQ (a:Ad) (P:Program) (w:World) (n:Nat) (vs:List V) (H:Hp) (Q:VK):Prop
 | mk (g:GA) (G:Gv) (c:Mc) (kn tk tp:Addr) (kvs:List (NK×V)) (i o N:Nat) (l t r b:Int) (_:vs=[.ref g.p,.ref tk,.int (2 ^ N),.ref kn]) (_:Bp a H g G) (_:Bn P w shM H kn kvs) (_:kn ∉ DK g) (_:H tk=some (.tup [.int i,.int o,.ref tp])) (_:H tp=some (.tup [.int l,.int t,.int r,.int b])) (_:KOk G c kvs) (_:Clo G c.S) (_:c.s < 8) (_:Pd G c (N+1) i o) (_:N < n) (_:N<=47) (_:(0<=l/\0<=t/\r<=2 ^ (N+1)/\b<=2 ^ (N+1))) (_:Gy c.A c.R (N+1) l r) (_:Gy c.T c.B (N+1) t b) (_:(G.length+16 * c.S.length < 8000000+kvs.length/\16 * c.S.length < 4000000)) (_:∀ (m:Nat) (G':Gv) (kvs':List (NK×V)) (H':Hp),Fx (frM g kn) H H'->Bp a H' g G'->Bn P w shM H' kn kvs'->KOk G' c kvs'->kvs.length<=kvs'.length->AM G G' (kvs'.length - kvs.length+1)->Un G N kvs kvs'->EN G' (N+1) i o l t r b m->Q (.int m) H'):SpMQ a P w n vs H Q
def spMQ (a:Ad) (P:Program) (w:World) (n:Nat):Sp:=fun vs H Q _=>SpMQ a P w n vs H Q
inductive SpMxd (a:Ad) (P:Program) (w:World) (n:Nat) (vs:List V) (H:Hp) (Q:VK):Prop
 | mk (g:GA) (G:Gv) (c:Mc) (kn tp:Addr) (kvs:List (NK×V)) (i o N:Nat) (l t r b:Int) (_:vs=[.ref g.p,.int i,.int o,.ref tp,.ref kn]) (_:Bp a H g G) (_:Bn P w shM H kn kvs) (_:kn ∉ DK g) (_:H tp=some (.tup [.int l,.int t,.int r,.int b])) (_:KOk G c kvs) (_:Clo G c.S) (_:c.s < 8) (_:Pd G c N i o) (_:N < n) (_:N<=48) (_:(0<=l/\0<=t/\r<=2 ^ N/\b<=2 ^ N)) (_:(l < r->Gy c.A c.R N l r)) (_:(t < b->Gy c.T c.B N t b)) (_:(G.length+16 * c.S.length < 8000000+kvs.length/\16 * c.S.length < 4000000)) (_:∀ (m:Nat) (G':Gv) (kvs':List (NK×V)) (H':Hp),Fx (frM g kn) H H'->Bp a H' g G'->Bn P w shM H' kn kvs'->KOk G' c kvs'->kvs.length<=kvs'.length->AM G G' (kvs'.length - kvs.length)->Un G N kvs kvs'->EN G' N i o l t r b m->Q (.int m) H'):SpMxd a P w n vs H Q
def LL (a:Ad) (P:Program) (w:World) (n:Nat):Sp:=fun vs H Q _=>SpMxd a P w n vs H Q
theorem ok_mixS {n d:Nat} {f:Addr} {fd:FuncData} (F:Fun K "mixed" "mixed" Fw f fd) (T:Top K mg a) (eC:Cal P w K mg base CX0 d "mixed_quarters" Ca (spMQ a P w n)):AI P w K mg base CX0 (d+1) f fd Em (LL a P w (n+1)):=by
 refine F.ok Fe (fun vs H Q E h=>?_) (fun cdv A outer s H vs Q E hr h=>?_)
 ·obtain ⟨g,G,c,kn,tp,kvs,i,o,N,l,t,r,b,rfl,_⟩:=h;rfl
 ·obtain ⟨g,G,c,kn,tp,kvs,i,o,N,l,t,r,b,rfl,fu,na,nk,htp,kok,clo,s8,pd,Nn,N48,bd,sx,sy,few,k⟩:=h;refine ⟨_,(Ab (AH (PW.pt (Ej (Au Sf (Ax AC (pv 3) Ag (fun _ _=>rfl)) (Ax AC (pv 3) Ag (fun _ _=>rfl)) (Ay _)) (Dx (Au Sf (Ax AC (pv 3) Ag (fun _ _=>rfl)) (Ax AC (pv 3) Ag (fun _ _=>rfl)) (Ay _))))) (Af (Ao (pv 2))) Aw) (Ab (Aj (i:=5) Fe.nd rfl (Or.inl rfl) (AA FF Ag (Ax AZ (Bv (pv 0) rfl) (pv 1) (fun _ _=>rfl)))) (Ab (AH (PW.pt (Ej (Au De (pv 1) (pv 2) (Ay _)) (Dx (Au (Qy hr.units) (pv 3) (FC (BY (BY (Aa (pv 5) (Aa (pv 5) Ac))))) (Ay _))))) (Af (Ao (pv 1))) Aw) (Ab (Aj (i:=6) Fe.nd rfl (Or.inl rfl) (FC (Aa (pv 1) (Aa (pv 2) (Aa (pv 3) Ac))))) (Ab (Aj (i:=7) Fe.nd rfl (Or.inl rfl) (RW (sh:=[false,false,true]) hr.units (pv 4) (pv 6) ⟨rfl,rfl,rfl,rfl⟩)) (Ab (AH (Au Se (pv 7) OE (Ay _)) (Ab (Aj (i:=7) Fe.nd rfl (Or.inl rfl) (Ap eC (rm hr) rfl Am (Aa (pv 0) (Aa (pv 6) (Ek CT (pv 5) Ag (Aa (pv 4) Ac)))))) (Af (RM (sh:=[false,false,true]) hr.units (pv 4) (pv 6) (pv 7) rfl))) Aw) (Af (Ao (pv 7))))))))),?_⟩
  try dsimp only [cxK]
  have li:=pd.li;have lo:=pd.lo;have back:∀ {m:Nat} {H':Hp},AE H H'->EN G N i o l t r b m->Q (.int m) H':=fun {m H'} s' mx=>k m G kvs H' (AE.fx s') (fu.same s') (Bn.same s' na) kok (Nat.le_refl _) ((AM.refl fu.ok).mono (by lia)) (Un.refl _ _ _) mx;refine ev_test (c:=tOr (Pp (tOp (rI0 fun i j=>V.bl (decide (j<=i))) (tOp (OD K) (Nq 3) (tC (V.int 0))) (tOp (OD K) (Nq 3) (tC (V.int 2))))) (Pp (tOp (rI0 fun i j=>V.bl (decide (j<=i))) (tOp (OD K) (Nq 3) (tC (V.int 1))) (tOp (OD K) (Nq 3) (tC (V.int 3)))))) (decide (r<=l) || decide (b<=t)) (fun Q' q'=>?_) ?_
  ·refine ⟨_,rfl,tp,_,0,.int l,rfl,rfl,SqT.of htp,Ai (j:=0) rfl,_,rfl,tp,_,2,.int r,rfl,rfl,SqT.of htp,Ai (j:=2) rfl,_,_,rfl,rfl,_,rfl,?_⟩;revert q';generalize decide (r<=l)=b1;cases b1
   ·intro q';exact Bb ⟨_,rfl,tp,_,1,.int t,rfl,rfl,SqT.of htp,Ai (j:=1) rfl,_,rfl,tp,_,3,.int b,rfl,rfl,SqT.of htp,Ai (j:=3) rfl,_,_,rfl,rfl,_,rfl,q'⟩
   ·intro q';exact Cg q'
  refine Jg (fun hc=>?_) (fun hc=>?_)
  ·refine ⟨_,rfl,back (AE.refl H) ⟨lo,fun x y _ _=>?_⟩⟩;rw [if_neg];rcases (Bool.or_eq_true _ _).mp hc with z | z
   ·have:=of_decide_eq_true z;lia
   ·have:=of_decide_eq_true z;lia
  have hl:l < r:=by
   refine Int.lt_of_not_ge fun z=>hc ?_;rw [decide_eq_true (show r<=l from z)];rfl
  have ht:t < b:=by
   refine Int.lt_of_not_ge fun z=>hc ?_;rw [decide_eq_true (show b<=t from z),Bool.or_true]
  clear hc;obtain ⟨qi,ei,eli⟩:=id li;refine ⟨_,rfl,g.p,_,g.dx,_,_,rfl,fu.at'.hp,T.cl_Grove,T.na_Grove_levels,Gh g,_,rfl,g.lv,_,(i:Int),.int qi.lev,rfl,rfl,SqL.of fu.at'.lv,Ai (by rw [List.getElem?_map,ei]; rfl),?_⟩;rw [eli];refine ⟨_,_,rfl,rfl,⟨by lia,by lia,by decide⟩,?_⟩;have e1:(1:Int) * 2 ^ ((N:Int)).toNat=2 ^ N:=by rw [Int.one_mul,Int.toNat_natCast]
  show (Rr _ _) _ [some (.ref g.p),some (.int i),some (.int o),some (.ref tp),some (.ref kn),some (.int (1 * 2 ^ ((N:Int)).toNat)),none,none] H;rw [e1];refine ⟨_,rfl,_,rfl,rfl,_,rfl,Jg (fun hio=>?_) (fun _=>?_)⟩
  ·have hio:=of_decide_eq_true hio;injection hio with hio
   obtain rfl:i=o:=Int.ofNat.inj hio;exact Cg ⟨_,rfl,back (AE.refl H) ⟨li,fun x y _ _=>by split<;>rfl⟩⟩
  refine ⟨_,rfl,_,rfl,_,rfl,(by show 4<=sizeLine; decide),fun t1 ht1=>?_⟩;have s1:=Ak (o:=.tup [.int 0,.int 0,.int (2 ^ N),.int (2 ^ N)]) ht1;have h1:upd H t1 (.tup [.int 0,.int 0,.int (2 ^ N),.int (2 ^ N)]) t1=some (.tup [.int 0,.int 0,.int (2 ^ N),.int (2 ^ N)]):=Ah;show ∃ _,_;generalize upd H t1 (.tup [.int 0,.int 0,.int (2 ^ N),.int (2 ^ N)])=H1 at s1 h1 ⊢;refine ⟨tp,t1,[l,t,r,b],[0,0,2 ^ N,2 ^ N],rfl,rfl,SqT.of (s1 _ _ htp),SqT.of h1,_,rfl,Jg (fun he=>?_) (fun he=>?_)⟩
  ·have he:=of_decide_eq_true he;injection he with z1 he
   injection he with z2 he
   injection he with z3 he
   injection he with z4 he
   refine ⟨_,rfl,back s1 ⟨li,fun x y hx hy=>?_⟩⟩;have px:(x:Int) < 2 ^ N:=by have:(x:Int) < ((2 ^ N:Nat):Int):=(by lia); rw [Int.natCast_pow] at this; exact this
   have py:(y:Int) < 2 ^ N:=by have:(y:Int) < ((2 ^ N:Nat):Int):=(by lia); rw [Int.natCast_pow] at this; exact this
   rw [if_pos (by subst z1 z2 z3 z4; exact ⟨⟨by lia,px⟩,by lia,py⟩)]
  have N1:1<=N:=by
   refine Nat.one_le_iff_ne_zero.mpr fun z=>he ?_;subst z;have b1:r<=1:=bd.2.2.1;have b2:b<=1:=bd.2.2.2;obtain ⟨rfl,rfl,rfl,rfl⟩:l=0/\t=0/\r=1/\b=1:=by lia
   exact decide_eq_true rfl
  obtain ⟨M,rfl⟩:∃ M,N=M+1:=⟨N - 1,by lia⟩
  refine ⟨_,rfl,_,rfl,_,rfl,(by show 3<=sizeLine; decide),fun tk htk=>?_⟩;have s2:=Ak (o:=.tup [.int i,.int o,.ref tp]) htk;have h2:upd H1 tk (.tup [.int i,.int o,.ref tp]) tk=some (.tup [.int i,.int o,.ref tp]):=Ah;show (Rr _ _) _ _ (upd H1 tk (.tup [.int i,.int o,.ref tp]));generalize upd H1 tk (.tup [.int i,.int o,.ref tp])=H2 at s2 h2 ⊢;have s12:=s1.trans s2;have na2:=Bn.same s12 na;have fu2:=fu.same s12;have htp2:=s12 _ _ htp;have kat:∀ {H':Hp},H' tk=some (.tup [.int i,.int o,.ref tp])->H' tp=some (.tup [.int l,.int t,.int r,.int b])->EZ H' tk (kMx i o l t r b):=fun z1 z2=>⟨_,z1,.cons rfl (.cons rfl (.cons ⟨tp,rfl,z2⟩ .nil))⟩
  refine ⟨_,rfl,kn,rfl,⟨kvs,na2⟩,_,rfl,tk,kMx i o l t r b,kvs,rfl,na2,kat h2 htp2,rfl,?_⟩;cases ev:BH kvs (kMx i o l t r b) with
  | some v =>
   obtain ⟨n',i',o',l',t',r',b',m,en⟩:=kok.val _ (Rl ev);have e2:=en.e;injection e2 with e2 e3
   obtain ⟨rfl,rfl,rfl,rfl,rfl,rfl⟩:=MV e2;subst e3;have:n'=M+1:=Int.ofNat.inj (en.pd.lo.uniq lo);subst this;exact ⟨_,rfl,rfl,_,rfl,Bb ⟨_,rfl,back s12 en.mx⟩⟩
  | none =>
   refine ⟨_,rfl,rfl,_,rfl,Cg ?_⟩;refine ⟨_,rfl,_,rfl,_,rfl,_,_,rfl,rfl,⟨by decide,by decide⟩,_,rfl,?_⟩;have e4:(2:Int) ^ (M+1) / 2=2 ^ M:=by rw [Int.pow_succ,Int.mul_ediv_cancel _ (by decide)]
   refine ⟨g,G,c,kn,tk,tp,kvs,i,o,M,l,t,r,b,by rw [<-e4]; rfl,fu2,na2,nk,h2,htp2,kok,clo,s8,pd,by lia,by lia,bd,sx hl,sy ht,few,fun m G' kvs' H3 x3 fu3 na3 kok3 le3 go3 un3 mx3=>?_⟩;have no3:BH kvs' (kMx i o l t r b)=none:=un3 i o l t r b (M+1) lo (by lia) ev;have l3:=kok3.len fu3.ok;have g3:=go3.few;refine ⟨_,rfl,_,rfl,_,rfl,kn,tk,kMx i o l t r b,kvs',rfl,rfl,na3,kat (x3.tup h2) (x3.tup htp2),rfl,Ed (by lia),fun H4 x4 na4=>?_⟩;obtain ⟨kok4,len4⟩:=kok3.put ⟨rfl,pd.go go3,mx3,sx hl,sy ht⟩ no3;have x4':Fx (frM g kn) H3 H4:=fun cc oo e z=>x4 cc oo e fun y=>by
    subst y;obtain ⟨xs,e9,_⟩:=na3.ex;rw [e9] at e;cases e;exact z (by simp [frM])
   have fu4:=fu3.fx (l:=[kn]) (fun cc oo e z=>x4 cc oo e fun y=>by
    subst y;obtain ⟨xs,e9,_⟩:=na3.ex;rw [e9] at e;cases e;exact z (by simp)) fun y hy z=>nk (by rw [List.mem_singleton] at z; rw [<-z]; exact hy)
   refine ⟨_,rfl,k m G' _ H4 (((AE.fx s12).trans x3).trans x4') fu4 na4 kok4 (by lia) (go3.mono (by lia)) ?_ mx3⟩;intro i' o' l' t' r' b' N' hN hlt z;rw [Jx,if_neg]
   ·exact un3 i' o' l' t' r' b' N' hN (by lia) z
   ·intro q;obtain ⟨_,rfl,_⟩:=MV q;have:=Int.ofNat.inj (hN.uniq lo);lia
end
end J
namespace J
open PySem L2
seal L2.PA L2.PE L2.PS L2.PSs L2.PT L2.PW
theorem Ch.at4 {G:Gv} {n i:Nat} {q:Sq} {a b c d:Nat} (h:Ch G n i q a b c d) {k:Nat} (hk:k < 4):(q.parts.map V.int)[k]?=some (.int (f4 a b c d k:Nat)):=by
 rw [h.ps]
 match k,hk with
 | 0,_=>rfl
 | 1,_=>rfl
 | 2,_=>rfl
 | 3,_=>rfl
section
variable {P:Program} {w:World} {K:PySem.W.Frag} {mg:Str->Option Value} {base:Heap} {a:Ad}
theorem ok_mq {n d:Nat} (hd:2<=d) {f:Addr} {fd:FuncData} (F:Fun K "mixed_quarters" "mixed_quarters" Bk f fd) (T:Top K mg a) (aG:Cal P w K mg base CX0 1 "split_stretch" BP Jm) (aB:Cy P w K mg base CX0 2 a.c_Grove "linked" Bf (GK a)) (bK:Cal P w K mg base CX0 d "mixed" Em (LL a P w n)):AI P w K mg base CX0 (d+1) f fd Ca (spMQ a P w n):=by
 refine F.ok AF (fun vs H Q E h=>?_) (fun cdv A outer s H vs Q E hr h=>?_)
 ·obtain ⟨g,G,c,kn,tk,tp,kvs,i,o,N,l,t,r,b,rfl,_⟩:=h;rfl
 ·obtain ⟨g,G,c,kn,tk,tp,kvs,i,o,N,l,t,r,b,rfl,fu,na,nk,htk,htp,kok,clo,s8,pd,Nn,N47,bd,sx,sy,⟨few,few2⟩,k⟩:=h;refine ⟨_,(Ab (Aj (i:=4) AF.nd rfl (Or.inl rfl) (Ax AZ (Bv (pv 0) rfl) (Ax AC (pv 1) Ag (fun _ _=>rfl)) (fun _ _=>rfl))) (Ab (Aj (i:=5) AF.nd rfl (Or.inl rfl) (Ax AZ (Bv (pv 0) rfl) (Ax AC (pv 1) Ag (fun _ _=>rfl)) (fun _ _=>rfl))) (Ab (Aj (i:=6) AF.nd rfl (Or.inl rfl) (Ax AC (pv 1) Ag (fun _ _=>rfl))) (Ab (Aj (i:=7) AF.nd rfl (Or.inl rfl) (Ap aG (rm hr) rfl Am (Aa (Ax AC (pv 6) Ag (fun _ _=>rfl)) (Aa (Ax AC (pv 6) Ag (fun _ _=>rfl)) (Aa (pv 2) Ac))))) (Ab (Aj (i:=8) AF.nd rfl (Or.inl rfl) (Ap aG (rm hr) rfl Am (Aa (Ax AC (pv 6) Ag (fun _ _=>rfl)) (Aa (Ax AC (pv 6) Ag (fun _ _=>rfl)) (Aa (pv 2) Ac))))) (Ab (Aj (i:=9) AF.nd rfl (Or.inl rfl) (CW Ac)) (Ab (Dy PassesOwn.never rfl (Fg rfl T.b_range (BY Ac)) (AY (i:=10) AF.nd rfl (Or.inl rfl)) (Ab (Aj (i:=11) AF.nd rfl (Or.inl rfl) (Ax AC (pv 7) (AA CD (pv 10) Ag) (fun _ _=>rfl))) (Ab (Aj (i:=12) AF.nd rfl (Or.inl rfl) (Ax AC (pv 8) (AA CT (pv 10) Ag) (fun _ _=>rfl))) (Ab (Aj (i:=13) AF.nd rfl (Or.inl rfl) (FC (Aa (Ax AC (pv 11) Ag (fun _ _=>rfl)) (Aa (Ax AC (pv 12) Ag (fun _ _=>rfl)) (Aa (Ax AC (pv 11) Ag (fun _ _=>rfl)) (Aa (Ax AC (pv 12) Ag (fun _ _=>rfl)) Ac)))))) (Af (Dz (Fi PySem.F.plainAttrs_list PySem.F.slot_list_append PySem.F.type_list_append Ex (pv 9) (Aa (Ap bK (rm hr) rfl Am (Aa (pv 0) (Aa (Ax AC (pv 4) (pv 10) (fun _ _=>rfl)) (Aa (Ax AC (pv 5) (pv 10) (fun _ _=>rfl)) (Aa (pv 13) (Aa (pv 3) Ac)))))) Ac)))))))) (Af (Ao (AG (pv 0) aB (rm hr) Am (Aa (Fh LC rfl T.b_tuple PyProof.Rows.boot_tuple (Aa (pv 9) Ac)) Ac))))))))))),?_⟩
  try dsimp only [cxK]
  have li:=pd.li;have lo:=pd.lo;obtain ⟨qi,i0,i1,i2,i3,ni⟩:=AO fu.ok li;obtain ⟨qo,o0,o1,o2,o3,no⟩:=AO fu.ok lo;obtain ⟨ts,h3,h4⟩:=fu.at'.pt;obtain ⟨ti,eti,hti⟩:=PairedM.get h4 ni.g;have hti:H ti=some (.tup (qi.parts.map V.int)):=hti;obtain ⟨to',eto,hto⟩:=PairedM.get h4 no.g;have hto:H to'=some (.tup (qo.parts.map V.int)):=hto;refine ⟨_,rfl,g.p,_,g.dx,_,_,rfl,fu.at'.hp,T.cl_Grove,T.na_Grove_parts,FJ g,_,rfl,tk,_,0,.int i,rfl,rfl,SqT.of htk,Ai (j:=0) rfl,g.pt,_,(i:Int),.ref ti,rfl,rfl,SqL.of h3,Ai (by rw [List.getElem?_map,eti]; rfl),?_⟩;refine ⟨_,rfl,g.p,_,g.dx,_,_,rfl,fu.at'.hp,T.cl_Grove,T.na_Grove_parts,FJ g,_,rfl,tk,_,1,.int o,rfl,rfl,SqT.of htk,Ai (j:=1) rfl,g.pt,_,(o:Int),.ref to',rfl,rfl,SqL.of h3,Ai (by rw [List.getElem?_map,eto]; rfl),?_⟩;refine ⟨_,rfl,tk,_,2,.ref tp,rfl,rfl,SqT.of htk,Ai (j:=2) rfl,?_⟩;refine ⟨_,rfl,tp,_,0,.int l,rfl,rfl,SqT.of htp,Ai (j:=0) rfl,_,rfl,tp,_,2,.int r,rfl,rfl,SqT.of htp,Ai (j:=2) rfl,_,rfl,l,r,2 ^ N,rfl,fun c0 c1 cc H1 s1 hcc hc0 hc1=>?_⟩;have htp1:=s1 _ _ htp;refine ⟨_,rfl,tp,_,1,.int t,rfl,rfl,SqT.of htp1,Ai (j:=1) rfl,_,rfl,tp,_,3,.int b,rfl,rfl,SqT.of htp1,Ai (j:=3) rfl,_,rfl,t,b,2 ^ N,rfl,fun r0 r1 rr H2 s2 hrr hr0 hr1=>?_⟩;refine ⟨(by show 0<=sizeLine; decide),fun md hmd=>?_⟩;have s3:=Ak (o:=.lst []) hmd;have hm3:upd H2 md (.lst []) md=some (.lst []):=Ah;show (Rr _ _) _ _ (upd H2 md (.lst []));generalize upd H2 md (.lst [])=H3 at s3 hm3 ⊢;have s13:=(s1.trans s2).trans s3;have nmd:H md=none:=AE.noneOf (s1.trans s2) hmd;have col:∀ {u:Nat},u < 2->∃ x,[V.ref c0,V.ref c1][u]?=some (.ref x)/\H3 x=some (.tup [.int (spl l r (2 ^ N) u).1,.int (spl l r (2 ^ N) u).2]):=fun {u} hu=>by
   match u,hu with
   | 0,_=>exact ⟨c0,rfl,s3 _ _ (s2 _ _ hc0)⟩
   | 1,_=>exact ⟨c1,rfl,s3 _ _ (s2 _ _ hc1)⟩
  have row:∀ {u:Nat},u < 2->∃ x,[V.ref r0,V.ref r1][u]?=some (.ref x)/\H3 x=some (.tup [.int (spl t b (2 ^ N) u).1,.int (spl t b (2 ^ N) u).2]):=fun {u} hu=>by
   match u,hu with
   | 0,_=>exact ⟨r0,rfl,s3 _ _ hr0⟩
   | 1,_=>exact ⟨r1,rfl,s3 _ _ hr1⟩
  have hcc3:=s3 _ _ (s2 _ _ hcc);have hrr3:=s3 _ _ hrr;have hti3:=s13 _ _ hti;have hto3:=s13 _ _ hto;have fu3:=fu.same s13;have na3:=Bn.same s13 na;have gmd:md ∉ DK g:=fun z=>by
   obtain ⟨oo,e⟩:=(fu.same (s1.trans s2)).nw.s md z;rw [hmd] at e;cases e
  have kmd:md≠kn:=fun z=>by
   obtain ⟨xs,e,_⟩:=na.ex;rw [z] at nmd;rw [nmd] at e;cases e
  have mF:md ∉ frM g kn:=fun z=>by
   simp only [frM,List.mem_cons,List.not_mem_nil,or_false] at z;rcases z with z | z | z | z
   ·exact gmd (by rw [z]; simp [DK])
   ·exact gmd (by rw [z]; simp [DK])
   ·exact gmd (by rw [z]; simp [DK])
   ·exact kmd z
  clear htp1 hc0 hc1 hr0 hr1 hcc hrr s1 s2 s3;refine ⟨4,rfl,by decide,by decide,?_⟩;refine Fn (n:=4) (fun j σ H4=>∃ (G4:Gv) (kvs4:List (NK×V)) (ms:Nat->Nat) (u10 u11 u12 u13:Option V),σ=[some (.ref g.p),some (.ref tk),some (.int (2 ^ N)),some (.ref kn),some (.ref ti),some (.ref to'),some (.ref tp),some (.ref cc),some (.ref rr),some (.ref md),u10,u11,u12,u13]/\Fx (md :: frM g kn) H3 H4/\H4 md=some (.lst ((List.range j).map fun x=>V.int (ms x:Nat)))/\Bp a H4 g G4/\Bn P w shM H4 kn kvs4/\KOk G4 c kvs4/\kvs.length<=kvs4.length/\AM G G4 (kvs4.length - kvs.length)/\Un G N kvs kvs4/\∀ x,x < j->EN G4 N (f4 i0 i1 i2 i3 x) (f4 o0 o1 o2 o3 x) (spl l r (2 ^ N) (x % 2)).1 (spl t b (2 ^ N) (x / 2)).1 (spl l r (2 ^ N) (x % 2)).2 (spl t b (2 ^ N) (x / 2)).2 (ms x)) ⟨G,kvs,fun _=>0,none,none,none,none,rfl,Fx.refl _ H3,hm3,fu3,na3,kok,Nat.le_refl _,(AM.refl fu.ok).mono (by lia),Un.refl _ _ _,fun x hx=>absurd hx (Nat.not_lt_zero _)⟩ ?_ ?_
  ·rintro j σ H4 hj ⟨G4,kvs4,ms,u10,u11,u12,u13,rfl,x4,hm4,fu4,na4,kok4,le4,go4,un4,mx4⟩;have u2:j % 2 < 2:=Nat.mod_lt _ (by decide);have v2:j / 2 < 2:=by lia
   obtain ⟨cx,ecx,hcx⟩:=col u2;obtain ⟨ry,ery,hry⟩:=row v2;have hcx4:=x4.tup hcx;have hry4:=x4.tup hry;have cm:(0+(j:Int)) % 2=((j % 2:Nat):Int):=by lia
   have cd:(0+(j:Int)) / 2=((j / 2:Nat):Int):=by lia
   refine ⟨_,rfl,_,rfl,_,_,rfl,rfl,(by show (0:Int) < 2; decide),cc,_,_,.ref cx,rfl,rfl,SqT.of (x4.tup hcc3),?_,?_⟩
   ·show atI [V.ref c0,V.ref c1] ((0+(j:Int)) % 2)=_;rw [cm];exact Ai ecx
   refine ⟨_,rfl,_,rfl,_,_,rfl,rfl,⟨by decide,by decide⟩,rr,_,_,.ref ry,rfl,rfl,SqT.of (x4.tup hrr3),?_,?_⟩
   ·show atI [V.ref r0,V.ref r1] ((0+(j:Int)) / 2)=_;rw [cd];exact Ai ery
   refine ⟨_,rfl,cx,_,0,_,rfl,rfl,SqT.of hcx4,Ai (j:=0) rfl,_,rfl,ry,_,0,_,rfl,rfl,SqT.of hry4,Ai (j:=0) rfl,_,rfl,cx,_,1,_,rfl,rfl,SqT.of hcx4,Ai (j:=1) rfl,_,rfl,ry,_,1,_,rfl,rfl,SqT.of hry4,Ai (j:=1) rfl,(by show 4<=sizeLine; decide),fun qp hqp=>?_⟩;have s5:=Ak (o:=.tup [.int (spl l r (2 ^ N) (j % 2)).1,.int (spl t b (2 ^ N) (j / 2)).1,.int (spl l r (2 ^ N) (j % 2)).2,.int (spl t b (2 ^ N) (j / 2)).2]) hqp;have h5:upd H4 qp (.tup [.int (spl l r (2 ^ N) (j % 2)).1,.int (spl t b (2 ^ N) (j / 2)).1,.int (spl l r (2 ^ N) (j % 2)).2,.int (spl t b (2 ^ N) (j / 2)).2]) qp=some (.tup [.int (spl l r (2 ^ N) (j % 2)).1,.int (spl t b (2 ^ N) (j / 2)).1,.int (spl l r (2 ^ N) (j % 2)).2,.int (spl t b (2 ^ N) (j / 2)).2]):=Ah;show ∃ _,_;generalize upd H4 qp (.tup [.int (spl l r (2 ^ N) (j % 2)).1,.int (spl t b (2 ^ N) (j / 2)).1,.int (spl l r (2 ^ N) (j % 2)).2,.int (spl t b (2 ^ N) (j / 2)).2])=H5 at s5 h5 ⊢;have x5:=x4.trans (AE.fx s5);have hm5:=s5 _ _ hm4;have ai:atI (qi.parts.map V.int) (0+(j:Int))=some (.int (f4 i0 i1 i2 i3 j:Nat)):=by
    rw [Int.zero_add];exact Ai (ni.at4 hj)
   have ao:atI (qo.parts.map V.int) (0+(j:Int))=some (.int (f4 o0 o1 o2 o3 j:Nat)):=by
    rw [Int.zero_add];exact Ai (no.at4 hj)
   have pd4:Pd G4 c N (f4 i0 i1 i2 i3 j) (f4 o0 o1 o2 o3 j):=(pd.part fu.ok clo ni no hj).go go4;have pN:(0:Int) < 2 ^ N:=FA N;have e2:(2:Int) ^ (N+1)=2 ^ N+2 ^ N:=by rw [Int.pow_succ]; lia
   rw [e2] at bd;have bds:∀ {s0 e0:Int} {u:Nat},0<=s0->e0<=2 ^ N+2 ^ N->0<=(spl s0 e0 (2 ^ N) u).1/\(spl s0 e0 (2 ^ N) u).2<=2 ^ N:=fun {s0 e0 u} a1 a2=>by
    unfold spl;split
    ·dsimp only;split<;>lia
    ·dsimp only;split<;>lia
   have bx:=bds (u:=j % 2) bd.1 bd.2.2.1;have by':=bds (u:=j / 2) bd.2.1 bd.2.2.2
   have g4:=go4.few;refine ⟨_,rfl,.inl ⟨rfl,_,SqL.of hm5⟩,_,rfl,_,rfl,_,rfl,ti,_,_,_,rfl,rfl,SqT.of (x5.tup hti3),ai,_,rfl,_,rfl,to',_,_,_,rfl,rfl,SqT.of (x5.tup hto3),ao,_,rfl,_,rfl,?_⟩;refine ⟨g,G4,c,kn,qp,kvs4,f4 i0 i1 i2 i3 j,f4 o0 o1 o2 o3 j,N,_,_,_,_,rfl,fu4.same s5,Bn.same s5 na4,nk,h5,kok4,clo.app go4,s8,pd4,Nn,by lia,⟨bx.1,by'.1,bx.2,by'.2⟩,fun z=>sx.spl z,fun z=>sy.spl z,⟨by lia,few2⟩,fun m G6 kvs6 H6 x6 fu6 na6 kok6 le6 go6 un6 mx6=>?_⟩;have hm6:=x6.get mF hm5;refine ⟨md,_,.int m,rfl,rfl,hm6,by rw [List.length_map,List.length_range]; exact Ed (by lia),?_⟩;have x7:=fx_up (o':=.lst (((List.range j).map fun x=>V.int (ms x:Nat)) ++ [.int m])) hm6 (fun z=>z);have le46:G.length<=G4.length:=go4.le;refine ⟨G6,kvs6,fun x=>if x=j then m else ms x,_,_,_,_,rfl,(x5.trans (x6.mono (by simp [frM]))).trans (x7.mono (by simp)),?_,fu6.fx x7 fun y hy z=>gmd (by rw [List.mem_singleton] at z; rw [<-z]; exact hy),Bn.fx x7 (by simpa using Ne.symm kmd) na6,kok6,by lia,(go4.trans go6).mono (by lia),un4.trans go4 un6,fun x hx=>?_⟩
   ·rw [Ah,List.range_succ,List.map_append];congr 3
    ·exact List.map_congr_left fun x hx=>by
      show V.int (ms x:Nat)=V.int ((if x=j then m else ms x:Nat):Int);rw [if_neg (by have:=List.mem_range.mp hx; lia)]
    ·show [V.int m]=[V.int ((if j=j then m else ms j:Nat):Int)]
     rw [if_pos rfl]
   ·dsimp only;by_cases z:x=j
    ·subst z;rw [if_pos rfl];exact mx6
    ·rw [if_neg z];have hx3:x < 4:=by lia
     have l1:Al G4 (f4 o0 o1 o2 o3 x) (N:Int):=go4.lev (by
      match x,hx3 with
      | 0,_=>exact no.hx
      | 1,_=>exact no.hy
      | 2,_=>exact no.hz
      | 3,_=>exact no.hw)
     have l2:Al G4 (f4 i0 i1 i2 i3 x) (N:Int):=go4.lev (ni.nat hx3).2;exact (mx4 x (by lia)).app fu4.ok go6 l2 l1
  ·rintro σ H4 ⟨G4,kvs4,ms,u10,u11,u12,u13,rfl,x4,hm4,fu4,na4,kok4,le4,go4,un4,mx4⟩;have g4:=go4.few;have l4:=kok4.len fu4.ok;refine ⟨_,rfl,g.p,g.dx,_,rfl,fu4.at'.hp,Dq g,_,rfl,md,_,rfl,.inl ⟨SqL.of hm4,fun tl htl=>?_⟩⟩;have s5:=Ak (o:=.tup [.int (ms 0:Nat),.int (ms 1:Nat),.int (ms 2:Nat),.int (ms 3:Nat)]) htl;refine ⟨g,G4,tl,ms 0,ms 1,ms 2,ms 3,(N:Int),rfl,fu4.at'.same s5,fu4.ok,Ah,⟨(mx4 0 (by decide)).lev,(mx4 1 (by decide)).lev,(mx4 2 (by decide)).lev,(mx4 3 (by decide)).lev⟩,by lia,by lia,fun m G6 H6 fr6 hg6 go6 e6=>?_⟩;have x6:=fr6.fx (fu4.at'.same s5);have fu6:=(fu4.same s5).fr fr6 hg6 go6;have x46:Fx (md :: frM g kn) H3 H6:=(x4.trans (AE.fx s5)).trans (x6.mono (by simp [frM]));have kf:kn ∉ [g.lv,g.pt,g.nm]:=fun z=>nk (by simp [DK] at *; lia);refine k m G6 kvs4 H6 (Fx.fresh s13 x46 nmd) fu6 (Bn.fx x6 kf (Bn.same s5 na4)) (kok4.go fu4.ok s8 go6) le4 (go4.trans go6) un4 ?_;exact EN.join (ni.app (go4.trans go6)) (no.app (go4.trans go6)) (fun x hx=>(mx4 x hx).app fu4.ok go6 (go4.lev (ni.nat hx).2) (go4.lev (by
    match x,hx with
    | 0,_=>exact no.hx
    | 1,_=>exact no.hy
    | 2,_=>exact no.hz
    | 3,_=>exact no.hw))) e6
theorem Sj {f:Addr} {fd:FuncData} {f':Addr} {fd':FuncData} (F:Fun K "mixed" "mixed" Fw f fd) (F':Fun K "mixed_quarters" "mixed_quarters" Bk f' fd') (T:Top K mg a) (hm:mg "mixed" = some (.ref f)) (Bi:DN K fd Em []) (hm':mg "mixed_quarters" = some (.ref f')) (Bi':DN K fd' Ca []) (aG:Cal P w K mg base CX0 1 "split_stretch" BP Jm) (aB:Cy P w K mg base CX0 2 a.c_Grove "linked" Bf (GK a)):∀ n,AI P w K mg base CX0 (2 * n+2) f fd Em (LL a P w n)
 | 0=>by
  refine F.ok Fe (fun vs H Q E h=>?_) (fun cdv A outer s H vs Q E hr h=>?_)
  ·obtain ⟨g,G,c,kn,tp,kvs,i,o,N,l,t,r,b,rfl,_,_,_,_,_,_,_,_,h0,_⟩:=h;exact absurd h0 (Nat.not_lt_zero _)
  ·obtain ⟨g,G,c,kn,tp,kvs,i,o,N,l,t,r,b,rfl,_,_,_,_,_,_,_,_,h0,_⟩:=h;exact absurd h0 (Nat.not_lt_zero _)
 | n+1=>ok_mixS F T ⟨f',fd',ok_mq (d:=2 * n+2) (by lia) F' T aG aB ⟨f,fd,Sj F F' T hm Bi hm' Bi' aG aB n,hm,F.kp,Bi⟩,hm',F'.kp,Bi'⟩
end
end J
namespace J
open PySem L2
theorem EN.part {G:Gv} {n i o m:Nat} {l t r b:Int} {qi qo qm:Sq} {i0 i1 i2 i3 o0 o1 o2 o3 m0 m1 m2 m3:Nat} (ni:Ch G n i qi i0 i1 i2 i3) (no:Ch G n o qo o0 o1 o2 o3) (nm:Ch G n m qm m0 m1 m2 m3) (h:EN G (n+1) i o l t r b m) {k:Nat} (hk:k < 4) :
  EN G n (f4 i0 i1 i2 i3 k) (f4 o0 o1 o2 o3 k) (spl l r (2 ^ n) (k % 2)).1 (spl t b (2 ^ n) (k / 2)).1 (spl l r (2 ^ n) (k % 2)).2 (spl t b (2 ^ n) (k / 2)).2 (f4 m0 m1 m2 m3 k):=by
 refine ⟨(nm.nat hk).2,fun x y hx hy=>?_⟩;obtain ⟨h1,h2,h3,h4,h5⟩:=EL hk hx hy;have c:=h.cell _ _ h1 h2;rw [AW nm h1 h2,AW ni h1 h2,AW no h1 h2,h3,h4,h5] at c;rw [c];have d1:(x+2 ^ n * (k % 2)) / 2 ^ n=k % 2:=by
  rw [Nat.add_mul_div_left _ _ (Bg n),Nat.div_eq_of_lt hx,Nat.zero_add]
 have d2:(y+2 ^ n * (k / 2)) / 2 ^ n=k / 2:=by
  rw [Nat.add_mul_div_left _ _ (Bg n),Nat.div_eq_of_lt hy,Nat.zero_add]
 have i1:=Jl (s:=l) (e:=r) h1 d1;have i2:=Jl (s:=t) (e:=b) h2 d2;rw [h4] at i1;rw [h5] at i2;by_cases z:(l<=((x+2 ^ n * (k % 2):Nat):Int)/\((x+2 ^ n * (k % 2):Nat):Int) < r)/\(t<=((y+2 ^ n * (k / 2):Nat):Int)/\((y+2 ^ n * (k / 2):Nat):Int) < b)
 ·rw [if_pos z,if_pos ⟨i1.mpr z.1,i2.mpr z.2⟩]
 ·rw [if_neg z,if_neg fun q=>z ⟨i1.mp q.1,i2.mp q.2⟩]
theorem EN.empty {G:Gv} (ok:GOk G) {n i o m:Nat} {l t r b:Int} (h:EN G n i o l t r b m) (lo:Al G o (n:Int)) (e:r<=l\/b<=t):m=o:=by
 refine EB ok h.lev lo fun x y hx hy=>?_;rw [h.cell x y hx hy,if_neg (by lia)]
theorem EN.one {G:Gv} (ok:GOk G) {n i o m m':Nat} {l t r b:Int} (h:EN G n i o l t r b m) (h':EN G n i o l t r b m'):m=m':=EB ok h.lev h'.lev fun x y hx hy=>by rw [h.cell x y hx hy,h'.cell x y hx hy]
def Ph (G:Gv) (c:Mc) (x:Nat):Prop:=∃ (k:NK) (n i o:Nat) (l t r b:Int),Ent G c (k,.int x) n i o l t r b x
theorem SB {G:Gv} (ok:GOk G) {c:Mc} {l:List Nat} (nd:l.Nodup) (h:∀ x ∈ l,Ph G c x):l.length<=16 * c.S.length:=by
 classical
 let f:Nat->NK:=fun x=>if z:Ph G c x then Classical.choose z else [];have hf:∀ x ∈ l,∃ n i o l t r b,Ent G c (f x,.int x) n i o l t r b x:=fun x hx=>by
  have z:=h x hx;show ∃ n i o l t r b,Ent G c ((if z:Ph G c x then Classical.choose z else []),.int x) n i o l t r b x;rw [dif_pos z];exact Classical.choose_spec z
 have k:KOk G c (l.map fun x=>(f x,V.int (x:Int))):=by
  refine ⟨?_,fun p hp=>?_⟩
  ·rw [List.map_map,List.nodup_iff_pairwise_ne,List.pairwise_map];refine List.Pairwise.imp_of_mem (fun {x y} hx hy hne z=>hne ?_) (List.nodup_iff_pairwise_ne.mp nd);have z:f x=f y:=z;obtain ⟨n,i,o,l,t,r,b,e⟩:=hf x hx;obtain ⟨n',i',o',l',t',r',b',e'⟩:=hf y hy;have q1:=congrArg Prod.fst e.e;have q2:=congrArg Prod.fst e'.e;have q1:f x=kMx i o l t r b:=q1;have q2:f y=kMx i' o' l' t' r' b':=q2;obtain ⟨rfl,rfl,rfl,rfl,rfl,rfl⟩:=MV (q1.symm.trans (z.trans q2));have:n=n':=Int.ofNat.inj (e.pd.lo.uniq e'.pd.lo);subst this;exact e.mx.one ok e'.mx
  ·obtain ⟨x,hx,rfl⟩:=List.mem_map.mp hp;obtain ⟨n,i,o,l,t,r,b,e⟩:=hf x hx;exact ⟨n,i,o,l,t,r,b,x,e⟩
 have:=k.len ok;rw [List.length_map] at this;exact this
structure FS (G:Gv) (f B:Nat):Prop where
 ex:∃ S:List Nat,f ∈ S/\(∀ j,j<=48->bareN j ∈ S)/\Clo G S/\S.length<=B
theorem FS.app {G G':Gv} {k f B:Nat} (go:AM G G' k) (h:FS G f B):FS G' f B:=by
 obtain ⟨S,h1,h2,h3,h4⟩:=h.ex;exact ⟨S,h1,h2,h3.app go,h4⟩
theorem FS.mono {G:Gv} {f B C:Nat} (h:FS G f B) (e:B<=C):FS G f C:=by
 obtain ⟨S,h1,h2,h3,h4⟩:=h.ex;exact ⟨S,h1,h2,h3,by lia⟩
theorem Clo.cons {G:Gv} {S:List Nat} (h:Clo G S) {n x a b c d:Nat} {q:Sq} (nd:Ch G n x q a b c d) (m:a ∈ S/\b ∈ S/\c ∈ S/\d ∈ S):Clo G (x :: S):=fun o ho=>by
 rcases List.mem_cons.mp ho with rfl | ho
 ·exact .inr ⟨n,q,a,b,c,d,nd,List.mem_cons_of_mem _ m.1,List.mem_cons_of_mem _ m.2.1,List.mem_cons_of_mem _ m.2.2.1,List.mem_cons_of_mem _ m.2.2.2⟩
 ·rcases h o ho with z | ⟨n',q',a',b',c',d',nd',m'⟩
  ·exact .inl z
  ·exact .inr ⟨n',q',a',b',c',d',nd',List.mem_cons_of_mem _ m'.1,List.mem_cons_of_mem _ m'.2.1,List.mem_cons_of_mem _ m'.2.2.1,List.mem_cons_of_mem _ m'.2.2.2⟩
theorem Nb {G r:Gv} (e0:G=G0 ++ r) (ok:GOk G) {j:Nat} (h:j<=48):FS G (bareN j) 49:=by
 refine ⟨(List.range 49).map bareN,List.mem_map.mpr ⟨j,List.mem_range.mpr (by lia),rfl⟩,fun i hi=>List.mem_map.mpr ⟨i,List.mem_range.mpr (by lia),rfl⟩,fun o ho=>?_,by rw [List.length_map,List.length_range]; exact Nat.le_refl _⟩;obtain ⟨i,hi,rfl⟩:=List.mem_map.mp ho;have hi:=List.mem_range.mp hi;cases i with
 | zero=>exact .inl (by decide)
 | succ i =>
  have m:bareN i ∈ (List.range 49).map bareN:=List.mem_map.mpr ⟨i,List.mem_range.mpr (by lia),rfl⟩;have lb:=DM e0 (n:=i) (by lia);have g:G[bareN (i+1)]?=some ⟨[(bareN i:Int),(bareN i:Int),(bareN i:Int),(bareN i:Int)],(i:Int)+1⟩:=by
   have:=OX e0 i (by lia);exact this
  exact .inr ⟨i,_,bareN i,bareN i,bareN i,bareN i,⟨g,rfl,rfl,lb,lb,lb,lb⟩,m,m,m,m⟩
theorem FS.wid {G r:Gv} (e0:G=G0 ++ r) (ok:GOk G) {n f w B:Nat} (hn:n<=46) (h:FS G f B) (wd:Wid G n f w):FS G w (B+5):=by
 obtain ⟨S,h1,h2,h3,h4⟩:=h.ex;obtain ⟨q,x,y,z,v,a,b,c,d,nd,ea,eb,ec,ed,ew⟩:=wd.ex;obtain ⟨m1,m2,m3,m4⟩:=h3.get ok h1 nd;have lb:=DM e0 (n:=n) (by lia);have mb:=h2 n (by lia);have na:Ch G n a _ (bareN n) (bareN n) (bareN n) x:=⟨ea,rfl,rfl,lb,lb,lb,nd.hx⟩
 have nb:Ch G n b _ (bareN n) (bareN n) y (bareN n):=⟨eb,rfl,rfl,lb,lb,nd.hy,lb⟩
 have nc:Ch G n c _ (bareN n) z (bareN n) (bareN n):=⟨ec,rfl,rfl,lb,nd.hz,lb,lb⟩
 have nD:Ch G n d _ v (bareN n) (bareN n) (bareN n):=⟨ed,rfl,rfl,nd.hw,lb,lb,lb⟩
 have la:Al G a ((n+1:Nat):Int):=⟨_,ea,by show (n:Int)+1=_; lia⟩
 have lb':Al G b ((n+1:Nat):Int):=⟨_,eb,by show (n:Int)+1=_; lia⟩
 have lc:Al G c ((n+1:Nat):Int):=⟨_,ec,by show (n:Int)+1=_; lia⟩
 have ld:Al G d ((n+1:Nat):Int):=⟨_,ed,by show (n:Int)+1=_; lia⟩
 have nw:Ch G (n+1) w _ a b c d:=⟨ew,rfl,by show (n:Int)+2=((n+1:Nat):Int)+1; lia,la,lb',lc,ld⟩
 refine ⟨w :: a :: b :: c :: d :: S,by simp,fun j hj=>by simp [h2 j hj],?_,by simp only [List.length_cons]; lia⟩;refine Clo.cons (Clo.cons (Clo.cons (Clo.cons (Clo.cons h3 nD ⟨m4,mb,mb,mb⟩) nc ?_) nb ?_) na ?_) nw ?_
 ·exact ⟨List.mem_cons_of_mem _ mb,List.mem_cons_of_mem _ m3,List.mem_cons_of_mem _ mb,List.mem_cons_of_mem _ mb⟩
 ·simp [mb,m2]
 ·simp [mb,m1]
 ·simp
theorem FS.widN {G r:Gv} (e0:G=G0 ++ r) (ok:GOk G) {n f B:Nat} (h:FS G f B):∀ {k w:Nat},n+k<=46->Li G n f k w->FS G w (B+5 * k)
 | 0,w,_,e=>by
  have e:w=f:=e;subst e;exact h
 | k+1,w,hn,e=>by
  obtain ⟨u,e1,e2⟩:=e;exact ((FS.widN e0 ok h (k:=k) (by lia) e1).wid e0 ok (by lia) e2).mono (by lia)
theorem FS.trim {G:Gv} (ok:GOk G):∀ {n f r B:Nat},FS G f B->IZ G n f r->FS G r (B+n)
 | 0,_,_,_,_,t=>absurd t (by intro z; exact z)
 | 1,f,r,B,h,t=>by
  have t:r=f:=t;subst t;exact h.mono (by lia)
 | n+2,f,r,B,h,t=>by
  obtain ⟨qs,ps,dp,t⟩:=t;rcases t with ⟨_,rfl⟩ | ⟨_,m,em,t⟩
  ·exact h.mono (by lia)
  ·obtain ⟨S,h1,h2,h3,h4⟩:=h.ex;obtain ⟨q,nd⟩:=dp.node;obtain ⟨m0,m1,m2,m3⟩:=h3.get ok h1 nd;have sub:∀ k,k < 4->qs k ∈ S:=fun k hk=>by
    match k,hk with
    | 0,_=>exact m0
    | 1,_=>exact m1
    | 2,_=>exact m2
    | 3,_=>exact m3
   have sub2:∀ k j,k < 4->j < 4->ps k j ∈ S/\Al G (ps k j) (n:Int):=fun k j hk hj=>by
    obtain ⟨q',nd'⟩:=dp.sub k hk;obtain ⟨a0,a1,a2,a3⟩:=h3.get ok (sub k hk) nd'
    match j,hj with
    | 0,_=>exact ⟨a0,nd'.hx⟩
    | 1,_=>exact ⟨a1,nd'.hy⟩
    | 2,_=>exact ⟨a2,nd'.hz⟩
    | 3,_=>exact ⟨a3,nd'.hw⟩
   have p0:=sub2 0 3 (by decide) (by decide);have p1:=sub2 1 2 (by decide) (by decide);have p2:=sub2 2 1 (by decide) (by decide);have p3:=sub2 3 0 (by decide) (by decide);have nm:Ch G n m _ (ps 0 3) (ps 1 2) (ps 2 1) (ps 3 0):=⟨em,rfl,rfl,p0.2,p1.2,p2.2,p3.2⟩
   have:FS G m (B+1):=⟨m :: S,by simp,fun j hj=>by simp [h2 j hj],Clo.cons h3 nm ⟨p0.1,p1.1,p2.1,p3.1⟩,by simp only [List.length_cons]; lia⟩
   exact (FS.trim ok this t).mono (by lia)
theorem fs_mix {G:Gv} (ok:GOk G) {c:Mc} (clo:Clo G c.S) (hb:∀ j,j<=48->bareN j ∈ c.S) {m:Nat} (h:Ph G c m) (s8:c.s < 8) (bo:c.ro=true->∀ {n o:Nat},Al G o (n:Int)->Sol G c.s n o->o ∈ c.S):FS G m (17 * c.S.length):=by
 classical
 let L:=(List.range G.length).filter fun x=>decide (Ph G c x);have inL:∀ {x:Nat},Ph G c x->x ∈ L:=fun {x} hx=>List.mem_filter.mpr ⟨List.mem_range.mpr (by
  obtain ⟨k,n,i,o,l,t,r,b,e⟩:=hx;exact e.mx.lev.lt),decide_eq_true hx⟩
 have len:L.length<=16 * c.S.length:=SB ok (List.Pairwise.filter _ List.nodup_range) fun x hx=>of_decide_eq_true (List.mem_filter.mp hx).2;refine ⟨c.S ++ L,List.mem_append.mpr (.inr (inL h)),fun j hj=>List.mem_append.mpr (.inl (hb j hj)),fun x hx=>?_,by rw [List.length_append]; lia⟩;rcases List.mem_append.mp hx with hx | hx
 ·rcases clo x hx with z | ⟨n,q,a,b,c',d,nd,m1,m2,m3,m4⟩
  ·exact .inl z
  ·exact .inr ⟨n,q,a,b,c',d,nd,List.mem_append.mpr (.inl m1),List.mem_append.mpr (.inl m2),List.mem_append.mpr (.inl m3),List.mem_append.mpr (.inl m4)⟩
 ·obtain ⟨k,n,i,o,l,t,r,b,e⟩:=of_decide_eq_true (List.mem_filter.mp hx).2;cases n with
  | zero=>exact .inl (Pz ok e.mx.lev)
  | succ n =>
   obtain ⟨qm,m0,m1,m2,m3,nm⟩:=AO ok e.mx.lev;obtain ⟨qo,o0,o1,o2,o3,no⟩:=AO ok e.pd.lo;obtain ⟨qi,i0,i1,i2,i3,ni⟩:=AO ok e.pd.li;have all:∀ k',k' < 4->f4 m0 m1 m2 m3 k' ∈ c.S ++ L:=fun k' hk=>by
    have mp:=e.mx.part ni no nm hk;have pd':=e.pd.part ok clo ni no hk;by_cases z:(spl l r (2 ^ n) (k' % 2)).1 < (spl l r (2 ^ n) (k' % 2)).2/\(spl t b (2 ^ n) (k' / 2)).1 < (spl t b (2 ^ n) (k' / 2)).2
    ·exact List.mem_append.mpr (.inr (inL ⟨_,n,_,_,_,_,_,_,⟨rfl,pd',mp,e.sx.spl z.1,e.sy.spl z.2⟩⟩))
    ·rw [mp.empty ok pd'.lo (by lia)];refine List.mem_append.mpr (.inl ?_);have q1:=pd'.mo;have q2:=pd'.so;unfold Eo at q1;unfold Qx at q2;by_cases y:c.ro=true
     ·rw [if_pos y] at q2;exact bo y pd'.lo q2
     ·rw [if_neg y] at q1;exact q1
   exact .inr ⟨n,qm,m0,m1,m2,m3,nm,all 0 (by decide),all 1 (by decide),all 2 (by decide),all 3 (by decide)⟩
end J
namespace J
open PySem L2
seal L2.PA L2.PE L2.PS L2.PSs L2.PT L2.PW
theorem Oi {G:Gv} (ok:GOk G) {s:Nat} (hs:s < 8):∀ {n i x y:Nat},Sol G s n i->x < 2 ^ n->y < 2 ^ n->cellF G n i x y=s
 | 0,i,x,y,h,_,_=>h
 | n+1,i,x,y,h,hx,hy=>by
  obtain ⟨m,h1,e⟩:=h;have lm:=Sol.lev ok hs h1;have nd:Ch G n i _ m m m m:=⟨e,rfl,rfl,lm,lm,lm,lm⟩
  rw [AW nd hx hy];have:f4 m m m m (CY n x y)=m:=by unfold f4; split<;>rfl
  rw [this];exact Oi ok hs h1 (Nat.mod_lt _ (Bg n)) (Nat.mod_lt _ (Bg n))
def InB (x y wd ht u v:Int):Prop:=(x<=u/\u < x+wd)/\(y<=v/\v < y+ht)
instance (x y wd ht u v:Int):Decidable (InB x y wd ht u v):=by unfold InB; infer_instance
theorem QG {G:Gv} (ok:GOk G) {n s i o m:Nat} {x y wd ht:Int} (s8:s < 8) (so:Sol G s (n+1) i) (li:DW x y wd ht (2 ^ n)) (h:EN G (n+1) i o (x+2 ^ n) (y+2 ^ n) (x+2 ^ n+wd) (y+2 ^ n+ht) m) (u v:Int):AQ G n m u v=if InB x y wd ht u v then s else AQ G n o u v:=by
 unfold AQ;by_cases z:-(2 ^ n)<=u/\u < 2 ^ n/\-(2 ^ n)<=v/\v < 2 ^ n
 ·rw [if_pos z,if_pos z];have h1:=FQ z.1 z.2.1;have h2:=FQ z.2.2.1 z.2.2.2;rw [h.cell _ _ h1 h2,Oi ok s8 so h1 h2];have e1:((u+2 ^ n).toNat:Int)=u+2 ^ n:=Int.toNat_of_nonneg (by lia);have e2:((v+2 ^ n).toNat:Int)=v+2 ^ n:=Int.toNat_of_nonneg (by lia);rw [e1,e2];by_cases q:InB x y wd ht u v
  ·rw [if_pos q,if_pos (by unfold InB at q; lia)]
  ·rw [if_neg q,if_neg (by unfold InB at q; lia)]
 ·rw [if_neg z,if_neg z,if_neg];unfold InB;unfold DW at li;lia
def clL (v:Int):Int:=if 0 > v then 0 else v
def clR (n:Nat) (v:Int):Int:=if 2 * 2 ^ n < v then 2 * 2 ^ n else v
theorem Td {v:Int} (h:0<=v):clL v=v:=by unfold clL; rw [if_neg (by lia)]
theorem Tc {n:Nat} {v:Int} (h:v<=2 * 2 ^ n):clR n v=v:=by unfold clR; rw [if_neg (by lia)]
section
variable {P:Program} {w:World} {K:PySem.W.Frag} {mg:Str->Option Value} {base:Heap} {a:Ad}
inductive SpChB (vs:List V) (H:Hp) (Q:VK):Prop
 | mk (t:Addr) (x y wd ht:Int) (_:vs=[.ref t]) (_:H t=some (.tup [.int x,.int y,.int wd,.int ht])) (_:0<=wd) (_:0<=ht) (_:Q .non H):SpChB vs H Q
def Pt:Sp:=fun vs H Q _=>SpChB vs H Q
theorem ok_chb {f:Addr} {fd:FuncData} (F:Fun K "check_box" "check_box" Dm f fd) (T:Top K mg a):AI P w K mg base CX0 1 f fd Dp Pt:=by
 refine F.ok Mw (fun vs H Q E h=>?_) (fun cdv A outer s H vs Q E hr h=>?_)
 ·obtain ⟨t,x,y,wd,ht,rfl,_⟩:=h;rfl
 ·obtain ⟨t,x,y,wd,ht,rfl,hb,w0,h0,k⟩:=h;refine ⟨_,(Af (AH (PW.pt (Ej (Au GX (Ax AC (pv 0) Ag (fun _ _=>rfl)) Ag (Ay _)) (Dx (Au GX (Ax AC (pv 0) Ag (fun _ _=>rfl)) Ag (Ay _))))) (Af AS) Aw)),?_⟩
  try dsimp only [cxK]
  refine ⟨_,rfl,t,_,2,.int wd,rfl,rfl,SqT.of hb,Ai (j:=2) rfl,_,_,rfl,rfl,_,rfl,?_⟩;rw [decide_eq_false (by lia:¬ wd < 0)];refine Bb ⟨_,rfl,t,_,3,.int ht,rfl,rfl,SqT.of hb,Ai (j:=3) rfl,_,_,rfl,rfl,_,rfl,?_⟩;rw [decide_eq_false (by lia:¬ ht < 0)];exact Bb k
inductive SpPI (a:Ad) (vs:List V) (H:Hp) (Q:VK):Prop
 | mk (g:GA) (G:Gv) (f n:Nat) (t:Addr) (x y wd ht:Int) (_:vs=[.ref g.p,.int f,.ref t]) (_:Bp a H g G) (_:Al G f ((n+1:Nat):Int)) (_:n < 48) (_:H t=some (.tup [.int x,.int y,.int wd,.int ht])) (_:∀ (t':Addr) (H':Hp),AE H H'->H' t'=some (.tup [.int (clL (x+2 ^ n)),.int (clL (y+2 ^ n)),.int (clR n (x+2 ^ n+wd)),.int (clR n (y+2 ^ n+ht))])->Q (.ref t') H'):SpPI a vs H Q
def spPI (a:Ad):Sp:=fun vs H Q _=>SpPI a vs H Q
theorem ok_pi {f:Addr} {fd:FuncData} (F:Fun K "part_in" "part_in" Et f fd) (T:Top K mg a) (aU:Cal P w K mg base CX0 4 "reach_of" DT (Jo a)):AI P w K mg base CX0 5 f fd Ew (spPI a):=by
 refine F.ok EE (fun vs H Q E h=>?_) (fun cdv A outer s H vs Q E hr h=>?_)
 ·obtain ⟨g,G,f',n,t,x,y,wd,ht,rfl,_⟩:=h;rfl
 ·obtain ⟨g,G,f',n,t,x,y,wd,ht,rfl,fu,lf,n48,hb,k⟩:=h;refine ⟨_,(Ab (Aj (i:=3) EE.nd rfl (Or.inl rfl) (Ap aU (rm hr) rfl Am (Aa (pv 0) (Aa (pv 1) Ac)))) (Ab (Aj (i:=4) EE.nd rfl (Or.inl rfl) (AA Bm (Ax AC (pv 2) Ag (fun _ _=>rfl)) (pv 3))) (Ab (Aj (i:=5) EE.nd rfl (Or.inl rfl) (AA Bm (Ax AC (pv 2) Ag (fun _ _=>rfl)) (pv 3))) (Ab (Aj (i:=6) EE.nd rfl (Or.inl rfl) (AA Gb Ag (pv 3))) (Af (Ao (FC (Aa (Av (Gw rfl) rfl T.b_max PyProof.Rows.boot_max (Aa (pv 4) (BY Ac))) (Aa (Av (Gw rfl) rfl T.b_max PyProof.Rows.boot_max (Aa (pv 5) (BY Ac))) (Aa (Av (Fp rfl) rfl T.b_min PyProof.Rows.boot_min (Ek Bm (pv 4) (Ax AC (pv 2) Ag (fun _ _=>rfl)) (Aa (pv 6) Ac))) (Aa (Av (Fp rfl) rfl T.b_min PyProof.Rows.boot_min (Ek Bm (pv 5) (Ax AC (pv 2) Ag (fun _ _=>rfl)) (Aa (pv 6) Ac))) Ac))))))))))),?_⟩
  try dsimp only [cxK]
  refine ⟨_,rfl,_,rfl,g,G,f',n,rfl,fu.at',lf,n48,?_⟩;refine ⟨_,rfl,t,_,0,.int x,rfl,rfl,SqT.of hb,Ai (j:=0) rfl,_,rfl,_,_,rfl,rfl,?_⟩;refine ⟨_,rfl,t,_,1,.int y,rfl,rfl,SqT.of hb,Ai (j:=1) rfl,_,rfl,_,_,rfl,rfl,?_⟩;refine ⟨_,rfl,_,_,rfl,rfl,.inl ⟨by decide,by decide⟩,?_⟩;refine ⟨_,rfl,_,_,rfl,_,rfl,_,_,rfl,_,rfl,_,rfl,t,_,2,.int wd,rfl,rfl,SqT.of hb,Ai (j:=2) rfl,_,_,rfl,rfl,_,rfl,_,_,rfl,_,rfl,_,rfl,t,_,3,.int ht,rfl,rfl,SqT.of hb,Ai (j:=3) rfl,_,_,rfl,rfl,_,rfl,_,_,rfl,(by show 4<=sizeLine; decide),fun t' ht'=>?_⟩;exact k t' _ (Ak ht') Ah
end
end J
namespace J
open PySem L2
theorem Clo.un {G:Gv} {U:List Nat} (h:∀ o ∈ U,∃ S,Clo G S/\o ∈ S/\∀ x ∈ S,x ∈ U):Clo G U:=fun o ho=>by
 obtain ⟨S,c,m,sub⟩:=h o ho;rcases c o m with z | ⟨n,q,a,b,d,e,nd,m1,m2,m3,m4⟩
 ·exact .inl z
 ·exact .inr ⟨n,q,a,b,d,e,nd,sub _ m1,sub _ m2,sub _ m3,sub _ m4⟩
theorem spl_w {l r h:Int} (l0:0<=l):((spl l r h 0).2 - (spl l r h 0).1).toNat+((spl l r h 1).2 - (spl l r h 1).1).toNat=(r - l).toNat:=by
 show ((if h < r then h else r) - l).toNat+(r - h - (if l - h < 0 then 0 else l - h)).toNat=(r - l).toNat;split<;>split<;>lia
theorem Ru {l r h:Int} (l0:0<=l) (k:Nat):0<=(spl l r h k).1:=by
 match k with
 | 0=>exact l0
 | k+1=>show 0<=(if l - h < 0 then 0 else l - h); split<;>lia
theorem area4 (a b c d:Nat):a * c+b * c+a * d+b * d=(a+b) * (c+d):=by
 rw [Nat.add_mul,Nat.mul_add,Nat.mul_add];lia
theorem PU {G:Gv} (ok:GOk G) {S:List Nat} (clo:Clo G S):∀ {n i o m:Nat} {l t r b:Int},Al G i (n:Int)->Al G o (n:Int)->o ∈ S->EN G n i o l t r b m->0<=l->0<=t->∃ T:List Nat,T.length<=(r - l).toNat * (b - t).toNat * (n+1)/\m ∈ T ++ S/\Clo G (T ++ S)
 | n,i,o,m,l,t,r,b,li,lo,mo,mx,l0,t0=>by
  by_cases em:r<=l\/b<=t
  ·refine ⟨[],Nat.zero_le _,?_,clo⟩;rw [mx.empty ok lo em];exact mo
  have p1:1<=(r - l).toNat:=by lia
  have p2:1<=(b - t).toNat:=by lia
  have pa:1<=(r - l).toNat * (b - t).toNat:=Nat.mul_pos p1 p2;cases n with
  | zero =>
   refine ⟨[m],by show 1<=_; lia,by simp,fun x hx=>?_⟩;rcases List.mem_cons.mp hx with rfl | hx
   ·exact .inl (Pz ok mx.lev)
   ·rcases clo x hx with z | ⟨n,q,a,b,d,e,nd,m1,m2,m3,m4⟩
    ·exact .inl z
    ·exact .inr ⟨n,q,a,b,d,e,nd,List.mem_cons_of_mem _ m1,List.mem_cons_of_mem _ m2,List.mem_cons_of_mem _ m3,List.mem_cons_of_mem _ m4⟩
  | succ n =>
   obtain ⟨qm,m0,m1,m2,m3,nm⟩:=AO ok mx.lev;obtain ⟨qo,o0,o1,o2,o3,no⟩:=AO ok lo;obtain ⟨qi,i0,i1,i2,i3,ni⟩:=AO ok li;have oS:∀ k,k < 4->f4 o0 o1 o2 o3 k ∈ S:=fun k hk=>by
    obtain ⟨a0,a1,a2,a3⟩:=clo.get ok mo no
    match k,hk with
    | 0,_=>exact a0
    | 1,_=>exact a1
    | 2,_=>exact a2
    | 3,_=>exact a3
   have all:∀ k,k < 4->∃ T:List Nat,T.length<=((spl l r (2 ^ n) (k % 2)).2 - (spl l r (2 ^ n) (k % 2)).1).toNat * ((spl t b (2 ^ n) (k / 2)).2 - (spl t b (2 ^ n) (k / 2)).1).toNat * (n+1)/\f4 m0 m1 m2 m3 k ∈ T ++ S/\Clo G (T ++ S):=fun k hk=>PU ok clo (ni.nat hk).2 (no.nat hk).2 (oS k hk) (mx.part ni no nm hk) (Ru l0 _) (Ru t0 _);obtain ⟨T0,l0',h0,c0⟩:=all 0 (by decide);obtain ⟨T1,l1',h1,c1⟩:=all 1 (by decide);obtain ⟨T2,l2',h2,c2⟩:=all 2 (by decide);obtain ⟨T3,l3',h3,c3⟩:=all 3 (by decide);have wx:=spl_w (l:=l) (r:=r) (h:=2 ^ n) l0;have wy:=spl_w (l:=t) (r:=b) (h:=2 ^ n) t0;have e0:(0 % 2:Nat)=0:=rfl;rw [show (0 % 2:Nat)=0 from rfl,show (0 / 2:Nat)=0 from rfl] at l0';rw [show (1 % 2:Nat)=1 from rfl,show (1 / 2:Nat)=0 from rfl] at l1';rw [show (2 % 2:Nat)=0 from rfl,show (2 / 2:Nat)=1 from rfl] at l2';rw [show (3 % 2:Nat)=1 from rfl,show (3 / 2:Nat)=1 from rfl] at l3';generalize ((spl l r (2 ^ n) 0).2 - (spl l r (2 ^ n) 0).1).toNat=a at *
   generalize ((spl l r (2 ^ n) 1).2 - (spl l r (2 ^ n) 1).1).toNat=b' at *
   generalize ((spl t b (2 ^ n) 0).2 - (spl t b (2 ^ n) 0).1).toNat=c at *
   generalize ((spl t b (2 ^ n) 1).2 - (spl t b (2 ^ n) 1).1).toNat=d at *
   have ar:=area4 a b' c d;rw [wx,wy] at ar;generalize (r - l).toNat * (b - t).toNat=A at *
   have sum:a * c * (n+1)+b' * c * (n+1)+a * d * (n+1)+b' * d * (n+1)=A * (n+1):=by rw [<-ar,Nat.add_mul,Nat.add_mul,Nat.add_mul]
   have up:A * (n+1+1)=A * (n+1)+A:=Nat.mul_succ _ _;have cu:Clo G (T0 ++ (T1 ++ (T2 ++ T3)) ++ S):=Clo.un fun x hx=>by
    simp only [List.mem_append] at hx;rcases hx with (hx | hx | hx | hx) | hx
    ·exact ⟨_,c0,by simp [hx],fun y hy=>by simp only [List.mem_append] at hy ⊢; rcases hy with hy | hy<;>simp [hy]⟩
    ·exact ⟨_,c1,by simp [hx],fun y hy=>by simp only [List.mem_append] at hy ⊢; rcases hy with hy | hy<;>simp [hy]⟩
    ·exact ⟨_,c2,by simp [hx],fun y hy=>by simp only [List.mem_append] at hy ⊢; rcases hy with hy | hy<;>simp [hy]⟩
    ·exact ⟨_,c3,by simp [hx],fun y hy=>by simp only [List.mem_append] at hy ⊢; rcases hy with hy | hy<;>simp [hy]⟩
    ·exact ⟨_,clo,hx,fun y hy=>by simp [hy]⟩
   have g0:m0 ∈ T0 ++ S:=h0;have g1:m1 ∈ T1 ++ S:=h1;have g2:m2 ∈ T2 ++ S:=h2;have g3:m3 ∈ T3 ++ S:=h3;simp only [List.mem_append] at g0 g1 g2 g3;refine ⟨m :: (T0 ++ (T1 ++ (T2 ++ T3))),by simp only [List.length_cons,List.length_append]; lia,by simp,Clo.cons cu nm ⟨?_,?_,?_,?_⟩⟩
   ·simp only [List.mem_append]; rcases g0 with z | z<;>simp [z]
   ·simp only [List.mem_append]; rcases g1 with z | z<;>simp [z]
   ·simp only [List.mem_append]; rcases g2 with z | z<;>simp [z]
   ·simp only [List.mem_append]; rcases g3 with z | z<;>simp [z]
theorem fs_area {G:Gv} (ok:GOk G) {S:List Nat} (clo:Clo G S) (hb:∀ j,j<=48->bareN j ∈ S) {n i o m A:Nat} {l t r b:Int} (li:Al G i (n:Int)) (lo:Al G o (n:Int)) (mo:o ∈ S) (mx:EN G n i o l t r b m) (l0:0<=l) (t0:0<=t) (hn:n<=49) (ha:(r - l).toNat * (b - t).toNat<=A):FS G m (S.length+A * 50):=by
 obtain ⟨T,h1,h2,h3⟩:=PU ok clo li lo mo mx l0 t0;refine ⟨T ++ S,h2,fun j hj=>List.mem_append.mpr (.inr (hb j hj)),h3,?_⟩;rw [List.length_append];have:(r - l).toNat * (b - t).toNat * (n+1)<=A * 50:=Nat.mul_le_mul ha (by lia);lia
end J
namespace J
open PySem L2
seal L2.PA L2.PE L2.PS L2.PSs L2.PT L2.PW
theorem Rf {G r:Gv} (e0:G=G0 ++ r) (ok:GOk G) {n j w:Nat} (hn:n+j<=46) (lb:Al G (bareN (n+1)) ((n+1:Nat):Int)) (wi:Li G n (bareN (n+1)) j w) (lw:Al G w ((n+j+1:Nat):Int)):w=bareN (n+j+1):=by
 refine EB ok lw (DM e0 (by lia)) fun x y hx hy=>?_;rw [EC e0 ok (by lia) hx hy];have c:=FU (n+j);have s:=NH (n+j);have e:=GJ e0 ok (by lia) wi ((x:Int) - 2 ^ (n+j)) ((y:Int) - 2 ^ (n+j));unfold AQ at e;rw [if_pos ⟨by lia,by lia,by lia,by lia⟩,show ((x:Int) - 2 ^ (n+j)+2 ^ (n+j)).toNat=x by lia,show ((y:Int) - 2 ^ (n+j)+2 ^ (n+j)).toNat=y by lia] at e;rw [e];split
 ·rename_i z;exact EC e0 ok (by lia) (FQ z.1 z.2.1) (FQ z.2.2.1 z.2.2.2)
 ·rfl
section
variable {P:Program} {w:World} {K:PySem.W.Frag} {mg:Str->Option Value} {base:Heap} {a:Ad}
inductive Tt (a:Ad) (vs:List V) (H:Hp) (Q:VK):Prop
 | mk (g:GA) (G:Gv) (f n:Nat) (t:Addr) (x y wd ht:Int) (s B C:Nat) (_:vs=[.ref g.p,.int f,.ref t,.int s]) (_:Bp a H g G) (_:Al G f ((n+1:Nat):Int)) (_:n<=40) (_:Jj G n f) (_:H t=some (.tup [.int x,.int y,.int wd,.int ht])) (_:0<=wd) (_:0<=ht) (_:(0 < wd->0 < ht->DW x y wd ht (2 ^ 40))) (_:s < 8) (_:FS G f B) (_:(f=bareN (n+1)/\900<=C)\/17 * B+4000<=C\/wd.toNat * ht.toNat * 50+B+300<=C) (_:B<=200000) (_:G.length+16 * B < 7500000) (_:∀ (r m:Nat) (G':Gv) (H':Hp),Fr g H H'->Bp a H' g G'->AM G G' (16 * B+4000)->Al G' r ((m+1:Nat):Int)->m<=40->Jj G' m r->(∀ u v,AQ G' m r u v=if InB x y wd ht u v then s else AQ G n f u v)->FS G' r C->Q (.int r) H'):Tt a vs H Q
def Oz (a:Ad):Sp:=fun vs H Q _=>Tt a vs H Q
theorem ok_fill {f:Addr} {fd:FuncData} (F:Fun K "filled" "filled" EH f fd) (T:Top K mg a) (aQ:Cal P w K mg base CX0 1 "check_box" Dp Pt) (aF:Cal P w K mg base CX0 1 "lies_within" BS Nv) (aL:Cal P w K mg base CX0 2 "is_state" Dj RC) (aI:Cal P w K mg base CX0 5 "widened_over" BZ (spWO a)) (aM:Cy P w K mg base CX0 4 a.c_Grove "solid" Cu (Jn a)) (aA:Cy P w K mg base CX0 3 a.c_Grove "level_of" AB (Fc a)) (bH:Cal P w K mg base CX0 5 "part_in" Ew (spPI a)) (bK:Cal P w K mg base CX0 102 "mixed" Em (LL a P w 50)) (bG:Cal P w K mg base CX0 4 "trimmed" Ev (Mq a)):AI P w K mg base CX0 103 f fd FZ (Oz a):=by
 refine F.ok Dk (fun vs H Q E h=>?_) (fun cdv A outer s H vs Q E hr h=>?_)
 ·obtain ⟨g,G,f',n,t,x,y,wd,ht,st,B,C,rfl,_⟩:=h;rfl
 ·obtain ⟨g,G,f',n,t,x,y,wd,ht,st,B,C,rfl,fu,lf,n40,tr,hb,w0,h0,far,s8,fs,hC,B2,few,k⟩:=h;refine ⟨_,(Ab (Dz (Ap aQ (rm hr) rfl Am (Aa (pv 2) Ac))) (Ab (Aj (i:=4) Dk.nd rfl (Or.inl rfl) (FD (CQ Fl (Ax AC (pv 2) Ag (fun _ _=>rfl)) Ag (Ay _)) (GN (CQ Fl (Ax AC (pv 2) Ag (fun _ _=>rfl)) Ag (Ay _))))) (Ab (AH (PW.pt (MA (BJ (pv 4)) (Jp (Ce (BJ (Ap aF (rm hr) rfl Am (Aa (pv 2) (Aa (Cw rfl T.k_LIMIT) Ac)))))))) (Af AS) Aw) (Ab (AH (Ce (BJ (Ap aL (rm hr) rfl Am (Aa (pv 3) Ac)))) (Af AS) Aw) (Ab (AH (Ce (BJ (pv 4))) (Af (Ao (pv 1))) Aw) (Ab (Aj (i:=5) Dk.nd rfl (Or.inl rfl) (Ap aI (rm hr) rfl Am (Aa (pv 0) (Aa (pv 1) (Aa (pv 2) Ac))))) (Ab (Aj (i:=6) Dk.nd rfl (Or.inl rfl) (AG (pv 0) aM (rm hr) Am (Aa (AG (pv 0) aA (rm hr) Am (Aa (pv 5) Ac)) (Aa (pv 3) Ac)))) (Af (Ao (Ap bG (rm hr) rfl Am (Aa (pv 0) (Aa (Ap bK (rm hr) rfl Am (Aa (pv 0) (Aa (pv 6) (Aa (pv 5) (Aa (Ap bH (rm hr) rfl Am (Aa (pv 0) (Aa (pv 5) (Aa (pv 2) Ac)))) (Aa (NJ (sh:=[false,false,true])) Ac)))))) Ac)))))))))))),?_⟩
  try dsimp only [cxK]
  refine ⟨_,rfl,t,x,y,wd,ht,rfl,hb,w0,h0,?_⟩;refine ev_val (t:=tAndV (tOp (rI0 fun i j=>V.bl (decide (j < i))) (tOp (OD K) (Nq 2) (tC (V.int 2))) (tC (V.int 0))) (tOp (rI0 fun i j=>V.bl (decide (j < i))) (tOp (OD K) (Nq 2) (tC (V.int 3))) (tC (V.int 0)))) (fun v H1=>v=.bl (decide (0 < wd) && decide (0 < ht))/\H=H1) (fun Q' q'=>?_) ?_
  ·refine ⟨_,rfl,t,_,2,.int wd,rfl,rfl,SqT.of hb,Ai (j:=2) rfl,_,_,rfl,rfl,_,rfl,?_⟩;revert q';generalize decide ((0:Int) < wd)=b1;cases b1
   ·intro q';exact Bb (q' _ _ ⟨rfl,rfl⟩)
   ·intro q';exact Cg ⟨_,rfl,t,_,3,.int ht,rfl,rfl,SqT.of hb,Ai (j:=3) rfl,_,_,rfl,rfl,q' _ _ ⟨rfl,rfl⟩⟩
  rintro v H1 ⟨rfl,rfl⟩;by_cases hp:0 < wd/\0 < ht
  ·have li:=far hp.1 hp.2;rw [decide_eq_true hp.1,decide_eq_true hp.2];refine ⟨_,rfl,true,rfl,Cg ⟨_,rfl,t,x,y,wd,ht,2 ^ 40,rfl,hb,_,rfl,?_⟩⟩;rw [decide_eq_true li];refine Bb ⟨_,rfl,(st:Int),rfl,by lia,by lia,true,rfl,Bb ⟨_,rfl,true,rfl,Bb ?_⟩⟩;refine ⟨_,rfl,_,rfl,_,rfl,g,G,f',n,t,x,y,wd,ht,rfl,fu,lf,n40,hb,li,by lia,fun j w' G1 H1 fr1 fu1 go1 nk wi lw liw _=>?_⟩;have g1:=go1.few;have ft1:H1 t=some (.tup [.int x,.int y,.int wd,.int ht]):=fr1.tup fu.at' hb;obtain ⟨qw,ew,elw⟩:=id lw;refine ⟨_,rfl,g.p,g.dx,_,rfl,fu1.at'.hp,Sr g,_,rfl,g.p,g.dx,_,rfl,fu1.at'.hp,BI g,_,rfl,g,G1,w',qw,rfl,fu1.at',ew,_,rfl,?_⟩;refine ⟨g,G1,n+j+1,st,by rw [elw]; rfl,fu1.at',fu1.ok,by lia,s8,by lia,fun i G2 H2 fr2 hg2 go2 so2=>?_⟩;have fu2:=fu1.fr fr2 hg2 go2;have g2:=go2.few;have ft2:H2 t=some (.tup [.int x,.int y,.int wd,.int ht]):=fr2.tup fu1.at' ft1;have lw2:=go2.lev lw;refine ⟨_,rfl,_,rfl,_,rfl,_,rfl,_,rfl,_,rfl,_,rfl,g,G2,w',n+j,t,x,y,wd,ht,rfl,fu2,lw2,by lia,ft2,fun tp H3 s3 htp=>?_⟩;rw [Td (by unfold DW at liw; lia),Td (by unfold DW at liw; lia),Tc (by unfold DW at liw; lia),Tc (by unfold DW at liw; lia)] at htp;intro kn H4 hkn s4 na;have fu4:=(fu2.same s3).same s4;have htp4:=s4 _ _ htp;have nkn:H kn=none:=by
    cases e:H kn with
    | none=>rfl
    | some oo =>
     have z:kn=g.lv\/kn=g.pt\/kn=g.nm:=by
      refine Classical.byContradiction fun z=>?_;have q1:=fr1 _ _ e (fun q=>z (.inl q)) (fun q=>z (.inr (.inl q))) (fun q=>z (.inr (.inr q)));have q2:=fr2 _ _ q1 (fun q=>z (.inl q)) (fun q=>z (.inr (.inl q))) (fun q=>z (.inr (.inr q)));rw [s3 _ _ q2] at hkn;cases hkn
     have w3:=(fu2.same s3).nw;obtain ⟨o1,e1⟩:=w3.s kn (by simp [DK]; lia);rw [hkn] at e1;cases e1
   have kg:kn ∉ DK g:=fun z=>by
    obtain ⟨o1,e1⟩:=(fu2.same s3).nw.s kn z;rw [hkn] at e1;cases e1
   obtain ⟨r0,e0⟩:=fu4.g0;obtain ⟨S,m1,m2,clo,lS,lC⟩:∃ S:List Nat,w' ∈ S/\(∀ j,j<=48->bareN j ∈ S)/\Clo G2 S/\S.length<=B+200/\(17 * S.length+50<=C\/wd.toNat * ht.toNat * 50+S.length+50<=C):=by
    rcases hC with ⟨rfl,hC⟩ | hC
    ·have e1:=Classical.choose_spec fu1.g0;have eb:=Rf e1 fu1.ok (by lia) (DM e1 (n:=n+1) (by lia)) wi lw;obtain ⟨S,h1,h2,h3,h4⟩:=((Nb e1 fu1.ok (j:=n+j+1) (by lia)).app go2).ex;obtain ⟨S0,q1,q2,q3,q4⟩:=fs.ex;exact ⟨S,by rw [eb]; exact h1,h2,h3,by lia,.inl (by lia)⟩
    ·obtain ⟨S,h1,h2,h3,h4⟩:=(((FS.widN (n:=n) (B:=B) (f:=f') (Classical.choose_spec fu1.g0) fu1.ok (fs.app go1) (by lia) wi)).app go2).ex;exact ⟨S,h1,h2,h3,by lia,hC.imp (fun z=>by lia) (fun z=>by lia)⟩
   have p2:=FA (n+j);have e2:(2:Int) ^ (n+j+1)=2 ^ (n+j)+2 ^ (n+j):=by rw [Int.pow_succ]; lia
   have liw':=liw;unfold DW at liw';have sx:Gy (x+2 ^ (n+j)) (x+2 ^ (n+j)+wd) (n+j+1) (x+2 ^ (n+j)) (x+2 ^ (n+j)+wd):=Gy.top (by lia) (by lia) (by lia);have sy:Gy (y+2 ^ (n+j)) (y+2 ^ (n+j)+ht) (n+j+1) (y+2 ^ (n+j)) (y+2 ^ (n+j)+ht):=Gy.top (by lia) (by lia) (by lia);refine ⟨g,G2,⟨st,S,x+2 ^ (n+j),x+2 ^ (n+j)+wd,y+2 ^ (n+j),y+2 ^ (n+j)+ht,false⟩,kn,tp,[],i,w',n+j+1,x+2 ^ (n+j),y+2 ^ (n+j),x+2 ^ (n+j)+wd,y+2 ^ (n+j)+ht,rfl,fu4,na,kg,htp4,kok0 _ _,clo,s8,⟨Sol.lev fu2.ok s8 so2,lw2,so2,m1⟩,by lia,by lia,⟨by lia,by lia,by lia,by lia⟩,fun _=>sx,fun _=>sy,⟨by show G2.length+16 * S.length < 8000000+0; lia,by show 16 * S.length < 4000000; lia⟩,fun m G5 kvs5 H5 x5 fu5 na5 kok5 le5 go5 un5 mx5=>?_⟩;have l5:=kok5.len fu5.ok;have l5:kvs5.length<=16 * S.length:=l5;have g5:=go5.few;have g5:G5.length<=G2.length+(kvs5.length - 0):=g5;refine ⟨g,G5,m,n+j,rfl,fu5,mx5.lev,by lia,fun r G6 H6 fr6 fu6 go6 tr6=>?_⟩;have g6:=go6.few;obtain ⟨r6,e6⟩:=fu6.g0;obtain ⟨m6,hm6,lm6,tm6,em6⟩:=Jy e6 fu6.ok (by lia) (go6.lev mx5.lev) tr6;have go26:AM G2 G6 (kvs5.length - 0+48):=go5.trans go6;have goA:AM G G6 (16 * B+4000):=((go1.trans go2).trans go26).mono (by lia);have md:Ph G5 ⟨st,S,x+2 ^ (n+j),x+2 ^ (n+j)+wd,y+2 ^ (n+j),y+2 ^ (n+j)+ht,false⟩ m:=⟨_,n+j+1,i,w',_,_,_,_,⟨rfl,⟨go5.lev (Sol.lev fu2.ok s8 so2),go5.lev lw2,Sol.goes go5 so2,m1⟩,mx5,sx,sy⟩⟩
   have fs5:=fs_mix fu5.ok (clo.app go5) m2 md s8 (fun z=>nomatch z);have fs5:FS G5 m (C - 50):=by
    rcases lC with lC | lC
    ·exact FS.mono fs5 (show 17 * S.length<=C - 50 by lia)
    ·exact (fs_area fu5.ok (clo.app go5) m2 (go5.lev (Sol.lev fu2.ok s8 so2)) (go5.lev lw2) m1 mx5 (by lia) (by lia) (by lia) (A:=wd.toNat * ht.toNat) (by rw [show x+2 ^ (n+j)+wd - (x+2 ^ (n+j))=wd by lia,show y+2 ^ (n+j)+ht - (y+2 ^ (n+j))=ht by lia]; exact Nat.le_refl _)).mono (by lia)
   refine k r m6 G6 H6 ?_ fu6 goA lm6 (by lia) tm6 (fun u v=>?_) (((fs5.app go6).trim fu6.ok tr6).mono (by lia))
   ·intro bb oo e n1 n2 n3;have q1:=fr2 _ _ (fr1 _ _ e n1 n2 n3) n1 n2 n3;have q2:=s4 _ _ (s3 _ _ q1);have q3:=x5.get (b:=bb) (by
     simp only [frM,List.mem_cons,List.not_mem_nil,or_false,not_or];exact ⟨n1,n2,n3,fun z=>by rw [z,nkn] at e; cases e⟩) q2
    exact fr6 _ _ q3 n1 n2 n3
   ·obtain ⟨ra,ea⟩:=fu1.g0;rw [em6 u v,Fo fu5.ok go6 mx5.lev,QG fu5.ok s8 (Sol.goes go5 so2) liw mx5,Fo fu2.ok go5 lw2,Fo fu1.ok go2 lw,GJ ea fu1.ok (by lia) wi,Fo fu.ok go1 lf]
  ·have e:(decide (0 < wd) && decide (0 < ht))=false:=by
    by_cases z:0 < wd
    ·rw [decide_eq_false (fun q=>hp ⟨z,q⟩),Bool.and_false]
    ·rw [decide_eq_false z,Bool.false_and]
   rw [e];refine ⟨_,rfl,false,rfl,Bb (Bb ⟨_,rfl,(st:Int),rfl,by lia,by lia,true,rfl,Bb ⟨_,rfl,false,rfl,Cg ⟨_,rfl,?_⟩⟩⟩)⟩;have fsC:FS G f' C:=by
    rcases hC with ⟨rfl,hC⟩ | hC
    ·exact (Nb (Classical.choose_spec fu.g0) fu.ok (by lia)).mono (by lia)
    ·exact fs.mono (by rcases hC with hC | hC<;>lia)
   refine k f' n G H (Fr.refl g H) fu ((AM.refl fu.ok).mono (by lia)) lf n40 tr (fun u v=>?_) fsC;rw [if_neg];unfold InB;lia
end
end J
namespace J
open PySem L2
seal L2.PA L2.PE L2.PS L2.PSs L2.PT L2.PW
section
variable {P:Program} {w:World} {K:PySem.W.Frag} {mg:Str->Option Value} {base:Heap} {a:Ad}
inductive SpWhI (vs:List V) (H:Hp) (Q:VK):Prop
 | mk (i:Int) (_:vs=[.int i]) (_:Q (.bl true) H):SpWhI vs H Q
def Rw:Sp:=fun vs H Q _=>SpWhI vs H Q
theorem ok_whi {f:Addr} {fd:FuncData} (F:Fun K "_law_whole" "_law_whole" CK f fd) (T:Top K mg a):AI P w K mg base CX0 1 f fd DE Rw:=by
 refine F.ok Lp (fun vs H Q E h=>?_) (fun cdv A outer s H vs Q E hr h=>?_)
 ·obtain ⟨i,rfl,_⟩:=h;rfl
 ·obtain ⟨i,rfl,k⟩:=h;refine ⟨_,(Af (Ao (FD (Av AU rfl T.b_isinstance PyProof.Rows.boot_isinstance (Aa (pv 0) (Aa (ES (v:=.ty "int") rfl T.b_int PyProof.Rows.boot_int rfl) Ac))) (GN (RS (Av AU rfl T.b_isinstance PyProof.Rows.boot_isinstance (Aa (pv 0) (Aa (ES (v:=.ty "bool") rfl T.b_bool PyProof.Rows.boot_bool rfl) Ac)))))))),?_⟩
  try dsimp only [cxK]
  exact ⟨_,rfl,_,_,_,.type "int",true,rfl,rfl,.of (.int i),(PD K).1,true,rfl,Cg ⟨_,rfl,_,_,_,.type "int",false,rfl,rfl,.of (.int i),(PD K).2,false,rfl,k⟩⟩
inductive Tr (vs:List V) (H:Hp) (Q:VK):Prop
 | mk (c k:Int) (_:vs=[.int c,.int k]) (_:0<=k) (_:k<=1000) (_:∀ v:Int,Q (.int v) H):Tr vs H Q
def Mr:Sp:=fun vs H Q _=>Tr vs H Q
theorem ok_lmix {f:Addr} {fd:FuncData} (F:Fun K "_law_mix" "_law_mix" DS f fd) (T:Top K mg a):AI P w K mg base CX0 1 f fd DU Mr:=by
 refine F.ok FW (fun vs H Q E h=>?_) (fun cdv A outer s H vs Q E hr h=>?_)
 ·obtain ⟨c,k,rfl,_⟩:=h;rfl
 ·obtain ⟨c,k,rfl,k0,k1,q⟩:=h;refine ⟨_,(Ab (Aj (i:=2) FW.nd rfl (Or.inl rfl) (AA Bm (AA Bm (AA CD (pv 0) Ag) (AA Gb Ag (pv 1))) Ag)) (Ab (Aj (i:=2) FW.nd rfl (Or.inl rfl) (AA CD (AA Gb (pv 2) (AA Bm Ag (AA Gb Ag (pv 1)))) Ag)) (Af (Ao (AA CD (AA Gb (AA Bm (AA CT (pv 2) Ag) (AA Gb (pv 2) Ag)) Ag) Ag))))),?_⟩
  try dsimp only [cxK]
  refine ⟨_,rfl,_,_,rfl,rfl,(by show (0:Int) < 2305843009213693951; decide),_,rfl,_,_,rfl,rfl,.inl ⟨by decide,by decide⟩,_,_,rfl,rfl,_,_,rfl,rfl,?_⟩;refine ⟨_,rfl,_,rfl,_,_,rfl,rfl,.inl ⟨by decide,by decide⟩,_,_,rfl,rfl,_,_,rfl,rfl,.inr ⟨by lia,by lia⟩,_,_,rfl,rfl,(by show (0:Int) < 2305843009213693951; decide),?_⟩;exact ⟨_,rfl,_,_,rfl,rfl,⟨by decide,by decide⟩,_,rfl,_,_,rfl,rfl,.inr ⟨by decide,by decide⟩,_,_,rfl,rfl,_,_,rfl,rfl,.inr ⟨by decide,by decide⟩,_,_,rfl,rfl,(by show (0:Int) < 2305843009213693951; decide),q _⟩
inductive Tv (vs:List V) (H:Hp) (Q:VK):Prop
 | mk (c:Int) (_:vs=[.int c]) (_:∀ b:Nat,b<=40->Q (.int (b:Int)) H):Tv vs H Q
def OA:Sp:=fun vs H Q _=>Tv vs H Q
theorem ok_bits {f:Addr} {fd:FuncData} (F:Fun K "_law_bits" "_law_bits" Do f fd) (T:Top K mg a):AI P w K mg base CX0 1 f fd Ec OA:=by
 refine F.ok Mx (fun vs H Q E h=>?_) (fun cdv A outer s H vs Q E hr h=>?_)
 ·obtain ⟨c,rfl,_⟩:=h;rfl
 ·obtain ⟨c,rfl,q⟩:=h;refine ⟨_,(Ab (AH (Au De (AA CD (pv 0) Ag) Ag (Ay _)) (Af (Ao (AA CD (AA CT (pv 0) Ag) Ag))) Aw) (Af (Ao (AA CD (AA CT (pv 0) Ag) Ag)))),?_⟩
  try dsimp only [cxK]
  have nat:∀ {v:Int},0<=v->v<=40->Q (.int v) H:=fun {v} h0 h1=>by
   obtain ⟨n,rfl⟩:=Int.eq_ofNat_of_zero_le h0;exact q n (by lia)
  refine ⟨_,rfl,_,_,rfl,rfl,(by show (0:Int) < 2; decide),rfl,_,rfl,?_⟩;refine Jg (fun _=>?_) (fun _=>?_)
  ·exact ⟨_,rfl,_,_,rfl,rfl,⟨by decide,by decide⟩,_,_,rfl,rfl,(by show (0:Int) < 5; decide),nat (by show 0<=c / 2 % 5; lia) (by show c / 2 % 5<=40; lia)⟩
  ·exact ⟨_,rfl,_,_,rfl,rfl,⟨by decide,by decide⟩,_,_,rfl,rfl,(by show (0:Int) < 41; decide),nat (by show 0<=c / 2 % 41; lia) (by show c / 2 % 41<=40; lia)⟩
inductive SpPl (vs:List V) (H:Hp) (Q:VK):Prop
 | mk (c k:Int) (b:Nat) (_:vs=[.int c,.int k,.int (b:Int)]) (_:0<=k) (_:k<=1000) (_:b<=40) (_:∀ p:Int,-(2 ^ b)<=p->p < 2 ^ b->Q (.int p) H):SpPl vs H Q
def spPl:Sp:=fun vs H Q _=>SpPl vs H Q
theorem ok_pl {f:Addr} {fd:FuncData} (F:Fun K "_law_place" "_law_place" CL f fd) (T:Top K mg a) (aP:Cal P w K mg base CX0 1 "_law_mix" DU Mr):AI P w K mg base CX0 2 f fd DF spPl:=by
 refine F.ok Lq (fun vs H Q E h=>?_) (fun cdv A outer s H vs Q E hr h=>?_)
 ·obtain ⟨c,k,b,rfl,_⟩:=h;rfl
 ·obtain ⟨c,k,b,rfl,k0,k1,b40,q⟩:=h;have p:=FA b;have e1:(2:Int) * 2 ^ ((b:Int)).toNat=2 ^ b+2 ^ b:=by rw [Int.toNat_natCast]; lia
  have e2:(1:Int) * 2 ^ ((b:Int)).toNat=2 ^ b:=by rw [Int.toNat_natCast]; lia
  refine ⟨_,(Af (Ao (AA Ga (AA CD (Ap aP (rm hr) rfl Am (Aa (pv 0) (Aa (pv 1) Ac))) (AA FF Ag (pv 2))) (AA FF Ag (pv 2))))),?_⟩
  try dsimp only [cxK]
  refine ⟨_,rfl,_,rfl,c,k,rfl,k0,k1,fun v=>?_⟩;refine ⟨_,rfl,_,_,rfl,rfl,⟨by lia,by lia,by decide⟩,_,_,rfl,rfl,(by show (0:Int) < 2 * 2 ^ ((b:Int)).toNat; lia),_,rfl,_,_,rfl,rfl,⟨by lia,by lia,by decide⟩,_,_,rfl,rfl,?_⟩;show Q (.int (v % (2 * 2 ^ ((b:Int)).toNat) - 1 * 2 ^ ((b:Int)).toNat)) H;rw [e1,e2];have m1:=Int.emod_nonneg v (show (2:Int) ^ b+2 ^ b≠0 by lia);have m2:=Int.emod_lt_of_pos v (show (0:Int) < 2 ^ b+2 ^ b by lia);exact q _ (by lia) (by lia)
end
end J
namespace J
open PySem L2
structure Vl (G:Gv) (f:Nat) (φ:Int->Int->Nat) (B:Nat):Prop where
 ex:∃ n:Nat,(Al G f ((n+1:Nat):Int)/\Jj G n f/\n<=40)/\∀ u v,AQ G n f u v=φ u v
 fs:FS G f B
theorem Vl.app {G G':Gv} {k f B:Nat} {φ:Int->Int->Nat} (ok:GOk G) (go:AM G G' k) (h:Vl G f φ B):Vl G' f φ B:=by
 obtain ⟨n,⟨h1,h2,h3⟩,h4⟩:=h.ex;exact ⟨⟨n,⟨go.lev h1,h2.app go,h3⟩,fun u v=>by rw [Fo ok go h1]; exact h4 u v⟩,h.fs.app go⟩
theorem Vl.eq {G r:Gv} (e0:G=G0 ++ r) (ok:GOk G) {f f' B B':Nat} {φ ψ:Int->Int->Nat} (h:Vl G f φ B) (h':Vl G f' ψ B') (e:∀ u v,φ u v=ψ u v):f=f':=by
 obtain ⟨n,⟨h1,h2,h3⟩,h4⟩:=h.ex;obtain ⟨m,⟨g1,g2,g3⟩,g4⟩:=h'.ex;exact (OZ e0 ok (by lia) (by lia) h1 g1 h2 g2 fun u v=>by rw [h4,g4,e]).2
structure Bo where
 x:Int
 y:Int
 wd:Int
 ht:Int
def BoAt (H:Hp) (t:Addr) (q:Bo):Prop:=H t=some (.tup [.int q.x,.int q.y,.int q.wd,.int q.ht])
def Ih (q:Bo) (s:Nat) (φ:Int->Int->Nat) (u v:Int):Nat:=if InB q.x q.y q.wd q.ht u v then s else φ u v
section
variable {P:Program} {w:World} {K:PySem.W.Frag} {mg:Str->Option Value} {base:Heap} {a:Ad}
theorem fill_a {g:GA} {G:Gv} {H:Hp} {Q:VK} {E:XK} {f s B C:Nat} {φ:Int->Int->Nat} {t:Addr} {q:Bo} (fu:Bp a H g G) (h:Vl G f φ B) (hb:BoAt H t q) (w0:0<=q.wd) (h0:0<=q.ht) (far:0 < q.wd->0 < q.ht->DW q.x q.y q.wd q.ht (2 ^ 40)) (s8:s < 8) (hC:q.wd.toNat * q.ht.toNat * 50+B+300<=C) (hB:B<=200000) (few:G.length+16 * B < 7500000) (k:∀ (r:Nat) (G':Gv) (H':Hp),Fr g H H'->Bp a H' g G'->AM G G' (16 * B+4000)->Vl G' r (Ih q s φ) C->Q (.int r) H'):Oz a [.ref g.p,.int f,.ref t,.int s] H Q E:=by
 obtain ⟨n,⟨h1,h2,h3⟩,h4⟩:=h.ex;refine ⟨g,G,f,n,t,q.x,q.y,q.wd,q.ht,s,B,C,rfl,fu,h1,h3,h2,hb,w0,h0,far,s8,h.fs,.inr (.inr hC),hB,few,fun r m G' H' fr fu' go lr m40 tr e fs=>k r G' H' fr fu' go ⟨⟨m,⟨lr,tr,m40⟩,fun u v=>?_⟩,fs⟩⟩;rw [e u v];unfold Ih;split
 ·rfl
 ·exact h4 u v
end
end J
namespace J
open PySem L2
def FrD (g:GA) (d:Addr) (H H':Hp):Prop:=∀ b o,H b=some o->b≠g.lv->b≠g.pt->b≠g.nm->b≠d->H' b=some o
structure Rh (a:Ad) (H:Hp) (g:GA) (d:Addr):Prop where
 am:d≠g.am
 bx:d≠g.bx
theorem Bp.frD {a:Ad} {H H':Hp} {g:GA} {G G':Gv} {m:Nat} {d:Addr} {ks:List (Key×V)} (h:Bp a H g G) (hd:H d=some (.dK ks)) (od:Rh a H g d) (f:FrD g d H H') (at2:AN a H' g G') (go:AM G G' m):Bp a H' g G':=by
 obtain ⟨at',ok,⟨r,g0⟩,br,⟨ks,h1,h2⟩,⟨ks',h3,h4⟩,n1,n2,n3⟩:=h;obtain ⟨us,hp,_⟩:=at'.pt;have keep:∀ {b:Addr} {o:HO},H b=some o->(∀ l,o≠.lst l)->(∀ l,o≠.dT l)->b≠d->H' b=some o:=fun {b o} e z1 z2 z3=>f _ _ e (AR e at'.lv (z1 _)) (AR e hp (z1 _)) (AR e at'.nm (z2 _)) z3;obtain ⟨t,et⟩:=go.pre;refine ⟨at2,go.ok,⟨r ++ t,by rw [et,g0,List.append_assoc]⟩,f _ _ br n1 n2 (AR br at'.nm (by intro z; cases z)) (AR br hd (by intro z; cases z)),⟨ks,keep h1 (by intro l z; cases z) (by intro l z; cases z) (Ne.symm od.am),h2.app ok go⟩,⟨ks',keep h3 (by intro l z; cases z) (by intro l z; cases z) (Ne.symm od.bx),h4.keys.app go.le,fun i v e=>?_⟩,n1,n2,n3⟩;obtain ⟨l,b,t,e1,e2,e3,e4⟩:=h4.val i v e;exact ⟨l,b,t,go.lev e1,by rw [Fq ok go l i e1]; exact e2,e3,keep e4 (by intro l z; cases z) (by intro l z; cases z) (AR e4 hd (by intro z; cases z))⟩
section
variable {P:Program} {w:World} {K:PySem.W.Frag} {mg:Str->Option Value} {base:Heap} {a:Ad}
end
end J
namespace J
open PySem L2
structure Fd (G:Gv) (n f:Nat):Prop where
 lev:Al G f ((n+1:Nat):Int)
 tr:Jj G n f
 le:n<=40
section
variable {P:Program} {w:World} {K:PySem.W.Frag} {mg:Str->Option Value} {base:Heap} {a:Ad}
end
end J
namespace J
open PySem L2
seal L2.PA L2.PE L2.PS L2.PSs L2.PT L2.PW
def FrO (d:Addr) (H H':Hp):Prop:=∀ b o,H b=some o->b≠d->H' b=some o
theorem FrO.refl (d:Addr) (H:Hp):FrO d H H:=fun _ _ e _=>e
theorem FrO.trans {d:Addr} {H1 H2 H3:Hp} (h:FrO d H1 H2) (h2:FrO d H2 H3):FrO d H1 H3:=fun b o e n=>h2 b o (h b o e n) n
theorem AE.frO {d:Addr} {H1 H2:Hp} (h:AE H1 H2):FrO d H1 H2:=fun b o e _=>h b o e
theorem FrO.up {d:Addr} {H:Hp} {o:HO}:FrO d H (upd H d o):=fun b u e n=>by rw [Az n]; exact e
theorem Bp.frO {a:Ad} {H H':Hp} {g:GA} {G:Gv} {d:Addr} {ks:List (Key×V)} (h:Bp a H g G) (hd:H d=some (.dK ks)) (od:Rh a H g d) (f:FrO d H H'):Bp a H' g G:=by
 obtain ⟨us,hp,hps⟩:=h.at'.pt;have nd:∀ {b:Addr} {o:HO},H b=some o->(∀ l,o≠.dK l)->H' b=some o:=fun {b o} e z=>f _ _ e (AR e hd (z _));refine h.frD hd od (fun b u e n1 n2 n3 n4=>f b u e n4) ⟨nd h.at'.hp (by intro l z; cases z),nd h.at'.lv (by intro l z; cases z),⟨us,nd hp (by intro l z; cases z),PairedM.imp (fun t q e=>nd e (by intro l z; cases z)) hps⟩,nd h.at'.nm (by intro l z; cases z),h.at'.ne⟩ (AM.refl h.ok)
structure Go (G:Gv) (ks:List (Key×V)):Prop where
 keys:EO G ks
 val:∀ (i:Nat) v,BH ks (Sum.inl (i:Int))=some v->∃ l:Nat,Al G i (l:Int)/\v=.int (Bc G l i)
theorem Go.put {G:Gv} {ks:List (Key×V)} (h:Go G ks) {i l:Nat} (hl:Al G i (l:Int)):Go G (Dt ks (Sum.inl (i:Int)) (.int (Bc G l i))):=⟨h.keys.put hl.lt _,fun j v e=>by
 rw [Jx] at e;split at e
 ·rename_i hj;cases e;injection hj with hj
  have:j=i:=by lia
  subst this;exact ⟨l,hl,rfl⟩
 ·exact h.val j v e⟩
theorem Go.nil {G:Gv}:Go G []:=⟨⟨by simp,fun k hk=>by simp at hk⟩,fun i v e=>by cases e⟩
section
variable {P:Program} {w:World} {K:PySem.W.Frag} {mg:Str->Option Value} {base:Heap} {a:Ad}
inductive SpLC (a:Ad) (n:Nat) (vs:List V) (H:Hp) (Q:VK):Prop
 | mk (g:GA) (G:Gv) (i l:Nat) (d:Addr) (ks:List (Key×V)) (_:vs=[.ref g.p,.int i,.ref d]) (_:Bp a H g G) (_:Al G i (l:Int)) (_:l < n) (_:H d=some (.dK ks)) (_:Rh a H g d) (_:Go G ks) (_:G.length < 9000000) (_:∀ (ks':List (Key×V)) (H':Hp),FrO d H H'->Bp a H' g G->H' d=some (.dK ks')->Go G ks'->Q (.int (Bc G l i)) H'):SpLC a n vs H Q
def Qm (a:Ad) (n:Nat):Sp:=fun vs H Q _=>SpLC a n vs H Q
theorem ok_lc {f:Addr} {fd:FuncData} (F:Fun K "_law_count" "_law_count" Cd f fd) (T:Top K mg a) (hm:mg "_law_count" = some (.ref f)) (Bi:DN K fd Bw []) (aA:Cy P w K mg base CX0 3 a.c_Grove "level_of" AB (Fc a)) (aE:Cy P w K mg base CX0 4 a.c_Grove "state_of" BF (Pr a))
  (aC:Cy P w K mg base CX0 4 a.c_Grove "quarters" Bl (Nt a)):∀ n,AI P w K mg base CX0 (n+5) f fd Bw (Qm a n)
 | 0=>by
  refine F.ok GD (fun vs H Q E h=>?_) (fun cdv A outer s H vs Q E hr h=>?_)
  ·obtain ⟨g,G,i,l,d,ks,rfl,_,_,h0,_⟩:=h;exact absurd h0 (Nat.not_lt_zero _)
  ·obtain ⟨g,G,i,l,d,ks,rfl,_,_,h0,_⟩:=h;exact absurd h0 (Nat.not_lt_zero _)
 | n+1=>by
  have aD:Cal P w K mg base CX0 (n+5) "_law_count" Bw (Qm a n):=⟨f,fd,ok_lc F T hm Bi aA aE aC n,hm,F.kp,Bi⟩
  refine F.ok GD (fun vs H Q E h=>?_) (fun cdv A outer s H vs Q E hr h=>?_)
  ·obtain ⟨g,G,i,l,d,ks,rfl,_⟩:=h;rfl
  ·obtain ⟨g,G,i,l,d,ks,rfl,fu,hl,ln,hd,od,co,few,k⟩:=h;obtain ⟨q0,eq0,l0⟩:=id hl;refine ⟨_,(Ab (AH (pt_cmp (Qu (JW hr) (pv 1) (pv 2))) (Af (AH (Au De (AG (pv 0) aA (rm hr) Am (Aa (pv 1) Ac)) Ag (Ay _)) (Af (Jq (JW hr) (pv 2) (pv 1) (Fh Rc rfl T.b_int PyProof.Rows.boot_int (Aa (CQ Fl (AG (pv 0) aE (rm hr) Am (Aa (pv 1) Ac)) Ag (Ay _)) Ac)) rfl)) (Af (Jq (JW hr) (pv 2) (pv 1) (Av (Tf rfl) rfl T.b_sum PyProof.Rows.boot_sum (Aa (Js rfl (DX.of (So:=Ae Cd) (No:=Ic) (N:=["_law_one","_law_grove","_law_known"]) (k:=1) (cs:=[0,2]) rfl rfl (by decide +kernel)) (RN (AG (pv 0) aC (rm hr) Am (Aa (pv 1) Ac))) (fun _ _ _=>(EI (i:=0) (by decide +kernel) rfl rfl)) (fun _ _ _=>Gp) (fun _ _ _=>(Ap aD (rm hr) rfl Am (Aa (pv 1) (Aa (pv 0) (Aa (pv 2) Ac)))))) Ac)) rfl)))) Aw) (Af (Ao (pe_dget (JW hr) (pv 2) (pv 1) (fun _ _=>rfl))))),?_⟩
   try dsimp only [cxK]
   refine ⟨_,rfl,_,rfl,d,_,rfl,GB.k (k:=Sum.inl (i:Int)) hd,?_⟩;cases ev:BH ks (Sum.inl (i:Int)) with
   | some v =>
    obtain ⟨l',hl',rfl⟩:=co.val i v ev;have el:l'=l:=Int.ofNat.inj (hl'.uniq hl);subst el;refine ⟨_,rfl,Bb ⟨_,rfl,_,rfl,d,_,rfl,by rw [<-ev]; exact GB.k (k:=Sum.inl (i:Int)) hd,k ks H (FrO.refl d H) fu hd co⟩⟩
   | none =>
    refine ⟨_,rfl,Cg ⟨_,rfl,g.p,g.dx,_,rfl,fu.at'.hp,BI g,_,rfl,g,G,i,q0,rfl,fu.at',eq0,rfl,_,rfl,?_⟩⟩;have klen:=co.keys.len;have fin:∀ (ks2:List (Key×V)) (H2:Hp),FrO d H H2->H2 d=some (.dK ks2)->Go G ks2->∃ (a1:Addr) (v:V),V.ref d=.ref a1/\GB (upd H2 d (.dK (Dt ks2 (Sum.inl (i:Int)) (.int (Bc G l i))))) a1 (.int (i:Int)) (some v)/\Q v (upd H2 d (.dK (Dt ks2 (Sum.inl (i:Int)) (.int (Bc G l i))))):=by
     intro ks2 H2 fr hd2 co2;have fr3:FrO d H (upd H2 d (.dK (Dt ks2 (Sum.inl (i:Int)) (.int (Bc G l i))))):=fr.trans FrO.up;refine ⟨d,_,rfl,?_,k _ _ fr3 (fu.frO hd od fr3) Ah (co2.put hl)⟩;have:=GB.k (H:=upd H2 d (.dK (Dt ks2 (Sum.inl (i:Int)) (.int (Bc G l i))))) (k:=Sum.inl (i:Int)) Ah;rw [Jx,if_pos rfl] at this;exact this
    cases l with
    | zero =>
     rw [decide_eq_true (by rw [l0]; rfl)];refine Cg ⟨_,rfl,g.p,g.dx,_,rfl,fu.at'.hp,JJ g,_,rfl,g,G,i,q0,rfl,fu.at',eq0,l0,_,_,rfl,rfl,.inr ⟨_,rfl,?_⟩⟩;have e:(if decide ((0:Int) < (i:Int))=true then (1:Int) else 0)=Bc G 0 i:=by
      show _=if i=0 then (0:Int) else 1;by_cases z:i=0
      ·subst z;rfl
      ·rw [if_neg z,if_pos (decide_eq_true (by lia))]
     rw [e];exact ⟨_,rfl,_,rfl,d,_,rfl,LE.k (k:=Sum.inl (i:Int)) hd (Ed (by lia)),_,rfl,_,rfl,fin ks H (FrO.refl d H) hd co⟩
    | succ m =>
     rw [decide_eq_false (by rw [l0]; intro z; injection z with z; lia)];obtain ⟨q,x,y,z,w',nd⟩:=AO fu.ok hl;have eq:q0=q:=Option.some.inj (eq0.symm.trans nd.g);subst eq;refine Bb ⟨_,rfl,g.p,g.dx,_,rfl,fu.at'.hp,ET g,_,rfl,g,G,i,q0,rfl,fu.at',eq0,by lia,fun t ht=>⟨t,rfl,⟨_,SqT.of ht⟩,?_⟩⟩;refine PV (xs:=q0.parts.map V.int) (fun j acc H2=>∃ ks2,FrO d H H2/\H2 d=some (.dK ks2)/\Go G ks2/\acc=((q0.parts.take j).map fun (p:Int)=>Bc G m p.toNat).map V.int) ⟨ks,FrO.refl d H,hd,co,rfl⟩ (fun j acc H2 _ z=>SqT.of (by obtain ⟨_,fr,_⟩:=z; exact fr _ _ ht (AR ht hd (by intro z; cases z)))) ?_ ?_
     ·rintro j v acc H2 ev2 ⟨ks2,fr,hd2,co2,rfl⟩;obtain ⟨k',rfl,hk,ek⟩:=nd.mem ev2;refine ⟨⟨[some (.int k')],rfl,rfl⟩,by rw [List.length_map,List.length_map,List.length_take,nd.ps]; exact Ed (by show min j 4 < 10000000; lia),Qi ⟨_,rfl,_,rfl,_,rfl,?_⟩⟩;refine ⟨g,G,k',m,d,ks2,rfl,fu.frO hd od fr,hk,by lia,hd2,⟨od.am,od.bx⟩,co2,few,fun ks3 H3 fr3 fu3 hd3 co3=>⟨ks3,fr.trans fr3,hd3,co3,?_⟩⟩;rw [List.take_add_one,ek,List.map_append,List.map_append];rfl
     ·rintro acc H2 ⟨ks2,fr,hd2,co2,rfl⟩ qd hq;rw [List.length_map,List.take_length] at *
      have s3:=Ak (o:=.lst ((q0.parts.map fun (p:Int)=>Bc G m p.toNat).map V.int)) hq;refine ⟨qd,q0.parts.map fun (p:Int)=>Bc G m p.toNat,rfl,SqL.of Ah,?_⟩;generalize upd H2 qd (.lst ((q0.parts.map fun (p:Int)=>Bc G m p.toNat).map V.int))=H3 at s3 ⊢;have es:(q0.parts.map fun (p:Int)=>Bc G m p.toNat).sum=Bc G (m+1) i:=by
       rw [EA nd,nd.ps];rfl
      rw [es];have klen2:=co2.keys.len;exact ⟨_,rfl,_,rfl,d,_,rfl,LE.k (k:=Sum.inl (i:Int)) (s3 _ _ hd2) (Ed (by lia)),_,rfl,_,rfl,fin ks2 H3 (fr.trans (AE.frO s3)) (s3 _ _ hd2) co2⟩
theorem cnt_pos {G r:Gv} (e0:G=G0 ++ r) (ok:GOk G) {n i:Nat} (hn:n<=48) (h:Al G i (n:Int)) (ne:i≠bareN n):1<=Bc G n i:=by
 have nn:=DL G n i;have:Bc G n i≠0:=fun z=>ne ((Gm ok e0 n i hn h).mp ((Ij ok n i h).mpr z));lia
inductive SpIF (a:Ad) (vs:List V) (H:Hp) (Q:VK):Prop
 | mk (g:GA) (G:Gv) (f n:Nat) (d:Addr) (ks:List (Key×V)) (_:vs=[.ref g.p,.int f,.ref d]) (_:Bp a H g G) (_:Fd G n f) (_:H d=some (.dK ks)) (_:Rh a H g d) (_:Go G ks) (_:G.length < 9000000) (_:∀ (ks':List (Key×V)) (H':Hp),FrO d H H'->H' d=some (.dK ks')->Go G ks'->Q (.bl true) H'):SpIF a vs H Q
def spIF (a:Ad):Sp:=fun vs H Q _=>SpIF a vs H Q
theorem ok_if {f:Addr} {fd:FuncData} (F:Fun K "_law_is_field" "_law_is_field" BO f fd) (T:Top K mg a) (cJ:Cal P w K mg base CX0 1 "_law_whole" DE Rw) (aA:Cy P w K mg base CX0 3 a.c_Grove "level_of" AB (Fc a))
  (aC:Cy P w K mg base CX0 4 a.c_Grove "quarters" Bl (Nt a)) (aD:Cal P w K mg base CX0 55 "_law_count" Bw (Qm a 50)):AI P w K mg base CX0 56 f fd Cm (spIF a):=by
 refine F.ok Bj (fun vs H Q E h=>?_) (fun cdv A outer s H vs Q E hr h=>?_)
 ·obtain ⟨g,G,f',n,d,ks,rfl,_⟩:=h;rfl
 ·obtain ⟨g,G,f',n,d,ks,rfl,fu,fd',hd,od,co,few,k⟩:=h;obtain ⟨r0,e0⟩:=fu.g0;have n40:=fd'.le;obtain ⟨q0,eq0,l0⟩:=id fd'.lev;refine ⟨_,(Ab (AH (PW.pt (Ej (Ce (BJ (Ap cJ (rm hr) rfl Am (Aa (pv 1) Ac)))) (Dx (Au De (AG (pv 0) aA (rm hr) Am (Aa (pv 1) Ac)) Ag (Ay _))))) (Af (Ao FY)) Aw) (Ab (AH (Au De (AG (pv 0) aA (rm hr) Am (Aa (pv 1) Ac)) Ag (Ay _)) (Af (Ao FY)) Aw) (Ab (Aj (i:=3) Bj.nd rfl (Or.inl rfl) Ag) (Ab (Dy PassesOwn.never rfl (Gq true rfl T.b_enumerate (Aa (AG (pv 0) aC (rm hr) Am (Aa (pv 1) Ac)) Ac)) (FB rfl (Be (AY (i:=4) Bj.nd rfl (Or.inl rfl)) (Be (AY (i:=5) Bj.nd rfl (Or.inl rfl)) El))) (Af (Dy PassesOwn.never rfl (Gq true rfl T.b_enumerate (Aa (AG (pv 0) aC (rm hr) Am (Aa (pv 5) Ac)) Ac)) (FB rfl (Be (AY (i:=6) Bj.nd rfl (Or.inl rfl)) (Be (AY (i:=7) Bj.nd rfl (Or.inl rfl)) El))) (Af (AH (Au IN (pv 6) (AA Ga Ag (pv 4)) (Ay _)) (Af (Aj (i:=3) Bj.nd rfl (Or.inl rfl) (AA Bm (pv 3) (Ap aD (rm hr) rfl Am (Aa (pv 0) (Aa (pv 7) (Aa (pv 2) Ac))))))) Aw))))) (Af (Ao (CQ Fl (pv 3) Ag (Ay _)))))))),?_⟩
  try dsimp only [cxK]
  refine ⟨_,rfl,_,rfl,true,rfl,Bb ⟨_,rfl,g.p,g.dx,_,rfl,fu.at'.hp,BI g,_,rfl,g,G,f',q0,rfl,fu.at',eq0,rfl,_,rfl,?_⟩⟩;rw [decide_eq_false (by rw [l0]; intro z; injection z with z; lia)];refine Bb ⟨_,rfl,g.p,g.dx,_,rfl,fu.at'.hp,BI g,_,rfl,g,G,f',q0,rfl,fu.at',eq0,rfl,_,rfl,?_⟩;cases n with
  | zero =>
   rw [decide_eq_true (by rw [l0]; rfl)];exact Cg (k ks H (FrO.refl d H) hd co)
  | succ m =>
   rw [decide_eq_false (by rw [l0]; intro z; injection z with z; lia)];obtain ⟨m',qs,ps,em,dp,nb⟩:=fd'.tr.resolve_left (by lia);have em:m'=m:=by lia
   subst em;obtain ⟨q,nd⟩:=dp.node;have eq:q0=q:=Option.some.inj (eq0.symm.trans nd.g);subst eq;refine Bb ⟨_,rfl,g.p,g.dx,_,rfl,fu.at'.hp,ET g,_,rfl,g,G,f',q0,rfl,fu.at',eq0,by lia,fun t ht=>⟨t,rfl,⟨_,SqT.of ht⟩,?_⟩⟩;rw [nd.ps] at ht;refine Gf (b:=true) (xs:=[.int (qs 0:Int),.int (qs 1:Int),.int (qs 2:Int),.int (qs 3:Int)]) (fun j σ H2=>∃ (ks2:List (Key×V)) (out:Int) (u4 u5 u6 u7:Option V),FrO d H H2/\H2 d=some (.dK ks2)/\Go G ks2/\σ=[some (.ref g.p),some (.int f'),some (.ref d),some (.int out),u4,u5,u6,u7]/\0<=out/\∀ k' j',k' < j->k' < 4->j' < 4->j'+k'≠3->Bc G m' (ps k' j')<=out) ⟨ks,0,none,none,none,none,FrO.refl d H,hd,co,rfl,Int.le_refl _,fun k' j' h=>absurd h (Nat.not_lt_zero _)⟩ (fun j σ H2 _ z=>SqT.of (by obtain ⟨_,_,_,_,_,_,fr,_⟩:=z; exact fr _ _ ht (AR ht hd (by intro z; cases z)))) ?_ ?_
   ·rintro j v σ H2 T' ev ⟨ks2,out,u4,u5,u6,u7,fr,hd2,co2,rfl,on,al⟩ nT;have hj:j < 4:=(List.getElem?_eq_some_iff.mp ev).1;have ev':v=.int (qs j:Int):=by
     match j,hj,ev with
     | 0,_,ev=>cases ev; rfl
     | 1,_,ev=>cases ev; rfl
     | 2,_,ev=>cases ev; rfl
     | 3,_,ev=>cases ev; rfl
    subst ev';obtain ⟨qk,ndk⟩:=dp.sub j hj;have s2:=Ak (o:=.tup [.int j,.int (qs j)]) nT;refine IT Ah ?_;generalize upd H2 T' (.tup [.int j,.int (qs j)])=H3 at s2 ⊢;have fr3:=fr.trans (AE.frO s2);have fu3:=fu.frO hd od fr3;have lk:=ndk.lev;refine ⟨_,rfl,g.p,g.dx,_,rfl,fu3.at'.hp,ET g,_,rfl,g,G,qs j,qk,rfl,fu3.at',ndk.g,by lia,fun t3 ht3=>⟨t3,rfl,⟨_,SqT.of ht3⟩,?_⟩⟩;rw [ndk.ps] at ht3;have hd3:=s2 _ _ hd2;refine Gf (b:=true) (xs:=[.int (ps j 0:Int),.int (ps j 1:Int),.int (ps j 2:Int),.int (ps j 3:Int)]) (fun j2 σ H4=>∃ (ks4:List (Key×V)) (out4:Int) (u6 u7:Option V),FrO d H3 H4/\H4 d=some (.dK ks4)/\Go G ks4/\σ=[some (.ref g.p),some (.int f'),some (.ref d),some (.int out4),some (.int j),some (.int (qs j)),u6,u7]/\out<=out4/\∀ j',j' < j2->j' < 4->j'+j≠3->Bc G m' (ps j j')<=out4) ⟨ks2,out,_,_,FrO.refl d H3,hd3,co2,rfl,Int.le_refl _,fun j' h=>absurd h (Nat.not_lt_zero _)⟩ (fun j2 σ H4 _ z=>SqT.of (by obtain ⟨_,_,_,_,fr,_⟩:=z; exact fr _ _ ht3 (AR ht3 hd3 (by intro z; cases z)))) ?_ ?_
    ·rintro j2 v σ H4 T2 ev ⟨ks4,out4,u6,u7,fr4,hd4,co4,rfl,oo,al4⟩ nT2;have hj2:j2 < 4:=(List.getElem?_eq_some_iff.mp ev).1;have ev':v=.int (ps j j2:Int):=by
      match j2,hj2,ev with
      | 0,_,ev=>cases ev; rfl
      | 1,_,ev=>cases ev; rfl
      | 2,_,ev=>cases ev; rfl
      | 3,_,ev=>cases ev; rfl
     subst ev';have s4:=Ak (o:=.tup [.int j2,.int (ps j j2)]) nT2;refine IT Ah ?_;generalize upd H4 T2 (.tup [.int j2,.int (ps j j2)])=H5 at s4 ⊢;have fr5:=fr4.trans (AE.frO s4);have hd5:=s4 _ _ hd4;refine ⟨_,rfl,_,rfl,_,_,rfl,rfl,rfl,_,rfl,?_⟩;refine Jg (fun hc=>?_) (fun hc=>?_)
     ·have lp:Al G (ps j j2) (m':Int):=by
       have:=(ndk.nat hj2).2;rw [IH (ps j) hj2] at this;exact this
      refine ⟨_,rfl,_,rfl,_,rfl,_,rfl,?_⟩;refine ⟨g,G,ps j j2,m',d,ks4,rfl,fu3.frO hd3 ⟨od.am,od.bx⟩ fr5,lp,by lia,hd5,⟨od.am,od.bx⟩,co4,few,fun ks6 H6 fr6 fu6 hd6 co6=>?_⟩;have nn:=DL G m' (ps j j2);refine ⟨_,_,rfl,rfl,ks6,_,_,_,fr5.trans fr6,hd6,co6,rfl,by show out<=out4+_; lia,fun j' h1 h2 h3'=>?_⟩;show _<=out4+Bc G m' (ps j j2);rcases Nat.lt_succ_iff_lt_or_eq.mp h1 with h | h
      ·have:=al4 j' h h2 h3';lia
      ·subst h;lia
     ·refine ⟨ks4,out4,_,_,fr5,hd5,co4,rfl,oo,fun j' h1 h2 h3'=>?_⟩;rcases Nat.lt_succ_iff_lt_or_eq.mp h1 with h | h
      ·exact al4 j' h h2 h3'
      ·subst h;refine absurd ?_ hc;rw [decide_eq_false (show ¬ V.int (j':Int)=V.int (3 - (j:Int)) by intro q; injection q with q; lia)];rfl
    ·rintro σ H4 ⟨ks4,out4,u6,u7,fr4,hd4,co4,rfl,oo,al4⟩;refine ⟨ks4,out4,_,_,_,_,fr3.trans fr4,hd4,co4,rfl,by lia,fun k' j' h1 h2 h3' h4=>?_⟩;rcases Nat.lt_succ_iff_lt_or_eq.mp h1 with h | h
     ·have:=al k' j' h h2 h3' h4;lia
     ·subst h;exact al4 j' h3' h3' h4
   ·rintro σ H2 ⟨ks2,out,u4,u5,u6,u7,fr,hd2,co2,rfl,on,al⟩;refine ⟨_,rfl,_,_,rfl,rfl,?_⟩;have:0 < out:=by
     have ex:∃ k' j',k' < 4/\j' < 4/\j'+k'≠3/\ps k' j'≠bareN m':=by
      refine Classical.byContradiction fun z=>nb fun k' j' hk hj ne=>Classical.byContradiction fun q=>z ⟨k',j',hk,hj,ne,q⟩
     obtain ⟨k',j',hk,hj,ne,nbare⟩:=ex;obtain ⟨qk,ndk⟩:=dp.sub k' hk;have lp:Al G (ps k' j') (m':Int):=by
      have:=(ndk.nat hj).2;rw [IH (ps k') hj] at this;exact this
     have:=cnt_pos e0 fu.ok (by lia) lp nbare;have:=al k' j' hk hk hj ne;lia
    show Q (.bl (decide (0 < out))) H2;rw [decide_eq_true this];exact k ks2 H2 fr hd2 co2
end
end J
namespace J
open PySem L2
def Ef (G:Gv):Nat->Nat->Int->Int->List (List Int)
 | 0,i,x,y=>if i=0 then [] else [[y,x,(i:Int)]]
 | n+1,i,x,y=>match G[i]? with
  | some q=>(List.range 4).flatMap fun k=>Ef G n (q.parts.getD k 0).toNat (x+((k % 2:Nat):Int) * 2 ^ n) (y+((k / 2:Nat):Int) * 2 ^ n)
  | none=>[]
def EU (G:Gv) (n:Nat) (f:Nat->Nat) (x y:Int) (k:Nat):List (List Int):=Ef G n (f k) (x+((k % 2:Nat):Int) * 2 ^ n) (y+((k / 2:Nat):Int) * 2 ^ n)
theorem JZ {α β:Type} {f g:α->List β}:∀ {l:List α},(∀ x ∈ l,f x=g x)->l.flatMap f=l.flatMap g
 | [],_=>rfl
 | x :: l,h=>by rw [List.flatMap_cons,List.flatMap_cons,h x (List.mem_cons_self ..),JZ fun y hy=>h y (List.mem_cons_of_mem _ hy)]
theorem FM {G:Gv} {n i:Nat} {q:Sq} {a b c d:Nat} (h:Ch G n i q a b c d) (x y:Int):Ef G (n+1) i x y=(List.range 4).flatMap (EU G n (f4 a b c d) x y):=by
 rw [show Ef G (n+1) i x y=(match G[i]? with | some q=>(List.range 4).flatMap fun k=>Ef G n (q.parts.getD k 0).toNat (x+((k % 2:Nat):Int) * 2 ^ n) (y+((k / 2:Nat):Int) * 2 ^ n) | none=>[]) from rfl,h.g];refine JZ fun k hk=>?_;have:=(h.nat (by simpa using hk)).1;unfold EU;rw [List.getD_eq_getElem?_getD,this];rfl
theorem Dr {G:Gv} (ok:GOk G):∀ {n i:Nat} {x y:Int},Al G i (n:Int)->((Ef G n i x y).length:Int)=Bc G n i
 | 0,i,x,y,_=>by
  show (((if i=0 then [] else [[y,x,(i:Int)]]:List (List Int)).length:Nat):Int)=if i=0 then 0 else 1;split<;>rfl
 | n+1,i,x,y,h=>by
  obtain ⟨q,a,b,c,d,nd⟩:=AO ok h;rw [FM nd,EA nd];show (((EU G n (f4 a b c d) x y 0 ++ (EU G n (f4 a b c d) x y 1 ++ (EU G n (f4 a b c d) x y 2 ++ (EU G n (f4 a b c d) x y 3 ++ [])))).length:Nat):Int)=Bc G n a+(Bc G n b+(Bc G n c+(Bc G n d+0)))
  have e0:=Dr ok (x:=x+((0 % 2:Nat):Int) * 2 ^ n) (y:=y+((0 / 2:Nat):Int) * 2 ^ n) nd.hx;have e1:=Dr ok (x:=x+((1 % 2:Nat):Int) * 2 ^ n) (y:=y+((1 / 2:Nat):Int) * 2 ^ n) nd.hy;have e2:=Dr ok (x:=x+((2 % 2:Nat):Int) * 2 ^ n) (y:=y+((2 / 2:Nat):Int) * 2 ^ n) nd.hz;have e3:=Dr ok (x:=x+((3 % 2:Nat):Int) * 2 ^ n) (y:=y+((3 / 2:Nat):Int) * 2 ^ n) nd.hw;rw [<-e0,<-e1,<-e2,<-e3];simp only [List.length_append,List.length_nil,Int.natCast_add];rfl
theorem dm_c (v h:Nat):(v:Int)=((v / h:Nat):Int) * (h:Int)+((v % h:Nat):Int):=by
 have:=Nat.div_add_mod v h;rw [<-Int.natCast_mul,<-Int.natCast_add,Nat.mul_comm,this]
theorem Ey {G:Gv} (ok:GOk G):∀ {n i:Nat} {x y:Int} {r:List Int},Al G i (n:Int)->(r ∈ Ef G n i x y ↔ ∃ u v:Nat,u < 2 ^ n/\v < 2 ^ n/\cellF G n i u v≠0/\r=[y+v,x+u,(cellF G n i u v:Int)])
 | 0,i,x,y,r,_=>by
  show r ∈ (if i=0 then [] else [[y,x,(i:Int)]]:List (List Int)) ↔ _;constructor
  ·intro h;by_cases z:i=0
   ·rw [if_pos z] at h;cases h
   ·rw [if_neg z] at h;refine ⟨0,0,by decide,by decide,z,?_⟩;rw [List.mem_singleton.mp h];show [y,x,(i:Int)]=[y+0,x+0,(i:Int)]
    rw [Int.add_zero,Int.add_zero]
  ·rintro ⟨u,v,hu,hv,ne,rfl⟩;have hu:u=0:=Nat.lt_one_iff.mp hu;have hv:v=0:=Nat.lt_one_iff.mp hv;subst hu hv;have ne:i≠0:=ne;rw [if_neg ne];show [y+0,x+0,(i:Int)] ∈ _;rw [Int.add_zero,Int.add_zero];exact List.mem_singleton.mpr rfl
 | n+1,i,x,y,r,h=>by
  obtain ⟨q,a,b,c,d,nd⟩:=AO ok h;have cc:=FU n;rw [FM nd,List.mem_flatMap];constructor
  ·rintro ⟨k,hk,hr⟩;have hk:k < 4:=by simpa using hk
   obtain ⟨u,v,hu,hv,ne,rfl⟩:=(Ey ok (nd.nat hk).2).mp hr;obtain ⟨h1,h2,h3,h4,h5⟩:=EL hk hu hv;have e:=AW nd h1 h2;rw [h3,h4,h5] at e;refine ⟨_,_,h1,h2,by rw [e]; exact ne,?_⟩;rw [e,<-cc,Int.natCast_add,Int.natCast_mul,Int.natCast_add,Int.natCast_mul,Int.mul_comm ((k / 2:Nat):Int),Int.mul_comm ((k % 2:Nat):Int),Int.add_assoc,Int.add_assoc,Int.add_comm (v:Int),Int.add_comm (u:Int)]
  ·rintro ⟨u,v,hu,hv,ne,rfl⟩;rw [AW nd hu hv] at ne ⊢;have qk:=Fz hu hv;refine ⟨CY n u v,by simpa using qk,(Ey ok (nd.nat qk).2).mpr ⟨u % 2 ^ n,v % 2 ^ n,Nat.mod_lt _ (Bg n),Nat.mod_lt _ (Bg n),ne,?_⟩⟩;have q1:CY n u v / 2=v / 2 ^ n:=by
    have:=FI hu;unfold CY;generalize u / 2 ^ n=A at *
    generalize v / 2 ^ n=B at *
    lia
   have q2:CY n u v % 2=u / 2 ^ n:=by
    have:=FI hu;unfold CY;generalize u / 2 ^ n=A at *
    generalize v / 2 ^ n=B at *
    lia
   rw [q1,q2,<-cc,Int.add_assoc,Int.add_assoc,<-dm_c,<-dm_c]
theorem IP {G:Gv} (ok:GOk G):∀ {n i:Nat} {x y:Int},Al G i (n:Int)->(Ef G n i x y).Nodup
 | 0,i,x,y,_=>by
  show (if i=0 then [] else [[y,x,(i:Int)]]:List (List Int)).Nodup;split
  ·exact List.nodup_nil
  ·simp
 | n+1,i,x,y,h=>by
  obtain ⟨q,a,b,c,d,nd⟩:=AO ok h;rw [FM nd,List.nodup_iff_pairwise_ne,List.pairwise_flatMap];refine ⟨fun k hk=>?_,?_⟩
  ·have hk:k < 4:=by simpa using hk
   exact List.nodup_iff_pairwise_ne.mp (IP ok (nd.nat hk).2)
  ·refine List.Pairwise.imp_of_mem (fun {k j} hk hj kj r hr r' hr' e=>kj ?_) (List.nodup_iff_pairwise_ne.mp (List.nodup_range (n:=4)));subst e;have hk:k < 4:=by simpa using hk
   have hj:j < 4:=by simpa using hj
   obtain ⟨u,v,hu,hv,ne,e1⟩:=(Ey ok (nd.nat hk).2).mp hr;obtain ⟨u',v',hu',hv',ne',e2⟩:=(Ey ok (nd.nat hj).2).mp hr';rw [e1] at e2;injection e2 with f1 e2
   injection e2 with f2 e2
   have cc:=FU n;rw [<-cc] at f1 f2;have side:∀ {A B h u u':Nat},A < 2->B < 2->u < h->u' < h->(A:Int) * (h:Int)+u=(B:Int) * (h:Int)+u'->A=B:=by
    intro A B h u u' hA hB hu hu' e;have hA:A=0\/A=1:=by lia
    have hB:B=0\/B=1:=by lia
    rcases hA with rfl | rfl<;>rcases hB with rfl | rfl<;>simp at e<;>first | rfl | lia
   have g1:=side (A:=k / 2) (B:=j / 2) (by lia) (by lia) hv hv' (by lia);have g2:=side (A:=k % 2) (B:=j % 2) (by lia) (by lia) hu hu' (by lia);lia
end J
namespace J
open PySem L2
seal L2.PA L2.PE L2.PS L2.PSs L2.PT L2.PW
def DV (H:Hp) (items:List (Addr×List Int)):Prop:=∀ q ∈ items,H q.1=some (.tup (q.2.map V.int))
theorem DV.frO {d:Addr} {H H':Hp} {ks:List (Key×V)} {items:List (Addr×List Int)} (hd:H d=some (.dK ks)) (f:FrO d H H') (h:DV H items):DV H' items:=fun q hq=>f _ _ (h q hq) (AR (h q hq) hd (by intro z; cases z))
theorem DV.same {H H':Hp} {items:List (Addr×List Int)} (f:AE H H') (h:DV H items):DV H' items:=fun q hq=>f _ _ (h q hq)
theorem PQ {G:Gv} {n i:Nat} {q:Sq} {a b c d:Nat} (h:Ch G n i q a b c d) {k:Nat} (hk:k < 4):Bc G n (f4 a b c d k)<=Bc G (n+1) i:=by
 have e:=EA h;have ea:=DL G n a;have eb:=DL G n b;have ec:=DL G n c;have ed:=DL G n d;have e:Bc G (n+1) i=Bc G n a+(Bc G n b+(Bc G n c+(Bc G n d+0))):=e
 match k,hk with
 | 0,_=>show Bc G n a<=_; lia
 | 1,_=>show Bc G n b<=_; lia
 | 2,_=>show Bc G n c<=_; lia
 | 3,_=>show Bc G n d<=_; lia
theorem SS (n:Nat) {l:Int} (h:l=(n:Int)+1):1 * 2 ^ l.toNat / 2=(2:Int) ^ n:=by
 have:l.toNat=n+1:=by lia
 rw [this,Ff];lia
section
variable {P:Program} {w:World} {K:PySem.W.Frag} {mg:Str->Option Value} {base:Heap} {a:Ad}
inductive SpWi (a:Ad) (n:Nat) (vs:List V) (H:Hp) (Q:VK):Prop
 | mk (g:GA) (G:Gv) (i l:Nat) (x y:Int) (d:Addr) (ks:List (Key×V)) (_:vs=[.ref g.p,.int i,.int x,.int y,.ref d]) (_:Bp a H g G) (_:Al G i (l:Int)) (_:l < n) (_:H d=some (.dK ks)) (_:Rh a H g d) (_:Go G ks) (_:G.length < 9000000) (_:Bc G l i<=1000) (_:∀ (L:Addr) (items:List (Addr×List Int)) (ks':List (Key×V)) (H':Hp),FrO d H H'->H' d=some (.dK ks')->Go G ks'->H' L=some (.lst (items.map fun q=>V.ref q.1))->DV H' items->items.map (·.2)=Ef G l i x y->Q (.ref L) H'):SpWi a n vs H Q
def spWi (a:Ad) (n:Nat):Sp:=fun vs H Q _=>SpWi a n vs H Q
theorem ok_wi {f:Addr} {fd:FuncData} (F:Fun K "_law_within" "_law_within" Cp f fd) (T:Top K mg a) (hm:mg "_law_within" = some (.ref f)) (Bi:DN K fd BT []) (aA:Cy P w K mg base CX0 3 a.c_Grove "level_of" AB (Fc a)) (aE:Cy P w K mg base CX0 4 a.c_Grove "state_of" BF (Pr a))
  (aC:Cy P w K mg base CX0 4 a.c_Grove "quarters" Bl (Nt a)) (aD:Cal P w K mg base CX0 55 "_law_count" Bw (Qm a 50)):∀ n,AI P w K mg base CX0 (n+56) f fd BT (spWi a n)
 | 0=>by
  refine F.ok Bq (fun vs H Q E h=>?_) (fun cdv A outer s H vs Q E hr h=>?_)
  ·obtain ⟨g,G,i,l,x,y,d,ks,rfl,_,_,h0,_⟩:=h;exact absurd h0 (Nat.not_lt_zero _)
  ·obtain ⟨g,G,i,l,x,y,d,ks,rfl,_,_,h0,_⟩:=h;exact absurd h0 (Nat.not_lt_zero _)
 | n+1=>by
  have aO:Cal P w K mg base CX0 (n+56) "_law_within" BT (spWi a n):=⟨f,fd,ok_wi F T hm Bi aA aE aC aD n,hm,F.kp,Bi⟩
  refine F.ok Bq (fun vs H Q E h=>?_) (fun cdv A outer s H vs Q E hr h=>?_)
  ·obtain ⟨g,G,i,l,x,y,d,ks,rfl,_⟩:=h;rfl
  ·obtain ⟨g,G,i,l,x,y,d,ks,rfl,fu,hl,ln,hd,od,co,few,cn,k⟩:=h;obtain ⟨q0,eq0,l0⟩:=id hl;have l48:l<=48:=by have:=(fu.ok.lev eq0).2; lia
   refine ⟨_,(Ab (AH (Au De (Ap aD (rm hr) rfl Am (Aa (pv 0) (Aa (pv 1) (Aa (pv 4) Ac)))) Ag (Ay _)) (Af (Ao (CW Ac))) Aw) (Ab (Aj (i:=5) Bq.nd rfl (Or.inl rfl) (AG (pv 0) aA (rm hr) Am (Aa (pv 1) Ac))) (Ab (AH (Au De (pv 5) Ag (Ay _)) (Af (Ao (CW (DA (Aa (pv 3) (Aa (pv 2) (Aa (AG (pv 0) aE (rm hr) Am (Aa (pv 1) Ac)) Ac))) Ac)))) Aw) (Ab (Aj (i:=6) Bq.nd rfl (Or.inl rfl) (AA CT (AA FF Ag (pv 5)) Ag)) (Ab (Aj (i:=7) Bq.nd rfl (Or.inl rfl) (CW Ac)) (Ab (Dy PassesOwn.never rfl (Gq true rfl T.b_enumerate (Aa (AG (pv 0) aC (rm hr) Am (Aa (pv 1) Ac)) Ac)) (FB rfl (Be (AY (i:=8) Bq.nd rfl (Or.inl rfl)) (Be (AY (i:=9) Bq.nd rfl (Or.inl rfl)) El))) (Af (Aj (i:=7) Bq.nd rfl (Or.inl rfl) (AA Iw (pv 7) (Ap aO (rm hr) rfl Am (Aa (pv 0) (Aa (pv 9) (Ek Bm (pv 2) (AA Gb (AA CD (pv 8) Ag) (pv 6)) (Ek Bm (pv 3) (AA Gb (AA CT (pv 8) Ag) (pv 6)) (Aa (pv 4) Ac)))))))))) (Af (Ao (pv 7))))))))),?_⟩
   try dsimp only [cxK]
   refine ⟨_,rfl,_,rfl,_,rfl,g,G,i,l,d,ks,rfl,fu,hl,by lia,hd,od,co,few,fun ks1 H1 fr1 fu1 hd1 co1=>?_⟩;refine ⟨rfl,_,rfl,?_⟩;have len:=Dr fu.ok (x:=x) (y:=y) hl;by_cases z:Bc G l i=0
   ·rw [decide_eq_true (by rw [z])];refine Cg ⟨(by show 0<=sizeLine; decide),fun L hL=>?_⟩;have s1:=Ak (o:=.lst []) hL;refine k L [] ks1 _ (fr1.trans (AE.frO s1)) (s1 _ _ hd1) co1 Ah (fun q hq=>nomatch hq) ?_;rw [z] at len;exact (List.eq_nil_of_length_eq_zero (by lia)).symm
   ·rw [decide_eq_false (by intro e; injection e with e; exact z e)];refine Bb ⟨_,rfl,g.p,g.dx,_,rfl,fu1.at'.hp,BI g,_,rfl,g,G,i,q0,rfl,fu1.at',eq0,?_⟩;refine ⟨_,rfl,rfl,_,rfl,?_⟩;cases l with
    | zero =>
     rw [decide_eq_true (by rw [l0]; rfl)];refine Cg ⟨_,rfl,_,rfl,_,rfl,g.p,g.dx,_,rfl,fu1.at'.hp,JJ g,_,rfl,g,G,i,q0,rfl,fu1.at',eq0,l0,(by show 3<=sizeLine; decide),fun t ht=>⟨(by show 1<=sizeLine; decide),fun L hL=>?_⟩⟩;have s1:=Ak (o:=.tup [.int y,.int x,.int i]) ht;have ht1:upd H1 t (.tup [.int y,.int x,.int i]) t=some (.tup [.int y,.int x,.int i]):=Ah;generalize upd H1 t (.tup [.int y,.int x,.int i])=H2 at s1 ht1 hL ⊢;have s2:=Ak (o:=.lst [.ref t]) hL;have i0:i≠0:=fun q=>z (by subst q; rfl);refine k L [(t,[y,x,(i:Int)])] ks1 _ (fr1.trans (AE.frO (s1.trans s2))) (s2 _ _ (s1 _ _ hd1)) co1 Ah (fun q hq=>?_) ?_
     ·rw [List.mem_singleton.mp hq];exact s2 _ _ ht1
     ·show _=if i=0 then [] else [[y,x,(i:Int)]];rw [if_neg i0];rfl
    | succ m =>
     rw [decide_eq_false (by rw [l0]; intro z; injection z with z; lia)];obtain ⟨q,c0,c1,c2,c3,nd⟩:=AO fu.ok hl;have eq:q0=q:=Option.some.inj (eq0.symm.trans nd.g);subst eq;have lpos:=FA m;have lt64:=pow2_lt (l:=m) (by lia);refine Bb ⟨_,rfl,_,_,rfl,rfl,⟨by lia,by lia,by decide⟩,_,_,rfl,rfl,⟨by decide,by decide⟩,?_⟩;rw [show (fun (i j:Int)=>V.int (i / j)) ((fun (i j:Int)=>i * 2 ^ j.toNat) 1 q0.lev) 2=V.int (2 ^ m) from congrArg V.int (SS m nd.lev)];refine ⟨(by show 0<=sizeLine; decide),fun L hL=>?_⟩;have s1:=Ak (o:=.lst []) hL;have hL1:upd H1 L (.lst []) L=some (.lst []):=Ah;generalize upd H1 L (.lst [])=H2 at s1 hL1 ⊢;have fr2:=fr1.trans (AE.frO s1);have fu2:=fu.frO hd od fr2;have hd2:=s1 _ _ hd1;refine ⟨_,rfl,g.p,g.dx,_,rfl,fu2.at'.hp,ET g,_,rfl,g,G,i,q0,rfl,fu2.at',eq0,by lia,fun t ht=>⟨t,rfl,⟨_,SqT.of ht⟩,?_⟩⟩;rw [nd.ps] at ht;have len1:∀ j,j < 4->((EU G m (f4 c0 c1 c2 c3) x y j).length:Int)<=1000:=fun j hj=>by
      unfold EU;rw [Dr fu.ok (nd.nat hj).2];have:=PQ nd hj;lia
     refine Gf (b:=true) (xs:=[.int (c0:Int),.int (c1:Int),.int (c2:Int),.int (c3:Int)]) (fun j σ H3=>∃ (ks3:List (Key×V)) (L3:Addr) (items:List (Addr×List Int)) (u8 u9:Option V),FrO d H2 H3/\H3 d=some (.dK ks3)/\Go G ks3/\σ=[some (.ref g.p),some (.int i),some (.int x),some (.int y),some (.ref d),some (.int q0.lev),some (.int (2 ^ m)),some (.ref L3),u8,u9]/\H3 L3=some (.lst (items.map fun q=>V.ref q.1))/\DV H3 items/\items.map (·.2)=(List.range j).flatMap (EU G m (f4 c0 c1 c2 c3) x y)/\items.length<=1000 * j) ⟨ks1,L,[],none,none,FrO.refl d H2,hd2,co1,rfl,hL1,(fun q hq=>nomatch hq),rfl,Nat.zero_le _⟩ (fun j σ H3 _ z=>SqT.of (by obtain ⟨_,_,_,_,_,fr,_⟩:=z; exact fr _ _ ht (AR ht hd2 (by intro z; cases z)))) ?_ ?_
     ·rintro j v σ H3 T' ev ⟨ks3,L3,items,u8,u9,fr3,hd3,co3,rfl,hL3,ra,ei,il⟩ nT;have hj:j < 4:=(List.getElem?_eq_some_iff.mp ev).1;have ev':v=.int (f4 c0 c1 c2 c3 j:Int):=by
       match j,hj,ev with
       | 0,_,ev=>cases ev; rfl
       | 1,_,ev=>cases ev; rfl
       | 2,_,ev=>cases ev; rfl
       | 3,_,ev=>cases ev; rfl
      subst ev';have s4:=Ak (o:=.tup [.int j,.int (f4 c0 c1 c2 c3 j)]) nT;refine IT Ah ?_;generalize upd H3 T' (.tup [.int j,.int (f4 c0 c1 c2 c3 j)])=H4 at s4 ⊢;have fr4:=fr3.trans (AE.frO s4);have hd4:=s4 _ _ hd3;have cb:=PQ nd hj;refine ⟨_,rfl,_,rfl,_,rfl,_,rfl,_,rfl,_,_,rfl,rfl,(by show (0:Int) < 2; decide),_,rfl,_,_,rfl,rfl,.inl ⟨by lia,by lia⟩,_,_,rfl,rfl,_,rfl,_,rfl,_,_,rfl,rfl,⟨by decide,by decide⟩,_,rfl,_,_,rfl,rfl,.inl ⟨by lia,by lia⟩,_,_,rfl,rfl,_,rfl,?_⟩;refine ⟨g,G,f4 c0 c1 c2 c3 j,m,x+((j % 2:Nat):Int) * 2 ^ m,y+((j / 2:Nat):Int) * 2 ^ m,d,ks3,rfl,fu2.frO hd2 ⟨od.am,od.bx⟩ fr4,(nd.nat hj).2,by lia,hd4,⟨od.am,od.bx⟩,co3,few,by lia,fun L5 items5 ks5 H5 fr5 hd5 co5 hL5 ra5 ei5=>?_⟩;have hL35:=fr5 _ _ (s4 _ _ hL3) (AR hL3 hd3 (by intro z; cases z));have l5:items5.length<=1000:=by
       have:=congrArg List.length ei5;rw [List.length_map] at this;have:=len1 j hj;unfold EU at this;lia
      refine ⟨L3,L5,_,_,rfl,rfl,hL35,hL5,GG (by rw [List.length_map,List.length_map]; lia),fun p hp=>?_⟩;have s6:=Ak (o:=.lst ((items.map fun q=>V.ref q.1) ++ (items5.map fun q=>V.ref q.1))) hp;refine ⟨ks5,p,items ++ items5,_,_,(fr4.trans fr5).trans (AE.frO s6),s6 _ _ hd5,co5,rfl,by rw [List.map_append]; exact Ah,fun q hq=>?_,?_,by rw [List.length_append]; lia⟩
      ·rcases List.mem_append.mp hq with hq | hq
       ·exact s6 _ _ (((ra.same s4).frO hd4 fr5) q hq)
       ·exact s6 _ _ (ra5 q hq)
      ·rw [List.map_append,ei,ei5,List.range_succ,List.flatMap_append];simp only [List.flatMap_cons,List.flatMap_nil,List.append_nil];rfl
     ·rintro σ H3 ⟨ks3,L3,items,u8,u9,fr3,hd3,co3,rfl,hL3,ra,ei,il⟩;refine ⟨_,rfl,k L3 items ks3 H3 (fr2.trans fr3) hd3 co3 hL3 ra ?_⟩;rw [ei,FM nd];rfl
inductive SpWk (a:Ad) (vs:List V) (H:Hp) (Q:VK):Prop
 | mk (g:GA) (G:Gv) (f n:Nat) (_:vs=[.ref g.p,.int f]) (_:Bp a H g G) (_:Fd G n f) (_:G.length < 9000000) (_:Bc G (n+1) f<=400) (_:∀ (L:Addr) (out:List (Addr×List Int)) (H':Hp),AE H H'->H' L=some (.lst (out.map fun q=>V.ref q.1))->DV H' out->(out.map (·.2)).Perm (Ef G (n+1) f (-(2 ^ n)) (-(2 ^ n)))->EX out->Q (.ref L) H'):SpWk a vs H Q
def spWk (a:Ad):Sp:=fun vs H Q _=>SpWk a vs H Q
theorem ok_wk {f:Addr} {fd:FuncData} (F:Fun K "_law_walked" "_law_walked" Cq f fd) (T:Top K mg a) (bD:Cal P w K mg base CX0 56 "_law_is_field" Cm (spIF a)) (aA:Cy P w K mg base CX0 3 a.c_Grove "level_of" AB (Fc a))
  (aD:Cal P w K mg base CX0 55 "_law_count" Bw (Qm a 50)) (aO:Cal P w K mg base CX0 106 "_law_within" BT (spWi a 50)):AI P w K mg base CX0 107 f fd Db (spWk a):=by
 refine F.ok EG (fun vs H Q E h=>?_) (fun cdv A outer s H vs Q E hr h=>?_)
 ·obtain ⟨g,G,f',n,rfl,_⟩:=h;rfl
 ·obtain ⟨g,G,f',n,rfl,fu,fd',few,cn,k⟩:=h;have n40:=fd'.le;obtain ⟨q0,eq0,l0⟩:=id fd'.lev;refine ⟨_,(Ab (Aj (i:=2) EG.nd rfl (Or.inl rfl) JH) (Ab (AH (PW.pt (Ej (Ce (BJ (Ap bD (rm hr) rfl Am (Aa (pv 0) (Aa (pv 1) (Aa (pv 2) Ac)))))) (Dx (Au Fl (Ap aD (rm hr) rfl Am (Aa (pv 0) (Aa (pv 1) (Aa (pv 2) Ac)))) Ag (Ay _))))) (Af (Ao OE)) Aw) (Ab (Aj (i:=3) EG.nd rfl (Or.inl rfl) (AA CT (AA FF Ag (AG (pv 0) aA (rm hr) Am (Aa (pv 1) Ac))) Ag)) (Af (Ao (Av Ii rfl T.b_sorted PyProof.Rows.boot_sorted (Aa (Ap aO (rm hr) rfl Am (Aa (pv 0) (Aa (pv 1) (Aa (LM Im (pv 3)) (Aa (LM Im (pv 3)) (Aa (pv 2) Ac)))))) Ac))))))),?_⟩
  try dsimp only [cxK]
  refine fun d hd=>?_;have s1:=Ak (o:=.dK []) hd;have hd1:upd H d (.dK []) d=some (.dK []):=Ah;obtain ⟨ks0,h1,_⟩:=fu.am;obtain ⟨ks',h2,_⟩:=fu.bx;have od:∀ H',Rh a H' g d:=fun _=>⟨Ne.symm (As h1 hd),Ne.symm (As h2 hd)⟩
  have back:∀ {H'},FrO d (upd H d (.dK [])) H'->AE H H':=fun {H'} fr b o e=>fr b o (s1 _ _ e) (As e hd);generalize upd H d (.dK [])=H1 at s1 hd1 back ⊢;have fu1:=fu.same s1;refine ⟨_,rfl,_,rfl,_,rfl,g,G,f',n,d,[],rfl,fu1,fd',hd1,od _,Go.nil,few,fun ks2 H2 fr2 hd2 co2=>⟨true,rfl,Bb ?_⟩⟩;have fu2:=fu1.frO hd1 (od _) fr2;refine ⟨_,rfl,_,rfl,_,rfl,g,G,f',n+1,d,ks2,rfl,fu2,fd'.lev,by lia,hd2,od _,co2,few,fun ks3 H3 fr3 fu3 hd3 co3=>⟨_,_,rfl,rfl,_,rfl,?_⟩⟩;rw [decide_eq_false (show ¬ (400:Int) < Bc G (n+1) f' by lia)];refine Bb ⟨_,rfl,g.p,g.dx,_,rfl,fu3.at'.hp,BI g,_,rfl,g,G,f',q0,rfl,fu3.at',eq0,_,_,rfl,rfl,⟨by lia,by lia,by decide⟩,_,_,rfl,rfl,⟨by decide,by decide⟩,?_⟩;rw [show (fun (i j:Int)=>V.int (i / j)) ((fun (i j:Int)=>i * 2 ^ j.toNat) 1 q0.lev) 2=V.int (2 ^ n) from congrArg V.int (SS n (by lia))];refine ⟨_,rfl,_,rfl,_,rfl,_,rfl,_,rfl,_,rfl,_,rfl,?_⟩;refine ⟨g,G,f',n+1,-(2 ^ n),-(2 ^ n),d,ks3,rfl,fu3,fd'.lev,by lia,hd3,od _,co3,few,by lia,fun L items ks4 H4 fr4 hd4 co4 hL ra ei=>?_⟩;have len:=Dr fu.ok (x:=-(2 ^ n)) (y:=-(2 ^ n)) fd'.lev;have il:items.length<=100000:=by
   have:=congrArg List.length ei;rw [List.length_map] at this;lia
  refine ⟨L,items,rfl,SqL.of hL,il,fun q hq=>⟨ra q hq,fun e=>?_⟩,fun L5 out hL5 pm ru=>?_⟩
  ·have:q.2 ∈ items.map (·.2):=List.mem_map.mpr ⟨q,hq,rfl⟩;rw [ei,Ey fu.ok fd'.lev] at this;obtain ⟨u,v,_,_,_,e2⟩:=this;rw [e] at e2;cases e2
  ·have s5:=Ak (o:=.lst (out.map fun q=>V.ref q.1)) hL5;refine k L5 out _ ((back ((fr2.trans fr3).trans fr4)).trans s5) Ah (fun q hq=>s5 _ _ (ra q (pm.mem_iff.mp hq))) ?_ ru;rw [<-ei];exact pm.map _
end
end J
namespace J
open PySem L2
seal L2.PA L2.PE L2.PS L2.PSs L2.PT L2.PW
structure KiW (K:PySem.W.Frag) (a:Ad) (c:Addr) (j:Nat):Prop where
 ec:Gz K c
 ef:Pi K c
 mr:PySem.W.mroIn K c (.ref a.x_FieldError)=some true
 kv:PySem.W.kitOne K (.ref c) (.type "ValueError")=some true
 jl:j < 13
 k0:PySem.W.kitOne K (.ref c) (.ref a.x_NoNumber)=some (decide (j=0))
 k1:PySem.W.kitOne K (.ref c) (.ref a.x_NoRule)=some (decide (j=1))
 k2:PySem.W.kitOne K (.ref c) (.ref a.x_Restless)=some (decide (j=2))
 k3:PySem.W.kitOne K (.ref c) (.ref a.x_NoSquare)=some (decide (j=3))
 k4:PySem.W.kitOne K (.ref c) (.ref a.x_NoLevel)=some (decide (j=4))
 k5:PySem.W.kitOne K (.ref c) (.ref a.x_NoState)=some (decide (j=5))
 k6:PySem.W.kitOne K (.ref c) (.ref a.x_NoBox)=some (decide (j=6))
 k7:PySem.W.kitOne K (.ref c) (.ref a.x_TooFar)=some (decide (j=7))
 k8:PySem.W.kitOne K (.ref c) (.ref a.x_TooMany)=some (decide (j=8))
 k9:PySem.W.kitOne K (.ref c) (.ref a.x_NoSteps)=some (decide (j=9))
 k10:PySem.W.kitOne K (.ref c) (.ref a.x_NoPattern)=some (decide (j=10))
 k11:PySem.W.kitOne K (.ref c) (.ref a.x_NoName)=some (decide (j=11))
 k12:PySem.W.kitOne K (.ref c) (.ref a.x_NoRow)=some (decide (j=12))
def Mm:List Str:=["number","rule","restless","square","level","state","box","far","many","steps","pattern","name","row"]
def Pj (j:Nat):Str:=Mm.getD j ""
def GP (j:Nat):List Bool:=(List.range 13).map fun i=>decide (j=i)
theorem QL {j:Nat} (h:j < 13):(GP j).countP id=1:=by
 have:∀ j < 13,(GP j).countP id=1:=by decide
 exact this j h
section
variable {P:Program} {w:World} {K:PySem.W.Frag} {mg:Str->Option Value} {base:Heap} {a:Ad}
theorem kiw_far (T:Top K mg a):KiW K a a.x_TooFar 7:=⟨T.ec_TooFar,T.ef_TooFar,T.mr_TooFar,T.kv_TooFar,by decide,T.ki_TooFar_NoNumber,T.ki_TooFar_NoRule,T.ki_TooFar_Restless,T.ki_TooFar_NoSquare,T.ki_TooFar_NoLevel,T.ki_TooFar_NoState,T.ki_TooFar_NoBox,T.ki_TooFar_TooFar,T.ki_TooFar_TooMany,T.ki_TooFar_NoSteps,T.ki_TooFar_NoPattern,T.ki_TooFar_NoName,T.ki_TooFar_NoRow⟩
end
end J
namespace J
open PySem L2
seal L2.PA L2.PE L2.PS L2.PSs L2.PT L2.PW
theorem word_at {j:Nat} (h:j < 13):(Mm.map V.str)[j]?=some (.str (Pj j)):=by
 rw [List.getElem?_map];unfold Pj;rw [List.getD_eq_getElem?_getD,List.getElem?_eq_getElem (show j < Mm.length from h)];rfl
theorem NX {j i:Nat} (hi:i < 13):(GP j)[i]?=some (decide (j=i)):=by
 unfold GP;rw [List.getElem?_map,List.getElem?_range hi];rfl
section
variable {P:Program} {w:World} {K:PySem.W.Frag} {mg:Str->Option Value} {base:Heap} {a:Ad}
inductive SpWd (K:PySem.W.Frag) (a:Ad) (vs:List V) (H:Hp) (Q:VK):Prop
 | mk (e c:Addr) (j:Nat) (_:vs=[.ref e]) (_:H e=some (IS e c)) (_:KiW K a c j) (_:∀ H',AE H H'->Q (.str (Pj j)) H'):SpWd K a vs H Q
def spWd (K:PySem.W.Frag) (a:Ad):Sp:=fun vs H Q _=>SpWd K a vs H Q
theorem ok_wd {f:Addr} {fd:FuncData} (F:Fun K "_law_word" "_law_word" Dn f fd) (T:Top K mg a):Qe P w K mg base 1 f fd Eb (spWd K a):=by
 refine F.okH Cc (fun vs H Q E h=>?_) (fun cdv A outer s H vs Q hr h=>?_)
 ·obtain ⟨e,c,j,rfl,_⟩:=h;rfl
 ·obtain ⟨e,c,j,rfl,he,ki,k⟩:=h;refine ⟨_,(Ab (Aj (i:=1) Cc.nd rfl (Or.inl rfl) (CW (Aa (Av AU rfl T.b_isinstance PyProof.Rows.boot_isinstance (Aa (pv 0) (Aa (CP rfl T.mx_NoNumber) Ac))) (Aa (Av AU rfl T.b_isinstance PyProof.Rows.boot_isinstance (Aa (pv 0) (Aa (CP rfl T.mx_NoRule) Ac))) (Aa (Av AU rfl T.b_isinstance PyProof.Rows.boot_isinstance (Aa (pv 0) (Aa (CP rfl T.mx_Restless) Ac))) (Aa (Av AU rfl T.b_isinstance PyProof.Rows.boot_isinstance (Aa (pv 0) (Aa (CP rfl T.mx_NoSquare) Ac))) Ac)))))) (Ab (Aj (i:=1) Cc.nd rfl (Or.inl rfl) (AA Iw (pv 1) (CW (Aa (Av AU rfl T.b_isinstance PyProof.Rows.boot_isinstance (Aa (pv 0) (Aa (CP rfl T.mx_NoLevel) Ac))) (Aa (Av AU rfl T.b_isinstance PyProof.Rows.boot_isinstance (Aa (pv 0) (Aa (CP rfl T.mx_NoState) Ac))) (Aa (Av AU rfl T.b_isinstance PyProof.Rows.boot_isinstance (Aa (pv 0) (Aa (CP rfl T.mx_NoBox) Ac))) Ac)))))) (Ab (Aj (i:=1) Cc.nd rfl (Or.inl rfl) (AA Iw (pv 1) (CW (Aa (Av AU rfl T.b_isinstance PyProof.Rows.boot_isinstance (Aa (pv 0) (Aa (CP rfl T.mx_TooFar) Ac))) (Aa (Av AU rfl T.b_isinstance PyProof.Rows.boot_isinstance (Aa (pv 0) (Aa (CP rfl T.mx_TooMany) Ac))) (Aa (Av AU rfl T.b_isinstance PyProof.Rows.boot_isinstance (Aa (pv 0) (Aa (CP rfl T.mx_NoSteps) Ac))) Ac)))))) (Ab (Aj (i:=1) Cc.nd rfl (Or.inl rfl) (AA Iw (pv 1) (CW (Aa (Av AU rfl T.b_isinstance PyProof.Rows.boot_isinstance (Aa (pv 0) (Aa (CP rfl T.mx_NoPattern) Ac))) (Aa (Av AU rfl T.b_isinstance PyProof.Rows.boot_isinstance (Aa (pv 0) (Aa (CP rfl T.mx_NoName) Ac))) (Aa (Av AU rfl T.b_isinstance PyProof.Rows.boot_isinstance (Aa (pv 0) (Aa (CP rfl T.mx_NoRow) Ac))) Ac)))))) (Ab (AH (PW.pt (Ej (Ce (BJ (Av AU rfl T.b_isinstance PyProof.Rows.boot_isinstance (Aa (pv 0) (Aa (ES (v:=.ty "ValueError") rfl T.b_ValueError PyProof.Rows.Boot.«ValueError» rfl) Ac))))) (Dx (Au IN (Fi PySem.F.plainAttrs_list PySem.F.slot_list_count PySem.F.type_list_count QF (pv 1) (Aa FY Ac)) Ag (Ay _))))) (Af (Ao Cv)) Aw) (Ab (Aj (i:=2) Cc.nd rfl (Or.inl rfl) (CW (CA (CA (CA (CA (CA (CA (CA Ac))))))))) (Ab (Aj (i:=2) Cc.nd rfl (Or.inl rfl) (AA Iw (pv 2) (CW (CA (CA (CA (CA (CA (CA Ac))))))))) (Af (Ao (Ax AZ (pv 2) (Fi PySem.F.plainAttrs_list PySem.F.slot_list_index PySem.F.type_list_index QE (pv 1) (Aa FY Ac)) (fun _ _=>rfl))))))))))),?_⟩
  try dsimp only [cxK]
  have ty:∀ {H2:Hp},AE H H2->TyX K H2 (.ref e) (.ref c):=fun s=>.exc (s _ _ he) ki.ef;have s0:=AE.refl H;refine ⟨_,rfl,_,_,_,_,_,rfl,rfl,ty s0,ki.k0,_,rfl,_,_,_,_,_,rfl,rfl,ty s0,ki.k1,_,rfl,_,_,_,_,_,rfl,rfl,ty s0,ki.k2,_,rfl,_,_,_,_,_,rfl,rfl,ty s0,ki.k3,by show 4<=sizeLine; decide,fun p1 hp1=>?_⟩;have s1:=Ak (o:=.lst [.bl (decide (j=0)),.bl (decide (j=1)),.bl (decide (j=2)),.bl (decide (j=3))]) hp1;have h1:upd H p1 (.lst [.bl (decide (j=0)),.bl (decide (j=1)),.bl (decide (j=2)),.bl (decide (j=3))]) p1=some _:=Ah;generalize upd H p1 (.lst [.bl (decide (j=0)),.bl (decide (j=1)),.bl (decide (j=2)),.bl (decide (j=3))])=H1 at s1 h1 ⊢;refine ⟨_,rfl,_,rfl,_,_,_,_,_,rfl,rfl,ty s1,ki.k4,_,rfl,_,_,_,_,_,rfl,rfl,ty s1,ki.k5,_,rfl,_,_,_,_,_,rfl,rfl,ty s1,ki.k6,by show 3<=sizeLine; decide,fun p2 hp2=>?_⟩;refine ⟨p1,p2,_,_,rfl,rfl,(Ak hp2 _ _ h1),Ah,(by show 4+3<=sizeLine; decide),fun p3 hp3=>?_⟩;obtain ⟨H3,s3,h3,eH3⟩:∃ H3,AE H1 H3/\H3 p3=some (.lst [.bl (decide (j=0)),.bl (decide (j=1)),.bl (decide (j=2)),.bl (decide (j=3)),.bl (decide (j=4)),.bl (decide (j=5)),.bl (decide (j=6))])/\upd (upd H1 p2 (.lst [.bl (decide (j=4)),.bl (decide (j=5)),.bl (decide (j=6))])) p3 (.lst ([.bl (decide (j=0)),.bl (decide (j=1)),.bl (decide (j=2)),.bl (decide (j=3))] ++ [.bl (decide (j=4)),.bl (decide (j=5)),.bl (decide (j=6))]))=H3:=⟨_,(Ak hp2).trans (Ak hp3),Ah,rfl⟩
  rw [eH3];have s3:=s1.trans s3;clear eH3;refine ⟨_,rfl,_,rfl,_,_,_,_,_,rfl,rfl,ty s3,ki.k7,_,rfl,_,_,_,_,_,rfl,rfl,ty s3,ki.k8,_,rfl,_,_,_,_,_,rfl,rfl,ty s3,ki.k9,by show 3<=sizeLine; decide,fun p4 hp4=>?_⟩;refine ⟨p3,p4,_,_,rfl,rfl,(Ak hp4 _ _ h3),Ah,(by show 7+3<=sizeLine; decide),fun p5 hp5=>?_⟩;obtain ⟨H5,s5,h5,eH5⟩:∃ H5,AE H3 H5/\H5 p5=some (.lst [.bl (decide (j=0)),.bl (decide (j=1)),.bl (decide (j=2)),.bl (decide (j=3)),.bl (decide (j=4)),.bl (decide (j=5)),.bl (decide (j=6)),.bl (decide (j=7)),.bl (decide (j=8)),.bl (decide (j=9))])/\upd (upd H3 p4 (.lst [.bl (decide (j=7)),.bl (decide (j=8)),.bl (decide (j=9))])) p5 (.lst ([.bl (decide (j=0)),.bl (decide (j=1)),.bl (decide (j=2)),.bl (decide (j=3)),.bl (decide (j=4)),.bl (decide (j=5)),.bl (decide (j=6))] ++ [.bl (decide (j=7)),.bl (decide (j=8)),.bl (decide (j=9))]))=H5:=⟨_,(Ak hp4).trans (Ak hp5),Ah,rfl⟩
  rw [eH5];have s5:=s3.trans s5;clear eH5;refine ⟨_,rfl,_,rfl,_,_,_,_,_,rfl,rfl,ty s5,ki.k10,_,rfl,_,_,_,_,_,rfl,rfl,ty s5,ki.k11,_,rfl,_,_,_,_,_,rfl,rfl,ty s5,ki.k12,by show 3<=sizeLine; decide,fun p6 hp6=>?_⟩;refine ⟨p5,p6,_,_,rfl,rfl,(Ak hp6 _ _ h5),Ah,(by show 10+3<=sizeLine; decide),fun p7 hp7=>?_⟩;obtain ⟨H7,s7,h7,eH7⟩:∃ H7,AE H5 H7/\H7 p7=some (.lst [.bl (decide (j=0)),.bl (decide (j=1)),.bl (decide (j=2)),.bl (decide (j=3)),.bl (decide (j=4)),.bl (decide (j=5)),.bl (decide (j=6)),.bl (decide (j=7)),.bl (decide (j=8)),.bl (decide (j=9)),.bl (decide (j=10)),.bl (decide (j=11)),.bl (decide (j=12))])/\upd (upd H5 p6 (.lst [.bl (decide (j=10)),.bl (decide (j=11)),.bl (decide (j=12))])) p7 (.lst ([.bl (decide (j=0)),.bl (decide (j=1)),.bl (decide (j=2)),.bl (decide (j=3)),.bl (decide (j=4)),.bl (decide (j=5)),.bl (decide (j=6)),.bl (decide (j=7)),.bl (decide (j=8)),.bl (decide (j=9))] ++ [.bl (decide (j=10)),.bl (decide (j=11)),.bl (decide (j=12))]))=H7:=⟨_,(Ak hp6).trans (Ak hp7),Ah,rfl⟩
  rw [eH7];have s7:=s5.trans s7;clear eH7;have h7:H7 p7=some (.lst ((GP j).map V.bl)):=h7;refine ⟨_,rfl,_,_,_,_,_,rfl,rfl,ty s7,ki.kv,true,rfl,Bb ?_⟩;refine ⟨_,rfl,.inl ⟨rfl,_,SqL.of h7⟩,p7,GP j,rfl,rfl,h7,?_⟩;rw [QL ki.jl];refine ⟨rfl,_,rfl,PH rfl ?_⟩;refine ⟨by show 7<=sizeLine; decide,fun p8 hp8=>?_⟩;refine ⟨_,rfl,by show 6<=sizeLine; decide,fun p9 hp9=>?_⟩;refine ⟨p8,p9,_,_,rfl,rfl,(Ak hp9 _ _ Ah),Ah,(by show 7+6<=sizeLine; decide),fun p10 hp10=>?_⟩;have s10:AE H7 _:=((Ak hp8).trans (Ak hp9)).trans (Ak (o:=.lst (Mm.map V.str)) hp10);refine ⟨_,rfl,_,rfl,.inl ⟨rfl,_,SqL.of (s10 _ _ h7)⟩,p7,GP j,j,rfl,rfl,s10 _ _ h7,by show 13 < 1000; decide,by rw [NX ki.jl,decide_eq_true rfl],fun m hm=>by rw [NX (Nat.lt_trans hm ki.jl),decide_eq_false (by lia)],?_⟩;exact ⟨p10,_,(j:Int),.str (Pj j),rfl,rfl,SqL.of Ah,Ai (word_at ki.jl),k _ (s7.trans s10)⟩
end
end J
namespace J
open PySem L2
seal L2.PA L2.PE L2.PS L2.PSs L2.PT L2.PW
theorem OS (K:PySem.W.Frag):PySem.W.kitOne K (.type "str") (.type "str")=some true:=by kernel_rfl
structure Rn where
 a:Nat
 c:Nat
def GQ (a:Nat):List Nat:=if a=1 then [] else Tn.dg a
def wd (r:Rn):List Nat:=GQ r.a ++ [r.c]
def sg:List Nat:=[46,65,66,67,68,69,70,71,47]
def Ml (H:Hp) (t:Addr) (r:Rn):Prop:=H t=some (.tup [.int r.a,.str ⟨#[r.c]⟩])
structure RnOk (r:Rn):Prop where
 a1:1<=r.a
 a2:r.a < 10 ^ 13
 c:r.c ∈ sg
def txt (rs:List Rn):List Nat:=(rs.map wd).flatten
abbrev runS:Str:=Str.ofString ".ABCDEFG/"
theorem sg_in:∀ c ∈ sg,(!(Builtin.Str.occurrences runS ⟨#[c]⟩ 0 runS.length 1).isEmpty)=true:=by decide +kernel
theorem sg_dig:∀ c ∈ sg,Nu.dig c=false:=by decide
theorem str_e {z:Str} (h:z.cps.toList=[]):z=Str.ofString "" := Nu.ext (by rw [h]; decide +kernel)
theorem txt_at {rs:List Rn} {k:Nat} {r:Rn} (h:rs[k]?=some r) {p:Nat} (hp:p < (wd r).length):(txt rs)[(txt (rs.take k)).length+p]?=(wd r)[p]?:=by
 have hk:=(List.getElem?_eq_some_iff.mp h).1;have e:txt rs=txt (rs.take k) ++ (wd r ++ txt (rs.drop (k+1))):=by
  have:rs=rs.take k ++ (r :: rs.drop (k+1)):=by
   rw [<-(List.getElem?_eq_some_iff.mp h).2,<-List.drop_eq_getElem_cons hk,List.take_append_drop]
  unfold txt
  conv=>lhs; rw [this]
  rw [List.map_append,List.flatten_append,List.map_cons,List.flatten_cons]
 rw [e,List.getElem?_append_right (by omega),Nat.add_sub_cancel_left,List.getElem?_append_left hp]
theorem Nm {rs:List Rn} {k:Nat} {r:Rn} (h:rs[k]?=some r):(txt (rs.take (k+1))).length=(txt (rs.take k)).length+(wd r).length:=by
 unfold txt;rw [List.take_add_one,h,Option.toList_some,List.map_append,List.flatten_append,List.length_append];simp
section
variable {P:Program} {w:World} {K:PySem.W.Frag} {mg:Str->Option Value} {base:Heap} {a:Ad}
def RG:Sp:=fun vs H Q _=>∃ (z:Str) (n:Nat),vs=[.str z]/\z.cps.toList=GQ n/\1<=n/\n < 10 ^ 13/\Q (.int n) H
theorem ok_amt {f:Addr} {fd:FuncData} (F:Fun K "read_amount" "read_amount" Cn f fd) (T:Top K mg a):AI P w K mg base CX0 1 f fd CZ RG:=by
 refine F.ok JA (fun vs H Q E h=>?_) (fun cdv A outer s H vs Q E hr h=>?_)
 ·obtain ⟨z,n,rfl,_⟩:=h;rfl
 ·obtain ⟨z,n,rfl,hz,n1,n2,k⟩:=h;refine ⟨_,(Ab (AH (Au De (pv 0) Cv (Ay _)) (Af (Ao Ag)) Aw) (Ab (AH (PW.pt (Ej (Au Fl (Av FN rfl T.b_len PySem.boot_len (Aa (pv 0) Ac)) (Cw rfl T.k_MOST_AMOUNT_FIGURES) (Ay _)) (Ej (Au De (Ax MW (pv 0) Ag (fun _ _=>rfl)) Cv (Ay _)) (Dx (Au De (pv 0) Cv (Ay _)))))) (Af AS) Aw) (Af (Ao (Fh GI rfl T.b_int PyProof.Rows.boot_int (Aa (pv 0) Ac)))))),?_⟩
  try dsimp only [cxK]
  refine ⟨_,rfl,rfl,_,rfl,?_⟩;by_cases e1:n=1
  ·subst e1;rw [show z=Str.ofString "" from str_e hz,decide_eq_true rfl];exact Cg k
  ·have hz':z.cps.toList=Tn.dg n:=by rw [hz]; exact if_neg e1
   obtain ⟨c,r,ec,nc,_⟩:=Tn.Gu n n1;have len:z.length=(Tn.dg n).length:=by rw [Nu.len,hz']
   have l13:=Tn.FL 12 n n2;have l1:1<=z.length:=by rw [len,ec]; exact Nat.succ_le_succ (Nat.zero_le _)
   rw [decide_eq_false (by
    intro q;injection q with q
    rw [q] at hz';rw [ec] at hz';exact absurd hz' (by rw [show (Str.ofString "").cps.toList=[] by decide +kernel]; intro z; cases z))]
   refine Bb ⟨_,rfl,z,rfl,GG (by omega),_,_,rfl,rfl,_,rfl,?_⟩;rw [decide_eq_false (by omega:¬ (13:Int) < (z.length:Int))];refine Bb ⟨_,rfl,z,0,c,rfl,rfl,GG (by omega),Ai (j:=0) (by rw [hz',ec]; rfl),rfl,_,rfl,?_⟩;rw [decide_eq_false (by
    intro q;injection q with q
    have:[c]=[48]:=by
     have:=congrArg (fun s:Str=>s.cps.toList) q;rw [show (Str.ofString "0").cps.toList=[48] by decide +kernel] at this;exact this
    injection this with this
    exact nc this)]
   refine Bb ⟨_,rfl,rfl,_,rfl,?_⟩;rw [decide_eq_false (by
    intro q;injection q with q
    rw [q,show (Str.ofString "1").cps.toList=Tn.dg 1 by decide +kernel] at hz';exact e1 (Tn.dg_inj hz'.symm))]
   exact Bb ⟨_,rfl,z,n,rfl,Nu.SQ (by rw [hz']; exact Tn.dg_due n1 n2),by omega,k⟩
def Ox:Sp:=fun vs H Q _=>∃ (x:Str) (rs:List Rn),vs=[.str x]/\x.cps.toList=txt rs/\(∀ r ∈ rs,RnOk r)/\rs.length<=1000/\∀ (L:Addr) (ts:List Addr) (H':Hp),H L=none->AE H H'->H' L=some (.lst (ts.map V.ref))->Paired (Ml H') ts rs->Q (.ref L) H'
theorem ok_read {f:Addr} {fd:FuncData} (F:Fun K "read_runs" "read_runs" Dl f fd) (T:Top K mg a) (bS:Cal P w K mg base CX0 1 "read_amount" CZ RG):AI P w K mg base CX0 2 f fd DZ Ox:=by
 refine F.ok CG (fun vs H Q E h=>?_) (fun cdv A outer s H vs Q E hr h=>?_)
 ·obtain ⟨x,rs,rfl,_⟩:=h;rfl
 ·obtain ⟨x,rs,rfl,hx,oks,lrs,k⟩:=h;refine ⟨_,(Ab (AH (Ce (BJ (Av AU rfl T.b_isinstance PyProof.Rows.boot_isinstance (Aa (pv 0) (Aa (ES (v:=.ty "str") rfl T.b_str PyProof.Rows.boot_str rfl) Ac))))) (Af AS) Aw) (Ab (Aj (i:=1) CG.nd rfl (Or.inl rfl) (CW Ac)) (Ab (Aj (i:=2) CG.nd rfl (Or.inl rfl) Cv) (Ab (Dy PassesOwn.never rfl (RO (pv 0)) (AY (i:=3) CG.nd rfl (Or.inl rfl)) (Af (AH (Au Iv (pv 3) (Gr rfl T.k_FIGURES) rfl) (Af (Aj (i:=2) CG.nd rfl (Or.inl rfl) (AA GO (pv 2) (pv 3)))) (Af (AH (Au Iv (pv 3) (Gr rfl T.k_RUN_SIGNS) rfl) (Ab (Dz (Fi PySem.F.plainAttrs_list PySem.F.slot_list_append PySem.F.type_list_append Ex (pv 1) (DA (Aa (Ap bS (rm hr) rfl Am (Aa (pv 2) Ac)) (Aa (pv 3) Ac)) Ac))) (Af (Aj (i:=2) CG.nd rfl (Or.inl rfl) Cv))) (Af AS)))))) (Ab (AH (Au IN (pv 2) Cv (Ay _)) (Af AS) Aw) (Af (Ao (pv 1)))))))),?_⟩
  try dsimp only [cxK]
  refine ⟨_,rfl,_,_,_,.type "str",true,rfl,rfl,.of (.str x),OS K,true,rfl,Bb ⟨(by show 0<=sizeLine; decide),fun L hL=>?_⟩⟩;have s1:=Ak (o:=.lst []) hL;have hL1:upd H L (.lst []) L=some (.lst []):=Ah;generalize upd H L (.lst [])=H1 at s1 hL1 ⊢;refine ⟨_,rfl,x,rfl,?_⟩;refine for_str (x:=x) (fun i σ H2=>∃ (kk p:Nat) (z:Str) (ts:List Addr) (u3:Option V),σ=[some (.str x),some (.ref L),some (.str z),u3]/\i=(txt (rs.take kk)).length+p/\(∀ r,rs[kk]?=some r->p<=(GQ r.a).length/\z.cps.toList=(GQ r.a).take p)/\(rs[kk]?=none->p=0/\z.cps.toList=[])/\kk<=rs.length/\AE H H2/\H2 L=some (.lst (ts.map V.ref))/\Paired (Ml H2) ts (rs.take kk)) ⟨0,0,Str.ofString "",[],none,rfl,rfl,fun r _=>⟨Nat.zero_le _,by rw [List.take_zero]; decide +kernel⟩,fun _=>⟨rfl,by decide +kernel⟩,Nat.zero_le _,s1,hL1,.nil⟩ ?_ ?_
  ·rintro i c σ H2 ec ⟨kk,p,z,ts,u3,rfl,rfl,hz,hz0,lk,sm,hL2,pr⟩;have ec':(txt rs)[(txt (rs.take kk)).length+p]?=some c:=by
    rw [<-hx,Array.getElem?_toList];exact ec
   have lts:=Paired.length pr;rw [List.length_take] at lts;cases er:rs[kk]? with
   | none =>
    obtain ⟨rfl,_⟩:=hz0 er;have hk:rs.length<=kk:=List.getElem?_eq_none_iff.mp er;rw [List.take_of_length_le hk,List.getElem?_eq_none (by omega)] at ec';cases ec'
   | some r =>
    obtain ⟨pl,zt⟩:=hz r er;have rok:=oks r (List.mem_of_getElem? er);have hk:kk < rs.length:=(List.getElem?_eq_some_iff.mp er).1;have f13:(GQ r.a).length<=13:=by
     unfold GQ;split
     ·exact Nat.zero_le _
     ·exact Tn.FL 12 r.a rok.a2
    have wl:(wd r).length=(GQ r.a).length+1:=by unfold wd; rw [List.length_append]; rfl
    rw [txt_at er (by omega)] at ec';have zl:z.length=p:=by rw [Nu.len,zt,List.length_take]; omega
    refine ⟨_,rfl,_,_,rfl,rfl,_,rfl,?_⟩;rw [Nu.LV c];by_cases hp:p < (GQ r.a).length
    ·have ec2:(GQ r.a)[p]?=some c:=by
      unfold wd at ec';rw [List.getElem?_append_left hp] at ec';exact ec'
     have hd:Nu.dig c=true:=by
      have:=List.mem_of_getElem? ec2;unfold GQ at this;split at this
      ·simp at this
      ·exact List.all_eq_true.mp (Tn.IJ r.a) c this
     rw [hd];refine Cg ⟨_,rfl,_,rfl,_,_,rfl,rfl,by rw [zl]; exact GG (by show p+1<=10000000; omega),?_⟩;refine ⟨kk,p+1,_,ts,_,rfl,by omega,fun r' er'=>?_,fun en=>(by rw [er] at en; cases en),lk,sm,hL2,pr⟩;rw [er] at er';cases er';refine ⟨hp,?_⟩;rw [Tx.Ba,zt,List.take_add_one,ec2];rfl
    ·have hp':p=(GQ r.a).length:=by omega
     subst hp';have ec2:c=r.c:=by
      unfold wd at ec';rw [List.getElem?_append_right (Nat.le_refl _),Nat.sub_self] at ec';exact (Option.some.inj ec').symm
     subst ec2;rw [sg_dig _ rok.c];refine Bb ⟨_,rfl,_,_,rfl,rfl,_,rfl,?_⟩;rw [sg_in _ rok.c];refine Cg ⟨_,rfl,.inl ⟨rfl,_,SqL.of hL2⟩,_,rfl,z,r.a,rfl,by rw [zt,List.take_length],rok.a1,rok.a2,_,rfl,(by show 2<=sizeLine; decide),fun t ht=>?_⟩;have s3:=Ak (o:=.tup [.int r.a,.str ⟨#[r.c]⟩]) ht;have ht3:Ml (upd H2 t (.tup [.int r.a,.str ⟨#[r.c]⟩])) t r:=Ah;generalize upd H2 t (.tup [.int r.a,.str ⟨#[r.c]⟩])=H3 at s3 ht3 ⊢;have hL3:=s3 _ _ hL2;refine ⟨L,_,_,rfl,rfl,hL3,by rw [List.length_map]; exact Ed (by omega),?_⟩;have tp:∀ {b:Addr} {ys:List V},H3 b=some (.tup ys)->upd H3 L (.lst (ts.map V.ref ++ [.ref t])) b=some (.tup ys):=fun {b ys} e=>by rw [Az (AR e hL3 (by intro z; cases z))]; exact e
     refine ⟨kk+1,0,Str.ofString "",ts ++ [t],_,rfl,by rw [Nm er]; omega,fun r' _=>⟨Nat.zero_le _,by rw [List.take_zero]; decide +kernel⟩,fun _=>⟨rfl,by decide +kernel⟩,by omega,fun b o e=>?_,by rw [Ah,List.map_append]; rfl,?_⟩
     ·rw [Az (As e hL)];exact s3 _ _ (sm _ _ e)
     ·rw [List.take_add_one,er];exact Paired.snoc (PairedM.imp (fun b c z=>tp (s3 _ _ z)) pr) (show Ml _ t r from tp ht3)
  ·rintro σ H2 ⟨kk,p,z,ts,u3,rfl,ei,hz,hz0,lk,sm,hL2,pr⟩;have ei:(txt rs).length=(txt (rs.take kk)).length+p:=by
    rw [<-ei,<-hx,Array.length_toList]
   have ek:kk=rs.length:=by
    refine Nat.le_antisymm lk (Nat.le_of_not_lt fun h=>?_);obtain ⟨r,er⟩:∃ r,rs[kk]?=some r:=⟨_,List.getElem?_eq_getElem h⟩
    obtain ⟨pl,_⟩:=hz r er;have h1:=Nm er;have h2:(txt (rs.take (kk+1))).length<=(txt rs).length:=by
     have:txt rs=txt (rs.take (kk+1)) ++ txt (rs.drop (kk+1)):=by
      unfold txt;rw [<-List.flatten_append,<-List.map_append,List.take_append_drop]
     rw [this,List.length_append];omega
    have wl:(wd r).length=(GQ r.a).length+1:=by unfold wd; rw [List.length_append]; rfl
    omega
   subst ek;obtain ⟨_,ze⟩:=hz0 (List.getElem?_eq_none (Nat.le_refl _));rw [List.take_length] at pr;obtain rfl:=str_e ze;exact ⟨_,rfl,rfl,_,rfl,PH rfl ⟨_,rfl,k L ts H2 hL sm hL2 pr⟩⟩
end
def EK (n:Int):List Nat:=if n < 0 then 45 :: Tn.dg n.natAbs else Tn.dg n.toNat
theorem GY (n:Int):(Str.ofString (toString n)).cps.toList=EK n:=by
 unfold EK
 match n with
 | .ofNat m=>rw [if_neg (by show ¬ (m:Int) < 0; lia)]; exact Tn.text m
 | .negSucc m =>
  rw [if_pos (Int.negSucc_lt_zero m)];have e:toString (Int.negSucc m)="-" ++ toString ((m+1:Nat):Int):=rfl;have e2:(Str.ofString ("-" ++ toString ((m+1:Nat):Int))).cps.toList=45 :: (Str.ofString (toString ((m+1:Nat):Int))).cps.toList:=by
   rw [PyProof.Rows.signs_ofString,PyProof.Rows.signs_ofString,String.toList_append,List.map_append];rfl
  rw [e,e2,Tn.text];rfl
theorem Qf:EK 0=[48]:=by decide +kernel
theorem Pw {n:Int} (h:n≠0):Nu.fig (EK n)=Tn.dg n.natAbs/\(Nu.neg (EK n)=true ↔ n < 0):=by
 obtain ⟨c,r,ec,_,c45⟩:=Tn.Gu n.natAbs (by lia);unfold EK;split
 ·rename_i z;exact ⟨rfl,fun _=>z,fun _=>rfl⟩
 ·rename_i z;have e:n.toNat=n.natAbs:=by lia
  rw [e];have nn:Nu.neg (Tn.dg n.natAbs)=false:=by
   rw [ec];cases q:Nu.neg (c :: r) with
   | false=>rfl
   | true =>
    have:=(Nu.MJ _).mp q;simp at this;exact absurd this c45
  exact ⟨Nu.FK nn,fun q=>(by rw [nn] at q; cases q),fun q=>absurd q z⟩
theorem num_due {n:Int} (h:n≠0) (h2:n.natAbs < 10 ^ 13):Nu.due (EK n)=some n:=by
 obtain ⟨f,g⟩:=Pw h;obtain ⟨c,r,ec,c48,c45⟩:=Tn.Gu n.natAbs (by lia);have l13:=Tn.FL 12 n.natAbs h2;unfold Nu.due;rw [f,if_neg,if_pos (Tn.IJ _),Tn.Nd]
 ·by_cases z:n < 0
  ·rw [if_pos (g.mpr z)];congr 1;lia
  ·rw [if_neg fun q=>z (g.mp q)];congr 1;lia
 ·intro q;rcases q with q | q | q
  ·rw [ec] at q;cases q
  ·lia
  ·rw [ec] at q;exact c48 (Option.some.inj q.1)
theorem GZ {n:Int} (h2:n.natAbs < 10 ^ 13):(EK n).length<=14:=by
 have l13:=Tn.FL 12 n.natAbs h2;unfold EK;split
 ·rw [List.length_cons];lia
 ·rename_i z;rw [show n.toNat=n.natAbs by lia];lia
theorem Sn {n:Int} {c:Nat} (h:c ∈ EK n):c=45\/Nu.dig c=true:=by
 unfold EK at h;split at h
 ·rcases List.mem_cons.mp h with z | z
  ·exact .inl z
  ·exact .inr (List.all_eq_true.mp (Tn.IJ _) c z)
 ·exact .inr (List.all_eq_true.mp (Tn.IJ _) c h)
section
variable {P:Program} {w:World} {K:PySem.W.Frag} {mg:Str->Option Value} {base:Heap} {a:Ad}
inductive SpMin (vs:List V) (H:Hp) (Q:VK):Prop
 | mk (x:Str) (_:vs=[.str x]) (_:x.length<=1000) (_:∀ y:Str,y.cps.toList=Nu.fig x.cps.toList->Q (.str y) H):SpMin vs H Q
def Rz:Sp:=fun vs H Q _=>SpMin vs H Q
theorem ok_min {f:Addr} {fd:FuncData} (F:Fun K "without_minus" "without_minus" BK f fd) (T:Top K mg a):AI P w K mg base CX0 1 f fd Ck Rz:=by
 refine F.ok Io (fun vs H Q E h=>?_) (fun cdv A outer s H vs Q E hr h=>?_)
 ·obtain ⟨x,rfl,_⟩:=h;rfl
 ·obtain ⟨x,rfl,hx,k⟩:=h;refine ⟨_,(Ab (AH (BJ (Fi PySem.F.plainAttrs_str PySem.F.slot_str_startswith PySem.F.type_str_startswith LB (pv 0) (CA Ac))) (Af (Ao (NI sl_str (pv 0) (MB Ag) po_none))) Aw) (Af (Ao (pv 0)))),?_⟩
  try dsimp only [cxK]
  refine ⟨_,rfl,rfl,_,_,rfl,rfl,_,rfl,?_⟩;show if Txt.startswith x (Str.ofString "-")=true then _ else _;rw [Nu.starts];refine Jg (fun hn=>?_) (fun hn=>?_)
  ·refine ⟨_,rfl,_,rfl,x,rfl,Nat.le_trans hx (by decide),?_⟩;exact k _ (by rw [Nu.cut1',(Nu.Lb hn).1])
  ·exact ⟨_,rfl,k x (Nu.FK (by simpa using hn)).symm⟩
inductive SpFig (vs:List V) (H:Hp) (Q:VK):Prop
 | mk (x:Str) (m:Nat) (_:vs=[.str x]) (_:x.cps.toList=Tn.dg m) (_:1<=m) (_:m < 10 ^ 13) (_:∀ H',AE H H'->Q (.bl true) H'):SpFig vs H Q
def RE:Sp:=fun vs H Q _=>SpFig vs H Q
theorem ok_fig {f:Addr} {fd:FuncData} (F:Fun K "are_figures" "are_figures" BR f fd) (T:Top K mg a):AI P w K mg base CX0 1 f fd Da RE:=by
 refine F.ok JC (fun vs H Q E h=>?_) (fun cdv A outer s H vs Q E hr h=>?_)
 ·obtain ⟨x,m,rfl,_⟩:=h;rfl
 ·obtain ⟨x,m,rfl,hx,m1,m2,k⟩:=h;obtain ⟨c,r,ec,c48,c45⟩:=Tn.Gu m m1;have l13:=Tn.FL 12 m m2;have hl:=Nu.len x;rw [hx] at hl;have l1:1<=(Tn.dg m).length:=by rw [ec]; exact Nat.succ_le_succ (Nat.zero_le _)
  refine ⟨_,(Ab (AH (PW.pt (Ej (Au GX (Av FN rfl T.b_len PySem.boot_len (Aa (pv 0) Ac)) Ag (Ay _)) (Ej (Au Fl (Av FN rfl T.b_len PySem.boot_len (Aa (pv 0) Ac)) (Cw rfl T.k_MOST_FIGURES) (Ay _)) (Dx (Au De (Ax MW (pv 0) Ag (fun _ _=>rfl)) Cv (Ay _)))))) (Af (Ao FY)) Aw) (Af (Ao (Av (Tg rfl) rfl T.b_all PyProof.Rows.boot_all (Aa (Js rfl (DX.of (So:=Ae BR) (No:=GF) (N:=["sign"]) (k:=1) (cs:=[]) rfl rfl (by decide +kernel)) (RO (pv 0)) (fun _ _ _=>(EI (i:=0) (by decide +kernel) rfl rfl)) (fun _ _ _=>Gp) (fun _ _ _=>(CQ Iv (pv 0) (Gr rfl T.k_FIGURES) rfl))) Ac))))),?_⟩
  try dsimp only [cxK]
  refine ⟨_,rfl,x,rfl,GG (by lia),_,_,rfl,rfl,_,rfl,?_⟩;rw [decide_eq_false (by lia:¬ (x.length:Int) < 1)];refine Bb ⟨_,rfl,x,rfl,GG (by lia),_,_,rfl,rfl,_,rfl,?_⟩;rw [decide_eq_false (by lia:¬ (30:Int) < (x.length:Int))];refine Bb ⟨_,rfl,x,0,c,rfl,rfl,GG (by lia),Ai (j:=0) (by rw [hx,ec]; rfl),rfl,_,rfl,?_⟩;rw [decide_eq_false (by
   intro q;injection q with q
   have:[c]=[48]:=by
    have:=congrArg (fun s:Str=>s.cps.toList) q;rw [show (Str.ofString "0").cps.toList=[48] by decide +kernel] at this;exact this
   injection this with this
   exact c48 this)]
  refine Bb ⟨_,rfl,x,rfl,?_⟩;refine blk_str (fun i acc H2=>H2=H/\acc=(List.replicate i true).map V.bl) ⟨rfl,rfl⟩ ?_ ?_
  ·rintro i ch acc H2 hch ⟨rfl,rfl⟩;have hi:i < (Tn.dg m).length:=by rw [hx] at hch; exact (List.getElem?_eq_some_iff.mp hch).1
   refine ⟨⟨[some (.str ⟨#[ch]⟩)],rfl,rfl⟩,by rw [List.length_map,List.length_replicate]; exact Ed (by lia),Qi ⟨_,rfl,_,_,rfl,rfl,rfl,?_⟩⟩;rw [Nu.LV,List.all_eq_true.mp (Tn.IJ m) ch (by rw [<-hx]; exact List.mem_of_getElem? hch),List.replicate_succ',List.map_append];rfl
  ·rintro acc H2 ⟨rfl,rfl⟩ q nq;refine ⟨q,_,rfl,SqL.of Ah,?_⟩;rw [List.all_replicate,show (if x.cps.toList.length=0 then true else id true)=true by split<;>rfl];exact k _ (Ak nq)
inductive SpRW (vs:List V) (H:Hp) (Q:VK):Prop
 | mk (x:Str) (n:Int) (_:vs=[.str x]) (_:x.cps.toList=EK n) (_:n.natAbs < 10 ^ 13) (_:∀ H',AE H H'->Q (.int n) H'):SpRW vs H Q
def spRW:Sp:=fun vs H Q _=>SpRW vs H Q
theorem ok_rw {f:Addr} {fd:FuncData} (F:Fun K "read_whole" "read_whole" CH f fd) (T:Top K mg a) (bB:Cal P w K mg base CX0 1 "without_minus" Ck Rz) (bT:Cal P w K mg base CX0 1 "are_figures" Da RE):AI P w K mg base CX0 2 f fd DB spRW:=by
 refine F.ok Ln (fun vs H Q E h=>?_) (fun cdv A outer s H vs Q E hr h=>?_)
 ·obtain ⟨x,n,rfl,_⟩:=h;rfl
 ·obtain ⟨x,n,rfl,hx,n2,k⟩:=h;have hl:=Nu.len x;rw [hx] at hl;have l14:=GZ n2;refine ⟨_,(Ab (AH (Ce (BJ (Av AU rfl T.b_isinstance PyProof.Rows.boot_isinstance (Aa (pv 0) (Aa (ES (v:=.ty "str") rfl T.b_str PyProof.Rows.boot_str rfl) Ac))))) (Af AS) Aw) (Ab (AH (Au De (pv 0) Cv (Ay _)) (Af (Ao Ag)) Aw) (Ab (AH (Ce (BJ (Ap bT (rm hr) rfl Am (Aa (Ap bB (rm hr) rfl Am (Aa (pv 0) Ac)) Ac)))) (Af AS) Aw) (Af (Ao (Fh GI rfl T.b_int PyProof.Rows.boot_int (Aa (pv 0) Ac))))))),?_⟩
  try dsimp only [cxK]
  refine ⟨_,rfl,_,_,_,.type "str",true,rfl,rfl,.of (.str x),OS K,true,rfl,Bb ⟨_,rfl,rfl,_,rfl,?_⟩⟩;by_cases z:n=0
  ·subst z;rw [decide_eq_true (congrArg V.str (Nu.ext (by rw [hx,Qf]; decide +kernel)))];exact Cg (k H (AE.refl H))
  ·obtain ⟨f1,f2⟩:=Pw z;obtain ⟨c,r,ec,c48,c45⟩:=Tn.Gu n.natAbs (by lia);rw [decide_eq_false (by
    intro q;injection q with q
    have:EK n=[48]:=by rw [<-hx,q]; decide +kernel
    rw [this] at f1;have f1:[48]=Tn.dg n.natAbs:=f1;rw [ec] at f1;injection f1 with f1
    exact c48 f1.symm)]
   refine Bb ⟨_,rfl,x,rfl,by lia,fun y hy=>⟨y,n.natAbs,rfl,by rw [hy,hx,f1],by lia,n2,fun H' s1=>⟨true,rfl,Bb ⟨_,rfl,x,n,rfl,Nu.SQ (by rw [hx]; exact num_due z n2),by lia,k H' s1⟩⟩⟩⟩
inductive SpRP (vs:List V) (H:Hp) (Q:VK):Prop
 | mk (x:Str) (n:Int) (_:vs=[.str x]) (_:x.cps.toList=EK n) (_:n.natAbs < 10 ^ 13) (_:∀ H',AE H H'->Q (.int n) H'):SpRP vs H Q
def spRP:Sp:=fun vs H Q _=>SpRP vs H Q
theorem ok_rp {f:Addr} {fd:FuncData} (F:Fun K "read_place" "read_place" CI f fd) (T:Top K mg a) (cG:Cal P w K mg base CX0 2 "read_whole" DB spRW):AI P w K mg base CX0 3 f fd DC spRP:=by
 refine F.ok GC (fun vs H Q E h=>?_) (fun cdv A outer s H vs Q E hr h=>?_)
 ·obtain ⟨x,n,rfl,_⟩:=h;rfl
 ·obtain ⟨x,n,rfl,hx,n2,k⟩:=h;refine ⟨_,(Ab (ps_try (S:=fun _=>True) rfl rfl rfl rfl rfl T.mx_NoNumber T.ec_NoNumber (fun xe pn E1 pass=>(Af (Aj (i:=1) GC.nd rfl (Or.inl rfl) (Ap cG (rm hr) rfl Am (Aa (pv 0) Ac))))) (fun ea=>(Af AS))) (Ab (AH (Au Fl (Av Th rfl T.b_abs PyProof.Rows.boot_abs (Aa (pv 1) Ac)) (Cw rfl T.k_MOST_PLACE) (Ay _)) (Af AS) Aw) (Af (Ao (pv 1))))),?_⟩
  try dsimp only [cxK]
  refine ⟨_,rfl,x,n,rfl,hx,n2,fun H' s1=>?_⟩;refine ⟨_,rfl,_,rfl,_,_,rfl,rfl,_,rfl,?_⟩;rw [decide_eq_false (by lia)];exact Bb ⟨_,rfl,k H' s1⟩
end
end J
namespace J
open PySem L2
structure WS where
 r:Int
 d:Int
 φ:Int->Int->Nat
 cs:List (List Int)
 far:Prop
def JE (r d:Int) (q:Nat×Nat):List (List Int):=(List.range q.1).map fun k=>[d,r+((k:Nat):Int),((q.2:Nat):Int)]
def stp (x0:Int) (s:WS) (q:Nat×Nat):WS :=
 if q.2=8 then ⟨x0,s.d+q.1,s.φ,s.cs,s.far⟩
 else if q.2=0 then ⟨s.r+q.1,s.d,s.φ,s.cs,s.far⟩
 else ⟨s.r+q.1,s.d,Ih ⟨s.r,s.d,q.1,1⟩ q.2 s.φ,s.cs ++ JE s.r s.d q,s.far\/¬ DW s.r s.d q.1 1 (2 ^ 40)⟩
def wk (x0 y0:Int) (l:List (Nat×Nat)):WS:=l.foldl (stp x0) ⟨x0,y0,fun _ _=>0,[],False⟩
theorem Mn (x0 y0:Int) {l:List (Nat×Nat)} {j:Nat} {q:Nat×Nat} (h:l[j]?=some q):wk x0 y0 (l.take (j+1))=stp x0 (wk x0 y0 (l.take j)) q:=by
 unfold wk;rw [List.take_add_one,h,List.foldl_append];rfl
structure QOk (q:Nat×Nat):Prop where
 a1:1<=q.1
 a2:q.1 < 10 ^ 13
 s8:q.2<=8
 a9:q.2≠0->q.2≠8->q.1<=9
def InG (u v:Int):Prop:=(-(2 ^ 40)<=u/\u < 2 ^ 40)/\(-(2 ^ 40)<=v/\v < 2 ^ 40)
structure WOk (s:WS) (n:Nat):Prop where
 nd:s.cs.Nodup
 mem:∀ row,row ∈ s.cs ↔ ∃ u v:Int,s.φ u v≠0/\row=[v,u,(s.φ u v:Int)]
 be:∀ u v,s.φ u v≠0->v < s.d\/(v=s.d/\u < s.r)
 le:s.cs.length<=9 * n
 far:s.far ↔ ∃ u v,s.φ u v≠0/\¬ InG u v
theorem JR {r d:Int} {q:Nat×Nat} {row:List Int}:row ∈ JE r d q ↔ ∃ u:Int,(r<=u/\u < r+q.1)/\row=[d,u,(q.2:Int)]:=by
 unfold JE;rw [List.mem_map];constructor
 ·rintro ⟨k,hk,rfl⟩;have:=List.mem_range.mp hk;exact ⟨r+k,⟨by lia,by lia⟩,rfl⟩
 ·rintro ⟨u,⟨h1,h2⟩,rfl⟩;exact ⟨(u - r).toNat,List.mem_range.mpr (by lia),by rw [show r+(((u - r).toNat:Nat):Int)=u by lia]⟩
theorem OF (r d:Int) (q:Nat×Nat):(JE r d q).Nodup:=by
 unfold JE;rw [List.nodup_iff_pairwise_ne,List.pairwise_map];refine List.Pairwise.imp (fun {x y} h e=>h ?_) (List.nodup_iff_pairwise_ne.mp (List.nodup_range (n:=q.1)));injection e with _ e
 injection e with e _
 lia
theorem WOk.step {s:WS} {n:Nat} (h:WOk s n) {q:Nat×Nat} (k:QOk q) (x0:Int):WOk (stp x0 s q) (n+1):=by
 have a1:=k.a1;unfold stp;by_cases z8:q.2=8
 ·rw [if_pos z8];refine ⟨h.nd,h.mem,fun u v e=>?_,by have:=h.le; show s.cs.length<=_; lia,h.far⟩;have:=h.be u v e;show v < s.d+q.1\/_;exact .inl (by lia)
 rw [if_neg z8];by_cases z0:q.2=0
 ·rw [if_pos z0];refine ⟨h.nd,h.mem,fun u v e=>?_,by have:=h.le; show s.cs.length<=_; lia,h.far⟩;have:=h.be u v e;show v < s.d\/(v=s.d/\u < s.r+q.1)
  lia
 rw [if_neg z0];have a9:=k.a9 z0 z8;have new:∀ u v,InB s.r s.d q.1 1 u v ↔ ((s.r<=u/\u < s.r+q.1)/\v=s.d):=fun u v=>by unfold InB; lia
 have old:∀ u v,s.φ u v≠0->¬ InB s.r s.d q.1 1 u v:=fun u v e z=>by
  have b:=h.be u v e;have c:=(new u v).mp z;lia
 have val:∀ u v,Ih ⟨s.r,s.d,q.1,1⟩ q.2 s.φ u v=if InB s.r s.d q.1 1 u v then q.2 else s.φ u v:=fun u v=>rfl;have liv:∀ u v,Ih ⟨s.r,s.d,q.1,1⟩ q.2 s.φ u v≠0 ↔ (InB s.r s.d q.1 1 u v\/s.φ u v≠0):=fun u v=>by
  rw [val u v];split
  ·rename_i z;exact ⟨fun _=>.inl z,fun _=>z0⟩
  ·rename_i z;exact ⟨.inr,fun y=>y.resolve_left z⟩
 refine ⟨?_,fun row=>?_,fun u v e=>?_,?_,?_⟩
 ·show (s.cs ++ JE s.r s.d q).Nodup;refine List.nodup_append.mpr ⟨h.nd,OF _ _ _,fun x hx y hy e=>?_⟩;subst e;obtain ⟨u,v,ne,rfl⟩:=(h.mem x).mp hx;obtain ⟨u',⟨h1,h2⟩,e⟩:=JR.mp hy;injection e with e1 e
  injection e with e2 _
  exact old u v ne ((new u v).mpr ⟨by lia,e1⟩)
 ·show row ∈ s.cs ++ JE s.r s.d q ↔ ∃ u v,Ih ⟨s.r,s.d,q.1,1⟩ q.2 s.φ u v≠0/\row=[v,u,(Ih ⟨s.r,s.d,q.1,1⟩ q.2 s.φ u v:Int)]
  rw [List.mem_append];constructor
  ·rintro (z | z)
   ·obtain ⟨u,v,ne,rfl⟩:=(h.mem row).mp z;have e:Ih ⟨s.r,s.d,q.1,1⟩ q.2 s.φ u v=s.φ u v:=by rw [val,if_neg (old u v ne)]
    exact ⟨u,v,by rw [e]; exact ne,by rw [e]⟩
   ·obtain ⟨u,hu,rfl⟩:=JR.mp z;have i:=(new u s.d).mpr ⟨hu,rfl⟩;have e:Ih ⟨s.r,s.d,q.1,1⟩ q.2 s.φ u s.d=q.2:=by rw [val,if_pos i]
    exact ⟨u,s.d,by rw [e]; exact z0,by rw [e]⟩
  ·rintro ⟨u,v,ne,rfl⟩;by_cases i:InB s.r s.d q.1 1 u v
   ·have e:Ih ⟨s.r,s.d,q.1,1⟩ q.2 s.φ u v=q.2:=by rw [val,if_pos i]
    obtain ⟨hu,rfl⟩:=(new u v).mp i;rw [e];exact .inr (JR.mpr ⟨u,hu,rfl⟩)
   ·have e:Ih ⟨s.r,s.d,q.1,1⟩ q.2 s.φ u v=s.φ u v:=by rw [val,if_neg i]
    rw [e] at ne ⊢;exact .inl ((h.mem _).mpr ⟨u,v,ne,rfl⟩)
 ·show v < s.d\/(v=s.d/\u < s.r+q.1)
  rcases (liv u v).mp e with i | i
  ·have:=(new u v).mp i;lia
  ·have:=h.be u v i;lia
 ·show (s.cs ++ JE s.r s.d q).length<=_;rw [List.length_append];unfold JE;rw [List.length_map,List.length_range];have:=h.le;lia
 ·show (s.far\/¬ DW s.r s.d q.1 1 (2 ^ 40)) ↔ ∃ u v,Ih ⟨s.r,s.d,q.1,1⟩ q.2 s.φ u v≠0/\¬ InG u v;constructor
  ·rintro (z | z)
   ·obtain ⟨u,v,ne,o⟩:=h.far.mp z;exact ⟨u,v,(liv u v).mpr (.inr ne),o⟩
   ·by_cases y:s.r < -(2 ^ 40)\/¬ (-(2 ^ 40)<=s.d/\s.d < 2 ^ 40)
    ·exact ⟨s.r,s.d,(liv _ _).mpr (.inl ((new _ _).mpr ⟨by lia,rfl⟩)),fun o=>by unfold InG at o; lia⟩
    ·refine ⟨s.r+q.1 - 1,s.d,(liv _ _).mpr (.inl ((new _ _).mpr ⟨by lia,rfl⟩)),fun o=>z ?_⟩;unfold InG at o;unfold DW;lia
  ·rintro ⟨u,v,e,o⟩;rcases (liv u v).mp e with i | i
   ·refine .inr fun li=>o ?_;have c:=(new u v).mp i;unfold DW at li;unfold InG;lia
   ·exact .inl (h.far.mpr ⟨u,v,i,o⟩)
theorem Nk (x0 y0:Int) {l:List (Nat×Nat)} (h:∀ q ∈ l,QOk q):∀ j,WOk (wk x0 y0 (l.take j)) j
 | 0=>⟨List.nodup_nil,fun row=>⟨fun z=>(nomatch z),fun ⟨u,v,e,_⟩=>absurd rfl e⟩,fun u v e=>absurd rfl e,Nat.zero_le _,⟨fun z=>z.elim,fun ⟨u,v,e,_⟩=>absurd rfl e⟩⟩
 | j+1=>by
  cases e:l[j]? with
  | none =>
   rw [List.take_add_one,e];show WOk (wk x0 y0 (l.take j ++ [])) (j+1);rw [List.append_nil];have:=Nk x0 y0 h j;exact ⟨this.nd,this.mem,this.be,by have:=this.le; lia,this.far⟩
  | some q =>
   rw [Mn x0 y0 e];exact (Nk x0 y0 h j).step (h q (List.mem_of_getElem? e)) x0
theorem Qh {G:Gv} (ok:GOk G) {n f:Nat} (lf:Al G f ((n+1:Nat):Int)) {φ:Int->Int->Nat} (e:∀ u v,AQ G n f u v=φ u v) {cs:List (List Int)} (nd:cs.Nodup) (mem:∀ row,row ∈ cs ↔ ∃ u v:Int,φ u v≠0/\row=[v,u,(φ u v:Int)]):(Ef G (n+1) f (-(2 ^ n)) (-(2 ^ n))).Perm cs:=by
 refine (List.perm_ext_iff_of_nodup (IP ok lf) nd).mpr fun row=>?_;rw [Ey ok lf,mem row];have c:=FU n;have c1:((2 ^ (n+1):Nat):Int)=2 ^ n+2 ^ n:=by rw [Nat.pow_succ]; lia
 constructor
 ·rintro ⟨u,v,hu,hv,ne,rfl⟩;have q:AQ G n f (-(2 ^ n)+u) (-(2 ^ n)+v)=cellF G (n+1) f u v:=by
   unfold AQ;rw [if_pos ⟨by lia,by lia,by lia,by lia⟩,show (-(2 ^ n)+(u:Int)+2 ^ n).toNat=u by lia,show (-(2 ^ n)+(v:Int)+2 ^ n).toNat=v by lia]
  rw [e] at q;exact ⟨_,_,by rw [q]; exact ne,by rw [q]⟩
 ·rintro ⟨u,v,ne,rfl⟩;rw [<-e] at ne ⊢;unfold AQ at ne ⊢;by_cases z:-(2 ^ n)<=u/\u < 2 ^ n/\-(2 ^ n)<=v/\v < 2 ^ n
  ·rw [if_pos z] at ne ⊢;refine ⟨_,_,by lia,by lia,ne,?_⟩;rw [show -(2 ^ n)+(((v+2 ^ n).toNat:Nat):Int)=v by lia,show -(2 ^ n)+(((u+2 ^ n).toNat:Nat):Int)=u by lia]
  ·rw [if_neg z] at ne;exact absurd rfl ne
end J
namespace J
open PySem L2
seal L2.PA L2.PE L2.PS L2.PSs L2.PT L2.PW
theorem AI.down {P:Program} {w:World} {K:PySem.W.Frag} {mg:Str->Option Value} {base:Heap} {k:Nat} {f:Addr} {fd:FuncData} {ps:List Str} {sp:Sp} (F:AI P w K mg base (CXE P w) k f fd ps sp):AI P w K mg base CX0 k f fd ps (fun vs H Q _=>sp vs H Q fun _ _ _=>False) :=
 ⟨fun vs H Q E h=>F.len vs H Q _ h,fun A outer s H args us vs Q E hr e hb r h=>codeAny_mono (F.run A outer s H args us vs Q _ hr e hb r h) fun r s' q=>by
  rcases r with e | (_ | _ | _ | _)
  ·obtain ⟨_,_,_,_,_,_,_,_,_,_,_,_,_,_,z⟩:=q;exact z.elim
  all_goals exact q⟩
section
variable {P:Program} {w:World} {K:PySem.W.Frag} {mg:Str->Option Value} {base:Heap} {a:Ad}
inductive Tu (K:PySem.W.Frag) (a:Ad) (vs:List V) (H:Hp) (E:XK):Prop
 | mk (g:GA) (f:Int) (t:Addr) (x y wd ht:Int) (v:V) (_:vs=[.ref g.p,.int f,.ref t,v]) (_:H t=some (.tup [.int x,.int y,.int wd,.int ht])) (_:0 < wd) (_:0 < ht) (_:¬ DW x y wd ht (2 ^ 40)) (_:∀ c,KiW K a c 7->E (.ref c) none H):Tu K a vs H E
def RD (K:PySem.W.Frag) (a:Ad):Sp:=fun vs H _ E=>Tu K a vs H E
theorem ok_filF {f:Addr} {fd:FuncData} (F:Fun K "filled" "filled" EH f fd) (T:Top K mg a) (aQ:Cal P w K mg base CX0 1 "check_box" Dp Pt) (aF:Cal P w K mg base CX0 1 "lies_within" BS Nv) (aL:Cal P w K mg base CX0 2 "is_state" Dj RC) (aI:Cal P w K mg base CX0 5 "widened_over" BZ (spWO a)) (aM:Cy P w K mg base CX0 4 a.c_Grove "solid" Cu (Jn a)) (aA:Cy P w K mg base CX0 3 a.c_Grove "level_of" AB (Fc a)) (bH:Cal P w K mg base CX0 5 "part_in" Ew (spPI a)) (bK:Cal P w K mg base CX0 102 "mixed" Em (LL a P w 50)) (bG:Cal P w K mg base CX0 4 "trimmed" Ev (Mq a)):AI P w K mg base (CXE P w) 103 f fd FZ (RD K a):=by
 refine F.okE Dk (fun vs H Q E h=>?_) (fun cdv A outer s H vs Q E hr h=>?_)
 ·obtain ⟨g,f',t,x,y,wd,ht,v,rfl,_⟩:=h;rfl
 ·obtain ⟨g,f',t,x,y,wd,ht,v,rfl,hb,w0,h0,li,k⟩:=h;refine ⟨_,(Ab (Dz (Ap aQ (rm hr) rfl Am (Aa (pv 2) Ac))) (Ab (Aj (i:=4) Dk.nd rfl (Or.inl rfl) (FD (CQ Fl (Ax AC (pv 2) Ag (fun _ _=>rfl)) Ag (Ay _)) (GN (CQ Fl (Ax AC (pv 2) Ag (fun _ _=>rfl)) Ag (Ay _))))) (Ab (AH (PW.pt (MA (BJ (pv 4)) (Jp (Ce (BJ (Ap aF (rm hr) rfl Am (Aa (pv 2) (Aa (Cw rfl T.k_LIMIT) Ac)))))))) (Af (RL raisesE rfl rfl T.mx_TooFar T.ec_TooFar (CA Ac))) Aw) (Ab (AH (Ce (BJ (Ap aL (rm hr) rfl Am (Aa (pv 3) Ac)))) (Af AS) Aw) (Ab (AH (Ce (BJ (pv 4))) (Af (Ao (pv 1))) Aw) (Ab (Aj (i:=5) Dk.nd rfl (Or.inl rfl) (Ap aI (rm hr) rfl Am (Aa (pv 0) (Aa (pv 1) (Aa (pv 2) Ac))))) (Ab (Aj (i:=6) Dk.nd rfl (Or.inl rfl) (AG (pv 0) aM (rm hr) Am (Aa (AG (pv 0) aA (rm hr) Am (Aa (pv 5) Ac)) (Aa (pv 3) Ac)))) (Af (Ao (Ap bG (rm hr) rfl Am (Aa (pv 0) (Aa (Ap bK (rm hr) rfl Am (Aa (pv 0) (Aa (pv 6) (Aa (pv 5) (Aa (Ap bH (rm hr) rfl Am (Aa (pv 0) (Aa (pv 5) (Aa (pv 2) Ac)))) (Aa (NJ (sh:=[false,false,true])) Ac)))))) Ac)))))))))))),?_⟩
  try dsimp only [cxK]
  refine ⟨_,rfl,t,x,y,wd,ht,rfl,hb,by lia,by lia,?_⟩;refine ⟨_,rfl,t,_,2,.int wd,rfl,rfl,SqT.of hb,Ai (j:=2) rfl,_,_,rfl,rfl,_,rfl,?_⟩;rw [decide_eq_true w0];refine Cg ⟨_,rfl,t,_,3,.int ht,rfl,rfl,SqT.of hb,Ai (j:=3) rfl,_,_,rfl,rfl,?_⟩;rw [show ((fun (i j:Int)=>V.bl (decide (j < i))) ht 0)=V.bl true from congrArg V.bl (decide_eq_true h0)];refine ⟨_,rfl,true,rfl,Cg ⟨_,rfl,t,x,y,wd,ht,2 ^ 40,rfl,hb,_,rfl,?_⟩⟩;rw [decide_eq_false li];exact Cg ⟨by show 1<=100; decide,k _ (kiw_far T)⟩
theorem vl_bare {G r:Gv} (e0:G=G0 ++ r) (ok:GOk G):Vl G (bareN 1) (fun _ _=>0) 49:=by
 refine ⟨⟨0,⟨DM e0 (n:=1) (by decide),.inl rfl,by decide⟩,fun u v=>?_⟩,Nb e0 ok (by decide)⟩;unfold AQ;split
 ·rename_i z;exact EC e0 ok (by decide) (FQ z.1 z.2.1) (FQ z.2.2.1 z.2.2.2)
 ·rfl
def gro:Nat->Nat
 | 0=>0
 | k+1=>gro k+(16 * (49+750 * k)+4000)
theorem OU:∀ k,k<=23->gro k<=3146032:=by decide
theorem sg_row:∀ s,s<=8->(sg.getD s 0=47 ↔ s=8)/\(sg.getD s 0=46 ↔ s=0):=by decide
theorem sg_at:∀ s,s < 8->(Builtin.Str.occurrences (Str.ofString ".ABCDEFG") ⟨#[sg.getD s 0]⟩ 0 (Str.ofString ".ABCDEFG").length 1).head?=some s:=by decide +kernel
theorem sg_ix {s:Nat} (h:s < 8):∃ r,Builtin.Str.occurrences (Str.ofString ".ABCDEFG") ⟨#[sg.getD s 0]⟩ 0 (Str.ofString ".ABCDEFG").length 1=s :: r:=by
 have e:=sg_at s h;generalize Builtin.Str.occurrences (Str.ofString ".ABCDEFG") ⟨#[sg.getD s 0]⟩ 0 (Str.ofString ".ABCDEFG").length 1=o at e;cases o with
 | nil=>cases e
 | cons a r=>cases e; exact ⟨r,rfl⟩
theorem Pu {c d:Nat} {z:Str} (hz:z.cps.toList=[d]):decide (V.str ⟨#[c]⟩=V.str z)=decide (c=d):=by
 by_cases e:c=d
 ·rw [decide_eq_true e];exact decide_eq_true (congrArg V.str (Nu.ext (by rw [hz,e])))
 ·rw [decide_eq_false e];refine decide_eq_false fun q=>e ?_;injection q with q
  have:=congrArg (fun s:Str=>s.cps.toList) q;rw [hz] at this;injection this
theorem stp_far {x0:Int} {s:WS} {q:Nat×Nat} (h:s.far):(stp x0 s q).far:=by
 unfold stp;split
 ·exact h
 ·split
  ·exact h
  ·exact .inl h
theorem NZ {x0:Int}:∀ {l:List (Nat×Nat)} {s:WS},s.far->(l.foldl (stp x0) s).far
 | [],_,h=>h
 | q :: l,_,h=>NZ (l:=l) (stp_far h)
theorem far_on (x y:Int) {l:List (Nat×Nat)} {j:Nat} (h:(wk x y (l.take j)).far):(wk x y l).far:=by
 have:wk x y l=(l.drop j).foldl (stp x) (wk x y (l.take j)):=by
  unfold wk;rw [<-List.foldl_append,List.take_append_drop]
 rw [this];exact NZ h
theorem Vl.mono {G:Gv} {f B C:Nat} {φ:Int->Int->Nat} (h:Vl G f φ B) (e:B<=C):Vl G f φ C:=⟨h.ex,h.fs.mono e⟩
def rnQ (q:Nat×Nat):Rn:=⟨q.1,sg.getD q.2 0⟩
inductive SpFR (K:PySem.W.Frag) (a:Ad) (vs:List V) (H:Hp) (Q:VK) (E:XK):Prop
 | mk (g:GA) (G:Gv) (x y:Int) (R:Addr) (ts:List Addr) (l:List (Nat×Nat)) (_:vs=[.ref g.p,.int x,.int y,.ref R]) (_:Bp a H g G) (_:H R=some (.lst (ts.map V.ref))) (_:R ∉ DK g) (_:Paired (Ml H) ts (l.map rnQ)) (_:∀ q ∈ l,QOk q) (_:l.length<=23) (_:G.length < 3900000) (_:¬ (wk x y l).far->∀ (r:Nat) (G':Gv) (H':Hp) (B:Nat),Fr g H H'->Bp a H' g G'->AM G G' 3146032->Vl G' r (wk x y l).φ B->Q (.int r) H') (_:(wk x y l).far->∀ (c:Addr) (G':Gv) (H':Hp),KiW K a c 7->Fr g H H'->Bp a H' g G'->AM G G' 3146032->E (.ref c) none H'):SpFR K a vs H Q E
def spFR (K:PySem.W.Frag) (a:Ad):Sp:=fun vs H Q E=>SpFR K a vs H Q E
theorem ok_fr {f:Addr} {fd:FuncData} (F:Fun K "field_of_runs" "field_of_runs" BM f fd) (T:Top K mg a) (cH:Cal P w K mg base CX0 1 "bare_field" DD (Mu a)) (iH:Cal P w K mg base (CXE P w) 103 "filled" FZ (fun vs H Q E=>Oz a vs H Q E\/RD K a vs H Q E)):AI P w K mg base (CXE P w) 104 f fd Df (spFR K a):=by
 refine F.okE AK (fun vs H Q E h=>?_) (fun cdv A outer s H vs Q E hr h=>?_)
 ·obtain ⟨g,G,x,y,R,ts,l,rfl,_⟩:=h;rfl
 ·obtain ⟨g,G,x,y,R,ts,l,rfl,fu,hR,nR,pr,ok,l23,few,k1,k2⟩:=h;have lts:=Paired.length pr;rw [List.length_map] at lts;refine ⟨_,(Ab (Aj (i:=4) AK.nd rfl (Or.inl rfl) (Ap cH (rm hr) rfl Am (Aa (pv 0) Ac))) (Ab (Aj (i:=5) AK.nd rfl (Or.inl rfl) (pv 1)) (Ab (Aj (i:=6) AK.nd rfl (Or.inl rfl) (pv 2)) (Ab (Dy PassesOwn.leaving rfl (Jr (pv 3)) (FB rfl (Be (AY (i:=7) AK.nd rfl (Or.inl rfl)) (Be (AY (i:=8) AK.nd rfl (Or.inl rfl)) El))) (Af (AH (Au De (pv 8) (Gr rfl T.k_ROW_SIGN) (Ay _)) (Ab (Aj (i:=5) AK.nd rfl (Or.inl rfl) (pv 1)) (Af (Aj (i:=6) AK.nd rfl (Or.inl rfl) (AA Bm (pv 6) (pv 7))))) (Ab (AH (Au IN (pv 8) (Gr rfl T.k_BLANK_SIGN) (Ay _)) (Af (Aj (i:=4) AK.nd rfl (Or.inl rfl) (Ap iH (rm hr) rfl passE (Aa (pv 0) (Aa (pv 4) (DA (Aa (pv 5) (Aa (pv 6) (Aa (pv 7) (BY Ac)))) (Aa (Fi PySem.F.plainAttrs_str PySem.F.slot_str_index PySem.F.type_str_index SA (Gr rfl T.k_STATE_SIGNS) (Aa (pv 8) Ac)) Ac))))))) Aw) (Af (Aj (i:=5) AK.nd rfl (Or.inl rfl) (AA Bm (pv 5) (pv 7)))))))) (Af (Ao (pv 4))))))),?_⟩
  try dsimp only [cxK]
  obtain ⟨r0,e0⟩:=fu.g0;have vl0:Vl G (bareN 1) (fun _ _=>0) 49:=vl_bare e0 fu.ok;refine ⟨_,rfl,g,G,rfl,fu,_,rfl,_,rfl,_,rfl,R,rfl,⟨_,SqL.of hR⟩,?_⟩;have hRx:∀ {H2:Hp},Fr g H H2->H2 R=some (.lst (ts.map V.ref)):=fun {H2} fr=>fr _ _ hR (fun z=>nR (by simp [DK,z])) (fun z=>nR (by simp [DK,z])) (fun z=>nR (by simp [DK,z]));refine JY (xs:=ts.map V.ref) (fun j σ H2=>∃ (G2:Gv) (f2:Nat) (u7 u8:Option V),σ=[some (.ref g.p),some (.int x),some (.int y),some (.ref R),some (.int f2),some (.int (wk x y (l.take j)).r),some (.int (wk x y (l.take j)).d),u7,u8]/\Fr g H H2/\Bp a H2 g G2/\AM G G2 (gro j)/\Vl G2 f2 (wk x y (l.take j)).φ (49+750 * j)/\¬ (wk x y (l.take j)).far) ⟨G,bareN 1,none,none,rfl,Fr.refl g H,fu,AM.refl fu.ok,vl0,fun z=>z⟩ (fun j σ H2 _ z=>SqL.of (by obtain ⟨_,_,_,_,_,fr,_⟩:=z; exact hRx fr)) ?_ ?_
  ·rintro j v σ H2 ev ⟨G2,f2,u7,u8,rfl,fr,fu2,go,vl,nf⟩;rw [List.getElem?_map] at ev;obtain ⟨t,et,rfl⟩:=Option.map_eq_some_iff.mp ev;obtain ⟨r,er,ht⟩:=PairedM.getL pr et;rw [List.getElem?_map] at er;obtain ⟨q,eq,rfl⟩:=Option.map_eq_some_iff.mp er;have qk:=ok q (List.mem_of_getElem? eq);have hj:j < l.length:=(List.getElem?_eq_some_iff.mp eq).1;have ht2:Ml H2 t (rnQ q):=fr.tup fu.at' ht;obtain ⟨row8,row0⟩:=sg_row q.2 qk.s8;have en:=Mn x y eq;have gl:=OU (j+1) (by lia);have ge:gro (j+1)=gro j+(16 * (49+750 * j)+4000):=rfl;have rc:(rnQ q).c=sg.getD q.2 0:=rfl;refine IT ht2 ?_;generalize wk x y (l.take j)=S at *
   refine ⟨_,rfl,rfl,_,rfl,?_⟩;rw [Pu (d:=47) (by decide +kernel),rc];by_cases z8:q.2=8
   ·have e8:stp x S q=⟨x,S.d+q.1,S.φ,S.cs,S.far⟩:=if_pos z8;rw [e8] at en;rw [decide_eq_true (row8.mpr z8)];refine Cg ⟨_,rfl,_,rfl,_,rfl,_,_,rfl,rfl,?_⟩;rw [en];exact ⟨G2,f2,_,_,rfl,fr,fu2,go.mono (by lia),vl.mono (by lia),nf⟩
   rw [decide_eq_false (fun z=>z8 (row8.mp z))];refine Bb ?_;refine ⟨_,rfl,rfl,_,rfl,?_⟩;rw [Pu (d:=46) (by decide +kernel)];by_cases z0:q.2=0
   ·have e8:stp x S q=⟨S.r+q.1,S.d,S.φ,S.cs,S.far⟩:=by unfold stp; rw [if_neg z8,if_pos z0]
    rw [e8] at en;rw [decide_eq_true (row0.mpr z0)];refine Bb ⟨_,rfl,_,rfl,_,_,rfl,rfl,?_⟩;rw [en];exact ⟨G2,f2,_,_,rfl,fr,fu2,go.mono (by lia),vl.mono (by lia),nf⟩
   rw [decide_eq_false (fun z=>z0 (row0.mp z))];obtain ⟨rr,ho⟩:=sg_ix (s:=q.2) (by have:=qk.s8; lia);refine Cg ⟨_,rfl,_,rfl,_,rfl,_,rfl,_,rfl,(by show 4<=sizeLine; decide),fun t4 nt4=>⟨rfl,_,rfl,_,_,q.2,rr,rfl,rfl,ho,?_⟩⟩;have s4:=Ak (o:=.tup [.int S.r,.int S.d,.int ((rnQ q).a:Int),.int 1]) nt4;have h4:upd H2 t4 (.tup [.int S.r,.int S.d,.int ((rnQ q).a:Int),.int 1]) t4=some (.tup [.int S.r,.int S.d,.int (q.1:Int),.int 1]):=Ah;have fu4:=fu2.same s4;show (_:Prop)\/_;generalize upd H2 t4 (.tup [.int S.r,.int S.d,.int ((rnQ q).a:Int),.int 1])=H4 at s4 h4 fu4 ⊢;have a1:=qk.a1;have a9:=qk.a9 z0 z8;have gf:=go.few;have gl0:=OU j (by lia);have frn:Fr g H H4:=fun b o e n1 n2 n3=>s4 _ _ (fr b o e n1 n2 n3);by_cases li:DW S.r S.d q.1 1 (2 ^ 40)
   ·have e8:stp x S q=⟨S.r+q.1,S.d,Ih ⟨S.r,S.d,q.1,1⟩ q.2 S.φ,S.cs ++ JE S.r S.d q,S.far\/¬ DW S.r S.d q.1 1 (2 ^ 40)⟩:=by unfold stp; rw [if_neg z8,if_neg z0]
    rw [e8] at en;refine .inl (fill_a (q:=⟨S.r,S.d,q.1,1⟩) (C:=49+750 * (j+1)) fu4 vl h4 (by show (0:Int)<=(q.1:Int); lia) (by show (0:Int)<=1; decide) (fun _ _=>li) (by have:=qk.s8; lia) ?_ (by lia) (by lia) fun r G5 H5 fr5 fu5 go5 vl5=>?_)
    ·show ((q.1:Int)).toNat * (1:Int).toNat * 50+_+300<=_;rw [show (1:Int).toNat=1 from rfl,Nat.mul_one,Int.toNat_natCast];lia
    ·refine ⟨_,rfl,_,rfl,_,_,rfl,rfl,?_⟩;rw [en];exact ⟨G5,r,_,_,rfl,frn.trans fr5,fu5,(go.trans go5).mono (by lia),vl5,fun z=>z.elim nf fun z=>z li⟩
   ·refine .inr ⟨g,f2,t4,S.r,S.d,q.1,1,.int q.2,rfl,h4,by lia,by decide,li,fun c ki=>?_⟩;refine k2 ?_ c G2 H4 ki frn fu4 (go.mono (by lia));have e8:(stp x S q).far:=by unfold stp; rw [if_neg z8,if_neg z0]; exact .inr li
    rw [<-en] at e8;exact far_on x y e8
  ·rintro σ H2 ⟨G2,f2,u7,u8,rfl,fr,fu2,go,vl,nf⟩;rw [List.length_map,lts,List.take_length] at *
   exact ⟨_,rfl,k1 nf f2 G2 H2 _ fr fu2 (go.mono (OU _ l23)) vl⟩
end
end J
namespace J
open PySem L2
seal L2.PA L2.PE L2.PS L2.PSs L2.PT L2.PW
section
variable {P:Program} {w:World} {K:PySem.W.Frag} {mg:Str->Option Value} {base:Heap} {a:Ad}
def Sd (x y:Int) (l:List (Nat×Nat)):List Nat:=EK x ++ 44 :: (EK y ++ 58 :: txt (l.map rnQ))
theorem Qv {z:Str} {x y:Int} {l:List (Nat×Nat)} (h:z.cps.toList=Sd x y l):∃ X Y B:Str,X.cps.toList=EK x/\Y.cps.toList=EK y/\B.cps.toList=txt (l.map rnQ)/\Txt.partition z ⟨#[58]⟩=(X ++ ⟨#[44]⟩ ++ Y,⟨#[58]⟩,B)/\Txt.partition (X ++ ⟨#[44]⟩ ++ Y) ⟨#[44]⟩=(X,⟨#[44]⟩,Y):=by
 have free:∀ {n:Int} {c:Nat},c≠45->Nu.dig c=false->c ∉ EK n:=fun h1 h2 m=>by
  rcases Sn m with q | q
  ·exact h1 q
  ·rw [h2] at q;cases q
 refine ⟨⟨(EK x).toArray⟩,⟨(EK y).toArray⟩,⟨(txt (l.map rnQ)).toArray⟩,rfl,rfl,rfl,?_,Tx.FE 44 _ _ (free (by decide) (by decide))⟩;have e:z=(⟨(EK x).toArray⟩ ++ ⟨#[44]⟩ ++ ⟨(EK y).toArray⟩) ++ ⟨#[58]⟩ ++ ⟨(txt (l.map rnQ)).toArray⟩:=Nu.ext (by
  rw [h,Tx.Ba,Tx.Ba,Tx.Ba,Tx.Ba];unfold Sd;simp)
 rw [e];refine Tx.FE 58 _ _ ?_;rw [Tx.Ba,Tx.Ba];intro m;rcases List.mem_append.mp m with m | m
 ·rcases List.mem_append.mp m with m | m
  ·exact free (by decide) (by decide) m
  ·simp at m
 ·exact free (by decide) (by decide) m
inductive SpPat (K:PySem.W.Frag) (a:Ad) (vs:List V) (H:Hp) (Q:VK) (E:XK):Prop
 | mk (g:GA) (G:Gv) (x y:Int) (z:Str) (l:List (Nat×Nat)) (_:vs=[.ref g.p,.str z]) (_:Bp a H g G) (_:z.cps.toList=Sd x y l) (_:z.length<=1000) (_:x.natAbs < 9999999999999) (_:y.natAbs < 9999999999999) (_:∀ q ∈ l,QOk q) (_:l.length<=23) (_:G.length < 3900000) (_:¬ (wk x y l).far->∀ (r:Nat) (G':Gv) (H':Hp) (B:Nat),Fr g H H'->Bp a H' g G'->AM G G' 3146032->Vl G' r (wk x y l).φ B->Q (.int r) H') (_:(wk x y l).far->∀ (c:Addr) (G':Gv) (H':Hp),KiW K a c 7->Fr g H H'->Bp a H' g G'->AM G G' 3146032->E (.ref c) none H'):SpPat K a vs H Q E
def Ry (K:PySem.W.Frag) (a:Ad):Sp:=fun vs H Q E=>SpPat K a vs H Q E
theorem ok_pat {f:Addr} {fd:FuncData} (F:Fun K "read_pattern" "read_pattern" BV f fd) (T:Top K mg a) (bE:Cal P w K mg base CX0 3 "read_place" DC spRP) (cV:Cal P w K mg base CX0 2 "read_runs" DZ Ox) (eQ:Cal P w K mg base (CXE P w) 104 "field_of_runs" Df (spFR K a)):AI P w K mg base (CXE P w) 105 f fd CB (Ry K a):=by
 refine F.okE Cj (fun vs H Q E h=>?_) (fun cdv A outer s H vs Q E hr h=>?_)
 ·obtain ⟨g,G,x,y,z,l,rfl,_⟩:=h;rfl
 ·obtain ⟨g,G,x,y,z,l,rfl,fu,hz,zl,x13,y13,ok,l23,few,k1,k2⟩:=h;obtain ⟨X,Y,B,eX,eY,eB,p1,p2⟩:=Qv hz;refine ⟨_,(Ab (AH (Ce (BJ (Av AU rfl T.b_isinstance PyProof.Rows.boot_isinstance (Aa (pv 1) (Aa (ES (v:=.ty "str") rfl T.b_str PyProof.Rows.boot_str rfl) Ac))))) (Af AS) Aw) (Ab (Aj (i:=2) Cj.nd rfl (Or.inl rfl) (Fi PySem.F.plainAttrs_str PySem.F.slot_str_partition PySem.F.type_str_partition Id (pv 1) (CA Ac))) (Ab (Aj (i:=3) Cj.nd rfl (Or.inl rfl) (Fi PySem.F.plainAttrs_str PySem.F.slot_str_partition PySem.F.type_str_partition Id (Ax AC (pv 2) Ag (fun _ _=>rfl)) (CA Ac))) (Ab (AH (PW.pt (Ej (Au De (Ax AC (pv 2) Ag (fun _ _=>rfl)) Cv (Ay _)) (Dx (Au De (Ax AC (pv 3) Ag (fun _ _=>rfl)) Cv (Ay _))))) (Af AS) Aw) (Ab (Aj (i:=4) Cj.nd rfl (Or.inl rfl) (Ap bE (rm hr) rfl Am (Aa (Ax AC (pv 3) Ag (fun _ _=>rfl)) Ac))) (Ab (Aj (i:=5) Cj.nd rfl (Or.inl rfl) (Ap bE (rm hr) rfl Am (Aa (Ax AC (pv 3) Ag (fun _ _=>rfl)) Ac))) (Af (Ao (Ap eQ (rm hr) rfl passE (Aa (pv 0) (Aa (pv 4) (Aa (pv 5) (Aa (Ap cV (rm hr) rfl Am (Aa (Ax AC (pv 2) Ag (fun _ _=>rfl)) Ac)) Ac))))))))))))),?_⟩
  try dsimp only [cxK]
  refine ⟨_,rfl,_,_,_,.type "str",true,rfl,rfl,.of (.str z),OS K,true,rfl,Bb ?_⟩;have c58:Str.ofString ":" = ⟨#[58]⟩:=by decide +kernel
  have c44:Str.ofString "," = ⟨#[44]⟩:=by decide +kernel
  have al:(X ++ ⟨#[44]⟩ ++ Y).length<=100000:=by
   have h1:=GZ (n:=x) (by lia);have h2:=GZ (n:=y) (by lia);rw [<-eX,<-Nu.len] at h1;rw [<-eY,<-Nu.len] at h2;rw [Tx.Ni,Tx.Ni];have:(⟨#[44]⟩:Str).length=1:=rfl;lia
  refine ⟨_,rfl,rfl,z,_,rfl,rfl,rfl,by lia,fun p hp=>?_⟩;rw [c58,p1];have s1:=Ak (o:=.tup [.str (X ++ ⟨#[44]⟩ ++ Y),.str ⟨#[58]⟩,.str B]) hp;have h1:upd H p (.tup [.str (X ++ ⟨#[44]⟩ ++ Y),.str ⟨#[58]⟩,.str B]) p=some (.tup [.str (X ++ ⟨#[44]⟩ ++ Y),.str ⟨#[58]⟩,.str B]):=Ah;generalize upd H p (.tup [.str (X ++ ⟨#[44]⟩ ++ Y),.str ⟨#[58]⟩,.str B])=H1 at s1 h1 ⊢;refine ⟨_,rfl,p,_,0,.str (X ++ ⟨#[44]⟩ ++ Y),rfl,rfl,SqT.of h1,Ai (j:=0) rfl,rfl,_,_,rfl,rfl,rfl,al,fun p' hp'=>?_⟩;rw [c44,p2];have s2:=Ak (o:=.tup [.str X,.str ⟨#[44]⟩,.str Y]) hp';have h2:upd H1 p' (.tup [.str X,.str ⟨#[44]⟩,.str Y]) p'=some (.tup [.str X,.str ⟨#[44]⟩,.str Y]):=Ah;generalize upd H1 p' (.tup [.str X,.str ⟨#[44]⟩,.str Y])=H2 at s2 h2 ⊢;have h1':=s2 _ _ h1;refine ⟨_,rfl,p,_,1,.str ⟨#[58]⟩,rfl,rfl,SqT.of h1',Ai (j:=1) rfl,rfl,_,rfl,?_⟩;rw [show decide (V.str ⟨#[58]⟩=V.str (Str.ofString ""))=false from decide_eq_false (fun q=>by injection q with q; exact absurd (congrArg (fun s:Str=>s.cps.toList) q) (by decide +kernel))];refine Bb ⟨_,rfl,p',_,1,.str ⟨#[44]⟩,rfl,rfl,SqT.of h2,Ai (j:=1) rfl,rfl,_,rfl,?_⟩;rw [show decide (V.str ⟨#[44]⟩=V.str (Str.ofString ""))=false from decide_eq_false (fun q=>by injection q with q; exact absurd (congrArg (fun s:Str=>s.cps.toList) q) (by decide +kernel))];refine Bb ⟨_,rfl,p',_,0,.str X,rfl,rfl,SqT.of h2,Ai (j:=0) rfl,X,x,rfl,eX,by lia,fun H3 s3=>?_⟩;refine ⟨_,rfl,p',_,2,.str Y,rfl,rfl,SqT.of (s3 _ _ h2),Ai (j:=2) rfl,Y,y,rfl,eY,by lia,fun H4 s4=>?_⟩;have s14:AE H H4:=((s1.trans s2).trans s3).trans s4;have fu4:=fu.same s14;refine ⟨_,rfl,_,rfl,_,rfl,_,rfl,p,_,2,.str B,rfl,rfl,SqT.of (s4 _ _ (s3 _ _ h1')),Ai (j:=2) rfl,B,l.map rnQ,rfl,eB,fun r hr'=>?_,by rw [List.length_map]; lia,fun L ts H5 nL s5 hL pr=>?_⟩
  ·obtain ⟨q,hq,rfl⟩:=List.mem_map.mp hr';have qk:=ok q hq;refine ⟨qk.a1,qk.a2,?_⟩;have:∀ s,s<=8->sg.getD s 0 ∈ sg:=by decide
   exact this _ qk.s8
  ·have nR:L ∉ DK g:=fun z=>by
    obtain ⟨o1,e1⟩:=fu4.nw.s L z;rw [nL] at e1;cases e1
   have s15:=s14.trans s5;have frn:∀ {H6:Hp},Fr g H5 H6->Fr g H H6:=fun {H6} fr b o e n1 n2 n3=>fr b o (s15 _ _ e) n1 n2 n3;exact ⟨g,G,x,y,L,ts,l,rfl,fu.same s15,hL,nR,pr,ok,l23,few,fun nf r G6 H6 B6 fr6 fu6 go6 vl6=>k1 nf r G6 H6 B6 (frn fr6) fu6 go6 vl6,fun far c G6 H6 ki fr6 fu6 go6=>k2 far c G6 H6 ki (frn fr6) fu6 go6⟩
def S3 (σ:St):Prop:=∃ x1 x2 x3,σ=[x1,x2,x3]
inductive SpRfP (K:PySem.W.Frag) (a:Ad) (sp:Sp) (vs:List V) (H:Hp) (Q:VK):Prop
 | mk (ER:Hp->Prop) (_:vs.length=2) (_:∀ (Q':VK) (E':XK),(∀ c H',KiW K a c 7->ER H'->E' (.ref c) none H')->sp vs H Q' E') (_:∀ H' H'',ER H'->AE H' H''->Q (.bl true) H''):SpRfP K a sp vs H Q
def Rx (K:PySem.W.Frag) (a:Ad) (sp:Sp):Sp:=fun vs H Q _=>SpRfP K a sp vs H Q
theorem ok_rfp {sp:Sp} {d:Nat} {f:Addr} {fd:FuncData} (F:Fun K "_law_refused" "_law_refused" BW f fd) (T:Top K mg a) (hd:1<=d) (aH:Cal P w K mg base (CXE P w) d "read_pattern" CB sp) (cO:CalH P w K mg base 1 "_law_word" Eb (spWd K a)):AI P w K mg base CX0 (d+1) f fd CC (Rx K a sp):=by
 refine F.ok FR (fun vs H Q E h=>?_) (fun cdv A outer s H vs Q E hr h=>?_)
 ·obtain ⟨_,h,_⟩:=h;exact h
 ·obtain ⟨ER,hl,h,k2⟩:=h;obtain ⟨x1,x2,rfl⟩:∃ x1 x2,vs=[x1,x2]:=by
   match vs,hl with
   | [x1,x2],_=>exact ⟨x1,x2,rfl⟩
  refine ⟨_,(Ab (RK (i:=2) (S:=S3) rfl rfl rfl rfl rfl T.mx_FieldError T.ec_FieldError FR.nd rfl rfl (fun xe pn E1 pass=>(Af (Dz (pe_calS aH (rm hr) rfl pass (Aa (pv 0) (Aa (pv 1) Ac)))))) (fun ea=>(Af (Ao (CQ De (pe_calH cO ((rm hr).marked _) rfl (Aa (pv 2) Ac)) Cv (Ay _)))))) (Af (Ao FY))),?_⟩
  try dsimp only [cxK]
  refine ⟨⟨_,_,_,rfl⟩,_,rfl,_,rfl,h _ _ fun c H' ki q=>?_⟩;refine ⟨c,rfl,ki.ec,ki.mr,fun σ' e hS he=>?_⟩;obtain ⟨y1,y2,y3,rfl⟩:=hS;have s1:=Ak (o:=IS e c) he;refine ⟨_,rfl,e,c,7,rfl,Ah,ki,fun H2 s2=>?_⟩;refine ⟨rfl,?_⟩;exact k2 H' H2 q (s1.trans s2)
end
end J
namespace J
open PySem L2
seal L2.PA L2.PE L2.PS L2.PSs L2.PT L2.PW
def Ri (H:Hp) (t:Addr) (q:Nat×Nat):Prop:=H t=some (.tup [.int q.1,.int q.2])
section
variable {P:Program} {w:World} {K:PySem.W.Frag} {mg:Str->Option Value} {base:Heap} {a:Ad}
theorem ix08 {i:Int} (h:i=0\/i=1):atI [V.int 0,V.int 8] i=some (.int (if i=0 then 0 else 8)):=by
 rcases h with rfl | rfl<;>rfl
inductive SpRb (vs:List V) (H:Hp) (Q:VK):Prop
 | mk (c k:Int) (_:vs=[.int c,.int k]) (_:0<=k) (_:k<=100) (_:∀ (q:Nat×Nat) (t:Addr) (H':Hp),QOk q->AE H H'->Ri H' t q->Q (.ref t) H'):SpRb vs H Q
def spRb:Sp:=fun vs H Q _=>SpRb vs H Q
theorem ok_rb {f:Addr} {fd:FuncData} (F:Fun K "_law_run_by" "_law_run_by" Cr f fd) (T:Top K mg a) (aP:Cal P w K mg base CX0 1 "_law_mix" DU Mr):AI P w K mg base CX0 2 f fd Dc spRb:=by
 refine F.ok Du (fun vs H Q E h=>?_) (fun cdv A outer s H vs Q E hr h=>?_)
 ·obtain ⟨c,k,rfl,_⟩:=h;rfl
 ·obtain ⟨c,k,rfl,k0,k1,fin⟩:=h;refine ⟨_,(Ab (Aj (i:=2) Du.nd rfl (Or.inl rfl) (Ap aP (rm hr) rfl Am (Aa (pv 0) (Ek Bm Ag (pv 1) Ac)))) (Ab (AH (Au Fl (AA CD (pv 2) Ag) Ag (Ay _)) (Af (Ao (FC (Ek Bm Ag (AA CD (AA CT (pv 2) Ag) Ag) (Ek Bm Ag (AA CD (AA CT (pv 2) Ag) Ag) Ac))))) Aw) (Ab (Aj (i:=3) Du.nd rfl (Or.inl rfl) (AA Bm Ag (AA CD (AA CT (pv 2) Ag) Ag))) (Ab (AH (Au De (AA CD (AA CT (pv 2) Ag) Ag) Ag (Ay _)) (Af (Aj (i:=3) Du.nd rfl (Or.inl rfl) (AA Bm Ag (AA CD (Ap aP (rm hr) rfl Am (Aa (pv 0) (Ek Bm Ag (pv 1) Ac))) (AA FF Ag Ag))))) Aw) (Af (Ao (FC (Aa (pv 3) (Aa (Ax AZ (CW (BY (BY Ac))) (AA CD (AA CT (pv 2) Ag) Ag) (fun _ _=>rfl)) Ac))))))))),?_⟩
  try dsimp only [cxK]
  refine ⟨_,rfl,_,rfl,_,_,rfl,rfl,c,10+k,rfl,by lia,by lia,fun v=>?_⟩;refine ⟨_,rfl,_,_,rfl,rfl,(by show (0:Int) < 3; decide),_,_,rfl,rfl,_,rfl,Jg (fun z=>?_) (fun z=>?_)⟩
  ·refine ⟨_,rfl,_,_,rfl,rfl,⟨by decide,by decide⟩,_,_,rfl,rfl,(by show (0:Int) < 9; decide),_,_,rfl,rfl,_,rfl,_,_,rfl,rfl,⟨by decide,by decide⟩,_,_,rfl,rfl,(by show (0:Int) < 7; decide),_,_,rfl,rfl,(by show 2<=sizeLine; decide),fun t ht=>?_⟩;refine fin ((1+v / 3 % 9).toNat,(1+v / 27 % 7).toNat) t _ ⟨?_,?_,?_,?_⟩ (Ak ht) ?_
   ·show 1<=(1+v / 3 % 9).toNat; lia
   ·show (1+v / 3 % 9).toNat < 10 ^ 13; lia
   ·show (1+v / 27 % 7).toNat<=8; lia
   ·intro _ _; show (1+v / 3 % 9).toNat<=9; lia
   ·show upd _ _ _ _=some (.tup [.int (((1+v / 3 % 9).toNat:Nat):Int),.int (((1+v / 27 % 7).toNat:Nat):Int)]);rw [Ah,show (((1+v / 3 % 9).toNat:Nat):Int)=1+v / 3 % 9 by lia,show (((1+v / 27 % 7).toNat:Nat):Int)=1+v / 27 % 7 by lia]
  ·refine ⟨_,rfl,_,_,rfl,rfl,⟨by decide,by decide⟩,_,_,rfl,rfl,(by show (0:Int) < 5; decide),_,_,rfl,rfl,?_⟩;refine ⟨_,rfl,_,_,rfl,rfl,⟨by decide,by decide⟩,_,_,rfl,rfl,(by show (0:Int) < 7; decide),rfl,_,rfl,Jg (fun z2=>?_) (fun z2=>?_)⟩
   ·refine ⟨_,rfl,_,rfl,_,_,rfl,rfl,c,60+k,rfl,by lia,by lia,fun u=>?_⟩;refine ⟨_,_,rfl,rfl,⟨by decide,by decide,by decide⟩,_,_,rfl,rfl,(by show (0:Int) < 1 * 2 ^ 41; decide),_,_,rfl,rfl,?_⟩;have hu:0<=u % (1 * 2 ^ (41:Int).toNat)/\u % (1 * 2 ^ (41:Int).toNat) < 2 ^ 41:=⟨Int.emod_nonneg _ (by decide),Int.emod_lt_of_pos _ (by decide)⟩
    generalize u % (1 * 2 ^ (41:Int).toNat)=U at hu ⊢;refine ⟨_,rfl,(by show 2<=sizeLine; decide),fun p hp=>⟨_,rfl,_,_,rfl,rfl,⟨by decide,by decide⟩,_,_,rfl,rfl,(by show (0:Int) < 2; decide),p,_,v / 105 % 2,_,rfl,rfl,SqL.of Ah,ix08 (by lia),(by show 2<=sizeLine; decide),fun t ht=>?_⟩⟩;refine fin ((1+U).toNat,if v / 105 % 2=0 then 0 else 8) t _ ⟨by show 1<=(1+U).toNat; lia,by show (1+U).toNat < 10 ^ 13; lia,by show (if v / 105 % 2=0 then 0 else 8)<=8; split<;>decide,fun z0 z8=>?_⟩ ((Ak hp).trans (Ak ht)) ?_
    ·by_cases cc:v / 105 % 2=0
     ·exact absurd (if_pos cc) z0
     ·exact absurd (if_neg cc) z8
    ·show upd _ _ _ _=some (.tup [.int (((1+U).toNat:Nat):Int),.int (((if v / 105 % 2=0 then 0 else 8:Nat)):Int)]);rw [Ah,show (((1+U).toNat:Nat):Int)=1+U by lia];rcases (by lia:v / 105 % 2=0\/v / 105 % 2=1) with cc | cc<;>rw [cc]<;>rfl
   ·refine ⟨_,rfl,(by show 2<=sizeLine; decide),fun p hp=>⟨_,rfl,_,_,rfl,rfl,⟨by decide,by decide⟩,_,_,rfl,rfl,(by show (0:Int) < 2; decide),p,_,v / 105 % 2,_,rfl,rfl,SqL.of Ah,ix08 (by lia),(by show 2<=sizeLine; decide),fun t ht=>?_⟩⟩;refine fin ((1+v / 3 % 5).toNat,if v / 105 % 2=0 then 0 else 8) t _ ⟨by show 1<=(1+v / 3 % 5).toNat; lia,by show (1+v / 3 % 5).toNat < 10 ^ 13; lia,by show (if v / 105 % 2=0 then 0 else 8)<=8; split<;>decide,fun z0 z8=>?_⟩ ((Ak hp).trans (Ak ht)) ?_
    ·by_cases cc:v / 105 % 2=0
     ·exact absurd (if_pos cc) z0
     ·exact absurd (if_neg cc) z8
    ·show upd _ _ _ _=some (.tup [.int (((1+v / 3 % 5).toNat:Nat):Int),.int (((if v / 105 % 2=0 then 0 else 8:Nat)):Int)]);rw [Ah,show (((1+v / 3 % 5).toNat:Nat):Int)=1+v / 3 % 5 by lia];rcases (by lia:v / 105 % 2=0\/v / 105 % 2=1) with cc | cc<;>rw [cc]<;>rfl
inductive SpRt (vs:List V) (H:Hp) (Q:VK):Prop
 | mk (t:Addr) (q:Nat×Nat) (_:vs=[.ref t]) (_:Ri H t q) (_:QOk q) (_:∀ z:Str,z.cps.toList=wd (rnQ q)->Q (.str z) H):SpRt vs H Q
def spRt:Sp:=fun vs H Q _=>SpRt vs H Q
theorem ok_rt {f:Addr} {fd:FuncData} (F:Fun K "_law_run_text" "_law_run_text" BN f fd) (T:Top K mg a):AI P w K mg base CX0 1 f fd Cl spRt:=by
 refine F.ok Iq (fun vs H Q E h=>?_) (fun cdv A outer s H vs Q E hr h=>?_)
 ·obtain ⟨t,q,rfl,_⟩:=h;rfl
 ·obtain ⟨t,q,rfl,ht,qk,k⟩:=h;refine ⟨_,(Ab (AH (Au De (Ax AC (pv 0) Ag (fun _ _=>rfl)) Ag (Ay _)) (Af (Ao (Ax MW Cv (Ax AC (pv 0) Ag (fun _ _=>rfl)) (fun _ _=>rfl)))) Aw) (Af (Ao (AA GO (Fh Ng rfl T.b_str PyProof.Rows.boot_str (Aa (Ax AC (pv 0) Ag (fun _ _=>rfl)) Ac)) (Ax MW Cv (Ax AC (pv 0) Ag (fun _ _=>rfl)) (fun _ _=>rfl)))))),?_⟩
  try dsimp only [cxK]
  refine ⟨_,rfl,t,_,0,.int q.1,rfl,rfl,SqT.of ht,Ai (j:=0) rfl,rfl,_,rfl,?_⟩;have es:(Str.ofString ".ABCDEFG/").cps.toList=sg:=by decide +kernel
  have at2:atI (Str.ofString ".ABCDEFG/").cps.toList (q.2:Int)=some (sg.getD q.2 0):=by
   refine Ai ?_;rw [es,List.getD_eq_getElem?_getD,List.getElem?_eq_getElem (show q.2 < sg.length from Nat.lt_succ_of_le qk.s8)];rfl
  by_cases e1:q.1=1
  ·rw [decide_eq_true (by rw [e1]; rfl)];refine Cg ⟨_,rfl,t,_,1,.int q.2,rfl,rfl,SqT.of ht,Ai (j:=1) rfl,_,_,sg.getD q.2 0,rfl,rfl,by decide +kernel,at2,k _ ?_⟩;unfold wd GQ rnQ;rw [if_pos e1];rfl
  ·rw [decide_eq_false (by intro z; injection z with z; lia)];have a2:=qk.a2;have sl:(Str.ofString (toString (q.1:Int))).length<=13:=by rw [Nu.len,Tn.text]; exact Tn.FL 12 q.1 a2
   refine Bb ⟨_,rfl,t,_,0,.int q.1,rfl,rfl,SqT.of ht,Ai (j:=0) rfl,(q.1:Int),rfl,Tn.LQ (Nat.lt_trans a2 (by decide)),_,rfl,t,_,1,.int q.2,rfl,rfl,SqT.of ht,Ai (j:=1) rfl,_,_,sg.getD q.2 0,rfl,rfl,by decide +kernel,at2,_,_,rfl,rfl,?_,k _ ?_⟩
   ·exact GG (by show (Str.ofString (toString (q.1:Int))).length+1<=10000000; lia)
   ·rw [Tx.Ba,Tn.text];unfold wd GQ rnQ;rw [if_neg e1]
inductive SpLd (K:PySem.W.Frag) (vs:List V) (H:Hp) (Q:VK):Prop
 | mk (x y:Int) (R:Addr) (ts:List Addr) (l:List (Nat×Nat)) (_:vs=[.int x,.int y,.ref R]) (_:H R=some (.lst (ts.map V.ref))) (_:Paired (Ri H) ts l) (_:∀ q ∈ l,QOk q) (_:l.length<=23) (_:∀ (L:Addr) (out:List (Addr×List Int)) (H':Hp),AE H H'->H L=none->H' L=some (.lst (out.map fun q=>V.ref q.1))->DV H' out->(out.map (·.2)).Perm (wk x y l).cs->EX out->Q (.ref L) H'):SpLd K vs H Q
def spLd (K:PySem.W.Frag):Sp:=fun vs H Q _=>SpLd K vs H Q
theorem ok_ld {f:Addr} {fd:FuncData} (F:Fun K "_law_due" "_law_due" Dh f fd) (T:Top K mg a):AI P w K mg base CX0 1 f fd EJ (spLd K):=by
 refine F.ok Bz (fun vs H Q E h=>?_) (fun cdv A outer s H vs Q E hr h=>?_)
 ·obtain ⟨x,y,R,ts,l,rfl,_⟩:=h;rfl
 ·obtain ⟨x,y,R,ts,l,rfl,hR,pr,ok,l23,k⟩:=h;have lts:=Paired.length pr;refine ⟨_,(Ab (Aj (i:=3) Bz.nd rfl (Or.inl rfl) (CW Ac)) (Ab (Aj (i:=4) Bz.nd rfl (Or.inr rfl) (pv 0)) (Ab (Aj (i:=5) Bz.nd rfl (Or.inr rfl) (pv 1)) (Ab (Dy PassesOwn.never rfl (Jr (pv 2)) (FB rfl (Be (AY (i:=6) Bz.nd rfl (Or.inl rfl)) (Be (AY (i:=7) Bz.nd rfl (Or.inr rfl)) El))) (Af (AH (Au De (pv 7) Ag (Ay _)) (Ab (Aj (i:=4) Bz.nd rfl (Or.inr rfl) (pv 0)) (Af (Aj (i:=5) Bz.nd rfl (Or.inr rfl) (AA Bm (pv 5) (pv 6))))) (Ab (AH (Au Fl (pv 7) Ag (Ay _)) (Af (Aj (i:=3) Bz.nd rfl (Or.inl rfl) (AA Iw (pv 3) (Js rfl (DX.of (So:=Ae Dh) (No:=JO) (N:=["_law_k","_law_x","_law_y","_law_sign"]) (k:=1) (cs:=[4,5,7]) rfl rfl (by decide +kernel)) (Fg rfl T.b_range (Aa (pv 6) Ac)) (fun _ _ _=>(EI (i:=0) (by decide +kernel) rfl rfl)) (fun _ _ _=>Gp) (fun _ _ _=>(FC (Aa (pv 2) (Ek Bm (pv 1) (pv 0) (Aa (pv 3) Ac))))))))) Aw) (Af (Aj (i:=4) Bz.nd rfl (Or.inr rfl) (AA Bm (pv 4) (pv 6)))))))) (Af (Ao (Av Ii rfl T.b_sorted PyProof.Rows.boot_sorted (Aa (pv 3) Ac)))))))),?_⟩
  try dsimp only [cxK]
  refine ⟨(by show 0<=sizeLine; decide),fun D0 nD0=>?_⟩;have s1:=Ak (o:=.lst []) nD0;have h1:upd H D0 (.lst []) D0=some (.lst []):=Ah;generalize upd H D0 (.lst [])=H1 at s1 h1 ⊢;refine ⟨_,rfl,_,rfl,_,rfl,R,rfl,⟨_,SqL.of (s1 _ _ hR)⟩,?_⟩;refine JY (xs:=ts.map V.ref) (fun j σ H2=>∃ (D:Addr) (items:List (Addr×List Int)) (u6 u7:Option V),σ=[some (.int x),some (.int y),some (.ref R),some (.ref D),some (.int (wk x y (l.take j)).r),some (.int (wk x y (l.take j)).d),u6,u7]/\AE H H2/\H2 D=some (.lst (items.map fun q=>V.ref q.1))/\DV H2 items/\items.map (·.2)=(wk x y (l.take j)).cs) ⟨D0,[],none,none,rfl,s1,h1,(fun q hq=>nomatch hq),rfl⟩ (fun j σ H2 _ z=>SqL.of (by obtain ⟨_,_,_,_,_,sm,_⟩:=z; exact sm _ _ hR)) ?_ ?_
  ·rintro j v σ H2 ev ⟨D,items,u6,u7,rfl,sm,hD,ra,ei⟩;rw [List.getElem?_map] at ev;obtain ⟨t,et,rfl⟩:=Option.map_eq_some_iff.mp ev;obtain ⟨q,eq,ht⟩:=PairedM.getL pr et;have qk:=ok q (List.mem_of_getElem? eq);have hj:j < l.length:=(List.getElem?_eq_some_iff.mp eq).1;have le:=(Nk x y ok j).le;have ht2:Ri H2 t q:=sm _ _ ht;have en:=Mn x y eq;refine IT ht2 ?_;generalize wk x y (l.take j)=S at *
   have il:items.length=S.cs.length:=by rw [<-ei,List.length_map]
   refine ⟨_,rfl,rfl,_,rfl,?_⟩;by_cases z8:q.2=8
   ·have e8:stp x S q=⟨x,S.d+q.1,S.φ,S.cs,S.far⟩:=if_pos z8;rw [e8] at en;rw [decide_eq_true (by rw [z8]; rfl)];refine Cg ⟨_,rfl,_,rfl,_,rfl,_,_,rfl,rfl,?_⟩;rw [en];exact ⟨D,items,_,_,rfl,sm,hD,ra,ei⟩
   rw [decide_eq_false (by intro z; injection z with z; lia)];refine Bb ⟨_,rfl,_,_,rfl,rfl,_,rfl,?_⟩;by_cases z0:q.2=0
   ·have e8:stp x S q=⟨S.r+q.1,S.d,S.φ,S.cs,S.far⟩:=by unfold stp; rw [if_neg z8,if_pos z0]
    rw [e8] at en;rw [decide_eq_false (by lia:¬ (0:Int) < (q.2:Int))];refine Bb ⟨_,rfl,_,rfl,_,_,rfl,rfl,?_⟩;rw [en];exact ⟨D,items,_,_,rfl,sm,hD,ra,ei⟩
   rw [decide_eq_true (by lia:(0:Int) < (q.2:Int))];have a9:=qk.a9 z0 z8;have e8:stp x S q=⟨S.r+q.1,S.d,Ih ⟨S.r,S.d,q.1,1⟩ q.2 S.φ,S.cs ++ JE S.r S.d q,S.far\/¬ DW S.r S.d q.1 1 (2 ^ 40)⟩:=by unfold stp; rw [if_neg z8,if_neg z0]
   rw [e8] at en;refine Cg ⟨_,rfl,_,rfl,_,rfl,by lia,by lia,?_⟩;rw [Int.toNat_natCast];refine Re (n:=q.1) (fun i acc H3=>∃ its:List (Addr×List Int),AE H2 H3/\acc=its.map (fun q=>V.ref q.1)/\DV H3 its/\its.map (·.2)=(List.range i).map fun k=>[S.d,S.r+((k:Nat):Int),((q.2:Nat):Int)]) ⟨[],AE.refl H2,rfl,(fun q hq=>nomatch hq),rfl⟩ ?_ ?_
   ·rintro i acc H3 hi ⟨its,s3,rfl,r3,e3⟩;have li:its.length=i:=by have:=congrArg List.length e3; rw [List.length_map,List.length_map,List.length_range] at this; exact this
    refine ⟨⟨[some (.int (0+(i:Int)))],rfl,rfl⟩,by rw [List.length_map]; exact Ed (by lia),Qi ?_⟩;refine ⟨_,rfl,_,rfl,_,rfl,_,_,rfl,rfl,_,rfl,(by show 3<=sizeLine; decide),fun t3 nt3=>?_⟩;have s6:=Ak (o:=.tup [.int S.d,.int (S.r+(0+(i:Int))),.int q.2]) nt3;refine ⟨its ++ [(t3,[S.d,S.r+(i:Int),(q.2:Int)])],s3.trans s6,by rw [List.map_append]; rfl,fun q' hq'=>?_,?_⟩
    ·rcases List.mem_append.mp hq' with hq' | hq'
     ·exact s6 _ _ (r3 q' hq')
     ·rw [List.mem_singleton.mp hq'];show upd _ _ _ _=some (.tup [.int S.d,.int (S.r+(i:Int)),.int q.2]);rw [Ah,Int.zero_add]
    ·rw [List.map_append,e3,List.range_succ,List.map_append];rfl
   ·rintro acc H3 ⟨its,s3,rfl,r3,e3⟩ D3 hD3;have s4:=Ak (o:=.lst (its.map fun q=>V.ref q.1)) hD3;have li:its.length=q.1:=by have:=congrArg List.length e3; rw [List.length_map,List.length_map,List.length_range] at this; exact this
    refine ⟨D,D3,_,_,rfl,rfl,s4 _ _ (s3 _ _ hD),Ah,by rw [List.length_map,List.length_map]; exact GG (by lia),fun D5 hD5=>?_⟩;have s5:=Ak (o:=.lst ((items.map fun q=>V.ref q.1) ++ (its.map fun q=>V.ref q.1))) hD5;refine ⟨_,rfl,_,rfl,_,_,rfl,rfl,?_⟩;rw [en];refine ⟨D5,items ++ its,_,_,rfl,((sm.trans s3).trans s4).trans s5,by rw [List.map_append]; exact Ah,fun q hq=>?_,?_⟩
    ·rcases List.mem_append.mp hq with hq | hq
     ·exact s5 _ _ (s4 _ _ (s3 _ _ (ra q hq)))
     ·exact s5 _ _ (s4 _ _ (r3 q hq))
    ·rw [List.map_append,ei,e3];rfl
  ·rintro σ H2 ⟨D,items,u6,u7,rfl,sm,hD,ra,ei⟩;rw [List.length_map,lts,List.take_length] at ei;have wo:=Nk x y ok l.length;rw [List.take_length] at wo;have il:items.length=(wk x y l).cs.length:=by rw [<-ei,List.length_map]
   have le:=wo.le;refine ⟨_,rfl,D,items,rfl,SqL.of hD,by lia,fun q hq=>⟨ra q hq,fun e=>?_⟩,fun L out nL pm ru=>?_⟩
   ·have m:q.2 ∈ (wk x y l).cs:=by rw [<-ei]; exact List.mem_map.mpr ⟨q,hq,rfl⟩
    obtain ⟨u,v,_,e2⟩:=(wo.mem _).mp m;rw [e] at e2;cases e2
   ·have s5:=Ak (o:=.lst (out.map fun q=>V.ref q.1)) nL;refine k L out _ (sm.trans s5) ?_ Ah (fun q hq=>s5 _ _ (ra q (pm.mem_iff.mp hq))) ?_ ru
    ·cases e:H L with
     | none=>rfl
     | some o=>rw [sm _ _ e] at nL; cases nL
    ·rw [<-ei];exact pm.map _
inductive SpLv (K:PySem.W.Frag) (vs:List V) (H:Hp) (Q:VK):Prop
 | mk (L:Addr) (items:List (Addr×List Int)) (rows:List (Int×Int×Int)) (_:vs=[.ref L]) (_:H L=some (.lst (items.map fun q=>V.ref q.1))) (_:DV H items) (_:items.map (·.2)=rows.map fun r=>[r.1,r.2.1,r.2.2]) (_:∀ b:Bool,(b=true ↔ ∃ r ∈ rows,¬ InG r.2.1 r.1)->Q (.bl b) H):SpLv K vs H Q
def spLv (K:PySem.W.Frag):Sp:=fun vs H Q _=>SpLv K vs H Q
theorem ok_lv {f:Addr} {fd:FuncData} (F:Fun K "_law_leaves" "_law_leaves" Cs f fd) (T:Top K mg a):AI P w K mg base CX0 1 f fd Dd (spLv K):=by
 refine F.ok Dv (fun vs H Q E h=>?_) (fun cdv A outer s H vs Q E hr h=>?_)
 ·obtain ⟨L,items,rows,rfl,_⟩:=h;rfl
 ·obtain ⟨L,items,rows,rfl,hL,ra,ei,k⟩:=h;refine ⟨_,(Ab (Dy PassesOwn.never rfl (Jr (pv 0)) (FB rfl (Be (AY (i:=1) Dv.nd rfl (Or.inl rfl)) (Be (AY (i:=2) Dv.nd rfl (Or.inl rfl)) (Be (AY (i:=3) Dv.nd rfl (Or.inl rfl)) El)))) (Af (AH (PW.pt (Ej (Au GX (Av (Fp rfl) rfl T.b_min PyProof.Rows.boot_min (Aa (pv 2) (Aa (pv 1) Ac))) (LM Im (AA FF Ag Ag)) (Ay _)) (Dx (Au Sf (Av (Gw rfl) rfl T.b_max PyProof.Rows.boot_max (Aa (pv 2) (Aa (pv 1) Ac))) (AA FF Ag Ag) (Ay _))))) (Af (Ao FY)) Aw))) (Af (Ao FY))),?_⟩
  try dsimp only [cxK]
  refine ⟨_,rfl,L,rfl,⟨_,SqL.of hL⟩,?_⟩;have li:items.length=rows.length:=by have:=congrArg List.length ei; rw [List.length_map,List.length_map] at this; exact this
  refine JY (xs:=items.map fun q=>V.ref q.1) (fun j σ H2=>H=H2/\∃ (u1 u2 u3:Option V),σ=[some (.ref L),u1,u2,u3]/\∀ r ∈ rows.take j,InG r.2.1 r.1) ⟨rfl,none,none,none,rfl,fun r hr=>(by simp at hr)⟩ (fun j σ H2 _ z=>SqL.of (by rw [<-z.1]; exact hL)) ?_ ?_
  ·rintro j v σ H2 ev ⟨rfl,u1,u2,u3,rfl,al⟩;rw [List.getElem?_map] at ev;obtain ⟨it,et,rfl⟩:=Option.map_eq_some_iff.mp ev;have hj:j < rows.length:=by rw [<-li]; exact (List.getElem?_eq_some_iff.mp et).1
   obtain ⟨r,er⟩:∃ r,rows[j]?=some r:=⟨_,List.getElem?_eq_getElem hj⟩
   have e2:it.2=[r.1,r.2.1,r.2.2]:=by
    have:=congrArg (fun l=>l[j]?) ei;simp only [List.getElem?_map,et,er,Option.map_some] at this;exact Option.some.inj this
   have hq:=ra it (List.mem_of_getElem? et);rw [e2] at hq;refine gtriple hq ?_;have nxt:InG r.2.1 r.1->∀ r' ∈ rows.take (j+1),InG r'.2.1 r'.1:=fun g r' hr'=>by
    rw [List.take_add_one,er] at hr';rcases List.mem_append.mp hr' with z | z
    ·exact al r' z
    ·rw [List.mem_singleton.mp z];exact g
   have mr:=List.mem_of_getElem? er;refine ⟨_,rfl,_,rfl,_,_,rfl,_,_,rfl,rfl,⟨by decide,by decide,by decide⟩,_,rfl,_,_,rfl,rfl,_,rfl,Jg (fun z=>?_) (fun z=>?_)⟩
   ·have z:=of_decide_eq_true z;refine Cg (k true ⟨fun _=>⟨r,mr,fun g=>?_⟩,fun _=>rfl⟩);unfold InG at g;have z:(if r.1 < r.2.1 then r.1 else r.2.1) < -(1 * 2 ^ 40):=z;split at z<;>lia
   have z:¬ (if r.1 < r.2.1 then r.1 else r.2.1) < -(1 * 2 ^ 40):=fun q=>z (decide_eq_true q);refine ⟨_,rfl,_,rfl,_,_,rfl,_,_,rfl,rfl,⟨by decide,by decide,by decide⟩,_,_,rfl,rfl,_,rfl,Jg (fun z2=>?_) (fun z2=>?_)⟩
   ·have z2:=of_decide_eq_true z2;refine (k true ⟨fun _=>⟨r,mr,fun g=>?_⟩,fun _=>rfl⟩);unfold InG at g;have z2:1 * 2 ^ 40<=(if r.1 > r.2.1 then r.1 else r.2.1):=z2;split at z2<;>lia
   ·have z2:¬ 1 * 2 ^ 40<=(if r.1 > r.2.1 then r.1 else r.2.1):=fun q=>z2 (decide_eq_true q);refine ⟨rfl,_,_,_,rfl,nxt ?_⟩;unfold InG;split at z<;>split at z2<;>lia
  ·rintro σ H2 ⟨rfl,u1,u2,u3,rfl,al⟩;rw [List.length_map,li,List.take_length] at al;exact k false ⟨fun z=>(nomatch z),fun ⟨r,hr,z⟩=>absurd (al r hr) z⟩
end
end J
namespace J
open PySem L2
seal L2.PA L2.PE L2.PS L2.PSs L2.PT L2.PW
theorem JD:∀ {l m:List (List Int)},l.Pairwise (fun p q=>CU q p=false)->m.Pairwise (fun p q=>CU q p=false)->l.Perm m->l=m
 | [],m,_,_,h=>(List.nil_perm.mp h).symm
 | a :: l,[],_,_,h=>absurd h.length_eq (by simp)
 | a :: l,b :: m,h1,h2,h=>by
  rw [List.pairwise_cons] at h1 h2;have e:a=b:=by
   have ha:a ∈ b :: m:=h.mem_iff.mp (List.mem_cons_self ..);have hb:b ∈ a :: l:=h.mem_iff.mpr (List.mem_cons_self ..);rcases List.mem_cons.mp ha with z | z
   ·exact z
   ·rcases List.mem_cons.mp hb with y | y
    ·exact y.symm
    ·exact NV (h2.1 a z) (h1.1 b y)
  subst e;rw [JD h1.2 h2.2 h.cons_inv]
theorem EX.rows {out:List (Addr×List Int)} (h:EX out):(out.map (·.2)).Pairwise (fun p q=>CU q p=false):=List.pairwise_map.mpr h
theorem Tb (ns:List Int):∃ cs:List Int,Ra (ns.map V.int) (some 3) (some 19)=cs.map V.int/\cs.length<=16:=by
 refine ⟨(ns.drop (HT.sIx (ns.map V.int).length 0 (some 3))).take (HT.sIx (ns.map V.int).length (ns.map V.int).length (some 19) - HT.sIx (ns.map V.int).length 0 (some 3)),?_,?_⟩
 ·unfold Ra;rw [List.map_take,List.map_drop]
 ·rw [List.length_take,List.length_drop];have h1:HT.sIx (ns.map V.int).length 0 (some 3)=min 3 (ns.map V.int).length:=by
   show (if (3:Int) < 0 then ((3:Int)+(((ns.map V.int).length:Nat):Int)).toNat else min (3:Int).toNat (ns.map V.int).length)=_;rw [if_neg (by decide)];rfl
  have h2:HT.sIx (ns.map V.int).length (ns.map V.int).length (some 19)=min 19 (ns.map V.int).length:=by
   show (if (19:Int) < 0 then ((19:Int)+(((ns.map V.int).length:Nat):Int)).toNat else min (19:Int).toNat (ns.map V.int).length)=_;rw [if_neg (by decide)];rfl
  rw [h1,h2,List.length_map];lia
theorem Rk {q:Nat×Nat} (h:QOk q):(wd (rnQ q)).length<=14:=by
 unfold wd GQ;rw [List.length_append];show (if q.1=1 then [] else Tn.dg q.1).length+1<=14;split
 ·decide
 ·have:=Tn.FL 12 q.1 h.a2;lia
theorem Pm:∀ {l:List (Nat×Nat)},(∀ q ∈ l,QOk q)->(txt (l.map rnQ)).length<=14 * l.length
 | [],_=>Nat.le_refl _
 | q :: l,h=>by
  have h1:=Rk (h q (List.mem_cons_self ..));have h2:=Pm (l:=l) fun q hq=>h q (List.mem_cons_of_mem _ hq);unfold txt at *
  rw [List.map_cons,List.map_cons,List.flatten_cons,List.length_append,List.length_cons];lia
theorem rows_of {s:WS} {n:Nat} (wo:WOk s n) {out:List (Addr×List Int)} (pm:(out.map (·.2)).Perm s.cs):∃ rows:List (Int×Int×Int),out.map (·.2)=rows.map (fun r=>[r.1,r.2.1,r.2.2])/\((∃ r ∈ rows,¬ InG r.2.1 r.1) ↔ s.far):=by
 have sh:∀ r ∈ out.map (·.2),r=[r.getD 0 0,r.getD 1 0,r.getD 2 0]:=fun r hr=>by
  obtain ⟨u,v,_,rfl⟩:=(wo.mem r).mp (pm.mem_iff.mp hr);rfl
 refine ⟨(out.map (·.2)).map fun r=>(r.getD 0 0,r.getD 1 0,r.getD 2 0),?_,?_⟩
 ·rw [List.map_map]
  conv=>lhs; rw [<-List.map_id (out.map (·.2))]
  exact List.map_congr_left fun r hr=>sh r hr
 ·rw [wo.far];constructor
  ·rintro ⟨r,hr,o⟩;obtain ⟨r0,h0,rfl⟩:=List.mem_map.mp hr;obtain ⟨u,v,ne,rfl⟩:=(wo.mem r0).mp (pm.mem_iff.mp h0);exact ⟨u,v,ne,o⟩
  ·rintro ⟨u,v,ne,o⟩;exact ⟨_,List.mem_map.mpr ⟨_,pm.mem_iff.mpr ((wo.mem _).mpr ⟨u,v,ne,rfl⟩),rfl⟩,o⟩
section
variable {P:Program} {w:World} {K:PySem.W.Frag} {mg:Str->Option Value} {base:Heap} {a:Ad}
theorem ok_law {f:Addr} {fd:FuncData} (F:Fun K "law" "law" FX f fd) (T:Top K mg a) (eS:CalC P w K mg base CX0 2 "Grove" a.c_Grove DH (Mt a)) (aW:Cal P w K mg base CX0 1 "_law_at" Fk (spAt K)) (cX:Cal P w K mg base CX0 1 "_law_bits" Ec OA) (bF:Cal P w K mg base CX0 2 "_law_place" DF spPl) (aY:Cal P w K mg base CX0 2 "_law_run_by" Dc spRb) (bC:Cal P w K mg base CX0 1 "_law_run_text" Cl spRt) (dA:Cal P w K mg base CX0 1 "_law_due" EJ (spLd K)) (bU:Cal P w K mg base CX0 1 "_law_leaves" Dd (spLv K)) (aS:Cal P w K mg base CX0 106 "_law_refused" CC (Rx K a (Ry K a))) (aH:Cal P w K mg base CX0 105 "read_pattern" CB (fun vs H Q _=>Ry K a vs H Q fun _ _ _=>False)) (aX:Cal P w K mg base CX0 107 "_law_walked" Db (spWk a)):AI P w K mg base CX0 108 f fd p_law (Ps K):=by
 refine F.ok EF (fun vs H Q E h=>?_) (fun cdv A outer s H vs Q E hr h=>?_)
 ·obtain ⟨l,ns,rfl,_⟩:=h;rfl
 ·obtain ⟨l,ns,rfl,hS,hlen,kq⟩:=h;refine ⟨_,(Ab (Aj (i:=1) EF.nd rfl (Or.inl rfl) (Ap cX (rm hr) rfl Am (Aa (Ap aW (rm hr) rfl Am (Aa (pv 0) (BY Ac))) Ac))) (Ab (Aj (i:=2) EF.nd rfl (Or.inl rfl) (Ap bF (rm hr) rfl Am (Aa (Ap aW (rm hr) rfl Am (Aa (pv 0) (BY Ac))) (BY (Aa (pv 1) Ac))))) (Ab (Aj (i:=3) EF.nd rfl (Or.inl rfl) (Ap bF (rm hr) rfl Am (Aa (Ap aW (rm hr) rfl Am (Aa (pv 0) (BY Ac))) (BY (Aa (pv 1) Ac))))) (Ab (JG (i:=4) rfl EF.nd rfl rfl (DX.of (So:=Ae FX) (No:=Su) (N:=["_law_k","_law_cell"]) (k:=2) (cs:=[]) rfl rfl (by decide +kernel)) (Gq false rfl T.b_enumerate (Aa (NI sl_list (pv 0) (MB Ag) (MB Ag)) Ac)) (fun _ _ _=>(RP (i:=0) (j:=1) rfl (by decide +kernel) rfl rfl rfl rfl)) (fun _ _ _=>Gp) (fun _ _ _=>(Ap aY (rm hr) rfl Am (Aa (pv 1) (Aa (pv 0) Ac))))) (Ab (Dy PassesOwn.never rfl (Fg rfl T.b_range (Ek CD (Ap aW (rm hr) rfl Am (Aa (pv 0) (BY Ac))) Ag Ac)) (AY (i:=5) EF.nd rfl (Or.inl rfl)) (Af (Dz (Fi PySem.F.plainAttrs_list PySem.F.slot_list_append PySem.F.type_list_append Ex (pv 4) (Aa (Ap aY (rm hr) rfl Am (Aa (Ap aW (rm hr) rfl Am (Aa (pv 0) (BY Ac))) (Ek Bm Ag (pv 5) Ac))) Ac))))) (Ab (Aj (i:=6) EF.nd rfl (Or.inl rfl) (AA GO (RU (pv 2) Cv (pv 3) Cv) (Fi PySem.F.plainAttrs_str PySem.F.slot_str_join PySem.F.type_str_join mt_join Cv (Aa (Js rfl (DX.of (So:=Ae FX) (No:=Su) (N:=["_law_run"]) (k:=1) (cs:=[]) rfl rfl (by decide +kernel)) (Jr (pv 4)) (fun _ _ _=>(EI (i:=0) (by decide +kernel) rfl rfl)) (fun _ _ _=>Gp) (fun _ _ _=>(Ap bC (rm hr) rfl Am (Aa (pv 0) Ac)))) Ac)))) (Ab (Aj (i:=7) EF.nd rfl (Or.inl rfl) (Ap dA (rm hr) rfl Am (Aa (pv 2) (Aa (pv 3) (Aa (pv 4) Ac))))) (Ab (Aj (i:=8) EF.nd rfl (Or.inl rfl) (NL eS (rm hr) rfl Am)) (Ab (AH (BJ (Ap bU (rm hr) rfl Am (Aa (pv 7) Ac))) (Af (Ao (FD (Ap aS (rm hr) rfl Am (Aa (pv 8) (Aa (pv 6) Ac))) (GN (Ap aS (rm hr) rfl Am (Aa (pv 8) (Aa (pv 6) Ac))))))) Aw) (Ab (Aj (i:=9) EF.nd rfl (Or.inl rfl) (Ap aH (rm hr) rfl Am (Aa (pv 8) (Aa (pv 6) Ac)))) (Ab (AH (PW.pt (Ej (Au (NM hr.units) (Ap aX (rm hr) rfl Am (Aa (pv 8) (Aa (pv 9) Ac))) (pv 7) (Ay _)) (Dx (Au IN (Ap aH (rm hr) rfl Am (Aa (pv 8) (Aa (pv 6) Ac))) (pv 9) (Ay _))))) (Af (Ao FY)) Aw) (Ab (Aj (i:=10) EF.nd rfl (Or.inl rfl) (NL eS (rm hr) rfl Am)) (Af (Ao (CQ (NN hr.units) (Ap aX (rm hr) rfl Am (Aa (pv 10) (Aa (Ap aH (rm hr) rfl Am (Aa (pv 10) (Aa (pv 6) Ac))) Ac))) (pv 7) (Ay _)))))))))))))))),?_⟩
  try dsimp only [cxK]
  refine ⟨_,rfl,l,ns,0,rfl,hS,by decide,_,rfl,fun b b40=>?_⟩;refine ⟨_,rfl,l,ns,1,rfl,hS,by decide,_,rfl,_,_,b,rfl,by decide,by decide,b40,fun x x1 x2=>?_⟩;refine ⟨_,rfl,l,ns,2,rfl,hS,by decide,_,rfl,_,_,b,rfl,by decide,by decide,b40,fun y y1 y2=>?_⟩;obtain ⟨cs,ecs,lcs⟩:=Tb ns;refine ⟨_,rfl,_,rfl,_,rfl,l,_,rfl,hS,fun p hp=>?_⟩;rw [ecs];have s1:=Ak (o:=.lst (cs.map V.int)) hp;have h1:upd H p (.lst (cs.map V.int)) p=some (.lst (cs.map V.int)):=Ah;generalize upd H p (.lst (cs.map V.int))=H1 at s1 h1 ⊢;refine ⟨p,rfl,⟨_,SqL.of h1⟩,?_⟩;refine Tj (b:=false) (xs:=cs.map V.int) (fun i acc H2=>∃ (ts:List Addr) (lr:List (Nat×Nat)),AE H1 H2/\acc=ts.map V.ref/\Paired (Ri H2) ts lr/\(∀ q ∈ lr,QOk q)/\lr.length=i) ⟨[],[],AE.refl H1,rfl,.nil,fun q hq=>(nomatch hq),rfl⟩ (fun i acc H2 z=>SqL.of (by obtain ⟨_,_,sm,_⟩:=z; exact sm _ _ h1)) ?_ ?_
  ·rintro i v acc H2 Te ev ⟨ts,lr,sm,rfl,pr,ok,li⟩ nT;rw [List.getElem?_map] at ev;obtain ⟨cell,ec,rfl⟩:=Option.map_eq_some_iff.mp ev;have hi:i < cs.length:=(List.getElem?_eq_some_iff.mp ec).1;have lt:=Paired.length pr;have s2:=Ak (o:=.tup [.int (i:Int),.int cell]) nT;refine IT Ah ⟨⟨[some (.int (i:Int)),some (.int cell)],rfl,rfl⟩,by rw [List.length_map]; exact Ed (by lia),Qi ⟨_,rfl,_,rfl,cell,(i:Int),rfl,by lia,by lia,fun q t H3 qk s3 ht=>?_⟩⟩;have s23:=s2.trans s3;refine ⟨ts ++ [t],lr ++ [q],sm.trans s23,by rw [List.map_append]; rfl,Paired.snoc (PairedM.imp (fun b c z=>s23 _ _ z) pr) ht,fun q' hq'=>?_,by rw [List.length_append,li]; rfl⟩;rcases List.mem_append.mp hq' with z | z
   ·exact ok q' z
   ·rw [List.mem_singleton.mp z];exact qk
  rintro acc H2 ⟨ts,lr,sm,rfl,pr,ok,li⟩ R nR;rw [List.length_map] at li;have s3:=Ak (o:=.lst (ts.map V.ref)) nR;have nR0:H R=none:=by
   cases e:H R with
   | none=>rfl
   | some o=>rw [sm _ _ (s1 _ _ e)] at nR; cases nR
  have hR3:upd H2 R (.lst (ts.map V.ref)) R=some (.lst (ts.map V.ref)):=Ah;have pr3:=PairedM.imp (fun b c z=>s3 _ _ z) pr;generalize upd H2 R (.lst (ts.map V.ref))=H3 at s3 hR3 pr3 ⊢;have sH3:=(s1.trans sm).trans s3;obtain ⟨m,hm⟩:=Int.eq_ofNat_of_zero_le (show 0<=atN ns 2 % 8 by lia);refine ⟨_,rfl,l,ns,2,rfl,sH3.seq hS,by decide,_,_,rfl,rfl,(by show (0:Int) < 8; decide),_,rfl,by lia,by lia,?_⟩;rw [hm,Int.toNat_natCast];refine Fn (n:=m) (fun j σ H4=>∃ (ts:List Addr) (lr:List (Nat×Nat)) (u5:Option V),σ=[some (.ref l),some (.int b),some (.int x),some (.int y),some (.ref R),u5,none,none,none,none,none]/\AE H H4/\H4 R=some (.lst (ts.map V.ref))/\Paired (Ri H4) ts lr/\(∀ q ∈ lr,QOk q)/\lr.length<=16+j) ⟨ts,lr,none,rfl,sH3,hR3,pr3,ok,by lia⟩ ?_ ?_
  ·rintro j σ H4 hj ⟨ts,lr,u5,rfl,s4,hR4,pr4,ok,li⟩;have lt:=Paired.length pr4;refine ⟨_,rfl,.inl ⟨rfl,_,SqL.of hR4⟩,_,rfl,l,ns,0,rfl,s4.seq hS,by decide,_,rfl,_,_,rfl,rfl,_,20+(0+(j:Int)),rfl,by lia,by lia,fun q t H5 qk s5 ht=>?_⟩;have hR5:=s5 _ _ hR4;refine ⟨R,_,_,rfl,rfl,hR5,by rw [List.length_map]; exact Ed (by lia),?_⟩;have tp:∀ {b:Addr} {ys:List V},H5 b=some (.tup ys)->upd H5 R (.lst (ts.map V.ref ++ [.ref t])) b=some (.tup ys):=fun {b ys} e=>by rw [Az (AR e hR5 (by intro z; cases z))]; exact e
   refine ⟨ts ++ [t],lr ++ [q],_,rfl,fun b' o e=>?_,by rw [Ah,List.map_append]; rfl,Paired.snoc (PairedM.imp (fun b c z=>tp (s5 _ _ z)) pr4) (tp ht),fun q' hq'=>?_,by rw [List.length_append]; show _+1<=_; lia⟩
   ·rw [Az (As e nR0)];exact s5 _ _ (s4 _ _ e)
   ·rcases List.mem_append.mp hq' with z | z
    ·exact ok q' z
    ·rw [List.mem_singleton.mp z];exact qk
  clear pr3 hR3 sH3 s3 pr ok li;rintro σ H4 ⟨ts,lr,u5,rfl,s4,hR4,pr4,ok,li⟩;have l23:lr.length<=23:=by lia
  have lt:=Paired.length pr4;have p40:(2:Int) ^ b<=2 ^ 40:=by
   have:=Nat.pow_le_pow_right (show 0 < 2 by decide) b40
   exact_mod_cast this
  have xs:x.natAbs<=2 ^ 40:=by lia
  have ys:y.natAbs<=2 ^ 40:=by lia
  have lg:∀ n:Int,n.natAbs<=2 ^ 40->n.natAbs.log2 < 1920:=fun n h=>by
   have:=Tn.LQ (m:=n.natAbs) (Nat.lt_of_le_of_lt h (by decide));rw [Int.natAbs_natCast] at this;exact this
  refine ⟨_,rfl,x,rfl,lg x xs,_,rfl,by decide +kernel,_,rfl,y,rfl,lg y ys,_,rfl,by decide +kernel,rfl,_,rfl,R,rfl,⟨_,SqL.of hR4⟩,?_⟩;refine Ti (xs:=ts.map V.ref) (fun i acc H5=>H4=H5/\∃ zs:List Str,acc=zs.map V.str/\(zs.map fun z=>z.cps.toList)=((lr.take i).map rnQ).map wd) ⟨rfl,[],rfl,rfl⟩ (fun i acc H5 _ z=>SqL.of (by rw [<-z.1]; exact hR4)) ?_ ?_
  ·rintro i v acc H5 ev ⟨rfl,zs,rfl,ez⟩;rw [List.getElem?_map] at ev;obtain ⟨t,et,rfl⟩:=Option.map_eq_some_iff.mp ev;obtain ⟨q,eq,ht⟩:=PairedM.getL pr4 et;have hi:i < lr.length:=(List.getElem?_eq_some_iff.mp eq).1;have lz:zs.length<=i:=by
    have:=congrArg List.length ez;rw [List.length_map,List.length_map,List.length_map,List.length_take] at this;lia
   refine ⟨⟨[some (.ref t)],rfl,rfl⟩,by rw [List.length_map]; exact Ed (by lia),Qi ⟨_,rfl,t,q,rfl,ht,ok q (List.mem_of_getElem? eq),fun z hz=>⟨rfl,zs ++ [z],by rw [List.map_append]; rfl,?_⟩⟩⟩;rw [List.map_append,ez,List.take_add_one,eq];show _ ++ [z.cps.toList]=List.map wd (List.map rnQ (lr.take i ++ [q]));rw [hz,List.map_append,List.map_append];rfl
  rintro acc H5 ⟨rfl,zs,rfl,ez⟩ p5 np5;rw [List.length_map,lt,List.take_length] at ez;have s5:=Ak (o:=.lst (zs.map V.str)) np5;have h5:upd H4 p5 (.lst (zs.map V.str)) p5=some (.lst (zs.map V.str)):=Ah;generalize upd H4 p5 (.lst (zs.map V.str))=H5 at s5 h5 ⊢;have ej:(Str.join (Str.ofString "") zs).cps.toList=txt (lr.map rnQ):=by
   rw [Tx.Oe,show (Str.ofString "").cps.toList=[] by decide +kernel,Tx.SM,ez];rfl
  have zl:zs.length=lr.length:=by
   have:=congrArg List.length ez;rw [List.length_map,List.length_map,List.length_map] at this;exact this
  have tl:=Pm ok;have zm:∀ t ∈ zs,t.length<=14:=fun t ht=>by
   have:t.cps.toList ∈ (lr.map rnQ).map wd:=by rw [<-ez]; exact List.mem_map.mpr ⟨t,ht,rfl⟩
   obtain ⟨r,hr1,hr2⟩:=List.mem_map.mp this;obtain ⟨q,hq,rfl⟩:=List.mem_map.mp hr1;rw [Nu.len,<-hr2];exact Rk (ok q hq)
  have nx13:=GZ (n:=x) (by lia);have ny13:=GZ (n:=y) (by lia);have ep:(Str.ofString (toString x) ++ Str.ofString "," ++ Str.ofString (toString y) ++ Str.ofString ":" ++ Str.join (Str.ofString "") zs).cps.toList=Sd x y lr:=by
   rw [Tx.Ba,Tx.Ba,Tx.Ba,Tx.Ba,GY,GY,ej,show (Str.ofString ",").cps.toList=[44] by decide +kernel,show (Str.ofString ":").cps.toList=[58] by decide +kernel];unfold Sd;simp
  have hd:(Str.ofString (toString x) ++ Str.ofString "," ++ Str.ofString (toString y) ++ Str.ofString ":").length<=30:=by
   rw [Nu.len,Tx.Ba,Tx.Ba,Tx.Ba,GY,GY,show (Str.ofString ",").cps.toList=[44] by decide +kernel,show (Str.ofString ":").cps.toList=[58] by decide +kernel];simp only [List.length_append,List.length_cons,List.length_nil];lia
  have jn:(Str.join (Str.ofString "") zs).length<=322:=by rw [Nu.len,ej]; lia
  refine ⟨_,p5,zs,rfl,rfl,SqL.of h5,Tx.join_ok 14 zm (by rw [zl,show (Str.ofString "").length=0 by decide +kernel]; lia),_,_,rfl,rfl,GG (by lia),?_⟩;have el:(Str.ofString (toString x) ++ Str.ofString "," ++ Str.ofString (toString y) ++ Str.ofString ":" ++ Str.join (Str.ofString "") zs).length<=1000:=by
   rw [Tx.Ni];lia
  generalize Str.ofString (toString x) ++ Str.ofString "," ++ Str.ofString (toString y) ++ Str.ofString ":" ++ Str.join (Str.ofString "") zs=z at ep el ⊢;have s05:=s4.trans s5;refine ⟨_,rfl,_,rfl,_,rfl,x,y,R,ts,lr,rfl,s5 _ _ hR4,PairedM.imp (fun b c z=>s5 _ _ z) pr4,ok,l23,fun L out H6 s6 nL hL ra pm ru=>?_⟩;have s06:=s05.trans s6;clear hR4 pr4 s4 s5 h5 s6 ej zl zm hd jn ez;have wo:=Nk x y ok lr.length;rw [List.take_length] at wo;have wle:=wo.le;obtain ⟨rows,er,ef⟩:=rows_of wo pm;intro gx dx' nx ndx nex;refine ⟨gx,dx',rfl,Ah,fun g H7 gp N=>⟨rfl,?_⟩⟩;have s7:AE H6 H7:=fun b o e=>N.kp b o (by rw [Az (As e nx),Az (As e ndx)]; exact e) (gp ▸ As e nx);subst gp;have fu:=Bp.new N;have ng:=N.none;clear N;have ng3:∀ y ∈ [g.lv,g.pt,g.nm],H6 y=none:=fun y hy=>ng y (by simp [DK] at *; lia);have fxn:∀ {Ha Hb:Hp},AE H6 Ha->Fr g Ha Hb->AE H6 Hb:=fun {Ha Hb} sa fr b o e=>fr b o (sa _ _ e) (fun q=>by subst q; rw [ng3 _ (by simp)] at e; cases e) (fun q=>by subst q; rw [ng3 _ (by simp)] at e; cases e) (fun q=>by subst q; rw [ng3 _ (by simp)] at e; cases e);have x13:x.natAbs < 9999999999999:=by lia
  have y13:y.natAbs < 9999999999999:=by lia
  have few0:G0.length < 3900000:=by rw [IG]; decide
  refine ⟨_,rfl,L,out,rows,rfl,s7 _ _ hL,ra.same s7,er,fun bb hb=>⟨bb,rfl,?_⟩⟩;by_cases far:(wk x y lr).far
  ·obtain rfl:bb=true:=hb.mpr (ef.mpr far);refine Cg ⟨_,rfl,_,rfl,fun H8=>∃ G8,Bp a H8 g G8/\AM G0 G8 3146032,rfl,fun Q' E' kE=>⟨g,G0,x,y,z,lr,rfl,fu,ep,el,x13,y13,ok,l23,few0,fun nf=>absurd far nf,fun _ c G8 H8 ki fr8 fu8 go8=>kE c H8 ki ⟨G8,fu8,go8⟩⟩,?_⟩;rintro H8 H9 ⟨G8,fu8,go8⟩ s9;have g8:=go8.few;rw [IG] at g8;refine ⟨true,rfl,Cg ⟨_,rfl,_,rfl,fun _=>True,rfl,fun Q' E' kE=>⟨g,G8,x,y,z,lr,rfl,fu8.same s9,ep,el,x13,y13,ok,l23,by lia,fun nf=>absurd far nf,fun _ c G8 H8 ki fr8 fu8 go8=>kE c H8 ki trivial⟩,fun H10 H11 _ _=>kq H11⟩⟩
  obtain rfl:bb=false:=by
   cases bb with
   | false=>rfl
   | true=>exact absurd (ef.mp (hb.mp rfl)) far
  have cnt:∀ {G1:Gv} {n1 r1:Nat},GOk G1->Al G1 r1 ((n1+1:Nat):Int)->(∀ u v,AQ G1 n1 r1 u v=(wk x y lr).φ u v)->Bc G1 (n1+1) r1<=400/\(Ef G1 (n1+1) r1 (-(2 ^ n1)) (-(2 ^ n1))).Perm (wk x y lr).cs:=fun {G1 n1 r1} ok1 l1 e1=>by
   have p1:=Qh ok1 l1 e1 wo.nd wo.mem;have p2:=Dr ok1 (x:=-(2 ^ n1)) (y:=-(2 ^ n1)) l1;have p3:=p1.length_eq;exact ⟨by lia,p1⟩
  refine Bb ⟨_,rfl,_,rfl,g,G0,x,y,z,lr,rfl,fu,ep,el,x13,y13,ok,l23,few0,fun _ r G8 H8 B8 fr8 fu8 go8 vl8=>?_,fun q=>absurd q far⟩;have g8:=go8.few;rw [IG] at g8;have s8:=fxn s7 fr8;obtain ⟨n8,⟨l8,t8,n40⟩,e8⟩:=vl8.ex;obtain ⟨c8,q8⟩:=cnt fu8.ok l8 e8;refine ⟨_,rfl,_,rfl,g,G8,r,n8,rfl,fu8,⟨l8,t8,n40⟩,by lia,c8,fun L9 out9 H9 s9 hL9 ra9 pm9 ru9=>?_⟩;have s09:=s8.trans s9;refine ⟨_,rfl,⟨L9,L,out9,out,rfl,rfl,SqL.of hL9,SqL.of (s09 _ _ hL),ra9,ra.same s09,JD (EX.rows ru9) (EX.rows ru) (pm9.trans (q8.trans pm.symm))⟩,_,rfl,Bb ?_⟩;have fu9:=fu8.same s9;refine ⟨_,rfl,_,rfl,g,G8,x,y,z,lr,rfl,fu9,ep,el,x13,y13,ok,l23,by lia,fun _ r2 G10 H10 B10 fr10 fu10 go10 vl10=>?_,fun q=>absurd q far⟩;obtain ⟨q10,e10⟩:=fu10.g0;obtain rfl:=Vl.eq e10 fu10.ok (vl8.app fu8.ok go10) vl10 fun u v=>rfl;have s10:=fxn s09 fr10;refine ⟨_,rfl,rfl,_,rfl,PH rfl ?_⟩;intro gx2 dx2 nx2 ndx2 nex2;refine ⟨gx2,dx2,rfl,Ah,fun g2 H11 gp2 N2=>⟨rfl,?_⟩⟩;have s11:AE H10 H11:=fun b o e=>N2.kp b o (by rw [Az (As e nx2),Az (As e ndx2)]; exact e) (gp2 ▸ As e nx2);subst gp2;have fu11:=Bp.new N2;have ng2:=N2.none;clear N2;have ng4:∀ y ∈ [g2.lv,g2.pt,g2.nm],H10 y=none:=fun y hy=>ng2 y (by simp [DK] at *; lia);have fxn2:∀ {Ha Hb:Hp},AE H10 Ha->Fr g2 Ha Hb->AE H10 Hb:=fun {Ha Hb} sa fr b o e=>fr b o (sa _ _ e) (fun q=>by subst q; rw [ng4 _ (by simp)] at e; cases e) (fun q=>by subst q; rw [ng4 _ (by simp)] at e; cases e) (fun q=>by subst q; rw [ng4 _ (by simp)] at e; cases e);refine ⟨_,rfl,_,rfl,_,rfl,g2,G0,x,y,z,lr,rfl,fu11,ep,el,x13,y13,ok,l23,few0,fun _ r3 G12 H12 B12 fr12 fu12 go12 vl12=>?_,fun q=>absurd q far⟩;have g12:=go12.few;rw [IG] at g12;have s12:=s10.trans (fxn2 s11 fr12);obtain ⟨n12,⟨l12,t12,n42⟩,e12⟩:=vl12.ex;obtain ⟨c12,q12⟩:=cnt fu12.ok l12 e12;refine ⟨g2,G12,r3,n12,rfl,fu12,⟨l12,t12,n42⟩,by lia,c12,fun L13 out13 H13 s13 hL13 ra13 pm13 ru13=>?_⟩;have s013:=s12.trans s13;exact ⟨_,rfl,⟨L13,L,out13,out,rfl,rfl,SqL.of hL13,SqL.of (s013 _ _ hL),ra13,ra.same s013,JD (EX.rows ru13) (EX.rows ru) (pm13.trans (q12.trans pm.symm))⟩,kq _⟩
end
end J
namespace J
open PySem L2
theorem ar1 {α:Type}:∀ us:List α,us.length=1->∃ a0,us=[a0]
 | [a0],_=>⟨a0,rfl⟩
theorem ar2 {α:Type}:∀ us:List α,us.length=2->∃ a0 a1,us=[a0,a1]
 | [a0,a1],_=>⟨a0,a1,rfl⟩
theorem ar3 {α:Type}:∀ us:List α,us.length=3->∃ a0 a1 a2,us=[a0,a1,a2]
 | [a0,a1,a2],_=>⟨a0,a1,a2,rfl⟩
theorem ar4 {α:Type}:∀ us:List α,us.length=4->∃ a0 a1 a2 a3,us=[a0,a1,a2,a3]
 | [a0,a1,a2,a3],_=>⟨a0,a1,a2,a3,rfl⟩
theorem ar5 {α:Type}:∀ us:List α,us.length=5->∃ a0 a1 a2 a3 a4,us=[a0,a1,a2,a3,a4]
 | [a0,a1,a2,a3,a4],_=>⟨a0,a1,a2,a3,a4,rfl⟩
theorem fin {l:PySem.W.OpenLaw} {w:World} {K:PySem.W.Frag} {h:Heap} {mg:Str->Option Value} {fa:Addr} (X:K.In h) (G:h.Ns mainGlobals mg) (hfa:mg "law" = some (.ref fa))
  {c_Grove:Addr} {f0:Addr} {od0 an0:Option Addr} {sl0:Array (Option Value)} {oc0 kV0 dc0 pm0 cd0 ct0:Value} {f1:Addr} {od1 an1:Option Addr} {sl1:Array (Option Value)} {oc1 kV1 dc1 pm1 cd1 ct1:Value} {f2:Addr} {od2 an2:Option Addr} {sl2:Array (Option Value)} {oc2 kV2 dc2 pm2 cd2 ct2:Value} {f3:Addr} {od3 an3:Option Addr} {sl3:Array (Option Value)} {oc3 kV3 dc3 pm3 cd3 ct3:Value} {f4:Addr} {od4 an4:Option Addr} {sl4:Array (Option Value)} {oc4 kV4 dc4 pm4 cd4 ct4:Value} {f5:Addr} {od5 an5:Option Addr} {sl5:Array (Option Value)} {oc5 kV5 dc5 pm5 cd5 ct5:Value} {f6:Addr} {od6 an6:Option Addr} {sl6:Array (Option Value)} {oc6 kV6 dc6 pm6 cd6 ct6:Value} {f7:Addr} {od7 an7:Option Addr} {sl7:Array (Option Value)} {oc7 kV7 dc7 pm7 cd7 ct7:Value} {f8:Addr} {od8 an8:Option Addr} {sl8:Array (Option Value)} {oc8 kV8 dc8 pm8 cd8 ct8:Value} {f9:Addr} {od9 an9:Option Addr} {sl9:Array (Option Value)} {oc9 kV9 dc9 pm9 cd9 ct9:Value} {f10:Addr} {od10 an10:Option Addr} {sl10:Array (Option Value)} {oc10 kV10 dc10 pm10 cd10 ct10:Value} {f11:Addr} {od11 an11:Option Addr} {sl11:Array (Option Value)} {oc11 kV11 dc11 pm11 cd11 ct11:Value} {f12:Addr} {od12 an12:Option Addr} {sl12:Array (Option Value)} {oc12 kV12 dc12 pm12 cd12 ct12:Value} {f13:Addr} {od13 an13:Option Addr} {sl13:Array (Option Value)} {oc13 kV13 dc13 pm13 cd13 ct13:Value} {f14:Addr} {od14 an14:Option Addr} {sl14:Array (Option Value)} {oc14 kV14 dc14 pm14 cd14 ct14:Value} {f15:Addr} {od15 an15:Option Addr} {sl15:Array (Option Value)} {oc15 kV15 dc15 pm15 cd15 ct15:Value} {f16:Addr} {od16 an16:Option Addr} {sl16:Array (Option Value)} {oc16 kV16 dc16 pm16 cd16 ct16:Value} {f17:Addr} {od17 an17:Option Addr} {sl17:Array (Option Value)} {oc17 kV17 dc17 pm17 cd17 ct17:Value} {f18:Addr} {od18 an18:Option Addr} {sl18:Array (Option Value)} {oc18 kV18 dc18 pm18 cd18 ct18:Value} {f19:Addr} {od19 an19:Option Addr} {sl19:Array (Option Value)} {oc19 kV19 dc19 pm19 cd19 ct19:Value} {f20:Addr} {od20 an20:Option Addr} {sl20:Array (Option Value)} {oc20 kV20 dc20 pm20 cd20 ct20:Value} {f21:Addr} {od21 an21:Option Addr} {sl21:Array (Option Value)} {oc21 kV21 dc21 pm21 cd21 ct21:Value} {f22:Addr} {od22 an22:Option Addr} {sl22:Array (Option Value)} {oc22 kV22 dc22 pm22 cd22 ct22:Value} {f23:Addr} {od23 an23:Option Addr} {sl23:Array (Option Value)} {oc23 kV23 dc23 pm23 cd23 ct23:Value} {f24:Addr} {od24 an24:Option Addr} {sl24:Array (Option Value)} {oc24 kV24 dc24 pm24 cd24 ct24:Value} {f25:Addr} {od25 an25:Option Addr} {sl25:Array (Option Value)} {oc25 kV25 dc25 pm25 cd25 ct25:Value} {f26:Addr} {od26 an26:Option Addr} {sl26:Array (Option Value)} {oc26 kV26 dc26 pm26 cd26 ct26:Value} {f27:Addr} {od27 an27:Option Addr} {sl27:Array (Option Value)} {oc27 kV27 dc27 pm27 cd27 ct27:Value} {f28:Addr} {od28 an28:Option Addr} {sl28:Array (Option Value)} {oc28 kV28 dc28 pm28 cd28 ct28:Value} {f29:Addr} {od29 an29:Option Addr} {sl29:Array (Option Value)} {oc29 kV29 dc29 pm29 cd29 ct29:Value} {f30:Addr} {od30 an30:Option Addr} {sl30:Array (Option Value)} {oc30 kV30 dc30 pm30 cd30 ct30:Value} {f31:Addr} {od31 an31:Option Addr} {sl31:Array (Option Value)} {oc31 kV31 dc31 pm31 cd31 ct31:Value} {f32:Addr} {od32 an32:Option Addr} {sl32:Array (Option Value)} {oc32 kV32 dc32 pm32 cd32 ct32:Value} {f33:Addr} {od33 an33:Option Addr} {sl33:Array (Option Value)} {oc33 kV33 dc33 pm33 cd33 ct33:Value} {f34:Addr} {od34 an34:Option Addr} {sl34:Array (Option Value)} {oc34 kV34 dc34 pm34 cd34 ct34:Value} {f35:Addr} {od35 an35:Option Addr} {sl35:Array (Option Value)} {oc35 kV35 dc35 pm35 cd35 ct35:Value} {f36:Addr} {od36 an36:Option Addr} {sl36:Array (Option Value)} {oc36 kV36 dc36 pm36 cd36 ct36:Value} {f37:Addr} {od37 an37:Option Addr} {sl37:Array (Option Value)} {oc37 kV37 dc37 pm37 cd37 ct37:Value} {f38:Addr} {od38 an38:Option Addr} {sl38:Array (Option Value)} {oc38 kV38 dc38 pm38 cd38 ct38:Value} {f39:Addr} {od39 an39:Option Addr} {sl39:Array (Option Value)} {oc39 kV39 dc39 pm39 cd39 ct39:Value} {f40:Addr} {od40 an40:Option Addr} {sl40:Array (Option Value)} {oc40 kV40 dc40 pm40 cd40 ct40:Value} {f41:Addr} {od41 an41:Option Addr} {sl41:Array (Option Value)} {oc41 kV41 dc41 pm41 cd41 ct41:Value} {f42:Addr} {od42 an42:Option Addr} {sl42:Array (Option Value)} {oc42 kV42 dc42 pm42 cd42 ct42:Value} {f43:Addr} {od43 an43:Option Addr} {sl43:Array (Option Value)} {oc43 kV43 dc43 pm43 cd43 ct43:Value} {f44:Addr} {od44 an44:Option Addr} {sl44:Array (Option Value)} {oc44 kV44 dc44 pm44 cd44 ct44:Value} {f45:Addr} {od45 an45:Option Addr} {sl45:Array (Option Value)} {oc45 kV45 dc45 pm45 cd45 ct45:Value} {f46:Addr} {od46 an46:Option Addr} {sl46:Array (Option Value)} {oc46 kV46 dc46 pm46 cd46 ct46:Value} {f47:Addr} {od47 an47:Option Addr} {sl47:Array (Option Value)} {oc47 kV47 dc47 pm47 cd47 ct47:Value} {f48:Addr} {od48 an48:Option Addr} {sl48:Array (Option Value)} {oc48 kV48 dc48 pm48 cd48 ct48:Value} {t_FIGURES:Tok} {x_FIGURES:Str} {t_MOST_FIGURES:Tok} {t_STATES:Tok} {t_TOP_LEVEL:Tok} {t_LIMIT:Tok} {t_LEAST_LEVEL:Tok} {t_BLANK_SIGN:Tok} {x_BLANK_SIGN:Str} {t_ROW_SIGN:Tok} {x_ROW_SIGN:Str} {t_STATE_SIGNS:Tok} {x_STATE_SIGNS:Str} {t_RUN_SIGNS:Tok} {x_RUN_SIGNS:Str} {t_MOST_AMOUNT_FIGURES:Tok} {t_MOST_PLACE:Tok} {x_FieldError:Addr} {x_NoNumber:Addr} {x_NoRule:Addr} {x_Restless:Addr} {x_NoSquare:Addr} {x_NoLevel:Addr} {x_NoState:Addr} {x_NoBox:Addr} {x_TooFar:Addr} {x_TooMany:Addr} {x_NoSteps:Addr} {x_NoPattern:Addr} {x_NoName:Addr} {x_NoRow:Addr}
  (dH:PySem.W.nsIn K mainGlobals "Grove" = some (some (.ref c_Grove)))
  (pg_Grove:PySem.W.plainGet K c_Grove Str.empty=true)
  (hd_Grove:PySem.W.hasDictIn K c_Grove=true)
  (po_Grove:PySem.W.plainOver K c_Grove=true)
  (sa_Grove:PySem.W.findIn K (.ref c_Grove) "__setattr__" = some (some (.builtin "object.__setattr__")))
  (mk_Grove:PySem.W.makesIn K c_Grove=true)
  (kc_Grove:PySem.W.keepIn K (.ref c_Grove)=true)
  (na_Grove_levels:PySem.W.findIn K (.ref c_Grove) "levels" = some none)
  (na_Grove_parts:PySem.W.findIn K (.ref c_Grove) "parts" = some none)
  (na_Grove_numbers:PySem.W.findIn K (.ref c_Grove) "numbers" = some none)
  (na_Grove_bares:PySem.W.findIn K (.ref c_Grove) "bares" = some none)
  (na_Grove_amounts:PySem.W.findIn K (.ref c_Grove) "amounts" = some none)
  (na_Grove_boxes:PySem.W.findIn K (.ref c_Grove) "boxes" = some none)
  (a0:PySem.W.nsIn K mainGlobals "is_whole" = some (some (.ref f0)))
  (l0:K.lookup f0=some ⟨oc0,od0,.func (PySem.W.fnOf "is_whole" "is_whole" (Aq DQ) (An DQ) (Ae DQ) .none kV0 dc0 pm0 an0 cd0 ct0),sl0⟩)
  (c0:PySem.W.codeIn K cd0 "is_whole" = true)
  (k0:PySem.W.keepIn K (.ref f0)=true)
  (a1:PySem.W.nsIn K mainGlobals "read_whole" = some (some (.ref f1)))
  (l1:K.lookup f1=some ⟨oc1,od1,.func (PySem.W.fnOf "read_whole" "read_whole" (Aq CH) (An CH) (Ae CH) .none kV1 dc1 pm1 an1 cd1 ct1),sl1⟩)
  (c1:PySem.W.codeIn K cd1 "read_whole" = true)
  (k1:PySem.W.keepIn K (.ref f1)=true)
  (a2:PySem.W.nsIn K mainGlobals "without_minus" = some (some (.ref f2)))
  (l2:K.lookup f2=some ⟨oc2,od2,.func (PySem.W.fnOf "without_minus" "without_minus" (Aq BK) (An BK) (Ae BK) .none kV2 dc2 pm2 an2 cd2 ct2),sl2⟩)
  (c2:PySem.W.codeIn K cd2 "without_minus" = true)
  (k2:PySem.W.keepIn K (.ref f2)=true)
  (a3:PySem.W.nsIn K mainGlobals "are_figures" = some (some (.ref f3)))
  (l3:K.lookup f3=some ⟨oc3,od3,.func (PySem.W.fnOf "are_figures" "are_figures" (Aq BR) (An BR) (Ae BR) .none kV3 dc3 pm3 an3 cd3 ct3),sl3⟩)
  (c3:PySem.W.codeIn K cd3 "are_figures" = true)
  (k3:PySem.W.keepIn K (.ref f3)=true)
  (a4:PySem.W.nsIn K mainGlobals "is_state" = some (some (.ref f4)))
  (l4:K.lookup f4=some ⟨oc4,od4,.func (PySem.W.fnOf "is_state" "is_state" (Aq DR) (An DR) (Ae DR) .none kV4 dc4 pm4 an4 cd4 ct4),sl4⟩)
  (c4:PySem.W.codeIn K cd4 "is_state" = true)
  (k4:PySem.W.keepIn K (.ref f4)=true)
  (a5:PySem.W.nsIn K mainGlobals "lies_within" = some (some (.ref f5)))
  (l5:K.lookup f5=some ⟨oc5,od5,.func (PySem.W.fnOf "lies_within" "lies_within" (Aq Co) (An Co) (Ae Co) .none kV5 dc5 pm5 an5 cd5 ct5),sl5⟩)
  (c5:PySem.W.codeIn K cd5 "lies_within" = true)
  (k5:PySem.W.keepIn K (.ref f5)=true)
  (a6:PySem.W.nsIn K mainGlobals "reach_of" = some (some (.ref f6)))
  (l6:K.lookup f6=some ⟨oc6,od6,.func (PySem.W.fnOf "reach_of" "reach_of" (Aq DP) (An DP) (Ae DP) .none kV6 dc6 pm6 an6 cd6 ct6),sl6⟩)
  (c6:PySem.W.codeIn K cd6 "reach_of" = true)
  (k6:PySem.W.keepIn K (.ref f6)=true)
  (a7:PySem.W.nsIn K mainGlobals "bare_field" = some (some (.ref f7)))
  (l7:K.lookup f7=some ⟨oc7,od7,.func (PySem.W.fnOf "bare_field" "bare_field" (Aq CJ) (An CJ) (Ae CJ) .none kV7 dc7 pm7 an7 cd7 ct7),sl7⟩)
  (c7:PySem.W.codeIn K cd7 "bare_field" = true)
  (k7:PySem.W.keepIn K (.ref f7)=true)
  (a8:PySem.W.nsIn K mainGlobals "widened" = some (some (.ref f8)))
  (l8:K.lookup f8=some ⟨oc8,od8,.func (PySem.W.fnOf "widened" "widened" (Aq Er) (An Er) (Ae Er) .none kV8 dc8 pm8 an8 cd8 ct8),sl8⟩)
  (c8:PySem.W.codeIn K cd8 "widened" = true)
  (k8:PySem.W.keepIn K (.ref f8)=true)
  (a9:PySem.W.nsIn K mainGlobals "trimmed" = some (some (.ref f9)))
  (l9:K.lookup f9=some ⟨oc9,od9,.func (PySem.W.fnOf "trimmed" "trimmed" (Aq Es) (An Es) (Ae Es) .none kV9 dc9 pm9 an9 cd9 ct9),sl9⟩)
  (c9:PySem.W.codeIn K cd9 "trimmed" = true)
  (k9:PySem.W.keepIn K (.ref f9)=true)
  (a10:PySem.W.nsIn K mainGlobals "middle_of" = some (some (.ref f10)))
  (l10:K.lookup f10=some ⟨oc10,od10,.func (PySem.W.fnOf "middle_of" "middle_of" (Aq Cz) (An Cz) (Ae Cz) .none kV10 dc10 pm10 an10 cd10 ct10),sl10⟩)
  (c10:PySem.W.codeIn K cd10 "middle_of" = true)
  (k10:PySem.W.keepIn K (.ref f10)=true)
  (a11:PySem.W.nsIn K mainGlobals "is_bare_around" = some (some (.ref f11)))
  (l11:K.lookup f11=some ⟨oc11,od11,.func (PySem.W.fnOf "is_bare_around" "is_bare_around" (Aq BB) (An BB) (Ae BB) .none kV11 dc11 pm11 an11 cd11 ct11),sl11⟩)
  (c11:PySem.W.codeIn K cd11 "is_bare_around" = true)
  (k11:PySem.W.keepIn K (.ref f11)=true)
  (a12:PySem.W.nsIn K mainGlobals "widened_over" = some (some (.ref f12)))
  (l12:K.lookup f12=some ⟨oc12,od12,.func (PySem.W.fnOf "widened_over" "widened_over" (Aq BU) (An BU) (Ae BU) .none kV12 dc12 pm12 an12 cd12 ct12),sl12⟩)
  (c12:PySem.W.codeIn K cd12 "widened_over" = true)
  (k12:PySem.W.keepIn K (.ref f12)=true)
  (a13:PySem.W.nsIn K mainGlobals "filled" = some (some (.ref f13)))
  (l13:K.lookup f13=some ⟨oc13,od13,.func (PySem.W.fnOf "filled" "filled" (Aq EH) (An EH) (Ae EH) .none kV13 dc13 pm13 an13 cd13 ct13),sl13⟩)
  (c13:PySem.W.codeIn K cd13 "filled" = true)
  (k13:PySem.W.keepIn K (.ref f13)=true)
  (a14:PySem.W.nsIn K mainGlobals "check_box" = some (some (.ref f14)))
  (l14:K.lookup f14=some ⟨oc14,od14,.func (PySem.W.fnOf "check_box" "check_box" (Aq Dm) (An Dm) (Ae Dm) .none kV14 dc14 pm14 an14 cd14 ct14),sl14⟩)
  (c14:PySem.W.codeIn K cd14 "check_box" = true)
  (k14:PySem.W.keepIn K (.ref f14)=true)
  (a15:PySem.W.nsIn K mainGlobals "part_in" = some (some (.ref f15)))
  (l15:K.lookup f15=some ⟨oc15,od15,.func (PySem.W.fnOf "part_in" "part_in" (Aq Et) (An Et) (Ae Et) .none kV15 dc15 pm15 an15 cd15 ct15),sl15⟩)
  (c15:PySem.W.codeIn K cd15 "part_in" = true)
  (k15:PySem.W.keepIn K (.ref f15)=true)
  (a16:PySem.W.nsIn K mainGlobals "mixed" = some (some (.ref f16)))
  (l16:K.lookup f16=some ⟨oc16,od16,.func (PySem.W.fnOf "mixed" "mixed" (Aq Fw) (An Fw) (Ae Fw) .none kV16 dc16 pm16 an16 cd16 ct16),sl16⟩)
  (c16:PySem.W.codeIn K cd16 "mixed" = true)
  (k16:PySem.W.keepIn K (.ref f16)=true)
  (a17:PySem.W.nsIn K mainGlobals "mixed_quarters" = some (some (.ref f17)))
  (l17:K.lookup f17=some ⟨oc17,od17,.func (PySem.W.fnOf "mixed_quarters" "mixed_quarters" (Aq Bk) (An Bk) (Ae Bk) .none kV17 dc17 pm17 an17 cd17 ct17),sl17⟩)
  (c17:PySem.W.codeIn K cd17 "mixed_quarters" = true)
  (k17:PySem.W.keepIn K (.ref f17)=true)
  (a18:PySem.W.nsIn K mainGlobals "split_stretch" = some (some (.ref f18)))
  (l18:K.lookup f18=some ⟨oc18,od18,.func (PySem.W.fnOf "split_stretch" "split_stretch" (Aq BL) (An BL) (Ae BL) .none kV18 dc18 pm18 an18 cd18 ct18),sl18⟩)
  (c18:PySem.W.codeIn K cd18 "split_stretch" = true)
  (k18:PySem.W.keepIn K (.ref f18)=true)
  (a19:PySem.W.nsIn K mainGlobals "read_runs" = some (some (.ref f19)))
  (l19:K.lookup f19=some ⟨oc19,od19,.func (PySem.W.fnOf "read_runs" "read_runs" (Aq Dl) (An Dl) (Ae Dl) .none kV19 dc19 pm19 an19 cd19 ct19),sl19⟩)
  (c19:PySem.W.codeIn K cd19 "read_runs" = true)
  (k19:PySem.W.keepIn K (.ref f19)=true)
  (a20:PySem.W.nsIn K mainGlobals "read_amount" = some (some (.ref f20)))
  (l20:K.lookup f20=some ⟨oc20,od20,.func (PySem.W.fnOf "read_amount" "read_amount" (Aq Cn) (An Cn) (Ae Cn) .none kV20 dc20 pm20 an20 cd20 ct20),sl20⟩)
  (c20:PySem.W.codeIn K cd20 "read_amount" = true)
  (k20:PySem.W.keepIn K (.ref f20)=true)
  (a21:PySem.W.nsIn K mainGlobals "read_pattern" = some (some (.ref f21)))
  (l21:K.lookup f21=some ⟨oc21,od21,.func (PySem.W.fnOf "read_pattern" "read_pattern" (Aq BV) (An BV) (Ae BV) .none kV21 dc21 pm21 an21 cd21 ct21),sl21⟩)
  (c21:PySem.W.codeIn K cd21 "read_pattern" = true)
  (k21:PySem.W.keepIn K (.ref f21)=true)
  (a22:PySem.W.nsIn K mainGlobals "read_place" = some (some (.ref f22)))
  (l22:K.lookup f22=some ⟨oc22,od22,.func (PySem.W.fnOf "read_place" "read_place" (Aq CI) (An CI) (Ae CI) .none kV22 dc22 pm22 an22 cd22 ct22),sl22⟩)
  (c22:PySem.W.codeIn K cd22 "read_place" = true)
  (k22:PySem.W.keepIn K (.ref f22)=true)
  (a23:PySem.W.nsIn K mainGlobals "field_of_runs" = some (some (.ref f23)))
  (l23:K.lookup f23=some ⟨oc23,od23,.func (PySem.W.fnOf "field_of_runs" "field_of_runs" (Aq BM) (An BM) (Ae BM) .none kV23 dc23 pm23 an23 cd23 ct23),sl23⟩)
  (c23:PySem.W.codeIn K cd23 "field_of_runs" = true)
  (k23:PySem.W.keepIn K (.ref f23)=true)
  (a24:PySem.W.nsIn K mainGlobals "_law_at" = some (some (.ref f24)))
  (l24:K.lookup f24=some ⟨oc24,od24,.func (PySem.W.fnOf "_law_at" "_law_at" (Aq Eu) (An Eu) (Ae Eu) .none kV24 dc24 pm24 an24 cd24 ct24),sl24⟩)
  (c24:PySem.W.codeIn K cd24 "_law_at" = true)
  (k24:PySem.W.keepIn K (.ref f24)=true)
  (a25:PySem.W.nsIn K mainGlobals "_law_whole" = some (some (.ref f25)))
  (l25:K.lookup f25=some ⟨oc25,od25,.func (PySem.W.fnOf "_law_whole" "_law_whole" (Aq CK) (An CK) (Ae CK) .none kV25 dc25 pm25 an25 cd25 ct25),sl25⟩)
  (c25:PySem.W.codeIn K cd25 "_law_whole" = true)
  (k25:PySem.W.keepIn K (.ref f25)=true)
  (a26:PySem.W.nsIn K mainGlobals "_law_mix" = some (some (.ref f26)))
  (l26:K.lookup f26=some ⟨oc26,od26,.func (PySem.W.fnOf "_law_mix" "_law_mix" (Aq DS) (An DS) (Ae DS) .none kV26 dc26 pm26 an26 cd26 ct26),sl26⟩)
  (c26:PySem.W.codeIn K cd26 "_law_mix" = true)
  (k26:PySem.W.keepIn K (.ref f26)=true)
  (a27:PySem.W.nsIn K mainGlobals "_law_bits" = some (some (.ref f27)))
  (l27:K.lookup f27=some ⟨oc27,od27,.func (PySem.W.fnOf "_law_bits" "_law_bits" (Aq Do) (An Do) (Ae Do) .none kV27 dc27 pm27 an27 cd27 ct27),sl27⟩)
  (c27:PySem.W.codeIn K cd27 "_law_bits" = true)
  (k27:PySem.W.keepIn K (.ref f27)=true)
  (a28:PySem.W.nsIn K mainGlobals "_law_place" = some (some (.ref f28)))
  (l28:K.lookup f28=some ⟨oc28,od28,.func (PySem.W.fnOf "_law_place" "_law_place" (Aq CL) (An CL) (Ae CL) .none kV28 dc28 pm28 an28 cd28 ct28),sl28⟩)
  (c28:PySem.W.codeIn K cd28 "_law_place" = true)
  (k28:PySem.W.keepIn K (.ref f28)=true)
  (a29:PySem.W.nsIn K mainGlobals "_law_count" = some (some (.ref f29)))
  (l29:K.lookup f29=some ⟨oc29,od29,.func (PySem.W.fnOf "_law_count" "_law_count" (Aq Cd) (An Cd) (Ae Cd) .none kV29 dc29 pm29 an29 cd29 ct29),sl29⟩)
  (c29:PySem.W.codeIn K cd29 "_law_count" = true)
  (k29:PySem.W.keepIn K (.ref f29)=true)
  (a30:PySem.W.nsIn K mainGlobals "_law_is_field" = some (some (.ref f30)))
  (l30:K.lookup f30=some ⟨oc30,od30,.func (PySem.W.fnOf "_law_is_field" "_law_is_field" (Aq BO) (An BO) (Ae BO) .none kV30 dc30 pm30 an30 cd30 ct30),sl30⟩)
  (c30:PySem.W.codeIn K cd30 "_law_is_field" = true)
  (k30:PySem.W.keepIn K (.ref f30)=true)
  (a31:PySem.W.nsIn K mainGlobals "_law_within" = some (some (.ref f31)))
  (l31:K.lookup f31=some ⟨oc31,od31,.func (PySem.W.fnOf "_law_within" "_law_within" (Aq Cp) (An Cp) (Ae Cp) .none kV31 dc31 pm31 an31 cd31 ct31),sl31⟩)
  (c31:PySem.W.codeIn K cd31 "_law_within" = true)
  (k31:PySem.W.keepIn K (.ref f31)=true)
  (a32:PySem.W.nsIn K mainGlobals "_law_walked" = some (some (.ref f32)))
  (l32:K.lookup f32=some ⟨oc32,od32,.func (PySem.W.fnOf "_law_walked" "_law_walked" (Aq Cq) (An Cq) (Ae Cq) .none kV32 dc32 pm32 an32 cd32 ct32),sl32⟩)
  (c32:PySem.W.codeIn K cd32 "_law_walked" = true)
  (k32:PySem.W.keepIn K (.ref f32)=true)
  (a33:PySem.W.nsIn K mainGlobals "_law_run_by" = some (some (.ref f33)))
  (l33:K.lookup f33=some ⟨oc33,od33,.func (PySem.W.fnOf "_law_run_by" "_law_run_by" (Aq Cr) (An Cr) (Ae Cr) .none kV33 dc33 pm33 an33 cd33 ct33),sl33⟩)
  (c33:PySem.W.codeIn K cd33 "_law_run_by" = true)
  (k33:PySem.W.keepIn K (.ref f33)=true)
  (a34:PySem.W.nsIn K mainGlobals "_law_run_text" = some (some (.ref f34)))
  (l34:K.lookup f34=some ⟨oc34,od34,.func (PySem.W.fnOf "_law_run_text" "_law_run_text" (Aq BN) (An BN) (Ae BN) .none kV34 dc34 pm34 an34 cd34 ct34),sl34⟩)
  (c34:PySem.W.codeIn K cd34 "_law_run_text" = true)
  (k34:PySem.W.keepIn K (.ref f34)=true)
  (a35:PySem.W.nsIn K mainGlobals "_law_due" = some (some (.ref f35)))
  (l35:K.lookup f35=some ⟨oc35,od35,.func (PySem.W.fnOf "_law_due" "_law_due" (Aq Dh) (An Dh) (Ae Dh) .none kV35 dc35 pm35 an35 cd35 ct35),sl35⟩)
  (c35:PySem.W.codeIn K cd35 "_law_due" = true)
  (k35:PySem.W.keepIn K (.ref f35)=true)
  (a36:PySem.W.nsIn K mainGlobals "_law_leaves" = some (some (.ref f36)))
  (l36:K.lookup f36=some ⟨oc36,od36,.func (PySem.W.fnOf "_law_leaves" "_law_leaves" (Aq Cs) (An Cs) (Ae Cs) .none kV36 dc36 pm36 an36 cd36 ct36),sl36⟩)
  (c36:PySem.W.codeIn K cd36 "_law_leaves" = true)
  (k36:PySem.W.keepIn K (.ref f36)=true)
  (a37:PySem.W.nsIn K mainGlobals "_law_word" = some (some (.ref f37)))
  (l37:K.lookup f37=some ⟨oc37,od37,.func (PySem.W.fnOf "_law_word" "_law_word" (Aq Dn) (An Dn) (Ae Dn) .none kV37 dc37 pm37 an37 cd37 ct37),sl37⟩)
  (c37:PySem.W.codeIn K cd37 "_law_word" = true)
  (k37:PySem.W.keepIn K (.ref f37)=true)
  (a38:PySem.W.nsIn K mainGlobals "_law_refused" = some (some (.ref f38)))
  (l38:K.lookup f38=some ⟨oc38,od38,.func (PySem.W.fnOf "_law_refused" "_law_refused" (Aq BW) (An BW) (Ae BW) .none kV38 dc38 pm38 an38 cd38 ct38),sl38⟩)
  (c38:PySem.W.codeIn K cd38 "_law_refused" = true)
  (k38:PySem.W.keepIn K (.ref f38)=true)
  (a39:PySem.W.nsIn K mainGlobals "law" = some (some (.ref f39)))
  (l39:K.lookup f39=some ⟨oc39,od39,.func (PySem.W.fnOf "law" "law" (Aq FX) (An FX) (Ae FX) .none kV39 dc39 pm39 an39 cd39 ct39),sl39⟩)
  (c39:PySem.W.codeIn K cd39 "law" = true)
  (k39:PySem.W.keepIn K (.ref f39)=true)
  (a40:PySem.W.findIn K (.ref c_Grove) "__init__" = some (some (.ref f40)))
  (i40:PySem.W.isFn K (.ref f40)=true)
  (l40:K.lookup f40=some ⟨oc40,od40,.func (PySem.W.fnOf "__init__" "Grove.__init__" (Aq CO) (An CO) (Ae CO) .none kV40 dc40 pm40 an40 cd40 ct40),sl40⟩)
  (c40:PySem.W.codeIn K cd40 "Grove.__init__" = true)
  (k40:PySem.W.keepIn K (.ref f40)=true)
  (a41:PySem.W.findIn K (.ref c_Grove) "kept" = some (some (.ref f41)))
  (i41:PySem.W.isFn K (.ref f41)=true)
  (l41:K.lookup f41=some ⟨oc41,od41,.func (PySem.W.fnOf "kept" "Grove.kept" (Aq CN) (An CN) (Ae CN) .none kV41 dc41 pm41 an41 cd41 ct41),sl41⟩)
  (c41:PySem.W.codeIn K cd41 "Grove.kept" = true)
  (k41:PySem.W.keepIn K (.ref f41)=true)
  (a42:PySem.W.findIn K (.ref c_Grove) "linked" = some (some (.ref f42)))
  (i42:PySem.W.isFn K (.ref f42)=true)
  (l42:K.lookup f42=some ⟨oc42,od42,.func (PySem.W.fnOf "linked" "Grove.linked" (Aq BX) (An BX) (Ae BX) .none kV42 dc42 pm42 an42 cd42 ct42),sl42⟩)
  (c42:PySem.W.codeIn K cd42 "Grove.linked" = true)
  (k42:PySem.W.keepIn K (.ref f42)=true)
  (a43:PySem.W.findIn K (.ref c_Grove) "check_square" = some (some (.ref f43)))
  (i43:PySem.W.isFn K (.ref f43)=true)
  (l43:K.lookup f43=some ⟨oc43,od43,.func (PySem.W.fnOf "check_square" "Grove.check_square" (Aq AV) (An AV) (Ae AV) .none kV43 dc43 pm43 an43 cd43 ct43),sl43⟩)
  (c43:PySem.W.codeIn K cd43 "Grove.check_square" = true)
  (k43:PySem.W.keepIn K (.ref f43)=true)
  (a44:PySem.W.findIn K (.ref c_Grove) "leaf" = some (some (.ref f44)))
  (i44:PySem.W.isFn K (.ref f44)=true)
  (l44:K.lookup f44=some ⟨oc44,od44,.func (PySem.W.fnOf "leaf" "Grove.leaf" (Aq CM) (An CM) (Ae CM) .none kV44 dc44 pm44 an44 cd44 ct44),sl44⟩)
  (c44:PySem.W.codeIn K cd44 "Grove.leaf" = true)
  (k44:PySem.W.keepIn K (.ref f44)=true)
  (a45:PySem.W.findIn K (.ref c_Grove) "solid" = some (some (.ref f45)))
  (i45:PySem.W.isFn K (.ref f45)=true)
  (l45:K.lookup f45=some ⟨oc45,od45,.func (PySem.W.fnOf "solid" "Grove.solid" (Aq Ct) (An Ct) (Ae Ct) .none kV45 dc45 pm45 an45 cd45 ct45),sl45⟩)
  (c45:PySem.W.codeIn K cd45 "Grove.solid" = true)
  (k45:PySem.W.keepIn K (.ref f45)=true)
  (a46:PySem.W.findIn K (.ref c_Grove) "level_of" = some (some (.ref f46)))
  (i46:PySem.W.isFn K (.ref f46)=true)
  (l46:K.lookup f46=some ⟨oc46,od46,.func (PySem.W.fnOf "level_of" "Grove.level_of" (Aq BE) (An BE) (Ae BE) .none kV46 dc46 pm46 an46 cd46 ct46),sl46⟩)
  (c46:PySem.W.codeIn K cd46 "Grove.level_of" = true)
  (k46:PySem.W.keepIn K (.ref f46)=true)
  (a47:PySem.W.findIn K (.ref c_Grove) "quarters" = some (some (.ref f47)))
  (i47:PySem.W.isFn K (.ref f47)=true)
  (l47:K.lookup f47=some ⟨oc47,od47,.func (PySem.W.fnOf "quarters" "Grove.quarters" (Aq BD) (An BD) (Ae BD) .none kV47 dc47 pm47 an47 cd47 ct47),sl47⟩)
  (c47:PySem.W.codeIn K cd47 "Grove.quarters" = true)
  (k47:PySem.W.keepIn K (.ref f47)=true)
  (a48:PySem.W.findIn K (.ref c_Grove) "state_of" = some (some (.ref f48)))
  (i48:PySem.W.isFn K (.ref f48)=true)
  (l48:K.lookup f48=some ⟨oc48,od48,.func (PySem.W.fnOf "state_of" "Grove.state_of" (Aq BC) (An BC) (Ae BC) .none kV48 dc48 pm48 an48 cd48 ct48),sl48⟩)
  (c48:PySem.W.codeIn K cd48 "Grove.state_of" = true)
  (k48:PySem.W.keepIn K (.ref f48)=true)
  (z_abs:PySem.W.nsIn K mainGlobals "abs" = some none)
  (z_all:PySem.W.nsIn K mainGlobals "all" = some none)
  (z_bool:PySem.W.nsIn K mainGlobals "bool" = some none)
  (z_enumerate:PySem.W.nsIn K mainGlobals "enumerate" = some none)
  (z_int:PySem.W.nsIn K mainGlobals "int" = some none)
  (z_isinstance:PySem.W.nsIn K mainGlobals "isinstance" = some none)
  (z_len:PySem.W.nsIn K mainGlobals "len" = some none)
  (z_max:PySem.W.nsIn K mainGlobals "max" = some none)
  (z_min:PySem.W.nsIn K mainGlobals "min" = some none)
  (z_range:PySem.W.nsIn K mainGlobals "range" = some none)
  (z_sorted:PySem.W.nsIn K mainGlobals "sorted" = some none)
  (z_str:PySem.W.nsIn K mainGlobals "str" = some none)
  (z_sum:PySem.W.nsIn K mainGlobals "sum" = some none)
  (z_tuple:PySem.W.nsIn K mainGlobals "tuple" = some none)
  (g_FIGURES:PySem.W.nsIn K mainGlobals "FIGURES" = some (some (.str x_FIGURES t_FIGURES)))
  (gx_FIGURES:x_FIGURES=Str.ofString "0123456789")
  (g_MOST_FIGURES:PySem.W.nsIn K mainGlobals "MOST_FIGURES" = some (some (.int 30 t_MOST_FIGURES)))
  (g_STATES:PySem.W.nsIn K mainGlobals "STATES" = some (some (.int 8 t_STATES)))
  (g_TOP_LEVEL:PySem.W.nsIn K mainGlobals "TOP_LEVEL" = some (some (.int 48 t_TOP_LEVEL)))
  (g_LIMIT:PySem.W.nsIn K mainGlobals "LIMIT" = some (some (.int 1099511627776 t_LIMIT)))
  (g_LEAST_LEVEL:PySem.W.nsIn K mainGlobals "LEAST_LEVEL" = some (some (.int 1 t_LEAST_LEVEL)))
  (g_BLANK_SIGN:PySem.W.nsIn K mainGlobals "BLANK_SIGN" = some (some (.str x_BLANK_SIGN t_BLANK_SIGN)))
  (gx_BLANK_SIGN:x_BLANK_SIGN=Str.ofString ".")
  (g_ROW_SIGN:PySem.W.nsIn K mainGlobals "ROW_SIGN" = some (some (.str x_ROW_SIGN t_ROW_SIGN)))
  (gx_ROW_SIGN:x_ROW_SIGN=Str.ofString "/")
  (g_STATE_SIGNS:PySem.W.nsIn K mainGlobals "STATE_SIGNS" = some (some (.str x_STATE_SIGNS t_STATE_SIGNS)))
  (gx_STATE_SIGNS:x_STATE_SIGNS=Str.ofString ".ABCDEFG")
  (g_RUN_SIGNS:PySem.W.nsIn K mainGlobals "RUN_SIGNS" = some (some (.str x_RUN_SIGNS t_RUN_SIGNS)))
  (gx_RUN_SIGNS:x_RUN_SIGNS=Str.ofString ".ABCDEFG/")
  (g_MOST_AMOUNT_FIGURES:PySem.W.nsIn K mainGlobals "MOST_AMOUNT_FIGURES" = some (some (.int 13 t_MOST_AMOUNT_FIGURES)))
  (g_MOST_PLACE:PySem.W.nsIn K mainGlobals "MOST_PLACE" = some (some (.int 9999999999999 t_MOST_PLACE)))
  (z_ValueError:PySem.W.nsIn K mainGlobals "ValueError" = some none)
  (nx_FieldError:PySem.W.nsIn K mainGlobals "FieldError" = some (some (.ref x_FieldError)))
  (nx_NoNumber:PySem.W.nsIn K mainGlobals "NoNumber" = some (some (.ref x_NoNumber)))
  (nx_NoRule:PySem.W.nsIn K mainGlobals "NoRule" = some (some (.ref x_NoRule)))
  (nx_Restless:PySem.W.nsIn K mainGlobals "Restless" = some (some (.ref x_Restless)))
  (nx_NoSquare:PySem.W.nsIn K mainGlobals "NoSquare" = some (some (.ref x_NoSquare)))
  (nx_NoLevel:PySem.W.nsIn K mainGlobals "NoLevel" = some (some (.ref x_NoLevel)))
  (nx_NoState:PySem.W.nsIn K mainGlobals "NoState" = some (some (.ref x_NoState)))
  (nx_NoBox:PySem.W.nsIn K mainGlobals "NoBox" = some (some (.ref x_NoBox)))
  (nx_TooFar:PySem.W.nsIn K mainGlobals "TooFar" = some (some (.ref x_TooFar)))
  (nx_TooMany:PySem.W.nsIn K mainGlobals "TooMany" = some (some (.ref x_TooMany)))
  (nx_NoSteps:PySem.W.nsIn K mainGlobals "NoSteps" = some (some (.ref x_NoSteps)))
  (nx_NoPattern:PySem.W.nsIn K mainGlobals "NoPattern" = some (some (.ref x_NoPattern)))
  (nx_NoName:PySem.W.nsIn K mainGlobals "NoName" = some (some (.ref x_NoName)))
  (nx_NoRow:PySem.W.nsIn K mainGlobals "NoRow" = some (some (.ref x_NoRow)))
  (ec_TooFar:Gz K x_TooFar)
  (ec_NoNumber:Gz K x_NoNumber)
  (ec_FieldError:Gz K x_FieldError)
  (xf_TooFar_0:PySem.W.hasDictIn K x_TooFar=true)
  (xf_TooFar_1:PySem.W.findIn K (.ref x_TooFar) "__getattribute__" = some (some (.builtin "BaseException.__getattribute__")))
  (xf_TooFar_2:PySem.W.findIn K (.ref x_TooFar) "__getattr__" = some none)
  (xf_TooFar_3:PySem.W.findIn K (.ref x_TooFar) "__class__" = some (some (.builtin "object.__class__")))
  (xf_4:PySem.W.specialIn K (.builtin "object.__class__") "__get__" = some (some (.builtin "getset_descriptor.__get__")))
  (xf_5:PySem.W.takesIn K (.builtin "object.__class__")=some true)
  (xf_TooFar_6:PySem.W.mroIn K x_TooFar (.type "object")=some true)
  (xf_TooFar_7:PySem.W.mroIn K x_TooFar (.type "BaseException")=some true)
  (mr_TooFar:PySem.W.mroIn K x_TooFar (.ref x_FieldError)=some true)
  (kv_TooFar:PySem.W.kitOne K (.ref x_TooFar) (.type "ValueError")=some true)
  (ki_TooFar_NoNumber:PySem.W.kitOne K (.ref x_TooFar) (.ref x_NoNumber)=some false)
  (ki_TooFar_NoRule:PySem.W.kitOne K (.ref x_TooFar) (.ref x_NoRule)=some false)
  (ki_TooFar_Restless:PySem.W.kitOne K (.ref x_TooFar) (.ref x_Restless)=some false)
  (ki_TooFar_NoSquare:PySem.W.kitOne K (.ref x_TooFar) (.ref x_NoSquare)=some false)
  (ki_TooFar_NoLevel:PySem.W.kitOne K (.ref x_TooFar) (.ref x_NoLevel)=some false)
  (ki_TooFar_NoState:PySem.W.kitOne K (.ref x_TooFar) (.ref x_NoState)=some false)
  (ki_TooFar_NoBox:PySem.W.kitOne K (.ref x_TooFar) (.ref x_NoBox)=some false)
  (ki_TooFar_TooFar:PySem.W.kitOne K (.ref x_TooFar) (.ref x_TooFar)=some true)
  (ki_TooFar_TooMany:PySem.W.kitOne K (.ref x_TooFar) (.ref x_TooMany)=some false)
  (ki_TooFar_NoSteps:PySem.W.kitOne K (.ref x_TooFar) (.ref x_NoSteps)=some false)
  (ki_TooFar_NoPattern:PySem.W.kitOne K (.ref x_TooFar) (.ref x_NoPattern)=some false)
  (ki_TooFar_NoName:PySem.W.kitOne K (.ref x_TooFar) (.ref x_NoName)=some false)
  (ki_TooFar_NoRow:PySem.W.kitOne K (.ref x_TooFar) (.ref x_NoRow)=some false)
  : ∃ fd:FuncData,(∀ (s:Shared) (v:Value),BindsTo s fd ⟨[v],[]⟩ [("_law_script",v)])/\∀ base:Heap,K.In base->base.Ns mainGlobals mg->AI l.prog w K mg base CX0 108 fa fd ["_law_script"] (Ps K):=by
 have e:=hfa.symm.trans (PySem.W.mg_of X G a39);cases e;have no:∀ {x:Str},PySem.W.nsIn K mainGlobals x=some none->mg x=none:=fun z=>PySem.W.mg_none_of X G z;subst gx_RUN_SIGNS;subst gx_STATE_SIGNS;subst gx_ROW_SIGN;subst gx_BLANK_SIGN;subst gx_FIGURES;have T:Top K mg (⟨c_Grove,x_FieldError,x_NoNumber,x_NoRule,x_Restless,x_NoSquare,x_NoLevel,x_NoState,x_NoBox,x_TooFar,x_TooMany,x_NoSteps,x_NoPattern,x_NoName,x_NoRow⟩:Ad):=⟨no z_abs,no z_all,no z_bool,no z_enumerate,no z_int,no z_isinstance,no z_len,no z_max,no z_min,no z_range,no z_sorted,no z_str,no z_sum,no z_tuple,⟨t_FIGURES,PySem.W.mg_of X G g_FIGURES⟩,⟨t_MOST_FIGURES,PySem.W.mg_of X G g_MOST_FIGURES⟩,⟨t_STATES,PySem.W.mg_of X G g_STATES⟩,⟨t_TOP_LEVEL,PySem.W.mg_of X G g_TOP_LEVEL⟩,⟨t_LIMIT,PySem.W.mg_of X G g_LIMIT⟩,⟨t_LEAST_LEVEL,PySem.W.mg_of X G g_LEAST_LEVEL⟩,⟨t_BLANK_SIGN,PySem.W.mg_of X G g_BLANK_SIGN⟩,⟨t_ROW_SIGN,PySem.W.mg_of X G g_ROW_SIGN⟩,⟨t_STATE_SIGNS,PySem.W.mg_of X G g_STATE_SIGNS⟩,⟨t_RUN_SIGNS,PySem.W.mg_of X G g_RUN_SIGNS⟩,⟨t_MOST_AMOUNT_FIGURES,PySem.W.mg_of X G g_MOST_AMOUNT_FIGURES⟩,⟨t_MOST_PLACE,PySem.W.mg_of X G g_MOST_PLACE⟩,PySem.W.mg_of X G dH,⟨pg_Grove,hd_Grove,po_Grove,sa_Grove⟩,na_Grove_levels,na_Grove_parts,na_Grove_numbers,na_Grove_bares,na_Grove_amounts,na_Grove_boxes,no z_ValueError,PySem.W.mg_of X G nx_FieldError,PySem.W.mg_of X G nx_NoNumber,PySem.W.mg_of X G nx_NoRule,PySem.W.mg_of X G nx_Restless,PySem.W.mg_of X G nx_NoSquare,PySem.W.mg_of X G nx_NoLevel,PySem.W.mg_of X G nx_NoState,PySem.W.mg_of X G nx_NoBox,PySem.W.mg_of X G nx_TooFar,PySem.W.mg_of X G nx_TooMany,PySem.W.mg_of X G nx_NoSteps,PySem.W.mg_of X G nx_NoPattern,PySem.W.mg_of X G nx_NoName,PySem.W.mg_of X G nx_NoRow,ec_TooFar,ec_NoNumber,ec_FieldError,⟨xf_TooFar_0,xf_TooFar_1,xf_TooFar_2,xf_TooFar_3,xf_4,xf_5,xf_TooFar_6,xf_TooFar_7⟩,mr_TooFar,kv_TooFar,ki_TooFar_NoNumber,ki_TooFar_NoRule,ki_TooFar_Restless,ki_TooFar_NoSquare,ki_TooFar_NoLevel,ki_TooFar_NoState,ki_TooFar_NoBox,ki_TooFar_TooFar,ki_TooFar_TooMany,ki_TooFar_NoSteps,ki_TooFar_NoPattern,ki_TooFar_NoName,ki_TooFar_NoRow⟩
 have d6:=AD (x:="is_whole") (qual:="is_whole") (st:=DQ) l0 c0 k0;have hG:=d6.binds (ps:=Di) fun _ _ _ _ _ _ us hl=>by obtain ⟨x0,rfl⟩:=ar1 us hl; exact rfl
 have gU:=PySem.W.mg_of X G a0;have cA:=AD (x:="read_whole") (qual:="read_whole") (st:=CH) l1 c1 k1;have fZ:=cA.binds (ps:=DB) fun _ _ _ _ _ _ us hl=>by obtain ⟨x0,rfl⟩:=ar1 us hl; exact rfl
 have fS:=PySem.W.mg_of X G a1;have b6:=AD (x:="without_minus") (qual:="without_minus") (st:=BK) l2 c2 k2;have eL:=b6.binds (ps:=Ck) fun _ _ _ _ _ _ us hl=>by obtain ⟨x0,rfl⟩:=ar1 us hl; exact rfl
 have eE:=PySem.W.mg_of X G a2;have bN:=AD (x:="are_figures") (qual:="are_figures") (st:=BR) l3 c3 k3;have fN:=bN.binds (ps:=Da) fun _ _ _ _ _ _ us hl=>by obtain ⟨x0,rfl⟩:=ar1 us hl; exact rfl
 have fG:=PySem.W.mg_of X G a3;have d7:=AD (x:="is_state") (qual:="is_state") (st:=DR) l4 c4 k4;have hJ:=d7.binds (ps:=Dj) fun _ _ _ _ _ _ us hl=>by obtain ⟨x0,rfl⟩:=ar1 us hl; exact rfl
 have gW:=PySem.W.mg_of X G a4;have bM:=AD (x:="lies_within") (qual:="lies_within") (st:=Co) l5 c5 k5;have fM:=bM.binds (ps:=BS) fun _ _ _ _ _ _ us hl=>by obtain ⟨x0,x1,rfl⟩:=ar2 us hl; exact rfl
 have fF:=PySem.W.mg_of X G a5;have d5:=AD (x:="reach_of") (qual:="reach_of") (st:=DP) l6 c6 k6;have gZ:=d5.binds (ps:=DT) fun _ _ _ _ _ _ us hl=>by obtain ⟨x0,x1,rfl⟩:=ar2 us hl; exact rfl
 have gR:=PySem.W.mg_of X G a6;have cC:=AD (x:="bare_field") (qual:="bare_field") (st:=CJ) l7 c7 k7;have g9:=cC.binds (ps:=DD) fun _ _ _ _ _ _ us hl=>by obtain ⟨x0,rfl⟩:=ar1 us hl; exact rfl
 have fU:=PySem.W.mg_of X G a7;have dW:=AD (x:="widened") (qual:="widened") (st:=Er) l8 c8 k8;have iA:=dW.binds (ps:=Fj) fun _ _ _ _ _ _ us hl=>by obtain ⟨x0,x1,rfl⟩:=ar2 us hl; exact rfl
 have i6:=PySem.W.mg_of X G a8;have dX:=AD (x:="trimmed") (qual:="trimmed") (st:=Es) l9 c9 k9;have iB:=dX.binds (ps:=Ev) fun _ _ _ _ _ _ us hl=>by obtain ⟨x0,x1,rfl⟩:=ar2 us hl; exact rfl
 have i7:=PySem.W.mg_of X G a9;have cQ:=AD (x:="middle_of") (qual:="middle_of") (st:=Cz) l10 c10 k10;have gN:=cQ.binds (ps:=Ea) fun _ _ _ _ _ _ us hl=>by obtain ⟨x0,x1,rfl⟩:=ar2 us hl; exact rfl
 have gI:=PySem.W.mg_of X G a10;have aT:=AD (x:="is_bare_around") (qual:="is_bare_around") (st:=BB) l11 c11 k11;have dQ:=aT.binds (ps:=Cb) fun _ _ _ _ _ _ us hl=>by obtain ⟨x0,x1,rfl⟩:=ar2 us hl; exact rfl
 have dL:=PySem.W.mg_of X G a11;have bI:=AD (x:="widened_over") (qual:="widened_over") (st:=BU) l12 c12 k12;have eZ:=bI.binds (ps:=BZ) fun _ _ _ _ _ _ us hl=>by obtain ⟨x0,x1,x2,rfl⟩:=ar3 us hl; exact rfl
 have eT:=PySem.W.mg_of X G a12;have dD:=AD (x:="filled") (qual:="filled") (st:=EH) l13 c13 k13;have iG:=dD.binds (ps:=FZ) fun _ _ _ _ _ _ us hl=>by obtain ⟨x0,x1,x2,x3,rfl⟩:=ar4 us hl; exact rfl
 have iF:=PySem.W.mg_of X G a13;have cR:=AD (x:="check_box") (qual:="check_box") (st:=Dm) l14 c14 k14;have gO:=cR.binds (ps:=Dp) fun _ _ _ _ _ _ us hl=>by obtain ⟨x0,rfl⟩:=ar1 us hl; exact rfl
 have gJ:=PySem.W.mg_of X G a14;have dY:=AD (x:="part_in") (qual:="part_in") (st:=Et) l15 c15 k15;have iC:=dY.binds (ps:=Ew) fun _ _ _ _ _ _ us hl=>by obtain ⟨x0,x1,x2,rfl⟩:=ar3 us hl; exact rfl
 have i8:=PySem.W.mg_of X G a15;have gG:=AD (x:="mixed") (qual:="mixed") (st:=Fw) l16 c16 k16;have i5:=gG.binds (ps:=Em) fun _ _ _ _ _ _ us hl=>by obtain ⟨x0,x1,x2,x3,x4,rfl⟩:=ar5 us hl; exact rfl
 have hZ:=PySem.W.mg_of X G a16;have bV:=AD (x:="mixed_quarters") (qual:="mixed_quarters") (st:=Bk) l17 c17 k17;have dP:=bV.binds (ps:=Ca) fun _ _ _ _ _ _ us hl=>by obtain ⟨x0,x1,x2,x3,rfl⟩:=ar4 us hl; exact rfl
 have dJ:=PySem.W.mg_of X G a17;have b7:=AD (x:="split_stretch") (qual:="split_stretch") (st:=BL) l18 c18 k18;have eM:=b7.binds (ps:=BP) fun _ _ _ _ _ _ us hl=>by obtain ⟨x0,x1,x2,rfl⟩:=ar3 us hl; exact rfl
 have eF:=PySem.W.mg_of X G a18;have cP:=AD (x:="read_runs") (qual:="read_runs") (st:=Dl) l19 c19 k19;have gM:=cP.binds (ps:=DZ) fun _ _ _ _ _ _ us hl=>by obtain ⟨x0,rfl⟩:=ar1 us hl; exact rfl
 have gH:=PySem.W.mg_of X G a19;have bL:=AD (x:="read_amount") (qual:="read_amount") (st:=Cn) l20 c20 k20;have fL:=bL.binds (ps:=CZ) fun _ _ _ _ _ _ us hl=>by obtain ⟨x0,rfl⟩:=ar1 us hl; exact rfl
 have fE:=PySem.W.mg_of X G a20;have aR:=AD (x:="read_pattern") (qual:="read_pattern") (st:=BV) l21 c21 k21;have cM:=aR.binds (ps:=CB) fun _ _ _ _ _ _ us hl=>by obtain ⟨x0,x1,rfl⟩:=ar2 us hl; exact rfl
 have cK:=PySem.W.mg_of X G a21;have cB:=AD (x:="read_place") (qual:="read_place") (st:=CI) l22 c22 k22;have g7:=cB.binds (ps:=DC) fun _ _ _ _ _ _ us hl=>by obtain ⟨x0,rfl⟩:=ar1 us hl; exact rfl
 have fT:=PySem.W.mg_of X G a22;have b8:=AD (x:="field_of_runs") (qual:="field_of_runs") (st:=BM) l23 c23 k23;have eN:=b8.binds (ps:=Df) fun _ _ _ _ _ _ us hl=>by obtain ⟨x0,x1,x2,x3,rfl⟩:=ar4 us hl; exact rfl
 have eG:=PySem.W.mg_of X G a23;have dZ:=AD (x:="_law_at") (qual:="_law_at") (st:=Eu) l24 c24 k24;have iD:=dZ.binds (ps:=Fk) fun _ _ _ _ _ _ us hl=>by obtain ⟨x0,x1,rfl⟩:=ar2 us hl; exact rfl
 have i9:=PySem.W.mg_of X G a24;have cD:=AD (x:="_law_whole") (qual:="_law_whole") (st:=CK) l25 c25 k25;have gA:=cD.binds (ps:=DE) fun _ _ _ _ _ _ us hl=>by obtain ⟨x0,rfl⟩:=ar1 us hl; exact rfl
 have fV:=PySem.W.mg_of X G a25;have d8:=AD (x:="_law_mix") (qual:="_law_mix") (st:=DS) l26 c26 k26;have hU:=d8.binds (ps:=DU) fun _ _ _ _ _ _ us hl=>by obtain ⟨x0,x1,rfl⟩:=ar2 us hl; exact rfl
 have gX:=PySem.W.mg_of X G a26;have cT:=AD (x:="_law_bits") (qual:="_law_bits") (st:=Do) l27 c27 k27;have gQ:=cT.binds (ps:=Ec) fun _ _ _ _ _ _ us hl=>by obtain ⟨x0,rfl⟩:=ar1 us hl; exact rfl
 have gL:=PySem.W.mg_of X G a27;have cE:=AD (x:="_law_place") (qual:="_law_place") (st:=CL) l28 c28 k28;have gB:=cE.binds (ps:=DF) fun _ _ _ _ _ _ us hl=>by obtain ⟨x0,x1,x2,rfl⟩:=ar3 us hl; exact rfl
 have fW:=PySem.W.mg_of X G a28;have cF:=AD (x:="_law_count") (qual:="_law_count") (st:=Cd) l29 c29 k29;have dC:=cF.binds (ps:=Bw) fun _ _ _ _ _ _ us hl=>by obtain ⟨x0,x1,x2,rfl⟩:=ar3 us hl; exact rfl
 have dB:=PySem.W.mg_of X G a29;have bA:=AD (x:="_law_is_field") (qual:="_law_is_field") (st:=BO) l30 c30 k30;have eP:=bA.binds (ps:=Cm) fun _ _ _ _ _ _ us hl=>by obtain ⟨x0,x1,x2,rfl⟩:=ar3 us hl; exact rfl
 have eK:=PySem.W.mg_of X G a30;have bO:=AD (x:="_law_within") (qual:="_law_within") (st:=Cp) l31 c31 k31;have cZ:=bO.binds (ps:=BT) fun _ _ _ _ _ _ us hl=>by obtain ⟨x0,x1,x2,x3,x4,rfl⟩:=ar5 us hl; exact rfl
 have cY:=PySem.W.mg_of X G a31;have bP:=AD (x:="_law_walked") (qual:="_law_walked") (st:=Cq) l32 c32 k32;have fO:=bP.binds (ps:=Db) fun _ _ _ _ _ _ us hl=>by obtain ⟨x0,x1,rfl⟩:=ar2 us hl; exact rfl
 have fH:=PySem.W.mg_of X G a32;have bQ:=AD (x:="_law_run_by") (qual:="_law_run_by") (st:=Cr) l33 c33 k33;have fP:=bQ.binds (ps:=Dc) fun _ _ _ _ _ _ us hl=>by obtain ⟨x0,x1,rfl⟩:=ar2 us hl; exact rfl
 have fI:=PySem.W.mg_of X G a33;have b9:=AD (x:="_law_run_text") (qual:="_law_run_text") (st:=BN) l34 c34 k34;have eO:=b9.binds (ps:=Cl) fun _ _ _ _ _ _ us hl=>by obtain ⟨x0,rfl⟩:=ar1 us hl; exact rfl
 have eJ:=PySem.W.mg_of X G a34;have d9:=AD (x:="_law_due") (qual:="_law_due") (st:=Dh) l35 c35 k35;have hW:=d9.binds (ps:=EJ) fun _ _ _ _ _ _ us hl=>by obtain ⟨x0,x1,x2,rfl⟩:=ar3 us hl; exact rfl
 have gY:=PySem.W.mg_of X G a35;have bR:=AD (x:="_law_leaves") (qual:="_law_leaves") (st:=Cs) l36 c36 k36;have fQ:=bR.binds (ps:=Dd) fun _ _ _ _ _ _ us hl=>by obtain ⟨x0,rfl⟩:=ar1 us hl; exact rfl
 have fJ:=PySem.W.mg_of X G a36;have cS:=AD (x:="_law_word") (qual:="_law_word") (st:=Dn) l37 c37 k37;have gP:=cS.binds (ps:=Eb) fun _ _ _ _ _ _ us hl=>by obtain ⟨x0,rfl⟩:=ar1 us hl; exact rfl
 have gK:=PySem.W.mg_of X G a37;have bJ:=AD (x:="_law_refused") (qual:="_law_refused") (st:=BW) l38 c38 k38;have fA:=bJ.binds (ps:=CC) fun _ _ _ _ _ _ us hl=>by obtain ⟨x0,x1,rfl⟩:=ar2 us hl; exact rfl
 have eU:=PySem.W.mg_of X G a38;have F_law:=AD (x:="law") (qual:="law") (st:=FX) l39 c39 k39;have m_law:=PySem.W.mg_of X G a39;have dG:=AD (x:="__init__") (qual:="Grove.__init__") (st:=CO) l40 c40 k40;have gF:=dG.binds (ps:=DH) fun _ _ _ _ _ _ us hl=>by obtain ⟨x0,rfl⟩:=ar1 us hl; exact rfl
 have iJ:Mk K c_Grove f40:=⟨mk_Grove,a40,i40,kc_Grove⟩
 have dF:=AD (x:="kept") (qual:="Grove.kept") (st:=CN) l41 c41 k41;have gD:=dF.binds (ps:=CS) fun _ _ _ _ _ _ us hl=>by obtain ⟨x0,x1,x2,rfl⟩:=ar3 us hl; exact rfl
 have fY:Lj K c_Grove "kept" f41:=⟨a41,i41,k41⟩
 have cU:=AD (x:="linked") (qual:="Grove.linked") (st:=BX) l42 c42 k42;have fB:=cU.binds (ps:=Bf) fun _ _ _ _ _ _ us hl=>by obtain ⟨x0,x1,rfl⟩:=ar2 us hl; exact rfl
 have eW:Lj K c_Grove "linked" f42:=⟨a42,i42,k42⟩
 have aZ:=AD (x:="check_square") (qual:="Grove.check_square") (st:=AV) l43 c43 k43;have cN:=aZ.binds (ps:=Br) fun _ _ _ _ _ _ us hl=>by obtain ⟨x0,x1,rfl⟩:=ar2 us hl; exact rfl
 have cL:Lj K c_Grove "check_square" f43:=⟨a43,i43,k43⟩
 have dE:=AD (x:="leaf") (qual:="Grove.leaf") (st:=CM) l44 c44 k44;have gC:=dE.binds (ps:=DG) fun _ _ _ _ _ _ us hl=>by obtain ⟨x0,x1,rfl⟩:=ar2 us hl; exact rfl
 have fX:Lj K c_Grove "leaf" f44:=⟨a44,i44,k44⟩
 have d0:=AD (x:="solid") (qual:="Grove.solid") (st:=Ct) l45 c45 k45;have fR:=d0.binds (ps:=Cu) fun _ _ _ _ _ _ us hl=>by obtain ⟨x0,x1,x2,rfl⟩:=ar3 us hl; exact rfl
 have fK:Lj K c_Grove "solid" f45:=⟨a45,i45,k45⟩
 have bY:=AD (x:="level_of") (qual:="Grove.level_of") (st:=BE) l46 c46 k46;have dU:=bY.binds (ps:=AB) fun _ _ _ _ _ _ us hl=>by obtain ⟨x0,x1,rfl⟩:=ar2 us hl; exact rfl
 have dO:Lj K c_Grove "level_of" f46:=⟨a46,i46,k46⟩
 have bX:=AD (x:="quarters") (qual:="Grove.quarters") (st:=BD) l47 c47 k47;have dS:=bX.binds (ps:=Bl) fun _ _ _ _ _ _ us hl=>by obtain ⟨x0,x1,rfl⟩:=ar2 us hl; exact rfl
 have dN:Lj K c_Grove "quarters" f47:=⟨a47,i47,k47⟩
 have bW:=AD (x:="state_of") (qual:="Grove.state_of") (st:=BC) l48 c48 k48;have dR:=bW.binds (ps:=BF) fun _ _ _ _ _ _ us hl=>by obtain ⟨x0,x1,rfl⟩:=ar2 us hl; exact rfl
 have dM:Lj K c_Grove "state_of" f48:=⟨a48,i48,k48⟩
 refine ⟨PySem.W.fnOf "law" "law" (Aq FX) (An FX) (Ae FX) .none kV39 dc39 pm39 an39 cd39 ct39,fun s v=>.of_eq rfl,fun base _ _=>?_⟩;have aK:Cal l.prog w K mg base CX0 1 "is_whole" Di RB:=⟨_,_,ok_iw d6 T,gU,d6.kp,hG⟩
 have aL:Cal l.prog w K mg base CX0 2 "is_state" Dj RC:=⟨_,_,ok_is d7 T aK,gW,d7.kp,hJ⟩
 have aJ:Cy l.prog w K mg base CX0 1 c_Grove "kept" CS (Ms _):=⟨⟨_,_,ok_kept dF T,fY,gD⟩,T.cl_Grove⟩
 have eS:CalC l.prog w K mg base CX0 2 "Grove" c_Grove DH (Mt _):=⟨_,_,Sl dG T aJ,iJ,T.m_Grove,gF⟩
 have aB:Cy l.prog w K mg base CX0 2 c_Grove "linked" Bf (GK _):=⟨⟨_,_,ok_link cU T aJ,eW,fB⟩,T.cl_Grove⟩
 have aN:Cy l.prog w K mg base CX0 2 c_Grove "check_square" Br (RF _):=⟨⟨_,_,ok_chk aZ T aK,cL,cN⟩,T.cl_Grove⟩
 have bZ:Cy l.prog w K mg base CX0 3 c_Grove "leaf" DG (Oy _):=⟨⟨_,_,ok_leaf dE T aL,fX,gC⟩,T.cl_Grove⟩
 have aA:Cy l.prog w K mg base CX0 3 c_Grove "level_of" AB (Fc _):=⟨⟨_,_,ok_lev bY T aN,dO,dU⟩,T.cl_Grove⟩
 have aM:Cy l.prog w K mg base CX0 4 c_Grove "solid" Cu (Jn _):=⟨⟨_,_,Sh d0 T aK bZ aB,fK,fR⟩,T.cl_Grove⟩
 have aF:Cal l.prog w K mg base CX0 1 "lies_within" BS Nv:=⟨_,_,ok_lie bM T,fF,bM.kp,fM⟩
 have aU:Cal l.prog w K mg base CX0 4 "reach_of" DT (Jo _):=⟨_,_,Si d5 T aA,gR,d5.kp,gZ⟩
 have eA:Cal l.prog w K mg base CX0 4 "widened" Fj (Rv _):=⟨_,_,ok_wid dW T aA aB,i6,dW.kp,iA⟩
 have cW:Cal l.prog w K mg base CX0 3 "middle_of" Ea (RA _):=⟨_,_,ok_mid cQ T aB,gI,cQ.kp,gN⟩
 have aV:Cal l.prog w K mg base CX0 1 "is_bare_around" Cb (spBA _):=⟨_,_,ok_ba aT T,dL,aT.kp,dQ⟩
 have bG:Cal l.prog w K mg base CX0 4 "trimmed" Ev (Mq _):=⟨_,_,ok_trim dX T aA aV cW,i7,dX.kp,iB⟩
 have aI:Cal l.prog w K mg base CX0 5 "widened_over" BZ (spWO _):=⟨_,_,ok_wo bI T aF aU eA,eT,bI.kp,eZ⟩
 have cH:Cal l.prog w K mg base CX0 1 "bare_field" DD (Mu _):=⟨_,_,Sm cC T,fU,cC.kp,g9⟩
 have aQ:Cal l.prog w K mg base CX0 1 "check_box" Dp Pt:=⟨_,_,ok_chb cR T,gJ,cR.kp,gO⟩
 have bH:Cal l.prog w K mg base CX0 5 "part_in" Ew (spPI _):=⟨_,_,ok_pi dY T aU,i8,dY.kp,iC⟩
 have aG:Cal l.prog w K mg base CX0 1 "split_stretch" BP Jm:=⟨_,_,Sg b7 T,eF,b7.kp,eM⟩
 have bK:Cal l.prog w K mg base CX0 102 "mixed" Em (LL _ _ _ 50):=⟨_,_,Sj gG bV T hZ i5 dJ dP aG aB 50,hZ,gG.kp,i5⟩
 have aW:Cal l.prog w K mg base CX0 1 "_law_at" Fk (spAt K):=⟨_,_,ok_at dZ T,i9,dZ.kp,iD⟩
 have cJ:Cal l.prog w K mg base CX0 1 "_law_whole" DE Rw:=⟨_,_,ok_whi cD T,fV,cD.kp,gA⟩
 have aP:Cal l.prog w K mg base CX0 1 "_law_mix" DU Mr:=⟨_,_,ok_lmix d8 T,gX,d8.kp,hU⟩
 have cX:Cal l.prog w K mg base CX0 1 "_law_bits" Ec OA:=⟨_,_,ok_bits cT T,gL,cT.kp,gQ⟩
 have bF:Cal l.prog w K mg base CX0 2 "_law_place" DF spPl:=⟨_,_,ok_pl cE T aP,fW,cE.kp,gB⟩
 have aE:Cy l.prog w K mg base CX0 4 c_Grove "state_of" BF (Pr _):=⟨⟨_,_,ok_sta bW T aA,dM,dR⟩,T.cl_Grove⟩
 have aC:Cy l.prog w K mg base CX0 4 c_Grove "quarters" Bl (Nt _):=⟨⟨_,_,ok_qua bX T aA,dN,dS⟩,T.cl_Grove⟩
 have aD:Cal l.prog w K mg base CX0 55 "_law_count" Bw (Qm _ 50):=⟨_,_,ok_lc cF T dB dC aA aE aC 50,dB,cF.kp,dC⟩
 have bD:Cal l.prog w K mg base CX0 56 "_law_is_field" Cm (spIF _):=⟨_,_,ok_if bA T cJ aA aC aD,eK,bA.kp,eP⟩
 have aO:Cal l.prog w K mg base CX0 106 "_law_within" BT (spWi _ 50):=⟨_,_,ok_wi bO T cY cZ aA aE aC aD 50,cY,bO.kp,cZ⟩
 have aX:Cal l.prog w K mg base CX0 107 "_law_walked" Db (spWk _):=⟨_,_,ok_wk bP T bD aA aD aO,fH,bP.kp,fO⟩
 have bB:Cal l.prog w K mg base CX0 1 "without_minus" Ck Rz:=⟨_,_,ok_min b6 T,eE,b6.kp,eL⟩
 have bT:Cal l.prog w K mg base CX0 1 "are_figures" Da RE:=⟨_,_,ok_fig bN T,fG,bN.kp,fN⟩
 have cG:Cal l.prog w K mg base CX0 2 "read_whole" DB spRW:=⟨_,_,ok_rw cA T bB bT,fS,cA.kp,fZ⟩
 have bE:Cal l.prog w K mg base CX0 3 "read_place" DC spRP:=⟨_,_,ok_rp cB T cG,fT,cB.kp,g7⟩
 have bS:Cal l.prog w K mg base CX0 1 "read_amount" CZ RG:=⟨_,_,ok_amt bL T,fE,bL.kp,fL⟩
 have cV:Cal l.prog w K mg base CX0 2 "read_runs" DZ Ox:=⟨_,_,ok_read cP T bS,gH,cP.kp,gM⟩
 have f1:=ok_filF (w:=w) (base:=base) dD T aQ aF aL aI aM aA bH bK bG;have f2:=ok_fill (w:=w) (base:=base) dD T aQ aF aL aI aM aA bH bK bG;have iE:=Cal.mk ⟨_,_,AI.or (AI.up f2) f1,iF,dD.kp,iG⟩;have f3:=ok_fr (w:=w) (base:=base) b8 T cH iE;have eD:=Cal.mk ⟨_,_,f3,eG,b8.kp,eN⟩;have f4:=ok_pat (w:=w) (base:=base) aR T bE cV eD;have eR:=Cal.mk ⟨_,_,f4,cK,aR.kp,cM⟩;have aH:=Cal.mk ⟨_,_,AI.down f4,cK,aR.kp,cM⟩;have cO:CalH l.prog w K mg base 1 "_law_word" Eb (spWd K _):=⟨_,_,ok_wd cS T,gK,cS.kp,gP⟩
 have aS:Cal l.prog w K mg base CX0 106 "_law_refused" CC (Rx K _ _):=⟨_,_,ok_rfp bJ T (by decide) eR cO,eU,bJ.kp,fA⟩
 have aY:Cal l.prog w K mg base CX0 2 "_law_run_by" Dc spRb:=⟨_,_,ok_rb bQ T aP,fI,bQ.kp,fP⟩
 have bC:Cal l.prog w K mg base CX0 1 "_law_run_text" Cl spRt:=⟨_,_,ok_rt b9 T,eJ,b9.kp,eO⟩
 have dA:Cal l.prog w K mg base CX0 1 "_law_due" EJ (spLd K):=⟨_,_,ok_ld d9 T,gY,d9.kp,hW⟩
 have bU:Cal l.prog w K mg base CX0 1 "_law_leaves" Dd (spLv K):=⟨_,_,ok_lv bR T,fJ,bR.kp,fQ⟩
 exact ok_law F_law T eS aW cX bF aY bC dA bU aS aH aX
theorem walk {l:PySem.W.OpenLaw} {q:Program} {loose:List Str} {XP:(Str->Option Value)->Heap->Prop} {YP:World->Heap->Prop} {d:DefRec} {K:Params->PySem.W.Frag} (hn:l.most=some 63) (hdf:d.params.defaults=[])
  (hY:∀ (w:World) (h:Heap),YP w h->(K w.params).In h)
  (F:∀ (w:World) (mg:Str->Option Value) (fa:Addr) (h:Heap),(K w.params).In h->h.Ns mainGlobals mg->mg d.name=some (.ref fa) ->
   ∃ fd:FuncData,(∀ (s:Shared) (u:Value),BindsTo s fd ⟨[u],[]⟩ [("_law_script",u)])/\∀ base:Heap,(K w.params).In base->base.Ns mainGlobals mg->AI l.prog w (K w.params) mg base CX0 108 fa fd ["_law_script"] (Ps (K w.params))) :
  PySem.W.WalkO q loose XP YP l.row.toRowW d [] (fun f vs=>PySem.call f vs) :=
 L2.Pk (n:=63) (k:=108) (x:="_law_script") (CX:=fun _=>CX0) (sp:=fun w=>Ps (K w.params)) hn (by decide) hdf ⟨rfl,by decide,by decide⟩ hY F (fun _ _ a ns hl _ hS=>⟨a,ns,rfl,hS,hl,fun _=>rfl⟩) fun _ _ _ _ _ z=>z
end J
theorem PySem.W.Fast.tw5241910249560997301:True:=True.intro
theorem PySem.W.Fast.tw59717733566401115:True:=True.intro
theorem PySem.W.Fast.tw17084890356006878233:True:=True.intro
theorem PySem.W.Fast.tw3355773147955087615:True:=True.intro
theorem PySem.W.Fast.tw6428215776504402527:True:=True.intro
theorem PySem.W.Fast.tw8601597827763206774:True:=True.intro
theorem PySem.W.Fast.tw17771085580445491060:True:=True.intro
theorem PySem.W.Fast.tw15083468534740916045:True:=True.intro
theorem PySem.W.Fast.tw1227405197647080294:True:=True.intro
theorem PySem.W.Fast.tw15205720177034698783:True:=True.intro
theorem PySem.W.Fast.tw5457797689245591041:True:=True.intro
theorem PySem.W.Fast.tw17734703438110639919:True:=True.intro
theorem PySem.W.Fast.tw5059839099936944208:True:=True.intro
theorem PySem.W.Fast.tw9731482544383048362:True:=True.intro
theorem PySem.W.Fast.tw15319384303061922274:True:=True.intro
theorem PySem.W.Fast.tw2742537519052545051:True:=True.intro
theorem PySem.W.Fast.tw843791828741014059:True:=True.intro
theorem PySem.W.Fast.tw8982660749433044585:True:=True.intro
theorem PySem.W.Fast.tw17134378040722750411:True:=True.intro
theorem PySem.W.Fast.tw15854792771612142743:True:=True.intro
theorem PySem.W.Fast.tw15095599579031581804:True:=True.intro
theorem PySem.W.Fast.tw984711653040607007:True:=True.intro
theorem PySem.W.Fast.tw1064993383060972463:True:=True.intro
theorem PySem.W.Fast.tw4669731431169470456:True:=True.intro
theorem PySem.W.Fast.tw13744293420416503572:True:=True.intro
theorem PySem.W.Fast.tw9815781837124523861:True:=True.intro
theorem PySem.W.Fast.tw17354002523407764418:True:=True.intro
theorem PySem.W.Fast.tw3701024819599548700:True:=True.intro
theorem PySem.W.Fast.tw6935525119226574854:True:=True.intro
theorem PySem.W.Fast.tw52172080652852795:True:=True.intro
theorem PySem.W.Fast.tw880415576447107367:True:=True.intro
theorem PySem.W.Fast.tw2404939744439106015:True:=True.intro
theorem PySem.W.Fast.tw13271327610762153116:True:=True.intro
theorem PySem.W.Fast.tw3625183073767532523:True:=True.intro
theorem PySem.W.Fast.tw8267974819202973110:True:=True.intro
theorem PySem.W.Fast.tw4327747269581759884:True:=True.intro
theorem PySem.W.Fast.tw7564151438420860727:True:=True.intro
theorem PySem.W.Fast.tw11466275908050647152:True:=True.intro
theorem PySem.W.Fast.tw7493099970295689434:True:=True.intro
theorem PySem.W.Fast.tw15427391658183951503:True:=True.intro
theorem PySem.W.Fast.tw12646473279006480019:True:=True.intro
theorem PySem.W.Fast.tw11692977812771086992:True:=True.intro
theorem PySem.W.Fast.tw2661078642011746906:True:=True.intro
theorem PySem.W.Fast.tw17165677518940708938:True:=True.intro
theorem PySem.W.Fast.tw15637739676717483749:True:=True.intro
theorem PySem.W.Fast.tw16345058538546666062:True:=True.intro
theorem PySem.W.Fast.tw9022697956224360280:True:=True.intro
theorem PySem.W.Fast.tw4493780214520084732:True:=True.intro
theorem PySem.W.Fast.tw3128932363996868160:True:=True.intro
theorem PySem.W.Fast.tw9162997673074761414:True:=True.intro
theorem PySem.W.Fast.tw2762941852389736124:True:=True.intro
theorem PySem.W.Fast.tw16606297030770145851:True:=True.intro
theorem PySem.W.Fast.tw10951276752512165881:True:=True.intro
theorem PySem.W.Fast.tw9403683812183626689:True:=True.intro
theorem PySem.W.Fast.tw6389329420692128403:True:=True.intro
theorem PySem.W.Fast.tw5417383513634297735:True:=True.intro
theorem PySem.W.Fast.tw6159618924125554520:True:=True.intro
theorem PySem.W.Fast.tw12970330590715009481:True:=True.intro
theorem PySem.W.Fast.tw17052716143737116006:True:=True.intro
theorem PySem.W.Fast.tw13330523779903167985:True:=True.intro
theorem PySem.W.Fast.tw16831625037779684579:True:=True.intro
theorem PySem.W.Fast.tw13190271008854979293:True:=True.intro
theorem PySem.W.Fast.tw16394602551060726670:True:=True.intro
theorem PySem.W.Fast.tw4902483485459438217:True:=True.intro
theorem PySem.W.Fast.tw7124812795330542433:True:=True.intro
theorem PySem.W.Fast.tw9138387859224080203:True:=True.intro
theorem PySem.W.Fast.tw13628023564857337589:True:=True.intro
theorem PySem.W.Fast.tw2738224545532713031:True:=True.intro
theorem PySem.W.Fast.tw2859729939450399122:True:=True.intro
theorem PySem.W.Fast.tw10634497898904755966:True:=True.intro
theorem PySem.W.Fast.tw15536752170207485606:True:=True.intro
theorem PySem.W.Fast.tw4188824225043162909:True:=True.intro
theorem PySem.W.Fast.tw14449513500352574854:True:=True.intro
theorem PySem.W.Fast.tw5970866641803995434:True:=True.intro
theorem PySem.W.Fast.tw6102470443712880398:True:=True.intro
theorem PySem.W.Fast.tw11937021829056606210:True:=True.intro
theorem PySem.W.Fast.tw1151510664312683766:True:=True.intro
theorem PySem.W.Fast.tw4066379694271109238:True:=True.intro
theorem PySem.W.Fast.tw16434995905232916124:True:=True.intro
theorem PySem.W.Fast.tw13667574478458046189:True:=True.intro
theorem PySem.W.Fast.tw5823772318525925407:True:=True.intro
theorem PySem.W.Fast.tw16719806528811203777:True:=True.intro
theorem PySem.W.Fast.tw15593182014495824562:True:=True.intro
theorem PySem.W.Fast.tw7830421201955804433:True:=True.intro
theorem PySem.W.Fast.tw10939199718211910405:True:=True.intro
theorem PySem.W.Fast.tw4956633144984082195:True:=True.intro
theorem PySem.W.Fast.tw15274497567843013453:True:=True.intro
theorem PySem.W.Fast.tw15404355163727071091:True:=True.intro
theorem PySem.W.Fast.tw4940276943517982264:True:=True.intro
theorem PySem.W.Fast.tw7183018696976855154:True:=True.intro
theorem PySem.W.Fast.tw12705232192124758139:True:=True.intro
theorem PySem.W.Fast.tw5573568565051619988:True:=True.intro
theorem PySem.W.Fast.tw16800276584654988107:True:=True.intro
theorem PySem.W.Fast.tw11130072817680374490:True:=True.intro
theorem PySem.W.Fast.tw1264613744486539876:True:=True.intro
theorem PySem.W.Fast.tw14043190733244084301:True:=True.intro
theorem PySem.W.Fast.tw11073921671297156390:True:=True.intro
theorem PySem.W.Fast.tw3507496578978780841:True:=True.intro
theorem PySem.W.Fast.tw16840012010897886329:True:=True.intro
theorem PySem.W.Fast.tw8673744151172947163:True:=True.intro
theorem PySem.W.Fast.tw8808042853740487541:True:=True.intro
theorem PySem.W.Fast.tw5072110356311082295:True:=True.intro
theorem PySem.W.Fast.tw14768768641792303333:True:=True.intro
theorem PySem.W.Fast.tw12781953211114374011:True:=True.intro
theorem PySem.W.Fast.tw16923320040835848638:True:=True.intro
theorem PySem.W.Fast.tw13883635382542380713:True:=True.intro
theorem PySem.W.Fast.tw1579337282395126138:True:=True.intro
theorem PySem.W.Fast.tw528490090985207469:True:=True.intro
theorem PySem.W.Fast.tw8655489864193279046:True:=True.intro
theorem PySem.W.Fast.tw380461023601158599:True:=True.intro
theorem PySem.W.Fast.tw10114617201337220587:True:=True.intro
theorem PySem.W.Fast.tw6209546027837196502:True:=True.intro
theorem PySem.W.Fast.tw1995726048942751798:True:=True.intro
theorem PySem.W.Fast.tw9422620970634123940:True:=True.intro
theorem PySem.W.Fast.tw16190851778158024327:True:=True.intro
theorem PySem.W.Fast.tw5591792005964192953:True:=True.intro
theorem PySem.W.Fast.tw10624749744795421126:True:=True.intro
theorem PySem.W.Fast.tw17308187713670235314:True:=True.intro
theorem PySem.W.Fast.tw327263101700596914:True:=True.intro
theorem PySem.W.Fast.tw18191255069322871695:True:=True.intro
theorem PySem.W.Fast.tw8143170462994465399:True:=True.intro
theorem PySem.W.Fast.tw12149806827307370702:True:=True.intro
theorem PySem.W.Fast.tw5779131686134293033:True:=True.intro
theorem PySem.W.Fast.tw3276207322186917732:True:=True.intro
theorem PySem.W.Fast.tw7191334976675629386:True:=True.intro
theorem PySem.W.Fast.tw358790239267553495:True:=True.intro
theorem PySem.W.Fast.tw18227808397313217990:True:=True.intro
theorem PySem.W.Fast.tw4038367521005162886:True:=True.intro
theorem PySem.W.Fast.tw15172676090573773547:True:=True.intro
theorem PySem.W.Fast.tw9860724260868389167:True:=True.intro
theorem PySem.W.Fast.tw11364776137073721959:True:=True.intro
theorem PySem.W.Fast.tw404717810776452504:True:=True.intro
theorem PySem.W.Fast.tw12770129436463962621:True:=True.intro
theorem PySem.W.Fast.tw12041669504082912116:True:=True.intro
theorem PySem.W.Fast.tw5215723379492429776:True:=True.intro
theorem PySem.W.Fast.tw9451354562288443246:True:=True.intro
theorem PySem.W.Fast.tw1014764982765620824:True:=True.intro
theorem PySem.W.Fast.tw11668034474358474891:True:=True.intro
theorem PySem.W.Fast.tw1374113988028481788:True:=True.intro
theorem PySem.W.Fast.tw90322714775121293:True:=True.intro
theorem PySem.W.Fast.tw15647043089035611528:True:=True.intro
theorem PySem.W.Fast.tw8144401668440319807:True:=True.intro
theorem PySem.W.Fast.tw8525925871648967442:True:=True.intro
theorem PySem.W.Fast.tw10389982745170580580:True:=True.intro
theorem PySem.W.Fast.tw10834264773194826911:True:=True.intro
theorem PySem.W.Fast.tw15533036277814010421:True:=True.intro
theorem PySem.W.Fast.tw9409667900039712643:True:=True.intro
theorem PySem.W.Fast.tw8544896957604888676:True:=True.intro
theorem PySem.W.Fast.tw1085888075723422065:True:=True.intro
theorem PySem.W.Fast.tw6000984910167256485:True:=True.intro
theorem PySem.W.Fast.tw14282437368077884710:True:=True.intro
theorem PySem.W.Fast.tw13689404574641459915:True:=True.intro
theorem PySem.W.Fast.tw7684569289663624471:True:=True.intro
theorem PySem.W.Fast.tw9593863950199722795:True:=True.intro
theorem PySem.W.Fast.tw16116832998435486368:True:=True.intro
theorem PySem.W.Fast.tw5623926923621547138:True:=True.intro
theorem PySem.W.Fast.tw1688690366936781220:True:=True.intro
theorem PySem.W.Fast.tw6308002572576612977:True:=True.intro
theorem PySem.W.Fast.tw17007130447317948208:True:=True.intro
theorem PySem.W.Fast.tw1933633624273171374:True:=True.intro
theorem PySem.W.Fast.tw8742691554136786704:True:=True.intro
theorem PySem.W.Fast.tw1222864750224241140:True:=True.intro
theorem PySem.W.Fast.tw10891905549120834016:True:=True.intro
theorem PySem.W.Fast.tw15428595703329096459:True:=True.intro
theorem PySem.W.Fast.tw4540879821184054823:True:=True.intro
theorem PySem.W.Fast.tw14748384233387329602:True:=True.intro
theorem PySem.W.Fast.tw4575892838575541061:True:=True.intro
theorem PySem.W.Fast.tw10083503228888184225:True:=True.intro
theorem PySem.W.Fast.tw12892761593846902894:True:=True.intro
theorem PySem.W.Fast.tw12301890550827507963:True:=True.intro
theorem PySem.W.Fast.tw12040709932340032738:True:=True.intro
theorem PySem.W.Fast.tw4823168233160138215:True:=True.intro
theorem PySem.W.Fast.tw18264519325054773659:True:=True.intro
theorem PySem.W.Fast.tw10948554100309486922:True:=True.intro
theorem PySem.W.Fast.tw167554124686630858:True:=True.intro
theorem PySem.W.Fast.tw6623647079385107899:True:=True.intro
theorem PySem.W.Fast.tw8629284489545261869:True:=True.intro
theorem PySem.W.Fast.tw2834766860268219563:True:=True.intro
theorem PySem.W.Fast.tw10539643569643847888:True:=True.intro
theorem PySem.W.Fast.tw989738266597964658:True:=True.intro
theorem PySem.W.Fast.tw7826167181067712785:True:=True.intro
theorem PySem.W.Fast.tw16636477381421233047:True:=True.intro
theorem PySem.W.Fast.tw12503601391875443222:True:=True.intro
theorem PySem.W.Fast.tw17587140964722335624:True:=True.intro
theorem PySem.W.Fast.tw12923073824853850726:True:=True.intro
theorem PySem.W.Fast.tw6612463864728857266:True:=True.intro
theorem PySem.W.Fast.tw16317789057874410152:True:=True.intro
theorem PySem.W.Fast.tw14727423945508296742:True:=True.intro
theorem PySem.W.Fast.tw8128038744493806520:True:=True.intro
theorem PySem.W.Fast.tw15211605336536006454:True:=True.intro
theorem PySem.W.Fast.tw1202861379566171766:True:=True.intro
theorem PySem.W.Fast.tw12534283371507787381:True:=True.intro
theorem PySem.W.Fast.tw11417661547484645663:True:=True.intro
theorem PySem.W.Fast.tw10432094937468294850:True:=True.intro
theorem PySem.W.Fast.tw7881004753121737659:True:=True.intro
theorem PySem.W.Fast.tw16296286952997435179:True:=True.intro
theorem PySem.W.Fast.tw8615900164161536143:True:=True.intro
theorem PySem.W.Fast.tw16694698668026012051:True:=True.intro
theorem PySem.W.Fast.tw12910488061883333603:True:=True.intro
theorem PySem.W.Fast.tw6283398464556131916:True:=True.intro
theorem PySem.W.Fast.tw4118492425679922595:True:=True.intro
theorem PySem.W.Fast.tw16769744165931273485:True:=True.intro
theorem PySem.W.Fast.tw15008570308648123784:True:=True.intro
theorem PySem.W.Fast.tw10310246623224984778:True:=True.intro
theorem PySem.W.Fast.tw1068836609518022301:True:=True.intro
theorem PySem.W.Fast.tw6100689445367891782:True:=True.intro
theorem PySem.W.Fast.tw8612730092777693753:True:=True.intro
theorem PySem.W.Fast.tw9625075008594408956:True:=True.intro
theorem PySem.W.Fast.tw3115342812148186753:True:=True.intro
theorem PySem.W.Fast.tw17429784425883440832:True:=True.intro
theorem PySem.W.Fast.tw2773208343221411296:True:=True.intro
theorem PySem.W.Fast.tw9229509980003373109:True:=True.intro
theorem PySem.W.Fast.tw4579392881232772008:True:=True.intro
theorem PySem.W.Fast.tw13609996251665042592:True:=True.intro
theorem PySem.W.Fast.tw2360689973731060910:True:=True.intro
theorem PySem.W.Fast.tw11125158628804053797:True:=True.intro
theorem PySem.W.Fast.tw15205989300111046322:True:=True.intro
theorem PySem.W.Fast.tw8054161648145409426:True:=True.intro
theorem PySem.W.Fast.tw13718527412153090400:True:=True.intro
theorem PySem.W.Fast.tw14999735339110066425:True:=True.intro
theorem PySem.W.Fast.tw12262215764357562071:True:=True.intro
theorem PySem.W.Fast.tw7997718247059340467:True:=True.intro
theorem PySem.W.Fast.tw472819516535220830:True:=True.intro
theorem PySem.W.Fast.tw16672612049292683978:True:=True.intro
theorem PySem.W.Fast.tw3797817428227237173:True:=True.intro
theorem PySem.W.Fast.tw4927222815352324560:True:=True.intro
theorem PySem.W.Fast.tw10533053855373816197:True:=True.intro
theorem PySem.W.Fast.tw16950466012700291309:True:=True.intro
theorem PySem.W.Fast.tw16903299537651301039:True:=True.intro
theorem PySem.W.Fast.tw6762162855375339317:True:=True.intro
theorem PySem.W.Fast.tw10657028258657473011:True:=True.intro
theorem PySem.W.Fast.tw1996199336668196336:True:=True.intro
theorem PySem.W.Fast.tw2982069657056613638:True:=True.intro
theorem PySem.W.Fast.tw5514460742852093868:True:=True.intro
theorem PySem.W.Fast.tw2095718214954919465:True:=True.intro
theorem PySem.W.Fast.tw6030094597017885897:True:=True.intro
theorem PySem.W.Fast.tw11658762988140869197:True:=True.intro
theorem PySem.W.Fast.tw18170241973810505782:True:=True.intro
theorem PySem.W.Fast.tw9172431379121628711:True:=True.intro
theorem PySem.W.Fast.tw10844420124468681740:True:=True.intro
theorem PySem.W.Fast.tw12314930719897915708:True:=True.intro
theorem PySem.W.Fast.tw11102302640711644077:True:=True.intro
theorem PySem.W.Fast.tw5749049730473687559:True:=True.intro
theorem PySem.W.Fast.tw10125413640500509095:True:=True.intro
theorem PySem.W.Fast.tw18052251479911010758:True:=True.intro
theorem PySem.W.Fast.tw17058766947892189887:True:=True.intro
theorem PySem.W.Fast.tw7152135866671751152:True:=True.intro
theorem PySem.W.Fast.tw7653651650507045905:True:=True.intro
theorem PySem.W.Fast.tw204126828680449168:True:=True.intro
theorem PySem.W.Fast.tw9950524217148242281:True:=True.intro
theorem PySem.W.Fast.tw14703295711970062873:True:=True.intro
theorem PySem.W.Fast.tw6479097099938546990:True:=True.intro
theorem PySem.W.Fast.tw11843016068411636155:True:=True.intro
theorem PySem.W.Fast.tw10886389107958165524:True:=True.intro
theorem PySem.W.Fast.tw10583095034058798905:True:=True.intro
theorem PySem.W.Fast.tw10279056741221722977:True:=True.intro
theorem PySem.W.Fast.tw6996823091743880344:True:=True.intro
theorem PySem.W.Fast.tw5628786283105950984:True:=True.intro
theorem PySem.W.Fast.tw1363115989105414938:True:=True.intro
theorem PySem.W.Fast.tw799914541056095493:True:=True.intro
theorem PySem.W.Fast.tw5899372768489731543:True:=True.intro
theorem PySem.W.Fast.tw1032432778853505451:True:=True.intro
theorem PySem.W.Fast.tw13597739544636787497:True:=True.intro
theorem PySem.W.Fast.tw10393584563331534971:True:=True.intro
theorem PySem.W.Fast.tw1628147289121797327:True:=True.intro
theorem PySem.W.Fast.tw15057080163900073939:True:=True.intro
theorem PySem.W.Fast.tw6139108774422784545:True:=True.intro
theorem PySem.W.Fast.tw14376054357285515538:True:=True.intro
theorem PySem.W.Fast.tw12204315379502939050:True:=True.intro
theorem PySem.W.Fast.tw2488040303937937908:True:=True.intro
theorem PySem.W.Fast.tw9658036805344828790:True:=True.intro
theorem PySem.W.Fast.tw15916510908345251446:True:=True.intro
theorem PySem.W.Fast.tw5879686605960711542:True:=True.intro
theorem PySem.W.Fast.tw14808395543853415543:True:=True.intro
theorem PySem.W.Fast.tw2140704998495081827:True:=True.intro
theorem PySem.W.Fast.tw17418494046727792237:True:=True.intro
theorem PySem.W.Fast.tw161879110150864342:True:=True.intro
theorem PySem.W.Fast.tw16338193771879427487:True:=True.intro
theorem PySem.W.Fast.tw3403414584568963654:True:=True.intro
theorem PySem.W.Fast.tw528992620506961880:True:=True.intro
theorem PySem.W.Fast.tw10430326710842669691:True:=True.intro
theorem PySem.W.Fast.tw3166046461931740683:True:=True.intro
theorem PySem.W.Fast.tw3750606045129568017:True:=True.intro
theorem PySem.W.Fast.tw4934817992733924164:True:=True.intro
theorem PySem.W.Fast.tw1193205071300521990:True:=True.intro
theorem PySem.W.Fast.tw3230483366706621635:True:=True.intro
theorem PySem.W.Fast.tw6148715713348886980:True:=True.intro
theorem PySem.W.Fast.tw11827134266580229870:True:=True.intro
theorem PySem.W.Fast.tw10700900515678255776:True:=True.intro
theorem PySem.W.Fast.tw16763535886568500536:True:=True.intro
theorem PySem.W.Fast.tw7312562462391924028:True:=True.intro
theorem PySem.W.Fast.tw9378752701227060424:True:=True.intro
theorem PySem.W.Fast.tw8090134216900159964:True:=True.intro
theorem PySem.W.Fast.tw13391875524806969300:True:=True.intro
theorem PySem.W.Fast.tw2261940028777005768:True:=True.intro
theorem PySem.W.Fast.tw16319790204213752963:True:=True.intro
theorem PySem.W.Fast.tw9656723396011792454:True:=True.intro
theorem PySem.W.Fast.tw7462351295062384886:True:=True.intro
theorem PySem.W.Fast.tw15123739209549145495:True:=True.intro
theorem PySem.W.Fast.tw12505643074972091687:True:=True.intro
theorem PySem.W.Fast.tw16786325415996643634:True:=True.intro
theorem PySem.W.Fast.tw16498620454355178624:True:=True.intro
theorem PySem.W.Fast.tw5836870020522589689:True:=True.intro
theorem PySem.W.Fast.tw2119904081500428859:True:=True.intro
theorem PySem.W.Fast.tw15177658434394569057:True:=True.intro
theorem PySem.W.Fast.tw9557402102573732971:True:=True.intro
theorem PySem.W.Fast.tw1179957470059723354:True:=True.intro
theorem PySem.W.Fast.tw12558145977049419293:True:=True.intro
theorem PySem.W.Fast.tw633961061999809946:True:=True.intro
theorem PySem.W.Fast.tw6573608926486815015:True:=True.intro
theorem PySem.W.Fast.tw8657783678336031597:True:=True.intro
theorem PySem.W.Fast.tw15315537741785849052:True:=True.intro
theorem PySem.W.Fast.tw1561343959895756045:True:=True.intro
theorem PySem.W.Fast.tw4764765164205487826:True:=True.intro
theorem PySem.W.Fast.tw4424113810393939972:True:=True.intro
theorem PySem.W.Fast.tw17070426534365340409:True:=True.intro
theorem PySem.W.Fast.tw1719970077107282924:True:=True.intro
theorem PySem.W.Fast.tw10035353339754175742:True:=True.intro
theorem PySem.W.Fast.tw4415280774189337541:True:=True.intro
theorem PySem.W.Fast.tw11192114990024897850:True:=True.intro
theorem PySem.W.Fast.tw634900054773963977:True:=True.intro
theorem PySem.W.Fast.tw8434603311195927366:True:=True.intro
theorem PySem.W.Fast.tw5485120486260616513:True:=True.intro
theorem PySem.W.Fast.tw7224050545520162201:True:=True.intro
theorem PySem.W.Fast.tw12396370922025094927:True:=True.intro
theorem PySem.W.Fast.tw4526491658994871827:True:=True.intro
theorem PySem.W.Fast.tw873484497916136824:True:=True.intro
theorem PySem.W.Fast.tw10341644051346397204:True:=True.intro
theorem PySem.W.Fast.tw15681471378298129985:True:=True.intro
theorem PySem.W.Fast.tw18304685237009199652:True:=True.intro
theorem PySem.W.Fast.tw7755001732131993431:True:=True.intro
theorem PySem.W.Fast.tw18208115025573314283:True:=True.intro
theorem PySem.W.Fast.tw12493610401214720110:True:=True.intro
theorem PySem.W.Fast.tw12682114684207587169:True:=True.intro
theorem PySem.W.Fast.tw14048594252980266968:True:=True.intro
theorem PySem.W.Fast.tw4663014081440144932:True:=True.intro
theorem PySem.W.Fast.tw7817682428541820201:True:=True.intro
theorem PySem.W.Fast.tw15637755847102457832:True:=True.intro
theorem PySem.W.Fast.tw204849776908291241:True:=True.intro
theorem PySem.W.Fast.tw7936449549916738352:True:=True.intro
theorem PySem.W.Fast.tw2729865688783336049:True:=True.intro
theorem PySem.W.Fast.tw4128658035376119955:True:=True.intro
theorem PySem.W.Fast.tw7389760204975652958:True:=True.intro
theorem PySem.W.Fast.tw7520227037266498249:True:=True.intro
theorem PySem.W.Fast.tw6179991669820039070:True:=True.intro
theorem PySem.W.Fast.tw17418382209065909075:True:=True.intro
theorem PySem.W.Fast.tw8091159609218537202:True:=True.intro
theorem PySem.W.Fast.tw16498508474507578692:True:=True.intro
theorem PySem.W.Fast.tw17411426358217605289:True:=True.intro
theorem PySem.W.Fast.tw13652202762072359620:True:=True.intro
theorem PySem.W.Fast.tw10665162710959928295:True:=True.intro
theorem PySem.W.Fast.tw3693042409842533679:True:=True.intro
theorem PySem.W.Fast.tw4461452542545682158:True:=True.intro
theorem PySem.W.Fast.tw2644735073387520388:True:=True.intro
theorem PySem.W.Fast.tw4615461289905976188:True:=True.intro
theorem PySem.W.Fast.tw6217799274062221001:True:=True.intro
theorem PySem.W.Fast.tw4218240453444956147:True:=True.intro
theorem PySem.W.Fast.tw3287048226452433655:True:=True.intro
theorem PySem.W.Fast.tw2500025311263818871:True:=True.intro
theorem PySem.W.Fast.tw14967797497319235016:True:=True.intro
theorem PySem.W.Fast.tw15871966368176564606:True:=True.intro
theorem PySem.W.Fast.tw11688462198574770341:True:=True.intro
theorem PySem.W.Fast.tw14392610545038610000:True:=True.intro
theorem PySem.W.Fast.tw12775713962403680152:True:=True.intro
theorem PySem.W.Fast.tw2706926686558722630:True:=True.intro
theorem PySem.W.Fast.tw17693678158890121359:True:=True.intro
theorem PySem.W.Fast.tw11616513196412410830:True:=True.intro
theorem PySem.W.Fast.tw10582366454654650138:True:=True.intro
theorem PySem.W.Fast.tw11979915998091812523:True:=True.intro
theorem PySem.W.Fast.tw943623331466550769:True:=True.intro
theorem PySem.W.Fast.tw12453965952500811639:True:=True.intro
theorem PySem.W.Fast.tw14492917682417996355:True:=True.intro
theorem PySem.W.Fast.tw5292337775599592422:True:=True.intro
theorem PySem.W.Fast.tw8738457283852121976:True:=True.intro
theorem PySem.W.Fast.tw17946237119704456680:True:=True.intro
theorem PySem.W.Fast.tw5530029905058944251:True:=True.intro
theorem PySem.W.Fast.tw10507870880649463860:True:=True.intro
theorem PySem.W.Fast.tw17158468696152454086:True:=True.intro
theorem PySem.W.Fast.tw9301894610488793327:True:=True.intro
theorem PySem.W.Fast.tw14717902863404339352:True:=True.intro
theorem PySem.W.Fast.tw11305465573656749401:True:=True.intro
theorem PySem.W.Fast.tw17585254339730350095:True:=True.intro
theorem PySem.W.Fast.tw3773018759947912735:True:=True.intro
theorem PySem.W.Fast.tw1885424949128364939:True:=True.intro
theorem PySem.W.Fast.tw9977349879241086098:True:=True.intro
theorem PySem.W.Fast.tw5111758659693744958:True:=True.intro
theorem PySem.W.Fast.tw2776981932388351215:True:=True.intro
theorem PySem.W.Fast.tw14906257537263587357:True:=True.intro
theorem PySem.W.Fast.tw4821854302354517336:True:=True.intro
theorem PySem.W.Fast.tw16755365854912922595:True:=True.intro
theorem PySem.W.Fast.tw13579359041809119325:True:=True.intro
theorem PySem.W.Fast.tw11029405932177295161:True:=True.intro
theorem PySem.W.Fast.tw6349232024195200222:True:=True.intro
theorem PySem.W.Fast.tw13033693293733830602:True:=True.intro
theorem PySem.W.Fast.tw13593635114422008386:True:=True.intro
theorem PySem.W.Fast.tw2084493428905752448:True:=True.intro
theorem PySem.W.Fast.tw5316606970933426785:True:=True.intro
theorem PySem.W.Fast.tw5752339260035848957:True:=True.intro
theorem PySem.W.Fast.tw7149382700787223553:True:=True.intro
theorem PySem.W.Fast.tw8600038217324847488:True:=True.intro
theorem PySem.W.Fast.tw1580992006742338864:True:=True.intro
theorem PySem.W.Fast.tw10157606675176473508:True:=True.intro
theorem PySem.W.Fast.tw13310865621215714047:True:=True.intro
theorem PySem.W.Fast.tw11914763463194524765:True:=True.intro
theorem PySem.W.Fast.tw17733596113270508673:True:=True.intro
theorem PySem.W.Fast.tw1721860460366831215:True:=True.intro
theorem PySem.W.Fast.tw14401096810035721255:True:=True.intro
theorem PySem.W.Fast.tw13612057341084851129:True:=True.intro
theorem PySem.W.Fast.tw15250471304953547445:True:=True.intro
theorem PySem.W.Fast.tw820838000292451903:True:=True.intro
theorem PySem.W.Fast.tw1650505802612948187:True:=True.intro
theorem PySem.W.Fast.tw1197026773927114408:True:=True.intro
theorem PySem.W.Fast.tw16403370879503867158:True:=True.intro
theorem PySem.W.Fast.tw13659348246456817066:True:=True.intro
open PySem PySem.W PyProof.Rows
set_option maxRecDepth 100000 in
set_option maxHeartbeats 0 in
theorem PySem.Challenge.cw_jumpfield_k82_a_pattern_read_holds : PySem.Challenge.rw_jumpfield_k82_a_pattern_read.Holds := by
 w_on; o_law; k_head; (case hw=>w_witness2)
 k_fill
 refine J.walk (l:=PySem.Challenge.rw_jumpfield_k82_a_pattern_read) rfl rfl (fun w h Y=>PySem.W.kIn_of Y) ?F
 case F =>
  intro w mg fa h KX G hmg;refine' J.fin KX G hmg ?dH ?pg_Grove ?hd_Grove ?po_Grove ?sa_Grove ?mk_Grove ?kc_Grove ?na_Grove_levels ?na_Grove_parts ?na_Grove_numbers ?na_Grove_bares ?na_Grove_amounts ?na_Grove_boxes ?a0 ?l0 ?c0 ?k0 ?a1 ?l1 ?c1 ?k1 ?a2 ?l2 ?c2 ?k2 ?a3 ?l3 ?c3 ?k3 ?a4 ?l4 ?c4 ?k4 ?a5 ?l5 ?c5 ?k5 ?a6 ?l6 ?c6 ?k6 ?a7 ?l7 ?c7 ?k7 ?a8 ?l8 ?c8 ?k8 ?a9 ?l9 ?c9 ?k9 ?a10 ?l10 ?c10 ?k10 ?a11 ?l11 ?c11 ?k11 ?a12 ?l12 ?c12 ?k12 ?a13 ?l13 ?c13 ?k13 ?a14 ?l14 ?c14 ?k14 ?a15 ?l15 ?c15 ?k15 ?a16 ?l16 ?c16 ?k16 ?a17 ?l17 ?c17 ?k17 ?a18 ?l18 ?c18 ?k18 ?a19 ?l19 ?c19 ?k19 ?a20 ?l20 ?c20 ?k20 ?a21 ?l21 ?c21 ?k21 ?a22 ?l22 ?c22 ?k22 ?a23 ?l23 ?c23 ?k23 ?a24 ?l24 ?c24 ?k24 ?a25 ?l25 ?c25 ?k25 ?a26 ?l26 ?c26 ?k26 ?a27 ?l27 ?c27 ?k27 ?a28 ?l28 ?c28 ?k28 ?a29 ?l29 ?c29 ?k29 ?a30 ?l30 ?c30 ?k30 ?a31 ?l31 ?c31 ?k31 ?a32 ?l32 ?c32 ?k32 ?a33 ?l33 ?c33 ?k33 ?a34 ?l34 ?c34 ?k34 ?a35 ?l35 ?c35 ?k35 ?a36 ?l36 ?c36 ?k36 ?a37 ?l37 ?c37 ?k37 ?a38 ?l38 ?c38 ?k38 ?a39 ?l39 ?c39 ?k39 ?a40 ?i40 ?l40 ?c40 ?k40 ?a41 ?i41 ?l41 ?c41 ?k41 ?a42 ?i42 ?l42 ?c42 ?k42 ?a43 ?i43 ?l43 ?c43 ?k43 ?a44 ?i44 ?l44 ?c44 ?k44 ?a45 ?i45 ?l45 ?c45 ?k45 ?a46 ?i46 ?l46 ?c46 ?k46 ?a47 ?i47 ?l47 ?c47 ?k47 ?a48 ?i48 ?l48 ?c48 ?k48 ?z_abs ?z_all ?z_bool ?z_enumerate ?z_int ?z_isinstance ?z_len ?z_max ?z_min ?z_range ?z_sorted ?z_str ?z_sum ?z_tuple ?g_FIGURES ?gx_FIGURES ?g_MOST_FIGURES ?g_STATES ?g_TOP_LEVEL ?g_LIMIT ?g_LEAST_LEVEL ?g_BLANK_SIGN ?gx_BLANK_SIGN ?g_ROW_SIGN ?gx_ROW_SIGN ?g_STATE_SIGNS ?gx_STATE_SIGNS ?g_RUN_SIGNS ?gx_RUN_SIGNS ?g_MOST_AMOUNT_FIGURES ?g_MOST_PLACE ?z_ValueError ?nx_FieldError ?nx_NoNumber ?nx_NoRule ?nx_Restless ?nx_NoSquare ?nx_NoLevel ?nx_NoState ?nx_NoBox ?nx_TooFar ?nx_TooMany ?nx_NoSteps ?nx_NoPattern ?nx_NoName ?nx_NoRow ?ec_TooFar ?ec_NoNumber ?ec_FieldError ?xf_TooFar_0 ?xf_TooFar_1 ?xf_TooFar_2 ?xf_TooFar_3 ?xf_4 ?xf_5 ?xf_TooFar_6 ?xf_TooFar_7 ?mr_TooFar ?kv_TooFar ?ki_TooFar_NoNumber ?ki_TooFar_NoRule ?ki_TooFar_Restless ?ki_TooFar_NoSquare ?ki_TooFar_NoLevel ?ki_TooFar_NoState ?ki_TooFar_NoBox ?ki_TooFar_TooFar ?ki_TooFar_TooMany ?ki_TooFar_NoSteps ?ki_TooFar_NoPattern ?ki_TooFar_NoName ?ki_TooFar_NoRow
  (case dH=>k_is)
  (case pg_Grove=>k_is)
  (case hd_Grove=>k_is)
  (case po_Grove=>k_is)
  (case sa_Grove=>k_is)
  (case mk_Grove=>k_is)
  (case kc_Grove=>k_is)
  (case na_Grove_levels=>k_is)
  (case na_Grove_parts=>k_is)
  (case na_Grove_numbers=>k_is)
  (case na_Grove_bares=>k_is)
  (case na_Grove_amounts=>k_is)
  (case na_Grove_boxes=>k_is)
  (case a0=>k_is)
  (case l0=>k_is)
  (case c0=>k_is)
  (case k0=>k_is)
  (case a1=>k_is)
  (case l1=>k_is)
  (case c1=>k_is)
  (case k1=>k_is)
  (case a2=>k_is)
  (case l2=>k_is)
  (case c2=>k_is)
  (case k2=>k_is)
  (case a3=>k_is)
  (case l3=>k_is)
  (case c3=>k_is)
  (case k3=>k_is)
  (case a4=>k_is)
  (case l4=>k_is)
  (case c4=>k_is)
  (case k4=>k_is)
  (case a5=>k_is)
  (case l5=>k_is)
  (case c5=>k_is)
  (case k5=>k_is)
  (case a6=>k_is)
  (case l6=>k_is)
  (case c6=>k_is)
  (case k6=>k_is)
  (case a7=>k_is)
  (case l7=>k_is)
  (case c7=>k_is)
  (case k7=>k_is)
  (case a8=>k_is)
  (case l8=>k_is)
  (case c8=>k_is)
  (case k8=>k_is)
  (case a9=>k_is)
  (case l9=>k_is)
  (case c9=>k_is)
  (case k9=>k_is)
  (case a10=>k_is)
  (case l10=>k_is)
  (case c10=>k_is)
  (case k10=>k_is)
  (case a11=>k_is)
  (case l11=>k_is)
  (case c11=>k_is)
  (case k11=>k_is)
  (case a12=>k_is)
  (case l12=>k_is)
  (case c12=>k_is)
  (case k12=>k_is)
  (case a13=>k_is)
  (case l13=>k_is)
  (case c13=>k_is)
  (case k13=>k_is)
  (case a14=>k_is)
  (case l14=>k_is)
  (case c14=>k_is)
  (case k14=>k_is)
  (case a15=>k_is)
  (case l15=>k_is)
  (case c15=>k_is)
  (case k15=>k_is)
  (case a16=>k_is)
  (case l16=>k_is)
  (case c16=>k_is)
  (case k16=>k_is)
  (case a17=>k_is)
  (case l17=>k_is)
  (case c17=>k_is)
  (case k17=>k_is)
  (case a18=>k_is)
  (case l18=>k_is)
  (case c18=>k_is)
  (case k18=>k_is)
  (case a19=>k_is)
  (case l19=>k_is)
  (case c19=>k_is)
  (case k19=>k_is)
  (case a20=>k_is)
  (case l20=>k_is)
  (case c20=>k_is)
  (case k20=>k_is)
  (case a21=>k_is)
  (case l21=>k_is)
  (case c21=>k_is)
  (case k21=>k_is)
  (case a22=>k_is)
  (case l22=>k_is)
  (case c22=>k_is)
  (case k22=>k_is)
  (case a23=>k_is)
  (case l23=>k_is)
  (case c23=>k_is)
  (case k23=>k_is)
  (case a24=>k_is)
  (case l24=>k_is)
  (case c24=>k_is)
  (case k24=>k_is)
  (case a25=>k_is)
  (case l25=>k_is)
  (case c25=>k_is)
  (case k25=>k_is)
  (case a26=>k_is)
  (case l26=>k_is)
  (case c26=>k_is)
  (case k26=>k_is)
  (case a27=>k_is)
  (case l27=>k_is)
  (case c27=>k_is)
  (case k27=>k_is)
  (case a28=>k_is)
  (case l28=>k_is)
  (case c28=>k_is)
  (case k28=>k_is)
  (case a29=>k_is)
  (case l29=>k_is)
  (case c29=>k_is)
  (case k29=>k_is)
  (case a30=>k_is)
  (case l30=>k_is)
  (case c30=>k_is)
  (case k30=>k_is)
  (case a31=>k_is)
  (case l31=>k_is)
  (case c31=>k_is)
  (case k31=>k_is)
  (case a32=>k_is)
  (case l32=>k_is)
  (case c32=>k_is)
  (case k32=>k_is)
  (case a33=>k_is)
  (case l33=>k_is)
  (case c33=>k_is)
  (case k33=>k_is)
  (case a34=>k_is)
  (case l34=>k_is)
  (case c34=>k_is)
  (case k34=>k_is)
  (case a35=>k_is)
  (case l35=>k_is)
  (case c35=>k_is)
  (case k35=>k_is)
  (case a36=>k_is)
  (case l36=>k_is)
  (case c36=>k_is)
  (case k36=>k_is)
  (case a37=>k_is)
  (case l37=>k_is)
  (case c37=>k_is)
  (case k37=>k_is)
  (case a38=>k_is)
  (case l38=>k_is)
  (case c38=>k_is)
  (case k38=>k_is)
  (case a39=>k_is)
  (case l39=>k_is)
  (case c39=>k_is)
  (case k39=>k_is)
  (case a40=>k_is)
  (case i40=>k_is)
  (case l40=>k_is)
  (case c40=>k_is)
  (case k40=>k_is)
  (case a41=>k_is)
  (case i41=>k_is)
  (case l41=>k_is)
  (case c41=>k_is)
  (case k41=>k_is)
  (case a42=>k_is)
  (case i42=>k_is)
  (case l42=>k_is)
  (case c42=>k_is)
  (case k42=>k_is)
  (case a43=>k_is)
  (case i43=>k_is)
  (case l43=>k_is)
  (case c43=>k_is)
  (case k43=>k_is)
  (case a44=>k_is)
  (case i44=>k_is)
  (case l44=>k_is)
  (case c44=>k_is)
  (case k44=>k_is)
  (case a45=>k_is)
  (case i45=>k_is)
  (case l45=>k_is)
  (case c45=>k_is)
  (case k45=>k_is)
  (case a46=>k_is)
  (case i46=>k_is)
  (case l46=>k_is)
  (case c46=>k_is)
  (case k46=>k_is)
  (case a47=>k_is)
  (case i47=>k_is)
  (case l47=>k_is)
  (case c47=>k_is)
  (case k47=>k_is)
  (case a48=>k_is)
  (case i48=>k_is)
  (case l48=>k_is)
  (case c48=>k_is)
  (case k48=>k_is)
  (case z_abs=>k_is)
  (case z_all=>k_is)
  (case z_bool=>k_is)
  (case z_enumerate=>k_is)
  (case z_int=>k_is)
  (case z_isinstance=>k_is)
  (case z_len=>k_is)
  (case z_max=>k_is)
  (case z_min=>k_is)
  (case z_range=>k_is)
  (case z_sorted=>k_is)
  (case z_str=>k_is)
  (case z_sum=>k_is)
  (case z_tuple=>k_is)
  (case g_FIGURES=>k_is)
  (case gx_FIGURES=>decide +kernel)
  (case g_MOST_FIGURES=>k_is)
  (case g_STATES=>k_is)
  (case g_TOP_LEVEL=>k_is)
  (case g_LIMIT=>k_is)
  (case g_LEAST_LEVEL=>k_is)
  (case g_BLANK_SIGN=>k_is)
  (case gx_BLANK_SIGN=>decide +kernel)
  (case g_ROW_SIGN=>k_is)
  (case gx_ROW_SIGN=>decide +kernel)
  (case g_STATE_SIGNS=>k_is)
  (case gx_STATE_SIGNS=>decide +kernel)
  (case g_RUN_SIGNS=>k_is)
  (case gx_RUN_SIGNS=>decide +kernel)
  (case g_MOST_AMOUNT_FIGURES=>k_is)
  (case g_MOST_PLACE=>k_is)
  (case z_ValueError=>k_is)
  (case nx_FieldError=>k_is)
  (case nx_NoNumber=>k_is)
  (case nx_NoRule=>k_is)
  (case nx_Restless=>k_is)
  (case nx_NoSquare=>k_is)
  (case nx_NoLevel=>k_is)
  (case nx_NoState=>k_is)
  (case nx_NoBox=>k_is)
  (case nx_TooFar=>k_is)
  (case nx_TooMany=>k_is)
  (case nx_NoSteps=>k_is)
  (case nx_NoPattern=>k_is)
  (case nx_NoName=>k_is)
  (case nx_NoRow=>k_is)
  (case ec_TooFar=>(show PySem.W.excIn _ _ _ _=true; k_exc))
  (case ec_NoNumber=>(show PySem.W.excIn _ _ _ _=true; k_exc))
  (case ec_FieldError=>(show PySem.W.excIn _ _ _ _=true; k_exc))
  (case xf_TooFar_0=>k_is)
  (case xf_TooFar_1=>k_is)
  (case xf_TooFar_2=>k_is)
  (case xf_TooFar_3=>k_is)
  (case xf_4=>k_is)
  (case xf_5=>k_is)
  (case xf_TooFar_6=>k_is)
  (case xf_TooFar_7=>k_is)
  (case mr_TooFar=>k_is)
  (case kv_TooFar=>kit_is)
  (case ki_TooFar_NoNumber=>kit_is)
  (case ki_TooFar_NoRule=>kit_is)
  (case ki_TooFar_Restless=>kit_is)
  (case ki_TooFar_NoSquare=>kit_is)
  (case ki_TooFar_NoLevel=>kit_is)
  (case ki_TooFar_NoState=>kit_is)
  (case ki_TooFar_NoBox=>kit_is)
  (case ki_TooFar_TooFar=>kit_is)
  (case ki_TooFar_TooMany=>kit_is)
  (case ki_TooFar_NoSteps=>kit_is)
  (case ki_TooFar_NoPattern=>kit_is)
  (case ki_TooFar_NoName=>kit_is)
  (case ki_TooFar_NoRow=>kit_is)
