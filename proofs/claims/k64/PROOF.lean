import PyProof.Rows.All
import Wide.All
import OpenK.AllK
import Wide.FinOn
import Lean
import PyProof.EqAt
import PyProof.EqKinds
import PyProof.TupleCall
import PyProof.Rows.CatFin
import PyProof.StrLawsIn
import KE.IntTextLaws
import KE.IntTextText
import PyProof.SumAny
import PyProof.SeqI3
import PyProof.WalkInts
import PyProof.NeKinds
import KE.KDictLaws
import PyProof.DictIter
import PyProof.DictWalks
import PyProof.Rows.DictUnroll
import PyProof.StrLawsTight
import PyProof.StrLawsChain
import PyProof.Rows.StrLawsPart
import PyProof.Rows.StrFirst
import PyProof.Rows.ReprOcc
import PyProof.Rows.StrItems
import PySem.Challenge.RW_jumpfield_k64_steps_refused
set_option Elab.async false
set_option linter.all false
set_option maxRecDepth 100000
set_option maxHeartbeats 8000000
theorem A0{p:Prop}(h:p:=by decide +kernel):p:=h
theorem A1{p:Prop}(h:p:=by lia):p:=h
theorem A3{p:Prop}(h:p:=by decide):p:=h
theorem A4{p:Prop}(h:p:=by intro z; cases z):p:=h
theorem A6{p:Prop}(h:p:=by simp):p:=h
theorem B0{p:Prop}(h:p:=by intro _ z; cases z):p:=h
theorem B1{p:Prop}(h:p:=by show (0:Int) < 2; decide):p:=h
theorem B2{p:Prop}(h:p:=by show 0 < 1000; decide):p:=h
theorem B3{p:Prop}(h:p:=by show 1 < 1000; decide):p:=h
theorem B4{p:Prop}(h:p:=by omega):p:=h
abbrev B5:=@List.length_map
abbrev B6:=@List.getElem?_eq_some_iff
abbrev B7:=@PySem.Heap.get?_push_of_some
abbrev B8:=@List.mem_cons
abbrev B9:=@List.getElem?_map
abbrev C0:=@Nat.le_refl
abbrev C1:=@List.mem_cons_of_mem
abbrev C3:=@List.mem_cons_self
abbrev C4:=@PySem.Heap.lt_size
abbrev C5:=@List.length_append
abbrev C6:=@Bool.false_ne_true
abbrev C7:=@PySem.Heap.get?_push_size
abbrev C8:=@Nat.le_trans
abbrev C9:=@List.map_append
abbrev D0:=@List.size_toArray
abbrev D1:=@List.getElem?_eq_getElem
abbrev D3:=@List.not_mem_nil
abbrev D4:=@List.mem_of_getElem?
abbrev D5:=@Option.map_eq_some_iff
abbrev D6:=@List.mem_map
abbrev D7:=@List.mem_singleton
abbrev D8:=@Nat.lt_of_lt_of_le
abbrev D9:=@Nat.pow_succ
abbrev F0:=@List.length_cons
abbrev F1:=@Nat.ne_of_lt
abbrev F2:=@List.getD_eq_getElem?_getD
abbrev F3:=@List.getElem?_append_right
abbrev F4:=@List.mem_append_right
abbrev F5:=@Nat.zero_le
abbrev F6:=@Nat.lt_of_le_of_lt
abbrev F7:=@List.getElem?_of_mem
abbrev F8:=@List.take_add_one
abbrev F9:=@Int.eq_ofNat_of_zero_le
abbrev J1:=@Nat.mod_lt
abbrev J9:=@List.length_take
abbrev L5:=@List.map_cons
abbrev L6:=@List.take_length
abbrev L7:=@Int.toNat_natCast
abbrev L8:=@List.getElem?_append_left
abbrev L9:=@Int.natCast_pow
abbrev M0:=@PySem.Heap.get?_update_other
abbrev M4:=@List.mem_range
abbrev M6:=@List.mem_append
abbrev M7:=@Nat.mul_le_mul_left
abbrev M8:=@List.nodup_cons
abbrev M9:=@Int.emod_nonneg
abbrev N1:=@Int.emod_lt_of_pos
abbrev N2:=@Nat.zero_add
abbrev N3:=@Nat.mul_assoc
abbrev N4:=@Nat.pow_le_pow_right
abbrev N5:=@Nat.add_mul_div_left
abbrev N6:=@Nat.not_lt_zero
abbrev N7:=@Nat.lt_irrefl
abbrev N8:=@Nat.div_eq_of_lt
abbrev N9:=@List.lookup_cons
abbrev O0:=@Bool.and_eq_true
abbrev O1:=@PySem.Heap.size_push
abbrev O2:=@List.length_replicate
abbrev O3:=@Nat.div_add_mod
abbrev O4:=@List.mem_append_left
abbrev O5:=@List.length_range
abbrev O6:=@PySem.Heap.get?_none_of_le
abbrev O7:=@Nat.mod_eq_of_lt
abbrev O8:=@Nat.le_of_not_lt
abbrev O9:=@List.all_eq_true
abbrev P0:=@Int.add_sub_cancel
abbrev P1:=@Int.natCast_add
abbrev P2:=@List.length_singleton
abbrev P3:=@PySem.Heap.get?_update_self
abbrev P4:=@List.append_assoc
abbrev P5:=@Nat.succ_le_succ
abbrev P6:=@Nat.add_mul_mod_self_left
abbrev P7:=@List.replicate_succ
abbrev P8:=@List.map_eq_nil_iff
abbrev P9:=@List.getElem?_range
abbrev Q0:=@List.sum_cons
abbrev Q4:=@List.find?_cons
abbrev Q5:=@Int.natCast_mul
abbrev Q6:=@Bool.eq_iff_iff
abbrev Q7:=@Option.toList_some
abbrev Q8:=@Nat.lt_trans
abbrev Q9:=@List.nodup_nil
abbrev R0:=@List.nodup_append
abbrev R1:=@Nat.lt_succ_self
abbrev R3:=@List.length_pos_iff
abbrev R4:=@Int.toNat_of_nonneg
abbrev R5:=@Nat.ne_of_gt
abbrev R6:=@List.map_map
abbrev R7:=@Array.getElem?_eq_some_iff
abbrev R8:=@Nat.pow_pos
abbrev R9:=@List.flatten_cons
abbrev S0:=@Nat.lt_succ_iff_lt_or_eq
abbrev S1:=@List.getElem?_take_of_lt
abbrev S2:=@List.any_cons
abbrev S3:=@Nat.min_le_right
abbrev S4:=@List.getElem_mem
abbrev S6:=@List.getElem?_replicate
abbrev S7:=@List.getElem?_cons_succ
abbrev S8:=@List.getElem?_set_self
abbrev S9:=@Option.map_some
abbrev T0:=@List.range_succ
abbrev T1:=@List.foldl_cons
abbrev T3:=@Nat.div_lt_iff_lt_mul
abbrev T5:=@List.getElem?_eq_none
abbrev T6:=@Nat.pow_lt_pow_right
abbrev T7:=@Nat.lt_one_iff
abbrev T8:=@Nat.le_succ
abbrev T9:=@Nat.div_lt_of_lt_mul
abbrev U0:=@List.mem_iff_getElem
abbrev U1:=@List.getElem?_set_ne
abbrev U2:=@List.filterMap_cons
abbrev U3:=@List.contains_cons
abbrev U4:=@List.findIdx?_eq_some_iff_getElem
abbrev U5:=@Nat.sub_self
abbrev U6:=@Nat.mul_comm
abbrev U7:=@Nat.lt_succ_of_lt
abbrev U8:=@Bool.eq_false_iff
abbrev U9:=@PySem.wpAny_bind
abbrev V0:=@if_neg
abbrev V1:=@decide_eq_true
abbrev V2:=@if_pos
abbrev V3:=@decide_eq_false
abbrev V4:=@Option.some.inj
abbrev V5:=@Ne.symm
abbrev V6:=@PyProof.Rows.boot_isinstance
abbrev V7:=@PySem.W.mg_of
abbrev V8:=@Int.ofNat.inj
abbrev V9:=@PySem.wpAny_pure
abbrev W0:=@congrArg
abbrev W1:=@of_decide_eq_true
abbrev W2:=@PySem.PassesOwn.never
abbrev W3:=@PySem.F.plainAttrs_list
abbrev W4:=@Classical.byContradiction
abbrev W5:=@PySem.F.slot_list_append
abbrev W6:=@PySem.F.type_list_append
abbrev W7:=@or_false
abbrev W8:=@PySem.Paired.length
abbrev W9:=@PySem.W.kia_one
abbrev Y4:=@PySem.wpAny_mono
abbrev Y5:=@PySem.wpAny_truthy_bool
abbrev Y6:=@PySem.wpAny_field
abbrev Y7:=@PyProof.Rows.boot_tuple
abbrev Y8:=@PySem.boot_len
abbrev Y9:=@PySem.mem_of_lookup
abbrev Z0:=@PyProof.Rows.callWith_type1
abbrev Z1:=@PyProof.Rows.boot_int
abbrev Z2:=@PySem.Obj.data_mapFields
abbrev Z3:=@PySem.wpAny_seqItems
abbrev Z4:=@PySem.wpAny_Call_Name_kw
abbrev Z5:=@PySem.wpAny_setField_rec
abbrev Z6:=@PySem.wpAny_passesOwn
abbrev Z7:=@PySem.F.slot_tuple_iterator_next
abbrev Z8:=@PySem.wpAny_execs_nil
abbrev Z9:=@PySem.call_meets
abbrev X4:=@PySem.Paired.snoc
abbrev X5:=@PySem.wpAny_pyIter_list
abbrev X6:=@PySem.Obj.isFreed_of_fields
abbrev X7:=@PySem.W.callWith_K
abbrev X8:=@PySem.wpAny_isSubtype_exc
abbrev X9:=@not_false_eq_true
abbrev K0:=@PySem.wpAny_setField
abbrev K1:=@beq_self_eq_true
abbrev K2:=@PySem.tupleKind_room_in1
abbrev K3:=@PySem.F.plainAttrs_str
abbrev K5:=@PyProof.Rows.boot_bool
abbrev K6:=@PySem.wpAny_newObj_type
abbrev K7:=@PySem.wpAny_loadPart_at
abbrev K8:=@PySem.wpAny_holding
abbrev K9:=@PySem.F.slot_dict_get
abbrev A0a:=@PyProof.Rows.boot_min
abbrev A0b:=@PySem.wpAny_call_entry
abbrev A0c:=@not_or
abbrev A0d:=@if_true
abbrev A0e:=@PySem.W.plainGet_of
abbrev A0f:=@PySem.codeAny_mono
abbrev A0g:=@PySem.F.slot_zip_next
abbrev A0h:=@PySem.codeAny_handlers_test
abbrev A1a:=@PySem.Calls.evalArgs_plain
abbrev A1b:=@PySem.wpAny_updateSeq_pair
abbrev A1c:=@decide_eq_true_eq
abbrev A1d:=@PySem.wpAny_handleBy_cons
abbrev A1e:=@PySem.wpAny_attempt
abbrev A1f:=@PySem.wpAny_onRaise
abbrev A1g:=@PySem.F.args_str_split_2
open PySem.W (instObj methodObj lookIn plainGet hasDictIn findIn handedIn isFn plainOver takerIn any_some makesIn emptyDict keepIn specialIn takesIn mroIn kitOne kitx_list kitx_dict notCls excIn clsIn)
namespace L2
open PySem PySem.Spec PyProof.Rows
abbrev Key:=Sum Int Str
def Of:Key->Value->Bool
 |.inl k,v=>Value.isInt k v
 |.inr x,v=>Value.isStrOf x v
def keyH(w:World):Key->Int
 |.inl k=>hashInt k
 |.inr x=>hashStr w x
theorem BO:∀{k:Key}{v:Value},Of k v=true->(∃i t,k=Sum.inl i/\v=Value.int i t)\/(∃x t,k=Sum.inr x/\v=Value.str x t)
 |.inl i,v,h=>by
  obtain⟨t,e⟩:=Value.isInt_shape (k:=i) (v:=v) h;exact .inl ⟨i,t,rfl,e⟩
 |.inr x,v,h=>by
  obtain⟨t,e⟩:=Value.isStrOf_shape (x:=x) (v:=v) h;exact .inr ⟨x,t,rfl,e⟩
theorem Uc(i:Int)(t:Tok):Of (.inl i) (.int i t)=true:=by simp[Of,Value.isInt]
theorem Ub(x:Str)(t:Tok):Of (.inr x) (.str x t)=true:=by simp[Of,Value.isStrOf]
theorem key_ll(a b:Int):decide ((Sum.inl a:Key)=Sum.inl b)=(a==b):=by
 by_cases e:a=b
 ·subst e;simp
 ·have h:¬(Sum.inl a:Key)=Sum.inl b:=λq=>e (Sum.inl.inj q);rw[V3 h];exact(beq_eq_false_iff_ne.mpr e).symm
theorem key_rr(a b:Str):decide ((Sum.inr a:Key)=Sum.inr b)=decide (a=b):=by
 by_cases e:a=b
 ·subst e;simp
 ·have h:¬(Sum.inr a:Key)=Sum.inr b:=λq=>e (Sum.inr.inj q);rw[V3 h,V3 e]
theorem key_lr(a:Int)(b:Str):decide ((Sum.inl a:Key)=Sum.inr b)=false:=V3 (λq=>nomatch q)
theorem key_rl(a:Str)(b:Int):decide ((Sum.inr a:Key)=Sum.inl b)=false:=V3 (λq=>nomatch q)
def Ch(prog:Program)(w:World):PySem.KeyKind prog w Key where
 is:=Of
 hash:=keyH w
 inj:=λv a b ha hb=>by
  rcases BO ha with ⟨i,t,rfl,rfl⟩|⟨x,t,rfl,rfl⟩
  ·rcases BO hb with ⟨j,u,rfl,e⟩|⟨y,u,rfl,e⟩
   ·injection e with e1 _;rw[e1]
   ·exact nomatch e
  ·rcases BO hb with ⟨j,u,rfl,e⟩|⟨y,u,rfl,e⟩
   ·exact nomatch e
   ·injection e with e1 _;rw[e1]
 byValue:=λk v h=>by
  rcases BO h with ⟨i,t,rfl,rfl⟩|⟨x,t,rfl,rfl⟩<;>rfl
 pyHash:=λhv h=>by
  rcases BO hv with ⟨i,t,rfl,rfl⟩|⟨x,t,rfl,rfl⟩
  ·exact wpAny_pyHash_int h
  ·exact wpAny_pyHash_str h
 eqBool:=λhu hv h=>by
  rcases BO hu with ⟨i,t,rfl,rfl⟩|⟨x,t,rfl,rfl⟩
  ·rcases BO hv with ⟨j,u,rfl,rfl⟩|⟨y,u,rfl,rfl⟩
   ·rw[key_ll]at h;exact wpAny_eqBool_int h
   ·rw[key_lr]at h;exact SeqAt.EqAt.int_str i t y u _ _ _ _ h
  ·rcases BO hv with ⟨j,u,rfl,rfl⟩|⟨y,u,rfl,rfl⟩
   ·rw[key_rl]at h;exact SeqAt.EqAt.str_int x t j u _ _ _ _ h
   ·rw[key_rr]at h;exact wpAny_eqBool_str h
 «strs»:=λk x t v h=>by
  rcases BO h with ⟨i,u,rfl,e⟩|⟨y,u,rfl,e⟩
  ·exact nomatch e
  ·injection e with e1 _
   subst e1;cases v<;>rfl
theorem QK(prog:Program)(w:World)(i:Int)(t:Tok):(Ch prog w).is (.inl i) (.int i t)=true:=Uc i t
theorem QJ(prog:Program)(w:World)(x:Str)(t:Tok):(Ch prog w).is (.inr x) (.str x t)=true:=Ub x t
inductive V where
 |non|bl (b:Bool)|int (i:Int)|str (x:Str)|byt (b:Array UInt8)|flt (b:UInt64)|ref (a:Addr)|ty (n:String)
 deriving DecidableEq
def AR:V->Value->Prop
 |.non,u=>u=Value.none
 |.bl b,u=>u=Value.bool b
 |.int i,u=>∃t,u=Value.int i t
 |.str x,u=>∃t,u=Value.str x t
 |.byt b,u=>∃t,u=Value.bytes b t
 |.flt b,u=>∃t,u=Value.float b t
 |.ref a,u=>u=Value.ref a
 |.ty n,u=>u=Value.type n
abbrev AM:List V->List Value->Prop:=Paired AR
theorem AM.length{xs:List V}{us:List Value}(r:AM xs us):xs.length=us.length:=W8 r
theorem AM.get:∀{xs:List V}{us:List Value}{i:Nat}{x:V},AM xs us->xs[i]?=some x->∃u,us[i]?=some u/\AR x u
 |_,_,_,_,.nil,e=>by simp at e
 |_,_,0,_,.cons r _,e=>by simp at e;subst e;exact⟨_,rfl,r⟩
 |_,_,i+1,x,.cons _ t,e=>by
  obtain⟨u,h1,h2⟩:=AM.get (i:=i) (x:=x) t (by simpa using e);exact⟨u,by simpa using h1,h2⟩
theorem AM.set{x:V}{u:Value}(r:AR x u):∀{xs:List V}{us:List Value}(i:Nat),AM xs us->AM (xs.set i x) (us.set i u)
 |_,_,_,.nil=>.nil
 |_,_,0,.cons _ t=>.cons r t
 |_,_,i+1,.cons q t=>.cons q (AM.set r i t)
theorem AM.append:∀{xs ys:List V}{us ws:List Value},AM xs us->AM ys ws->AM (xs++ys) (us++ws)
 |_,_,_,_,.nil,s=>s
 |_,_,_,_,.cons r t,s=>.cons r (AM.append t s)
theorem AM.take:∀{xs:List V}{us:List Value}(n:Nat),AM xs us->AM (xs.take n) (us.take n)
 |_,_,0,_=>.nil
 |_,_,_+1,.nil=>.nil
 |_,_,n+1,.cons r t=>.cons r (AM.take n t)
theorem AM.drop:∀{xs:List V}{us:List Value}(n:Nat),AM xs us->AM (xs.drop n) (us.drop n)
 |_,_,0,r=>r
 |_,_,_+1,.nil=>.nil
 |_,_,n+1,.cons _ t=>AM.drop n t
theorem AM.none_of:∀{xs:List V}{us:List Value}{i:Nat},AM xs us->xs[i]?=none->us[i]?=none:=λ{xs us i} r e=>by
 have h1:=r.length;have h2:xs.length<=i:=List.getElem?_eq_none_iff.mp e;exact List.getElem?_eq_none_iff.mpr A1
def GR:Option V->Option Value->Prop
 |some v,some u=>AR v u
 |none,none=>True
 |_,_=>False
def KV{κ:Type}:List (κ×V)->List (κ×Value)->Prop:=Paired λ(p:κ×V)(q:κ×Value)=>p.1=q.1/\AR p.2 q.2
def kV:Key->V
 |.inl i=>.int i
 |.inr x=>.str x
inductive HO where
 |lst (xs:List V)
 |tup (xs:List V)
 |dK (kvs:List (Key×V))|dT (kvs:List (List Key×V))
 |set (S:Int->Bool) (n:Nat)
 |ins (C dx:Addr) (fs:List (Str×V))
 |own (x:Addr)
 |xd (fs:List (Str×V))
 |met (f x:Addr)
 |rng (lo hi:Int)
 |frz (o:Obj) (u:HO)
 |tbl (ps:Array Value)
 |ext (φ:Heap->Prop)
abbrev Hp:=Addr->Option HO
def upd(H:Hp)(a:Addr)(o:HO):Hp:=λb=>if b=a then some o else H b
theorem Af{H:Hp}{a:Addr}{o:HO}:upd H a o a=some o:=by unfold upd;rw[V2 rfl]
theorem Ar{H:Hp}{a b:Addr}{o:HO}(h:b≠a):upd H a o b=H b:=by unfold upd;rw[V0 h]
theorem FT{H:Hp}{a:Addr}{o u:HO}:upd (upd H a o) a u=upd H a u:=by
 funext b;unfold upd;split<;>rfl
theorem AD{H:Hp}{a b:Addr}{o u:HO}(h:H a=some o)(h':H b=some u)(d:o≠u):a≠b:=by
 intro e;subst e;rw[h]at h';exact d (V4 h')
theorem Av{H:Hp}{a b:Addr}{o:HO}(h:H a=some o)(h':H b=none):a≠b:=by
 intro e;subst e;rw[h]at h';cases h'
section
variable(P:Program)(w:World)
def Bz(H:Hp)(h:Heap)(a:Addr):HO->Prop
 |.lst xs=>xs.length<=sizeLine/\∃(its:List Value)(n:Nat),AM xs its/\h.get? a=some {cls:=.type "list",data:=.seq its.toArray n}
 |.tup xs=>xs.length<=sizeLine/\∃its:List Value,AM xs its/\IsTup h a its.toArray
 |.dK kvs=>kvs.length<=sizeLine/\(a==sysModules)=false/\∃vs,KV kvs vs/\h.DictOf (Ch P w) a vs
 |.dT kvs=>kvs.length<=sizeLine/\(a==sysModules)=false/\∃xs:List (List Key×Addr×Value),
   Paired (λ(p:List Key×V)(q:List Key×Addr×Value)=>p.1=q.1/\H q.2.1=some (.tup (p.1.map kV))/\AR p.2 q.2.2) kvs xs /\
   ∃o es ep,h.get? a=some o/\o.ExactDict/\o.data=.dict es ep/\es.toList=xs.map (entryOfKey (tupleKind (Ch P w)))/\(xs.map (·.1)).Nodup
 |.set S n=>h.SetOf (intKind P w) a S n
 |.ins C dx fs=>H dx=some (.own a)/\fs.length<=1000/\dx≠a/\h.get? a=some (instObj C dx) /\
   ∃mA,h.Ns1 dx mA/\(∀f,GR (fs.lookup f) (mA f))/\PySem.Within mA (fs.map (·.1))
 |.own _=>∃o,h.get? a=some o
 |.xd fs=>∃mA,h.Ns1 a mA/\∀f,GR (fs.lookup f) (mA f)
 |.rng lo hi=>∃t u v,h.get? a=some {cls:=.type "range",data:=.fields #[.int lo t,.int hi u,.int 1 v]}
 |.frz o u=>h.get? a=some o/\Bz H h a u
 |.tbl ps=>h.get? a=some {cls:=.none,data:=.fields ps}
 |.met f x=>h.get? a=some (methodObj (.ref f) (.ref x))
 |.ext φ=>φ h/\(∃o,h.get? a=some o)/\∀h1 h2:Heap,φ h1->(∀o,h1.get? a=some o->h2.get? a=some o)->φ h2
def HOk(H:Hp)(h:Heap):Prop:=∀a o,H a=some o->Bz P w H h a o
end
section
variable{P:Program}{w:World}{H H':Hp}{h h':Heap}{a:Addr}{o:HO}
theorem Bz.lt(x:Bz P w H h a o):a<h.objs.size:=by
 cases o with
 |lst xs=>obtain⟨_,_,_,_,e⟩:=x;exact C4 e
 |tup xs=>obtain⟨_,_,_,p⟩:=x;exact p.lt
 |dK kvs=>obtain⟨_,_,_,_,o,_,_,e,_⟩:=x;exact C4 e
 |dT kvs=>obtain⟨_,_,_,_,o,_,_,e,_⟩:=x;exact C4 e
 |set S n=>obtain⟨o,_,_,_,e,_⟩:=x;exact C4 e
 |ins C dx fs=>obtain⟨_,_,_,e,_⟩:=x;exact C4 e
 |own y=>obtain⟨_,e⟩:=x;exact C4 e
 |xd fs=>obtain⟨_,⟨_,_,_,e,_⟩,_⟩:=x;exact C4 e
 |rng lo hi=>obtain⟨_,_,_,e⟩:=x;exact C4 e
 |frz ob u=>obtain⟨e,_⟩:=x;exact C4 e
 |tbl ps=>exact C4 (show h.get? a=some _ from x)
 |met f y=>exact C4 (show h.get? a=some _ from x)
 |ext φ=>obtain⟨_,⟨_,e⟩,_⟩:=x;exact C4 e
theorem Paired.mapP{α β:Type}{F G:α->β->Prop}:∀{l₁:List α}{l₂:List β},Paired F l₁ l₂->(∀a b,F a b->G a b)->Paired G l₁ l₂
 |_,_,.nil,_=>.nil
 |_,_,.cons r t,f=>.cons (f _ _ r) (Paired.mapP t f)
theorem Bz.stay(x:Bz P w H h a o)(k:∀b u,(b=a\/H b=some (.own a))->h.get? b=some u->h'.get? b=some u)
  (ho:∀b,H b=some (.own a)->H' b=some (.own a)) (ht:∀b xs,H b=some (.tup xs)->H' b=some (.tup xs)):Bz P w H' h' a o:=by
 induction o with
 |lst xs=>obtain⟨z,its,n,r,e⟩:=x;exact⟨z,its,n,r,k _ _ (.inl rfl) e⟩
 |tup xs=>obtain⟨z,its,r,ob,e,c⟩:=x;exact⟨z,its,r,ob,k _ _ (.inl rfl) e,c⟩
 |dK kvs=>obtain⟨z,y,vs,r,ob,es,ep,e,c⟩:=x;exact⟨z,y,vs,r,ob,es,ep,k _ _ (.inl rfl) e,c⟩
 |dT kvs =>
  obtain⟨z,y,xs,r,ob,es,ep,e,c⟩:=x;exact⟨z,y,xs,Paired.mapP r λp q z=>⟨z.1,ht _ _ z.2.1,z.2.2⟩,ob,es,ep,k _ _ (.inl rfl) e,c⟩
 |set S n=>obtain⟨ob,es,ep,t,e,c⟩:=x;exact⟨ob,es,ep,t,k _ _ (.inl rfl) e,c⟩
 |ins C dx fs =>
  obtain⟨d,z,ne,e,mA,⟨od,es,ep,e2,c⟩,r⟩:=x;exact⟨ho _ d,z,ne,k _ _ (.inl rfl) e,mA,⟨od,es,ep,k _ _ (.inr d) e2,c⟩,r⟩
 |own y=>obtain⟨ob,e⟩:=x;exact⟨ob,k _ _ (.inl rfl) e⟩
 |xd fs=>obtain⟨mA,⟨od,es,ep,e,c⟩,r⟩:=x;exact⟨mA,⟨od,es,ep,k _ _ (.inl rfl) e,c⟩,r⟩
 |rng lo hi=>obtain⟨t,u,v,e⟩:=x;exact⟨t,u,v,k _ _ (.inl rfl) e⟩
 |frz ob u ih=>obtain⟨e,q⟩:=x;exact⟨k _ _ (.inl rfl) e,ih q⟩
 |tbl ps =>
  have e:h.get? a=some {cls:=.none,data:=.fields ps}:=x;show h'.get? a=some {cls:=.none,data:=.fields ps};exact k a _ (.inl rfl) e
 |met f y =>
  have e:h.get? a=some (methodObj (.ref f) (.ref y)):=x;show h'.get? a=some (methodObj (.ref f) (.ref y));exact k a _ (.inl rfl) e
 |ext φ=>obtain⟨p,⟨o,e⟩,st⟩:=x;exact⟨st _ _ p λo q=>k _ _ (.inl rfl) q,⟨o,k _ _ (.inl rfl) e⟩,st⟩
theorem HOk.lt(x:HOk P w H h)(e:H a=some o):a<h.objs.size:=(x a o e).lt
theorem HOk.fresh(x:HOk P w H h)(e:h.objs.size<=a):H a=none:=by
 cases q:H a with
 |none=>rfl
 |some u=>exact absurd (D8 (x.lt q) e) (N7 _)
theorem HOk.kept(x:HOk P w H h)(k:∀b u,h.get? b=some u->h'.get? b=some u):HOk P w H h':=λa o e =>
 (x a o e).stay (λb u _ q=>k b u q) (λ_ q=>q) λ_ _ q=>q
theorem HOk.laid(x:HOk P w H h)(k:∀b u,h.get? b=some u->h'.get? b=some u)(hp:h.objs.size<=a)(new:Bz P w (upd H a o) h' a o):HOk P w (upd H a o) h':=λb u e=>by
 have hn:=x.fresh hp;by_cases hb:b=a
 ·subst hb;rw[Af]at e;cases e;exact new
 ·rw[Ar hb]at e;exact(x b u e).stay (λc v _ q=>k c v q) (λc q=>by rw[Ar (Av q hn)];exact q) λc xs q=>by rw[Ar (Av q hn)];exact q
end
def Rd(H:Hp)(a:Addr)(u:HO):Prop:=H a=some u\/∃o,H a=some (.frz o u)
theorem Rd.ok{P:Program}{w:World}{H:Hp}{h:Heap}{a:Addr}{u:HO}(r:Rd H a u)(x:HOk P w H h):Bz P w H h a u:=by
 rcases r with r|⟨o,r⟩
 ·exact x a u r
 ·obtain⟨_,q⟩:=x a _ r;exact q
def Mut:Option HO->Prop
 |some (.lst _)=>True
 |some (.dK _)=>True
 |some (.dT _)=>True
 |some (.set _ _)=>True
 |some (.ins _ _ _)=>True
 |some (.ext _)=>True
 |_=>False
section
variable{P:Program}{w:World}{H:Hp}{h h':Heap}{x e:Addr}{o':HO}
theorem HOk.write(ok:HOk P w H h)(mu:Mut (H x))(he:e=x\/H e=some (.own x))(k:∀b u,b≠e->h.get? b=some u->h'.get? b=some u)(heo:∃u,h'.get? e=some u)
  (new:Bz P w (upd H x o') h' x o'):HOk P w (upd H x o') h':=λb u q=>by
 have nown:∀c y,H c=some (.own y)->c≠x:=λc y r z=>by subst z;rw[r]at mu;exact mu
 have ntup:∀c xs,H c=some (.tup xs)->c≠x:=λc xs r z=>by subst z;rw[r]at mu;exact mu
 by_cases hb:b=x
 ·subst hb;rw[Af]at q;cases q;exact new
 ·rw[Ar hb]at q;by_cases hbe:b=e
  ·have q':H b=some (.own x):=by
    rcases he with z|z
    ·exact absurd (hbe.trans z) hb
    ·rw[hbe];exact z
   rw[q]at q';cases q';obtain⟨v,hv⟩:=heo;exact⟨v,by rw[hbe];exact hv⟩
  ·refine(ok b u q).stay (λc v hc r=>k c v ?_ r) (λc r=>by rw[Ar (nown c b r)];exact r) λc xs r=>by rw[Ar (ntup c xs r)];exact r
   rcases hc with rfl|hc
   ·exact hbe
   ·rintro rfl;rcases he with z|z
    ·exact nown c b hc z
    ·rw[hc]at z;cases z;exact hb rfl
end
structure Un(fs ex:List Addr)(H H':Hp)(h h':Heap):Prop where
 keep:∀b o,h.get? b=some o->H b=none->b∉fs->b∉ex->h'.get? b=some o
 slot:∀b o,h.get? b=some o->H b=none->b∈fs->b∉ex->∃sl,h'.get? b=some {o with slots:=sl}
 free:∀b o,h.get? b=some o->H b=none->b∉ex->H' b=none
 there:∀b o,h.get? b=some o->b∉ex->∃o',h'.get? b=some o'
 tups:∀b xs,H b=some (.tup xs)->H' b=some (.tup xs)
 frzs:∀b o u,H b=some (.frz o u)->H' b=some (.frz o u)
 tbls:∀b ps,H b=some (.tbl ps)->∃more,H' b=some (.tbl (ps++more))
section
variable{fs fs' ex ex':List Addr}{H H1 H2:Hp}{h h1 h2 h':Heap}{a x e:Addr}{o:HO}
theorem Un.any(u:Un fs ex H H1 h h1){b:Addr}{ob:Obj}(q:h.get? b=some ob)(n:H b=none)(hx:b∉ex):∃sl,h1.get? b=some {ob with slots:=sl}:=by
 by_cases hb:b∈fs
 ·exact u.slot b ob q n hb hx
 ·exact⟨ob.slots,u.keep b ob q n hb hx⟩
theorem Un.kept(k:∀b u,h.get? b=some u->h'.get? b=some u):Un fs ex H H h h' :=
 ⟨λb ob q _ _ _=>k b ob q,λb ob q _ _ _=>⟨ob.slots,k b ob q⟩,λ_ _ _ n _=>n,λb ob q _=>⟨ob,k b ob q⟩,λ_ _ q=>q,λ_ _ _ q=>q,λ_ ps q=>⟨#[],by rw[q];simp⟩⟩
theorem Un.refl:Un fs ex H H h h:=Un.kept λ_ _ q=>q
theorem Un.laid(k:∀b u,h.get? b=some u->h'.get? b=some u)(hp:h.objs.size<=a)(hn:H a=none):Un fs ex H (upd H a o) h h' where
 keep:=λb u q _ _ _=>k b u q
 slot:=λb u q _ _ _=>⟨u.slots,k b u q⟩
 free:=λb u q n _=>by rw[Ar (F1 (D8 (C4 q) hp))];exact n
 there:=λb u q _=>⟨u,k b u q⟩
 tups:=λb xs q=>by rw[Ar (Av q hn)];exact q
 frzs:=λb u xs q=>by rw[Ar (Av q hn)];exact q
 tbls:=λb ps q=>⟨#[],by rw[Ar (Av q hn),q];simp⟩
theorem Un.write(mu:Mut (H x))(he:e=x\/H e=some (.own x))(k:∀b u,b≠e->h.get? b=some u->h'.get? b=some u)(heo:∃u,h'.get? e=some u):Un fs ex H (upd H x o) h h':=by
 have hx:∀b,H b=none->b≠x:=λb n z=>by subst z;rw[n]at mu;exact mu
 have hb:∀b,H b=none->b≠e:=λb n z=>by
  subst z;rcases he with r|r
  ·exact hx b n r
  ·rw[n]at r;cases r
 have hm:∀b u,H b=some u->¬Mut (some u)->b≠x:=λb u q nm z=>by subst z;rw[q]at mu;exact nm mu
 refine⟨λb u q n _ _=>k b u (hb b n) q,λb u q n _ _=>⟨u.slots,k b u (hb b n) q⟩,λb u q n _=>by rw[Ar (hx b n)];exact n,λb u q _=>?_,
  λb xs q=>by rw[Ar (hm b _ q λz=>z)];exact q,λb u xs q=>by rw[Ar (hm b _ q λz=>z)];exact q,λb ps q=>⟨#[],by rw[Ar (hm b _ q λz=>z),q];simp⟩⟩
 by_cases hbe:b=e
 ·subst hbe;exact heo
 ·exact⟨u,k b u hbe q⟩
end
def trk(h:Heap)(H:Hp):List Addr:=(List.range h.objs.size).filter λa=>(H a).isSome
def Pw(h:Heap)(H:Hp):Heap:=PySem.W.hideAll h (trk h H)
theorem Uf(h:Heap)(H:Hp):(Pw h H).objs.size=h.objs.size:=PySem.W.hideAll_size _ _
theorem VY{h:Heap}{H:Hp}{b:Addr}{o:Obj}(e:h.get? b=some o)(n:H b=none):(Pw h H).get? b=some o :=
 PySem.W.hideAll_get _ e λhm=>by
  have q:(H b).isSome=true:=(List.mem_filter.mp hm).2;rw[n]at q;simp at q
theorem of_hidT{h:Heap}{H:Hp}{b:Addr}{o:Obj}(e:(Pw h H).get? b=some o):h.get? b=some o/\H b=none:=by
 have e':h.get? b=some o:=PySem.W.of_hideAll (trk h H) e;refine⟨e',?_⟩;cases q:H b with
 |none=>rfl
 |some x =>
  have hm:b∈trk h H:=List.mem_filter.mpr ⟨M4.mpr (C4 e'),by simp[q]⟩;have z:(Pw h H).get? b=none:=PySem.W.hideAll_none (trk h H) hm;rw[z]at e;cases e
structure Mod(K:PySem.W.Frag)(mg:Str->Option Value)(base:Heap):Prop where
 kin:K.In base
 glob:base.Ns mainGlobals mg
 blt:∃mb,base.Ns builtinsNs mb/\∀x:Str,x≠"__name__" -> mb x=bootBuiltins x
 nolimit:base.NoLimit
structure Cx where
 prog:Program
 w:World
 K:PySem.W.Frag
 mg:Str->Option Value
 base:Heap
 A:Around
 N:List Str
 s₀:Shared
 H₀:Hp
 env:Env
 outer:List Env
 stack:List Env
 ex:List Addr
 fn:Str->Bool
 calm:Bool
 pn:List (Addr×Obj)
 xe:Value->Shared->Prop
def frs(l:List Env):List Addr:=l.filterMap (·.frame)
abbrev Cx.fs(X:Cx):List Addr:=frs X.outer
def Vis(sc:Scope)(x:Str):Prop:=sc.names.lookup x=some .local\/sc.names.lookup x=some .cell\/sc.names.lookup x=some .free
def Loc(sc:Scope)(x:Str):Prop:=sc.names.lookup x=some .local\/sc.names.lookup x=some .cell
def Look(env:Env)(h:Heap)(m:Str->Option Value)(x:Str)(u:Value):Prop :=
 (env.kindOf x=some .local/\m x=some u)\/((env.kindOf x=some .cell\/env.kindOf x=some .free)/\∃c,env.cells.lookup x=some c/\h.IsCell c (some u))
structure Cx.Ok(X:Cx):Prop where
 mod:Mod X.K X.mg X.base
 kind:X.env.scope.kind=.function
 glob:X.env.globals=mainGlobals
 blt:X.env.builtins=builtinsNs
 above:X.s₀.heap.objs.size<=X.env.locals
 inj:∀x y c,X.env.cells.lookup x=some c->X.env.cells.lookup y=some c->x=y
 has:∀x,(X.env.kindOf x=some .cell\/X.env.kindOf x=some .free)->∃c,X.env.cells.lookup x=some c
 cab:∀x c,X.fn x=true->X.env.cells.lookup x=some c->X.s₀.heap.objs.size<=c
 hd:X.calm=true->X.A.handled=none
 frames:X.A.frames=some X.stack
 stk:X.stack=X.outer\/(X.stack=X.env::X.outer/\X.env.frame=some X.env.locals)
 exf:∀b∈X.ex,b≠X.env.locals/\∀x c,X.env.cells.lookup x=some c->c≠b
 bs:∀b o,X.base.get? b=some o->X.s₀.heap.get? b=some o/\X.H₀ b=none
 bsz:X.base.objs.size<=X.s₀.heap.objs.size
 noex:∀b o,X.base.get? b=some o->b∉X.ex
 exfs:∀b∈X.ex,b∉X.fs
 funs:X.s₀.heap.FunFrames X.base X.outer
 frf:∀b∈X.fs,X.H₀ b=none
structure Inv(X:Cx)(pins:List (Addr×Obj))(σ:List (Option V))(H:Hp)(s:Shared):Prop where
 ok:X.Ok
 os:s.os=X.s₀.os
 bare:AllBare s.gens
 base:Un X.fs X.ex X.H₀ H X.s₀.heap s.heap
 loc:∃m,s.heap.Ns X.env.locals m/\∀(i:Nat)(x:Str)(v:V),X.N[i]?=some x->σ[i]?=some (some v)->Vis X.env.scope x->∃u,AR v u/\Look X.env s.heap m x u
 cell:∀x c,X.env.cells.lookup x=some c->∃v,s.heap.IsCell c v
 free:H X.env.locals=none
 freeC:∀x c,X.env.cells.lookup x=some c->H c=none
 pin:∀p∈X.pn++pins,s.heap.get? p.1=some p.2/\H p.1=none/\p.1≠X.env.locals/\p.1∉X.fs/\∀v,p.2.data≠.cell v
 hok:HOk X.prog X.w H s.heap
 len:σ.length=X.N.length
section
variable{X:Cx}{pins:List (Addr×Obj)}{σ:List (Option V)}{H H':Hp}{s:Shared}{h':Heap}
theorem Cx.Ok.nofr(ok:X.Ok){b:Addr}{o:Obj}(e:X.base.get? b=some o):b∉X.fs:=λhb=>by
 have:=(ok.funs.mem hb).1;rw[e]at this;cases this
theorem Inv.bs(I:Inv X pins σ H s):∀b o,X.base.get? b=some o->s.heap.get? b=some o/\H b=none:=λb o e =>
 ⟨I.base.keep b o (I.ok.bs b o e).1 (I.ok.bs b o e).2 (I.ok.nofr e) (I.ok.noex b o e),I.base.free b o (I.ok.bs b o e).1 (I.ok.bs b o e).2 (I.ok.noex b o e)⟩
theorem Inv.bk(I:Inv X pins σ H s):∀b o,X.base.get? b=some o->s.heap.get? b=some o:=λb o e=>(I.bs b o e).1
theorem Inv.mod(I:Inv X pins σ H s):Mod X.K X.mg X.base:=I.ok.mod
theorem Inv.kIn(I:Inv X pins σ H s):X.K.In s.heap:=I.ok.mod.kin.keeps I.bk
theorem Inv.lt(I:Inv X pins σ H s):X.env.locals<s.heap.objs.size:=let ⟨_,hn,_⟩:=I.loc;hn.lt
theorem Inv.sz(I:Inv X pins σ H s):X.s₀.heap.objs.size<=s.heap.objs.size:=C8 I.ok.above (Nat.le_of_lt I.lt)
theorem Inv.nofs(I:Inv X pins σ H s){a:Addr}(h:s.heap.objs.size<=a):a∉X.fs:=λhb=>by
 obtain⟨_,o,ho,_⟩:=I.ok.funs.mem hb;exact absurd (D8 (C4 ho) (C8 I.sz h)) (N7 _)
theorem Inv.cne(I:Inv X pins σ H s):∀x c,X.env.cells.lookup x=some c->c≠X.env.locals:=λx c e z=>by
 obtain⟨v,o,ho,hd⟩:=I.cell x c e;obtain⟨m,⟨o',es,ep,ho',hd',_⟩,_⟩:=I.loc;rw[z,ho']at ho;cases ho;rw[hd']at hd;cases hd
theorem Inv.funs (I:Inv X pins σ H s):s.heap.FunFrames X.base X.outer:=by
 have all:∀(l:List Env),(∀b∈frs l,b∈X.fs)->X.s₀.heap.FunFrames X.base l->s.heap.FunFrames X.base l:=by
  intro l;induction l with
  |nil=>intro _ _;trivial
  |cons env r ih =>
   intro hs hl;obtain⟨hk,⟨L,o,hf,hn,ho,hd⟩,hr⟩:=hl;have hL:L∈X.fs:=hs L (by unfold frs;rw[U2,hf];exact C3);obtain⟨sl,e⟩:=I.base.slot L o ho (I.ok.frf L hL) hL λz=>I.ok.exfs L z hL;exact⟨hk,⟨L,_,hf,hn,e,hd⟩,ih (λb hb=>hs b (by unfold frs;rw[U2,hf];exact C1 _ hb)) hr⟩
 exact all X.outer (λ_ hb=>hb) I.ok.funs
theorem Inv.stack(I:Inv X pins σ H s):s.heap.FunFrames X.base X.stack:=by
 rcases I.ok.stk with e|⟨e,hf⟩
 ·rw[e];exact I.funs
 ·rw[e];obtain⟨m,hn,_⟩:=I.loc;refine .cons (by rw[I.ok.kind];decide) hf hn ?_ I.funs;exact O6 (C8 I.ok.bsz I.ok.above)
theorem Inv.stkSub(I:Inv X pins σ H s):∀b∈frs X.stack,b∈X.env.locals::X.fs:=λb hb=>by
 rcases I.ok.stk with e|⟨e,hf⟩
 ·rw[e]at hb;exact C1 _ hb
 ·rw[e]at hb;unfold frs at hb;rw[U2,hf]at hb;exact hb
theorem Inv.stkFree(I:Inv X pins σ H s):∀b∈frs X.stack,H b=none:=λb hb=>by
 rcases B8.mp (I.stkSub b hb)with e|hb
 ·rw[e];exact I.free
 ·obtain⟨_,o,ho,_⟩:=I.ok.funs.mem hb;exact I.base.free b o ho (I.ok.frf b hb) λz=>I.ok.exfs b z hb
theorem Inv.step{g':Array GenState}{t':Nat}{d':Drawn}{ch:List Addr}(I:Inv X pins σ H s)
  (hch:∀b∈ch,(b∈X.ex\/X.s₀.heap.objs.size<=b)/\b≠X.env.locals/\(∀x c,X.env.cells.lookup x=some c->c≠b)/\∀p∈X.pn++pins,p.1≠b)
  (keep:∀b o,b≠X.env.locals->b∉X.fs->b∉ch->s.heap.get? b=some o->H b=none->h'.get? b=some o)
  (slot:∀b o,b≠X.env.locals->b∈X.fs->b∉ch->s.heap.get? b=some o->H b=none->∃sl,h'.get? b=some {o with slots:=sl}) (free:∀b o,b∉ch->s.heap.get? b=some o->H b=none->H' b=none)
  (there:∀b o,b∉ch->s.heap.get? b=some o->∃o',h'.get? b=some o')
  (tups:∀b xs,H b=some (.tup xs)->H' b=some (.tup xs)) (frzs:∀b o u,H b=some (.frz o u)->H' b=some (.frz o u)) (tbls:∀b ps,H b=some (.tbl ps)->∃more,H' b=some (.tbl (ps++more)))
  (ns:∀m,s.heap.Ns X.env.locals m->h'.Ns X.env.locals m) (hok:HOk X.prog X.w H' h') (hg:AllBare g') :
  Inv X pins σ H' {s with heap:=h',gens:=g',drawn:=d',toks:=t'}:=by
 have neL:∀b o,X.s₀.heap.get? b=some o->b≠X.env.locals:=λb o e=>F1 (D8 (C4 e) I.ok.above);have neC:∀b o,X.s₀.heap.get? b=some o->b∉X.ex->b∉ch:=λb o e hx hb=>by
  rcases(hch b hb).1 with z|z
  ·exact hx z
  ·exact absurd (D8 (C4 e) z) (N7 _)
 have cellK:∀x c,X.env.cells.lookup x=some c->∀v,s.heap.IsCell c v->h'.IsCell c v:=λx c e v ⟨o,ho,hd⟩=>by
  have nch:c∉ch:=λz=>(hch c z).2.2.1 x c e rfl;by_cases hc:c∈X.fs
  ·obtain⟨sl,q⟩:=slot c o (I.cne x c e) hc nch ho (I.freeC x c e);exact⟨_,q,hd⟩
  ·exact⟨o,keep c o (I.cne x c e) hc nch ho (I.freeC x c e),hd⟩
 refine⟨I.ok,I.os,hg,⟨λb o e n hb hx=>?_,λb o e n hb hx=>?_,λb o e n hx=>?_,λb o e hx=>?_,λb xs e=>tups b xs (I.base.tups b xs e),λb o xs e=>frzs b o xs (I.base.frzs b o xs e),λb ps e=>?_⟩,?_,λx c e=>?_,?_,λx c e=>?_,λp hp=>?_,hok,I.len⟩
 ·exact keep b o (neL b o e) hb (neC b o e hx) (I.base.keep b o e n hb hx) (I.base.free b o e n hx)
 ·obtain⟨sl,e1⟩:=I.base.slot b o e n hb hx;obtain⟨sl',e2⟩:=slot b _ (neL b o e) hb (neC b o e hx) e1 (I.base.free b o e n hx);exact⟨sl',e2⟩
 ·obtain⟨o',e1⟩:=I.base.there b o e hx;exact free b o' (neC b o e hx) e1 (I.base.free b o e n hx)
 ·obtain⟨o',e1⟩:=I.base.there b o e hx;exact there b o' (neC b o e hx) e1
 ·obtain⟨m1,e1⟩:=I.base.tbls b ps e;obtain⟨m2,e2⟩:=tbls b _ e1;exact⟨m1++m2,by rw[e2,Array.append_assoc]⟩
 ·obtain⟨m,hn,hl⟩:=I.loc;refine⟨m,ns m hn,λi x v e1 e2 e3=>?_⟩;obtain⟨u,r,l⟩:=hl i x v e1 e2 e3;refine⟨u,r,?_⟩;rcases l with l|⟨k,c,e,z⟩
  ·exact .inl l
  ·exact .inr ⟨k,c,e,cellK x c e _ z⟩
 ·obtain⟨v,z⟩:=I.cell x c e;exact⟨v,cellK x c e v z⟩
 ·obtain⟨m,⟨o,_,_,ho,_⟩,_⟩:=I.loc;exact free _ o (λz=>(hch _ z).2.1 rfl) ho I.free
 ·obtain⟨v,o,ho,hd⟩:=I.cell x c e;exact free c o (λz=>(hch c z).2.2.1 x c e rfl) ho (I.freeC x c e)
 ·obtain⟨e,n,ne,nf,d⟩:=I.pin p hp;have nch:p.1∉ch:=λz=>(hch p.1 z).2.2.2 p hp rfl;exact⟨keep p.1 p.2 ne nf nch e n,free p.1 p.2 nch e n,ne,nf,d⟩
theorem Inv.un{t':Nat}(I:Inv X pins σ H s)(u:Un X.fs [] H H' s.heap h')(hok:HOk X.prog X.w H' h'):Inv X pins σ H' {s with heap:=h',toks:=t'}:=by
 obtain⟨m,⟨o,es,ep,ho,r⟩,_⟩:=id I.loc;obtain⟨sl,hL⟩:=u.any ho I.free A6;exact I.step (g':=s.gens) (d':=s.drawn) (ch:=[]) (λ_ z=>nomatch z) (λb o _ hb _ e n=>u.keep b o e n hb A6) (λb o _ hb _ e n=>u.slot b o e n hb A6) (λb o _ e n=>u.free b o e n A6) (λb o _ e=>u.there b o e A6) u.tups u.frzs u.tbls (λm' hm=>by
  obtain⟨o',es',ep',ho',r'⟩:=hm;rw[ho]at ho';cases ho';exact⟨_,es',ep',hL,r'⟩) hok I.bare
theorem Inv.call{g':Array GenState}{t':Nat}{d':Drawn}{ch:List Addr}(I:Inv X pins σ H s)(u:Un (frs X.stack) ch H H' s.heap h')(hok:HOk X.prog X.w H' h')(hg:AllBare g')
  (hch:∀b∈ch,(b∈X.ex\/X.s₀.heap.objs.size<=b)/\b≠X.env.locals/\(∀x c,X.env.cells.lookup x=some c->c≠b)/\∀p∈X.pn++pins,p.1≠b) :
  Inv X pins σ H' {s with heap:=h',gens:=g',drawn:=d',toks:=t'}:=by
 obtain⟨m,⟨o,es,ep,ho,r⟩,_⟩:=id I.loc;obtain⟨sl,hL⟩:=u.any ho I.free λz=>(hch _ z).2.1 rfl;exact I.step (ch:=ch) hch (λb o hL hb hc e n=>u.keep b o e n (λz=>(B8.mp (I.stkSub b z)).elim hL hb) hc) (λb o _ _ hc e n=>u.any e n hc) (λb o hc e n=>u.free b o e n hc) (λb o hc e=>u.there b o e hc) u.tups u.frzs u.tbls (λm' hm=>by
  obtain⟨o',es',ep',ho',r'⟩:=hm;rw[ho]at ho';cases ho';exact⟨_,es',ep',hL,r'⟩) hok hg
theorem Inv.turned{t':Nat}{it:Addr}(I:Inv X pins σ H s)(k:∀b o,b≠it->s.heap.get? b=some o->h'.get? b=some o)(hn:H it=none)(hL:it≠X.env.locals)
  (h1:it∈X.ex\/X.s₀.heap.objs.size<=it) (h2:∀x c,X.env.cells.lookup x=some c->c≠it) (h3:∀p∈X.pn++pins,p.1≠it):Inv X pins σ H {s with heap:=h',toks:=t'}:=by
 have nit:∀b u,H b=some u->b≠it:=λb u e z=>by rw[z,hn]at e;cases e
 refine I.step (g':=s.gens) (d':=s.drawn) (ch:=[it]) (λb hb=>?_) (λb o _ _ hc e _=>k b o (λz=>hc (by simp[z])) e) (λb o _ _ hc e _=>⟨o.slots,k b o (λz=>hc (by simp[z])) e⟩) (λ_ _ _ _ n=>n)
  (λb o hc e=>⟨o,k b o (λz=>hc (by simp[z])) e⟩) (λ_ _ e=>e) (λ_ _ _ e=>e) (λb ps e=>⟨#[],by rw[e];simp⟩) (λm hm=>?_) (λb u e=>?_) I.bare
 ·have e:b=it:=by simpa using hb
  subst e;exact⟨h1,hL,h2,h3⟩
 ·obtain⟨o,es,ep,ho,r⟩:=hm;exact⟨o,es,ep,k _ o (V5 hL) ho,r⟩
 ·refine(I.hok b u e).stay (λc v hc q=>k c v ?_ q) (λ_ q=>q) λ_ _ q=>q;rcases hc with z|z
  ·rw[z];exact nit b u e
  ·exact nit c _ z
theorem Inv.tok(I:Inv X pins σ H s)(t:Nat):Inv X pins σ H {s with toks:=t}:=I.un (h':=s.heap) (t':=t) Un.refl I.hok
theorem Inv.kept{t':Nat}(I:Inv X pins σ H s)(k:∀b u,s.heap.get? b=some u->h'.get? b=some u):Inv X pins σ H {s with heap:=h',toks:=t'}:=I.un (Un.kept k) (I.hok.kept k)
theorem Inv.laid{a:Addr}{o:HO}{t':Nat}(I:Inv X pins σ H s)(k:∀b u,s.heap.get? b=some u->h'.get? b=some u)(hp:s.heap.objs.size<=a)(new:Bz X.prog X.w (upd H a o) h' a o) :
  Inv X pins σ (upd H a o) {s with heap:=h',toks:=t'}:=I.un (Un.laid k hp (I.hok.fresh hp)) (I.hok.laid k hp new)
theorem Inv.write{x e:Addr}{o:HO}{t':Nat}(I:Inv X pins σ H s)(mu:Mut (H x))(he:e=x\/H e=some (.own x))(k:∀b u,b≠e->s.heap.get? b=some u->h'.get? b=some u)(heo:∃u,h'.get? e=some u)
  (new:Bz X.prog X.w (upd H x o) h' x o):Inv X pins σ (upd H x o) {s with heap:=h',toks:=t'}:=I.un (Un.write mu he k heo) (I.hok.write mu he k heo new)
theorem Inv.weak{σ':List (Option V)}(I:Inv X pins σ H s)(hl:σ'.length=σ.length)(w:∀(i:Nat) v,σ'[i]?=some (some v)->σ[i]?=some (some v)):Inv X pins σ' H s :=
 ⟨I.ok,I.os,I.bare,I.base,let ⟨m,hn,hl'⟩:=I.loc;⟨m,hn,λi x v e1 e2 e3=>hl' i x v e1 (w i v e2) e3⟩,I.cell,I.free,I.freeC,I.pin,I.hok,hl.trans I.len⟩
theorem Inv.pins_of{pins':List (Addr×Obj)}(I:Inv X pins σ H s)(h:∀p∈pins',s.heap.get? p.1=some p.2/\H p.1=none/\p.1≠X.env.locals/\p.1∉X.fs/\∀v,p.2.data≠.cell v):Inv X pins' σ H s :=
 ⟨I.ok,I.os,I.bare,I.base,I.loc,I.cell,I.free,I.freeC,λp hp=>(M6.mp hp).elim (λz=>I.pin p (O4 _ z)) (h p),I.hok,I.len⟩
theorem MN{N:List Str}(hN:N.Nodup){i j:Nat}{x:Str}(a:N[i]?=some x)(b:N[j]?=some x):i=j:=by
 obtain⟨h1,e1⟩:=B6.mp a;obtain⟨h2,e2⟩:=B6.mp b;exact(List.getElem_inj hN).mp (e1.trans e2.symm)
theorem NU{M:Model}{A:Around}{E:Value->Shared->Prop}{i:Nat}{x:Str}{v:V}{u:Value}{Q:Unit->Shared->Prop}(I:Inv X pins σ H s)(hN:X.N.Nodup)(hi:X.N[i]?=some x)(hx:Loc X.env.scope x)(r:AR v u)
  (h:∀s',Inv X pins (σ.set i (some v)) H s'->(∃a,Heap.SameBut a s.heap s'.heap/\(a=X.env.locals\/X.env.cells.lookup x=some a))->Q () s') (hf:X.fn x=true\/X.env.scope.names.lookup x=some .local:=by first|exact .inl rfl|exact .inr rfl|assumption):wpAny M A (storeName X.env x u) Q E s:=by
 obtain⟨m,hn,hl⟩:=id I.loc;have hcls:(X.env.scope.kind==.class || (X.env.scope.kind==.module && X.env.locals != X.env.globals))=false:=by rw[I.ok.kind];rfl
 have hiσ:i<σ.length:=by rw[I.len];exact(B6.mp hi).1
 have cne:=I.cne;have tracked:∀{a:Addr}{h':Heap},(∃o,s.heap.get? a=some o/\H a=none)->Heap.SameBut a s.heap h'->HOk X.prog X.w H h':=λ{a h'} ha hs b ob e=>by
  obtain⟨_,_,hfree⟩:=ha;refine(I.hok b ob e).stay (λc w' hc q=>(hs.2 c ?_).trans q) (λ_ q=>q) λ_ _ q=>q;rintro rfl;rcases hc with rfl|hc
  ·rw[hfree]at e;cases e
  ·rw[hfree]at hc;cases hc
 rcases hx with hk|hk
 ·refine wpAny_storeName_local hk hn (λh' hn' hs=>?_) hcls;obtain⟨oL,_,_,hoL,_⟩:=id hn;refine h _ ⟨I.ok,I.os,I.bare,⟨λb o e n hb hx=>?_,λb o e n hb hx=>?_,I.base.free,λb o e hx=>?_,I.base.tups,I.base.frzs,I.base.tbls⟩,⟨_,hn',λj y v' e1 e2 e3=>?_⟩,λy c e=>?_,I.free,I.freeC,λp hp=>?_,tracked ⟨oL,hoL,I.free⟩ hs,by simpa using I.len⟩ ⟨_,hs,.inl rfl⟩
  ·exact(hs.2 b (F1 (D8 (C4 e) I.ok.above))).trans (I.base.keep b o e n hb hx)
  ·obtain⟨sl,e1⟩:=I.base.slot b o e n hb hx;exact⟨sl,(hs.2 b (F1 (D8 (C4 e) I.ok.above))).trans e1⟩
  ·obtain⟨o',e1⟩:=I.base.there b o e hx;exact⟨o',(hs.2 b (F1 (D8 (C4 e) I.ok.above))).trans e1⟩
  ·by_cases hj:j=i
   ·subst hj;rw[hi]at e1;cases e1;rw[S8 hiσ]at e2;cases e2;exact⟨u,r,.inl ⟨hk,by simp⟩⟩
   ·rw[U1 (V5 hj)]at e2;obtain⟨u',r',q⟩:=hl j y v' e1 e2 e3;refine⟨u',r',?_⟩;rcases q with ⟨k,e⟩|⟨k,c,e,z⟩
    ·refine .inl ⟨k,?_⟩;have:y≠x:=λe=>hj (MN hN e1 (e▸hi));simp[this,e]
    ·exact .inr ⟨k,c,e,z.sameBut hs (cne y c e)⟩
  ·obtain⟨w',z⟩:=I.cell y c e;exact⟨w',z.sameBut hs (cne y c e)⟩
  ·obtain⟨e,n,ne,nf,d⟩:=I.pin p hp;exact⟨(hs.2 p.1 ne).trans e,n,ne,nf,d⟩
 ·have hfn:X.fn x=true:=by
   rcases hf with z|z
   ·exact z
   ·rw[z]at hk;cases hk
  obtain⟨c,hc⟩:=I.ok.has x (.inl hk);obtain⟨w',z⟩:=I.cell x c hc;refine wpAny_storeName_cell I.ok.kind hk hc z (λh' hc' hs=>?_);obtain⟨oc,hoc,hocd⟩:=id z;refine h {s with heap:=h'} ⟨I.ok,I.os,I.bare,⟨λb o e n hb hx=>?_,λb o e n hb hx=>?_,I.base.free,λb o e hx=>?_,I.base.tups,I.base.frzs,I.base.tbls⟩,⟨m,hn.sameBut hs (V5 (cne x c hc)),λj y v' e1 e2 e3=>?_⟩,λy c' e=>?_,I.free,I.freeC,λp hp=>?_,tracked ⟨oc,hoc,I.freeC x c hc⟩ hs,by simpa using I.len⟩ ⟨c,hs,.inr hc⟩
  ·exact(hs.2 b (F1 (D8 (C4 e) (I.ok.cab x c hfn hc)))).trans (I.base.keep b o e n hb hx)
  ·obtain⟨sl,e1⟩:=I.base.slot b o e n hb hx;exact⟨sl,(hs.2 b (F1 (D8 (C4 e) (I.ok.cab x c hfn hc)))).trans e1⟩
  ·obtain⟨o',e1⟩:=I.base.there b o e hx;exact⟨o',(hs.2 b (F1 (D8 (C4 e) (I.ok.cab x c hfn hc)))).trans e1⟩
  ·by_cases hj:j=i
   ·subst hj;rw[hi]at e1;cases e1;rw[S8 hiσ]at e2;cases e2;exact⟨u,r,.inr ⟨.inl hk,c,hc,hc'⟩⟩
   ·rw[U1 (V5 hj)]at e2;obtain⟨u',r',q⟩:=hl j y v' e1 e2 e3;refine⟨u',r',?_⟩;rcases q with q|⟨k,c',e,z'⟩
    ·exact .inl q
    ·refine .inr ⟨k,c',e,z'.sameBut hs ?_⟩;rintro rfl;exact hj (MN hN e1 (I.ok.inj _ _ _ e hc▸hi))
  ·by_cases hcc:c'=c
   ·subst hcc;exact⟨_,hc'⟩
   ·obtain⟨w2,z2⟩:=I.cell y c' e;exact⟨w2,z2.sameBut hs hcc⟩
  ·obtain⟨e,n,ne,nf,d⟩:=I.pin p hp;refine⟨(hs.2 p.1 ?_).trans e,n,ne,nf,d⟩;intro q;rw[q,hoc]at e;have q':oc=p.2:=V4 e;exact d w' (by rw[<-q'];exact hocd)
theorem Jp{M:Model}{A:Around}{E:Value->Shared->Prop}{i:Nat}{x:Str}{v:V}{u:Value}{Q:Unit->Shared->Prop}(I:Inv X pins σ H s)(hN:X.N.Nodup)(hi:X.N[i]?=some x)(hx:Loc X.env.scope x)(r:AR v u)
  (h:∀s',Inv X pins (σ.set i (some v)) H s'->Q () s') (hf:X.fn x=true\/X.env.scope.names.lookup x=some .local:=by first|exact .inl rfl|exact .inr rfl|assumption):wpAny M A (storeName X.env x u) Q E s :=
 NU I hN hi hx r (λs' I' _=>h s' I') hf
theorem Inv.call'{s':Shared}{ch:List Addr}(I:Inv X pins σ H s)(ho:s'.os=s.os)(u:Un (frs X.stack) ch H H' s.heap s'.heap)(hok:HOk X.prog X.w H' s'.heap)(hg:AllBare s'.gens)
  (hch:∀b∈ch,(b∈X.ex\/X.s₀.heap.objs.size<=b)/\b≠X.env.locals/\(∀x c,X.env.cells.lookup x=some c->c≠b)/\∀p∈X.pn++pins,p.1≠b):Inv X pins σ H' s':=by
 obtain⟨h',g',d',t',o'⟩:=s';have e:o'=s.os:=ho;subst e;exact I.call (g':=g') (t':=t') (d':=d') u hok hg hch
end
abbrev XK:=Value->Option Addr->Hp->Prop
abbrev St:=List (Option V)
abbrev VK:=V->Hp->Prop
abbrev TE:=St->Hp->VK->Prop
abbrev TT:=St->Hp->(Bool->Hp->Prop)->Prop
abbrev TA:=St->Hp->(List V->Hp->Prop)->Prop
structure JX where
 nx:St->Hp->Prop
 rt:VK
 bk:St->Hp->Prop:=λ_ _=>False
 ct:St->Hp->Prop:=λ_ _=>False
abbrev TS:=JX->St->Hp->Prop
def EP(X:Cx)(pins:List (Addr×Obj))(σ:St)(Q:VK)(u:Value)(s':Shared):Prop:=∃v H',Inv X pins σ H' s'/\AR v u/\Q v H'
def TP(X:Cx)(pins:List (Addr×Obj))(σ:St)(Q:Bool->Hp->Prop)(b:Bool)(s':Shared):Prop:=∃H',Inv X pins σ H' s'/\Q b H'
def AP(X:Cx)(pins:List (Addr×Obj))(σ:St)(Q:List V->Hp->Prop)(us:List Value)(s':Shared):Prop:=∃vs H',Inv X pins σ H' s'/\AM vs us/\Q vs H'
def SP(X:Cx)(pins:List (Addr×Obj))(D:JX)(f:Flow)(s':Shared):Prop :=
 match f with
 |.next=>∃σ' H',Inv X pins σ' H' s'/\D.nx σ' H'
 |.brk=>∃σ' H',Inv X pins σ' H' s'/\D.bk σ' H'
 |.cont=>∃σ' H',Inv X pins σ' H' s'/\D.ct σ' H'
 |.ret u=>∃v σ' H',Inv X pins σ' H' s'/\AR v u/\D.rt v H'
def PE(X:Cx)(e:Expr)(t:TE):Prop :=
 ∀(pins:List (Addr×Obj))(s:Shared)(σ:St)(H:Hp)(Q:VK),Inv X pins σ H s->t σ H Q->wpAny (model X.prog X.w) X.A (eval e X.env) (EP X pins σ Q) X.xe s
def PT(X:Cx)(e:Expr)(t:TT):Prop :=
 ∀(pins:List (Addr×Obj))(s:Shared)(σ:St)(H:Hp)(Q:Bool->Hp->Prop),Inv X pins σ H s->t σ H Q->wpAny (model X.prog X.w) X.A (isTrue e X.env (eval e X.env)) (TP X pins σ Q) X.xe s
def PW(X:Cx)(e:Expr)(t:TT):Prop :=
 ∀(whole:Sem Value)(pins:List (Addr×Obj))(s:Shared)(σ:St)(H:Hp)(Q:Bool->Hp->Prop),Inv X pins σ H s->t σ H Q->wpAny (model X.prog X.w) X.A (isTrue e X.env whole) (TP X pins σ Q) X.xe s
theorem PW.pt{X:Cx}{e:Expr}{t:TT}(h:PW X e t):PT X e t:=h _
def PA(X:Cx)(es:List Expr)(t:TA):Prop :=
 ∀(pos:Pos)(pins:List (Addr×Obj))(s:Shared)(σ:St)(H:Hp)(Q:List V->Hp->Prop),Inv X pins σ H s->t σ H Q->wpAny (model X.prog X.w) X.A (spliced (backTo pos (starEach es X.env))) (AP X pins σ Q) X.xe s
def PS(X:Cx)(st:Stmt)(t:TS):Prop :=
 ∀(pins:List (Addr×Obj))(s:Shared)(σ:St)(H:Hp)(D:JX),Inv X pins σ H s->t D σ H->wpAny (model X.prog X.w) X.A (exec st X.env) (SP X pins D) X.xe s
def PSs(X:Cx)(st:List Stmt)(t:TS):Prop :=
 ∀(pins:List (Addr×Obj))(s:Shared)(σ:St)(H:Hp)(D:JX),Inv X pins σ H s->t D σ H->wpAny (model X.prog X.w) X.A (execs st X.env) (SP X pins D) X.xe s
theorem thn{α:Type}{t:Sem α}{Q Q':α->Shared->Prop}{M:Model}{A:Around}{E:Value->Shared->Prop}{s:Shared}(h:wpAny M A t Q E s)(hQ:∀a s,Q a s->Q' a s):wpAny M A t Q' E s:=Y4 h hQ λ_ _ x=>x
section
variable{X:Cx}
def FG(i:Nat):TE:=fun σ H Q=>∃v,σ[i]?=some (some v)/\Q v H
def tC(v:V):TE:=λ_ H Q=>Q v H
theorem pe_var{i:Nat}{x:Str}{pos:Pos}(hN:X.N[i]?=some x)(hv:Vis X.env.scope x)(hd:(x==("__debug__" : Str))=false:=by decide)(hcd:(x==("__classdict__" : Str))=false:=by decide):PE X (.Name x pos) (FG i):=by
 intro pins s σ H Q I h;obtain⟨v,e,h⟩:=h;obtain⟨m,hn,hl⟩:=I.loc;obtain⟨u,r,l⟩:=hl i x v hN e hv;have fin:EP X pins σ Q u s:=⟨v,H,I,r,h⟩
 rcases l with ⟨hk,hm⟩|⟨hk,c,hc,hcell⟩
 ·exact wpAny_Name (wpAny_loadName_local I.ok.kind hk hn hm fin) hd
 ·rcases hk with hk|hk
  ·exact wpAny_Name (wpAny_loadName_cell I.ok.kind hk hc hcell fin) hd
  ·exact wpAny_Name (wpAny_loadName_free I.ok.kind hk hc hcell fin hcd) hd
theorem Ae{i j pos}:PE X (.Constant (.int i) j pos) (tC (.int i)):=λ_ _ _ H _ I h=>wpAny_Constant_int ⟨.int i,H,I.tok _,⟨_,rfl⟩,h⟩
theorem EW{b j pos}:PE X (.Constant (.bool b) j pos) (tC (.bl b)):=λ_ _ _ H _ I h=>Constant_bool ⟨.bl b,H,I,rfl,h⟩
theorem Cz{j pos}:PE X (.Constant .none j pos) (tC .non):=λ_ _ _ H _ I h=>Constant_none ⟨.non,H,I,rfl,h⟩
theorem Id{x j pos}:PE X (.Constant (.str x) j pos) (tC (.str x)):=λ_ _ _ H _ I h=>Calls.Constant_str ⟨.str x,H,I.tok _,⟨_,rfl⟩,h⟩
def Gl(X:Cx)(x:Str):Prop:=X.env.kindOf x=some .globalImplicit
theorem Em{E:Value->Shared->Prop}{pins:List (Addr×Obj)}{s:Shared}{σ:St}{H:Hp}{x:Str}{u:Value}{pos:Pos}{Q:Value->Shared->Prop}(I:Inv X pins σ H s)(hg:Gl X x)(hm:X.mg x=some u)(h:Q u s)
  (hd:(x==("__debug__" : Str))=false:=by decide):wpAny (model X.prog X.w) X.A (eval (.Name x pos) X.env) Q E s :=
 Calls.Name_function_global I.ok.kind hg (Calls.loadGlobal_global (by rw[I.ok.glob];exact I.mod.glob.keeps I.bk) hm h) hd
theorem Jm{E:Value->Shared->Prop}{pins:List (Addr×Obj)}{s:Shared}{σ:St}{H:Hp}{x:Str}{u:Value}{pos:Pos}{Q:Value->Shared->Prop}(I:Inv X pins σ H s)(hg:Gl X x)(hm:X.mg x=none)(hv:bootBuiltins x=some u)(h:Q u s)
  (hn:x≠"__name__" := by decide) (hd:(x==("__debug__" : Str))=false:=by decide):wpAny (model X.prog X.w) X.A (eval (.Name x pos) X.env) Q E s:=by
 obtain⟨mb,h1,h2⟩:=I.mod.blt;exact Calls.Name_function_global I.ok.kind hg (Calls.loadGlobal_builtin (by rw[I.ok.glob];exact I.mod.glob.keeps I.bk) hm (by rw[I.ok.blt];exact h1.keeps I.bk) ((h2 x hn).trans hv) h) hd
theorem Pa{x:Str}{v:V}{u:Value}{pos:Pos}(hg:Gl X x)(hm:X.mg x=some u)(r:AR v u)(hd:(x==("__debug__" : Str))=false:=by decide):PE X (.Name x pos) (tC v) :=
 λ_ _ _ H _ I h=>Em I hg hm ⟨v,H,I,r,h⟩ hd
theorem Dt{x:Str}{v:V}{u:Value}{pos:Pos}(hg:Gl X x)(hm:X.mg x=none)(hv:bootBuiltins x=some u)(r:AR v u)(hn:x≠"__name__" := by decide)(hd:(x==("__debug__" : Str))=false:=by decide):PE X (.Name x pos) (tC v) :=
 λ_ _ _ H _ I h=>Jm I hg hm hv ⟨v,H,I,r,h⟩ hn hd
variable{a b:Expr}{ta tb:TE}{pos:Pos}
def PC(X:Cx)(op:CmpOp)(a b:Expr)(t:TE):Prop :=
 ∀(pins:List (Addr×Obj))(s:Shared)(σ:St)(H:Hp)(Q:VK),Inv X pins σ H s->t σ H Q ->
  wpAny (model X.prog X.w) X.A (eval a X.env) (λv s₁=>wpAny (model X.prog X.w) X.A (eval b X.env) (λu s₂=>wpAny (model X.prog X.w) X.A (compareOp op v u) (EP X pins σ Q) X.xe s₂) X.xe s₁) X.xe s
def tB(t:TE):TT:=fun σ H Q=>t σ H λx H1=>∃c,x=.bl c/\Q c H1
theorem pt_cmp{op:CmpOp}{t:TE}(h:PC X op a b t)(h1:behindInMarks op b=false:=by first|exact nobehind _ A3 A3|rfl):PT X (.Compare a [op] [b] pos) (tB t):=by
 intro pins s σ H Q I hw;refine wpAny_isTrue_Compare1 (thn (h pins s σ H _ I hw) λv s1 h1=>thn h1 λu s2 h2=>thn h2 λc s3 ⟨x,H1,I1,r1,q1⟩=>?_) h1;obtain⟨d,rfl,q⟩:=q1;cases r1;exact Y5 ⟨H1,I1,q⟩
theorem CY{e:Expr}{t:TE}(h:PE X e t)(he:∀whole,isTrue e X.env whole=(do let v <-whole;standAt e.pos;holding [v] (truthy v)):=by intro _;rfl):PT X e (tB t):=by
 intro pins s σ H Q I hw;refine isTrue_plain (thn (h pins s σ H _ I hw) λv s1 ⟨x,H1,I1,r1,q1⟩=>?_) (he _);obtain⟨d,rfl,q⟩:=q1;cases r1;exact Y5 ⟨H1,I1,q⟩
variable{tA tB':TT}{rest:List Expr}
def tAnd(t u:TT):TT:=fun σ H Q=>t σ H λc H1=>if c=true then u σ H1 Q else Q false H1
def tOr(t u:TT):TT:=fun σ H Q=>t σ H λc H1=>if c=true then Q true H1 else u σ H1 Q
def tNot(t:TT):TT:=fun σ H Q=>t σ H λc H1=>Q (!c) H1
theorem EV(ha:PT X a tA):PW X (.BoolOp .And [a] pos) tA:=by
 intro wh pins s σ H Q I h;refine isTrue_and (thn (ha pins s σ H Q I h) λc s1 e=>?_);cases c with
 |true=>exact isTrue_and_nil e
 |false=>exact e
theorem Ft(ha:PT X a tA):PW X (.BoolOp .Or [a] pos) tA:=by
 intro wh pins s σ H Q I h;refine isTrue_or (thn (ha pins s σ H Q I h) λc s1 e=>?_);cases c with
 |false=>exact isTrue_or_nil e
 |true=>exact e
theorem Ic(ha:PT X a tA)(hb:PW X (.BoolOp .And (b::rest) pos) tB'):PW X (.BoolOp .And (a::b::rest) pos) (tAnd tA tB'):=by
 intro wh pins s σ H Q I h;refine isTrue_and (thn (ha pins s σ H _ I h) λc s1 ⟨H1,I1,q1⟩=>?_);cases c with
 |true=>exact hb wh pins s1 σ H1 Q I1 q1
 |false=>exact⟨H1,I1,q1⟩
theorem IP(ha:PT X a tA)(hb:PW X (.BoolOp .Or (b::rest) pos) tB'):PW X (.BoolOp .Or (a::b::rest) pos) (tOr tA tB'):=by
 intro wh pins s σ H Q I h;refine isTrue_or (thn (ha pins s σ H _ I h) λc s1 ⟨H1,I1,q1⟩=>?_);cases c with
 |true=>exact⟨H1,I1,q1⟩
 |false=>exact hb wh pins s1 σ H1 Q I1 q1
theorem Ds(ha:PT X a tA):PT X (.UnaryOp .Not a pos) (tNot tA):=by
 intro pins s σ H Q I h;exact isTrue_not (ha pins s σ H (λc H1=>Q (!c) H1) I h)
def tAndV(ta tb:TE):TE:=fun σ H Q=>ta σ H λx H1=>∃c,x=.bl c/\if c=true then tb σ H1 Q else Q (.bl false) H1
def tOrV(ta tb:TE):TE:=fun σ H Q=>ta σ H λx H1=>∃c,x=.bl c/\if c=true then Q (.bl true) H1 else tb σ H1 Q
def tNotV(ta:TE):TE:=fun σ H Q=>ta σ H λx H1=>∃c,x=.bl c/\Q (.bl (!c)) H1
theorem Fv{op}{t:TE}(h:PE X a t):PE X (.BoolOp op [a] pos) t:=λpins s σ H Q I hw=>BoolOp_one (h pins s σ H Q I hw)
theorem DZ(ha:PE X a ta)(hb:PE X (.BoolOp .And (b::rest) pos) tb):PE X (.BoolOp .And (a::b::rest) pos) (tAndV ta tb):=by
 intro pins s σ H Q I h;refine BoolOp_and (thn (ha pins s σ H _ I h) λv s1 ⟨x,H1,I1,r1,q1⟩=>?_);obtain⟨c,rfl,q1⟩:=q1;cases r1;refine Y5 ?_;cases c with
 |true=>exact hb pins s1 σ H1 Q I1 q1
 |false=>exact⟨.bl false,H1,I1,rfl,q1⟩
theorem pe_or(ha:PE X a ta)(hb:PE X (.BoolOp .Or (b::rest) pos) tb):PE X (.BoolOp .Or (a::b::rest) pos) (tOrV ta tb):=by
 intro pins s σ H Q I h;refine BoolOp_or (thn (ha pins s σ H _ I h) λv s1 ⟨x,H1,I1,r1,q1⟩=>?_);obtain⟨c,rfl,q1⟩:=q1;cases r1;refine Y5 ?_;cases c with
 |false=>exact hb pins s1 σ H1 Q I1 q1
 |true=>exact⟨.bl true,H1,I1,rfl,q1⟩
theorem OY(ha:PE X a ta):PE X (.UnaryOp .Not a pos) (tNotV ta):=by
 intro pins s σ H Q I h;refine UnaryOp_ (thn (ha pins s σ H _ I h) λv s1 ⟨x,H1,I1,r1,q1⟩=>?_);obtain⟨c,rfl,q1⟩:=q1;cases r1;exact not_of (Y5 ⟨.bl (!c),H1,I1,rfl,q1⟩)
end
def SqL(K:PySem.W.Frag)(H:Hp)(a:Addr)(xs:List V):Prop :=
 Rd H a (.lst xs) \/
  ∃(o:Obj)(its:Array Value)(n:Nat),K.lookup a=some o/\o.cls=.type "list" /\ o.dict=none/\o.data=.seq its n/\its.size<=sizeLine/\AM xs its.toList
def SqT(K:PySem.W.Frag)(H:Hp)(a:Addr)(xs:List V):Prop :=
 Rd H a (.tup xs) \/
  ∃(o:Obj)(its:Array Value)(n:Nat),K.lookup a=some o/\o.cls=.type "tuple" /\ o.data=.seq its n/\its.size<=sizeLine/\AM xs its.toList
def absV:Value->Option V
 |.none=>some .non
 |.bool b=>some (.bl b)
 |.int i _=>some (.int i)
 |.str x _=>some (.str x)
 |.bytes b _=>some (.byt b)
 |.float b _=>some (.flt b)
 |.ref a=>some (.ref a)
 |.type n=>some (.ty n)
 |_=>none
theorem AR.abs{x:V}{u:Value}(r:AR x u):absV u=some x:=by
 cases x with
 |non=>cases r;rfl
 |bl _=>cases r;rfl
 |int _=>obtain⟨t,rfl⟩:=r;rfl
 |str _=>obtain⟨t,rfl⟩:=r;rfl
 |byt _=>obtain⟨t,rfl⟩:=r;rfl
 |flt _=>obtain⟨t,rfl⟩:=r;rfl
 |ref _=>cases r;rfl
 |ty _=>cases r;rfl
theorem AR.inj{x y:V}{u:Value}(r:AR x u)(q:AR y u):x=y:=V4 (r.abs.symm.trans q.abs)
theorem AM.inj:∀{xs ys:List V}{us:List Value},AM xs us->AM ys us->xs=ys
 |_,_,_,.nil,.nil=>rfl
 |_,_,_,.cons r t,.cons r' t'=>by rw[r.inj r',AM.inj t t']
section
variable{X:Cx}{pins:List (Addr×Obj)}{σ:St}{H:Hp}{s:Shared}{a:Addr}{xs ys:List V}
theorem SqL.of{K:PySem.W.Frag}(h:H a=some (.lst xs)):SqL K H a xs:=.inl (.inl h)
theorem SqT.of{K:PySem.W.Frag}(h:H a=some (.tup xs)):SqT K H a xs:=.inl (.inl h)
theorem Inv.list(I:Inv X pins σ H s)(h:SqL X.K H a xs):∃its:List Value,AM xs its/\PlainL s.heap a its.toArray/\xs.length<=sizeLine:=by
 rcases h with h|⟨o,its,n,hk,hc,hd,hs,hz,r⟩
 ·obtain⟨z,its,n,r,e⟩:=h.ok I.hok;exact⟨its,r,⟨_,n,e,rfl,rfl,rfl⟩,z⟩
 ·refine⟨its.toList,r,⟨o,n,I.kIn a o hk,hc,hd,by simpa using hs⟩,?_⟩;have e:=r.length;simp only[Array.length_toList]at e;lia
theorem Inv.tuple(I:Inv X pins σ H s)(h:SqT X.K H a xs):∃its:List Value,AM xs its/\IsTup s.heap a its.toArray/\xs.length<=sizeLine:=by
 rcases h with h|⟨o,its,n,hk,hc,hs,hz,r⟩
 ·obtain⟨z,its,r,p⟩:=h.ok I.hok;exact⟨its,r,p,z⟩
 ·refine⟨its.toList,r,⟨o,I.kIn a o hk,hc,n,by simpa using hs⟩,?_⟩;have e:=r.length;simp only[Array.length_toList]at e;lia
theorem Inv.list_inj(I:Inv X pins σ H s)(h:SqL X.K H a xs)(h':SqL X.K H a ys):xs=ys:=by
 obtain⟨its,r,⟨o,n,e,_,_,d⟩,_⟩:=I.list h;obtain⟨its',r',⟨o',n',e',_,_,d'⟩,_⟩:=I.list h';rw[e]at e';cases e';rw[d]at d';injection d' with d1 _
 have:its=its':=by simpa using W0 Array.toList d1
 subst this;exact r.inj r'
theorem Inv.tuple_inj(I:Inv X pins σ H s)(h:SqT X.K H a xs)(h':SqT X.K H a ys):xs=ys:=by
 obtain⟨its,r,⟨o,e,_,n,d⟩,_⟩:=I.tuple h;obtain⟨its',r',⟨o',e',_,n',d'⟩,_⟩:=I.tuple h';rw[e]at e';cases e';rw[d]at d';injection d' with d1 _
 have:its=its':=by simpa using W0 Array.toList d1
 subst this;exact r.inj r'
end
abbrev Cx.wish(X:Cx)(E:Value->Shared->Prop):Cx:={X with xe:=E}
abbrev Cx.nox(X:Cx):Cx:=X.wish λ_ _=>False
theorem Cx.Ok.wish{X:Cx}(ok:X.Ok)(E:Value->Shared->Prop):(X.wish E).Ok :=
 ⟨ok.mod,ok.kind,ok.glob,ok.blt,ok.above,ok.inj,ok.has,ok.cab,ok.hd,ok.frames,ok.stk,ok.exf,ok.bs,ok.bsz,ok.noex,ok.exfs,ok.funs,ok.frf⟩
theorem Cx.Ok.unwish{X:Cx}{E:Value->Shared->Prop}(ok:(X.wish E).Ok):X.Ok :=
 ⟨ok.mod,ok.kind,ok.glob,ok.blt,ok.above,ok.inj,ok.has,ok.cab,ok.hd,ok.frames,ok.stk,ok.exf,ok.bs,ok.bsz,ok.noex,ok.exfs,ok.funs,ok.frf⟩
section
variable{X:Cx}{pins:List (Addr×Obj)}{σ:St}{H:Hp}{s:Shared}{E:Value->Shared->Prop}
theorem Inv.wish(I:Inv X pins σ H s)(E:Value->Shared->Prop):Inv (X.wish E) pins σ H s:=⟨I.ok.wish E,I.os,I.bare,I.base,I.loc,I.cell,I.free,I.freeC,I.pin,I.hok,I.len⟩
theorem Inv.unwish(I:Inv (X.wish E) pins σ H s):Inv X pins σ H s:=⟨I.ok.unwish,I.os,I.bare,I.base,I.loc,I.cell,I.free,I.freeC,I.pin,I.hok,I.len⟩
theorem SP.unwish{D:JX}{f:Flow}{s':Shared}(h:SP (X.wish E) pins D f s'):SP X pins D f s':=by
 cases f with
 |next=>obtain⟨σ',H',I,q⟩:=h;exact⟨σ',H',I.unwish,q⟩
 |brk=>obtain⟨σ',H',I,q⟩:=h;exact⟨σ',H',I.unwish,q⟩
 |cont=>obtain⟨σ',H',I,q⟩:=h;exact⟨σ',H',I.unwish,q⟩
 |ret u=>obtain⟨v,σ',H',I,r,q⟩:=h;exact⟨v,σ',H',I.unwish,r,q⟩
theorem PSs.nox{st:List Stmt}{t:TS}(h:PSs X.nox st t):PSs X st t:=λpins s σ H D I hw =>
 Y4 (h pins s σ H D (I.wish _) hw) (λ_ _ q=>q.unwish) λ_ _ z=>False.elim z
end
section
variable{X:Cx}{st:Stmt}{rest:List Stmt}{t u:TS}{e:Expr}{te:TE}{pos:Pos}
def tNext:TS:=λD σ H=>D.nx σ H
def tSeq(t u:TS):TS:=λD σ H=>t {D with nx:=u D} σ H
theorem AB:PSs X [] tNext:=λ_ _ σ H _ I h=>Z8 ⟨σ,H,I,h⟩
theorem Ac(h1:PS X st t)(h2:PSs X rest u):PSs X (st::rest) (tSeq t u):=by
 intro pins s σ H D I h;refine wpAny_execs_cons (thn (h1 pins s σ H {D with nx:=u D} I h) λf s1 q=>?_);cases f with
 |next =>
  obtain⟨σ',H',I',q⟩:=q;exact h2 pins s1 σ' H' D I' q
 |ret v=>exact q
 |brk=>exact q
 |cont=>exact q
theorem Ag(h1:PS X st t):PSs X [st] t:=by
 intro pins s σ H D I h;refine wpAny_execs_cons (thn (h1 pins s σ H D I h) λf s1 q=>?_);cases f with
 |next=>exact Z8 q
 |ret v=>exact q
 |brk=>exact q
 |cont=>exact q
theorem Inv.quiet{pins:List (Addr×Obj)}{σ:St}{H:Hp}{s:Shared}(I:Inv X pins σ H s):interactive X.env=false:=by simp[interactive,I.ok.kind]
def tDrop(te:TE):TS:=λD σ H=>te σ H λ_ H1=>D.nx σ H1
theorem Cd(he:PE X e te)(hs:swapsWith e none pos.line X.env=pure false:=by rfl):PS X (.Expr e pos) (tDrop te):=by
 intro pins s σ H D I h;exact wpAny_Expr_any (thn (he pins s σ H _ I h) λv s1 ⟨x,H1,I1,r1,q1⟩=>⟨σ,H1,I1,q1⟩) I.quiet hs
def tRet(te:TE):TS:=λD σ H=>te σ H D.rt
theorem As(he:PE X e te):PS X (.Return (some e) pos) (tRet te):=by
 intro pins s σ H D I h;exact wpAny_Return_some (thn (he pins s σ H _ I h) λv s1 ⟨x,H1,I1,r1,q1⟩=>⟨x,σ,H1,I1,r1,q1⟩)
def tIfS(c:TT)(t u:TS):TS:=λD σ H=>c σ H λb H1=>if b=true then t D σ H1 else u D σ H1
theorem AN{c:Expr}{a b:List Stmt}{tc:TT}(hc:PT X c tc)(ha:PSs X a t)(hb:PSs X b u):PS X (.If c a b pos) (tIfS tc t u):=by
 intro pins s σ H D I h;refine wpAny_If (thn (hc pins s σ H _ I h) λd s1 ⟨H1,I1,q1⟩=>?_);cases d with
 |true=>exact ha pins s1 σ H1 D I1 q1
 |false=>exact hb pins s1 σ H1 D I1 q1
def tNever:TS:=λ_ _ _=>False
theorem Bj:PS X st tNever:=λ_ _ _ _ _ _ h=>h.elim
end
abbrev TG:=V->St->Hp->(St->Hp->Prop)->Prop
abbrev TGs:=List V->St->Hp->(St->Hp->Prop)->Prop
def PG(X:Cx)(target:Expr)(t:TG):Prop :=
 ∀(pins:List (Addr×Obj))(s:Shared)(σ:St)(H:Hp)(v:V)(u:Value)(Q:St->Hp->Prop),Inv X pins σ H s->AR v u->t v σ H Q ->
  wpAny (model X.prog X.w) X.A (assign target X.env u) (λ_ s'=>∃σ' H',Inv X pins σ' H' s'/\Q σ' H') X.xe s
def PGs(X:Cx)(ts:List Expr)(t:TGs):Prop :=
 ∀(pins:List (Addr×Obj))(s:Shared)(σ:St)(H:Hp)(vs:List V)(us:List Value)(Q:St->Hp->Prop),Inv X pins σ H s->AM vs us->t vs σ H Q ->
  wpAny (model X.prog X.w) X.A (assignInOrder ((assignEach ts X.env).map (·.2)) us) (λ_ s'=>∃σ' H',Inv X pins σ' H' s'/\Q σ' H') X.xe s
abbrev TSet:=V->V->V->Hp->(Hp->Prop)->Prop
def PSet(X:Cx)(t:TSet):Prop :=
 ∀(pins:List (Addr×Obj))(s:Shared)(σ:St)(H:Hp)(o i v:V)(ov iv u:Value)(Q:Hp->Prop),Inv X pins σ H s->AR o ov->AR i iv->AR v u->t o i v H Q ->
  wpAny (model X.prog X.w) X.A (setItem ov iv u) (λ_ s'=>∃H',Inv X pins σ H' s'/\Q H') X.xe s
section
variable{X:Cx}{pos:Pos}
def Nc(i:Nat):TG:=λv σ H Q=>Q (σ.set i (some v)) H
theorem Ce{i:Nat}{x:Str}(hN:X.N.Nodup)(hi:X.N[i]?=some x)(hx:Loc X.env.scope x)(hf:X.fn x=true\/X.env.scope.names.lookup x=some .local:=by first|exact .inl rfl|exact .inr rfl|assumption):PG X (.Name x pos) (Nc i):=by
 intro pins s σ H v u Q I r h;exact wpAny_assign_Name (Jp I hN hi hx r (λs' I'=>⟨_,H,I',h⟩) hf)
def gNil:TGs:=λvs σ H Q=>vs=[]/\Q σ H
def QQ(t:TG)(u:TGs):TGs:=λvs σ H Q=>∃v r,vs=v::r/\t v σ H fun σ' H'=>u r σ' H' Q
theorem JB:PGs X [] gNil:=by
 intro pins s σ H vs us Q I r h;obtain⟨e,h⟩:=h;subst e;cases r;exact assignInOrder_nil ⟨σ,H,I,h⟩
theorem CM{e:Expr}{es:List Expr}{t:TG}{u:TGs}(h1:PG X e t)(h2:PGs X es u)
  (hs:(assignEach (e::es) X.env).map (·.2)=assign e X.env::(assignEach es X.env).map (·.2):=by rfl):PGs X (e::es) (QQ t u):=by
 intro pins s σ H vs us Q I r h;obtain⟨v,vr,e1,h⟩:=h;subst e1;cases r with
 |cons r rr =>
  rw[hs];refine assignInOrder_cons (thn (h1 pins s σ H _ _ _ I r h) λ_ s1 ⟨σ1,H1,I1,q1⟩=>?_);exact h2 pins s1 σ1 H1 _ _ Q I1 rr q1
def gTup(K:PySem.W.Frag)(n:Nat)(t:TGs):TG:=λv σ H Q=>∃a xs,v=.ref a/\SqT K H a xs/\xs.length=n/\t xs σ H Q
theorem MJ{es:List Expr}{k:Nat}{t:TGs}{n:Nat}(hc:X.calm=true)(h:PGs X es t)
  (hn:(assignEach es X.env).length=n:=by rfl) (hst:(assignEach es X.env).findIdx? (·.1)=none:=by rfl):PG X (.Tuple es k pos) (gTup X.K n t):=by
 intro pins s σ H v u Q I r hw;obtain⟨a,xs,e1,hq,hl,hw⟩:=hw;subst e1;cases r;obtain⟨its,rv,ht,hz⟩:=I.tuple hq;refine assign_Tuple_tuple (I.ok.hd hc) ht (by simp[hn,<-hl,rv.length]) hst λh' hx=>?_;have I1:Inv X pins σ H {s with heap:=h'}:=I.kept (t':=s.toks) λb o e=>hx b o (F1 (C4 e)) e;exact h pins _ σ H xs _ Q I1 (by simpa using rv) hw
def gSub(to ti:TE)(t:TSet):TG:=λv σ H Q=>to σ H λo H1=>ti σ H1 λi H2=>t o i v H2 λH3=>Q σ H3
theorem pg_sub{o i:Expr}{to ti:TE}{t:TSet}(ho:PE X o to)(hi:PE X i ti)(hs:PSet X t)
  (ha:∀v,assign (.Subscript o i pos) X.env v=(do
   let ov <-holding [v] (eval o X.env);let iv <-holding [v,ov] (eval i X.env)
   standAt pos
   holding [v,ov,iv] (setItem ov iv v)
   release [v,ov,iv] []):=by intro _;rfl):PG X (.Subscript o i pos) (gSub to ti t):=by
 intro pins s σ H v u Q I r h;rw[ha];refine U9 (K8 (thn (ho pins s σ H _ I h) λov s1 ⟨x,H1,I1,r1,q1⟩=>?_));refine U9 (K8 (thn (hi pins s1 σ H1 _ I1 q1) λiv s2 ⟨y,H2,I2,r2,q2⟩=>?_));refine U9 (wpAny_standAt (U9 (K8 (thn (hs pins s2 σ H2 x y v ov iv u _ I2 r1 r2 r q2) λ_ s3 ⟨H3,I3,q3⟩=>?_))));exact wpAny_release ⟨σ,H3,I3,q3⟩
def tAsg(te:TE)(g:TG):TS:=λD σ H=>te σ H λx H1=>g x σ H1 D.nx
theorem ps_asg{tg e:Expr}{te:TE}{g:TG}(he:PE X e te)(hg:PG X tg g)(hs:swapsWithSole [tg] e pos.line X.env=pure false:=by rfl)(hw:swappedStores [tg] e X.env=pure none:=by rfl)
  (h1:(assignEach [tg] X.env).map (·.2)=[assign tg X.env]:=by rfl):PS X (.Assign [tg] e pos) (tAsg te g):=by
 intro pins s σ H D I h;refine wpAny_Assign_stores (thn (he pins s σ H _ I h) λv s1 ⟨x,H1,I1,r1,q1⟩=>?_) hs hw;rw[h1];exact thn (hg pins s1 σ H1 x v _ I1 r1 q1) λ_ s2 q=>q
theorem Ao{i:Nat}{x:Str}{e:Expr}{te:TE}{pos':Pos}(hN:X.N.Nodup)(hi:X.N[i]?=some x)(hx:Loc X.env.scope x)(he:PE X e te)(hs:swapsWith e (some (.Name x pos')) pos.line X.env=pure false:=by rfl)(hf:X.fn x=true\/X.env.scope.names.lookup x=some .local:=by first|exact .inl rfl|exact .inr rfl|assumption) :
  PS X (.Assign [.Name x pos'] e pos) (tAsg te (Nc i)):=by
 intro pins s σ H D I h;refine wpAny_Assign_Name (thn (he pins s σ H _ I h) λv s1 ⟨y,H1,I1,r1,q1⟩=>?_) hs;exact Jp I1 hN hi hx r1 (λs2 I2=>⟨_,H1,I2,q1⟩) hf
end
section
variable{X:Cx}{pos:Pos}
def tWhile(c:TT)(tb:TS):TS:=λD σ H=>∃W:Nat->St->Hp->Prop,(∃m,W m σ H)/\∀m σ H,W m σ H ->
 c σ H λb H1=>if b=true then ∃N:St->Hp->Prop,(∀σ' H',N σ' H'->∃m',m'<m/\W m' σ' H')/\tb {D with nx:=N,ct:=N,bk:=D.nx} σ H1 else D.nx σ H1
theorem Ey{c:Expr}{body:List Stmt}{tc:TT}{tb:TS}(hp:PassesOwn (model X.prog X.w) X.A X.env X.xe)(hc:PT X c tc)(hb:PSs X body tb):PS X (.While c body [] pos) (tWhile tc tb):=by
 intro pins s σ H D I h;obtain⟨W,⟨m0,w0⟩,turn⟩:=h;refine wpAny_While (codeAny_whileLoop (λn s'=>∃σ' H',Inv X pins σ' H' s'/\W n σ' H') ?_ m0 ⟨σ,H,I,w0⟩);rintro n s1 ⟨σ1,H1,I1,w1⟩;refine Z6 hp (thn (hc pins s1 σ1 H1 _ I1 (turn n σ1 H1 w1)) λb s2 ⟨H2,I2,q2⟩=>?_);cases b with
 |true =>
  obtain⟨N,hN,q2⟩:=q2;rw[V2 rfl];refine Z6 hp (thn (hb pins s2 σ1 H2 _ I2 q2) λf s3 q3=>?_);cases f with
  |next =>
   obtain⟨σ3,H3,I3,n3⟩:=q3;obtain⟨m',hm,w3⟩:=hN σ3 H3 n3;exact⟨m',hm,σ3,H3,I3,w3⟩
  |cont =>
   obtain⟨σ3,H3,I3,n3⟩:=q3;obtain⟨m',hm,w3⟩:=hN σ3 H3 n3;exact⟨m',hm,σ3,H3,I3,w3⟩
  |brk=>exact q3
  |ret v=>exact q3
 |false =>
  rw[V0 C6];exact Z8 ⟨σ1,H2,I2,q2⟩
end
structure It where
 go:Nat->Hp->Prop
 yld:Nat->Hp->V->Hp->Prop
 stop:Nat->Hp->Prop
def FQ(X:Cx)(pins:List (Addr×Obj))(H:Hp)(b:Addr):Prop :=
 H b=none/\b≠X.env.locals/\b∉X.fs/\(b∈X.ex\/X.s₀.heap.objs.size<=b)/\(∀x c,X.env.cells.lookup x=some c->c≠b)/\∀p∈X.pn++pins,p.1≠b
theorem Inv.fpOk{X:Cx}{pins:List (Addr×Obj)}{σ:St}{H H':Hp}{s:Shared}{b:Addr}(I:Inv X pins σ H s)(hb:s.heap.objs.size<=b)(hn:H' b=none):FQ X pins H' b:=by
 refine⟨hn,R5 (D8 I.lt hb),I.nofs hb,.inr (C8 I.sz hb),λx c e z=>?_,λp hp z=>?_⟩
 ·obtain⟨v,q⟩:=I.cell x c e;exact absurd (D8 q.lt (by rw[z];exact hb)) (N7 _)
 ·exact absurd (D8 (C4 (I.pin p hp).1) (by rw[z];exact hb)) (N7 _)
structure PQ(P:Program)(w:World)(K:PySem.W.Frag)(tg:Expr)(J:It)(fp:List Addr)(it:Addr)(tn:Nat->Heap->Prop):Prop where
 mem:it∈fp
 obj:∀i h,tn i h->∀b∈fp,∃o,h.get? b=some o/\∀v,o.data≠.cell v
 keep:∀i h h',tn i h->(∀b∈fp,∀o,h.get? b=some o->h'.get? b=some o)->tn i h'
 item:∀(X:Cx),X.prog=P->X.w=w->X.K=K->X.calm=true->∀(i:Nat)(pins:List (Addr×Obj))(s:Shared)(σ:St)(H:Hp)(E:Value->Shared->Prop),Inv X pins σ H s->(∀b∈fp,FQ X pins H b)->tn i s.heap->J.go i H ->
  wpAny (model P w) X.A (pyNext (.ref it)) (λr s1=>∃u,r=some u /\
   wpAny (model P w) X.A (letOwnedTupleGo tg (.ref it) u) (λ_ s2=>∃x H',Inv X pins σ H' s2/\AR x u/\J.yld i H x H'/\tn (i+1) s2.heap/\∀b∈fp,H' b=none) E s1) E s
 done:∀(X:Cx),X.prog=P->X.w=w->X.K=K->X.calm=true->∀(i:Nat)(pins:List (Addr×Obj))(s:Shared)(σ:St)(H:Hp)(E:Value->Shared->Prop),Inv X pins σ H s->(∀b∈fp,FQ X pins H b)->tn i s.heap->J.stop i H ->
  wpAny (model P w) X.A (pyNext (.ref it)) (λr s1=>r=none/\Inv X pins σ H s1) E s
 self:∀(A:Around)(i:Nat)(s:Shared)(Q:Value->Shared->Prop)(E:Value->Shared->Prop),tn i s.heap->Q (.ref it) s->wpAny (model P w) A (pyIter (.ref it)) Q E s
abbrev TI:=St->Hp->(It->Hp->Prop)->Prop
def PIE(X:Cx)(pins:List (Addr×Obj))(σ:St)(tg:Expr)(R:It->Hp->Prop)(itv:Value)(s2:Shared):Prop :=
 ∃(it:Addr)(fp:List Addr)(tn:Nat->Heap->Prop)(J:It)(H':Hp),itv=.ref it/\Inv X pins σ H' s2/\PQ X.prog X.w X.K tg J fp it tn/\tn 0 s2.heap/\(∀b∈fp,FQ X pins H' b)/\R J H'
def PI(X:Cx)(tg iter:Expr)(wi:TI):Prop :=
 ∀(pins:List (Addr×Obj))(s:Shared)(σ:St)(H:Hp)(R:It->Hp->Prop),Inv X pins σ H s->wi σ H R ->
  wpAny (model X.prog X.w) X.A (eval iter X.env) (λv s1=>wpAny (model X.prog X.w) X.A (pyIter v) (PIE X pins σ tg R) X.xe s1) X.xe s
theorem SX{M:Model}{A:Around}{E:Value->Shared->Prop}{s:Shared}{tg:Expr}{it:Addr}{u:Value}{o:Obj}{n:String}{vs:Array Value}{Q:Unit->Shared->Prop}(ho:s.heap.get? it=some o)(hc:o.cls=.type n)(hd:o.data=.fields vs)
    (hn:["enumerate","zip","dict_itemiterator","dict_reverseitemiterator","odict_iterator","itertools.zip_longest","itertools.pairwise"].contains n=false) (hQ:Q () s):wpAny M A (letOwnedTupleGo tg (.ref it) u) Q E s:=by
  unfold letOwnedTupleGo;cases tg<;>first
    |exact V9 hQ
    | (cases u<;>first
        |exact V9 hQ
        | (refine U9 (wpAny_load ho ?_)
           rw[hc,hd];show wpAny M A (if(["enumerate","zip","dict_itemiterator","dict_reverseitemiterator","odict_iterator","itertools.zip_longest","itertools.pairwise"].contains n && vs[0]?==some (rawInt _))=true then _ else _) Q E s;rw[V0 (by intro h;rw[hn,Bool.false_and]at h;cases h)];exact V9 hQ))
def Itl(K:PySem.W.Frag)(a:Addr):It :=
 ⟨λi H=>∃xs x,SqL K H a xs/\xs[i]?=some x,λi H x H'=>H'=H/\∀xs,SqL K H a xs->xs[i]?=some x,λi H=>∃xs,SqL K H a xs/\xs.length<=i⟩
def Itt(K:PySem.W.Frag)(a:Addr):It :=
 ⟨λi H=>∃xs x,SqT K H a xs/\xs[i]?=some x,λi H x H'=>H'=H/\∀xs,SqT K H a xs->xs[i]?=some x,λi H=>∃xs,SqT K H a xs/\xs.length<=i⟩
def Itr(lo:Int)(n:Nat):It:=⟨λi _=>i<n,λi H x H'=>H'=H/\x=.int (lo+i),λi _=>n<=i⟩
theorem Ts{P:Program}{w:World}{K:PySem.W.Frag}{tg:Expr}(a it:Addr):PQ P w K tg (Itl K a) [it] it (λi h=>h.IsListIter it a i) where
 mem:=by simp
 obj:=λi h st b hb=>by
  have e:b=it:=by simpa using hb
  subst e;obtain⟨o,e,c,d⟩:=st;exact⟨o,e,λv z=>by rw[d]at z;cases z⟩
 keep:=λi h h' st k=>st.at λo e=>k it A6 o e
 item:=by
  intro X hP hw hK hc i pins s σ H E I hf st hg;subst hP hw hK;obtain⟨xs,x,hq,hx⟩:=hg;obtain⟨its,rv,p,hz⟩:=I.list hq;obtain⟨u,hu,ru⟩:=rv.get hx;obtain⟨f0,f1,f2,f3,f4,f5⟩:=hf it A6;refine wpAny_pyNext_list_item st p.isList (x:=u) (by simpa using hu) λh' st' sb=>?_;have I1:Inv X pins σ H {s with heap:=h'}:=I.turned (t':=s.toks) (λb o hb e=>(sb.2 b hb).trans e) f0 f1 f3 f4 f5;obtain⟨o,e,c,d⟩:=id st';exact⟨u,rfl,SX (s:={s with heap:=h'}) e c d A3 ⟨x,H,I1,ru,⟨rfl,λys hy=>by rw[I.list_inj hy hq];exact hx⟩,st',λb hb=>(hf b hb).1⟩⟩
 done:=by
  intro X hP hw hK hc i pins s σ H E I hf st hg;subst hP hw hK;obtain⟨xs,hq,hx⟩:=hg;obtain⟨its,rv,p,hz⟩:=I.list hq;obtain⟨f0,f1,f2,f3,f4,f5⟩:=hf it A6;have hl:=rv.length;exact wpAny_pyNext_list_end (I.ok.hd hc) st p.isList (by simp;lia) λh' eb=>⟨rfl,I.turned (t':=s.toks) (λb o hb e=>eb b o hb e) f0 f1 f3 f4 f5⟩
 self:=λ_ _ _ _ _ st h=>wpAny_pyIter_listiter st h
theorem Rm{P:Program}{w:World}{K:PySem.W.Frag}{tg:Expr}(a it:Addr):PQ P w K tg (Itt K a) [it] it (λi h=>h.IsTupleIter it a i) where
 mem:=by simp
 obj:=λi h st b hb=>by
  have e:b=it:=by simpa using hb
  subst e;obtain⟨o,e,c,d⟩:=st;exact⟨o,e,λv z=>by rw[d]at z;cases z⟩
 keep:=λi h h' st k=>st.at λo e=>k it A6 o e
 item:=by
  intro X hP hw hK hc i pins s σ H E I hf st hg;subst hP hw hK;obtain⟨xs,x,hq,hx⟩:=hg;obtain⟨its,rv,p,hz⟩:=I.tuple hq;obtain⟨u,hu,ru⟩:=rv.get hx;obtain⟨f0,f1,f2,f3,f4,f5⟩:=hf it A6;refine wpAny_pyNext_tuple_item st (show s.heap.IsTuple a its.toArray from p) (x:=u) (by simpa using hu) λh' st' sb=>?_;have I1:Inv X pins σ H {s with heap:=h'}:=I.turned (t':=s.toks) (λb o hb e=>(sb.2 b hb).trans e) f0 f1 f3 f4 f5;obtain⟨o,e,c,d⟩:=id st';exact⟨u,rfl,SX (s:={s with heap:=h'}) e c d A3 ⟨x,H,I1,ru,⟨rfl,λys hy=>by rw[I.tuple_inj hy hq];exact hx⟩,st',λb hb=>(hf b hb).1⟩⟩
 done:=by
  intro X hP hw hK hc i pins s σ H E I hf st hg;subst hP hw hK;obtain⟨xs,hq,hx⟩:=hg;obtain⟨its,rv,p,hz⟩:=I.tuple hq;obtain⟨f0,f1,f2,f3,f4,f5⟩:=hf it A6;have hl:=rv.length;exact wpAny_pyNext_tuple_end (I.ok.hd hc) st (show s.heap.IsTuple a its.toArray from p) (by simp;lia) λh' eb=>⟨rfl,I.turned (t':=s.toks) (λb o hb e=>eb b o hb e) f0 f1 f3 f4 f5⟩
 self:=λ_ _ _ _ _ st h=>wpAny_pyIter_tupleiter st h
theorem Rn{P:Program}{w:World}{K:PySem.W.Frag}{tg:Expr}(it:Addr)(lo:Int)(n:Nat):PQ P w K tg (Itr lo n) [it] it (λi h=>IsRangeIter h it (lo+(i:Nat)*1) ((n:Int)-(i:Nat)) 1) where
 mem:=by simp
 obj:=λi h st b hb=>by
  have e:b=it:=by simpa using hb
  subst e;exact⟨_,st,λv z=>by
   have z':Data.fields _=Data.cell v:=z;cases z'⟩
 keep:=λi h h' st k=>k it A6 _ st
 item:=by
  intro X hP hw hK hc i pins s σ H E I hf st hg;subst hP hw hK;obtain⟨f0,f1,f2,f3,f4,f5⟩:=hf it A6;have W:=Walks.range (prog:=X.prog) (w:=X.w) (I.ok.hd hc) it lo 1 n;refine W.item i s _ _ hg st λv h' tk hv st' kk=>?_;obtain⟨t,rfl⟩:=hv;have I1:Inv X pins σ H {s with heap:=h',toks:=tk}:=I.turned (λb o hb e=>kk b o (by simpa using hb) e) f0 f1 f3 f4 f5;refine⟨_,rfl,SX (s:={s with heap:=h',toks:=tk}) (n:="range_iterator") st' rfl rfl A3 ⟨.int (lo+i),H,I1,⟨t,?_⟩,⟨rfl,rfl⟩,st',λb hb=>(hf b hb).1⟩⟩;rw[Int.mul_one]
 done:=by
  intro X hP hw hK hc i pins s σ H E I hf st hg;subst hP hw hK;obtain⟨f0,f1,f2,f3,f4,f5⟩:=hf it A6;exact wpAny_pyNext_range_end (I.ok.hd hc) st (by have:n<=i:=hg;lia) λh' eb=>⟨rfl,I.turned (t':=s.toks) (λb o hb e=>eb b o hb e) f0 f1 f3 f4 f5⟩
 self:=λ_ _ _ _ _ st h=>wpAny_pyIter_rangeiter st h
section
variable{X:Cx}{tg:Expr}
def iList(K:PySem.W.Frag)(tl:TE):TI:=fun σ H R=>tl σ H λx H1=>∃a,x=.ref a/\(∃xs,SqL K H1 a xs)/\R (Itl K a) H1
def iTup(K:PySem.W.Frag)(tl:TE):TI:=fun σ H R=>tl σ H λx H1=>∃a,x=.ref a/\(∃xs,SqT K H1 a xs)/\R (Itt K a) H1
theorem Cs{l:Expr}{tl:TE}(hl:PE X l tl):PI X tg l (iList X.K tl):=by
 intro pins s σ H R I h;refine thn (hl pins s σ H _ I h) λv s1 ⟨x,H1,I1,r1,q1⟩=>?_;obtain⟨a,e,⟨xs,hq⟩,q⟩:=q1;subst e;cases r1;obtain⟨its,rv,p,hz⟩:=I1.list hq;refine X5 p.isList ?_;refine⟨s1.heap.objs.size,[s1.heap.objs.size],_,_,H1,rfl,I1.kept (t':=s1.toks) λb o e=>B7 _ e,Ts a _,⟨_,C7 _ rfl,rfl,rfl⟩,λb hb=>?_,q⟩;have e:b=s1.heap.objs.size:=by simpa using hb
 subst e;exact I1.fpOk (C0 _) (I1.hok.fresh (C0 _))
theorem Rx{l:Expr}{tl:TE}(hl:PE X l tl):PI X tg l (iTup X.K tl):=by
 intro pins s σ H R I h;refine thn (hl pins s σ H _ I h) λv s1 ⟨x,H1,I1,r1,q1⟩=>?_;obtain⟨a,e,⟨xs,hq⟩,q⟩:=q1;subst e;cases r1;obtain⟨its,rv,p,hz⟩:=I1.tuple hq;refine wpAny_pyIter_tuple (show s1.heap.IsTuple a its.toArray from p) ?_;refine⟨s1.heap.objs.size,[s1.heap.objs.size],_,_,H1,rfl,I1.kept (t':=s1.toks) λb o e=>B7 _ e,Rm a _,⟨_,C7 _ rfl,rfl,rfl⟩,λb hb=>?_,q⟩;have e:b=s1.heap.objs.size:=by simpa using hb
 subst e;exact I1.fpOk (C0 _) (I1.hok.fresh (C0 _))
theorem Qo{pins:List (Addr×Obj)}{σ:St}{H:Hp}{s:Shared}{R:It->Hp->Prop}{E:Value->Shared->Prop}{lo hi:Int}{t u v:Tok}{tk:Nat}(I:Inv X pins σ H s)(h1:-(2^62)<=lo)(h2:lo<2^62)(h3:-(2^62)<=hi)(h4:hi<2^62)
  (q:R (Itr lo (hi-lo).toNat) H):wpAny (model X.prog X.w) X.A (pyIter (.ref s.heap.objs.size)) (PIE X pins σ tg R) E {s with heap:=s.heap.push {cls:=.type "range",data:=.fields #[.int lo t,.int hi u,.int 1 v]},toks:=tk}:=by
 refine wpAny_pyIter_range (IsRange.new ..) (small_one h1 h2 h3 h4) ?_;have I1:Inv X pins σ H {s with heap:=s.heap.push {cls:=.type "range",data:=.fields #[.int lo t,.int hi u,.int 1 v]},toks:=tk}:=I.kept λb o e=>B7 _ e;refine⟨(s.heap.push {cls:=.type "range",data:=.fields #[.int lo t,.int hi u,.int 1 v]}).objs.size,[(s.heap.push {cls:=.type "range",data:=.fields #[.int lo t,.int hi u,.int 1 v]}).objs.size],_,_,H,rfl,
  I1.kept (t':=tk) λb o e=>B7 _ e,Rn _ lo (hi-lo).toNat,?_,λb hb=>?_,q⟩
 ·have e1:lo+((0:Nat):Int)*1=lo:=by simp
  have e2:(((hi-lo).toNat:Nat):Int)-((0:Nat):Int)=Builtin.Range.rangeSize lo hi 1:=by rw[rangeSize_one];split<;>lia
  show IsRangeIter _ _ (lo+((0:Nat):Int)*1) ((((hi-lo).toNat:Nat):Int)-((0:Nat):Int)) 1;rw[e1,e2];exact C7 _ rfl
 ·have e:b=(s.heap.push {cls:=.type "range",data:=.fields #[.int lo t,.int hi u,.int 1 v]}).objs.size:=by simpa using hb
  subst e;exact I1.fpOk (C0 _) (I1.hok.fresh (C0 _))
def iRng1(ta:TA):TI:=fun σ H R=>ta σ H λvs H1=>∃j:Int,vs=[.int j]/\-(2^62)<=j/\j<2^62/\R (Itr 0 j.toNat) H1
def iRng2(ta:TA):TI:=fun σ H R=>ta σ H λvs H1=>∃i j:Int,vs=[.int i,.int j]/\(-(2^62)<=i/\i<2^62/\-(2^62)<=j/\j<2^62)/\R (Itr i (j-i).toNat) H1
theorem NW{a:Expr}{ta:TA}{p pos:Pos}(hg:Gl X "range")(hm:X.mg "range" = none)(ha:PA X [a] ta)(hs:starEach [a] X.env=[(false,eval a X.env)]:=by rfl):PI X tg (.Call (.Name "range" p) [a] [] pos) (iRng1 ta):=by
 intro pins s σ H R I h;refine Call_ (Jm I hg hm boot_range (Z0 (thn (ha pos pins s σ H _ I h) λus s1 ⟨vs,H1,I1,r1,q1⟩=>?_) hs rfl));obtain⟨j,e,q1,q2,q⟩:=q1;subst e;cases r1 with
 |cons r rr =>
  cases rr;obtain⟨t,rfl⟩:=r;exact call_range_1 (Qo I1 A1 A1 q1 q2 (by simpa using q))
theorem Tz{a b:Expr}{ta:TA}{p pos:Pos}(hg:Gl X "range")(hm:X.mg "range" = none)(ha:PA X [a,b] ta)(hs:starEach [a,b] X.env=[(false,eval a X.env),(false,eval b X.env)]:=by rfl)(hs2:starEach [b] X.env=[(false,eval b X.env)]:=by rfl) :
  PI X tg (.Call (.Name "range" p) [a,b] [] pos) (iRng2 ta):=by
 intro pins s σ H R I h;refine Call_ (Jm I hg hm boot_range (Z0 (thn (ha pos pins s σ H _ I h) λus s1 ⟨vs,H1,I1,r1,q1⟩=>?_) (by rw[hs,hs2]) (by rw[hs2];rfl)));obtain⟨i,j,e,⟨q1,q2,q3,q4⟩,q⟩:=q1;subst e;cases r1 with
 |cons r rr =>
  cases rr with
  |cons r' rr =>
   cases rr;obtain⟨t,rfl⟩:=r;obtain⟨t',rfl⟩:=r';exact call_range_2 (Qo I1 q1 q2 q3 q4 q)
def tFor(wi:TI)(g:TG)(tb:TS):TS:=λD σ H=>wi σ H λJ H1=>∃W:Nat->Nat->St->Hp->Prop,(∃m,W 0 m σ H1)/\∀i m σ H,W i m σ H ->
 (J.stop i H/\D.nx σ H)\/(J.go i H/\∃N:St->Hp->Prop,(∀σ' H',N σ' H'->∃m',m'<m/\W (i+1) m' σ' H')/\∀x H',J.yld i H x H'->g x σ H' fun σ2 H2=>tb {D with nx:=N,ct:=N,bk:=D.nx} σ2 H2)
def Lp(fp:List Addr)(h:Heap):List (Addr×Obj):=fp.filterMap λb=>(h.get? b).map λo=>(b,o)
theorem Gy{fp:List Addr}{h:Heap}{b:Addr}{o:Obj}(hb:b∈fp)(e:h.get? b=some o):(b,o)∈Lp fp h:=List.mem_filterMap.mpr ⟨b,hb,by rw[e];rfl⟩
theorem NY{fp:List Addr}{h:Heap}{p:Addr×Obj}(hp:p∈Lp fp h):p.1∈fp/\h.get? p.1=some p.2:=by
 obtain⟨b,hb,e⟩:=List.mem_filterMap.mp hp;cases q:h.get? b with
 |none=>rw[q]at e;cases e
 |some o =>
  rw[q]at e;have e':(b,o)=p:=V4 e;subst e';exact⟨hb,q⟩
theorem Inv.pinned{pins:List (Addr×Obj)}{σ:St}{H:Hp}{s:Shared}{fp:List Addr}(I:Inv X pins σ H s)(hf:∀b∈fp,FQ X pins H b)(ho:∀b∈fp,∃o,s.heap.get? b=some o/\∀v,o.data≠.cell v):Inv X (pins++Lp fp s.heap) σ H s :=
 I.pins_of λp hp=>(M6.mp hp).elim (λz=>I.pin p (F4 _ z)) λz=>by
  obtain⟨hb,e⟩:=NY z;obtain⟨f0,f1,f2,_⟩:=hf p.1 hb;obtain⟨o,e',d⟩:=ho p.1 hb;rw[e]at e';cases e';exact⟨e,f0,f1,f2,d⟩
theorem Inv.unpinned{pins pl:List (Addr×Obj)}{σ:St}{H:Hp}{s:Shared}(I:Inv X (pins++pl) σ H s):Inv X pins σ H s:=I.pins_of λp hp=>I.pin p (F4 _ (O4 _ hp))
theorem Fu{iter:Expr}{body:List Stmt}{wi:TI}{g:TG}{tb:TS}{pos:Pos}(hp:PassesOwn (model X.prog X.w) X.A X.env X.xe)(hc:X.calm=true)(hi:PI X tg iter wi)(hg:PG X tg g)(hb:PSs X body tb)
  (hs:∀x,foldedSetIterable iter X.env x=pure x:=by intro _;rfl):PS X (.For tg iter body [] pos) (tFor wi g tb):=by
 intro pins s σ H D I h;refine wpAny_For (thn (hi pins s σ H _ I h) λv s1 h1=>thn h1 λitv s2 h2=>?_) hs;obtain⟨it,fp,tn,J,H2,e,I2,T,st2,f2,W,⟨m0,w0⟩,turn⟩:=h2;subst e;have stat:∀{H':Hp},(∀b∈fp,H' b=none)->∀b∈fp,FQ X pins H' b:=λhn b hb=>⟨hn b hb,(f2 b hb).2⟩
 refine codeAny_forLoop_any (λn s'=>∃i σ' H',Inv X pins σ' H' s'/\tn i s'.heap/\(∀b∈fp,H' b=none)/\W i n σ' H') ?_ m0 ⟨0,σ,H2,I2,st2,λb hb=>(f2 b hb).1,w0⟩;rintro n s3 ⟨i,σ3,H3,I3,st3,fr3,w3⟩;rcases turn i n σ3 H3 w3 with ⟨stop,qn⟩|⟨go,N,hN,step⟩
 ·refine Z6 hp (thn (T.done X rfl rfl rfl hc i pins s3 σ3 H3 X.xe I3 (stat fr3) st3 stop) λr s4 ⟨hr,I4⟩=>?_);subst hr;exact Z8 ⟨σ3,H3,I4,qn⟩
 ·refine Z6 hp (thn (T.item X rfl rfl rfl hc i pins s3 σ3 H3 X.xe I3 (stat fr3) st3 go) λr s4 ⟨u,hr,h4⟩=>?_);subst hr;refine Z6 hp (thn h4 λ_ s5 ⟨x,H5,I5,r5,y5,st5,fr5⟩=>?_);have I5':=I5.pinned (stat fr5) (T.obj _ _ st5);refine Z6 hp (thn (hg _ s5 σ3 H5 x u _ I5' r5 (step x H5 y5)) λ_ s6 ⟨σ6,H6,I6,q6⟩=>?_);refine Z6 hp (thn (hb _ s6 σ6 H6 _ I6 q6) λf s7 q7=>?_);have again:∀{σ7:St}{H7:Hp},Inv X (pins++Lp fp s5.heap) σ7 H7 s7->N σ7 H7->∃m,m<n/\∃i σ' H',Inv X pins σ' H' s7/\tn i s7.heap/\(∀b∈fp,H' b=none)/\W i m σ' H':=λ{σ7 H7} I7 n7=>by
   obtain⟨m',hm,w7⟩:=hN σ7 H7 n7;refine⟨m',hm,i+1,σ7,H7,I7.unpinned,T.keep _ _ _ st5 λb hb o e=>(I7.pin (b,o) (F4 _ (F4 _ (Gy hb e)))).1,λb hb=>?_,w7⟩;obtain⟨o,e,d⟩:=T.obj _ _ st5 b hb;exact(I7.pin (b,o) (F4 _ (F4 _ (Gy hb e)))).2.1
  cases f with
  |next=>obtain⟨σ7,H7,I7,n7⟩:=q7;exact again I7 n7
  |cont=>obtain⟨σ7,H7,I7,n7⟩:=q7;exact again I7 n7
  |brk=>obtain⟨σ7,H7,I7,q7⟩:=q7;exact⟨σ7,H7,I7.unpinned,q7⟩
  |ret v=>obtain⟨x7,σ7,H7,I7,r7,q7⟩:=q7;exact⟨x7,σ7,H7,I7.unpinned,r7,q7⟩
end
theorem Nf{K:PySem.W.Frag}{a:Addr}{xs:List V}{g:TG}{tb:TS}{D:JX}{σ:St}{H:Hp}(Pv:Nat->St->Hp->Prop)(h0:Pv 0 σ H)(hl:∀i σ H,i<=xs.length->Pv i σ H->SqL K H a xs)
  (hs:∀i x σ H,xs[i]?=some x->Pv i σ H->g x σ H fun σ2 H2=>tb {D with nx:=Pv (i+1),ct:=Pv (i+1),bk:=D.nx} σ2 H2) (hd:∀σ H,Pv xs.length σ H->D.nx σ H) :
  ∃W:Nat->Nat->St->Hp->Prop,(∃m,W 0 m σ H)/\∀i m σ H,W i m σ H ->
   ((Itl K a).stop i H/\D.nx σ H)\/((Itl K a).go i H/\∃N:St->Hp->Prop,(∀σ' H',N σ' H'->∃m',m'<m/\W (i+1) m' σ' H')/\∀x H',(Itl K a).yld i H x H'->g x σ H' fun σ2 H2=>tb {D with nx:=N,ct:=N,bk:=D.nx} σ2 H2):=by
 refine⟨λi m σ H=>m=xs.length-i/\i<=xs.length/\Pv i σ H,⟨xs.length,by simp,F5 _,h0⟩,?_⟩;rintro i m σ H ⟨rfl,hi,p⟩;have q:=hl i σ H hi p;by_cases hlt:i<xs.length
 ·refine .inr ⟨⟨xs,xs[i],q,by simp[hlt]⟩,Pv (i+1),fun σ' H' p'=>⟨xs.length-(i+1),by lia,rfl,hlt,p'⟩,λx H' y=>?_⟩;obtain⟨e,y⟩:=y;subst e;exact hs i x σ _ (y xs q) p
 ·have e:i=xs.length:=by lia
  subst e;exact .inl ⟨⟨xs,q,C0 _⟩,hd σ H p⟩
theorem Oh{lo:Int}{n:Nat}{g:TG}{tb:TS}{D:JX}{σ:St}{H:Hp}(Pv:Nat->St->Hp->Prop)(h0:Pv 0 σ H)
  (hs:∀i σ H,i<n->Pv i σ H->g (.int (lo+i)) σ H fun σ2 H2=>tb {D with nx:=Pv (i+1),ct:=Pv (i+1),bk:=D.nx} σ2 H2) (hd:∀σ H,Pv n σ H->D.nx σ H) :
  ∃W:Nat->Nat->St->Hp->Prop,(∃m,W 0 m σ H)/\∀i m σ H,W i m σ H ->
   ((Itr lo n).stop i H/\D.nx σ H)\/((Itr lo n).go i H/\∃N:St->Hp->Prop,(∀σ' H',N σ' H'->∃m',m'<m/\W (i+1) m' σ' H')/\∀x H',(Itr lo n).yld i H x H'->g x σ H' fun σ2 H2=>tb {D with nx:=N,ct:=N,bk:=D.nx} σ2 H2):=by
 refine⟨λi m σ H=>m=n-i/\i<=n/\Pv i σ H,⟨n,by simp,F5 _,h0⟩,?_⟩;rintro i m σ H ⟨rfl,hi,p⟩;by_cases hlt:i<n
 ·refine .inr ⟨hlt,Pv (i+1),fun σ' H' p'=>⟨n-(i+1),by lia,rfl,hlt,p'⟩,λx H' y=>?_⟩;obtain⟨e,y⟩:=y;subst e y;exact hs i σ _ hlt p
 ·have e:i=n:=by lia
  subst e;exact .inl ⟨C0 _,hd σ H p⟩
abbrev R2:=V->V->Hp->VK->Prop
def OpR(X:Cx)(f:Value->Value->Sem Value)(r:R2):Prop :=
 ∀(pins:List (Addr×Obj))(s:Shared)(σ:St)(H:Hp)(x y:V)(v u:Value)(Q:VK),Inv X pins σ H s->AR x v->AR y u->r x y H Q ->
  wpAny (model X.prog X.w) X.A (f v u) (EP X pins σ Q) X.xe s
def UnR(X:Cx)(f:Value->Sem Value)(r:V->Hp->VK->Prop):Prop :=
 ∀(pins:List (Addr×Obj))(s:Shared)(σ:St)(H:Hp)(x:V)(v:Value)(Q:VK),Inv X pins σ H s->AR x v->r x H Q ->
  wpAny (model X.prog X.w) X.A (f v) (EP X pins σ Q) X.xe s
def FS(X:Cx)(f:Value)(r:List V->Hp->VK->Prop):Prop :=
 ∀(pins:List (Addr×Obj))(s:Shared)(σ:St)(H:Hp)(xs:List V)(us:List Value)(Q:VK),Inv X pins σ H s->AM xs us->r xs H Q ->
  wpAny (model X.prog X.w) X.A (call f us) (EP X pins σ Q) X.xe s
def tOp(r:R2)(ta tb:TE):TE:=fun σ H Q=>ta σ H λx H1=>tb σ H1 λy H2=>r x y H2 Q
def tUn(r:V->Hp->VK->Prop)(ta:TE):TE:=fun σ H Q=>ta σ H λx H1=>r x H1 Q
def rI(C:Int->Int->Prop)(g:Int->Int->V):R2:=λx y H Q=>∃i j,x=.int i/\y=.int j/\C i j/\Q (g i j) H
def rI0(g:Int->Int->V):R2:=λx y H Q=>∃i j,x=.int i/\y=.int j/\Q (g i j) H
def rU(g:Int->V):V->Hp->VK->Prop:=λx H Q=>∃i,x=.int i/\Q (g i) H
section
variable{X:Cx}{a b c:Expr}{ta tb tc:TE}{pos:Pos}
theorem binT(ha:PE X a ta)(hb:PE X b tb){pins:List (Addr×Obj)}{s:Shared}{σ:St}{H:Hp}{R:V->V->Hp->Prop}(I:Inv X pins σ H s)
  (h:ta σ H λx H1=>tb σ H1 λy H2=>R x y H2) {Q:Value->Shared->Prop} {f:Value->Value->Sem Value}
  (hf:∀v u s2 x y H2,Inv X pins σ H2 s2->AR x v->AR y u->R x y H2->wpAny (model X.prog X.w) X.A (f v u) Q X.xe s2) :
  wpAny (model X.prog X.w) X.A (eval a X.env) (λv s₁=>wpAny (model X.prog X.w) X.A (eval b X.env) (λu s₂=>wpAny (model X.prog X.w) X.A (f v u) Q X.xe s₂) X.xe s₁) X.xe s:=by
 refine thn (ha pins s σ H _ I h) λv s1 ⟨x,H1,I1,r1,q1⟩=>?_;refine thn (hb pins s1 σ H1 _ I1 q1) λu s2 ⟨y,H2,I2,r2,q2⟩=>?_;exact hf v u s2 x y H2 I2 r1 r2 q2
theorem AK{op:Operator}{r:R2}(ho:OpR X (binaryOp op) r)(ha:PE X a ta)(hb:PE X b tb):PE X (.BinOp a op b pos) (tOp r ta tb):=by
 intro pins s σ H Q I h;exact wpAny_BinOp (binT ha hb I h λv u s2 x y H2 I2 rx ry q=>ho pins s2 σ H2 x y v u Q I2 rx ry q)
theorem GL{op:UnaryOp}{r:V->Hp->VK->Prop}(ho:UnR X (unaryOp op) r)(ha:PE X a ta):PE X (.UnaryOp op a pos) (tUn r ta):=by
 intro pins s σ H Q I h;exact UnaryOp_ (thn (ha pins s σ H _ I h) λv s1 ⟨x,H1,I1,r1,q1⟩=>ho pins s1 σ H1 x v Q I1 r1 q1)
theorem opI{f:Value->Value->Sem Value}{C:Int->Int->Prop}{g:Int->Int->Int}
  (rule:∀(i j:Int)(t u:Tok)(s:Shared)(Q:Value->Shared->Prop)(E:Value->Shared->Prop),C i j->Q (.int (g i j) s.toks) {s with toks:=s.toks+1}->wpAny (model X.prog X.w) X.A (f (.int i t) (.int j u)) Q E s) :
  OpR X f (rI C λi j=>.int (g i j)):=by
 intro pins s σ H x y v u Q I rx ry h;obtain⟨i,j,rfl,rfl,hc,q⟩:=h;obtain⟨t,rfl⟩:=rx;obtain⟨t',rfl⟩:=ry;exact rule i j t t' s _ _ hc ⟨.int (g i j),H,I.tok _,⟨_,rfl⟩,q⟩
theorem opI0{f:Value->Value->Sem Value}{g:Int->Int->Int}
  (rule:∀(i j:Int)(t u:Tok)(s:Shared)(Q:Value->Shared->Prop)(E:Value->Shared->Prop),Q (.int (g i j) s.toks) {s with toks:=s.toks+1}->wpAny (model X.prog X.w) X.A (f (.int i t) (.int j u)) Q E s) :
  OpR X f (rI0 λi j=>.int (g i j)):=by
 intro pins s σ H x y v u Q I rx ry h;obtain⟨i,j,rfl,rfl,q⟩:=h;obtain⟨t,rfl⟩:=rx;obtain⟨t',rfl⟩:=ry;exact rule i j t t' s _ _ ⟨.int (g i j),H,I.tok _,⟨_,rfl⟩,q⟩
theorem opB0{f:Value->Value->Sem Value}{g:Int->Int->Bool}
  (rule:∀(i j:Int)(t u:Tok)(s:Shared)(Q:Value->Shared->Prop)(E:Value->Shared->Prop),Q (.bool (g i j)) s->wpAny (model X.prog X.w) X.A (f (.int i t) (.int j u)) Q E s) :
  OpR X f (rI0 λi j=>.bl (g i j)):=by
 intro pins s σ H x y v u Q I rx ry h;obtain⟨i,j,rfl,rfl,q⟩:=h;obtain⟨t,rfl⟩:=rx;obtain⟨t',rfl⟩:=ry;exact rule i j t t' s _ _ ⟨.bl (g i j),H,I,rfl,q⟩
def CDiv(i j:Int):Prop:=0<j/\j<1073741824
def CPow(i j:Int):Prop:=0<=j/\j<=1000000/\i.natAbs<2^64
def CMul(i j:Int):Prop:=(-(2^64)<i/\i<2^64)\/(-(2^64)<j/\j<2^64)
theorem CMul.ok{i j:Int}(h:CMul i j):IntMulOk i j:=by
 rcases h with ⟨h1,h2⟩|⟨h1,h2⟩
 ·exact .of_left (intBits_le_64 h1 h2)
 ·exact .of_right (intBits_le_64 h1 h2)
theorem Bw:OpR X (binaryOp .Add) (rI0 λi j=>.int (i+j)):=opI0 λ_ _ _ _ _ _ _ q=>add_int q
theorem Bf:OpR X (binaryOp .Sub) (rI0 λi j=>.int (i-j)):=opI0 λ_ _ _ _ _ _ _ q=>sub_int q
theorem Jj:OpR X (binaryOp .Mult) (rI CMul λi j=>.int (i*j)):=opI λ_ _ _ _ _ _ _ hc q=>mul_int q hc.ok
theorem IC:OpR X (binaryOp .FloorDiv) (rI CDiv λi j=>.int (i/j)):=opI λi j _ _ _ _ _ hc q=>by
 have h1:(0:Int)<j:=hc.1;have h2:j<1073741824:=hc.2;exact floordiv_int A1 (by rw[Int.fdiv_eq_ediv_of_nonneg i A1];exact q) (.inl (PyProof.noPylong_small A1))
theorem Cg:OpR X (binaryOp .Mod) (rI (λ_ j=>0<j) λi j=>.int (i%j)):=opI λi j _ _ _ _ _ hc q=>by
 have h1:(0:Int)<j:=hc;exact mod_int' A1 (by rw[Int.fmod_eq_emod_of_nonneg i A1];exact q)
theorem Ly:OpR X (binaryOp .Pow) (rI CPow λi j=>.int (i^j.toNat)):=opI λ_ _ _ _ _ _ _ hc q=>pow_int_small hc.1 hc.2.1 hc.2.2 q
theorem Lx:OpR X (binaryOp .LShift) (rI CPow λi j=>.int (i*2^j.toNat)):=opI λ_ _ _ _ _ _ _ hc q=>lshift_int_small hc.1 hc.2.1 hc.2.2 q
theorem unI{f:Value->Sem Value}{g:Int->Int}
  (rule:∀(i:Int)(t:Tok)(s:Shared)(Q:Value->Shared->Prop)(E:Value->Shared->Prop),Q (.int (g i) s.toks) {s with toks:=s.toks+1}->wpAny (model X.prog X.w) X.A (f (.int i t)) Q E s) :
  UnR X f (rU λi=>.int (g i)):=by
 intro pins s σ H x v Q I rx h;obtain⟨i,rfl,q⟩:=h;obtain⟨t,rfl⟩:=rx;exact rule i t s _ _ ⟨.int (g i),H,I.tok _,⟨_,rfl⟩,q⟩
theorem DU:UnR X (unaryOp .USub) (rU λi=>.int (-i)):=unI λ_ _ _ _ _ q=>neg_int q
end
def scal:V->V->Bool
 |.non,.non=>true|.non,.int _=>true|.int _,.non=>true|.non,.bl _=>true|.bl _,.non=>true|.non,.str _=>true|.str _,.non=>true
 |.int _,.int _=>true|.bl _,.bl _=>true|.str _,.str _=>true|.byt _,.byt _=>true
 |.int _,.str _=>true|.str _,.int _=>true|.bl _,.str _=>true|.str _,.bl _=>true
 |_,_=>false
def rEq:R2:=λx y H Q=>scal x y=true/\Q (.bl (decide (x=y))) H
def rNe:R2:=λx y H Q=>scal x y=true/\Q (.bl (!decide (x=y))) H
theorem Mo{i j:Int}:decide (V.int i=V.int j)=(i==j):=by
 rw[Q6];simp
theorem Wl{i j:Bool}:decide (V.bl i=V.bl j)=(i==j):=by
 rw[Q6];simp
theorem SY{i j:Str}:decide (V.str i=V.str j)=(i==j):=by
 rw[Q6];simp
theorem SZ{i j:Array UInt8}:decide (V.byt i=V.byt j)=(i.toList==j.toList):=by
 rw[Q6];cases i;cases j;simp
section
variable{X:Cx}{a b c:Expr}{ta tb tc:TE}{pos:Pos}
theorem AS{pins:List (Addr×Obj)}{σ:St}{H:Hp}{s:Shared}{Q:VK}{k k':Bool}(I:Inv X pins σ H s)(q:Q (.bl k) H)(e:k=k'):EP X pins σ Q (.bool k') s:=by
 subst e;exact⟨.bl k,H,I,rfl,q⟩
theorem CQ:OpR X (compareOp .Eq) rEq:=by
 intro pins s σ H x y v u Q I rx ry h;obtain⟨hs,q⟩:=h;cases x with
 |non =>
  cases rx;cases y with
  |non=>cases ry;exact PySem.EqNone.eq_none_none (AS I q A6)
  |bl j=>cases ry;exact PySem.EqNone.eq_none_bool (AS I q A6)
  |int j=>obtain⟨t',rfl⟩:=ry;exact PySem.EqNone.eq_none_int (AS I q A6)
  |str j=>obtain⟨t',rfl⟩:=ry;exact PySem.EqNone.eq_none_str (AS I q A6)
  |_=>exact absurd (show false=true from hs) C6
 |bl i =>
  cases rx;cases y with
  |non=>cases ry;exact PySem.EqNone.eq_bool_none (AS I q A6)
  |bl j=>cases ry;exact eq_bool (AS I q Wl)
  |str j=>obtain⟨t',rfl⟩:=ry;exact PySem.EqMixed.eq_bool_str (AS I q A6)
  |_=>exact absurd (show false=true from hs) C6
 |int i =>
  obtain⟨t,rfl⟩:=rx;cases y with
  |non=>cases ry;exact PySem.EqNone.eq_int_none (AS I q A6)
  |int j=>obtain⟨t',rfl⟩:=ry;exact eq_int (AS I q Mo)
  |str j=>obtain⟨t',rfl⟩:=ry;exact PySem.EqMixed.eq_int_str (AS I q A6)
  |_=>exact absurd (show false=true from hs) C6
 |str i =>
  obtain⟨t,rfl⟩:=rx;cases y with
  |non=>cases ry;exact PySem.EqNone.eq_str_none (AS I q A6)
  |bl j=>cases ry;exact PySem.EqMixed.eq_str_bool (AS I q A6)
  |int j=>obtain⟨t',rfl⟩:=ry;exact PySem.EqMixed.eq_str_int (AS I q A6)
  |str j=>obtain⟨t',rfl⟩:=ry;exact eq_str (AS I q SY)
  |_=>exact absurd (show false=true from hs) C6
 |byt i =>
  obtain⟨t,rfl⟩:=rx;cases y with
  |byt j=>obtain⟨t',rfl⟩:=ry;exact PySem.W.eq_bytes (AS I q SZ)
  |_=>exact absurd (show false=true from hs) C6
 |_=>cases y<;>exact absurd (show false=true from hs) C6
theorem GN:OpR X (compareOp .NotEq) rNe:=by
 intro pins s σ H x y v u Q I rx ry h;obtain⟨hs,q⟩:=h;cases x with
 |non =>
  cases rx;cases y with
  |non=>cases ry;exact PySem.EqNone.ne_none_none (AS I q A6)
  |bl j=>cases ry;exact PySem.EqNone.ne_none_bool (AS I q A6)
  |int j=>obtain⟨t',rfl⟩:=ry;exact PySem.EqNone.ne_none_int (AS I q A6)
  |str j=>obtain⟨t',rfl⟩:=ry;exact PySem.EqNone.ne_none_str (AS I q A6)
  |_=>exact absurd (show false=true from hs) C6
 |bl i =>
  cases rx;cases y with
  |non=>cases ry;exact PySem.EqNone.ne_bool_none (AS I q A6)
  |bl j=>cases ry;exact ne_bool (AS I q (W0 not Wl))
  |str j=>obtain⟨t',rfl⟩:=ry;exact PySem.EqMixed.ne_bool_str (AS I q A6)
  |_=>exact absurd (show false=true from hs) C6
 |int i =>
  obtain⟨t,rfl⟩:=rx;cases y with
  |non=>cases ry;exact PySem.EqNone.ne_int_none (AS I q A6)
  |int j=>obtain⟨t',rfl⟩:=ry;exact ne_int (AS I q (W0 not Mo))
  |str j=>obtain⟨t',rfl⟩:=ry;exact PySem.EqMixed.ne_int_str (AS I q A6)
  |_=>exact absurd (show false=true from hs) C6
 |str i =>
  obtain⟨t,rfl⟩:=rx;cases y with
  |non=>cases ry;exact PySem.EqNone.ne_str_none (AS I q A6)
  |bl j=>cases ry;exact PySem.EqMixed.ne_str_bool (AS I q A6)
  |int j=>obtain⟨t',rfl⟩:=ry;exact PySem.EqMixed.ne_str_int (AS I q A6)
  |str j=>obtain⟨t',rfl⟩:=ry;exact ne_str (AS I q (W0 not SY))
  |_=>exact absurd (show false=true from hs) C6
 |byt i =>
  obtain⟨t,rfl⟩:=rx;cases y with
  |byt j=>obtain⟨t',rfl⟩:=ry;exact PySem.W.ne_bytes (AS I q (W0 not SZ))
  |_=>exact absurd (show false=true from hs) C6
 |_=>cases y<;>exact absurd (show false=true from hs) C6
theorem GO:OpR X (compareOp .Lt) (rI0 λi j=>.bl (decide (i<j))):=opB0 λ_ _ _ _ _ _ _ q=>lt_int q
theorem JG:OpR X (compareOp .LtE) (rI0 λi j=>.bl (decide (i<=j))):=opB0 λ_ _ _ _ _ _ _ q=>le_int q
theorem Qv:OpR X (compareOp .Gt) (rI0 λi j=>.bl (decide (j<i))):=opB0 λ_ _ _ _ _ _ _ q=>gt_int q
theorem TC:OpR X (compareOp .In) (λx y H Q=>∃i j,x=.str i/\y=.str j/\Q (.bl (!(Builtin.Str.occurrences j i 0 j.length 1).isEmpty)) H):=by
 intro pins s σ H x y v u Q I rx ry h;obtain⟨i,j,rfl,rfl,q⟩:=h;obtain⟨t,rfl⟩:=rx;obtain⟨t',rfl⟩:=ry;exact in_str (AS I q rfl)
theorem Jk:OpR X (compareOp .Is) (λx y H Q=>y=.non/\Q (.bl (decide (x=.non))) H):=by
 intro pins s σ H x y v u Q I rx ry h;obtain⟨rfl,q⟩:=h;cases ry;refine is_none_gen (AS I q ?_);cases x<;>first
  | (cases rx;rfl)
  | (obtain⟨t,rfl⟩:=rx;rfl)
theorem Pd:OpR X (compareOp .IsNot) (λx y H Q=>y=.non/\Q (.bl (!decide (x=.non))) H):=by
 intro pins s σ H x y v u Q I rx ry h;obtain⟨rfl,q⟩:=h;cases ry;refine isnot_none_gen (AS I q ?_);cases x<;>first
  | (cases rx;rfl)
  | (obtain⟨t,rfl⟩:=rx;rfl)
theorem JF:OpR X (compareOp .NotIn) (λx y H Q=>∃i j,x=.str i/\y=.str j/\Q (.bl (!(!(Builtin.Str.occurrences j i 0 j.length 1).isEmpty))) H):=by
 intro pins s σ H x y v u Q I rx ry h;obtain⟨i,j,rfl,rfl,q⟩:=h;obtain⟨t,rfl⟩:=rx;obtain⟨t',rfl⟩:=ry;exact notIn_str (AS I q rfl)
theorem AC(b:Expr){op:CmpOp}(h:op≠.In:=by decide)(h2:op≠.NotIn:=by decide):behindInMarks op b=false:=by
 have e1:(op==CmpOp.In)=false:=by cases op<;>first|rfl|exact absurd rfl h
 have e2:(op==CmpOp.NotIn)=false:=by cases op<;>first|rfl|exact absurd rfl h2
 cases b<;>simp[behindInMarks,e1,e2]
theorem Ei{op:CmpOp}{r:R2}(ho:OpR X (compareOp op) r)(ha:PE X a ta)(hb:PE X b tb)(hm:behindInMarks op b=false):PE X (.Compare a [op] [b] pos) (tOp r ta tb):=by
 intro pins s σ H Q I h;exact wpAny_Compare1 (binT ha hb I h λv u s2 x y H2 I2 rx ry q=>ho pins s2 σ H2 x y v u Q I2 rx ry q) hm
def tTest(t:TE):TT:=fun σ H Q=>t σ H λx H'=>∃k,x=.bl k/\Q k H'
theorem Ax{op:CmpOp}{r:R2}(ho:OpR X (compareOp op) r)(ha:PE X a ta)(hb:PE X b tb)(hm:behindInMarks op b=false):PT X (.Compare a [op] [b] pos) (tTest (tOp r ta tb)):=by
 intro pins s σ H Q I h;refine wpAny_isTrue_Compare1 (thn (ha pins s σ H _ I h) λv s1 ⟨x,H1,I1,r1,q1⟩=>thn (hb pins s1 σ H1 _ I1 q1) λu s2 ⟨y,H2,I2,r2,q2⟩ =>
  thn (ho pins s2 σ H2 x y v u _ I2 r1 r2 q2) λc s3 ⟨z,H3,I3,r3,k,e,q3⟩=>?_) hm
 subst e;cases r3;exact Y5 ⟨H3,I3,q3⟩
def UG(r r':R2)(ta tb tc:TE):TE:=fun σ H Q=>ta σ H λx H1=>tb σ H1 λy H2=>r x y H2 λz H3=>∃k,z=.bl k /\
 (if k=true then tc σ H3 λw' H4=>r' y w' H4 Q else Q (.bl false) H3)
theorem Vh{op op':CmpOp}{r r':R2}(ho:OpR X (compareOp op) r)(ho':OpR X (compareOp op') r')(ha:PE X a ta)(hb:PE X b tb)(hc:PE X c tc)
  (hm:lastMarks [op,op'] [b,c]=false:=by with_unfolding_all rfl):PE X (.Compare a [op,op'] [b,c] pos) (UG r r' ta tb tc):=by
 intro pins s σ H Q I h;refine Compare_chain (thn (ha pins s σ H _ I h) λv s1 ⟨x,H1,I1,r1,q1⟩=>chain_link (thn (hb pins s1 σ H1 _ I1 q1) λu s2 ⟨y,H2,I2,r2,q2⟩ =>
  thn (ho pins s2 σ H2 x y v u _ I2 r1 r2 q2) λd s3 ⟨z,H3,I3,r3,k,e,q3⟩=>?_)) hm
 subst e;cases r3;refine Y5 ?_;cases k with
 |false=>exact ite_ff ⟨.bl false,H3,I3,rfl,q3⟩
 |true=>exact ite_tt (chain_last (thn (hc pins s3 σ H3 _ I3 q3) λw' s4 ⟨z',H4,I4,r4,q4⟩=>ho' pins s4 σ H4 y z' u w' Q I4 r2 r4 q4))
theorem Qq{op op':CmpOp}{r r':R2}(ho:OpR X (compareOp op) r)(ho':OpR X (compareOp op') r')(ha:PE X a ta)(hb:PE X b tb)(hc:PE X c tc)
  (hm:lastMarks [op,op'] [b,c]=false:=by with_unfolding_all rfl):PT X (.Compare a [op,op'] [b,c] pos) (tTest (UG r r' ta tb tc)):=by
 intro pins s σ H Q I h;refine isTrue_chain (thn (ha pins s σ H _ I h) λv s1 ⟨x,H1,I1,r1,q1⟩=>test_link (thn (hb pins s1 σ H1 _ I1 q1) λu s2 ⟨y,H2,I2,r2,q2⟩ =>
  thn (ho pins s2 σ H2 x y v u _ I2 r1 r2 q2) λd s3 ⟨z,H3,I3,r3,k,e,q3⟩=>?_)) hm
 subst e;cases r3;refine Y5 ?_;cases k with
 |false =>
  obtain⟨k',e',q'⟩:=q3;cases e';exact ite_ff ⟨H3,I3,q'⟩
 |true =>
  refine ite_tt (test_last (thn (hc pins s3 σ H3 _ I3 q3) λw' s4 ⟨z',H4,I4,r4,q4⟩=>thn (ho' pins s4 σ H4 y z' u w' _ I4 r2 r4 q4) λd' s5 ⟨z2,H5,I5,r5,k2,e2,q5⟩=>?_));subst e2;cases r5;exact Y5 ⟨H5,I5,q5⟩
theorem MW:(sizeLine:Nat)<2^63:=by rw[sizeLine_eq];decide
theorem Sm{x:V}{us:List Value}(r:AM [x] us):∃u,us=[u]/\AR x u:=by
 cases r with
 |cons r1 r2=>cases r2;exact⟨_,rfl,r1⟩
theorem vals2{x y:V}{us:List Value}(r:AM [x,y] us):∃u w',us=[u,w']/\AR x u/\AR y w':=by
 cases r with
 |cons r1 r2 =>
  cases r2 with
  |cons r3 r4=>cases r4;exact⟨_,_,rfl,r1,r3⟩
theorem Us(hc:X.calm=true):FS X (.builtin "min") (λxs H Q=>∃i j,xs=[.int i,.int j]/\Q (.int (if j<i then j else i)) H):=by
 intro pins s σ H xs us Q I r h;obtain⟨i,j,rfl,q⟩:=h;obtain⟨u,w',rfl,⟨t,rfl⟩,⟨t',rfl⟩⟩:=vals2 r;refine min_two_ints (I.ok.hd hc) λh' tk k=>⟨_,H,I.kept k,?_,q⟩
 by_cases hj:j<i
 ·rw[V2 hj,V2 hj];exact⟨_,rfl⟩
 ·rw[V0 hj,V0 hj];exact⟨_,rfl⟩
end
structure Sg(h:Heap)(x dx C:Addr)(mA:Str->Option Value):Prop where
 obj:h.get? x=some (instObj C dx)
 ns:h.Ns1 dx mA
 ne:dx≠x
theorem TY{h:Heap}{dx:Addr}{mA:Str->Option Value}(n:h.Ns1 dx mA):∃od,h.get? dx=some od/\∀name,lookIn name od=some (mA name):=by
 obtain⟨o,es,ep,ho,hd,hk,_,hm⟩:=n;refine⟨o,ho,λname=>?_⟩;have e:=hm name;unfold nsFind findBy at e;rw[<-Array.find?_toList]at e;unfold lookIn;rw[hd];dsimp only;split
 ·rename_i y q;rw[q]at e;exact W0 some e
 ·rename_i q;rw[q]at e;have a:es.toList.any (·.refKey)=false:=by
   rw[List.any_eq_false];intro y hy;obtain⟨z,t,hkey⟩:=hk y (Array.mem_toList_iff.mp hy);simp[DictEntry.refKey,hkey]
  have a':¬es.toList.any (·.refKey)=true:=by rw[a];exact C6
  rw[V0 a'];exact W0 some e
theorem Sg.look{h:Heap}{x dx C:Addr}{mA:Str->Option Value}(I:Sg h x dx C mA):∃od,PySem.W.InstAt h x (instObj C dx) C (some od)/\∀name,lookIn name od=some (mA name) :=
 let ⟨od,ho,hl⟩:=TY I.ns
 ⟨od,⟨I.obj,rfl,rfl,ho⟩,hl⟩
section
variable{prog:Program}{w:World}{A:Around}{E:Value->Shared->Prop}{s:Shared}{K:PySem.W.Frag}{x dx C f:Addr}{mA:Str->Option Value}{name:Str}{v:Value}
theorem get_map{expr:Bool}{Q:Value->Shared->Prop}(X:K.In s.heap)(I:Sg s.heap x dx C mA)(hg:plainGet K C name=true)(hh:hasDictIn K C=true)
  (ha:findIn K (.ref C) name=some none) (hv:mA name=some v) (hv':handedIn v=true) (h:Q v {s with toks:=s.toks+1}) :
  wpAny (model prog w) A (getAttr (.ref x) name expr) Q E s:=by
 obtain⟨od,J,hl⟩:=I.look;exact PySem.W.get_value X J (A0e hg).1 (PySem.W.findObj_own hh ha rfl (by rw[hl,hv])) hv' h
theorem VZ{pl:Sem Bool}{Q:Value×List Value->Shared->Prop}(X:K.In s.heap)(I:Sg s.heap x dx C mA)(hg:plainGet K C name=true)
  (hf:findIn K (.ref C) name=some (some (.ref f))) (ht:isFn K (.ref f)=true) (hv:mA name=none) (h:Q (.ref f,[.ref x]) s) :
  wpAny (model prog w) A (getMethod (.ref x) name pl) Q E s:=by
 obtain⟨od,J,hl⟩:=I.look;exact PySem.W.method_fn X J (A0e hg).1 (A0e hg).2 hf (beq_iff_eq.mp ht) (by show(lookIn name od).map (·.isSome)=some false;rw[hl,hv];rfl) h
theorem set_map{ns:List Str}{Q:Unit->Shared->Prop}(X:K.In s.heap)(I:Sg s.heap x dx C mA)
  (hs:findIn K (.ref C) "__setattr__" = some (some (.builtin "object.__setattr__"))) (hp:plainOver K C=true) (ht:takerIn K C name=some none) (hh:hasDictIn K C=true)
  (hw:PySem.Within mA ns) (hsz:ns.length<=sizeLine)
  (h:∀h',Sg h' x dx C (λy=>if y=name then some v else mA y)->Heap.SameBut dx s.heap h'->Q () {s with heap:=h',toks:=s.toks+2}) :
  wpAny (model prog w) A (setAttr (.ref x) name v) Q E s:=by
 obtain⟨od,J,hl⟩:=I.look;refine PySem.W.set_plain X J hs (PySem.W.osa_open (s:={s with toks:=s.toks+1}) (r:=none) X J hp ht λb=>?_)
 obtain⟨cd,hc,hd'⟩:=any_some hh;have hx:s.heap.get? x=some ⟨.ref C,some dx,.plain,#[]⟩:=I.obj;refine U9 (V9 (U9 (U9 (wpAny_loadPart hx (U9 (PySem.W.Looks.here (s:={s with toks:=s.toks+1}) (PySem.W.looks_clsIn X hc) ?_))))))
 rw[hd'];refine V9 (a:=some dx) (U9 (V9 (U9 ?_)));refine wpAny_nsSet1 (s:={s with toks:=s.toks+1}) I.ns λh' hn2 hs2=>?_;obtain⟨oD,esD,epD,hoD,hdD,hcD⟩:=hn2.count (PySem.Within.cons name v hw);refine U9 (wpAny_lookBehind hoD (by rw[hdD];exact pastItsLine_dict (C8 hcD (by rw[F0];lia))) ?_);exact V9 (h _ ⟨(hs2.2 _ (V5 I.ne)).trans I.obj,hn2,I.ne⟩ hs2)
theorem VL{R:Result->Shared->Prop}{vs:List Value}{kw:List (Str×Value)}(X:K.In s.heap)(hm:makesIn K C=true)
  (hi:findIn K (.ref C) "__init__" = some (some (.ref f))) (hf:PySem.W.typeIn K (.ref f)=some (.type "function"))
  (h:codeAny (model prog w) (A.under (.builtin "type.__call__" ⟨.ref C::vs,kw⟩)) (.call (.ref f) ⟨.ref (s.heap.objs.size+1)::vs,kw⟩) (PySem.W.InitBack (s.heap.objs.size+1) R)
   {s with heap:=(s.heap.push emptyDict).push (instObj C s.heap.objs.size)}) :
  codeAny (model prog w) A (.call (.ref C) ⟨vs,kw⟩) R s:=by
 obtain⟨hh,g,d,t,os⟩:=s;exact PySem.W.make_core (PySem.W.makes_of X hm) (PySem.W.looks_findIn X hi) (λself=>PySem.W.bind_fn X self hf) (.inl rfl) h
end
def AO(f:Str)(v:V):List (Str×V)->List (Str×V)
 |[]=>[(f,v)]
 | (g,x)::r=>if g=f then(g,v)::r else(g,x)::AO f v r
theorem Ai(f g:Str)(v:V):∀fs:List (Str×V),(AO f v fs).lookup g=if g=f then some v else fs.lookup g
 |[]=>by
  show List.lookup g [(f,v)]=_;by_cases h:g=f
  ·have hb:(g==f)=true:=beq_iff_eq.mpr h;simp only[List.lookup,hb,V2 h]
  ·have hb:(g==f)=false:=beq_eq_false_iff_ne.mpr h;simp only[List.lookup,hb,V0 h]
 | (k,x)::r=>by
  have ih:=Ai f g v r;rw[show AO f v ((k,x)::r)=(if k=f then(k,v)::r else(k,x)::AO f v r)from rfl];by_cases hk:k=f
  ·rw[V2 hk];by_cases h:g=k
   ·have hb:(g==k)=true:=beq_iff_eq.mpr h;simp only[List.lookup,hb,V2 (h.trans hk)]
   ·have hb:(g==k)=false:=beq_eq_false_iff_ne.mpr h;simp only[List.lookup,hb,V0 (λe:g=f=>h (e.trans hk.symm))]
  ·rw[V0 hk];by_cases h:g=k
   ·have hb:(g==k)=true:=beq_iff_eq.mpr h;simp only[List.lookup,hb,V0 (λe:g=f=>hk (h.symm.trans e))]
   ·have hb:(g==k)=false:=beq_eq_false_iff_ne.mpr h;simp only[List.lookup,hb];exact ih
theorem LG(f:Str)(v:V):∀fs:List (Str×V),f∈(AO f v fs).map (·.1)/\∀g,g∈fs.map (·.1)->g∈(AO f v fs).map (·.1)
 |[]=>⟨by simp[AO],λg h=>by simp at h⟩
 | (k,x)::r=>by
  obtain⟨i1,i2⟩:=LG f v r;rw[show AO f v ((k,x)::r)=(if k=f then(k,v)::r else(k,x)::AO f v r)from rfl];by_cases hk:k=f
  ·rw[V2 hk];subst hk;exact⟨by simp,λg h=>by simpa using h⟩
  ·rw[V0 hk];refine⟨?_,λg h=>?_⟩
   ·rw[L5];exact C1 _ i1
   ·rw[L5]at h⊢;rcases B8.mp h with e|e
    ·exact B8.mpr (.inl e)
    ·exact C1 _ (i2 g e)
theorem Bg(f:Str)(v:V):∀fs:List (Str×V),(AO f v fs).length<=fs.length+1
 |[]=>by simp[AO]
 | (k,x)::r=>by
  have ih:=Bg f v r;rw[show AO f v ((k,x)::r)=(if k=f then(k,v)::r else(k,x)::AO f v r)from rfl];by_cases hk:k=f
  ·rw[V2 hk,F0,F0];lia
  ·rw[V0 hk,F0,F0];lia
theorem GR.some_of{v:V}{o:Option Value}(r:GR (some v) o):∃u,o=some u/\AR v u:=by
 cases o with
 |none=>exact(show False from r).elim
 |some u=>exact⟨u,rfl,r⟩
theorem GR.none_of{o:Option Value}(r:GR none o):o=none:=by
 cases o with
 |none=>rfl
 |some u=>exact(show False from r).elim
theorem Ug{v:V}{u:Value}(r:AR v u):handedIn u=true:=by
 cases v with
 |non=>cases(show u=Value.none from r);rfl
 |bl b=>cases(show u=Value.bool b from r);rfl
 |int i=>obtain⟨t,e⟩:=(show ∃t,u=Value.int i t from r);cases e;rfl
 |str x=>obtain⟨t,e⟩:=(show ∃t,u=Value.str x t from r);cases e;rfl
 |byt b=>obtain⟨t,e⟩:=(show ∃t,u=Value.bytes b t from r);cases e;rfl
 |flt b=>obtain⟨t,e⟩:=(show ∃t,u=Value.float b t from r);cases e;rfl
 |ref a=>cases(show u=Value.ref a from r);rfl
 |ty n=>cases(show u=Value.type n from r);rfl
section
variable{P:Program}{w:World}{H H':Hp}{h h':Heap}{a C dx:Addr}{fs fs':List (Str×V)}
theorem Mm(hok:HOk P w H h)(e:H a=some (.ins C dx fs)):∃mA,Sg h a dx C mA/\(∀f,GR (fs.lookup f) (mA f))/\PySem.Within mA (fs.map (·.1))/\fs.length<=1000/\H dx=some (.own a):=by
 obtain⟨d,z,ne,ob,mA,n,r,q⟩:=(show Bz P w H h a (.ins C dx fs)from hok a _ e)
 exact⟨mA,⟨ob,n,ne⟩,r,q,z,d⟩
end
structure Cls(K:PySem.W.Frag)(C:Addr):Prop where
 pg:plainGet K C Str.empty=true
 hd:hasDictIn K C=true
 po:plainOver K C=true
 sa:findIn K (.ref C) "__setattr__" = some (some (.builtin "object.__setattr__"))
theorem Cls.get{K:PySem.W.Frag}{C:Addr}(c:Cls K C)(f:Str):plainGet K C f=true:=c.pg
def Bm(K:PySem.W.Frag)(C:Addr)(f:Str):Prop:=findIn K (.ref C) f=some none
theorem Bm.taker{K:PySem.W.Frag}{C:Addr}{f:Str}(n:Bm K C f):takerIn K C f=some none:=by
 unfold takerIn;rw[show findIn K (.ref C) f=some none from n];rfl
structure NP(K:PySem.W.Frag)(C:Addr)(m:Str)(f:Addr):Prop where
 at_:findIn K (.ref C) m=some (some (.ref f))
 fn:isFn K (.ref f)=true
 kp:keepIn K (.ref f)=true
section
variable{X:Cx}{pins:List (Addr×Obj)}{σ:St}{H:Hp}{s:Shared}{a C dx:Addr}{fs:List (Str×V)}{f:Str}{v:V}{A:Around}{E:Value->Shared->Prop}
theorem RT{b:Bool}{Q:Value->Shared->Prop}(I:Inv X pins σ H s)(e:H a=some (.ins C dx fs))(c:Cls X.K C)(n:Bm X.K C f)(l:fs.lookup f=some v)
  (h:∀u s',Inv X pins σ H s'->AR v u->Q u s'):wpAny (model X.prog X.w) A (getAttr (.ref a) f b) Q E s:=by
 obtain⟨mA,O,r,_,_,_⟩:=Mm I.hok e;obtain⟨u,hu,ru⟩:=GR.some_of (v:=v) (o:=mA f) (by rw[<-l];exact r f);exact get_map I.kIn O (c.get f) c.hd n hu (Ug ru) (h u _ (I.tok _) ru)
theorem RS{m:Str}{g:Addr}{pl:Sem Bool}{Q:Value×List Value->Shared->Prop}(I:Inv X pins σ H s)(e:H a=some (.ins C dx fs))(c:Cls X.K C)(k:NP X.K C m g)(l:fs.lookup m=none)
  (h:Q (.ref g,[.ref a]) s):wpAny (model X.prog X.w) A (getMethod (.ref a) m pl) Q E s:=by
 obtain⟨mA,O,r,_,_,_⟩:=Mm I.hok e;have hn:mA m=none:=GR.none_of (by rw[<-l];exact r m);exact VZ I.kIn O (c.get m) k.at_ k.fn hn h
theorem Rt{y:V}{u:Value}{Q:Unit->Shared->Prop}(I:Inv X pins σ H s)(e:H a=some (.ins C dx fs))(c:Cls X.K C)(n:Bm X.K C f)(hl:fs.length<1000)(ry:AR y u)
  (h:∀s',Inv X pins σ (upd H a (.ins C dx (AO f y fs))) s'->Q () s'):wpAny (model X.prog X.w) A (setAttr (.ref a) f u) Q E s:=by
 obtain⟨mA,O,r,wi,_,ho⟩:=Mm I.hok e;have hz:(fs.map (·.1)).length<=sizeLine:=by rw[B5,sizeLine_eq];lia
 refine set_map I.kIn O c.sa c.po n.taker c.hd wi hz λh' O' sb=>h _ ?_;have hd:∃o,h'.get? dx=some o:=let ⟨o,_,_,e',_⟩:=O'.ns;⟨o,e'⟩;refine I.write (x:=a) (e:=dx) (by rw[e];exact True.intro) (.inr ho) (λb q hb z=>(sb.2 b hb).trans z) hd ?_;refine⟨by rw[Ar O.ne];exact ho,?_,O.ne,O'.obj,_,O'.ns,λg=>?_,λg hg=>?_⟩
 ·have:=Bg f y fs;lia
 ·show GR ((AO f y fs).lookup g) (if g=f then some u else mA g);rw[Ai];by_cases q:g=f
  ·rw[V2 q,V2 q];exact ry
  ·rw[V0 q,V0 q];exact r g
 ·by_cases q:g=f
  ·rw[q];exact(LG f y fs).1
  ·refine(LG f y fs).2 g (wi g λz=>hg ?_);show(if g=f then some u else mA g)=none;rw[V0 q];exact z
theorem Inv.made(I:Inv X pins σ H s):Inv X pins σ (upd (upd H s.heap.objs.size (.own (s.heap.objs.size+1))) (s.heap.objs.size+1) (.ins C s.heap.objs.size []))
  {s with heap:=(s.heap.push emptyDict).push (instObj C s.heap.objs.size)}:=by
 have e1:(s.heap.push emptyDict).get? s.heap.objs.size=some emptyDict:=C7 s.heap rfl;have e2:((s.heap.push emptyDict).push (instObj C s.heap.objs.size)).get? (s.heap.objs.size+1)=some (instObj C s.heap.objs.size):=by
  have:=C7 (s.heap.push emptyDict) (o:=instObj C s.heap.objs.size) rfl
  rwa [O1]at this
 have e3:(s.heap.push emptyDict).Ns s.heap.objs.size (λ_=>none):=⟨emptyDict,#[],_,e1,rfl,(λe he=>absurd he A6),λ_=>rfl⟩
 have I1:=I.laid (a:=s.heap.objs.size) (o:=.own (s.heap.objs.size+1)) (h':=s.heap.push emptyDict) (t':=s.toks) (λb u q=>B7 _ q) (C0 _) ⟨_,e1⟩;refine I1.laid (a:=s.heap.objs.size+1) (o:=.ins C s.heap.objs.size []) (t':=s.toks) (λb u q=>B7 _ q) (Nat.le_of_eq (O1 _ _)) ?_;have ne:s.heap.objs.size≠s.heap.objs.size+1:=F1 (R1 _);refine⟨by rw[Ar ne,Af],F5 _,ne,e2,λ_=>none,(Heap.Ns1.of_empty e3).at λo q=>B7 _ q,λ_=>True.intro,λy hy=>absurd rfl hy⟩
theorem attr_of{prog:Program}{w:World}{env:Env}{e:Expr}{f:Str}{pos:Pos}{s:Shared}{Q:Value->Shared->Prop}(hb:attributeBase e f env (eval e env)=eval e env)
  (h:wpAny (model prog w) A (eval e env) (λo s₁=>wpAny (model prog w) A (getAttr o f true) Q E s₁) E s):wpAny (model prog w) A (eval (.Attribute e f pos) env) Q E s :=
 Attribute_any_ h (by rw[arm_eval_Attribute,hb])
end
def tFld(K:PySem.W.Frag)(ta:TE)(f:Str):TE:=fun σ H Q=>ta σ H λx H1=>∃a C dx fs v,x=.ref a/\H1 a=some (.ins C dx fs)/\Cls K C/\Bm K C f/\fs.lookup f=some v/\Q v H1
def sFld(K:PySem.W.Frag)(ta tv:TE)(f:Str):TS:=λD σ H=>tv σ H λy H1=>ta σ H1 λx H2=>∃a C dx fs,x=.ref a/\H2 a=some (.ins C dx fs)/\Cls K C/\Bm K C f/\fs.length<1000 /\
 D.nx σ (upd H2 a (.ins C dx (AO f y fs)))
section
variable{X:Cx}{o e value:Expr}{f:Str}{pos pos' tpos:Pos}{ta tv:TE}
theorem Az(he:PE X e ta)(hb:attributeBase e f X.env (eval e X.env)=eval e X.env):PE X (.Attribute e f pos) (tFld X.K ta f):=by
 intro pins s σ H Q I h;refine attr_of hb (thn (he pins s σ H _ I h) λu s1 ⟨x,H1,I1,rx,a,C,dx,fs,v,ex,ea,c,n,l,q⟩=>?_);subst ex;obtain rfl:u=Value.ref a:=rx;exact RT I1 ea c n l λu' s2 I2 ru=>⟨v,H1,I2,ru,q⟩
theorem Cc(ha:PE X o ta)(hv:PE X value tv)(hs:swapsWith value (some (.Attribute o f pos')) pos.line X.env=pure false):PS X (.Assign [.Attribute o f pos'] value pos) (sFld X.K ta tv f):=by
 intro pins s σ H D I h;refine plainObj_wpAny_Assign_Attribute (thn (hv pins s σ H _ I h) λu s1 ⟨y,H1,I1,ry,q⟩=>thn (ha pins s1 σ H1 _ I1 q) λov s2 ⟨x,H2,I2,rx,a,C,dx,fs,ex,ea,c,n,l,q2⟩=>?_) hs;subst ex;obtain rfl:ov=Value.ref a:=rx;exact Rt I2 ea c n l ry λs3 I3=>⟨σ,_,I3,q2⟩
end
section
variable{X:Cx}{pins:List (Addr×Obj)}{σ:St}{H:Hp}{s:Shared}{A:Around}{E:Value->Shared->Prop}{Q:Value->Shared->Prop}{c:Value}{b:Bool}
inductive LM(K:PySem.W.Frag)(H:Hp):V->Value->Prop where
 |non:LM K H .non (.type "NoneType")
 |bl (x:Bool):LM K H (.bl x) (.type "bool")
 |int (i:Int):LM K H (.int i) (.type "int")
 |str (x:Str):LM K H (.str x) (.type "str")
 |flt (x:UInt64):LM K H (.flt x) (.type "float")
 |lst {a:Addr} {xs:List V} (e:H a=some (.lst xs)):LM K H (.ref a) (.type "list")
 |frz {a:Addr} {o:Obj} {xs:List V} (e:H a=some (.frz o (.lst xs))):LM K H (.ref a) (.type "list")
 |tup {a:Addr} {xs:List V} (e:H a=some (.tup xs)):LM K H (.ref a) (.type "tuple")
 |dK {a:Addr} {kvs:List (Key×V)} (e:H a=some (.dK kvs)):LM K H (.ref a) (.type "dict")
 |dT {a:Addr} {kvs:List (List Key×V)} (e:H a=some (.dT kvs)):LM K H (.ref a) (.type "dict")
 |ins {a C dx:Addr} {fs:List (Str×V)} (e:H a=some (.ins C dx fs)) (cl:Cls K C) (ha:findIn K (.ref C) "__class__" = some (some (.builtin "object.__class__")))
   (hn:specialIn K (.builtin "object.__class__") "__get__" = some (some (.builtin "getset_descriptor.__get__"))) (htk:takesIn K (.builtin "object.__class__")=some true)
   (hm:mroIn K C (.type "object")=some true):LM K H (.ref a) (.ref C)
theorem Ud{x:V}{u t:Value}(I:Inv X pins σ H s)(rx:AR x u)(ty:LM X.K H x t)(e:kitOne X.K t c=some b)(h:∀tk,Q (.bool b) {s with toks:=tk}) :
  wpAny (model X.prog X.w) A (call (.builtin "isinstance") [u,c]) Q E s:=by
 cases ty with
 |non=>cases(show u=Value.none from rx);exact W9 PySem.W.kitx_none I.kIn True.intro e (λz=>nomatch z) h
 |bl y=>cases(show u=Value.bool y from rx);exact W9 PySem.W.kitx_bool I.kIn True.intro e (λz=>nomatch z) h
 |int i=>obtain⟨t,q⟩:=(show ∃t,u=Value.int i t from rx);cases q;exact W9 PySem.W.kitx_int I.kIn True.intro e (λz=>nomatch z) h
 |str y=>obtain⟨t,q⟩:=(show ∃t,u=Value.str y t from rx);cases q;exact W9 PySem.W.kitx_str I.kIn True.intro e (λz=>nomatch z) h
 |flt y=>obtain⟨t,q⟩:=(show ∃t,u=Value.float y t from rx);cases q;exact W9 PySem.W.kitx_float I.kIn True.intro e (λz=>nomatch z) h
 |@lst a xs ea =>
  cases(show u=Value.ref a from rx);obtain⟨_,_,n,_,h1⟩:=(show Bz X.prog X.w H s.heap a (.lst xs)from I.hok a _ ea)
  exact W9 kitx_list I.kIn ⟨_,h1,rfl⟩ e (λz=>nomatch z) h
 |@frz a ob xs ea =>
  cases(show u=Value.ref a from rx);obtain⟨_,_,_,n,_,h1⟩:=(show Bz X.prog X.w H s.heap a (.frz ob (.lst xs))from I.hok a _ ea)
  exact W9 kitx_list I.kIn ⟨_,h1,rfl⟩ e (λz=>nomatch z) h
 |@tup a xs ea =>
  cases(show u=Value.ref a from rx);obtain⟨_,_,_,p⟩:=(show Bz X.prog X.w H s.heap a (.tup xs)from I.hok a _ ea)
  obtain⟨o,h1,h2,_⟩:=p;exact W9 PySem.W.kitx_tuple I.kIn ⟨o,h1,h2⟩ e (λz=>nomatch z) h
 |@dK a kvs ea =>
  cases(show u=Value.ref a from rx);obtain⟨_,_,vs,_,p⟩:=(show Bz X.prog X.w H s.heap a (.dK kvs)from I.hok a _ ea)
  obtain⟨o,es,ep,h1,h2,_⟩:=p;exact W9 kitx_dict I.kIn ⟨o,h1,h2.1⟩ e (λz=>nomatch z) h
 |@dT a kvs ea =>
  cases(show u=Value.ref a from rx);obtain⟨_,_,xs,_,o,es,ep,h1,h2,_⟩:=(show Bz X.prog X.w H s.heap a (.dT kvs)from I.hok a _ ea)
  exact W9 kitx_dict I.kIn ⟨o,h1,h2.1⟩ e (λz=>nomatch z) h
 |@ins a C dx fs ea cl ha hn htk hm =>
  cases(show u=Value.ref a from rx);obtain⟨mA,O,_⟩:=Mm I.hok ea;obtain⟨od,J,_⟩:=O.look;exact W9 (PySem.W.kitx_own (cl.get _) cl.hd ha hn htk hm) I.kIn J e (λz=>nomatch z) h
end
structure CD(k:Nat)(A:Around):Prop where
 hd:A.handled=none
 dp:A.depth+3*k+5<recursionLimit
 un:A.units+16*k+200<cLine
theorem CD.mono{j k:Nat}{A:Around}(r:CD k A)(h:j<=k):CD j A:=⟨r.hd,by have:=r.dp;lia,by have:=r.un;lia⟩
theorem CD.deeper{k:Nat}{A:Around}(r:CD (k+1) A)(env:Env):CD k (A.deeper env) :=
 ⟨r.hd,by have:=r.dp;show A.depth+1+3*k+5<_;lia,by have:=r.un;show A.units+3+16*k+200<_;lia⟩
theorem RO{A:Around}{C:Addr}{us:List Value}{kw:List (Str×Value)}:(A.under (.builtin "type.__call__" ⟨.ref C::us,kw⟩)).depth=A.depth+1:=by
 first|rfl|simp[Around.under,Code.weight,Code.isCreation,Code.isGuard,Code.isCaller,Code.frames,Code.isFrame,guardIds]
theorem RN{A:Around}{C:Addr}{us:List Value}{kw:List (Str×Value)}:(A.under (.builtin "type.__call__" ⟨.ref C::us,kw⟩)).units=A.units+1:=by
 first|rfl|simp[Around.under,Code.cUnits,Code.frames,Code.isFrame]
theorem CD.make{k:Nat}{A:Around}(r:CD (k+1) A)(C:Addr)(us:List Value)(kw:List (Str×Value)):CD k (A.under (.builtin "type.__call__" ⟨.ref C::us,kw⟩)) :=
 ⟨r.hd,by have:=r.dp;rw[RO];lia,by have:=r.un;rw[RN];lia⟩
theorem CD.depth{k:Nat}{A:Around}(r:CD k A):A.depth<recursionLimit:=by have:=r.dp;lia
theorem CD.units{k:Nat}{A:Around}(r:CD k A):A.units+64<cLine:=by have:=r.un;lia
def OG:TA:=λ_ H Q=>Q [] H
def Cr(ta:TE)(tr:TA):TA:=fun σ H Q=>ta σ H λx H1=>tr σ H1 λxs H2=>Q (x::xs) H2
section
variable{X:Cx}{e:Expr}{es:List Expr}{te:TE}{t:TA}{pos:Pos}
theorem Ab:PA X [] OG:=λ_ _ _ _ H Q I h=>Calls.spliced_nil ⟨[],H,I,.nil,h⟩
theorem Aa(ha:PE X e te)(hr:PA X es t)(hs:starEach (e::es) X.env=(false,eval e X.env)::starEach es X.env:=by rfl):PA X (e::es) (Cr te t):=by
 intro pos pins s σ H Q I h;rw[hs];show wpAny _ _ (spliced ((false,eval e X.env)::backTo pos (starEach es X.env))) _ _ s;refine Calls.spliced_cons (thn (ha pins s σ H _ I h) λu s1 ⟨x,H1,I1,r1,q1⟩=>?_);exact thn (hr pos pins s1 σ H1 _ I1 q1) λus s2 ⟨xs,H2,I2,r2,q2⟩=>⟨x::xs,H2,I2,.cons r1 r2,q2⟩
def UE(t:TA):TE:=fun σ H Q=>t σ H λxs H1=>xs.length<=sizeLine/\∀p,H1 p=none->Q (.ref p) (upd H1 p (.tup xs))
def tLst(t:TA):TE:=fun σ H Q=>t σ H λxs H1=>xs.length<=sizeLine/\∀p,H1 p=none->Q (.ref p) (upd H1 p (.lst xs))
theorem BX{x1}(h:PA X es t):PE X (.Tuple es x1 pos) (UE t):=by
 intro pins s σ H Q I hq;refine wpAny_Tuple_spliced (thn (h pos pins s σ H _ I hq) λus s1 ⟨xs,H1,I1,r,z,q⟩=>⟨by rw[<-r.length];exact z,?_⟩);have hf:H1 s1.heap.objs.size=none:=I1.hok.fresh (C0 _);refine⟨.ref s1.heap.objs.size,upd H1 s1.heap.objs.size (.tup xs),I1.laid (t':=s1.toks) (λb u e=>B7 _ e) (C0 _) ?_,rfl,q _ hf⟩;exact⟨z,us,r,⟨_,C7 _ rfl,rfl,_,rfl⟩⟩
theorem CA(h:PA X es t):PE X (.List es pos) (tLst t):=by
 intro pins s σ H Q I hq;refine wpAny_List_spliced (thn (h pos pins s σ H _ I hq) λus s1 ⟨xs,H1,I1,r,z,q⟩=>⟨by rw[<-r.length];exact z,?_⟩);have hf:H1 s1.heap.objs.size=none:=I1.hok.fresh (C0 _);refine⟨.ref s1.heap.objs.size,upd H1 s1.heap.objs.size (.lst xs),I1.laid (t':=s1.toks) (λb u e=>B7 _ e) (C0 _) ?_,rfl,q _ hf⟩;exact⟨z,us,0,r,C7 _ rfl⟩
end
abbrev Sp:=List V->Hp->VK->XK->Prop
abbrev CXT:=List Env->Hp->Shared->XK->Value->Shared->Prop
structure Si(P:Program)(w:World)(K:PySem.W.Frag)(mg:Str->Option Value)(base:Heap)(A:Around)(outer:List Env)(s:Shared)(H:Hp):Prop where
 frames:A.frames=some outer
 mod:Mod K mg base
 bs:∀b o,base.get? b=some o->s.heap.get? b=some o/\H b=none
 bsz:base.objs.size<=s.heap.objs.size
 funs:s.heap.FunFrames base outer
 frf:∀b∈frs outer,H b=none
 hok:HOk P w H s.heap
 bare:AllBare s.gens
def CE(outer:List Env)(P:Program)(w:World)(H:Hp)(s:Shared)(Q:VK)(u:Value)(s':Shared):Prop :=
 ∃v H',s'.os=s.os/\AllBare s'.gens/\Un (frs outer) [] H H' s.heap s'.heap/\HOk P w H' s'.heap/\AR v u/\Q v H'
def CR(CX:CXT)(outer:List Env)(P:Program)(w:World)(H:Hp)(s:Shared)(Q:VK)(E:XK)(r:Result)(s':Shared):Prop :=
 match r with
 |.ok (.ret u)=>CE outer P w H s Q u s'
 |.ok _=>False
 |.error e=>CX outer H s E e s'
structure AJ(P:Program)(w:World)(K:PySem.W.Frag)(mg:Str->Option Value)(base:Heap)(CX:CXT)(k:Nat)(f:Addr)(fd:FuncData)(ps:List Str)(sp:Sp):Prop where
 len:∀vs H Q E,sp vs H Q E->vs.length=ps.length
 run:∀(A:Around)(outer:List Env)(s:Shared)(H:Hp)(args:Args)(us:List Value)(vs:List V)(Q:VK)(E:XK),CD k A->Si P w K mg base A outer s H->BindsTo s fd args (ps.zip us)->AM vs us->sp vs H Q E ->
  codeAny (model P w) A (.call (.ref f) args) (CR CX outer P w H s Q E) s
theorem AJ.imp{P:Program}{w:World}{K:PySem.W.Frag}{mg:Str->Option Value}{base:Heap}{CX:CXT}{k:Nat}{f:Addr}{fd:FuncData}{ps:List Str}{sp sp':Sp}(F:AJ P w K mg base CX k f fd ps sp)
  (h:∀vs H Q E,sp' vs H Q E->sp vs H Q E):AJ P w K mg base CX k f fd ps sp' :=
 ⟨λvs H Q E q=>F.len vs H Q E (h _ _ _ _ q),λA outer s H args us vs Q E hr he hb hv hs=>F.run A outer s H args us vs Q E hr he hb hv (h _ _ _ _ hs)⟩
theorem Si.make{P:Program}{w:World}{K:PySem.W.Frag}{mg:Str->Option Value}{base:Heap}{A:Around}{outer:List Env}{s:Shared}{H:Hp}(e:Si P w K mg base A outer s H)(C:Addr)(us:List Value)(kw:List (Str×Value)) :
  Si P w K mg base (A.under (.builtin "type.__call__" ⟨.ref C::us,kw⟩)) outer s H:=⟨by first|exact e.frames|(simpa[Around.under,Code.envs,Code.isFrame,pushEnvs] using e.frames),e.mod,e.bs,e.bsz,e.funs,e.frf,e.hok,e.bare⟩
section
variable{X:Cx}{pins:List (Addr×Obj)}{σ:St}{H:Hp}{s s':Shared}
theorem Inv.env0(I:Inv X pins σ H s):Si X.prog X.w X.K X.mg X.base X.A X.stack s H :=
 ⟨I.ok.frames,I.ok.mod,I.bs,C8 I.ok.bsz I.sz,I.stack,I.stkFree,I.hok,I.bare⟩
theorem Inv.after{Q:VK}{u:Value}(I:Inv X pins σ H s)(h:CE X.stack X.prog X.w H s Q u s'):EP X pins σ Q u s':=by
 obtain⟨v,H',os,bare,un,hok,r,q⟩:=h;obtain⟨hh,g,d,t,os'⟩:=s';obtain rfl:os'=s.os:=os;exact⟨v,H',I.call (h':=hh) (g':=g) (d':=d) (t':=t) (ch:=[]) un hok bare (λb z=>absurd z A6),r,q⟩
end
def tCall(sp:Sp)(dvs:List V)(E:XK)(t:TA):TE:=fun σ H Q=>t σ H λvs H1=>sp (vs++dvs) H1 Q E
def Sr(C:Addr)(m:Str)(sp:Sp)(dvs:List V)(E:XK)(ta:TE)(t:TA):TE:=fun σ H Q=>ta σ H λx H1=>∃a dx fs,x=.ref a/\H1 a=some (.ins C dx fs)/\fs.lookup m=none /\
 t σ H1 λvs H2=>sp (x::(vs++dvs)) H2 Q E
def Ss(C:Addr)(sp:Sp)(dvs:List V)(E:XK)(t:TA):TE:=fun σ H Q=>t σ H λvs H1=>∀x dx,H1 x=none->H1 dx=none->dx≠x ->
 sp (.ref x::(vs++dvs)) (upd (upd H1 dx (.own x)) x (.ins C dx [])) (λv H2=>v=.non/\Q (.ref x) H2) E
def Cu(K:PySem.W.Frag)(fd:FuncData)(ps:List Str)(ds:List Value):Prop :=
 ∀(s:Shared)(us:List Value),K.In s.heap->(us++ds).length=ps.length->BindsTo s fd ⟨us,[]⟩ (ps.zip (us++ds))
theorem Cu.all{K:PySem.W.Frag}{fd:FuncData}{ps:List Str}(h:∀us:List Value,us.length=ps.length->bindArgs fd ⟨us,[]⟩=pure (ps.zip us)):Cu K fd ps []:=λs us _ hl=>by
 rw[List.append_nil]at hl⊢;exact .of_eq (h us hl)
def Eb(CX:CXT)(X:Cx)(E:XK):Prop:=∀(pins:List (Addr×Obj))(σ:St)(H:Hp)(s:Shared)(e:Value)(s':Shared),Inv X pins σ H s->CX X.stack H s E e s'->X.xe e s'
section
variable{X:Cx}{CX:CXT}{k:Nat}{f C:Addr}{fd:FuncData}{ps:List Str}{sp:Sp}{dvs:List V}{ds:List Value}{E:XK}{x m:Str}{p pos apos:Pos}{e o:Expr}{es:List Expr}{ta:TE}{t:TA}
theorem Vc{pins:List (Addr×Obj)}{σ:St}{H:Hp}{s:Shared}{Q:VK}{us:List Value}{vs:List V}(F:AJ X.prog X.w X.K X.mg X.base CX k f fd ps sp)(hr:CD k X.A)(hb:Cu X.K fd ps ds)(hd:AM dvs ds)(hx:Eb CX X E)
  (I:Inv X pins σ H s) (r:AM vs us) (h:sp (vs++dvs) H Q E):wpAny (model X.prog X.w) X.A (call (.ref f) us) (EP X pins σ Q) X.xe s:=by
 have r2:AM (vs++dvs) (us++ds):=r.append hd;have hl:(us++ds).length=ps.length:=by rw[<-r2.length];exact F.len _ _ _ _ h
 refine wpAny_call (A0f (F.run X.A X.stack s H ⟨us,[]⟩ (us++ds) (vs++dvs) Q E hr I.env0 (hb s us I.kIn hl) r2 h) λr s' hq=>?_);cases r with
 |error e=>exact hx pins σ H s e s' I hq
 |ok fl =>
  cases fl with
  |ret u=>exact I.after hq
  |next=>exact False.elim hq
  |brk=>exact False.elim hq
  |cont=>exact False.elim hq
theorem pe_call(F:AJ X.prog X.w X.K X.mg X.base CX k f fd ps sp)(hr:CD k X.A)(hg:Gl X x)(hm:X.mg x=some (.ref f))(hk:keepIn X.K (.ref f)=true)(hb:Cu X.K fd ps ds)(hd:AM dvs ds)(hx:Eb CX X E)
  (ha:PA X (e::es) t) (hdb:(x==("__debug__" : Str))=false:=by decide) (he:starEach (e::es) X.env=(false,eval e X.env)::starEach es X.env:=by rfl) (hpl:(backTo pos (starEach es X.env)).any (·.1)=false:=by rfl) :
  PE X (.Call (.Name x p) (e::es) [] pos) (tCall sp dvs E t):=by
 intro pins s σ H Q I h;refine Z4 (Em I hg hm ?_ hdb);refine X7 (h₀:=X.base) I.ok.mod.kin hk (thn (ha pos pins s σ H _ I h) λus s1 ⟨vs,H1,I1,r,q⟩=>⟨I1.kIn,?_⟩) he hpl;exact Vc F hr hb hd hx I1 r q
theorem pe_meth{pl:Sem Bool}(he:PE X o ta)(c:Cls X.K C)(hm:NP X.K C m f)(F:AJ X.prog X.w X.K X.mg X.base CX k f fd ps sp)(hr:CD k X.A)(hb:Cu X.K fd ps ds)(hd:AM dvs ds)(hx:Eb CX X E)(ha:PA X (e::es) t)
  (hst:starEach (e::es) X.env=(false,eval e X.env)::starEach es X.env:=by rfl) (hpl:(backTo pos (starEach es X.env)).any (·.1)=false:=by rfl)
  (ht:eval (.Call (.Attribute o m apos) (e::es) [] pos) X.env=(do
   let ov <-eval o X.env
   standAt apos.atName
   let (f,first) <-holding [ov] (getMethod ov m pl)
   callWith pos f first (backTo pos (starEach (e::es) X.env)) (backToKw pos (keywordEach [] X.env))):=by rfl) :
  PE X (.Call (.Attribute o m apos) (e::es) [] pos) (Sr C m sp dvs E ta t):=by
 intro pins s σ H Q I h;refine PySem.W.methodCall_KW (pl:=pl) (thn (he pins s σ H _ I h) λu s1 ⟨x,H1,I1,rx,a,dx,fs,ex,ea,l,q⟩=>?_) ht;subst ex;obtain rfl:u=Value.ref a:=rx;refine RS I1 ea c hm l ?_;refine X7 (first:=[.ref a]) (h₀:=X.base) I.ok.mod.kin hm.kp (thn (ha pos pins s1 σ H1 _ I1 q) λus s2 ⟨vs,H2,I2,r,q2⟩=>⟨I2.kIn,?_⟩) hst hpl;exact Vc (us:=.ref a::us) (vs:=.ref a::vs) F hr hb hd hx I2 (.cons rfl r) q2
structure Mk(K:PySem.W.Frag)(C f:Addr):Prop where
 makes:makesIn K C=true
 init:findIn K (.ref C) "__init__" = some (some (.ref f))
 fn:isFn K (.ref f)=true
 kp:keepIn K (.ref C)=true
theorem Ql{pins:List (Addr×Obj)}{σ:St}{H:Hp}{s:Shared}{Q:VK}{us:List Value}{vs:List V}(M:Mk X.K C f)(F:AJ X.prog X.w X.K X.mg X.base CX k f fd ps sp)(hr:CD (k+1) X.A)(hb:Cu X.K fd ps ds)(hd:AM dvs ds)
  (hx:Eb CX X E) (I:Inv X pins σ H s) (r:AM vs us)
  (h:∀x dx,H x=none->H dx=none->dx≠x->sp (.ref x::(vs++dvs)) (upd (upd H dx (.own x)) x (.ins C dx [])) (λv H2=>v=.non/\Q (.ref x) H2) E) :
  wpAny (model X.prog X.w) X.A (call (.ref C) us) (EP X pins σ Q) X.xe s:=by
 have hq:=h (s.heap.objs.size+1) s.heap.objs.size (I.hok.fresh (T8 _)) (I.hok.fresh (C0 _)) (F1 (R1 _));have I2:=Inv.made (C:=C) I;have r2:AM (V.ref (s.heap.objs.size+1)::(vs++dvs)) (Value.ref (s.heap.objs.size+1)::(us++ds)):=.cons rfl (r.append hd);have hl:(Value.ref (s.heap.objs.size+1)::us++ds).length=ps.length:=by
  have e:=r2.length;rw[F.len _ _ _ _ hq]at e;exact e.symm
 refine wpAny_call (VL (f:=f) I.kIn M.makes M.init (beq_iff_eq.mp M.fn) (A0f (F.run _ X.stack _ _ ⟨Value.ref (s.heap.objs.size+1)::us,[]⟩ (Value.ref (s.heap.objs.size+1)::(us++ds)) _ _ E (hr.make C us [])
  (I2.env0.make C us []) (hb _ (Value.ref (s.heap.objs.size+1)::us) I2.kIn hl) r2 hq) λr s' hq'=>?_))
 cases r with
 |error e=>exact hx pins σ _ _ e s' I2 hq'
 |ok fl =>
  cases fl with
  |ret u =>
   obtain⟨v,H',I3,rv,ev,q3⟩:=I2.after hq';subst ev;exact⟨rv,⟨V.ref (s.heap.objs.size+1),H',I3,rfl,q3⟩⟩
  |next=>exact False.elim hq'
  |brk=>exact False.elim hq'
  |cont=>exact False.elim hq'
theorem pe_make(M:Mk X.K C f)(F:AJ X.prog X.w X.K X.mg X.base CX k f fd ps sp)(hr:CD (k+1) X.A)(hg:Gl X x)(hm:X.mg x=some (.ref C))(hb:Cu X.K fd ps ds)(hd:AM dvs ds)(hx:Eb CX X E)
  (ha:PA X (e::es) t) (hdb:(x==("__debug__" : Str))=false:=by decide) (he:starEach (e::es) X.env=(false,eval e X.env)::starEach es X.env:=by rfl) (hpl:(backTo pos (starEach es X.env)).any (·.1)=false:=by rfl) :
  PE X (.Call (.Name x p) (e::es) [] pos) (Ss C sp dvs E t):=by
 intro pins s σ H Q I h;refine Z4 (Em I hg hm ?_ hdb);refine X7 (h₀:=X.base) I.ok.mod.kin M.kp (thn (ha pos pins s σ H _ I h) λus s1 ⟨vs,H1,I1,r,q⟩=>⟨I1.kIn,?_⟩) he hpl;exact Ql M F hr hb hd hx I1 r q
theorem Vg(M:Mk X.K C f)(F:AJ X.prog X.w X.K X.mg X.base CX k f fd ps sp)(hr:CD (k+1) X.A)(hg:Gl X x)(hm:X.mg x=some (.ref C))(hb:Cu X.K fd ps ds)(hd:AM dvs ds)(hx:Eb CX X E)
  (hdb:(x==("__debug__" : Str))=false:=by decide):PE X (.Call (.Name x p) [] [] pos) (Ss C sp dvs E OG):=by
 intro pins s σ H Q I h;refine Z4 (Em I hg hm ?_ hdb);exact PySem.W.callWith_K0 I.kIn M.kp (Ql (us:=[]) M F hr hb hd hx I .nil h)
end
section
variable{X:Cx}{CX:CXT}{k:Nat}{f C:Addr}{fd:FuncData}{ps ks:List Str}{sp:Sp}{E:XK}{x m:Str}{p pos apos kpos:Pos}{e o:Expr}{es:List Expr}{kws:List Keyword}{te ta:TE}{t tk:TA}{nm:Option Str}
variable{g:List Value->List Value->List Value}{gV:List V->List V->List V}
end
structure Au(N P:List Str)(sc:Scope):Prop where
 kind:sc.kind=.function
 co:sc.isCoroutine=false
 gen:sc.isGenerator=false
 nd:N.Nodup
 pre:N.take P.length=P
 par:∀x∈P,sc.names.lookup x=some .local\/sc.names.lookup x=some .cell
 nofree:∀y∈sc.names,y.2≠.free
theorem Ow{kindOf:Str->Option NameKind}{x:Str}:∀{binds:List (Str×Value)}{m:Str->Option Value},(∀v,(x,v)∉binds)->bindL kindOf binds m x=m x
 |[],_,_=>rfl
 | (n,v)::r,m,h=>by
  unfold bindL;rw[Ow λw hw=>h w (C1 _ hw)];split
  ·have:x≠n:=by rintro rfl;exact h v C3
   simp[this]
  ·rfl
theorem Oy{kindOf:Str->Option NameKind}{x:Str}:∀{binds:List (Str×Value)}{m:Str->Option Value},(∀v,(x,v)∉binds)->bindC kindOf binds m x=m x
 |[],_,_=>rfl
 | (n,v)::r,m,h=>by
  unfold bindC;rw[Oy λw hw=>h w (C1 _ hw)];split
  ·rfl
  ·have:x≠n:=by rintro rfl;exact h v C3
   simp[this]
theorem Ox{kindOf:Str->Option NameKind}{x:Str}{v:Value}:∀{P:List Str}{vs:List Value}{i:Nat}{m:Str->Option Value},P.Nodup->P[i]?=some x->vs[i]?=some v->kindOf x=some .local ->
  bindL kindOf (P.zip vs) m x=some v
 |[],_,_,_,_,h,_,_=>by simp at h
 |_::_,[],_,_,_,_,h,_=>by simp at h
 |p::P,w::vs,0,m,nd,h1,h2,hk=>by
  simp at h1 h2;subst h1;subst h2;show bindL kindOf ((p,w)::P.zip vs) m p=_;unfold bindL;rw[Ow λv hv=>(M8.mp nd).1 (List.of_mem_zip hv).1,V2 hk];simp
 |p::P,w::vs,i+1,m,nd,h1,h2,hk=>by
  show bindL kindOf ((p,w)::P.zip vs) m x=_;unfold bindL;exact Ox (i:=i) (M8.mp nd).2 (by simpa using h1) (by simpa using h2) hk
theorem Oz{kindOf:Str->Option NameKind}{x:Str}{v:Value}:∀{P:List Str}{vs:List Value}{i:Nat}{m:Str->Option Value},P.Nodup->P[i]?=some x->vs[i]?=some v->kindOf x≠some .local ->
  bindC kindOf (P.zip vs) m x=some v
 |[],_,_,_,_,h,_,_=>by simp at h
 |_::_,[],_,_,_,_,h,_=>by simp at h
 |p::P,w::vs,0,m,nd,h1,h2,hk=>by
  simp at h1 h2;subst h1;subst h2;show bindC kindOf ((p,w)::P.zip vs) m p=_;unfold bindC;rw[Oy λv hv=>(M8.mp nd).1 (List.of_mem_zip hv).1,V0 hk];simp
 |p::P,w::vs,i+1,m,nd,h1,h2,hk=>by
  show bindC kindOf ((p,w)::P.zip vs) m x=_;unfold bindC;exact Oz (i:=i) (M8.mp nd).2 (by simpa using h1) (by simpa using h2) hk
def Jq(N:List Str)(vs:List V):St:=vs.map some++List.replicate (N.length-vs.length) none
def JT(CX:CXT)(P:Program)(w:World)(K:PySem.W.Frag)(mg:Str->Option Value)(base:Heap)(N:List Str)(qual:Str)(scope:Scope)(f:Addr)(cd:Value)(A:Around)(outer:List Env)(s:Shared)(H:Hp)(E:XK):Cx where
 prog:=P
 w:=w
 K:=K
 mg:=mg
 base:=base
 A:=A.deeper (envOfC qual scope s.heap.objs.size f cd)
 N:=N
 s₀:=s
 H₀:=H
 env:=envOfC qual scope s.heap.objs.size f cd
 outer:=outer
 stack:=envOfC qual scope s.heap.objs.size f cd::outer
 ex:=[]
 calm:=true
 fn:=λ_=>true
 pn:=[]
 xe:=λe s'=>wpAny (model P w) (A.deeper (envOfC qual scope s.heap.objs.size f cd)) (leaving (envOfC qual scope s.heap.objs.size f cd) e) (λ_ s''=>CX outer H s E e s'') (λe' s''=>CX outer H s E e' s'') s'
theorem QX{sc:Scope}{n:Nat}{x:Str}(h:sc.names.lookup x=some .cell):∃c,(cellsFrom n sc.names []).lookup x=some c:=by
 have q:=PySem.W.cellsFrom_some sc.names n [] (.inl h);exact Option.isSome_iff_exists.mp q
theorem Ue{CX:CXT}{P:Program}{w:World}{K:PySem.W.Frag}{mg:Str->Option Value}{base:Heap}{N ps:List Str}{qual:Str}{scope:Scope}{f:Addr}{cd:Value}{A:Around}{outer:List Env}{s s1:Shared}{H:Hp}{E:XK}{us:List Value}{vs:List V}
  (S:Au N ps scope) (hd:A.handled=none) (e0:Si P w K mg base A outer s H) (hl:vs.length=ps.length) (r:AM vs us)
  (x:InCallC s s.heap.objs.size (bindL (envOfC qual scope s.heap.objs.size f cd).kindOf (ps.zip us) λ_=>none) (cellsFrom (s.heap.objs.size+1) scope.names []) (bindC (envOfC qual scope s.heap.objs.size f cd).kindOf (ps.zip us) λ_=>none) s1) :
  Inv (JT CX P w K mg base N qual scope f cd A outer s H E) [] (Jq N vs) H s1:=by
 have hpl:ps.length<=N.length:=by have:=W0 List.length S.pre;rw[J9]at this;lia
 obtain⟨h1,tk,rfl,hk⟩:=x.done;have noA:∀b:Addr,b∉(JT CX P w K mg base N qual scope f cd A outer s H E).ex:=λb z=>absurd (show b∈([]:List Addr)from z) A6;refine⟨⟨e0.mod,S.kind,rfl,rfl,C0 _,λy z c h1 h2=>?_,λy hy=>?_,λy c _ h=>?_,λ_=>hd,Around.frames_deeper e0.frames,.inr ⟨rfl,rfl⟩,λb z=>absurd z (noA b),e0.bs,e0.bsz,λb _ _=>noA b,λb z=>absurd z (noA b),e0.funs,e0.frf⟩,
  rfl,e0.bare,Un.kept hk,⟨_,x.toInCall.ns,λi y v h1 h2 h3=>?_⟩,λy c h=>⟨_,x.cell y c h⟩,e0.hok.fresh (C0 _),λy c h=>?_,λp hp=>absurd (show p∈([]:List (Addr×Obj))from hp) A6,e0.hok.kept hk,?_⟩
 ·exact name_of_addr x.apart (Y9 h1) (Y9 h2)
 ·have hy:scope.names.lookup y=some .cell\/scope.names.lookup y=some .free:=hy;rcases hy with hy|hy
  ·exact QX hy
  ·exact absurd rfl (S.nofree _ (Y9 hy))
 ·exact Nat.le_of_lt (x.above y c (Y9 h))
 ·have hi:i<vs.length:=by
   unfold Jq at h2;by_cases hi:i<vs.length
   ·exact hi
   ·rw[F3 (by simpa using hi)]at h2;rw[S6]at h2;split at h2<;>cases h2
  have ha:vs[i]?=some v:=by
   unfold Jq at h2;rw[L8 (by simpa using hi),B9]at h2;cases e:vs[i]? with
   |none=>rw[e]at h2;cases h2
   |some a=>rw[e]at h2;cases h2;rfl
  obtain⟨u,hu,rv⟩:=r.get ha;have hp:ps[i]?=some y:=by
   rw[<-S.pre,S1 A1];exact h1
  have ndP:ps.Nodup:=by rw[<-S.pre];exact S.nd.sublist (List.take_sublist _ _)
  refine⟨u,rv,?_⟩;rcases S.par y (D4 hp)with k|k
  ·exact .inl ⟨k,Ox ndP hp hu k⟩
  ·obtain⟨c,e⟩:=QX (n:=s.heap.objs.size+1) k;refine .inr ⟨.inl k,c,e,?_⟩;have q:=x.cell y c e;rw[Oz ndP hp hu (by show scope.names.lookup y≠_;rw[k];decide)]at q;exact q
 ·exact e0.hok.fresh (Nat.le_of_lt (x.above y c (Y9 h)))
 ·unfold Jq;show _=N.length;rw[C5,B5,O2];lia
theorem fn_of{CX:CXT}{P:Program}{w:World}{K:PySem.W.Frag}{mg:Str->Option Value}{base:Heap}{k:Nat}{f:Addr}{name qual:Str}{params:Arguments}{body:List Stmt}{scope:Scope}{dV kV doc pm cdv ct oc:Value}{an od:Option Addr}
  {osl:Array (Option Value)} {N ps:List Str} {sp:Sp} (lk:K.lookup f=some ⟨oc,od,.func (PySem.W.fnOf name qual params body scope dV kV doc pm an cdv ct),osl⟩) (hcd:PySem.W.codeIn K cdv qual=true) (S:Au N ps scope)
  (len:∀vs H Q E,sp vs H Q E->vs.length=ps.length)
  (hbody:∀(A:Around)(outer:List Env)(s:Shared)(H:Hp)(vs:List V)(Q:VK)(E:XK),CD k (A.deeper (envOfC qual scope s.heap.objs.size f cdv))->sp vs H Q E ->
   ∃t,PSs (JT CX P w K mg base N qual scope f cdv A outer s H E) body t/\t {nx:=λ_ H'=>Q .non H',rt:=Q} (Jq N vs) H) :
  AJ P w K mg base CX (k+1) f (PySem.W.fnOf name qual params body scope dV kV doc pm an cdv ct) ps sp:=by
 refine⟨len,λA outer s H args us vs Q E hr e0 hb r hsp=>?_⟩;have hl:=len _ _ _ _ hsp;have KX:K.In s.heap:=e0.mod.kin.keeps λb o e=>(e0.bs b o e).1;have lim:s.heap.NoLimit:=e0.mod.nolimit.keeps λb o e=>(e0.bs b o e).1;have hkind:∀y∈ps.zip us,scope.names.lookup y.1=some .local\/(scope.names.lookup y.1=some .cell/\((cellsFrom (s.heap.objs.size+1) scope.names []).lookup y.1).isSome=true):=λ⟨n,v⟩ hy=>by
  rcases S.par n (List.of_mem_zip hy).1 with q|q
  ·exact .inl q
  ·exact .inr ⟨q,PySem.W.cellsFrom_some _ _ _ (.inl q)⟩
 refine codeAny_call_function hr.depth (KX _ _ lk) rfl S.co S.gen rfl (PySem.W.codeRec_of KX hcd) (hb _ _ _ _ ?_);refine wpAny_newFunctionEnv_cells S.kind hkind λenv he s1 x=>?_;subst he;refine⟨lim.keeps x.toInCall.keep,codeAny_func ?_⟩;obtain⟨t,ht,hq⟩:=hbody A outer s H vs Q E (hr.deeper _) hsp;have I:Inv (JT CX P w K mg base N qual scope f cdv A outer s H E) [] (Jq N vs) H s1:=Ue S hr.hd e0 hl r x;refine Y4 (ht [] s1 (Jq N vs) H _ I hq) (λfl s' hs=>?_) λe s' hs=>hs;have fin:∀{σ':St}{H':Hp}{v:V}{u:Value},Inv (JT CX P w K mg base N qual scope f cdv A outer s H E) [] σ' H' s'->AR v u->Q v H'->CE outer P w H s Q u s' :=
  λ{σ' H' v u} J rv q=>⟨v,H',J.os,J.bare,J.base,J.hok,rv,q⟩
 cases fl with
 |ret u =>
  obtain⟨v,σ',H',J,rv,q⟩:=hs;exact fin J rv q
 |next =>
  obtain⟨σ',H',J,q⟩:=hs;exact fin (v:=V.non) (u:=Value.none) J rfl q
 |brk =>
  obtain⟨_,_,_,q⟩:=hs;exact False.elim q
 |cont =>
  obtain⟨_,_,_,q⟩:=hs;exact False.elim q
section
variable{X:Cx}{x:Str}{p pos:Pos}{e:Expr}{es:List Expr}{t:TA}{id T:String}{r:List V->Hp->VK->Prop}
def tCB(r:List V->Hp->VK->Prop)(t:TA):TE:=fun σ H Q=>t σ H λvs H1=>r vs H1 Q
theorem AL(hc:FS X (.builtin id) r)(hg:Gl X x)(hm:X.mg x=none)(hv:bootBuiltins x=some (.builtin id))(ha:PA X (e::es) t)(hn:x≠"__name__" := by decide)(hdb:(x==("__debug__" : Str))=false:=by decide)
  (he:starEach (e::es) X.env=(false,eval e X.env)::starEach es X.env:=by rfl) (hpl:(backTo pos (starEach es X.env)).any (·.1)=false:=by rfl):PE X (.Call (.Name x p) (e::es) [] pos) (tCB r t):=by
 intro pins s σ H Q I h;refine Z4 (Jm I hg hm hv ?_ hn hdb);exact PyProof.Rows.callWith_builtin1 (thn (ha pos pins s σ H _ I h) λus s1 ⟨vs,H1,I1,r1,q1⟩=>hc pins s1 σ H1 vs us Q I1 r1 q1) he hpl
theorem BY(hc:FS X (.type T) r)(hg:Gl X x)(hm:X.mg x=none)(hv:bootBuiltins x=some (.type T))(ha:PA X (e::es) t)(hn:x≠"__name__" := by decide)(hdb:(x==("__debug__" : Str))=false:=by decide)
  (he:starEach (e::es) X.env=(false,eval e X.env)::starEach es X.env:=by rfl) (hpl:(backTo pos (starEach es X.env)).any (·.1)=false:=by rfl):PE X (.Call (.Name x p) (e::es) [] pos) (tCB r t):=by
 intro pins s σ H Q I h;refine Z4 (Jm I hg hm hv ?_ hn hdb);exact Z0 (thn (ha pos pins s σ H _ I h) λus s1 ⟨vs,H1,I1,r1,q1⟩=>hc pins s1 σ H1 vs us Q I1 r1 q1) he hpl
end
end L2
namespace HT
open PySem PyProof.Rows
section
open PySem.SeqAt
open PySem.AutoSeq1 (wpAny_loadPart')
open PySem.MeetsSeq PySem.MeetsSeq2 PySem.MeetsSeq3
end
section
variable{prog:Program}{w:World}{A:Around}{E:Value->Shared->Prop}{s:Shared}
def sIx(n d:Nat):Option Int->Nat
 |none=>d
 |some v=>if v<0 then(v+(n:Int)).toNat else min v.toNat n
end
end HT
namespace L2
open PySem PySem.Spec PyProof.Rows
abbrev TO:=St->Hp->(Option Int->Hp->Prop)->Prop
def PO(X:Cx)(e:Option Expr)(t:TO):Prop :=
 ∀(pins:List (Addr×Obj))(s:Shared)(σ:St)(H:Hp)(Q:Option Int->Hp->Prop),Inv X pins σ H s->t σ H Q ->
  wpAny (model X.prog X.w) X.A (evalPart e X.env) (λu s'=>∃o H',Inv X pins σ H' s'/\IsPart u o/\Q o H') X.xe s
def tNoPart:TO:=λ_ H Q=>Q none H
def tPart(t:TE):TO:=fun σ H Q=>t σ H λx H1=>∃i,x=.int i/\Q (some i) H1
section
variable{X:Cx}{e:Expr}{te:TE}{lo hi:Option Expr}{tl th:TO}{pos p2:Pos}
theorem po_none:PO X none tNoPart:=by
 intro pins s σ H Q I h;rw[evalPart_none];exact V9 ⟨none,H,I,.none,h⟩
theorem OX(h:PE X e te):PO X (some e) (tPart te):=by
 intro pins s σ H Q I hw;rw[evalPart_some];refine thn (h pins s σ H _ I hw) λu s1 ⟨x,H1,I1,r1,q1⟩=>?_;obtain⟨i,rfl,q⟩:=q1;obtain⟨t,rfl⟩:=r1;exact⟨some i,H1,I1,.int i t,q⟩
def SlR(X:Cx)(r:V->Option Int->Option Int->Hp->VK->Prop):Prop :=
 ∀(pins:List (Addr×Obj))(s:Shared)(σ:St)(H:Hp)(x:V)(v vl vu:Value)(lo hi:Option Int)(sl:Addr)(Q:VK),Inv X pins σ H s->AR x v->s.heap.IsSliceOf sl vl vu .none->IsPart vl lo->IsPart vu hi->r x lo hi H Q ->
  ∃T id,typeLookup (.type T) "__getitem__" = pure (some (.builtin id))/\s.TypeIs v T/\wpAny (model X.prog X.w) X.A (getItem v (.ref sl)) (EP X pins σ Q) X.xe s
def tSl(r:V->Option Int->Option Int->Hp->VK->Prop)(te:TE)(tl th:TO):TE:=fun σ H Q=>te σ H λx H1=>tl σ H1 λl H2=>th σ H2 λu H3=>r x l u H3 Q
theorem Qt{r:V->Option Int->Option Int->Hp->VK->Prop}(hr:SlR X r)(he:PE X e te)(hl:PO X lo tl)(hu:PO X hi th):PE X (.Subscript e (.Slice lo hi none p2) pos) (tSl r te tl th):=by
 intro pins s σ H Q I h;refine Subscript_ (thn (he pins s σ H _ I h) λv s1 ⟨x,H1,I1,r1,q1⟩=>?_);refine wpAny_Slice (thn (hl pins s1 σ H1 _ I1 q1) λvl s2 ⟨l,H2,I2,pl,q2⟩=>thn (hu pins s2 σ H2 _ I2 q2) λvu s3 ⟨u,H3,I3,pu,q3⟩=>?_);rw[evalPart_none];refine V9 ?_;have I4:Inv X pins σ H3 {s3 with heap:=s3.heap.push {cls:=.type "slice",data:=.fields #[vl,vu,.none]} }:=I3.kept (t':=s3.toks) λb ob q=>B7 _ q;obtain⟨T,id,hT,ht,hg⟩:=hr pins {s3 with heap:=s3.heap.push {cls:=.type "slice",data:=.fields #[vl,vu,.none]} } σ H3 x v vl vu l u s3.heap.objs.size Q I4 r1 (Heap.IsSliceOf.new ..) pl pu q3;show wpAny (model X.prog X.w) X.A (subscriptTail e (.Slice lo hi none p2) v (.ref s3.heap.objs.size)) (EP X pins σ Q) X.xe {s3 with heap:=s3.heap.push {cls:=.type "slice",data:=.fields #[vl,vu,.none]} };exact tail_any (ops:=[.ref s3.heap.objs.size,v]) ht hT hg (by with_unfolding_all rfl)
def RZ(xs:List V)(lo hi:Option Int):List V:=(xs.drop (HT.sIx xs.length 0 lo)).take (HT.sIx xs.length xs.length hi-HT.sIx xs.length 0 lo)
theorem QS(xs:List V)(lo hi:Option Int):(RZ xs lo hi).length<=xs.length:=by
 unfold RZ;rw[J9,List.length_drop];lia
end
def ixN(n:Nat)(i:Int):Option Nat:=if 0<=i then(if i<n then some i.toNat else none)else if -(n:Int)<=i then some (i+n).toNat else none
def atI{α:Type}(xs:List α)(i:Int):Option α:=(ixN xs.length i).bind λj=>xs[j]?
theorem SV{n:Nat}{i:Int}{j:Nat}(h:ixN n i=some j):seqIndex? i n=some j/\j<n/\-(n:Int)<=i/\i<n:=by
 unfold ixN at h;by_cases h0:0<=i
 ·rw[V2 h0]at h;by_cases h1:i<n
  ·rw[V2 h1]at h;have e:i.toNat=j:=V4 h;exact⟨by rw[seqIndex_of h0 h1,e],by lia,by lia,h1⟩
  ·rw[V0 h1]at h;cases h
 ·rw[V0 h0]at h;by_cases h1:-(n:Int)<=i
  ·rw[V2 h1]at h;have e:(i+n).toNat=j:=V4 h;exact⟨by rw[seqIndex_neg A1 h1,e],by lia,h1,by lia⟩
  ·rw[V0 h1]at h;cases h
theorem Tc{α:Type}{xs:List α}{i:Int}{v:α}(h:atI xs i=some v):∃j,seqIndex? i xs.length=some j/\xs[j]?=some v/\j<xs.length/\-(xs.length:Int)<=i/\i<xs.length:=by
 unfold atI at h;cases e:ixN xs.length i with
 |none=>rw[e]at h;cases h
 |some j =>
  rw[e]at h;obtain⟨h1,h2,h3,h4⟩:=SV e;exact⟨j,h1,h,h2,h3,h4⟩
theorem Al{α:Type}{xs:List α}{j:Nat}{v:α}(h:xs[j]?=some v):atI xs (j:Int)=some v:=by
 have hj:j<xs.length:=(B6.mp h).1;have e:ixN xs.length (j:Int)=some j:=by
  unfold ixN;rw[V2 A1,V2 A1];simp
 unfold atI;rw[e];exact h
def PlainIx(b:Expr):Prop:=∀o i,subscripted b false o i=operate [o,i] (getItem o i)
def IxR(X:Cx)(r:R2):Prop :=
 ∀(value slice:Expr)(pins:List (Addr×Obj))(s:Shared)(σ:St)(H:Hp)(x y:V)(v u:Value)(Q:VK),Inv X pins σ H s->AR x v->AR y u->r x y H Q ->
  subscripted slice false v u=operate [v,u] (getItem v u)->wpAny (model X.prog X.w) X.A (subscriptTail value slice v u) (EP X pins σ Q) X.xe s
def MtR(X:Cx)(id:String)(r:V->List V->Hp->VK->Prop):Prop :=
 ∀(pins:List (Addr×Obj))(s:Shared)(σ:St)(H:Hp)(x:V)(xs:List V)(v:Value)(us:List Value)(Q:VK),Inv X pins σ H s->AR x v->AM xs us->r x xs H Q ->
  wpAny (model X.prog X.w) X.A (call (.builtin id) (v::us)) (EP X pins σ Q) X.xe s
section
variable{X:Cx}{a b:Expr}{ta tb:TE}{pos:Pos}
theorem Aj{r:R2}(hr:IxR X r)(ha:PE X a ta)(hb:PE X b tb)(hs:PlainIx b):PE X (.Subscript a b pos) (tOp r ta tb):=by
 intro pins s σ H Q I h;exact Subscript_ (binT ha hb I h λv u s2 x y H2 I2 rx ry q=>hr a b pins s2 σ H2 x y v u Q I2 rx ry q (hs _ _))
def rIxL(K:PySem.W.Frag):R2:=λx y H Q=>∃p xs i v,x=.ref p/\y=.int i/\SqL K H p xs/\atI xs i=some v/\Q v H
def IK(K:PySem.W.Frag):R2:=λx y H Q=>∃p xs i v,x=.ref p/\y=.int i/\SqT K H p xs/\atI xs i=some v/\Q v H
theorem Aw:IxR X (rIxL X.K):=by
 intro value slice pins s σ H x y v u Q I rx ry h hs;obtain⟨p,xs,i,z,rfl,rfl,hq,he,q⟩:=h;cases rx;obtain⟨t,rfl⟩:=ry;obtain⟨its,r,pl,hz⟩:=I.list hq;obtain⟨j,h1,h2,h3,h4,h5⟩:=Tc he;obtain⟨w,ew,rw'⟩:=r.get h2;have hl:=r.length;have hn:=MW;have fin:EP X pins σ Q w s:=⟨z,H,I,rw',q⟩
 by_cases h0:0<=i
 ·have hj:i.toNat=j:=by
   rw[seqIndex_of h0 h5]at h1;exact V4 h1
  exact item_listR pl.isList h0 A1 (by rw[hj];simpa using ew) fin hs
 ·have hj:(i+(its.toArray.size:Int)).toNat=j:=by
   rw[seqIndex_neg A1 h4]at h1;rw[D0,<-hl];exact V4 h1
  exact subscriptTail_builtinR (x:=w) pl.isList.typeIs slot_list_getitem.lookup
   (wpAny_getItem_list_neg (Q:=λr s'=>r=w/\EP X pins σ Q r s') pl.isList A1 (by rw[D0]<;>lia) A1 (by rw[hj];simpa using ew) ⟨rfl,fin⟩) hs
theorem Am:IxR X (IK X.K):=by
 intro value slice pins s σ H x y v u Q I rx ry h hs;obtain⟨p,xs,i,z,rfl,rfl,hq,he,q⟩:=h;cases rx;obtain⟨t,rfl⟩:=ry;obtain⟨its,r,pl,hz⟩:=I.tuple hq;obtain⟨j,h1,h2,h3,h4,h5⟩:=Tc he;obtain⟨w,ew,rw'⟩:=r.get h2;have hl:=r.length;have hn:=MW;have fin:EP X pins σ Q w s:=⟨z,H,I,rw',q⟩
 exact subscriptTail_builtinR (x:=w) pl.typeIs slot_tuple_getitem.lookup
  (getItem_tuple (j:=j) (Q:=λr s'=>r=w/\EP X pins σ Q r s') pl A1 A1 (by rw[D0,<-hl];exact h1) (by simpa using ew) ⟨rfl,fin⟩) hs
theorem RM(its:List Value)(n j:Nat)(u:Value):Obj.mapSeq (·.setIfInBounds j u) {cls:=.type "list",data:=.seq its.toArray n}={cls:=.type "list",data:=.seq (its.set j u).toArray n}:=by
 simp[Obj.mapSeq]
theorem Inv.lst{pins:List (Addr×Obj)}{σ:St}{H:Hp}{s:Shared}{p:Addr}{xs:List V}(I:Inv X pins σ H s)(h:H p=some (.lst xs)) :
  ∃(its:List Value)(n:Nat),AM xs its/\s.heap.get? p=some {cls:=.type "list",data:=.seq its.toArray n}/\xs.length<=sizeLine:=by
 obtain⟨z,its,n,r,e⟩:=I.hok p _ h;exact⟨its,n,r,e,z⟩
theorem Inv.lstUpd{pins:List (Addr×Obj)}{σ:St}{H:Hp}{s:Shared}{p:Addr}{xs ys:List V}{its its':List Value}{n n':Nat}{f:Obj->Obj}(I:Inv X pins σ H s)(h:H p=some (.lst xs))
  (ho:s.heap.get? p=some {cls:=.type "list",data:=.seq its.toArray n}) (hf:f {cls:=.type "list",data:=.seq its.toArray n}={cls:=.type "list",data:=.seq its'.toArray n'}) (r:AM ys its') (hz:ys.length<=sizeLine) (t:Nat) :
  Inv X pins σ (upd H p (.lst ys)) {s with heap:=s.heap.update p f,toks:=t}:=by
 have e:(s.heap.update p f).get? p=some {cls:=.type "list",data:=.seq its'.toArray n'}:=by
  rw[P3 f ho (by rw[hf]<;>rfl),hf]
 refine I.write (x:=p) (e:=p) (by rw[h];trivial) (.inl rfl) (λb u hb q=>(M0 _ _ (V5 hb)).trans q) ⟨_,e⟩ ?_;exact⟨hz,its',n',r,e⟩
def rSetL:V->V->V->Hp->(Hp->Prop)->Prop:=λo i v H Q=>∃p xs k j,o=.ref p/\i=.int k/\H p=some (.lst xs)/\ixN xs.length k=some j/\Q (upd H p (.lst (xs.set j v)))
theorem UZ:PSet X rSetL:=by
 intro pins s σ H o i v ov iv u Q I ro ri rv h;obtain⟨p,xs,k,j,rfl,rfl,hp,hj,q⟩:=h;cases ro;obtain⟨t,rfl⟩:=ri;obtain⟨its,n,r,ho,hz⟩:=I.lst hp;obtain⟨h1,h2,h3,h4⟩:=SV hj;have hl:=r.length;have hn:=MW;have I':Inv X pins σ (upd H p (.lst (xs.set j v))) {s with heap:=s.heap.update p (Obj.mapSeq (·.setIfInBounds j u))} :=
  I.lstUpd hp ho (RM its n j u) (r.set rv j) (by rw[List.length_set];exact hz) s.toks
 by_cases h0:0<=k
 ·have hk:k.toNat=j:=by
   rw[seqIndex_of h0 h4]at h1;exact V4 h1
  exact PySem.W.ki_setAt ho h0 A1 (by rw[D0,<-hl];exact h4) (by rw[hk];exact⟨_,I',q⟩)
 ·have hk:(k+(its.toArray.size:Int)).toNat=j:=by
   rw[seqIndex_neg A1 h3]at h1;rw[D0,<-hl];exact V4 h1
  exact PySem.W.ki_setBack ho A1 (by rw[D0,<-hl];exact h3) A1 (by rw[hk];exact⟨_,I',q⟩)
theorem OS(lo hi:Option Int)(n:Nat):(sliceBounds lo hi none n).1=((HT.sIx n 0 lo:Nat):Int)/\(sliceBounds lo hi none n).2.1=((HT.sIx n n hi:Nat):Int)/\(sliceBounds lo hi none n).2.2=1:=by
 refine⟨?_,?_,rfl⟩
 ·cases lo with
  |none=>simp[sliceBounds,HT.sIx]
  |some i =>
   simp only[sliceBounds,HT.sIx,Option.getD_none,show(1:Int) > 0 by decide,A0d];by_cases h:i<0
   ·simp only[h,A0d]<;>lia
   ·simp only[h,if_false]<;>lia
 ·cases hi with
  |none=>simp[sliceBounds,HT.sIx]
  |some i =>
   simp only[sliceBounds,HT.sIx,Option.getD_none,show(1:Int) > 0 by decide,A0d];by_cases h:i<0
   ·simp only[h,A0d]<;>lia
   ·simp only[h,if_false]<;>lia
theorem NA(its:List Value)(lo hi:Option Int):slicePick its.toArray lo hi none=((its.drop (HT.sIx its.length 0 lo)).take (HT.sIx its.length its.length hi-HT.sIx its.length 0 lo)).toArray:=by
 obtain⟨h1,h2,h3⟩:=OS lo hi its.toArray.size;unfold slicePick;rw[h1,h2,h3];simp only[sliceRange_one,pick_run,D0]<;>rfl
def rSlL(K:PySem.W.Frag):V->Option Int->Option Int->Hp->VK->Prop:=λx lo hi H Q=>∃a xs,x=.ref a/\SqL K H a xs/\∀p,H p=none->Q (.ref p) (upd H p (.lst (RZ xs lo hi)))
theorem SF:SlR X (rSlL X.K):=by
 intro pins s σ H x v vl vu lo hi sl Q I rx hs pl pu h;obtain⟨a,xs,rfl,hx,q⟩:=h;cases rx;obtain⟨its,r,ht,hz⟩:=I.list hx;have hlen:=r.length;refine⟨"list",_,slot_list_getitem.lookup,ht.isList.typeIs,?_⟩;refine wpAny_getItem_list_slice ht.isList hs pl pu .none A6 ?_ (by rw[D0]<;>lia);rw[NA,<-hlen];refine⟨.ref s.heap.objs.size,_,I.laid (t':=s.toks) (o:=.lst (RZ xs lo hi)) (λb ob q=>B7 _ q) (C0 _) ?_,rfl,q _ (I.hok.fresh (C0 _))⟩;exact⟨C8 (QS xs lo hi) hz,_,0,(r.drop (HT.sIx xs.length 0 lo)).take (HT.sIx xs.length xs.length hi-HT.sIx xs.length 0 lo),C7 _ rfl⟩
def GP:V->Bool
 |.non=>true
 |.bl _=>true
 |.int _=>true
 |.str _=>true
 |_=>false
def eqV:V->V->Bool
 |.non,.non=>true
 |.bl a,.bl b=>a==b
 |.bl a,.int b=>(if a then 1 else 0)==b
 |.int a,.bl b=>a==(if b then 1 else 0)
 |.int a,.int b=>a==b
 |.str a,.str b=>a==b
 |_,_=>false
theorem eqAt_V{A:Around}{s:Shared}{y x:V}{u v:Value}(ry:AR y u)(rx:AR x v)(fy:GP y=true)(fx:GP x=true):SeqAt.EqAt A s u v (eqV y x):=by
 cases y with
 |non =>
  cases ry;cases x with
  |non=>cases rx;exact SeqAt.EqAt.same _
  |bl b=>cases rx;exact SeqAt.EqAt.none_bool b
  |int b=>obtain⟨t,rfl⟩:=rx;exact SeqAt.EqAt.none_int b t
  |str b=>obtain⟨t,rfl⟩:=rx;exact SeqAt.EqAt.none_str b t
  |_=>exact absurd (show false=true from fx) C6
 |bl a =>
  cases ry;cases x with
  |non=>cases rx;exact SeqAt.EqAt.bool_none a
  |bl b=>cases rx;exact SeqAt.EqAt.bool_bool a b
  |int b=>obtain⟨t,rfl⟩:=rx;exact SeqAt.EqAt.bool_int a b t
  |str b=>obtain⟨t,rfl⟩:=rx;exact SeqAt.EqAt.bool_str a b t
  |_=>exact absurd (show false=true from fx) C6
 |int a =>
  obtain⟨t',rfl⟩:=ry;cases x with
  |non=>cases rx;exact SeqAt.EqAt.int_none a t'
  |bl b=>cases rx;exact SeqAt.EqAt.int_bool a t' b
  |int b=>obtain⟨t,rfl⟩:=rx;exact SeqAt.EqAt.int_int a t' b t
  |str b=>obtain⟨t,rfl⟩:=rx;exact SeqAt.EqAt.int_str a t' b t
  |_=>exact absurd (show false=true from fx) C6
 |str a =>
  obtain⟨t',rfl⟩:=ry;cases x with
  |non=>cases rx;exact SeqAt.EqAt.str_none a t'
  |bl b=>cases rx;exact SeqAt.EqAt.str_bool a t' b
  |int b=>obtain⟨t,rfl⟩:=rx;exact SeqAt.EqAt.str_int a t' b t
  |str b=>obtain⟨t,rfl⟩:=rx;exact SeqAt.EqAt.str_str a t' b t
  |_=>exact absurd (show false=true from fx) C6
 |_=>exact absurd (show false=true from fy) C6
def eqU(x:V)(u:Value):Bool:=match u with
 |.none=>eqV .non x
 |.bool b=>eqV (.bl b) x
 |.int i _=>eqV (.int i) x
 |.str z _=>eqV (.str z) x
 |_=>false
theorem RY{x y:V}{u:Value}(r:AR y u)(f:GP y=true):eqU x u=eqV y x:=by
 cases y with
 |non=>cases r;rfl
 |bl b=>cases r;rfl
 |int i=>obtain⟨t,rfl⟩:=r;rfl
 |str z=>obtain⟨t,rfl⟩:=r;rfl
 |_=>exact absurd (show false=true from f) C6
theorem PN{x:V}:∀{xs:List V}{us:List Value},AM xs us->xs.all GP=true->us.any (eqU x)=xs.any λy=>eqV y x
 |_,_,.nil,_=>rfl
 |y::xs,u::us,.cons r t,f=>by
  rw[List.all_cons,O0]at f;rw[S2,S2,RY r f.1,PN t f.2]
theorem JK{A:Around}{s:Shared}{x:V}{v:Value}(rx:AR x v)(fx:GP x=true):∀{xs:List V}{us:List Value},AM xs us->xs.all GP=true->∀u∈us,SeqAt.EqAt A s u v (eqU x u)
 |_,_,.nil,_=>λu hu=>by cases hu
 |y::xs,u::us,.cons r t,f=>λu' hu=>by
  rw[List.all_cons,O0]at f;rcases B8.mp hu with rfl|hu
  ·rw[RY r f.1];exact eqAt_V r rx f.1 fx
  ·exact JK rx fx t f.2 u' hu
def inV(x:V)(xs:List V):Bool:=xs.any λy=>eqV y x
def rIn(K:PySem.W.Frag)(neg:Bool):R2:=λx y H Q=>∃p xs,y=.ref p/\(SqL K H p xs\/SqT K H p xs)/\GP x=true/\xs.all GP=true/\Q (.bl (if neg then !inV x xs else inV x xs)) H
theorem TD:OpR X (compareOp .In) (rIn X.K false):=by
 intro pins s σ H x y v u Q I rx ry h;obtain⟨p,xs,rfl,hq,fx,fs,q⟩:=h;cases ry;rcases hq with hq|hq
 ·obtain⟨its,r,pl,hz⟩:=I.list hq;refine SeqAt.in_listAt (eqU x) pl.isList (λw hw=>JK rx fx r fs w (by simpa using hw)) ⟨.bl _,H,I,rfl,?_⟩;rw[show its.toArray.any (eqU x)=its.any (eqU x) by simp,PN r fs];exact q
 ·obtain⟨its,r,pl,hz⟩:=I.tuple hq;refine SeqAt.in_tupleAt (eqU x) pl (λw hw=>JK rx fx r fs w (by simpa using hw)) ⟨.bl _,H,I,rfl,?_⟩;rw[show its.toArray.any (eqU x)=its.any (eqU x) by simp,PN r fs];exact q
theorem BP:FS X (.builtin "len") (λxs H Q=>∃p ys,xs=[.ref p]/\(SqL X.K H p ys\/SqT X.K H p ys)/\Q (.int ys.length) H):=by
 intro pins s σ H xs us Q I r h;obtain⟨p,ys,rfl,hq,q⟩:=h;obtain⟨u,rfl,rx⟩:=Sm r;cases rx;have hn:=MW;rcases hq with hq|hq
 ·obtain⟨its,r',pl,hz⟩:=I.list hq;have hlen:=r'.length;exact Calls.call_len_list pl.isList (by simp only[D0]<;>lia) ⟨.int ys.length,H,I.tok _,⟨s.toks+1,by rw[D0,hlen]⟩,q⟩
 ·obtain⟨its,r',pl,hz⟩:=I.tuple hq;have hlen:=r'.length;exact len_tuple pl (by simp only[D0]<;>lia) ⟨.int ys.length,H,I.tok _,⟨s.toks+1,by rw[D0,hlen]⟩,q⟩
theorem GE:FS X (.builtin "len") (λxs H Q=>∃z,xs=[.str z]/\z.length<=sizeLine/\Q (.int z.length) H):=by
 intro pins s σ H xs us Q I r h;obtain⟨z,rfl,hz,q⟩:=h;obtain⟨u,rfl,t,rfl⟩:=Sm r;have hn:=MW;exact len_str A1 ⟨.int z.length,H,I.tok _,⟨_,rfl⟩,q⟩
theorem PH:FS X (.type "list") (λxs H Q=>∃p ys,xs=[.ref p]/\(SqL X.K H p ys\/SqT X.K H p ys)/\∀l,H l=none->Q (.ref l) (upd H l (.lst ys))):=by
 intro pins s σ H xs us Q I r h;obtain⟨p,ys,rfl,hq,q⟩:=h;obtain⟨u,rfl,rx⟩:=Sm r;cases rx;have fin:∀(its:List Value),AM ys its->ys.length<=sizeLine->∀(h':Heap)(c':Nat),(∀b o',s.heap.get? b=some o'->h'.get? b=some o') ->
   h'.get? s.heap.objs.size=some {cls:=.type "list",dict:=none,data:=.seq its.toArray c',slots:=#[]}->EP X pins σ Q (.ref s.heap.objs.size) {s with heap:=h'}:=λits r' hz h' c' kp e =>
  ⟨.ref s.heap.objs.size,_,I.laid (t':=s.toks) kp (C0 _) (show Bz X.prog X.w _ h' _ (.lst ys)from⟨hz,its,c',r',e⟩),rfl,q _ (I.hok.fresh (C0 _))⟩
 rcases hq with hq|hq
 ·obtain⟨its,r',pl,hz⟩:=I.list hq;have hlen:=r'.length;obtain⟨o,ho,hc,n,hd⟩:=pl.isList;exact call_list_seq p (.inl rfl) ho hc hd (λh' c' kp e=>fin its r' hz h' c' kp e) (by simp only[D0]<;>lia)
 ·obtain⟨its,r',pl,hz⟩:=I.tuple hq;have hlen:=r'.length;obtain⟨o,ho,hc,n,hd⟩:=pl;exact call_list_seq p (.inr rfl) ho hc hd (λh' c' kp e=>fin its r' hz h' c' kp e) (by simp only[D0]<;>lia)
theorem BS:FS X (.type "tuple") (λxs H Q=>∃p ys,xs=[.ref p]/\((SqL X.K H p ys/\∀l,H l=none->Q (.ref l) (upd H l (.tup ys)))\/(SqT X.K H p ys/\Q (.ref p) H))):=by
 intro pins s σ H xs us Q I r h;obtain⟨p,ys,rfl,h⟩:=h;obtain⟨u,rfl,rx⟩:=Sm r;cases rx;rcases h with ⟨hq,q⟩|⟨hq,q⟩
 ·obtain⟨its,r',pl,hz⟩:=I.list hq;have hlen:=r'.length;refine call_tuple_list pl.isList (λh' kp=>?_) (by simp only[D0]<;>lia);have I1:Inv X pins σ H {s with heap:=h'}:=I.kept (t':=s.toks) kp
  have I2:Inv X pins σ (upd H h'.objs.size (.tup ys)) {s with heap:=h'.push {cls:=.type "tuple",data:=.seq its.toArray} } :=
   I1.laid (t':=s.toks) (λb o e=>B7 _ e) (C0 _) (show Bz X.prog X.w _ _ _ (.tup ys)from⟨hz,its,r',IsTup.new _ _⟩)
  exact⟨.ref h'.objs.size,_,I2,rfl,q _ (I1.hok.fresh (C0 _))⟩
 ·obtain⟨its,r',pl,hz⟩:=I.tuple hq;exact call_tuple_same pl ⟨.ref p,H,I,rfl,q⟩
def tyV(K:PySem.W.Frag)(T:String)(x:V)(H:Hp):Prop:=match x with
 |.str _=>T="str"
 |.int _=>T="int"
 |.ref p=>(T="list" /\ ∃xs,SqL K H p xs)\/(T="tuple" /\ ∃o,K.lookup p=some o/\o.cls=.type "tuple" /\ o.dict=none) \/
   (T="dict" /\ ((∃kvs,H p=some (.dK kvs))\/∃kvs,H p=some (.dT kvs)))\/(T="set" /\ ∃S n,H p=some (.set S n))
 |_=>False
theorem tyV_is{pins:List (Addr×Obj)}{σ:St}{H:Hp}{s:Shared}{T:String}{x:V}{v:Value}(I:Inv X pins σ H s)(r:AR x v)(ty:tyV X.K T x H) :
  s.TypeIs v T/\∀a,v=.ref a->∃ob,s.heap.get? a=some ob/\ob.dict=none:=by
 cases x with
 |str z =>
  obtain⟨t,rfl⟩:=r;cases(show T="str" from ty);exact⟨typeIs_str s z t,λ_ e=>nomatch e⟩
 |int i =>
  obtain⟨t,rfl⟩:=r;cases(show T="int" from ty);exact⟨typeIs_int s i t,λ_ e=>nomatch e⟩
 |ref p =>
  cases r;rcases ty with ⟨rfl,xs,hq⟩|⟨rfl,o,hk,hc,hd⟩|⟨rfl,hk⟩|⟨rfl,S,n,hk⟩
  ·obtain⟨its,_,pl,_⟩:=I.list hq;refine⟨pl.isList.typeIs,λa e=>?_⟩;cases e;obtain⟨o,n,e,c,hd,_⟩:=pl;exact⟨o,e,hd⟩
  ·refine⟨⟨o,I.kIn p o hk,hc⟩,λa e=>?_⟩;cases e;exact⟨o,I.kIn _ o hk,hd⟩
  ·have z:∃o,s.heap.get? p=some o/\o.ExactDict:=by
    rcases hk with ⟨kvs,hk⟩|⟨kvs,hk⟩
    ·obtain⟨_,_,_,_,o,_,_,e,ex,_⟩:=I.hok p _ hk;exact⟨o,e,ex⟩
    ·obtain⟨_,_,_,_,o,_,_,e,ex,_⟩:=I.hok p _ hk;exact⟨o,e,ex⟩
   obtain⟨o,e,ex⟩:=z;refine⟨⟨o,e,ex.1⟩,λa e2=>?_⟩;cases e2;exact⟨o,e,ex.2.1⟩
  ·obtain⟨o,_,_,_,e,ex,_⟩:=I.hok p _ hk;refine⟨⟨o,e,ex.1⟩,λa e2=>?_⟩;cases e2;exact⟨o,e,ex.2.1⟩
 |_=>exact False.elim ty
def tBM(K:PySem.W.Frag)(T:String)(r:V->List V->Hp->VK->Prop)(to:TE)(t:TA):TE:=fun σ H Q=>to σ H λx H1=>tyV K T x H1/\t σ H1 λxs H2=>r x xs H2 Q
variable{o e:Expr}{es:List Expr}{to:TE}{t:TA}{name:Str}{apos cpos:Pos}{T id:String}{r:V->List V->Hp->VK->Prop}
theorem GM(pa:PlainAttrs T)(slot:Slot T name id)(hty:typeOf (.builtin id)=pure (.type "method_descriptor"))(hm:MtR X id r)(ho:PE X o to)(ha:PA X (e::es) t)
  (hbase:attributeBase o name X.env (eval o X.env)=eval o X.env:=by rfl)
  (hfew:((backTo cpos (starEach (e::es) X.env)).all (λx=>!x.1) && (backToKw cpos (keywordEach [] X.env)).all (λx=>x.1.isSome)
   && decide ((e::es).length+([]:List Keyword).length+(if([]:List Keyword).isEmpty then 0 else 1)<30))=true:=by rfl)
  (hline:(apos.endLine==cpos.line)=true:=by rfl) (hs:starEach (e::es) X.env=(false,eval e X.env)::starEach es X.env:=by rfl) (hplain:(backTo cpos (starEach es X.env)).any (·.1)=false:=by rfl) :
  PE X (.Call (.Attribute o name apos) (e::es) [] cpos) (tBM X.K T r to t):=by
 intro pins s σ H Q I h;refine wpAny_Call_method_late hbase hfew hline rfl (thn (ho pins s σ H _ I h) λv s1 ⟨x,H1,I1,r1,ty,q1⟩=>?_);obtain⟨h1,h2⟩:=tyV_is I1 r1 ty;refine⟨T,id,pa,slot,hty,h1,h2,?_⟩;have hA:=ha cpos pins s1 σ H1 _ I1 q1;rw[hs]at hA⊢;refine Calls.callWith_builtin (by show(false || (backTo cpos (starEach es X.env)).any (·.1))=false;rw[hplain]<;>rfl) (A1a ?_);exact thn hA λus s2 ⟨vs,H2,I2,r2,q2⟩=>hm pins s2 σ H2 x vs v us Q I2 r1 r2 q2
end
def MtM(X:Cx)(id:String)(r:V->List V->Hp->VK->Prop):Prop :=
 ∀(pins:List (Addr×Obj))(s:Shared)(σ:St)(H:Hp)(x:V)(xs:List V)(v:Value)(us:List Value)(Q:VK),Inv X pins σ H s->AR x v->AM xs us->r x xs H Q ->
  wpAny (model X.prog X.w) X.A (call (.builtin id) (v::us)) (EP X pins σ Q) X.xe s
theorem AM.one:∀{x:V}{us:List Value},AM [x] us->∃u,us=[u]/\AR x u
 |_,_,.cons r .nil=>⟨_,rfl,r⟩
theorem AM.two:∀{x y:V}{us:List Value},AM [x,y] us->∃u v,us=[u,v]/\AR x u/\AR y v:=by
 intro x y us h;cases h with
 |cons r t=>cases t with
  |cons q t=>cases t;exact⟨_,_,rfl,r,q⟩
theorem AM.rep{xs:List V}{us:List Value}(h:AM xs us):∀k:Nat,AM (List.replicate k xs).flatten (List.replicate k us).flatten
 |0=>.nil
 |k+1=>by
  rw[P7,P7,R9,R9];exact AM.append h (AM.rep h k)
theorem Ol(its:List Value):∀(k:Nat)(acc:List Value),
  List.foldl (λx1 x2=>x1++x2) acc.toArray (List.replicate k its.toArray)=(acc++(List.replicate k its).flatten).toArray
 |0,acc=>by simp
 |k+1,acc=>by
  have e:acc.toArray++its.toArray=(acc++its).toArray:=by simp
  have e2:(acc++its)++(List.replicate k its).flatten=acc++(List.replicate (k+1) its).flatten:=by
   rw[P7,R9,P4]
  rw[<-e2,<-Ol its k (acc++its),<-e,P7,T1]
section
variable{X:Cx}{pins:List (Addr×Obj)}{σ:St}{H:Hp}{s:Shared}{l b:Addr}{xs ys zs:List V}
theorem Inv.lset{its its':List Value}{n:Nat}{f:Array Value->Array Value}{t':Nat}(I:Inv X pins σ H s)(hH:H l=some (.lst xs))
  (e:s.heap.get? l=some {cls:=.type "list",data:=.seq its.toArray n}) (hf:f its.toArray=its'.toArray) (hv:AM ys its') (hz:ys.length<=sizeLine) :
  Inv X pins σ (upd H l (.lst ys)) {s with heap:=s.heap.update l (Obj.mapSeq f),toks:=t'}:=by
 have q:=PySem.IsL.update e f;rw[hf]at q;refine I.write (x:=l) (e:=l) (by rw[hH];exact trivial) (.inl rfl) (λb' u hb hu=>(M0 s.heap (Obj.mapSeq f) (V5 hb)).trans hu) ⟨_,q⟩ ?_;exact⟨hz,its',_,hv,q⟩
theorem Inv.lnew{its:List Value}{t':Nat}(I:Inv X pins σ H s)(hv:AM ys its)(hz:ys.length<=sizeLine) :
  Inv X pins σ (upd H s.heap.objs.size (.lst ys)) {s with heap:=s.heap.push {cls:=.type "list",data:=.seq its.toArray},toks:=t'} :=
 I.laid (λ_ _ q=>B7 _ q) (C0 _) ⟨hz,its,0,hv,C7 _ rfl⟩
theorem Inv.fresh(I:Inv X pins σ H s):H s.heap.objs.size=none:=I.hok.fresh (C0 _)
theorem Inv.lstM(I:Inv X pins σ H s)(hH:H l=some (.lst xs)):xs.length<=sizeLine/\∃(its:List Value)(n:Nat),AM xs its/\xs.length=its.length/\s.heap.get? l=some {cls:=.type "list",data:=.seq its.toArray n}:=by
 obtain⟨z,its,n,r,e⟩:=I.hok l _ hH;exact⟨z,its,n,r,r.length,e⟩
theorem VA{n:Nat}(h:n<=sizeLine):Builtin.List.listTooLong n=false:=by
 unfold Builtin.List.listTooLong;exact V3 A1
end
section
variable{X:Cx}
def SH:V->List V->Hp->VK->Prop:=λx vs H Q=>∃l xs y,x=.ref l/\vs=[y]/\H l=some (.lst xs)/\xs.length<sizeLine/\Q .non (upd H l (.lst (xs++[y])))
theorem Dg:MtM X "list.append" SH:=by
 intro pins s σ H x vs v us Q I rx rv h;obtain⟨l,xs,y,rfl,rfl,hH,hz,q⟩:=h;cases rx;obtain⟨u,rfl,ru⟩:=rv.one;obtain⟨z,its,n,r,hl,e⟩:=I.lstM hH;refine Z9 F.slot_list_append ⟨_,e,rfl⟩ F.entry_list_append (F.args_list_append_2 _ _) (PySem.list_append l its.toArray n u (by rw[D0];lia)) ⟨e,?_⟩;refine⟨.non,_,I.lset (its':=its++[u]) hH e A6 (r.append (.cons ru .nil)) ?_,rfl,q⟩;rw[C5,P2];lia
def rRep:R2:=λx y H Q=>∃l k xs,x=.ref l/\y=.int k/\H l=some (.lst xs)/\-(2^63)<=k/\k<2^63/\xs.length*k.toNat<=sizeLine /\
 ∀p,H p=none->Q (.ref p) (upd H p (.lst (List.replicate k.toNat xs).flatten))
theorem len_rep{α:Type}(xs:List α)(k:Nat):(List.replicate k xs).flatten.length=k*xs.length:=by
 induction k with
 |zero=>simp
 |succ k ih=>rw[P7,R9,C5,ih,Nat.succ_mul,Nat.add_comm]
theorem op_rep:OpR X (binaryOp .Mult) rRep:=by
 intro pins s σ H x y v u Q I rx ry h;obtain⟨l,k,xs,rfl,rfl,hH,h1,h2,hz,q⟩:=h;cases rx;obtain⟨t,rfl⟩:=ry;obtain⟨z,its,n,r,hl,e⟩:=I.lstM hH;have hlen:its.toArray.size*k.toNat<=sizeLine:=by rw[D0,<-hl];exact hz
 have hcap:¬its.toArray.size*k.toNat > (2^63-1)/8:=by
  have:(sizeLine:Nat)<=(2^63-1)/8:=by decide
  lia
 have hfit:¬(!Builtin.List.listFitsIndex k)=true:=by
  rw[fitsIndex_both h1 h2];exact C6
 have hlong:¬Builtin.List.listTooLong (its.toArray.size*k.toNat)=true:=by
  rw[VA hlen];exact C6
 have hnew:List.foldl (λx1 x2=>x1++x2) #[] (List.replicate (if its.toArray.isEmpty=true then 0 else k.toNat) its.toArray)=(List.replicate k.toNat its).flatten.toArray:=by
  have f0:∀m:Nat,List.foldl (λx1 x2=>x1++x2) #[] (List.replicate m its.toArray)=(List.replicate m its).flatten.toArray:=λm=>by
   have:=Ol its m [];rw[List.nil_append]at this;exact this
  rw[f0];cases its with
  |nil=>simp
  |cons a r'=>rw[V0 A6]
 refine wpAny_binaryOp_repeat_ref (T:="list") (U:="int") A3 ⟨_,e,rfl⟩ (λs'=>typeIs_int s' k t) noFill_list_mul F.fills_int_mul F.slot_int_rmul repeat_list F.slot_int_index.lookup
  (Z9 F.slot_int_rmul (typeIs_int s k t) F.entry_int_rmul (F.args_int_rmul_2 _ _) (int___rmul___int_list k t l its.toArray n)
   ⟨e,rfl,⟨_,e,rfl⟩,Z9 F.slot_list_mul ⟨_,e,rfl⟩ F.entry_list_mul (F.args_list_mul_2 _ _) (AutoListH.list___mul___list_int_3 l its.toArray n k t hfit hcap hlong) ⟨e,?_⟩⟩)
 rw[hnew];exact⟨.ref _,_,I.lnew (t':=s.toks) (r.rep k.toNat) (by rw[len_rep,U6];exact hz),rfl,q _ I.fresh⟩
end
section
variable{prog:Program}{w:World}{A:Around}{E:Value->Shared->Prop}{s:Shared}
end
section
variable{X:Cx}
end
end L2
namespace Att
open PySem PySem.W PySem.Calls PyProof.Rows
theorem LY{P:Params}{h:Heap}:∀(ns:List Int)(vs:List Value),WellAll P h vs (ns.map WData.int)->IntsAre vs ns:=by
 intro ns;induction ns with
 |nil =>
  intro vs w;rw[List.map_nil]at w;cases w;exact .nil
 |cons n ns ih =>
  intro vs w;rw[L5]at w;cases w with
  |cons a b =>
   cases a;exact .cons _ _ (ih _ b)
theorem Tv{l:OpenLaw}{n:Nat}(hn:l.most=some n){P:Params}{h:Heap}{args:List WData}{vals:List Value}
  (hpre:l.row.toRowW.claim.pre args=true) (hwl:WellAll P h vals args) :
  ∃a vs ns,vals=[Value.ref a]/\args=[WData.list (ns.map WData.int)]/\h.get? a=some {cls:=.type "list",data:=.seq vs.toArray}/\IntsAre vs ns/\ns.length<=n:=by
 have hsh:WShape.hasAll [] args [.list .int]=true:=(pre_splitW hpre).1;have hc:l.pre.holds [] {args:=args}=true:=(pre_splitW hpre).2;obtain⟨d,r,rfl,h1,h2⟩:=hasAllW_cons hsh;obtain rfl:=hasAllW_nil h2;obtain⟨xs,rfl,h3⟩:=hasW_list h1;obtain⟨ns,rfl⟩:=items_int h3;have hlen:ns.length<=n:=by
  unfold OpenLaw.pre at hc;have h4:(WTm.not (.lt (.lit (.int (n:Int))) (.len (.arg 0)))).holds [] {args:=[.list (ns.map .int)]}=true:=by
   have h4:=(holds_andW hc).1;rw[hn]at h4;exact h4
  have h5:=condW_of h4 (w_not (w_lt w_lit (w_len_list (w_arg rfl))));rw[B5]at h5;refine O8 λq=>?_;have q':(n:Int)<((ns.length:Nat):Int):=by lia
  first
   | (rw[V1 q']at h5;exact absurd h5 A3)
   | (simp at h5;lia)
 cases hwl with
 |cons w1 w2 =>
  cases w2;cases w1 with
  |list ho hall=>exact⟨_,_,ns,rfl,rfl,ho,LY ns _ hall,hlen⟩
theorem Ty(l:OpenLaw)(args:List WData):l.row.toRowW.claim.post args (.bool true) args=true :=
 postW_of (r:=l.row.toRowW) (X:=(true==true))
  (show WShape.has [] (.bool true) .bool=true by first|rfl|decide|simp[WShape.has,WShape.arms,WShape.armsAll])
  (show(WTm.eq .res (.lit (.bool true))).value [] {args:=args,res:=some (.bool true),after:=args}=some (.bool (true==true))from w_eq_bool (w_res rfl) w_lit) rfl
theorem Re{l:OpenLaw}{n:Nat}{q:Program}{loose:List Str}{XP:(Str->Option Value)->Heap->Prop}{YP:World->Heap->Prop}{d:DefRec}
  (hn:l.most=some n) (hdf:d.params.defaults=[])
  (call:∀(w:World)(s₀ s₁:Shared)(mg mb:Str->Option Value)(fa:Addr)(o:Obj)(pm cd doc:Value)(a:Addr)(vs:List Value)(ns:List Int),
   Ground q loose [] XP w s₀ mg mb s₁.heap->YP w s₁.heap ->
   s₁.heap.get? fa=some o->o.data=.func (docDef d.name d.params d.body d.scope pm cd doc)->s₁.heap.CodeRec cd d.name->mg d.name=some (.ref fa) ->
   s₁.heap.get? a=some {cls:=.type "list",data:=.seq vs.toArray}->IntsAre vs ns->ns.length<=n->s₁.gens=#[] ->
   codeAny (model l.prog w) callerA (.call (.ref fa) ⟨[.ref a],[]⟩) (λr s'=>r=.ok (.ret (.bool true))/\OldK s₁.heap s'.heap/\s'.os=s₁.os/\AllBare s'.gens) s₁) :
  WalkO q loose XP YP l.row.toRowW d [] (λf vs=>PySem.call f vs):=by
 intro w s₀ s₁ mg mb G Y fa o pm cd doc dV kV ho hd hcd hD hmg hg args vals as hpre hlay hrd hwl hlo;obtain rfl:dV=.none:=Dflts.none hD hdf;obtain rfl:kV=.none:=Dflts.noKw hD;obtain⟨a,vs,ns,rfl,rfl,hobj,hints,hlen⟩:=Tv hn hpre hwl;refine enter_call (A0f (call w s₀ s₁ mg mb fa o pm cd doc a vs ns G Y ho (fd_plain hd) hcd hmg hobj hints hlen hg) λr s' hq=>?_);obtain⟨rfl,h2,h3,h4⟩:=hq;exact⟨.inl ⟨.bool true,.bool true,[],rfl,λ_=>rfl,.bool true,Ty l _,λ_=>⟨List.Pairwise.nil,λ_ hm=>(nomatch hm)⟩⟩,h2,h3,h4⟩
section
variable{prog:Program}{w:World}{A:Around}{E:Value->Shared->Prop}{s:Shared}{K:Frag}
end
end Att
namespace L2
open PySem PySem.Spec PyProof.Rows
theorem NR:∀{vs:List Value}{ns:List Int},IntsAre vs ns->AM (ns.map V.int) vs
 |_,_,.nil=>.nil
 |_,_,.cons n t h=>.cons ⟨t,rfl⟩ (NR h)
def Only(H:Hp):Prop:=∀b,H b=none\/∃o xs,H b=some (.frz o (.lst xs))
theorem VQ{P:Program}{w:World}{K:PySem.W.Frag}{mg mb:Str->Option Value}{CX:CXT}{k:Nat}{fa a:Addr}{fd:FuncData}{x:Str}{sp:Sp}{s₁:Shared}{vs:List Value}{ns:List Int}
  (KX:K.In s₁.heap) (hns:s₁.heap.Ns mainGlobals mg) (hb:s₁.heap.Ns builtinsNs mb) (hbb:∀x:Str,x≠"__name__" -> mb x=bootBuiltins x) (hlim:s₁.heap.NoLimit) (hg:s₁.gens=#[])
  (ha:s₁.heap.get? a=some {cls:=.type "list",data:=.seq vs.toArray}) (hi:IntsAre vs ns) (hl:ns.length<=sizeLine) (hr:CD k callerA)
  (F:∀base:Heap,K.In base->base.Ns mainGlobals mg->AJ P w K mg base CX k fa fd [x] sp) (hbind:∀(s:Shared)(u:Value),BindsTo s fd ⟨[u],[]⟩ [(x,u)])
  (hsp:∀H:Hp,Only H->SqL K H a (ns.map V.int)->sp [.ref a] H (λv _=>v=.bl true) λ_ _ _=>False)
  (hCX:∀H e s',CX [] H s₁ (λ_ _ _=>False) e s'->False) :
  codeAny (model P w) callerA (.call (.ref fa) ⟨[.ref a],[]⟩) (λr s'=>r=.ok (.ret (.bool true))/\OldK s₁.heap s'.heap/\s'.os=s₁.os/\AllBare s'.gens) s₁:=by
 have rv:=NR hi;have lenV:=hi.length;have core:∀H:Hp,Only H->SqL K H a (ns.map V.int)->HOk P w H s₁.heap->(∀b,H b≠none->b=a)->(H a≠none->K.lookup a=none) ->
   codeAny (model P w) callerA (.call (.ref fa) ⟨[.ref a],[]⟩) (λr s'=>r=.ok (.ret (.bool true))/\OldK s₁.heap s'.heap/\s'.os=s₁.os/\AllBare s'.gens) s₁:=by
  intro H hO hS hok hA hK;have base_of:∀{b:Addr}{o:Obj},s₁.heap.get? b=some o->H b=none->(Pw s₁.heap H).get? b=some o:=λe n=>VY e n;have noA:∀{b:Addr}{o:Obj}{es:Array DictEntry}{ep:Nat},s₁.heap.get? b=some o->o.data=.dict es ep->H b=none:=λ{b o es ep} e d=>by
   cases q:H b with
   |none=>rfl
   |some u =>
    have e':b=a:=hA b (by rw[q];simp);subst e';rw[ha]at e;cases e;have d':Data.seq vs.toArray _=Data.dict es ep:=d;cases d'
  have nsK:∀{b:Addr}{m:Str->Option Value},s₁.heap.Ns b m->(Pw s₁.heap H).Ns b m:=λ{b m} ⟨o,es,ep,e,d,r⟩=>⟨o,es,ep,base_of e (noA e d),d,r⟩
  have hKb:K.In (Pw s₁.heap H):=λb o e=>base_of (KX b o e) (by
   cases q:H b with
   |none=>rfl
   |some u =>
    have e':b=a:=hA b (by rw[q];simp);subst e';rw[hK (by rw[q];simp)]at e;cases e)
  have hM:Mod K mg (Pw s₁.heap H):=⟨hKb,nsK hns,⟨mb,nsK hb,hbb⟩,let ⟨mc,h1,h2⟩:=hlim;⟨mc,nsK h1,h2⟩⟩
  have e0:Si P w K mg (Pw s₁.heap H) callerA [] s₁ H:=⟨rfl,hM,λb o e=>of_hidT e,Nat.le_of_eq (Uf _ _),trivial,λb hb=>absurd (show b∈([]:List Addr)from hb) A6,hok,.of_eq hg⟩
  refine A0f ((F _ hKb (nsK hns)).run callerA [] s₁ H ⟨[.ref a],[]⟩ [.ref a] [.ref a] _ _ hr e0 (hbind s₁ (.ref a)) (.cons rfl .nil) (hsp H hO hS)) λr s' h=>?_;cases r with
  |error e=>exact(hCX H e s' h).elim
  |ok fl =>
   cases fl with
   |next=>exact False.elim h
   |brk=>exact False.elim h
   |cont=>exact False.elim h
   |ret u =>
    obtain⟨v,H',os,bare,un,hok',r',q⟩:=h;have q':v=.bl true:=q;subst q';obtain rfl:u=Value.bool true:=r';refine⟨rfl,OldK.of_keep λb o e=>?_,os,bare⟩;cases q:H b with
    |none=>exact un.keep b o e q (by intro z;exact absurd (show b∈([]:List Addr)from z) A6) A6
    |some u =>
     rcases hO b with z|⟨ob,xs,z⟩
     ·rw[q]at z;cases z
     ·have z2:=un.frzs b ob _ z;obtain⟨e1,_⟩:=hok b _ z;obtain⟨e2,_⟩:=hok' b _ z2;rw[e]at e1;cases e1;exact e2
 cases hk:K.lookup a with
 |some o =>
  have e:=KX a o hk;rw[ha]at e;cases e;refine core (λ_=>none) (λ_=>.inl rfl) (.inr ⟨_,vs.toArray,_,hk,rfl,rfl,rfl,by rw[D0,lenV];exact hl,by simpa using rv⟩) (λb u z=>by have z':(none:Option HO)=some u:=z;cases z') (λb z=>absurd rfl z) λz=>absurd rfl z
 |none =>
  refine core (λb=>if b=a then some (.frz {cls:=.type "list",data:=.seq vs.toArray} (.lst (ns.map V.int)))else none) (λb=>?_) (.inl (.inr ⟨{cls:=.type "list",data:=.seq vs.toArray},V2 rfl⟩)) (λb u z=>?_) (λb z=>?_) λ_=>hk
  ·by_cases hb:b=a
   ·exact .inr ⟨_,_,V2 hb⟩
   ·exact .inl (V0 hb)
  ·by_cases hb:b=a
   ·have z':=(V2 hb).symm.trans z;cases z';subst hb;exact⟨ha,by rw[B5];exact hl,vs,_,rv,ha⟩
   ·have z':=(V0 hb).symm.trans z;cases z'
  ·by_cases hb:b=a
   ·exact hb
   ·exact absurd (V0 hb) z
theorem Sl{l:PySem.W.OpenLaw}{n k:Nat}{q:Program}{loose:List Str}{XP:(Str->Option Value)->Heap->Prop}{YP:World->Heap->Prop}{d:DefRec}{K:Params->PySem.W.Frag}{CX:World->CXT}{sp:World->Sp}{x:Str}
  (hn:l.most=some n) (hn2:n<=sizeLine) (hdf:d.params.defaults=[]) (hr:CD k callerA)
  (hY:∀(w:World)(h:Heap),YP w h->(K w.params).In h)
  (F:∀(w:World)(mg:Str->Option Value)(fa:Addr)(h:Heap),(K w.params).In h->h.Ns mainGlobals mg->mg d.name=some (.ref fa) ->
   ∃fd:FuncData,(∀(s:Shared)(u:Value),BindsTo s fd ⟨[u],[]⟩ [(x,u)]) /\
    ∀base:Heap,(K w.params).In base->base.Ns mainGlobals mg->AJ l.prog w (K w.params) mg base (CX w) k fa fd [x] (sp w))
  (hsp:∀(w:World)(H:Hp)(a:Addr)(ns:List Int),ns.length<=n->Only H->SqL (K w.params) H a (ns.map V.int)->sp w [.ref a] H (λv _=>v=.bl true) λ_ _ _=>False)
  (hCX:∀(w:World)(H:Hp)(s:Shared)(e:Value)(s':Shared),CX w [] H s (λ_ _ _=>False) e s'->False) :
  PySem.W.WalkO q loose XP YP l.row.toRowW d [] (λf vs=>PySem.call f vs):=by
 refine Att.Re hn hdf λw s₀ s₁ mg mb fa o pm cd doc a vs ns G Y ho hd hcd hmg hobj hints hlen hg=>?_;have KX:=hY w _ Y;obtain⟨fd,hb,hF⟩:=F w mg fa _ KX G.T.g hmg;exact VQ KX G.T.g G.T.b G.T.builtins G.T.nolimit hg hobj hints (C8 hlen hn2) hr hF hb (λH hO hS=>hsp w H a ns hlen hO hS) λH e s'=>hCX w H s₁ e s'
end L2
/- THE LAST THEOREM (shape;LID,My.* are yours):
 My.Adr: a structure of the addresses that your layer names (classes,functions);My.Txt K t: a structure (Prop) of the equations over K;
 My.txt_mk:{K} {implicit addresses ..} (e1:nsIn K mainGlobals "law" = some (some (.ref f))) (e2:K.lookup f=some ⟨oc,od,.func (fnOf "law" "law" params body scope dV kV doc pm an cdv ct),sl⟩) (e3:codeIn K cdv "law" = true) ..:∃t,My.Txt K t
set_option maxRecDepth 100000 in
set_option maxHeartbeats 0 in
theorem PySem.Challenge.cw_LID_holds:PySem.Challenge.rw_LID.Holds:=by
 w_on;o_law;k_head;(case hw=>w_witness2)
 k_fill
 refine L2.Sl (l:=PySem.Challenge.rw_LID) (n:=63) (k:=40) (x:="script") (CX:=λw=>..) (sp:=λ_=>My.sp_law) rfl A3 rfl ⟨rfl,by decide,by decide⟩ (λw h Y=>PySem.W.kIn_of Y) ?F ?S ?C
 case F =>
  intro w mg fa h KX G hmg;have T:∃t,My.Txt (L2.KOf KX) t:=by
   dsimp only[L2.KOf]                          
   (case e1=>PySem.W.k_is)                    
   (case e2=>PySem.W.k_is)
   ..
  obtain⟨t,T⟩:=T;have e0:=hmg.symm.trans (V7 KX G T.law);cases e0                                       
 case S=>exact λw H a ns hl hO hS=>..
 case C=>exact ..
(the tactic k_is has no namespace: write k_is) -/
namespace L2
open PySem PySem.Spec PyProof.Rows
def AU(s:Stmt)(j:Nat):Stmt:=match s with
 |.ClassDef _ _ _ body _ _ _ _ _ _ _=>body.getD j (.Pass ⟨0,0,0,0⟩)
 |_=>.Pass ⟨0,0,0,0⟩
def JS(s:Stmt):Arguments:=match s with
 |.FunctionDef _ a _ _ _ _ _ _ _ _=>a
 |_=>{posonlyargs:=[],args:=[],vararg:=none,kwonlyargs:=[],kw_defaults:=[],kwarg:=none,defaults:=[]}
def GD(s:Stmt):List Stmt:=match s with
 |.FunctionDef _ _ b _ _ _ _ _ _ _=>b
 |_=>[]
def Ah(s:Stmt):Scope:=match s with
 |.FunctionDef _ _ _ _ _ _ sc _ _ _=>sc
 |_=>{kind:=.function,names:=[],isGenerator:=false,isCoroutine:=false}
abbrev CX0:CXT:=λ_ _ _ _ _ _=>False
abbrev E0:XK:=λ_ _ _=>False
theorem An{X:Cx}:Eb CX0 X E0:=λ_ _ _ _ _ _ _ h=>h.elim
structure Fun(K:PySem.W.Frag)(x qual:Str)(st:Stmt)(f:Addr)(fd:FuncData):Prop where
 ex:∃(oc:Value)(od:Option Addr)(kV doc pm:Value)(an:Option Addr)(cdv ct:Value)(osl:Array (Option Value)),
  fd=PySem.W.fnOf x qual (JS st) (GD st) (Ah st) .none kV doc pm an cdv ct/\K.lookup f=some ⟨oc,od,.func fd,osl⟩/\PySem.W.codeIn K cdv qual=true
 kp:keepIn K (.ref f)=true
section
variable{P:Program}{w:World}{K:PySem.W.Frag}{mg:Str->Option Value}{base:Heap}
theorem Fun.ok{x qual:Str}{st:Stmt}{f:Addr}{fd:FuncData}{N ps:List Str}{k:Nat}{sp:Sp}(F:Fun K x qual st f fd)(S:Au N ps (Ah st))(len:∀vs H Q E,sp vs H Q E->vs.length=ps.length)
  (hbody:∀(cdv:Value)(A:Around)(outer:List Env)(s:Shared)(H:Hp)(vs:List V)(Q:VK)(E:XK),CD k (A.deeper (envOfC qual (Ah st) s.heap.objs.size f cdv))->sp vs H Q E ->
   ∃t,PSs (JT CX0 P w K mg base N qual (Ah st) f cdv A outer s H E).nox (GD st) t/\t {nx:=λ_ H'=>Q .non H',rt:=Q} (Jq N vs) H):AJ P w K mg base CX0 (k+1) f fd ps sp:=by
 obtain⟨oc,od,kV,doc,pm,an,cdv,ct,osl,rfl,lk,hcd⟩:=F.ex;refine fn_of lk hcd S len λA outer s H vs Q E hr hsp=>?_;obtain⟨t,h,q⟩:=hbody cdv A outer s H vs Q E hr hsp;exact⟨t,h.nox,q⟩
theorem Fun.binds{x qual:Str}{st:Stmt}{f:Addr}{fd:FuncData}{ps:List Str}(F:Fun K x qual st f fd)
  (h:∀(kV doc pm:Value)(an:Option Addr)(cdv ct:Value)(us:List Value),us.length=ps.length->bindArgs (PySem.W.fnOf x qual (JS st) (GD st) (Ah st) .none kV doc pm an cdv ct) ⟨us,[]⟩=pure (ps.zip us)):Cu K fd ps []:=by
 obtain⟨oc,od,kV,doc,pm,an,cdv,ct,osl,rfl,lk,hcd⟩:=F.ex;exact .all (h kV doc pm an cdv ct)
theorem RV {x qual:Str} {st:Stmt} {f:Addr} {oc:Value} {od an:Option Addr} {osl:Array (Option Value)} {kV doc pm cdv ct:Value} (l:K.lookup f=some ⟨oc,od,.func (PySem.W.fnOf x qual (JS st) (GD st) (Ah st) .none kV doc pm an cdv ct),osl⟩)
  (c:PySem.W.codeIn K cdv qual=true) (k:keepIn K (.ref f)=true):Fun K x qual st f (PySem.W.fnOf x qual (JS st) (GD st) (Ah st) .none kV doc pm an cdv ct):=⟨⟨oc,od,kV,doc,pm,an,cdv,ct,osl,rfl,l,c⟩,k⟩
end
theorem FK{A:Around}{k:Nat}(hr:CD k A):A.units+1<cLine:=F6 (Nat.add_le_add_left (by decide:1<=64) _) hr.units
section
variable{X:Cx}
theorem pv(i:Nat){x:Str}{pos:Pos}(hN:X.N[i]?=some x:=by rfl)(hv:Vis X.env.scope x:=by first|exact Or.inl rfl|exact Or.inr (Or.inl rfl)|exact Or.inr (Or.inr rfl))(hd:(x==("__debug__" : Str))=false:=by decide)
  (hcd:(x==("__classdict__" : Str))=false:=by decide):PE X (.Name x pos) (FG i):=pe_var hN hv hd hcd
end
theorem Bb{A B:Prop}(h:B):if false=true then A else B:=by
 rw[V0 C6];exact h
theorem BT{A B:Prop}(h:A):if true=true then A else B:=by
 rw[V2 rfl];exact h
theorem IM{c A B:Prop}[Decidable c](h1:c->A)(h2:¬c->B):if c then A else B:=by
 by_cases h:c
 ·rw[V2 h];exact h1 h
 ·rw[V0 h];exact h2 h
theorem LT{c A B:Prop}[Decidable c](hc:c)(h:B):if(!decide c)=true then A else B:=by
 rw[V1 hc];exact Bb h
def AA(H H':Hp):Prop:=∀b o,H b=some o->H' b=some o
theorem AA.refl(H:Hp):AA H H:=λ_ _ h=>h
theorem AA.trans{H H1 H2:Hp}(a:AA H H1)(b:AA H1 H2):AA H H2:=λc o h=>b c o (a c o h)
theorem AA.seq{K:PySem.W.Frag}{H H':Hp}{a:Addr}{xs:List V}(e:AA H H')(h:SqL K H a xs):SqL K H' a xs:=by
 rcases h with (h|⟨o,h⟩)|h
 ·exact .inl (.inl (e _ _ h))
 ·exact .inl (.inr ⟨o,e _ _ h⟩)
 ·exact .inr h
structure EN(hid fs:List Addr)(h h':Heap):Prop where
 keep:∀b o,h.get? b=some o->b∉hid->h'.get? b=some o
 slot:∀b o,b∈fs->h.get? b=some o->∃sl,h'.get? b=some {o with slots:=sl}
 sub:∀b,b∈fs->b∈hid
def IU(a T:Addr)(cls fl:Value)(h:Heap):Prop :=
 ∃(oe:Obj)(vs:Array Value)(oT:Obj)(ts:Array Value),h.get? a=some oe/\oe.cls=cls/\oe.data=.fields vs/\vs[1]?=some (.ref T)/\vs[2]?=some .none/\T≠a/\h.get? T=some oT/\oT.data=.fields ts/\ts[3]?=some fl
def WG(a:Addr)(cls:Value)(h:Heap):Prop:=∃(oe:Obj)(vs:Array Value),h.get? a=some oe/\oe.cls=cls/\oe.data=.fields vs/\vs[1]?=some .none/\vs[2]?=some .none
def IV(a D:Addr)(h:Heap):Prop:=∃o,h.get? a=some o/\o.cls=.ref D/\∃vs,o.data=.fields vs/\vs[2]?=some .none
theorem IU.exc{a T D:Addr}{fl:Value}{h:Heap}(x:IU a T (.ref D) fl h):IV a D h:=by
 obtain⟨oe,vs,_,_,e1,e2,e3,_,e5,_⟩:=x;exact⟨oe,e1,e2,vs,e3,e5⟩
theorem IV.not{a D:Addr}{h:Heap}(x:IV a D h):∃o,h.get? a=some o/\o.cls=.ref D/\notCls o=true:=by
 obtain⟨o,e,c,vs,d,_⟩:=x;exact⟨o,e,c,by unfold notCls;rw[d]⟩
section
variable{M:Model}{A:Around}{E:Value->Shared->Prop}{s:Shared}{b0:Heap}{env:Env}{outer:List Env}{L a T:Addr}{cls fl:Value}{Q:Unit->Shared->Prop}
theorem On{oe:Obj}{vs:Array Value}{head:Value}{hn:Bool}(hfr:A.frames=some (env::outer))(hl:s.heap.FunFrames b0 (env::outer))(hf:env.frame=some L)(he:s.heap.get? a=some oe)(hd:oe.data=.fields vs)(h2:vs[2]?=some .none)
  (k:∀h' T',IU a T' oe.cls (rawInt L) h'->s.heap.get? T'=none->EN (a::frs (env::outer)) (frs (env::outer)) s.heap h'->Q () {s with heap:=h'}) :
  wpAny M A (do let x <-frameOf env;let pl <-entryPlaceOf L hn;let b <-EntryCells.newEntry head x .none (rawInt L) .none pl;setField (.ref a) 1 b) Q E s:=by
 refine U9 (wpAny_frameOf_fun hfr hl hf λg hs=>U9 (wpAny_entryPlaceOf λpl hp=>?_));unfold EntryCells.newEntry newFields;refine U9 (K6 ?_ (hp.sizeOk5 _ _ _ _ _));have na:a∉frs (env::outer):=λz=>by
  obtain⟨_,o,ho,hn⟩:=hl.mem z;rw[he]at ho;cases ho;exact hn vs hd
 have e1:g.get? a=some oe:=(hs.2.1 a na).trans he;have sz:1<vs.size:=by
  have:=(R7.mp h2).1;omega
 have nT:g.objs.size≠a:=R5 (C4 e1);have gn:∀b o,s.heap.get? b=some o->∃o',g.get? b=some o':=λb o q=>by
  by_cases z:b∈frs (env::outer)
  ·obtain⟨sl,e⟩:=hs.2.2 b o q;exact⟨_,e⟩
  ·exact⟨o,(hs.2.1 b z).trans q⟩
 refine K0 (B7 _ e1) hd sz (k _ g.objs.size ⟨_,_,_,_,P3 _ (B7 _ e1) (X6 (Z2 hd _)),Obj.cls_mapFields _ _,Z2 hd _,?_,?_,nT,(M0 _ _ nT.symm).trans (C7 _ rfl),rfl,?_⟩ ?_ ?_)
 ·simp[sz]
 ·rw[Array.getElem?_setIfInBounds_ne A3];exact h2
 ·first|(simp;done)|(rcases hp with rfl|⟨_,_,_,_,_,_,_,rfl⟩<;>simp)
 ·cases q:s.heap.get? g.objs.size with
  |none=>rfl
  |some o =>
   obtain⟨o',q'⟩:=gn _ _ q;exact absurd (C4 q') (N7 _)
 ·have kp:∀(x:Obj)(f:Obj->Obj) b o,g.get? b=some o->b≠a->((g.push x).update a f).get? b=some o:=λx f b o q z=>(M0 _ _ (V5 z)).trans (B7 _ q);refine⟨λb o q z=>kp _ _ b o ((hs.2.1 b λm=>z (.tail _ m)).trans q) λy=>z (y▸.head _),λb o m q=>?_,λb m=>.tail _ m⟩;obtain⟨sl,e⟩:=hs.2.2 b o q;exact⟨sl,kp _ _ b _ e λy=>na (y▸m)⟩
theorem Qx(hfr:A.frames=some (env::outer))(hl:s.heap.FunFrames b0 (env::outer))(hf:env.frame=some L)(hx:WG a cls s.heap\/IU a T cls .none s.heap)
  (k:∀h' T',IU a T' cls (rawInt L) h'->s.heap.get? T'=none->EN (a::T::frs (env::outer)) (frs (env::outer)) s.heap h'->Q () {s with heap:=h'}):wpAny M A (noteFrame (.ref a) env) Q E s:=by
 unfold noteFrame;simp only[hf];rcases hx with ⟨oe,vs,e1,rfl,e3,e4,e5⟩|⟨oe,vs,oT,ts,e1,rfl,e3,e4,e5,e6,e7,e8,e9⟩
 ·refine U9 (Y6 e1 e3 e4 ?_);rw[V0 A3];refine On hfr hl hf e1 e3 e5 λh' T' f n nr=>k h' T' f n ⟨λb o q z=>nr.keep b o q λm=>z ?_,nr.slot,λb m=>.tail _ (.tail _ m)⟩;rcases B8.mp m with y|y
  ·exact y▸.head _
  ·exact .tail _ (.tail _ y)
 ·refine U9 (Y6 e1 e3 e4 ?_);rw[V2 (show(Value.ref T != Value.none)=true from by simp)];refine U9 (Y6 e7 e8 e9 ?_);rw[V0 (by simp[rawInt])];refine U9 (K0 e7 e8 (R7.mp e9).1 ?_);have ot:∀b,b≠T->(s.heap.update T (Obj.mapFields (·.setIfInBounds 3 Value.none))).get? b=s.heap.get? b:=λb z=>M0 _ _ (V5 z);have nf:∀b o,s.heap.get? b=some o->(∀vs,o.data≠.fields vs)->b≠T:=λb o q d z=>by
   rw[z,e7]at q;cases q;exact d ts e8
  have fT:∀b,b∈frs (env::outer)->b≠T:=λb m=>by
   obtain⟨_,o,ho,d⟩:=hl.mem m;exact nf b o ho d
  refine On (s:={s with heap:=s.heap.update T (Obj.mapFields (·.setIfInBounds 3 Value.none))}) hfr (hl.of_keeps λb o q d=>⟨o,(ot b (nf b o q d)).trans q,rfl⟩) hf ((ot a (V5 e6)).trans e1) e3 e5 λh' T' f n nr=>k h' T' f ?_ ⟨λb o q z=>?_,λb o m q=>nr.slot b o m ((ot b (fT b m)).trans q),λb m=>.tail _ (.tail _ m)⟩
  ·by_cases z:T'=T
   ·rw[z,P3 _ e7 (X6 (Z2 e8 _))]at n;cases n
   ·rw[<-ot T' z];exact n
  ·refine nr.keep b o ((ot b λy=>z (y▸.tail _ (.head _))).trans q) λm=>z ?_;rcases B8.mp m with y|y
   ·exact y▸.head _
   ·exact .tail _ (.tail _ y)
theorem GB {fr:Option Addr} (hx:IU a T cls fl s.heap) (k:∀h',IU a T cls (fr.elim .none λf=>rawInt f) h'->(∀b o,s.heap.get? b=some o->b≠T->h'.get? b=some o)->Q () {s with heap:=h'}):wpAny M A (setFlight (.ref a) fr) Q E s:=by
 obtain⟨oe,vs,oT,ts,e1,rfl,e3,e4,e5,e6,e7,e8,e9⟩:=hx;unfold setFlight;refine U9 (Y6 e1 e3 e4 ?_);rw[V2 (show(Value.ref T != Value.none)=true from by simp)];have z:=(R7.mp e9).1;refine K0 e7 e8 z (k _ ⟨oe,vs,_,_,(M0 _ _ e6).trans e1,rfl,e3,e4,e5,e6,P3 _ e7 (X6 (Z2 e8 _)),Z2 e8 _,by simp[z]⟩ λb o q y=>(M0 _ _ (V5 y)).trans q)
theorem Od(hfr:A.frames=some (env::outer))(hl:s.heap.FunFrames b0 (env::outer))(hf:env.frame=some L)(hx:WG a cls s.heap\/IU a T cls .none s.heap)
  (k:∀h' T',IU a T' cls .none h'->s.heap.get? T'=none->EN (a::T::frs (env::outer)) (frs (env::outer)) s.heap h'->Q () {s with heap:=h'}):wpAny M A (leaving env (.ref a)) Q E s:=by
 unfold leaving;refine U9 (Qx hfr hl hf hx λh1 T' f n nr=>GB (s:={s with heap:=h1}) f λh2 f2 kp=>k h2 T' f2 n ⟨λb o q z=>kp b o (nr.keep b o q z) λy=>?_,λb o m q=>?_,nr.sub⟩)
 ·rw[y,n]at q;cases q
 ·obtain⟨sl,e⟩:=nr.slot b o m q;exact⟨sl,kp b _ e λy=>by rw[y,n]at q;cases q⟩
end
theorem Bz.be{P:Program}{w:World}{H:Hp}{h:Heap}{a:Addr}{o:HO}(x:Bz P w H h a o):∃u,h.get? a=some u:=by
 cases o with
 |lst xs=>obtain⟨_,_,_,_,e⟩:=x;exact⟨_,e⟩
 |tup xs=>obtain⟨_,_,_,u,e,_⟩:=x;exact⟨u,e⟩
 |dK kvs=>obtain⟨_,_,_,_,u,_,_,e,_⟩:=x;exact⟨u,e⟩
 |dT kvs=>obtain⟨_,_,_,_,u,_,_,e,_⟩:=x;exact⟨u,e⟩
 |set S n=>obtain⟨u,_,_,_,e,_⟩:=x;exact⟨u,e⟩
 |ins C dx fs=>obtain⟨_,_,_,e,_⟩:=x;exact⟨_,e⟩
 |own y=>exact x
 |xd fs=>obtain⟨_,⟨u,_,_,e,_⟩,_⟩:=x;exact⟨u,e⟩
 |rng lo hi=>obtain⟨_,_,_,e⟩:=x;exact⟨_,e⟩
 |frz ob u=>exact⟨_,x.1⟩
 |tbl ps=>exact⟨_,x⟩
 |met f y=>exact⟨_,x⟩
 |ext φ=>exact x.2.1
theorem Na{P:Program}{w:World}{H:Hp}{h h':Heap}{hid fs:List Addr}(hok:HOk P w H h)(n:EN hid fs h h')(free:∀b,b∈hid->H b=none):HOk P w H h':=λb u q =>
 (hok b u q).stay (λc v hc r=>n.keep c v r λm=>by
  have z:=free c m;rcases hc with rfl|hc
  ·rw[q]at z;cases z
  ·rw[hc]at z;cases z) (λ_ z=>z) λ_ _ z=>z
theorem OE{gs hid fs:List Addr}{H0 H:Hp}{g h h':Heap}(u:Un gs [] H0 H g h)(n:EN hid fs h h')(out:∀b,b∈hid->b∈fs\/g.get? b=none)(inn:∀b,b∈fs->b∈gs\/g.get? b=none):Un gs [] H0 H g h' where
 keep:=λb o q m hb hx=>n.keep b o (u.keep b o q m hb hx) λz=>by
  rcases out b z with y|y
  ·rcases inn b y with y|y
   ·exact hb y
   ·rw[q]at y;cases y
  ·rw[q]at y;cases y
 slot:=λb o q m hb hx=>by
  obtain⟨sl,e⟩:=u.slot b o q m hb hx;by_cases z:b∈hid
  ·rcases out b z with y|y
   ·obtain⟨sl',e'⟩:=n.slot b _ y e;exact⟨sl',e'⟩
   ·rw[q]at y;cases y
  ·exact⟨sl,n.keep b _ e z⟩
 free:=u.free
 there:=λb o q hx=>by
  obtain⟨o',e⟩:=u.there b o q hx;by_cases z:b∈hid
  ·rcases out b z with y|y
   ·obtain⟨sl',e'⟩:=n.slot b _ y e;exact⟨_,e'⟩
   ·rw[q]at y;cases y
  ·exact⟨_,n.keep b _ e z⟩
 tups:=u.tups
 frzs:=u.frzs
 tbls:=u.tbls
abbrev FlyT(a T:Addr)(cls:Value)(h:Heap):Prop:=IU a T cls .none h
def CXE(P:Program)(w:World):CXT:=λouter H s E e s' =>
 ∃(a T:Addr)(cls:Value)(H':Hp),e=.ref a/\s'.os=s.os/\AllBare s'.gens/\Un (frs outer) [] H H' s.heap s'.heap/\HOk P w H' s'.heap /\
  FlyT a T cls s'.heap/\s.heap.get? a=none/\s.heap.get? T=none/\H' a=none/\H' T=none/\E cls none H'
section
variable{P:Program}{w:World}{K:PySem.W.Frag}{mg:Str->Option Value}{base:Heap}{N:List Str}{qual:Str}{scope:Scope}{f:Addr}{cd:Value}{A:Around}{outer:List Env}{s:Shared}{H:Hp}{E:XK}
def WF(X:Cx)(E:XK):Prop:=∀(pins:List (Addr×Obj))(σ:St)(H:Hp)(s:Shared)(e:Addr)(cls:Value)(args:List Value)(h':Heap),Inv X pins σ H s->Heap.MadeExcOf s.heap h' e cls args->E cls none H->X.xe (.ref e) {s with heap:=h'}
theorem Inv.gk{X:Cx}{pins:List (Addr×Obj)}{σ:St}{H:Hp}{s:Shared}(I:Inv X pins σ H s)(hx:X.ex=[]):∀b o,X.s₀.heap.get? b=some o->∃o',s.heap.get? b=some o':=λb o q=>I.base.there b o q (by rw[hx];simp)
theorem Inv.gn{X:Cx}{pins:List (Addr×Obj)}{σ:St}{H:Hp}{s:Shared}(I:Inv X pins σ H s)(hx:X.ex=[]){b:Addr}(q:s.heap.get? b=none):X.s₀.heap.get? b=none:=by
 cases e:X.s₀.heap.get? b with
 |none=>rfl
 |some o =>
  obtain⟨o',e'⟩:=I.gk hx b o e;rw[q]at e';cases e'
theorem Inv.ownNew{X:Cx}{pins:List (Addr×Obj)}{σ:St}{H:Hp}{s:Shared}(I:Inv X pins σ H s):X.s₀.heap.get? X.env.locals=none:=O6 I.ok.above
theorem Inv.frsOut{X:Cx}{pins:List (Addr×Obj)}{σ:St}{H:Hp}{s:Shared}(I:Inv X pins σ H s):∀b,b∈frs X.stack->b∈frs X.outer\/X.s₀.heap.get? b=none:=λb hb=>by
 rcases B8.mp (I.stkSub b hb)with z|z
 ·right;rw[z];exact I.ownNew
 ·exact .inl z
theorem Mg:WF (JT (CXE P w) P w K mg base N qual scope f cd A outer s H E) E:=by
 intro pins σ H1 s1 e cls args h' I hx hE;obtain⟨t,e1,_⟩:=hx.there;refine Od (s:={s1 with heap:=h'}) (T:=e) I.ok.frames (I.stack.of_keeps λb o q d=>⟨o,hx.keeps b o q,rfl⟩) rfl (.inl ⟨_,_,e1,rfl,rfl,rfl,rfl⟩) λh2 T fl n nr=>?_;have h1:∀b o,s1.heap.get? b=some o->b≠e:=λb o q z=>by
  rw[z,hx.new]at q;cases q
 have h3:∀b o,s1.heap.get? b=some o->b≠T:=λb o q z=>by
  have:=hx.keeps b o q;rw[z,show h'.get? T=none from n]at this;cases this
 have he:∀b o,s1.heap.get? b=some o->b≠e/\b≠T:=λb o q=>⟨h1 b o q,h3 b o q⟩
 have nr':EN (frs (JT (CXE P w) P w K mg base N qual scope f cd A outer s H E).stack) (frs (JT (CXE P w) P w K mg base N qual scope f cd A outer s H E).stack) s1.heap h2:=⟨λb o q z=>nr.keep b o (hx.keeps b o q) λm=>by
   rcases B8.mp m with y|y
   ·exact(he b o q).1 y
   ·rcases B8.mp y with y|y
    ·exact(he b o q).1 y
    ·exact z y,λb o m q=>nr.slot b o m (hx.keeps b o q),λ_ z=>z⟩
 have hn:∀b,(∀o,s1.heap.get? b≠some o)->s.heap.get? b=none/\H1 b=none:=λb z=>⟨I.gn rfl (by
  cases q:s1.heap.get? b with
  |none=>rfl
  |some o=>exact absurd q (z o)),by
  cases q:H1 b with
  |none=>rfl
  |some u =>
   obtain⟨v,y⟩:=(I.hok b u q).be;exact absurd y (z v)⟩
 have hE1:=hn e λo q=>(he e o q).1 rfl;have hT1:=hn T λo q=>(he T o q).2 rfl;exact⟨e,T,cls,H1,rfl,I.os,I.bare,OE I.base nr' (λb z=>.inl z) I.frsOut,Na I.hok nr' I.stkFree,fl,hE1.1,hT1.1,hE1.2,hT1.2,hE⟩
theorem SK:Eb (CXE P w) (JT (CXE P w) P w K mg base N qual scope f cd A outer s H E) E:=by
 intro pins σ H1 s1 e s' I h;obtain⟨a,T,cls,H',rfl,os,bare,un,hok,fl,na,nT,ha,hT,hE⟩:=h;have J:Inv (JT (CXE P w) P w K mg base N qual scope f cd A outer s H E) pins σ H' s':=I.call' (ch:=[]) os un hok bare (λb z=>absurd z A6);refine Od J.ok.frames J.stack rfl (.inr fl) λh2 T2 fl2 n2 nr=>?_;have ga:=I.gn rfl na;have gT:=I.gn rfl nT;have hid:∀b,b∈a::T::frs (JT (CXE P w) P w K mg base N qual scope f cd A outer s H E).stack->b∈frs (JT (CXE P w) P w K mg base N qual scope f cd A outer s H E).stack\/(s.heap.get? b=none/\H' b=none):=λb z=>by
  rcases B8.mp z with rfl|z
  ·exact .inr ⟨ga,ha⟩
  ·rcases B8.mp z with rfl|z
   ·exact .inr ⟨gT,hT⟩
   ·exact .inl z
 have nT2:H' T2=none:=by
  cases q:H' T2 with
  |none=>rfl
  |some u =>
   obtain⟨v,y⟩:=(J.hok T2 u q).be;rw[n2]at y;cases y
 refine⟨a,T2,cls,H',rfl,J.os,J.bare,OE J.base nr (λb z=>(hid b z).imp id (·.1)) J.frsOut,Na J.hok nr (λb z=>?_),fl2,ga,J.gn rfl n2,ha,nT2,hE⟩;rcases hid b z with y|y
 ·exact J.stkFree b y
 ·exact y.2
theorem Fun.okE{x:Str}{st:Stmt}{fd:FuncData}{ps:List Str}{k:Nat}{sp:Sp}(F:Fun K x qual st f fd)(S:Au N ps (Ah st))(len:∀vs H Q E,sp vs H Q E->vs.length=ps.length)
  (hbody:∀(cdv:Value)(A:Around)(outer:List Env)(s:Shared)(H:Hp)(vs:List V)(Q:VK)(E:XK),CD k (A.deeper (envOfC qual (Ah st) s.heap.objs.size f cdv))->sp vs H Q E ->
   ∃t,PSs (JT (CXE P w) P w K mg base N qual (Ah st) f cdv A outer s H E) (GD st) t/\t {nx:=λ_ H'=>Q .non H',rt:=Q} (Jq N vs) H):AJ P w K mg base (CXE P w) (k+1) f fd ps sp:=by
 obtain⟨oc,od,kV,doc,pm,an,cdv,ct,osl,rfl,lk,hcd⟩:=F.ex;exact fn_of lk hcd S len λA outer s H vs Q E hr hsp=>hbody cdv A outer s H vs Q E hr hsp
end
def vmro:List Value:=[.type "ValueError",.type "Exception",.type "BaseException",.type "object"]
abbrev FR(K:PySem.W.Frag)(C:Addr):Prop:=excIn K C vmro "ValueError.__new__" = true
theorem JQ{K:PySem.W.Frag}{h:Heap}{C:Addr}{bmB:List Value}{newId:String}(X:K.In h)(q:excIn K C bmB newId=true) :
  ∃(bm:List Value)(N:Addr)(nm qn:Str)(bs:List Value)(hd:Bool)(sn:List Str)(sub:List Value)(ab:Bool)(col:Option Bool)(dd:Option Addr)(k0 k1 k2 k3 k5:Option Value)(mN:Str->Option Value),
   h.get? C=some (excClassObj nm qn C N bs bm hd sn sub ab col dd k0 k1 k2 k3 k5 newId)/\h.Ns N mN/\mN "__init__" = none/\OwnTail h bmB bm/\∀v,mroIn K C v=some ((Value.ref C::bm).contains v):=by
 unfold excIn at q;split at q
 case h_2=>cases q
 rename_i dd cd sl ho;split at q
 case h_2=>cases q
 rename_i C' bm k0 k1 k2 k3 n k5 hm hs;simp only[O0,beq_iff_eq,Bool.not_eq_true']at q;obtain⟨⟨⟨⟨⟨q1,q2⟩,q3⟩,q4⟩,q5⟩,q6⟩:=q;subst q1 q2;have mro:∀v,mroIn K C' v=some ((Value.ref C'::bm).contains v):=λv=>by
  unfold mroIn clsIn;rw[ho];show(if cd.mro.isEmpty=true then none else some (cd.mro.contains v))=_;rw[hm];rfl
 obtain⟨nm,bs,mr,ns,qn,hd,sn,sub,ab,col,del⟩:=cd;dsimp only at hm q3 q5 q6;subst hm;subst q3;obtain⟨l⟩:=sl;dsimp only at hs;subst hs;exact⟨bm,ns,nm,qn,bs,hd,sn,sub,ab,col,dd,k0,k1,k2,k3,k5,_,X _ _ ho,.of_isNs (PySem.W.isNs_of_in X q5),PySem.W.nsMap_none_of_in X q5 q6,PySem.W.tail_of_in X q4,mro⟩
section
variable{X:Cx}{C:Addr}{x:Str}{np cpos pos:Pos}{e:Expr}{es:List Expr}{t:TA}{E:XK}
def tRaise(C:Addr)(E:XK)(t:TA):TS:=λ_ σ H=>t σ H λvs H1=>vs.length<=100/\E (.ref C) none H1
theorem JA(hx:WF X E)(hc:X.calm=true)(hg:Gl X x)(hm:X.mg x=some (.ref C))(hC:FR X.K C)(ha:PA X (e::es) t)
  (hdb:(x==("__debug__" : Str))=false:=by decide) (he:starEach (e::es) X.env=(false,eval e X.env)::starEach es X.env:=by rfl) (hpl:(backTo cpos (starEach es X.env)).any (·.1)=false:=by rfl) :
  PS X (.Raise (some (.Call (.Name x np) (e::es) [] cpos)) none pos) (tRaise C E t):=by
 intro pins s σ H D I h;obtain⟨bm,N,nm,qn,bs,hd,sn,sub,ab,col,dd,k0,k1,k2,k3,k5,mN,hO,hN,hi,hT,hM⟩:=JQ I.mod.kin hC;have hbase:bm.contains (.type "BaseException")=true:=hT.hasType A3;refine wpAny_Raise_call_subU (C:=C) (nm:=nm) (q:=qn) (N:=N) (bs:=bs) (bm:=bm) (hdct:=hd) (sn:=sn) (sub:=sub) (ab:=ab) (col:=col) (dd:=dd) (k0:=k0) (k1:=k1) (k2:=k2) (k3:=k3) (k5:=k5) (newId:="ValueError.__new__") (mN:=mN)
  PySem.F.excBase_ValueError A3 PySem.F.excBase_ValueError hbase (I.ok.hd hc) (by rw[he];show(false || (backTo cpos (starEach es X.env)).any (·.1))=false;rw[hpl];rfl) hi (Em I hg hm ⟨rfl,?_⟩ hdb)
 have hA:=ha cpos pins s σ H _ I h;rw[he]at hA⊢;refine A1a (thn hA λus s1 ⟨vs,H1,I1,r1,hl,q1⟩=>?_);have k:∀b o,X.base.get? b=some o->s1.heap.get? b=some o:=I1.bk;refine⟨rfl,?_,k _ _ hO,hN.keeps k,hT.keeps k,λh' e' hx'=>hx pins σ H1 s1 e' _ _ h' I1 hx' q1⟩;show us.length<=sizeLine;rw[<-r1.length];exact C8 hl A3
end
def JV(CX:CXT)(X:Cx)(E:XK)(S:St->Prop):Prop:=∀(pins:List (Addr×Obj))(σ:St)(H:Hp)(s:Shared)(e:Value)(s':Shared),S σ->Inv X pins σ H s->CX X.stack H s E e s'->X.xe e s'
def UH(S:St->Prop)(sp:Sp)(dvs:List V)(E:XK)(t:TA):TE:=fun σ H Q=>S σ/\t σ H λvs H1=>sp (vs++dvs) H1 Q E
section
variable{X:Cx}{CX:CXT}{k:Nat}{f:Addr}{fd:FuncData}{ps:List Str}{sp:Sp}{dvs:List V}{ds:List Value}{E:XK}{x:Str}{p pos:Pos}{e:Expr}{es:List Expr}{t:TA}{S:St->Prop}
theorem run_fnS{pins:List (Addr×Obj)}{σ:St}{H:Hp}{s:Shared}{Q:VK}{us:List Value}{vs:List V}(F:AJ X.prog X.w X.K X.mg X.base CX k f fd ps sp)(hr:CD k X.A)(hb:Cu X.K fd ps ds)(hd:AM dvs ds)(hx:JV CX X E S)
  (hS:S σ) (I:Inv X pins σ H s) (r:AM vs us) (h:sp (vs++dvs) H Q E):wpAny (model X.prog X.w) X.A (call (.ref f) us) (EP X pins σ Q) X.xe s:=by
 have r2:AM (vs++dvs) (us++ds):=r.append hd;have hl:(us++ds).length=ps.length:=r2.length.symm.trans (F.len _ _ _ _ h);refine wpAny_call (A0f (F.run X.A X.stack s H ⟨us,[]⟩ (us++ds) (vs++dvs) Q E hr I.env0 (hb s us I.kIn hl) r2 h) ?_);intro r s' hq;rcases r with e|(_|_|_|_)
 ·exact hx pins σ H s e s' hS I hq
 all_goals first
  |exact I.after hq
  |exact hq.elim
theorem Vi(F:AJ X.prog X.w X.K X.mg X.base CX k f fd ps sp)(hr:CD k X.A)(hg:Gl X x)(hm:X.mg x=some (.ref f))(hk:keepIn X.K (.ref f)=true)(hb:Cu X.K fd ps ds)(hd:AM dvs ds)(hx:JV CX X E S)
  (ha:PA X (e::es) t) (hdb:(x==("__debug__" : Str))=false:=by decide) (he:starEach (e::es) X.env=(false,eval e X.env)::starEach es X.env:=by rfl) (hpl:(backTo pos (starEach es X.env)).any (·.1)=false:=by rfl) :
  PE X (.Call (.Name x p) (e::es) [] pos) (UH S sp dvs E t):=by
 intro pins s σ H Q I h;obtain⟨hS,h⟩:=h;refine Z4 (Em I hg hm ?_ hdb);refine X7 (h₀:=X.base) I.ok.mod.kin hk ?_ he hpl;exact thn (ha pos pins s σ H _ I h) λus s1 ⟨vs,H1,I1,r,q⟩=>⟨I1.kIn,run_fnS F hr hb hd hx hS I1 r q⟩
end
theorem Inv.re{X:Cx}{pins pins2 pn2:List (Addr×Obj)}{σ:St}{H:Hp}{s:Shared}{A2:Around}{c2:Bool}{xe2:Value->Shared->Prop}(I:Inv X pins σ H s)(hd:c2=true->A2.handled=none)(hf:A2.frames=X.A.frames)
  (hp:∀p,p∈pn2++pins2->p∈X.pn++pins):Inv {X with A:=A2,calm:=c2,xe:=xe2,pn:=pn2} pins2 σ H s :=
 ⟨⟨I.ok.mod,I.ok.kind,I.ok.glob,I.ok.blt,I.ok.above,I.ok.inj,I.ok.has,I.ok.cab,hd,hf.trans I.ok.frames,I.ok.stk,I.ok.exf,I.ok.bs,I.ok.bsz,I.ok.noex,I.ok.exfs,I.ok.funs,I.ok.frf⟩,
  I.os,I.bare,I.base,I.loc,I.cell,I.free,I.freeC,λp z=>I.pin p (hp p z),I.hok,I.len⟩
theorem Inv.un_re{X:Cx}{pins pins2 pn2:List (Addr×Obj)}{σ:St}{H:Hp}{s:Shared}{A2:Around}{c2:Bool}{xe2:Value->Shared->Prop}(I:Inv {X with A:=A2,calm:=c2,xe:=xe2,pn:=pn2} pins2 σ H s)(hd:X.calm=true->X.A.handled=none)
  (hf:X.A.frames=A2.frames) (hp:∀p,p∈X.pn++pins->p∈pn2++pins2):Inv X pins σ H s :=
 ⟨⟨I.ok.mod,I.ok.kind,I.ok.glob,I.ok.blt,I.ok.above,I.ok.inj,I.ok.has,I.ok.cab,hd,hf.trans I.ok.frames,I.ok.stk,I.ok.exf,I.ok.bs,I.ok.bsz,I.ok.noex,I.ok.exfs,I.ok.funs,I.ok.frf⟩,
  I.os,I.bare,I.base,I.loc,I.cell,I.free,I.freeC,λp z=>I.pin p (hp p z),I.hok,I.len⟩
theorem SP.map{X Y:Cx}{p q:List (Addr×Obj)}{D:JX}{f:Flow}{s:Shared}(k:∀σ H,Inv X p σ H s->Inv Y q σ H s)(h:SP X p D f s):SP Y q D f s:=by
 cases f with
 |next=>obtain⟨σ',H',I,z⟩:=h;exact⟨σ',H',k _ _ I,z⟩
 |brk=>obtain⟨σ',H',I,z⟩:=h;exact⟨σ',H',k _ _ I,z⟩
 |cont=>obtain⟨σ',H',I,z⟩:=h;exact⟨σ',H',k _ _ I,z⟩
 |ret u=>obtain⟨v,σ',H',I,r,z⟩:=h;exact⟨v,σ',H',k _ _ I,r,z⟩
def FJ(a D:Addr):HO:=.ext (IV a D)
theorem QO{P:Program}{w:World}{H:Hp}{h:Heap}{a D:Addr}(e:IV a D h):Bz P w H h a (FJ a D):=by
 obtain⟨o,e,r⟩:=e;exact⟨⟨o,e,r⟩,⟨o,e⟩,λh1 h2 ⟨o1,e1,r1⟩ k=>⟨o1,k _ e1,r1⟩⟩
theorem Inv.track{X:Cx}{pins:List (Addr×Obj)}{σ:St}{H:Hp}{s:Shared}{a:Addr}{o:HO}(I:Inv X pins σ H s)(ha:H a=none)(h0:X.s₀.heap.get? a=none)(hb:X.base.get? a=none)(hL:X.env.locals≠a)(hc:∀x c,X.env.cells.lookup x=some c->c≠a)
  (hp:∀p,p∈X.pn++pins->p.1≠a) (hs:∀b,b∈X.fs->b≠a) (new:Bz X.prog X.w (upd H a o) s.heap a o):Inv X pins σ (upd H a o) s:=by
 have ne:∀b u,H b=some u->b≠a:=λb u q z=>by rw[z,ha]at q;cases q
 refine⟨I.ok,I.os,I.bare,⟨I.base.keep,I.base.slot,λb u q n x=>?_,I.base.there,λb xs q=>?_,λb u v q=>?_,λb ps q=>?_⟩,I.loc,I.cell,?_,λx c q=>?_,λp z=>?_,λb u q=>?_,I.len⟩
 ·rw[Ar (λz=>by rw[z,h0]at q;cases q)];exact I.base.free b u q n x
 ·have z:=I.base.tups b xs q;rw[Ar (ne _ _ z)];exact z
 ·have z:=I.base.frzs b u v q;rw[Ar (ne _ _ z)];exact z
 ·obtain⟨m,z⟩:=I.base.tbls b ps q;exact⟨m,by rw[Ar (ne _ _ z)];exact z⟩
 ·rw[Ar hL];exact I.free
 ·rw[Ar (hc x c q)];exact I.freeC x c q
 ·obtain⟨e,n,r⟩:=I.pin p z;exact⟨e,by rw[Ar (hp p z)];exact n,r⟩
 ·by_cases z:b=a
  ·subst z;rw[Af]at q;cases q;exact new
  ·rw[Ar z]at q;exact(I.hok b u q).stay (λc v _ r=>r) (λc r=>by rw[Ar (ne _ _ r)];exact r) λc xs r=>by rw[Ar (ne _ _ r)];exact r
theorem Inv.gone{X:Cx}{pins:List (Addr×Obj)}{σ:St}{H:Hp}{s:Shared}{h':Heap}{n:Str}{i:Nat}{v:Option Value}{m:Str->Option Value}{tk:Nat}(I:Inv X pins σ H s)(hN:X.N.Nodup)(hi:X.N[i]?=some n)(hl:X.env.scope.names.lookup n=some .local)
  (hl0:∀(i:Nat)(x:Str)(v:V),X.N[i]?=some x->σ[i]?=some (some v)->Vis X.env.scope x->∃u,AR v u/\Look X.env s.heap m x u) (hn':h'.Ns X.env.locals (λx=>if x=n then v else m x)) (sb:Heap.SameBut X.env.locals s.heap h'):Inv X pins (σ.set i none) H {s with heap:=h',toks:=tk}:=by
 have neL:∀b o,X.s₀.heap.get? b=some o->b≠X.env.locals:=λb o e=>F1 (D8 (C4 e) I.ok.above);refine⟨I.ok,I.os,I.bare,⟨λb o e z hb hx=>?_,λb o e z hb hx=>?_,I.base.free,λb o e hx=>?_,I.base.tups,I.base.frzs,I.base.tbls⟩,⟨_,hn',λj y v' e1 e2 e3=>?_⟩,λy c e=>?_,I.free,I.freeC,λp hp=>?_,λb u q=>?_,by simpa using I.len⟩
 ·exact(sb.2 b (neL b o e)).trans (I.base.keep b o e z hb hx)
 ·obtain⟨sl,q⟩:=I.base.slot b o e z hb hx;exact⟨sl,(sb.2 b (neL b o e)).trans q⟩
 ·obtain⟨o',q⟩:=I.base.there b o e hx;exact⟨o',(sb.2 b (neL b o e)).trans q⟩
 ·by_cases hj:j=i
  ·subst hj;rw[S8 (by rw[I.len];exact(B6.mp hi).1)]at e2;cases e2
  ·rw[U1 (V5 hj)]at e2;obtain⟨u,r,l⟩:=hl0 j y v' e1 e2 e3;refine⟨u,r,?_⟩;have ny:y≠n:=λz=>hj (MN hN e1 (z▸hi));rcases l with ⟨k,q⟩|⟨k,c,q,z⟩
   ·exact .inl ⟨k,by simp[ny,q]⟩
   ·exact .inr ⟨k,c,q,z.sameBut sb (I.cne y c q)⟩
 ·obtain⟨w',z⟩:=I.cell y c e;exact⟨w',z.sameBut sb (I.cne y c e)⟩
 ·obtain⟨e,z,ne,r⟩:=I.pin p hp;exact⟨(sb.2 p.1 ne).trans e,z,ne,r⟩
 ·have ne:∀c v,H c=some v->c≠X.env.locals:=λc v q z=>by rw[z,I.free]at q;cases q
  refine(I.hok b u q).stay (λc v hc r=>(sb.2 c ?_).trans r) (λ_ z=>z) λ_ _ z=>z;rcases hc with rfl|hc
  ·exact ne _ _ q
  ·exact ne _ _ hc
theorem Om{K:PySem.W.Frag}{M:Model}{A:Around}{E:Value->Shared->Prop}{s:Shared}{e C D:Addr}{oe:Obj}{Q:Bool->Shared->Prop}(X:K.In s.heap)(hC:FR K C)(hD:FR K D)(hs:mroIn K D (.ref C)=some true)
  (he:s.heap.get? e=some oe) (hcls:oe.cls=.ref D) (hq:Q true s):wpAny M A (excMatches (.ref e) (.ref C)) Q E s:=by
 obtain⟨h,g,d,t,os⟩:=s;obtain⟨bm,N,nm,qn,bs,hd,sn,sub,ab,col,dd,k0,k1,k2,k3,k5,mN,hO,hN,hi,hT,hM⟩:=JQ X hD;have hbase:bm.contains (.type "BaseException")=true:=hT.hasType A3;by_cases z:D=C
 ·subst z;exact wpAny_excMatches_sub_self hO he hcls hbase hq
 ·obtain⟨bm',N',nm',qn',bs',hd',sn',sub',ab',col',dd',k0',k1',k2',k3',k5',mN',hO',hN',hi',hT',hM'⟩:=JQ X hC;have hcB:(Value.ref C::bm').contains (.type "BaseException")=true:=by rw[U3,hT'.hasType (X:="BaseException") (b:=true) A3,Bool.or_true]
  have hcC:(Value.ref D::bm).contains (.ref C)=true:=V4 ((hM (.ref C)).symm.trans hs);have f:=tc_notTuple;unfold excMatches
  repeat (first
   | (with_reducible refine K7 he ?_;rw[hcls])
   |with_reducible refine K7 hO' ?_
   | (with_reducible refine X8 hO' ?_;rw[hcB])
   | (with_reducible refine X8 hO ?_;rw[hcC])
   |wp_step)
  exact hq
section
variable{X:Cx}{C:Addr}{x n:Str}{np hpos pos:Pos}{i:Nat}{b₀:Stmt}{suite body:List Stmt}{S:St->Prop}{tb:XK->TS}{th:TS}
abbrev NT(X:Cx)(pins:List (Addr×Obj))(D:JX)(hs:List ExceptHandler):Value->Shared->Prop:=λe s₁ =>
 wpAny (model X.prog X.w) X.A (noteFrame e X.env) (λ_ s₂=>wpAny (model X.prog X.w) X.A (setFlight e none) (λ_ s₃=>wpAny (model X.prog X.w) X.A (handleBy e X.env hs) (SP X pins D) X.xe s₃) X.xe s₂) X.xe s₁
end
section
variable{P:Program}{w:World}{K:PySem.W.Frag}{mg:Str->Option Value}{base:Heap}
end
section
variable{X:Cx}{k:Nat}{f:Addr}{fd:FuncData}{ps:List Str}{sp:Sp}{x:Str}{p pos:Pos}{e:Expr}{es:List Expr}{t:TA}
end
section
variable{X:Cx}{tg:Expr}
def Its(x:Str):It:=⟨λi _=>i<x.cps.size,λi H v H'=>H'=H/\∃c,x.cps[i]?=some c/\v=.str ⟨#[c]⟩,λi _=>i=x.cps.size⟩
theorem PX{P:Program}{w:World}{K:PySem.W.Frag}(it:Addr)(x:Str)(t:Tok)(T:String)(hn:["enumerate","zip","dict_itemiterator","dict_reverseitemiterator","odict_iterator","itertools.zip_longest","itertools.pairwise"].contains T=false)
  (W:∀A:Around,A.handled=none->Walks P w A it [it] [it] x.cps.size (SignAt x) (λi h=>h.IsStrIter it T x t i))
  (hself:∀(A:Around)(i:Nat)(s:Shared)(Q:Value->Shared->Prop)(E:Value->Shared->Prop),s.heap.IsStrIter it T x t i->Q (.ref it) s->wpAny (model P w) A (pyIter (.ref it)) Q E s):PQ P w K tg (Its x) [it] it (λi h=>h.IsStrIter it T x t i) where
 mem:=by simp
 obj:=λi h st b hb=>by
  have e:b=it:=by simpa using hb
  subst e;obtain⟨o,e,c,d⟩:=st;exact⟨o,e,λv z=>by rw[d]at z;cases z⟩
 keep:=λi h h' ⟨o,e,r⟩ k=>⟨o,k it A6 o e,r⟩
 item:=by
  intro X hP hw hK hc i pins s σ H E I hf st hg;subst hP hw hK;obtain⟨f0,f1,f2,f3,f4,f5⟩:=hf it A6;refine(W X.A (I.ok.hd hc)).item i s _ _ hg st λv h' tk hv st' kk=>?_;obtain⟨c,u,hc',rfl⟩:=hv;have I1:Inv X pins σ H {s with heap:=h',toks:=tk}:=I.turned (λb o hb e=>kk b o (by simpa using hb) e) f0 f1 f3 f4 f5;obtain⟨o,e,oc,od⟩:=id st';exact⟨_,rfl,SX (s:={s with heap:=h',toks:=tk}) e oc od hn ⟨.str ⟨#[c]⟩,H,I1,⟨u,rfl⟩,⟨rfl,c,hc',rfl⟩,st',λb hb=>(hf b hb).1⟩⟩
 done:=by
  intro X hP hw hK hc i pins s σ H E I hf st hg;subst hP hw hK;obtain⟨f0,f1,f2,f3,f4,f5⟩:=hf it A6;have z:i=x.cps.size:=hg;subst z;exact(W X.A (I.ok.hd hc)).done s _ _ st λh' tk kk=>⟨rfl,I.turned (λb o hb e=>kk b o (by simpa using hb) e) f0 f1 f3 f4 f5⟩
 self:=hself
def iStr(tl:TE):TI:=fun σ H R=>tl σ H λv H1=>∃x,v=.str x/\R (Its x) H1
theorem Ve{l:Expr}{tl:TE}(hl:PE X l tl):PI X tg l (iStr tl):=by
 intro pins s σ H R I h;refine thn (hl pins s σ H _ I h) λv s1 ⟨y,H1,I1,r1,q1⟩=>?_;obtain⟨x,rfl,q⟩:=q1;obtain⟨t,rfl⟩:=r1;have fp:∀b,b∈[s1.heap.objs.size]->FQ X pins H1 b:=λb hb=>by
  have e:b=s1.heap.objs.size:=by simpa using hb
  subst e;exact I1.fpOk (C0 _) (I1.hok.fresh (C0 _))
 cases ha:x.cps.all (· < 128)with
 |true =>
  refine wpAny_pyIter_ascii ha ?_;refine⟨s1.heap.objs.size,[s1.heap.objs.size],_,_,H1,rfl,I1.kept (t':=s1.toks) λb o e=>B7 _ e,PX _ x t "str_ascii_iterator" A3 (λA hA=>Walks.strAscii hA _ x t) (λ_ _ _ _ _ st h=>wpAny_pyIter_striter_ascii st h),⟨_,C7 _ rfl,rfl,rfl⟩,fp,q⟩
 |false =>
  refine wpAny_pyIter_wide ha ?_;refine⟨s1.heap.objs.size,[s1.heap.objs.size],_,_,H1,rfl,I1.kept (t':=s1.toks) λb o e=>B7 _ e,PX _ x t "str_iterator" A3 (λA hA=>Walks.strWide hA _ x t) (λ_ _ _ _ _ st h=>wpAny_pyIter_striter_wide st h),⟨_,C7 _ rfl,rfl,rfl⟩,fp,q⟩
theorem for_str{x:Str}{g:TG}{tb:TS}{D:JX}{σ:St}{H:Hp}(Pv:Nat->St->Hp->Prop)(h0:Pv 0 σ H)
  (hs:∀i c σ H,x.cps[i]?=some c->Pv i σ H->g (.str ⟨#[c]⟩) σ H fun σ2 H2=>tb {D with nx:=Pv (i+1),ct:=Pv (i+1),bk:=D.nx} σ2 H2) (hd:∀σ H,Pv x.cps.size σ H->D.nx σ H) :
  ∃W:Nat->Nat->St->Hp->Prop,(∃m,W 0 m σ H)/\∀i m σ H,W i m σ H ->
   ((Its x).stop i H/\D.nx σ H)\/((Its x).go i H/\∃N:St->Hp->Prop,(∀σ' H',N σ' H'->∃m',m'<m/\W (i+1) m' σ' H')/\∀v H',(Its x).yld i H v H'->g v σ H' fun σ2 H2=>tb {D with nx:=N,ct:=N,bk:=D.nx} σ2 H2):=by
 refine⟨λi m σ H=>m=x.cps.size-i/\i<=x.cps.size/\Pv i σ H,⟨x.cps.size,by simp,F5 _,h0⟩,?_⟩;rintro i m σ H ⟨rfl,hi,p⟩;by_cases hlt:i<x.cps.size
 ·refine .inr ⟨hlt,Pv (i+1),fun σ' H' p'=>⟨x.cps.size-(i+1),by lia,rfl,hlt,p'⟩,λv H' y=>?_⟩;obtain⟨e,c,hc,rfl⟩:=y;subst e;exact hs i c σ _ hc p
 ·have e:i=x.cps.size:=by lia
  subst e;exact .inl ⟨rfl,hd σ H p⟩
theorem FE:FS X (.type "int") (λxs H Q=>∃x n,xs=[.str x]/\PySem.intText? x=some n/\x.length<=640/\Q (.int n) H):=by
 intro pins s σ H xs us Q I r h;obtain⟨x,n,rfl,hn,hl,q⟩:=h;cases r with
 |cons r1 r2 =>
  cases r2;obtain⟨t,rfl⟩:=r1;exact PySem.W.KIN.call_text hn hl ⟨.int n,H,I.tok _,⟨_,rfl⟩,q⟩
theorem Ra(hc:X.calm=true):FS X (.builtin "all") (λxs H Q=>∃(p:Addr)(bs:List Bool),xs=[.ref p]/\SqL X.K H p (bs.map V.bl)/\Q (.bl (bs.all id)) H):=by
 intro pins s σ H xs us Q I r h;obtain⟨p,bs,rfl,hq,q⟩:=h;cases r with
 |cons r1 r2 =>
  cases r2;cases(show _=Value.ref p from r1);obtain⟨its,rv,pl,hz⟩:=I.list hq;have hne:p≠s.heap.objs.size:=F1 (by obtain⟨o,n,e,_⟩:=pl;exact C4 e);refine call_all_walk (X5 pl.isList ?_);have vals:∀(i:Nat) v,its[i]?=some v->∃b,bs[i]?=some b/\v=.bool b:=λi v e=>by
   cases eb:bs[i]? with
   |none =>
    have:its[i]?=none:=rv.none_of (by rw[B9,eb];rfl);rw[e]at this;cases this
   |some b =>
    obtain⟨u,hu,ru⟩:=rv.get (i:=i) (x:=V.bl b) (by rw[B9,eb];rfl);rw[e]at hu;cases hu;exact⟨b,rfl,ru⟩
  refine⟨s.heap.objs.size,_,_,_,_,_,λi=>bs.getD i true,rfl,Walks.list (A:=X.A.in1) (I.ok.hd hc) s.heap.objs.size p hne its.toArray,⟨⟨_,C7 _ rfl,rfl,rfl⟩,?_⟩,?_,?_⟩
  ·exact pl.isList.at λo e=>B7 _ e
  ·intro i v s2 Q2 E2 hP hQ;obtain⟨b,eb,rfl⟩:=vals i v (by simpa using hP);have e2:bs.getD i true=b:=by rw[F2,eb];rfl
   have hQ:Q2 (bs.getD i true) s2:=hQ;rw[e2]at hQ;exact Y5 hQ
  ·intro h' tk kk;have I2:Inv X pins σ H {s with heap:=h',toks:=tk}:=I.kept λb o e=>kk b o (by intro z;exact F1 (C4 e) (by simpa using z)) (B7 _ e);have len:its.toArray.size=bs.length:=by rw[D0,<-rv.length,B5]
   have e3:(List.range its.toArray.size).all (λi=>bs.getD i true)=bs.all id:=by
    rw[len,Q6,O9,O9];constructor
    ·intro z b hb;obtain⟨i,hi,e⟩:=U0.mp hb;have:=z i (M4.mpr hi);rw[F2,D1 hi,e]at this;exact this
    ·intro z i hi;have hi':=M4.mp hi;rw[F2,D1 hi'];exact z _ (S4 hi')
   rw[e3];exact⟨.bl _,H,I2,rfl,q⟩
end
section
variable{X:Cx}{iter:Expr}{ti:TE}{x G:Str}{px px1 px2 cpos pos:Pos}{scope:Scope}{g:Str}
end
structure Sh(K:PySem.W.Frag)(D:Addr):Prop where
 hd:hasDictIn K D=true
 ga:findIn K (.ref D) "__getattribute__" = some (some (.builtin "BaseException.__getattribute__"))
 gt:findIn K (.ref D) "__getattr__" = some none
 cl:findIn K (.ref D) "__class__" = some (some (.builtin "object.__class__"))
 sp:specialIn K (.builtin "object.__class__") "__get__" = some (some (.builtin "getset_descriptor.__get__"))
 tk:takesIn K (.builtin "object.__class__")=some true
 mo:mroIn K D (.type "object")=some true
 mb:mroIn K D (.type "BaseException")=some true
section
variable{K:PySem.W.Frag}{prog:Program}{w:World}{A:Around}{E:Value->Shared->Prop}{s:Shared}{a D:Addr}{o:Obj}
open PySem.W Builtin Builtin.ObjectAttr Builtin.Getset_descriptor
theorem Wg{M:Model}{h:Heap}(X:K.In h)(f:Sh K D):Looks M h (find (.ref a) (.ref D) "__class__") (.bind (.builtin "getset_descriptor.__get__") (.builtin "object.__class__")) :=
 (looks_findIn X f.cl).andThen ((looks_specialIn X f.sp).andThen ((show Looks M h (dataDescriptor? (some (.builtin "object.__class__")) (some (.builtin "getset_descriptor.__get__"))) (some (.builtin "getset_descriptor.__get__",.builtin "object.__class__"))from(looks_takesIn X f.tk).andThen .now).andThen (Looks.tag .now)))
theorem exc_get{R:Result->Shared->Prop}{tp:Value}(X:K.In s.heap)(f:Sh K D)(he:s.heap.get? a=some o)(hc:o.cls=.ref D)(hq:R (.ok (.ret (.ref D))) s) :
  codeAny (model prog w) A (.call (.builtin "getset_descriptor.__get__") ⟨[.builtin "object.__class__",.ref a,tp],[]⟩) R s:=by
 obtain⟨h,g,d,t,os⟩:=s;have L0:Looks (model prog w) h (typeOf (.ref a)) (.ref D):=hc▸(Looks.ld he).andThen .now;have L1:=looks_mroIn (M:=model prog w) X f.mo;refine codeAny_call_builtin KF.slot_gs.plain KF.entry_gs (KF.slot_gs.check _ _ _ _ _ _ _ _ KF.type_class (KF.args_gs _ _ _) ?_);unfold Builtin.«getset_descriptor.__get__» descrGet;rw[dga_obj];refine U9 (V9 ?_);unfold descrGetter descrCheckInstance descrNameAndClass isInstance;simp only[KF.owner_class]
 repeat lk
 refine⟨Code.quiet_builtin _ A0,codeAny_builtin KF.entry_class ?_⟩;unfold Builtin.«object.__class__» shownTypeOf
 repeat lk
 exact hq
theorem Ul{Q:Option Value->Shared->Prop}(X:K.In s.heap)(f:Sh K D)(he:s.heap.get? a=some o)(hc:o.cls=.ref D)(hq:Q (some (.ref D)) {s with toks:=s.toks+1}) :
  wpAny (model prog w) A (getAttr? (.ref a) "__class__") Q E s:=by
 obtain⟨h,g,d,t,os⟩:=s;have L0:Looks (model prog w) h (typeOf (.ref a)) (.ref D):=hc▸(Looks.ld he).andThen .now;have L1:=looks_findIn (M:=model prog w) X f.ga;have L2:=looks_findIn (M:=model prog w) X f.gt;have L3:=Wg (M:=model prog w) (a:=a) X f;have L4:Looks (model prog w) h (isInstance (.ref a) (.type "BaseException")) true:=L0.andThen (looks_mroIn X f.mb);unfold getAttr? getAttrBy? getAttrBy;refine U9 (wpAny_mkText (U9 (A1e (K8 (U9 (L0.at (U9 (L1.at ?_))))))));dsimp only;have n0:(Value.builtin "BaseException.__getattribute__" == Value.builtin "object.__getattribute__")=false:=by decide +kernel
 rw[V0 (by rw[n0,Bool.and_false];exact C6)];unfold getAttrByItsOwn hookBefore;rw[V2 (by rfl)];refine U9 (L2.at ?_);refine U9 (A1e (K8 ?_));unfold callGetattribute;rw[V0 A3];unfold boundAndCalled;refine U9 (wpAny_of_eq (PySem.F.excAttr_ValueError.ga.bind (.ref a)) ?_);dsimp only;refine wpAny_call (codeAny_call_builtin PySem.F.excAttr_ValueError.ga.plain PySem.F.entry_bexc_ga ?_);have hk:builtinKind "BaseException.__getattribute__" = some .slot:=by decide +kernel
 have hsp:splitId "BaseException.__getattribute__" = some ("BaseException","__getattribute__"):=by decide +kernel
 have har:=PySem.F.args_bexc_ga (.ref a) (.str "__class__" t);simp only[checkBuiltinCall,hk,hsp];refine U9 (L4.at ?_);rw[V0 A3];refine wpAny_of_eq (a:=()) har ?_;unfold Builtin.«object.__getattribute__»;dsimp only at L3
 repeat ((fail_if_success (with_reducible show wpAny _ _ (call _ _) _ _ _));lk)
 refine wpAny_call (exc_get (s:=⟨h,g,d,t+1,os⟩) X f he hc ?_);dsimp only
 repeat lk
 exact hq
end
inductive TyX(K:PySem.W.Frag)(H:Hp):V->Value->Prop where
 |of {x:V} {t:Value} (h:LM K H x t):TyX K H x t
 |exc {a D:Addr} (e:H a=some (FJ a D)) (f:Sh K D):TyX K H (.ref a) (.ref D)
theorem VR{K:PySem.W.Frag}{a D:Addr}(f:Sh K D):PySem.W.KitX K (.ref a) (.ref D) (λh=>∃o,h.get? a=some o/\o.cls=.ref D/\notCls o=true) where
 ty:=λM h X ⟨o,e,c,_⟩=>c▸(PySem.W.Looks.ld e).andThen .now
 it:=λM h X _=>by
  obtain⟨cd,hc,_⟩:=any_some f.hd;unfold clsIn at hc;split at hc
  ·rename_i c' d' cd' sl' ho;intro A' Q' E' s' k q;unfold isType loadHead;exact U9 (wpAny_loadPart (k _ _ (X _ _ ho)) (V9 q))
  ·cases hc
 ne:=λh tp dd its n sl X htp=>by
  obtain⟨cd,hc,_⟩:=any_some f.hd;refine U8.mpr λq=>?_;have e:D=tp:=Value.ref.inj (beq_iff_eq.mp q);subst e;unfold clsIn at hc;split at hc
  ·rename_i c' d' cd' sl' ho;have z:=(X _ _ ho).symm.trans htp;cases z
  ·cases hc
 ca:=λX ⟨o,e,c,_⟩ k=>Ul X f e c k
def clsV:V->Option Value
 |.ty n=>some (.type n)
 |.ref C=>some (.ref C)
 |_=>none
theorem CS{X:Cx}:FS X (.builtin "isinstance") (λxs H Q=>∃x c cv t b,xs=[x,c]/\clsV c=some cv/\TyX X.K H x t/\kitOne X.K t cv=some b/\Q (.bl b) H):=by
 intro pins s σ H xs us Q I r h;obtain⟨x,c,cv,t,b,rfl,hc,ty,hk,q⟩:=h;cases r with
 |@cons _ u _ _ rx rr =>
  cases rr with
  |@cons _ v _ _ rc rn =>
   cases rn;have ev:v=cv:=by
    cases c with
    |ty n=>cases hc;exact rc
    |ref C=>cases hc;exact rc
    |_=>cases hc
   subst ev;cases ty with
   |of ty=>exact Ud I rx ty hk λtk=>⟨.bl b,H,I.tok tk,rfl,q⟩
   |@exc a D e f =>
    cases(show u=Value.ref a from rx);obtain⟨p,_,_⟩:=(show Bz X.prog X.w H s.heap a (FJ a D)from I.hok a _ e)
    exact W9 (VR f) I.kIn (IV.not p) hk (λz=>nomatch z) λtk=>⟨.bl b,H,I.tok tk,rfl,q⟩
def rIsi(K:PySem.W.Frag):List V->Hp->VK->Prop:=λxs H Q=>∃x c cv t b,xs=[x,c]/\clsV c=some cv/\TyX K H x t/\kitOne K t cv=some b/\Q (.bl b) H
theorem FN{X:Cx}(K:PySem.W.Frag)(h:X.K=K):FS X (.builtin "isinstance") (rIsi K):=by
 subst h;exact CS
section
variable{X:Cx}{c:Expr}{a b:List Stmt}{tc:TT}{t u:TS}{pos:Pos}
end
def FD(env:Env)(a:List (Str×Addr))(x:Str×NameKind):List (Str×Addr):=if(x.2==NameKind.free)=true then(x.1,(env.cells.lookup x.1).getD 0)::a else a
def Sb(env:Env)(l:List (Str×NameKind)):List (Str×Addr):=l.foldl (FD env) []
theorem RW{α β:Type}{l:List α}{f:α->β->Sem (ForInStep β)}{g:β->α->β}(h:∀x∈l,∀b,f x b=pure (.yield (g b x))):∀b,forIn l b f=pure (l.foldl g b):=by
 induction l with
 |nil=>intro b;rfl
 |cons x l ih =>
  intro b;rw[List.forIn_cons,h x C3,pure_bind];exact ih (λy hy=>h y (C1 _ hy)) _
theorem Nk{scope:Scope}{env:Env}(h:∀y∈scope.names,y.2=.free->∃c,env.cells.lookup y.1=some c):closureFor scope env=pure (Sb env scope.names):=by
 simp only[closureFor];rw[RW (g:=FD env) (λx hx c=>by
  obtain⟨n,k⟩:=x;by_cases hk:k=.free
  ·subst hk;obtain⟨a,ha⟩:=h _ hx rfl;have e:cellOf env n=pure a:=by unfold cellOf;rw[show env.cells.lookup n=some a from ha]
   simp only[FD,K1,A0d,e,show env.cells.lookup n=some a from ha,Option.getD_some];rfl
  ·have hb:(k==NameKind.free)=false:=by simpa using hk
   simp only[FD,hb,Bool.false_eq_true,if_false])]
 rfl
theorem Ot(env:Env){y:Str}{c:Addr}:∀(l:List (Str×NameKind))(a:List (Str×Addr)),(l.foldl (FD env) a).lookup y=some c->a.lookup y=some c\/((y,NameKind.free)∈l/\c=(env.cells.lookup y).getD 0)
 |[],a,h=>.inl h
 | (n,k)::r,a,h=>by
  rw[T1]at h;rcases Ot env r _ h with z|⟨z,e⟩
  ·unfold FD at z;split at z
   ·rename_i hk;have hk':k=.free:=by simpa using hk
    rw[N9]at z;split at z
    ·rename_i hy;have hy':y=n:=by simpa using hy
     subst hy' hk';exact .inr ⟨C3,(V4 z).symm⟩
    ·exact .inl z
   ·exact .inl z
  ·exact .inr ⟨C1 _ z,e⟩
theorem QW(env:Env){y:Str}:∀(l:List (Str×NameKind))(a:List (Str×Addr)),(∃c,a.lookup y=some c)->∃c,(l.foldl (FD env) a).lookup y=some c
 |[],_,h=>h
 | (n,k)::r,a,h=>by
  rw[T1];refine QW env r _ ?_;unfold FD;split
  ·rw[N9];split
   ·exact⟨_,rfl⟩
   ·exact h
  ·exact h
theorem Sa(env:Env){y:Str}:∀(l:List (Str×NameKind))(a:List (Str×Addr)),(y,NameKind.free)∈l->∃c,(l.foldl (FD env) a).lookup y=some c
 |[],_,h=>by simp at h
 | (n,k)::r,a,h=>by
  rw[T1];rcases B8.mp h with e|h
  ·cases e;refine QW env r _ ⟨(env.cells.lookup y).getD 0,?_⟩;unfold FD;simp only[K1,A0d,N9]
  ·exact Sa env r _ h
theorem MI{env:Env}{y:Str}:∀{names:List (Str×NameKind)},(∀z∈names,z.2≠.cell) ->
  ((names.map λ(n,k)=>if(k==NameKind.free && env.scope.kind==.function && env.kindOf n==some .cell)then(n,NameKind.cell)else(n,k)).lookup y=some .cell \/
   (names.map λ(n,k)=>if(k==NameKind.free && env.scope.kind==.function && env.kindOf n==some .cell)then(n,NameKind.cell)else(n,k)).lookup y=some .free)->(y,NameKind.free)∈names
 |[],_,h=>by simp at h
 | (n,k)::r,hc,h=>by
  have ih:=@MI env y r (λz hz=>hc z (C1 _ hz));have h':List.lookup y ((if(k==NameKind.free && env.scope.kind==.function && env.kindOf n==some .cell)=true then(n,NameKind.cell)else(n,k))::(r.map λ(n,k)=>if(k==NameKind.free && env.scope.kind==.function && env.kindOf n==some .cell)then(n,NameKind.cell)else(n,k)))=some .cell \/
   List.lookup y ((if(k==NameKind.free && env.scope.kind==.function && env.kindOf n==some .cell)=true then(n,NameKind.cell)else(n,k))::(r.map λ(n,k)=>if(k==NameKind.free && env.scope.kind==.function && env.kindOf n==some .cell)then(n,NameKind.cell)else(n,k)))=some .free:=h
  clear h;by_cases hb:(k==NameKind.free && env.scope.kind==.function && env.kindOf n==some .cell)=true
  ·rw[V2 hb]at h';have hk:k=.free:=by
    simp only[O0,beq_iff_eq]at hb;exact hb.1.1
   simp only[N9]at h';cases hy:y==n with
   |true =>
    have:y=n:=by simpa using hy
    subst this hk;exact C3
   |false =>
    rw[hy]at h';exact C1 _ (ih h')
  ·rw[V0 hb]at h';simp only[N9]at h';cases hy:y==n with
   |true =>
    rw[hy]at h';have:y=n:=by simpa using hy
    subst this;rcases h' with z|z
    ·exact absurd (V4 z) (hc (y,k) C3)
    ·cases V4 z;exact C3
   |false =>
    rw[hy]at h';exact C1 _ (ih h')
theorem Jy{env:Env}{y:Str}:∀{names:List (Str×NameKind)},names.lookup y=some .free ->
  ((names.map λ(n,k)=>if(k==NameKind.free && env.scope.kind==.function && env.kindOf n==some .cell)then(n,NameKind.cell)else(n,k)).lookup y=some .cell \/
   (names.map λ(n,k)=>if(k==NameKind.free && env.scope.kind==.function && env.kindOf n==some .cell)then(n,NameKind.cell)else(n,k)).lookup y=some .free)
 |[],h=>by simp at h
 | (n,k)::r,h=>by
  have ih:=@Jy env y r;show List.lookup y ((if(k==NameKind.free && env.scope.kind==.function && env.kindOf n==some .cell)=true then(n,NameKind.cell)else(n,k))::(r.map λ(n,k)=>if(k==NameKind.free && env.scope.kind==.function && env.kindOf n==some .cell)then(n,NameKind.cell)else(n,k)))=some .cell \/
   List.lookup y ((if(k==NameKind.free && env.scope.kind==.function && env.kindOf n==some .cell)=true then(n,NameKind.cell)else(n,k))::(r.map λ(n,k)=>if(k==NameKind.free && env.scope.kind==.function && env.kindOf n==some .cell)then(n,NameKind.cell)else(n,k)))=some .free
  rw[N9]at h;by_cases hb:(k==NameKind.free && env.scope.kind==.function && env.kindOf n==some .cell)=true
  ·rw[V2 hb];simp only[N9];cases hy:y==n with
   |true=>exact .inl rfl
   |false=>rw[hy]at h;exact ih h
  ·rw[V0 hb];simp only[N9];cases hy:y==n with
   |true=>rw[hy]at h;exact .inr h
   |false=>rw[hy]at h;exact ih h
section
variable{prog:Program}{w:World}{A:Around}{R:Result->Shared->Prop}{s:Shared}
abbrev Sn(ifs:List Expr)(env:Env):Sem Bool:=forIn ifs true λc r=>if r=true then do let ok <-isTrue c env (eval c env);pure (ForInStep.yield ok)else pure (ForInStep.yield r)
theorem QT{elt target iter:Expr}{ifs:List Expr}{scope:Scope}{pos:Pos}{it acc:Value}{env:Env}(I:Nat->Shared->Prop)
  (turn:∀n s,I n s->wpAny (model prog w) A (pyNext it) (λr s₁=>match r with
   |none=>R (.ok .next) s₁
   |some v=>wpAny (model prog w) A (letOwnedTupleGo target it v) (λ_ s₀=>wpAny (model prog w) A (assign target env v) (λ_ s₂ =>
     wpAny (model prog w) A (Sn ifs env) (λok s₃ =>
      if ok=true then wpAny (model prog w) A (eval elt env) (λx s₄ =>
       wpAny (model prog w) A (call (.builtin "list.append") [acc,x]) (λ_ s₅=>∃m,m<n/\I m s₅) (λ_ _=>False) s₄) (λ_ _=>False) s₃
      else ∃m,m<n/\I m s₃) (λ_ _=>False) s₂) (λ_ _=>False) s₀) (λ_ _=>False) s₁) (λ_ _=>False) s)
  (n:Nat) (h:I n s):codeAny (model prog w) A (.compLoop (.ListComp elt [⟨target,iter,ifs,0⟩] scope pos) 0 it acc env) R s:=by
 refine codeAny_loop rfl I (λn s hI=>?_) n h;show wpAny _ A ((compTurn (.ListComp elt [⟨target,iter,ifs,0⟩] scope pos) 0 it acc env).onRaise (λx=>do noteFrame x env;theTreesLotGoes x)) _ _ s;refine wpAny_noted ?_;rw[compTurn_list];refine U9 (wpAny_standAt (U9 (Y4 (turn n s hI) (λr s₁ h₁=>?_) λ_ _ h'=>h'.elim)));cases r with
 |none=>exact V9 h₁
 |some v =>
  refine U9 (Y4 h₁ (λ_ s₀ h₀=>?_) λ_ _ h'=>h'.elim);refine U9 (Y4 h₀ (λ_ s₂ h₂=>U9 (Y4 h₂ (λok s₃ h₃=>?_) λ_ _ h'=>h'.elim)) λ_ _ h'=>h'.elim);cases ok with
  |false=>exact V9 ⟨rfl,h₃⟩
  |true =>
   exact U9 (U9 (Y4 h₃ (λx s₄ h₄=>U9 (Y4 h₄ (λ_ s₅ h₅=>V9 (V9 ⟨rfl,h₅⟩)) λ_ _ h'=>h'.elim)) λ_ _ h'=>h'.elim))
end
def LZ(cs:List Nat)(σ:St):St:=cs.map λj=>(σ[j]?).getD none
def cxC(X:Cx)(scope:Scope)(N:List Str)(s:Shared)(H:Hp)(ex:List Addr):Cx :=
 {X with N:=N,s₀:=s,H₀:=H,env:=compEnvC scope (Sb X.env scope.names) s.heap.objs.size X.env,outer:=X.stack,stack:=X.stack,ex:=ex,fn:=λ_=>false,pn:=[],xe:=λ_ _=>False}
def PTs(X:Cx)(ifs:List Expr)(t:TT):Prop :=
 ∀(pins:List (Addr×Obj))(s:Shared)(σ:St)(H:Hp)(Q:Bool->Hp->Prop),Inv X pins σ H s->t σ H Q->wpAny (model X.prog X.w) X.A (Sn ifs X.env) (TP X pins σ Q) X.xe s
def tYes:TT:=λ_ H Q=>Q true H
theorem BL{X:Cx}:PTs X [] tYes:=λ_ _ _ H _ I h=>wpAny_tests_nil ⟨H,I,h⟩
structure BD(X:Cx)(scope:Scope)(N:List Str)(k:Nat)(cs:List Nat):Prop where
 cell:∀y∈scope.names,y.2≠.cell
 kind:scope.kind=.function
 names:∀y∈scope.names,y.2=.local->scope.names.lookup y.1=some .local
 free:∀y∈scope.names,y.2=.free->X.env.scope.names.lookup y.1=some .cell\/X.env.scope.names.lookup y.1=some .free
 len:N.length=k+cs.length
 cap:∀j,j<cs.length->∃x,N[k+j]?=some x/\X.N[cs.getD j 0]?=some x/\scope.names.lookup x=some .free
def Fb(k:Nat)(cs:List Nat)(g:TG)(tc:TT)(te:TE)(J:It)(σ:St)(H1:Hp)(fin:List V->Hp->Prop):Prop :=
 ∃W:Nat->Nat->List V->Hp->Prop,(∃m,W 0 m [] H1)/\∀i m acc H,W i m acc H ->
  (J.stop i H/\fin acc H)\/(J.go i H/\∃Nx:List V->Hp->Prop,(∀acc' H',Nx acc' H'->∃m',m'<m/\W (i+1) m' acc' H')/\∀x H',J.yld i H x H'->g x (List.replicate k none++LZ cs σ) H' fun σ2 H2=>(∃ts:St,ts.length=k/\σ2=ts++LZ cs σ)/\acc.length<sizeLine /\
   tc σ2 H2 λb H3=>if b=true then te σ2 H3 λv H4=>Nx (acc++[v]) H4 else Nx acc H3)
def tComp(k:Nat)(cs:List Nat)(wi:TI)(g:TG)(tc:TT)(te:TE):TE:=fun σ H Q=>wi σ H λJ H1=>Fb k cs g tc te J σ H1 λacc H2=>∀p,H2 p=none->Q (.ref p) (upd H2 p (.lst acc))
section
variable{X:Cx}{tg iter elt:Expr}{ifs:List Expr}{scope:Scope}{pos:Pos}{wi:TI}{g:TG}{tc:TT}{te:TE}{N:List Str}{k:Nat}{cs:List Nat}
theorem Inv.block{pins:List (Addr×Obj)}{σ:St}{H:Hp}{s s':Shared}{ex:List Addr}(S:BD X scope N k cs)(I:Inv X pins σ H s)
  (hex:∀b∈ex,FQ X pins H b/\∃o,s.heap.get? b=some o) (hos:s'.os=s.os) (hg:AllBare s'.gens) (hk:∀b o,s.heap.get? b=some o->s'.heap.get? b=some o) (hn:∃m,s'.heap.Ns s.heap.objs.size m) :
  Inv (cxC X scope N s H ex) [] (List.replicate k none++LZ cs σ) H s':=by
 have lk:∀{x c},(Sb X.env scope.names).lookup x=some c->X.env.cells.lookup x=some c:=λ{x c} h=>by
  rcases Ot X.env _ _ h with z|⟨z,e⟩
  ·simp at z
  ·obtain⟨a,ha⟩:=I.ok.has x (S.free _ z rfl);rw[e,ha];rfl
 have nex:∀b,b∈ex->b≠s.heap.objs.size:=λb hb z=>by
  obtain⟨_,o,ho⟩:=hex b hb;exact absurd (C4 ho) (by rw[z];exact N7 _)
 refine⟨⟨I.ok.mod,S.kind,I.ok.glob,I.ok.blt,C0 _,λx y c h1 h2=>I.ok.inj x y c (lk h1) (lk h2),λx hx=>?_,λx c h _=>(nomatch h),I.ok.hd,I.ok.frames,.inl rfl,λb hb=>⟨nex b hb,λx c h=>?_⟩,I.bs,?_,λb o e hb=>?_,λb hb hf=>?_,I.stack,I.stkFree⟩,
  hos,hg,Un.kept hk,?_,λx c h=>?_,I.hok.fresh (C0 _),λx c h=>I.freeC x c (lk h),λp hp=>absurd (show p∈([]:List (Addr×Obj))from hp) A6,I.hok.kept hk,?_⟩
 ·exact Sa X.env _ _ (MI S.cell hx)
 ·exact(hex b hb).1.2.2.2.2.1 x c (lk h)
 ·exact C8 I.ok.bsz I.sz
 ·rcases(hex b hb).1.2.2.2.1 with z|z
  ·exact I.ok.noex b o e z
  ·exact absurd (D8 (C4 e) (C8 I.ok.bsz z)) (N7 _)
 ·rcases B8.mp (I.stkSub b hf)with z|z
  ·exact(hex b hb).1.2.1 z
  ·exact(hex b hb).1.2.2.1 z
 ·obtain⟨m,hm⟩:=hn;obtain⟨mo,hmo,hlo⟩:=I.loc;refine⟨m,hm,λi x v h1 h2 h3=>?_⟩;have hi:k<=i:=by
   by_cases z:i<k
   ·rw[L8 (by simpa using z),S6,V2 z]at h2;cases h2
   ·lia
  obtain⟨j,rfl⟩:∃j,i=k+j:=⟨i-k,by lia⟩
  rw[F3 A6,O2,Nat.add_sub_cancel_left]at h2;unfold LZ at h2;rw[B9]at h2;have hj:j<cs.length:=by
   by_cases z:j<cs.length
   ·exact z
   ·rw[T5 A1]at h2;cases h2
  obtain⟨x',e1,e2,e3⟩:=S.cap j hj;rw[show N[k+j]?=some x from h1]at e1;cases e1;rw[D1 hj]at h2;have h2':(σ[cs[j]]?).getD none=some v:=V4 h2;rw[F2,D1 hj]at e2;have h4:σ[cs[j]]?=some (some v):=by
   cases q:σ[cs[j]]? with
   |none=>rw[q]at h2';cases h2'
   |some w=>rw[q]at h2';rw[show w=some v from h2']
  have kO:=S.free (x,.free) (Y9 e3) rfl;obtain⟨u,ru,l⟩:=hlo _ x v e2 h4 (.inr kO);refine⟨u,ru,?_⟩;rcases l with ⟨z,_⟩|⟨_,c,hc',z⟩
  ·have z':X.env.scope.names.lookup x=some .local:=z;rcases kO with q|q<;>· rw[z']at q;cases q
  ·obtain⟨c',h5⟩:=Sa X.env _ [] (Y9 e3);have h6:=lk h5;rw[hc']at h6;cases h6;obtain⟨o,ho,hd⟩:=z;exact .inr ⟨Jy e3,c,h5,o,hk _ _ ho,hd⟩
 ·obtain⟨v,o,ho,hd⟩:=I.cell x c (lk h);exact⟨v,o,hk _ _ ho,hd⟩
 ·show(List.replicate k none++LZ cs σ).length=N.length;rw[C5,O2,S.len];unfold LZ;rw[B5]
end
structure Wr(C:Cx->Prop)(P:Program)(w:World)(K:PySem.W.Frag)(tg:Expr)(J:It)(fp:List Addr)(it:Addr)(tn:Nat->Heap->Prop):Prop where
 obj:∀i h,tn i h->∀b∈fp,∃o,h.get? b=some o/\∀v,o.data≠.cell v
 keep:∀i h h',tn i h->(∀b∈fp,∀o,h.get? b=some o->h'.get? b=some o)->tn i h'
 item:∀(X:Cx),C X->X.prog=P->X.w=w->X.K=K->∀(i:Nat)(pins:List (Addr×Obj))(s:Shared)(σ:St)(H:Hp)(E:Value->Shared->Prop),Inv X pins σ H s->(∀b∈fp,FQ X pins H b)->tn i s.heap->J.go i H ->
  wpAny (model P w) X.A (pyNext (.ref it)) (λr s1=>∃u,r=some u/\wpAny (model P w) X.A (letOwnedTupleGo tg (.ref it) u) (λ_ s2=>∃x H',Inv X pins σ H' s2/\AR x u/\J.yld i H x H'/\tn (i+1) s2.heap/\∀b∈fp,H' b=none) E s1) E s
 done:∀(X:Cx),C X->X.prog=P->X.w=w->X.K=K->∀(i:Nat)(pins:List (Addr×Obj))(s:Shared)(σ:St)(H:Hp)(E:Value->Shared->Prop),Inv X pins σ H s->(∀b∈fp,FQ X pins H b)->tn i s.heap->J.stop i H ->
  wpAny (model P w) X.A (pyNext (.ref it)) (λr s1=>r=none/\Inv X pins σ H s1) E s
 self:∀(A:Around)(i:Nat)(s:Shared)(Q:Value->Shared->Prop)(E:Value->Shared->Prop),tn i s.heap->Q (.ref it) s->wpAny (model P w) A (pyIter (.ref it)) Q E s
theorem PQ.q{P:Program}{w:World}{K:PySem.W.Frag}{tg:Expr}{J:It}{fp:List Addr}{it:Addr}{tn:Nat->Heap->Prop}(T:PQ P w K tg J fp it tn):Wr (λX=>X.calm=true) P w K tg J fp it tn :=
 ⟨T.obj,T.keep,λX c p w k=>T.item X p w k c,λX c p w k=>T.done X p w k c,T.self⟩
section
variable{X:Cx}{tg iter elt:Expr}{ifs:List Expr}{scope:Scope}{pos:Pos}{wi:TI}{g:TG}{tc:TT}{te:TE}{N:List Str}{k:Nat}{cs:List Nat}{fin:List V->Hp->Prop}
theorem Ur{pins:List (Addr×Obj)}{σ:St}{H2:Hp}{sD s1:Shared}{it D:Addr}{fp:List Addr}{tn:Nat->Heap->Prop}{J:It}{n0:Nat}{RR:Result->Shared->Prop}{Cq:Cx->Prop}(hc:∀s H ex,Cq (cxC X scope N s H ex))(S:BD X scope N k cs)
  (hg:∀s H ex,PG (cxC X scope N s H ex) tg g) (ht:∀s H ex,PTs (cxC X scope N s H ex) ifs tc) (he:∀s H ex,PE (cxC X scope N s H ex) elt te)
  (ID:Inv X pins σ H2 sD) (hD:sD.heap.get? D=some {cls:=.type "list",data:=.seq ([]:List Value).toArray n0}) (hD0:X.s₀.heap.objs.size<=D) (fD:FQ X pins H2 D) (nfp:D∉fp)
  (T:Wr Cq X.prog X.w X.K tg J fp it tn) (st:tn 0 sD.heap) (f2:∀b∈fp,FQ X pins H2 b) (hb:Fb k cs g tc te J σ H2 fin)
  (hos:s1.os=sD.os) (hgn:AllBare s1.gens) (hk:∀b o,sD.heap.get? b=some o->s1.heap.get? b=some o) (hn:∃m,s1.heap.Ns sD.heap.objs.size m)
  (hRR:∀(H':Hp)(acc:List V)(s4:Shared),fin acc H'->H' D=none->Inv X pins σ (upd H' D (.lst acc)) s4->(∃m,s4.heap.Ns sD.heap.objs.size m)->FQ X pins (upd H' D (.lst acc)) sD.heap.objs.size->RR (.ok .next) s4) :
  codeAny (model X.prog X.w) X.A (.compLoop (.ListComp elt [⟨tg,iter,ifs,0⟩] scope pos) 0 (.ref it) (.ref D) (compEnvC scope (Sb X.env scope.names) sD.heap.objs.size X.env)) RR s1:=by
 obtain⟨W,⟨m0,w0⟩,turn⟩:=hb;have hobj:∀b,b∈D::fp->∃o,sD.heap.get? b=some o:=λb hb=>by
  rcases B8.mp hb with rfl|z
  ·exact⟨_,hD⟩
  ·obtain⟨o,e,_⟩:=T.obj _ _ st b z;exact⟨o,e⟩
 have hexx:∀b∈D::fp,FQ X pins H2 b/\∃o,sD.heap.get? b=some o:=λb hb=>⟨by
  rcases B8.mp hb with rfl|z
  ·exact fD
  ·exact f2 b z,hobj b hb⟩
 have neC:∀b,b∈D::fp->b≠sD.heap.objs.size:=λb hb z=>by
  obtain⟨o,e⟩:=hobj b hb;exact absurd (C4 e) (by rw[z];exact N7 _)
 have nfr:∀b,b∈D::fp->b∉frs X.stack:=λb hb hf=>by
  rcases B8.mp (ID.stkSub b hf)with z|z
  ·exact(hexx b hb).1.2.1 z
  ·exact(hexx b hb).1.2.2.1 z
 have I0:=ID.block S hexx hos hgn hk hn;have I0ok:=I0.ok;have cells:∀b,b∈D::fp->∀x c,(Sb X.env scope.names).lookup x=some c->c≠b:=λb hb x c h=>(I0ok.exf b hb).2 x c h;have fpok:∀{H':Hp}{pl:List (Addr×Obj)},(∀b∈fp,H' b=none)->(∀p∈pl,p.1=D)->∀b∈fp,FQ (cxC X scope N sD H2 (D::fp)) pl H' b:=λhn hp b hb =>
  ⟨hn b hb,neC b (.tail _ hb),nfr b (.tail _ hb),.inl (.tail _ hb),cells b (.tail _ hb),λp hp' z=>nfp (by
   have:=hp p hp';rw[<-this,z];exact hb)⟩
 refine QT (λn s'=>∃(i:Nat)(acc:List V)(its:List Value)(nn:Nat)(H':Hp),Inv (cxC X scope N sD H2 (D::fp)) [] (List.replicate k none++LZ cs σ) H' s'/\tn i s'.heap/\(∀b∈fp,H' b=none)/\H' D=none/\acc.length<=sizeLine/\AM acc its /\
  s'.heap.get? D=some {cls:=.type "list",data:=.seq its.toArray nn}/\W i n acc H') ?_ m0
  ⟨0,[],[],n0,H2,I0,T.keep _ _ _ st (λb _ o e=>hk b o e),λb hb=>(f2 b hb).1,fD.1,F5 _,.nil,hk _ _ hD,w0⟩
 rintro n s3 ⟨i,acc,its,nn,H3,I3,st3,fr3,nD3,hl3,v3,e3,w3⟩;have I3p:Inv (cxC X scope N sD H2 (D::fp)) [(D,{cls:=.type "list",data:=.seq its.toArray nn})] (List.replicate k none++LZ cs σ) H3 s3:=I3.pins_of λp hp=>by
  rw[D7]at hp;subst hp;exact⟨e3,nD3,neC D (.head _),nfr D (.head _),λv z=>by cases z⟩
 have one:∀p∈[((D,{cls:=.type "list",data:=.seq its.toArray nn}):Addr×Obj)],p.1=D:=λp hp=>by
  rw[D7]at hp;subst hp;rfl
 rcases turn i n acc H3 w3 with ⟨stop,qf⟩|⟨go,Nx,hNx,step⟩
 ·refine thn (T.done (cxC X scope N sD H2 (D::fp)) (hc _ _ _) rfl rfl rfl i _ s3 _ H3 _ I3p (fpok fr3 one) st3 stop) λr s4 ⟨hr,I4⟩=>?_;subst hr;have IX:Inv X pins σ H3 s4:=ID.call' (ch:=D::fp) I4.os I4.base I4.hok I4.bare λb hb=>⟨(hexx b hb).1.2.2.2.1,(hexx b hb).1.2.1,(hexx b hb).1.2.2.2.2.1,(hexx b hb).1.2.2.2.2.2⟩
  have p4:=(I4.pin (D,{cls:=.type "list",data:=.seq its.toArray nn}) (by show _∈[]++[_];simp)).1;have IY:Inv X pins σ (upd H3 D (.lst acc)) s4:=by
   refine IX.track nD3 (O6 hD0) (O6 (C8 ID.ok.bsz hD0)) (V5 fD.2.1) fD.2.2.2.2.1 fD.2.2.2.2.2 (λb hb z=>fD.2.2.1 (z▸hb)) ?_;exact⟨hl3,its,nn,v3,p4⟩
  refine hRR H3 acc s4 qf nD3 IY ?_ (ID.fpOk (C0 _) ?_)
  ·obtain⟨m,hm,_⟩:=I4.loc;exact⟨m,hm⟩
  ·rw[Ar (V5 (neC D (.head _)))];exact I4.free
 ·refine thn (T.item (cxC X scope N sD H2 (D::fp)) (hc _ _ _) rfl rfl rfl i _ s3 _ H3 (λ_ _=>False) I3p (fpok fr3 one) st3 go) λr s4 ⟨u,hr,h4⟩=>?_;subst hr;refine thn h4 λ_ s5 ⟨x,H5,I5,r5,y5,st5,fr5⟩=>?_;have I5':=I5.pinned (fpok fr5 one) (T.obj _ _ st5);refine thn (hg sD H2 (D::fp) _ s5 _ H5 x u _ I5' r5 (step x H5 y5)) λ_ s6 ⟨σ6,H6,I6,⟨ts,tl,eσ⟩,hz6,q6⟩=>?_;refine thn (ht sD H2 (D::fp) _ s6 σ6 H6 _ I6 q6) λb s7 ⟨H7,I7,q7⟩=>?_;have weak:∀{pl:List (Addr×Obj)}{H':Hp}{s':Shared},Inv (cxC X scope N sD H2 (D::fp)) pl σ6 H' s'->Inv (cxC X scope N sD H2 (D::fp)) [] (List.replicate k none++LZ cs σ) H' s':=λ{pl H' s'} J=>by
   refine(J.weak (σ':=List.replicate k none++LZ cs σ) ?_ λj v e=>?_).pins_of λp hp=>absurd hp A6
   ·rw[eσ,C5,C5,O2,tl]
   ·by_cases z:j<k
    ·rw[L8 (by simpa using z),S6,V2 z]at e;cases e
    ·rw[F3 (by rw[O2];lia),O2]at e;rw[eσ,F3 A1,tl];exact e
  have later:∀{pl:List (Addr×Obj)}{σ':St}{H':Hp}{s':Shared},Inv (cxC X scope N sD H2 (D::fp)) (pl++Lp fp s5.heap) σ' H' s'->tn (i+1) s'.heap/\∀b∈fp,H' b=none:=λ{pl σ' H' s'} J =>
   ⟨T.keep _ _ _ st5 λb hb o e=>(J.pin (b,o) (F4 _ (F4 _ (Gy hb e)))).1,λb hb=>by
    obtain⟨o,e,_⟩:=T.obj _ _ st5 b hb;exact(J.pin (b,o) (F4 _ (F4 _ (Gy hb e)))).2.1⟩
  cases b with
  |false =>
   have q7':Nx acc H7:=by simpa using q7
   obtain⟨m',hm,w7⟩:=hNx _ _ q7';rw[V0 C6];have p7:=I7.pin (D,{cls:=.type "list",data:=.seq its.toArray nn}) (F4 _ (O4 _ (D7.mpr rfl)));exact⟨m',hm,i+1,acc,its,nn,H7,weak I7,(later I7).1,(later I7).2,p7.2.1,hl3,v3,p7.1,w7⟩
  |true =>
   rw[V2 rfl]at q7;rw[V2 rfl];refine thn (he sD H2 (D::fp) _ s7 σ6 H7 _ I7 q7) λy s8 ⟨v,H8,I8,r8,q8⟩=>?_;obtain⟨m',hm,w8⟩:=hNx _ _ q8;have p8:=I8.pin (D,{cls:=.type "list",data:=.seq its.toArray nn}) (F4 _ (O4 _ (D7.mpr rfl)));have hlen:=v3.length;refine Z9 F.slot_list_append ⟨_,p8.1,rfl⟩ F.entry_list_append (F.args_list_append_2 _ _) (PySem.list_append D its.toArray nn y (by rw[D0];lia)) ⟨p8.1,?_⟩;have q:=PySem.IsL.update p8.1 (·.push y);have eq:its.toArray.push y=(its++[y]).toArray:=by simp
   dsimp only at q;rw[eq]at q;have I8':Inv (cxC X scope N sD H2 (D::fp)) ([]++Lp fp s5.heap) σ6 H8 s8:=I8.pins_of λp hp=>I8.pin p (F4 _ (F4 _ hp));have I9:=I8'.turned (t':=s8.toks) (it:=D) (h':=s8.heap.update D (Obj.mapSeq (·.push y))) (λb o hb e=>(M0 s8.heap (Obj.mapSeq (·.push y)) (V5 hb)).trans e) p8.2.1 (neC D (.head _)) (.inl (.head _)) (cells D (.head _))
    (λp hp z=>nfp (by
     have:=(NY (fp:=fp) (h:=s5.heap) (p:=p) (by simpa[cxC] using hp)).1;rw[z]at this;exact this))
   refine⟨m',hm,i+1,acc++[v],its++[y],_,H8,weak I9,(later I9).1,(later I9).2,p8.2.1,?_,v3.append (.cons r8 .nil),q,w8⟩;rw[C5,P2];lia
theorem Nj{pins:List (Addr×Obj)}{σ:St}{H2:Hp}{s2:Shared}{it:Addr}{fp:List Addr}{tn:Nat->Heap->Prop}{J:It}{RR:Value->Addr->Result->Shared->Prop}{E:Value->Shared->Prop}{Cq:Cx->Prop}(hc:∀s H ex,Cq (cxC X scope N s H ex))(S:BD X scope N k cs)
  (hg:∀s H ex,PG (cxC X scope N s H ex) tg g) (ht:∀s H ex,PTs (cxC X scope N s H ex) ifs tc) (he:∀s H ex,PE (cxC X scope N s H ex) elt te)
  (I2:Inv X pins σ H2 s2) (T:Wr Cq X.prog X.w X.K tg J fp it tn) (st:tn 0 s2.heap) (f2:∀b∈fp,FQ X pins H2 b) (hb:Fb k cs g tc te J σ H2 fin)
  (hRR:∀(D C:Addr)(H':Hp)(acc:List V)(s4:Shared),fin acc H'->H' D=none->Inv X pins σ (upd H' D (.lst acc)) s4->(∃m,s4.heap.Ns C m)->FQ X pins (upd H' D (.lst acc)) C->RR (.ref D) C (.ok .next) s4) :
  wpAny (model X.prog X.w) X.A (newList []) (λacc s₃=>wpAny (model X.prog X.w) X.A (newFunctionEnv scope X.env.globals (Sb X.env scope.names) [] X.env.qual none .none (some X.env)) (λcenv s₄ =>
   codeAny (model X.prog X.w) X.A (.compStart (.ListComp elt [⟨tg,iter,ifs,0⟩] scope pos) 0 (.ref it) acc {cenv with scope:=relabel scope X.env}) (RR acc cenv.locals) s₄) E s₃) E s2:=by
 refine K6 (wpAny_newFunctionEnv S.cell (by intro y hy;simp at hy) (λh₁ hns₁ hsb₁=>?_) S.kind);dsimp only at hns₁ hsb₁⊢;have keepD:∀b o,s2.heap.get? b=some o->(s2.heap.push {cls:=.type "list",dict:=none,data:=.seq ([]:List Value).toArray}).get? b=some o:=λb o e=>B7 _ e;have ID:Inv X pins σ H2 {s2 with heap:=s2.heap.push {cls:=.type "list",dict:=none,data:=.seq ([]:List Value).toArray} }:=I2.kept (t':=s2.toks) keepD;have hD:(s2.heap.push {cls:=.type "list",dict:=none,data:=.seq ([]:List Value).toArray}).get? s2.heap.objs.size=some {cls:=.type "list",data:=.seq ([]:List Value).toArray}:=C7 _ rfl;have nfp:s2.heap.objs.size∉fp:=λz=>by
  obtain⟨o,e,_⟩:=T.obj _ _ st _ z;exact absurd (C4 e) (N7 _)
 have stD:tn 0 (s2.heap.push {cls:=.type "list",dict:=none,data:=.seq ([]:List Value).toArray}):=T.keep _ _ _ st λb _ o e=>keepD b o e;have hk:∀b o,(s2.heap.push {cls:=.type "list",dict:=none,data:=.seq ([]:List Value).toArray}).get? b=some o->h₁.get? b=some o:=λb o e=>hsb₁.extBut b o (F1 (C4 e)) (B7 _ e);have loop:∀s₃:Shared,s₃={s2 with heap:=h₁,toks:=s2.toks+([]:List (Str×Value)).length} ->
   codeAny (model X.prog X.w) X.A (.compLoop (.ListComp elt [⟨tg,iter,ifs,0⟩] scope pos) 0 (.ref it) (.ref s2.heap.objs.size) (compEnvC scope (Sb X.env scope.names) (s2.heap.push {cls:=.type "list",dict:=none,data:=.seq ([]:List Value).toArray}).objs.size X.env))
    (RR (.ref s2.heap.objs.size) (s2.heap.push {cls:=.type "list",dict:=none,data:=.seq ([]:List Value).toArray}).objs.size) s₃:=by
  rintro s₃ rfl;exact Ur (sD:={s2 with heap:=s2.heap.push {cls:=.type "list",dict:=none,data:=.seq ([]:List Value).toArray} }) hc S hg ht he ID hD I2.sz (I2.fpOk (C0 _) I2.fresh) nfp T stD f2 hb rfl I2.bare hk ⟨_,hns₁⟩ λH' acc s4=>hRR _ _ H' acc s4
 exact codeAny_compStart_list (loop _ rfl) (T.self _ 0 _ _ _ (T.keep _ _ _ stD λb _ o e=>hk b o e) (loop _ rfl))
theorem CH(hc:X.calm=true)(S:BD X scope N k cs)(hi:PI X tg iter wi)(hg:∀s H ex,PG (cxC X scope N s H ex) tg g)(ht:∀s H ex,PTs (cxC X scope N s H ex) ifs tc)(he:∀s H ex,PE (cxC X scope N s H ex) elt te)
  (hs:∀x,foldedSetIterable iter X.env x=pure x:=by intro _;rfl):PE X (.ListComp elt [⟨tg,iter,ifs,0⟩] scope pos) (tComp k cs wi g tc te):=by
 intro pins s σ H Q I h;rw[eval_ListComp];refine wpAny_comprehension_free (use:=none) rfl hs (Nk λy hy hf=>I.ok.has _ (S.free y hy hf)) S.kind S.names (thn (hi pins s σ H _ I h) λv s1 h1=>thn h1 λitv s2 h2=>?_);obtain⟨it,fp,tn,J,H2,rfl,I2,T,st2,f2,hb⟩:=h2;refine Nj (RR:=λacc C=>compPost (model X.prog X.w) X.A X.xe none (EP X pins σ Q) acc C) (Cq:=λX=>X.calm=true) (λ_ _ _=>hc) S hg ht he I2 T.q st2 f2 hb λD C H' acc s4 qf nD J4 hn fC=>?_;obtain⟨m,hm⟩:=hn;refine⟨m,hm,λh' sb=>⟨.ref D,upd H' D (.lst acc),?_,rfl,qf D nD⟩⟩;exact J4.turned (t':=s4.toks) (it:=C) (λb o hb e=>(sb.2 b hb).trans e) fC.1 fC.2.1 fC.2.2.2.1 fC.2.2.2.2.1 fC.2.2.2.2.2
def UF(i k:Nat)(cs:List Nat)(wi:TI)(g:TG)(tc:TT)(te:TE):TS:=λD σ H=>wi σ H λJ H1=>Fb k cs g tc te J σ H1 λacc H2=>∀p,H2 p=none->D.nx (σ.set i (some (.ref p))) (upd H2 p (.lst acc))
theorem Gm{i:Nat}{y:Str}{py spos:Pos}(hc:X.calm=true)(hN:X.N.Nodup)(hi':X.N[i]?=some y)(hy:X.env.scope.names.lookup y=some .local)(S:BD X scope N k cs)(hi:PI X tg iter wi)
  (hg:∀s H ex,PG (cxC X scope N s H ex) tg g) (ht:∀s H ex,PTs (cxC X scope N s H ex) ifs tc) (he:∀s H ex,PE (cxC X scope N s H ex) elt te)
  (hsw:swapsWith (.ListComp elt [⟨tg,iter,ifs,0⟩] scope pos) (some (.Name y py)) spos.line X.env=pure true:=by rfl) (hs:∀x,foldedSetIterable iter X.env x=pure x:=by intro _;rfl) :
  PS X (.Assign [.Name y py] (.ListComp elt [⟨tg,iter,ifs,0⟩] scope pos) spos) (UF i k cs wi g tc te):=by
 intro pins s σ H D I h;rw[exec_Assign_Name_used _ _ _ _ hsw];refine U9 (wpAny_standAt (U9 ?_));show wpAny _ X.A (do let _ <-comprehension (.ListComp elt [⟨tg,iter,ifs,0⟩] scope pos) scope X.env _ (newList []) false (eval iter X.env) (some (assign (.Name y py) X.env))) _ _ s;refine U9 (Y4 (wpAny_comprehension_free (use:=some (assign (.Name y py) X.env)) (Q:=λ_ s'=>SP X pins D .next s') rfl hs (Nk λy hy hf=>I.ok.has _ (S.free y hy hf)) S.kind S.names
  (thn (hi pins s σ H _ I h) λv s1 h1=>thn h1 λitv s2 h2=>?_)) (λ_ s' hq=>V9 (V9 hq)) λ_ _ e=>e)
 obtain⟨it,fp,tn,J,H2,rfl,I2,T,st2,f2,hb⟩:=h2;refine Nj (RR:=λacc C=>compPost (model X.prog X.w) X.A X.xe (some (assign (.Name y py) X.env)) (λ_ s'=>SP X pins D .next s') acc C) (Cq:=λX=>X.calm=true) (λ_ _ _=>hc) S hg ht he I2 T.q st2 f2 hb λL C H' acc s4 qf nD J4 hn fC=>?_;obtain⟨m,hm⟩:=hn;show wpAny _ X.A (assign (.Name y py) X.env (.ref L)) _ _ _;refine wpAny_assign_Name (NU J4 hN hi' (.inl hy) (v:=.ref L) rfl (λs5 J5 hsb=>?_) (.inr hy));obtain⟨a,sb,ha⟩:=hsb;have nCa:C≠a:=by
  rcases ha with z|z
  ·rw[z];exact fC.2.1
  ·exact λq=>fC.2.2.2.2.1 y a z q.symm
 refine⟨m,hm.sameBut sb nCa,λh' sb'=>⟨σ.set i (some (.ref L)),upd H' L (.lst acc),?_,qf L nD⟩⟩;exact J5.turned (t':=s5.toks) (it:=C) (λb o hb e=>(sb'.2 b hb).trans e) fC.1 fC.2.1 fC.2.2.2.1 fC.2.2.2.2.1 fC.2.2.2.2.2
end
section
variable{K:PySem.W.Frag}{k:Nat}{cs:List Nat}{g:TG}{tc:TT}{te:TE}{σ:St}{H:Hp}{fin:List V->Hp->Prop}
abbrev Bt(k:Nat)(cs:List Nat)(g:TG)(tc:TT)(te:TE)(σ:St)(x:V)(acc:List V)(H:Hp)(Nx:List V->Hp->Prop):Prop :=
 g x (List.replicate k none++LZ cs σ) H fun σ2 H2=>(∃ts:St,ts.length=k/\σ2=ts++LZ cs σ)/\acc.length<sizeLine/\tc σ2 H2 λb H3=>if b=true then te σ2 H3 λv H4=>Nx (acc++[v]) H4 else Nx acc H3
theorem DT{a:Addr}{xs:List V}(Pv:Nat->List V->Hp->Prop)(h0:Pv 0 [] H)(hl:∀i acc H,i<=xs.length->Pv i acc H->SqL K H a xs)
  (hs:∀i x acc H,xs[i]?=some x->Pv i acc H->Bt k cs g tc te σ x acc H (Pv (i+1))) (hd:∀acc H,Pv xs.length acc H->fin acc H):Fb k cs g tc te (Itl K a) σ H fin:=by
 refine⟨λi m acc H=>m=xs.length-i/\i<=xs.length/\Pv i acc H,⟨xs.length,by simp,F5 _,h0⟩,?_⟩;rintro i m acc H ⟨rfl,hi,p⟩;have q:=hl i acc H hi p;by_cases hlt:i<xs.length
 ·refine .inr ⟨⟨xs,xs[i],q,by simp[hlt]⟩,Pv (i+1),λacc' H' p'=>⟨xs.length-(i+1),by lia,rfl,hlt,p'⟩,λx H' y=>?_⟩;obtain⟨e,y⟩:=y;subst e;exact hs i x acc _ (y xs q) p
 ·have e:i=xs.length:=by lia
  subst e;exact .inl ⟨⟨xs,q,C0 _⟩,hd acc H p⟩
theorem PJ{a:Addr}{xs:List V}(Pv:Nat->List V->Hp->Prop)(h0:Pv 0 [] H)(hl:∀i acc H,i<=xs.length->Pv i acc H->SqT K H a xs)
  (hs:∀i x acc H,xs[i]?=some x->Pv i acc H->Bt k cs g tc te σ x acc H (Pv (i+1))) (hd:∀acc H,Pv xs.length acc H->fin acc H):Fb k cs g tc te (Itt K a) σ H fin:=by
 refine⟨λi m acc H=>m=xs.length-i/\i<=xs.length/\Pv i acc H,⟨xs.length,by simp,F5 _,h0⟩,?_⟩;rintro i m acc H ⟨rfl,hi,p⟩;have q:=hl i acc H hi p;by_cases hlt:i<xs.length
 ·refine .inr ⟨⟨xs,xs[i],q,by simp[hlt]⟩,Pv (i+1),λacc' H' p'=>⟨xs.length-(i+1),by lia,rfl,hlt,p'⟩,λx H' y=>?_⟩;obtain⟨e,y⟩:=y;subst e;exact hs i x acc _ (y xs q) p
 ·have e:i=xs.length:=by lia
  subst e;exact .inl ⟨⟨xs,q,C0 _⟩,hd acc H p⟩
theorem Ut{lo:Int}{n:Nat}(Pv:Nat->List V->Hp->Prop)(h0:Pv 0 [] H)(hs:∀i acc H,i<n->Pv i acc H->Bt k cs g tc te σ (.int (lo+i)) acc H (Pv (i+1)))(hd:∀acc H,Pv n acc H->fin acc H):Fb k cs g tc te (Itr lo n) σ H fin:=by
 refine⟨λi m acc H=>m=n-i/\i<=n/\Pv i acc H,⟨n,by simp,F5 _,h0⟩,?_⟩;rintro i m acc H ⟨rfl,hi,p⟩;by_cases hlt:i<n
 ·refine .inr ⟨hlt,Pv (i+1),λacc' H' p'=>⟨n-(i+1),by lia,rfl,hlt,p'⟩,λx H' y=>?_⟩;obtain⟨e,y⟩:=y;subst e y;exact hs i acc _ hlt p
 ·have e:i=n:=by lia
  subst e;exact .inl ⟨C0 _,hd acc H p⟩
end
section
variable{prog:Program}{w:World}{A:Around}{E:Value->Shared->Prop}{s:Shared}
theorem JI{I t:Addr}{k:Nat}{vs:Array Value}{v:Value}{Q:Value->Shared->Prop}(hI:s.heap.IsTupleIter I t k)(hV:s.heap.IsTuple t vs)(hv:vs[k]?=some v)
  (q:∀g,g.IsTupleIter I t (k+1)->Heap.SameBut I s.heap g->Q v {s with heap:=g}):wpAny (model prog w) A (Builtin.SmallTypes.nextOf (.ref I)) Q E s:=by
 obtain⟨oI,eI,cI,dI⟩:=id hI;obtain⟨oV,eV,_,nV,dV⟩:=hV;unfold Builtin.SmallTypes.nextOf;refine U9 (wpAny_callSpecial?_slot (name:=Str.ofString "__next__") hI.typeIs Z7 (A0b Z7 hI.typeIs F.entry_tuple_iterator_next ?_ (F.args_tuple_iterator_next_1 _)));show wpAny _ _ (field (.ref I) 0 >>= _) _ _ s;refine U9 (Y6 eI dI (x:=.ref t) rfl ?_);show wpAny _ _ (if(Value.ref t==Value.none)=true then _ else _) _ _ s;rw[V0 (λz:(Value.ref t==Value.none)=true=>C6 z)];show wpAny _ _ (field (.ref I) 1 >>= _) _ _ s;refine U9 (Y6 eI dI (x:=.int k 0) rfl ?_);show wpAny _ _ (seqItems? (.ref t) >>= _) _ _ s;refine U9 (Z3 eV dV ?_);simp only[L7,hv];refine U9 (K0 eI dI A6 (V9 ⟨v,rfl,V9 (q _ ?_ (Heap.SameBut.update ..))⟩));exact⟨_,P3 _ eI (X6 (Z2 dI _)),(Obj.cls_mapFields ..).trans cI,by rw[Z2 dI];simp[rawInt]⟩
theorem Lz{I t:Addr}{k:Nat}{vs:Array Value}{Q:Value->Shared->Prop}(hA:A.handled=none)(hI:s.heap.IsTupleIter I t k)(hV:s.heap.IsTuple t vs)(hv:vs[k]?=none)
  (q:∀g e,Heap.ExtBut I s.heap g->(∃o,g.get? e=some o/\o.cls=.type "StopIteration")->E (.ref e) {s with heap:=g}):wpAny (model prog w) A (Builtin.SmallTypes.nextOf (.ref I)) Q E s:=by
 obtain⟨oI,eI,cI,dI⟩:=id hI;obtain⟨oV,eV,_,nV,dV⟩:=hV;unfold Builtin.SmallTypes.nextOf;refine U9 (wpAny_callSpecial?_slot (name:=Str.ofString "__next__") hI.typeIs Z7 (A0b Z7 hI.typeIs F.entry_tuple_iterator_next ?_ (F.args_tuple_iterator_next_1 _)));show wpAny _ _ (field (.ref I) 0 >>= _) _ _ s;refine U9 (Y6 eI dI (x:=.ref t) rfl ?_);show wpAny _ _ (if(Value.ref t==Value.none)=true then _ else _) _ _ s;rw[V0 (λz:(Value.ref t==Value.none)=true=>C6 z)];show wpAny _ _ (field (.ref I) 1 >>= _) _ _ s;refine U9 (Y6 eI dI (x:=.int k 0) rfl ?_);show wpAny _ _ (seqItems? (.ref t) >>= _) _ _ s;refine U9 (Z3 eV dV ?_);simp only[L7,hv];refine U9 (wpAny_rule (U9 (K0 eI dI A6 ?_)));show wpAny _ _ (newExc (.type "StopIteration") [] >>= _) _ _ _;refine U9 ?_;simp only[newExc,newTuple];refine U9 (K6 ?_ (by size_fits));refine U9 (m:=firstArgMember _ _) (wpAny_of_eq (a:=Value.none) (by first|rfl|(simp only[firstArgMember];rfl)) (K6 ?_ (by size_fits)));simp only[raiseNew];refine U9 (wpAny_handled ?_)
 first|rw[show A.in1.handled=none from hA]|rw[hA]
 refine U9 (V9 (wpAny_throw (q _ _ (((Heap.SameBut.update ..).extBut.push _).push _) ⟨_,C7 _ rfl,rfl⟩)))
def Ca:Bool->Heap->Addr->Addr->Nat->Prop
 |true,h,I,l,k=>h.IsTupleIter I l k
 |false,h,I,l,k=>h.IsListIter I l k
def Di:Bool->Heap->Addr->Array Value->Prop
 |true,h,l,vs=>h.IsTuple l vs
 |false,h,l,vs=>h.IsList l vs
def SqX(K:PySem.W.Frag):Bool->Hp->Addr->List V->Prop
 |true,H,a,xs=>SqT K H a xs
 |false,H,a,xs=>SqL K H a xs
theorem Ca.move{b:Bool}{h g:Heap}{I l:Addr}{k:Nat}(x:Ca b h I l k)(e:∀o,h.get? I=some o->g.get? I=some o):Ca b g I l k:=by
 cases b with
 |true=>obtain⟨o,ho,r⟩:=x;exact⟨o,e _ ho,r⟩
 |false=>obtain⟨o,ho,r⟩:=x;exact⟨o,e _ ho,r⟩
theorem Ca.there{b:Bool}{h:Heap}{I l:Addr}{k:Nat}(x:Ca b h I l k):∃o,h.get? I=some o/\∀v,o.data≠.cell v:=by
 cases b with
 |true=>obtain⟨o,ho,_,d⟩:=x;exact⟨o,ho,λv z=>by rw[d]at z;cases z⟩
 |false=>obtain⟨o,ho,_,d⟩:=x;exact⟨o,ho,λv z=>by rw[d]at z;cases z⟩
theorem Di.move{b:Bool}{h g:Heap}{l:Addr}{vs:Array Value}(x:Di b h l vs)(e:∀o,h.get? l=some o->g.get? l=some o):Di b g l vs:=by
 cases b with
 |true=>obtain⟨o,ho,r⟩:=x;exact⟨o,e _ ho,r⟩
 |false=>obtain⟨o,ho,r⟩:=x;exact⟨o,e _ ho,r⟩
theorem CV{b:Bool}{I l:Addr}{k:Nat}{vs:Array Value}{v:Value}{Q:Value->Shared->Prop}(hI:Ca b s.heap I l k)(hV:Di b s.heap l vs)(hv:vs[k]?=some v)
  (q:∀g,Ca b g I l (k+1)->Heap.SameBut I s.heap g->Q v {s with heap:=g}):wpAny (model prog w) A (Builtin.SmallTypes.nextOf (.ref I)) Q E s:=by
 cases b with
 |true=>exact JI hI hV hv q
 |false=>exact wpAny_nextOf_list_item hI hV hv q
theorem EI{b:Bool}{I l:Addr}{k:Nat}{vs:Array Value}{Q:Value->Shared->Prop}(hA:A.handled=none)(hI:Ca b s.heap I l k)(hV:Di b s.heap l vs)(hv:vs[k]?=none)
  (q:∀g e,Heap.ExtBut I s.heap g->(∃o,g.get? e=some o/\o.cls=.type "StopIteration")->E (.ref e) {s with heap:=g}):wpAny (model prog w) A (Builtin.SmallTypes.nextOf (.ref I)) Q E s:=by
 cases b with
 |true=>exact Lz hA hI hV hv q
 |false=>exact wpAny_nextOf_list_end hA hI hV hv q
theorem Ex{b:Bool}{l:Addr}{vs:Array Value}{Q:Value->Shared->Prop}(hV:Di b s.heap l vs)
  (q:∀g,Ca b g s.heap.objs.size l 0->g.objs.size=s.heap.objs.size+1->(∀c o,s.heap.get? c=some o->g.get? c=some o)->Q (.ref s.heap.objs.size) {s with heap:=g}):wpAny (model prog w) A (pyIter (.ref l)) Q E s:=by
 cases b with
 |true=>exact wpAny_pyIter_tuple hV (q _ ⟨_,C7 _ rfl,rfl,rfl⟩ (O1 ..) λc o e=>B7 _ e)
 |false=>exact X5 hV (q _ ⟨_,C7 _ rfl,rfl,rfl⟩ (O1 ..) λc o e=>B7 _ e)
structure Tq(z U O i j l m:Addr):Prop where
 nd:[z,U,O,i,j].Nodup
 l:l∉[z,O,i,j]
 m:m∉[z,O,i,j]
theorem Uw{b c:Bool}{z U O i j l m:Addr}{k:Nat}{xs ys:Array Value}{x y p q:Value}{Q:Value->Shared->Prop}(D:Tq z U O i j l m)(hZ:IsZip s.heap z U O .none)(hU:IsPair s.heap U (.ref i) (.ref j))(hO:IsPair s.heap O p q)
  (hi:Ca b s.heap i l k) (hj:Ca c s.heap j m k) (hl:Di b s.heap l xs) (hm:Di c s.heap m ys) (hx:xs[k]?=some x) (hy:ys[k]?=some y)
  (fin:∀g,IsZip g z U O (rawInt s.heap.objs.size)->IsPair g O x y->Ca b g i l (k+1)->Ca c g j m (k+1)->IsPair g s.heap.objs.size x y->g.objs.size=s.heap.objs.size+1 ->
   (∀a o,a∉[z,O,i,j]->s.heap.get? a=some o->g.get? a=some o)->Q (.ref s.heap.objs.size) {s with heap:=g}) :
  wpAny (model prog w) A (Builtin.«zip.__next__» ⟨[.ref z],[]⟩) (λr s'=>∃v,r=.done (.ret v)/\Q v s') E s:=by
 obtain⟨nd,nl,nm⟩:=D;simp only[M8,B8,D3,W7,A0c,Q9,and_true,X9]at nd nl nm;obtain⟨⟨zU,zO,zi,zj⟩,⟨UO,Ui,Uj⟩,⟨Oi,Oj⟩,ij⟩:=nd;obtain⟨lz,lO,li,lj⟩:=nl;obtain⟨mz,mO,mi,mj⟩:=nm;show wpAny _ _ (field (.ref z) 2 >>= _) _ _ _;refine U9 (Y6 hZ rfl (x:=.bool false) rfl ?_);show wpAny _ _ (field (.ref z) 3 >>= _) _ _ _;refine U9 (Y6 hZ rfl (x:=.ref U) rfl (U9 (Z3 hU rfl ?_)));show wpAny _ _ (Builtin.SmallTypes.ownedTupleIsFree (.ref z) >>= _) _ _ _;refine U9 ?_;unfold Builtin.SmallTypes.ownedTupleIsFree;refine U9 (Y6 hZ rfl (x:=.none) rfl (V9 ?_));simp only[A0d];refine U9 (wpAny_rule (U9 (Y6 hZ rfl (x:=.ref O) rfl (U9 (Z5 hZ A6 λh1 hZ1 s1=>?_)))));replace hZ1:IsZip h1 z U O .ellipsis:=hZ1;refine U9 ?_;simp only[List.zipIdx_cons,List.zipIdx_nil,List.forIn_cons,List.forIn_nil];refine U9 (U9 (A1f ?_));show wpAny _ _ (Builtin.SmallTypes.nextOf (.ref i) >>= _) _ _ _;refine U9 (CV (hi.move λo e=>s1.extBut _ _ (V5 zi) e) (hl.move λo e=>s1.extBut _ _ lz e) hx λh2 hi2 s2=>V9 ?_);have hO2:IsPair h2 O p q:=s2.extBut _ _ Oi (s1.extBut _ _ (V5 zO) hO);refine U9 (Z3 hO2 rfl (U9 (A1b hO2 λh3 hO3 s3=>?_)));replace hO3:IsPair h3 O x q:=hO3;refine U9 (wpAny_letGo (V9 (U9 (U9 (A1f ?_)))));show wpAny _ _ (Builtin.SmallTypes.nextOf (.ref j) >>= _) _ _ _;refine U9 (CV (hj.move λo e=>s3.extBut _ _ (V5 Oj) (s2.extBut _ _ (V5 ij) (s1.extBut _ _ (V5 zj) e))) (hm.move λo e=>s3.extBut _ _ mO (s2.extBut _ _ mi (s1.extBut _ _ mz e))) hy λh4 hj4 s4=>V9 ?_);have hO4:IsPair h4 O x q:=s4.extBut _ _ Oj hO3;refine U9 (Z3 hO4 rfl (U9 (A1b hO4 λh5 hO5 s5=>?_)));replace hO5:IsPair h5 O x y:=hO5;refine U9 (wpAny_letGo (V9 (V9 (U9 (Z3 hO5 rfl (U9 (wpAny_newTuple ?_)))))));have sz:h5.objs.size=s.heap.objs.size:=by rw[s5.1,s4.1,s3.1,s2.1,s1.1]
 have hZ5:IsZip h5 z U O .ellipsis:=s5.extBut _ _ zO (s4.extBut _ _ zj (s3.extBut _ _ zO (s2.extBut _ _ zi hZ1)));have kp:∀a o,a∉[z,O,i,j]->s.heap.get? a=some o->h5.get? a=some o:=λa o ha e=>by
  simp only[B8,D3,W7,A0c]at ha;exact s5.extBut _ _ ha.2.1 (s4.extBut _ _ ha.2.2.2 (s3.extBut _ _ ha.2.1 (s2.extBut _ _ ha.2.2.1 (s1.extBut _ _ ha.1 e))))
 have hi5:Ca b h5 i l (k+1):=hi2.move λo e=>s5.extBut _ _ (V5 Oi) (s4.extBut _ _ ij (s3.extBut _ _ (V5 Oi) e));have hj5:Ca c h5 j m (k+1):=hj4.move λo e=>s5.extBut _ _ (V5 Oj) e;have zlt:z<h5.objs.size:=C4 hZ5;show wpAny _ _ (Builtin.SmallTypes.ownedTupleHandOut (.ref z) (.ref h5.objs.size) >>= _) _ _ _;refine U9 ?_;unfold Builtin.SmallTypes.ownedTupleHandOut;have hZ6:IsZip (h5.push {cls:=.type "tuple",data:=.seq #[x,y]}) z U O .ellipsis:=B7 _ hZ5;refine U9 (Z5 hZ6 A6 λh7 hZ7 s7=>?_);replace hZ7:IsZip h7 z U O (rawInt h5.objs.size):=hZ7;refine Z5 hZ7 A6 λh8 hZ8 s8=>?_;replace hZ8:IsZip h8 z U O (rawInt h5.objs.size):=hZ8;have up:∀a o,a≠z->h5.get? a=some o->h8.get? a=some o:=λa o na e=>s8.extBut _ _ na (s7.extBut _ _ na (B7 _ e));have hT:IsPair h8 h5.objs.size x y:=s8.extBut _ _ (R5 zlt) (s7.extBut _ _ (R5 zlt) (C7 _ rfl));have sz8:h8.objs.size=h5.objs.size+1:=by rw[s8.1,s7.1,O1]
 rw[sz]at hZ8 hT sz8;refine V9 ⟨_,rfl,?_⟩;show Q (.ref h5.objs.size) _;rw[sz];refine fin h8 hZ8 (up _ _ (V5 zO) hO5) (hi5.move λo e=>up _ o (V5 zi) e) (hj5.move λo e=>up _ o (V5 zj) e) hT sz8 λa o ha e=>up a o ?_ (kp a o ha e);simp only[B8,D3,W7,A0c]at ha;exact ha.1
theorem Uv{b c:Bool}{z U O i j l m:Addr}{k:Nat}{xs ys:Array Value}{p q:Value}{Q:Fin->Shared->Prop}(hA:A.handled=none)(D:Tq z U O i j l m)(hZ:IsZip s.heap z U O .none)(hU:IsPair s.heap U (.ref i) (.ref j))(hO:IsPair s.heap O p q)
  (hi:Ca b s.heap i l k) (hj:Ca c s.heap j m k) (hl:Di b s.heap l xs) (hm:Di c s.heap m ys) (hend:xs[k]?=none\/ys[k]?=none)
  (fin:∀g e,(∀a o,a∉[z,O,i,j]->s.heap.get? a=some o->g.get? a=some o)->(∃o,g.get? e=some o/\o.cls=.type "StopIteration")->E (.ref e) {s with heap:=g}) :
  wpAny (model prog w) A (Builtin.«zip.__next__» ⟨[.ref z],[]⟩) Q E s:=by
 obtain⟨nd,nl,nm⟩:=D;simp only[M8,B8,D3,W7,A0c,Q9,and_true,X9]at nd nl nm;obtain⟨⟨zU,zO,zi,zj⟩,⟨UO,Ui,Uj⟩,⟨Oi,Oj⟩,ij⟩:=nd;obtain⟨lz,lO,li,lj⟩:=nl;obtain⟨mz,mO,mi,mj⟩:=nm;show wpAny _ _ (field (.ref z) 2 >>= _) _ _ _;refine U9 (Y6 hZ rfl (x:=.bool false) rfl ?_);show wpAny _ _ (field (.ref z) 3 >>= _) _ _ _;refine U9 (Y6 hZ rfl (x:=.ref U) rfl (U9 (Z3 hU rfl ?_)));show wpAny _ _ (Builtin.SmallTypes.ownedTupleIsFree (.ref z) >>= _) _ _ _;refine U9 ?_;unfold Builtin.SmallTypes.ownedTupleIsFree;refine U9 (Y6 hZ rfl (x:=.none) rfl (V9 ?_));simp only[A0d];refine U9 (wpAny_rule (U9 (Y6 hZ rfl (x:=.ref O) rfl (U9 (Z5 hZ A6 λh1 hZ1 s1=>?_)))));replace hZ1:IsZip h1 z U O .ellipsis:=hZ1;refine U9 ?_;simp only[List.zipIdx_cons,List.zipIdx_nil,List.forIn_cons,List.forIn_nil];refine U9 (U9 (A1f ?_));show wpAny _ _ (Builtin.SmallTypes.nextOf (.ref i) >>= _) _ _ _;have out:∀{a:Addr},a∉[z,O,i,j]->a≠z/\a≠O/\a≠i/\a≠j:=λha=>by simpa only[B8,D3,W7,A0c] using ha
 cases hx:xs[k]? with
 |none =>
  refine U9 (EI hA (hi.move λo e=>s1.extBut _ _ (V5 zi) e) (hl.move λo e=>s1.extBut _ _ lz e) hx λh2 e s2 he=>?_);obtain⟨oe,hoe,hce⟩:=he;have hZ2:IsZip h2 z U O .ellipsis:=s2 _ _ zi hZ1;have ez:e≠z:=λt=>by subst t;rw[hZ2]at hoe;cases hoe;simp at hce
  exact Z5 hZ2 A6 λh3 _ s3=>fin h3 e (λa o ha t=>s3.extBut _ _ (out ha).1 (s2 _ _ (out ha).2.2.1 (s1.extBut _ _ (out ha).1 t))) ⟨oe,s3.extBut _ _ ez hoe,hce⟩
 |some x =>
  have hy:ys[k]?=none:=by
   rcases hend with t|t
   ·rw[hx]at t;cases t
   ·exact t
  refine U9 (CV (hi.move λo e=>s1.extBut _ _ (V5 zi) e) (hl.move λo e=>s1.extBut _ _ lz e) hx λh2 hi2 s2=>V9 ?_);have hO2:IsPair h2 O p q:=s2.extBut _ _ Oi (s1.extBut _ _ (V5 zO) hO);refine U9 (Z3 hO2 rfl (U9 (A1b hO2 λh3 hO3 s3=>?_)));refine U9 (wpAny_letGo (V9 (U9 (U9 (A1f ?_)))));show wpAny _ _ (Builtin.SmallTypes.nextOf (.ref j) >>= _) _ _ _;refine U9 (EI hA (hj.move λo e=>s3.extBut _ _ (V5 Oj) (s2.extBut _ _ (V5 ij) (s1.extBut _ _ (V5 zj) e))) (hm.move λo e=>s3.extBut _ _ mO (s2.extBut _ _ mi (s1.extBut _ _ mz e))) hy λh4 e s4 he=>?_);obtain⟨oe,hoe,hce⟩:=he;have hZ4:IsZip h4 z U O .ellipsis:=s4 _ _ zj (s3.extBut _ _ zO (s2.extBut _ _ zi hZ1));have ez:e≠z:=λt=>by subst t;rw[hZ4]at hoe;cases hoe;simp at hce
  exact Z5 hZ4 A6 λh5 _ s5=>fin h5 e (λa o ha t=>s5.extBut _ _ (out ha).1 (s4 _ _ (out ha).2.2.2 (s3.extBut _ _ (out ha).2.1 (s2.extBut _ _ (out ha).2.2.1 (s1.extBut _ _ (out ha).1 t))))) ⟨oe,s5.extBut _ _ ez hoe,hce⟩
theorem Ux(g2:Heap)(n:Nat)(e2:g2.objs.size=n+2)(i j:Value):∃g5,g5=((g2.push {cls:=.type "tuple",data:=.seq #[i,j]}).push {cls:=.type "tuple",data:=.seq #[.none,.none]}).push
   {cls:=.type "zip",data:=.fields #[.none,.bool false,.bool false,.ref g2.objs.size,.ref (g2.push {cls:=.type "tuple",data:=.seq #[i,j]}).objs.size]} /\
  IsZip g5 (n+4) (n+2) (n+3) .none/\IsPair g5 (n+2) i j/\IsPair g5 (n+3) .none .none/\(∀a o,g2.get? a=some o->g5.get? a=some o) /\
  ((g2.push {cls:=.type "tuple",data:=.seq #[i,j]}).push {cls:=.type "tuple",data:=.seq #[.none,.none]}).objs.size=n+4:=by
 have e3:(g2.push {cls:=.type "tuple",data:=.seq #[i,j]}).objs.size=n+3:=by rw[O1,e2]
 have e4:((g2.push {cls:=.type "tuple",data:=.seq #[i,j]}).push {cls:=.type "tuple",data:=.seq #[.none,.none]}).objs.size=n+4:=by rw[O1,e3]
 refine⟨_,rfl,?_,?_,?_,λa o e=>B7 _ (B7 _ (B7 _ e)),e4⟩
 ·have q:=C7 ((g2.push {cls:=.type "tuple",data:=.seq #[i,j]}).push {cls:=.type "tuple",data:=.seq #[.none,.none]}) (o:={cls:=.type "zip",data:=.fields #[.none,.bool false,.bool false,.ref g2.objs.size,.ref (g2.push {cls:=.type "tuple",data:=.seq #[i,j]}).objs.size]}) rfl;rw[e4]at q;show _=some _;rw[q,e2,e3]
 ·have q:=B7 {cls:=.type "zip",data:=.fields #[.none,.bool false,.bool false,.ref g2.objs.size,.ref (g2.push {cls:=.type "tuple",data:=.seq #[i,j]}).objs.size]} (B7 {cls:=.type "tuple",data:=.seq #[.none,.none]} (C7 g2 (o:={cls:=.type "tuple",data:=.seq #[i,j]}) rfl));rw[<-e2];exact q
 ·have q:=B7 {cls:=.type "zip",data:=.fields #[.none,.bool false,.bool false,.ref g2.objs.size,.ref (g2.push {cls:=.type "tuple",data:=.seq #[i,j]}).objs.size]} (C7 (g2.push {cls:=.type "tuple",data:=.seq #[i,j]}) (o:={cls:=.type "tuple",data:=.seq #[.none,.none]}) rfl);rw[<-e3];exact q
theorem TX{b c:Bool}(l m:Addr)(xs ys:Array Value):Meets (Builtin.«zip.__new__» ⟨[.type "zip",.ref l,.ref m],[]⟩) (λ_ R s=>Di b s.heap l xs/\Di c s.heap m ys /\
   ∀g,IsZip g (s.heap.objs.size+4) (s.heap.objs.size+2) (s.heap.objs.size+3) .none->IsPair g (s.heap.objs.size+2) (.ref s.heap.objs.size) (.ref (s.heap.objs.size+1))->IsPair g (s.heap.objs.size+3) .none .none ->
    Ca b g s.heap.objs.size l 0->Ca c g (s.heap.objs.size+1) m 0->(∀a o,s.heap.get? a=some o->g.get? a=some o)->R (.ok (.ret (.ref (s.heap.objs.size+4)))) {s with heap:=g}) :=
 .of_wp λprog w A R s h=>by
  obtain⟨hp,g,d,tk,os⟩:=s;obtain⟨hl,hm,h⟩:=h;have hsub:=sub_zip
  wp_walk using Ex hl
  intro g1 i1 z1 k1;have hm1:Di c (Shared.heap ⟨g1,g,d,tk,os⟩) m ys:=hm.move λo e=>k1 _ o e
  wp_walk using Ex hm1
  intro g2 i2 z2 k2
  wp_walk
  refine⟨_,rfl,?_⟩;have e1:g1.objs.size=hp.objs.size+1:=z1;have e2:g2.objs.size=hp.objs.size+2:=by rw[show g2.objs.size=g1.objs.size+1 from z2,e1]
  obtain⟨g5,e5,a1,a2,a3,k5,s5⟩:=Ux g2 hp.objs.size e2 (.ref hp.objs.size) (.ref g1.objs.size);have a2':IsPair g5 (hp.objs.size+2) (.ref hp.objs.size) (.ref (hp.objs.size+1)):=by rw[<-e1];exact a2
  have i2':Ca c g2 (hp.objs.size+1) m 0:=by rw[<-e1];exact i2
  have key:=h g5 a1 a2' a3 ((i1.move λo e=>k2 _ o e).move λo e=>k5 _ o e) (i2'.move λo e=>k5 _ o e) λa o e=>k5 _ _ (k2 _ _ (k1 _ _ e));dsimp only at key;rw[e5,<-s5]at key;exact key
theorem Inv.turnedL{X:Cx}{pins:List (Addr×Obj)}{σ:St}{H:Hp}{s:Shared}{g:Heap}{tk:Nat}{ch:List Addr}(I:Inv X pins σ H s)(k:∀b o,b∉ch->s.heap.get? b=some o->g.get? b=some o)(hch:∀b∈ch,FQ X pins H b):Inv X pins σ H {s with heap:=g,toks:=tk}:=by
 have nch:∀b u,H b=some u->b∉ch:=λb u e z=>by rw[(hch b z).1]at e;cases e
 refine I.step (g':=s.gens) (d':=s.drawn) (ch:=ch) (λb hb=>⟨(hch b hb).2.2.2.1,(hch b hb).2.1,(hch b hb).2.2.2.2.1,(hch b hb).2.2.2.2.2⟩) (λb o _ _ hc e _=>k b o hc e) (λb o _ _ hc e _=>⟨o.slots,k b o hc e⟩) (λ_ _ _ _ n=>n)
  (λb o hc e=>⟨o,k b o hc e⟩) (λ_ _ e=>e) (λ_ _ _ e=>e) (λb ps e=>⟨#[],by rw[e];simp⟩) (λm hm=>?_) (λb u e=>?_) I.bare
 ·obtain⟨o,es,ep,ho,r⟩:=hm;exact⟨o,es,ep,k _ o (λz=>(hch _ z).2.1 rfl) ho,r⟩
 ·refine(I.hok b u e).stay (λc v hc q=>k c v ?_ q) (λ_ q=>q) λ_ _ q=>q;rcases hc with z|z
  ·rw[z];exact nch b u e
  ·exact nch c _ z
theorem Inv.pair{X:Cx}{pins:List (Addr×Obj)}{σ:St}{H:Hp}{s:Shared}{g:Heap}{tk n:Nat}{ch:List Addr}{x y:V}{u v:Value}(I:Inv X pins σ H s)(k:∀b o,b∉ch->s.heap.get? b=some o->g.get? b=some o)(hch:∀b∈ch,FQ X pins H b)
  (rx:AR x u) (ry:AR y v) (e:g.get? s.heap.objs.size=some {cls:=.type "tuple",data:=.seq #[u,v] n}):H s.heap.objs.size=none/\Inv X pins σ (upd H s.heap.objs.size (.tup [x,y])) {s with heap:=g,toks:=tk}:=by
 have f:=I.fpOk (C0 _) I.fresh;refine⟨f.1,(I.turnedL (tk:=tk) k hch).track f.1 (O6 I.sz) (O6 (C8 I.ok.bsz I.sz)) (V5 f.2.1) f.2.2.2.2.1 f.2.2.2.2.2 (λb hb z=>f.2.2.1 (z▸hb)) ?_⟩;exact⟨by show 2<=sizeLine;decide,[u,v],.cons rx (.cons ry .nil),_,e,rfl,n,rfl⟩
theorem Inv.sq{X:Cx}{pins:List (Addr×Obj)}{σ:St}{H:Hp}{s:Shared}{b:Bool}{a:Addr}{xs:List V}(I:Inv X pins σ H s)(h:SqX X.K b H a xs):∃its:List Value,AM xs its/\Di b s.heap a its.toArray:=by
 cases b with
 |true =>
  obtain⟨its,r,p,_⟩:=I.tuple h;exact⟨its,r,p⟩
 |false =>
  obtain⟨its,r,p,_⟩:=I.list h;exact⟨its,r,p.isList⟩
theorem Inv.sq_inj{X:Cx}{pins:List (Addr×Obj)}{σ:St}{H:Hp}{s:Shared}{b:Bool}{a:Addr}{xs ys:List V}(I:Inv X pins σ H s)(h:SqX X.K b H a xs)(h':SqX X.K b H a ys):xs=ys:=by
 cases b with
 |true=>exact I.tuple_inj h h'
 |false=>exact I.list_inj h h'
def Itz(K:PySem.W.Frag)(b c:Bool)(l m:Addr):It :=
 ⟨λi H=>∃xs ys x y,SqX K b H l xs/\SqX K c H m ys/\xs[i]?=some x/\ys[i]?=some y,
  λi H v H'=>∃(T:Addr)(x y:V),v=.ref T/\H T=none/\H'=upd H T (.tup [x,y])/\(∀xs,SqX K b H l xs->xs[i]?=some x)/\∀ys,SqX K c H m ys->ys[i]?=some y,
  λi H=>∃xs ys,SqX K b H l xs/\SqX K c H m ys/\(xs.length<=i\/ys.length<=i)⟩
def ZipTn(b c:Bool)(z U O i j l m:Addr)(k:Nat)(h:Heap):Prop:=IsZip h z U O .none/\IsPair h U (.ref i) (.ref j)/\(∃p q,IsPair h O p q)/\Ca b h i l k/\Ca c h j m k
theorem UA{P:Program}{w:World}{K:PySem.W.Frag}{es:List Expr}{n:Nat}{tpos:Pos}{b c:Bool}{z U O i j l m:Addr}(D:Tq z U O i j l m):PQ P w K (.Tuple es n tpos) (Itz K b c l m) [z,U,O,i,j] z (ZipTn b c z U O i j l m) where
 mem:=by simp
 obj:=λk h st a ha=>by
  obtain⟨hZ,hU,⟨p,q,hO⟩,hi,hj⟩:=st;simp only[B8,D3,W7]at ha;rcases ha with rfl|rfl|rfl|rfl|rfl
  ·exact⟨_,hZ,λv t=>by cases t⟩
  ·exact⟨_,hU,λv t=>by cases t⟩
  ·exact⟨_,hO,λv t=>by cases t⟩
  ·exact hi.there
  ·exact hj.there
 keep:=λk h h' st kp=>by
  obtain⟨hZ,hU,⟨p,q,hO⟩,hi,hj⟩:=st;exact⟨kp z A6 _ hZ,kp U A6 _ hU,⟨p,q,kp O A6 _ hO⟩,hi.move λo e=>kp i A6 o e,hj.move λo e=>kp j A6 o e⟩
 item:=by
  intro X hP hw hK hc k pins s σ H E I hf st hg;subst hP hw hK;obtain⟨hZ,hU,⟨p,q,hO⟩,hi,hj⟩:=st;obtain⟨xs,ys,x,y,sx,sy,hx,hy⟩:=hg;obtain⟨us,ru,ou⟩:=I.sq sx;obtain⟨vs,rv,ov⟩:=I.sq sy;obtain⟨u,hu,rxu⟩:=ru.get hx;obtain⟨v,hv,ryv⟩:=rv.get hy;have hT:s.TypeIs (.ref z) "zip" := ⟨_,hZ,rfl⟩
  unfold pyNext;refine U9 (A1e (wpAny_callSpecial?_slot (name:=Str.ofString "__next__") hT A0g (A0b A0g hT F.entry_zip_next (Uw D hZ hU hO hi hj ou ov (by simpa using hu) (by simpa using hv) λg gZ gO gi gj gT gs gk=>V9 ⟨_,rfl,?_⟩) (F.args_zip_next_1 _))));refine wpAny_letOwnedTupleGo_zip (s:={s with heap:=g}) gZ λg2 gZ2 sb=>?_;obtain⟨nd,nl,nm⟩:=D;simp only[M8,B8,D3,W7,A0c,Q9,and_true,X9]at nd;obtain⟨⟨zU,zO,zi,zj⟩,⟨UO,Ui,Uj⟩,⟨Oi,Oj⟩,ij⟩:=nd;have zlt:z<s.heap.objs.size:=C4 hZ;have kk:∀a o,a∉[z,O,i,j]->s.heap.get? a=some o->g2.get? a=some o:=λa o ha e=>(sb.2 a (λt=>ha (by simp[t]))).trans (gk a o ha e);have fch:∀a∈[z,O,i,j],FQ X pins H a:=λa ha=>hf a (by
   simp only[B8,D3,W7]at ha⊢;rcases ha with t|t|t|t<;>simp[t])
  obtain⟨nT,J⟩:=I.pair (tk:=s.toks) kk fch rxu ryv ((sb.2 _ (R5 zlt)).trans gT);refine⟨.ref s.heap.objs.size,_,J,rfl,⟨_,x,y,rfl,nT,rfl,λxs' q'=>by rw[I.sq_inj q' sx];exact hx,λys' q'=>by rw[I.sq_inj q' sy];exact hy⟩,⟨gZ2,kk U _ ?_ hU,⟨u,v,(sb.2 O (V5 zO)).trans gO⟩,gi.move λo e=>(sb.2 i (V5 zi)).trans e,gj.move λo e=>(sb.2 j (V5 zj)).trans e⟩,λa ha=>?_⟩
  ·simp only[B8,D3,W7,A0c];exact⟨V5 zU,UO,Ui,Uj⟩
  ·have e:=(hf a ha).1;have lt:a≠s.heap.objs.size:=by
    simp only[B8,D3,W7]at ha;rcases ha with t|t|t|t|t<;>subst t
    ·exact F1 zlt
    ·exact F1 (C4 hU)
    ·exact F1 (C4 hO)
    ·obtain⟨o,e,_⟩:=hi.there;exact F1 (C4 e)
    ·obtain⟨o,e,_⟩:=hj.there;exact F1 (C4 e)
   rw[Ar lt];exact e
 done:=by
  intro X hP hw hK hc k pins s σ H E I hf st hg;subst hP hw hK;obtain⟨hZ,hU,⟨p,q,hO⟩,hi,hj⟩:=st;obtain⟨xs,ys,sx,sy,hend⟩:=hg;obtain⟨us,ru,ou⟩:=I.sq sx;obtain⟨vs,rv,ov⟩:=I.sq sy;have lu:=ru.length;have lv:=rv.length;have hT:s.TypeIs (.ref z) "zip" := ⟨_,hZ,rfl⟩
  have he:us.toArray[k]?=none\/vs.toArray[k]?=none:=hend.imp (λt=>by simp;lia) (λt=>by simp;lia);unfold pyNext;refine U9 (A1e (wpAny_callSpecial?_slot (name:=Str.ofString "__next__") hT A0g (A0b A0g hT F.entry_zip_next (Uv (I.ok.hd hc) D hZ hU hO hi hj ou ov he λg e gk ge=>?_) (F.args_zip_next_1 _))));obtain⟨o,ho,hcl⟩:=ge;refine U9 (wpAny_isInstance (T:="StopIteration") (b:=true) ⟨o,ho,hcl⟩ isSubtype_stop (V9 ⟨rfl,?_⟩));exact I.turnedL (tk:=s.toks) gk λa ha=>hf a (by
   simp only[B8,D3,W7]at ha⊢;rcases ha with t|t|t|t<;>simp[t])
 self:=λ_ _ _ _ _ st h=>wpAny_pyIter_zip st.1 h
end
theorem Di.obj{b:Bool}{h:Heap}{l:Addr}{vs:Array Value}(x:Di b h l vs):∃o,h.get? l=some o:=by
 cases b with
 |true=>obtain⟨o,e,_⟩:=x;exact⟨o,e⟩
 |false=>obtain⟨o,e,_⟩:=x;exact⟨o,e⟩
theorem Um(g1:Heap)(n:Nat)(e1:g1.objs.size=n+1):∃g2,g2=g1.push {cls:=.type "enumerate",data:=.fields #[.none,.bool false,.ref n,rawInt 0,.none,.none]}/\IsEnum g2 (n+1) n 0 .none/\∀a o,g1.get? a=some o->g2.get? a=some o:=by
 refine⟨_,rfl,?_,λa o e=>B7 _ e⟩;have q:=C7 g1 (o:={cls:=.type "enumerate",data:=.fields #[.none,.bool false,.ref n,rawInt 0,.none,.none]}) rfl;rw[e1]at q;exact q
set_option maxHeartbeats 1000000 in
theorem RL{b:Bool}(l:Addr)(xs:Array Value):Meets (Builtin.«enumerate.__new__» ⟨[.type "enumerate",.ref l],[]⟩) (λ_ R s=>Di b s.heap l xs /\
   ∀g,IsEnum g (s.heap.objs.size+1) s.heap.objs.size 0 .none->Ca b g s.heap.objs.size l 0->(∀a o,s.heap.get? a=some o->g.get? a=some o)->R (.ok (.ret (.ref (s.heap.objs.size+1)))) {s with heap:=g}) :=
 .of_wp λprog w A R s h=>by
  obtain⟨hp,g,d,tk,os⟩:=s;obtain⟨hl,h⟩:=h;obtain⟨ol,eol⟩:=hl.obj;have hsub:=sub_enumerate;have fin:∀g1,Ca b g1 hp.objs.size l 0->g1.objs.size=hp.objs.size+1->(∀c o,hp.get? c=some o->g1.get? c=some o)->∃v,Fin.done (Flow.ret (.ref g1.objs.size))=Fin.done (Flow.ret v)/\R (.ok (.ret v)) ⟨g1.push {cls:=.type "enumerate",data:=.fields #[.none,.bool false,.ref hp.objs.size,rawInt 0,.none,.none]},g,d,tk,os⟩:=λg1 i1 z1 k1=>by
   obtain⟨g2,e2,a1,k2⟩:=Um g1 hp.objs.size z1;refine⟨_,rfl,?_⟩;have key:=h g2 a1 (i1.move λo e=>k2 _ o e) λa o e=>k2 _ _ (k1 _ _ e);dsimp only at key;rw[e2,<-z1]at key;exact key
  wp_walk using AutoSeq1.wpAny_loadPart' eol
  refine wpAny_stack_any λst=>V9 ?_;split
  ·rename_i c' _ _ _ _ _;cases(c'==Value.type "enumerate")
   ·wp_walk using AutoSeq1.wpAny_loadPart' eol,Ex hl
    intro g1 i1 z1 k1
    wp_walk
    exact fin g1 i1 z1 k1
   ·wp_walk using AutoSeq1.wpAny_loadPart' eol,Ex hl
    intro g1 i1 z1 k1
    wp_walk
    exact fin g1 i1 z1 k1
  ·wp_walk using AutoSeq1.wpAny_loadPart' eol,Ex hl
   intro g1 i1 z1 k1
   wp_walk
   exact fin g1 i1 z1 k1
theorem Op{prog:Program}{w:World}{A:Around}{b:Bool}(hA:A.handled=none)(I l:Addr)(ne:l≠I)(vs:Array Value) :
  Draws prog w A I [I,l] vs.size (λk v=>vs[k]?=some v) (λk h=>Ca b h I l k/\Di b h l vs) where
 live:=λ_ _ st=>let ⟨o,ho,_⟩:=st.1.there;⟨o,ho⟩
 frame:=λ_ _ _ st hk=>⟨st.1.move λo e=>hk I A6 o e,st.2.move λo e=>hk l A6 o e⟩
 item:=λk s Q E hi st hQ=>CV st.1 st.2 (v:=vs[k]) (by simp[hi]) λg hI sb=>hQ _ g s.toks (by simp[hi]) ⟨hI,st.2.move λo e=>(sb.2 l ne).trans e⟩ sb
 done:=λs Q E st hE=>EI hA st.1 st.2 A6 hE
def Ite(K:PySem.W.Frag)(b:Bool)(l:Addr):It :=
 ⟨λi H=>∃xs x,SqX K b H l xs/\xs[i]?=some x,
  λi H v H'=>∃(T:Addr)(x:V),v=.ref T/\H T=none/\H'=upd H T (.tup [.int i,x])/\∀xs,SqX K b H l xs->xs[i]?=some x,
  λi H=>∃xs,SqX K b H l xs/\xs.length=i⟩
theorem Tt{P:Program}{w:World}{K:PySem.W.Frag}{es:List Expr}{n:Nat}{tpos:Pos}{b:Bool}{e I l:Addr}(eI:e≠I)(le:l≠e)(lI:l≠I) :
  PQ P w K (.Tuple es n tpos) (Ite K b l) [e,I] e (λk h=>(∃old,IsEnum h e I k old)/\Ca b h I l k) where
 mem:=by simp
 obj:=λk h st a ha=>by
  obtain⟨⟨old,he⟩,hI⟩:=st;simp only[B8,D3,W7]at ha;rcases ha with rfl|rfl
  ·exact⟨_,he,λv t=>by cases t⟩
  ·exact hI.there
 keep:=λk h h' st kp=>by
  obtain⟨⟨old,he⟩,hI⟩:=st;exact⟨⟨old,kp e A6 _ he⟩,hI.move λo t=>kp I A6 o t⟩
 item:=by
  intro X hP hw hK hc k pins s σ H E J hf st hg;subst hP hw hK;obtain⟨⟨old,he⟩,hI⟩:=st;obtain⟨xs,x,sx,hx⟩:=hg;obtain⟨us,ru,ou⟩:=J.sq sx;have lu:=ru.length;have hk:k<xs.length:=(B6.mp hx).1;refine wpAny_pyNext_enum_itemD (Op (b:=b) (A:=X.A.in1) (J.ok.hd hc) I l lI us.toArray) he ⟨hI,ou⟩ (by simp;lia) eI (by simp[eI,V5 le]) λu g tk hu gE gS gT gs gk=>⟨_,rfl,?_⟩
  obtain⟨u',hu',rxu⟩:=ru.get hx;have eu:u=u':=by
   have:us[k]?=some u:=by simpa using hu
   rw[hu']at this;exact(V4 this).symm
  subst eu;refine wpAny_letOwnedTupleGo_enum (s:={s with heap:=g,toks:=tk+1}) gE λg2 gE2 sb=>?_;have elt:e<s.heap.objs.size:=C4 he;have kk:∀a o,a∉[e,I]->s.heap.get? a=some o->g2.get? a=some o:=λa o ha t=>(sb.2 a (λz=>ha (by simp[z]))).trans (gk a o (λz=>ha (by simp[z])) (λz=>ha (by simp[z])) t);obtain⟨nT,J2⟩:=J.pair (tk:=tk+1) (x:=.int k) (u:=.int k tk) kk hf ⟨tk,rfl⟩ rxu ((sb.2 _ (R5 elt)).trans gT);refine⟨.ref s.heap.objs.size,_,J2,rfl,⟨_,x,rfl,nT,rfl,λxs' q'=>by rw[J.sq_inj q' sx];exact hx⟩,⟨⟨_,by simpa using gE2⟩,gS.1.move λo t=>(sb.2 I (V5 eI)).trans t⟩,λa ha=>?_⟩;have t:=(hf a ha).1;have lt:a≠s.heap.objs.size:=by
   simp only[B8,D3,W7]at ha;rcases ha with z|z<;>subst z
   ·exact F1 elt
   ·obtain⟨o,t,_⟩:=hI.there;exact F1 (C4 t)
  rw[Ar lt];exact t
 done:=by
  intro X hP hw hK hc k pins s σ H E J hf st hg;subst hP hw hK;obtain⟨⟨old,he⟩,hI⟩:=st;obtain⟨xs,sx,hend⟩:=hg;obtain⟨us,ru,ou⟩:=J.sq sx;have lu:=ru.length;have ek:k=us.toArray.size:=by simp;lia
  refine wpAny_pyNext_enum_endD (Op (b:=b) (A:=X.A.in1) (J.ok.hd hc) I l lI us.toArray) he ⟨ek▸hI,ou⟩ λg gk=>⟨rfl,?_⟩
  exact J.turnedL (tk:=s.toks) (ch:=[e,I]) (λa o ha t=>gk a o (λz=>ha (by simp[z])) t) hf
 self:=λA i s Q E st h=>by
  obtain⟨⟨old,he⟩,_⟩:=st;exact wpAny_pyIter_enum he h
section
variable{X:Cx}{es:List Expr}{n:Nat}{tpos p pos:Pos}{e1 e2:Expr}{t:TA}
def iZip(b c:Bool)(K:PySem.W.Frag)(t:TA):TI:=fun σ H R=>t σ H λvs H1=>∃(l m:Addr),vs=[.ref l,.ref m]/\(∃xs,SqX K b H1 l xs)/\(∃ys,SqX K c H1 m ys)/\R (Itz K b c l m) H1
theorem Di.lt{b:Bool}{h:Heap}{l:Addr}{vs:Array Value}(x:Di b h l vs):l<h.objs.size:=by
 cases b with
 |true=>obtain⟨o,e,_⟩:=x;exact C4 e
 |false=>obtain⟨o,e,_⟩:=x;exact C4 e
theorem apart5(n l m:Nat)(hl:l<n)(hm:m<n):Tq (n+4) (n+2) (n+3) n (n+1) l m:=by
 refine⟨(show([n+4,n+2,n+3,n,n+1]:List Nat).Nodup from ?_),(show l∉([n+4,n+3,n,n+1]:List Nat)from ?_),(show m∉([n+4,n+3,n,n+1]:List Nat)from ?_)⟩
 ·simp only[M8,B8,D3,W7,A0c,Q9,and_true,X9];lia
 ·simp only[B8,D3,W7,A0c];lia
 ·simp only[B8,D3,W7,A0c];lia
theorem pi_zip(b c:Bool)(hg:Gl X "zip")(hm:X.mg "zip" = none)(ha:PA X [e1,e2] t)(hs:starEach [e1,e2] X.env=[(false,eval e1 X.env),(false,eval e2 X.env)]:=by rfl)(hs2:starEach [e2] X.env=[(false,eval e2 X.env)]:=by rfl) :
  PI X (.Tuple es n tpos) (.Call (.Name "zip" p) [e1,e2] [] pos) (iZip b c X.K t):=by
 intro pins s σ H R I h;refine Call_ (Jm I hg hm PyProof.Rows.boot_zip (Z0 (thn (ha pos pins s σ H _ I h) λus s1 ⟨vs,H1,I1,r1,q1⟩=>?_) (by rw[hs,hs2]) (by rw[hs2];rfl)));obtain⟨l,m,rfl,⟨xs,sx⟩,⟨ys,sy⟩,q⟩:=q1;obtain⟨u,v,rfl,ru,rv⟩:=r1.two;cases(show u=Value.ref l from ru);cases(show v=Value.ref m from rv);obtain⟨ul,_,ol⟩:=I1.sq sx;obtain⟨um,_,om⟩:=I1.sq sy;refine callType_new F.called_zip A3 (F.typeCall_zip_2 _ _) (F.newCall_zip_2 _ _) (λobj=>F.args_object_init_3 obj _ _) F.entry_zip_new (TX (b:=b) (c:=c) l m ul.toArray um.toArray) ⟨ol,om,λg gZ gU gO gi gj gk=>?_⟩;refine⟨⟨_,gZ,rfl⟩,wpAny_pyIter_zip (s:={s1 with heap:=g}) gZ ?_⟩;have ll:=ol.lt;have lm:=om.lt;have hA:=apart5 s1.heap.objs.size l m ll lm;refine⟨s1.heap.objs.size+4,_,_,_,H1,rfl,I1.kept (t':=s1.toks) gk,UA hA,⟨gZ,gU,⟨_,_,gO⟩,gi,gj⟩,λa ha=>?_,q⟩;have le:s1.heap.objs.size<=a:=by
  simp only[B8,D3,W7]at ha;rcases ha with t|t|t|t|t<;>rw[t]<;>first|exact C0 _|exact Nat.le_add_right _ _
 exact I1.fpOk le (I1.hok.fresh le)
def iEnum(b:Bool)(K:PySem.W.Frag)(t:TA):TI:=fun σ H R=>t σ H λvs H1=>∃(l:Addr),vs=[.ref l]/\(∃xs,SqX K b H1 l xs)/\R (Ite K b l) H1
theorem Mi(b:Bool)(hg:Gl X "enumerate")(hm:X.mg "enumerate" = none)(ha:PA X [e1] t)(hs:starEach [e1] X.env=[(false,eval e1 X.env)]:=by rfl) :
  PI X (.Tuple es n tpos) (.Call (.Name "enumerate" p) [e1] [] pos) (iEnum b X.K t):=by
 intro pins s σ H R I h;refine Call_ (Jm I hg hm PyProof.Rows.boot_enumerate (Z0 (thn (ha pos pins s σ H _ I h) λus s1 ⟨vs,H1,I1,r1,q1⟩=>?_) hs rfl));obtain⟨l,rfl,⟨xs,sx⟩,q⟩:=q1;obtain⟨u,rfl,ru⟩:=r1.one;cases(show u=Value.ref l from ru);obtain⟨ul,_,ol⟩:=I1.sq sx;refine callType_new F.called_enumerate A3 (F.typeCall_enumerate_1 _) (F.newCall_enumerate_1 _) (λobj=>F.args_object_init_2 obj _) F.entry_enumerate_new (RL (b:=b) l ul.toArray) ⟨ol,λg gE gi gk=>?_⟩;refine⟨⟨_,gE,rfl⟩,wpAny_pyIter_enum (s:={s1 with heap:=g}) gE ?_⟩;have ll:=ol.lt;refine⟨s1.heap.objs.size+1,_,_,_,H1,rfl,I1.kept (t':=s1.toks) gk,Tt (e:=s1.heap.objs.size+1) (I:=s1.heap.objs.size) (l:=l) (Nat.succ_ne_self _) (F1 (U7 ll)) (F1 ll),⟨⟨_,gE⟩,gi⟩,λa ha=>?_,q⟩;have le:s1.heap.objs.size<=a:=by
  simp only[B8,D3,W7]at ha;rcases ha with t|t<;>rw[t]<;>first|exact C0 _|exact Nat.le_add_right _ _
 exact I1.fpOk le (I1.hok.fresh le)
end
section
variable{K:PySem.W.Frag}{b c:Bool}{l m:Addr}{xs ys:List V}{σ:St}{H:Hp}
theorem QP{K:PySem.W.Frag}{i j:Nat}{T:Addr}{x y:V}{σ:St}{H:Hp}{Q:St->Hp->Prop}(h:H T=some (.tup [x,y]))(q:Q ((σ.set i (some x)).set j (some y)) H):gTup K 2 (QQ (Nc i) (QQ (Nc j) gNil)) (.ref T) σ H Q :=
 ⟨T,_,rfl,SqT.of h,rfl,x,_,rfl,y,_,rfl,rfl,q⟩
theorem JP{g:TG}{tb:TS}{D:JX}(Pv:Nat->St->Hp->Prop)(h0:Pv 0 σ H)(hl:∀i σ H,i<=xs.length->Pv i σ H->SqX K b H l xs)
  (hs:∀i x σ H T,xs[i]?=some x->Pv i σ H->H T=none->g (.ref T) σ (upd H T (.tup [.int i,x])) fun σ2 H2=>tb {D with nx:=Pv (i+1),ct:=Pv (i+1),bk:=D.nx} σ2 H2) (hd:∀σ H,Pv xs.length σ H->D.nx σ H) :
  ∃W:Nat->Nat->St->Hp->Prop,(∃m,W 0 m σ H)/\∀i m σ H,W i m σ H ->
   ((Ite K b l).stop i H/\D.nx σ H)\/((Ite K b l).go i H/\∃N:St->Hp->Prop,(∀σ' H',N σ' H'->∃m',m'<m/\W (i+1) m' σ' H')/\∀x H',(Ite K b l).yld i H x H'->g x σ H' fun σ2 H2=>tb {D with nx:=N,ct:=N,bk:=D.nx} σ2 H2):=by
 refine⟨λi m σ H=>m=xs.length-i/\i<=xs.length/\Pv i σ H,⟨xs.length,by simp,F5 _,h0⟩,?_⟩;rintro i m σ H ⟨rfl,hi,p⟩;have q:=hl i σ H hi p;by_cases hlt:i<xs.length
 ·refine .inr ⟨⟨xs,xs[i],q,by simp[hlt]⟩,Pv (i+1),fun σ' H' p'=>⟨xs.length-(i+1),by lia,rfl,hlt,p'⟩,λx H' y=>?_⟩;obtain⟨T,z,rfl,nT,rfl,hz⟩:=y;exact hs i z σ _ T (hz xs q) p nT
 ·have e:i=xs.length:=by lia
  subst e;exact .inl ⟨⟨xs,q,rfl⟩,hd σ H p⟩
variable{k:Nat}{cs:List Nat}{g:TG}{tc:TT}{te:TE}{fin:List V->Hp->Prop}
theorem blk_zip(Pv:Nat->List V->Hp->Prop)(h0:Pv 0 [] H)(hl:∀i acc H,Pv i acc H->SqX K b H l xs/\SqX K c H m ys)
  (hs:∀i x y acc H T,xs[i]?=some x->ys[i]?=some y->Pv i acc H->H T=none->Bt k cs g tc te σ (.ref T) acc (upd H T (.tup [x,y])) (Pv (i+1))) (hd:∀acc H,Pv (min xs.length ys.length) acc H->fin acc H):Fb k cs g tc te (Itz K b c l m) σ H fin:=by
 refine⟨λi n acc H=>n=min xs.length ys.length-i/\i<=min xs.length ys.length/\Pv i acc H,⟨min xs.length ys.length,by simp,F5 _,h0⟩,?_⟩;rintro i n acc H ⟨rfl,hi,p⟩;obtain⟨qx,qy⟩:=hl i acc H p;by_cases hlt:i<min xs.length ys.length
 ·have lx:i<xs.length:=by lia
  have ly:i<ys.length:=by lia
  refine .inr ⟨⟨xs,ys,xs[i],ys[i],qx,qy,by simp[lx],by simp[ly]⟩,Pv (i+1),λacc' H' p'=>⟨min xs.length ys.length-(i+1),by lia,rfl,hlt,p'⟩,λx H' y=>?_⟩;obtain⟨T,z,z',rfl,nT,rfl,hz,hz'⟩:=y;exact hs i z z' acc _ T (hz xs qx) (hz' ys qy) p nT
 ·have e:i=min xs.length ys.length:=by lia
  subst e;exact .inl ⟨⟨xs,ys,qx,qy,by lia⟩,hd acc H p⟩
theorem blk_str{x:Str}(Pv:Nat->List V->Hp->Prop)(h0:Pv 0 [] H)(hs:∀i ch acc H,x.cps.toList[i]?=some ch->Pv i acc H->Bt k cs g tc te σ (.str ⟨#[ch]⟩) acc H (Pv (i+1)))(hd:∀acc H,Pv x.cps.toList.length acc H->fin acc H):Fb k cs g tc te (Its x) σ H fin:=by
 have e0:x.cps.toList.length=x.cps.size:=by simp
 refine⟨λi m acc H=>m=x.cps.size-i/\i<=x.cps.size/\Pv i acc H,⟨x.cps.size,by simp,F5 _,h0⟩,?_⟩;rintro i m acc H ⟨rfl,hi,p⟩;by_cases hlt:i<x.cps.size
 ·refine .inr ⟨hlt,Pv (i+1),λacc' H' p'=>⟨x.cps.size-(i+1),by lia,rfl,hlt,p'⟩,λv H' y=>?_⟩;obtain⟨e,ch,hch,rfl⟩:=y;subst e;exact hs i ch acc _ (by simpa using hch) p
 ·have e:i=x.cps.size:=by lia
  subst e;exact .inl ⟨rfl,hd acc H (by rw[e0];exact p)⟩
end
theorem PE.or{X:Cx}{e:Expr}{t u:TE}(h:PE X e t)(h':PE X e u):PE X e (fun σ H Q=>t σ H Q\/u σ H Q):=by
 intro pins s σ H Q I q;rcases q with q|q
 ·exact h pins s σ H Q I q
 ·exact h' pins s σ H Q I q
theorem rm{a b:Nat}{A:Around}(h:CD b A)(hle:a<=b:=by first|decide|lia):CD a A:=h.mono hle
structure Cal(P:Program)(w:World)(K:PySem.W.Frag)(mg:Str->Option Value)(base:Heap)(CX:CXT)(k:Nat)(x:Str)(ps:List Str)(sp:Sp):Prop where
 ex:∃(f:Addr)(fd:FuncData),AJ P w K mg base CX k f fd ps sp/\mg x=some (.ref f)/\keepIn K (.ref f)=true/\Cu K fd ps []
structure BK(P:Program)(w:World)(K:PySem.W.Frag)(mg:Str->Option Value)(base:Heap)(CX:CXT)(k:Nat)(C:Addr)(m:Str)(ps:List Str)(sp:Sp):Prop where
 ex:∃(f:Addr)(fd:FuncData),AJ P w K mg base CX k f fd ps sp/\NP K C m f/\Cu K fd ps []
 cl:Cls K C
structure PU(P:Program)(w:World)(K:PySem.W.Frag)(mg:Str->Option Value)(base:Heap)(CX:CXT)(k:Nat)(x:Str)(C:Addr)(ps:List Str)(sp:Sp):Prop where
 ex:∃(f:Addr)(fd:FuncData),AJ P w K mg base CX k f fd ps sp/\Mk K C f/\mg x=some (.ref C)/\Cu K fd ps []
section
variable{X:Cx}{CX:CXT}{k:Nat}{C:Addr}{ps:List Str}{sp:Sp}{E:XK}{x m:Str}{p pos apos:Pos}{e o:Expr}{es:List Expr}{ta:TE}{t:TA}
theorem Aq(c:Cal X.prog X.w X.K X.mg X.base CX k x ps sp)(hr:CD k X.A)(hg:Gl X x)(hx:Eb CX X E)(ha:PA X (e::es) t)(hdb:(x==("__debug__" : Str))=false:=by decide)
  (he:starEach (e::es) X.env=(false,eval e X.env)::starEach es X.env:=by rfl) (hpl:(backTo pos (starEach es X.env)).any (·.1)=false:=by rfl):PE X (.Call (.Name x p) (e::es) [] pos) (tCall sp [] E t):=by
 obtain⟨f,fd,F,hm,hk,hb⟩:=c.ex;exact pe_call F hr hg hm hk hb .nil hx ha hdb he hpl
theorem AF{pl:Sem Bool}(he:PE X o ta)(c:BK X.prog X.w X.K X.mg X.base CX k C m ps sp)(hr:CD k X.A)(hx:Eb CX X E)(ha:PA X (e::es) t)
  (hst:starEach (e::es) X.env=(false,eval e X.env)::starEach es X.env:=by rfl) (hpl:(backTo pos (starEach es X.env)).any (·.1)=false:=by rfl)
  (ht:eval (.Call (.Attribute o m apos) (e::es) [] pos) X.env=(do
   let ov <-eval o X.env;standAt apos.atName;let (f,first) <-holding [ov] (getMethod ov m pl);callWith pos f first (backTo pos (starEach (e::es) X.env)) (backToKw pos (keywordEach [] X.env))):=by rfl):PE X (.Call (.Attribute o m apos) (e::es) [] pos) (Sr C m sp [] E ta t):=by
 obtain⟨f,fd,F,hm,hb⟩:=c.ex;exact pe_meth he c.cl hm F hr hb .nil hx ha hst hpl ht
theorem JE(c:PU X.prog X.w X.K X.mg X.base CX k x C ps sp)(hr:CD (k+1) X.A)(hg:Gl X x)(hx:Eb CX X E)(ha:PA X (e::es) t)(hdb:(x==("__debug__" : Str))=false:=by decide)
  (he:starEach (e::es) X.env=(false,eval e X.env)::starEach es X.env:=by rfl) (hpl:(backTo pos (starEach es X.env)).any (·.1)=false:=by rfl):PE X (.Call (.Name x p) (e::es) [] pos) (Ss C sp [] E t):=by
 obtain⟨f,fd,F,M,hm,hb⟩:=c.ex;exact pe_make M F hr hg hm hb .nil hx ha hdb he hpl
theorem Vj(c:PU X.prog X.w X.K X.mg X.base CX k x C ps sp)(hr:CD (k+1) X.A)(hg:Gl X x)(hx:Eb CX X E)(hdb:(x==("__debug__" : Str))=false:=by decide):PE X (.Call (.Name x p) [] [] pos) (Ss C sp [] E OG):=by
 obtain⟨f,fd,F,M,hm,hb⟩:=c.ex;exact Vg M F hr hg hm hb .nil hx hdb
theorem BI{i:Int}(hg:Gl X x)(hm:∃tk,X.mg x=some (.int i tk))(hd:(x==("__debug__" : Str))=false:=by decide):PE X (.Name x pos) (tC (.int i)):=by
 obtain⟨tk,hm⟩:=hm;exact Pa hg hm ⟨tk,rfl⟩ hd
theorem Mj{z:Str}(hg:Gl X x)(hm:∃tk,X.mg x=some (.str z tk))(hd:(x==("__debug__" : Str))=false:=by decide):PE X (.Name x pos) (tC (.str z)):=by
 obtain⟨tk,hm⟩:=hm;exact Pa hg hm ⟨tk,rfl⟩ hd
theorem OZ{a:Addr}(hg:Gl X x)(hm:X.mg x=some (.ref a))(hd:(x==("__debug__" : Str))=false:=by decide):PE X (.Name x pos) (tC (.ref a)):=Pa hg hm rfl hd
end
def cOk(So:Scope)(No:List Str)(scope:Scope)(N:List Str)(k:Nat)(cs:List Nat):Bool :=
 scope.names.all (λy=>y.2 != .cell) && (scope.kind==.function && (scope.names.all (λy=>y.2 != .local || scope.names.lookup y.1==some .local) && (scope.names.all (λy=>y.2 != .free || (So.names.lookup y.1==some .cell || So.names.lookup y.1==some .free)) &&
  (N.length==k+cs.length && (List.range cs.length).all λj=>match N[k+j]?,No[cs.getD j 0]? with
   |some x,some y=>x==y && scope.names.lookup x==some .free
   |_,_=>false))))
theorem BD.of{X:Cx}{So:Scope}{No:List Str}{scope:Scope}{N:List Str}{k:Nat}{cs:List Nat}(hS:X.env.scope=So)(hN:X.N=No)(h:cOk So No scope N k cs=true):BD X scope N k cs:=by
 subst hS hN;unfold cOk at h;simp only[O0,O9,bne_iff_ne,ne_eq,Bool.or_eq_true,beq_iff_eq,M4]at h;obtain⟨h1,h2,h3,h4,h5,h6⟩:=h;refine⟨h1,h2,λy hy e=>?_,λy hy e=>?_,h5,λj hj=>?_⟩
 ·rcases h3 y hy with z|z
  ·exact absurd e z
  ·exact z
 ·rcases h4 y hy with z|z
  ·exact absurd e z
  ·exact z
 ·have z:=h6 j hj;split at z
  ·rename_i x y e1 e2;simp only[O0,beq_iff_eq]at z;obtain⟨z1,z2⟩:=z;subst z1;exact⟨x,e1,e2,z2⟩
  ·cases z
theorem GV{σ:St}{H:Hp}{A B:Hp->Prop}(h:A H):tYes σ H λb H3=>if b=true then A H3 else B H3:=by
 show if true=true then A H else B H;exact BT h
theorem PP{tb:TE}{σ:St}{H:Hp}{Q:VK}{b1 b2:Bool}(h2:b1=true->∀Q':VK,Q' (.bl b2) H->tb σ H Q')(q:Q (.bl (b1 && b2)) H):∃c,V.bl b1=.bl c/\if c=true then tb σ H Q else Q (.bl false) H:=by
 cases b1 with
 |true=>exact⟨true,rfl,BT (h2 rfl Q q)⟩
 |false=>exact⟨false,rfl,Bb q⟩
theorem UC{u:TT}{σ:St}{H:Hp}{Q:Bool->Hp->Prop}{b1 b2:Bool}(h2:b1=true->∀Q':Bool->Hp->Prop,Q' b2 H->u σ H Q')(q:Q (b1 && b2) H):if b1=true then u σ H Q else Q false H:=by
 cases b1 with
 |true=>exact BT (h2 rfl Q q)
 |false=>exact Bb q
section
variable{X:Cx}{scope:Scope}{N:List Str}{s:Shared}{H:Hp}{ex:List Addr}{x y:Str}{px py pos:Pos}{k:Nat}
theorem Bk{i:Nat}(hN:N.Nodup)(hi:N[i]?=some x)(hl:(relabel scope X.env).names.lookup x=some .local):PG (cxC X scope N s H ex) (.Name x pos) (Nc i):=Ce (X:=cxC X scope N s H ex) hN hi (.inl hl) (.inr hl)
theorem Vf{i j:Nat}(hc:X.calm=true)(hN:N.Nodup)(hi:N[i]?=some x)(hj:N[j]?=some y)(hl:(relabel scope X.env).names.lookup x=some .local)(hm:(relabel scope X.env).names.lookup y=some .local) :
  PG (cxC X scope N s H ex) (.Tuple [.Name x px,.Name y py] k pos) (gTup X.K 2 (QQ (Nc i) (QQ (Nc j) gNil))) :=
 MJ (X:=cxC X scope N s H ex) hc (CM (Bk hN hi hl) (CM (Bk hN hj hm) JB))
end
theorem AM.strs:∀(l:List Str)(k:Nat),AM (l.map V.str) (strsFrom k l)
 |[],_=>.nil
 |x::r,k=>.cons ⟨k,rfl⟩ (AM.strs r (k+1))
section
variable{X:Cx}
theorem QH:MtR X "str.split" (λx xs H Q=>∃a b,x=.str a/\xs=[.str b]/\(b.length==0)=false/\a.length<=100000/\∀p,H p=none->Q (.ref p) (upd H p (.lst ((Txt.split a b).map V.str)))):=by
 intro pins s σ H x xs v us Q I rx r h;obtain⟨a,b,rfl,rfl,hb,ha,q⟩:=h;obtain⟨t,rfl⟩:=rx;obtain⟨u,rfl,hu⟩:=r.one;obtain⟨tb,rfl⟩:=hu;have big:a.length+2<=sizeLine:=C8 (Nat.add_le_add_right ha 2) A3;have fin:∀(its:List Value)(tk:Nat),AM ((Txt.split a b).map V.str) its->EP X pins σ Q (.ref s.heap.objs.size) {s with heap:=s.heap.push {cls:=.type "list",data:=.seq its.toArray},toks:=tk}:=λits tk hv =>
  ⟨.ref _,_,I.lnew (t':=tk) hv (by rw[B5];exact C8 (split_le a b) big),rfl,q _ I.fresh⟩
 by_cases h1:(decide (a.length<b.length) || decide (Builtin.Str.strKind a<Builtin.Str.strKind b))=true
 ·refine Z9 F.slot_str_split (typeIs_str _ _ _) F.entry_str_split (A1g _ _) (meets_str_split_cannot_occur a b t tb h1) ?_;refine fin _ s.toks ?_;unfold Txt.split;rw[V2 h1];exact .cons ⟨t,rfl⟩ .nil
 ·have h1':=U8.mpr h1;by_cases h2:(Builtin.Str.occurrences a b 0 a.length (a.length+1)).isEmpty=true
  ·refine Z9 F.slot_str_split (typeIs_str _ _ _) F.entry_str_split (A1g _ _) (meets_str_split_not_found a b t tb h1' hb h2) ?_;refine fin _ s.toks ?_;unfold Txt.split;rw[V0 h1,V2 h2];exact .cons ⟨t,rfl⟩ .nil
  ·have e:Txt.split a b=Builtin.Str.partsBetween a (Builtin.Str.occurrences a b 0 a.length (a.length+1)) b.length:=by
    unfold Txt.split;rw[V0 h1,V0 h2]
   refine Z9 F.slot_str_split (typeIs_str _ _ _) F.entry_str_split (A1g _ _) (meets_str_split_sep a b t tb h1' hb (U8.mpr h2) A1 (by rw[<-e];exact C8 (split_le a b) big)) ?_;refine fin _ _ ?_;rw[e];exact AM.strs _ _
theorem Pr:MtR X "str.partition" (λx xs H Q=>∃a b,x=.str a/\xs=[.str b]/\(b.length==0)=false/\a.length<=100000/\∀p,H p=none->Q (.ref p) (upd H p (.tup [.str (Txt.partition a b).1,.str (Txt.partition a b).2.1,.str (Txt.partition a b).2.2]))):=by
 intro pins s σ H x xs v us Q I rx r h;obtain⟨a,b,rfl,rfl,hb,ha,q⟩:=h;obtain⟨t,rfl⟩:=rx;obtain⟨u,rfl,hu⟩:=r.one;obtain⟨tb,rfl⟩:=hu;have fin:∀(its:List Value)(tk:Nat),AM [.str (Txt.partition a b).1,.str (Txt.partition a b).2.1,.str (Txt.partition a b).2.2] its->EP X pins σ Q (.ref s.heap.objs.size) {s with heap:=s.heap.push {cls:=.type "tuple",data:=.seq its.toArray},toks:=tk}:=λits tk hv =>
  ⟨.ref _,_,I.laid (t':=tk) (o:=.tup [.str (Txt.partition a b).1,.str (Txt.partition a b).2.1,.str (Txt.partition a b).2.2]) (λ_ _ e=>B7 _ e) (C0 _) ⟨by show 3<=sizeLine;decide,its,hv,_,C7 _ rfl,rfl,_,rfl⟩,rfl,q _ I.fresh⟩
 refine Z9 F.slot_str_partition (typeIs_str _ _ _) F.entry_str_partition (F.args_str_partition_2 _ _) (meets_str_partition a b t tb hb (C8 ha A3)) ?_;show EP X pins σ Q _ _;cases e:Builtin.Str.occurrences a b 0 a.length 1 with
 |nil =>
  refine fin _ _ ?_;unfold Txt.partition;rw[e];exact .cons ⟨_,rfl⟩ (.cons ⟨_,rfl⟩ (.cons ⟨_,rfl⟩ .nil))
 |cons i l =>
  refine fin _ _ ?_;unfold Txt.partition;rw[e];exact .cons ⟨_,rfl⟩ (.cons ⟨_,rfl⟩ (.cons ⟨_,rfl⟩ .nil))
theorem QU(n:Int):∀{ns:List Int}{its:List Value},AM (ns.map V.int) its->its.countP (λy=>match y with|.int i _=>i==n|_=>false)=ns.countP (· == n)
 |[],_,.nil=>rfl
 |x::r,_,.cons ⟨t,e⟩ rr=>by
  subst e;rw[List.countP_cons,List.countP_cons,QU n rr]
theorem Uz{ns:List Int}{its:List Value}(h:AM (ns.map V.int) its){y:Value}(hy:y∈its):∃i t,y=.int i t:=by
 induction ns generalizing its with
 |nil=>cases h;simp at hy
 |cons n r ih =>
  cases h with
  |cons q qq =>
   obtain⟨t,e⟩:=q;rcases B8.mp hy with z|z
   ·exact⟨n,t,z.trans e⟩
   ·exact ih qq z
theorem VG:MtR X "list.count" (λx xs H Q=>∃(l:Addr)(ns:List Int)(n:Int),x=.ref l/\xs=[.int n]/\H l=some (.lst (ns.map V.int))/\Q (.int (ns.countP (· == n):Nat)) H):=by
 intro pins s σ H x xs v us Q I rx r h;obtain⟨l,ns,n,rfl,rfl,hH,q⟩:=h;cases rx;obtain⟨u,rfl,hu⟩:=r.one;obtain⟨tk,rfl⟩:=hu;obtain⟨z,its,k,rv,hl,e⟩:=I.lstM hH;refine Z9 F.slot_list_count ⟨_,e,rfl⟩ F.entry_list_count (F.args_list_count_2 _ _) (MeetsSeq.list_count l its.toArray k (.int n tk) (λy=>match y with|.int i _=>i==n|_=>false) (λy hy=>?_)) ⟨e,?_⟩
 ·obtain⟨i,t,rfl⟩:=Uz rv (by simpa using hy);exact PySem.MeetsSeq.EqGives.int i n t tk
 ·refine⟨.int _,H,I.tok _,⟨_,rfl⟩,?_⟩;have:(List.countP (λy=>match y with|Value.int i _=>i==n|_=>false) its.toArray.toList)=ns.countP (· == n):=QU n (by simpa using rv);rw[this];exact q
end
end L2
namespace L2
open PySem
section
variable{X:Cx}{es es':List Expr}{t t':TA}{pos:Pos}
theorem Bh{i:Int}{j}(hr:PA X es t):PA X (.Constant (.int i) j pos::es) (Cr (tC (.int i)) t):=Aa Ae hr
theorem Cf{z:Str}{j}(hr:PA X es t):PA X (.Constant (.str z) j pos::es) (Cr (tC (.str z)) t):=Aa Id hr
theorem Vk(h:PA X es' t')(hr:PA X es t):PA X (.List es' pos::es) (Cr (tLst t') t):=Aa (CA h) hr
theorem Be{x1}(h:PA X es' t')(hr:PA X es t):PA X (.Tuple es' x1 pos::es) (Cr (UE t') t):=Aa (BX h) hr
theorem Bl{op:Operator}{r:R2}{a b:Expr}{ta tb:TE}(ho:OpR X (binaryOp op) r)(ha:PE X a ta)(hb:PE X b tb)(hr:PA X es t):PA X (.BinOp a op b pos::es) (Cr (tOp r ta tb) t):=Aa (AK ho ha hb) hr
theorem IE{K:PySem.W.Frag}(h:X.K=K):IxR X (IK K):=h▸Am
theorem VX{K:PySem.W.Frag}(h:X.K=K):IxR X (rIxL K):=h▸Aw
end
theorem AT{P:Prop}(h:∀G:Prop,(P->G)->G):P:=h P id
theorem xq1{α:Sort _}{a:α}{P Q:α->Prop}(h:P a)(k:Q a):∃x,P x/\Q x:=⟨a,h,k⟩
theorem xq2{α β:Sort _}{a:α}{b:β}{P Q R:α->β->Prop}(h:P a b)(h':Q a b)(k:R a b):∃x y,P x y/\Q x y/\R x y:=⟨a,b,h,h',k⟩
theorem xq3{α β γ:Sort _}{a:α}{b:β}{c:γ}{P Q R S:α->β->γ->Prop}(h:P a b c)(h':Q a b c)(h'':R a b c)(k:S a b c):∃x y z,P x y z/\Q x y z/\R x y z/\S x y z:=⟨a,b,c,h,h',h'',k⟩
theorem xq4{α β γ δ:Sort _}{a:α}{b:β}{c:γ}{d:δ}{P Q R S T:α->β->γ->δ->Prop}(h:P a b c d)(h':Q a b c d)(h'':R a b c d)(h3:S a b c d)(k:T a b c d):∃x y z w,P x y z w/\Q x y z w/\R x y z w/\S x y z w/\T x y z w:=⟨a,b,c,d,h,h',h'',h3,k⟩
theorem xq5{K:PySem.W.Frag}{f:Str}{H:Hp}{a C dx:Addr}{fs:List (Str×V)}{v:V}{Q:V->Prop}(h:H a=some (.ins C dx fs))(h2:Cls K C)(h3:Bm K C f)(h4:fs.lookup f=some v)(k:Q v):∃b C dx fs w,V.ref a=.ref b/\H b=some (.ins C dx fs)/\Cls K C/\Bm K C f/\fs.lookup f=some w/\Q w:=⟨a,C,dx,fs,v,rfl,h,h2,h3,h4,k⟩
theorem xw2{α β:Sort _}{a:α}{b:β}{P:α->Prop}{Q:α->β->Prop}{K:α->β->Prop}(h1:P a)(h2:Q a b)(k:K a b):∃x0,P x0/\∃x1,Q x0 x1/\K x0 x1:=⟨a,h1,b,h2,k⟩
theorem xw3{α β γ:Sort _}{a:α}{b:β}{c:γ}{P:α->Prop}{Q:α->β->Prop}{R:α->β->γ->Prop}{K:α->β->γ->Prop}(h1:P a)(h2:Q a b)(h3:R a b c)(k:K a b c):∃x0,P x0/\∃x1,Q x0 x1/\∃x2,R x0 x1 x2/\K x0 x1 x2:=⟨a,h1,b,h2,c,h3,k⟩
theorem xwb{α β γ:Sort _}{a:α}{b:β}{c:γ}{P:α->Prop}{Q:α->β->γ->Prop}{R:α->β->γ->Prop}{K:α->β->γ->Prop}(h1:P a)(h2:Q a b c)(h3:R a b c)(k:K a b c):∃x0,P x0/\∃x1 x2,Q x0 x1 x2/\R x0 x1 x2/\K x0 x1 x2:=⟨a,h1,b,c,h2,h3,k⟩
theorem xwm{α β γ δ:Sort _}{a:α}{b:β}{c:γ}{d:δ}{P:α->Prop}{Q:α->β->γ->δ->Prop}{R:α->β->γ->δ->Prop}{S:α->β->γ->δ->Prop}{K:α->β->γ->δ->Prop}(h1:P a)(h2:Q a b c d)(h3:R a b c d)(h4:S a b c d)(k:K a b c d):∃x0,P x0/\∃x1 x2 x3,Q x0 x1 x2 x3/\R x0 x1 x2 x3/\S x0 x1 x2 x3/\K x0 x1 x2 x3:=⟨a,h1,b,c,d,h2,h3,h4,k⟩
theorem xwi{α β γ δ ε:Sort _}{a:α}{b:β}{c:γ}{d:δ}{e:ε}{P:α->Prop}{Q:α->β->γ->δ->ε->Prop}{R:α->β->γ->δ->ε->Prop}{S:α->β->γ->δ->ε->Prop}{T:α->β->γ->δ->ε->Prop}{K:α->β->γ->δ->ε->Prop}(h1:P a)(h2:Q a b c d e)(h3:R a b c d e)(h4:S a b c d e)(h5:T a b c d e)(k:K a b c d e):∃x0,P x0/\∃x1 x2 x3 x4,Q x0 x1 x2 x3 x4/\R x0 x1 x2 x3 x4/\S x0 x1 x2 x3 x4/\T x0 x1 x2 x3 x4/\K x0 x1 x2 x3 x4:=⟨a,h1,b,c,d,e,h2,h3,h4,h5,k⟩
theorem xwf{α β γ δ ε ζ:Sort _}{a:α}{b:β}{c:γ}{d:δ}{e:ε}{f:ζ}{P:α->Prop}{Q:α->β->γ->δ->ε->ζ->Prop}{R:α->β->γ->δ->ε->ζ->Prop}{S:α->β->γ->δ->ε->ζ->Prop}{T:α->β->γ->δ->ε->ζ->Prop}{U:α->β->γ->δ->ε->ζ->Prop}{K:α->β->γ->δ->ε->ζ->Prop}(h1:P a)(h2:Q a b c d e f)(h3:R a b c d e f)(h4:S a b c d e f)(h5:T a b c d e f)(h6:U a b c d e f)(k:K a b c d e f):∃x0,P x0/\∃x1 x2 x3 x4 x5,Q x0 x1 x2 x3 x4 x5/\R x0 x1 x2 x3 x4 x5/\S x0 x1 x2 x3 x4 x5/\T x0 x1 x2 x3 x4 x5/\U x0 x1 x2 x3 x4 x5/\K x0 x1 x2 x3 x4 x5:=⟨a,h1,b,c,d,e,f,h2,h3,h4,h5,h6,k⟩
theorem xwn{α β γ δ ε:Sort _}{a:α}{b:β}{c:γ}{d:δ}{e:ε}{P:α->Prop}{Q:α->β->γ->δ->Prop}{R:α->β->γ->δ->Prop}{S:α->β->γ->δ->Prop}{T:α->β->γ->δ->ε->Prop}{K:α->β->γ->δ->ε->Prop}(h1:P a)(h2:Q a b c d)(h3:R a b c d)(h4:S a b c d)(h5:T a b c d e)(k:K a b c d e):∃x0,P x0/\∃x1 x2 x3,Q x0 x1 x2 x3/\R x0 x1 x2 x3/\S x0 x1 x2 x3/\∃x4,T x0 x1 x2 x3 x4/\K x0 x1 x2 x3 x4:=⟨a,h1,b,c,d,h2,h3,h4,e,h5,k⟩
theorem xwj{α β γ δ ε ζ:Sort _}{a:α}{b:β}{c:γ}{d:δ}{e:ε}{f:ζ}{P:α->Prop}{Q:α->β->Prop}{R:α->β->γ->δ->ε->ζ->Prop}{S:α->β->γ->δ->ε->ζ->Prop}{T:α->β->γ->δ->ε->ζ->Prop}{U:α->β->γ->δ->ε->ζ->Prop}{K:α->β->γ->δ->ε->ζ->Prop}(h1:P a)(h2:Q a b)(h3:R a b c d e f)(h4:S a b c d e f)(h5:T a b c d e f)(h6:U a b c d e f)(k:K a b c d e f):∃x0,P x0/\∃x1,Q x0 x1/\∃x2 x3 x4 x5,R x0 x1 x2 x3 x4 x5/\S x0 x1 x2 x3 x4 x5/\T x0 x1 x2 x3 x4 x5/\U x0 x1 x2 x3 x4 x5/\K x0 x1 x2 x3 x4 x5:=⟨a,h1,b,h2,c,d,e,f,h3,h4,h5,h6,k⟩
theorem AW{A B:TS}{D:JX}{σ:St}{H:Hp}(h:let r:=B D;let s:=σ;∀k:St->Hp->Prop,(∀{σ H},r σ H->k σ H)->let E:JX:={D with nx:=k};A E s H):tSeq A B D σ H:=h _ λz=>z
end L2
namespace Nu
open PySem PySem.NumText PyProof.Rows
theorem ext{a b:Str}(h:a.cps.toList=b.cps.toList):a=b:=by
 obtain⟨⟨l⟩⟩:=a;obtain⟨⟨r⟩⟩:=b;cases h;rfl
theorem len(x:Str):x.length=x.cps.toList.length:=by simp[Str.length]
end Nu
namespace L2
open PySem PySem.Spec PyProof.Rows
section
variable{κ:Type}[DecidableEq κ]
def BB(kvs:List (κ×V))(k:κ):Option V:=(kvs.find? λkv=>decide (kv.1=k)).map (·.2)
def Eh(kvs:List (κ×V))(k:κ)(v:V):List (κ×V) :=
 if(kvs.any λkv=>decide (kv.1=k))=true then kvs.map (λkv=>if kv.1=k then(kv.1,v)else kv)else kvs++[(k,v)]
theorem BG{p:κ×V}{r:List (κ×V)}{k:κ}(e:p.1=k):BB (p::r) k=some p.2:=by simp[BB,Q4,e]
theorem Bq{p:κ×V}{r:List (κ×V)}{k:κ}(e:¬p.1=k):BB (p::r) k=BB r k:=by simp[BB,Q4,e]
theorem GU(k:κ):∀kvs:List (κ×V),(kvs.any λkv=>decide (kv.1=k))=(BB kvs k).isSome
 |[]=>rfl
 |p::r=>by
  rw[S2];by_cases e:p.1=k
  ·simp only[BG e,V1 e,Bool.true_or,Option.isSome_some]
  ·rw[Bq e,V3 e,Bool.false_or];exact GU k r
theorem PV(k j:κ)(y:V):∀kvs:List (κ×V),BB (kvs.map λkv=>if kv.1=k then(kv.1,y)else kv) j=(BB kvs j).map λx=>if j=k then y else x
 |[]=>rfl
 |p::r=>by
  have ih:=PV k j y r;rw[L5];by_cases h:p.1=k
  ·rw[V2 h];by_cases e:p.1=j
   ·rw[BG (p:=(p.1,y)) e,BG e,S9,V2 (e.symm.trans h)]
   ·rw[Bq (p:=(p.1,y)) e,Bq e,ih]
  ·rw[V0 h];by_cases e:p.1=j
   ·rw[BG (p:=p) e,BG e,S9,V0 (λz=>h (e.trans z))]
   ·rw[Bq (p:=p) e,Bq e,ih]
theorem NS(k j:κ)(y:V):∀kvs:List (κ×V),BB kvs k=none->BB (kvs++[(k,y)]) j=if j=k then some y else BB kvs j
 |[],_=>by
  by_cases e:k=j
  ·rw[V2 e.symm];exact BG (p:=(k,y)) e
  ·rw[V0 (λz=>e z.symm)];exact Bq (p:=(k,y)) e
 |p::r,hn=>by
  rw[List.cons_append];have hk:¬p.1=k:=λz=>by rw[BG z]at hn;cases hn
  rw[Bq hk]at hn;have ih:=NS k j y r hn;by_cases e:p.1=j
  ·rw[BG e,BG e,V0 (λz=>hk (e.trans z))]
  ·rw[Bq e,Bq e,ih]
theorem Jo(kvs:List (κ×V))(k j:κ)(y:V):BB (Eh kvs k y) j=if j=k then some y else BB kvs j:=by
 unfold Eh;by_cases a:(kvs.any λkv=>decide (kv.1=k))=true
 ·rw[V2 a,PV];rw[GU]at a;by_cases e:j=k
  ·obtain⟨x,hx⟩:=Option.isSome_iff_exists.mp a;rw[V2 e,e,hx,S9,V2 rfl]
  ·rw[V0 e];cases BB kvs j with
   |none=>rfl
   |some x=>rw[S9,V0 e]
 ·rw[V0 a];refine NS k j y kvs ?_;rw[GU]at a;cases q:BB kvs k with
  |none=>rfl
  |some x=>rw[q]at a;exact(a rfl).elim
theorem EY(kvs:List (κ×V))(k:κ)(v:V):(Eh kvs k v).length<=kvs.length+1:=by
 unfold Eh;split
 ·rw[B5];lia
 ·rw[C5,F0,List.length_nil];lia
theorem Jz{kvs:List (κ×V)}{k:κ}(v:V)(h:BB kvs k=none):Eh kvs k v=kvs++[(k,v)]:=by
 unfold Eh;rw[GU,h];exact V0 A3
theorem GR.isSome_eq{o:Option V}{u:Option Value}(r:GR o u):o.isSome=u.isSome:=by
 cases o with
 |none=>cases u with
  |none=>rfl
  |some _=>exact(show False from r).elim
 |some _=>cases u with
  |none=>exact(show False from r).elim
  |some _=>rfl
theorem GR.getD{o:Option V}{u:Option Value}{d:V}{d':Value}(r:GR o u)(rd:AR d d'):AR (o.getD d) (u.getD d'):=by
 cases o with
 |none=>cases u with
  |none=>exact rd
  |some _=>exact(show False from r).elim
 |some _=>cases u with
  |none=>exact(show False from r).elim
  |some _=>exact r
theorem KV.val{kvs:List (κ×V)}{vs:List (κ×Value)}(r:KV kvs vs)(k:κ):GR (BB kvs k) (valueAt vs k):=by
 unfold KV at r;induction r with
 |nil=>exact True.intro
 |@cons p q ps qs h t ih =>
  obtain⟨h1,h2⟩:=h;by_cases e:p.1=k
  ·have e':q.1=k:=h1.symm.trans e;have b:valueAt (q::qs) k=some q.2:=by simp[valueAt,Q4,e']
   rw[BG e,b];exact h2
  ·have e':¬q.1=k:=λz=>e (h1.trans z);have b:valueAt (q::qs) k=valueAt qs k:=by simp[valueAt,Q4,e']
   rw[Bq e,b];exact ih
theorem KV.any{kvs:List (κ×V)}{vs:List (κ×Value)}(r:KV kvs vs)(k:κ):(kvs.any λkv=>decide (kv.1=k))=vs.any λkv=>decide (kv.1=k):=by
 unfold KV at r;induction r with
 |nil=>rfl
 |cons h t ih=>rw[S2,S2,ih,h.1]
theorem KV.repl{kvs:List (κ×V)}{vs:List (κ×Value)}(r:KV kvs vs)(k:κ){y:V}{u:Value}(ry:AR y u) :
  KV (kvs.map λkv=>if kv.1=k then(kv.1,y)else kv) (vs.map λkv=>if kv.1=k then(kv.1,u)else kv):=by
 unfold KV at r⊢;induction r with
 |nil=>exact .nil
 |@cons p q ps qs h t ih =>
  rw[L5,L5];refine .cons ?_ ih;obtain⟨h1,h2⟩:=h;by_cases e:p.1=k
  ·rw[V2 e,V2 (h1.symm.trans e)];exact⟨h1,ry⟩
  ·rw[V0 e,V0 (λz=>e (h1.trans z))];exact⟨h1,h2⟩
theorem KV.put{kvs:List (κ×V)}{vs:List (κ×Value)}(r:KV kvs vs)(k:κ){y:V}{u:Value}(ry:AR y u):KV (Eh kvs k y) (stored vs k u):=by
 unfold Eh stored;rw[r.any k];by_cases e:(vs.any λkv=>decide (kv.1=k))=true
 ·rw[V2 e,V2 e];exact r.repl k ry
 ·rw[V0 e,V0 e];exact X4 r ⟨rfl,ry⟩
theorem KV.length{kvs:List (κ×V)}{vs:List (κ×Value)}(r:KV kvs vs):kvs.length=vs.length:=W8 r
end
theorem QN{P:Program}{w:World}{k:Key}{u:Value}(r:AR (kV k) u):(Ch P w).is k u=true:=by
 cases k with
 |inl i=>obtain⟨t,e⟩:=(show ∃t,u=Value.int i t from r);subst e;exact QK P w i t
 |inr x=>obtain⟨t,e⟩:=(show ∃t,u=Value.str x t from r);subst e;exact QJ P w x t
theorem Og{P:Program}{w:World}:∀{ks:List Key}{us:List Value},AM (ks.map kV) us->ItemsAre (Ch P w) ks us
 |[],_,r=>by rw[List.map_nil]at r;cases r;exact .nil
 |k::ks,_,r=>by
  rw[L5]at r;cases r with
  |cons h t=>exact .cons (QN h) (Og t)
abbrev KT(H:Hp):List (List Key×V)->List (List Key×Addr×Value)->Prop:=Paired λp q=>p.1=q.1/\H q.2.1=some (.tup (p.1.map kV))/\AR p.2 q.2.2
theorem KT.val{H:Hp}{kvs:List (List Key×V)}{xs:List (List Key×Addr×Value)}(r:KT H kvs xs)(k:List Key):GR (BB kvs k) ((atKey xs k).map (·.2)):=by
 induction r with
 |nil=>exact True.intro
 |@cons p q ps qs h t ih =>
  obtain⟨h1,_,h2⟩:=h;by_cases e:p.1=k
  ·have e':q.1=k:=h1.symm.trans e;have b:atKey (q::qs) k=some q.2:=by simp[atKey,Q4,e']
   rw[BG e,b];exact h2
  ·have e':¬q.1=k:=λz=>e (h1.trans z);have b:atKey (q::qs) k=atKey qs k:=by simp[atKey,Q4,e']
   rw[Bq e,b];exact ih
theorem KT.repl{H:Hp}{kvs:List (List Key×V)}{xs:List (List Key×Addr×Value)}(r:KT H kvs xs)(k:List Key){y:V}{u:Value}(ry:AR y u) :
  KT H (kvs.map λkv=>if kv.1=k then(kv.1,y)else kv) (xs.map (putAt k u)):=by
 induction r with
 |nil=>exact .nil
 |@cons p q ps qs h t ih =>
  rw[L5,L5];refine .cons ?_ ih;obtain⟨h1,h2,h3⟩:=h;unfold putAt;by_cases e:p.1=k
  ·rw[V2 e,V2 (h1.symm.trans e)];exact⟨h1,h2,ry⟩
  ·rw[V0 e,V0 (λz=>e (h1.trans z))];exact⟨h1,h2,h3⟩
theorem KT.put{H:Hp}{kvs:List (List Key×V)}{xs:List (List Key×Addr×Value)}(r:KT H kvs xs)(k:List Key){b:Addr}{y:V}{u:Value}(hb:H b=some (.tup (k.map kV)))(ry:AR y u) :
  KT H (Eh kvs k y) (storedH xs k b u):=by
 have e:(kvs.any λkv=>decide (kv.1=k))=(atKey xs k).isSome:=by
  rw[GU,(r.val k).isSome_eq,Option.isSome_map]
 unfold Eh storedH;rw[e];by_cases q:(atKey xs k).isSome=true
 ·rw[V2 q,V2 q];exact r.repl k ry
 ·rw[V0 q,V0 q];exact X4 r ⟨rfl,hb,ry⟩
theorem KT.keeps{H H':Hp}{kvs:List (List Key×V)}{xs:List (List Key×Addr×Value)}(r:KT H kvs xs)(ht:∀b ys,H b=some (.tup ys)->H' b=some (.tup ys)):KT H' kvs xs :=
 Paired.mapP r λ_ _ z=>⟨z.1,ht _ _ z.2.1,z.2.2⟩
section
variable{P:Program}{w:World}{H:Hp}{h:Heap}{a:Addr}
theorem rd_of{u:HO}(ok:HOk P w H h)(e:Rd H a u):Bz P w H h a u:=e.ok ok
theorem Oq{kvs:List (Key×V)}(ok:HOk P w H h)(e:Rd H a (.dK kvs)):kvs.length<=sizeLine/\(a==sysModules)=false/\∃vs,KV kvs vs/\h.DictOf (Ch P w) a vs :=
 show Bz P w H h a (.dK kvs)from rd_of ok e
theorem dk_of{kvs:List (Key×V)}(ok:HOk P w H h)(e:H a=some (.dK kvs)):kvs.length<=sizeLine/\(a==sysModules)=false/\∃vs,KV kvs vs/\h.DictOf (Ch P w) a vs:=Oq ok (.inl e)
theorem MZ{ks:List Key}(ok:HOk P w H h)(e:H a=some (.tup (ks.map kV))):(tupleKind (Ch P w)).is h ks a:=by
 obtain⟨_,its,r,o,h1,h2,n,h3⟩:=(show Bz P w H h a (.tup (ks.map kV))from ok a _ e)
 exact⟨o,its.toArray,n,h1,h2,h3,by simpa using Og r⟩
theorem Oo{kvs:List (List Key×V)}(ok:HOk P w H h)(e:Rd H a (.dT kvs)):kvs.length<=sizeLine/\(a==sysModules)=false /\
  ∃xs,KT H kvs xs/\h.DictOfH (tupleKind (Ch P w)) a xs:=by
 obtain⟨z,y,xs,r,o,es,ep,h1,h2,h3,h4,h5⟩:=(show Bz P w H h a (.dT kvs)from rd_of ok e)
 refine⟨z,y,xs,r,o,es,ep,h1,h2,h3,h4,λx hx=>?_,h5⟩;have all:∀{l:List (List Key×V)}{m:List (List Key×Addr×Value)},KT H l m->∀x∈m,(tupleKind (Ch P w)).is h x.1 x.2.1:=by
  intro l m q;induction q with
  |nil=>intro x hx;exact nomatch hx
  |@cons p q ps qs hq t ih =>
   intro x hx;rcases B8.mp hx with e|hx
   ·subst e;exact MZ ok (by rw[<-hq.1];exact hq.2.1)
   ·exact ih x hx
 exact all r x hx
theorem dt_of{kvs:List (List Key×V)}(ok:HOk P w H h)(e:H a=some (.dT kvs)):kvs.length<=sizeLine/\(a==sysModules)=false /\
  ∃xs,KT H kvs xs/\h.DictOfH (tupleKind (Ch P w)) a xs:=Oo ok (.inl e)
end
def GS(H:Hp)(a:Addr)(y:V)(r:Option V):Prop :=
 (∃kvs k,Rd H a (.dK kvs)/\y=kV k/\r=BB kvs k)\/∃kvs k b,Rd H a (.dT kvs)/\y=.ref b/\H b=some (.tup (k.map kV))/\r=BB kvs k
def Mb(H:Hp)(a:Addr)(y v:V)(H':Hp):Prop :=
 (∃kvs k,H a=some (.dK kvs)/\y=kV k/\kvs.length<sizeLine/\H'=upd H a (.dK (Eh kvs k v))) \/
 ∃kvs k b,H a=some (.dT kvs)/\y=.ref b/\H b=some (.tup (k.map kV))/\kvs.length<sizeLine/\H'=upd H a (.dT (Eh kvs k v))
theorem GS.k{H:Hp}{a:Addr}{kvs:List (Key×V)}{k:Key}(e:H a=some (.dK kvs)):GS H a (kV k) (BB kvs k):=.inl ⟨kvs,k,.inl e,rfl,rfl⟩
theorem GS.t{H:Hp}{a b:Addr}{kvs:List (List Key×V)}{k:List Key}(e:H a=some (.dT kvs))(eb:H b=some (.tup (k.map kV))):GS H a (.ref b) (BB kvs k):=.inr ⟨kvs,k,b,.inl e,rfl,eb,rfl⟩
theorem Mb.k{H:Hp}{a:Addr}{kvs:List (Key×V)}{k:Key}{v:V}(e:H a=some (.dK kvs))(hl:kvs.length<sizeLine):Mb H a (kV k) v (upd H a (.dK (Eh kvs k v))):=.inl ⟨kvs,k,e,rfl,hl,rfl⟩
theorem Mb.t{H:Hp}{a b:Addr}{kvs:List (List Key×V)}{k:List Key}{v:V}(e:H a=some (.dT kvs))(eb:H b=some (.tup (k.map kV)))(hl:kvs.length<sizeLine) :
  Mb H a (.ref b) v (upd H a (.dT (Eh kvs k v))):=.inr ⟨kvs,k,b,e,rfl,eb,hl,rfl⟩
section
variable{X:Cx}{pins:List (Addr×Obj)}{σ:St}{H:Hp}{s:Shared}{a:Addr}{y v:V}{u r:Value}{o:Option V}{A:Around}{E:Value->Shared->Prop}
theorem Inv.big(I:Inv X pins σ H s):sysModules<s.heap.objs.size:=by
 have h:mainGlobals<s.heap.objs.size:=(I.mod.glob.keeps I.bk).lt;exact Q8 A3 h
theorem Uq{Q:Value->Shared->Prop}(hu:A.units+1<cLine)(I:Inv X pins σ H s)(g:GS H a y (some v))(ry:AR y u)(h:∀w' s',Inv X pins σ H s'->AR v w'->Q w' s') :
  wpAny (model X.prog X.w) A (getItem (.ref a) u) Q E s:=by
 rcases g with ⟨kvs,k,e,ey,l⟩|⟨kvs,k,b,e,ey,eb,l⟩
 ·subst ey;obtain⟨z,hd,vs,rel,dd⟩:=Oq I.hok e;obtain⟨w',hw,rw'⟩:=GR.some_of (v:=v) (o:=valueAt vs k) (by rw[l];exact rel.val k);exact wpAny_getItem_of (QN ry) dd.mapOf hw (h w' _ (I.tok _) rw')
 ·subst ey;cases(show u=Value.ref b from ry);obtain⟨z,hd,xs,rel,dd⟩:=Oo I.hok e;obtain⟨w',hw,rw'⟩:=GR.some_of (v:=v) (o:=(atKey xs k).map (·.2)) (by rw[l];exact rel.val k);obtain⟨p,hp,hp2⟩:=D5.mp hw;refine wpAny_getItem_heap (K2 hu) (MZ I.hok eb) dd hp ?_;rw[hp2];exact h w' _ (I.tok _) rw'
theorem d_notIn{Q:Value->Shared->Prop}(hu:A.units+1<cLine)(I:Inv X pins σ H s)(g:GS H a y o)(ry:AR y u)(h:∀s',Inv X pins σ H s'->Q (.bool (!o.isSome)) s') :
  wpAny (model X.prog X.w) A (compareOp .NotIn u (.ref a)) Q E s:=by
 rcases g with ⟨kvs,k,e,ey,l⟩|⟨kvs,k,b,e,ey,eb,l⟩
 ·subst ey;obtain⟨z,hd,vs,rel,dd⟩:=Oq I.hok e;refine wpAny_notIn_of (QN ry) hd dd.mapOf ?_;rw[<-(rel.val k).isSome_eq,<-l];exact h _ (I.tok _)
 ·subst ey;cases(show u=Value.ref b from ry);obtain⟨z,hd,xs,rel,dd⟩:=Oo I.hok e;refine wpAny_notIn_heap (K2 hu) (MZ I.hok eb) hd dd ?_;have q:=(rel.val k).isSome_eq;rw[Option.isSome_map]at q;rw[<-q,<-l];exact h _ (I.tok _)
theorem Ta{h':Heap}{t':Nat}{ob:HO}(I:Inv X pins σ H s)(mu:Mut (H a))(hs:Heap.SameBut a s.heap h')(he:∃q,h'.get? a=some q)(new:Bz X.prog X.w (upd H a ob) h' a ob) :
  Inv X pins σ (upd H a ob) {s with heap:=h',toks:=t'} :=
 I.write (x:=a) (e:=a) mu (.inl rfl) (λb q hb z=>(hs.2 b hb).trans z) he new
theorem dk_new{P:Program}{w:World}{H':Hp}{h':Heap}{kvs:List (Key×V)}{vs:List (Key×Value)}(z:kvs.length<=sizeLine)(hd:(a==sysModules)=false)(rel:KV kvs vs)(dd:h'.DictOf (Ch P w) a vs) :
  Bz P w H' h' a (.dK kvs):=⟨z,hd,vs,rel,dd⟩
theorem Uo{H':Hp}{Q:Unit->Shared->Prop}(hu:A.units+1<cLine)(I:Inv X pins σ H s)(g:Mb H a y v H')(ry:AR y u)(rv:AR v r)(h:∀s',Inv X pins σ H' s'->Q () s') :
  wpAny (model X.prog X.w) A (setItem (.ref a) u r) Q E s:=by
 rcases g with ⟨kvs,k,e,ey,l,eH⟩|⟨kvs,k,b,e,ey,eb,l,eH⟩
 ·subst ey eH;obtain⟨z,hd,vs,rel,dd⟩:=dk_of I.hok e;have hz:vs.length<=sizeLine:=by rw[<-rel.length];exact z
  have hl:(Eh kvs k v).length<=sizeLine:=by have:=EY kvs k v;lia
  refine wpAny_setItem_pairs (hsz:=hz) (QN ry) dd λh' dd' hs=>h _ ?_;have he:∃q,h'.get? a=some q:=let ⟨q,_,_,hq,_⟩:=dd';⟨q,hq⟩;exact Ta I (by rw[e];exact True.intro) hs he (dk_new hl hd (rel.put k rv) dd')
 ·subst ey eH;cases(show u=Value.ref b from ry);obtain⟨z,hd,xs,rel,dd⟩:=dt_of I.hok e;have hz:xs.length<=sizeLine:=by rw[<-W8 rel];exact z
  have hl:(Eh kvs k v).length<=sizeLine:=by have:=EY kvs k v;lia
  refine wpAny_setItem_heap (hsz:=hz) (K2 hu) (MZ I.hok eb) dd λh' dd' hs=>h _ ?_;obtain⟨q,es,ep,hq,h2,h3,h4,_,h5⟩:=dd';refine Ta I (by rw[e];exact True.intro) hs ⟨q,hq⟩ ⟨hl,hd,_,(rel.put k eb rv).keeps λc ys ec=>?_,q,es,ep,hq,h2,h3,h4,h5⟩;rw[Ar (AD ec e (λz=>nomatch z))];exact ec
end
section
variable{X:Cx}{pins:List (Addr×Obj)}{σ:St}{H:Hp}{s:Shared}{a:Addr}{kvs:List (Key×V)}{k:Key}{u:Value}{A:Around}{E:Value->Shared->Prop}
end
def NoSl(i:Expr):Prop:=∀ov iv,subscripted i false ov iv=operate [ov,iv] (getItem ov iv)
theorem subD_of{prog:Program}{w:World}{A:Around}{E:Value->Shared->Prop}{s:Shared}{env:Env}{value slice:Expr}{pos:Pos}{T id:String}{Q:Value->Shared->Prop}
  (hl:typeLookup (.type T) "__getitem__" = pure (some (.builtin id))) (hs:NoSl slice)
  (h:wpAny (model prog w) A (eval value env) (λo s₁=>wpAny (model prog w) A (eval slice env) (λi s₂=>s₂.TypeIs o T/\wpAny (model prog w) A (getItem o i) Q E s₂) E s₁) E s) :
  wpAny (model prog w) A (eval (.Subscript value slice pos) env) Q E s:=by
 refine Subscript_ (Y4 h (λo s₁ h₁=>Y4 h₁ (λi s₂ h₂=>?_) λ_ _ x=>x) λ_ _ x=>x);obtain⟨hT,h₂⟩:=h₂;unfold subscriptTail;refine U9 ?_;rw[getitemInPython_of_ne hT.not_modules];refine U9 (wpAny_specialOf hT hl ?_);have fin:wpAny (model prog w) A (subscripted slice false o i) (λr s₃=>wpAny (model prog w) A (letTemporaryGo value o r >>= λ_=>pure r) Q E s₃) E s₂:=by
  rw[hs o i];exact wpAny_operating (Y4 h₂ (λr s₃ h₃=>U9 (wpAny_letTemporaryGo (V9 h₃))) λ_ _ x=>x)
 first
  |exact V9 (U9 fin)
  |exact U9 (V9 (U9 fin))
  |exact U9 fin
theorem QR{X:Cx}{pins:List (Addr×Obj)}{σ:St}{H:Hp}{s:Shared}{a:Addr}{y:V}{o:Option V}(I:Inv X pins σ H s)(g:GS H a y o):s.TypeIs (.ref a) "dict" := by
 rcases g with ⟨kvs,k,e,_,_⟩|⟨kvs,k,b,e,_,_,_⟩
 ·obtain⟨_,_,vs,_,dd⟩:=Oq I.hok e;exact dd.typeIs
 ·obtain⟨_,_,xs,_,dd⟩:=Oo I.hok e;exact dd.typeIs
def tDGet(td ty:TE):TE:=fun σ H Q=>td σ H λx H1=>ty σ H1 λy H2=>∃a v,x=.ref a/\GS H2 a y (some v)/\Q v H2
def tDNotIn(ty td:TE):TE:=fun σ H Q=>ty σ H λy H1=>td σ H1 λx H2=>∃a o,x=.ref a/\GS H2 a y o/\Q (.bl (!o.isSome)) H2
def sDPut(td ty tv:TE):TS:=λD σ H=>tv σ H λv H1=>td σ H1 λx H2=>ty σ H2 λy H3=>∃a H4,x=.ref a/\Mb H3 a y v H4/\D.nx σ H4
section
variable{X:Cx}{o i e value:Expr}{pos pos' tpos:Pos}{td ty tv:TE}
theorem SI(hu:X.A.units+1<cLine)(ho:PE X o td)(hi:PE X i ty)(hs:NoSl i):PE X (.Subscript o i pos) (tDGet td ty):=by
 intro pins s σ H Q I h;refine subD_of PySem.F.slot_dict_getitem.lookup hs (thn (ho pins s σ H _ I h) λu s1 ⟨x,H1,I1,rx,q1⟩=>thn (hi pins s1 σ H1 _ I1 q1) λiv s2 ⟨y,H2,I2,ry,a,v,ex,g,q2⟩=>?_);subst ex;obtain rfl:u=Value.ref a:=rx;exact⟨QR I2 g,Uq hu I2 g ry λw' s3 I3 rw'=>⟨v,H2,I3,rw',q2⟩⟩
theorem TB(hu:X.A.units+1<cLine)(hi:PE X i ty)(ho:PE X o td):PC X .NotIn i o (tDNotIn ty td):=by
 intro pins s σ H Q I h;refine thn (hi pins s σ H _ I h) λiv s1 ⟨y,H1,I1,ry,q1⟩=>thn (ho pins s1 σ H1 _ I1 q1) λu s2 ⟨x,H2,I2,rx,a,ov,ex,g,q2⟩=>?_;subst ex;obtain rfl:u=Value.ref a:=rx;exact d_notIn hu I2 g ry λs3 I3=>⟨.bl (!ov.isSome),H2,I3,rfl,q2⟩
theorem Iz(hu:X.A.units+1<cLine)(ho:PE X o td)(hi:PE X i ty)(hv:PE X value tv)(hs:swapsWith value (some (.Subscript o i pos')) pos.line X.env=pure false) :
  PS X (.Assign [.Subscript o i pos'] value pos) (sDPut td ty tv):=by
 intro pins s σ H D I h;refine wpAny_Assign_Subscript (thn (hv pins s σ H _ I h) λr s1 ⟨v,H1,I1,rv,q1⟩=>thn (ho pins s1 σ H1 _ I1 q1) λu s2 ⟨x,H2,I2,rx,q2⟩=>thn (hi pins s2 σ H2 _ I2 q2) λiv s3 ⟨y,H3,I3,ry,a,H4,ex,g,q3⟩=>?_) hs;subst ex;obtain rfl:u=Value.ref a:=rx;exact Uo hu I3 g ry rv λs4 I4=>⟨σ,H4,I4,q3⟩
end
theorem Wk{P:Program}{w:World}{H:Hp}(h:Heap)(hb:sysModules<h.objs.size):Bz P w H (h.push {cls:=.type "dict",data:=.dict #[]}) h.objs.size (.dK []) :=
 ⟨F5 _,beq_eq_false_iff_ne.mpr (V5 (F1 hb)),[],.nil,Heap.DictOf.new h⟩
theorem Wj{P:Program}{w:World}{H:Hp}(h:Heap)(hb:sysModules<h.objs.size):Bz P w H (h.push {cls:=.type "dict",data:=.dict #[]}) h.objs.size (.dT []) :=
 ⟨F5 _,beq_eq_false_iff_ne.mpr (V5 (F1 hb)),[],.nil,_,#[],0,C7 _ rfl,⟨rfl,rfl,rfl⟩,rfl,rfl,Q9⟩
def tDNewK:TE:=λ_ H Q=>∀p,H p=none->Q (.ref p) (upd H p (.dK []))
def tDNewT:TE:=λ_ H Q=>∀p,H p=none->Q (.ref p) (upd H p (.dT []))
section
variable{X:Cx}{pos:Pos}
theorem JC:PE X (.Dict [] [] pos) tDNewK:=λpins s σ H Q I h =>
 wpAny_Dict_empty ⟨.ref s.heap.objs.size,_,I.laid (a:=s.heap.objs.size) (o:=.dK []) (t':=s.toks) (λ_ _ q=>B7 _ q) (C0 _) (Wk s.heap I.big),rfl,h _ (I.hok.fresh (C0 _))⟩
theorem Qu:PE X (.Dict [] [] pos) tDNewT:=λpins s σ H Q I h =>
 wpAny_Dict_empty ⟨.ref s.heap.objs.size,_,I.laid (a:=s.heap.objs.size) (o:=.dT []) (t':=s.toks) (λ_ _ q=>B7 _ q) (C0 _) (Wj s.heap I.big),rfl,h _ (I.hok.fresh (C0 _))⟩
end
structure M1(X:Cx)(o:Expr)(m:Str)(apos:Pos)(e:Expr)(cpos:Pos):Prop where
 base:attributeBase o m X.env (eval o X.env)=eval o X.env
 few:((backTo cpos (starEach [e] X.env)).all (λx=>!x.1) && (backToKw cpos (keywordEach [] X.env)).all (λx=>x.1.isSome)
  && decide (([e]:List Expr).length+([]:List Keyword).length+(if([]:List Keyword).isEmpty then 0 else 1)<30))=true
 line:(apos.endLine==cpos.line)=true
 trees:backTo cpos (starEach [e] X.env)=[(false,eval e X.env)]
def IsD(H:Hp)(a:Addr):Prop:=(∃kvs,Rd H a (.dK kvs))\/∃kvs,Rd H a (.dT kvs)
theorem isD_at{X:Cx}{pins:List (Addr×Obj)}{σ:St}{H:Hp}{s:Shared}{a:Addr}(I:Inv X pins σ H s)(d:IsD H a) :
  s.TypeIs (.ref a) "dict" /\ (∀b,Value.ref a=.ref b->∃ob,s.heap.get? b=some ob/\ob.dict=none)/\(a==sysModules)=false:=by
 rcases d with ⟨kvs,e⟩|⟨kvs,e⟩
 ·obtain⟨_,hd,vs,_,dd⟩:=Oq I.hok e;refine⟨dd.typeIs,λb q=>?_,hd⟩;cases q;obtain⟨ob,_,_,h1,h2,_⟩:=dd;exact⟨ob,h1,h2.2.1⟩
 ·obtain⟨_,hd,xs,_,dd⟩:=Oo I.hok e;refine⟨dd.typeIs,λb q=>?_,hd⟩;cases q;obtain⟨ob,_,_,h1,h2,_⟩:=dd;exact⟨ob,h1,h2.2.1⟩
section
variable{X:Cx}{pins:List (Addr×Obj)}{σ:St}{H:Hp}{s:Shared}{a:Addr}{y d:V}{u r:Value}{o:Option V}{A:Around}{E:Value->Shared->Prop}
theorem d_get1{Q:Value->Shared->Prop}(hu:A.units+1<cLine)(I:Inv X pins σ H s)(g:GS H a y o)(ry:AR y u)(h:∀w' s',Inv X pins σ H s'->AR (o.getD .non) w'->Q w' s') :
  wpAny (model X.prog X.w) A (call (.builtin "dict.get") [.ref a,u]) Q E s:=by
 rcases g with ⟨kvs,k,e,ey,l⟩|⟨kvs,k,b,e,ey,eb,l⟩
 ·subst ey;obtain⟨z,hd,vs,rel,dd⟩:=Oq I.hok e;refine call_meetsIn K9 dd.typeIs PySem.F.entry_dict_get (PySem.F.args_dict_get_2 _ _) (meets_dict_get (Ch X.prog X.w) a (QN ry) hd) ⟨_,dd.mapOf,h _ _ (I.tok _) ?_⟩;rw[l];exact(rel.val k).getD rfl
 ·subst ey;cases(show u=Value.ref b from ry);obtain⟨z,hd,xs,rel,dd⟩:=Oo I.hok e;refine call_meetsIn K9 dd.typeIs PySem.F.entry_dict_get (PySem.F.args_dict_get_2 _ _) (meetsH_dict_get (tupleKind (Ch X.prog X.w)) a b hd) ⟨K2 hu,k,xs,MZ I.hok eb,dd,h _ _ (I.tok _) ?_⟩;rw[l];exact(rel.val k).getD rfl
end
def tDGet1(td ty:TE):TE:=fun σ H Q=>td σ H λx H1=>∃a,x=.ref a/\IsD H1 a/\ty σ H1 λy H2=>∃o,GS H2 a y o/\Q (o.getD .non) H2
section
variable{X:Cx}{o e f:Expr}{apos cpos:Pos}{td ty tx:TE}
theorem JD(hu:X.A.units+1<cLine)(ho:PE X o td)(he:PE X e ty)(m:M1 X o "get" apos e cpos):PE X (.Call (.Attribute o "get" apos) [e] [] cpos) (tDGet1 td ty):=by
 intro pins s σ H Q I h;refine wpAny_Call_method m.base m.few m.line PySem.F.plainAttrs_dict K9 PySem.F.type_dict_get (thn (ho pins s σ H _ I h) λu s1 ⟨x,H1,I1,rx,a,ex,d,q1⟩=>?_);subst ex;obtain rfl:u=Value.ref a:=rx;obtain⟨t1,t2,_⟩:=isD_at I1 d;refine⟨t1,t2,?_⟩;rw[m.trees];refine Calls.callWith_builtin rfl (A1a (Calls.spliced_cons (thn (he pins s1 σ H1 _ I1 q1) λiv s2 ⟨y,H2,I2,ry,ov,g,q2⟩=>Calls.spliced_nil ?_)));exact d_get1 hu I2 g ry λw' s3 I3 rw'=>⟨_,H2,I3,rw',q2⟩
end
section
variable{X:Cx}{pins:List (Addr×Obj)}{σ:St}{H:Hp}{s:Shared}{a:Addr}{kvs:List (Key×V)}{A:Around}{E:Value->Shared->Prop}
end
section
variable{X:Cx}{pins:List (Addr×Obj)}{σ:St}{H:Hp}{s:Shared}{a:Addr}{y:V}{u:Value}{A:Around}{E:Value->Shared->Prop}
end
section
variable{X:Cx}
end
section
variable{κ:Type}[DecidableEq κ]
end
section
variable{X:Cx}
theorem Pb{K:PySem.W.Frag}{e:Expr}{f:Str}{ta:TE}{pos:Pos}(hK:X.K=K)(he:PE X e ta)(hb:attributeBase e f X.env (eval e X.env)=eval e X.env):PE X (.Attribute e f pos) (tFld K ta f):=hK▸Az he hb
end
section
variable{X:Cx}
theorem JL{ns:List Int}{its:List Value}(rv:AM (ns.map V.int) its):∀(i:Nat) v,its.toArray[i]?=some v->∃t,v=.int (ns.getD i 0) t:=λi v e=>by
 have e:its[i]?=some v:=by simpa using e
 cases eb:ns[i]? with
 |none =>
  have:its[i]?=none:=rv.none_of (by rw[B9,eb];rfl);rw[e]at this;cases this
 |some b =>
  obtain⟨u,hu,ru⟩:=rv.get (i:=i) (x:=V.int b) (by rw[B9,eb];rfl);rw[e]at hu;cases hu;rw[F2,eb];obtain⟨t,rfl⟩:=ru;exact⟨t,rfl⟩
theorem Ou(hc:X.calm=true):FS X (.builtin "min") (λxs H Q=>∃(p:Addr)(ns:List Int),xs=[.ref p]/\SqL X.K H p (ns.map V.int)/\ns≠[]/\∀m∈ns,(∀x∈ns,m<=x)->Q (.int m) H):=by
 intro pins s σ H xs us Q I r h;obtain⟨p,ns,rfl,hq,ne,q⟩:=h;cases r with
 |cons r1 r2 =>
  cases r2;cases(show _=Value.ref p from r1);obtain⟨its,rv,pl,hz⟩:=I.list hq;have hlt:p<s.heap.objs.size:=by obtain⟨o,n,e,_⟩:=pl;exact C4 e
  have hne:p≠s.heap.objs.size:=F1 hlt;have len:its.toArray.size=ns.length:=by rw[D0,<-rv.length,B5]
  have pos:0<ns.length:=R3.mpr ne;refine call_min_walk (X5 pl.isList ?_);refine⟨s.heap.objs.size,_,_,_,_,_,_,rfl,(Walks.list (A:=X.A.in1) (I.ok.hd hc) s.heap.objs.size p hne its.toArray),⟨⟨_,C7 _ rfl,rfl,rfl⟩,?_⟩,?_,by rw[len];exact pos,CmpOf.ints_lt (λi=>ns.getD i 0) (JL rv),?_⟩
  ·exact pl.isList.at λo e=>B7 _ e
  ·intro b hb;show b<(s.heap.push _).objs.size;rw[O1];rcases B8.mp hb with rfl|hb
   ·exact R1 _
   ·rcases B8.mp hb with rfl|hb
    ·exact U7 hlt
    ·cases hb
  ·intro v h' tk hP kk;have I2:Inv X pins σ H {s with heap:=h',toks:=tk}:=I.kept λb o e=>kk b o (by intro z;exact F1 (C4 e) (by simpa using z)) (B7 _ e);obtain⟨t,rfl⟩:=JL rv _ _ hP;obtain⟨b1,b2⟩:=argBest_lt (λi=>ns.getD i 0) (its.toArray.size-1);generalize argBest (λi j=>decide (ns.getD i 0<ns.getD j 0)) (its.toArray.size-1)=z at b1 b2 hP⊢;rw[len]at b1 b2;have hz2:z<ns.length:=by lia
   have ez:ns.getD z 0=ns[z]:=by rw[F2,D1 hz2];rfl
   refine⟨.int _,H,I2,⟨t,rfl⟩,q _ (by rw[ez];exact S4 hz2) λx hx=>?_⟩;obtain⟨j,hj,e⟩:=U0.mp hx;have:=b2 j A1;have ej:ns.getD j 0=x:=by rw[F2,D1 hj,<-e];rfl
   rw[<-ej];exact this
theorem Ov(hc:X.calm=true):FS X (.builtin "max") (λxs H Q=>∃(p:Addr)(ns:List Int),xs=[.ref p]/\SqL X.K H p (ns.map V.int)/\ns≠[]/\∀m∈ns,(∀x∈ns,x<=m)->Q (.int m) H):=by
 intro pins s σ H xs us Q I r h;obtain⟨p,ns,rfl,hq,ne,q⟩:=h;cases r with
 |cons r1 r2 =>
  cases r2;cases(show _=Value.ref p from r1);obtain⟨its,rv,pl,hz⟩:=I.list hq;have hlt:p<s.heap.objs.size:=by obtain⟨o,n,e,_⟩:=pl;exact C4 e
  have hne:p≠s.heap.objs.size:=F1 hlt;have len:its.toArray.size=ns.length:=by rw[D0,<-rv.length,B5]
  have pos:0<ns.length:=R3.mpr ne;refine call_max_walk (X5 pl.isList ?_);refine⟨s.heap.objs.size,_,_,_,_,_,_,rfl,(Walks.list (A:=X.A.in1) (I.ok.hd hc) s.heap.objs.size p hne its.toArray),⟨⟨_,C7 _ rfl,rfl,rfl⟩,?_⟩,?_,by rw[len];exact pos,CmpOf.ints_gt (λi=>ns.getD i 0) (JL rv),?_⟩
  ·exact pl.isList.at λo e=>B7 _ e
  ·intro b hb;show b<(s.heap.push _).objs.size;rw[O1];rcases B8.mp hb with rfl|hb
   ·exact R1 _
   ·rcases B8.mp hb with rfl|hb
    ·exact U7 hlt
    ·cases hb
  ·intro v h' tk hP kk;have I2:Inv X pins σ H {s with heap:=h',toks:=tk}:=I.kept λb o e=>kk b o (by intro z;exact F1 (C4 e) (by simpa using z)) (B7 _ e);obtain⟨t,rfl⟩:=JL rv _ _ hP;obtain⟨b1,b2⟩:=argBest_gt (λi=>ns.getD i 0) (its.toArray.size-1);generalize argBest (λi j=>decide (ns.getD i 0 > ns.getD j 0)) (its.toArray.size-1)=z at b1 b2 hP⊢;rw[len]at b1 b2;have hz2:z<ns.length:=by lia
   have ez:ns.getD z 0=ns[z]:=by rw[F2,D1 hz2];rfl
   refine⟨.int _,H,I2,⟨t,rfl⟩,q _ (by rw[ez];exact S4 hz2) λx hx=>?_⟩;obtain⟨j,hj,e⟩:=U0.mp hx;have:=b2 j A1;have ej:ns.getD j 0=x:=by rw[F2,D1 hj,<-e];rfl
   rw[<-ej];exact this
end
section
variable{X:Cx}
end
section
variable{prog:Program}{w:World}{κ:Type}[DecidableEq κ]{knd:HeapKind prog w κ}{A:Around}{E:Value->Shared->Prop}{s:Shared}
end
section
variable{X:Cx}{pins:List (Addr×Obj)}{σ:St}{H:Hp}{s:Shared}{a:Addr}{y v:V}{u r:Value}{o:Option V}{A:Around}{E:Value->Shared->Prop}
end
section
variable{X:Cx}{o e f:Expr}{apos cpos:Pos}{td ty tx:TE}
end
section
variable{prog:Program}{w:World}{A:Around}{E:Value->Shared->Prop}{s:Shared}{d it:Addr}{o:Obj}{es:Array DictEntry}{ep i:Nat}
end
end L2
namespace L2
open PySem PySem.W PySem.Spec PyProof.Rows
section
variable{X:Cx}{CX:CXT}{k:Nat}{ps:List Str}{sp:Sp}{E:XK}{x:Str}{p pos:Pos}{e:Expr}{es:List Expr}{t:TA}{S:St->Prop}
theorem SJ(c:Cal X.prog X.w X.K X.mg X.base CX k x ps sp)(hr:CD k X.A)(hg:Gl X x)(hx:JV CX X E S)(ha:PA X (e::es) t)(hdb:(x==("__debug__" : Str))=false:=by decide)
  (he:starEach (e::es) X.env=(false,eval e X.env)::starEach es X.env:=by rfl) (hpl:(backTo pos (starEach es X.env)).any (·.1)=false:=by rfl):PE X (.Call (.Name x p) (e::es) [] pos) (UH S sp [] E t):=by
 obtain⟨f,fd,h1,h2,h3,h4⟩:=c;exact Vi h1 hr hg h2 h3 h4 .nil hx ha hdb he hpl
end
section
variable{X:Cx}
end
end L2
namespace Tx
open PySem PySem.Builtin PySem.Builtin.Str PyProof.Rows
theorem Ct(a b:Str):(a++b).cps.toList=a.cps.toList++b.cps.toList:=cps_toList_append a b
def jl(sep:List Nat):List (List Nat)->List Nat
 |[]=>[]
 |[x]=>x
 |x::y::r=>x++sep++jl sep (y::r)
theorem FL(sep:Str):∀ts:List Str,(Str.join sep ts).cps.toList=jl sep.cps.toList (ts.map λt=>t.cps.toList)
 |[]=>rfl
 |[x]=>rfl
 |x::y::r=>by
  have e:Str.join sep (x::y::r)=x++sep++Str.join sep (y::r):=rfl;rw[e,Ct,Ct,FL sep (y::r)];rfl
theorem PL{c:Nat}:∀{x y A B:List Nat},c∉x->c∉y->x++c::A=y++c::B->x=y/\A=B
 |[],[],A,B,_,_,h=>⟨rfl,by simpa using h⟩
 |[],y::ys,A,B,_,hy,h=>by
  simp at h;exact absurd (by rw[h.1];exact C3) hy
 |x::xs,[],A,B,hx,_,h=>by
  simp at h;exact absurd (by rw[<-h.1];exact C3) hx
 |x::xs,y::ys,A,B,hx,hy,h=>by
  simp at h;obtain⟨e,h⟩:=h;obtain⟨e2,e3⟩:=PL (x:=xs) (y:=ys) (λz=>hx (C1 _ z)) (λz=>hy (C1 _ z)) h;exact⟨by rw[e,e2],e3⟩
theorem RQ(c:Nat)(s:List Nat):∀(as bs:List (List Nat)),as≠[]->bs≠[]->(∀t∈as,c∉t)->(∀t∈bs,c∉t)->jl (c::s) as=jl (c::s) bs->as=bs
 |[],_,h,_,_,_,_=>absurd rfl h
 |_,[],_,h,_,_,_=>absurd rfl h
 |[x],[y],_,_,_,_,e=>by
  have e':x=y:=e;rw[e']
 |[x],y::z::r,_,_,ha,_,e=>by
  have e':x=y++c::s++jl (c::s) (z::r):=e;exact absurd (by rw[e'];simp) (ha x C3)
 |x::z::r,[y],_,_,_,hb,e=>by
  have e':x++c::s++jl (c::s) (z::r)=y:=e;exact absurd (by rw[<-e'];simp) (hb y C3)
 |x::x2::r,y::y2::r',_,_,ha,hb,e=>by
  have e':x++c::(s++jl (c::s) (x2::r))=y++c::(s++jl (c::s) (y2::r')):=by
   have:x++c::s++jl (c::s) (x2::r)=y++c::s++jl (c::s) (y2::r'):=e
   simpa using this
  obtain⟨e1,e2⟩:=PL (ha x C3) (hb y C3) e';have e3:=List.append_cancel_left e2;rw[e1,RQ c s (x2::r) (y2::r') A6 A6 (λt ht=>ha t (C1 _ ht)) (λt ht=>hb t (C1 _ ht)) e3]
theorem Oc {as bs:List Str} (h:as.map (λt=>t.cps.toList)=bs.map λt=>t.cps.toList):as=bs:=by
 induction as generalizing bs with
 |nil=>cases bs with|nil=>rfl|cons=>simp at h
 |cons a r ih =>
  cases bs with
  |nil=>simp at h
  |cons b q =>
   simp at h;rw[Nu.ext (a:=a) (b:=b) (by simpa using h.1),ih (by simpa using h.2)]
theorem Qd(c:Nat)(ts:List Str)(hne:ts≠[])(hf:∀t∈ts,c∉t.cps.toList):Txt.split (Str.join ⟨#[c]⟩ ts) ⟨#[c]⟩=ts:=by
 refine Oc (RQ c [] _ _ ?_ ?_ ?_ ?_ ?_)
 ·intro h;have:=split_pos (Str.join ⟨#[c]⟩ ts) ⟨#[c]⟩;have h2:(Txt.split (Str.join ⟨#[c]⟩ ts) ⟨#[c]⟩).length=0:=by simpa using W0 List.length h
  lia
 ·simpa using hne
 ·intro t ht;obtain⟨p,hp,rfl⟩:=D6.mp ht;exact StrLaws.split_free _ c p hp
 ·intro t ht;obtain⟨p,hp,rfl⟩:=D6.mp ht;exact hf p hp
 ·have h:=W0 (λz:Str=>z.cps.toList) (StrLaws.join_split (Str.join ⟨#[c]⟩ ts) ⟨#[c]⟩);rw[FL,FL]at h;exact h
theorem Gn(c:Nat)(a b:Str)(h:c∉a.cps.toList):Txt.partition (a++⟨#[c]⟩++b) ⟨#[c]⟩=(a,⟨#[c]⟩,b):=by
 have hin:c∈(a++⟨#[c]⟩++b).cps.toList:=by rw[Ct,Ct];simp
 have hs:=StrLaws.partition_sum (a++⟨#[c]⟩++b) ⟨#[c]⟩;have hh:=partition_head (a++⟨#[c]⟩++b) ⟨#[c]⟩;have ho:=StrLaws.found_one (a++⟨#[c]⟩++b) c;rw[V1 hin]at ho;have hp2:(Txt.partition (a++⟨#[c]⟩++b) ⟨#[c]⟩).2.1=⟨#[c]⟩:=by
  unfold Txt.partition;cases e:occurrences (a++⟨#[c]⟩++b) ⟨#[c]⟩ 0 (a++⟨#[c]⟩++b).length 1 with
  |nil=>rw[e]at ho;simp at ho
  |cons i l=>rfl
 have hp1:c∉(Txt.partition (a++⟨#[c]⟩++b) ⟨#[c]⟩).1.cps.toList:=by
  rcases hh with ⟨_,no⟩|⟨i,e,hA,no⟩
  ·obtain⟨j,hj⟩:=F7 hin;exact absurd ((StrLaws.subAt_one _ c j).mpr hj) (no j)
  ·rw[e];exact StrLaws.part_free _ c 0 i (by have:i+1<=_:=hA.1;lia) λk _ hk=>no k hk
 have e:(Txt.partition (a++⟨#[c]⟩++b) ⟨#[c]⟩).1.cps.toList++(Txt.partition (a++⟨#[c]⟩++b) ⟨#[c]⟩).2.1.cps.toList++(Txt.partition (a++⟨#[c]⟩++b) ⟨#[c]⟩).2.2.cps.toList=a.cps.toList++[c]++b.cps.toList:=by
  have e0:=W0 (λz:Str=>z.cps.toList) hs;rw[Ct,Ct,Ct,Ct]at e0;exact e0
 rw[hp2]at e;have e':(Txt.partition (a++⟨#[c]⟩++b) ⟨#[c]⟩).1.cps.toList++c::(Txt.partition (a++⟨#[c]⟩++b) ⟨#[c]⟩).2.2.cps.toList=a.cps.toList++c::b.cps.toList:=by simpa using e
 obtain⟨e1,e2⟩:=PL hp1 h e';exact Prod.ext (Nu.ext e1) (Prod.ext hp2 (Nu.ext e2))
end Tx
namespace Tx
open PySem PySem.Builtin PySem.Builtin.Str PyProof.Rows
end Tx
namespace Tx
open PySem PySem.Builtin PySem.Builtin.Str PyProof.Rows
theorem Wo(x:Str)(c d k:Nat)(h1:x.cps.toList[k]?=some c)(h2:x.cps.toList[k+1]?=some d):StrLaws.At x ⟨#[c,d]⟩ x.length k:=by
 have l:k+1<x.cps.toList.length:=(B6.mp h2).1;refine⟨?_,?_⟩
 ·show k+2<=x.length;rw[Nu.len];lia
 ·rw[StrLaws.subAt_eq];show((x.cps.toList.drop k).take 2==[c,d])=true;have e1:x.cps.toList.drop k=c::d::x.cps.toList.drop (k+2):=by
   rw[List.drop_eq_getElem_cons A1,(B6.mp h1).2,List.drop_eq_getElem_cons l,(B6.mp h2).2]
  rw[e1];simp
def Led(c d:Nat)(l:List Nat):Prop:=∀k:Nat,l[k]?=some c->l[k+1]?=some d
theorem MK{x:Str}{c d a b:Nat}(hx:Led c d x.cps.toList)(hb:b<=x.length)(hn:∀k,a<=k->k<b->¬StrLaws.At x ⟨#[c,d]⟩ x.length k):c∉(strSub x a b).cps.toList:=by
 intro hm;rw[StrLaws.strSub_toList]at hm;obtain⟨j,hj⟩:=F7 hm;have hlt:j<b-a:=by
  have h1:j<((x.cps.toList.drop a).take (b-a)).length:=(B6.mp hj).1;rw[J9]at h1;lia
 rw[S1 hlt,List.getElem?_drop]at hj;exact hn (a+j) A1 A1 (Wo x c d (a+j) hj (hx _ hj))
theorem LQ{x:Str}{c d:Nat}(hx:Led c d x.cps.toList):∀(cuts:List Nat)(a f:Nat),StrLaws.ChainG x ⟨#[c,d]⟩ x.length a cuts f->(∀k,f<=k->¬StrLaws.At x ⟨#[c,d]⟩ x.length k)->∀p∈StrLaws.partsFrom x 2 a cuts,c∉p.cps.toList
 |[],a,f,h,hn,p,hp=>by
  have e:f=a:=h;subst e;rw[D7.mp hp];exact MK hx (C0 _) λk h1 _=>hn k h1
 |g::r,a,f,h,hn,p,hp=>by
  rcases B8.mp hp with rfl|hp'
  ·exact MK hx (by have:g+2<=_:=h.2.1.1;lia) h.2.2.1
  ·exact LQ hx r _ f h.2.2.2 hn p hp'
theorem kind_le(x:Str):¬Builtin.Str.strKind x<Builtin.Str.strKind (⟨#[59,32]⟩:Str):=by
 have e:Builtin.Str.strKind (⟨#[59,32]⟩:Str)=1:=by simp[Builtin.Str.strKind]
 rw[e];unfold Builtin.Str.strKind;split
 ·decide
 ·split<;>decide
theorem Qe{x:Str}(hx:Led 59 32 x.cps.toList):∀p∈Txt.split x ⟨#[59,32]⟩,59∉p.cps.toList:=by
 obtain⟨f,hG,hn⟩:=StrLaws.occ_tight x ⟨#[59,32]⟩ A3;have whole:59∈x.cps.toList->∃k,StrLaws.At x ⟨#[59,32]⟩ x.length k:=λhm=>by
  obtain⟨j,hj⟩:=F7 hm;exact⟨j,Wo x 59 32 j hj (hx j hj)⟩
 unfold Txt.split;split
 ·rename_i hc;intro p hp;rw[D7.mp hp];intro hm;obtain⟨k,hk⟩:=whole hm;have h2:k+2<=x.length:=hk.1;rw[Bool.or_eq_true,A1c,A1c]at hc;rcases hc with h|h
  ·have h3:x.length<2:=h;lia
  ·exact kind_le x h
 ·split
  ·rename_i he;intro p hp;rw[D7.mp hp];intro hm;obtain⟨k,hk⟩:=whole hm;rw[List.isEmpty_iff.mp he]at hG;have ef:f=0:=hG;exact hn k A1 hk
  ·rw[StrLaws.partsBetween_eq];exact LQ hx _ 0 f hG hn
theorem VP{c d:Nat}(hcd:c≠d):∀ts:List (List Nat),(∀t∈ts,c∉t)->Led c d (jl [c,d] ts)
 |[],_=>λk h=>by simp[jl]at h
 |[x],hf=>λk h=>absurd (D4 (show x[k]?=some c from h)) (hf x C3)
 |x::y::r,hf=>λk h=>by
  have ih:=VP hcd (y::r) λt ht=>hf t (C1 _ ht);have e:jl [c,d] (x::y::r)=x++(c::d::jl [c,d] (y::r)):=by
   show x++[c,d]++jl [c,d] (y::r)=_;simp
  rw[e]at h⊢;by_cases h1:k<x.length
  ·rw[L8 h1]at h;exact absurd (D4 h) (hf x C3)
  ·rw[F3 A1]at h;rw[F3 A1];obtain⟨m,hm⟩:∃m,k-x.length=m:=⟨_,rfl⟩
   rw[show k+1-x.length=m+1 by lia];rw[hm]at h;cases m with
   |zero=>rfl
   |succ m =>
    cases m with
    |zero =>
     have:some d=some c:=h;exact absurd (V4 this).symm hcd
    |succ m =>
     rw[S7,S7]at h⊢;exact ih m h
theorem Qc(ts:List Str)(hne:ts≠[])(hf:∀t∈ts,59∉t.cps.toList):Txt.split (Str.join ⟨#[59,32]⟩ ts) ⟨#[59,32]⟩=ts:=by
 have led:Led 59 32 (Str.join ⟨#[59,32]⟩ ts).cps.toList:=by
  rw[FL];refine VP A3 _ λt ht=>?_;obtain⟨p,hp,rfl⟩:=D6.mp ht;exact hf p hp
 refine Oc (RQ 59 [32] _ _ ?_ ?_ ?_ ?_ ?_)
 ·intro h;have:=split_pos (Str.join ⟨#[59,32]⟩ ts) ⟨#[59,32]⟩;have h2:(Txt.split (Str.join ⟨#[59,32]⟩ ts) ⟨#[59,32]⟩).length=0:=by simpa using W0 List.length h
  lia
 ·simpa using hne
 ·intro t ht;obtain⟨p,hp,rfl⟩:=D6.mp ht;exact Qe led p hp
 ·intro t ht;obtain⟨p,hp,rfl⟩:=D6.mp ht;exact hf p hp
 ·have h:=W0 (λz:Str=>z.cps.toList) (StrLaws.join_split (Str.join ⟨#[59,32]⟩ ts) ⟨#[59,32]⟩);rw[FL,FL]at h;exact h
end Tx
namespace L2
open PySem PySem.Spec PyProof.Rows
section
variable{X:Cx}
def CDivB(i j:Int):Prop:=0<j/\j<2^64
theorem Qw:OpR X (binaryOp .FloorDiv) (rI CDivB λi j=>.int (i/j)):=opI λi j _ _ _ _ _ hc q=>by
 have h1:(0:Int)<j:=hc.1;have h2:j<2^64:=hc.2;refine floordiv_int A1 (by rw[Int.fdiv_eq_ediv_of_nonneg i A1];exact q) (.inl (PyProof.noPylong_of_log2 ?_));have h3:j.natAbs<2^64:=by lia
 exact D8 ((Nat.log2_lt A1).mpr h3) A3
end
theorem RX{K:PySem.W.Frag}{M:Model}{A:Around}{E:Value->Shared->Prop}{s:Shared}{e C D:Addr}{oe:Obj}{Q:Bool->Shared->Prop}(X:K.In s.heap)(hC:FR K C)(hD:FR K D)(hs:mroIn K D (.ref C)=some false)
  (he:s.heap.get? e=some oe) (hcls:oe.cls=.ref D) (hq:Q false s):wpAny M A (excMatches (.ref e) (.ref C)) Q E s:=by
 obtain⟨h,g,d,t,os⟩:=s;obtain⟨bm,N,nm,qn,bs,hd,sn,sub,ab,col,dd,k0,k1,k2,k3,k5,mN,hO,hN,hi,hT,hM⟩:=JQ X hD;have hbase:bm.contains (.type "BaseException")=true:=hT.hasType A3;by_cases z:D=C
 ·subst z;have:(Value.ref D::bm).contains (.ref D)=false:=V4 ((hM (.ref D)).symm.trans hs);rw[U3]at this;simp at this
 ·obtain⟨bm',N',nm',qn',bs',hd',sn',sub',ab',col',dd',k0',k1',k2',k3',k5',mN',hO',hN',hi',hT',hM'⟩:=JQ X hC;have hcB:(Value.ref C::bm').contains (.type "BaseException")=true:=by rw[U3,hT'.hasType (X:="BaseException") (b:=true) A3,Bool.or_true]
  have hcC:(Value.ref D::bm).contains (.ref C)=false:=V4 ((hM (.ref C)).symm.trans hs);have f:=tc_notTuple;unfold excMatches
  repeat (first
   | (with_reducible refine K7 he ?_;rw[hcls])
   |with_reducible refine K7 hO' ?_
   | (with_reducible refine X8 hO' ?_;rw[hcB])
   | (with_reducible refine X8 hO ?_;rw[hcC])
   |wp_step)
  exact hq
section
variable{X:Cx}{C C2:Addr}{x n x2:Str}{np hpos pos np2 hpos2:Pos}{i:Nat}{b₀ b2:Stmt}{suite body suite2:List Stmt}{S:St->Prop}{tb:XK->TS}{th th2:TS}
theorem land2{pins pins':List (Addr×Obj)}{σ:St}{H1:Hp}{s1 s':Shared}{e:Value}{E1:XK}{Q:Flow->Shared->Prop}{nm:Option Str}{xe1:Value->Shared->Prop}
  (hstk:X.stack=X.env::X.outer) (hfr:X.env.frame=some X.env.locals) (hex:X.ex=[]) (hg:Gl X x) (hm:X.mg x=some (.ref C)) (hC:FR X.K C) (hg2:Gl X x2) (hm2:X.mg x2=some (.ref C2)) (hC2:FR X.K C2) (hcalm:X.calm=true)
  (hE1:∀cls d H',E1 cls d H'->∃D,cls=.ref D/\FR X.K D/\(mroIn X.K D (.ref C)=some true\/(mroIn X.K D (.ref C)=some false/\mroIn X.K D (.ref C2)=some true)))
  (J0:Inv {X with xe:=xe1,pn:=X.pn++pins} pins' σ H1 s1) (hcx:CXE X.prog X.w X.stack H1 s1 E1 e s')
  (go:∀(a D:Addr)(H':Hp)(s2:Shared),e=.ref a->mroIn X.K D (.ref C)=some true->E1 (.ref D) none H'->H' a=none->IV a D s2.heap->X.s₀.heap.get? a=none->X.base.get? a=none->X.env.locals≠a->(∀x c,X.env.cells.lookup x=some c->c≠a) ->
   (∀p,p∈X.pn++pins->p.1≠a)->(∀b,b∈X.fs->b≠a)->Inv X pins σ H' s2 ->
   (∀(Q':Unit->Shared->Prop)(E':Value->Shared->Prop),(∀s3,Inv X pins σ H' s3->IV a D s3.heap->Q' () s3)->wpAny (model X.prog X.w) (X.A.mark (some (.ref a))) (setFlight (.ref a) none) Q' E' s2) ->
   codeAny (model X.prog X.w) (X.A.mark (some (.ref a))) (.handlers (.ref a) [.ExceptHandler none nm (b₀::suite) hpos] X.env) (λr s₂=>match r with
     |.ok f=>(match nm with
      |none=>Q f s₂
      |some n=>wpAny (model X.prog X.w) X.A (do bindName X.env n .none;unbindBehindTheSuite X.env n hpos) (λ_ s₃=>Q f s₃) X.xe s₂)
     |.error x=>cameBackBy (model X.prog X.w) X.A X.env X.xe x s₂) s2)
  (go2:∀(a D:Addr)(H':Hp)(s2:Shared),e=.ref a->mroIn X.K D (.ref C)=some false->E1 (.ref D) none H'->H' a=none->IV a D s2.heap->X.s₀.heap.get? a=none->X.base.get? a=none->X.env.locals≠a->(∀x c,X.env.cells.lookup x=some c->c≠a) ->
   (∀p,p∈X.pn++pins->p.1≠a)->(∀b,b∈X.fs->b≠a)->Inv X pins σ H' s2 ->
   (∀(Q':Unit->Shared->Prop)(E':Value->Shared->Prop),(∀s3,Inv X pins σ H' s3->IV a D s3.heap->Q' () s3)->wpAny (model X.prog X.w) (X.A.mark (some (.ref a))) (setFlight (.ref a) none) Q' E' s2) ->
   codeAny (model X.prog X.w) (X.A.mark (some (.ref a))) (.handlers (.ref a) [.ExceptHandler none nm (b2::suite2) hpos2] X.env) (λr s₂=>match r with
     |.ok f=>(match (generalizing:=false) nm with
      |none=>Q f s₂
      |some n=>wpAny (model X.prog X.w) X.A (do bindName X.env n .none;unbindBehindTheSuite X.env n hpos2) (λ_ s₃=>Q f s₃) X.xe s₂)
     |.error x=>cameBackBy (model X.prog X.w) X.A X.env X.xe x s₂) s2)
  (hdb:(x==("__debug__" : Str))=false:=by decide) (hdb2:(x2==("__debug__" : Str))=false:=by decide) :
  wpAny (model X.prog X.w) X.A (noteFrame e X.env) (λ_ s₂=>wpAny (model X.prog X.w) X.A (setFlight e none) (λ_ s₃=>wpAny (model X.prog X.w) X.A (handleBy e X.env [.ExceptHandler (some (.Name x np)) nm (b₀::suite) hpos,.ExceptHandler (some (.Name x2 np2)) nm (b2::suite2) hpos2]) Q X.xe s₃) X.xe s₂) X.xe s':=by
 obtain⟨a,T,cls,H',rfl,os,bare,un,hok,fl,na,nT,ha,hT,hE⟩:=hcx;obtain⟨D,rfl,hD,hDC⟩:=hE1 _ _ _ hE;have hpin:∀p,p∈X.pn++pins->p.1≠a:=λp hp z=>by
  have q:=(J0.pin p (O4 _ hp)).1;rw[z,na]at q;cases q
 have I0:Inv X pins σ H1 s1:=J0.un_re J0.ok.hd rfl (λp hp=>O4 _ hp);have J:Inv X pins σ H' s':=I0.call' (ch:=[]) os un hok bare (λb z=>absurd z A6);have fr:=J.stack;have sub:∀b,b∈frs X.stack->b∈a::T::frs X.stack:=λb z=>.tail _ (.tail _ z);have hf2:X.A.frames=some (X.env::X.outer):=J.ok.frames.trans (by rw[hstk]);have free:∀b,b∈a::T::frs X.stack->H' b=none:=λb z=>by
  rcases B8.mp z with rfl|z
  ·exact ha
  ·rcases B8.mp z with rfl|z
   ·exact hT
   ·exact J.stkFree b z
 have g0:∀{b},s1.heap.get? b=none->X.s₀.heap.get? b=none:=λq=>I0.gn hex q;have out:∀b,b∈a::T::frs X.stack->b∈frs X.stack\/X.s₀.heap.get? b=none:=λb z=>by
  rcases B8.mp z with rfl|z
  ·exact .inr (g0 na)
  ·rcases B8.mp z with rfl|z
   ·exact .inr (g0 nT)
   ·exact .inl z
 have out1:∀b,b∈a::T::frs X.stack->b∈frs X.stack\/s1.heap.get? b=none:=λb z=>by
  rcases B8.mp z with rfl|z
  ·exact .inr na
  ·rcases B8.mp z with rfl|z
   ·exact .inr nT
   ·exact .inl z
 have over:∀h2,EN (a::T::frs X.stack) (frs X.stack) s'.heap h2->Inv X pins σ H' {s' with heap:=h2}:=λh2 nr =>
  I0.call' (s':={s' with heap:=h2}) (ch:=[]) os (OE un nr out1 λb z=>.inl z) (Na hok nr free) bare (λb z=>absurd z A6)
 have fr':=fr;rw[hstk]at fr';have efs:frs X.stack=frs (X.env::X.outer):=by rw[hstk]
 refine Qx hf2 fr' hfr (.inr fl) λh4 T4 fl4 n4 nr4=>?_;rw[<-efs]at nr4;have kn:∀{h2},(∀b o,h4.get? b=some o->b≠T4->h2.get? b=some o)->EN (a::T::frs X.stack) (frs X.stack) s'.heap h2:=λkp=>by
  have ne:∀b o,s'.heap.get? b=some o->b≠T4:=λb o q y=>by
   rw[y,n4]at q;cases q
  refine⟨λb o q z=>kp b o (nr4.keep b o q z) (ne b o q),λb o m q=>?_,nr4.sub⟩;obtain⟨sl,e⟩:=nr4.slot b o m q;exact⟨sl,kp b _ e (ne b o q)⟩
 refine GB (s:={s' with heap:=h4}) fl4 λh5 fw5 kp5=>?_;have J5:=over h5 (kn kp5);obtain⟨oe5,_,_,_,q5,c5,_⟩:=id fw5;have M5:Inv {X with A:=X.A.mark (some (.ref a)),calm:=false,xe:=λ_ _=>False,pn:=X.pn} pins σ H' {s' with heap:=h5}:=J5.re (λz=>nomatch z) rfl (λ_ z=>z);have nL:∀{b o},s1.heap.get? b=some o->b≠a:=λq z=>by rw[z,na]at q;cases q
 rcases hDC with hDC|⟨hN,hDC⟩
 ·refine A1d (A0h (Em (X:={X with A:=X.A.mark (some (.ref a)),calm:=false,xe:=λ_ _=>False,pn:=X.pn}) M5 hg hm ?_ hdb)) (by intro q;cases q);refine Om M5.kIn hC hD hDC q5 c5 ?_;refine go a D H' {s' with heap:=h5} rfl hDC hE ha fw5.exc (g0 na) ?_ ?_ ?_ hpin ?_ J5 ?_
  ·cases q:X.base.get? a with
   |none=>rfl
   |some o =>
    have:=I0.bk a o q;rw[na]at this;cases this
  ·obtain⟨m,⟨o,_,_,q,_⟩,_⟩:=I0.loc;exact nL q
  ·intro y c q;obtain⟨v,o,ho,_⟩:=I0.cell y c q;exact nL ho
  ·intro b hb;obtain⟨_,o,ho,_⟩:=I0.funs.mem hb;exact nL ho
  ·intro Q' E' hk;refine GB (s:={s' with heap:=h5}) fw5 λh6 fw6 kp6=>hk _ (over h6 (kn λb o q y=>kp6 b o (kp5 b o q y) y)) fw6.exc
 ·refine A1d (A0h (Em (X:={X with A:=X.A.mark (some (.ref a)),calm:=false,xe:=λ_ _=>False,pn:=X.pn}) M5 hg hm ?_ hdb)) (by intro q;cases q);refine RX M5.kIn hC hD hN q5 c5 ?_;refine A1d (A0h (Em (X:={X with A:=X.A.mark (some (.ref a)),calm:=false,xe:=λ_ _=>False,pn:=X.pn}) M5 hg2 hm2 ?_ hdb2)) (by intro q;cases q);refine Om M5.kIn hC2 hD hDC q5 c5 ?_;refine go2 a D H' {s' with heap:=h5} rfl hN hE ha fw5.exc (g0 na) ?_ ?_ ?_ hpin ?_ J5 ?_
  ·cases q:X.base.get? a with
   |none=>rfl
   |some o =>
    have:=I0.bk a o q;rw[na]at this;cases this
  ·obtain⟨m,⟨o,_,_,q,_⟩,_⟩:=I0.loc;exact nL q
  ·intro y c q;obtain⟨v,o,ho,_⟩:=I0.cell y c q;exact nL ho
  ·intro b hb;obtain⟨_,o,ho,_⟩:=I0.funs.mem hb;exact nL ho
  ·intro Q' E' hk;refine GB (s:={s' with heap:=h5}) fw5 λh6 fw6 kp6=>hk _ (over h6 (kn λb o q y=>kp6 b o (kp5 b o q y) y)) fw6.exc
def tTryAs2(K:PySem.W.Frag)(C C2:Addr)(i:Nat)(S:St->Prop)(tb:XK->TS)(th th2:TS):TS:=λD σ H =>
 tb (λcls _ H'=>∃D',cls=.ref D'/\FR K D'/\((mroIn K D' (.ref C)=some true/\∀σ' a,S σ'->H' a=none->th {nx:=fun σ2 H2=>D.nx (σ2.set i none) H2,rt:=D.rt,bk:=fun σ2 H2=>D.bk (σ2.set i none) H2,ct:=fun σ2 H2=>D.ct (σ2.set i none) H2} (σ'.set i (some (.ref a))) (upd H' a (FJ a D')))\/((mroIn K D' (.ref C)=some false/\mroIn K D' (.ref C2)=some true)/\∀σ' a,S σ'->H' a=none->th2 {nx:=fun σ2 H2=>D.nx (σ2.set i none) H2,rt:=D.rt,bk:=fun σ2 H2=>D.bk (σ2.set i none) H2,ct:=fun σ2 H2=>D.ct (σ2.set i none) H2} (σ'.set i (some (.ref a))) (upd H' a (FJ a D'))))) D σ H
theorem Tw(hstk:X.stack=X.env::X.outer)(hfr:X.env.frame=some X.env.locals)(hex:X.ex=[])(hcalm:X.calm=true)(hg:Gl X x)(hm:X.mg x=some (.ref C))(hC:FR X.K C)(hg2:Gl X x2)(hm2:X.mg x2=some (.ref C2))(hC2:FR X.K C2)(hN:X.N.Nodup)(hi:X.N[i]?=some n)(hl:X.env.scope.names.lookup n=some .local)
  (hb:∀(xe:Value->Shared->Prop)(pn:List (Addr×Obj))(E1:XK),JV (CXE X.prog X.w) {X with xe:=xe,pn:=pn} E1 S->PSs {X with xe:=xe,pn:=pn} body (tb E1))
  (hth:∀(a:Addr),PSs {X with A:=X.A.mark (some (.ref a)),calm:=false,xe:=λ_ _=>False,pn:=X.pn} (b₀::suite) th) (hth2:∀(a:Addr),PSs {X with A:=X.A.mark (some (.ref a)),calm:=false,xe:=λ_ _=>False,pn:=X.pn} (b2::suite2) th2) (hdb:(x==("__debug__" : Str))=false:=by decide) (hdb2:(x2==("__debug__" : Str))=false:=by decide) :
  PS X (.Try body [.ExceptHandler (some (.Name x np)) (some n) (b₀::suite) hpos,.ExceptHandler (some (.Name x2 np2)) (some n) (b2::suite2) hpos2] [] [] pos) (tTryAs2 X.K C C2 i S tb th th2):=by
 intro pins s σ H D I h;refine wpAny_Try_except ?_;have I1:Inv {X with xe:=NT X pins D [.ExceptHandler (some (.Name x np)) (some n) (b₀::suite) hpos,.ExceptHandler (some (.Name x2 np2)) (some n) (b2::suite2) hpos2],pn:=X.pn++pins} [] σ H s :=
  I.re I.ok.hd rfl (λp z=>by simpa using z)
 refine Y4 (hb (NT X pins D [.ExceptHandler (some (.Name x np)) (some n) (b₀::suite) hpos,.ExceptHandler (some (.Name x2 np2)) (some n) (b2::suite2) hpos2]) (X.pn++pins) _ ?pass [] s σ H D I1 h) (λf s1 q=>?_) (λe s1 q=>q)
 case pass =>
  intro pins' σ' H1 s1 e s' hS J hcx;refine land2 (pins:=pins) hstk hfr hex hg hm hC hg2 hm2 hC2 hcalm (λcls d H' ⟨D',z,a,b⟩=>⟨D',z,a,b.imp (·.1) (·.1)⟩) J hcx (λa D' H' s2 _ hM hE ha ho g0 gb nL nC nP nF J5 hset=>?_) (λa D' H' s2 _ hM hE ha ho g0 gb nL nC nP nF J5 hset=>?_) hdb hdb2
  ·obtain⟨D2,z,_,k⟩:=hE;cases z;have k:=(k.resolve_right (λq=>by rw[hM]at q;cases q.1.1)).2;refine codeAny_handlers_suite_as (hset _ _ λs3 J3 L3=>?_);have J4:=J3.track (o:=FJ a D') ha g0 gb nL nC nP nF (QO L3);refine Jp J4 hN hi (.inl hl) (v:=.ref a) rfl (λs4 K4=>?_) (.inr hl);have J6:Inv {X with A:=X.A.mark (some (.ref a)),calm:=false,xe:=λ_ _=>False,pn:=X.pn} pins (σ'.set i (some (.ref a))) (upd H' a (FJ a D')) s4:=K4.re (λz=>nomatch z) rfl (λ_ z=>z)
   refine Y4 (hth a pins s4 _ _ _ J6 (k σ' a hS ha)) (λf s5 q=>?_) (λ_ _ z=>z.elim);have gone:∀{σ5:St}{H5:Hp},Inv {X with A:=X.A.mark (some (.ref a)),calm:=false,xe:=λ_ _=>False,pn:=X.pn} pins σ5 H5 s5->∀{Q:Unit->Shared->Prop},(∀s6,Inv X pins (σ5.set i none) H5 s6->Q () s6) ->
     wpAny (model X.prog X.w) X.A (do bindName X.env n .none;unbindBehindTheSuite X.env n hpos) Q X.xe s5:=λ{σ5 H5} J7 Q hq=>by
    have J8:Inv X pins σ5 H5 s5:=J7.un_re J3.ok.hd rfl (λ_ z=>z);obtain⟨m,hn,hl0⟩:=id J8.loc;exact wpAny_nameGoes_keeps hl hn (by rw[J8.ok.kind];rfl) λh' v hn' sb=>hq _ (J8.gone hN hi hl hl0 hn' sb)
   cases f with
   |next=>obtain⟨σ5,H5,J7,q⟩:=q;exact gone J7 λs6 J8=>⟨_,H5,J8,q⟩
   |brk=>obtain⟨σ5,H5,J7,q⟩:=q;exact gone J7 λs6 J8=>⟨_,H5,J8,q⟩
   |cont=>obtain⟨σ5,H5,J7,q⟩:=q;exact gone J7 λs6 J8=>⟨_,H5,J8,q⟩
   |ret u=>obtain⟨v,σ5,H5,J7,r,q⟩:=q;exact gone J7 λs6 J8=>⟨v,_,H5,J8,r,q⟩
  ·obtain⟨D2,z,_,k⟩:=hE;cases z;have k:=(k.resolve_left (λq=>by rw[hM]at q;cases q.1)).2;refine codeAny_handlers_suite_as (hset _ _ λs3 J3 L3=>?_);have J4:=J3.track (o:=FJ a D') ha g0 gb nL nC nP nF (QO L3);refine Jp J4 hN hi (.inl hl) (v:=.ref a) rfl (λs4 K4=>?_) (.inr hl);have J6:Inv {X with A:=X.A.mark (some (.ref a)),calm:=false,xe:=λ_ _=>False,pn:=X.pn} pins (σ'.set i (some (.ref a))) (upd H' a (FJ a D')) s4:=K4.re (λz=>nomatch z) rfl (λ_ z=>z)
   refine Y4 (hth2 a pins s4 _ _ _ J6 (k σ' a hS ha)) (λf s5 q=>?_) (λ_ _ z=>z.elim);have gone:∀{σ5:St}{H5:Hp},Inv {X with A:=X.A.mark (some (.ref a)),calm:=false,xe:=λ_ _=>False,pn:=X.pn} pins σ5 H5 s5->∀{Q:Unit->Shared->Prop},(∀s6,Inv X pins (σ5.set i none) H5 s6->Q () s6) ->
     wpAny (model X.prog X.w) X.A (do bindName X.env n .none;unbindBehindTheSuite X.env n hpos2) Q X.xe s5:=λ{σ5 H5} J7 Q hq=>by
    have J8:Inv X pins σ5 H5 s5:=J7.un_re J3.ok.hd rfl (λ_ z=>z);obtain⟨m,hn,hl0⟩:=id J8.loc;exact wpAny_nameGoes_keeps hl hn (by rw[J8.ok.kind];rfl) λh' v hn' sb=>hq _ (J8.gone hN hi hl hl0 hn' sb)
   cases f with
   |next=>obtain⟨σ5,H5,J7,q⟩:=q;exact gone J7 λs6 J8=>⟨_,H5,J8,q⟩
   |brk=>obtain⟨σ5,H5,J7,q⟩:=q;exact gone J7 λs6 J8=>⟨_,H5,J8,q⟩
   |cont=>obtain⟨σ5,H5,J7,q⟩:=q;exact gone J7 λs6 J8=>⟨_,H5,J8,q⟩
   |ret u=>obtain⟨v,σ5,H5,J7,r,q⟩:=q;exact gone J7 λs6 J8=>⟨v,_,H5,J8,r,q⟩
 have back:∀σ H,Inv {X with xe:=NT X pins D [.ExceptHandler (some (.Name x np)) (some n) (b₀::suite) hpos,.ExceptHandler (some (.Name x2 np2)) (some n) (b2::suite2) hpos2],pn:=X.pn++pins} [] σ H s1->Inv X pins σ H s1 :=
  fun σ H J=>J.un_re J.ok.hd rfl (λp z=>by simpa using z)
 cases f with
 |next=>exact Z8 (q.map back)
 |brk=>exact q.map back
 |cont=>exact q.map back
 |ret u=>exact q.map back
end
section
variable{X:Cx}{C C2:Addr}{x x2:Str}{np hpos pos np2 hpos2:Pos}{b₀ b2:Stmt}{suite body suite2:List Stmt}{S:St->Prop}{tb:XK->TS}{th th2:TS}
def tTry2(K:PySem.W.Frag)(C C2:Addr)(S:St->Prop)(tb:XK->TS)(th th2:TS):TS:=λD σ H =>
 tb (λcls _ H'=>∃D',cls=.ref D'/\FR K D'/\((mroIn K D' (.ref C)=some true/\∀σ',S σ'->th D σ' H')\/((mroIn K D' (.ref C)=some false/\mroIn K D' (.ref C2)=some true)/\∀σ',S σ'->th2 D σ' H'))) D σ H
theorem ps_try2(hstk:X.stack=X.env::X.outer)(hfr:X.env.frame=some X.env.locals)(hex:X.ex=[])(hcalm:X.calm=true)(hg:Gl X x)(hm:X.mg x=some (.ref C))(hC:FR X.K C)(hg2:Gl X x2)(hm2:X.mg x2=some (.ref C2))(hC2:FR X.K C2)
  (hb:∀(xe:Value->Shared->Prop)(pn:List (Addr×Obj))(E1:XK),JV (CXE X.prog X.w) {X with xe:=xe,pn:=pn} E1 S->PSs {X with xe:=xe,pn:=pn} body (tb E1))
  (hth:∀(a:Addr),PSs {X with A:=X.A.mark (some (.ref a)),calm:=false,xe:=λ_ _=>False,pn:=X.pn} (b₀::suite) th) (hth2:∀(a:Addr),PSs {X with A:=X.A.mark (some (.ref a)),calm:=false,xe:=λ_ _=>False,pn:=X.pn} (b2::suite2) th2) (hdb:(x==("__debug__" : Str))=false:=by decide) (hdb2:(x2==("__debug__" : Str))=false:=by decide) :
  PS X (.Try body [.ExceptHandler (some (.Name x np)) none (b₀::suite) hpos,.ExceptHandler (some (.Name x2 np2)) none (b2::suite2) hpos2] [] [] pos) (tTry2 X.K C C2 S tb th th2):=by
 intro pins s σ H D I h;refine wpAny_Try_except ?_;have I1:Inv {X with xe:=NT X pins D [.ExceptHandler (some (.Name x np)) none (b₀::suite) hpos,.ExceptHandler (some (.Name x2 np2)) none (b2::suite2) hpos2],pn:=X.pn++pins} [] σ H s :=
  I.re I.ok.hd rfl (λp z=>by simpa using z)
 refine Y4 (hb (NT X pins D [.ExceptHandler (some (.Name x np)) none (b₀::suite) hpos,.ExceptHandler (some (.Name x2 np2)) none (b2::suite2) hpos2]) (X.pn++pins) _ ?pass [] s σ H D I1 h) (λf s1 q=>?_) (λe s1 q=>q)
 case pass =>
  intro pins' σ' H1 s1 e s' hS J hcx;refine land2 (pins:=pins) hstk hfr hex hg hm hC hg2 hm2 hC2 hcalm (λcls d H' ⟨D',z,a,b⟩=>⟨D',z,a,b.imp (·.1) (·.1)⟩) J hcx (λa D' H' s2 _ hM hE ha ho _ _ _ _ _ _ J5 hset=>?_) (λa D' H' s2 _ hM hE ha ho _ _ _ _ _ _ J5 hset=>?_) hdb hdb2
  ·obtain⟨D2,z,_,k⟩:=hE;cases z;have k:=(k.resolve_right (λq=>by rw[hM]at q;cases q.1.1)).2;refine codeAny_handlers_suite (hset _ _ λs3 J3 L3=>?_);have J6:Inv {X with A:=X.A.mark (some (.ref a)),calm:=false,xe:=λ_ _=>False,pn:=X.pn} pins σ' H' s3:=J3.re (λz=>nomatch z) rfl (λ_ z=>z)
   refine Y4 (hth a pins s3 σ' H' D J6 (k σ' hS)) (λf s4 q=>?_) (λ_ _ z=>z.elim);exact q.map fun σ4 H4 (J4:Inv {X with A:=X.A.mark (some (.ref a)),calm:=false,xe:=λ_ _=>False,pn:=X.pn} pins σ4 H4 s4)=>J4.un_re J3.ok.hd rfl (λ_ z=>z)
  ·obtain⟨D2,z,_,k⟩:=hE;cases z;have k:=(k.resolve_left (λq=>by rw[hM]at q;cases q.1)).2;refine codeAny_handlers_suite (hset _ _ λs3 J3 L3=>?_);have J6:Inv {X with A:=X.A.mark (some (.ref a)),calm:=false,xe:=λ_ _=>False,pn:=X.pn} pins σ' H' s3:=J3.re (λz=>nomatch z) rfl (λ_ z=>z)
   refine Y4 (hth2 a pins s3 σ' H' D J6 (k σ' hS)) (λf s4 q=>?_) (λ_ _ z=>z.elim);exact q.map fun σ4 H4 (J4:Inv {X with A:=X.A.mark (some (.ref a)),calm:=false,xe:=λ_ _=>False,pn:=X.pn} pins σ4 H4 s4)=>J4.un_re J3.ok.hd rfl (λ_ z=>z)
 have back:∀σ H,Inv {X with xe:=NT X pins D [.ExceptHandler (some (.Name x np)) none (b₀::suite) hpos,.ExceptHandler (some (.Name x2 np2)) none (b2::suite2) hpos2],pn:=X.pn++pins} [] σ H s1->Inv X pins σ H s1 :=
  fun σ H J=>J.un_re J.ok.hd rfl (λp z=>by simpa using z)
 cases f with
 |next=>exact Z8 (q.map back)
 |brk=>exact q.map back
 |cont=>exact q.map back
 |ret u=>exact q.map back
end
section
variable{X:Cx}{scope:Scope}{N:List Str}{sD:Shared}{H2:Hp}{ex:List Addr}{XE:Value->Shared->Prop}
end
section
variable{prog:Program}{w:World}{A:Around}{R:Result->Shared->Prop}{s:Shared}
end
section
variable{X:Cx}{tg iter elt:Expr}{ifs:List Expr}{scope:Scope}{pos:Pos}{wi:TI}{g:TG}{tc:TT}{te:TE}{N:List Str}{k:Nat}{cs:List Nat}{fin:List V->Hp->Prop}
end
section
variable{P:Program}{w:World}{K:PySem.W.Frag}{mg:Str->Option Value}{base:Heap}{N0:List Str}{qual:Str}{sc:Scope}{f:Addr}{cd:Value}{A:Around}{outer:List Env}{s:Shared}{H:Hp}{E:XK}
variable{scope:Scope}{N:List Str}{Q:Value->Shared->Prop}{acc:Value}
end
section
variable{X:Cx}{K:PySem.W.Frag}
theorem Wh:∀{x:V},GP x=true->eqV x x=true
 |.non,_=>rfl
 |.bl b,_=>by simp[eqV]
 |.int b,_=>by simp[eqV]
 |.str b,_=>by simp[eqV]
 |.byt _,h=>by cases h
 |.flt _,h=>by cases h
 |.ref _,h=>by cases h
 |.ty _,h=>by cases h
theorem MG{xs:List V}{us ws:List Value}{A:Around}{s:Shared}(r:AM xs us)(r':AM xs ws)(f:xs.all GP=true)(j:Nat)(h1:j<us.toArray.size)(h2:j<ws.toArray.size):PySem.SeqAt.EqAt A s us.toArray[j] ws.toArray[j] true:=by
 have hj:j<xs.length:=by rw[r.length];simpa using h1
 obtain⟨u,e1,q1⟩:=r.get (D1 hj);obtain⟨u',e2,q2⟩:=r'.get (D1 hj);have g1:us.toArray[j]=u:=by
  have:us[j]?=some us.toArray[j]:=by simp
  rw[e1]at this;exact(V4 this).symm
 have g2:ws.toArray[j]=u':=by
  have:ws[j]?=some ws.toArray[j]:=by simp
  rw[e2]at this;exact(V4 this).symm
 rw[g1,g2];have fx:=O9.mp f _ (S4 hj);have:=JK (A:=A) (s:=s) q2 fx (xs:=[xs[j]]) (us:=[u]) (.cons q1 .nil) (by simp[fx]) u A6;rw[RY q1 fx,Wh fx]at this;exact this
def WJ(K:PySem.W.Frag)(H:Hp)(x y:V):Prop:=∃(a b:Addr)(xs:List V),x=.ref a/\y=.ref b/\SqT K H a xs/\SqT K H b xs/\xs.all GP=true
theorem Rz(hu:X.A.units+64<cLine):OpR X (compareOp .Eq) (λx y H Q=>WJ X.K H x y/\Q (.bl true) H):=by
 intro pins s σ H x y v u Q I rx ry h;obtain⟨⟨a,b,zs,rfl,rfl,h1,h2,fl⟩,q⟩:=h;cases rx;cases ry;obtain⟨xs,r1,p1,_⟩:=I.tuple h1;obtain⟨ys,r2,p2,_⟩:=I.tuple h2;refine PySem.SeqAt.eq_tupleAt (e:=λ_=>true) p1 p2 A1 (λj k1 k2=>MG r1 r2 fl j k1 k2) ?_;rw[D0,D0,<-r1.length,<-r2.length];simp only[K1,Bool.and_true];rw[O9.mpr λ_ _=>rfl];exact⟨.bl _,H,I,rfl,q⟩
theorem DH(hu:X.A.units+64<cLine):OpR X (compareOp .NotEq) (λx y H Q=>WJ X.K H x y/\Q (.bl false) H):=by
 intro pins s σ H x y v u Q I rx ry h;obtain⟨⟨a,b,zs,rfl,rfl,h1,h2,fl⟩,q⟩:=h;cases rx;cases ry;obtain⟨xs,r1,p1,_⟩:=I.tuple h1;obtain⟨ys,r2,p2,_⟩:=I.tuple h2;refine PySem.SeqAt.RcNeAt.tuples (e:=λ_=>true) p1 p2 A1 (λj k1 k2=>MG r1 r2 fl j k1 k2) _ _ _ _ ?_;rw[D0,D0,<-r1.length,<-r2.length];simp only[K1,Bool.and_true];rw[O9.mpr λ_ _=>rfl];exact⟨.bl _,H,I,rfl,q⟩
end
end L2
namespace J
open PySem L2
def top(i:Nat):Stmt:=PySem.Challenge.pw_jumpfield_k64_steps_refused.main.body.getD i (.Pass ⟨0,0,0,0⟩)
abbrev Gc:Stmt:=top 11
abbrev RG:List Str:=["thing"]
abbrev CZ:List Str:=["thing"]
theorem LP:Au RG CZ (Ah Gc):=⟨rfl,rfl,rfl,by decide +kernel,rfl,by decide +kernel,by decide +kernel⟩
abbrev Jc:Stmt:=top 18
abbrev RH:List Str:=["thing"]
abbrev Gq:List Str:=["thing"]
theorem Qj:Au RH Gq (Ah Jc):=⟨rfl,rfl,rfl,by decide +kernel,rfl,by decide +kernel,by decide +kernel⟩
abbrev OV:Stmt:=top 19
abbrev cR:List Str:=["wanted","state"]
abbrev Ml:List Str:=["wanted","state"]
theorem Va:Au cR Ml (Ah OV):=⟨rfl,rfl,rfl,by decide +kernel,rfl,by decide +kernel,by decide +kernel⟩
abbrev DM:Stmt:=top 23
abbrev IR:List Str:=["text","words","cell","conditions"]
abbrev Fx:List Str:=["text"]
theorem Dk:Au IR Fx (Ah DM):=⟨rfl,rfl,rfl,by decide +kernel,rfl,by decide +kernel,by decide +kernel⟩
abbrev Ga:Stmt:=top 24
abbrev Ph:List Str:=["word"]
abbrev Du:List Str:=["word"]
theorem NC:Au Ph Du (Ah Ga):=⟨rfl,rfl,rfl,by decide +kernel,rfl,by decide +kernel,by decide +kernel⟩
abbrev Fn:Stmt:=top 25
abbrev NJ:List Str:=["word"]
abbrev DP:List Str:=["word"]
theorem Mw:Au NJ DP (Ah Fn):=⟨rfl,rfl,rfl,by decide +kernel,rfl,by decide +kernel,by decide +kernel⟩
abbrev Dz:Stmt:=top 26
abbrev LA:List Str:=["word"]
abbrev DD:List Str:=["word"]
theorem Ju:Au LA DD (Ah Dz):=⟨rfl,rfl,rfl,by decide +kernel,rfl,by decide +kernel,by decide +kernel⟩
abbrev Et:Stmt:=top 27
abbrev MR:List Str:=["word","parts"]
abbrev EC:List Str:=["word"]
theorem GI:Au MR EC (Ah Et):=⟨rfl,rfl,rfl,by decide +kernel,rfl,by decide +kernel,by decide +kernel⟩
abbrev Es:Stmt:=top 28
abbrev MQ:List Str:=["signs","numbers","sign"]
abbrev EB:List Str:=["signs"]
theorem DX:Au MQ EB (Ah Es):=⟨rfl,rfl,rfl,by decide +kernel,rfl,by decide +kernel,by decide +kernel⟩
abbrev DL:Stmt:=top 29
abbrev IQ:List Str:=["word"]
abbrev Fw:List Str:=["word"]
theorem Mx:Au IQ Fw (Ah DL):=⟨rfl,rfl,rfl,by decide +kernel,rfl,by decide +kernel,by decide +kernel⟩
abbrev Fl:Stmt:=top 32
abbrev NI:List Str:=["box","dx","dy"]
abbrev CN:List Str:=["box","dx","dy"]
theorem Mv:Au NI CN (Ah Fl):=⟨rfl,rfl,rfl,by decide +kernel,rfl,by decide +kernel,by decide +kernel⟩
abbrev Cv:Stmt:=top 33
abbrev DS:List Str:=["boxes","left","top","right","bottom"]
abbrev EX:List Str:=["boxes"]
theorem Dl:Au DS EX (Ah Cv):=⟨rfl,rfl,rfl,by decide +kernel,rfl,by decide +kernel,by decide +kernel⟩
abbrev Fo:Stmt:=top 38
abbrev NK:List Str:=["box","limit"]
abbrev CO:List Str:=["box","limit"]
theorem Mz:Au NK CO (Ah Fo):=⟨rfl,rfl,rfl,by decide +kernel,rfl,by decide +kernel,by decide +kernel⟩
abbrev Jb:Stmt:=top 39
abbrev RF:List Str:=["grove","field"]
abbrev DE:List Str:=["grove","field"]
theorem Qi:Au RF DE (Ah Jb):=⟨rfl,rfl,rfl,by decide +kernel,rfl,by decide +kernel,by decide +kernel⟩
abbrev Ge:Stmt:=top 40
abbrev Pk:List Str:=["grove"]
abbrev Ej:List Str:=["grove"]
theorem ND:Au Pk Ej (Ah Ge):=⟨rfl,rfl,rfl,by decide +kernel,rfl,by decide +kernel,by decide +kernel⟩
abbrev Lh:Stmt:=top 41
abbrev TQ:List Str:=["grove","square","level","parts","bare"]
abbrev IA:List Str:=["grove","square"]
theorem FV:Au TQ IA (Ah Lh):=⟨rfl,rfl,rfl,by decide +kernel,rfl,by decide +kernel,by decide +kernel⟩
abbrev Li:Stmt:=top 42
abbrev TR:List Str:=["grove","square","kept"]
abbrev FI:List Str:=["grove","square"]
theorem IZ:Au TR FI (Ah Li):=⟨rfl,rfl,rfl,by decide +kernel,rfl,by decide +kernel,by decide +kernel⟩
abbrev ET:Stmt:=top 43
abbrev LR:List Str:=["grove","square","inner"]
abbrev Ig:List Str:=["grove","square"]
theorem Jv:Au LR Ig (Ah ET):=⟨rfl,rfl,rfl,by decide +kernel,rfl,by decide +kernel,by decide +kernel⟩
abbrev DA:Stmt:=top 44
abbrev LB:List Str:=["grove","square","bare","place","quarter","part_place","part"]
abbrev DF:List Str:=["grove","square"]
theorem Bu:Au LB DF (Ah DA):=⟨rfl,rfl,rfl,by decide +kernel,rfl,by decide +kernel,by decide +kernel⟩
abbrev Er:Stmt:=top 45
abbrev MP:List Str:=["grove","field","box","wide"]
abbrev Ez:List Str:=["grove","field","box"]
theorem DW:Au MP Ez (Ah Er):=⟨rfl,rfl,rfl,by decide +kernel,rfl,by decide +kernel,by decide +kernel⟩
abbrev FY:Stmt:=top 46
abbrev Pf:List Str:=["grove","field","level","wide"]
abbrev Go:List Str:=["grove","field","level"]
theorem Fj:Au Pf Go (Ah FY):=⟨rfl,rfl,rfl,by decide +kernel,rfl,by decide +kernel,by decide +kernel⟩
abbrev Lj:Stmt:=top 47
abbrev TU:List Str:=["grove","field","x","y","state","place","wide","half"]
abbrev Lu:List Str:=["grove","field","x","y","state"]
theorem FW:Au TU Lu (Ah Lj):=⟨rfl,rfl,rfl,by decide +kernel,rfl,by decide +kernel,by decide +kernel⟩
abbrev Ja:Stmt:=top 48
abbrev RE:List Str:=["grove","square","x","y","state","level","half","parts","place"]
abbrev EA:List Str:=["grove","square","x","y","state"]
theorem De:Au RE EA (Ah Ja):=⟨rfl,rfl,rfl,by decide +kernel,rfl,by decide +kernel,by decide +kernel⟩
abbrev Je:Stmt:=top 49
abbrev RJ:List Str:=["grove","cells","field","cell"]
abbrev Jh:List Str:=["grove","cells"]
theorem ES:Au RJ Jh (Ah Je):=⟨rfl,rfl,rfl,by decide +kernel,rfl,by decide +kernel,by decide +kernel⟩
abbrev MH:Stmt:=top 51
abbrev VE:List Str:=["grove","field","box","reach"]
abbrev ML:List Str:=["grove","field"]
theorem Lf:Au VE ML (Ah MH):=⟨rfl,rfl,rfl,by decide +kernel,rfl,by decide +kernel,by decide +kernel⟩
abbrev Rw:Stmt:=top 53
abbrev cT:List Str:=["jumps","field","n","tuples"]
abbrev Ry:List Str:=["jumps","field","n"]
theorem OT:Au cT Ry (Ah Rw):=⟨rfl,rfl,rfl,by decide +kernel,rfl,by decide +kernel,by decide +kernel⟩
abbrev Rv:Stmt:=top 54
abbrev cS:List Str:=["jumps","field","n","grove","told","here","rest","e","square","result"]
abbrev Pc:List Str:=["jumps","field","n"]
theorem Bo:Au cS Pc (Ah Rv):=⟨rfl,rfl,rfl,by decide +kernel,rfl,by decide +kernel,by decide +kernel⟩
abbrev Gd:Stmt:=top 55
abbrev Pj:List Str:=["grove","field","n","box"]
abbrev Gr:List Str:=["grove","field","n"]
theorem Fk:Au Pj Gr (Ah Gd):=⟨rfl,rfl,rfl,by decide +kernel,rfl,by decide +kernel,by decide +kernel⟩
abbrev GY:Stmt:=top 56
abbrev QC:List Str:=["grove","field","e","reach","level"]
abbrev Ih:List Str:=["grove","field","e"]
theorem Ee:Au QC Ih (Ah GY):=⟨rfl,rfl,rfl,by decide +kernel,rfl,by decide +kernel,by decide +kernel⟩
abbrev Eu:Stmt:=top 60
abbrev MS:List Str:=["text"]
abbrev EE:List Str:=["text"]
theorem LU:Au MS EE (Ah Eu):=⟨rfl,rfl,rfl,by decide +kernel,rfl,by decide +kernel,by decide +kernel⟩
abbrev GX:Stmt:=top 61
abbrev QB:List Str:=["text","rule"]
abbrev Ie:List Str:=["text"]
theorem Jt:Au QB Ie (Ah GX):=⟨rfl,rfl,rfl,by decide +kernel,rfl,by decide +kernel,by decide +kernel⟩
abbrev Jf:Stmt:=top 62
abbrev RK:List Str:=["rule","cell","around","number","clause"]
abbrev Ji:List Str:=["rule","cell","around"]
theorem GW:Au RK Ji (Ah Jf):=⟨rfl,rfl,rfl,by decide +kernel,rfl,by decide +kernel,by decide +kernel⟩
abbrev Lk:Stmt:=top 63
abbrev TV:List Str:=["rule","cell","around","number"]
abbrev IB:List Str:=["rule","cell","around"]
theorem MB:Au TV IB (Ah Lk):=⟨rfl,rfl,rfl,by decide +kernel,rfl,by decide +kernel,by decide +kernel⟩
abbrev FZ:Stmt:=top 64
abbrev Pg:List Str:=["rule"]
abbrev Gp:List Str:=["rule"]
theorem NB:Au Pg Gp (Ah FZ):=⟨rfl,rfl,rfl,by decide +kernel,rfl,by decide +kernel,by decide +kernel⟩
abbrev Gb:Stmt:=top 67
abbrev Pi:List Str:=["grove","square","parts","a","b","c","d"]
abbrev Dv:List Str:=["grove","square"]
theorem Cj:Au Pi Dv (Ah Gb):=⟨rfl,rfl,rfl,by decide +kernel,rfl,by decide +kernel,by decide +kernel⟩
abbrev Jd:Stmt:=top 68
abbrev RI:List Str:=["nine"]
abbrev ED:List Str:=["nine"]
theorem Qk:Au RI ED (Ah Jd):=⟨rfl,rfl,rfl,by decide +kernel,rfl,by decide +kernel,by decide +kernel⟩
abbrev CK:Stmt:=top 69
abbrev IL:List Str:=["grove","four","parts"]
abbrev BV:List Str:=["grove","four"]
theorem DR:Au IL BV (Ah CK):=⟨rfl,rfl,rfl,by decide +kernel,rfl,by decide +kernel,by decide +kernel⟩
abbrev Ll:Stmt:=top 72
abbrev TW:List Str:=["_law_script","_law_k"]
abbrev Lw:List Str:=["_law_script","_law_k"]
theorem Ru:Au TW Lw (Ah Ll):=⟨rfl,rfl,rfl,by decide +kernel,rfl,by decide +kernel,by decide +kernel⟩
abbrev Gf:Stmt:=top 73
abbrev Pl:List Str:=["_law_side","_law_far","_law_along","_law_ends"]
abbrev Gs:List Str:=["_law_side","_law_far","_law_along"]
theorem IN:Au Pl Gs (Ah Gf):=⟨rfl,rfl,rfl,by decide +kernel,rfl,by decide +kernel,by decide +kernel⟩
abbrev GZ:Stmt:=top 74
abbrev QD:List Str:=["_law_jumps","_law_field","_law_n","_law_found","e"]
abbrev Ii:List Str:=["_law_jumps","_law_field","_law_n"]
theorem Ef:Au QD Ii (Ah GZ):=⟨rfl,rfl,rfl,by decide +kernel,rfl,by decide +kernel,by decide +kernel⟩
abbrev Ia:Stmt:=top 75
abbrev QE:List Str:=["_law_jumps","_law_field","_law_n","_law_found"]
abbrev Ij:List Str:=["_law_jumps","_law_field","_law_n"]
theorem FX:Au QE Ij (Ah Ia):=⟨rfl,rfl,rfl,by decide +kernel,rfl,by decide +kernel,by decide +kernel⟩
abbrev Ib:Stmt:=top 76
abbrev QF:List Str:=["_law_n","_law_many"]
abbrev Ik:List Str:=["_law_n"]
theorem Eg:Au QF Ik (Ah Ib):=⟨rfl,rfl,rfl,by decide +kernel,rfl,by decide +kernel,by decide +kernel⟩
abbrev Vb:Stmt:=top 77
abbrev n_law:List Str:=["_law_script","_law_n","_law_along","_law_place_here","_law_cells","_law_grove","_law_field","_law_none","_law_jumps","_law_due","_law_odd","_law_many","_law_huge"]
abbrev p_law:List Str:=["_law_script"]
theorem Dm:Au n_law p_law (Ah Vb):=⟨rfl,rfl,rfl,by decide +kernel,rfl,by decide +kernel,by decide +kernel⟩
abbrev Ew:Stmt:=AU (top 20) 0
abbrev MU:List Str:=["self","state","numbers"]
abbrev EH:List Str:=["self","state","numbers"]
theorem LW:Au MU EH (Ah Ew):=⟨rfl,rfl,rfl,by decide +kernel,rfl,by decide +kernel,by decide +kernel⟩
abbrev DY:Stmt:=AU (top 20) 1
abbrev LX:List Str:=["self","around"]
abbrev Ea:List Str:=["self","around"]
theorem Lg:Au LX Ea (Ah DY):=⟨rfl,rfl,rfl,by decide +kernel,rfl,by decide +kernel,by decide +kernel⟩
abbrev Fp:Stmt:=AU (top 21) 0
abbrev NL:List Str:=["self","wanted"]
abbrev Fy:List Str:=["self","wanted"]
theorem MC:Au NL Fy (Ah Fp):=⟨rfl,rfl,rfl,by decide +kernel,rfl,by decide +kernel,by decide +kernel⟩
abbrev Dq:Stmt:=AU (top 21) 1
abbrev Im:List Str:=["self","around"]
abbrev EF:List Str:=["self","around"]
theorem LV:Au Im EF (Ah Dq):=⟨rfl,rfl,rfl,by decide +kernel,rfl,by decide +kernel,by decide +kernel⟩
abbrev Fs:Stmt:=AU (top 22) 0
abbrev NO:List Str:=["self","cell","conditions","makes"]
abbrev FA:List Str:=["self","cell","conditions","makes"]
theorem ME:Au NO FA (Ah Fs):=⟨rfl,rfl,rfl,by decide +kernel,rfl,by decide +kernel,by decide +kernel⟩
abbrev DO:Stmt:=AU (top 22) 1
abbrev IS:List Str:=["self","cell","around"]
abbrev FB:List Str:=["self","cell","around"]
theorem MF:Au IS FB (Ah DO):=⟨rfl,rfl,rfl,by decide +kernel,rfl,by decide +kernel,by decide +kernel⟩
abbrev Gk:Stmt:=AU (top 34) 0
abbrev Pq:List Str:=["self","state","level","bare"]
abbrev Gx:List Str:=["self"]
theorem DK:Au Pq Gx (Ah Gk):=⟨rfl,rfl,rfl,by decide +kernel,rfl,by decide +kernel,by decide +kernel⟩
abbrev Gj:Stmt:=AU (top 34) 1
abbrev Pp:List Str:=["self","parts","level","number"]
abbrev El:List Str:=["self","parts","level"]
theorem IO:Au Pp El (Ah Gj):=⟨rfl,rfl,rfl,by decide +kernel,rfl,by decide +kernel,by decide +kernel⟩
abbrev Ev:Stmt:=AU (top 34) 2
abbrev MT:List Str:=["self","parts","number"]
abbrev AQ:List Str:=["self","parts"]
theorem GK:Au MT AQ (Ah Ev):=⟨rfl,rfl,rfl,by decide +kernel,rfl,by decide +kernel,by decide +kernel⟩
abbrev Cy:Stmt:=AU (top 34) 3
abbrev Iq:List Str:=["self","square"]
abbrev BN:List Str:=["self","square"]
theorem GQ:Au Iq BN (Ah Cy):=⟨rfl,rfl,rfl,by decide +kernel,rfl,by decide +kernel,by decide +kernel⟩
abbrev Gi:Stmt:=AU (top 34) 4
abbrev Po:List Str:=["self","state"]
abbrev Ek:List Str:=["self","state"]
theorem NG:Au Po Ek (Ah Gi):=⟨rfl,rfl,rfl,by decide +kernel,rfl,by decide +kernel,by decide +kernel⟩
abbrev DC:Stmt:=AU (top 34) 7
abbrev LF:List Str:=["self","square"]
abbrev Ba:List Str:=["self","square"]
theorem Jx:Au LF Ba (Ah DC):=⟨rfl,rfl,rfl,by decide +kernel,rfl,by decide +kernel,by decide +kernel⟩
abbrev DB:Stmt:=AU (top 34) 9
abbrev LD:List Str:=["self","square"]
abbrev DG:List Str:=["self","square"]
theorem Jw:Au LD DG (Ah DB):=⟨rfl,rfl,rfl,by decide +kernel,rfl,by decide +kernel,by decide +kernel⟩
abbrev Gh:Stmt:=AU (top 34) 12
abbrev Pn:List Str:=["self","square"]
abbrev Gw:List Str:=["self","square"]
theorem NF:Au Pn Gw (Ah Gh):=⟨rfl,rfl,rfl,by decide +kernel,rfl,by decide +kernel,by decide +kernel⟩
abbrev DN:Stmt:=AU (top 34) 13
abbrev NN:List Str:=["self","square","box"]
abbrev Cm:List Str:=["self","square"]
theorem Dp:Au NN Cm (Ah DN):=⟨rfl,rfl,rfl,by decide +kernel,rfl,by decide +kernel,by decide +kernel⟩
abbrev CG:Stmt:=AU (top 34) 14
abbrev LE:List Str:=["self","square","level","half","boxes","place","quarter","box"]
abbrev CI:List Str:=["self","square"]
theorem Bd:Au LE CI (Ah CG):=⟨rfl,rfl,rfl,by decide +kernel,rfl,by decide +kernel,by decide +kernel⟩
abbrev EU:Stmt:=AU (top 59) 0
abbrev LS:List Str:=["self","text"]
abbrev Il:List Str:=["self","text"]
theorem OU:Au LS Il (Ah EU):=⟨rfl,rfl,rfl,by decide +kernel,rfl,by decide +kernel,by decide +kernel⟩
abbrev Gg:Stmt:=AU (top 70) 0
abbrev Pm:List Str:=["self","grove","rule"]
abbrev Gu:List Str:=["self","grove","rule"]
theorem NE:Au Pm Gu (Ah Gg):=⟨rfl,rfl,rfl,by decide +kernel,rfl,by decide +kernel,by decide +kernel⟩
abbrev Dr:Stmt:=AU (top 70) 1
abbrev Ip:List Str:=["self","rule","text"]
abbrev EG:List Str:=["self","rule"]
theorem GJ:Au Ip EG (Ah Dr):=⟨rfl,rfl,rfl,by decide +kernel,rfl,by decide +kernel,by decide +kernel⟩
abbrev Fq:Stmt:=AU (top 70) 2
abbrev NM:List Str:=["self","square","e"]
abbrev Fz:List Str:=["self","square","e"]
theorem MD:Au NM Fz (Ah Fq):=⟨rfl,rfl,rfl,by decide +kernel,rfl,by decide +kernel,by decide +kernel⟩
abbrev CW:Stmt:=AU (top 70) 3
abbrev Jl:List Str:=["self","square","e","level"]
abbrev Da:List Str:=["self","square","e"]
theorem Ec:Au Jl Da (Ah CW):=⟨rfl,rfl,rfl,by decide +kernel,rfl,by decide +kernel,by decide +kernel⟩
abbrev CF:Stmt:=AU (top 70) 4
abbrev LC:List Str:=["self","square","e","result"]
abbrev AZ:List Str:=["self","square","e"]
theorem Dn:Au LC AZ (Ah CF):=⟨rfl,rfl,rfl,by decide +kernel,rfl,by decide +kernel,by decide +kernel⟩
abbrev BR:Stmt:=AU (top 70) 5
abbrev DQ:List Str:=["self","square","e","grove","level","nine"]
abbrev CP:List Str:=["self","square","e"]
theorem Do:Au DQ CP (Ah BR):=⟨rfl,rfl,rfl,by decide +kernel,rfl,by decide +kernel,by decide +kernel⟩
abbrev AY:Stmt:=AU (top 70) 6
abbrev CB:List Str:=["self","square","e","nine"]
abbrev Br:List Str:=["self","square","e"]
theorem Dw:Au CB Br (Ah AY):=⟨rfl,rfl,rfl,by decide +kernel,rfl,by decide +kernel,by decide +kernel⟩
abbrev Cw:Stmt:=AU (top 70) 7
abbrev Io:List Str:=["self","square","parts","a","b","c","d"]
abbrev BM:List Str:=["self","square"]
theorem AV:Au Io BM (Ah Cw):=⟨rfl,rfl,rfl,by decide +kernel,rfl,by decide +kernel,by decide +kernel⟩
abbrev Cb:Stmt:=AU (top 70) 8
abbrev EJ:List Str:=["self","leaves","leaf","states"]
abbrev Db:List Str:=["self","leaves"]
theorem BU:Au EJ Db (Ah Cb):=⟨rfl,rfl,rfl,by decide +kernel,rfl,by decide +kernel,by decide +kernel⟩
structure Ad where
 c_Amounts:Addr
 c_Places:Addr
 c_Clause:Addr
 c_Grove:Addr
 c_Rule:Addr
 c_Jumps:Addr
 x_FieldError:Addr
 x_NoRule:Addr
 x_Restless:Addr
 x_NoSquare:Addr
 x_NoLevel:Addr
 x_NoState:Addr
 x_TooFar:Addr
 x_NoSteps:Addr
structure Top(K:PySem.W.Frag)(mg:Str->Option Value)(a:Ad):Prop where
 b_all:mg "all" = none
 b_bool:mg "bool" = none
 b_enumerate:mg "enumerate" = none
 b_int:mg "int" = none
 b_isinstance:mg "isinstance" = none
 b_len:mg "len" = none
 b_list:mg "list" = none
 b_max:mg "max" = none
 b_min:mg "min" = none
 b_range:mg "range" = none
 b_str:mg "str" = none
 b_tuple:mg "tuple" = none
 b_zip:mg "zip" = none
 k_STATES:∃t,mg "STATES" = some (.int 8 t)
 k_NEIGHBOURS:∃t,mg "NEIGHBOURS" = some (.int 8 t)
 k_STATE_FIGURES:∃t,mg "STATE_FIGURES" = some (.str (Str.ofString "01234567") t)
 k_AMOUNT_FIGURES:∃t,mg "AMOUNT_FIGURES" = some (.str (Str.ofString "012345678") t)
 k_ANY_SIGN:∃t,mg "ANY_SIGN" = some (.str (Str.ofString "*") t)
 k_TOP_LEVEL:∃t,mg "TOP_LEVEL" = some (.int 48 t)
 k_LIMIT:∃t,mg "LIMIT" = some (.int 1099511627776 t)
 k_LEAST_LEVEL:∃t,mg "LEAST_LEVEL" = some (.int 1 t)
 k_CLAUSE_MARK:∃t,mg "CLAUSE_MARK" = some (.str (Str.ofString "; ") t)
 k_LEAST_JUMPED:∃t,mg "LEAST_JUMPED" = some (.int 2 t)
 m_Amounts:mg "Amounts" = some (.ref a.c_Amounts)
 cl_Amounts:Cls K a.c_Amounts
 na_Amounts_state:Bm K a.c_Amounts "state"
 na_Amounts_numbers:Bm K a.c_Amounts "numbers"
 m_Places:mg "Places" = some (.ref a.c_Places)
 cl_Places:Cls K a.c_Places
 na_Places_wanted:Bm K a.c_Places "wanted"
 m_Clause:mg "Clause" = some (.ref a.c_Clause)
 cl_Clause:Cls K a.c_Clause
 na_Clause_cell:Bm K a.c_Clause "cell"
 na_Clause_conditions:Bm K a.c_Clause "conditions"
 na_Clause_makes:Bm K a.c_Clause "makes"
 m_Grove:mg "Grove" = some (.ref a.c_Grove)
 cl_Grove:Cls K a.c_Grove
 na_Grove_levels:Bm K a.c_Grove "levels"
 na_Grove_parts:Bm K a.c_Grove "parts"
 na_Grove_numbers:Bm K a.c_Grove "numbers"
 na_Grove_bares:Bm K a.c_Grove "bares"
 na_Grove_amounts:Bm K a.c_Grove "amounts"
 na_Grove_boxes:Bm K a.c_Grove "boxes"
 m_Rule:mg "Rule" = some (.ref a.c_Rule)
 cl_Rule:Cls K a.c_Rule
 na_Rule_text:Bm K a.c_Rule "text"
 na_Rule_clauses:Bm K a.c_Rule "clauses"
 m_Jumps:mg "Jumps" = some (.ref a.c_Jumps)
 cl_Jumps:Cls K a.c_Jumps
 na_Jumps_grove:Bm K a.c_Jumps "grove"
 na_Jumps_memories:Bm K a.c_Jumps "memories"
 na_Jumps_rule:Bm K a.c_Jumps "rule"
 na_Jumps_known_squares:Bm K a.c_Jumps "known_squares"
 na_Jumps_known_cells:Bm K a.c_Jumps "known_cells"
 b_ValueError:mg "ValueError" = none
 mx_FieldError:mg "FieldError" = some (.ref a.x_FieldError)
 mx_NoRule:mg "NoRule" = some (.ref a.x_NoRule)
 mx_Restless:mg "Restless" = some (.ref a.x_Restless)
 mx_NoSquare:mg "NoSquare" = some (.ref a.x_NoSquare)
 mx_NoLevel:mg "NoLevel" = some (.ref a.x_NoLevel)
 mx_NoState:mg "NoState" = some (.ref a.x_NoState)
 mx_TooFar:mg "TooFar" = some (.ref a.x_TooFar)
 mx_NoSteps:mg "NoSteps" = some (.ref a.x_NoSteps)
 ec_TooFar:FR K a.x_TooFar
 ec_NoSteps:FR K a.x_NoSteps
 ec_FieldError:FR K a.x_FieldError
 ef_TooFar:Sh K a.x_TooFar
 mr_TooFar:mroIn K a.x_TooFar (.ref a.x_FieldError)=some true
 kv_TooFar:kitOne K (.ref a.x_TooFar) (.type "ValueError")=some true
 ki_TooFar_NoRule:kitOne K (.ref a.x_TooFar) (.ref a.x_NoRule)=some false
 ki_TooFar_Restless:kitOne K (.ref a.x_TooFar) (.ref a.x_Restless)=some false
 ki_TooFar_NoSquare:kitOne K (.ref a.x_TooFar) (.ref a.x_NoSquare)=some false
 ki_TooFar_NoLevel:kitOne K (.ref a.x_TooFar) (.ref a.x_NoLevel)=some false
 ki_TooFar_NoState:kitOne K (.ref a.x_TooFar) (.ref a.x_NoState)=some false
 ki_TooFar_TooFar:kitOne K (.ref a.x_TooFar) (.ref a.x_TooFar)=some true
 ki_TooFar_NoSteps:kitOne K (.ref a.x_TooFar) (.ref a.x_NoSteps)=some false
 kf_TooFar:kitOne K (.ref a.x_TooFar) (.ref a.x_FieldError)=some true
 ef_NoSteps:Sh K a.x_NoSteps
 mr_NoSteps:mroIn K a.x_NoSteps (.ref a.x_FieldError)=some true
 kv_NoSteps:kitOne K (.ref a.x_NoSteps) (.type "ValueError")=some true
 ki_NoSteps_NoRule:kitOne K (.ref a.x_NoSteps) (.ref a.x_NoRule)=some false
 ki_NoSteps_Restless:kitOne K (.ref a.x_NoSteps) (.ref a.x_Restless)=some false
 ki_NoSteps_NoSquare:kitOne K (.ref a.x_NoSteps) (.ref a.x_NoSquare)=some false
 ki_NoSteps_NoLevel:kitOne K (.ref a.x_NoSteps) (.ref a.x_NoLevel)=some false
 ki_NoSteps_NoState:kitOne K (.ref a.x_NoSteps) (.ref a.x_NoState)=some false
 ki_NoSteps_TooFar:kitOne K (.ref a.x_NoSteps) (.ref a.x_TooFar)=some false
 ki_NoSteps_NoSteps:kitOne K (.ref a.x_NoSteps) (.ref a.x_NoSteps)=some true
 kf_NoSteps:kitOne K (.ref a.x_NoSteps) (.ref a.x_FieldError)=some true
 mm_TooFar_TooFar:mroIn K a.x_TooFar (.ref a.x_TooFar)=some true
 mm_NoSteps_TooFar:mroIn K a.x_NoSteps (.ref a.x_TooFar)=some false
 mm_NoSteps_NoSteps:mroIn K a.x_NoSteps (.ref a.x_NoSteps)=some true
seal L2.PA L2.PE L2.PS L2.PSs L2.PT L2.PW
inductive BQ where
 |am (s:Int) (ns:List Int)
 |pl (ws:List (Option Int))
structure Bp where
 cell:Option Int
 conds:List BQ
 makes:Int
abbrev AH:=List Bp
def FC:Option Int->V
 |none=>.non
 |some i=>.int i
def Fa(w:Option Int)(s:Int):Bool:=match w with
 |none=>true
 |some i=>decide (i=s)
def BQ.holds(ar:List Int):BQ->Bool
 |.am s ns=>ns.any λn=>decide (n=((ar.countP (· == s):Nat):Int))
 |.pl ws=>(ws.zip ar).all λp=>Fa p.1 p.2
def Bp.fits(cell:Int)(ar:List Int)(c:Bp):Bool:=Fa c.cell cell && c.conds.all (BQ.holds ar)
def Nh(r:AH)(cell:Int)(ar:List Int):Option Nat:=r.findIdx? (Bp.fits cell ar)
def GF(r:AH)(cell:Int)(ar:List Int):Int:=match r.find? (Bp.fits cell ar)with
 |none=>cell
 |some c=>c.makes
def fl1(f:Str)(a:V):List (Str×V):=AO f a []
def fl2(f g:Str)(a b:V):List (Str×V):=AO g b (AO f a [])
def fl3(f g h:Str)(a b c:V):List (Str×V):=AO h c (AO g b (AO f a []))
theorem fl1_1{f:Str}{a:V}:(fl1 f a).lookup f=some a:=by unfold fl1;rw[Ai,V2 rfl]
theorem PB{f m:Str}{a:V}(h:¬m=f):(fl1 f a).lookup m=none:=by unfold fl1;rw[Ai,V0 h];rfl
theorem Wf{f g:Str}{a b:V}(h:¬f=g):(fl2 f g a b).lookup f=some a:=by unfold fl2;rw[Ai,V0 h,Ai,V2 rfl]
theorem We{f g:Str}{a b:V}:(fl2 f g a b).lookup g=some b:=by unfold fl2;rw[Ai,V2 rfl]
theorem fl2_no{f g m:Str}{a b:V}(h1:¬m=f)(h2:¬m=g):(fl2 f g a b).lookup m=none:=by unfold fl2;rw[Ai,V0 h2,Ai,V0 h1];rfl
theorem fl3_1{f g h:Str}{a b c:V}(h1:¬f=g)(h2:¬f=h):(fl3 f g h a b c).lookup f=some a:=by unfold fl3;rw[Ai,V0 h2,Ai,V0 h1,Ai,V2 rfl]
theorem fl3_2{f g h:Str}{a b c:V}(h1:¬g=h):(fl3 f g h a b c).lookup g=some b:=by unfold fl3;rw[Ai,V0 h1,Ai,V2 rfl]
theorem fl3_3{f g h:Str}{a b c:V}:(fl3 f g h a b c).lookup h=some c:=by unfold fl3;rw[Ai,V2 rfl]
theorem fl3_no{f g h m:Str}{a b c:V}(h1:¬m=f)(h2:¬m=g)(h3:¬m=h):(fl3 f g h a b c).lookup m=none:=by unfold fl3;rw[Ai,V0 h3,Ai,V0 h2,Ai,V0 h1];rfl
theorem Qp(f:Str)(v:V):∀l:List (Str×V),(AO f v l).length<=l.length+1
 |[]=>C0 _
 | (g,w)::r=>by
  unfold AO;split
  ·exact T8 _
  ·rw[F0,F0];exact P5 (Qp f v r)
theorem AE{H:Hp}{p:Addr}{o:HO}(h:H p=none):AA H (upd H p o):=λb u e=>by
 rw[Ar (Av e h)];exact e
theorem alc{H H':Hp}{p:Addr}{o:HO}(h:H p=none)(e:upd H p o=H'):AA H H'/\H' p=some o:=e▸⟨AE h,Af⟩
inductive CL(a:Ad)(H:Hp):Addr->BQ->Prop where
 |am {p t dx:Addr} {s:Int} {ns:List Int} (h:H p=some (.ins a.c_Amounts dx (fl2 "state" "numbers" (.int s) (.ref t)))) (ht:H t=some (.tup (ns.map V.int))):CL a H p (.am s ns)
 |pl {p t dx:Addr} {ws:List (Option Int)} (h:H p=some (.ins a.c_Places dx (fl1 "wanted" (.ref t)))) (ht:H t=some (.tup (ws.map FC))):CL a H p (.pl ws)
structure BH(a:Ad)(H:Hp)(p:Addr)(c:Bp):Prop where
 ex:∃(dx t:Addr)(cs:List Addr),H p=some (.ins a.c_Clause dx (fl3 "cell" "conditions" "makes" (FC c.cell) (.ref t) (.int c.makes)))/\H t=some (.tup (cs.map V.ref))/\Paired (CL a H) cs c.conds
structure Cp(a:Ad)(H:Hp)(p:Addr)(x:Str)(r:AH):Prop where
 ex:∃(dx t:Addr)(cs:List Addr),H p=some (.ins a.c_Rule dx (fl2 "text" "clauses" (.str x) (.ref t)))/\H t=some (.tup (cs.map V.ref))/\Paired (BH a H) cs r
theorem Paired.imp{α β:Type}{F G:α->β->Prop}(h:∀x y,F x y->G x y):∀{l:List α}{m:List β},Paired F l m->Paired G l m
 |_,_,.nil=>.nil
 |_,_,.cons r t=>.cons (h _ _ r) (Paired.imp h t)
theorem Paired.get{α β:Type}{F:α->β->Prop}:∀{l:List α}{m:List β}{i:Nat}{x:α},Paired F l m->l[i]?=some x->∃y,m[i]?=some y/\F x y
 |_,_,_,_,.nil,e=>by simp at e
 |_,_,0,_,.cons r _,e=>by simp at e;subst e;exact⟨_,rfl,r⟩
 |_,_,i+1,x,.cons _ t,e=>by
  obtain⟨y,h1,h2⟩:=Paired.get (i:=i) (x:=x) t (by simpa using e);exact⟨y,by simpa using h1,h2⟩
theorem CL.same{a:Ad}{H H':Hp}{p:Addr}{c:BQ}(s:AA H H')(h:CL a H p c):CL a H' p c:=by
 cases h with
 |am h ht=>exact .am (s _ _ h) (s _ _ ht)
 |pl h ht=>exact .pl (s _ _ h) (s _ _ ht)
theorem BH.same{a:Ad}{H H':Hp}{p:Addr}{c:Bp}(s:AA H H')(h:BH a H p c):BH a H' p c:=by
 obtain⟨dx,t,cs,h1,h2,h3⟩:=h.ex;exact⟨dx,t,cs,s _ _ h1,s _ _ h2,Paired.imp (λ_ _ z=>z.same s) h3⟩
theorem Cp.same{a:Ad}{H H':Hp}{p:Addr}{x:Str}{r:AH}(s:AA H H')(h:Cp a H p x r):Cp a H' p x r:=by
 obtain⟨dx,t,cs,h1,h2,h3⟩:=h.ex;exact⟨dx,t,cs,s _ _ h1,s _ _ h2,Paired.imp (λ_ _ z=>z.same s) h3⟩
theorem in_ints(n:Int)(ns:List Int):inV (.int n) (ns.map V.int)=ns.any λm=>decide (m=n):=by
 unfold inV;rw[List.any_map];congr 1
theorem Uk(ns:List Int):(ns.map V.int).all GP=true:=by
 rw[List.all_map];exact O9.mpr λ_ _=>rfl
theorem Mo(i j:Int):decide (V.int i=V.int j)=decide (i=j):=by
 by_cases h:i=j
 ·rw[V1 h,V1 (by rw[h])]
 ·rw[V3 h,V3 λz=>h (by injection z)]
section
variable{P:Program}{w:World}{K:PySem.W.Frag}{mg:Str->Option Value}{base:Heap}{a:Ad}
inductive Td(vs:List V)(H:Hp)(Q:VK):Prop
 |mk (x:Option Int) (s:Int) (_:vs=[FC x,.int s]) (_:Q (.bl (Fa x s)) H):Td vs H Q
def Mc:Sp:=λvs H Q _=>Td vs H Q
theorem Vl{f:Addr}{fd:FuncData}(F:Fun K "takes" "takes" OV f fd):AJ P w K mg base CX0 1 f fd Ml Mc:=by
 refine F.ok Va (λvs H Q E h=>?_) (λcdv A outer s H vs Q E hr h=>?_)
 ·obtain⟨x,s,rfl,_⟩:=h;rfl
 ·obtain⟨x,s,rfl,k⟩:=h;refine⟨_,(Ag (As (pe_or (Ei Jk (pv 0) Cz (AC _)) (Fv (Ei CQ (pv 0) (pv 1) (AC _)))))),?_⟩
  try dsimp only[cxK]
  refine xq1 rfl ⟨rfl,(xq1 rfl ?_)⟩;cases x with
  |none=>exact BT k
  |some i =>
   have e:decide (FC (some i)=V.int s)=Fa (some i) s:=Mo i s;rw[<-e]at k;exact Bb (xw2 rfl rfl ⟨rfl,k⟩)
inductive Rk(a:Ad)(vs:List V)(H:Hp)(Q:VK):Prop
 |mk (p t dx:Addr) (s:Int) (_:vs=[.ref p,.int s,.ref t]) (_:H p=some (.ins a.c_Amounts dx [])) (_:Q .non (upd H p (.ins a.c_Amounts dx (fl2 "state" "numbers" (.int s) (.ref t))))):Rk a vs H Q
def Mu(a:Ad):Sp:=λvs H Q _=>Rk a vs H Q
theorem TK{f:Addr}{fd:FuncData}(F:Fun K "__init__" "Amounts.__init__" Ew f fd)(T:Top K mg a):AJ P w K mg base CX0 1 f fd EH (Mu a):=by
 refine F.ok LW (λvs H Q E h=>?_) (λcdv A outer s H vs Q E hr h=>?_)
 ·obtain⟨p,t,dx,s,rfl,_⟩:=h;rfl
 ·obtain⟨p,t,dx,s,rfl,hp,k⟩:=h;refine⟨_,(Ac (Cc (pv 0) (pv 1) rfl) (Ag (Cc (pv 0) (pv 2) rfl))),?_⟩
  try dsimp only[cxK]
  refine xw2 rfl rfl ⟨p,_,dx,[],rfl,hp,T.cl_Amounts,T.na_Amounts_state,B2,(xw2 rfl rfl ⟨p,_,dx,(xq1 rfl ⟨Af,T.cl_Amounts,T.na_Amounts_numbers,B3,?_⟩)⟩)⟩;rw[FT];exact k
inductive Ri(a:Ad)(vs:List V)(H:Hp)(Q:VK):Prop
 |mk (p t dx:Addr) (_:vs=[.ref p,.ref t]) (_:H p=some (.ins a.c_Places dx [])) (_:Q .non (upd H p (.ins a.c_Places dx (fl1 "wanted" (.ref t))))):Ri a vs H Q
def Mr(a:Ad):Sp:=λvs H Q _=>Ri a vs H Q
theorem TH{f:Addr}{fd:FuncData}(F:Fun K "__init__" "Places.__init__" Fp f fd)(T:Top K mg a):AJ P w K mg base CX0 1 f fd Fy (Mr a):=by
 refine F.ok MC (λvs H Q E h=>?_) (λcdv A outer s H vs Q E hr h=>?_)
 ·obtain⟨p,t,dx,rfl,_⟩:=h;rfl
 ·obtain⟨p,t,dx,rfl,hp,k⟩:=h;refine⟨_,(Ag (Cc (pv 0) (pv 1) rfl)),?_⟩
  try dsimp only[cxK]
  exact xw2 rfl rfl ⟨p,_,dx,[],rfl,hp,T.cl_Places,T.na_Places_wanted,B2,k⟩
inductive Rj(a:Ad)(vs:List V)(H:Hp)(Q:VK):Prop
 |mk (p t dx:Addr) (c:Option Int) (m:Int) (_:vs=[.ref p,FC c,.ref t,.int m]) (_:H p=some (.ins a.c_Clause dx [])) (_:Q .non (upd H p (.ins a.c_Clause dx (fl3 "cell" "conditions" "makes" (FC c) (.ref t) (.int m))))):Rj a vs H Q
def Mt(a:Ad):Sp:=λvs H Q _=>Rj a vs H Q
theorem TJ{f:Addr}{fd:FuncData}(F:Fun K "__init__" "Clause.__init__" Fs f fd)(T:Top K mg a):AJ P w K mg base CX0 1 f fd FA (Mt a):=by
 refine F.ok ME (λvs H Q E h=>?_) (λcdv A outer s H vs Q E hr h=>?_)
 ·obtain⟨p,t,dx,c,m,rfl,_⟩:=h;rfl
 ·obtain⟨p,t,dx,c,m,rfl,hp,k⟩:=h;refine⟨_,(Ac (Cc (pv 0) (pv 1) rfl) (Ac (Cc (pv 0) (pv 2) rfl) (Ag (Cc (pv 0) (pv 3) rfl)))),?_⟩
  try dsimp only[cxK]
  refine⟨_,rfl,_,rfl,p,_,dx,[],rfl,hp,T.cl_Clause,T.na_Clause_cell,B2,_,rfl,_,rfl,p,_,dx,_,rfl,Af,T.cl_Clause,T.na_Clause_conditions,B3,_,rfl,_,rfl,p,_,dx,_,rfl,Af,T.cl_Clause,T.na_Clause_makes,
   F6 (Qp _ _ _) (by show 2<1000;decide),?_⟩
  rw[FT,FT];exact k
def Lb(a:Ad):Sp:=λvs H Q E=>(∃(p l t dx:Addr)(s:Int)(ns ar:List Int),vs=[.ref p,.ref l]/\H p=some (.ins a.c_Amounts dx (fl2 "state" "numbers" (.int s) (.ref t)))/\H t=some (.tup (ns.map V.int))/\H l=some (.lst (ar.map V.int))/\Q (.bl (BQ.holds ar (.am s ns))) H)
theorem RB{f:Addr}{fd:FuncData}(F:Fun K "holds" "Amounts.holds" DY f fd)(T:Top K mg a):AJ P w K mg base CX0 1 f fd Ea (Lb a):=by
 refine F.ok Lg (λvs H Q E h=>?_) (λcdv A outer s H vs Q E hr h=>?_)
 ·obtain⟨p,l,t,dx,s,ns,ar,rfl,_⟩:=h;rfl
 ·obtain⟨p,l,t,dx,s,ns,ar,rfl,hp,ht,hl,k⟩:=h;refine⟨_,(Ag (As (Ei TD (GM W3 PySem.F.slot_list_count PySem.F.type_list_count VG (pv 1) (Aa (Az (pv 0) rfl) Ab)) (Az (pv 0) rfl) rfl))),?_⟩
  try dsimp only[cxK]
  refine xq1 rfl ⟨.inl ⟨rfl,_,SqL.of hl⟩,(xwf rfl rfl hp T.cl_Amounts T.na_Amounts_state (Wf A0) ⟨l,ar,s,rfl,rfl,hl,(xwf rfl rfl hp T.cl_Amounts T.na_Amounts_numbers We ⟨t,(xq1 rfl ⟨.inr (SqT.of ht),rfl,Uk ns,?_⟩)⟩)⟩)⟩;show Q (.bl (inV _ _)) H;rw[in_ints];exact k
inductive OC(a:Ad)(vs:List V)(H:Hp)(Q:VK):Prop
 |mk (p l t dx:Addr) (ws:List (Option Int)) (ar:List Int) (_:vs=[.ref p,.ref l]) (_:H p=some (.ins a.c_Places dx (fl1 "wanted" (.ref t)))) (_:H t=some (.tup (ws.map FC))) (_:H l=some (.lst (ar.map V.int))) (_:ws.length<=100) (_:∀H',AA H H'->Q (.bl (BQ.holds ar (.pl ws))) H'):OC a vs H Q
def La(a:Ad):Sp:=λvs H Q _=>OC a vs H Q
theorem RA{f:Addr}{fd:FuncData}(F:Fun K "holds" "Places.holds" Dq f fd)(T:Top K mg a)(bT:Cal P w K mg base CX0 1 "takes" Ml Mc):AJ P w K mg base CX0 2 f fd EF (La a):=by
 refine F.ok LV (λvs H Q E h=>?_) (λcdv A outer s H vs Q E hr h=>?_)
 ·obtain⟨p,l,t,dx,ws,ar,rfl,_⟩:=h;rfl
 ·obtain⟨p,l,t,dx,ws,ar,rfl,hp,ht,hl,hw,k⟩:=h;refine⟨_,(Ag (As (AL (Ra rfl) rfl T.b_all PyProof.Rows.boot_all (Aa (CH rfl (BD.of (So:=Ah Dq) (No:=Im) (N:=["one","state"]) (k:=2) (cs:=[]) rfl rfl A0) (pi_zip true false rfl T.b_zip (Aa (Az (pv 0) rfl) (Aa (pv 1) Ab))) (λ_ _ _=>(Vf (i:=0) (j:=1) rfl A0 rfl rfl rfl rfl)) (λ_ _ _=>BL) (λ_ _ _=>(Aq bT (rm hr) rfl An (Aa (pv 0) (Aa (pv 1) Ab))))) Ab)))),?_⟩
  try dsimp only[cxK]
  refine xwf rfl rfl hp T.cl_Places T.na_Places_wanted fl1_1 (xq1 rfl ⟨t,l,rfl,⟨_,SqT.of ht⟩,⟨_,SqL.of hl⟩,?_⟩);refine blk_zip (xs:=ws.map FC) (ys:=ar.map V.int) (λi acc H2=>AA H H2/\acc=(((ws.zip ar).take i).map λp=>V.bl (Fa p.1 p.2))) ⟨AA.refl H,rfl⟩ (λi acc H2 z=>⟨SqT.of (z.1 _ _ ht),SqL.of (z.1 _ _ hl)⟩) ?_ ?_
  ·rintro i x y acc H2 T' hx hy ⟨sm,rfl⟩ nT;rw[B9]at hx hy;obtain⟨o,eo,rfl⟩:=D5.mp hx;obtain⟨m,em,rfl⟩:=D5.mp hy;have ez:(ws.zip ar)[i]?=some (o,m):=by rw[List.getElem?_zip_eq_some];exact⟨eo,em⟩
   refine QP Af ⟨⟨[some (FC o),some (.int m)],rfl,rfl⟩,?_,?_⟩
   ·have:((((ws.zip ar).take i).map λp=>V.bl (Fa p.1 p.2))).length<=ws.length:=by
     rw[B5,J9,List.length_zip];omega
    exact F6 (C8 this hw) A3
   ·refine GV ?_;refine xw2 rfl rfl ⟨o,m,rfl,sm.trans (AE nT),?_⟩;rw[F8,ez,C9];rfl
  ·rintro acc H2 ⟨sm,rfl⟩ q nq;have len:min (ws.map FC).length (ar.map V.int).length=(ws.zip ar).length:=by rw[B5,B5,List.length_zip]
   rw[len,L6];refine⟨q,(ws.zip ar).map (λp=>Fa p.1 p.2),rfl,SqL.of (by rw[Af,R6];rfl),?_⟩;have e:((ws.zip ar).map (λp=>Fa p.1 p.2)).all id=BQ.holds ar (.pl ws):=by rw[List.all_map];rfl
   rw[e];exact k _ (sm.trans (AE nq))
inductive WC(a:Ad)(vs:List V)(H:Hp)(Q:VK):Prop
 |mk (p l:Addr) (c:Bp) (cell:Int) (ar:List Int) (_:vs=[.ref p,.int cell,.ref l]) (_:BH a H p c) (_:c.conds.length<=100) (_:(∀d∈c.conds,∀ws,d=BQ.pl ws->ws.length<=100)) (_:H l=some (.lst (ar.map V.int))) (_:∀H',AA H H'->Q (.bl (c.fits cell ar)) H'):WC a vs H Q
def Rs(a:Ad):Sp:=λvs H Q _=>WC a vs H Q
theorem ok_Fits{f:Addr}{fd:FuncData}(F:Fun K "fits" "Clause.fits" DO f fd)(T:Top K mg a)(bT:Cal P w K mg base CX0 1 "takes" Ml Mc)(M_Am:BK P w K mg base CX0 1 a.c_Amounts "holds" Ea (Lb a))(M_Pl:BK P w K mg base CX0 2 a.c_Places "holds" EF (La a)) :
  AJ P w K mg base CX0 3 f fd FB (Rs a):=by
 refine F.ok MF (λvs H Q E h=>?_) (λcdv A outer s H vs Q E hr h=>?_)
 ·obtain⟨p,l,c,cell,ar,rfl,_⟩:=h;rfl
 ·obtain⟨p,l,c,cell,ar,rfl,hC,hn,hn2,hl,k⟩:=h;obtain⟨dx,t,cs,hp,ht,hcs⟩:=hC.ex;refine⟨_,(Ag (As (DZ (Aq bT (rm hr) rfl An (Aa (Az (pv 0) rfl) (Aa (pv 1) Ab))) (Fv (AL (Ra rfl) rfl T.b_all PyProof.Rows.boot_all (Aa (CH rfl (BD.of (So:=Ah DO) (No:=IS) (N:=["condition","around"]) (k:=1) (cs:=[2]) rfl rfl A0) (Rx (Az (pv 0) rfl)) (λ_ _ _=>(Bk (i:=0) A0 rfl rfl)) (λ_ _ _=>BL) (λ_ _ _=>(PE.or (AF (pv 0) M_Am (rm hr) An (Aa (pv 1) Ab)) (AF (pv 0) M_Pl (rm hr) An (Aa (pv 1) Ab))))) Ab)))))),?_⟩
  try dsimp only[cxK]
  refine xwf rfl rfl hp T.cl_Clause T.na_Clause_cell (fl3_1 A0 A0) (xq1 rfl ⟨c.cell,cell,rfl,Fa c.cell cell,rfl,?_⟩);cases et:Fa c.cell cell with
  |false =>
   refine Bb ?_;have:=k H (AA.refl H);unfold Bp.fits at this;rw[et]at this;exact this
  |true =>
   refine BT ?_;have ln:cs.length=c.conds.length:=W8 hcs;refine xwf rfl rfl hp T.cl_Clause T.na_Clause_conditions (fl3_2 A0) ⟨t,rfl,⟨_,SqT.of ht⟩,?_⟩;refine PJ (xs:=cs.map V.ref) (λi acc H2=>AA H H2/\acc=((c.conds.take i).map λd=>V.bl (BQ.holds ar d))) ⟨AA.refl H,rfl⟩ (λi acc H2 _ z=>SqT.of (z.1 _ _ ht)) ?_ ?_
   ·rintro i x acc H2 hx ⟨sm,rfl⟩;rw[B9]at hx;obtain⟨q,eq,rfl⟩:=D5.mp hx;obtain⟨d,ed,hd⟩:=Paired.get hcs eq;have hd2:=hd.same sm;refine⟨⟨[some (.ref q)],rfl,rfl⟩,?_,?_⟩
    ·have:((c.conds.take i).map λd=>V.bl (BQ.holds ar d)).length<=c.conds.length:=by
      rw[B5,J9];omega
     exact F6 (C8 this hn) A3
    ·refine GV ?_;have nx:∀H4,AA H2 H4->AA H H4/\((c.conds.take i).map λd=>V.bl (BQ.holds ar d))++[V.bl (BQ.holds ar d)]=((c.conds.take (i+1)).map λd=>V.bl (BQ.holds ar d)):=λH4 s4=>⟨sm.trans s4,by
      rw[F8,ed,C9];rfl⟩
     have md:d∈c.conds:=D4 ed;cases hd2 with
     |@am t2 dx2 s ns h1 h2=>exact .inl ⟨_,rfl,q,dx2,_,rfl,h1,fl2_no A0 A0,_,rfl,q,l,t2,dx2,s,ns,ar,rfl,h1,h2,sm _ _ hl,nx H2 (AA.refl H2)⟩
     |@pl t2 dx2 ws h1 h2=>exact .inr ⟨_,rfl,q,dx2,_,rfl,h1,PB A0,_,rfl,q,l,t2,dx2,ws,ar,rfl,h1,h2,sm _ _ hl,hn2 _ md ws rfl,λH4 s4=>nx H4 s4⟩
   ·rintro acc H2 ⟨sm,rfl⟩ q nq;rw[B5,ln,L6];refine⟨q,c.conds.map (BQ.holds ar),rfl,SqL.of (by rw[Af,R6];rfl),?_⟩;have e:(c.conds.map (BQ.holds ar)).all id=c.fits cell ar:=by
     unfold Bp.fits;rw[et,List.all_map];rfl
    rw[e];exact k _ (sm.trans (AE nq))
def ROk(r:AH):Prop:=r.length<=5000/\∀c∈r,c.conds.length<=100/\∀d∈c.conds,∀ws,d=BQ.pl ws->ws.length<=100
def decV(o:Option Nat):V:=match o with
 |none=>.non
 |some n=>.int n
inductive SpDec(a:Ad)(vs:List V)(H:Hp)(Q:VK):Prop
 |mk (p l:Addr) (z:Str) (r:AH) (cell:Int) (ar:List Int) (_:vs=[.ref p,.int cell,.ref l]) (_:Cp a H p z r) (_:ROk r) (_:H l=some (.lst (ar.map V.int))) (_:∀H',AA H H'->Q (decV (Nh r cell ar)) H'):SpDec a vs H Q
def UW(a:Ad):Sp:=λvs H Q _=>SpDec a vs H Q
theorem ok_dec{f:Addr}{fd:FuncData}(F:Fun K "deciding" "deciding" Jf f fd)(T:Top K mg a)(bI:BK P w K mg base CX0 3 a.c_Clause "fits" FB (Rs a)):AJ P w K mg base CX0 4 f fd Ji (UW a):=by
 refine F.ok GW (λvs H Q E h=>?_) (λcdv A outer s H vs Q E hr h=>?_)
 ·obtain⟨p,l,z,r,cell,ar,rfl,_⟩:=h;rfl
 ·obtain⟨p,l,z,r,cell,ar,rfl,hR,hn,hl,k⟩:=h;obtain⟨dx,t,cs,hp,ht,hcs⟩:=hR.ex;have ln:cs.length=r.length:=W8 hcs;refine⟨_,(Ac (Fu W2 rfl (Mi true rfl T.b_enumerate (Aa (Az (pv 0) rfl) Ab)) (MJ rfl (CM (Ce (i:=3) GW.nd rfl (Or.inl rfl)) (CM (Ce (i:=4) GW.nd rfl (Or.inl rfl)) JB))) (Ag (AN (CY (AF (pv 4) bI (rm hr) An (Aa (pv 1) (Aa (pv 2) Ab)))) (Ag (As (pv 3))) AB))) (Ag (As Cz))),?_⟩
  try dsimp only[cxK]
  refine xwf rfl rfl hp T.cl_Rule T.na_Rule_clauses We ⟨t,rfl,⟨_,SqT.of ht⟩,?_⟩;refine JP (b:=true) (xs:=cs.map V.ref) (λi σ H2=>AA H H2/\(∃u v,σ=[some (.ref p),some (.int cell),some (.ref l),u,v])/\∀c∈r.take i,c.fits cell ar=false) ⟨AA.refl H,⟨none,none,rfl⟩,λc hc=>by simp at hc⟩ (λi σ H2 _ q=>SqT.of (q.1 _ _ ht)) ?_ ?_
  ·rintro i x σ H2 T' hx ⟨sm,⟨u,v,rfl⟩,no⟩ nT;rw[B9]at hx;obtain⟨q,eq,rfl⟩:=D5.mp hx;obtain⟨c,ec,hc⟩:=Paired.get hcs eq;have s3:=sm.trans (AE (o:=.tup [.int i,.ref q]) nT);have hc3:=hc.same s3;obtain⟨dx2,t2,cs2,h1,_⟩:=hc3.ex;refine QP Af ?_;have mc:=D4 ec;refine xwn rfl rfl h1 (fl3_no A0 A0 A0) rfl (xq1 rfl ⟨q,l,c,cell,ar,rfl,hc3,(hn.2 c mc).1,(hn.2 c mc).2,s3 _ _ hl,λH4 s4=>(xq1 rfl ?_)⟩);cases ef:c.fits cell ar with
   |true =>
    refine BT ?_;refine xq1 rfl ?_;have e:Nh r cell ar=some i:=by
     unfold Nh;rw[U4];have hi:i<r.length:=(B6.mp ec).1;refine⟨hi,?_,λj hj=>?_⟩
     ·rw[(B6.mp ec).2];exact ef
     ·have:=no r[j] (List.mem_take_iff_getElem.mpr ⟨j,by omega,rfl⟩);rw[this];exact C6
    have:=k H4 (s3.trans s4);rw[e]at this;exact this
   |false =>
    refine Bb ⟨s3.trans s4,⟨_,_,rfl⟩,λd hd=>?_⟩;rw[F8,ec]at hd;rcases M6.mp hd with z|z
    ·exact no d z
    ·have:d=c:=by simpa using z
     rw[this];exact ef
  ·rintro σ H2 ⟨sm,⟨u,v,rfl⟩,no⟩;rw[B5,ln,L6]at no;have e:Nh r cell ar=none:=by
    unfold Nh;rw[List.findIdx?_eq_none_iff];exact no
   have:=k H2 sm;rw[e]at this;exact this
inductive SpBec(a:Ad)(vs:List V)(H:Hp)(Q:VK):Prop
 |mk (p l:Addr) (z:Str) (r:AH) (cell:Int) (ar:List Int) (_:vs=[.ref p,.int cell,.ref l]) (_:Cp a H p z r) (_:ROk r) (_:H l=some (.lst (ar.map V.int))) (_:∀H',AA H H'->Q (.int (GF r cell ar)) H'):SpBec a vs H Q
def SE(a:Ad):Sp:=λvs H Q _=>SpBec a vs H Q
theorem Rc{r:AH}{cell:Int}{ar:List Int}(h:Nh r cell ar=none):GF r cell ar=cell:=by
 unfold Nh at h;rw[List.findIdx?_eq_none_iff]at h;unfold GF;rw[List.find?_eq_none.mpr λc hc=>by rw[h c hc];exact C6]
theorem Rb{r:AH}{cell:Int}{ar:List Int}{i:Nat}(h:Nh r cell ar=some i):∃c,r[i]?=some c/\GF r cell ar=c.makes:=by
 unfold Nh at h;rw[U4]at h;obtain⟨hi,h1,h2⟩:=h;refine⟨r[i],D1 hi,?_⟩;unfold GF;have:r.find? (Bp.fits cell ar)=some r[i]:=by
  rw[List.find?_eq_some_iff_getElem];exact⟨h1,i,hi,rfl,λj hj=>by simpa using h2 j hj⟩
 rw[this]
theorem ok_bec{f:Addr}{fd:FuncData}(F:Fun K "becomes" "becomes" Lk f fd)(T:Top K mg a)(bV:Cal P w K mg base CX0 4 "deciding" Ji (UW a)):AJ P w K mg base CX0 5 f fd IB (SE a):=by
 refine F.ok MB (λvs H Q E h=>?_) (λcdv A outer s H vs Q E hr h=>?_)
 ·obtain⟨p,l,z,r,cell,ar,rfl,_⟩:=h;rfl
 ·obtain⟨p,l,z,r,cell,ar,rfl,hR,hn,hl,k⟩:=h;refine⟨_,(Ac (Ao (i:=3) MB.nd rfl (Or.inl rfl) (Aq bV (rm hr) rfl An (Aa (pv 0) (Aa (pv 1) (Aa (pv 2) Ab))))) (Ac (AN (Ax Jk (pv 3) Cz (AC _)) (Ag (As (pv 1))) AB) (Ag (As (Az (Aj Am (Az (pv 0) rfl) (pv 3) (λ_ _=>rfl)) rfl))))),?_⟩
  try dsimp only[cxK]
  refine xw3 rfl rfl rfl ⟨p,l,z,r,cell,ar,rfl,hR,hn,hl,λH2 s2=>?_⟩;refine xq1 rfl ⟨rfl,(xq1 rfl ?_)⟩;cases e:Nh r cell ar with
  |none =>
   refine BT (xq1 rfl ?_);have:=k H2 s2;rw[Rc e]at this;exact this
  |some i =>
   obtain⟨c,ec,em⟩:=Rb e;obtain⟨dx,t,cs,hp,ht,hcs⟩:=hR.ex;obtain⟨q,eq⟩:∃q,cs[i]?=some q:=by
    have ln:cs.length=r.length:=W8 hcs;have:i<cs.length:=by rw[ln];exact(B6.mp ec).1
    exact⟨_,D1 this⟩
   obtain⟨c',ec',hc⟩:=Paired.get hcs eq;rw[ec]at ec';cases ec';obtain⟨dx2,t2,cs2,h1,_⟩:=(hc.same s2).ex;refine Bb (xwf rfl rfl (s2 _ _ hp) T.cl_Rule T.na_Rule_clauses We (xwi rfl rfl rfl (SqT.of (s2 _ _ ht)) (Al (by rw[B9,eq];rfl)) (xq5 h1 T.cl_Clause T.na_Clause_makes fl3_3 ?_)));have:=k H2 s2;rw[em]at this;exact this
end
def sgD(d:Int):Str:=⟨#[48+d.toNat]⟩
def wC:Option Int->Nat
 |none=>42
 |some d=>48+d.toNat
def wS(x:Option Int):Str:=⟨#[wC x]⟩
def Dy(ns:List Int):Str:=⟨(ns.map λn=>48+n.toNat).toArray⟩
def BJ:BQ->Str
 |.am s ns=>sgD s++⟨#[61]⟩++Dy ns
 |.pl ws=>⟨(ws.map wC).toArray⟩
def BW(c:Bp):Str:=Str.join ⟨#[32]⟩ (wS c.cell::(c.conds.map BJ++[sgD c.makes]))
def SR:Str:=⟨#[59,32]⟩
def Df(r:AH):Str:=Str.join SR (r.map BW)
def JY(d:Int):Prop:=0<=d/\d<8
def wOk:Option Int->Prop
 |none=>True
 |some d=>JY d
def BQ.ok:BQ->Prop
 |.am s ns=>JY s/\ns≠[]/\(∀n∈ns,0<=n/\n<=8)/\ns.Pairwise (· < ·)
 |.pl ws=>ws.length=8/\∀w∈ws,wOk w
structure Bp.ok(c:Bp):Prop where
 cell:wOk c.cell
 makes:JY c.makes
 few:c.conds.length<=50
 conds:∀d∈c.conds,d.ok
theorem eight{d:Int}(h:JY d):d=0\/d=1\/d=2\/d=3\/d=4\/d=5\/d=6\/d=7:=by
 obtain⟨m,rfl⟩:=F9 h.1;have h1:=h.2;exact(show ∀m:Nat,m<8->((m:Int)=0\/(m:Int)=1\/(m:Int)=2\/(m:Int)=3\/(m:Int)=4\/(m:Int)=5\/(m:Int)=6\/(m:Int)=7) by decide) m B4
abbrev figs8:Str:=Str.ofString "01234567"
abbrev figs9:Str:=Str.ofString "012345678"
theorem UJ{d:Int}(h:JY d):PySem.intText? (sgD d)=some d/\(!(Builtin.Str.occurrences figs8 (sgD d) 0 figs8.length 1).isEmpty)=true:=by
 rcases eight h with rfl|rfl|rfl|rfl|rfl|rfl|rfl|rfl<;>exact⟨by decide +kernel,by decide +kernel⟩
theorem nine{d:Int}(h0:0<=d)(h1:d<=8):d=0\/d=1\/d=2\/d=3\/d=4\/d=5\/d=6\/d=7\/d=8:=by
 obtain⟨m,rfl⟩:=F9 h0;exact(show ∀m:Nat,m<9->((m:Int)=0\/(m:Int)=1\/(m:Int)=2\/(m:Int)=3\/(m:Int)=4\/(m:Int)=5\/(m:Int)=6\/(m:Int)=7\/(m:Int)=8) by decide) m B4
theorem Wq{d:Int}(h0:0<=d)(h1:d<=8):PySem.intText? (⟨#[48+d.toNat]⟩:Str)=some d/\(!(Builtin.Str.occurrences figs9 (⟨#[48+d.toNat]⟩:Str) 0 figs9.length 1).isEmpty)=true:=by
 rcases nine h0 h1 with rfl|rfl|rfl|rfl|rfl|rfl|rfl|rfl|rfl<;>exact⟨by decide +kernel,by decide +kernel⟩
theorem star_no{d:Int}(h:JY d):decide (V.str (wS (some d))=V.str (Str.ofString "*"))=false:=by
 rcases eight h with rfl|rfl|rfl|rfl|rfl|rfl|rfl|rfl<;>decide +kernel
theorem NQ{x:Option Int}(h:wOk x):wC x≠61/\wC x≠32/\wC x≠59:=by
 cases x with
 |none=>exact⟨by decide,by decide,by decide⟩
 |some d =>
  have:=h.1;have:=h.2;show 48+d.toNat≠61/\48+d.toNat≠32/\48+d.toNat≠59;refine⟨?_,?_,?_⟩<;>omega
theorem Os{d:BQ}(h:d.ok):32∉(BJ d).cps.toList/\59∉(BJ d).cps.toList:=by
 cases d with
 |am s ns =>
  obtain⟨⟨s0,s1⟩,_,hn,_⟩:=h;have e:(BJ (.am s ns)).cps.toList=(48+s.toNat)::61::ns.map λn=>48+n.toNat:=by
   show(sgD s++⟨#[61]⟩++Dy ns).cps.toList=_;rw[Tx.Ct,Tx.Ct];rfl
  rw[e];constructor
  ·intro z;rcases B8.mp z with z|z
   ·omega
   ·rcases B8.mp z with z|z
    ·omega
    ·obtain⟨n,hn',e⟩:=D6.mp z;have:=hn n hn';omega
  ·intro z;rcases B8.mp z with z|z
   ·omega
   ·rcases B8.mp z with z|z
    ·omega
    ·obtain⟨n,hn',e⟩:=D6.mp z;have:=hn n hn';omega
 |pl ws =>
  have e:(BJ (.pl ws)).cps.toList=ws.map wC:=rfl;rw[e];constructor
  ·intro z;obtain⟨x,hx,e⟩:=D6.mp z;exact(NQ (h.2 x hx)).2.1 e
  ·intro z;obtain⟨x,hx,e⟩:=D6.mp z;exact(NQ (h.2 x hx)).2.2 e
theorem PK:∀(ns:List Int)(lo:Int),lo<=9->(∀n∈ns,lo<=n/\n<=8)->ns.Pairwise (· < ·)->(ns.length:Int)<=9-lo
 |[],lo,h,_,_=>by show(0:Int)<=9-lo;omega
 |n::r,lo,_,hn,hp=>by
  have h1:=hn n C3;have h2:=PK r (n+1) B4 (λm hm=>⟨by have:=(List.pairwise_cons.mp hp).1 m hm;omega,(hn m (C1 _ hm)).2⟩) (List.pairwise_cons.mp hp).2;rw[F0];omega
theorem Ni{d:BQ}(h:d.ok):(BJ d).length<=11:=by
 cases d with
 |am s ns =>
  obtain⟨_,_,hn,hp⟩:=h;have hl:=PK ns 0 A3 hn hp;rw[Nu.len];show(sgD s++⟨#[61]⟩++Dy ns).cps.toList.length<=11;rw[Tx.Ct,Tx.Ct,C5,C5];show 1+1+(ns.map λn=>48+n.toNat).length<=11;rw[B5];omega
 |pl ws =>
  rw[Nu.len];show(ws.map wC).length<=11;rw[B5,h.1];decide
section
variable{P:Program}{w:World}{K:PySem.W.Frag}{mg:Str->Option Value}{base:Heap}{a:Ad}
theorem Sw(K:PySem.W.Frag):kitOne K (.type "str") (.type "str")=some true:=by kernel_rfl
inductive SpRS(vs:List V)(H:Hp)(Q:VK):Prop
 |mk (d:Int) (_:vs=[.str (sgD d)]) (_:JY d) (_:Q (.int d) H):SpRS vs H Q
def UM:Sp:=λvs H Q _=>SpRS vs H Q
theorem ok_rs{f:Addr}{fd:FuncData}(F:Fun K "read_state" "read_state" Ga f fd)(T:Top K mg a):AJ P w K mg base CX0 1 f fd Du UM:=by
 refine F.ok NC (λvs H Q E h=>?_) (λcdv A outer s H vs Q E hr h=>?_)
 ·obtain⟨d,rfl,_⟩:=h;rfl
 ·obtain⟨d,rfl,hd,k⟩:=h;obtain⟨e1,e2⟩:=UJ hd;refine⟨_,(Ac (AN (PW.pt (IP (Ax GN (AL GE rfl T.b_len Y8 (Aa (pv 0) Ab)) Ae (AC _)) (Ft (Ax JF (pv 0) (Mj rfl T.k_STATE_FIGURES) rfl)))) (Ag Bj) AB) (Ag (As (BY FE rfl T.b_int Z1 (Aa (pv 0) Ab))))),?_⟩
  try dsimp only[cxK]
  refine xw2 rfl rfl ⟨(by show 1<=sizeLine;decide),rfl,(xq1 rfl ?_)⟩;refine LT rfl (xwb rfl rfl rfl (xq1 rfl ?_));rw[e2];exact Bb (xq1 rfl ⟨_,d,rfl,e1,(by show 1<=640;decide),k⟩)
inductive SpRW(vs:List V)(H:Hp)(Q:VK):Prop
 |mk (x:Option Int) (_:vs=[.str (wS x)]) (_:wOk x) (_:Q (FC x) H):SpRW vs H Q
def spRW:Sp:=λvs H Q _=>SpRW vs H Q
theorem ok_rw{f:Addr}{fd:FuncData}(F:Fun K "read_wanted" "read_wanted" Fn f fd)(T:Top K mg a)(aI:Cal P w K mg base CX0 1 "read_state" Du UM):AJ P w K mg base CX0 2 f fd DP spRW:=by
 refine F.ok Mw (λvs H Q E h=>?_) (λcdv A outer s H vs Q E hr h=>?_)
 ·obtain⟨x,rfl,_⟩:=h;rfl
 ·obtain⟨x,rfl,hx,k⟩:=h;refine⟨_,(Ac (AN (Ax CQ (pv 0) (Mj rfl T.k_ANY_SIGN) (AC _)) (Ag (As Cz)) AB) (Ag (As (Aq aI (rm hr) rfl An (Aa (pv 0) Ab))))),?_⟩
  try dsimp only[cxK]
  refine xq1 rfl ⟨rfl,(xq1 rfl ?_)⟩;cases x with
  |none=>exact BT k
  |some d =>
   rw[star_no hx];exact Bb (xq1 rfl ⟨d,rfl,hx,k⟩)
inductive SpRN(vs:List V)(H:Hp)(Q:VK):Prop
 |mk (ns:List Int) (_:vs=[.str (Dy ns)]) (_:ns≠[]) (_:ns.length<=100) (_:(∀n∈ns,0<=n/\n<=8)) (_:ns.Pairwise (· < ·)) (_:∀(t:Addr)(H':Hp),AA H H'->H' t=some (.tup (ns.map V.int))->Q (.ref t) H'):SpRN vs H Q
def spRN:Sp:=λvs H Q _=>SpRN vs H Q
theorem ok_rn{f:Addr}{fd:FuncData}(F:Fun K "read_numbers" "read_numbers" Es f fd)(T:Top K mg a):AJ P w K mg base CX0 1 f fd EB spRN:=by
 refine F.ok DX (λvs H Q E h=>?_) (λcdv A outer s H vs Q E hr h=>?_)
 ·obtain⟨ns,rfl,_⟩:=h;rfl
 ·obtain⟨ns,rfl,hne,hl,hn,hp,k⟩:=h;have el:(Dy ns).length=ns.length:=by rw[Nu.len];show(ns.map _).length=_;rw[B5]
  have ec:(Dy ns).cps.toList=ns.map λn=>48+n.toNat:=rfl;have pos:0<ns.length:=R3.mpr hne;refine⟨_,(Ac (AN (Ax CQ (AL GE rfl T.b_len Y8 (Aa (pv 0) Ab)) Ae (AC _)) (Ag Bj) AB) (Ac (Ao (i:=1) DX.nd rfl (Or.inl rfl) (CA Ab)) (Ac (Fu W2 rfl (Ve (pv 0)) (Ce (i:=2) DX.nd rfl (Or.inl rfl)) (Ac (AN (Ax JF (pv 2) (Mj rfl T.k_AMOUNT_FIGURES) rfl) (Ag Bj) AB) (Ac (AN (PW.pt (Ic (Ax Qv (AL BP rfl T.b_len Y8 (Aa (pv 1) Ab)) Ae (AC _)) (EV (Ax JG (BY FE rfl T.b_int Z1 (Aa (pv 2) Ab)) (Aj Aw (pv 1) (GL DU Ae) (λ_ _=>rfl)) (AC _))))) (Ag Bj) AB) (Ag (Cd (GM W3 W5 W6 Dg (pv 1) (Aa (BY FE rfl T.b_int Z1 (Aa (pv 2) Ab)) Ab))))))) (Ag (As (BY BS rfl T.b_tuple Y7 (Aa (pv 1) Ab))))))),?_⟩
  try dsimp only[cxK]
  refine xw2 rfl rfl ⟨(by rw[el];exact C8 hl A3),rfl,(xq1 rfl ?_)⟩;have nz:decide (V.int ((Dy ns).length:Int)=V.int 0)=false:=V3 λz=>by
   injection z with z
   omega
  rw[nz];refine Bb ⟨(by show 0<=sizeLine;decide),λl hl0=>?_⟩;refine xw2 rfl rfl ?_;refine for_str (λi σ H2=>∃v,σ=[some (.str (Dy ns)),some (.ref l),v]/\H2=upd H l (.lst ((ns.take i).map V.int))) ⟨none,rfl,rfl⟩ ?_ ?_
  ·rintro i ch σ H2 hch ⟨v,rfl,rfl⟩;have hch':(ns.map λn=>48+n.toNat)[i]?=some ch:=by rw[<-ec];simpa using hch
   rw[B9]at hch';obtain⟨n,en,rfl⟩:=D5.mp hch';have mn:=D4 en;obtain⟨f1,f2⟩:=Wq (hn n mn).1 (hn n mn).2;have hi:i<ns.length:=(B6.mp en).1;have tl:(ns.take i).length=i:=by rw[J9];omega
   refine xwb rfl rfl rfl (xq1 rfl ?_);rw[f2];refine Bb (xq1 rfl ⟨l,(xq1 rfl ⟨.inl (SqL.of Af),(xq2 rfl rfl (xq1 rfl ?_))⟩)⟩);have nx:∃v,([some (V.str (Dy ns)),some (.ref l),some (.str ⟨#[48+n.toNat]⟩)]:St)=[some (.str (Dy ns)),some (.ref l),v]/\upd (upd H l (.lst ((ns.take i).map V.int))) l (.lst ((ns.take i).map V.int++[V.int n]))=upd H l (.lst ((ns.take (i+1)).map V.int)):=by
    refine xq1 rfl ?_;rw[FT,F8,en,C9];rfl
   have app:tDrop (tBM K "list" SH (FG 1) (Cr (tCB (λxs H Q=>∃x n,xs=[.str x]/\PySem.intText? x=some n/\x.length<=640/\Q (.int n) H) (Cr (FG 2) OG)) OG))
     {nx:=fun σ H2=>∃v,σ=[some (.str (Dy ns)),some (.ref l),v]/\H2=upd H l (.lst ((ns.take (i+1)).map V.int)),rt:=Q,bk:=λ_ _=>False,ct:=fun σ H2=>∃v,σ=[some (.str (Dy ns)),some (.ref l),v]/\H2=upd H l (.lst ((ns.take (i+1)).map V.int))}
     [some (.str (Dy ns)),some (.ref l),some (.str ⟨#[48+n.toNat]⟩)] (upd H l (.lst ((ns.take i).map V.int))) :=
    ⟨_,rfl,.inl ⟨rfl,_,SqL.of Af⟩,_,rfl,_,n,rfl,f1,(by show 1<=640;decide),l,_,_,rfl,rfl,Af,(by rw[B5,tl];exact D8 hi (C8 hl A3)),nx⟩
   by_cases i0:i=0
   ·subst i0;exact Bb app
   ·have ip:0<i:=by omega
    have lt0:decide ((0:Int)<(((ns.take i).map V.int).length:Int))=true:=V1 (by rw[B5,tl];omega);rw[lt0];have hm:i-1<ns.length:=by omega
    have hlt:ns[i-1]<n:=by
     have:=List.pairwise_iff_getElem.mp hp (i-1) i hm hi B4;rw[(B6.mp en).2]at this;exact this
    have at1:atI ((ns.take i).map V.int) (-1)=some (V.int ns[i-1]):=by
     have:((ns.take i).map V.int)[i-1]?=some (V.int ns[i-1]):=by
      rw[B9,S1 B4,D1 hm];rfl
     have e1:((ns.take i).map V.int).length=i:=by rw[B5,tl]
     unfold atI ixN;rw[e1,V0 A3,V2 B4];show((ns.take i).map V.int)[((-1:Int)+(i:Nat)).toNat]?=_;rw[show((-1:Int)+(i:Nat)).toNat=i-1 by omega];exact this
    refine BT (xq1 rfl ⟨_,n,rfl,f1,(by show 1<=640;decide),(xw2 rfl rfl ⟨l,_,(xq2 rfl rfl ⟨SqL.of Af,at1,(xq2 rfl rfl (xq1 rfl ?_))⟩)⟩)⟩);rw[V3 (by omega:¬n<=ns[i-1])];exact Bb app
  ·rintro σ H2 ⟨v,rfl,rfl⟩;have e:(Dy ns).cps.size=ns.length:=by
    have:(Dy ns).cps.toList.length=ns.length:=by rw[ec,B5]
    simpa using this
   rw[e,L6];refine xq1 rfl ⟨l,(xq1 rfl (.inl ⟨SqL.of Af,λt ht=>?_⟩))⟩;exact k t _ ((AE hl0).trans (AE ht)) Af
end
section
variable{P:Program}{w:World}{K:PySem.W.Frag}{mg:Str->Option Value}{base:Heap}{a:Ad}
theorem eq_in(x:Str):(!(Builtin.Str.occurrences x (Str.ofString "=") 0 x.length 1).isEmpty)=decide (61∈x.cps.toList):=by
 have:Str.ofString "=" = (⟨#[61]⟩:Str):=by decide +kernel
 rw[this];exact StrLaws.found_one x 61
inductive Tg(a:Ad)(vs:List V)(H:Hp)(Q:VK):Prop
 |mk (d:BQ) (_:vs=[.str (BJ d)]) (_:d.ok) (_:∀(p:Addr)(H':Hp),AA H H'->CL a H' p d->Q (.ref p) H'):Tg a vs H Q
def OI(a:Ad):Sp:=λvs H Q _=>Tg a vs H Q
inductive SpRAm(a:Ad)(vs:List V)(H:Hp)(Q:VK):Prop
 |mk (s:Int) (ns:List Int) (_:vs=[.str (BJ (.am s ns))]) (_:(BQ.am s ns).ok) (_:∀(p:Addr)(H':Hp),AA H H'->CL a H' p (.am s ns)->Q (.ref p) H'):SpRAm a vs H Q
def UP(a:Ad):Sp:=λvs H Q _=>SpRAm a vs H Q
theorem ok_ram{f:Addr}{fd:FuncData}(F:Fun K "read_amounts" "read_amounts" Et f fd)(T:Top K mg a)(aI:Cal P w K mg base CX0 1 "read_state" Du UM)(bE:Cal P w K mg base CX0 1 "read_numbers" EB spRN)
  (bZ:PU P w K mg base CX0 1 "Amounts" a.c_Amounts EH (Mu a)):AJ P w K mg base CX0 3 f fd EC (UP a):=by
 refine F.ok GI (λvs H Q E h=>?_) (λcdv A outer s H vs Q E hr h=>?_)
 ·obtain⟨s,ns,rfl,_⟩:=h;rfl
 ·obtain⟨d,ns,rfl,ho,k⟩:=h;have hlen:=Ni ho;obtain⟨hd,hne,hn,hp⟩:=ho;have hl:=PK ns 0 A3 hn hp;have e61:Str.ofString "=" = (⟨#[61]⟩:Str):=by decide +kernel
  have ep:Txt.partition (BJ (.am d ns)) (Str.ofString "=")=(sgD d,⟨#[61]⟩,Dy ns):=by
   rw[e61];refine Tx.Gn 61 (sgD d) (Dy ns) ?_;intro z;have:61=48+d.toNat:=by simpa[sgD] using z
   have:=hd.2;omega
  refine⟨_,(Ac (Ao (i:=1) GI.nd rfl (Or.inl rfl) (GM K3 PySem.F.slot_str_partition PySem.F.type_str_partition Pr (pv 0) (Cf Ab))) (Ag (As (JE bZ (rm hr) rfl An (Aa (Aq aI (rm hr) rfl An (Aa (Aj Am (pv 1) Ae (λ_ _=>rfl)) Ab)) (Aa (Aq bE (rm hr) rfl An (Aa (Aj Am (pv 1) Ae (λ_ _=>rfl)) Ab)) Ab)))))),?_⟩
  try dsimp only[cxK]
  refine xq1 rfl ⟨rfl,(xq2 rfl rfl ⟨A0,B4,λt ht=>?_⟩)⟩;rw[ep];refine xq1 rfl ⟨t,_,0,(xq1 rfl ⟨rfl,SqT.of Af,rfl,d,rfl,hd,(xq1 rfl ⟨t,_,2,(xq1 rfl ⟨rfl,SqT.of Af,rfl,ns,rfl,hne,by omega,hn,hp,λt2 H2 s2 ht2=>?_⟩)⟩)⟩)⟩;intro x dx nx ndx nex;have sx:AA H2 (upd (upd H2 dx (.own x)) x (.ins a.c_Amounts dx [])):=(AE ndx).trans (AE (by rw[Ar (V5 nex)];exact nx));refine⟨x,t2,dx,d,rfl,Af,rfl,?_⟩;have nx2:(upd H2 dx (.own x)) x=none:=by rw[Ar (V5 nex)];exact nx
  rw[FT];have sy:AA H2 (upd (upd H2 dx (.own x)) x (.ins a.c_Amounts dx (fl2 "state" "numbers" (.int d) (.ref t2)))):=(AE ndx).trans (AE nx2);exact k x _ (((AE ht).trans s2).trans sy) (.am Af (sy _ _ ht2))
inductive SpRPl(a:Ad)(vs:List V)(H:Hp)(Q:VK):Prop
 |mk (ws:List (Option Int)) (_:vs=[.str (BJ (.pl ws))]) (_:(BQ.pl ws).ok) (_:∀(p:Addr)(H':Hp),AA H H'->CL a H' p (.pl ws)->Q (.ref p) H'):SpRPl a vs H Q
def UN(a:Ad):Sp:=λvs H Q _=>SpRPl a vs H Q
theorem ok_rpl{f:Addr}{fd:FuncData}(F:Fun K "read_places" "read_places" DL f fd)(T:Top K mg a)(aR:Cal P w K mg base CX0 2 "read_wanted" DP spRW)
  (cC:PU P w K mg base CX0 1 "Places" a.c_Places Fy (Mr a)):AJ P w K mg base CX0 3 f fd Fw (UN a):=by
 refine F.ok Mx (λvs H Q E h=>?_) (λcdv A outer s H vs Q E hr h=>?_)
 ·obtain⟨ws,rfl,_⟩:=h;rfl
 ·obtain⟨ws,rfl,ho,k⟩:=h;have hlen:=Ni ho;obtain⟨h8,hw⟩:=ho;have el:(BJ (.pl ws)).length=8:=by rw[Nu.len];show(ws.map wC).length=8;rw[B5,h8]
  have ec:(BJ (.pl ws)).cps.toList=ws.map wC:=rfl;refine⟨_,(Ac (AN (Ax GN (AL GE rfl T.b_len Y8 (Aa (pv 0) Ab)) (BI rfl T.k_NEIGHBOURS) (AC _)) (Ag Bj) AB) (Ag (As (JE cC (rm hr) rfl An (Aa (BY BS rfl T.b_tuple Y7 (Aa (CH rfl (BD.of (So:=Ah DL) (No:=IQ) (N:=["sign"]) (k:=1) (cs:=[]) rfl rfl A0) (Ve (pv 0)) (λ_ _ _=>(Bk (i:=0) A0 rfl rfl)) (λ_ _ _=>BL) (λ_ _ _=>(Aq aR (rm hr) rfl An (Aa (pv 0) Ab)))) Ab)) Ab))))),?_⟩
  try dsimp only[cxK]
  refine xw2 rfl rfl ⟨C8 hlen A3,rfl,(xq1 rfl ?_)⟩;rw[el];refine LT rfl (xw2 rfl rfl ?_);refine blk_str (λi acc H2=>H2=H/\acc=(ws.take i).map FC) ⟨rfl,rfl⟩ ?_ ?_
  ·rintro i ch acc H2 hch ⟨rfl,rfl⟩;rw[ec,B9]at hch;obtain⟨x,ex,rfl⟩:=D5.mp hch;refine⟨⟨[some (.str ⟨#[wC x]⟩)],rfl,rfl⟩,?_,?_⟩
   ·rw[B5,J9];exact F6 (S3 _ _) (by rw[h8];decide)
   ·refine GV (xq1 rfl ⟨x,rfl,hw x (D4 ex),rfl,?_⟩);rw[F8,ex,C9];rfl
  ·rintro acc H2 ⟨rfl,rfl⟩ q nq;rw[ec,B5,L6];refine⟨q,(xq1 rfl (.inl ⟨SqL.of Af,λt ht=>?_⟩))⟩;intro x dx nx ndx nex;have nx2:∀o,(upd (upd (upd H2 q (.lst (ws.map FC))) t (.tup (ws.map FC))) dx o) x=none:=λo=>by rw[Ar (V5 nex)];exact nx
   refine⟨x,t,dx,rfl,Af,rfl,?_⟩;rw[FT];have s1:AA H2 (upd (upd H2 q (.lst (ws.map FC))) t (.tup (ws.map FC))):=(AE nq).trans (AE ht);have s2:AA (upd (upd H2 q (.lst (ws.map FC))) t (.tup (ws.map FC))) (upd (upd (upd (upd H2 q (.lst (ws.map FC))) t (.tup (ws.map FC))) dx (.own x)) x (.ins a.c_Places dx (fl1 "wanted" (.ref t)))):=(AE ndx).trans (AE (nx2 _));exact k x _ (s1.trans s2) (.pl Af (s2 _ _ Af))
theorem Vp{f:Addr}{fd:FuncData}(F:Fun K "read_condition" "read_condition" Dz f fd)(T:Top K mg a)(bF:Cal P w K mg base CX0 3 "read_amounts" EC (UP a))(bJ:Cal P w K mg base CX0 3 "read_places" Fw (UN a)) :
  AJ P w K mg base CX0 4 f fd DD (OI a):=by
 refine F.ok Ju (λvs H Q E h=>?_) (λcdv A outer s H vs Q E hr h=>?_)
 ·obtain⟨d,rfl,_⟩:=h;rfl
 ·obtain⟨d,rfl,ho,k⟩:=h;refine⟨_,(Ac (AN (Ax TC Id (pv 0) rfl) (Ag (As (Aq bF (rm hr) rfl An (Aa (pv 0) Ab)))) AB) (Ag (As (Aq bJ (rm hr) rfl An (Aa (pv 0) Ab))))),?_⟩
  try dsimp only[cxK]
  refine xwb rfl rfl rfl (xq1 rfl ?_);rw[eq_in];cases d with
  |am s ns =>
   have m:61∈(BJ (.am s ns)).cps.toList:=by
    show 61∈(sgD s++⟨#[61]⟩++Dy ns).cps.toList;rw[Tx.Ct,Tx.Ct];simp
   rw[V1 m];exact BT (xq1 rfl ⟨s,ns,rfl,ho,k⟩)
  |pl ws =>
   have m:¬61∈(BJ (.pl ws)).cps.toList:=λz=>by
    obtain⟨x,hx,e⟩:=D6.mp (show 61∈ws.map wC from z);exact(NQ (ho.2 x hx)).1 e
   rw[V3 m];exact Bb (xq1 rfl ⟨ws,rfl,ho,k⟩)
inductive SpRC(a:Ad)(vs:List V)(H:Hp)(Q:VK):Prop
 |mk (c:Bp) (_:vs=[.str (BW c)]) (_:c.ok) (_:∀(p:Addr)(H':Hp),AA H H'->BH a H' p c->Q (.ref p) H'):SpRC a vs H Q
def spRC(a:Ad):Sp:=λvs H Q _=>SpRC a vs H Q
theorem Nl{c:Bp}(h:c.ok):(BW c).length<=1000:=by
 have j:=StrLaws.join_length_le ⟨#[32]⟩ (wS c.cell::(c.conds.map BJ++[sgD c.makes]));have b:∀l:List BQ,(∀d∈l,d.ok)->((l.map BJ).map (·.length)).sum<=11*l.length:=by
  intro l;induction l with
  |nil=>intro _;exact F5 _
  |cons d r ih =>
   intro hd;have h1:=Ni (hd d C3);have h2:=ih λe he=>hd e (C1 _ he);simp only[L5,Q0,F0];omega
 have b1:=b c.conds h.conds;have h50:=h.few;simp only[L5,C9,List.map_nil,Q0,List.sum_append,List.sum_nil,F0,C5,List.length_nil,B5]at j;have l1:(wS c.cell).length=1:=rfl;have l2:(sgD c.makes).length=1:=rfl;have l3:(⟨#[32]⟩:Str).length=1:=rfl;rw[l1,l2,l3]at j;unfold BW;omega
theorem IG(x:Option Int)(h:wOk x):32∉(wS x).cps.toList/\59∉(wS x).cps.toList:=by
 have:=NQ h;constructor
 ·intro z;have:32=wC x:=by simpa[wS] using z
  exact(NQ h).2.1 this.symm
 ·intro z;have:59=wC x:=by simpa[wS] using z
  exact(NQ h).2.2 this.symm
theorem PD{c:Bp}(h:c.ok):Txt.split (BW c) (Str.ofString " ")=wS c.cell::(c.conds.map BJ++[sgD c.makes]):=by
 have e:Str.ofString " " = (⟨#[32]⟩:Str):=by decide +kernel
 rw[e];refine Tx.Qd 32 _ A6 λt ht=>?_;rcases B8.mp ht with rfl|ht
 ·exact(IG _ h.cell).1
 ·rcases M6.mp ht with ht|ht
  ·obtain⟨d,hd,rfl⟩:=D6.mp ht;exact(Os (h.conds d hd)).1
  ·rw[D7.mp ht];exact(IG (some c.makes) h.makes).1
theorem cut_mid(x z:V)(ys:List V):RZ (x::(ys++[z])) (some 1) (some (-1))=ys:=by
 have n:(x::(ys++[z])).length=ys.length+2:=by simp
 unfold RZ;rw[n];have h1:HT.sIx (ys.length+2) 0 (some 1)=1:=by
  show(if(1:Int)<0 then((1:Int)+((ys.length+2:Nat):Int)).toNat else min (1:Int).toNat (ys.length+2))=1;rw[V0 A3];show min 1 (ys.length+2)=1;omega
 have h2:HT.sIx (ys.length+2) (ys.length+2) (some (-1))=ys.length+1:=by
  show(if(-1:Int)<0 then((-1:Int)+((ys.length+2:Nat):Int)).toNat else min (-1:Int).toNat (ys.length+2))=ys.length+1;rw[V2 A3];omega
 rw[h1,h2];show(ys++[z]).take (ys.length+1-1)=ys;rw[Nat.add_sub_cancel,List.take_left' rfl]
theorem at_last(x:V)(ys:List V)(z:V):atI (x::(ys++[z])) (-1)=some z:=by
 have n:(x::(ys++[z])).length=ys.length+2:=by simp
 unfold atI ixN;rw[n,V0 A3,V2 B4];show(x::(ys++[z]))[((-1:Int)+((ys.length+2:Nat):Int)).toNat]?=some z;rw[show((-1:Int)+((ys.length+2:Nat):Int)).toNat=ys.length+1 by omega,S7,F3 (C0 _),U5];rfl
theorem ok_rc{f:Addr}{fd:FuncData}(F:Fun K "read_clause" "read_clause" DM f fd)(T:Top K mg a)(aI:Cal P w K mg base CX0 1 "read_state" Du UM)(aR:Cal P w K mg base CX0 2 "read_wanted" DP spRW)
  (aX:Cal P w K mg base CX0 4 "read_condition" DD (OI a)) (cD:PU P w K mg base CX0 1 "Clause" a.c_Clause FA (Mt a)):AJ P w K mg base CX0 5 f fd Fx (spRC a):=by
 refine F.ok Dk (λvs H Q E h=>?_) (λcdv A outer s H vs Q E hr h=>?_)
 ·obtain⟨c,rfl,_⟩:=h;rfl
 ·obtain⟨c,rfl,ho,k⟩:=h;have hlen:=Nl ho;have f50:=ho.few;refine⟨_,(Ac (AN (Ds (CY (AL CS rfl T.b_isinstance V6 (Aa (pv 0) (Aa (Dt (v:=.ty "str") rfl T.b_str PyProof.Rows.boot_str rfl) Ab))))) (Ag Bj) AB) (Ac (Ao (i:=1) Dk.nd rfl (Or.inl rfl) (GM K3 PySem.F.slot_str_split PySem.F.type_str_split QH (pv 0) (Cf Ab))) (Ac (AN (Ax GO (AL BP rfl T.b_len Y8 (Aa (pv 1) Ab)) Ae (AC _)) (Ag Bj) AB) (Ac (Ao (i:=2) Dk.nd rfl (Or.inl rfl) (Aq aR (rm hr) rfl An (Aa (Aj Aw (pv 1) Ae (λ_ _=>rfl)) Ab))) (Ac (Ao (i:=3) Dk.nd rfl (Or.inl rfl) (BY BS rfl T.b_tuple Y7 (Aa (CH rfl (BD.of (So:=Ah DM) (No:=IR) (N:=["word"]) (k:=1) (cs:=[]) rfl rfl A0) (Cs (Qt SF (pv 1) (OX Ae) (OX (GL DU Ae)))) (λ_ _ _=>(Bk (i:=0) A0 rfl rfl)) (λ_ _ _=>BL) (λ_ _ _=>(Aq aX (rm hr) rfl An (Aa (pv 0) Ab)))) Ab))) (Ag (As (JE cD (rm hr) rfl An (Aa (pv 2) (Aa (pv 3) (Aa (Aq aI (rm hr) rfl An (Aa (Aj Aw (pv 1) (GL DU Ae) (λ_ _=>rfl)) Ab)) Ab))))))))))),?_⟩
  try dsimp only[cxK]
  refine xq1 rfl ⟨_,_,_,.type "str",true,rfl,rfl,.of (.str _),Sw K,true,rfl,?_⟩;refine Bb (xq1 rfl ⟨rfl,(xq2 rfl rfl ⟨A0,B4,λl hl=>?_⟩)⟩);rw[PD ho];have eW:((wS c.cell::(c.conds.map BJ++[sgD c.makes])).map V.str)=V.str (wS c.cell)::((c.conds.map λd=>V.str (BJ d))++[V.str (sgD c.makes)]):=by
   rw[L5,C9,R6];rfl
  rw[eW];have hL:∀o,upd H l o l=some o:=λo=>Af;refine xq1 rfl ⟨l,(xq1 rfl ⟨.inl (SqL.of Af),(xq2 rfl rfl (xq1 rfl ?_))⟩)⟩;rw[V3 (by simp;omega:¬((((V.str (wS c.cell)::((c.conds.map λd=>V.str (BJ d))++[V.str (sgD c.makes)])).length:Nat):Int)<2))];refine Bb (xwi rfl rfl rfl (SqL.of Af) (Al (j:=0) rfl) ⟨c.cell,rfl,ho.cell,?_⟩);refine xw3 rfl rfl rfl (xq1 rfl ⟨l,(xq1 rfl ⟨SqL.of Af,λq hq=>⟨q,rfl,⟨_,SqL.of Af⟩,?_⟩⟩)⟩);rw[cut_mid];have s0:AA H (upd (upd H l (.lst (V.str (wS c.cell)::((c.conds.map λd=>V.str (BJ d))++[V.str (sgD c.makes)])))) q (.lst (c.conds.map λd=>V.str (BJ d)))):=(AE hl).trans (AE hq);have nlq:l≠q:=λz=>by rw[<-z,Af]at hq;cases hq
  generalize hH1:upd (upd H l (.lst (V.str (wS c.cell)::((c.conds.map λd=>V.str (BJ d))++[V.str (sgD c.makes)])))) q (.lst (c.conds.map λd=>V.str (BJ d)))=H1;rw[hH1]at s0;have hq1:H1 q=some (.lst (c.conds.map λd=>V.str (BJ d))):=by rw[<-hH1];exact Af
  have hl1:H1 l=some (.lst (V.str (wS c.cell)::((c.conds.map λd=>V.str (BJ d))++[V.str (sgD c.makes)]))):=by rw[<-hH1,Ar nlq];exact Af
  refine DT (xs:=c.conds.map λd=>V.str (BJ d)) (λi acc H2=>∃ps:List Addr,acc=ps.map V.ref/\AA H1 H2/\Paired (CL a H2) ps (c.conds.take i)) ⟨[],rfl,AA.refl H1,.nil⟩ (λi acc H2 _ ⟨ps,_,sm,_⟩=>SqL.of (sm _ _ hq1)) ?_ ?_
  ·rintro i x acc H2 hx ⟨ps,rfl,sm,pr⟩;rw[B9]at hx;obtain⟨d,ed,rfl⟩:=D5.mp hx;refine⟨⟨[some (.str (BJ d))],rfl,rfl⟩,?_,?_⟩
   ·have e1:=W8 pr;rw[J9]at e1;rw[B5,e1];exact F6 (S3 _ _) (F6 f50 A3)
   ·refine GV (xq1 rfl ⟨d,rfl,ho.conds d (D4 ed),λp H3 s3 hp=>⟨ps++[p],by rw[C9];rfl,sm.trans s3,?_⟩⟩);rw[F8,ed];exact X4 (Paired.imp (λ_ _ z=>z.same s3) pr) hp
  ·rintro acc H2 ⟨ps,rfl,sm,pr⟩ r nr;rw[B5,L6]at pr;refine⟨r,(xq1 rfl (.inl ⟨SqL.of Af,λt ht=>?_⟩))⟩;have s3:AA H1 (upd (upd H2 r (.lst (ps.map V.ref))) t (.tup (ps.map V.ref))):=(sm.trans (AE nr)).trans (AE ht);generalize hH3:upd (upd H2 r (.lst (ps.map V.ref))) t (.tup (ps.map V.ref))=H3;have ht3:H3 t=some (.tup (ps.map V.ref)):=by rw[<-hH3];exact Af
   have s23:AA H2 H3:=by rw[<-hH3];exact(AE nr).trans (AE ht)
   rw[hH3]at s3;refine xw3 rfl rfl rfl (xq1 rfl ⟨l,_,(xq2 rfl rfl ⟨SqL.of (s3 _ _ hl1),at_last _ _ _,c.makes,rfl,ho.makes,?_⟩)⟩);intro x dx nx ndx nex;have nx2:∀o,(upd H3 dx o) x=none:=λo=>by rw[Ar (V5 nex)];exact nx
   refine⟨x,t,dx,c.cell,c.makes,rfl,Af,rfl,?_⟩;rw[FT];have s4:AA H3 (upd (upd H3 dx (.own x)) x (.ins a.c_Clause dx (fl3 "cell" "conditions" "makes" (FC c.cell) (.ref t) (.int c.makes)))):=(AE ndx).trans (AE (nx2 _));exact k x _ ((s0.trans s3).trans s4) ⟨dx,t,ps,Af,s4 _ _ ht3,Paired.imp (λ_ _ z=>(z.same s23).same s4) pr⟩
theorem QV{c:Bp}(h:c.ok):59∉(BW c).cps.toList:=by
 intro z;unfold BW at z;rw[PyProof.Rows.mem_join]at z;rcases z with ⟨t,ht,z⟩|⟨_,z⟩
 ·rcases B8.mp ht with rfl|ht
  ·exact(IG _ h.cell).2 z
  ·rcases M6.mp ht with ht|ht
   ·obtain⟨d,hd,rfl⟩:=D6.mp ht;exact(Os (h.conds d hd)).2 z
   ·rw[D7.mp ht]at z;exact(IG (some c.makes) h.makes).2 z
 ·have:59=32:=by simpa using z
  omega
end
structure Nw(r:AH):Prop where
 few:r.length<=50
 ok:∀c∈r,c.ok
theorem Nw.rok{r:AH}(h:Nw r):ROk r:=⟨C8 h.few A3,λc hc=>⟨C8 (h.ok c hc).few A3,λd hd ws e=>by
 subst e;rw[((h.ok c hc).conds _ hd).1];decide⟩⟩
theorem Qm{r:AH}(h:Nw r):(Df r).length<=60000:=by
 have j:=StrLaws.join_length_le SR (r.map BW);have b:∀l:List Bp,(∀c∈l,c.ok)->((l.map BW).map (·.length)).sum<=1000*l.length:=by
  intro l;induction l with
  |nil=>intro _;exact F5 _
  |cons d r ih =>
   intro hd;have h1:=Nl (hd d C3);have h2:=ih λe he=>hd e (C1 _ he);simp only[L5,Q0,F0];omega
 have b1:=b r h.ok;have h50:=h.few;have l3:SR.length=2:=rfl;rw[l3,B5]at j;unfold Df;omega
theorem rule_ne{r:AH}(h:r≠[]):decide (V.str (Df r)=V.str (Str.ofString ""))=false:=by
 refine V3 λz=>?_;injection z with z
 obtain⟨c,hc⟩:=List.exists_mem_of_ne_nil r h;have h1:=PySem.join_mem_le SR (r.map BW) (BW c) (D6.mpr ⟨c,hc,rfl⟩);have h2:=PySem.join_mem_le ⟨#[32]⟩ (wS c.cell::(c.conds.map BJ++[sgD c.makes])) (wS c.cell) C3;have h3:(wS c.cell).length=1:=rfl;have h4:(Df r).length=0:=by rw[z];decide +kernel
 unfold Df at h4;have h5:(BW c).length=(Str.join ⟨#[32]⟩ (wS c.cell::(c.conds.map BJ++[sgD c.makes]))).length:=rfl;omega
theorem CL.put{a:Ad}{H:Hp}{p q:Addr}{o u:HO}{c:BQ}(h:CL a H q c)(hp:H p=some u)(n:∀C d fs,u=HO.ins C d fs->fs.lookup ("state" : Str)=none/\fs.lookup ("wanted" : Str)=none/\fs.lookup ("makes" : Str)=none)(nt:∀xs,u≠.tup xs):CL a (upd H p o) q c:=by
 have other:∀{b v},H b=some v->v≠u->upd H p o b=some v:=λ{b v} e d=>by rw[Ar (AD e hp d)];exact e
 cases h with
 |am h ht =>
  refine .am (other h λz=>?_) (other ht λz=>nt _ z.symm);have:=(n _ _ _ z.symm).1;rw[Wf A0]at this;cases this
 |pl h ht =>
  refine .pl (other h λz=>?_) (other ht λz=>nt _ z.symm);have:=(n _ _ _ z.symm).2.1;rw[fl1_1]at this;cases this
theorem BH.put{a:Ad}{H:Hp}{p q:Addr}{o u:HO}{c:Bp}(h:BH a H q c)(hp:H p=some u)(n:∀C d fs,u=HO.ins C d fs->fs.lookup ("state" : Str)=none/\fs.lookup ("wanted" : Str)=none/\fs.lookup ("makes" : Str)=none)(nt:∀xs,u≠.tup xs):BH a (upd H p o) q c:=by
 have other:∀{b v},H b=some v->v≠u->upd H p o b=some v:=λ{b v} e d=>by rw[Ar (AD e hp d)];exact e
 obtain⟨dx,t,cs,h1,h2,h3⟩:=h.ex;refine⟨dx,t,cs,other h1 λz=>?_,other h2 λz=>nt _ z.symm,Paired.imp (λ_ _ z=>z.put hp n nt) h3⟩;have:=(n _ _ _ z.symm).2.2;rw[fl3_3]at this;cases this
section
variable{P:Program}{w:World}{K:PySem.W.Frag}{mg:Str->Option Value}{base:Heap}{a:Ad}
inductive SpCT(vs:List V)(H:Hp)(Q:VK):Prop
 |mk (r:AH) (_:vs=[.str (Df r)]) (_:Nw r) (_:∀(l:Addr)(H':Hp),AA H H'->H' l=some (.lst (r.map λc=>V.str (BW c)))->Q (.ref l) H'):SpCT vs H Q
def spCT:Sp:=λvs H Q _=>SpCT vs H Q
theorem ok_ct{f:Addr}{fd:FuncData}(F:Fun K "clause_texts" "clause_texts" Eu f fd)(T:Top K mg a):AJ P w K mg base CX0 1 f fd EE spCT:=by
 refine F.ok LU (λvs H Q E h=>?_) (λcdv A outer s H vs Q E hr h=>?_)
 ·obtain⟨r,rfl,_⟩:=h;rfl
 ·obtain⟨r,rfl,ho,k⟩:=h;have hlen:=Qm ho;refine⟨_,(Ac (AN (Ax CQ (pv 0) Id (AC _)) (Ag (As (CA Ab))) AB) (Ag (As (GM K3 PySem.F.slot_str_split PySem.F.type_str_split QH (pv 0) (Aa (Mj rfl T.k_CLAUSE_MARK) Ab))))),?_⟩
  try dsimp only[cxK]
  refine xq1 rfl ⟨rfl,(xq1 rfl ?_)⟩;by_cases hr0:r=[]
  ·subst hr0;refine BT ⟨(by show 0<=sizeLine;decide),λl hl=>?_⟩;exact k l _ (AE hl) Af
  ·rw[rule_ne hr0];refine Bb (xq1 rfl ⟨rfl,(xq2 rfl rfl ⟨A0,B4,λl hl=>?_⟩)⟩);have em:Str.ofString "; " = (⟨#[59,32]⟩:Str):=by decide +kernel
   have e:Txt.split (Df r) (Str.ofString "; ")=r.map BW:=by
    rw[em];refine Tx.Qc _ (by simpa using hr0) λt ht=>?_;obtain⟨c,hc,rfl⟩:=D6.mp ht;exact QV (ho.ok c hc)
   rw[e,R6];exact k l _ (AE hl) Af
inductive SpRI(a:Ad)(vs:List V)(H:Hp)(Q:VK):Prop
 |mk (p dx:Addr) (r:AH) (_:vs=[.ref p,.str (Df r)]) (_:H p=some (.ins a.c_Rule dx [])) (_:Nw r) (_:∀H',(∀b o,H b=some o->b≠p->H' b=some o)->Cp a H' p (Df r) r->Q .non H'):SpRI a vs H Q
def spRI(a:Ad):Sp:=λvs H Q _=>SpRI a vs H Q
theorem ok_ri{f:Addr}{fd:FuncData}(F:Fun K "__init__" "Rule.__init__" EU f fd)(T:Top K mg a)(bG:Cal P w K mg base CX0 1 "clause_texts" EE spCT)(bK:Cal P w K mg base CX0 5 "read_clause" Fx (spRC a)) :
  AJ P w K mg base CX0 6 f fd Il (spRI a):=by
 refine F.ok OU (λvs H Q E h=>?_) (λcdv A outer s H vs Q E hr h=>?_)
 ·obtain⟨p,dx,r,rfl,_⟩:=h;rfl
 ·obtain⟨p,dx,r,rfl,hp,ho,k⟩:=h;have hlen:=Qm ho;have f50:=ho.few;refine⟨_,(Ac (Cc (pv 0) (pv 1) rfl) (Ag (Cc (pv 0) (BY BS rfl T.b_tuple Y7 (Aa (CH rfl (BD.of (So:=Ah EU) (No:=LS) (N:=["part"]) (k:=1) (cs:=[]) rfl rfl A0) (Cs (Aq bG (rm hr) rfl An (Aa (pv 1) Ab))) (λ_ _ _=>(Bk (i:=0) A0 rfl rfl)) (λ_ _ _=>BL) (λ_ _ _=>(Aq bK (rm hr) rfl An (Aa (pv 0) Ab)))) Ab)) rfl))),?_⟩
  try dsimp only[cxK]
  refine xw2 rfl rfl ⟨p,_,dx,[],rfl,hp,T.cl_Rule,T.na_Rule_text,B2,?_⟩;generalize hH1:upd H p (.ins a.c_Rule dx (AO "text" (.str (Df r)) []))=H1;have hp1:H1 p=some (.ins a.c_Rule dx (AO "text" (.str (Df r)) [])):=by rw[<-hH1];exact Af
  have k1:∀b o,H b=some o->b≠p->H1 b=some o:=λb o e n=>by rw[<-hH1,Ar n];exact e
  refine xq1 rfl ⟨r,rfl,ho,λl H2 s2 hl=>⟨l,rfl,⟨_,SqL.of hl⟩,?_⟩⟩;refine DT (xs:=r.map λc=>V.str (BW c)) (λi acc H3=>∃ps:List Addr,acc=ps.map V.ref/\AA H2 H3/\Paired (BH a H3) ps (r.take i)) ⟨[],rfl,AA.refl H2,.nil⟩ (λi acc H3 _ ⟨ps,_,sm,_⟩=>SqL.of (sm _ _ hl)) ?_ ?_
  ·rintro i x acc H3 hx ⟨ps,rfl,sm,pr⟩;rw[B9]at hx;obtain⟨c,ec,rfl⟩:=D5.mp hx;refine⟨⟨[some (.str (BW c))],rfl,rfl⟩,?_,?_⟩
   ·have e1:=W8 pr;rw[J9]at e1;rw[B5,e1];exact F6 (S3 _ _) (F6 f50 A3)
   ·refine GV (xq1 rfl ⟨c,rfl,ho.ok c (D4 ec),λq H4 s4 hq=>⟨ps++[q],by rw[C9];rfl,sm.trans s4,?_⟩⟩);rw[F8,ec];exact X4 (Paired.imp (λ_ _ z=>z.same s4) pr) hq
  ·rintro acc H3 ⟨ps,rfl,sm,pr⟩ q nq;rw[B5,L6]at pr;refine⟨q,(xq1 rfl (.inl ⟨SqL.of Af,λt ht=>?_⟩))⟩;generalize hH4:upd (upd H3 q (.lst (ps.map V.ref))) t (.tup (ps.map V.ref))=H4;have s34:AA H3 H4:=by rw[<-hH4];exact(AE nq).trans (AE ht)
   have ht4:H4 t=some (.tup (ps.map V.ref)):=by rw[<-hH4];exact Af
   have s14:AA H1 H4:=(s2.trans sm).trans s34;have ntp:t≠p:=λz=>by rw[z,s14 _ _ hp1]at ht4;cases ht4
   refine xq1 rfl ⟨p,_,dx,(xq1 rfl ⟨s14 _ _ hp1,T.cl_Rule,T.na_Rule_clauses,B3,?_⟩)⟩;have up:∀b o,H4 b=some o->b≠p->upd H4 p (.ins a.c_Rule dx (fl2 "text" "clauses" (.str (Df r)) (.ref t))) b=some o:=λb o e n=>by rw[Ar n];exact e
   have cl:∀q' c,BH a H4 q' c->BH a (upd H4 p (.ins a.c_Rule dx (fl2 "text" "clauses" (.str (Df r)) (.ref t)))) q' c:=λq' c hc=>by
    exact hc.put (s14 _ _ hp1) (λC d fs e=>by
     cases e;exact⟨PB A0,PB A0,PB A0⟩) (λxs z=>by cases z)
   exact k _ (λb o e n=>up _ _ (s14 _ _ (k1 b o e n)) n) ⟨dx,t,ps,Af,up _ _ ht4 ntp,Paired.imp (λq' c z=>cl q' c (z.same s34)) pr⟩
def GT:List Int:=[0,0,0,0,0,0,0,0]
inductive SpRR(a:Ad)(vs:List V)(H:Hp)(Q:VK):Prop
 |mk (r:AH) (_:vs=[.str (Df r)]) (_:Nw r) (_:GF r 0 GT=0) (_:∀(p:Addr)(H':Hp),AA H H'->Cp a H' p (Df r) r->Q (.ref p) H'):SpRR a vs H Q
def spRR(a:Ad):Sp:=λvs H Q _=>SpRR a vs H Q
theorem ok_rr{f:Addr}{fd:FuncData}(F:Fun K "read_rule" "read_rule" GX f fd)(T:Top K mg a)(cM:PU P w K mg base CX0 6 "Rule" a.c_Rule Il (spRI a))(bA:Cal P w K mg base CX0 5 "becomes" IB (SE a)) :
  AJ P w K mg base CX0 8 f fd Ie (spRR a):=by
 refine F.ok Jt (λvs H Q E h=>?_) (λcdv A outer s H vs Q E hr h=>?_)
 ·obtain⟨r,rfl,_⟩:=h;rfl
 ·obtain⟨r,rfl,ho,hz,k⟩:=h;refine⟨_,(Ac (AN (Ds (CY (AL CS rfl T.b_isinstance V6 (Aa (pv 0) (Aa (Dt (v:=.ty "str") rfl T.b_str PyProof.Rows.boot_str rfl) Ab))))) (Ag Bj) AB) (Ac (Ao (i:=1) Jt.nd rfl (Or.inl rfl) (JE cM (rm hr) rfl An (Aa (pv 0) Ab))) (Ac (AN (Ax GN (Aq bA (rm hr) rfl An (Aa (pv 1) (Bh (Bl op_rep (CA (Bh Ab)) (BI rfl T.k_NEIGHBOURS) Ab)))) Ae (AC _)) (Ag Bj) AB) (Ag (As (pv 1)))))),?_⟩
  try dsimp only[cxK]
  refine xq1 rfl ⟨_,_,_,.type "str",true,rfl,rfl,.of (.str _),Sw K,true,rfl,?_⟩;refine Bb (xq1 rfl ?_);intro x dx nx ndx nex;refine⟨x,dx,r,rfl,Af,ho,λH2 kp hR=>⟨rfl,?_⟩⟩;have s2:AA H H2:=λb o e=>kp b o (by rw[Ar (Av e nx),Ar (Av e ndx)];exact e) (Av e nx);refine xq1 rfl ⟨(by show 1<=sizeLine;decide),λl hl=>?_⟩;refine⟨l,8,(xq1 rfl ⟨rfl,Af,A3,A3,A3,λm hm=>?_⟩)⟩;have s3:=(s2.trans (AE (o:=.lst [.int 0]) hl)).trans (AE (o:=.lst (GT.map V.int)) hm);have s23:=(AE (o:=.lst [.int 0]) hl).trans (AE (o:=.lst (GT.map V.int)) hm);refine⟨x,m,_,r,0,GT,rfl,hR.same s23,ho.rok,Af,λH4 s4=>?_⟩;refine⟨rfl,(xq1 rfl ?_)⟩;rw[hz];refine LT rfl (xq1 rfl ?_);exact k x H4 (s3.trans s4) ((hR.same s23).same s4)
end
end J
namespace J
open PySem L2
structure Sq where
 parts:List Int
 lev:Int
abbrev Gv:=List Sq
structure GA where
 p:Addr
 dx:Addr
 lv:Addr
 pt:Addr
 nm:Addr
 br:Addr
 am:Addr
 bx:Addr
def fl6(g:GA):List (Str×V):=AO "boxes" (.ref g.bx) (AO "amounts" (.ref g.am) (AO "bares" (.ref g.br) (AO "numbers" (.ref g.nm) (AO "parts" (.ref g.pt) (AO "levels" (.ref g.lv) [])))))
theorem EK(g:GA):(fl6 g).lookup ("levels" : Str)=some (V.ref g.lv):=by
 unfold fl6;rw[Ai,V0 A0,Ai,V0 A0,Ai,V0 A0,Ai,V0 A0,Ai,V0 A0,Ai,V2 rfl]
theorem Ci(g:GA):(fl6 g).lookup ("parts" : Str)=some (V.ref g.pt):=by
 unfold fl6;rw[Ai,V0 A0,Ai,V0 A0,Ai,V0 A0,Ai,V0 A0,Ai,V2 rfl]
theorem Wc(g:GA):(fl6 g).lookup ("numbers" : Str)=some (V.ref g.nm):=by
 unfold fl6;rw[Ai,V0 A0,Ai,V0 A0,Ai,V0 A0,Ai,V2 rfl]
theorem Iu(g:GA):(fl6 g).lookup ("bares" : Str)=some (V.ref g.br):=by
 unfold fl6;rw[Ai,V0 A0,Ai,V0 A0,Ai,V2 rfl]
theorem fl6_am(g:GA):(fl6 g).lookup ("amounts" : Str)=some (V.ref g.am):=by
 unfold fl6;rw[Ai,V0 A0,Ai,V2 rfl]
theorem Wd(g:GA):(fl6 g).lookup ("boxes" : Str)=some (V.ref g.bx):=by
 unfold fl6;rw[Ai,V2 rfl]
theorem GC(g:GA){m:Str}(h1:¬m=("boxes" : Str))(h2:¬m=("amounts" : Str))(h3:¬m=("bares" : Str))(h4:¬m=("numbers" : Str))(h5:¬m=("parts" : Str))(h6:¬m=("levels" : Str)):(fl6 g).lookup m=none:=by
 unfold fl6;rw[Ai,V0 h1,Ai,V0 h2,Ai,V0 h3,Ai,V0 h4,Ai,V0 h5,Ai,V0 h6];rfl
theorem Pe(g:GA):(fl6 g).lookup ("kept" : Str)=none:=GC g A0 A0 A0 A0 A0 A0
theorem BE(g:GA):(fl6 g).lookup ("linked" : Str)=none:=GC g A0 A0 A0 A0 A0 A0
theorem Qz(g:GA):(fl6 g).lookup ("check_square" : Str)=none:=GC g A0 A0 A0 A0 A0 A0
theorem SN(g:GA):(fl6 g).lookup ("leaf" : Str)=none:=GC g A0 A0 A0 A0 A0 A0
theorem DI(g:GA):(fl6 g).lookup ("level_of" : Str)=none:=GC g A0 A0 A0 A0 A0 A0
theorem RD(g:GA):(fl6 g).lookup ("state_of" : Str)=none:=GC g A0 A0 A0 A0 A0 A0
def kOf(ps:List Int):List Key:=ps.map Sum.inl
theorem VT(ps:List Int):(kOf ps).map kV=ps.map V.int:=by unfold kOf;rw[R6];rfl
theorem Pu:∀{ps qs:List Int},kOf ps=kOf qs->ps=qs
 |[],[],_=>rfl
 |[],_::_,h=>by cases h
 |_::_,[],h=>by cases h
 |x::r,y::t,h=>by
  have h:Sum.inl x::kOf r=(Sum.inl y:Key)::kOf t:=h;injection h with h1 h2
  injection h1 with h1
  rw[h1,Pu h2]
def Ir:Nat->Gv->List (List Key×V)
 |_,[]=>[]
 |n,q::r=>(kOf q.parts,.int (n:Int))::Ir (n+1) r
theorem QM:∀(G:Gv)(n:Nat),(Ir n G).length=G.length
 |[],_=>rfl
 |q::r,n=>by show(Ir (n+1) r).length+1=r.length+1;rw[QM r]
theorem Oe(q:Sq):∀(G:Gv)(n:Nat),Ir n (G++[q])=Ir n G++[(kOf q.parts,.int ((n+G.length:Nat):Int))]
 |[],_=>rfl
 |p::r,n=>by
  show(kOf p.parts,V.int (n:Int))::Ir (n+1) (r++[q])=_;rw[Oe q r (n+1)];show _=(kOf p.parts,V.int (n:Int))::(Ir (n+1) r++[(kOf q.parts,V.int ((n+(r.length+1):Nat):Int))]);rw[show n+1+r.length=n+(r.length+1) by lia]
theorem Pt(ps:List Int):∀(G:Gv)(n:Nat),(∃(i:Nat)(q:Sq),G[i]?=some q/\q.parts=ps/\BB (Ir n G) (kOf ps)=some (.int ((n+i:Nat):Int)))\/(BB (Ir n G) (kOf ps)=none/\∀q∈G,q.parts≠ps)
 |[],n=>.inr ⟨rfl,λq hq=>by simp at hq⟩
 |p::r,n=>by
  by_cases e:p.parts=ps
  ·exact .inl ⟨0,p,rfl,e,BG (by rw[e])⟩
  ·have ne:¬(kOf p.parts,V.int (n:Int)).1=kOf ps:=λz=>e (Pu z);rcases Pt ps r (n+1)with ⟨i,q,h1,h2,h3⟩|⟨h1,h2⟩
   ·refine .inl ⟨i+1,q,h1,h2,?_⟩;show BB ((kOf p.parts,V.int (n:Int))::Ir (n+1) r) (kOf ps)=_;rw[Bq ne,h3,show n+1+i=n+(i+1) by lia]
   ·refine .inr ⟨?_,λq hq=>?_⟩
    ·show BB ((kOf p.parts,V.int (n:Int))::Ir (n+1) r) (kOf ps)=_;rw[Bq ne,h1]
    ·rcases B8.mp hq with rfl|hq
     ·exact e
     ·exact h2 q hq
def TupAt(H:Hp)(t:Addr)(q:Sq):Prop:=H t=some (.tup (q.parts.map V.int))
structure AI(a:Ad)(H:Hp)(g:GA)(G:Gv):Prop where
 hp:H g.p=some (.ins a.c_Grove g.dx (fl6 g))
 lv:H g.lv=some (.lst (G.map λq=>.int q.lev))
 pt:∃ts:List Addr,H g.pt=some (.lst (ts.map V.ref))/\Paired (TupAt H) ts G
 nm:H g.nm=some (.dT (Ir 0 G))
 ne:g.lv≠g.pt
def Fr(g:GA)(H H':Hp):Prop:=∀b o,H b=some o->b≠g.lv->b≠g.pt->b≠g.nm->H' b=some o
theorem Fr.refl(g:GA)(H:Hp):Fr g H H:=λ_ _ e _ _ _=>e
theorem Fr.trans{g:GA}{H1 H2 H3:Hp}(h:Fr g H1 H2)(h2:Fr g H2 H3):Fr g H1 H3:=λb o e n1 n2 n3=>h2 b o (h b o e n1 n2 n3) n1 n2 n3
theorem AA.fr{g:GA}{H1 H2:Hp}(h:AA H1 H2):Fr g H1 H2:=λb o e _ _ _=>h b o e
theorem PairedM.imp{α β:Type}{F G:α->β->Prop}(h:∀x y,F x y->G x y):∀{l:List α}{m:List β},Paired F l m->Paired G l m
 |_,_,.nil=>.nil
 |_,_,.cons r t=>.cons (h _ _ r) (PairedM.imp h t)
theorem PairedM.get{α β:Type}{F:α->β->Prop}:∀{l:List α}{m:List β}{i:Nat}{y:β},Paired F l m->m[i]?=some y->∃x,l[i]?=some x/\F x y
 |_,_,_,_,.nil,e=>by simp at e
 |_,_,0,_,.cons r _,e=>by simp at e;subst e;exact⟨_,rfl,r⟩
 |_,_,i+1,y,.cons _ t,e=>by
  obtain⟨x,h1,h2⟩:=PairedM.get (i:=i) (y:=y) t (by simpa using e);exact⟨x,by simpa using h1,h2⟩
theorem Ay{H:Hp}{p:Addr}{o:HO}(h:H p=none):AA H (upd H p o):=λb u e=>by
 rw[Ar (Av e h)];exact e
theorem AI.same{a:Ad}{H H':Hp}{g:GA}{G:Gv}(s:AA H H')(h:AI a H g G):AI a H' g G:=by
 obtain⟨h1,h2,⟨ts,h3,h4⟩,h5,h6⟩:=h;exact⟨s _ _ h1,s _ _ h2,⟨ts,s _ _ h3,PairedM.imp (λt q z=>s _ _ z) h4⟩,s _ _ h5,h6⟩
theorem AI.put{a:Ad}{H:Hp}{g:GA}{G:Gv}{l:Addr}{xs:List V}{o:HO}(hl:H l=some (.lst xs))(n1:l≠g.lv)(n2:l≠g.pt)(h:AI a H g G):AI a (upd H l o) g G:=by
 obtain⟨h1,h2,⟨ts,h3,h4⟩,h5,h6⟩:=h;have other:∀{b v},H b=some v->v≠.lst xs->upd H l o b=some v:=λ{b v} e n=>by rw[Ar (AD e hl n)];exact e
 exact⟨other h1 A4,by rw[Ar (V5 n1)];exact h2,⟨ts,by rw[Ar (V5 n2)];exact h3,PairedM.imp (λt q z=>other z A4) h4⟩,other h5 A4,h6⟩
def Ak(G:Gv)(x:Nat)(l:Int):Prop:=∃q,G[x]?=some q/\q.lev=l
structure GOk(G:Gv):Prop where
 leaf:∀s:Nat,s<8->G[s]?=some ⟨[(s:Int)],0⟩
 node:∀(i:Nat) q,G[i]?=some q->8<=i->∃x y z w:Nat,q.parts=[(x:Int),(y:Int),(z:Int),(w:Int)]/\(Ak G x (q.lev-1)/\Ak G y (q.lev-1)/\Ak G z (q.lev-1)/\Ak G w (q.lev-1))/\1<=q.lev/\q.lev<=48
 nd:(G.map Sq.parts).Nodup
theorem Ak.lt{G:Gv}{x:Nat}{l:Int}(h:Ak G x l):x<G.length:=by
 obtain⟨q,h,_⟩:=h;exact(B6.mp h).1
theorem JM{G r:Gv}{x:Nat}{q:Sq}(h:G[x]?=some q):(G++r)[x]?=some q:=by
 rw[L8 (B6.mp h).1];exact h
theorem Ak.app{G r:Gv}{x:Nat}{l:Int}(h:Ak G x l):Ak (G++r) x l:=by
 obtain⟨q,h,e⟩:=h;exact⟨q,JM h,e⟩
theorem GOk.lev{G:Gv}(h:GOk G){i:Nat}{q:Sq}(e:G[i]?=some q):0<=q.lev/\q.lev<=48:=by
 by_cases h8:i<8
 ·rw[h.leaf i h8]at e;cases e;exact⟨Int.le_refl 0,by show(0:Int)<=48;decide⟩
 ·obtain⟨x,y,z,w,_,_,h1,h2⟩:=h.node i q e A1;exact⟨by lia,h2⟩
theorem GOk.snoc{G:Gv}(h:GOk G){x y z w:Nat}{l:Int}(hx:Ak G x l)(hy:Ak G y l)(hz:Ak G z l)(hw:Ak G w l)(h47:l<=47)(new:∀q∈G,q.parts≠[(x:Int),(y:Int),(z:Int),(w:Int)]):GOk (G++[⟨[(x:Int),(y:Int),(z:Int),(w:Int)],l+1⟩]) where
 leaf:=λs hs=>JM (h.leaf s hs)
 node:=λi q e hi=>by
  by_cases hl:i<G.length
  ·rw[L8 hl]at e;obtain⟨x,y,z,w,h1,⟨a1,a2,a3,a4⟩,h3⟩:=h.node i q e hi;exact⟨x,y,z,w,h1,⟨a1.app,a2.app,a3.app,a4.app⟩,h3⟩
  ·rw[F3 A1]at e;have:i-G.length=0:=by
    by_cases z:i-G.length=0
    ·exact z
    ·rw[T5 (by rw[P2];lia)]at e;cases e
   rw[this]at e;cases e;obtain⟨q0,e0,l0⟩:=hx;have:=(h.lev e0).1;have el:l+1-1=l:=by lia
   refine⟨x,y,z,w,rfl,?_,?_,?_⟩
   ·show Ak _ x (l+1-1)/\Ak _ y (l+1-1)/\Ak _ z (l+1-1)/\Ak _ w (l+1-1);rw[el];exact⟨Ak.app ⟨q0,e0,l0⟩,hy.app,hz.app,hw.app⟩
   ·show 1<=l+1;lia
   ·show l+1<=48;lia
 nd:=by
  rw[C9,R0];refine⟨h.nd,by simp,λp hp p' hp'=>?_⟩;obtain⟨q,hq,rfl⟩:=D6.mp hp;rw[show p'=[(x:Int),(y:Int),(z:Int),(w:Int)] by simpa using hp'];exact new q hq
theorem GOk.one{G:Gv}(h:GOk G){i j:Nat}{p q:Sq}(hi:G[i]?=some p)(hj:G[j]?=some q)(e:p.parts=q.parts):i=j:=by
 have li:=(B6.mp hi).1;have lj:=(B6.mp hj).1;have h1:(G.map Sq.parts)[i]'(by rw[B5];exact li)=(G.map Sq.parts)[j]'(by rw[B5];exact lj):=by
  rw[List.getElem_map,List.getElem_map,(B6.mp hi).2,(B6.mp hj).2,e]
 exact(List.getElem_inj h.nd).mp h1
seal L2.PA L2.PE L2.PS L2.PSs L2.PT L2.PW
theorem IT{n:Nat}(h:n<10000000):n<sizeLine:=D8 h A3
theorem kit_w(K:PySem.W.Frag):kitOne K (.type "int") (.type "int")=some true/\kitOne K (.type "int") (.type "bool")=some false:=⟨by kernel_rfl,by kernel_rfl⟩
section
variable{P:Program}{w:World}{K:PySem.W.Frag}{mg:Str->Option Value}{base:Heap}{a:Ad}
inductive SpIW(vs:List V)(H:Hp)(Q:VK):Prop
 |mk (i:Int) (_:vs=[.int i]) (_:Q (.bl true) H):SpIW vs H Q
def UU:Sp:=λvs H Q _=>SpIW vs H Q
theorem ok_iw{f:Addr}{fd:FuncData}(F:Fun K "is_whole" "is_whole" Gc f fd)(T:Top K mg a):AJ P w K mg base CX0 1 f fd CZ UU:=by
 refine F.ok LP (λvs H Q E h=>?_) (λcdv A outer s H vs Q E hr h=>?_)
 ·obtain⟨i,rfl,_⟩:=h;rfl
 ·obtain⟨i,rfl,k⟩:=h;exact⟨_,(Ag (As (DZ (AL CS rfl T.b_isinstance V6 (Aa (pv 0) (Aa (Dt (v:=.ty "int") rfl T.b_int Z1 rfl) Ab))) (Fv (OY (AL CS rfl T.b_isinstance V6 (Aa (pv 0) (Aa (Dt (v:=.ty "bool") rfl T.b_bool K5 rfl) Ab)))))))),(xq1 rfl ⟨_,_,_,.type "int",true,rfl,rfl,.of (.int i),(kit_w K).1,true,rfl,BT (xq1 rfl ⟨_,_,_,.type "int",false,rfl,rfl,.of (.int i),(kit_w K).2,false,rfl,k⟩)⟩)⟩
inductive SpIS(vs:List V)(H:Hp)(Q:VK):Prop
 |mk (i:Int) (_:vs=[.int i]) (_:0<=i) (_:i<8) (_:Q (.bl true) H):SpIS vs H Q
def spIS:Sp:=λvs H Q _=>SpIS vs H Q
theorem ok_is{f:Addr}{fd:FuncData}(F:Fun K "is_state" "is_state" Jc f fd)(T:Top K mg a)(aC:Cal P w K mg base CX0 1 "is_whole" CZ UU):AJ P w K mg base CX0 2 f fd Gq spIS:=by
 refine F.ok Qj (λvs H Q E h=>?_) (λcdv A outer s H vs Q E hr h=>?_)
 ·obtain⟨i,rfl,_⟩:=h;rfl
 ·obtain⟨i,rfl,h0,h1,k⟩:=h;refine⟨_,(Ag (As (DZ (Aq aC (rm hr) rfl An (Aa (pv 0) Ab)) (Fv (Vh JG GO Ae (pv 0) (BI rfl T.k_STATES)))))),?_⟩
  try dsimp only[cxK]
  refine xq1 rfl ⟨i,rfl,true,rfl,BT (xwb rfl rfl rfl (xq1 rfl ?_))⟩;rw[V1 h0];refine BT (xq2 rfl rfl ?_);show Q (.bl (decide (i<8))) H;rw[V1 h1];exact k
inductive Wz(a:Ad)(vs:List V)(H:Hp)(Q:VK):Prop
 |mk (g:GA) (G:Gv) (t:Addr) (ps:List Int) (l:Int) (_:vs=[.ref g.p,.ref t,.int l]) (_:AI a H g G) (_:H t=some (.tup (ps.map V.int))) (_:(∀q∈G,q.parts≠ps)) (_:G.length<9000000) (_:∀H',Fr g H H'->AI a H' g (G++[⟨ps,l⟩])->Q (.int (G.length:Int)) H'):Wz a vs H Q
def ON(a:Ad):Sp:=λvs H Q _=>Wz a vs H Q
theorem ok_kept{f:Addr}{fd:FuncData}(F:Fun K "kept" "Grove.kept" Gj f fd)(T:Top K mg a):AJ P w K mg base CX0 1 f fd El (ON a):=by
 refine F.ok IO (λvs H Q E h=>?_) (λcdv A outer s H vs Q E hr h=>?_)
 ·obtain⟨g,G,t,ps,l,rfl,_⟩:=h;rfl
 ·obtain⟨g,G,t,ps,l,rfl,hg,ht,new,few,k⟩:=h;obtain⟨h1,h2,⟨ts,h3,h4⟩,h5,h6⟩:=hg;have lt:ts.length=G.length:=W8 h4;refine⟨_,(Ac (Ao (i:=3) IO.nd rfl (Or.inl rfl) (AL BP rfl T.b_len Y8 (Aa (Az (pv 0) rfl) Ab))) (Ac (Iz (FK hr) (Az (pv 0) rfl) (pv 1) (pv 3) rfl) (Ac (Cd (GM W3 W5 W6 Dg (Az (pv 0) rfl) (Aa (pv 2) Ab))) (Ac (Cd (GM W3 W5 W6 Dg (Az (pv 0) rfl) (Aa (pv 1) Ab))) (Ag (As (pv 3))))))),?_⟩
  try dsimp only[cxK]
  refine xwf rfl rfl h1 T.cl_Grove T.na_Grove_levels (EK g) ⟨g.lv,(xq1 rfl ⟨.inl (SqL.of h2),?_⟩)⟩;rw[B5];have ne1:g.p≠g.nm:=AD h1 h5 A4;have ne2:g.lv≠g.nm:=AD h2 h5 A4;have ne3:g.pt≠g.nm:=AD h3 h5 A4;have ne4:g.p≠g.lv:=AD h1 h2 A4;have ne5:g.p≠g.pt:=AD h1 h3 A4;have vn:BB (Ir 0 G) (kOf ps)=none:=by
   rcases Pt ps G 0 with ⟨i,q,e1,e2,_⟩|⟨e,_⟩
   ·exact absurd e2 (new q (D4 e1))
   ·exact e
  refine xw2 rfl rfl (xq5 h1 T.cl_Grove T.na_Grove_numbers (Wc g) (xq1 rfl ⟨g.nm,(xq1 rfl ⟨Mb.t (k:=kOf ps) h5 (by rw[VT];exact ht) (by rw[QM];exact IT A1),?_⟩)⟩));rw[Jz _ vn];have e5:Ir 0 G++[(kOf ps,V.int (G.length:Int))]=Ir 0 (G++[⟨ps,l⟩]):=by rw[Oe,N2]
  rw[e5];generalize hH1:upd H g.nm (.dT (Ir 0 (G++[⟨ps,l⟩])))=H1;have k1:∀b o,H b=some o->b≠g.nm->H1 b=some o:=λb o e n=>by rw[<-hH1,Ar n];exact e
  have n1:H1 g.nm=some (.dT (Ir 0 (G++[⟨ps,l⟩]))):=by rw[<-hH1];exact Af
  refine xwf rfl rfl (k1 _ _ h1 ne1) T.cl_Grove T.na_Grove_levels (EK g) ⟨.inl ⟨rfl,_,SqL.of (k1 _ _ h2 ne2)⟩,(xq1 rfl ⟨g.lv,(xq2 rfl rfl ⟨k1 _ _ h2 ne2,by rw[B5];exact IT A1,?_⟩)⟩)⟩;generalize hH2:upd H1 g.lv (.lst ((G.map λq=>V.int q.lev)++[.int l]))=H2;have k2:∀b o,H1 b=some o->b≠g.lv->H2 b=some o:=λb o e n=>by rw[<-hH2,Ar n];exact e
  have n2:H2 g.lv=some (.lst ((G++[(⟨ps,l⟩:Sq)]).map λq=>V.int q.lev)):=by rw[<-hH2,Af,C9];rfl
  have h3':=k2 _ _ (k1 _ _ h3 ne3) (V5 h6);refine xwf rfl rfl (k2 _ _ (k1 _ _ h1 ne1) ne4) T.cl_Grove T.na_Grove_parts (Ci g) ⟨.inl ⟨rfl,_,SqL.of h3'⟩,(xq1 rfl ⟨g.pt,(xq2 rfl rfl ⟨h3',by rw[B5,lt];exact IT A1,?_⟩)⟩)⟩;generalize hH3:upd H2 g.pt (.lst (ts.map V.ref++[.ref t]))=H3;have k3:∀b o,H2 b=some o->b≠g.pt->H3 b=some o:=λb o e n=>by rw[<-hH3,Ar n];exact e
  have n3:H3 g.pt=some (.lst ((ts++[t]).map V.ref)):=by rw[<-hH3,Af,C9];rfl
  have fr:Fr g H H3:=λb o e m1 m2 m3=>k3 _ _ (k2 _ _ (k1 _ _ e m3) m1) m2;have tp:∀(c:Addr)(xs:List V),H c=some (.tup xs)->H3 c=some (.tup xs):=λc xs e=>fr _ _ e (AD e h2 A4) (AD e h3 A4) (AD e h5 A4);refine xq1 rfl (k H3 fr ⟨fr _ _ h1 ne4 ne5 ne1,k3 _ _ n2 h6,⟨ts++[t],n3,X4 (PairedM.imp (λc q z=>tp c _ z) h4) (tp t _ ht)⟩,k3 _ _ (k2 _ _ n1 (V5 ne2)) (V5 ne3),h6⟩)
structure AG(G G':Gv)(n:Nat):Prop where
 ok:GOk G'
 pre:∃r,G'=G++r
 few:G'.length<=G.length+n
theorem AG.refl{G:Gv}(h:GOk G):AG G G 0:=⟨h,⟨[],by simp⟩,C0 _⟩
theorem AG.trans{G G' G'':Gv}{n m:Nat}(h:AG G G' n)(h2:AG G' G'' m):AG G G'' (n+m):=by
 obtain⟨r,e⟩:=h.pre;obtain⟨t,e2⟩:=h2.pre;have f1:=h.few;have f2:=h2.few;exact⟨h2.ok,⟨r++t,by rw[e2,e,P4]⟩,by lia⟩
theorem AG.get{G G':Gv}{n x:Nat}{q:Sq}(h:AG G G' n)(e:G[x]?=some q):G'[x]?=some q:=by
 obtain⟨r,e2⟩:=h.pre;rw[e2];exact JM e
theorem AG.lev{G G':Gv}{n x:Nat}{l:Int}(h:AG G G' n)(e:Ak G x l):Ak G' x l:=by
 obtain⟨q,e,z⟩:=e;exact⟨q,h.get e,z⟩
inductive Se(a:Ad)(vs:List V)(H:Hp)(Q:VK):Prop
 |mk (g:GA) (G:Gv) (t:Addr) (x y z w:Nat) (l:Int) (_:vs=[.ref g.p,.ref t]) (_:AI a H g G) (_:GOk G) (_:H t=some (.tup [.int x,.int y,.int z,.int w])) (_:(Ak G x l/\Ak G y l/\Ak G z l/\Ak G w l)) (_:l<=47) (_:G.length<9000000) (_:∀(n:Nat)(G':Gv)(H':Hp),Fr g H H'->AI a H' g G'->AG G G' 1->G'[n]?=some ⟨[(x:Int),(y:Int),(z:Int),(w:Int)],l+1⟩->Q (.int n) H'):Se a vs H Q
def DV(a:Ad):Sp:=λvs H Q _=>Se a vs H Q
theorem ok_link{f:Addr}{fd:FuncData}(F:Fun K "linked" "Grove.linked" Ev f fd)(T:Top K mg a)(aO:BK P w K mg base CX0 1 a.c_Grove "kept" El (ON a)):AJ P w K mg base CX0 2 f fd AQ (DV a):=by
 refine F.ok GK (λvs H Q E h=>?_) (λcdv A outer s H vs Q E hr h=>?_)
 ·obtain⟨g,G,t,x,y,z,w,l,rfl,_⟩:=h;rfl
 ·obtain⟨g,G,t,x,y,z,w,l,rfl,hg,ok,ht,⟨hx,hy,hz,hw⟩,h47,few,k⟩:=h;have hg0:=hg;obtain⟨h1,h2,⟨ts,h3,h4⟩,h5,h6⟩:=hg;refine⟨_,(Ac (Ao (i:=2) GK.nd rfl (Or.inl rfl) (JD (FK hr) (Az (pv 0) rfl) (pv 1) ⟨rfl,rfl,rfl,rfl⟩)) (Ac (AN (Ax Jk (pv 2) Cz (AC _)) (Ag (As (AF (pv 0) aO (rm hr) An (Aa (pv 1) (Bl Bw (Aj Aw (Az (pv 0) rfl) (Aj Am (pv 1) Ae (λ_ _=>rfl)) (λ_ _=>rfl)) Ae Ab))))) AB) (Ag (As (pv 2))))),?_⟩
  try dsimp only[cxK]
  refine xwf rfl rfl h1 T.cl_Grove T.na_Grove_numbers (Wc g) ⟨g.nm,rfl,.inr ⟨_,.inl h5⟩,(xq1 rfl ⟨_,GS.t (k:=kOf [(x:Int),(y:Int),(z:Int),(w:Int)]) h5 (by rw[VT];exact ht),?_⟩)⟩;rcases Pt [(x:Int),(y:Int),(z:Int),(w:Int)] G 0 with ⟨i,q,e1,e2,e3⟩|⟨e,new⟩
  ·rw[e3];refine xq1 rfl ⟨rfl,(xq1 rfl (Bb (xq1 rfl ?_)))⟩;rw[N2];refine k i G H (Fr.refl g H) hg0 ⟨ok,⟨[],by simp⟩,by lia⟩ ?_;have h8:8<=i:=by
    refine O8 λz'=>?_;rw[ok.leaf i z']at e1;cases e1;cases e2
   obtain⟨x',y',z',w',p1,⟨lx,_⟩,_⟩:=ok.node i q e1 h8;have exx:x'=x:=by
    rw[p1]at e2;injection e2 with e2 _
    exact V8 e2
   rw[exx]at lx;obtain⟨qa,a1,a2⟩:=lx;obtain⟨qb,b1,b2⟩:=hx;rw[a1]at b1;cases b1;have el:q.lev=l+1:=by lia
   rw[e1];cases q with
   |mk pp ll=>cases e2;cases el;rfl
  ·rw[e];refine xq1 rfl ⟨rfl,(xq1 rfl (BT ?_))⟩;obtain⟨q,e1,e2⟩:=id hx;refine xwn rfl rfl h1 (Pe g) rfl (xwf rfl rfl h1 T.cl_Grove T.na_Grove_levels (EK g) (xwi rfl rfl rfl (SqT.of ht) (Al (j:=0) rfl) (xq4 rfl rfl (SqL.of h2) (Al (by rw[B9,e1];rfl)) (xq2 rfl rfl ?_))));refine⟨g,G,t,[(x:Int),(y:Int),(z:Int),(w:Int)],l+1,by rw[<-e2];rfl,hg0,ht,new,few,λH' fr hg'=>?_⟩;refine k G.length _ H' fr hg' ⟨ok.snoc hx hy hz hw h47 new,⟨_,rfl⟩,by rw[C5];exact C0 _⟩ ?_;rw[F3 (C0 _),U5];rfl
inductive SpChk(a:Ad)(vs:List V)(H:Hp)(Q:VK):Prop
 |mk (g:GA) (G:Gv) (i:Nat) (_:vs=[.ref g.p,.int i]) (_:AI a H g G) (_:i<G.length) (_:Q .non H):SpChk a vs H Q
def SC(a:Ad):Sp:=λvs H Q _=>SpChk a vs H Q
theorem ok_chk{f:Addr}{fd:FuncData}(F:Fun K "check_square" "Grove.check_square" Cy f fd)(T:Top K mg a)(aC:Cal P w K mg base CX0 1 "is_whole" CZ UU):AJ P w K mg base CX0 2 f fd BN (SC a):=by
 refine F.ok GQ (λvs H Q E h=>?_) (λcdv A outer s H vs Q E hr h=>?_)
 ·obtain⟨g,G,i,rfl,_⟩:=h;rfl
 ·obtain⟨g,G,i,rfl,hg,hi,k⟩:=h;refine⟨_,(Ag (AN (PW.pt (IP (Ds (CY (Aq aC (rm hr) rfl An (Aa (pv 1) Ab)))) (Ft (Ds (Qq JG GO Ae (pv 1) (AL BP rfl T.b_len Y8 (Aa (Az (pv 0) rfl) Ab))))))) (Ag Bj) AB)),?_⟩
  try dsimp only[cxK]
  refine⟨_,rfl,_,rfl,true,rfl,Bb ⟨_,rfl,_,_,rfl,rfl,_,rfl,?_⟩⟩;rw[V1 (by lia:(0:Int)<=(i:Int))];refine BT (xwf rfl rfl hg.hp T.cl_Grove T.na_Grove_levels (EK g) ⟨g.lv,(xq1 rfl ⟨.inl (SqL.of hg.lv),(xq2 rfl rfl (xq1 rfl ?_))⟩)⟩);rw[B5,V1 (by lia:(i:Int)<(G.length:Int))];exact Bb k
inductive Wy(a:Ad)(vs:List V)(H:Hp)(Q:VK):Prop
 |mk (p:Addr) (i:Int) (_:vs=[.ref p,.int i]) (_:0<=i) (_:i<8) (_:Q (.int i) H):Wy a vs H Q
def OM(a:Ad):Sp:=λvs H Q _=>Wy a vs H Q
theorem ok_leaf{f:Addr}{fd:FuncData}(F:Fun K "leaf" "Grove.leaf" Gi f fd)(T:Top K mg a)(aY:Cal P w K mg base CX0 2 "is_state" Gq spIS):AJ P w K mg base CX0 3 f fd Ek (OM a):=by
 refine F.ok NG (λvs H Q E h=>?_) (λcdv A outer s H vs Q E hr h=>?_)
 ·obtain⟨g,i,rfl,_⟩:=h;rfl
 ·obtain⟨g,i,rfl,h0,h1,k⟩:=h;exact⟨_,(Ac (AN (Ds (CY (Aq aY (rm hr) rfl An (Aa (pv 1) Ab)))) (Ag Bj) AB) (Ag (As (pv 1)))),(xq1 rfl ⟨i,rfl,h0,h1,true,rfl,Bb (xq1 rfl k)⟩)⟩
inductive SpLev(a:Ad)(vs:List V)(H:Hp)(Q:VK):Prop
 |mk (g:GA) (G:Gv) (i:Nat) (q:Sq) (_:vs=[.ref g.p,.int i]) (_:AI a H g G) (_:G[i]?=some q) (_:Q (.int q.lev) H):SpLev a vs H Q
def LO(a:Ad):Sp:=λvs H Q _=>SpLev a vs H Q
theorem ok_lev{f:Addr}{fd:FuncData}(F:Fun K "level_of" "Grove.level_of" DC f fd)(T:Top K mg a)(aA:BK P w K mg base CX0 2 a.c_Grove "check_square" BN (SC a)):AJ P w K mg base CX0 3 f fd Ba (LO a):=by
 refine F.ok Jx (λvs H Q E h=>?_) (λcdv A outer s H vs Q E hr h=>?_)
 ·obtain⟨g,G,i,q,rfl,_⟩:=h;rfl
 ·obtain⟨g,G,i,q,rfl,hg,hi,k⟩:=h;refine⟨_,(Ac (Cd (AF (pv 0) aA (rm hr) An (Aa (pv 1) Ab))) (Ag (As (Aj Aw (Az (pv 0) rfl) (pv 1) (λ_ _=>rfl))))),?_⟩
  try dsimp only[cxK]
  refine xwn rfl rfl hg.hp (Qz g) rfl ⟨g,G,i,rfl,hg,(B6.mp hi).1,?_⟩;exact xwf rfl rfl hg.hp T.cl_Grove T.na_Grove_levels (EK g) (xwi rfl rfl rfl (SqL.of hg.lv) (Al (by rw[B9,hi];rfl)) k)
inductive SpSta(a:Ad)(vs:List V)(H:Hp)(Q:VK):Prop
 |mk (g:GA) (G:Gv) (i:Nat) (q:Sq) (_:vs=[.ref g.p,.int i]) (_:AI a H g G) (_:G[i]?=some q) (_:q.lev=0) (_:Q (.int i) H):SpSta a vs H Q
def UK(a:Ad):Sp:=λvs H Q _=>SpSta a vs H Q
theorem ok_sta{f:Addr}{fd:FuncData}(F:Fun K "state_of" "Grove.state_of" DB f fd)(T:Top K mg a)(a7:BK P w K mg base CX0 3 a.c_Grove "level_of" Ba (LO a)):AJ P w K mg base CX0 4 f fd DG (UK a):=by
 refine F.ok Jw (λvs H Q E h=>?_) (λcdv A outer s H vs Q E hr h=>?_)
 ·obtain⟨g,G,i,q,rfl,_⟩:=h;rfl
 ·obtain⟨g,G,i,q,rfl,hg,hi,h0,k⟩:=h;refine⟨_,(Ac (AN (Ax GN (AF (pv 0) a7 (rm hr) An (Aa (pv 1) Ab)) Ae (AC _)) (Ag Bj) AB) (Ag (As (pv 1)))),?_⟩
  try dsimp only[cxK]
  refine xwn rfl rfl hg.hp (DI g) rfl ⟨g,G,i,q,rfl,hg,hi,rfl,(xq1 rfl ?_)⟩;rw[h0];exact LT rfl (xq1 rfl k)
end
end J
namespace J
open PySem L2
section
variable{P:Program}{w:World}{K:PySem.W.Frag}{mg:Str->Option Value}{base:Heap}{a:Ad}
end
def bareN:Nat->Nat
 |0=>0
 |j+1=>8+j
def Dh(n:Nat):Gv:=(List.range n).map λ(s:Nat)=>(⟨[(s:Int)],0⟩:Sq)
def EM(n:Nat):Gv:=(List.range n).map λ(j:Nat)=>(⟨[(bareN j:Int),(bareN j:Int),(bareN j:Int),(bareN j:Int)],(j:Int)+1⟩:Sq)
def G0:Gv:=Dh 8++EM 48
theorem RP(n:Nat):Dh (n+1)=Dh n++[⟨[(n:Int)],0⟩]:=by unfold Dh;rw[T0,C9];rfl
theorem Nn(n:Nat):EM (n+1)=EM n++[⟨[(bareN n:Int),(bareN n:Int),(bareN n:Int),(bareN n:Int)],(n:Int)+1⟩]:=by unfold EM;rw[T0,C9];rfl
theorem Eo(n:Nat):(Dh n).length=n:=by unfold Dh;rw[B5,O5]
theorem OB(n:Nat):(EM n).length=n:=by unfold EM;rw[B5,O5]
theorem Uu{i j:Nat}(h:bareN i=bareN j):i=j:=by
 cases i<;>cases j
 ·rfl
 ·have:0=8+_:=h;lia
 ·have:8+_=0:=h;lia
 ·have:8+_=8+_:=h;lia
theorem Ua(n:Nat):∀q∈Dh n,q.parts≠[(n:Int)]:=λq hq z=>by
 obtain⟨s,hs,rfl⟩:=D6.mp hq;have:=M4.mp hs;injection z with z _
 have:s=n:=V8 z;lia
theorem OA(n:Nat):∀q∈Dh 8++EM n,q.parts≠[(bareN n:Int),(bareN n:Int),(bareN n:Int),(bareN n:Int)]:=λq hq z=>by
 rcases M6.mp hq with hq|hq
 ·obtain⟨s,hs,rfl⟩:=D6.mp hq;cases z
 ·obtain⟨s,hs,rfl⟩:=D6.mp hq;have:=M4.mp hs;injection z with z _
  have:=Uu (V8 z);lia
theorem RU:G0.length=56:=by unfold G0;rw[C5,Eo,OB]
theorem Mn(j:Nat)(h:j<48):G0[8+j]?=some ⟨[(bareN j:Int),(bareN j:Int),(bareN j:Int),(bareN j:Int)],(j:Int)+1⟩:=by
 unfold G0;rw[F3 (by rw[Eo];lia),Eo,show 8+j-8=j by lia];unfold EM;rw[B9,P9 h];rfl
theorem Px(s:Nat)(h:s<8):G0[s]?=some ⟨[(s:Int)],0⟩:=by
 unfold G0;rw[L8 (by rw[Eo];exact h)];unfold Dh;rw[B9,P9 h];rfl
theorem Wb(j:Nat)(h:j<=48):Ak G0 (bareN j) (j:Int):=by
 cases j with
 |zero=>exact⟨_,Px 0 A3,rfl⟩
 |succ j=>exact⟨_,Mn j A1,rfl⟩
theorem g0_nd:∀n,((Dh 8++EM n).map Sq.parts).Nodup
 |0=>by decide
 |n+1=>by
  rw[Nn,<-P4,C9,R0];refine⟨g0_nd n,by simp,λp hp p' hp'=>?_⟩;obtain⟨q,hq,rfl⟩:=D6.mp hp;rw[show p'=[(bareN n:Int),(bareN n:Int),(bareN n:Int),(bareN n:Int)] by simpa using hp'];exact OA n q hq
theorem g0_ok:GOk G0 where
 leaf:=Px
 node:=λi q e h8=>by
  have hi:i<56:=by rw[<-RU];exact(B6.mp e).1
  obtain⟨j,rfl⟩:∃j,i=8+j:=⟨i-8,by lia⟩
  rw[Mn j A1]at e;cases e;have:=Wb j A1;refine⟨bareN j,bareN j,bareN j,bareN j,rfl,?_,?_,?_⟩
  ·show Ak G0 _ ((j:Int)+1-1)/\Ak G0 _ ((j:Int)+1-1)/\Ak G0 _ ((j:Int)+1-1)/\Ak G0 _ ((j:Int)+1-1);rw[show(j:Int)+1-1=(j:Int) by lia];exact⟨this,this,this,this⟩
  ·show 1<=(j:Int)+1;lia
  ·show(j:Int)+1<=48;lia
 nd:=g0_nd 48
def amK(n:Nat):List (Key×V):=(List.range n).map λ(s:Nat)=>(Sum.inl (s:Int),V.int (if(1:Int)<(s:Int)then 1 else(s:Int)))
theorem Rf(n:Nat):amK (n+1)=amK n++[(Sum.inl (n:Int),V.int (if(1:Int)<(n:Int)then 1 else(n:Int)))]:=by unfold amK;rw[T0,C9];rfl
theorem amK_len(n:Nat):(amK n).length=n:=by unfold amK;rw[B5,O5]
theorem OD{κ:Type}[DecidableEq κ]{k:κ}:∀{l m:List (κ×V)},BB l k=none->BB (l++m) k=BB m k
 |[],_,_=>rfl
 |p::r,m,h=>by
  by_cases e:p.1=k
  ·rw[BG e]at h;cases h
  ·rw[Bq e]at h;show BB (p::(r++m)) k=_;rw[Bq e];exact OD h
theorem Rg(n:Nat):∀m,n<=m->BB (amK n) (Sum.inl (m:Int))=none:=by
 induction n with
 |zero=>intro m _;rfl
 |succ n ih =>
  intro m hm;rw[Rf,OD (ih m A1),Bq (by intro z;injection z with z;have:=V8 z;lia)];rfl
def CC(n:Nat):List Int:=(List.range (n+1)).map λj=>((bareN j:Nat):Int)
theorem Np(n:Nat):CC (n+1)=CC n++[((bareN (n+1):Nat):Int)]:=by unfold CC;rw[T0,C9];rfl
theorem Sc(n:Nat):(CC n).getLast?=some ((bareN n:Nat):Int):=by
 cases n with
 |zero=>rfl
 |succ n=>rw[Np,List.getLast?_append];rfl
theorem Wp{xs:List V}{x:V}(h:xs.getLast?=some x):atI xs (-1)=some x:=by
 obtain⟨ys,rfl⟩:=List.getLast?_eq_some_iff.mp h;unfold atI ixN;rw[V0 A3,V2 (by rw[C5,P2];lia)];show(ys++[x])[((-1:Int)+((ys++[x]).length:Nat)).toNat]?=some x;rw[C5,P2,show((-1:Int)+((ys.length+1:Nat):Int)).toNat=ys.length by lia,F3 (C0 _),U5];rfl
seal L2.PA L2.PE L2.PS L2.PSs L2.PT L2.PW
structure Rl(a:Ad)(H H':Hp)(g:GA)(G:Gv)(B:List Int)(am:List (Key×V)):Prop where
 kp:∀b o,H b=some o->b≠g.p->H' b=some o
 at':AI a H' g G
 br:H' g.br=some (.lst (B.map V.int))
 am:H' g.am=some (.dK am)
 bx:H' g.bx=some (.dK [])
 fresh:H g.lv=none/\H g.pt=none/\H g.nm=none/\H g.br=none/\H g.am=none/\H g.bx=none
 n1:g.br≠g.lv
 n2:g.br≠g.pt
 n3:g.am≠g.bx
section
variable{P:Program}{w:World}{K:PySem.W.Frag}{mg:Str->Option Value}{base:Heap}{a:Ad}
inductive Tl(a:Ad)(vs:List V)(H:Hp)(Q:VK):Prop
 |mk (p dx:Addr) (_:vs=[.ref p]) (_:H p=some (.ins a.c_Grove dx [])) (_:∀(g:GA)(H':Hp),g.p=p->Rl a H H' g G0 (CC 48) (amK 8)->Q .non H'):Tl a vs H Q
def OQ(a:Ad):Sp:=λvs H Q _=>Tl a vs H Q
theorem Vu{f:Addr}{fd:FuncData}(F:Fun K "__init__" "Grove.__init__" Gk f fd)(T:Top K mg a)(aO:BK P w K mg base CX0 1 a.c_Grove "kept" El (ON a)):AJ P w K mg base CX0 2 f fd Gx (OQ a):=by
 refine F.ok DK (λvs H Q E h=>?_) (λcdv A outer s H vs Q E hr h=>?_)
 ·obtain⟨p,dx,rfl,_⟩:=h;rfl
 ·obtain⟨p,dx,rfl,hp,k⟩:=h;refine⟨_,(Ac (Cc (pv 0) (CA Ab) rfl) (Ac (Cc (pv 0) (CA Ab) rfl) (Ac (Cc (pv 0) Qu rfl) (Ac (Cc (pv 0) (CA (Bh Ab)) rfl) (Ac (Cc (pv 0) JC rfl) (Ac (Cc (pv 0) JC rfl) (Ac (Fu W2 rfl (NW rfl T.b_range (Aa (BI rfl T.k_STATES) Ab)) (Ce (i:=1) DK.nd rfl (Or.inl rfl)) (Ac (Cd (AF (pv 0) aO (rm hr) An (Be (Aa (pv 1) Ab) (Bh Ab)))) (Ag (Iz (FK hr) (Az (pv 0) rfl) (pv 1) (AL (Us rfl) rfl T.b_min A0a (Aa (pv 1) (Bh Ab))) rfl)))) (Ag (Fu W2 rfl (Tz rfl T.b_range (Bh (Bl Bw (BI rfl T.k_TOP_LEVEL) Ae Ab))) (Ce (i:=2) DK.nd rfl (Or.inl rfl)) (Ac (Ao (i:=3) DK.nd rfl (Or.inl rfl) (Aj Aw (Az (pv 0) rfl) (GL DU Ae) (λ_ _=>rfl))) (Ag (Cd (GM W3 W5 W6 Dg (Az (pv 0) rfl) (Aa (AF (pv 0) aO (rm hr) An (Be (Aa (pv 3) (Aa (pv 3) (Aa (pv 3) (Aa (pv 3) Ab)))) (Aa (pv 2) Ab))) Ab)))))))))))))),?_⟩
  try dsimp only[cxK]
  have stp:∀{Hk:Hp}{x:Addr}{o:HO}{fs fs':List (Str×V)},Hk p=some (.ins a.c_Grove dx fs)->Hk x=none->(∀b v,Hk b=some v->b≠p->upd (upd Hk x o) p (.ins a.c_Grove dx fs') b=some v)/\upd (upd Hk x o) p (.ins a.c_Grove dx fs') x=some o/\upd (upd Hk x o) p (.ins a.c_Grove dx fs') p=some (.ins a.c_Grove dx fs')/\upd Hk x o p=some (.ins a.c_Grove dx fs):=λ{Hk x o fs fs'} e1 e2=>by
   have n:x≠p:=λz=>by rw[z,e1]at e2;cases e2
   exact⟨λb v e nb=>by rw[Ar nb,Ar (Av e e2)];exact e,by rw[Ar n];exact Af,Af,by rw[Ar (V5 n)];exact e1⟩
  refine AW ?_;intro r_k_ s_k_ k_ hk_ E_k_;refine⟨(by show 0<=sizeLine;decide),λlv hlv=>?_⟩;obtain⟨k1,x1,p1,q1⟩:=stp (o:=.lst []) (fs':=AO "levels" (.ref lv) []) hp hlv;refine xq1 rfl ⟨p,_,dx,[],rfl,q1,T.cl_Grove,T.na_Grove_levels,B2,?_⟩;show k_ _ _;generalize upd (upd H lv _) p _=H1 at k1 x1 p1⊢;refine hk_ ?_;refine AW ?_;intro r_k_ s_k_ k_ hk_ E_k_;refine⟨(by show 0<=sizeLine;decide),λpt hpt=>?_⟩;obtain⟨k2,x2,p2,q2⟩:=stp (o:=.lst []) (fs':=AO "parts" (.ref pt) (AO "levels" (.ref lv) [])) p1 hpt;refine xq1 rfl ⟨p,_,dx,(xq1 rfl ⟨q2,T.cl_Grove,T.na_Grove_parts,B3,?_⟩)⟩;show k_ _ _;generalize upd (upd H1 pt _) p _=H2 at k2 x2 p2⊢;refine hk_ ?_;refine AW ?_;intro r_k_ s_k_ k_ hk_ E_k_;intro nm hnm;obtain⟨k3,x3,p3,q3⟩:=stp (o:=.dT []) (fs':=AO "numbers" (.ref nm) (AO "parts" (.ref pt) (AO "levels" (.ref lv) []))) p2 hnm;refine xq1 rfl ⟨p,_,dx,(xq1 rfl ⟨q3,T.cl_Grove,T.na_Grove_numbers,(by show 2<1000;decide),?_⟩)⟩;show k_ _ _;generalize upd (upd H2 nm _) p _=H3 at k3 x3 p3⊢;refine hk_ ?_;refine AW ?_;intro r_k_ s_k_ k_ hk_ E_k_;refine⟨(by show 1<=sizeLine;decide),λbr hbr=>?_⟩;obtain⟨k4,x4,p4,q4⟩:=stp (o:=.lst [.int 0]) (fs':=AO "bares" (.ref br) (AO "numbers" (.ref nm) (AO "parts" (.ref pt) (AO "levels" (.ref lv) [])))) p3 hbr;refine xq1 rfl ⟨p,_,dx,(xq1 rfl ⟨q4,T.cl_Grove,T.na_Grove_bares,(by show 3<1000;decide),?_⟩)⟩;show k_ _ _;generalize upd (upd H3 br _) p _=H4 at k4 x4 p4⊢;refine hk_ ?_;refine AW ?_;intro r_k_ s_k_ k_ hk_ E_k_;intro am ham;obtain⟨k5,x5,p5,q5⟩:=stp (o:=.dK []) (fs':=AO "amounts" (.ref am) (AO "bares" (.ref br) (AO "numbers" (.ref nm) (AO "parts" (.ref pt) (AO "levels" (.ref lv) []))))) p4 ham;refine xq1 rfl ⟨p,_,dx,(xq1 rfl ⟨q5,T.cl_Grove,T.na_Grove_amounts,(by show 4<1000;decide),?_⟩)⟩;show k_ _ _;generalize upd (upd H4 am _) p _=H5 at k5 x5 p5⊢;refine hk_ ?_;refine AW ?_;intro r_k_ s_k_ k_ hk_ E_k_;intro bx hbx;obtain⟨k6,x6,p6,q6⟩:=stp (o:=.dK []) (fs':=fl6 ⟨p,dx,lv,pt,nm,br,am,bx⟩) p5 hbx;refine xq1 rfl ⟨p,_,dx,(xq1 rfl ⟨q6,T.cl_Grove,T.na_Grove_boxes,(by show 5<1000;decide),?_⟩)⟩;show k_ _ (upd (upd H5 bx (.dK [])) p (.ins a.c_Grove dx (fl6 ⟨p,dx,lv,pt,nm,br,am,bx⟩)));generalize upd (upd H5 bx _) p _=H6 at k6 x6 p6⊢;refine hk_ ?_;have f26:∀b v,H1 b=some v->b≠p->H6 b=some v:=λb v e n=>k6 _ _ (k5 _ _ (k4 _ _ (k3 _ _ (k2 _ _ e n) n) n) n) n;have f36:∀b v,H2 b=some v->b≠p->H6 b=some v:=λb v e n=>k6 _ _ (k5 _ _ (k4 _ _ (k3 _ _ e n) n) n) n;have f46:∀b v,H3 b=some v->b≠p->H6 b=some v:=λb v e n=>k6 _ _ (k5 _ _ (k4 _ _ e n) n) n;have f56:∀b v,H4 b=some v->b≠p->H6 b=some v:=λb v e n=>k6 _ _ (k5 _ _ e n) n;have np:∀{Hk:Hp}{x:Addr}{fs:List (Str×V)},Hk p=some (.ins a.c_Grove dx fs)->Hk x=none->x≠p:=λ{Hk x fs} e1 e2 z=>by rw[z,e1]at e2;cases e2
  have no:∀{Hk Hm:Hp}{x y:Addr}{v:HO},Hk x=some v->Hk y=none->x≠y:=λ{Hk Hm x y v} e1 e2=>Av e1 e2;have nlv:=np hp hlv;have npt:=np p1 hpt;have nnm:=np p2 hnm;have nbr:=np p3 hbr;have nam:=np p4 ham;have nbx:=np p5 hbx;have y1:=f26 _ _ x1 nlv;have y2:=f36 _ _ x2 npt;have y3:=f46 _ _ x3 nnm;have y4:=f56 _ _ x4 nbr;have y5:=k6 _ _ x5 nam;have back:∀{Hk:Hp}{x:Addr},(∀b v,H b=some v->b≠p->Hk b=some v)->x≠p->Hk x=none->H x=none:=λ{Hk x} kp n e=>by
   cases h:H x with
   |none=>rfl
   |some v=>rw[kp _ _ h n]at e;cases e
  have c2:∀b v,H b=some v->b≠p->H2 b=some v:=λb v e n=>k2 _ _ (k1 _ _ e n) n;have c3:∀b v,H b=some v->b≠p->H3 b=some v:=λb v e n=>k3 _ _ (c2 _ _ e n) n;have c4:∀b v,H b=some v->b≠p->H4 b=some v:=λb v e n=>k4 _ _ (c3 _ _ e n) n;have c5:∀b v,H b=some v->b≠p->H5 b=some v:=λb v e n=>k5 _ _ (c4 _ _ e n) n;have c6:∀b v,H b=some v->b≠p->H6 b=some v:=λb v e n=>k6 _ _ (c5 _ _ e n) n;have d1:lv≠pt:=Av x1 hpt;have d2:br≠lv:=V5 (Av (k3 _ _ (k2 _ _ x1 nlv) nlv) hbr);have d3:br≠pt:=V5 (Av (k3 _ _ x2 npt) hbr);have d4:am≠bx:=Av x5 hbx;have N0:Rl a H H6 ⟨p,dx,lv,pt,nm,br,am,bx⟩ (Dh 0) (CC 0) (amK 0):=⟨c6,⟨p6,y1,⟨[],y2,.nil⟩,y3,d1⟩,y4,y5,x6,⟨hlv,back k1 npt hpt,back c2 nnm hnm,back c3 nbr hbr,back c4 nam ham,back c5 nbx hbx⟩,d2,d3,d4⟩
  have k':=k ⟨p,dx,lv,pt,nm,br,am,bx⟩;have gp:(⟨p,dx,lv,pt,nm,br,am,bx⟩:GA).p=p:=rfl;generalize (⟨p,dx,lv,pt,nm,br,am,bx⟩:GA)=g at N0 k' gp;subst gp;clear k p6 q6 q5 q4 q3 q2 q1 y1 y2 y3 y4 y5 x6 c6 c5 c4 c3 c2 f26 f36 f46 f56 k1 k2 k3 k4 k5 k6 x1 x2 x3 x4 x5 p1 p2 p3 p4 p5 d1 d2 d3 d4 nlv npt nnm nbr nam nbx hbx ham hbr hnm hpt hlv back no np stp;refine⟨8,rfl,by decide,by decide,?_⟩;refine Oh (n:=8) (λi σ H7=>∃u1:Option V,σ=[some (.ref g.p),u1,none,none]/\Rl a H H7 g (Dh i) (CC 0) (amK i)) ⟨none,rfl,N0⟩ ?_ ?_
  ·rintro i σ H7 hi ⟨u1,rfl,N⟩;obtain⟨kp,at',hbr,ham,hbx,fresh,n1,n2,n3⟩:=N;have cl:(i:Int)=0+(i:Int):=(Int.zero_add _).symm;refine xq1 rfl ⟨g.p,g.dx,(xq1 rfl ⟨at'.hp,Pe g,(xq1 rfl ⟨(by show 1<=sizeLine;decide),λt ht=>?_⟩)⟩)⟩;have s1:=Ay (o:=.tup [.int (0+(i:Int))]) ht;refine⟨g,Dh i,t,[0+(i:Int)],0,rfl,at'.same s1,Af,by rw[<-cl];exact Ua i,by rw[Eo];lia,λH8 fr at8=>?_⟩;rw[<-cl,<-RP]at at8;have fr':Fr g H7 H8:=(AA.fr s1).trans fr;obtain⟨ts,h3,h4⟩:=at'.pt;have kd:∀(b:Addr)(kvs:List (Key×V)),H7 b=some (.dK kvs)->H8 b=some (.dK kvs):=λb kvs e=>fr' _ _ e (AD e at'.lv A4) (AD e h3 A4) (AD e at'.nm A4);have ham8:=kd _ _ ham;refine xq1 rfl ⟨_,_,rfl,(xwf rfl rfl at8.hp T.cl_Grove T.na_Grove_amounts (fl6_am g) (xq1 rfl ⟨g.am,(xq1 rfl ⟨Mb.k (k:=Sum.inl (0+(i:Int))) ham8 (by rw[amK_len];exact IT A1),?_⟩)⟩))⟩;rw[<-cl,Jz _ (Rg i i (C0 _)),<-Rf];have other:∀{b:Addr}{v:HO},H8 b=some v->b≠g.am->upd H8 g.am (.dK (amK (i+1))) b=some v:=λ{b v} e n=>by rw[Ar n];exact e
   have na:∀{b:Addr}{v:HO},H8 b=some v->v≠.dK (amK i)->b≠g.am:=λ{b v} e n=>AD e ham8 n;obtain⟨ts8,h38,h48⟩:=at8.pt;refine xq1 rfl ⟨?_,⟨other at8.hp (na at8.hp A4),other at8.lv (na at8.lv A4),⟨ts8,other h38 (na h38 A4),PairedM.imp (λc q z=>other z (na z A4)) h48⟩,other at8.nm (na at8.nm A4),at8.ne⟩,?_,Af,?_,fresh,n1,n2,n3⟩
   ·intro b v e nb;have e8:H8 b=some v:=fr' _ _ (kp _ _ e nb) (Av e fresh.1) (Av e fresh.2.1) (Av e fresh.2.2.1);exact other e8 (Av e fresh.2.2.2.2.1)
   ·have e8:H8 g.br=_:=fr' _ _ hbr n1 n2 (AD hbr at'.nm A4);exact other e8 (na e8 A4)
   ·exact other (kd _ _ hbx) (V5 n3)
  ·rintro σ H7 ⟨u1,rfl,N⟩;refine xq2 rfl rfl ⟨1,49,rfl,⟨by decide,by decide,by decide,by decide⟩,?_⟩;have N0:Rl a H H7 g (Dh 8++EM 0) (CC 0) (amK 8):=by rw[show Dh 8++EM 0=Dh 8 from List.append_nil _];exact N
   clear N;refine Oh (lo:=1) (n:=48) (λj σ H8=>∃u2 u3:Option V,σ=[some (.ref g.p),u1,u2,u3]/\Rl a H H8 g (Dh 8++EM j) (CC j) (amK 8)) ⟨none,none,rfl,N0⟩ ?_ ?_
   ·rintro j σ H8 hj ⟨u2,u3,rfl,N⟩;obtain⟨kp,at',hbr,ham,hbx,fresh,n1,n2,n3⟩:=N;refine xwf rfl rfl at'.hp T.cl_Grove T.na_Grove_bares (Iu g) (xwi rfl rfl rfl (SqL.of hbr) (Wp (by rw[List.getLast?_map,Sc];rfl)) ?_);refine xwf rfl rfl at'.hp T.cl_Grove T.na_Grove_bares (Iu g) ⟨.inl ⟨rfl,_,SqL.of hbr⟩,(xq1 rfl ⟨g.p,g.dx,(xq1 rfl ⟨at'.hp,Pe g,(xw3 rfl rfl rfl (xq1 rfl ⟨(by show 4<=sizeLine;decide),λt ht=>(xq1 rfl ?_)⟩))⟩)⟩)⟩;have s1:=Ay (o:=.tup [.int (bareN j:Int),.int (bareN j:Int),.int (bareN j:Int),.int (bareN j:Int)]) ht;have ln:(Dh 8++EM j).length=8+j:=by rw[C5,Eo,OB]
    refine⟨g,Dh 8++EM j,t,[(bareN j:Int),(bareN j:Int),(bareN j:Int),(bareN j:Int)],1+(j:Int),rfl,at'.same s1,Af,OA j,by rw[ln];lia,λH9 fr at9=>?_⟩;rw[show(1:Int)+(j:Int)=(j:Int)+1 by lia,P4,<-Nn]at at9;have fr':Fr g H8 H9:=(AA.fr s1).trans fr;obtain⟨ts,h3,h4⟩:=at'.pt;have kd:∀(b:Addr)(kvs:List (Key×V)),H8 b=some (.dK kvs)->H9 b=some (.dK kvs):=λb kvs e=>fr' _ _ e (AD e at'.lv A4) (AD e h3 A4) (AD e at'.nm A4);have hbr9:H9 g.br=_:=fr' _ _ hbr n1 n2 (AD hbr at'.nm A4);refine⟨g.br,(xq2 rfl rfl ⟨hbr9,by rw[B5];unfold CC;rw[B5,O5];exact IT A1,?_⟩)⟩;have eb:(CC j).map V.int++[V.int ((Dh 8++EM j).length:Int)]=(CC (j+1)).map V.int:=by rw[Np,C9,ln];rfl
    rw[eb];have other:∀{b:Addr}{v:HO},H9 b=some v->v≠.lst ((CC j).map V.int)->upd H9 g.br (.lst ((CC (j+1)).map V.int)) b=some v:=λ{b v} e n=>by rw[Ar (AD e hbr9 n)];exact e
    refine⟨_,_,rfl,?_,at9.put hbr9 n1 n2,Af,other (kd _ _ ham) A4,other (kd _ _ hbx) A4,fresh,n1,n2,n3⟩;intro b v e nb;rw[Ar (Av e fresh.2.2.2.1)];exact fr' _ _ (kp _ _ e nb) (Av e fresh.1) (Av e fresh.2.1) (Av e fresh.2.2.1)
   ·rintro σ H8 ⟨u2,u3,rfl,N⟩;exact k' H8 rfl N
end
theorem AA.noneN{H H':Hp}(s:AA H H'){x:Addr}(n:H' x=none):H x=none:=by
 cases e:H x with
 |none=>rfl
 |some o=>rw[s _ _ e]at n;cases n
theorem Ob{T:St->Hp->Prop}{C:Prop}(P:St->Hp->Prop)(h:(∀σ H,P σ H->T σ H)->C)(k:∀σ H,P σ H->T σ H):C:=h k
structure MA where
 tp:Addr
 l:Addr
 kc:Addr
 ds:List Addr
def jf2(gp mem:Addr):List (Str×V):=AO "memories" (.ref mem) (AO "grove" (.ref gp) [])
def jf5(gp mem pr l kc:Addr):List (Str×V):=AO "known_cells" (.ref kc) (AO "known_squares" (.ref l) (AO "rule" (.ref pr) (jf2 gp mem)))
theorem jf2_mem(gp mem:Addr):(jf2 gp mem).lookup ("memories" : Str)=some (V.ref mem):=by
 unfold jf2;rw[Ai,V2 rfl]
theorem VW(gp mem:Addr){m:Str}(h1:¬m=("memories" : Str))(h2:¬m=("grove" : Str)):(jf2 gp mem).lookup m=none:=by
 unfold jf2;rw[Ai,V0 h1,Ai,V0 h2];rfl
section
variable(gp mem pr l kc:Addr)
theorem VV:(jf5 gp mem pr l kc).lookup ("known_cells" : Str)=some (V.ref kc):=by
 unfold jf5;rw[Ai,V2 rfl]
theorem VU:(jf5 gp mem pr l kc).lookup ("known_squares" : Str)=some (V.ref l):=by
 unfold jf5;rw[Ai,V0 A0,Ai,V2 rfl]
theorem jf5_ru:(jf5 gp mem pr l kc).lookup ("rule" : Str)=some (V.ref pr):=by
 unfold jf5;rw[Ai,V0 A0,Ai,V0 A0,Ai,V2 rfl]
theorem Dc:(jf5 gp mem pr l kc).lookup ("grove" : Str)=some (V.ref gp):=by
 unfold jf5 jf2;rw[Ai,V0 A0,Ai,V0 A0,Ai,V0 A0,Ai,V0 A0,Ai,V2 rfl]
theorem Jn{m:Str}(h1:¬m=("known_cells" : Str))(h2:¬m=("known_squares" : Str))(h3:¬m=("rule" : Str))(h4:¬m=("memories" : Str))(h5:¬m=("grove" : Str)):(jf5 gp mem pr l kc).lookup m=none:=by
 unfold jf5;rw[Ai,V0 h1,Ai,V0 h2,Ai,V0 h3,VW _ _ h4 h5]
theorem TN:(jf5 gp mem pr l kc).lookup ("after" : Str)=none:=Jn _ _ _ _ _ A0 A0 A0 A0 A0
theorem TM:(jf5 gp mem pr l kc).lookup ("check_jump" : Str)=none:=Jn _ _ _ _ _ A0 A0 A0 A0 A0
theorem JH:(jf5 gp mem pr l kc).lookup ("reckoned" : Str)=none:=Jn _ _ _ _ _ A0 A0 A0 A0 A0
theorem TL:(jf5 gp mem pr l kc).lookup ("fresh" : Str)=none:=Jn _ _ _ _ _ A0 A0 A0 A0 A0
theorem VB:(jf5 gp mem pr l kc).lookup ("four_halfway" : Str)=none:=Jn _ _ _ _ _ A0 A0 A0 A0 A0
theorem noJ_mid:(jf5 gp mem pr l kc).lookup ("middle_after" : Str)=none:=Jn _ _ _ _ _ A0 A0 A0 A0 A0
theorem VC:(jf5 gp mem pr l kc).lookup ("cell_after" : Str)=none:=Jn _ _ _ _ _ A0 A0 A0 A0 A0
end
inductive Nv:HO->Prop
 |tup {xs:List V}:Nv (.tup xs)
 |ins {C dx:Addr} {fs:List (Str×V)} (h1:1<=fs.length) (h2:fs.length<=3):Nv (.ins C dx fs)
theorem Mh(f:Str)(v:V):∀fs:List (Str×V),1<=(AO f v fs).length
 |[]=>C0 1
 | (g,x)::r=>by
  unfold AO;split
  ·rw[F0];lia
  ·rw[F0];lia
theorem CL.kp{a:Ad}{H H':Hp}{p:Addr}{c:BQ}(k:∀b o,H b=some o->Nv o->H' b=some o)(h:CL a H p c):CL a H' p c:=by
 cases h with
 |am h ht=>exact .am (k _ _ h (.ins (Mh _ _ _) (C8 (Bg _ _ _) (P5 (C8 (Bg _ _ _) (by show 0+1<=2;decide)))))) (k _ _ ht .tup)
 |pl h ht=>exact .pl (k _ _ h (.ins (Mh _ _ _) (C8 (Bg _ _ _) (by show 0+1<=3;decide)))) (k _ _ ht .tup)
theorem BH.kp{a:Ad}{H H':Hp}{p:Addr}{c:Bp}(k:∀b o,H b=some o->Nv o->H' b=some o)(h:BH a H p c):BH a H' p c:=by
 obtain⟨dx,t,cs,h1,h2,h3⟩:=h.ex;exact⟨dx,t,cs,k _ _ h1 (.ins (Mh _ _ _) (C8 (Bg _ _ _) (P5 (C8 (Bg _ _ _) (P5 (C8 (Bg _ _ _) (by show 0+1<=1;decide))))))),k _ _ h2 .tup,Paired.imp (λ_ _ z=>z.kp k) h3⟩
theorem Cp.kp{a:Ad}{H H':Hp}{p:Addr}{x:Str}{r:AH}(k:∀b o,H b=some o->Nv o->H' b=some o)(h:Cp a H p x r):Cp a H' p x r:=by
 obtain⟨dx,t,cs,h1,h2,h3⟩:=h.ex;exact⟨dx,t,cs,k _ _ h1 (.ins (Mh _ _ _) (C8 (Bg _ _ _) (P5 (C8 (Bg _ _ _) (by show 0+1<=2;decide))))),k _ _ h2 .tup,Paired.imp (λ_ _ z=>z.kp k) h3⟩
def mK(ms:List (Str×MA)):List (Key×V):=ms.map λe=>(Sum.inr e.1,V.ref e.2.tp)
theorem SQ(t:Str):∀ms:List (Str×MA),(∃m,(t,m)∈ms/\BB (mK ms) (Sum.inr t)=some (.ref m.tp))\/(BB (mK ms) (Sum.inr t)=none/\∀e∈ms,e.1≠t)
 |[]=>.inr ⟨rfl,λe he=>nomatch he⟩
 |e::r=>by
  by_cases h:e.1=t
  ·refine .inl ⟨e.2,?_,?_⟩
   ·rw[<-h];exact C3
   ·exact BG (p:=(Sum.inr e.1,V.ref e.2.tp)) (r:=mK r) (by rw[h])
  ·have n:BB (mK (e::r)) (Sum.inr t)=BB (mK r) (Sum.inr t):=Bq (p:=(Sum.inr e.1,V.ref e.2.tp)) (r:=mK r) λz=>h (Sum.inr.inj z);rcases SQ t r with ⟨m,h1,h2⟩|⟨h1,h2⟩
   ·exact .inl ⟨m,C1 _ h1,n.trans h2⟩
   ·refine .inr ⟨n.trans h1,λx hx=>?_⟩;rcases B8.mp hx with z|z
    ·rw[z];exact h
    ·exact h2 x z
inductive ChgR(H H':Hp)(t:Str)(ms ms':List (Str×MA))(m:MA):Prop
 |old (_:(t,m)∈ms) (_:ms'=ms):ChgR H H' t ms ms' m
 |new (_:ms'=ms++[(t,m)]) (_:∀e∈ms,e.1≠t) (_:H m.tp=none/\H m.l=none/\H m.kc=none/\∀d∈m.ds,H d=none) (_:H' m.tp=some (.tup [.ref m.l,.ref m.kc])) (_:H' m.l=some (.lst (m.ds.map V.ref))) (_:H' m.kc=some (.dT [])) (_:∀d∈m.ds,H' d=some (.dK [])) (_:m.ds.length=47) (_:m.ds.Nodup):ChgR H H' t ms ms' m
section
variable{P:Program}{w:World}{K:PySem.W.Frag}{mg:Str->Option Value}{base:Heap}{a:Ad}
inductive Wu(a:Ad)(vs:List V)(H:Hp)(Q:VK):Prop
 |mk (p:Addr) (t:Str) (r:AH) (_:vs=[.ref p]) (_:Cp a H p t r) (_:Q (.str t) H):Wu a vs H Q
def Rq(a:Ad):Sp:=λvs H Q _=>Wu a vs H Q
theorem ok_show{f:Addr}{fd:FuncData}(F:Fun K "shown_rule" "shown_rule" FZ f fd)(T:Top K mg a):AJ P w K mg base CX0 1 f fd Gp (Rq a):=by
 refine F.ok NB (λvs H Q E h=>?_) (λcdv A outer s H vs Q E hr h=>?_)
 ·obtain⟨p,t,r,rfl,_⟩:=h;rfl
 ·obtain⟨p,t,r,rfl,hR,k⟩:=h;obtain⟨dx,tt,cs,h1,h2,h3⟩:=hR.ex;refine⟨_,(Ag (As (Az (pv 0) rfl))),?_⟩
  try dsimp only[cxK]
  exact xwf rfl rfl h1 T.cl_Rule T.na_Rule_text (Wf A0) k
inductive SpChg(a:Ad)(vs:List V)(H:Hp)(Q:VK):Prop
 |mk (p dx mem pr:Addr) (fs:List (Str×V)) (t:Str) (r:AH) (ms:List (Str×MA)) (_:vs=[.ref p,.ref pr]) (_:H p=some (.ins a.c_Jumps dx fs)) (_:fs.lookup ("memories" : Str)=some (.ref mem)) (_:fs.length<=10) (_:H mem=some (.dK (mK ms))) (_:ms.length<=1000) (_:∀e∈ms,H e.2.tp=some (.tup [.ref e.2.l,.ref e.2.kc])) (_:Cp a H pr t r) (_:∀(H':Hp)(m:MA)(ms':List (Str×MA)),(∀b o,H b=some o->b≠p->b≠mem->H' b=some o)->H' p=some (.ins a.c_Jumps dx (AO "known_cells" (.ref m.kc) (AO "known_squares" (.ref m.l) (AO "rule" (.ref pr) fs))))->H' mem=some (.dK (mK ms'))->ChgR H H' t ms ms' m->Q .non H'):SpChg a vs H Q
def UX(a:Ad):Sp:=λvs H Q _=>SpChg a vs H Q
theorem ok_chg{f:Addr}{fd:FuncData}(F:Fun K "change" "Jumps.change" Dr f fd)(T:Top K mg a)(bM:Cal P w K mg base CX0 1 "shown_rule" Gp (Rq a)):AJ P w K mg base CX0 2 f fd EG (UX a):=by
 refine F.ok GJ (λvs H Q E h=>?_) (λcdv A outer s H vs Q E hr h=>?_)
 ·obtain⟨p,dx,mem,pr,fs,t,r,ms,rfl,_⟩:=h;rfl
 ·obtain⟨p,dx,mem,pr,fs,t,r,ms,rfl,hp,hmem,hfs,hm,few,tps,hR,k⟩:=h;refine⟨_,(Ac (Ao (i:=2) GJ.nd rfl (Or.inl rfl) (Aq bM (rm hr) rfl An (Aa (pv 1) Ab))) (Ac (AN (pt_cmp (TB (FK hr) (pv 2) (Az (pv 0) rfl))) (Ag (Iz (FK hr) (Az (pv 0) rfl) (pv 2) (BX (Aa (CH rfl (BD.of (So:=Ah Dr) (No:=Ip) (N:=["e"]) (k:=1) (cs:=[]) rfl rfl A0) (NW rfl T.b_range (Bl Bf (BI rfl T.k_TOP_LEVEL) Ae Ab)) (λ_ _ _=>(Bk (i:=0) A0 rfl rfl)) (λ_ _ _=>BL) (λ_ _ _=>JC)) (Aa Qu Ab))) rfl)) AB) (Ac (Cc (pv 0) (pv 1) rfl) (Ac (Cc (pv 0) (Aj Am (SI (FK hr) (Az (pv 0) rfl) (pv 2) (λ_ _=>rfl)) Ae (λ_ _=>rfl)) rfl) (Ag (Cc (pv 0) (Aj Am (SI (FK hr) (Az (pv 0) rfl) (pv 2) (λ_ _=>rfl)) Ae (λ_ _=>rfl)) rfl)))))),?_⟩
  try dsimp only[cxK]
  have npm:p≠mem:=AD hp hm A4;refine xq1 rfl ⟨pr,t,r,rfl,hR,?_⟩;apply Ob (fun σ H1=>σ=[some (.ref p),some (.ref pr),some (.str t)]/\∃(m:MA)(ms':List (Str×MA)),(∀b o,H b=some o->b≠mem->H1 b=some o)/\H1 mem=some (.dK (mK ms'))/\BB (mK ms') (Sum.inr t)=some (.ref m.tp)/\H1 m.tp=some (.tup [.ref m.l,.ref m.kc])/\ChgR H H1 t ms ms' m/\m.tp≠p/\(H m.tp=none->m.l≠p/\m.kc≠p/\∀d∈m.ds,d≠p))
  ·intro rest;refine xw2 rfl rfl (xq5 hp T.cl_Jumps T.na_Jumps_memories hmem ⟨mem,(xq1 rfl ⟨GS.k (k:=Sum.inr t) hm,(xq1 rfl ?_)⟩)⟩);rcases SQ t ms with ⟨m,m1,m2⟩|⟨no,nk⟩
   ·rw[m2];refine Bb (rest _ _ ⟨rfl,m,ms,λb o e _=>e,hm,m2,tps _ m1,.old m1 rfl,AD (tps _ m1) hp A4,λz=>?_⟩);rw[tps _ m1]at z;cases z
   ·rw[no];refine BT ?_;refine xq2 rfl rfl (xq1 rfl ⟨by decide,by decide,?_⟩);refine Ut (n:=47) (λi acc H2=>AA H H2/\∃ds:List Addr,acc=ds.map V.ref/\ds.length=i/\(∀d∈ds,H2 d=some (.dK []))/\(∀d∈ds,H d=none)/\ds.Nodup) ⟨AA.refl H,[],rfl,rfl,λd hd=>(nomatch hd),λd hd=>(nomatch hd),.nil⟩ ?_ ?_
    ·rintro i acc H2 hi ⟨sm,ds,rfl,ln,c1,c2,nd⟩;refine⟨⟨[some (.int (0+(i:Int)))],rfl,rfl⟩,?_,GV λd hd=>⟨sm.trans (AE hd),ds++[d],by rw[C9];rfl,by rw[C5,ln];rfl,λx hx=>?_,λx hx=>?_,?_⟩⟩
     ·rw[B5,ln];exact D8 hi A3
     ·rcases M6.mp hx with z|z
      ·exact AE hd _ _ (c1 x z)
      ·rw[D7.mp z];exact Af
     ·rcases M6.mp hx with z|z
      ·exact c2 x z
      ·rw[D7.mp z];exact AA.noneN sm hd
     ·rw[R0];refine⟨nd,by simp,λx hx y hy z=>?_⟩;rw[D7.mp hy]at z;rw[<-z,c1 x hx]at hd;cases hd
    ·rintro acc H2 ⟨sm,ds,rfl,ln,c1,c2,nd⟩ l hl;generalize e_s3:upd H2 l _=H3;obtain⟨s3,hl3⟩:=alc hl e_s3;intro kc hkc;generalize e_s4:upd H3 kc _=H4;obtain⟨s4,hk4⟩:=alc hkc e_s4;refine⟨(by show 2<=sizeLine;decide),λtp htp=>?_⟩;show ∃_,_;generalize cQ:upd H4 tp _=H5;obtain⟨s5,ht5⟩:=alc htp cQ;have n1:H l=none:=AA.noneN sm hl;have n2:H kc=none:=AA.noneN (sm.trans s3) hkc;have n3:H tp=none:=AA.noneN ((sm.trans s3).trans s4) htp;have s05:=((sm.trans s3).trans s4).trans s5;have hm5:=s05 _ _ hm;refine xwf rfl rfl (s05 _ _ hp) T.cl_Jumps T.na_Jumps_memories hmem (xq1 rfl ⟨mem,(xq1 rfl ⟨Mb.k (k:=Sum.inr t) hm5 ?_,?_⟩)⟩)
     ·unfold mK;rw[B5];exact F6 few A3
     ·rw[Jz _ no];have e6:mK ms++[(Sum.inr t,V.ref tp)]=mK (ms++[(t,⟨tp,l,kc,ds⟩)]):=by unfold mK;rw[C9];rfl
      rw[e6];have k6:∀b o,H5 b=some o->b≠mem->upd H5 mem (.dK (mK (ms++[(t,⟨tp,l,kc,ds⟩)]))) b=some o:=λb o e n=>by rw[Ar n];exact e
      have hm6:upd H5 mem (.dK (mK (ms++[(t,⟨tp,l,kc,ds⟩)]))) mem=some (.dK (mK (ms++[(t,⟨tp,l,kc,ds⟩)]))):=Af;generalize upd H5 mem (.dK (mK (ms++[(t,⟨tp,l,kc,ds⟩)])))=H6 at k6 hm6⊢;have nm:∀{x:Addr},H x=none->x≠mem:=λz y=>by rw[y,hm]at z;cases z
      have np:∀{x:Addr},H x=none->x≠p:=λz y=>by rw[y,hp]at z;cases z
      refine rest _ _ ⟨rfl,⟨tp,l,kc,ds⟩,ms++[(t,⟨tp,l,kc,ds⟩)],λb o e n=>k6 _ _ (s05 _ _ e) n,hm6,?_,k6 _ _ ht5 (nm n3),.new rfl nk ⟨n3,n1,n2,c2⟩ (k6 _ _ ht5 (nm n3)) (k6 _ _ (s5 _ _ (s4 _ _ hl3)) (nm n1)) (k6 _ _ (s5 _ _ hk4) (nm n2)) (λd hd=>k6 _ _ (s5 _ _ (s4 _ _ (s3 _ _ (c1 d hd)))) (nm (c2 d hd))) ln nd,np n3,λ_=>⟨np n1,np n2,λd hd=>np (c2 d hd)⟩⟩;rw[<-e6];rw[OD no];exact BG rfl
  rintro σ H1 ⟨rfl,m,ms',k1,hm1,vv,ht1,chg,ntp,nnew⟩;have hp1:=k1 _ _ hp npm;have lf:fs.length<1000:=by lia
  have put:∀{Hk:Hp}{fs':List (Str×V)}(fs'':List (Str×V)),Hk p=some (.ins a.c_Jumps dx fs')->(∀b o,Hk b=some o->b≠p->upd Hk p (.ins a.c_Jumps dx fs'') b=some o)/\upd Hk p (.ins a.c_Jumps dx fs'') p=some (.ins a.c_Jumps dx fs''):=λ{Hk fs'} fs'' e=>⟨λb o e n=>by rw[Ar n];exact e,Af⟩
  refine xw2 rfl rfl ⟨p,_,dx,fs,rfl,hp1,T.cl_Jumps,T.na_Jumps_rule,lf,?_⟩;obtain⟨k2,hp2⟩:=put (AO "rule" (.ref pr) fs) hp1;generalize upd H1 p (.ins a.c_Jumps dx (AO "rule" (.ref pr) fs))=H2 at k2 hp2⊢;have l2:=Bg ("rule" : Str) (.ref pr) fs;have look2:(AO "rule" (.ref pr) fs).lookup ("memories" : Str)=some (.ref mem):=by rw[Ai,V0 A0];exact hmem
  have hm2:=k2 _ _ hm1 (V5 npm);have ht2:=k2 _ _ ht1 ntp;refine xwf rfl rfl hp2 T.cl_Jumps T.na_Jumps_memories look2 (xq1 rfl ⟨mem,.ref m.tp,rfl,vv▸GS.k (k:=Sum.inr t) hm2,(xq4 rfl rfl (SqT.of ht2) (Al (j:=0) rfl) (xq1 rfl ⟨p,_,dx,(xq1 rfl ⟨hp2,T.cl_Jumps,T.na_Jumps_known_squares,by lia,?_⟩)⟩))⟩);obtain⟨k3,hp3⟩:=put (AO "known_squares" (.ref m.l) (AO "rule" (.ref pr) fs)) hp2;generalize upd H2 p (.ins a.c_Jumps dx (AO "known_squares" (.ref m.l) (AO "rule" (.ref pr) fs)))=H3 at k3 hp3⊢;have l3:=Bg ("known_squares" : Str) (.ref m.l) (AO "rule" (.ref pr) fs);have look3:(AO "known_squares" (.ref m.l) (AO "rule" (.ref pr) fs)).lookup ("memories" : Str)=some (.ref mem):=by rw[Ai,V0 A0];exact look2
  have hm3:=k3 _ _ hm2 (V5 npm);have ht3:=k3 _ _ ht2 ntp;refine xwf rfl rfl hp3 T.cl_Jumps T.na_Jumps_memories look3 (xq1 rfl ⟨mem,.ref m.tp,rfl,vv▸GS.k (k:=Sum.inr t) hm3,(xq4 rfl rfl (SqT.of ht3) (Al (j:=1) rfl) (xq1 rfl ⟨p,_,dx,(xq1 rfl ⟨hp3,T.cl_Jumps,T.na_Jumps_known_cells,by lia,?_⟩)⟩))⟩);obtain⟨k4,hp4⟩:=put (AO "known_cells" (.ref m.kc) (AO "known_squares" (.ref m.l) (AO "rule" (.ref pr) fs))) hp3;have k14:∀b o,H1 b=some o->b≠p->upd H3 p (.ins a.c_Jumps dx (AO "known_cells" (.ref m.kc) (AO "known_squares" (.ref m.l) (AO "rule" (.ref pr) fs)))) b=some o:=λb o e n=>k4 _ _ (k3 _ _ (k2 _ _ e n) n) n;refine k _ m ms' (λb o e n1 n2=>k14 _ _ (k1 _ _ e n2) n1) hp4 (k14 _ _ hm1 (V5 npm)) ?_;cases chg with
  |old h1 h2=>exact .old h1 h2
  |new h1 h2 h3 h4 h5 h6 h7 h8 h9 =>
   obtain⟨y1,y2,y3⟩:=nnew h3.1;exact .new h1 h2 h3 (k14 _ _ h4 ntp) (k14 _ _ h5 y1) (k14 _ _ h6 y2) (λd hd=>k14 _ _ (h7 d hd) (y3 d hd)) h8 h9
inductive Tj(a:Ad)(vs:List V)(H:Hp)(Q:VK):Prop
 |mk (p dx gp pr:Addr) (t:Str) (r:AH) (_:vs=[.ref p,.ref gp,.ref pr]) (_:H p=some (.ins a.c_Jumps dx [])) (_:Cp a H pr t r) (_:∀(H':Hp)(mem:Addr)(m:MA),(∀b o,H b=some o->b≠p->H' b=some o)->H mem=none->H' p=some (.ins a.c_Jumps dx (jf5 gp mem pr m.l m.kc))->H' mem=some (.dK (mK [(t,m)]))->(H m.tp=none/\H m.l=none/\H m.kc=none/\∀d∈m.ds,H d=none)->H' m.tp=some (.tup [.ref m.l,.ref m.kc])->H' m.l=some (.lst (m.ds.map V.ref))->H' m.kc=some (.dT [])->(∀d∈m.ds,H' d=some (.dK []))->m.ds.length=47->m.ds.Nodup->(∀d∈m.ds,d≠mem)->Q .non H'):Tj a vs H Q
def OO(a:Ad):Sp:=λvs H Q _=>Tj a vs H Q
theorem Vs{f:Addr}{fd:FuncData}(F:Fun K "__init__" "Jumps.__init__" Gg f fd)(T:Top K mg a)(bB:BK P w K mg base CX0 2 a.c_Jumps "change" EG (UX a)):AJ P w K mg base CX0 3 f fd Gu (OO a):=by
 refine F.ok NE (λvs H Q E h=>?_) (λcdv A outer s H vs Q E hr h=>?_)
 ·obtain⟨p,dx,gp,pr,t,r,rfl,_⟩:=h;rfl
 ·obtain⟨p,dx,gp,pr,t,r,rfl,hp,hR,k⟩:=h;refine⟨_,(Ac (Cc (pv 0) (pv 1) rfl) (Ac (Cc (pv 0) JC rfl) (Ag (Cd (AF (pv 0) bB (rm hr) An (Aa (pv 2) Ab)))))),?_⟩
  try dsimp only[cxK]
  refine xw2 rfl rfl ⟨p,_,dx,[],rfl,hp,T.cl_Jumps,T.na_Jumps_grove,B2,?_⟩;have k1:∀b o,H b=some o->b≠p->upd H p (.ins a.c_Jumps dx (AO "grove" (.ref gp) [])) b=some o:=λb o e n=>by rw[Ar n];exact e
  have hp1:upd H p (.ins a.c_Jumps dx (AO "grove" (.ref gp) [])) p=some (.ins a.c_Jumps dx (AO "grove" (.ref gp) [])):=Af;have kn:∀b,upd H p (.ins a.c_Jumps dx (AO "grove" (.ref gp) [])) b=none->H b=none:=λb e=>by
   by_cases z:b=p
   ·rw[z,hp1]at e;cases e
   ·rw[Ar z]at e;exact e
  generalize upd H p (.ins a.c_Jumps dx (AO "grove" (.ref gp) []))=H1 at k1 hp1 kn⊢;intro mem hmem;generalize cV:upd H1 mem _=H2;obtain⟨s2,hm2⟩:=alc hmem cV;have nmp:mem≠p:=λz=>by rw[z,hp1]at hmem;cases hmem
  refine xq1 rfl ⟨p,_,dx,(xq1 rfl ⟨s2 _ _ hp1,T.cl_Jumps,T.na_Jumps_memories,B3,?_⟩)⟩;have k3:∀b o,H2 b=some o->b≠p->upd H2 p (.ins a.c_Jumps dx (jf2 gp mem)) b=some o:=λb o e n=>by rw[Ar n];exact e
  have hp3:upd H2 p (.ins a.c_Jumps dx (jf2 gp mem)) p=some (.ins a.c_Jumps dx (jf2 gp mem)):=Af;have kn3:∀b,upd H2 p (.ins a.c_Jumps dx (jf2 gp mem)) b=none->H b=none:=λb e=>by
   by_cases z:b=p
   ·rw[z,hp3]at e;cases e
   ·rw[Ar z]at e;exact kn _ (AA.noneN s2 e)
  rw[show AO ("memories" : Str) (V.ref mem) (AO ("grove" : Str) (V.ref gp) [])=jf2 gp mem from rfl];generalize upd H2 p (.ins a.c_Jumps dx (jf2 gp mem))=H3 at k3 hp3 kn3⊢;have k03:∀b o,H b=some o->b≠p->H3 b=some o:=λb o e n=>k3 _ _ (s2 _ _ (k1 _ _ e n)) n;have hm3:=k3 _ _ hm2 nmp;have hR3:Cp a H3 pr t r:=by
   refine hR.kp λb o e n=>k03 _ _ e λz=>?_;rw[z,hp]at e;cases e;cases n with
   |ins h1 _=>cases h1
  refine xwn rfl rfl hp3 (VW _ _ A0 A0) rfl ⟨p,dx,mem,pr,jf2 gp mem,t,r,[],rfl,hp3,jf2_mem _ _,by rw[show(jf2 gp mem).length=2 from rfl];decide,hm3,F5 _,λe he=>(nomatch he),hR3,λH' m ms' fr hp' hm' chg=>?_⟩;cases chg with
  |old h1 _=>cases h1
  |new h1 h2 h3 h4 h5 h6 h7 h8 h9 =>
   rw[h1]at hm';refine k H' mem m (λb o e n=>fr _ _ (k03 _ _ e n) n ?_) (kn _ hmem) hp' hm' ⟨kn3 _ h3.1,kn3 _ h3.2.1,kn3 _ h3.2.2.1,λd hd=>kn3 _ (h3.2.2.2 d hd)⟩ h4 h5 h6 h7 h8 h9 λd hd z=>?_
   ·intro z;rw[z]at e;rw[kn _ hmem]at e;cases e
   ·have:=h3.2.2.2 d hd;rw[z,hm3]at this;cases this
end
def qO(G:Gv)(n k:Nat):Nat:=match G[n]? with
 |some q=>(q.parts.getD k 0).toNat
 |none=>0
def cel(G:Gv):Nat->Nat->Nat->Nat->Nat
 |0,n,_,_=>n
 |l+1,n,x,y=>cel G l (qO G n ((x/2^l)%2+2*((y/2^l)%2))) x y
def stp(r:AH)(c:Nat->Nat->Int):Nat->Nat->Int:=λx y=>GF r (c x y) [c (x-1) (y-1),c x (y-1),c (x+1) (y-1),c (x-1) y,c (x+1) y,c (x-1) (y+1),c x (y+1),c (x+1) (y+1)]
def Bc(r:AH):Nat->(Nat->Nat->Int)->Nat->Nat->Int
 |0,c=>c
 |n+1,c=>stp r (Bc r n c)
def BZ(G:Gv)(l n:Nat):Nat->Nat->Int:=λx y=>(cel G l n x y:Int)
def JR(r:AH)(G:Gv)(e n m:Nat):Prop:=∃l:Nat,Ak G n ((l+2:Nat):Int)/\e<=l/\Ak G m ((l+1:Nat):Int)/\∀x y,x<2^(l+1)->y<2^(l+1)->BZ G (l+1) m x y=Bc r (2^e) (BZ G (l+2) n) (x+2^l) (y+2^l)
theorem GOk.four{G:Gv}(ok:GOk G){n l:Nat}(h:Ak G n ((l+1:Nat):Int)):∃x y z w:Nat,G[n]?=some ⟨[(x:Int),(y:Int),(z:Int),(w:Int)],((l+1:Nat):Int)⟩/\Ak G x (l:Int)/\Ak G y (l:Int)/\Ak G z (l:Int)/\Ak G w (l:Int):=by
 obtain⟨q,e,el⟩:=h;have h8:8<=n:=by
  refine O8 λz=>?_;rw[ok.leaf n z]at e;cases e;have:(0:Int)=((l+1:Nat):Int):=el;lia
 obtain⟨x,y,z,w,p,⟨l1,l2,l3,l4⟩,_⟩:=ok.node n q e h8;have e1:q.lev-1=(l:Int):=by lia
 rw[e1]at l1 l2 l3 l4;refine⟨x,y,z,w,?_,l1,l2,l3,l4⟩;rw[e];cases q with
 |mk pp ll=>cases p;cases el;rfl
theorem GOk.cell{G:Gv}(ok:GOk G){n:Nat}(h:Ak G n 0):n<8:=by
 obtain⟨q,e,el⟩:=h;refine Nat.lt_of_not_le λz=>?_;obtain⟨_,_,_,_,_,_,h1,_⟩:=ok.node n q e z;lia
theorem Dx{G:Gv}{n x y z w:Nat}{l:Int}(e:G[n]?=some ⟨[(x:Int),(y:Int),(z:Int),(w:Int)],l⟩):qO G n 0=x/\qO G n 1=y/\qO G n 2=z/\qO G n 3=w:=by
 unfold qO;rw[e];exact⟨rfl,rfl,rfl,rfl⟩
theorem Jg{G:Gv}(ok:GOk G){n l:Nat}(h:Ak G n ((l+1:Nat):Int)){k:Nat}(hk:k<4):Ak G (qO G n k) (l:Int):=by
 obtain⟨x,y,z,w,e,h1,h2,h3,h4⟩:=ok.four h;obtain⟨q1,q2,q3,q4⟩:=Dx e
 match k,hk with
 |0,_=>rw[q1];exact h1
 |1,_=>rw[q2];exact h2
 |2,_=>rw[q3];exact h3
 |3,_=>rw[q4];exact h4
theorem QZ{G G':Gv}{i:Nat}(ok:GOk G)(go:AG G G' i):∀(l n:Nat),Ak G n (l:Int)->∀x y,cel G' l n x y=cel G l n x y
 |0,n,_,x,y=>rfl
 |l+1,n,h,x,y=>by
  have e:∀k,qO G' n k=qO G n k:=λk=>by
   obtain⟨q,e,_⟩:=h;unfold qO;rw[go.get e,e]
  show cel G' l (qO G' n _) x y=cel G l (qO G n _) x y;rw[e];exact QZ ok go l _ (Jg ok h A1) x y
theorem Co{G G':Gv}{i:Nat}(ok:GOk G)(go:AG G G' i){l n:Nat}(h:Ak G n (l:Int)):BZ G' l n=BZ G l n:=by
 funext x y
 unfold BZ;rw[QZ ok go l n h]
theorem JR.goes{r:AH}{G G':Gv}{i e n m:Nat}(ok:GOk G)(go:AG G G' i)(h:JR r G e n m):JR r G' e n m:=by
 obtain⟨l,h1,h2,h3,h4⟩:=h;refine⟨l,go.lev h1,h2,go.lev h3,λx y hx hy=>?_⟩;rw[Co ok go h1,Co ok go h3];exact h4 x y hx hy
def Bs(G:Gv):Prop:=∀j:Nat,j<48->G[8+j]?=some ⟨[(bareN j:Int),(bareN j:Int),(bareN j:Int),(bareN j:Int)],(j:Int)+1⟩
theorem Bs.goes{G G':Gv}{i:Nat}(h:Bs G)(go:AG G G' i):Bs G':=λj hj=>go.get (h j hj)
theorem Bs.zero{G:Gv}(h:Bs G):∀(l:Nat),l<=48->∀x y,cel G l (bareN l) x y=0
 |0,_,x,y=>rfl
 |l+1,hl,x,y=>by
  obtain⟨q1,q2,q3,q4⟩:=Dx (h l A1);have e:∀k,k<4->qO G (8+l) k=bareN l:=λk hk=>by
   match k,hk with
   |0,_=>exact q1
   |1,_=>exact q2
   |2,_=>exact q3
   |3,_=>exact q4
  show cel G l (qO G (8+l) _) x y=0;rw[e _ A1];exact h.zero l A1 x y
theorem PZ{r:AH}(h:GF r 0 GT=0):∀k,Bc r k (λ_ _=>0)=λ_ _=>0
 |0=>rfl
 |k+1=>by
  show stp r (Bc r k _)=_;rw[PZ h k]
  funext x y
  exact h
theorem Bs.lev{G:Gv}(ok:GOk G)(h:Bs G):∀l:Nat,l<=48->Ak G (bareN l) (l:Int)
 |0,_=>⟨_,ok.leaf 0 A3,rfl⟩
 |l+1,hl=>⟨_,h l A1,by show(l:Int)+1=((l+1:Nat):Int);lia⟩
theorem JR.bare{r:AH}{G:Gv}(ok:GOk G)(h:Bs G)(re:GF r 0 GT=0){l e:Nat}(hl:l+2<=48)(he:e<=l):JR r G e (bareN (l+2)) (bareN (l+1)):=by
 refine⟨l,h.lev ok _ hl,he,h.lev ok _ A1,λx y _ _=>?_⟩;have z:∀k,k<=48->BZ G k (bareN k)=λ_ _=>0:=λk hk=>by
  funext x y
  unfold BZ;rw[h.zero k hk x y];rfl
 rw[z _ hl,z _ A1,PZ re]
theorem Wm{r:AH}(h:Nw r){cell:Int}(hc:JY cell)(ar:List Int):JY (GF r cell ar):=by
 cases e:Nh r cell ar with
 |none=>rw[Rc e];exact hc
 |some i =>
  obtain⟨c,h1,h2⟩:=Rb e;rw[h2];exact(h.ok c (D4 h1)).makes
theorem Wi:∀xs:List Int,xs.length=8->∃a b c d e f g h,xs=[a,b,c,d,e,f,g,h]
 |[a,b,c,d,e,f,g,h],_=>⟨a,b,c,d,e,f,g,h,rfl⟩
structure Ix(H:Hp)(g:GA)(G:Gv)(N M:Nat)(r:AH)(m:MA):Prop where
 tp:H m.tp=some (.tup [.ref m.l,.ref m.kc])
 l:H m.l=some (.lst (m.ds.map V.ref))
 ap:m.l≠g.lv/\m.l≠g.pt/\m.kc≠g.nm
 len:m.ds.length=47
 nd:m.ds.Nodup
 sq:∀(e:Nat) d,m.ds[e]?=some d->∃kv,H d=some (.dK kv)/\kv.length<=N/\(∀p∈kv,∃i,p.1=Sum.inl i)/\∀(n:Nat) v,BB kv (Sum.inl (n:Int))=some v->∃k:Nat,v=.int (k:Int)/\JR r G e n k
 ce:∃kc,H m.kc=some (.dT kc)/\kc.length<=M/\∀(ks:List Int) v,BB kc (kOf ks)=some v->∃c ar,ks=c::ar/\v=.int (GF r c ar)
theorem Ix.mono{H:Hp}{g:GA}{G:Gv}{N M N' M':Nat}{r:AH}{m:MA}(h:Ix H g G N M r m)(e1:N<=N')(e2:M<=M'):Ix H g G N' M' r m:=by
 refine⟨h.tp,h.l,h.ap,h.len,h.nd,λe d ed=>?_,?_⟩
 ·obtain⟨kv,h1,h2,h3,h4⟩:=h.sq e d ed;exact⟨kv,h1,C8 h2 e1,h3,h4⟩
 ·obtain⟨kc,h1,h2,h3⟩:=h.ce;exact⟨kc,h1,C8 h2 e2,h3⟩
theorem Ix.kp{H H':Hp}{g:GA}{G G':Gv}{N M i:Nat}{r:AH}{m:MA}(h:Ix H g G N M r m)(ok:GOk G)(go:AG G G' i)(k:∀b o,H b=some o->b=m.tp\/b=m.l\/b∈m.ds\/b=m.kc->H' b=some o):Ix H' g G' N M r m:=by
 refine⟨k _ _ h.tp (.inl rfl),k _ _ h.l (.inr (.inl rfl)),h.ap,h.len,h.nd,λe d ed=>?_,?_⟩
 ·obtain⟨kv,h1,h2,h3,h4⟩:=h.sq e d ed;refine⟨kv,k _ _ h1 (.inr (.inr (.inl (D4 ed)))),h2,h3,λn v hv=>?_⟩;obtain⟨x,e1,e2⟩:=h4 n v hv;exact⟨x,e1,e2.goes ok go⟩
 ·obtain⟨kc,h1,h2,h3⟩:=h.ce;exact⟨kc,k _ _ h1 (.inr (.inr (.inr rfl))),h2,h3⟩
structure JW(a:Ad)(H:Hp)(g:GA)(G:Gv)(N M:Nat)(p dx mem pr:Addr)(r:AH)(m:MA):Prop where
 gr:AI a H g G
 ok:GOk G
 bs:Bs G
 br:H g.br=some (.lst ((CC 48).map V.int))
 nbr:g.br≠g.lv/\g.br≠g.pt
 hp:H p=some (.ins a.c_Jumps dx (jf5 g.p mem pr m.l m.kc))
 ru:Cp a H pr (Df r) r
 rok:Nw r
 rest:GF r 0 GT=0
 me:Ix H g G N M r m
theorem JW.same{a:Ad}{H H':Hp}{g:GA}{G:Gv}{N M:Nat}{p dx mem pr:Addr}{r:AH}{m:MA}(s:AA H H')(h:JW a H g G N M p dx mem pr r m):JW a H' g G N M p dx mem pr r m :=
 ⟨h.gr.same s,h.ok,h.bs,s _ _ h.br,h.nbr,s _ _ h.hp,h.ru.same s,h.rok,h.rest,h.me.kp h.ok (AG.refl h.ok) λb o e _=>s _ _ e⟩
theorem JW.mono{a:Ad}{H:Hp}{g:GA}{G:Gv}{N M N' M':Nat}{p dx mem pr:Addr}{r:AH}{m:MA}(h:JW a H g G N M p dx mem pr r m)(e1:N<=N')(e2:M<=M'):JW a H g G N' M' p dx mem pr r m :=
 ⟨h.gr,h.ok,h.bs,h.br,h.nbr,h.hp,h.ru,h.rok,h.rest,h.me.mono e1 e2⟩
theorem Ix.fr{a:Ad}{H H':Hp}{g:GA}{G G':Gv}{N M i:Nat}{r:AH}{m:MA}(h:Ix H g G N M r m)(hg:AI a H g G)(ok:GOk G)(f:Fr g H H')(go:AG G G' i):Ix H' g G' N M r m:=by
 obtain⟨ts,h3,_⟩:=hg.pt;refine h.kp ok go λb o e w=>?_;rcases w with z|z|z|z
 ·have e2:=h.tp;rw[<-z,e]at e2;cases e2;exact f _ _ e (AD e hg.lv A4) (AD e h3 A4) (AD e hg.nm A4)
 ·have e2:=h.l;rw[z]at e⊢;rw[e]at e2;cases e2;exact f _ _ e h.ap.1 h.ap.2.1 (AD e hg.nm A4)
 ·obtain⟨j,hj⟩:=F7 z;obtain⟨kv,e2,_⟩:=h.sq j b hj;rw[e]at e2;cases e2;exact f _ _ e (AD e hg.lv A4) (AD e h3 A4) (AD e hg.nm A4)
 ·obtain⟨kc,e2,_⟩:=h.ce;rw[z]at e⊢;rw[e]at e2;cases e2;exact f _ _ e (AD e hg.lv A4) (AD e h3 A4) h.ap.2.2
theorem Cp.fr{a:Ad}{H H':Hp}{g:GA}{G:Gv}{p:Addr}{x:Str}{r:AH}(h:Cp a H p x r)(hg:AI a H g G)(f:Fr g H H'):Cp a H' p x r:=by
 obtain⟨ts,h3,_⟩:=hg.pt;exact h.kp λb o e n=>f _ _ e (AD e hg.lv (by intro z;rw[z]at n;cases n)) (AD e h3 (by intro z;rw[z]at n;cases n)) (AD e hg.nm (by intro z;rw[z]at n;cases n))
theorem JW.fr{a:Ad}{H H':Hp}{g:GA}{G G':Gv}{N M i:Nat}{p dx mem pr:Addr}{r:AH}{m:MA}(h:JW a H g G N M p dx mem pr r m)(f:Fr g H H')(hg':AI a H' g G')(go:AG G G' i):JW a H' g G' N M p dx mem pr r m:=by
 obtain⟨ts,h3,_⟩:=h.gr.pt;refine⟨hg',go.ok,h.bs.goes go,f _ _ h.br h.nbr.1 h.nbr.2 (AD h.br h.gr.nm A4),h.nbr,f _ _ h.hp (AD h.hp h.gr.lv A4) (AD h.hp h3 A4) (AD h.hp h.gr.nm A4),h.ru.fr h.gr f,h.rok,h.rest,h.me.fr h.gr h.ok f go⟩
def FrJ(g:GA)(m:MA)(H H':Hp):Prop:=∀b o,H b=some o->b≠g.lv->b≠g.pt->b≠g.nm->b≠m.kc->b∉m.ds->H' b=some o
theorem FrJ.trans{g:GA}{m:MA}{H1 H2 H3:Hp}(h:FrJ g m H1 H2)(k:FrJ g m H2 H3):FrJ g m H1 H3:=λb o e n1 n2 n3 n4 n5=>k _ _ (h _ _ e n1 n2 n3 n4 n5) n1 n2 n3 n4 n5
theorem Fr.j{g:GA}{m:MA}{H1 H2:Hp}(h:Fr g H1 H2):FrJ g m H1 H2:=λb o e n1 n2 n3 _ _=>h _ _ e n1 n2 n3
theorem AA.j{g:GA}{m:MA}{H1 H2:Hp}(h:AA H1 H2):FrJ g m H1 H2:=λb o e _ _ _ _ _=>h _ _ e
theorem JW.putC{a:Ad}{H:Hp}{g:GA}{G:Gv}{N M:Nat}{p dx mem pr:Addr}{r:AH}{m:MA}{kc:List (List Key×V)}(h:JW a H g G N M p dx mem pr r m)(len:kc.length<=M+1)(sem:∀(ks:List Int) v,BB kc (kOf ks)=some v->∃c ar,ks=c::ar/\v=.int (GF r c ar)):JW a (upd H m.kc (.dT kc)) g G N (M+1) p dx mem pr r m:=by
 obtain⟨kc0,hk,_⟩:=h.me.ce;have other:∀{b v},H b=some v->(∀kk,v≠.dT kk)->upd H m.kc (.dT kc) b=some v:=λ{b v} e n=>by rw[Ar (AD e hk (n _))];exact e
 obtain⟨ts,h3,h4⟩:=h.gr.pt;refine⟨⟨other h.gr.hp B0,other h.gr.lv B0,⟨ts,other h3 B0,PairedM.imp (λt q z=>other z B0) h4⟩,by rw[Ar (V5 h.me.ap.2.2)];exact h.gr.nm,h.gr.ne⟩,h.ok,h.bs,other h.br B0,h.nbr,other h.hp B0,h.ru.kp λb o e n=>other e λkk z=>(by rw[z]at n;cases n),h.rok,h.rest,⟨other h.me.tp B0,other h.me.l B0,h.me.ap,h.me.len,h.me.nd,λe d ed=>?_,⟨kc,Af,len,sem⟩⟩⟩;obtain⟨kv,q1,q2,q3,q4⟩:=h.me.sq e d ed;exact⟨kv,other q1 B0,q2,q3,q4⟩
theorem JW.putS{a:Ad}{H:Hp}{g:GA}{G:Gv}{N M:Nat}{p dx mem pr:Addr}{r:AH}{m:MA}{e:Nat}{d:Addr}{kv:List (Key×V)}{n k:Nat}(h:JW a H g G N M p dx mem pr r m)(ed:m.ds[e]?=some d)(hd:H d=some (.dK kv))(jr:JR r G e n k):JW a (upd H d (.dK (Eh kv (Sum.inl (n:Int)) (.int (k:Int))))) g G (N+1) M p dx mem pr r m:=by
 have other:∀{b v},H b=some v->(∀kk,v≠.dK kk)->upd H d (.dK (Eh kv (Sum.inl (n:Int)) (.int (k:Int)))) b=some v:=λ{b v} e n=>by rw[Ar (AD e hd (n _))];exact e
 obtain⟨ts,h3,h4⟩:=h.gr.pt;obtain⟨kc,c1,c2,c3⟩:=h.me.ce;refine⟨⟨other h.gr.hp B0,other h.gr.lv B0,⟨ts,other h3 B0,PairedM.imp (λt q z=>other z B0) h4⟩,other h.gr.nm B0,h.gr.ne⟩,h.ok,h.bs,other h.br B0,h.nbr,other h.hp B0,h.ru.kp λb o e n=>other e λkk z=>(by rw[z]at n;cases n),h.rok,h.rest,⟨other h.me.tp B0,other h.me.l B0,h.me.ap,h.me.len,h.me.nd,λe' d' ed'=>?_,⟨kc,other c1 B0,c2,c3⟩⟩⟩;obtain⟨kv',q1,q2,q3,q4⟩:=h.me.sq e' d' ed';by_cases z:e'=e
 ·rw[z,ed]at ed';cases ed';rw[hd]at q1;cases q1;subst z;refine⟨_,Af,C8 (EY _ _ _) A1,λq hq=>?_,λn' v hv=>?_⟩
  ·unfold Eh at hq;split at hq
   ·obtain⟨q0,h0,rfl⟩:=D6.mp hq;split
    ·exact q3 q0 h0
    ·exact q3 q0 h0
   ·rcases M6.mp hq with y|y
    ·exact q3 q y
    ·rw[D7.mp y];exact⟨_,rfl⟩
  ·rw[Jo]at hv;split at hv
   ·rename_i y;have:n'=n:=by have:=Sum.inl.inj y;lia
    rw[this];cases hv;exact⟨k,rfl,jr⟩
   ·exact q4 n' v hv
 ·have nd:d'≠d:=λy=>z (by
   rw[y]at ed';exact(List.getElem?_inj (B6.mp ed').1 h.me.nd).mp (ed'.trans ed.symm))
  exact⟨kv',by rw[Ar nd];exact q1,C8 q2 A1,q3,q4⟩
section
variable{P:Program}{w:World}{K:PySem.W.Frag}{mg:Str->Option Value}{base:Heap}{a:Ad}
inductive WE(a:Ad)(vs:List V)(H:Hp)(Q:VK):Prop
 |mk (p dx mem pr t:Addr) (g:GA) (G:Gv) (N M:Nat) (r:AH) (m:MA) (c:Int) (ar:List Int) (_:vs=[.ref p,.ref t]) (_:JW a H g G N M p dx mem pr r m) (_:H t=some (.tup ((c::ar).map V.int))) (_:ar.length=8) (_:∀x∈c::ar,JY x) (_:M<1000000) (_:∀H',(∀b o,H b=some o->b≠m.kc->H' b=some o)->JW a H' g G N (M+1) p dx mem pr r m->Q (.int (GF r c ar)) H'):WE a vs H Q
def SD(a:Ad):Sp:=λvs H Q _=>WE a vs H Q
theorem ok_cel{f:Addr}{fd:FuncData}(F:Fun K "cell_after" "Jumps.cell_after" Cb f fd)(T:Top K mg a)(aW:BK P w K mg base CX0 4 a.c_Grove "state_of" DG (UK a))(aN:BK P w K mg base CX0 3 a.c_Grove "leaf" Ek (OM a))(bA:Cal P w K mg base CX0 5 "becomes" IB (SE a)):AJ P w K mg base CX0 6 f fd Db (SD a):=by
 refine F.ok BU (λvs H Q E h=>?_) (λcdv A outer s H vs Q E hr h=>?_)
 ·obtain⟨p,dx,mem,pr,t,g,G,N,M,r,m,c,ar,rfl,_⟩:=h;rfl
 ·obtain⟨p,dx,mem,pr,t,g,G,N,M,r,m,c,ar,rfl,hj,ht,h8,sts,few,k⟩:=h;obtain⟨kc,c1,c2,c3⟩:=hj.me.ce;have htk:H t=some (.tup ((kOf (c::ar)).map kV)):=by rw[VT];exact ht
  refine⟨_,(Ac (Ao (i:=2) BU.nd rfl (Or.inl rfl) (JD (FK hr) (Az (pv 0) rfl) (pv 1) ⟨rfl,rfl,rfl,rfl⟩)) (Ac (AN (Ax Jk (pv 2) Cz (AC _)) (Ac (Gm (i:=3) rfl BU.nd rfl rfl (BD.of (So:=Ah Cb) (No:=EJ) (N:=["one","self"]) (k:=1) (cs:=[0]) rfl rfl A0) (Rx (pv 1)) (λ_ _ _=>(Bk (i:=0) A0 rfl rfl)) (λ_ _ _=>BL) (λ_ _ _=>(AF (Pb (K:=K) rfl (pv 1) rfl) aW (rm hr) An (Aa (pv 0) Ab)))) (Ac (Ao (i:=2) BU.nd rfl (Or.inl rfl) (AF (Az (pv 0) rfl) aN (rm hr) An (Aa (Aq bA (rm hr) rfl An (Aa (Az (pv 0) rfl) (Aa (Aj Aw (pv 3) Ae (λ_ _=>rfl)) (Aa (Qt SF (pv 3) (OX Ae) po_none) Ab)))) Ab))) (Ag (Iz (FK hr) (Az (pv 0) rfl) (pv 1) (pv 2) rfl)))) AB) (Ag (As (pv 2))))),?_⟩
  try dsimp only[cxK]
  refine xwf rfl rfl hj.hp T.cl_Jumps T.na_Jumps_known_cells (VV _ _ _ _ _) ⟨m.kc,rfl,.inr ⟨_,.inl c1⟩,(xq1 rfl ⟨_,GS.t (k:=kOf (c::ar)) c1 htk,?_⟩)⟩;cases ev:BB kc (kOf (c::ar))with
  |some v =>
   obtain⟨c',ar',e1,e2⟩:=c3 _ v ev;cases e1;rw[e2];exact xq1 rfl ⟨rfl,(xq1 rfl (Bb (xq1 rfl (k H (λb o e _=>e) (hj.mono (C0 _) (T8 _))))))⟩
  |none =>
   refine xq1 rfl ⟨rfl,(xq1 rfl (BT ?_))⟩;refine xq1 rfl ⟨t,rfl,⟨_,SqT.of ht⟩,?_⟩;refine PJ (xs:=(c::ar).map V.int) (λi acc H2=>H=H2/\acc=((c::ar).take i).map V.int) ⟨rfl,rfl⟩ (λi acc H2 _ z=>z.1▸SqT.of ht) ?_ ?_
   ·rintro i v acc H2 ev2 ⟨rfl,rfl⟩;rw[B9]at ev2;obtain⟨x,ex,rfl⟩:=D5.mp ev2;obtain⟨x0,x8⟩:=sts x (D4 ex);obtain⟨n,rfl⟩:=F9 x0;refine⟨⟨[some (.int (n:Int))],rfl,rfl⟩,?_,GV (xq1 rfl (xq5 hj.hp T.cl_Jumps T.na_Jumps_grove (Dc _ _ _ _ _) (xq3 rfl hj.gr.hp (RD g) (xq1 rfl ⟨g,G,n,_,rfl,hj.gr,hj.ok.leaf n A1,rfl,rfl,?_⟩))))⟩
    ·rw[B5,J9];exact F6 (S3 _ _) (by rw[F0,h8];decide)
    ·rw[F8,ex,Q7,C9];rfl
   ·rintro acc H2 ⟨rfl,rfl⟩ L hL;rw[B5,L6];generalize e_s1:upd H L _=H1;obtain⟨s1,hL1⟩:=alc hL e_s1;have hj1:=hj.same s1;refine xwf rfl rfl hj1.hp T.cl_Jumps T.na_Jumps_grove (Dc _ _ _ _ _) (xq3 rfl hj1.gr.hp (SN g) (xwf rfl rfl hj1.hp T.cl_Jumps T.na_Jumps_rule (jf5_ru _ _ _ _ _) (xwi rfl rfl rfl (SqL.of hL1) (Al (j:=0) rfl) ?_)));refine xq1 rfl ⟨1,rfl,L,(xq1 rfl ⟨SqL.of hL1,λSL hSL=>?_⟩)⟩;have ecut:RZ ((c::ar).map V.int) (some 1) none=ar.map V.int:=by
     obtain⟨x1,x2,x3,x4,x5,x6,x7,x8,rfl⟩:=Wi ar h8;rfl
    rw[ecut];generalize cV:upd H1 SL _=H2;obtain⟨s2,hS2⟩:=alc hSL cV;have hj2:=hj1.same s2;refine⟨pr,SL,_,r,c,ar,rfl,hj2.ru,hj2.rok.rok,hS2,λH3 s3=>?_⟩;have hj3:=hj2.same s3;have s03:=(s1.trans s2).trans s3;have bst:=Wm hj.rok (sts c C3) ar;refine⟨g.p,_,rfl,bst.1,bst.2,?_⟩;refine xq1 rfl (xq1 rfl (xq5 hj3.hp T.cl_Jumps T.na_Jumps_known_cells (VV _ _ _ _ _) (xq1 rfl ⟨m.kc,(xq1 rfl ⟨Mb.t (k:=kOf (c::ar)) (s03 _ _ c1) (s03 _ _ htk) (F6 (show kc.length<=1000000 by lia) A3),?_⟩)⟩)));refine xq1 rfl (k _ (λb o e n=>by rw[Ar n];exact s03 _ _ e) (hj3.putC (C8 (EY _ _ _) A1) λks v hv=>?_));rw[Jo]at hv;split at hv
    ·rename_i y;rw[Pu y];cases hv;exact⟨c,ar,rfl,rfl⟩
    ·exact c3 ks v hv
end
def FrC(g:GA)(m:MA)(H H':Hp):Prop:=∀b o,H b=some o->b≠g.lv->b≠g.pt->b≠g.nm->b≠m.kc->H' b=some o
theorem FrC.trans{g:GA}{m:MA}{H1 H2 H3:Hp}(h:FrC g m H1 H2)(k:FrC g m H2 H3):FrC g m H1 H3:=λb o e n1 n2 n3 n4=>k _ _ (h _ _ e n1 n2 n3 n4) n1 n2 n3 n4
theorem FrC.j{g:GA}{m:MA}{H1 H2:Hp}(h:FrC g m H1 H2):FrJ g m H1 H2:=λb o e n1 n2 n3 n4 _=>h _ _ e n1 n2 n3 n4
theorem Fr.c{g:GA}{m:MA}{H1 H2:Hp}(h:Fr g H1 H2):FrC g m H1 H2:=λb o e n1 n2 n3 _=>h _ _ e n1 n2 n3
def spNo:Sp:=λ_ _ _ _=>False
theorem AJ.no{P:Program}{w:World}{K:PySem.W.Frag}{mg:Str->Option Value}{base:Heap}{CX:CXT}{k:Nat}{f:Addr}{fd:FuncData}{ps:List Str}:AJ P w K mg base CX k f fd ps spNo :=
 ⟨λ_ _ _ _ h=>h.elim,λ_ _ _ _ _ _ _ _ _ _ _ _ _ h=>h.elim⟩
theorem AG.mono{G G':Gv}{n m:Nat}(h:AG G G' n)(e:n<=m):AG G G' m:=⟨h.ok,h.pre,C8 h.few A1⟩
theorem bareJ{l:Nat}(h:l<=48):((CC 48).map V.int)[l]?=some (.int (bareN l:Int)):=by
 unfold CC;rw[B9,B9,P9 A1];rfl
section
variable{P:Program}{w:World}{K:PySem.W.Frag}{mg:Str->Option Value}{base:Heap}{a:Ad}
theorem tretl {ts:TA} {D:JX} {σ:St} {H:Hp} (h:ts σ H λxs H1=>xs.length<=sizeLine/\∀p,H1 p=none->D.rt (.ref p) (upd H1 p (.lst xs))):tRet (tLst ts) D σ H:=h
theorem EQ {ta:TE} {tr:TA} {σ:St} {H:Hp} {Q:List V->Hp->Prop} (h:ta σ H λx H1=>tr σ H1 λxs H2=>Q (x::xs) H2):Cr ta tr σ H Q:=h
theorem ixt{K:PySem.W.Frag}{σ:St}{i:Nat}{H:Hp}{t:Addr}{xs:List V}{j:Int}{v:V}{Q:VK}(r:σ[i]?=some (some (.ref t)))(h:H t=some (.tup xs))(e:atI xs j=some v)(k:Q v H):tOp (IK K) (FG i) (tC (V.int j)) σ H Q:=⟨_,r,t,xs,j,v,rfl,rfl,SqT.of h,e,k⟩
theorem ixp{K:PySem.W.Frag}{H:Hp}{p t:Addr}{ts:List Addr}{n:Nat}{Q:VK}(h:H p=some (.lst (ts.map V.ref)))(e:ts[n]?=some t)(k:Q (.ref t) H):rIxL K (.ref p) (.int n) H Q:=⟨p,_,n,_,rfl,rfl,SqL.of h,Al (by rw[B9,e];rfl),k⟩
structure Ln(a:Ad)(g:GA)(H0:Hp)(G0:Gv)(j:Nat)(H:Hp)(G:Gv):Prop where
 fr:Fr g H0 H
 kt:∀{b:Addr}{xs:List V},H0 b=some (.tup xs)->H b=some (.tup xs)
 gr:AI a H g G
 go:AG G0 G j
theorem lnk{a:Ad}{H0 H:Hp}{g:GA}{G0 G:Gv}{j:Nat}{u:Addr}{x y z w:Nat}{l:Int}{Q:VK}(s:Ln a g H0 G0 j H G)(hu:H u=none)(lv:Ak G0 x l/\Ak G0 y l/\Ak G0 z l/\Ak G0 w l)(h47:l<=47)(few:G0.length+j<9000000)
  (k:∀(n:Nat)(G':Gv)(H':Hp),Ln a g H0 G0 (j+1) H' G'->AG G G' 1->G'[n]?=some ⟨[(x:Int),(y:Int),(z:Int),(w:Int)],l+1⟩->Q (.int n) H'):Se a [.ref g.p,.ref u] (upd H u (.tup [.int x,.int y,.int z,.int w])) Q:=by
 generalize e_1:upd H u _=H1;obtain⟨s1,h1⟩:=alc hu e_1;have i1:=s.gr.same s1;have lf:=s.go.few;refine⟨g,G,u,x,y,z,w,l,rfl,i1,s.go.ok,h1,⟨s.go.lev lv.1,s.go.lev lv.2.1,s.go.lev lv.2.2.1,s.go.lev lv.2.2.2⟩,h47,by lia,λn G' H' fr hg go e=>k n G' H' ⟨s.fr.trans ((AA.fr s1).trans fr),λ{b xs} e=>?_,hg,s.go.trans go⟩ go e⟩;obtain⟨us,q3,_⟩:=i1.pt;have e':=s1 _ _ (s.kt e);exact fr _ _ e' (AD e' i1.lv A4) (AD e' q3 A4) (AD e' i1.nm A4)
theorem ttup {ts:TA} {σ:St} {H:Hp} {Q:VK} (h:ts σ H λxs H1=>xs.length<=sizeLine/\∀p,H1 p=none->Q (.ref p) (upd H1 p (.tup xs))):UE ts σ H Q:=h
theorem al9{P:Int->Prop}{a b c d e f g h i:Int}(ha:P a)(hb:P b)(hc:P c)(hd:P d)(he:P e)(hf:P f)(hg:P g)(hh:P h)(hi:P i):∀x∈[a,b,c,d,e,f,g,h,i],P x:=by
 intro x hx;simp only[B8,D3,W7]at hx;rcases hx with rfl|rfl|rfl|rfl|rfl|rfl|rfl|rfl|rfl<;>assumption
structure Lc(g:GA)(m:MA)(H0 H:Hp):Prop where
 fr:FrC g m H0 H
 kt:∀{b:Addr}{xs:List V},H0 b=some (.tup xs)->H b=some (.tup xs)
theorem celT{a:Ad}{H0 H:Hp}{g:GA}{G:Gv}{N M:Nat}{p dx mem pr u:Addr}{r:AH}{m:MA}{c:Int}{ar:List Int}{Q:VK}(hj:JW a H g G N M p dx mem pr r m)(lc:Lc g m H0 H)(hu:H u=none)(sts:∀x∈c::ar,JY x)(hl:ar.length=8)(hM:M<1000000)
  (h:∀(k:Nat)(Y:Hp),GF r c ar=k->k<8->Lc g m H0 Y->JW a Y g G N (M+1) p dx mem pr r m->Q (.int k) Y):WE a [.ref p,.ref u] (upd H u (.tup ((c::ar).map V.int))) Q:=by
 generalize e_1:upd H u _=X;obtain⟨s,hv⟩:=alc hu e_1;have i:=hj.same s;refine⟨p,dx,mem,pr,u,g,G,N,M,r,m,c,ar,rfl,i,hv,hl,sts,hM,λY fr hj'=>?_⟩;obtain⟨z1,z2⟩:=Wm hj.rok (sts c (.head ..)) ar;obtain⟨k,e⟩:=F9 z1;rw[e];refine h k Y e A1 ⟨lc.fr.trans λb o e _ _ _ n4=>fr _ _ (s _ _ e) n4,λ{b xs} e=>?_⟩ hj';obtain⟨kc,c1,_⟩:=i.me.ce;have e:=s _ _ (lc.kt e);exact fr _ _ e (AD e c1 A4)
theorem cel9{K:PySem.W.Frag}{a:Ad}{H0 H:Hp}{g:GA}{G:Gv}{N M:Nat}{p dx mem pr:Addr}{r:AH}{m:MA}{σ:St}{Q:VK}{i1 i2 i3 i4 i5 i6 i7 i8 i9:Nat}{t1 t2 t3 t4 t5 t6 t7 t8 t9:Addr}{xs1 xs2 xs3 xs4 xs5 xs6 xs7 xs8 xs9:List V}{j1 j2 j3 j4 j5 j6 j7 j8 j9 c1 c2 c3 c4 c5 c6 c7 c8 c9:Int}(hj:JW a H g G N M p dx mem pr r m)(lc:Lc g m H0 H)(h1:H0 t1=some (.tup xs1))(h2:H0 t2=some (.tup xs2))(h3:H0 t3=some (.tup xs3))(h4:H0 t4=some (.tup xs4))(h5:H0 t5=some (.tup xs5))(h6:H0 t6=some (.tup xs6))(h7:H0 t7=some (.tup xs7))(h8:H0 t8=some (.tup xs8))(h9:H0 t9=some (.tup xs9))(sts:∀x∈[c1,c2,c3,c4,c5,c6,c7,c8,c9],JY x)(hM:M<1000000)
  (k:∀(k:Nat)(Y:Hp),GF r c1 [c2,c3,c4,c5,c6,c7,c8,c9]=k->k<8->Lc g m H0 Y->JW a Y g G N (M+1) p dx mem pr r m->Q (.int k) Y) (e:σ[0]?=some (some (.ref p))/\(σ[i1]?=some (some (.ref t1))/\atI xs1 j1=some (.int c1))/\(σ[i2]?=some (some (.ref t2))/\atI xs2 j2=some (.int c2))/\(σ[i3]?=some (some (.ref t3))/\atI xs3 j3=some (.int c3))/\(σ[i4]?=some (some (.ref t4))/\atI xs4 j4=some (.int c4))/\(σ[i5]?=some (some (.ref t5))/\atI xs5 j5=some (.int c5))/\(σ[i6]?=some (some (.ref t6))/\atI xs6 j6=some (.int c6))/\(σ[i7]?=some (some (.ref t7))/\atI xs7 j7=some (.int c7))/\(σ[i8]?=some (some (.ref t8))/\atI xs8 j8=some (.int c8))/\(σ[i9]?=some (some (.ref t9))/\atI xs9 j9=some (.int c9)):=by exact⟨rfl,⟨rfl,rfl⟩,⟨rfl,rfl⟩,⟨rfl,rfl⟩,⟨rfl,rfl⟩,⟨rfl,rfl⟩,⟨rfl,rfl⟩,⟨rfl,rfl⟩,⟨rfl,rfl⟩,⟨rfl,rfl⟩⟩) :
  Sr a.c_Jumps "cell_after" (SD a) [] E0 (FG 0) (Cr (UE (Cr (tOp (IK K) (FG i1) (tC (V.int j1))) (Cr (tOp (IK K) (FG i2) (tC (V.int j2))) (Cr (tOp (IK K) (FG i3) (tC (V.int j3))) (Cr (tOp (IK K) (FG i4) (tC (V.int j4))) (Cr (tOp (IK K) (FG i5) (tC (V.int j5))) (Cr (tOp (IK K) (FG i6) (tC (V.int j6))) (Cr (tOp (IK K) (FG i7) (tC (V.int j7))) (Cr (tOp (IK K) (FG i8) (tC (V.int j8))) (Cr (tOp (IK K) (FG i9) (tC (V.int j9))) OG)))))))))) OG) σ H Q:=by
 apply AT;intro G_ hG_;obtain⟨r0,⟨r1,e1⟩,⟨r2,e2⟩,⟨r3,e3⟩,⟨r4,e4⟩,⟨r5,e5⟩,⟨r6,e6⟩,⟨r7,e7⟩,⟨r8,e8⟩,⟨r9,e9⟩⟩:=e;apply hG_;clear hG_ G_;exact⟨_,r0,(xq3 rfl hj.hp (VC _ _ _ _ _) (ixt r1 (lc.kt h1) e1 (ixt r2 (lc.kt h2) e2 (ixt r3 (lc.kt h3) e3 (ixt r4 (lc.kt h4) e4 (ixt r5 (lc.kt h5) e5 (ixt r6 (lc.kt h6) e6 (ixt r7 (lc.kt h7) e7 (ixt r8 (lc.kt h8) e8 (ixt r9 (lc.kt h9) e9 ⟨(by show 9<=sizeLine;decide),λ_ hu=>celT hj lc hu sts rfl hM k⟩))))))))))⟩
inductive Wx(a:Ad)(vs:List V)(H:Hp)(Q:VK):Prop
 |mk (p dx mem pr:Addr) (g:GA) (G:Gv) (N M:Nat) (r:AH) (m:MA) (n:Nat) (_:vs=[.ref p,.int n]) (_:JW a H g G N M p dx mem pr r m) (_:Ak G n ((1+1:Nat):Int)) (_:M<900000) (_:G.length<8000000) (_:∀(k:Nat)(G':Gv)(H':Hp),FrC g m H H'->JW a H' g G' N (M+4) p dx mem pr r m->AG G G' 1->JR r G' 0 n k->Q (.int k) H'):Wx a vs H Q
def OL(a:Ad):Sp:=λvs H Q _=>Wx a vs H Q
theorem ok_mid2{f:Addr}{fd:FuncData}(F:Fun K "middle_after" "Jumps.middle_after" Cw f fd)(T:Top K mg a)(a6:BK P w K mg base CX0 2 a.c_Grove "linked" AQ (DV a))(aE:BK P w K mg base CX0 6 a.c_Jumps "cell_after" Db (SD a)):AJ P w K mg base CX0 7 f fd BM (OL a):=by
 refine F.ok AV (λvs H Q E h=>?_) (λcdv A outer s H vs Q E hr h=>?_)
 ·apply AT;intro G_ hG_;obtain⟨p,dx,mem,pr,g,G,N,M,r,m,n,rfl,_⟩:=h;apply hG_;clear hG_ G_;rfl
 ·apply AT;intro G_ hG_;obtain⟨p,dx,mem,pr,g,G,N,M,r,m,n,rfl,hj,hl,fewM,few,k⟩:=h;obtain⟨qa,qb,qc,qd,en,la,lb,lc,ld⟩:=hj.ok.four hl;obtain⟨a0,a1,a2,a3,ea,la0,la1,la2,la3⟩:=hj.ok.four (l:=0) la;obtain⟨b0,b1,b2,b3,eb,lb0,lb1,lb2,lb3⟩:=hj.ok.four (l:=0) lb;obtain⟨c0,c1,c2,c3,ec,lc0,lc1,lc2,lc3⟩:=hj.ok.four (l:=0) lc;obtain⟨d0,d1,d2,d3,ed,ld0,ld1,ld2,ld3⟩:=hj.ok.four (l:=0) ld;obtain⟨ts,h3,h4⟩:=hj.gr.pt;obtain⟨t,et,ht⟩:=PairedM.get h4 en;obtain⟨ta,eta,hta⟩:=PairedM.get h4 ea;obtain⟨tb,etb,htb⟩:=PairedM.get h4 eb;obtain⟨tc,etc,htc⟩:=PairedM.get h4 ec;obtain⟨td,etd,htd⟩:=PairedM.get h4 ed;apply hG_;clear hG_ G_;refine⟨_,(Ac (Ao (i:=2) AV.nd rfl (Or.inl rfl) (Aj Aw (Az (Az (pv 0) rfl) rfl) (pv 1) (λ_ _=>rfl))) (Ac (Ao (i:=3) AV.nd rfl (Or.inl rfl) (Aj Aw (Az (Az (pv 0) rfl) rfl) (Aj Am (pv 2) Ae (λ_ _=>rfl)) (λ_ _=>rfl))) (Ac (Ao (i:=4) AV.nd rfl (Or.inl rfl) (Aj Aw (Az (Az (pv 0) rfl) rfl) (Aj Am (pv 2) Ae (λ_ _=>rfl)) (λ_ _=>rfl))) (Ac (Ao (i:=5) AV.nd rfl (Or.inl rfl) (Aj Aw (Az (Az (pv 0) rfl) rfl) (Aj Am (pv 2) Ae (λ_ _=>rfl)) (λ_ _=>rfl))) (Ac (Ao (i:=6) AV.nd rfl (Or.inl rfl) (Aj Aw (Az (Az (pv 0) rfl) rfl) (Aj Am (pv 2) Ae (λ_ _=>rfl)) (λ_ _=>rfl))) (Ag (As (AF (Az (pv 0) rfl) a6 (rm hr) An (Be (Aa (AF (pv 0) aE (rm hr) An (Be (Aa (Aj Am (pv 3) Ae (λ_ _=>rfl)) (Aa (Aj Am (pv 3) Ae (λ_ _=>rfl)) (Aa (Aj Am (pv 3) Ae (λ_ _=>rfl)) (Aa (Aj Am (pv 4) Ae (λ_ _=>rfl)) (Aa (Aj Am (pv 3) Ae (λ_ _=>rfl)) (Aa (Aj Am (pv 4) Ae (λ_ _=>rfl)) (Aa (Aj Am (pv 5) Ae (λ_ _=>rfl)) (Aa (Aj Am (pv 5) Ae (λ_ _=>rfl)) (Aa (Aj Am (pv 6) Ae (λ_ _=>rfl)) Ab))))))))) Ab)) (Aa (AF (pv 0) aE (rm hr) An (Be (Aa (Aj Am (pv 4) Ae (λ_ _=>rfl)) (Aa (Aj Am (pv 3) Ae (λ_ _=>rfl)) (Aa (Aj Am (pv 4) Ae (λ_ _=>rfl)) (Aa (Aj Am (pv 4) Ae (λ_ _=>rfl)) (Aa (Aj Am (pv 3) Ae (λ_ _=>rfl)) (Aa (Aj Am (pv 4) Ae (λ_ _=>rfl)) (Aa (Aj Am (pv 5) Ae (λ_ _=>rfl)) (Aa (Aj Am (pv 6) Ae (λ_ _=>rfl)) (Aa (Aj Am (pv 6) Ae (λ_ _=>rfl)) Ab))))))))) Ab)) (Aa (AF (pv 0) aE (rm hr) An (Be (Aa (Aj Am (pv 5) Ae (λ_ _=>rfl)) (Aa (Aj Am (pv 3) Ae (λ_ _=>rfl)) (Aa (Aj Am (pv 3) Ae (λ_ _=>rfl)) (Aa (Aj Am (pv 4) Ae (λ_ _=>rfl)) (Aa (Aj Am (pv 5) Ae (λ_ _=>rfl)) (Aa (Aj Am (pv 6) Ae (λ_ _=>rfl)) (Aa (Aj Am (pv 5) Ae (λ_ _=>rfl)) (Aa (Aj Am (pv 5) Ae (λ_ _=>rfl)) (Aa (Aj Am (pv 6) Ae (λ_ _=>rfl)) Ab))))))))) Ab)) (Aa (AF (pv 0) aE (rm hr) An (Be (Aa (Aj Am (pv 6) Ae (λ_ _=>rfl)) (Aa (Aj Am (pv 3) Ae (λ_ _=>rfl)) (Aa (Aj Am (pv 4) Ae (λ_ _=>rfl)) (Aa (Aj Am (pv 4) Ae (λ_ _=>rfl)) (Aa (Aj Am (pv 5) Ae (λ_ _=>rfl)) (Aa (Aj Am (pv 6) Ae (λ_ _=>rfl)) (Aa (Aj Am (pv 5) Ae (λ_ _=>rfl)) (Aa (Aj Am (pv 6) Ae (λ_ _=>rfl)) (Aa (Aj Am (pv 6) Ae (λ_ _=>rfl)) Ab))))))))) Ab)) Ab)))) Ab))))))))),?_⟩
  try dsimp only[cxK]
  refine AW ?_;intro r_k0 s_k0 k0 hk E_k0;refine xwf rfl rfl hj.hp T.cl_Jumps T.na_Jumps_grove (Dc _ _ _ _ _) (xq5 hj.gr.hp T.cl_Grove T.na_Grove_parts (Ci g) (xq1 rfl (ixp h3 et ?_)));refine hk ?_;refine AW ?_;intro r_k1 s_k1 k1 hk E_k1;refine xwf rfl rfl hj.hp T.cl_Jumps T.na_Jumps_grove (Dc _ _ _ _ _) (xq5 hj.gr.hp T.cl_Grove T.na_Grove_parts (Ci g) (ixt rfl ht rfl (ixp h3 eta ?_)));refine hk ?_;refine AW ?_;intro r_k2 s_k2 k2 hk E_k2;refine xwf rfl rfl hj.hp T.cl_Jumps T.na_Jumps_grove (Dc _ _ _ _ _) (xq5 hj.gr.hp T.cl_Grove T.na_Grove_parts (Ci g) (ixt rfl ht rfl (ixp h3 etb ?_)));refine hk ?_;refine AW ?_;intro r_k3 s_k3 k3 hk E_k3;refine xwf rfl rfl hj.hp T.cl_Jumps T.na_Jumps_grove (Dc _ _ _ _ _) (xq5 hj.gr.hp T.cl_Grove T.na_Grove_parts (Ci g) (ixt rfl ht rfl (ixp h3 etc ?_)));refine hk ?_;refine AW ?_;intro r_k4 s_k4 k4 hk E_k4;refine xwf rfl rfl hj.hp T.cl_Jumps T.na_Jumps_grove (Dc _ _ _ _ _) (xq5 hj.gr.hp T.cl_Grove T.na_Grove_parts (Ci g) (ixt rfl ht rfl (ixp h3 etd ?_)));refine hk ?_;have st:∀{x:Nat},Ak G x ((0:Nat):Int)->JY (x:Int):=λ{x} h=>by
   have:=hj.ok.cell h;exact⟨by lia,by lia⟩
  have c_:Lc g m H H:=⟨λ_ _ e _ _ _ _=>e,λe=>e⟩
  refine xwf rfl rfl hj.hp T.cl_Jumps T.na_Jumps_grove (Dc _ _ _ _ _) (xq3 rfl hj.gr.hp (BE g) ?_);refine EQ (ttup (EQ (cel9 hj c_ hta hta hta htb hta htb htc htc htd (al9 (st la3) (st la0) (st la1) (st lb0) (st la2) (st lb2) (st lc0) (st lc1) (st ld0)) A1 λk0 Y0 ek0 kl0 x0 j0=>?_)));refine EQ (cel9 j0 x0 htb hta htb htb hta htb htc htd htd (al9 (st lb2) (st la1) (st lb0) (st lb1) (st la3) (st lb3) (st lc1) (st ld0) (st ld1)) A1 λk1 Y1 ek1 kl1 x1 j1=>?_);refine EQ (cel9 j1 x1 htc hta hta htb htc htd htc htc htd (al9 (st lc1) (st la2) (st la3) (st lb2) (st lc0) (st ld0) (st lc2) (st lc3) (st ld2)) A1 λk2 Y2 ek2 kl2 x2 j2=>?_);refine EQ (cel9 j2 x2 htd hta htb htb htc htd htc htd htd (al9 (st ld0) (st la3) (st lb2) (st lb3) (st lc1) (st ld1) (st lc3) (st ld2) (st ld3)) A1 λk3 Y3 ek3 kl3 x3 j3=>?_);have lf:∀{k:Nat},k<8->Ak G k ((0:Nat):Int):=λ{k} h=>⟨_,hj.ok.leaf k h,rfl⟩
  refine⟨(by show 4<=sizeLine;decide),λu hu=>lnk (⟨.refl _ _,λe=>e,j3.gr,.refl hj.ok⟩:Ln a g Y3 G 0 Y3 G) hu ⟨lf kl0,lf kl1,lf kl2,lf kl3⟩ A3 A1 λx G' H' s go e=>?_⟩;refine k x G' H' (x3.fr.trans (Fr.c s.fr)) (j3.fr s.fr s.gr go) go ⟨0,go.lev hl,C0 0,⟨_,e,rfl⟩,?_⟩;apply AT;intro G_ hG_;obtain⟨rfl,rfl,rfl,rfl⟩:=Dx (go.get ea);obtain⟨rfl,rfl,rfl,rfl⟩:=Dx (go.get eb);obtain⟨rfl,rfl,rfl,rfl⟩:=Dx (go.get ec);obtain⟨rfl,rfl,rfl,rfl⟩:=Dx (go.get ed);obtain⟨rfl,rfl,rfl,rfl⟩:=Dx (go.get en);obtain⟨rfl,rfl,rfl,rfl⟩:=Dx e;apply hG_;clear hG_ G_;intro x' y' hx hy
  match x',hx,y',hy with
  |0,_,0,_=>exact ek0.symm
  |1,_,0,_=>exact ek1.symm
  |0,_,1,_=>exact ek2.symm
  |1,_,1,_=>exact ek3.symm
inductive SpCj(a:Ad)(vs:List V)(H:Hp)(Q:VK):Prop
 |mk (p dx gp mem pr l kc:Addr) (g:GA) (G:Gv) (n e:Nat) (q:Sq) (_:vs=[.ref p,.int n,.int e]) (_:H p=some (.ins a.c_Jumps dx (jf5 g.p mem pr l kc))) (_:AI a H g G) (_:G[n]?=some q) (_:2+(e:Int)<=q.lev) (_:Q .non H):SpCj a vs H Q
def spCj(a:Ad):Sp:=λvs H Q _=>SpCj a vs H Q
theorem ok_cj{f:Addr}{fd:FuncData}(F:Fun K "check_jump" "Jumps.check_jump" CW f fd)(T:Top K mg a)(a7:BK P w K mg base CX0 3 a.c_Grove "level_of" Ba (LO a))(aC:Cal P w K mg base CX0 1 "is_whole" CZ UU):AJ P w K mg base CX0 4 f fd Da (spCj a):=by
 refine F.ok Ec (λvs H Q E h=>?_) (λcdv A outer s H vs Q E hr h=>?_)
 ·apply AT;intro G_ hG_;obtain⟨p,dx,gp,mem,pr,l,kc,g,G,n,e,q,rfl,_⟩:=h;apply hG_;clear hG_ G_;rfl
 ·apply AT;intro G_ hG_;obtain⟨p,dx,gp,mem,pr,l,kc,g,G,n,e,q,rfl,hp,hg,eq,hl,k⟩:=h;apply hG_;clear hG_ G_;refine⟨_,(Ac (Ao (i:=3) Ec.nd rfl (Or.inl rfl) (AF (Az (pv 0) rfl) a7 (rm hr) An (Aa (pv 1) Ab))) (Ac (AN (Ax GO (pv 3) (BI rfl T.k_LEAST_JUMPED) (AC _)) (Ag Bj) AB) (Ag (AN (PW.pt (IP (Ds (CY (Aq aC (rm hr) rfl An (Aa (pv 2) Ab)))) (Ft (Ds (Qq JG JG Ae (pv 2) (AK Bf (pv 3) (BI rfl T.k_LEAST_JUMPED))))))) (Ag Bj) AB)))),?_⟩
  try dsimp only[cxK]
  refine xwf rfl rfl hp T.cl_Jumps T.na_Jumps_grove (Dc _ _ _ _ _) (xq3 rfl hg.hp (DI g) (xq1 rfl ⟨g,G,n,q,rfl,hg,eq,?_⟩));refine xwb rfl rfl rfl (xq1 rfl ?_);rw[V3 (by lia:¬q.lev<2)];refine Bb ?_;refine⟨_,rfl,_,rfl,true,rfl,Bb ⟨_,rfl,_,_,rfl,rfl,_,rfl,?_⟩⟩;rw[V1 (by lia:(0:Int)<=(e:Int))];refine BT (xwb rfl rfl rfl (xq2 rfl rfl (xq1 rfl ?_)));rw[V1 (by lia:(e:Int)<=q.lev-2)];exact Bb k
end
end J
namespace J
open PySem L2
theorem PF(G:Gv):∀(l n x y i j:Nat),cel G l n (x+2^l*i) (y+2^l*j)=cel G l n x y
 |0,n,x,y,i,j=>rfl
 |l+1,n,x,y,i,j=>by
  show cel G l (qO G n (((x+2^(l+1)*i)/2^l)%2+2*(((y+2^(l+1)*j)/2^l)%2))) (x+2^(l+1)*i) (y+2^(l+1)*j)=cel G l (qO G n ((x/2^l)%2+2*((y/2^l)%2))) x y;have p:0<2^l:=R8 A3;have e:∀i:Nat,2^(l+1)*i=2^l*(2*i):=λi=>by rw[D9,N3]
  rw[e i,e j,N5 _ _ p,N5 _ _ p,P6,P6];exact PF G l _ x y (2*i) (2*j)
theorem Nm(G:Gv)(l n:Nat){x y i j:Nat}(hx:x<2^l)(hy:y<2^l)(hi:i<2)(hj:j<2):BZ G (l+1) n (x+2^l*i) (y+2^l*j)=BZ G l (qO G n (i+2*j)) x y:=by
 unfold BZ;show((cel G l (qO G n (((x+2^l*i)/2^l)%2+2*(((y+2^l*j)/2^l)%2))) (x+2^l*i) (y+2^l*j):Nat):Int)=_;have p:0<2^l:=R8 A3;rw[N5 _ _ p,N5 _ _ p,N8 hx,N8 hy,N2,N2,O7 hi,O7 hj,PF]
theorem Qb(r:AH)(c:Nat->Nat->Int)(n:Nat):∀m,Bc r (m+n) c=Bc r m (Bc r n c)
 |0=>by rw[N2];rfl
 |m+1=>by
  rw[show m+1+n=(m+n)+1 by lia];show stp r (Bc r (m+n) c)=stp r (Bc r m (Bc r n c));rw[Qb r c n m]
theorem Qa(r:AH){c d:Nat->Nat->Int}{X Y:Nat}:∀(k x y:Nat),k<=x->k<=y->(∀u v,x-k<=u->u<=x+k->y-k<=v->v<=y+k->c u v=d (u+X) (v+Y))->Bc r k c x y=Bc r k d (x+X) (y+Y)
 |0,x,y,_,_,h=>h x y A1 A1 A1 A1
 |k+1,x,y,hx,hy,h=>by
  have ih:∀u v,x-1<=u->u<=x+1->y-1<=v->v<=y+1->Bc r k c u v=Bc r k d (u+X) (v+Y):=λu v h1 h2 h3 h4=>Qa r k u v A1 A1 λa b q1 q2 q3 q4=>h a b A1 A1 A1 A1;show GF r (Bc r k c x y) [Bc r k c (x-1) (y-1),Bc r k c x (y-1),Bc r k c (x+1) (y-1),Bc r k c (x-1) y,Bc r k c (x+1) y,Bc r k c (x-1) (y+1),Bc r k c x (y+1),Bc r k c (x+1) (y+1)]=GF r (Bc r k d (x+X) (y+Y)) [Bc r k d (x+X-1) (y+Y-1),Bc r k d (x+X) (y+Y-1),Bc r k d (x+X+1) (y+Y-1),Bc r k d (x+X-1) (y+Y),Bc r k d (x+X+1) (y+Y),Bc r k d (x+X-1) (y+Y+1),Bc r k d (x+X) (y+Y+1),Bc r k d (x+X+1) (y+Y+1)];rw[ih x y A1 A1 A1 A1,ih (x-1) (y-1) A1 A1 A1 A1,ih x (y-1) A1 A1 A1 A1,ih (x+1) (y-1) A1 A1 A1 A1,ih (x-1) y A1 A1 A1 A1,ih (x+1) y A1 A1 A1 A1,ih (x-1) (y+1) A1 A1 A1 A1,ih x (y+1) A1 A1 A1 A1,ih (x+1) (y+1) A1 A1 A1 A1];rw[show x-1+X=x+X-1 by lia,show y-1+Y=y+Y-1 by lia,show x+1+X=x+X+1 by lia,show y+1+Y=y+Y+1 by lia]
def Vw(G:Gv)(c:Nat->Nat->Int)(l m X Y:Nat):Prop:=∀x y,x<2^l->y<2^l->BZ G l m x y=c (x+X) (y+Y)
theorem Vw.q{G:Gv}{c:Nat->Nat->Int}{l m X Y i j:Nat}(h:Vw G c (l+1) m X Y)(hi:i<2)(hj:j<2):Vw G c l (qO G m (i+2*j)) (X+2^l*i) (Y+2^l*j):=λx y hx hy=>by
 rw[<-Nm G l m hx hy hi hj,h _ _ ?_ ?_]
 ·rw[show x+2^l*i+X=x+(X+2^l*i) by lia,show y+2^l*j+Y=y+(Y+2^l*j) by lia]
 ·rw[D9];have:2^l*i<=2^l*1:=M7 _ A1;lia
 ·rw[D9];have:2^l*j<=2^l*1:=M7 _ A1;lia
theorem Vw.of{G:Gv}{c:Nat->Nat->Int}{l m X Y:Nat}(h0:Vw G c l (qO G m 0) X Y)(h1:Vw G c l (qO G m 1) (X+2^l) Y)(h2:Vw G c l (qO G m 2) X (Y+2^l))(h3:Vw G c l (qO G m 3) (X+2^l) (Y+2^l)):Vw G c (l+1) m X Y:=λx y hx hy=>by
 rw[D9]at hx hy;by_cases zx:x<2^l
 ·by_cases zy:y<2^l
  ·have:=Nm G l m zx zy (i:=0) (j:=0) A3 A3;rw[show x+2^l*0=x by lia,show y+2^l*0=y by lia]at this;rw[this];exact h0 x y zx zy
  ·have:=Nm G l m zx (y:=y-2^l) A1 (i:=0) (j:=1) A3 A3;rw[show x+2^l*0=x by lia,show y-2^l+2^l*1=y by lia]at this;rw[this,h2 x (y-2^l) zx A1,show y-2^l+(Y+2^l)=y+Y by lia]
 ·by_cases zy:y<2^l
  ·have:=Nm G l m (x:=x-2^l) A1 zy (i:=1) (j:=0) A3 A3;rw[show y+2^l*0=y by lia,show x-2^l+2^l*1=x by lia]at this;rw[this,h1 (x-2^l) y A1 zy,show x-2^l+(X+2^l)=x+X by lia]
  ·have:=Nm G l m (x:=x-2^l) (y:=y-2^l) A1 A1 (i:=1) (j:=1) A3 A3;rw[show x-2^l+2^l*1=x by lia,show y-2^l+2^l*1=y by lia]at this;rw[this,h3 (x-2^l) (y-2^l) A1 A1,show x-2^l+(X+2^l)=x+X by lia,show y-2^l+(Y+2^l)=y+Y by lia]
theorem Vw.jump{G:Gv}{r:AH}{c:Nat->Nat->Int}{l e m k X Y:Nat}(h:Vw G c (l+2) m X Y)(he:e<=l)(j:∀x y,x<2^(l+1)->y<2^(l+1)->BZ G (l+1) k x y=Bc r (2^e) (BZ G (l+2) m) (x+2^l) (y+2^l)):Vw G (Bc r (2^e) c) (l+1) k (X+2^l) (Y+2^l):=λx y hx hy=>by
 have p:2^e<=2^l:=N4 A3 he;have p1:2^(l+1)=2^l*2:=D9 ..;have p2:2^(l+2)=2^l*2*2:=by rw[D9,D9]
 rw[j x y hx hy,Qa r (X:=X) (Y:=Y) (2^e) (x+2^l) (y+2^l) A1 A1 λu v h1 h2 h3 h4=>h u v A1 A1];rw[show x+2^l+X=x+(X+2^l) by lia,show y+2^l+Y=y+(Y+2^l) by lia]
seal L2.PA L2.PE L2.PS L2.PSs L2.PT L2.PW
theorem Vw.at'{G:Gv}{c:Nat->Nat->Int}{l m X Y X' Y':Nat}(h:Vw G c l m X Y)(e1:X=X')(e2:Y=Y'):Vw G c l m X' Y':=by
 subst e1;subst e2;exact h
theorem Vw.goes{G G':Gv}{c:Nat->Nat->Int}{l m X Y i:Nat}(h:Vw G c l m X Y)(ok:GOk G)(go:AG G G' i)(lv:Ak G m (l:Int)):Vw G' c l m X Y:=λx y hx hy=>by
 rw[Co ok go lv];exact h x y hx hy
section
variable{P:Program}{w:World}{K:PySem.W.Frag}{mg:Str->Option Value}{base:Heap}{a:Ad}
inductive Ww(a:Ad)(vs:List V)(H:Hp)(Q:VK):Prop
 |mk (g:GA) (G:Gv) (n l:Nat) (_:vs=[.ref g.p,.int n]) (_:AI a H g G) (_:GOk G) (_:Ak G n ((l+1+1:Nat):Int)) (_:l<=46) (_:G.length<8000000) (_:∀(L:Addr)(ks:List Nat)(G':Gv)(H':Hp),Fr g H H'->AI a H' g G'->AG G G' 5->H' L=some (.lst (ks.map λ(k:Nat)=>V.int (k:Int)))->ks.length=9->(∀i j,i<3->j<3->∃k,ks[i+3*j]?=some k/\Ak G' k ((l+1:Nat):Int)/\Vw G' (BZ G (l+2) n) (l+1) k (2^l*i) (2^l*j))->Q (.ref L) H'):Ww a vs H Q
def Ms(a:Ad):Sp:=λvs H Q _=>Ww a vs H Q
theorem VM{K:PySem.W.Frag}{a:Ad}{H0 H:Hp}{g:GA}{G0 G:Gv}{j:Nat}{σ:St}{i1 i2 i3 i4:Nat}{t1 t2 t3 t4:Addr}{xs1 xs2 xs3 xs4:List V}{j1 j2 j3 j4:Int}{x y z w:Nat}{l:Int}{Q:VK}(s:Ln a g H0 G0 j H G)(h1:H0 t1=some (.tup xs1))(h2:H0 t2=some (.tup xs2))(h3:H0 t3=some (.tup xs3))(h4:H0 t4=some (.tup xs4))(lv:Ak G0 x l/\Ak G0 y l/\Ak G0 z l/\Ak G0 w l)(few:l<=47/\G0.length+j<9000000)
  (k:∀(n:Nat)(G':Gv)(H':Hp),Ln a g H0 G0 (j+1) H' G'->AG G G' 1->G'[n]?=some ⟨[(x:Int),(y:Int),(z:Int),(w:Int)],l+1⟩->Q (.int n) H') (e:(σ[0]?=some (some (.ref g.p))/\σ[i1]?=some (some (.ref t1))/\σ[i2]?=some (some (.ref t2))/\σ[i3]?=some (some (.ref t3))/\σ[i4]?=some (some (.ref t4)))/\atI xs1 j1=some (.int x)/\atI xs2 j2=some (.int y)/\atI xs3 j3=some (.int z)/\atI xs4 j4=some (.int w):=by exact⟨⟨rfl,rfl,rfl,rfl,rfl⟩,rfl,rfl,rfl,rfl⟩):Sr a.c_Grove "linked" (DV a) [] E0 (FG 0) (Cr (UE (Cr (tOp (IK K) (FG i1) (tC (V.int j1))) (Cr (tOp (IK K) (FG i2) (tC (V.int j2))) (Cr (tOp (IK K) (FG i3) (tC (V.int j3))) (Cr (tOp (IK K) (FG i4) (tC (V.int j4))) OG))))) OG) σ H Q:=by
 apply AT;intro G_ hG_;obtain⟨⟨r,r1,r2,r3,r4⟩,e1,e2,e3,e4⟩:=e;apply hG_;clear hG_ G_;exact⟨_,r,(xq3 rfl s.gr.hp (BE g) (ixt r1 (s.kt h1) e1 (ixt r2 (s.kt h2) e2 (ixt r3 (s.kt h3) e3 (ixt r4 (s.kt h4) e4 ⟨(by show 4<=sizeLine;decide),λ_ hu=>lnk s hu lv few.1 few.2 k⟩)))))⟩
theorem vw4{G:Gv}{c:Nat->Nat->Int}{l m x y z w X Y:Nat}{lv:Int}(e:G[m]?=some ⟨[(x:Int),(y:Int),(z:Int),(w:Int)],lv⟩)(h0:Vw G c l x (2^l*X) (2^l*Y))(h1:Vw G c l y (2^l*(X+1)) (2^l*Y))(h2:Vw G c l z (2^l*X) (2^l*(Y+1)))(h3:Vw G c l w (2^l*(X+1)) (2^l*(Y+1))):Vw G c (l+1) m (2^l*X) (2^l*Y):=by
 apply AT;intro G_ hG_;obtain⟨rfl,rfl,rfl,rfl⟩:=Dx e;apply hG_;clear hG_ G_;exact .of h0 h1 h2 h3
theorem vwQ{G:Gv}{c:Nat->Nat->Int}{l m x y z w X Y:Nat}{lv:Int}(e:G[m]?=some ⟨[(x:Int),(y:Int),(z:Int),(w:Int)],lv⟩)(v:Vw G c (l+1) m (2^l*X) (2^l*Y)):Vw G c l x (2^l*X) (2^l*Y)/\Vw G c l y (2^l*(X+1)) (2^l*Y)/\Vw G c l z (2^l*X) (2^l*(Y+1))/\Vw G c l w (2^l*(X+1)) (2^l*(Y+1)):=by
 apply AT;intro G_ hG_;obtain⟨rfl,rfl,rfl,rfl⟩:=Dx e;apply hG_;clear hG_ G_;exact⟨v.q (i:=0) (j:=0) A3 A3,(v.q (i:=1) (j:=0) A3 A3).at' A1 rfl,(v.q (i:=0) (j:=1) A3 A3).at' rfl A1,(v.q (i:=1) (j:=1) A3 A3).at' A1 A1⟩
theorem ok_nine{f:Addr}{fd:FuncData}(F:Fun K "nine_parts" "nine_parts" Gb f fd)(T:Top K mg a)(a6:BK P w K mg base CX0 2 a.c_Grove "linked" AQ (DV a)):AJ P w K mg base CX0 3 f fd Dv (Ms a):=by
 refine F.ok Cj (λvs H Q E h=>?_) (λcdv A outer s H vs Q E hr h=>?_)
 ·apply AT;intro G_ hG_;obtain⟨g,G,n,l,rfl,_⟩:=h;apply hG_;clear hG_ G_;rfl
 ·apply AT;intro G_ hG_;obtain⟨g,G,n,l,rfl,hg,ok,hl,l46,few,k⟩:=h;obtain⟨qa,qb,qc,qd,en,la,lb,lc,ld⟩:=ok.four hl;obtain⟨a0,a1,a2,a3,ea,la0,la1,la2,la3⟩:=ok.four la;obtain⟨b0,b1,b2,b3,eb,lb0,lb1,lb2,lb3⟩:=ok.four lb;obtain⟨c0,c1,c2,c3,ec,lc0,lc1,lc2,lc3⟩:=ok.four lc;obtain⟨d0,d1,d2,d3,ed,ld0,ld1,ld2,ld3⟩:=ok.four ld;obtain⟨ts,h3,h4⟩:=hg.pt;obtain⟨t,et,ht⟩:=PairedM.get h4 en;obtain⟨ta,eta,hta⟩:=PairedM.get h4 ea;obtain⟨tb,etb,htb⟩:=PairedM.get h4 eb;obtain⟨tc,etc,htc⟩:=PairedM.get h4 ec;obtain⟨td,etd,htd⟩:=PairedM.get h4 ed;apply hG_;clear hG_ G_;have s0:Ln a g H G 0 H G:=⟨.refl _ _,λe=>e,hg,.refl ok⟩
  refine⟨_,(Ac (Ao (i:=2) Cj.nd rfl (Or.inl rfl) (Aj Aw (Az (pv 0) rfl) (pv 1) (λ_ _=>rfl))) (Ac (Ao (i:=3) Cj.nd rfl (Or.inl rfl) (Aj Aw (Az (pv 0) rfl) (Aj Am (pv 2) Ae (λ_ _=>rfl)) (λ_ _=>rfl))) (Ac (Ao (i:=4) Cj.nd rfl (Or.inl rfl) (Aj Aw (Az (pv 0) rfl) (Aj Am (pv 2) Ae (λ_ _=>rfl)) (λ_ _=>rfl))) (Ac (Ao (i:=5) Cj.nd rfl (Or.inl rfl) (Aj Aw (Az (pv 0) rfl) (Aj Am (pv 2) Ae (λ_ _=>rfl)) (λ_ _=>rfl))) (Ac (Ao (i:=6) Cj.nd rfl (Or.inl rfl) (Aj Aw (Az (pv 0) rfl) (Aj Am (pv 2) Ae (λ_ _=>rfl)) (λ_ _=>rfl))) (Ag (As (CA (Aa (Aj Am (pv 2) Ae (λ_ _=>rfl)) (Aa (AF (pv 0) a6 (rm hr) An (Be (Aa (Aj Am (pv 3) Ae (λ_ _=>rfl)) (Aa (Aj Am (pv 4) Ae (λ_ _=>rfl)) (Aa (Aj Am (pv 3) Ae (λ_ _=>rfl)) (Aa (Aj Am (pv 4) Ae (λ_ _=>rfl)) Ab)))) Ab)) (Aa (Aj Am (pv 2) Ae (λ_ _=>rfl)) (Aa (AF (pv 0) a6 (rm hr) An (Be (Aa (Aj Am (pv 3) Ae (λ_ _=>rfl)) (Aa (Aj Am (pv 3) Ae (λ_ _=>rfl)) (Aa (Aj Am (pv 5) Ae (λ_ _=>rfl)) (Aa (Aj Am (pv 5) Ae (λ_ _=>rfl)) Ab)))) Ab)) (Aa (AF (pv 0) a6 (rm hr) An (Be (Aa (Aj Am (pv 3) Ae (λ_ _=>rfl)) (Aa (Aj Am (pv 4) Ae (λ_ _=>rfl)) (Aa (Aj Am (pv 5) Ae (λ_ _=>rfl)) (Aa (Aj Am (pv 6) Ae (λ_ _=>rfl)) Ab)))) Ab)) (Aa (AF (pv 0) a6 (rm hr) An (Be (Aa (Aj Am (pv 4) Ae (λ_ _=>rfl)) (Aa (Aj Am (pv 4) Ae (λ_ _=>rfl)) (Aa (Aj Am (pv 6) Ae (λ_ _=>rfl)) (Aa (Aj Am (pv 6) Ae (λ_ _=>rfl)) Ab)))) Ab)) (Aa (Aj Am (pv 2) Ae (λ_ _=>rfl)) (Aa (AF (pv 0) a6 (rm hr) An (Be (Aa (Aj Am (pv 5) Ae (λ_ _=>rfl)) (Aa (Aj Am (pv 6) Ae (λ_ _=>rfl)) (Aa (Aj Am (pv 5) Ae (λ_ _=>rfl)) (Aa (Aj Am (pv 6) Ae (λ_ _=>rfl)) Ab)))) Ab)) (Aa (Aj Am (pv 2) Ae (λ_ _=>rfl)) Ab))))))))))))))))),?_⟩
  try dsimp only[cxK]
  refine AW ?_;intro r_k0 s_k0 k0 hk E_k0;refine xwf rfl rfl hg.hp T.cl_Grove T.na_Grove_parts (Ci g) (xq1 rfl (ixp h3 et ?_));refine hk ?_;refine AW ?_;intro r_k1 s_k1 k1 hk E_k1;refine xwf rfl rfl hg.hp T.cl_Grove T.na_Grove_parts (Ci g) (ixt rfl ht rfl (ixp h3 eta ?_));refine hk ?_;refine AW ?_;intro r_k2 s_k2 k2 hk E_k2;refine xwf rfl rfl hg.hp T.cl_Grove T.na_Grove_parts (Ci g) (ixt rfl ht rfl (ixp h3 etb ?_));refine hk ?_;refine AW ?_;intro r_k3 s_k3 k3 hk E_k3;refine xwf rfl rfl hg.hp T.cl_Grove T.na_Grove_parts (Ci g) (ixt rfl ht rfl (ixp h3 etc ?_));refine hk ?_;refine AW ?_;intro r_k4 s_k4 k4 hk E_k4;refine xwf rfl rfl hg.hp T.cl_Grove T.na_Grove_parts (Ci g) (ixt rfl ht rfl (ixp h3 etd ?_));refine hk ?_;refine tretl (EQ (ixt rfl (s0.kt ht) rfl (EQ (VM s0 hta htb hta htb ⟨la1,lb0,la3,lb2⟩ ⟨by lia,by lia⟩ λm1 G1 H1 s1 go1 e1=>?_))));refine EQ (ixt rfl (s1.kt ht) rfl (EQ (VM s1 hta hta htc htc ⟨la2,la3,lc0,lc1⟩ ⟨by lia,by lia⟩ λm3 G3 H3 s3 go3 e3=>?_)));refine EQ (VM s3 hta htb htc htd ⟨la3,lb2,lc1,ld0⟩ ⟨by lia,by lia⟩ λm4 G4 H4 s4 go4 e4=>?_);refine EQ (VM s4 htb htb htd htd ⟨lb2,lb3,ld0,ld1⟩ ⟨by lia,by lia⟩ λm5 G5 H5 s5 go5 e5=>?_);refine EQ (ixt rfl (s5.kt ht) rfl (EQ (VM s5 htc htd htc htd ⟨lc1,ld0,lc3,ld2⟩ ⟨by lia,by lia⟩ λm7 G7 H7 s7 go7 e7=>?_)));refine EQ (ixt rfl (s7.kt ht) rfl ⟨(by show 9<=sizeLine;decide),λL hL=>?_⟩);have gz:=s7.go;have sL:=AE (o:=.lst (([qa,m1,qb,m3,m4,m5,qc,m7,qd]:List Nat).map λ(k:Nat)=>V.int (k:Int))) hL;refine k L [qa,m1,qb,m3,m4,m5,qc,m7,qd] G7 _ (s7.fr.trans (AA.fr sL)) (s7.gr.same sL) gz Af rfl ?_;have v0:Vw G (BZ G (l+2) n) (l+1+1) n (2^(l+1)*0) (2^(l+1)*0):=λx y _ _=>rfl;have p1:2^(l+1)=2^l*2:=D9 ..;apply AT;intro G_ hG_;obtain⟨va,vb,vc,vd⟩:=vwQ (gz.get en) (v0.goes ok gz hl);apply hG_;clear hG_ G_;have va:=va.at' (X':=2^l*0) (Y':=2^l*0) A1 A1;have vb:=vb.at' (X':=2^l*2) (Y':=2^l*0) A1 A1;have vc:=vc.at' (X':=2^l*0) (Y':=2^l*2) A1 A1;have vd:=vd.at' (X':=2^l*2) (Y':=2^l*2) A1 A1;apply AT;intro G_ hG_;obtain⟨va0,va1,va2,va3⟩:=vwQ (gz.get ea) va;obtain⟨vb0,vb1,vb2,vb3⟩:=vwQ (gz.get eb) vb;obtain⟨vc0,vc1,vc2,vc3⟩:=vwQ (gz.get ec) vc;obtain⟨vd0,vd1,vd2,vd3⟩:=vwQ (gz.get ed) vd;apply hG_;clear hG_ G_;have g5:=go7.get e5;have g4:=go7.get (go5.get e4);have g3:=go7.get (go5.get (go4.get e3));have g1:=go7.get (go5.get (go4.get (go3.get e1)));intro i j hi hj
  match i,hi,j,hj with
  |0,_,0,_=>exact⟨qa,rfl,gz.lev la,va⟩
  |1,_,0,_=>exact⟨m1,rfl,⟨_,g1,rfl⟩,vw4 g1 va1 vb0 va3 vb2⟩
  |2,_,0,_=>exact⟨qb,rfl,gz.lev lb,vb⟩
  |0,_,1,_=>exact⟨m3,rfl,⟨_,g3,rfl⟩,vw4 g3 va2 va3 vc0 vc1⟩
  |1,_,1,_=>exact⟨m4,rfl,⟨_,g4,rfl⟩,vw4 g4 va3 vb2 vc1 vd0⟩
  |2,_,1,_=>exact⟨m5,rfl,⟨_,g5,rfl⟩,vw4 g5 vb2 vb3 vd0 vd1⟩
  |0,_,2,_=>exact⟨qc,rfl,gz.lev lc,vc⟩
  |1,_,2,_=>exact⟨m7,rfl,⟨_,e7,rfl⟩,vw4 e7 vc1 vd0 vc3 vd2⟩
  |2,_,2,_=>exact⟨qd,rfl,gz.lev ld,vd⟩
inductive Tm(vs:List V)(H:Hp)(Q:VK):Prop
 |mk (L:Addr) (k0 k1 k2 k3 k4 k5 k6 k7 k8:Nat) (_:vs=[.ref L]) (_:H L=some (.lst [.int k0,.int k1,.int k2,.int k3,.int k4,.int k5,.int k6,.int k7,.int k8])) (_:∀(M t0 t1 t2 t3:Addr)(H':Hp),AA H H'->H' M=some (.lst [.ref t0,.ref t1,.ref t2,.ref t3])->H' t0=some (.tup [.int k0,.int k1,.int k3,.int k4])->H' t1=some (.tup [.int k1,.int k2,.int k4,.int k5])->H' t2=some (.tup [.int k3,.int k4,.int k6,.int k7])->H' t3=some (.tup [.int k4,.int k5,.int k7,.int k8])->Q (.ref M) H'):Tm vs H Q
def Js:Sp:=λvs H Q _=>Tm vs H Q
theorem Vv{f:Addr}{fd:FuncData}(F:Fun K "fours_of" "fours_of" Jd f fd)(T:Top K mg a):AJ P w K mg base CX0 1 f fd ED Js:=by
 refine F.ok Qk (λvs H Q E h=>?_) (λcdv A outer s H vs Q E hr h=>?_)
 ·apply AT;intro G_ hG_;obtain⟨L,k0,k1,k2,k3,k4,k5,k6,k7,k8,rfl,_⟩:=h;apply hG_;clear hG_ G_;rfl
 ·apply AT;intro G_ hG_;obtain⟨L,k0,k1,k2,k3,k4,k5,k6,k7,k8,rfl,hL,k⟩:=h;apply hG_;clear hG_ G_;refine⟨_,(Ag (As (CA (Be (Aa (Aj Aw (pv 0) Ae (λ_ _=>rfl)) (Aa (Aj Aw (pv 0) Ae (λ_ _=>rfl)) (Aa (Aj Aw (pv 0) Ae (λ_ _=>rfl)) (Aa (Aj Aw (pv 0) Ae (λ_ _=>rfl)) Ab)))) (Be (Aa (Aj Aw (pv 0) Ae (λ_ _=>rfl)) (Aa (Aj Aw (pv 0) Ae (λ_ _=>rfl)) (Aa (Aj Aw (pv 0) Ae (λ_ _=>rfl)) (Aa (Aj Aw (pv 0) Ae (λ_ _=>rfl)) Ab)))) (Be (Aa (Aj Aw (pv 0) Ae (λ_ _=>rfl)) (Aa (Aj Aw (pv 0) Ae (λ_ _=>rfl)) (Aa (Aj Aw (pv 0) Ae (λ_ _=>rfl)) (Aa (Aj Aw (pv 0) Ae (λ_ _=>rfl)) Ab)))) (Be (Aa (Aj Aw (pv 0) Ae (λ_ _=>rfl)) (Aa (Aj Aw (pv 0) Ae (λ_ _=>rfl)) (Aa (Aj Aw (pv 0) Ae (λ_ _=>rfl)) (Aa (Aj Aw (pv 0) Ae (λ_ _=>rfl)) Ab)))) Ab))))))),?_⟩
  try dsimp only[cxK]
  refine xwi rfl rfl rfl (SqL.of hL) (Al (j:=0) rfl) (xwi rfl rfl rfl (SqL.of hL) (Al (j:=1) rfl) (xwi rfl rfl rfl (SqL.of hL) (Al (j:=3) rfl) (xwi rfl rfl rfl (SqL.of hL) (Al (j:=4) rfl) ⟨(by show 4<=sizeLine;decide),λt0 ht0=>?_⟩)));have s0:=AE (o:=.tup [.int (k0:Int),.int (k1:Int),.int (k3:Int),.int (k4:Int)]) ht0;have h0:upd H t0 (.tup [.int (k0:Int),.int (k1:Int),.int (k3:Int),.int (k4:Int)]) t0=some (.tup [.int (k0:Int),.int (k1:Int),.int (k3:Int),.int (k4:Int)]):=Af;generalize hX0:upd H t0 (.tup [.int (k0:Int),.int (k1:Int),.int (k3:Int),.int (k4:Int)])=X0 at s0 h0;have hL0:=s0 _ _ hL
  first|rw[hX0]|(show ∃_,_;rw[hX0])|skip
  refine xwi rfl rfl rfl (SqL.of hL0) (Al (j:=1) rfl) (xwi rfl rfl rfl (SqL.of hL0) (Al (j:=2) rfl) (xwi rfl rfl rfl (SqL.of hL0) (Al (j:=4) rfl) (xwi rfl rfl rfl (SqL.of hL0) (Al (j:=5) rfl) ⟨(by show 4<=sizeLine;decide),λt1 ht1=>?_⟩)));have s1:=AE (o:=.tup [.int (k1:Int),.int (k2:Int),.int (k4:Int),.int (k5:Int)]) ht1;have h1:upd X0 t1 (.tup [.int (k1:Int),.int (k2:Int),.int (k4:Int),.int (k5:Int)]) t1=some (.tup [.int (k1:Int),.int (k2:Int),.int (k4:Int),.int (k5:Int)]):=Af;generalize hX1:upd X0 t1 (.tup [.int (k1:Int),.int (k2:Int),.int (k4:Int),.int (k5:Int)])=X1 at s1 h1;have hL1:=s1 _ _ hL0
  first|rw[hX1]|(show ∃_,_;rw[hX1])|skip
  refine xwi rfl rfl rfl (SqL.of hL1) (Al (j:=3) rfl) (xwi rfl rfl rfl (SqL.of hL1) (Al (j:=4) rfl) (xwi rfl rfl rfl (SqL.of hL1) (Al (j:=6) rfl) (xwi rfl rfl rfl (SqL.of hL1) (Al (j:=7) rfl) ⟨(by show 4<=sizeLine;decide),λt2 ht2=>?_⟩)));have s2:=AE (o:=.tup [.int (k3:Int),.int (k4:Int),.int (k6:Int),.int (k7:Int)]) ht2;have h2:upd X1 t2 (.tup [.int (k3:Int),.int (k4:Int),.int (k6:Int),.int (k7:Int)]) t2=some (.tup [.int (k3:Int),.int (k4:Int),.int (k6:Int),.int (k7:Int)]):=Af;generalize hX2:upd X1 t2 (.tup [.int (k3:Int),.int (k4:Int),.int (k6:Int),.int (k7:Int)])=X2 at s2 h2;have hL2:=s2 _ _ hL1
  first|rw[hX2]|(show ∃_,_;rw[hX2])|skip
  refine xwi rfl rfl rfl (SqL.of hL2) (Al (j:=4) rfl) (xwi rfl rfl rfl (SqL.of hL2) (Al (j:=5) rfl) (xwi rfl rfl rfl (SqL.of hL2) (Al (j:=7) rfl) (xwi rfl rfl rfl (SqL.of hL2) (Al (j:=8) rfl) ⟨(by show 4<=sizeLine;decide),λt3 ht3=>?_⟩)));have s3:=AE (o:=.tup [.int (k4:Int),.int (k5:Int),.int (k7:Int),.int (k8:Int)]) ht3;have h3:upd X2 t3 (.tup [.int (k4:Int),.int (k5:Int),.int (k7:Int),.int (k8:Int)]) t3=some (.tup [.int (k4:Int),.int (k5:Int),.int (k7:Int),.int (k8:Int)]):=Af;generalize hX3:upd X2 t3 (.tup [.int (k4:Int),.int (k5:Int),.int (k7:Int),.int (k8:Int)])=X3 at s3 h3;have hL3:=s3 _ _ hL2
  first|rw[hX3]|(show ∃_,_;rw[hX3])|skip
  refine⟨(by show 4<=sizeLine;decide),λM hM=>?_⟩;have s4:=AE (o:=.lst [.ref t0,.ref t1,.ref t2,.ref t3]) hM;exact k M t0 t1 t2 t3 _ ((((s0.trans s1).trans s2).trans s3).trans s4) Af (s4 _ _ (s3 _ _ (s2 _ _ (s1 _ _ h0)))) (s4 _ _ (s3 _ _ (s2 _ _ h1))) (s4 _ _ (s3 _ _ h2)) (s4 _ _ h3)
inductive SpMet(a:Ad)(vs:List V)(H:Hp)(Q:VK):Prop
 |mk (g:GA) (G:Gv) (t:Addr) (f0 f1 f2 f3 l:Nat) (_:vs=[.ref g.p,.ref t]) (_:AI a H g G) (_:GOk G) (_:H t=some (.tup [.int f0,.int f1,.int f2,.int f3])) (_:Ak G f0 ((l+1:Nat):Int)/\Ak G f1 ((l+1:Nat):Int)/\Ak G f2 ((l+1:Nat):Int)/\Ak G f3 ((l+1:Nat):Int)) (_:l<=47) (_:G.length<9000000) (_:∀(k:Nat)(G':Gv)(H':Hp),Fr g H H'->AI a H' g G'->AG G G' 1->G'[k]?=some ⟨[((qO G f0 3:Nat):Int),((qO G f1 2:Nat):Int),((qO G f2 1:Nat):Int),((qO G f3 0:Nat):Int)],(l:Int)+1⟩->Q (.int k) H'):SpMet a vs H Q
def SA(a:Ad):Sp:=λvs H Q _=>SpMet a vs H Q
theorem ok_met{f:Addr}{fd:FuncData}(F:Fun K "met_in_the_middle" "met_in_the_middle" CK f fd)(T:Top K mg a)(a6:BK P w K mg base CX0 2 a.c_Grove "linked" AQ (DV a)):AJ P w K mg base CX0 3 f fd BV (SA a):=by
 refine F.ok DR (λvs H Q E h=>?_) (λcdv A outer s H vs Q E hr h=>?_)
 ·apply AT;intro G_ hG_;obtain⟨g,G,t,f0,f1,f2,f3,l,rfl,_⟩:=h;apply hG_;clear hG_ G_;rfl
 ·apply AT;intro G_ hG_;obtain⟨g,G,t,f0,f1,f2,f3,l,rfl,hg,ok,ht,⟨l0,l1,l2,l3⟩,h47,few,k⟩:=h;obtain⟨ts,h3,h4⟩:=hg.pt;obtain⟨x00,x01,x02,x03,e0,m00,m01,m02,m03⟩:=ok.four l0;obtain⟨u0,eu0,hu0⟩:=PairedM.get h4 e0;obtain⟨y00,y01,y02,y03⟩:=Dx e0;obtain⟨x10,x11,x12,x13,e1,m10,m11,m12,m13⟩:=ok.four l1;obtain⟨u1,eu1,hu1⟩:=PairedM.get h4 e1;obtain⟨y10,y11,y12,y13⟩:=Dx e1;obtain⟨x20,x21,x22,x23,e2,m20,m21,m22,m23⟩:=ok.four l2;obtain⟨u2,eu2,hu2⟩:=PairedM.get h4 e2;obtain⟨y20,y21,y22,y23⟩:=Dx e2;obtain⟨x30,x31,x32,x33,e3,m30,m31,m32,m33⟩:=ok.four l3;obtain⟨u3,eu3,hu3⟩:=PairedM.get h4 e3;obtain⟨y30,y31,y32,y33⟩:=Dx e3;apply hG_;clear hG_ G_;rw[y03,y12,y21,y30]at k;refine⟨_,(Ac (Ao (i:=2) DR.nd rfl (Or.inl rfl) (Az (pv 0) rfl)) (Ag (As (AF (pv 0) a6 (rm hr) An (Be (Aa (Aj Am (Aj Aw (pv 2) (Aj Am (pv 1) Ae (λ_ _=>rfl)) (λ_ _=>rfl)) Ae (λ_ _=>rfl)) (Aa (Aj Am (Aj Aw (pv 2) (Aj Am (pv 1) Ae (λ_ _=>rfl)) (λ_ _=>rfl)) Ae (λ_ _=>rfl)) (Aa (Aj Am (Aj Aw (pv 2) (Aj Am (pv 1) Ae (λ_ _=>rfl)) (λ_ _=>rfl)) Ae (λ_ _=>rfl)) (Aa (Aj Am (Aj Aw (pv 2) (Aj Am (pv 1) Ae (λ_ _=>rfl)) (λ_ _=>rfl)) Ae (λ_ _=>rfl)) Ab)))) Ab))))),?_⟩
  try dsimp only[cxK]
  refine xwf rfl rfl hg.hp T.cl_Grove T.na_Grove_parts (Ci g) ?_;refine xwn rfl rfl hg.hp (BE g) rfl (xwi rfl rfl rfl (SqT.of ht) (Al (j:=0) rfl) (xq4 rfl rfl (SqL.of h3) (Al (by rw[B9,eu0];rfl)) (xq4 rfl rfl (SqT.of hu0) (Al (j:=3) rfl) (xwj rfl rfl rfl rfl (SqT.of ht) (Al (j:=1) rfl) (xq4 rfl rfl (SqL.of h3) (Al (by rw[B9,eu1];rfl)) (xq4 rfl rfl (SqT.of hu1) (Al (j:=2) rfl) (xwj rfl rfl rfl rfl (SqT.of ht) (Al (j:=2) rfl) (xq4 rfl rfl (SqL.of h3) (Al (by rw[B9,eu2];rfl)) (xq4 rfl rfl (SqT.of hu2) (Al (j:=1) rfl) (xwj rfl rfl rfl rfl (SqT.of ht) (Al (j:=3) rfl) (xq4 rfl rfl (SqL.of h3) (Al (by rw[B9,eu3];rfl)) (xq4 rfl rfl (SqT.of hu3) (Al (j:=0) rfl) ⟨(by show 4<=sizeLine;decide),λu hu=>?_⟩))))))))))));have s1:=AE (o:=.tup [.int (x03:Int),.int (x12:Int),.int (x21:Int),.int (x30:Int)]) hu;exact⟨g,G,u,x03,x12,x21,x30,(l:Int),rfl,hg.same s1,ok,Af,⟨m03,m12,m21,m30⟩,by lia,few,λn G' H' fr hg' go e=>k n G' H' ((AA.fr s1).trans fr) hg' go e⟩
end
end J
namespace J
open PySem L2
def Sv(o:HO):Prop:=Nv o\/∃xs:List V,o=.lst xs/\xs.length<=50
def KpS(H H':Hp):Prop:=∀b o,H b=some o->Sv o->H' b=some o
theorem Sv.lst{xs:List V}(h:xs.length<=50):Sv (.lst xs):=.inr ⟨xs,rfl,h⟩
theorem Bs.long{G:Gv}(h:Bs G):56<=G.length:=(B6.mp (h 47 A3)).1
theorem Sv.nl{b x:Addr}{H:Hp}{o:HO}{xs:List V}(s:Sv o)(e:H b=some o)(ex:H x=some (.lst xs))(lx:50<xs.length):b≠x:=λz=>by
 rw[z,ex]at e;cases e;rcases s with s|⟨ys,ey,ly⟩
 ·cases s
 ·cases ey;lia
theorem Sv.nt{b x:Addr}{H:Hp}{o:HO}{k:List (List Key×V)}(s:Sv o)(e:H b=some o)(ex:H x=some (.dT k)):b≠x:=λz=>by
 rw[z,ex]at e;cases e;rcases s with s|⟨ys,ey,ly⟩
 ·cases s
 ·cases ey
theorem Sv.nk{b x:Addr}{H:Hp}{o:HO}{k:List (Key×V)}(s:Sv o)(e:H b=some o)(ex:H x=some (.dK k)):b≠x:=λz=>by
 rw[z,ex]at e;cases e;rcases s with s|⟨ys,ey,ly⟩
 ·cases s
 ·cases ey
theorem Fr.kps{a:Ad}{H H':Hp}{g:GA}{G:Gv}(f:Fr g H H')(hg:AI a H g G)(l56:56<=G.length):KpS H H':=by
 intro b o e s;obtain⟨ts,h3,h4⟩:=hg.pt;have lt:ts.length=G.length:=W8 h4;exact f _ _ e (s.nl e hg.lv (by rw[B5];lia)) (s.nl e h3 (by rw[B5];lia)) (s.nt e hg.nm)
theorem FrJ.kps{a:Ad}{H H':Hp}{g:GA}{G:Gv}{N M:Nat}{r:AH}{m:MA}(f:FrJ g m H H')(hg:AI a H g G)(l56:56<=G.length)(hm:Ix H g G N M r m):KpS H H':=by
 intro b o e s;obtain⟨ts,h3,h4⟩:=hg.pt;obtain⟨kc,c1,_⟩:=hm.ce;have lt:ts.length=G.length:=W8 h4;refine f _ _ e (s.nl e hg.lv (by rw[B5];lia)) (s.nl e h3 (by rw[B5];lia)) (s.nt e hg.nm) (s.nt e c1) λz=>?_;obtain⟨j,hj⟩:=F7 z;obtain⟨kv,e2,_⟩:=hm.sq j b hj;exact s.nk e e2 rfl
theorem Tb{G:Gv}(ok:GOk G):∀(l:Nat){n m:Nat},Ak G n (l:Int)->Ak G m (l:Int)->(∀x y,x<2^l->y<2^l->BZ G l n x y=BZ G l m x y)->n=m
 |0,n,m,_,_,h=>V8 (h 0 0 A3 A3)
 |l+1,n,m,hn,hm,h=>by
  have part:∀i j,i<2->j<2->qO G n (i+2*j)=qO G m (i+2*j):=λi j hi hj=>by
   refine Tb ok l (Jg ok hn A1) (Jg ok hm A1) λx y hx hy=>?_;rw[<-Nm G l n hx hy hi hj,<-Nm G l m hx hy hi hj];have bi:2^l*i<=2^l*1:=M7 _ A1;have bj:2^l*j<=2^l*1:=M7 _ A1;exact h _ _ (by rw[D9];lia) (by rw[D9];lia)
  obtain⟨x,y,z,w,e,_⟩:=ok.four hn;obtain⟨x',y',z',w',e',_⟩:=ok.four hm;obtain⟨a0,a1,a2,a3⟩:=Dx e;obtain⟨b0,b1,b2,b3⟩:=Dx e';have p0:=part 0 0 A3 A3;have p1:=part 1 0 A3 A3;have p2:=part 0 1 A3 A3;have p3:=part 1 1 A3 A3;have p0:x=x':=a0.symm.trans (p0.trans b0);have p1:y=y':=a1.symm.trans (p1.trans b1);have p2:z=z':=a2.symm.trans (p2.trans b2);have p3:w=w':=a3.symm.trans (p3.trans b3);refine ok.one e e' ?_;rw[p0,p1,p2,p3]
abbrev Sht:=Nat->Nat->Int
abbrev KTy:=Nat->Nat->Sht->Prop
def EqOn(l:Nat)(φ ψ:Sht):Prop:=∀x y,x<2^(l+2)->y<2^(l+2)->φ x y=ψ x y
def s47(f:Nat->Nat):Nat:=((List.range 47).map f).sum
theorem Su(f:Nat->Nat)(e:Nat):∀l:List Nat,l.Nodup->(l.map λi=>if i=e then f i+1 else f i).sum=(l.map f).sum+if e∈l then 1 else 0
 |[],_=>by simp
 |a::l,h=>by
  rw[M8]at h;rw[L5,L5,Q0,Q0,Su f e l h.2];by_cases z:a=e
  ·subst z;rw[V2 rfl,V0 h.1,V2 C3];lia
  ·rw[V0 z];by_cases y:e∈l
   ·rw[V2 y,V2 (C1 _ y)];lia
   ·rw[V0 y,V0 (λq=>by rcases B8.mp q with rfl|q;exact z rfl;exact y q)];lia
theorem SG(f:Nat->Nat){e:Nat}(h:e<47):s47 (λi=>if i=e then f i+1 else f i)=s47 f+1:=by
 unfold s47;rw[Su f e _ List.nodup_range,V2 (M4.mpr h)]
theorem UI(f:Nat->Nat)(N:Nat):∀l:List Nat,(∀e∈l,f e<=N)->(l.map f).sum<=l.length*N
 |[],_=>by simp
 |a::l,h=>by
  have:=UI f N l λe he=>h e (C1 _ he);have:=h a C3;rw[L5,Q0,F0,Nat.succ_mul];lia
theorem s47_le{f:Nat->Nat}{N:Nat}(h:∀e,e<47->f e<=N):s47 f<=47*N:=by
 have:=UI f N (List.range 47) λe he=>h e (M4.mp he);rw[O5]at this;exact this
theorem SW{α β:Type}(R:α->β->Prop)(inj:∀x x' y,R x y->R x' y->x=x'):∀(l:List β)(ks:List α),ks.Nodup->(∀k∈ks,∃y∈l,R k y)->ks.length<=l.length
 |[],ks,_,h=>by
  cases ks with
  |nil=>exact C0 _
  |cons k ks=>obtain⟨y,hy,_⟩:=h k C3;cases hy
 |y::l,ks,nd,h=>by
  classical
  have ih:=SW R inj l (ks.filter λk=>decide (¬R k y)) (nd.sublist List.filter_sublist) λk hk=>by
   rw[List.mem_filter,decide_eq_true_iff]at hk;obtain⟨z,hz,rz⟩:=h k hk.1;rcases B8.mp hz with rfl|hz
   ·exact absurd rz hk.2
   ·exact⟨z,hz,rz⟩
  have few:∀ks:List α,ks.Nodup->ks.length<=(ks.filter λk=>decide (¬R k y)).length+1:=by
   intro ks;induction ks with
   |nil=>intro _;exact F5 _
   |cons k ks ih2 =>
    intro nd2;rw[M8]at nd2;by_cases z:R k y
    ·have:ks.filter (λk=>decide (¬R k y))=ks:=List.filter_eq_self.mpr λx hx=>V1 λq=>nd2.1 (by rw[inj k x y z q];exact hx);rw[List.filter_cons_of_neg (by simp[z]),this,F0];exact C0 _
    ·rw[List.filter_cons_of_pos (by simp[z]),F0,F0];have:=ih2 nd2.2;lia
  have:=few ks nd;rw[F0];lia
structure Nz(Κ:KTy)(N:Nat):Prop where
 ls:∀e,∃Ls:List (Nat×Sht),Ls.length<=N/\∀l φ,Κ l e φ->∃ψ,(l,ψ)∈Ls/\EqOn l φ ψ
 ext:∀{l e φ ψ},Κ l e φ->EqOn l φ ψ->Κ l e ψ
structure Cn(H:Hp)(G:Gv)(m:MA)(Κ:KTy)(b:Nat)(f:Nat->Nat):Prop where
 sq:∀(e:Nat) d,m.ds[e]?=some d->∃kv,H d=some (.dK kv)/\kv.length=f e/\(kv.map (·.1)).Nodup/\∀k∈kv.map (·.1),∃n l:Nat,k=Sum.inl (n:Int)/\Ak G n ((l+2:Nat):Int)/\Κ l e (BZ G (l+2) n)
 gl:G.length<=b+10*s47 f
 ce:∃kc,H m.kc=some (.dT kc)/\kc.length<=b+10*s47 f
theorem Cn.few{H:Hp}{G:Gv}{m:MA}{Κ:KTy}{b N:Nat}{f:Nat->Nat}(h:Cn H G m Κ b f)(ok:GOk G)(fin:Nz Κ N)(len:m.ds.length=47){e:Nat}(he:e<47):f e<=N:=by
 have e47:e<m.ds.length:=by rw[len];exact he
 obtain⟨kv,_,h2,h3,h4⟩:=h.sq e (m.ds[e]'e47) (D1 _);obtain⟨Ls,l1,l2⟩:=fin.ls e;refine C8 ?_ l1;rw[<-h2,<-B5 (f:=(·.1)) (as:=kv)];refine SW (λ(k:Key)(q:Nat×Sht)=>∃n:Nat,k=Sum.inl (n:Int)/\Ak G n ((q.1+2:Nat):Int)/\EqOn q.1 (BZ G (q.1+2) n) q.2) ?_ Ls _ h3 λk hk=>?_
 ·rintro x x' ⟨l,ψ⟩ ⟨n,rfl,a1,a2⟩ ⟨n',rfl,b1,b2⟩;rw[Tb ok _ a1 b1 λx y hx hy=>(a2 x y hx hy).trans (b2 x y hx hy).symm]
 ·obtain⟨n,l,rfl,a1,a2⟩:=h4 k hk;obtain⟨ψ,m1,m2⟩:=l2 l _ a2;exact⟨_,m1,n,rfl,a1,m2⟩
theorem Cn.sum{H:Hp}{G:Gv}{m:MA}{Κ:KTy}{b N:Nat}{f:Nat->Nat}(h:Cn H G m Κ b f)(ok:GOk G)(fin:Nz Κ N)(len:m.ds.length=47):s47 f<=47*N:=s47_le λ_ he=>h.few ok fin len he
theorem Cn.mono{H:Hp}{G:Gv}{m:MA}{Κ:KTy}{b b':Nat}{f:Nat->Nat}(h:Cn H G m Κ b f)(e:b<=b'):Cn H G m Κ b' f:=by
 obtain⟨kc,h1,h2⟩:=h.ce;have:=h.gl;exact⟨h.sq,by lia,kc,h1,by lia⟩
theorem Cn.kp{H H':Hp}{G G':Gv}{m:MA}{Κ:KTy}{b i:Nat}{f:Nat->Nat}(h:Cn H G m Κ b f)(ok:GOk G)(go:AG G G' i)(k1:∀d∈m.ds,∀o,H d=some o->H' d=some o)(k2:∀kc,H m.kc=some (.dT kc)->∃kc',H' m.kc=some (.dT kc')/\kc'.length<=kc.length+i):Cn H' G' m Κ (b+i) f:=by
 refine⟨λe d ed=>?_,?_,?_⟩
 ·obtain⟨kv,h1,h2,h3,h4⟩:=h.sq e d ed;refine⟨kv,k1 d (D4 ed) _ h1,h2,h3,λk hk=>?_⟩;obtain⟨n,l,e1,e2,e3⟩:=h4 k hk;exact⟨n,l,e1,go.lev e2,by rw[Co ok go e2];exact e3⟩
 ·have:=h.gl;have:=go.few;lia
 ·obtain⟨kc,h1,h2⟩:=h.ce;obtain⟨kc',h3,h4⟩:=k2 kc h1;exact⟨kc',h3,by lia⟩
structure JZ(a:Ad)(H:Hp)(g:GA)(G:Gv)(Κ:KTy)(N b:Nat)(p dx mem pr:Addr)(r:AH)(m:MA):Prop where
 jw:JW a H g G N (b+470*N) p dx mem pr r m
 cn:∃f,Cn H G m Κ b f
section
variable{a:Ad}{H H':Hp}{g:GA}{G G':Gv}{Κ:KTy}{N b i:Nat}{p dx mem pr:Addr}{r:AH}{m:MA}
theorem JZ.sz(h:JZ a H g G Κ N b p dx mem pr r m)(fin:Nz Κ N):G.length<=b+470*N:=by
 obtain⟨f,c⟩:=h.cn;have:=c.gl;have:=c.sum h.jw.ok fin h.jw.me.len;lia
theorem JZ.mono{b':Nat}(h:JZ a H g G Κ N b p dx mem pr r m)(e:b<=b'):JZ a H g G Κ N b' p dx mem pr r m:=by
 obtain⟨f,c⟩:=h.cn;exact⟨h.jw.mono (C0 _) A1,f,c.mono e⟩
theorem JZ.same(h:JZ a H g G Κ N b p dx mem pr r m)(s:AA H H'):JZ a H' g G Κ N b p dx mem pr r m:=by
 obtain⟨f,c⟩:=h.cn;exact⟨JW.same s h.jw,f,c.kp (i:=0) h.jw.ok (AG.refl h.jw.ok) (λd _ o e=>s _ _ e) λkc e=>⟨kc,s _ _ e,C0 _⟩⟩
theorem JZ.fr(h:JZ a H g G Κ N b p dx mem pr r m)(f:Fr g H H')(hg':AI a H' g G')(go:AG G G' i):JZ a H' g G' Κ N (b+i) p dx mem pr r m:=by
 obtain⟨f',c⟩:=h.cn;obtain⟨ts,h3,_⟩:=h.jw.gr.pt;refine⟨(h.jw.fr f hg' go).mono (C0 _) A1,f',c.kp h.jw.ok go (λd hd o e=>?_) λkc e=>⟨kc,?_,by lia⟩⟩
 ·obtain⟨j,hj⟩:=F7 hd;obtain⟨kv,e2,_⟩:=c.sq j d hj;rw[e]at e2;cases e2;exact f _ _ e (AD e h.jw.gr.lv A4) (AD e h3 A4) (AD e h.jw.gr.nm A4)
 ·exact f _ _ e (AD e h.jw.gr.lv A4) (AD e h3 A4) h.jw.me.ap.2.2
def No(H:Hp)(m:MA)(e n:Nat):Prop:=∀d kv,m.ds[e]?=some d->H d=some (.dK kv)->BB kv (Sum.inl (n:Int))=none
def Up(l:Nat)(G:Gv)(H H':Hp)(m:MA):Prop:=∀e n l':Nat,Ak G n ((l'+2:Nat):Int)->l<=l'->No H m e n->No H' m e n
theorem Up.refl(l:Nat)(G:Gv)(H:Hp)(m:MA):Up l G H H m:=λ_ _ _ _ _ h=>h
theorem Up.trans{l:Nat}{H1 H2 H3:Hp}(h:Up l G H1 H2 m)(k:Up l G' H2 H3 m)(go:AG G G' i):Up l G H1 H3 m:=λe n l' a1 a2 a3=>k e n l' (go.lev a1) a2 (h e n l' a1 a2 a3)
theorem Up.mono{l l2:Nat}(h:Up l G H H' m)(e:l<=l2):Up l2 G H H' m:=λe' n l' a1 a2 a3=>h e' n l' a1 (C8 e a2) a3
theorem Up.of(l:Nat){N M:Nat}(hm:Ix H g G N M r m)(k:∀d∈m.ds,∀o,H d=some o->H' d=some o):Up l G H H' m:=λe n l' _ _ h d kv ed hd=>by
 obtain⟨kv',e2,_⟩:=hm.sq e d ed;have:=k d (D4 ed) _ e2;rw[hd]at this;cases this;exact h d _ ed e2
theorem JZ.upS(l:Nat)(h:JZ a H g G Κ N b p dx mem pr r m)(s:AA H H'):Up l G H H' m:=Up.of l h.jw.me λd _ o e=>s _ _ e
theorem JZ.upF(l:Nat)(h:JZ a H g G Κ N b p dx mem pr r m)(f:Fr g H H'):Up l G H H' m:=Up.of l h.jw.me λd hd o e=>by
 obtain⟨ts,h3,_⟩:=h.jw.gr.pt;obtain⟨j,hj⟩:=F7 hd;obtain⟨kv,e2,_⟩:=h.jw.me.sq j d hj;rw[e]at e2;cases e2;exact f _ _ e (AD e h.jw.gr.lv A4) (AD e h3 A4) (AD e h.jw.gr.nm A4)
theorem JW.tc{M:Nat}{kc:List (List Key×V)}(h:JW a H g G N M p dx mem pr r m)(hk:H m.kc=some (.dT kc)):JW a H g G N kc.length p dx mem pr r m:=by
 obtain⟨kc',c1,_,c3⟩:=h.me.ce;rw[hk]at c1;cases c1;exact⟨h.gr,h.ok,h.bs,h.br,h.nbr,h.hp,h.ru,h.rok,h.rest,⟨h.me.tp,h.me.l,h.me.ap,h.me.len,h.me.nd,h.me.sq,_,hk,C0 _,c3⟩⟩
theorem JZ.mid{f:Nat->Nat}{kc:List (List Key×V)}(h:JZ a H g G Κ N b p dx mem pr r m)(c:Cn H G m Κ b f)(hk:H m.kc=some (.dT kc))(fr:FrC g m H H')(hj:JW a H' g G' N (kc.length+4) p dx mem pr r m)(go:AG G G' 1):JZ a H' g G' Κ N (b+4) p dx mem pr r m/\∀l,Up l G H H' m:=by
 obtain⟨ts,h3,_⟩:=h.jw.gr.pt;have kd:∀d∈m.ds,∀o,H d=some o->H' d=some o:=λd hd o e=>by
  obtain⟨j,hj⟩:=F7 hd;obtain⟨kv,e2,_⟩:=h.jw.me.sq j d hj;rw[e]at e2;cases e2;exact fr _ _ e (AD e h.jw.gr.lv A4) (AD e h3 A4) (AD e h.jw.gr.nm A4) (AD e hk A4)
 obtain⟨kc',c1,c2,c3⟩:=hj.me.ce;obtain⟨kc2,d1,d2,_⟩:=h.jw.me.ce;rw[hk]at d1;cases d1;have me:=hj.me;refine⟨⟨⟨hj.gr,hj.ok,hj.bs,hj.br,hj.nbr,hj.hp,hj.ru,hj.rok,hj.rest,⟨me.tp,me.l,me.ap,me.len,me.nd,me.sq,kc',c1,by lia,c3⟩⟩,f,c.kp (i:=4) h.jw.ok (go.mono A3) kd λkc2 e=>⟨kc',c1,by rw[hk]at e;cases e;exact c2⟩⟩,λl=>Up.of l h.jw.me kd⟩
theorem JZ.put{e n k l:Nat}{d:Addr}{kv:List (Key×V)}(h:JZ a H g G Κ N (b+10) p dx mem pr r m)(fin:Nz Κ N)(ed:m.ds[e]?=some d)(hd:H d=some (.dK kv))(no:BB kv (Sum.inl (n:Int))=none)(lv:Ak G n ((l+2:Nat):Int))(hk:Κ l e (BZ G (l+2) n))(jr:JR r G e n k):JZ a (upd H d (.dK (Eh kv (Sum.inl (n:Int)) (.int (k:Int))))) g G Κ N b p dx mem pr r m/\Up (l+1) G H (upd H d (.dK (Eh kv (Sum.inl (n:Int)) (.int (k:Int))))) m:=by
 obtain⟨f,c⟩:=h.cn;have e47:e<47:=by rw[<-h.jw.me.len];exact(B6.mp ed).1
 have jw':=h.jw.putS ed hd jr;obtain⟨kv0,q1,q2,q3,q4⟩:=c.sq e d ed;rw[hd]at q1;cases q1;have pe:=Jz (.int (k:Int)) no;rw[pe]at jw'⊢;have nn:(Sum.inl (n:Int):Key)∉kv.map (·.1):=λz=>by
  obtain⟨q,hq,eq⟩:=D6.mp z;have:(kv.find? λkv=>decide (kv.1=(Sum.inl (n:Int):Key)))=none:=by
   unfold BB at no;cases y:kv.find? λkv=>decide (kv.1=(Sum.inl (n:Int):Key))with
   |none=>rfl
   |some w=>rw[y]at no;cases no
  have:=List.find?_eq_none.mp this q hq;exact this (V1 eq)
 obtain⟨kc,c1,c2⟩:=c.ce;have gl:=c.gl;have oth:∀{d':Addr}{e':Nat},m.ds[e']?=some d'->e'≠e->d'≠d:=λ{d' e'} ed' z y=>z (by
  rw[y]at ed';exact(List.getElem?_inj (B6.mp ed').1 h.jw.me.nd).mp (ed'.trans ed.symm))
 have cn':Cn (upd H d (.dK (kv++[(Sum.inl (n:Int),.int (k:Int))]))) G m Κ b (λi=>if i=e then f i+1 else f i):=by
  refine⟨λe' d' ed'=>?_,by rw[SG f e47];lia,kc,?_,by rw[SG f e47];lia⟩
  ·by_cases z:e'=e
   ·subst z;rw[ed]at ed';cases ed';refine⟨_,Af,by rw[V2 rfl,C5,q2];rfl,?_,λk' hk'=>?_⟩
    ·rw[C9,R0];refine⟨q3,by simp,λx hx y hy=>?_⟩;rw[D7.mp hy];exact λz=>nn ((show x=Sum.inl (n:Int)from z)▸hx)
    ·rw[C9]at hk';rcases M6.mp hk' with y|y
     ·exact q4 k' y
     ·rw[D7.mp y];exact⟨n,l,rfl,lv,hk⟩
   ·obtain⟨kv',w1,w2,w3,w4⟩:=c.sq e' d' ed';exact⟨kv',by rw[Ar (oth ed' z)];exact w1,by rw[V0 z];exact w2,w3,w4⟩
  ·rw[Ar (AD c1 hd A4)];exact c1
 refine⟨⟨?_,_,cn'⟩,λe' n' l' a1 a2 a3 d' kv' ed' hd'=>?_⟩
 ·have fw:∀{e':Nat},e'<47->(if e'=e then f e'+1 else f e')<=N:=λ{e'} he=>cn'.few h.jw.ok fin h.jw.me.len he;have sm:=cn'.sum h.jw.ok fin h.jw.me.len;obtain⟨kc',d1,d2⟩:=cn'.ce;have me:=jw'.me;obtain⟨kc2,r1,r2,r3⟩:=me.ce;rw[d1]at r1;cases r1;refine⟨jw'.gr,jw'.ok,jw'.bs,jw'.br,jw'.nbr,jw'.hp,jw'.ru,jw'.rok,jw'.rest,⟨me.tp,me.l,me.ap,me.len,me.nd,λe' d' ed'=>?_,kc',d1,by lia,r3⟩⟩;obtain⟨kw,u1,u2,u3,u4⟩:=me.sq e' d' ed';obtain⟨kw',v1,v2,_⟩:=cn'.sq e' d' ed';rw[u1]at v1;cases v1;exact⟨kw,u1,by rw[v2];exact fw (by rw[<-h.jw.me.len];exact(B6.mp ed').1),u3,u4⟩
 ·by_cases z:e'=e
  ·subst z;rw[ed]at ed';cases ed';rw[Af]at hd';cases hd';rw[<-pe,Jo];have ne:n'≠n:=λy=>by
    subst y;have:((l'+2:Nat):Int)=((l+2:Nat):Int):=by
     obtain⟨q,w1,w2⟩:=a1;obtain⟨q',w3,w4⟩:=lv;rw[w1]at w3;cases w3;exact w2.symm.trans w4
    lia
   rw[V0 (λy=>ne (by have:=Sum.inl.inj y;lia))];exact a3 d kv ed hd
  ·rw[Ar (oth ed' z)]at hd';exact a3 d' kv' ed' hd'
end
seal L2.PA L2.PE L2.PS L2.PSs L2.PT L2.PW
structure ClK(r:AH)(Κ:KTy):Prop where
 nine1:∀{l e φ},Κ (l+1) e φ->e<=l->∀i j,i<3->j<3->Κ l e λx y=>φ (x+2^(l+1)*i) (y+2^(l+1)*j)
 nine2:∀{l φ},Κ (l+1) (l+1) φ->∀i j,i<3->j<3->Κ l l λx y=>φ (x+2^(l+1)*i) (y+2^(l+1)*j)
 four:∀{l φ},Κ (l+1) (l+1) φ->∀i j,i<2->j<2->Κ l l λx y=>Bc r (2^l) φ (x+(2^(l+1)*i+2^l)) (y+(2^(l+1)*j+2^l))
theorem Ak.one{G:Gv}{n:Nat}{i j:Int}(h:Ak G n i)(k:Ak G n j):i=j:=by
 obtain⟨q,e1,e2⟩:=h;obtain⟨p,f1,f2⟩:=k;rw[e1]at f1;cases f1;exact e2.symm.trans f2
theorem JR.view{r:AH}{G:Gv}{c:Nat->Nat->Int}{e n m l X Y:Nat}(h:JR r G e n m)(lv:Ak G n ((l+2:Nat):Int))(v:Vw G c (l+2) n X Y):Ak G m ((l+1:Nat):Int)/\e<=l/\Vw G (Bc r (2^e) c) (l+1) m (X+2^l) (Y+2^l):=by
 apply AT;intro G_ hG_;obtain⟨l',h1,h2,h3,h4⟩:=h;apply hG_;clear hG_ G_;have e':l'=l:=by
  have:=h1.one lv;lia
 subst e';exact⟨h3,h2,v.jump h2 h4⟩
theorem Vw.jr{r:AH}{G:Gv}{e n m l:Nat}(lv:Ak G n ((l+1+2:Nat):Int))(he:e<=l+1)(lm:Ak G m ((l+1+1:Nat):Int))(v:Vw G (Bc r (2^e) (BZ G (l+1+2) n)) (l+1+1) m (2^(l+1)) (2^(l+1))):JR r G e n m:=⟨l+1,lv,he,lm,v⟩
theorem VJ{G G':Gv}{c:Nat->Nat->Int}{l f0 f1 f2 f3 z X Y i:Nat}(ok:GOk G)(go:AG G G' i)(l0:Ak G f0 ((l+1:Nat):Int))(l1:Ak G f1 ((l+1:Nat):Int))(l2:Ak G f2 ((l+1:Nat):Int))(l3:Ak G f3 ((l+1:Nat):Int))(v0:Vw G c (l+1) f0 X Y)(v1:Vw G c (l+1) f1 (X+2^(l+1)) Y)(v2:Vw G c (l+1) f2 X (Y+2^(l+1)))(v3:Vw G c (l+1) f3 (X+2^(l+1)) (Y+2^(l+1)))(e:G'[z]?=some ⟨[((qO G f0 3:Nat):Int),((qO G f1 2:Nat):Int),((qO G f2 1:Nat):Int),((qO G f3 0:Nat):Int)],(l:Int)+1⟩):Vw G' c (l+1) z (X+2^l) (Y+2^l):=by
 have p1:2^(l+1)=2^l*2:=D9 ..;apply AT;intro G_ hG_;obtain⟨w0,w1,w2,w3⟩:=Dx e;apply hG_;clear hG_ G_;have u0:=(v0.q (i:=1) (j:=1) A3 A3).goes ok go (Jg ok l0 A3);have u1:=(v1.q (i:=0) (j:=1) A3 A3).goes ok go (Jg ok l1 A3);have u2:=(v2.q (i:=1) (j:=0) A3 A3).goes ok go (Jg ok l2 A3);have u3:=(v3.q (i:=0) (j:=0) A3 A3).goes ok go (Jg ok l3 A3);refine Vw.of ?_ ?_ ?_ ?_
 ·rw[w0];exact u0.at' A1 A1
 ·rw[w1];exact u1.at' A1 A1
 ·rw[w2];exact u2.at' A1 A1
 ·rw[w3];exact u3.at' A1 A1
theorem LH{G G':Gv}{c:Nat->Nat->Int}{l f0 f1 f2 f3 z X Y i:Nat}{L:Int}(ok:GOk G)(go:AG G G' i)(l0:Ak G f0 (l:Int))(l1:Ak G f1 (l:Int))(l2:Ak G f2 (l:Int))(l3:Ak G f3 (l:Int))(v0:Vw G c l f0 X Y)(v1:Vw G c l f1 (X+2^l) Y)(v2:Vw G c l f2 X (Y+2^l))(v3:Vw G c l f3 (X+2^l) (Y+2^l))(e:G'[z]?=some ⟨[(f0:Int),(f1:Int),(f2:Int),(f3:Int)],L⟩):Vw G' c (l+1) z X Y:=by
 apply AT;intro G_ hG_;obtain⟨w0,w1,w2,w3⟩:=Dx e;apply hG_;clear hG_ G_;refine Vw.of ?_ ?_ ?_ ?_
 ·rw[w0];exact v0.goes ok go l0
 ·rw[w1];exact v1.goes ok go l1
 ·rw[w2];exact v2.goes ok go l2
 ·rw[w3];exact v3.goes ok go l3
theorem SO:∀xs:List Nat,xs.length=9->∃a b c d e f g h i,xs=[a,b,c,d,e,f,g,h,i]
 |[a,b,c,d,e,f,g,h,i],_=>⟨a,b,c,d,e,f,g,h,i,rfl⟩
theorem Nd:∀xs:List Nat,xs.length=4->∃a b c d,xs=[a,b,c,d]
 |[a,b,c,d],_=>⟨a,b,c,d,rfl⟩
def toV(k:Nat):V:=.int (k:Int)
def Nine(G:Gv)(c:Nat->Nat->Int)(l X:Nat)(ys:List Nat):Prop:=∀i j,i<3->j<3->∃y,ys[i+3*j]?=some y/\Ak G y (l:Int)/\Vw G c l y (2^l*i+X) (2^l*j+X)
theorem NZ {r:AH} {G3 G5:Gv} {c:Nat->Nat->Int} {l e x:Nat} {ks ys:List Nat} (ok:GOk G3) (go:AG G3 G5 x) (h:∀i j,i<3->j<3->∃k,ks[i+3*j]?=some k/\Ak G3 k ((l+1+1:Nat):Int)/\Vw G3 c (l+1+1) k (2^(l+1)*i) (2^(l+1)*j)) (pr:Paired (λk y=>JR r G5 e k y) ks ys):Nine G5 (Bc r (2^e) c) (l+1) (2^l) ys:=λi j hi hj=>by
 apply AT;intro G_ hG_;obtain⟨k,h1,h2,h3⟩:=h i j hi hj;obtain⟨y,h4,h5⟩:=Paired.get pr h1;obtain⟨q1,_,q3⟩:=h5.view (go.lev h2) (h3.goes ok go h2);apply hG_;clear hG_ G_;exact⟨y,h4,q1,q3⟩
theorem MO{G:Gv}{c:Nat->Nat->Int}{l X:Nat}{H:Hp}{y0 y1 y2 y3 y4 y5 y6 y7 y8:Nat}{t0 t1 t2 t3:Addr}(nj:Nine G c l X [y0,y1,y2,y3,y4,y5,y6,y7,y8])(h0:H t0=some (.tup [.int y0,.int y1,.int y3,.int y4]))(h1:H t1=some (.tup [.int y1,.int y2,.int y4,.int y5]))(h2:H t2=some (.tup [.int y3,.int y4,.int y6,.int y7]))(h3:H t3=some (.tup [.int y4,.int y5,.int y7,.int y8]))(t:Nat)(tt:Addr)(et:[t0,t1,t2,t3][t]?=some tt) :
  ∃f0 f1 f2 f3:Nat,H tt=some (.tup [.int f0,.int f1,.int f2,.int f3])/\(Ak G f0 (l:Int)/\Ak G f1 (l:Int)/\Ak G f2 (l:Int)/\Ak G f3 (l:Int))/\Vw G c l f0 (2^l*(t%2)+X) (2^l*(t/2)+X)/\Vw G c l f1 (2^l*(t%2)+X+2^l) (2^l*(t/2)+X)/\Vw G c l f2 (2^l*(t%2)+X) (2^l*(t/2)+X+2^l)/\Vw G c l f3 (2^l*(t%2)+X+2^l) (2^l*(t/2)+X+2^l):=by
 have t4:t<4:=(B6.mp et).1;have mx:=Nat.mul_succ (2^l) (t%2);have my:=Nat.mul_succ (2^l) (t/2);obtain⟨f0,e0,l0,v0⟩:=nj (t%2) (t/2) A1 A1;obtain⟨f1,e1,l1,v1⟩:=nj (t%2+1) (t/2) A1 A1;obtain⟨f2,e2,l2,v2⟩:=nj (t%2) (t/2+1) A1 A1;obtain⟨f3,e3,l3,v3⟩:=nj (t%2+1) (t/2+1) A1 A1;refine⟨f0,f1,f2,f3,?_,⟨l0,l1,l2,l3⟩,v0,v1.at' A1 rfl,v2.at' rfl A1,v3.at' A1 A1⟩
 match t,t4,et with
 |0,_,et=>cases e0;cases e1;cases e2;cases e3;cases et;exact h0
 |1,_,et=>cases e0;cases e1;cases e2;cases e3;cases et;exact h1
 |2,_,et=>cases e0;cases e1;cases e2;cases e3;cases et;exact h2
 |3,_,et=>cases e0;cases e1;cases e2;cases e3;cases et;exact h3
theorem PM{α:Type}{P:Nat->α->Prop}{zs:List α}{z:α}{i:Nat}(lz:zs.length=i)(h:∀t z',zs[t]?=some z'->P t z')(hz:P i z):∀t z',(zs++[z])[t]?=some z'->P t z':=λt z' e=>by
 by_cases ti:t<i
 ·rw[L8 A1]at e;exact h t z' e
 ·have:t=i:=by
   have:=(B6.mp e).1;rw[C5,lz]at this;have:t<i+1:=this;lia
  subst this;rw[F3 A1,lz,U5]at e;cases e;exact hz
section
variable{P:Program}{w:World}{K:PySem.W.Frag}{mg:Str->Option Value}{base:Heap}{a:Ad}
inductive Wv(a:Ad)(L:Nat)(vs:List V)(H:Hp)(Q:VK):Prop
 |mk (p dx mem pr:Addr) (g:GA) (G:Gv) (Κ:KTy) (N b:Nat) (r:AH) (m:MA) (n l e:Nat) (_:vs=[.ref p,.int n,.int e]) (_:JZ a H g G Κ N b p dx mem pr r m) (_:Nz Κ N) (_:ClK r Κ) (_:Ak G n ((l+2:Nat):Int)) (_:l<L) (_:e<=l) (_:Κ l e (BZ G (l+2) n)) (_:b+470*N+10*(l+1)<900000) (_:∀(k:Nat)(G':Gv)(H':Hp)(i:Nat),FrJ g m H H'->JZ a H' g G' Κ N b p dx mem pr r m->AG G G' i->JR r G' e n k->Up (l+1) G H H' m->Q (.int k) H'):Wv a L vs H Q
def Fd(a:Ad)(L:Nat):Sp:=λvs H Q _=>Wv a L vs H Q
inductive WB(a:Ad)(L:Nat)(vs:List V)(H:Hp)(Q:VK):Prop
 |mk (p dx mem pr:Addr) (g:GA) (G:Gv) (Κ:KTy) (N b:Nat) (r:AH) (m:MA) (n l e:Nat) (_:vs=[.ref p,.int n,.int e]) (_:JZ a H g G Κ N b p dx mem pr r m) (_:Nz Κ N) (_:ClK r Κ) (_:Ak G n ((l+2:Nat):Int)) (_:l<L) (_:e<=l) (_:Κ l e (BZ G (l+2) n)) (_:b+470*N+10*(l+1)<900000) (_:∀(k:Nat)(G':Gv)(H':Hp)(i:Nat),FrJ g m H H'->JZ a H' g G' Κ N (b+10) p dx mem pr r m->AG G G' i->JR r G' e n k->Up l G H H' m->Q (.int k) H'):WB a L vs H Q
def Rr(a:Ad)(L:Nat):Sp:=λvs H Q _=>WB a L vs H Q
inductive Tk(a:Ad)(L:Nat)(vs:List V)(H:Hp)(Q:VK):Prop
 |mk (p dx mem pr:Addr) (g:GA) (G:Gv) (Κ:KTy) (N b:Nat) (r:AH) (m:MA) (n l:Nat) (_:vs=[.ref p,.int n,.int ((l+1:Nat):Int)]) (_:JZ a H g G Κ N b p dx mem pr r m) (_:Nz Κ N) (_:ClK r Κ) (_:Ak G n ((l+1+2:Nat):Int)) (_:l<L) (_:Κ (l+1) (l+1) (BZ G (l+1+2) n)) (_:b+470*N+10*(l+2)<900000) (_:∀(A:Addr)(f0 f1 f2 f3:Nat)(G':Gv)(H':Hp)(i:Nat),FrJ g m H H'->JZ a H' g G' Κ N (b+9) p dx mem pr r m->AG G G' i->Up (l+1) G H H' m->H' A=some (.lst [toV f0,toV f1,toV f2,toV f3])->(Ak G' f0 ((l+2:Nat):Int)/\Ak G' f1 ((l+2:Nat):Int)/\Ak G' f2 ((l+2:Nat):Int)/\Ak G' f3 ((l+2:Nat):Int))->(Vw G' (Bc r (2^l) (BZ G (l+1+2) n)) (l+2) f0 (2^l) (2^l)/\Vw G' (Bc r (2^l) (BZ G (l+1+2) n)) (l+2) f1 (2^l+2^(l+1)) (2^l)/\Vw G' (Bc r (2^l) (BZ G (l+1+2) n)) (l+2) f2 (2^l) (2^l+2^(l+1))/\Vw G' (Bc r (2^l) (BZ G (l+1+2) n)) (l+2) f3 (2^l+2^(l+1)) (2^l+2^(l+1)))->Q (.ref A) H'):Tk a L vs H Q
def OP(a:Ad)(L:Nat):Sp:=λvs H Q _=>Tk a L vs H Q
theorem Vt{L d:Nat}{f:Addr}{fd:FuncData}(F:Fun K "four_halfway" "Jumps.four_halfway" AY f fd)(T:Top K mg a)(d3:3<=d)(aJ:Cal P w K mg base CX0 3 "nine_parts" Dv (Ms a))(aP:Cal P w K mg base CX0 1 "fours_of" ED Js)(a6:BK P w K mg base CX0 2 a.c_Grove "linked" AQ (DV a))(a8:BK P w K mg base CX0 d a.c_Jumps "reckoned" AZ (Fd a L)):AJ P w K mg base CX0 (d+1) f fd Br (OP a L):=by
 refine F.ok Dw (λvs H Q E h=>?_) (λcdv A outer s H vs Q E hr h=>?_)
 ·apply AT;intro G_ hG_;obtain⟨p,dx,mem,pr,g,G,Κ,N,b,r,m,n,l,rfl,_⟩:=h;apply hG_;clear hG_ G_;rfl
 ·apply AT;intro G_ hG_;obtain⟨p,dx,mem,pr,g,G,Κ,N,b,r,m,n,l,rfl,hz,fin,cl,hl,hL,hκ,few,k⟩:=h;have hj:=hz.jw;have sz:=hz.sz fin;apply hG_;clear hG_ G_;refine⟨_,(Ac (Gm (i:=3) rfl Dw.nd rfl rfl (BD.of (So:=Ah AY) (No:=CB) (N:=["part","self","e"]) (k:=1) (cs:=[0,2]) rfl rfl A0) (Cs (Aq aJ (rm hr) rfl An (Aa (Az (pv 0) rfl) (Aa (pv 1) Ab)))) (λ_ _ _=>(Bk (i:=0) A0 rfl rfl)) (λ_ _ _=>BL) (λ_ _ _=>(AF (pv 1) a8 (rm hr) An (Aa (pv 0) (Bl Bf (pv 2) Ae Ab))))) (Ag (As (CH rfl (BD.of (So:=Ah AY) (No:=CB) (N:=["four","self"]) (k:=1) (cs:=[0]) rfl rfl A0) (Cs (Aq aP (rm hr) rfl An (Aa (pv 3) Ab))) (λ_ _ _=>(Bk (i:=0) A0 rfl rfl)) (λ_ _ _=>BL) (λ_ _ _=>(AF (Pb (K:=K) rfl (pv 1) rfl) a6 (rm hr) An (Aa (pv 0) Ab))))))),?_⟩
  try dsimp only[cxK]
  obtain⟨q9,eq9,el9⟩:=id hl;have l46:l<=45:=by have:=(hj.ok.lev eq9).2;lia
  refine xwf rfl rfl hj.hp T.cl_Jumps T.na_Jumps_grove (Dc _ _ _ _ _) (xq1 rfl ⟨g,G,n,l+1,rfl,hj.gr,hj.ok,hl,by lia,by lia,λA9 ks G3 H3 fr3 hg3 go3 hA3 l9 nine=>?_⟩);have hz3:=hz.fr fr3 hg3 go3;have hj3:=hz3.jw;have sz3:=hz3.sz fin
  skip
  have lv9:∀(t k:Nat),ks[t]?=some k->Ak G3 k ((l+2:Nat):Int):=λt k e=>by
   have ht:=(B6.mp e).1;obtain⟨k',e1,e2,_⟩:=nine (t%3) (t/3) A1 A1;rw[show t%3+3*(t/3)=t by lia,e]at e1;cases e1;exact e2
  have kk9:∀(t k:Nat),ks[t]?=some k->Κ l l (BZ G3 (l+2) k):=λt k e=>by
   have ht:=(B6.mp e).1;obtain⟨k',e1,_,v⟩:=nine (t%3) (t/3) A1 A1;rw[show t%3+3*(t/3)=t by lia,e]at e1;cases e1;exact fin.ext (cl.nine2 hκ (t%3) (t/3) A1 A1) λx y hx hy=>(v x y hx hy).symm
  refine⟨A9,rfl,⟨_,SqL.of hA3⟩,?_⟩;refine DT (xs:=ks.map λ(k:Nat)=>V.int (k:Int)) (λi acc H5=>∃(G5:Gv)(ys:List Nat)(c5:Nat),acc=ys.map toV/\ys.length=i/\FrJ g m H3 H5/\JZ a H5 g G5 Κ N (b+5) p dx mem pr r m/\AG G3 G5 c5/\Up (l+1) G3 H3 H5 m/\Paired (λk y=>JR r G5 l k y) (ks.take i) ys) ⟨G3,[],0,rfl,rfl,λb o e _ _ _ _ _=>e,hz3,AG.refl hj3.ok,Up.refl _ _ _ _,.nil⟩ (λi acc H5 _ z=>by obtain⟨_,_,_,_,_,fr,_⟩:=z;exact SqL.of ((fr.kps hj3.gr hj3.bs.long hj3.me) _ _ hA3 (.lst (by rw[B5];lia)))) ?_ ?_
  ·rintro i v acc H5 ev z5_;apply AT;intro G_ hG_;obtain⟨G5,ys,c5,rfl,ly,fr5,hz5,go5,up5,pr5⟩:=z5_;apply hG_;clear hG_ G_;rw[B9]at ev;obtain⟨k5,ek,rfl⟩:=D5.mp ev;have i9:i<9:=by have:=(B6.mp ek).1;lia
   have hj5:=hz5.jw
   skip
   refine⟨⟨[some (.int (k5:Int))],rfl,rfl⟩,by rw[B5,ly];exact Q8 i9 A3,GV (xwn rfl rfl hj5.hp (JH _ _ _ _ _) rfl (xwb rfl rfl rfl ⟨p,dx,mem,pr,g,G5,Κ,N,b+5,r,m,k5,l,l,(show [V.ref p,V.int (k5:Int),V.int (((l+1:Nat):Int)-1)]=[V.ref p,V.int (k5:Int),V.int (l:Int)] by rw[show((l+1:Nat):Int)-1=(l:Int) by lia]),hz5,fin,cl,go5.lev (lv9 i k5 ek),hL,C0 l,(by rw[Co hj3.ok go5 (lv9 i k5 ek)];exact kk9 i k5 ek),by lia,λy G6 H6 c6 fr6 hz6 go6 jr6 up6=>⟨G6,ys++[y],_,by rw[C9];rfl,by rw[C5,ly];rfl,fr5.trans fr6,hz6,go5.trans go6,up5.trans up6 go5,?_⟩⟩))⟩;rw[F8,ek,Q7];exact X4 (Paired.imp (λk y z=>z.goes hj5.ok go6) pr5) jr6
  rintro acc H5 z2_ A5 hA5;apply AT;intro G_ hG_;obtain⟨G5,ys,c5,rfl,ly,fr5,hz5,go5,up5,pr5⟩:=z2_;have hj5:=hz5.jw;apply hG_;clear hG_ G_;rw[B5,l9]at ly;rw[B5,L6]at pr5;have nj:=NZ hj3.ok go5 nine pr5;apply AT;intro G_ hG_;obtain⟨y0,y1,y2,y3,y4,y5,y6,y7,y8,rfl⟩:=SO ys ly;apply hG_;clear hG_ G_
  skip
  generalize cQ:upd H5 A5 _=H6;obtain⟨s5,hA5'⟩:=alc hA5 cQ;have hz6:=hz5.same s5;have hj6:=hz6.jw;have f06:FrJ g m H H6:=(Fr.j fr3).trans (fr5.trans (AA.j s5));refine xq1 rfl ⟨A5,y0,y1,y2,y3,y4,y5,y6,y7,y8,rfl,hA5',λMM t0 t1 t2 t3 H7 s7 hM ht0 ht1 ht2 ht3=>?_⟩;have hz7:=hz6.same s7;have hj7:=hz7.jw;refine⟨MM,rfl,⟨_,SqL.of hM⟩,?_⟩;have p1:2^(l+1)=2^l*2:=D9 ..;have four:=MO nj ht0 ht1 ht2 ht3;have okG5:=hj7.ok;refine DT (xs:=[t0,t1,t2,t3].map V.ref) (λi acc H8=>∃(G8:Gv)(zs:List Nat),acc=zs.map toV/\zs.length=i/\Fr g H7 H8/\JZ a H8 g G8 Κ N (b+5+i) p dx mem pr r m/\AG G5 G8 i/\∀(t z:Nat),zs[t]?=some z->Ak G8 z ((l+2:Nat):Int)/\Vw G8 (Bc r (2^l) (BZ G (l+1+2) n)) (l+1+1) z (2^(l+1)*(t%2)+2^l) (2^(l+1)*(t/2)+2^l)) ⟨G5,[],rfl,rfl,Fr.refl g H7,hz7,AG.refl okG5,λt z e=>(nomatch e)⟩ (λi acc H8 _ z=>by obtain⟨_,_,_,_,fr,_⟩:=z;exact SqL.of ((fr.kps hj7.gr hj7.bs.long) _ _ hM (.lst (by show 4<=50;decide)))) ?_ ?_
  ·rintro i v acc H8 ev z5_;apply AT;intro G_ hG_;obtain⟨G8,zs,rfl,lz,fr8,hz8,go8,vz⟩:=z5_;have hj8:=hz8.jw;have sz8:=hz8.sz fin;apply hG_;clear hG_ G_;rw[B9]at ev;obtain⟨tt,et,rfl⟩:=D5.mp ev;have i4:i<4:=(B6.mp et).1;apply AT;intro G_ hG_;obtain⟨f0,f1,f2,f3,htt,⟨m0,m1,m2,m3⟩,w0,w1,w2,w3⟩:=four i tt et;apply hG_;clear hG_ G_
   skip
   refine⟨⟨[some (.ref tt)],rfl,rfl⟩,by rw[B5,lz];exact Q8 i4 A3,GV (xwf rfl rfl hj8.hp T.cl_Jumps T.na_Jumps_grove (Dc _ _ _ _ _) (xq3 rfl hj8.gr.hp (BE g) (xq1 rfl ⟨g,G8,tt,f0,f1,f2,f3,((l+1:Nat):Int),rfl,hj8.gr,hj8.ok,(fr8.kps hj7.gr hj7.bs.long) _ _ htt (.inl .tup),⟨go8.lev m0,go8.lev m1,go8.lev m2,go8.lev m3⟩,by lia,by lia,λz G9 H9 fr9 hg9 go9 e9=>⟨G9,zs++[z],by rw[C9];rfl,by rw[C5,lz];rfl,fr8.trans fr9,hz8.fr fr9 hg9 go9,go8.trans go9,?_⟩⟩)))⟩;refine PM lz (λt z' e=>?_) ?_
   ·obtain⟨q1,q2⟩:=vz t z' e;exact⟨go9.lev q1,q2.goes hj8.ok go9 q1⟩
   ·exact⟨⟨_,e9,by show((l+1:Nat):Int)+1=((l+2:Nat):Int);lia⟩,LH okG5 (go8.trans go9) m0 m1 m2 m3 w0 w1 w2 w3 e9⟩
  rintro acc H8 z2_ A8 hA8;apply AT;intro G_ hG_;obtain⟨G8,zs,rfl,lz,fr8,hz8,go8,vz⟩:=z2_;have hj8:=hz8.jw;have sz8:=hz8.sz fin;apply hG_;clear hG_ G_;apply AT;intro G_ hG_;obtain⟨z0,z1,z2,z3,rfl⟩:=Nd zs lz;apply hG_;clear hG_ G_;have s8:AA H8 (upd H8 A8 (.lst ([z0,z1,z2,z3].map toV))):=AE hA8;have go4:AG G5 G8 4:=go8;obtain⟨q0,x0⟩:=vz 0 z0 rfl;obtain⟨q1,x1⟩:=vz 1 z1 rfl;obtain⟨q2,x2⟩:=vz 2 z2 rfl;obtain⟨q3,x3⟩:=vz 3 z3 rfl;refine k A8 z0 z1 z2 z3 G8 _ _ (f06.trans ((AA.j s7).trans ((Fr.j fr8).trans (AA.j s8)))) (hz8.same s8) ((go3.trans go5).trans go4) (((((hz.upF (l+1) fr3).trans up5 go3).trans (hz5.upS _ s5) (go3.trans go5)).trans (hz6.upS _ s7) (go3.trans go5)).trans ((hz7.upF _ fr8).trans (hz8.upS _ s8) go8) (go3.trans go5)) Af ⟨q0,q1,q2,q3⟩ ⟨x0.at' A1 A1,x1.at' A1 A1,x2.at' A1 A1,x3.at' A1 A1⟩
theorem ok_freA{L d:Nat}{f:Addr}{fd:FuncData}(F:Fun K "fresh" "Jumps.fresh" BR f fd)(T:Top K mg a)(d7:7<=d)(a9:BK P w K mg base CX0 7 a.c_Jumps "middle_after" BM (OL a))(a6:BK P w K mg base CX0 2 a.c_Grove "linked" AQ (DV a))(aJ:Cal P w K mg base CX0 3 "nine_parts" Dv (Ms a))(aP:Cal P w K mg base CX0 1 "fours_of" ED Js)(aD:Cal P w K mg base CX0 3 "met_in_the_middle" BV (SA a))(a8:BK P w K mg base CX0 d a.c_Jumps "reckoned" AZ (Fd a L))(bP:BK P w K mg base CX0 (d+1) a.c_Jumps "four_halfway" Br (OP a L)):AJ P w K mg base CX0 (d+2) f fd CP (Rr a (L+1)):=by
 refine F.ok Do (λvs H Q E h=>?_) (λcdv A outer s H vs Q E hr h=>?_)
 ·apply AT;intro G_ hG_;obtain⟨p,dx,mem,pr,g,G,Κ,N,b,r,m,n,l,e,rfl,_⟩:=h;apply hG_;clear hG_ G_;rfl
 ·apply AT;intro G_ hG_;obtain⟨p,dx,mem,pr,g,G,Κ,N,b,r,m,n,l,e,rfl,hz,fin,cl,hl,hL,he,hκ,few,k⟩:=h;have hj:=hz.jw;have sz:=hz.sz fin;obtain⟨q,eq,el⟩:=id hl;apply hG_;clear hG_ G_;have l48:=(hj.ok.lev eq).2;have l46:l<=46:=by lia
  refine⟨_,(Ac (Ao (i:=3) Do.nd rfl (Or.inr rfl) (Az (pv 0) rfl)) (Ac (Ao (i:=4) Do.nd rfl (Or.inl rfl) (Aj Aw (Az (pv 3) rfl) (pv 1) (λ_ _=>rfl))) (Ac (AN (Ax CQ (pv 1) (Aj Aw (Az (pv 3) rfl) (pv 4) (λ_ _=>rfl)) (AC _)) (Ag (As (Aj Aw (Az (pv 3) rfl) (AK Bf (pv 4) Ae) (λ_ _=>rfl)))) AB) (Ac (AN (Ax CQ (pv 4) (BI rfl T.k_LEAST_JUMPED) (AC _)) (Ag (As (AF (pv 0) a9 (rm hr) An (Aa (pv 1) Ab)))) AB) (Ac (AN (Ax GO (pv 2) (AK Bf (pv 4) (BI rfl T.k_LEAST_JUMPED)) (AC _)) (Ac (Gm (i:=5) rfl Do.nd rfl rfl (BD.of (So:=Ah BR) (No:=DQ) (N:=["part","self","e"]) (k:=1) (cs:=[0,2]) rfl rfl A0) (Cs (Aq aJ (rm hr) rfl An (Aa (pv 3) (Aa (pv 1) Ab)))) (λ_ _ _=>(Bk (i:=0) A0 rfl rfl)) (λ_ _ _=>BL) (λ_ _ _=>(AF (pv 1) a8 (rm hr) An (Aa (pv 0) (Aa (pv 2) Ab))))) (Ag (As (AF (pv 3) a6 (rm hr) An (Aa (BY BS rfl T.b_tuple Y7 (Aa (CH rfl (BD.of (So:=Ah BR) (No:=DQ) (N:=["four","grove"]) (k:=1) (cs:=[3]) rfl rfl A0) (Cs (Aq aP (rm hr) rfl An (Aa (pv 5) Ab))) (λ_ _ _=>(Bk (i:=0) A0 rfl rfl)) (λ_ _ _=>BL) (λ_ _ _=>(Aq aD (rm hr) rfl An (Aa (pv 1) (Aa (pv 0) Ab))))) Ab)) Ab))))) AB) (Ag (As (AF (pv 3) a6 (rm hr) An (Aa (BY BS rfl T.b_tuple Y7 (Aa (CH rfl (BD.of (So:=Ah BR) (No:=DQ) (N:=["four","self","e"]) (k:=1) (cs:=[0,2]) rfl rfl A0) (Cs (AF (pv 0) bP (rm hr) An (Aa (pv 1) (Aa (pv 2) Ab)))) (λ_ _ _=>(Bk (i:=0) A0 rfl rfl)) (λ_ _ _=>BL) (λ_ _ _=>(AF (pv 1) a8 (rm hr) An (Aa (pv 0) (Bl Bf (pv 2) Ae Ab))))) Ab)) Ab))))))))),?_⟩
  try dsimp only[cxK]
  refine xwf rfl rfl hj.hp T.cl_Jumps T.na_Jumps_grove (Dc _ _ _ _ _) ?_;refine xq1 rfl ⟨g.p,_,g.dx,_,_,rfl,hj.gr.hp,T.cl_Grove,T.na_Grove_levels,EK g,_,rfl,g.lv,_,(n:Int),.int ((l+2:Nat):Int),rfl,rfl,SqL.of hj.gr.lv,Al (by rw[B9,eq,<-el];rfl),?_⟩;refine xq1 rfl (xq1 rfl ⟨g.p,_,g.dx,_,_,rfl,hj.gr.hp,T.cl_Grove,T.na_Grove_bares,Iu g,_,rfl,g.br,_,((l+2:Nat):Int),.int (bareN (l+2):Int),rfl,rfl,SqL.of hj.br,Al (bareJ A1),rfl,_,rfl,?_⟩);refine IM (λhc=>?_) (λhc=>?_)
  ·have ei:n=bareN (l+2):=by
    have:=W1 hc;injection this with this
    exact V8 this
   refine xwf rfl rfl hj.gr.hp T.cl_Grove T.na_Grove_bares (Iu g) (xwb rfl rfl rfl (xq4 rfl rfl (SqL.of hj.br) (by rw[show((l+2:Nat):Int)-1=((l+1:Nat):Int) by lia];exact Al (bareJ A1)) ?_));refine k (bareN (l+1)) G H 0 (λb o e _ _ _ _ _=>e) (hz.mono A1) (AG.refl hj.ok) ?_ (Up.refl _ _ _ _);rw[ei];exact JR.bare hj.ok hj.bs hj.rest A1 he
  refine xq1 rfl ⟨rfl,(xq1 rfl ?_)⟩;cases l with
  |zero =>
   refine(show ∀{b:Bool}{A B:Prop},b=true->A->(if b=true then A else B)from λh x=>by rw[h];exact BT x) (V1 rfl) ?_;have e0:e=0:=by lia
   subst e0;obtain⟨ff,cn⟩:=hz.cn;obtain⟨kc,c1,c2⟩:=cn.ce;have sm:=cn.sum hj.ok fin hj.me.len;refine xwn rfl rfl hj.hp (noJ_mid _ _ _ _ _) rfl ⟨p,dx,mem,pr,g,G,N,kc.length,r,m,n,rfl,hj.tc c1,hl,by lia,by lia,λk' G' H' fr hj' go jr=>?_⟩;obtain⟨z1,z2⟩:=hz.mid cn c1 fr hj' go;exact k k' G' H' 1 fr.j (z1.mono A1) go jr (z2 _)
  |succ l =>
   refine(show ∀{b:Bool}{A B:Prop},b=false->B->(if b=true then A else B)from λh x=>by rw[h];exact Bb x) (V3 (by intro z;injection z with z;have z:((l+1+2:Nat):Int)=2:=z;lia)) ?_;have hL:l<L:=by lia
   have p1:2^(l+1)=2^l*2:=D9 ..;refine xw2 rfl rfl (xq2 rfl rfl (xq2 rfl rfl (xq1 rfl ?_)));refine IM (λhc=>?_) (λhc=>?_)
   ·have el':e<=l:=by
     have hc:=W1 hc;have hc:(e:Int)<((l+1+2:Nat):Int)-2:=hc;lia
    obtain⟨q9,eq9,el9⟩:=id hl;have l46:l<=45:=by have:=(hj.ok.lev eq9).2;lia
    refine xw2 rfl rfl ⟨g,G,n,l+1,rfl,hj.gr,hj.ok,hl,by lia,by lia,λA9 ks G3 H3 fr3 hg3 go3 hA3 l9 nine=>?_⟩;have hz3:=hz.fr fr3 hg3 go3;have hj3:=hz3.jw;have sz3:=hz3.sz fin
    skip
    have lv9:∀(t k:Nat),ks[t]?=some k->Ak G3 k ((l+2:Nat):Int):=λt k e=>by
     have ht:=(B6.mp e).1;obtain⟨k',e1,e2,_⟩:=nine (t%3) (t/3) A1 A1;rw[show t%3+3*(t/3)=t by lia,e]at e1;cases e1;exact e2
    have kk9:∀(t k:Nat),ks[t]?=some k->Κ l e (BZ G3 (l+2) k):=λt k e=>by
     have ht:=(B6.mp e).1;obtain⟨k',e1,_,v⟩:=nine (t%3) (t/3) A1 A1;rw[show t%3+3*(t/3)=t by lia,e]at e1;cases e1;exact fin.ext (cl.nine1 hκ el' (t%3) (t/3) A1 A1) λx y hx hy=>(v x y hx hy).symm
    refine⟨A9,rfl,⟨_,SqL.of hA3⟩,?_⟩;refine DT (xs:=ks.map λ(k:Nat)=>V.int (k:Int)) (λi acc H5=>∃(G5:Gv)(ys:List Nat)(c5:Nat),acc=ys.map toV/\ys.length=i/\FrJ g m H3 H5/\JZ a H5 g G5 Κ N (b+5) p dx mem pr r m/\AG G3 G5 c5/\Up (l+1) G3 H3 H5 m/\Paired (λk y=>JR r G5 e k y) (ks.take i) ys) ⟨G3,[],0,rfl,rfl,λb o e _ _ _ _ _=>e,hz3,AG.refl hj3.ok,Up.refl _ _ _ _,.nil⟩ (λi acc H5 _ z=>by obtain⟨_,_,_,_,_,fr,_⟩:=z;exact SqL.of ((fr.kps hj3.gr hj3.bs.long hj3.me) _ _ hA3 (.lst (by rw[B5];lia)))) ?_ ?_
    ·rintro i v acc H5 ev z5_;apply AT;intro G_ hG_;obtain⟨G5,ys,c5,rfl,ly,fr5,hz5,go5,up5,pr5⟩:=z5_;apply hG_;clear hG_ G_;rw[B9]at ev;obtain⟨k5,ek,rfl⟩:=D5.mp ev;have i9:i<9:=by have:=(B6.mp ek).1;lia
     have hj5:=hz5.jw
     skip
     refine⟨⟨[some (.int (k5:Int))],rfl,rfl⟩,by rw[B5,ly];exact Q8 i9 A3,GV (xwn rfl rfl hj5.hp (JH _ _ _ _ _) rfl (xq1 rfl ⟨p,dx,mem,pr,g,G5,Κ,N,b+5,r,m,k5,l,e,rfl,hz5,fin,cl,go5.lev (lv9 i k5 ek),hL,el',(by rw[Co hj3.ok go5 (lv9 i k5 ek)];exact kk9 i k5 ek),by lia,λy G6 H6 c6 fr6 hz6 go6 jr6 up6=>⟨G6,ys++[y],_,by rw[C9];rfl,by rw[C5,ly];rfl,fr5.trans fr6,hz6,go5.trans go6,up5.trans up6 go5,?_⟩⟩))⟩;rw[F8,ek,Q7];exact X4 (Paired.imp (λk y z=>z.goes hj5.ok go6) pr5) jr6
    rintro acc H5 z2_ A5 hA5;apply AT;intro G_ hG_;obtain⟨G5,ys,c5,rfl,ly,fr5,hz5,go5,up5,pr5⟩:=z2_;have hj5:=hz5.jw;apply hG_;clear hG_ G_;rw[B5,l9]at ly;rw[B5,L6]at pr5;have nj:=NZ hj3.ok go5 nine pr5;apply AT;intro G_ hG_;obtain⟨y0,y1,y2,y3,y4,y5,y6,y7,y8,rfl⟩:=SO ys ly;apply hG_;clear hG_ G_
    skip
    generalize cQ:upd H5 A5 _=H6;obtain⟨s5,hA5'⟩:=alc hA5 cQ;have hz6:=hz5.same s5;have hj6:=hz6.jw;have f06:FrJ g m H H6:=(Fr.j fr3).trans (fr5.trans (AA.j s5));refine xwm rfl rfl hj6.gr.hp (BE g) ?_;refine xq1 rfl ⟨A5,y0,y1,y2,y3,y4,y5,y6,y7,y8,rfl,hA5',λMM t0 t1 t2 t3 H7 s7 hM ht0 ht1 ht2 ht3=>?_⟩;have hz7:=hz6.same s7;have hj7:=hz7.jw;refine⟨MM,rfl,⟨_,SqL.of hM⟩,?_⟩;have four:=MO nj ht0 ht1 ht2 ht3;have okG5:=hj7.ok;refine DT (xs:=[t0,t1,t2,t3].map V.ref) (λi acc H8=>∃(G8:Gv)(zs:List Nat),acc=zs.map toV/\zs.length=i/\Fr g H7 H8/\JZ a H8 g G8 Κ N (b+5+i) p dx mem pr r m/\AG G5 G8 i/\∀(t z:Nat),zs[t]?=some z->Ak G8 z ((l+1:Nat):Int)/\Vw G8 (Bc r (2^e) (BZ G (l+1+2) n)) (l+1) z (2^(l+1)*(t%2)+2^(l+1)) (2^(l+1)*(t/2)+2^(l+1))) ⟨G5,[],rfl,rfl,Fr.refl g H7,hz7,AG.refl okG5,λt z e=>(nomatch e)⟩ (λi acc H8 _ z=>by obtain⟨_,_,_,_,fr,_⟩:=z;exact SqL.of ((fr.kps hj7.gr hj7.bs.long) _ _ hM (.lst (by show 4<=50;decide)))) ?_ ?_
    ·rintro i v acc H8 ev z5_;apply AT;intro G_ hG_;obtain⟨G8,zs,rfl,lz,fr8,hz8,go8,vz⟩:=z5_;have hj8:=hz8.jw;have sz8:=hz8.sz fin;apply hG_;clear hG_ G_;rw[B9]at ev;obtain⟨tt,et,rfl⟩:=D5.mp ev;have i4:i<4:=(B6.mp et).1;apply AT;intro G_ hG_;obtain⟨f0,f1,f2,f3,htt,⟨m0,m1,m2,m3⟩,w0,w1,w2,w3⟩:=four i tt et;apply hG_;clear hG_ G_
     skip
     have qg:∀{f:Nat}(j:Nat),Ak G5 f ((l+1:Nat):Int)->qO G8 f j=qO G5 f j:=λ{f} j h=>by
      obtain⟨q,e,_⟩:=h;unfold qO;rw[go8.get e,e]
     refine⟨⟨[some (.ref tt)],rfl,rfl⟩,by rw[B5,lz];exact Q8 i4 A3,GV (xw2 rfl rfl ⟨g,G8,tt,f0,f1,f2,f3,l,rfl,hj8.gr,hj8.ok,(fr8.kps hj7.gr hj7.bs.long) _ _ htt (.inl .tup),⟨go8.lev m0,go8.lev m1,go8.lev m2,go8.lev m3⟩,by lia,by lia,λz G9 H9 fr9 hg9 go9 e9=>⟨G9,zs++[z],by rw[C9];rfl,by rw[C5,lz];rfl,fr8.trans fr9,hz8.fr fr9 hg9 go9,go8.trans go9,?_⟩⟩)⟩;rw[qg 3 m0,qg 2 m1,qg 1 m2,qg 0 m3]at e9;refine PM lz (λt z' e=>?_) ?_
     ·obtain⟨q1,q2⟩:=vz t z' e;exact⟨go9.lev q1,q2.goes hj8.ok go9 q1⟩
     ·exact⟨⟨_,e9,by show(l:Int)+1=((l+1:Nat):Int);lia⟩,(VJ okG5 (go8.trans go9) m0 m1 m2 m3 w0 w1 w2 w3 e9).at' A1 A1⟩
    rintro acc H8 z2_ A8 hA8;apply AT;intro G_ hG_;obtain⟨G8,zs,rfl,lz,fr8,hz8,go8,vz⟩:=z2_;have hj8:=hz8.jw;have sz8:=hz8.sz fin;apply hG_;clear hG_ G_;apply AT;intro G_ hG_;obtain⟨z0,z1,z2,z3,rfl⟩:=Nd zs lz;apply hG_;clear hG_ G_;have go4:AG G5 G8 4:=go8;have hz8:JZ a H8 g G8 Κ N (b+5+4) p dx mem pr r m:=hz8;have sz8:=hz8.sz fin;have go08:=(go3.trans go5).trans go4;have f08:FrJ g m H H8:=f06.trans ((AA.j s7).trans (Fr.j fr8));generalize cU:upd H8 A8 _=H9;obtain⟨s8,hA8'⟩:=alc hA8 cU;refine⟨A8,(xq1 rfl (.inl ⟨SqL.of hA8',λu hu=>?_⟩))⟩;have hz9:=hz8.same s8;have hj9:=hz9.jw;obtain⟨q0,x0⟩:=vz 0 z0 rfl;obtain⟨q1,x1⟩:=vz 1 z1 rfl;obtain⟨q2,x2⟩:=vz 2 z2 rfl;obtain⟨q3,x3⟩:=vz 3 z3 rfl
    skip
    refine lnk (⟨.refl _ _,λe=>e,hj9.gr,.refl hj9.ok⟩:Ln a g H9 G8 0 H9 G8) hu ⟨q0,q1,q2,q3⟩ A1 A1 λz G11 H11 l11 go11 e11=>?_;refine k z G11 H11 _ (f08.trans ((AA.j s8).trans (Fr.j l11.fr))) ((hz9.fr l11.fr l11.gr go11).mono A1) (go08.trans go11) ?_ (((((hz.upF (l+1) fr3).trans up5 go3).trans (hz5.upS _ s5) (go3.trans go5)).trans (hz6.upS _ s7) (go3.trans go5)).trans (((hz7.upF _ fr8).trans (hz8.upS _ s8) go8).trans (hz9.upF _ l11.fr) go8) (go3.trans go5));have goz:=go08.trans go11;refine Vw.jr (goz.lev hl) he ⟨_,e11,by show((l+1:Nat):Int)+1=((l+1+1:Nat):Int);lia⟩ ?_;rw[Co hj.ok goz hl];exact LH hj9.ok go11 q0 q1 q2 q3 (x0.at' A1 A1) (x1.at' A1 A1) (x2.at' A1 A1) (x3.at' A1 A1) e11
   ·have el':e=l+1:=by
     have hc:¬(e:Int)<((l+1+2:Nat):Int)-2:=λz=>hc (V1 z);lia
    subst el';refine xwm rfl rfl hj.gr.hp (BE g) ?_;refine xwn rfl rfl hj.hp (VB _ _ _ _ _) rfl (xq1 rfl ⟨p,dx,mem,pr,g,G,Κ,N,b,r,m,n,l,rfl,hz,fin,cl,hl,hL,hκ,by lia,λA7 f0 f1 f2 f3 G5 H7 i5 f07 hz7 go5 up7 hA7 lvs vws=>?_⟩);apply AT;intro G_ hG_;obtain⟨m0,m1,m2,m3⟩:=lvs;obtain⟨w0,w1,w2,w3⟩:=vws;apply hG_;clear hG_ G_
    skip
    refine⟨A7,rfl,⟨_,SqL.of hA7⟩,?_⟩;have hj7:=hz7.jw;have okG5:=hj7.ok;have four:∀(t f:Nat),[f0,f1,f2,f3][t]?=some f->Ak G5 f ((l+2:Nat):Int)/\Vw G5 (Bc r (2^l) (BZ G (l+1+2) n)) (l+2) f (2^(l+1)*(t%2)+2^l) (2^(l+1)*(t/2)+2^l):=λt f et=>by
     match t,et with
     |0,et=>cases et;exact⟨m0,w0.at' A1 A1⟩
     |1,et=>cases et;exact⟨m1,w1.at' A1 A1⟩
     |2,et=>cases et;exact⟨m2,w2.at' A1 A1⟩
     |3,et=>cases et;exact⟨m3,w3.at' A1 A1⟩
     |j+4,et=>cases et
    have dbl:Bc r (2^l) (Bc r (2^l) (BZ G (l+1+2) n))=Bc r (2^(l+1)) (BZ G (l+1+2) n):=by
     rw[<-Qb,p1,Nat.mul_two]
    refine DT (xs:=[f0,f1,f2,f3].map toV) (λi acc H8=>∃(G8:Gv)(zs:List Nat)(c8:Nat),acc=zs.map toV/\zs.length=i/\FrJ g m H7 H8/\JZ a H8 g G8 Κ N (b+9) p dx mem pr r m/\AG G5 G8 c8/\Up (l+1) G5 H7 H8 m/\∀(t z:Nat),zs[t]?=some z->Ak G8 z ((l+1:Nat):Int)/\Vw G8 (Bc r (2^(l+1)) (BZ G (l+1+2) n)) (l+1) z (2^(l+1)*(t%2)+2^(l+1)) (2^(l+1)*(t/2)+2^(l+1))) ⟨G5,[],0,rfl,rfl,λb o e _ _ _ _ _=>e,hz7,AG.refl okG5,Up.refl _ _ _ _,λt z e=>(nomatch e)⟩ (λi acc H8 _ z=>by obtain⟨_,_,_,_,_,fr,_⟩:=z;exact SqL.of ((fr.kps hj7.gr hj7.bs.long hj7.me) _ _ hA7 (.lst (by show 4<=50;decide)))) ?_ ?_
    ·rintro i v acc H8 ev z5_;apply AT;intro G_ hG_;obtain⟨G8,zs,c8,rfl,lz,fr8,hz8,go8,up8,vz⟩:=z5_;have hj8:=hz8.jw;have sz8:=hz8.sz fin;apply hG_;clear hG_ G_;rw[B9]at ev;obtain⟨ff,et,rfl⟩:=D5.mp ev;have i4:i<4:=(B6.mp et).1;obtain⟨mf,wf⟩:=four i ff et
     skip
     refine⟨⟨[some (toV ff)],rfl,rfl⟩,by rw[B5,lz];exact Q8 i4 A3,GV (xwn rfl rfl hj8.hp (JH _ _ _ _ _) rfl (xwb rfl rfl rfl ⟨p,dx,mem,pr,g,G8,Κ,N,b+9,r,m,ff,l,l,(show [V.ref p,V.int (ff:Int),V.int (((l+1:Nat):Int)-1)]=[V.ref p,V.int (ff:Int),V.int (l:Int)] by rw[show((l+1:Nat):Int)-1=(l:Int) by lia]),hz8,fin,cl,go8.lev mf,hL,C0 l,(by rw[Co okG5 go8 mf];exact fin.ext (cl.four hκ (i%2) (i/2) A1 A1) λx y hx hy=>(wf x y hx hy).symm),by lia,λz G9 H9 c9 fr9 hz9 go9 jr9 up9=>⟨G9,zs++[z],_,by rw[C9];rfl,by rw[C5,lz];rfl,fr8.trans fr9,hz9,go8.trans go9,up8.trans up9 go8,?_⟩⟩))⟩;refine PM lz (λt z' e=>?_) ?_
     ·obtain⟨q1,q2⟩:=vz t z' e;exact⟨go9.lev q1,q2.goes hj8.ok go9 q1⟩
     ·obtain⟨r1,_,r3⟩:=jr9.view ((go8.trans go9).lev mf) (wf.goes okG5 (go8.trans go9) mf);rw[dbl]at r3;exact⟨r1,r3.at' A1 A1⟩
    rintro acc H8 z2_ A8 hA8;apply AT;intro G_ hG_;obtain⟨G8,zs,c8,rfl,lz,fr8,hz8,go8,up8,vz⟩:=z2_;have hj8:=hz8.jw;have sz8:=hz8.sz fin;apply hG_;clear hG_ G_;apply AT;intro G_ hG_;obtain⟨z0,z1,z2,z3,rfl⟩:=Nd zs lz;apply hG_;clear hG_ G_;have go08:=go5.trans go8;have f08:FrJ g m H H8:=f07.trans fr8;generalize cU:upd H8 A8 _=H9;obtain⟨s8,hA8'⟩:=alc hA8 cU;refine⟨A8,(xq1 rfl (.inl ⟨SqL.of hA8',λu hu=>?_⟩))⟩;have hz9:=hz8.same s8;have hj9:=hz9.jw;obtain⟨q0,x0⟩:=vz 0 z0 rfl;obtain⟨q1,x1⟩:=vz 1 z1 rfl;obtain⟨q2,x2⟩:=vz 2 z2 rfl;obtain⟨q3,x3⟩:=vz 3 z3 rfl
    skip
    refine lnk (⟨.refl _ _,λe=>e,hj9.gr,.refl hj9.ok⟩:Ln a g H9 G8 0 H9 G8) hu ⟨q0,q1,q2,q3⟩ A1 A1 λz G11 H11 l11 go11 e11=>?_;refine k z G11 H11 _ (f08.trans ((AA.j s8).trans (Fr.j l11.fr))) ((hz9.fr l11.fr l11.gr go11).mono A1) (go08.trans go11) ?_ ((up7.trans up8 go5).trans ((hz8.upS _ s8).trans (hz9.upF _ l11.fr) (AG.refl hj8.ok)) go08);have goz:=go08.trans go11;refine Vw.jr (goz.lev hl) he ⟨_,e11,by show((l+1:Nat):Int)+1=((l+1+1:Nat):Int);lia⟩ ?_;rw[Co hj.ok goz hl];exact LH hj9.ok go11 q0 q1 q2 q3 (x0.at' A1 A1) (x1.at' A1 A1) (x2.at' A1 A1) (x3.at' A1 A1) e11
theorem ok_recB{L d:Nat}{f:Addr}{fd:FuncData}(F:Fun K "reckoned" "Jumps.reckoned" CF f fd)(T:Top K mg a)(cE:BK P w K mg base CX0 d a.c_Jumps "fresh" CP (Rr a L)):AJ P w K mg base CX0 (d+1) f fd AZ (Fd a L):=by
 refine F.ok Dn (λvs H Q E h=>?_) (λcdv A outer s H vs Q E hr h=>?_)
 ·apply AT;intro G_ hG_;obtain⟨p,dx,mem,pr,g,G,Κ,N,b,r,m,n,l,e,rfl,_⟩:=h;apply hG_;clear hG_ G_;rfl
 ·apply AT;intro G_ hG_;obtain⟨p,dx,mem,pr,g,G,Κ,N,b,r,m,n,l,e,rfl,hz,fin,cl,hl,hL,he,hκ,few,k⟩:=h;have hj:=hz.jw;have sz:=hz.sz fin;apply hG_;clear hG_ G_;obtain⟨q,eq,el⟩:=id hl;have l48:=(hj.ok.lev eq).2;have e47:e<m.ds.length:=by rw[hj.me.len];lia
  obtain⟨d,ed⟩:∃d,m.ds[e]?=some d:=⟨m.ds[e]'e47,D1 _⟩
  apply AT;intro G_ hG_;obtain⟨kv,hd,dl,dk,dv⟩:=hj.me.sq e d ed;apply hG_;clear hG_ G_;refine⟨_,(Ac (Ao (i:=3) Dn.nd rfl (Or.inl rfl) (JD (FK hr) (Aj Aw (Az (pv 0) rfl) (pv 2) (λ_ _=>rfl)) (pv 1) ⟨rfl,rfl,rfl,rfl⟩)) (Ac (AN (Ax Jk (pv 3) Cz (AC _)) (Ac (Ao (i:=3) Dn.nd rfl (Or.inl rfl) (AF (pv 0) cE (rm hr) An (Aa (pv 1) (Aa (pv 2) Ab)))) (Ag (Iz (FK hr) (Aj Aw (Az (pv 0) rfl) (pv 2) (λ_ _=>rfl)) (pv 1) (pv 3) rfl))) AB) (Ag (As (pv 3))))),?_⟩
  try dsimp only[cxK]
  have ed':atI (m.ds.map V.ref) (e:Int)=some (.ref d):=Al (by rw[B9,ed];rfl);refine xwf rfl rfl hj.hp T.cl_Jumps T.na_Jumps_known_squares (VU _ _ _ _ _) (xwi rfl rfl rfl (SqL.of hj.me.l) ed' ⟨d,rfl,.inl ⟨_,.inl hd⟩,(xq1 rfl ⟨_,GS.k (k:=Sum.inl (n:Int)) hd,?_⟩)⟩);apply Ob (fun σ H1=>∃(x:Nat)(G':Gv),σ=[some (.ref p),some (.int (n:Int)),some (.int (e:Int)),some (.int (x:Int))]/\FrJ g m H H1/\JZ a H1 g G' Κ N b p dx mem pr r m/\(∃i,AG G G' i)/\JR r G' e n x/\Up (l+1) G H H1 m)
  ·intro rest;refine xq1 rfl ⟨rfl,(xq1 rfl ?_)⟩;cases ev:BB kv (Sum.inl (n:Int))with
   |some v =>
    obtain⟨x,rfl,jr⟩:=dv n v ev;exact Bb (rest _ _ ⟨x,G,rfl,λb o e _ _ _ _ _=>e,hz,⟨0,AG.refl hj.ok⟩,jr,Up.refl _ _ _ _⟩)
   |none =>
    refine BT ?_;refine xwn rfl rfl hj.hp (TL _ _ _ _ _) rfl (xq1 rfl ⟨p,dx,mem,pr,g,G,Κ,N,b,r,m,n,l,e,rfl,hz,fin,cl,hl,hL,he,hκ,few,λx G' H' i' fr hz' go jr up=>?_⟩);apply AT;intro G_ hG_;have hj':=hz'.jw;obtain⟨kv',hd',dl',dk',dv'⟩:=hj'.me.sq e d ed;apply hG_;clear hG_ G_;refine xw2 rfl rfl (xq5 hj'.hp T.cl_Jumps T.na_Jumps_known_squares (VU _ _ _ _ _) (xwi rfl rfl rfl (SqL.of hj'.me.l) ed' (xq1 rfl ⟨d,(xq1 rfl ⟨Mb.k (k:=Sum.inl (n:Int)) hd' (F6 (show kv'.length<=1000000 by lia) A3),?_⟩)⟩)));have no':=up e n l hl (C0 l) (λd2 kv2 ed2 hd2=>by rw[ed]at ed2;cases ed2;rw[hd]at hd2;cases hd2;exact ev) d kv' ed hd';obtain⟨z1,z2⟩:=hz'.put fin ed hd' no' (go.lev hl) (by rw[Co hj.ok go hl];exact hκ) jr;exact rest _ _ ⟨x,G',rfl,λb o e n1 n2 n3 n4 n5=>by rw[Ar (λz=>n5 (by rw[z];exact D4 ed))];exact fr _ _ e n1 n2 n3 n4 n5,z1,⟨i',go⟩,jr,(up.mono (T8 l)).trans z2 go⟩
  rintro σ H1 z2_;apply AT;intro G_ hG_;obtain⟨x,G',rfl,fr,hz',⟨i',go⟩,jr,up⟩:=z2_;apply hG_;clear hG_ G_;exact xq1 rfl (k x G' H1 i' fr hz' go jr up)
theorem SM{f fh ff:Addr}{fd fdh fdf:FuncData}(F:Fun K "reckoned" "Jumps.reckoned" CF f fd)(Fh:Fun K "four_halfway" "Jumps.four_halfway" AY fh fdh)(Ff:Fun K "fresh" "Jumps.fresh" BR ff fdf)(T:Top K mg a)(Me:NP K a.c_Jumps "reckoned" f)(Bi:Cu K fd AZ [])(Meh:NP K a.c_Jumps "four_halfway" fh)(Bih:Cu K fdh Br [])(Mef:NP K a.c_Jumps "fresh" ff)(Bif:Cu K fdf CP [])(a9:BK P w K mg base CX0 7 a.c_Jumps "middle_after" BM (OL a))(a6:BK P w K mg base CX0 2 a.c_Grove "linked" AQ (DV a))(aJ:Cal P w K mg base CX0 3 "nine_parts" Dv (Ms a))(aP:Cal P w K mg base CX0 1 "fours_of" ED Js)(aD:Cal P w K mg base CX0 3 "met_in_the_middle" BV (SA a)):∀L,AJ P w K mg base CX0 (10+3*L) f fd AZ (Fd a L)
 |0=>(AJ.no (k:=10)).imp λvs H Q E h=>by
  apply AT;intro G_ hG_;obtain⟨p,dx,mem,pr,g,G,Κ,N,b,r,m,n,l,e,_,_,_,_,_,hL,_⟩:=h;apply hG_;clear hG_ G_;exact absurd hL (N6 l)
 |L+1=>by
  have ih:=SM F Fh Ff T Me Bi Meh Bih Mef Bif a9 a6 aJ aP aD L;have M1:BK P w K mg base CX0 (10+3*L) a.c_Jumps "reckoned" AZ (Fd a L):=⟨⟨_,_,ih,Me,Bi⟩,T.cl_Jumps⟩
  have h2:=Vt Fh T A1 aJ aP a6 M1;have M2:BK P w K mg base CX0 (10+3*L+1) a.c_Jumps "four_halfway" Br (OP a L):=⟨⟨_,_,h2,Meh,Bih⟩,T.cl_Jumps⟩
  have h3:=ok_freA Ff T A1 a9 a6 aJ aP aD M1 M2;have M3:BK P w K mg base CX0 (10+3*L+2) a.c_Jumps "fresh" CP (Rr a (L+1)):=⟨⟨_,_,h3,Mef,Bif⟩,T.cl_Jumps⟩
  exact ok_recB F T M3
theorem TF{L d:Nat}{f:Addr}{fd:FuncData}(F:Fun K "after" "Jumps.after" Fq f fd)(T:Top K mg a)(d4:4<=d)(aU:BK P w K mg base CX0 4 a.c_Jumps "check_jump" Da (spCj a))(a8:BK P w K mg base CX0 d a.c_Jumps "reckoned" AZ (Fd a L)):AJ P w K mg base CX0 (d+1) f fd Fz (Fd a L):=by
 refine F.ok MD (λvs H Q E h=>?_) (λcdv A outer s H vs Q E hr h=>?_)
 ·apply AT;intro G_ hG_;obtain⟨p,dx,mem,pr,g,G,Κ,N,b,r,m,n,l,e,rfl,_⟩:=h;apply hG_;clear hG_ G_;rfl
 ·apply AT;intro G_ hG_;obtain⟨p,dx,mem,pr,g,G,Κ,N,b,r,m,n,l,e,rfl,hz,fin,cl,hl,hL,he,hκ,few,k⟩:=h;have hj:=hz.jw;have sz:=hz.sz fin;obtain⟨q,eq,el⟩:=id hl;apply hG_;clear hG_ G_;refine⟨_,(Ac (Cd (AF (pv 0) aU (rm hr) An (Aa (pv 1) (Aa (pv 2) Ab)))) (Ag (As (AF (pv 0) a8 (rm hr) An (Aa (pv 1) (Aa (pv 2) Ab)))))),?_⟩
  try dsimp only[cxK]
  refine xwn rfl rfl hj.hp (TM _ _ _ _ _) rfl (xq1 rfl ⟨p,dx,g.p,mem,pr,m.l,m.kc,g,G,n,e,q,rfl,hj.hp,hj.gr,eq,by rw[el];lia,?_⟩);exact xwn rfl rfl hj.hp (JH _ _ _ _ _) rfl (xq1 rfl ⟨p,dx,mem,pr,g,G,Κ,N,b,r,m,n,l,e,rfl,hz,fin,cl,hl,hL,he,hκ,few,k⟩)
end
def atN(ns:List Int)(k:Int):Int:=ns.getD k.toNat 0
section
variable{P:Program}{w:World}{K:PySem.W.Frag}{mg:Str->Option Value}{base:Heap}{a:Ad}
inductive SpAt(K:PySem.W.Frag)(vs:List V)(H:Hp)(Q:VK):Prop
 |mk (l:Addr) (ns:List Int) (k:Int) (_:vs=[.ref l,.int k]) (_:SqL K H l (ns.map V.int)) (_:0<=k) (_:Q (.int (atN ns k)) H):SpAt K vs H Q
def spAt(K:PySem.W.Frag):Sp:=λvs H Q _=>SpAt K vs H Q
theorem ok_at{f:Addr}{fd:FuncData}(F:Fun K "_law_at" "_law_at" Ll f fd)(T:Top K mg a):AJ P w K mg base CX0 1 f fd Lw (spAt K):=by
 refine F.ok Ru (λvs H Q E h=>?_) (λcdv A outer s H vs Q E hr h=>?_)
 ·obtain⟨l,ns,k,rfl,_⟩:=h;rfl
 ·obtain⟨l,ns,k,rfl,hS,h0,q⟩:=h;refine⟨_,(Ac (AN (Ax GO (pv 1) (AL BP rfl T.b_len Y8 (Aa (pv 0) Ab)) (AC _)) (Ag (As (Aj Aw (pv 0) (pv 1) (λ_ _=>rfl)))) AB) (Ag (As Ae))),?_⟩
  try dsimp only[cxK]
  refine⟨_,rfl,_,rfl,l,_,rfl,.inl hS,_,_,rfl,rfl,_,rfl,?_⟩;obtain⟨n,rfl⟩:=F9 h0;refine IM (λhc=>?_) (λhc=>?_)
  ·have hc':n<ns.length:=by
    have:=W1 hc;rw[B5]at this;lia
   refine⟨_,rfl,_,rfl,l,_,n,.int ns[n],rfl,rfl,hS,Al (by rw[B9,D1 hc'];rfl),?_⟩;have e:atN ns (n:Int)=ns[n]:=by
    unfold atN;rw[L7,F2,D1 hc'];rfl
   rw[e]at q;exact q
  ·have hc':ns.length<=n:=by
    have:¬(n:Int)<((ns.map V.int).length:Int):=λz=>hc (V1 z);rw[B5]at this;lia
   have e:atN ns (n:Int)=0:=by
    unfold atN;rw[L7,F2,T5 hc'];rfl
   rw[e]at q;exact q
end
inductive SpLaw(K:PySem.W.Frag)(vs:List V)(H:Hp)(Q:VK):Prop
 |mk (a:Addr) (ns:List Int) (_:vs=[.ref a]) (_:SqL K H a (ns.map V.int)) (_:ns.length<=63) (_:∀H',Q (.bl true) H'):SpLaw K vs H Q
def SB(K:PySem.W.Frag):Sp:=λvs H Q _=>SpLaw K vs H Q
end J
namespace J
open PySem L2
theorem Ak.uniq{G:Gv}{i:Nat}{l m:Int}(h:Ak G i l)(h2:Ak G i m):l=m:=by
 obtain⟨q,e,z⟩:=h;obtain⟨p,e2,z2⟩:=h2;rw[e]at e2;cases e2;exact z.symm.trans z2
structure GG(G:Gv)(n i:Nat)(q:Sq)(x y z w:Nat):Prop where
 g:G[i]?=some q
 ps:q.parts=[(x:Int),(y:Int),(z:Int),(w:Int)]
 lev:q.lev=(n:Int)+1
 hx:Ak G x n
 hy:Ak G y n
 hz:Ak G z n
 hw:Ak G w n
theorem BC{G:Gv}(ok:GOk G){n i:Nat}(h:Ak G i ((n+1:Nat):Int)):∃q x y z w,GG G n i q x y z w:=by
 obtain⟨q,e,el⟩:=h;have n8:8<=i:=by
  refine O8 λl8=>?_;rw[ok.leaf i l8]at e;cases e;have:(0:Int)=((n+1:Nat):Int):=el;lia
 obtain⟨x,y,z,w,ep,⟨hx,hy,hz,hw⟩,_,_⟩:=ok.node i q e n8;have en:q.lev-1=(n:Int):=by lia
 rw[en]at hx hy hz hw;exact⟨q,x,y,z,w,e,ep,by lia,hx,hy,hz,hw⟩
theorem GG.app{G G':Gv}{k n i:Nat}{q:Sq}{x y z w:Nat}(go:AG G G' k)(h:GG G n i q x y z w):GG G' n i q x y z w:=⟨go.get h.g,h.ps,h.lev,go.lev h.hx,go.lev h.hy,go.lev h.hz,go.lev h.hw⟩
def Dd(G:Gv):Nat->Nat->Int
 |0,i=>if i=0 then 0 else 1
 |n+1,i=>match G[i]? with
  |some q=>(q.parts.map λp=>Dd G n p.toNat).sum
  |none=>0
theorem IF{G:Gv}{n i:Nat}{q:Sq}{x y z w:Nat}(h:GG G n i q x y z w):Dd G (n+1) i=([x,y,z,w].map λk=>Dd G n k).sum:=by
 rw[show Dd G (n+1) i=(match G[i]? with|some q=>(q.parts.map λ(p:Int)=>Dd G n p.toNat).sum|none=>0)from rfl,h.g];show(q.parts.map λ(p:Int)=>Dd G n p.toNat).sum=_;rw[h.ps];rfl
theorem Iv{G G':Gv}{k:Nat}(ok:GOk G)(go:AG G G' k):∀(n i:Nat),Ak G i (n:Int)->Dd G' n i=Dd G n i
 |0,i,_=>rfl
 |n+1,i,h=>by
  obtain⟨q,x,y,z,w,nd⟩:=BC ok h;rw[IF nd,IF (nd.app go)];show Dd G' n x+(Dd G' n y+(Dd G' n z+(Dd G' n w+0)))=_;rw[Iv ok go n x nd.hx,Iv ok go n y nd.hy,Iv ok go n z nd.hz,Iv ok go n w nd.hw];rfl
theorem En(G:Gv):∀(n i:Nat),0<=Dd G n i
 |0,i=>by
  show 0<=if i=0 then(0:Int)else 1;split<;>lia
 |n+1,i=>by
  unfold Dd;split
  ·rename_i q _;have:∀l:List Int,0<=(l.map λp=>Dd G n p.toNat).sum:=by
    intro l;induction l with
    |nil=>exact Int.le_refl 0
    |cons p r ih=>rw[L5,Q0];have:=En G n p.toNat;lia
   exact this _
  ·exact Int.le_refl 0
theorem LI:∀(n:Nat)(l:List Nat),l.Nodup->(∀x∈l,x<n)->l.length<=n
 |0,l,_,h=>by
  cases l with
  |nil=>exact C0 0
  |cons x r=>exact absurd (h x C3) (N6 _)
 |n+1,l,nd,h=>by
  by_cases hm:n∈l
  ·have:=LI n (l.erase n) (nd.erase n) λx hx=>by
    have h1:=(nd.mem_erase_iff).mp hx;have:=h x h1.2;have:=h1.1;lia
   rw[List.length_erase_of_mem hm]at this;lia
  ·have:=LI n l nd λx hx=>by
    have:=h x hx;have:x≠n:=λz=>hm (z▸hx);lia
   lia
structure FF(G:Gv)(ks:List (Key×V)):Prop where
 nd:(ks.map Prod.fst).Nodup
 lt:∀k∈ks.map Prod.fst,∃i:Nat,i<G.length/\k=Sum.inl (i:Int)
theorem FF.len{G:Gv}{ks:List (Key×V)}(h:FF G ks):ks.length<=G.length:=by
 let f:Key->Nat:=λk=>match k with|.inl i=>i.toNat|.inr _=>0
 have:=LI G.length ((ks.map Prod.fst).map f) (by
  rw[List.nodup_iff_pairwise_ne,List.pairwise_map];refine List.Pairwise.imp_of_mem (λ{a b} ha hb hne z=>hne ?_) (List.nodup_iff_pairwise_ne.mp h.nd);obtain⟨i,_,rfl⟩:=h.lt a ha;obtain⟨j,_,rfl⟩:=h.lt b hb;have:(i:Int).toNat=(j:Int).toNat:=z;rw[L7,L7]at this;rw[this]) (λx hx=>by
  obtain⟨k,hk,rfl⟩:=D6.mp hx;obtain⟨i,hi,rfl⟩:=h.lt k hk;show(i:Int).toNat<_;rw[L7];exact hi)
 rw[B5,B5]at this;exact this
theorem FF.app{G G':Gv}{ks:List (Key×V)}(le:G.length<=G'.length)(h:FF G ks):FF G' ks:=⟨h.nd,λk hk=>by
 obtain⟨i,hi,e⟩:=h.lt k hk;exact⟨i,by lia,e⟩⟩
theorem FF.put{G:Gv}{ks:List (Key×V)}(h:FF G ks){i:Nat}(hi:i<G.length)(v:V):FF G (Eh ks (Sum.inl (i:Int)) v):=by
 unfold Eh;by_cases a:(ks.any λkv=>decide (kv.1=Sum.inl (i:Int)))=true
 ·rw[V2 a];have e:(ks.map λkv=>if kv.1=Sum.inl (i:Int)then(kv.1,v)else kv).map Prod.fst=ks.map Prod.fst:=by
   rw[R6];refine List.map_congr_left λkv _=>?_;show(if kv.1=Sum.inl (i:Int)then(kv.1,v)else kv).1=kv.1;split<;>rfl
  exact⟨by rw[e];exact h.nd,by rw[e];exact h.lt⟩
 ·rw[V0 a];refine⟨?_,λk hk=>?_⟩
  ·rw[C9,R0];refine⟨h.nd,by simp,λk hk k' hk' z=>a ?_⟩;have:k'=Sum.inl (i:Int):=by simpa using hk'
   subst this;subst z;obtain⟨kv,h1,h2⟩:=D6.mp hk;exact List.any_eq_true.mpr ⟨kv,h1,V1 h2⟩
  ·rw[C9]at hk;rcases M6.mp hk with z|z
   ·exact h.lt k z
   ·exact⟨i,hi,by simpa using z⟩
structure WI(G:Gv)(ks:List (Key×V)):Prop where
 keys:FF G ks
 leaf:∀s:Nat,s<8->∃v,BB ks (Sum.inl (s:Int))=some v
 val:∀(i:Nat) v,BB ks (Sum.inl (i:Int))=some v->∃l:Nat,Ak G i l/\v=.int (Dd G l i)
theorem WI.app{G G':Gv}{k:Nat}{ks:List (Key×V)}(ok:GOk G)(go:AG G G' k)(h:WI G ks):WI G' ks:=⟨h.keys.app (by obtain⟨r,e⟩:=go.pre;rw[e,C5];lia),h.leaf,λi v e=>by
 obtain⟨l,h1,h2⟩:=h.val i v e;exact⟨l,go.lev h1,by rw[Iv ok go l i h1];exact h2⟩⟩
theorem am0:WI G0 (amK 8) where
 keys:=⟨by decide +kernel,λk hk=>by
  obtain⟨p,hp,rfl⟩:=D6.mp hk;obtain⟨s,hs,rfl⟩:=D6.mp hp;have:=M4.mp hs;exact⟨s,by rw[RU];lia,rfl⟩⟩
 leaf:=λs hs=>by
  match s,hs with
  |0,_=>exact⟨_,rfl⟩
  |1,_=>exact⟨_,rfl⟩
  |2,_=>exact⟨_,rfl⟩
  |3,_=>exact⟨_,rfl⟩
  |4,_=>exact⟨_,rfl⟩
  |5,_=>exact⟨_,rfl⟩
  |6,_=>exact⟨_,rfl⟩
  |7,_=>exact⟨_,rfl⟩
 val:=λi v e=>by
  have hi:i<8:=by
   refine Nat.lt_of_not_le λz=>?_;rw[Rg 8 i z]at e;cases e
  refine⟨0,⟨_,Px i hi,rfl⟩,?_⟩
  match i,hi with
  |0,_=>cases e;rfl
  |1,_=>cases e;rfl
  |2,_=>cases e;rfl
  |3,_=>cases e;rfl
  |4,_=>cases e;rfl
  |5,_=>cases e;rfl
  |6,_=>cases e;rfl
  |7,_=>cases e;rfl
structure Bx where
 l:Int
 t:Int
 w:Int
 h:Int
def Bx.ns(b:Bx):List Int:=[b.l,b.t,b.w,b.h]
def shB(half:Int)(k:Nat)(b:Bx):Bx:=⟨b.l+half*((k:Int)%2),b.t+half*((k:Int)/2),b.w,b.h⟩
def Dj(half:Int):Nat->List (Option Bx)->List Bx
 |_,[]=>[]
 |k,none::r=>Dj half (k+1) r
 |k,some b::r=>shB half k b::Dj half (k+1) r
def mnL(l:List Int):Int:=l.min?.getD 0
def mxL(l:List Int):Int:=l.max?.getD 0
def MX(bs:List Bx):Bx:=⟨mnL (bs.map (·.l)),mnL (bs.map (·.t)),mxL (bs.map λb=>b.l+b.w)-mnL (bs.map (·.l)),mxL (bs.map λb=>b.t+b.h)-mnL (bs.map (·.t))⟩
def NH(half:Int)(obs:List (Option Bx)):Option Bx:=match Dj half 0 obs with
 |[]=>none
 |b::r=>some (MX (b::r))
def BF(G:Gv):Nat->Nat->Option Bx
 |0,i=>if i=0 then none else some ⟨0,0,1,1⟩
 |n+1,i=>match G[i]? with
  |some q=>NH (2^n) (q.parts.map λ(p:Int)=>BF G n p.toNat)
  |none=>none
theorem VH{l:List Int}{m:Int}(h:m∈l)(h2:∀x∈l,m<=x):m=mnL l:=by
 unfold mnL;rw[List.min?_eq_some_iff.mpr ⟨h,h2⟩];rfl
theorem VF{l:List Int}{m:Int}(h:m∈l)(h2:∀x∈l,x<=m):m=mxL l:=by
 unfold mxL;rw[List.max?_eq_some_iff.mpr ⟨h,h2⟩];rfl
theorem Ep{G:Gv}{n i:Nat}{q:Sq}{x y z w:Nat}(h:GG G n i q x y z w):BF G (n+1) i=NH (2^n) [BF G n x,BF G n y,BF G n z,BF G n w]:=by
 rw[show BF G (n+1) i=(match G[i]? with|some q=>NH (2^n) (q.parts.map λ(p:Int)=>BF G n p.toNat)|none=>none)from rfl,h.g];show NH (2^n) (q.parts.map λ(p:Int)=>BF G n p.toNat)=_;rw[h.ps];rfl
theorem FO{G G':Gv}{k:Nat}(ok:GOk G)(go:AG G G' k):∀(n i:Nat),Ak G i (n:Int)->BF G' n i=BF G n i
 |0,i,_=>rfl
 |n+1,i,h=>by
  obtain⟨q,x,y,z,w,nd⟩:=BC ok h;rw[Ep nd,Ep (nd.app go),FO ok go n x nd.hx,FO ok go n y nd.hy,FO ok go n z nd.hz,FO ok go n w nd.hw]
theorem NX{half:Int}:∀{obs:List (Option Bx)},NH half obs=none ↔ ∀o∈obs,o=none:=by
 intro obs;have g:∀(obs:List (Option Bx))(k:Nat),Dj half k obs=[] ↔ ∀o∈obs,o=none:=by
  intro obs;induction obs with
  |nil=>intro k;exact⟨λ_ o ho=>by simp at ho,λ_=>rfl⟩
  |cons o r ih =>
   intro k;cases o with
   |none =>
    rw[show Dj half k (none::r)=Dj half (k+1) r from rfl,ih (k+1)];exact⟨λh o ho=>by rcases B8.mp ho with z|z;exact z;exact h o z,λh o ho=>h o (C1 _ ho)⟩
   |some b=>exact⟨λh=>(by cases h),λh=>(by cases h (some b) C3)⟩
 rw[<-g obs 0];unfold NH;constructor
 ·intro h;split at h
  ·assumption
  ·cases h
 ·intro h;rw[h]
theorem II{G:Gv}(ok:GOk G):∀(n i:Nat),Ak G i (n:Int)->(BF G n i=none↔Dd G n i=0)
 |0,i,_=>by
  show(if i=0 then none else some (⟨0,0,1,1⟩:Bx))=none↔(if i=0 then(0:Int)else 1)=0;split
  ·exact⟨λ_=>rfl,λ_=>rfl⟩
  ·exact⟨λh=>(by cases h),λh=>A1⟩
 |n+1,i,h=>by
  obtain⟨q,x,y,z,w,nd⟩:=BC ok h;rw[Ep nd,IF nd,NX];show _↔Dd G n x+(Dd G n y+(Dd G n z+(Dd G n w+0)))=0;have ex:=II ok n x nd.hx;have ey:=II ok n y nd.hy;have ez:=II ok n z nd.hz;have ew:=II ok n w nd.hw;have nx:=En G n x;have ny:=En G n y;have nz:=En G n z;have nw:=En G n w;constructor
  ·intro h;rw[ex.mp (h _ A6),ey.mp (h _ A6),ez.mp (h _ A6),ew.mp (h _ A6)];rfl
  ·intro h o ho;simp only[B8,D3,W7]at ho;rcases ho with rfl|rfl|rfl|rfl
   ·exact ex.mpr A1
   ·exact ey.mpr A1
   ·exact ez.mpr A1
   ·exact ew.mpr A1
theorem Wa{G r:Gv}(e:G=G0++r)(j:Nat)(h:j<48):G[8+j]?=some ⟨[(bareN j:Int),(bareN j:Int),(bareN j:Int),(bareN j:Int)],(j:Int)+1⟩:=by
 rw[e];exact JM (Mn j h)
theorem Iw{G:Gv}(ok:GOk G){r:Gv}(e:G=G0++r):∀(n i:Nat),n<=48->Ak G i (n:Int)->(BF G n i=none↔i=bareN n)
 |0,i,_,_=>by
  show(if i=0 then none else some (⟨0,0,1,1⟩:Bx))=none↔i=0;split
  ·rename_i z;exact⟨λ_=>z,λ_=>rfl⟩
  ·rename_i z;exact⟨λh=>(by cases h),λh=>absurd h z⟩
 |n+1,i,hn,h=>by
  obtain⟨q,x,y,z,w,nd⟩:=BC ok h;rw[Ep nd,NX];have ex:=Iw ok e n x A1 nd.hx;have ey:=Iw ok e n y A1 nd.hy;have ez:=Iw ok e n z A1 nd.hz;have ew:=Iw ok e n w A1 nd.hw;have hb:=Wa e n A1;constructor
  ·intro h;have hx:=ex.mp (h _ A6);have hy:=ey.mp (h _ A6);have hz:=ez.mp (h _ A6);have hw:=ew.mp (h _ A6);show i=8+n;refine ok.one nd.g hb ?_;rw[nd.ps,hx,hy,hz,hw]
  ·intro h;have h:i=8+n:=h;have g:=nd.g;rw[h,hb]at g;cases g;have p:=nd.ps;have p:[(bareN n:Int),(bareN n:Int),(bareN n:Int),(bareN n:Int)]=[(x:Int),(y:Int),(z:Int),(w:Int)]:=p;injection p with p1 p
   injection p with p2 p
   injection p with p3 p
   injection p with p4 p
   intro o ho;simp only[B8,D3,W7]at ho;rcases ho with rfl|rfl|rfl|rfl
   ·exact ex.mpr (V8 p1).symm
   ·exact ey.mpr (V8 p2).symm
   ·exact ez.mpr (V8 p3).symm
   ·exact ew.mpr (V8 p4).symm
structure BxOk(G:Gv)(H:Hp)(ks:List (Key×V)):Prop where
 keys:FF G ks
 val:∀(i:Nat) v,BB ks (Sum.inl (i:Int))=some v->∃(l:Nat)(b:Bx)(t:Addr),Ak G i l/\BF G l i=some b/\v=.ref t/\H t=some (.tup (b.ns.map V.int))
structure Bn(a:Ad)(H:Hp)(g:GA)(G:Gv):Prop where
 at':AI a H g G
 ok:GOk G
 g0:∃r,G=G0++r
 br:H g.br=some (.lst ((CC 48).map V.int))
 am:∃ks,H g.am=some (.dK ks)/\WI G ks
 bx:∃ks,H g.bx=some (.dK ks)/\BxOk G H ks
 n1:g.br≠g.lv
 n2:g.br≠g.pt
 n3:g.am≠g.bx
theorem Bn.new{a:Ad}{H H':Hp}{g:GA}(h:Rl a H H' g G0 (CC 48) (amK 8)):Bn a H' g G0:=⟨h.at',g0_ok,⟨[],by simp⟩,h.br,⟨_,h.am,am0⟩,⟨_,h.bx,⟨by simp,λk hk=>by simp at hk⟩,λi v e=>by cases e⟩,h.n1,h.n2,h.n3⟩
theorem Bn.ne_am{a:Ad}{H:Hp}{g:GA}{G:Gv}(h:Bn a H g G){b:Addr}{o:HO}(e:H b=some o)(n:∀ks,o≠.dK ks):b≠g.am/\b≠g.bx:=by
 obtain⟨ks,h1,_⟩:=h.am;obtain⟨ks',h2,_⟩:=h.bx;exact⟨AD e h1 (n _),AD e h2 (n _)⟩
theorem Bn.same{a:Ad}{H H':Hp}{g:GA}{G:Gv}(s:AA H H')(h:Bn a H g G):Bn a H' g G:=by
 obtain⟨at',ok,g0,br,⟨ks,h1,h2⟩,⟨ks',h3,h4⟩,n1,n2,n3⟩:=h;refine⟨at'.same s,ok,g0,s _ _ br,⟨ks,s _ _ h1,h2⟩,⟨ks',s _ _ h3,h4.keys,λi v e=>?_⟩,n1,n2,n3⟩;obtain⟨l,b,t,e1,e2,e3,e4⟩:=h4.val i v e;exact⟨l,b,t,e1,e2,e3,s _ _ e4⟩
theorem AG.le{G G':Gv}{k:Nat}(go:AG G G' k):G.length<=G'.length:=by
 obtain⟨r,e⟩:=go.pre;rw[e,C5];lia
theorem Bn.fr{a:Ad}{H H':Hp}{g:GA}{G G':Gv}{m:Nat}(h:Bn a H g G)(f:Fr g H H')(at2:AI a H' g G')(go:AG G G' m):Bn a H' g G':=by
 obtain⟨at',ok,⟨r,g0⟩,br,⟨ks,h1,h2⟩,⟨ks',h3,h4⟩,n1,n2,n3⟩:=h;obtain⟨us,hp,_⟩:=at'.pt;have keep:∀{b:Addr}{o:HO},H b=some o->(∀l,o≠.lst l)->(∀l,o≠.dT l)->H' b=some o:=λ{b o} e z1 z2=>f _ _ e (AD e at'.lv (z1 _)) (AD e hp (z1 _)) (AD e at'.nm (z2 _));obtain⟨t,et⟩:=go.pre;refine⟨at2,go.ok,⟨r++t,by rw[et,g0,P4]⟩,f _ _ br n1 n2 (AD br at'.nm A4),⟨ks,keep h1 (by intro l z;cases z) (by intro l z;cases z),h2.app ok go⟩,⟨ks',keep h3 (by intro l z;cases z) (by intro l z;cases z),h4.keys.app go.le,λi v e=>?_⟩,n1,n2,n3⟩;obtain⟨l,b,t,e1,e2,e3,e4⟩:=h4.val i v e;exact⟨l,b,t,go.lev e1,by rw[FO ok go l i e1];exact e2,e3,keep e4 (by intro l z;cases z) (by intro l z;cases z)⟩
theorem Bn.put{a:Ad}{H:Hp}{g:GA}{G:Gv}{l:Addr}{xs:List V}{o:HO}(h:Bn a H g G)(hl:H l=some (.lst xs))(m1:l≠g.lv)(m2:l≠g.pt)(m3:l≠g.br):Bn a (upd H l o) g G:=by
 obtain⟨at',ok,g0,br,⟨ks,h1,h2⟩,⟨ks',h3,h4⟩,n1,n2,n3⟩:=h;have other:∀{b v},H b=some v->v≠.lst xs->upd H l o b=some v:=λ{b v} e n=>by rw[Ar (AD e hl n)];exact e
 refine⟨at'.put hl m1 m2,ok,g0,by rw[Ar (V5 m3)];exact br,⟨ks,other h1 A4,h2⟩,⟨ks',other h3 A4,h4.keys,λi v e=>?_⟩,n1,n2,n3⟩;obtain⟨l,b,t,e1,e2,e3,e4⟩:=h4.val i v e;exact⟨l,b,t,e1,e2,e3,other e4 A4⟩
def FrQ(g:GA)(H H':Hp):Prop:=∀b o,H b=some o->b≠g.am->b≠g.bx->H' b=some o
theorem FrQ.refl(g:GA)(H:Hp):FrQ g H H:=λ_ _ e _ _=>e
theorem FrQ.trans{g:GA}{H1 H2 H3:Hp}(h:FrQ g H1 H2)(h2:FrQ g H2 H3):FrQ g H1 H3:=λb o e n1 n2=>h2 b o (h b o e n1 n2) n1 n2
theorem AA.frq{g:GA}{H1 H2:Hp}(h:AA H1 H2):FrQ g H1 H2:=λb o e _ _=>h b o e
theorem AI.dict{a:Ad}{H:Hp}{g:GA}{G:Gv}{d:Addr}{ks:List (Key×V)}{o:HO}(hd:H d=some (.dK ks))(h:AI a H g G):AI a (upd H d o) g G:=by
 obtain⟨h1,h2,⟨ts,h3,h4⟩,h5,h6⟩:=h;have other:∀{b v},H b=some v->v≠.dK ks->upd H d o b=some v:=λ{b v} e n=>by rw[Ar (AD e hd n)];exact e
 exact⟨other h1 A4,other h2 A4,⟨ts,other h3 A4,PairedM.imp (λt q z=>other z A4) h4⟩,other h5 A4,h6⟩
theorem Bn.bx_put{a:Ad}{H:Hp}{g:GA}{G:Gv}{ks ks2:List (Key×V)}(h:Bn a H g G)(e:H g.bx=some (.dK ks))(h2:BxOk G H ks2):Bn a (upd H g.bx (.dK ks2)) g G/\FrQ g H (upd H g.bx (.dK ks2)):=by
 obtain⟨at',ok,g0,br,⟨ks',h3,h4⟩,⟨_,_,_⟩,n1,n2,n3⟩:=h;have other:∀{b v},H b=some v->v≠.dK ks->upd H g.bx (.dK ks2) b=some v:=λ{b v} e' n=>by rw[Ar (AD e' e n)];exact e'
 refine⟨⟨at'.dict e,ok,g0,other br A4,⟨ks',by rw[Ar n3];exact h3,h4⟩,⟨_,Af,h2.keys,λi v e=>?_⟩,n1,n2,n3⟩,λb o e' _ m1=>by rw[Ar m1];exact e'⟩;obtain⟨l,b,t,e1,e2,e3,e4⟩:=h2.val i v e;exact⟨l,b,t,e1,e2,e3,other e4 A4⟩
theorem QA(g:GA):(fl6 g).lookup ("boxed" : Str)=none:=GC g A0 A0 A0 A0 A0 A0
theorem Qy(g:GA):(fl6 g).lookup ("measured" : Str)=none:=GC g A0 A0 A0 A0 A0 A0
theorem no_span(g:GA):(fl6 g).lookup ("span" : Str)=none:=GC g A0 A0 A0 A0 A0 A0
theorem GG.mem{G:Gv}{n i:Nat}{q:Sq}{x y z w:Nat}(h:GG G n i q x y z w){j:Nat}{v:V}(e:(q.parts.map V.int)[j]?=some v):∃k:Nat,v=.int k/\Ak G k n/\q.parts[j]?=some (k:Int):=by
 rw[B9]at e;obtain⟨p,hp,rfl⟩:=D5.mp e;have hm:=D4 hp;rw[h.ps]at hm;simp only[B8,D3,W7]at hm;rcases hm with rfl|rfl|rfl|rfl
 ·exact⟨x,rfl,h.hx,hp⟩
 ·exact⟨y,rfl,h.hy,hp⟩
 ·exact⟨z,rfl,h.hz,hp⟩
 ·exact⟨w,rfl,h.hw,hp⟩
section
variable{P:Program}{w:World}{K:PySem.W.Frag}{mg:Str->Option Value}{base:Heap}{a:Ad}
end
seal L2.PA L2.PE L2.PS L2.PSs L2.PT L2.PW
theorem Nb(half:Int):∀(l r:List (Option Bx))(k:Nat),Dj half k (l++r)=Dj half k l++Dj half (k+l.length) r
 |[],r,k=>rfl
 |none::l,r,k=>by
  show Dj half (k+1) (l++r)=Dj half (k+1) l++Dj half (k+(l.length+1)) r;rw[Nb half l r (k+1),show k+1+l.length=k+(l.length+1) by lia]
 |some b::l,r,k=>by
  show shB half k b::Dj half (k+1) (l++r)=shB half k b::(Dj half (k+1) l++Dj half (k+(l.length+1)) r);rw[Nb half l r (k+1),show k+1+l.length=k+(l.length+1) by lia]
theorem JN(half:Int):∀(l:List (Option Bx))(k:Nat),(Dj half k l).length<=l.length
 |[],k=>C0 _
 |none::l,k=>C8 (JN half l (k+1)) (T8 _)
 |some b::l,k=>P5 (JN half l (k+1))
theorem PairedM.getL{α β:Type}{F:α->β->Prop}:∀{l:List α}{m:List β}{i:Nat}{x:α},Paired F l m->l[i]?=some x->∃y,m[i]?=some y/\F x y
 |_,_,_,_,.nil,e=>by simp at e
 |_,_,0,_,.cons r _,e=>by simp at e;subst e;exact⟨_,rfl,r⟩
 |_,_,i+1,x,.cons _ t,e=>by
  obtain⟨y,h1,h2⟩:=PairedM.getL (i:=i) (x:=x) t (by simpa using e);exact⟨y,by simpa using h1,h2⟩
def LN(H:Hp)(t:Addr)(b:Bx):Prop:=H t=some (.tup (b.ns.map V.int))
theorem Mp{β:Type}{K:PySem.W.Frag}{k:Nat}{cs:List Nat}{g:TG}{tc:TT}{te:TE}{σ:St}{H:Hp}{fin:List V->Hp->Prop}{D:Addr->β->Prop}{L:Addr}{ts:List Addr}{bs:List β}(col:β->Int)(hL:H L=some (.lst (ts.map V.ref)))(pr:Paired D ts bs)(few:ts.length<1000)
  (hs:∀t b acc N,D t b->acc.length<sizeLine->N (acc++[.int (col b)]) H->Bt k cs g tc te σ (.ref t) acc H N) (hd:fin ((bs.map col).map V.int) H):Fb k cs g tc te (Itl K L) σ H fin:=by
 have ln:ts.length=bs.length:=W8 pr;refine DT (xs:=ts.map V.ref) (λj acc H2=>H=H2/\acc=((bs.take j).map col).map V.int) ⟨rfl,rfl⟩ (λj acc H2 _ z=>z.1▸SqL.of hL) ?_ ?_
 ·rintro j v acc H2 ev ⟨rfl,rfl⟩;rw[B9]at ev;obtain⟨t,et,rfl⟩:=D5.mp ev;obtain⟨b,eb,d⟩:=PairedM.getL pr et;refine hs t b _ _ d (by rw[B5,B5,J9];exact IT A1) ⟨rfl,?_⟩;rw[F8,eb,C9,C9];rfl
 ·rintro acc H2 ⟨rfl,rfl⟩;rw[B5,ln,L6];exact hd
section
variable{P:Program}{w:World}{K:PySem.W.Frag}{mg:Str->Option Value}{base:Heap}{a:Ad}
inductive Te(vs:List V)(H:Hp)(Q:VK):Prop
 |mk (t:Addr) (b:Bx) (dx dy:Int) (_:vs=[.ref t,.int dx,.int dy]) (_:LN H t b) (_:∀t',H t'=none->Q (.ref t') (upd H t' (.tup [.int (b.l+dx),.int (b.t+dy),.int b.w,.int b.h]))):Te vs H Q
def Jr:Sp:=λvs H Q _=>Te vs H Q
theorem Vm{f:Addr}{fd:FuncData}(F:Fun K "shifted_box" "shifted_box" Fl f fd)(T:Top K mg a):AJ P w K mg base CX0 1 f fd CN Jr:=by
 refine F.ok Mv (λvs H Q E h=>?_) (λcdv A outer s H vs Q E hr h=>?_)
 ·obtain⟨t,b,dx,dy,rfl,_⟩:=h;rfl
 ·obtain⟨t,b,dx,dy,rfl,ht,k⟩:=h;have ht:H t=some (.tup [.int b.l,.int b.t,.int b.w,.int b.h]):=ht;refine⟨_,(Ag (As (BX (Bl Bw (Aj Am (pv 0) Ae (λ_ _=>rfl)) (pv 1) (Bl Bw (Aj Am (pv 0) Ae (λ_ _=>rfl)) (pv 2) (Aa (Aj Am (pv 0) Ae (λ_ _=>rfl)) (Aa (Aj Am (pv 0) Ae (λ_ _=>rfl)) Ab))))))),?_⟩
  try dsimp only[cxK]
  refine xwi rfl rfl rfl (SqT.of ht) (Al (j:=0) rfl) (xwb rfl rfl rfl (xwi rfl rfl rfl (SqT.of ht) (Al (j:=1) rfl) (xwb rfl rfl rfl (xwi rfl rfl rfl (SqT.of ht) (Al (j:=2) rfl) (xwi rfl rfl rfl (SqT.of ht) (Al (j:=3) rfl) ⟨(by show 4<=sizeLine;decide),λt' n=>k t' n⟩)))))
inductive Ti(vs:List V)(H:Hp)(Q:VK):Prop
 |mk (L:Addr) (ts:List Addr) (bs:List Bx) (_:vs=[.ref L]) (_:H L=some (.lst (ts.map V.ref))) (_:Paired (LN H) ts bs) (_:bs≠[]) (_:ts.length<1000) (_:∀t' H',AA H H'->LN H' t' (MX bs)->Q (.ref t') H'):Ti vs H Q
def Md:Sp:=λvs H Q _=>Ti vs H Q
theorem Vr{f:Addr}{fd:FuncData}(F:Fun K "least_box" "least_box" Cv f fd)(T:Top K mg a):AJ P w K mg base CX0 1 f fd EX Md:=by
 refine F.ok Dl (λvs H Q E h=>?_) (λcdv A outer s H vs Q E hr h=>?_)
 ·obtain⟨L,ts,bs,rfl,_⟩:=h;rfl
 ·obtain⟨L,ts,bs,rfl,hL,pr,ne,few,k⟩:=h;have nem:∀col:Bx->Int,bs.map col≠[]:=λcol z=>ne (P8.mp z);refine⟨_,(Ac (Ao (i:=1) Dl.nd rfl (Or.inl rfl) (AL (Ou rfl) rfl T.b_min A0a (Aa (CH rfl (BD.of (So:=Ah Cv) (No:=DS) (N:=["box"]) (k:=1) (cs:=[]) rfl rfl A0) (Cs (pv 0)) (λ_ _ _=>(Bk (i:=0) A0 rfl rfl)) (λ_ _ _=>BL) (λ_ _ _=>(Aj (IE (K:=K) rfl) (pv 0) Ae (λ_ _=>rfl)))) Ab))) (Ac (Ao (i:=2) Dl.nd rfl (Or.inl rfl) (AL (Ou rfl) rfl T.b_min A0a (Aa (CH rfl (BD.of (So:=Ah Cv) (No:=DS) (N:=["box"]) (k:=1) (cs:=[]) rfl rfl A0) (Cs (pv 0)) (λ_ _ _=>(Bk (i:=0) A0 rfl rfl)) (λ_ _ _=>BL) (λ_ _ _=>(Aj (IE (K:=K) rfl) (pv 0) Ae (λ_ _=>rfl)))) Ab))) (Ac (Ao (i:=3) Dl.nd rfl (Or.inl rfl) (AL (Ov rfl) rfl T.b_max PyProof.Rows.boot_max (Aa (CH rfl (BD.of (So:=Ah Cv) (No:=DS) (N:=["box"]) (k:=1) (cs:=[]) rfl rfl A0) (Cs (pv 0)) (λ_ _ _=>(Bk (i:=0) A0 rfl rfl)) (λ_ _ _=>BL) (λ_ _ _=>(AK Bw (Aj (IE (K:=K) rfl) (pv 0) Ae (λ_ _=>rfl)) (Aj (IE (K:=K) rfl) (pv 0) Ae (λ_ _=>rfl))))) Ab))) (Ac (Ao (i:=4) Dl.nd rfl (Or.inl rfl) (AL (Ov rfl) rfl T.b_max PyProof.Rows.boot_max (Aa (CH rfl (BD.of (So:=Ah Cv) (No:=DS) (N:=["box"]) (k:=1) (cs:=[]) rfl rfl A0) (Cs (pv 0)) (λ_ _ _=>(Bk (i:=0) A0 rfl rfl)) (λ_ _ _=>BL) (λ_ _ _=>(AK Bw (Aj (IE (K:=K) rfl) (pv 0) Ae (λ_ _=>rfl)) (Aj (IE (K:=K) rfl) (pv 0) Ae (λ_ _=>rfl))))) Ab))) (Ag (As (BX (Aa (pv 1) (Aa (pv 2) (Bl Bf (pv 3) (pv 1) (Bl Bf (pv 4) (pv 2) Ab))))))))))),?_⟩
  try dsimp only[cxK]
  refine xq1 rfl ⟨L,rfl,⟨_,SqL.of hL⟩,Mp (·.l) hL pr few (λt b acc N d la nx=>⟨⟨[some (.ref t)],rfl,rfl⟩,la,GV (xwi rfl rfl rfl (SqT.of d) (Al (j:=0) rfl) nx)⟩) λq1 h1=>?_⟩;refine⟨q1,(xq1 rfl ⟨SqL.of Af,nem _,λm1 hm1 hn1=>?_⟩)⟩;obtain rfl:=VH hm1 hn1;have s1:=Ay (o:=.lst ((bs.map (·.l)).map V.int)) h1;generalize upd H q1 (.lst ((bs.map (·.l)).map V.int))=H1 at s1⊢;have hL1:=s1 _ _ hL;have pr1:Paired (LN H1) ts bs:=PairedM.imp (λt b z=>s1 _ _ z) pr;refine xq1 rfl ⟨L,rfl,⟨_,SqL.of hL1⟩,Mp (·.t) hL1 pr1 few (λt b acc N d la nx=>⟨⟨[some (.ref t)],rfl,rfl⟩,la,GV (xwi rfl rfl rfl (SqT.of d) (Al (j:=1) rfl) nx)⟩) λq2 h2=>?_⟩;refine⟨q2,(xq1 rfl ⟨SqL.of Af,nem _,λm2 hm2 hn2=>?_⟩)⟩;obtain rfl:=VH hm2 hn2;have s2:=s1.trans (Ay (o:=.lst ((bs.map (·.t)).map V.int)) h2);generalize upd H1 q2 (.lst ((bs.map (·.t)).map V.int))=H2 at s2⊢;have hL2:=s2 _ _ hL;have pr2:Paired (LN H2) ts bs:=PairedM.imp (λt b z=>s2 _ _ z) pr;refine xq1 rfl ⟨L,rfl,⟨_,SqL.of hL2⟩,Mp (λb=>b.l+b.w) hL2 pr2 few (λt b acc N d la nx=>⟨⟨[some (.ref t)],rfl,rfl⟩,la,GV (xwi rfl rfl rfl (SqT.of d) (Al (j:=0) rfl) (xwi rfl rfl rfl (SqT.of d) (Al (j:=2) rfl) (xq2 rfl rfl nx)))⟩) λq3 h3=>?_⟩;refine⟨q3,(xq1 rfl ⟨SqL.of Af,nem _,λm3 hm3 hn3=>?_⟩)⟩;obtain rfl:=VF hm3 hn3;have s3:=s2.trans (Ay (o:=.lst ((bs.map λb=>b.l+b.w).map V.int)) h3);generalize upd H2 q3 (.lst ((bs.map λb=>b.l+b.w).map V.int))=H3 at s3⊢;have hL3:=s3 _ _ hL;have pr3:Paired (LN H3) ts bs:=PairedM.imp (λt b z=>s3 _ _ z) pr;refine xq1 rfl ⟨L,rfl,⟨_,SqL.of hL3⟩,Mp (λb=>b.t+b.h) hL3 pr3 few (λt b acc N d la nx=>⟨⟨[some (.ref t)],rfl,rfl⟩,la,GV (xwi rfl rfl rfl (SqT.of d) (Al (j:=1) rfl) (xwi rfl rfl rfl (SqT.of d) (Al (j:=3) rfl) (xq2 rfl rfl nx)))⟩) λq4 h4=>?_⟩;refine⟨q4,(xq1 rfl ⟨SqL.of Af,nem _,λm4 hm4 hn4=>?_⟩)⟩;obtain rfl:=VF hm4 hn4;have s4:=s3.trans (Ay (o:=.lst ((bs.map λb=>b.t+b.h).map V.int)) h4);generalize upd H3 q4 (.lst ((bs.map λb=>b.t+b.h).map V.int))=H4 at s4⊢;exact xw3 rfl rfl rfl (xwb rfl rfl rfl (xw2 rfl rfl (xq2 rfl rfl ⟨(by show 4<=sizeLine;decide),λt5 h5=>k t5 _ (s4.trans (Ay h5)) Af⟩)))
inductive SpBox(a:Ad)(n:Nat)(vs:List V)(H:Hp)(Q:VK):Prop
 |mk (g:GA) (G:Gv) (i l:Nat) (_:vs=[.ref g.p,.int i]) (_:Bn a H g G) (_:Ak G i l) (_:l<n) (_:G.length<9000000) (_:(BF G l i=none->∀H',FrQ g H H'->Bn a H' g G->Q .non H')) (_:∀b,BF G l i=some b->∀t H',FrQ g H H'->Bn a H' g G->LN H' t b->Q (.ref t) H'):SpBox a n vs H Q
def Qh(a:Ad)(n:Nat):Sp:=λvs H Q _=>SpBox a n vs H Q
inductive SpMea(a:Ad)(n:Nat)(vs:List V)(H:Hp)(Q:VK):Prop
 |mk (g:GA) (G:Gv) (i l:Nat) (b:Bx) (_:vs=[.ref g.p,.int i]) (_:Bn a H g G) (_:Ak G i l) (_:l<n) (_:G.length<9000000) (_:BF G l i=some b) (_:∀t H',FrQ g H H'->Bn a H' g G->LN H' t b->Q (.ref t) H'):SpMea a n vs H Q
def spMea(a:Ad)(n:Nat):Sp:=λvs H Q _=>SpMea a n vs H Q
theorem OF(m:Nat){l:Int}(e:l=(m:Int)+1):(1:Int)*2^(l-1).toNat=2^m:=by
 rw[e,Int.one_mul,show((m:Int)+1-1).toNat=m by lia]
theorem ok_mea{n d:Nat}{f:Addr}{fd:FuncData}(F:Fun K "measured" "Grove.measured" CG f fd)(T:Top K mg a)(hd:1<=d)(aG:Cal P w K mg base CX0 1 "shifted_box" CN Jr)(aV:Cal P w K mg base CX0 1 "least_box" EX Md)(aT:BK P w K mg base CX0 d a.c_Grove "boxed" Cm (Qh a n)):AJ P w K mg base CX0 (d+1) f fd CI (spMea a (n+1)):=by
 refine F.ok Bd (λvs H Q E h=>?_) (λcdv A outer s H vs Q E hr h=>?_)
 ·obtain⟨g,G,i,l,b,rfl,_⟩:=h;rfl
 ·obtain⟨g,G,i,l,b,rfl,fu,hl,ln,few,eb,k⟩:=h;obtain⟨q0,e0,l0⟩:=id hl;refine⟨_,(Ac (Ao (i:=2) Bd.nd rfl (Or.inl rfl) (Aj Aw (Az (pv 0) rfl) (pv 1) (λ_ _=>rfl))) (Ac (AN (Ax CQ (pv 2) Ae (AC _)) (Ag (As (BX (Bh (Bh (Bh (Bh Ab))))))) AB) (Ac (Ao (i:=3) Bd.nd rfl (Or.inl rfl) (AK Lx Ae (AK Bf (pv 2) Ae))) (Ac (Ao (i:=4) Bd.nd rfl (Or.inl rfl) (CA Ab)) (Ac (Fu W2 rfl (Mi true rfl T.b_enumerate (Aa (Aj Aw (Az (pv 0) rfl) (pv 1) (λ_ _=>rfl)) Ab)) (MJ rfl (CM (Ce (i:=5) Bd.nd rfl (Or.inl rfl)) (CM (Ce (i:=6) Bd.nd rfl (Or.inl rfl)) JB))) (Ac (Ao (i:=7) Bd.nd rfl (Or.inl rfl) (AF (pv 0) aT (rm hr) An (Aa (pv 6) Ab))) (Ag (AN (Ax Pd (pv 7) Cz (AC _)) (Ag (Cd (GM W3 W5 W6 Dg (pv 4) (Aa (Aq aG (rm hr) rfl An (Aa (pv 7) (Bl Jj (pv 3) (AK Cg (pv 5) Ae) (Bl Jj (pv 3) (AK IC (pv 5) Ae) Ab)))) Ab)))) AB)))) (Ag (As (Aq aV (rm hr) rfl An (Aa (pv 4) Ab))))))))),?_⟩
  try dsimp only[cxK]
  refine⟨_,rfl,g.p,_,g.dx,_,_,rfl,fu.at'.hp,T.cl_Grove,T.na_Grove_levels,EK g,_,rfl,g.lv,_,(i:Int),.int q0.lev,rfl,rfl,SqL.of fu.at'.lv,Al (by rw[B9,e0];rfl),?_⟩;cases l with
  |zero =>
   rw[l0];refine xq1 rfl ⟨rfl,(xq1 rfl (BT ⟨(by show 4<=sizeLine;decide),λt ht=>?_⟩))⟩;have e:b=⟨0,0,1,1⟩:=by
    have eb:(if i=0 then none else some (⟨0,0,1,1⟩:Bx))=some b:=eb;split at eb
    ·cases eb
    ·cases eb;rfl
   subst e;have sm:=Ay (o:=.tup [.int 0,.int 0,.int 1,.int 1]) ht;exact k t _ (AA.frq sm) (fu.same sm) Af
  |succ m =>
   have l0':q0.lev=(m:Int)+1:=by rw[l0];lia
   refine xq1 rfl ⟨rfl,(xq1 rfl ?_)⟩;rw[V3 (by intro z;injection z with z;lia)];obtain⟨q,x,y,z,w,nd⟩:=BC fu.ok hl;obtain⟨ts,h3,h4⟩:=fu.at'.pt;obtain⟨t,et,ht⟩:=PairedM.get h4 nd.g;have ht:H t=some (.tup (q.parts.map V.int)):=ht;have nt:=fu.ne_am ht (by intro l z;cases z);refine Bb (xwb rfl rfl rfl (xq2 rfl rfl ⟨⟨by lia,by have:=(fu.ok.lev e0).2;lia,by decide⟩,?_⟩));rw[show(λ(i j:Int)=>V.int (i*2^j.toNat)) 1 (q0.lev-1)=V.int (2^m)from W0 V.int (OF m l0')];refine⟨(by show 0<=sizeLine;decide),λL hL=>?_⟩;have m1:L≠g.lv:=V5 (Av fu.at'.lv hL);have m2:L≠g.pt:=V5 (Av h3 hL);have m3:L≠g.br:=V5 (Av fu.br hL);have s1:=Ay (o:=.lst []) hL;have hL1:upd H L (.lst []) L=some (.lst []):=Af;generalize upd H L (.lst [])=H1 at s1 hL1⊢;have fu1:=fu.same s1;have h31:=s1 _ _ h3;have ht1:=s1 _ _ ht;generalize hobs:[BF G m x,BF G m y,BF G m z,BF G m w]=obs;have lobs:obs.length=4:=by rw[<-hobs];rfl
   have eobs:BF G (m+1) i=NH (2^m) obs:=by rw[Ep nd,hobs]
   have gobs:∀(j k:Nat),q.parts[j]?=some (k:Int)->obs[j]?=some (BF G m k):=by
    intro j k e;rw[nd.ps]at e;rw[<-hobs]
    match j,e with
    |0,e=>have e:some (x:Int)=some (k:Int):=e;rw[show x=k from V8 (V4 e)];rfl
    |1,e=>have e:some (y:Int)=some (k:Int):=e;rw[show y=k from V8 (V4 e)];rfl
    |2,e=>have e:some (z:Int)=some (k:Int):=e;rw[show z=k from V8 (V4 e)];rfl
    |3,e=>have e:some (w:Int)=some (k:Int):=e;rw[show w=k from V8 (V4 e)];rfl
    |j+4,e=>simp at e
   refine xwf rfl rfl fu1.at'.hp T.cl_Grove T.na_Grove_parts (Ci g) (xwi rfl rfl rfl (SqL.of h31) (Al (by rw[B9,et];rfl)) ⟨t,rfl,⟨_,SqT.of ht1⟩,?_⟩);refine JP (b:=true) (xs:=q.parts.map V.int) (λj σ H2=>∃(us:List Addr)(u5 u6 u7:Option V),σ=[some (.ref g.p),some (.int i),some (.int q0.lev),some (.int (2^m)),some (.ref L),u5,u6,u7]/\FrQ g H H2/\Bn a H2 g G/\H2 L=some (.lst (us.map V.ref))/\Paired (LN H2) us (Dj (2^m) 0 (obs.take j))) ⟨[],none,none,none,rfl,AA.frq s1,fu1,hL1,.nil⟩ (λj σ H2 _ ⟨_,_,_,_,_,fr,_⟩=>SqT.of (fr _ _ ht nt.1 nt.2)) ?_ ?_
   ·rintro j v σ H2 T' ev ⟨us,u5,u6,u7,rfl,fr,fu2,hL2,pr⟩ nT;obtain⟨k',rfl,hk,ek⟩:=nd.mem ev;have eo:=gobs j k' ek;have hj:j<4:=by rw[<-lobs];exact(B6.mp eo).1
    have lu:us.length<=4:=by
     rw[W8 pr];have:=JN (2^m) (obs.take j) 0;rw[J9]at this;lia
    have s2:=Ay (o:=.tup [.int j,.int k']) nT;refine QP Af ?_;generalize upd H2 T' (.tup [.int j,.int k'])=H3 at s2⊢;have fu3:=fu2.same s2;have ge:Dj (2^m) 0 (obs.take (j+1))=Dj (2^m) 0 (obs.take j)++Dj (2^m) j [BF G m k']:=by
     rw[F8,eo,Q7,Nb,J9,lobs,N2,Nat.min_eq_left A1]
    have nL:∀{H4:Hp},FrQ g H3 H4->H4 L=some (.lst (us.map V.ref)):=λ{H4} f4=>by
     have:=s2 _ _ hL2;have n:=fu3.ne_am this (by intro l z;cases z);exact f4 _ _ this n.1 n.2
    have nP:∀{H4:Hp},FrQ g H3 H4->Paired (LN H4) us (Dj (2^m) 0 (obs.take j)):=λ{H4} f4=>PairedM.imp (λt b z=>by
     have:=s2 _ _ z;have n:=fu3.ne_am this (by intro l z;cases z);exact f4 _ _ this n.1 n.2) pr
    refine xq1 rfl ⟨g.p,g.dx,(xq1 rfl ⟨fu3.at'.hp,QA g,(xq1 rfl ⟨g,G,k',m,rfl,fu3,hk,by lia,few,λen H4 f4 fu4=>?_,λb' eb' t4 H4 f4 fu4 ht4=>?_⟩)⟩)⟩
    ·refine xq1 rfl ⟨rfl,(xq1 rfl (Bb ⟨us,_,_,_,rfl,(fr.trans (AA.frq s2)).trans f4,fu4,nL f4,?_⟩))⟩;rw[ge,en];show Paired _ us (_++[]);rw[List.append_nil];exact nP f4
    ·refine xq1 rfl ⟨rfl,(xq1 rfl (BT ?_))⟩;refine xq1 rfl ⟨.inl ⟨rfl,_,SqL.of (nL f4)⟩,(xw3 rfl rfl rfl (xq2 rfl rfl ⟨B1,(xq2 rfl rfl ⟨.inr ⟨by lia,by lia⟩,(xw2 rfl rfl (xq2 rfl rfl ⟨⟨by decide,by decide⟩,(xq2 rfl rfl ⟨.inr ⟨by lia,by lia⟩,?_⟩)⟩))⟩)⟩))⟩;refine⟨t4,b',_,_,rfl,ht4,λt5 h5=>?_⟩;have s5:=Ay (o:=.tup [.int (b'.l+2^m*((j:Int)%2)),.int (b'.t+2^m*((j:Int)/2)),.int b'.w,.int b'.h]) h5;have ht5:LN (upd H4 t5 (.tup [.int (b'.l+2^m*((j:Int)%2)),.int (b'.t+2^m*((j:Int)/2)),.int b'.w,.int b'.h])) t5 (shB (2^m) j b'):=Af;generalize upd H4 t5 (.tup [.int (b'.l+2^m*((j:Int)%2)),.int (b'.t+2^m*((j:Int)/2)),.int b'.w,.int b'.h])=H5 at s5 ht5⊢;have hL5:=s5 _ _ (nL f4);have fu5:=fu4.same s5;refine⟨L,(xq2 rfl rfl ⟨hL5,by rw[B5];exact IT A1,?_⟩)⟩;have other:∀{c:Addr}{l:List V},H5 c=some (.tup l)->upd H5 L (.lst (us.map V.ref++[.ref t5])) c=some (.tup l):=λ{c l} e=>by rw[Ar (AD e hL5 A4)];exact e
     refine⟨us++[t5],_,_,_,rfl,?_,fu5.put hL5 m1 m2 m3,by rw[Af,C9];rfl,?_⟩
     ·intro c o e n1 n2;have e5:=s5 _ _ (((fr.trans (AA.frq s2)).trans f4) _ _ e n1 n2);rw[Ar (Av e hL)];exact e5
     ·rw[ge,eb'];exact X4 (PairedM.imp (λc b z=>other (s5 _ _ z)) (nP f4)) (other ht5)
   ·rintro σ H2 ⟨us,u5,u6,u7,rfl,fr,fu2,hL2,pr⟩;rw[B5,show q.parts.length=obs.length by rw[nd.ps,lobs];rfl,L6]at pr;have eb2:NH (2^m) obs=some b:=by rw[<-eobs];exact eb
    have lu:us.length<=4:=by
     rw[W8 pr];have:=JN (2^m) obs 0;lia
    have e3:Dj (2^m) 0 obs≠[]/\MX (Dj (2^m) 0 obs)=b:=by
     unfold NH at eb2;split at eb2
     ·cases eb2
     ·rename_i b1 r1 eg;rw[eg];exact⟨A4,V4 eb2⟩
    refine xq1 rfl ⟨L,us,_,rfl,hL2,pr,e3.1,by lia,λt' H' s' ht'=>?_⟩;rw[e3.2]at ht';exact k t' H' (fr.trans (AA.frq s')) (fu2.same s') ht'
theorem Wn{l:Nat}(h:l<=48):((CC 48).map V.int)[l]?=some (.int (bareN l:Int)):=by
 unfold CC;rw[B9,B9,P9 A1];rfl
theorem ok_boxS{n d:Nat}{f:Addr}{fd:FuncData}(F:Fun K "boxed" "Grove.boxed" DN f fd)(T:Top K mg a)(bX:BK P w K mg base CX0 d a.c_Grove "measured" CI (spMea a n)):AJ P w K mg base CX0 (d+1) f fd Cm (Qh a n):=by
 refine F.ok Dp (λvs H Q E h=>?_) (λcdv A outer s H vs Q E hr h=>?_)
 ·obtain⟨g,G,i,l,rfl,_⟩:=h;rfl
 ·obtain⟨g,G,i,l,rfl,fu,hl,ln,few,k1,k2⟩:=h;obtain⟨q0,e0,l0⟩:=id hl;have l48:l<=48:=by have:=(fu.ok.lev e0).2;lia
  obtain⟨ks,hbx,bok⟩:=fu.bx;have lk:=bok.keys.len;obtain⟨r,eg⟩:=fu.g0;have bb:=Iw fu.ok eg l i l48 hl;refine⟨_,(Ac (AN (Ax CQ (pv 1) (Aj Aw (Az (pv 0) rfl) (Aj Aw (Az (pv 0) rfl) (pv 1) (λ_ _=>rfl)) (λ_ _=>rfl)) (AC _)) (Ag (As Cz)) AB) (Ac (Ao (i:=2) Dp.nd rfl (Or.inl rfl) (JD (FK hr) (Az (pv 0) rfl) (pv 1) ⟨rfl,rfl,rfl,rfl⟩)) (Ac (AN (Ax Jk (pv 2) Cz (AC _)) (Ac (Ao (i:=2) Dp.nd rfl (Or.inl rfl) (AF (pv 0) bX (rm hr) An (Aa (pv 1) Ab))) (Ag (Iz (FK hr) (Az (pv 0) rfl) (pv 1) (pv 2) rfl))) AB) (Ag (As (pv 2)))))),?_⟩
  try dsimp only[cxK]
  refine xw2 rfl rfl (xq5 fu.at'.hp T.cl_Grove T.na_Grove_bares (Iu g) (xwf rfl rfl fu.at'.hp T.cl_Grove T.na_Grove_levels (EK g) (xwi rfl rfl rfl (SqL.of fu.at'.lv) (Al (by rw[B9,e0];rfl)) (xq4 rfl rfl (SqL.of fu.br) (by rw[l0];exact Al (Wn l48)) ⟨rfl,(xq1 rfl ?_)⟩))));refine IM (λhc=>?_) (λhc=>?_)
  ·have ei:i=bareN l:=by
    have:=W1 hc;injection this with this
    exact V8 this
   exact k1 (bb.mpr ei) H (FrQ.refl g H) fu
  ·have ne:¬i=bareN l:=λz=>hc (by rw[z];exact V1 rfl);obtain⟨b,eb⟩:∃b,BF G l i=some b:=by
    cases e:BF G l i with
    |none=>exact absurd (bb.mp e) ne
    |some b=>exact⟨b,rfl⟩
   refine xwf rfl rfl fu.at'.hp T.cl_Grove T.na_Grove_boxes (Wd g) ⟨g.bx,rfl,.inl ⟨_,.inl hbx⟩,(xq1 rfl ⟨_,GS.k (k:=Sum.inl (i:Int)) hbx,?_⟩)⟩;cases e:BB ks (Sum.inl (i:Int))with
   |some v =>
    obtain⟨l',b',t,hl',eb',rfl,ht⟩:=bok.val i v e;have el:l'=l:=V8 (hl'.uniq hl);subst el;rw[eb]at eb';cases eb';exact xq1 rfl ⟨rfl,(xq1 rfl (Bb (xq1 rfl (k2 b eb t H (FrQ.refl g H) fu ht))))⟩
   |none =>
    refine xq1 rfl ⟨rfl,(xq1 rfl (BT (xq1 rfl ⟨g.p,g.dx,(xq1 rfl ⟨fu.at'.hp,Qy g,(xq1 rfl ⟨g,G,i,l,b,rfl,fu,hl,ln,few,eb,λt H2 f2 fu2 ht2=>?_⟩)⟩)⟩)))⟩;obtain⟨ks2,hbx2,bok2⟩:=fu2.bx;have lk2:=bok2.keys.len;obtain⟨fu3,f3⟩:=fu2.bx_put hbx2 (ks2:=Eh ks2 (Sum.inl (i:Int)) (.ref t)) ⟨bok2.keys.put hl.lt _,λj v ev=>by
     rw[Jo]at ev;split at ev
     ·rename_i z;injection z with z
      have:j=i:=V8 z;subst this;cases ev;exact⟨l,b,t,hl,eb,rfl,ht2⟩
     ·exact bok2.val j v ev⟩
    have nt:=fu2.ne_am ht2 (by intro l z;cases z);exact xw2 rfl rfl (xq5 fu2.at'.hp T.cl_Grove T.na_Grove_boxes (Wd g) (xq1 rfl ⟨g.bx,(xq1 rfl ⟨Mb.k (k:=Sum.inl (i:Int)) hbx2 (IT A1),(xq1 rfl (k2 b eb t _ (f2.trans f3) fu3 (f3 _ _ ht2 nt.1 nt.2)))⟩)⟩))
theorem Vy{f:Addr}{fd:FuncData}{f':Addr}{fd':FuncData}(F:Fun K "boxed" "Grove.boxed" DN f fd)(F':Fun K "measured" "Grove.measured" CG f' fd')(T:Top K mg a)(Me:NP K a.c_Grove "boxed" f)(Bi:Cu K fd Cm [])(Me':NP K a.c_Grove "measured" f')(Bi':Cu K fd' CI [])
  (aG:Cal P w K mg base CX0 1 "shifted_box" CN Jr) (aV:Cal P w K mg base CX0 1 "least_box" EX Md):∀n,AJ P w K mg base CX0 (2*n+2) f fd Cm (Qh a n)
 |0=>by
  refine F.ok Dp (λvs H Q E h=>?_) (λcdv A outer s H vs Q E hr h=>?_)
  ·obtain⟨g,G,i,l,rfl,_,_,h0,_⟩:=h;exact absurd h0 (N6 _)
  ·obtain⟨g,G,i,l,rfl,_,_,h0,_⟩:=h;exact absurd h0 (N6 _)
 |n+1=>ok_boxS F T ⟨⟨f',fd',ok_mea (d:=2*n+2) F' T A1 aG aV ⟨⟨f,fd,Vy F F' T Me Bi Me' Bi' aG aV n,Me,Bi⟩,T.cl_Grove⟩,Me',Bi'⟩,T.cl_Grove⟩
inductive Wt(a:Ad)(vs:List V)(H:Hp)(Q:VK):Prop
 |mk (g:GA) (G:Gv) (i l:Nat) (_:vs=[.ref g.p,.int i]) (_:Bn a H g G) (_:Ak G i l) (_:G.length<9000000) (_:(BF G l i=none->∀H',FrQ g H H'->Bn a H' g G->Q .non H')) (_:∀b,BF G l i=some b->∀t H',FrQ g H H'->Bn a H' g G->LN H' t b->Q (.ref t) H'):Wt a vs H Q
def Rp(a:Ad):Sp:=λvs H Q _=>Wt a vs H Q
theorem ok_span{f:Addr}{fd:FuncData}(F:Fun K "span" "Grove.span" Gh f fd)(T:Top K mg a)(aA:BK P w K mg base CX0 2 a.c_Grove "check_square" BN (SC a))(aT:BK P w K mg base CX0 100 a.c_Grove "boxed" Cm (Qh a 49)):AJ P w K mg base CX0 101 f fd Gw (Rp a):=by
 refine F.ok NF (λvs H Q E h=>?_) (λcdv A outer s H vs Q E hr h=>?_)
 ·obtain⟨g,G,i,l,rfl,_⟩:=h;rfl
 ·obtain⟨g,G,i,l,rfl,fu,hl,few,k0,k1⟩:=h;refine⟨_,(Ac (Cd (AF (pv 0) aA (rm hr) An (Aa (pv 1) Ab))) (Ag (As (AF (pv 0) aT (rm hr) An (Aa (pv 1) Ab))))),?_⟩
  try dsimp only[cxK]
  have l48:l<49:=by
   obtain⟨q,e,el⟩:=id hl;have:=(fu.ok.lev e).2;lia
  refine xq1 rfl ⟨g.p,g.dx,(xq1 rfl ⟨fu.at'.hp,Qz g,(xq1 rfl ⟨g,G,i,rfl,fu.at',hl.lt,?_⟩)⟩)⟩;exact xq1 rfl ⟨g.p,g.dx,(xq1 rfl ⟨fu.at'.hp,QA g,(xq1 rfl ⟨g,G,i,l,rfl,fu,hl,l48,few,k0,k1⟩)⟩)⟩
end
end J
namespace J
open PySem L2
def Ap(g:GA)(x:Addr):Prop:=x≠g.lv/\x≠g.pt/\x≠g.nm
theorem Ap.new{a:Ad}{H:Hp}{g:GA}{G:Gv}(h:AI a H g G){x:Addr}(n:H x=none):Ap g x:=by
 obtain⟨ts,h3,_⟩:=h.pt;exact⟨V5 (Av h.lv n),V5 (Av h3 n),V5 (Av h.nm n)⟩
theorem Fr.get{g:GA}{H H':Hp}{x:Addr}{o:HO}(f:Fr g H H')(p:Ap g x)(e:H x=some o):H' x=some o:=f _ _ e p.1 p.2.1 p.2.2
theorem Fr.tup{a:Ad}{g:GA}{G:Gv}{H H':Hp}{x:Addr}{l:List V}(f:Fr g H H')(h:AI a H g G)(e:H x=some (.tup l)):H' x=some (.tup l):=by
 obtain⟨us,h3,_⟩:=h.pt;exact f _ _ e (AD e h.lv A4) (AD e h3 A4) (AD e h.nm A4)
theorem OW(l:Nat):(0:Int)<2^l:=Int.pow_pos A3
theorem pow2_lt{l:Nat}(h:l<64):(2:Int)^l<2^64:=by
 have:(2:Nat)^l<2^64:=T6 A3 h
 exact_mod_cast this
section
variable{P:Program}{w:World}{K:PySem.W.Frag}{mg:Str->Option Value}{base:Heap}{a:Ad}
end
seal L2.PA L2.PE L2.PS L2.PSs L2.PT L2.PW
theorem Ck(l:Nat):(2:Int)^(l+1)=2^l+2^l:=by rw[Int.pow_succ];lia
def GH(x y w h r:Int):Prop:=-r<=x/\-r<=y/\x+w<=r/\y+h<=r
instance(x y w h r:Int):Decidable (GH x y w h r):=by unfold GH;infer_instance
theorem lies_b(x y w h r:Int):(decide (-r<=x) && (decide (-r<=y) && (decide (x+w<=r) && decide (y+h<=r))))=decide (GH x y w h r):=by
 rw[Q6];simp only[O0,A1c];exact Iff.rfl
structure Wid(G:Gv)(n f w:Nat):Prop where
 ex:∃(q:Sq)(x y z v a b c d:Nat),GG G n f q x y z v/\G[a]?=some ⟨[(bareN n:Int),(bareN n:Int),(bareN n:Int),(x:Int)],(n:Int)+1⟩/\G[b]?=some ⟨[(bareN n:Int),(bareN n:Int),(y:Int),(bareN n:Int)],(n:Int)+1⟩ /\
  G[c]?=some ⟨[(bareN n:Int),(z:Int),(bareN n:Int),(bareN n:Int)],(n:Int)+1⟩/\G[d]?=some ⟨[(v:Int),(bareN n:Int),(bareN n:Int),(bareN n:Int)],(n:Int)+1⟩/\G[w]?=some ⟨[(a:Int),(b:Int),(c:Int),(d:Int)],(n:Int)+2⟩
theorem Wid.lev{G:Gv}{n f w:Nat}(h:Wid G n f w):Ak G w ((n+2:Nat):Int):=by
 obtain⟨q,x,y,z,v,a,b,c,d,nd,ea,eb,ec,ed,ew⟩:=h.ex;exact⟨_,ew,by show(n:Int)+2=_;lia⟩
theorem Wid.app{G G':Gv}{k n f w:Nat}(go:AG G G' k)(h:Wid G n f w):Wid G' n f w:=by
 obtain⟨q,x,y,z,v,a,b,c,d,nd,ea,eb,ec,ed,ew⟩:=h.ex;exact⟨q,x,y,z,v,a,b,c,d,nd.app go,go.get ea,go.get eb,go.get ec,go.get ed,go.get ew⟩
theorem FP{G r:Gv}(e:G=G0++r){n:Nat}(h:n<=48):Ak G (bareN n) (n:Int):=by
 rw[e];exact(Wb n h).app
theorem bareL_at'{l:Nat}(h:l<=48):((CC 48).map V.int)[l]?=some (.int (bareN l:Int)):=by
 unfold CC;rw[B9,B9,P9 A1];rfl
section
variable{P:Program}{w:World}{K:PySem.W.Frag}{mg:Str->Option Value}{base:Heap}{a:Ad}
inductive SpLie(vs:List V)(H:Hp)(Q:VK):Prop
 |mk (t:Addr) (x y w h r:Int) (_:vs=[.ref t,.int r]) (_:H t=some (.tup [.int x,.int y,.int w,.int h])) (_:Q (.bl (decide (GH x y w h r))) H):SpLie vs H Q
def Qg:Sp:=λvs H Q _=>SpLie vs H Q
theorem ok_lie{f:Addr}{fd:FuncData}(F:Fun K "lies_within" "lies_within" Fo f fd)(T:Top K mg a):AJ P w K mg base CX0 1 f fd CO Qg:=by
 refine F.ok Mz (λvs H Q E h=>?_) (λcdv A outer s H vs Q E hr h=>?_)
 ·obtain⟨t,x,y,w,h,r,rfl,_⟩:=h;rfl
 ·obtain⟨t,x,y,wd,hh,r,rfl,ht,k⟩:=h;rw[<-lies_b]at k;refine⟨_,(Ag (As (DZ (Ei JG (GL DU (pv 1)) (Aj Am (pv 0) Ae (λ_ _=>rfl)) (AC _)) (DZ (Ei JG (GL DU (pv 1)) (Aj Am (pv 0) Ae (λ_ _=>rfl)) (AC _)) (DZ (Ei JG (AK Bw (Aj Am (pv 0) Ae (λ_ _=>rfl)) (Aj Am (pv 0) Ae (λ_ _=>rfl))) (pv 1) (AC _)) (Fv (Ei JG (AK Bw (Aj Am (pv 0) Ae (λ_ _=>rfl)) (Aj Am (pv 0) Ae (λ_ _=>rfl))) (pv 1) (AC _)))))))),?_⟩
  try dsimp only[cxK]
  refine xw3 rfl rfl rfl (xq4 rfl rfl (SqT.of ht) (Al (j:=0) rfl) (xq2 rfl rfl (PP (λ_ Q1 q1=>?_) k)));refine xw3 rfl rfl rfl (xq4 rfl rfl (SqT.of ht) (Al (j:=1) rfl) (xq2 rfl rfl (PP (λ_ Q2 q2=>?_) q1)));refine xwi rfl rfl rfl (SqT.of ht) (Al (j:=0) rfl) (xwi rfl rfl rfl (SqT.of ht) (Al (j:=2) rfl) (xq2 rfl rfl (xwb rfl rfl rfl (PP (λ_ Q3 q3=>?_) q2))));exact xwi rfl rfl rfl (SqT.of ht) (Al (j:=1) rfl) (xwi rfl rfl rfl (SqT.of ht) (Al (j:=3) rfl) (xq2 rfl rfl (xwb rfl rfl rfl q3)))
inductive Tf(a:Ad)(vs:List V)(H:Hp)(Q:VK):Prop
 |mk (g:GA) (G:Gv) (i n:Nat) (_:vs=[.ref g.p,.int i]) (_:AI a H g G) (_:Ak G i ((n+1:Nat):Int)) (_:n<48) (_:Q (.int (2^n)) H):Tf a vs H Q
def Iy(a:Ad):Sp:=λvs H Q _=>Tf a vs H Q
theorem Vo{f:Addr}{fd:FuncData}(F:Fun K "reach_of" "reach_of" Jb f fd)(T:Top K mg a)(a7:BK P w K mg base CX0 3 a.c_Grove "level_of" Ba (LO a)):AJ P w K mg base CX0 4 f fd DE (Iy a):=by
 refine F.ok Qi (λvs H Q E h=>?_) (λcdv A outer s H vs Q E hr h=>?_)
 ·obtain⟨g,G,i,n,rfl,_⟩:=h;rfl
 ·obtain⟨g,G,i,n,rfl,hg,⟨q,e,el⟩,n48,k⟩:=h;refine⟨_,(Ag (As (AK Lx Ae (AK Bf (AF (pv 0) a7 (rm hr) An (Aa (pv 1) Ab)) Ae)))),?_⟩
  try dsimp only[cxK]
  have en:q.lev=(n:Int)+1:=by rw[el];lia
  refine xwn rfl rfl hg.hp (DI g) rfl ⟨g,G,i,q,rfl,hg,e,(xq2 rfl rfl (xq2 rfl rfl ⟨⟨by lia,by lia,by decide⟩,?_⟩))⟩;show Q (.int (1*2^(q.lev-1).toNat)) H;rw[OF n en];exact k
inductive To(a:Ad)(vs:List V)(H:Hp)(Q:VK):Prop
 |mk (g:GA) (G:Gv) (_:vs=[.ref g.p]) (_:Bn a H g G) (_:Q (.int (bareN 1:Int)) H):To a vs H Q
def Mf(a:Ad):Sp:=λvs H Q _=>To a vs H Q
theorem Vz{f:Addr}{fd:FuncData}(F:Fun K "bare_field" "bare_field" Ge f fd)(T:Top K mg a):AJ P w K mg base CX0 1 f fd Ej (Mf a):=by
 refine F.ok ND (λvs H Q E h=>?_) (λcdv A outer s H vs Q E hr h=>?_)
 ·obtain⟨g,G,rfl,_⟩:=h;rfl
 ·obtain⟨g,G,rfl,fu,k⟩:=h;exact⟨_,(Ag (As (Aj Aw (Az (pv 0) rfl) (BI rfl T.k_LEAST_LEVEL) (λ_ _=>rfl)))),(xwf rfl rfl fu.at'.hp T.cl_Grove T.na_Grove_bares (Iu g) (xq4 rfl rfl (SqL.of fu.br) (Al (j:=1) (bareL_at' A1)) k))⟩
inductive SpWid(a:Ad)(vs:List V)(H:Hp)(Q:VK):Prop
 |mk (g:GA) (G:Gv) (f n:Nat) (_:vs=[.ref g.p,.int f]) (_:Bn a H g G) (_:Ak G f ((n+1:Nat):Int)) (_:n<47) (_:G.length<8900000) (_:∀(w:Nat)(G':Gv)(H':Hp),Fr g H H'->AI a H' g G'->AG G G' 5->Wid G' n f w->Q (.int w) H'):SpWid a vs H Q
def Sy(a:Ad):Sp:=λvs H Q _=>SpWid a vs H Q
theorem ok_wid{f:Addr}{fd:FuncData}(F:Fun K "widened" "widened" Lh f fd)(T:Top K mg a)(a7:BK P w K mg base CX0 3 a.c_Grove "level_of" Ba (LO a))(a6:BK P w K mg base CX0 2 a.c_Grove "linked" AQ (DV a)):AJ P w K mg base CX0 4 f fd IA (Sy a):=by
 refine F.ok FV (λvs H Q E h=>?_) (λcdv A outer s H vs Q E hr h=>?_)
 ·obtain⟨g,G,f',n,rfl,_⟩:=h;rfl
 ·obtain⟨g,G,f',n,rfl,fu,hl,n47,few,k⟩:=h;obtain⟨q,x,y,z,v,nd⟩:=BC fu.ok hl;have lq:=nd.lev;obtain⟨ts,h3,h4⟩:=fu.at'.pt;obtain⟨t,et,ht⟩:=PairedM.get h4 nd.g;have ht:H t=some (.tup [.int x,.int y,.int z,.int v]):=by
   have ht:H t=some (.tup (q.parts.map V.int)):=ht;rw[nd.ps]at ht;exact ht
  obtain⟨r,e0⟩:=fu.g0;have lb:=FP e0 (n:=n) A1;refine⟨_,(Ac (Ao (i:=2) FV.nd rfl (Or.inl rfl) (AF (pv 0) a7 (rm hr) An (Aa (pv 1) Ab))) (Ac (AN (PW.pt (IP (Ax GO (pv 2) (BI rfl T.k_LEAST_LEVEL) (AC _)) (Ft (Ax CQ (pv 2) (BI rfl T.k_TOP_LEVEL) (AC _))))) (Ag Bj) AB) (Ac (Ao (i:=3) FV.nd rfl (Or.inl rfl) (Aj Aw (Az (pv 0) rfl) (pv 1) (λ_ _=>rfl))) (Ac (Ao (i:=4) FV.nd rfl (Or.inl rfl) (Aj Aw (Az (pv 0) rfl) (AK Bf (pv 2) Ae) (λ_ _=>rfl))) (Ag (As (AF (pv 0) a6 (rm hr) An (Be (Aa (AF (pv 0) a6 (rm hr) An (Be (Aa (pv 4) (Aa (pv 4) (Aa (pv 4) (Aa (Aj Am (pv 3) Ae (λ_ _=>rfl)) Ab)))) Ab)) (Aa (AF (pv 0) a6 (rm hr) An (Be (Aa (pv 4) (Aa (pv 4) (Aa (Aj Am (pv 3) Ae (λ_ _=>rfl)) (Aa (pv 4) Ab)))) Ab)) (Aa (AF (pv 0) a6 (rm hr) An (Be (Aa (pv 4) (Aa (Aj Am (pv 3) Ae (λ_ _=>rfl)) (Aa (pv 4) (Aa (pv 4) Ab)))) Ab)) (Aa (AF (pv 0) a6 (rm hr) An (Be (Aa (Aj Am (pv 3) Ae (λ_ _=>rfl)) (Aa (pv 4) (Aa (pv 4) (Aa (pv 4) Ab)))) Ab)) Ab)))) Ab)))))))),?_⟩
  try dsimp only[cxK]
  refine xq1 rfl ⟨g.p,g.dx,(xq1 rfl ⟨fu.at'.hp,DI g,(xq1 rfl ⟨g,G,f',q,rfl,fu.at',nd.g,?_⟩)⟩)⟩;refine xwb rfl rfl rfl (xq1 rfl ?_);rw[V3 (by lia:¬q.lev<1)];refine Bb (xq1 rfl ⟨rfl,(xq1 rfl ?_)⟩);rw[V3 (by intro z;injection z with z;lia)];refine Bb (xwf rfl rfl fu.at'.hp T.cl_Grove T.na_Grove_parts (Ci g) (xwi rfl rfl rfl (SqL.of h3) (Al (by rw[B9,et];rfl)) ?_));refine xwf rfl rfl fu.at'.hp T.cl_Grove T.na_Grove_bares (Iu g) (xwb rfl rfl rfl (xq4 rfl rfl (SqL.of fu.br) (by rw[show q.lev-1=(n:Int) by lia];exact Al (bareL_at' A1)) ?_));refine xq1 rfl ⟨g.p,g.dx,(xq1 rfl ⟨fu.at'.hp,BE g,?_⟩)⟩;refine xq1 rfl ⟨g.p,g.dx,(xq1 rfl ⟨fu.at'.hp,BE g,(xw3 rfl rfl rfl (xwi rfl rfl rfl (SqT.of ht) (Al (j:=0) rfl) ⟨(by show 4<=sizeLine;decide),λt1 ht1=>?_⟩))⟩)⟩;have s1:=Ay (o:=.tup [.int (bareN n:Int),.int (bareN n:Int),.int (bareN n:Int),.int x]) ht1;refine⟨g,G,t1,bareN n,bareN n,bareN n,x,(n:Int),rfl,fu.at'.same s1,fu.ok,Af,⟨lb,lb,lb,nd.hx⟩,by lia,by lia,λa1 G1 H1 fr1 hg1 go1 e1=>?_⟩;have f1:=(AA.fr s1).trans fr1;have htA:=f1.tup fu.at' ht;have n1:=go1.few;refine xwn rfl rfl hg1.hp (BE g) rfl (xwj rfl rfl rfl rfl (SqT.of htA) (Al (j:=1) rfl) (xq1 rfl ⟨(by show 4<=sizeLine;decide),λt2 ht2=>?_⟩));have s2:=Ay (o:=.tup [.int (bareN n:Int),.int (bareN n:Int),.int y,.int (bareN n:Int)]) ht2;refine⟨g,G1,t2,bareN n,bareN n,y,bareN n,(n:Int),rfl,hg1.same s2,go1.ok,Af,⟨go1.lev lb,go1.lev lb,go1.lev nd.hy,go1.lev lb⟩,by lia,by lia,λa2 G2 H2 fr2 hg2 go2 e2=>?_⟩;have f2:=f1.trans ((AA.fr s2).trans fr2);have htB:=f2.tup fu.at' ht;have n2:=go2.few;have go12:=go1.trans go2;refine xwn rfl rfl hg2.hp (BE g) rfl (xwi rfl rfl rfl (SqT.of htB) (Al (j:=2) rfl) (xw2 rfl rfl ⟨(by show 4<=sizeLine;decide),λt3 ht3=>?_⟩));have s3:=Ay (o:=.tup [.int (bareN n:Int),.int z,.int (bareN n:Int),.int (bareN n:Int)]) ht3;refine⟨g,G2,t3,bareN n,z,bareN n,bareN n,(n:Int),rfl,hg2.same s3,go2.ok,Af,⟨go12.lev lb,go12.lev nd.hz,go12.lev lb,go12.lev lb⟩,by lia,by lia,λa3 G3 H3 fr3 hg3 go3 e3=>?_⟩;have f3:=f2.trans ((AA.fr s3).trans fr3);have htC:=f3.tup fu.at' ht;have n3:=go3.few;have go13:=go12.trans go3;refine xwn rfl rfl hg3.hp (BE g) rfl (xq4 rfl rfl (SqT.of htC) (Al (j:=3) rfl) (xw3 rfl rfl rfl ⟨(by show 4<=sizeLine;decide),λt4 ht4=>?_⟩));have s4:=Ay (o:=.tup [.int v,.int (bareN n:Int),.int (bareN n:Int),.int (bareN n:Int)]) ht4;refine⟨g,G3,t4,v,bareN n,bareN n,bareN n,(n:Int),rfl,hg3.same s4,go3.ok,Af,⟨go13.lev nd.hw,go13.lev lb,go13.lev lb,go13.lev lb⟩,by lia,by lia,λa4 G4 H4 fr4 hg4 go4 e4=>?_⟩;have f4:=f3.trans ((AA.fr s4).trans fr4);have n4:=go4.few;have go14:=go13.trans go4;refine⟨(by show 4<=sizeLine;decide),λt5 ht5=>?_⟩;have s5:=Ay (o:=.tup [.int a1,.int a2,.int a3,.int a4]) ht5;have E1:=(go2.trans (go3.trans go4)).get e1;have E2:=(go3.trans go4).get e2;have E3:=go4.get e3;refine⟨g,G4,t5,a1,a2,a3,a4,(n:Int)+1,rfl,hg4.same s5,go4.ok,Af,⟨⟨_,E1,rfl⟩,⟨_,E2,rfl⟩,⟨_,E3,rfl⟩,⟨_,e4,rfl⟩⟩,by lia,by lia,λw' G5 H5 fr5 hg5 go5 e5=>?_⟩;have go15:=go14.trans go5;exact k w' G5 H5 (f4.trans ((AA.fr s5).trans fr5)) hg5 go15 ⟨q,x,y,z,v,a1,a2,a3,a4,nd.app go15,go5.get E1,go5.get E2,go5.get E3,go5.get e4,by rw[e5,show(n:Int)+1+1=(n:Int)+2 by lia]⟩
end
structure Ma(G:Gv)(n i:Nat)(qs:Nat->Nat)(ps:Nat->Nat->Nat):Prop where
 node:∃q,GG G (n+1) i q (qs 0) (qs 1) (qs 2) (qs 3)
 sub:∀k,k<4->∃q,GG G n (qs k) q (ps k 0) (ps k 1) (ps k 2) (ps k 3)
theorem Ma.app{G G':Gv}{k n i:Nat}{qs:Nat->Nat}{ps:Nat->Nat->Nat}(go:AG G G' k)(h:Ma G n i qs ps):Ma G' n i qs ps:=by
 obtain⟨q,nd⟩:=h.node;exact⟨⟨q,nd.app go⟩,λk hk=>by obtain⟨q,nd⟩:=h.sub k hk;exact⟨q,nd.app go⟩⟩
def f4(x y z w:Nat)(k:Nat):Nat:=match k with|0=>x|1=>y|2=>z|_=>w
theorem deep_of{G:Gv}(ok:GOk G){n i:Nat}(h:Ak G i ((n+2:Nat):Int)):∃qs ps,Ma G n i qs ps:=by
 obtain⟨q,x,y,z,w,nd⟩:=BC ok (n:=n+1) h;obtain⟨_,x0,x1,x2,x3,nx⟩:=BC ok nd.hx;obtain⟨_,y0,y1,y2,y3,ny⟩:=BC ok nd.hy;obtain⟨_,z0,z1,z2,z3,nz⟩:=BC ok nd.hz;obtain⟨_,w0,w1,w2,w3,nw⟩:=BC ok nd.hw;refine⟨f4 x y z w,λk=>match k with|0=>f4 x0 x1 x2 x3|1=>f4 y0 y1 y2 y3|2=>f4 z0 z1 z2 z3|_=>f4 w0 w1 w2 w3,⟨q,nd⟩,λk hk=>?_⟩
 match k,hk with
 |0,_=>exact⟨_,nx⟩
 |1,_=>exact⟨_,ny⟩
 |2,_=>exact⟨_,nz⟩
 |3,_=>exact⟨_,nw⟩
theorem GG.nat{G:Gv}{n i:Nat}{q:Sq}{x y z w:Nat}(h:GG G n i q x y z w){j:Nat}(hj:j<4):q.parts[j]?=some ((f4 x y z w j:Nat):Int)/\Ak G (f4 x y z w j) n:=by
 rw[h.ps]
 match j,hj with
 |0,_=>exact⟨rfl,h.hx⟩
 |1,_=>exact⟨rfl,h.hy⟩
 |2,_=>exact⟨rfl,h.hz⟩
 |3,_=>exact⟨rfl,h.hw⟩
theorem Ng(p:Nat->Nat){j:Nat}(hj:j<4):f4 (p 0) (p 1) (p 2) (p 3) j=p j:=by
 match j,hj with
 |0,_=>rfl
 |1,_=>rfl
 |2,_=>rfl
 |3,_=>rfl
def BA(n:Nat)(ps:Nat->Nat->Nat):Prop:=∀k j,k<4->j<4->j+k≠3->ps k j=bareN n
def Ed(G:Gv):Nat->Nat->Nat->Prop
 |0,_,_=>False
 |1,f,r=>r=f
 |n+2,f,r=>∃qs ps,Ma G n f qs ps/\((¬BA n ps/\r=f)\/(BA n ps/\∃m,G[m]?=some ⟨[(ps 0 3:Int),(ps 1 2:Int),(ps 2 1:Int),(ps 3 0:Int)],(n:Int)+1⟩/\Ed G (n+1) m r))
theorem Ed.app{G G':Gv}{k:Nat}(go:AG G G' k):∀{n f r:Nat},Ed G n f r->Ed G' n f r
 |0,_,_,h=>h
 |1,_,_,h=>h
 |n+2,f,r,h=>by
  obtain⟨qs,ps,d,h⟩:=h;refine⟨qs,ps,d.app go,?_⟩;rcases h with h|⟨h1,m,h2,h3⟩
  ·exact .inl h
  ·exact .inr ⟨h1,m,go.get h2,Ed.app go h3⟩
section
variable{P:Program}{w:World}{K:PySem.W.Frag}{mg:Str->Option Value}{base:Heap}{a:Ad}
theorem Gn{H:Hp}{g:GA}{G:Gv}(h:AI a H g G){n i:Nat}{q:Sq}{x y z w:Nat}(nd:GG G n i q x y z w):∃(ts:List Addr)(t:Addr),H g.pt=some (.lst (ts.map V.ref))/\(ts.map V.ref)[i]?=some (.ref t)/\H t=some (.tup [.int x,.int y,.int z,.int w]):=by
 obtain⟨ts,h3,h4⟩:=h.pt;obtain⟨t,et,ht⟩:=PairedM.get h4 nd.g;refine⟨ts,t,h3,by rw[B9,et];rfl,?_⟩;have ht:H t=some (.tup (q.parts.map V.int)):=ht;rw[nd.ps]at ht;exact ht
inductive SpMid(a:Ad)(vs:List V)(H:Hp)(Q:VK):Prop
 |mk (g:GA) (G:Gv) (i n:Nat) (qs:Nat->Nat) (ps:Nat->Nat->Nat) (_:vs=[.ref g.p,.int i]) (_:AI a H g G) (_:GOk G) (_:Ma G n i qs ps) (_:n<47) (_:G.length<8900000) (_:∀(m:Nat)(G':Gv)(H':Hp),Fr g H H'->AI a H' g G'->AG G G' 1->G'[m]?=some ⟨[(ps 0 3:Int),(ps 1 2:Int),(ps 2 1:Int),(ps 3 0:Int)],(n:Int)+1⟩->Q (.int m) H'):SpMid a vs H Q
def UR(a:Ad):Sp:=λvs H Q _=>SpMid a vs H Q
theorem ok_mid{f:Addr}{fd:FuncData}(F:Fun K "middle_of" "middle_of" ET f fd)(T:Top K mg a)(a6:BK P w K mg base CX0 2 a.c_Grove "linked" AQ (DV a)):AJ P w K mg base CX0 3 f fd Ig (UR a):=by
 refine F.ok Jv (λvs H Q E h=>?_) (λcdv A outer s H vs Q E hr h=>?_)
 ·obtain⟨g,G,i,n,qs,ps,rfl,_⟩:=h;rfl
 ·obtain⟨g,G,i,n,qs,ps,rfl,hg,ok,dp,n47,few,k⟩:=h;obtain⟨q,nd⟩:=dp.node;obtain⟨ts,t,h3,et,ht⟩:=Gn hg nd;refine⟨_,(Ac (Gm (i:=2) rfl Jv.nd rfl rfl (BD.of (So:=Ah ET) (No:=LR) (N:=["quarter","grove"]) (k:=1) (cs:=[0]) rfl rfl A0) (Rx (Aj Aw (Az (pv 0) rfl) (pv 1) (λ_ _=>rfl))) (λ_ _ _=>(Bk (i:=0) A0 rfl rfl)) (λ_ _ _=>BL) (λ_ _ _=>(Aj (VX (K:=K) rfl) (Pb (K:=K) rfl (pv 1) rfl) (pv 0) (λ_ _=>rfl)))) (Ag (As (AF (pv 0) a6 (rm hr) An (Be (Aa (Aj Am (Aj Aw (pv 2) Ae (λ_ _=>rfl)) Ae (λ_ _=>rfl)) (Aa (Aj Am (Aj Aw (pv 2) Ae (λ_ _=>rfl)) Ae (λ_ _=>rfl)) (Aa (Aj Am (Aj Aw (pv 2) Ae (λ_ _=>rfl)) Ae (λ_ _=>rfl)) (Aa (Aj Am (Aj Aw (pv 2) Ae (λ_ _=>rfl)) Ae (λ_ _=>rfl)) Ab)))) Ab))))),?_⟩
  try dsimp only[cxK]
  refine xwf rfl rfl hg.hp T.cl_Grove T.na_Grove_parts (Ci g) (xwi rfl rfl rfl (SqL.of h3) (Al et) ⟨t,rfl,⟨_,SqT.of ht⟩,?_⟩);have sub:∀k,k<4->∃tk,(ts.map V.ref)[qs k]?=some (.ref tk)/\H tk=some (.tup [.int (ps k 0),.int (ps k 1),.int (ps k 2),.int (ps k 3)]):=λk hk=>by
   obtain⟨qk,ndk⟩:=dp.sub k hk;obtain⟨ts',tk,h3',et',ht'⟩:=Gn hg ndk;rw[h3]at h3';have h3':=HO.lst.inj (V4 h3');exact⟨tk,by rw[h3'];exact et',ht'⟩
  obtain⟨t0,e0,p0⟩:=sub 0 A3;obtain⟨t1,e1,p1⟩:=sub 1 A3;obtain⟨t2,e2,p2⟩:=sub 2 A3;obtain⟨t3,e3,p3⟩:=sub 3 A3;have all:∀(j:Nat)(v:V),[V.int (qs 0:Int),V.int (qs 1:Int),V.int (qs 2:Int),V.int (qs 3:Int)][j]?=some v->∃(k:Nat)(tk:Addr),v=.int (k:Int)/\(ts.map V.ref)[k]?=some (.ref tk)/\[V.ref t0,V.ref t1,V.ref t2,V.ref t3][j]?=some (.ref tk):=λj v ev=>by
   match j,ev with
   |0,ev=>cases ev;exact⟨qs 0,t0,rfl,e0,rfl⟩
   |1,ev=>cases ev;exact⟨qs 1,t1,rfl,e1,rfl⟩
   |2,ev=>cases ev;exact⟨qs 2,t2,rfl,e2,rfl⟩
   |3,ev=>cases ev;exact⟨qs 3,t3,rfl,e3,rfl⟩
   |j+4,ev=>simp at ev
  refine PJ (xs:=[.int (qs 0:Int),.int (qs 1:Int),.int (qs 2:Int),.int (qs 3:Int)]) (λj acc H2=>H=H2/\acc=[V.ref t0,V.ref t1,V.ref t2,V.ref t3].take j) ⟨rfl,rfl⟩ (λj acc H2 _ z=>z.1▸SqT.of ht) ?_ ?_
  ·rintro j v acc H2 ev ⟨rfl,rfl⟩;obtain⟨k',tk,rfl,ek,el⟩:=all j v ev;refine⟨⟨[some (.int k')],rfl,rfl⟩,by rw[J9];exact IT (by show min j 4<10000000;lia),GV (xwf rfl rfl hg.hp T.cl_Grove T.na_Grove_parts (Ci g) (xwi rfl rfl rfl (SqL.of h3) (Al ek) ⟨rfl,?_⟩))⟩;rw[F8,el];rfl
  ·rintro acc H2 ⟨rfl,rfl⟩ L hL;have s1:=Ay (o:=.lst [V.ref t0,V.ref t1,V.ref t2,V.ref t3]) hL;have hL1:upd H L (.lst [V.ref t0,V.ref t1,V.ref t2,V.ref t3]) L=some (.lst [V.ref t0,V.ref t1,V.ref t2,V.ref t3]):=Af;rw[show(List.take [V.int (qs 0:Int),V.int (qs 1:Int),V.int (qs 2:Int),V.int (qs 3:Int)].length [V.ref t0,V.ref t1,V.ref t2,V.ref t3])=[V.ref t0,V.ref t1,V.ref t2,V.ref t3]from rfl];generalize upd H L (.lst [V.ref t0,V.ref t1,V.ref t2,V.ref t3])=H1 at s1 hL1⊢;have hg1:=hg.same s1;refine xwn rfl rfl hg1.hp (BE g) rfl (xq4 rfl rfl (SqL.of hL1) (Al (j:=0) rfl) (xq4 rfl rfl (SqT.of (s1 _ _ p0)) (Al (j:=3) rfl) (xwi rfl rfl rfl (SqL.of hL1) (Al (j:=1) rfl) (xq4 rfl rfl (SqT.of (s1 _ _ p1)) (Al (j:=2) rfl) ?_))));refine xwi rfl rfl rfl (SqL.of hL1) (Al (j:=2) rfl) (xq4 rfl rfl (SqT.of (s1 _ _ p2)) (Al (j:=1) rfl) (xwi rfl rfl rfl (SqL.of hL1) (Al (j:=3) rfl) (xq4 rfl rfl (SqT.of (s1 _ _ p3)) (Al (j:=0) rfl) ⟨(by show 4<=sizeLine;decide),λt4 ht4=>?_⟩)));have s2:=Ay (o:=.tup [.int (ps 0 3),.int (ps 1 2),.int (ps 2 1),.int (ps 3 0)]) ht4;obtain⟨_,n0⟩:=dp.sub 0 A3;obtain⟨_,n1⟩:=dp.sub 1 A3;obtain⟨_,n2⟩:=dp.sub 2 A3;obtain⟨_,n3⟩:=dp.sub 3 A3;exact⟨g,G,t4,ps 0 3,ps 1 2,ps 2 1,ps 3 0,(n:Int),rfl,hg1.same s2,ok,Af,⟨n0.hw,n1.hz,n2.hy,n3.hx⟩,by lia,by lia,λm G' H' fr hg' go e=>k m G' H' ((AA.fr s1).trans ((AA.fr s2).trans fr)) hg' go e⟩
inductive SpBA(a:Ad)(vs:List V)(H:Hp)(Q:VK):Prop
 |mk (g:GA) (G:Gv) (i n:Nat) (qs:Nat->Nat) (ps:Nat->Nat->Nat) (_:vs=[.ref g.p,.int i]) (_:Bn a H g G) (_:Ma G n i qs ps) (_:n<47) (_:(BA n ps->∀H',AA H H'->Q (.bl true) H')) (_:(¬BA n ps->∀H',AA H H'->Q (.bl false) H')):SpBA a vs H Q
def spBA(a:Ad):Sp:=λvs H Q _=>SpBA a vs H Q
theorem ok_ba{f:Addr}{fd:FuncData}(F:Fun K "is_bare_around" "is_bare_around" DA f fd)(T:Top K mg a):AJ P w K mg base CX0 1 f fd DF (spBA a):=by
 refine F.ok Bu (λvs H Q E h=>?_) (λcdv A outer s H vs Q E hr h=>?_)
 ·obtain⟨g,G,i,n,qs,ps,rfl,_⟩:=h;rfl
 ·obtain⟨g,G,i,n,qs,ps,rfl,fu,dp,n47,k1,k2⟩:=h;obtain⟨q,nd⟩:=dp.node;have lq:=nd.lev;obtain⟨ts,t,h3,et,ht⟩:=Gn fu.at' nd;refine⟨_,(Ac (Ao (i:=2) Bu.nd rfl (Or.inl rfl) (Aj Aw (Az (pv 0) rfl) (AK Bf (Aj Aw (Az (pv 0) rfl) (pv 1) (λ_ _=>rfl)) Ae) (λ_ _=>rfl))) (Ac (Fu W2 rfl (Mi true rfl T.b_enumerate (Aa (Aj Aw (Az (pv 0) rfl) (pv 1) (λ_ _=>rfl)) Ab)) (MJ rfl (CM (Ce (i:=3) Bu.nd rfl (Or.inl rfl)) (CM (Ce (i:=4) Bu.nd rfl (Or.inl rfl)) JB))) (Ag (Fu W2 rfl (Mi true rfl T.b_enumerate (Aa (Aj Aw (Az (pv 0) rfl) (pv 4) (λ_ _=>rfl)) Ab)) (MJ rfl (CM (Ce (i:=5) Bu.nd rfl (Or.inl rfl)) (CM (Ce (i:=6) Bu.nd rfl (Or.inl rfl)) JB))) (Ag (AN (PW.pt (Ic (Ax GN (pv 6) (pv 2) (AC _)) (EV (Ax GN (pv 5) (AK Bf Ae (pv 3)) (AC _))))) (Ag (As EW)) AB))))) (Ag (As EW)))),?_⟩
  try dsimp only[cxK]
  refine xwf rfl rfl fu.at'.hp T.cl_Grove T.na_Grove_bares (Iu g) (xwf rfl rfl fu.at'.hp T.cl_Grove T.na_Grove_levels (EK g) (xwi rfl rfl rfl (SqL.of fu.at'.lv) (Al (by rw[B9,nd.g];rfl)) (xq2 rfl rfl (xq4 rfl rfl (SqL.of fu.br) (by rw[show q.lev-2=(n:Int) by lia];exact Al (bareL_at' A1)) ?_))));refine xwf rfl rfl fu.at'.hp T.cl_Grove T.na_Grove_parts (Ci g) (xwi rfl rfl rfl (SqL.of h3) (Al et) ⟨t,rfl,⟨_,SqT.of ht⟩,?_⟩);refine JP (b:=true) (xs:=[.int (qs 0:Int),.int (qs 1:Int),.int (qs 2:Int),.int (qs 3:Int)]) (λj σ H2=>AA H H2/\(∃u3 u4 u5 u6:Option V,σ=[some (.ref g.p),some (.int i),some (.int (bareN n:Int)),u3,u4,u5,u6])/\∀k' j',k'<j->k'<4->j'<4->j'+k'≠3->ps k' j'=bareN n) ⟨AA.refl H,⟨none,none,none,none,rfl⟩,λk' j' h=>absurd h (N6 _)⟩ (λj σ H2 _ z=>SqT.of (z.1 _ _ ht)) ?_ ?_
  ·rintro j v σ H2 T' ev ⟨sm,⟨u3,u4,u5,u6,rfl⟩,al⟩ nT;have hj:j<4:=(B6.mp ev).1;have ev':v=.int (qs j:Int):=by
    match j,hj,ev with
    |0,_,ev=>cases ev;rfl
    |1,_,ev=>cases ev;rfl
    |2,_,ev=>cases ev;rfl
    |3,_,ev=>cases ev;rfl
   subst ev';obtain⟨qk,ndk⟩:=dp.sub j hj;have s2:=sm.trans (Ay (o:=.tup [.int j,.int (qs j)]) nT);refine QP Af ?_;generalize upd H2 T' (.tup [.int j,.int (qs j)])=H3 at s2⊢;obtain⟨ts3,t3,h33,et3,ht3⟩:=Gn (fu.at'.same s2) ndk;refine xwf rfl rfl ((fu.at'.same s2).hp) T.cl_Grove T.na_Grove_parts (Ci g) (xwi rfl rfl rfl (SqL.of h33) (Al et3) ⟨t3,rfl,⟨_,SqT.of ht3⟩,?_⟩);refine JP (b:=true) (xs:=[.int (ps j 0:Int),.int (ps j 1:Int),.int (ps j 2:Int),.int (ps j 3:Int)]) (λj2 σ H4=>AA H3 H4/\(∃u5 u6:Option V,σ=[some (.ref g.p),some (.int i),some (.int (bareN n:Int)),some (.int j),some (.int (qs j)),u5,u6])/\∀j',j'<j2->j'<4->j'+j≠3->ps j j'=bareN n) ⟨AA.refl H3,⟨_,_,rfl⟩,λj' h=>absurd h (N6 _)⟩ (λj2 σ H4 _ z=>SqT.of (z.1 _ _ ht3)) ?_ ?_
   ·rintro j2 v σ H4 T2 ev ⟨sm2,⟨u5,u6,rfl⟩,al2⟩ nT2;have hj2:j2<4:=(B6.mp ev).1;have ev':v=.int (ps j j2:Int):=by
     match j2,hj2,ev with
     |0,_,ev=>cases ev;rfl
     |1,_,ev=>cases ev;rfl
     |2,_,ev=>cases ev;rfl
     |3,_,ev=>cases ev;rfl
    subst ev';have s4:=sm2.trans (Ay (o:=.tup [.int j2,.int (ps j j2)]) nT2);refine QP Af ?_;generalize upd H4 T2 (.tup [.int j2,.int (ps j j2)])=H5 at s4⊢;refine xw2 rfl rfl ⟨rfl,(xq1 rfl ?_)⟩;refine UC (b2:=!decide (V.int (j2:Int)=V.int (3-(j:Int)))) (λ_ Q' q=>(xw2 rfl rfl (xq2 rfl rfl ⟨rfl,(xq1 rfl q)⟩))) ?_;refine IM (λhc=>?_) (λhc=>?_)
    ·refine k2 (λba=>?_) H5 (s2.trans s4);rw[O0]at hc;have c2:¬j2+j=3:=λz=>by
      have:=hc.2;rw[V1 (show V.int (j2:Int)=V.int (3-(j:Int)) by congr 1;lia)]at this;cases this
     have c1:=hc.1;rw[ba j j2 hj hj2 c2,V1 rfl]at c1;cases c1
    ·refine⟨s4,⟨_,_,rfl⟩,λj' h1 h2 h3'=>?_⟩;rcases S0.mp h1 with h|h
     ·exact al2 j' h h2 h3'
     ·subst h;refine W4 λz=>hc ?_;rw[V3 (show ¬V.int (ps j j':Int)=V.int (bareN n:Int) by intro q;injection q with q;exact z (V8 q)),V3 (show ¬V.int (j':Int)=V.int (3-(j:Int)) by intro q;injection q with q;lia)];rfl
   ·rintro σ H4 ⟨sm2,⟨u5,u6,rfl⟩,al2⟩;refine⟨s2.trans sm2,⟨_,_,_,_,rfl⟩,λk' j' h1 h2 h3' h4=>?_⟩;rcases S0.mp h1 with h|h
    ·exact al k' j' h h2 h3' h4
    ·subst h;exact al2 j' h3' h3' h4
  ·rintro σ H2 ⟨sm,⟨u3,u4,u5,u6,rfl⟩,al⟩;exact k1 (λk' j' h1 h2 h3'=>al k' j' h1 h1 h2 h3') H2 sm
end
theorem Ed.lev{G:Gv}:∀{l f r:Nat},Ak G f (l:Int)->Ed G l f r->∃n,n+1<=l/\Ak G r ((n+1:Nat):Int)
 |0,_,_,_,h=>h.elim
 |1,f,r,hl,h=>by
  have h:r=f:=h;subst h;exact⟨0,C0 _,hl⟩
 |n+2,f,r,hl,h=>by
  apply AT;intro G_ hG_;obtain⟨qs,ps,d,h⟩:=h;apply hG_;clear hG_ G_;rcases h with ⟨_,rfl⟩|⟨_,m,e,h⟩
  ·exact⟨n+1,C0 _,hl⟩
  ·obtain⟨k,hk,lk⟩:=Ed.lev (l:=n+1) ⟨_,e,by show(n:Int)+1=_;lia⟩ h;exact⟨k,by lia,lk⟩
section
variable{P:Program}{w:World}{K:PySem.W.Frag}{mg:Str->Option Value}{base:Heap}{a:Ad}
inductive Ws(a:Ad)(vs:List V)(H:Hp)(Q:VK):Prop
 |mk (g:GA) (G:Gv) (f n:Nat) (_:vs=[.ref g.p,.int f]) (_:Bn a H g G) (_:Ak G f ((n+1:Nat):Int)) (_:G.length<8800000) (_:∀(r:Nat)(G':Gv)(H':Hp),Fr g H H'->Bn a H' g G'->AG G G' 48->Ed G' (n+1) f r->Q (.int r) H'):Ws a vs H Q
def Mq(a:Ad):Sp:=λvs H Q _=>Ws a vs H Q
theorem ok_trim{f:Addr}{fd:FuncData}(F:Fun K "trimmed" "trimmed" Li f fd)(T:Top K mg a)(a7:BK P w K mg base CX0 3 a.c_Grove "level_of" Ba (LO a))(aZ:Cal P w K mg base CX0 1 "is_bare_around" DF (spBA a))(bR:Cal P w K mg base CX0 3 "middle_of" Ig (UR a)):AJ P w K mg base CX0 4 f fd FI (Mq a):=by
 refine F.ok IZ (λvs H Q E h=>?_) (λcdv A outer s H vs Q E hr h=>?_)
 ·apply AT;intro G_ hG_;obtain⟨g,G,f',n,rfl,_⟩:=h;apply hG_;clear hG_ G_;rfl
 ·apply AT;intro G_ hG_;obtain⟨g,G,f',n,rfl,fu,hl,few,k⟩:=h;obtain⟨q,eq,lq⟩:=id hl;apply hG_;clear hG_ G_;have n48:n+1<=48:=by have:=(fu.ok.lev eq).2;lia
  refine⟨_,(Ac (AN (Ax GO (AF (pv 0) a7 (rm hr) An (Aa (pv 1) Ab)) (BI rfl T.k_LEAST_LEVEL) (AC _)) (Ag Bj) AB) (Ac (Ao (i:=2) IZ.nd rfl (Or.inl rfl) (pv 1)) (Ac (Ey W2 (PW.pt (Ic (Ax Qv (Aj Aw (Az (pv 0) rfl) (pv 2) (λ_ _=>rfl)) (BI rfl T.k_LEAST_LEVEL) (AC _)) (EV (CY (Aq aZ (rm hr) rfl An (Aa (pv 0) (Aa (pv 2) Ab))))))) (Ag (Ao (i:=2) IZ.nd rfl (Or.inl rfl) (Aq bR (rm hr) rfl An (Aa (pv 0) (Aa (pv 2) Ab)))))) (Ag (As (pv 2)))))),?_⟩
  try dsimp only[cxK]
  refine xq1 rfl ⟨g.p,g.dx,(xq1 rfl ⟨fu.at'.hp,DI g,(xq1 rfl ⟨g,G,f',q,rfl,fu.at',eq,(xq2 rfl rfl (xq1 rfl ?_))⟩)⟩)⟩;rw[V3 (by lia:¬q.lev<1)];refine Bb (xq1 rfl ?_);refine⟨λm σ H2=>∃(G':Gv)(c:Nat),σ=[some (.ref g.p),some (.int f'),some (.int c)]/\Fr g H H2/\Bn a H2 g G'/\AG G G' (n-m)/\m<=n/\Ak G' c ((m+1:Nat):Int)/\∀(r:Nat)(G'':Gv)(k:Nat),AG G' G'' k->Ed G'' (m+1) c r->Ed G'' (n+1) f' r,⟨n,G,f',rfl,Fr.refl g H,fu,(AG.refl fu.ok).mono A1,C0 _,hl,λ_ _ _ _ h=>h⟩,?_⟩;rintro m σ H2 z3_;apply AT;intro G_ hG_;obtain⟨G',c,rfl,fr,fu2,go,mn,lc,tr⟩:=z3_;apply hG_;clear hG_ G_;have gf:=go.few;obtain⟨qc,ec,lqc⟩:=id lc;refine xwf rfl rfl fu2.at'.hp T.cl_Grove T.na_Grove_levels (EK g) (xwi rfl rfl rfl (SqL.of fu2.at'.lv) (Al (by rw[B9,ec];rfl)) (xq2 rfl rfl (xq1 rfl ?_)));cases m with
  |zero =>
   rw[V3 (by lia:¬(1:Int)<qc.lev)];exact Bb (Bb (xq1 rfl (k c G' H2 fr fu2 (go.mono A1) (tr c G' 0 (AG.refl fu2.ok) rfl))))
  |succ m =>
   rw[V1 (by lia:(1:Int)<qc.lev)];obtain⟨qs,ps,dp⟩:=deep_of fu2.ok lc;refine BT (xw2 rfl rfl ⟨g,G',c,m,qs,ps,rfl,fu2,dp,by lia,λba H3 s3=>⟨true,rfl,BT ?_⟩,λnba H3 s3=>⟨false,rfl,Bb ?_⟩⟩)
   ·refine⟨fun σ' H'=>∃(G2:Gv)(c2:Nat),σ'=[some (.ref g.p),some (.int f'),some (.int c2)]/\Fr g H H'/\Bn a H' g G2/\AG G G2 (n-m)/\m<=n/\Ak G2 c2 ((m+1:Nat):Int)/\∀(r:Nat)(G'':Gv)(k:Nat),AG G2 G'' k->Ed G'' (m+1) c2 r->Ed G'' (n+1) f' r,fun σ' H' z=>⟨m,by lia,z⟩,?_⟩;refine xw2 rfl rfl ⟨g,G',c,m,qs,ps,rfl,fu2.at'.same s3,fu2.ok,dp,by lia,by lia,λc2 G2 H4 fr4 hg4 go4 e4=>?_⟩;have fu4:=(fu2.same s3).fr fr4 hg4 go4;refine⟨G2,c2,rfl,fr.trans ((AA.fr s3).trans fr4),fu4,(go.trans go4).mono A1,by lia,⟨_,e4,by show(m:Int)+1=_;lia⟩,λr G'' k' go5 t5=>?_⟩;exact tr r G'' _ (go4.trans go5) ⟨qs,ps,dp.app (go4.trans go5),.inr ⟨ba,c2,go5.get e4,t5⟩⟩
   ·exact xq1 rfl (k c G' H3 (fr.trans (AA.fr s3)) (fu2.same s3) (go.mono A1) (tr c G' 0 (AG.refl fu2.ok) ⟨qs,ps,dp,.inl ⟨nba,rfl⟩⟩))
def LL(G:Gv)(n f:Nat):Nat->Nat->Prop
 |0,w=>w=f
 |k+1,w=>∃u,LL G n f k u/\Wid G (n+k) u w
theorem LL.app{G G':Gv}{m n f:Nat}(go:AG G G' m):∀{k w:Nat},LL G n f k w->LL G' n f k w
 |0,_,h=>h
 |k+1,w,h=>by
  obtain⟨u,h1,h2⟩:=h;exact⟨u,LL.app go h1,h2.app go⟩
inductive SpWO(a:Ad)(vs:List V)(H:Hp)(Q:VK):Prop
 |mk (g:GA) (G:Gv) (f n:Nat) (t:Addr) (x y wd ht:Int) (_:vs=[.ref g.p,.int f,.ref t]) (_:Bn a H g G) (_:Ak G f ((n+1:Nat):Int)) (_:n<=40) (_:H t=some (.tup [.int x,.int y,.int wd,.int ht])) (_:GH x y wd ht (2^40)) (_:G.length<8700000) (_:∀(k w:Nat)(G':Gv)(H':Hp),Fr g H H'->Bn a H' g G'->AG G G' (5*k)->n+k<=40->LL G' n f k w->Ak G' w ((n+k+1:Nat):Int)->GH x y wd ht (2^(n+k))->(∀j,j<k->¬GH x y wd ht (2^(n+j)))->Q (.int w) H'):SpWO a vs H Q
def spWO(a:Ad):Sp:=λvs H Q _=>SpWO a vs H Q
theorem ok_wo{f:Addr}{fd:FuncData}(F:Fun K "widened_over" "widened_over" Er f fd)(T:Top K mg a)(aB:Cal P w K mg base CX0 1 "lies_within" CO Qg)(aH:Cal P w K mg base CX0 4 "reach_of" DE (Iy a))(b9:Cal P w K mg base CX0 4 "widened" IA (Sy a)):AJ P w K mg base CX0 5 f fd Ez (spWO a):=by
 refine F.ok DW (λvs H Q E h=>?_) (λcdv A outer s H vs Q E hr h=>?_)
 ·apply AT;intro G_ hG_;obtain⟨g,G,f',n,t,x,y,wd,ht,rfl,_⟩:=h;apply hG_;clear hG_ G_;rfl
 ·apply AT;intro G_ hG_;obtain⟨g,G,f',n,t,x,y,wd,hh,rfl,fu,hl,n40,ht,li,few,k⟩:=h;apply hG_;clear hG_ G_;refine⟨_,(Ac (Ao (i:=3) DW.nd rfl (Or.inl rfl) (pv 1)) (Ac (Ey W2 (Ds (CY (Aq aB (rm hr) rfl An (Aa (pv 2) (Aa (Aq aH (rm hr) rfl An (Aa (pv 0) (Aa (pv 3) Ab))) Ab))))) (Ag (Ao (i:=3) DW.nd rfl (Or.inl rfl) (Aq b9 (rm hr) rfl An (Aa (pv 0) (Aa (pv 3) Ab)))))) (Ag (As (pv 3))))),?_⟩
  try dsimp only[cxK]
  refine xq1 rfl ?_;refine⟨λm σ H2=>∃(G':Gv)(c j:Nat),σ=[some (.ref g.p),some (.int f'),some (.ref t),some (.int c)]/\Fr g H H2/\Bn a H2 g G'/\AG G G' (5*j)/\n+j+m=40/\Ak G' c ((n+j+1:Nat):Int)/\LL G' n f' j c/\∀i,i<j->¬GH x y wd hh (2^(n+i)),⟨40-n,G,f',0,rfl,Fr.refl g H,fu,AG.refl fu.ok,by lia,hl,rfl,λi hi=>absurd hi (N6 _)⟩,?_⟩;rintro m σ H2 z3_;apply AT;intro G_ hG_;obtain⟨G',c,j,rfl,fr,fu2,go,e40,lc,wn,no⟩:=z3_;apply hG_;clear hG_ G_;have gf:=go.few;have ht2:=fr.tup fu.at' ht;refine xq1 rfl (xq1 rfl (xq1 rfl ⟨g,G',c,n+j,rfl,fu2.at',lc,by lia,t,x,y,wd,hh,_,rfl,ht2,_,rfl,?_⟩));by_cases hL:GH x y wd hh (2^(n+j))
  ·rw[V1 hL];exact Bb (xq1 rfl (k j c G' H2 fr fu2 go A1 wn lc hL no))
  ·rw[V3 hL];have m0:m≠0:=λz=>by
    subst z;have:n+j=40:=by lia
    rw[this]at hL;exact hL li
   refine BT ⟨fun σ' H'=>∃(G2:Gv)(c2 j2:Nat),σ'=[some (.ref g.p),some (.int f'),some (.ref t),some (.int c2)]/\Fr g H H'/\Bn a H' g G2/\AG G G2 (5*j2)/\n+j2+(m-1)=40/\Ak G2 c2 ((n+j2+1:Nat):Int)/\LL G2 n f' j2 c2/\∀i,i<j2->¬GH x y wd hh (2^(n+i)),fun σ' H' z=>⟨m-1,by lia,z⟩,?_⟩;refine xw2 rfl rfl ⟨g,G',c,n+j,rfl,fu2,lc,by lia,by lia,λc2 G2 H3 fr3 hg3 go3 wi=>?_⟩;refine⟨G2,c2,j+1,rfl,fr.trans fr3,fu2.fr fr3 hg3 go3,(go.trans go3).mono A1,by lia,?_,⟨c,wn.app go3,wi⟩,λi hi=>?_⟩
   ·have:=wi.lev;rw[show n+(j+1)+1=n+j+2 by lia];exact this
   ·rcases S0.mp hi with h|h
    ·exact no i h
    ·rw[h];exact hL
end
def st4(x y z w k j:Nat)(i:Nat):Nat:=if i=k then j else f4 x y z w i
def quad(l x y:Nat):Nat:=x/2^l+2*(y/2^l)
theorem EZ{l x:Nat}(h:x<2^(l+1)):x/2^l<2:=by
 rw[T3 (R8 A3),U6,<-D9];exact h
theorem CT{l x y:Nat}(hx:x<2^(l+1))(hy:y<2^(l+1)):quad l x y<4:=by
 have h1:=EZ hx;have h2:=EZ hy;unfold quad;lia
theorem FH(l:Nat):((2^l:Nat):Int)=(2:Int)^l:=L9 2 l
theorem quad_c(l x y:Nat):(x:Int)/2^l+2*((y:Int)/2^l)=((quad l x y:Nat):Int):=by
 unfold quad;rw[<-FH,P1,Q5,Int.natCast_ediv,Int.natCast_ediv];rfl
theorem mod_c(l x:Nat):(x:Int)%2^l=((x%2^l:Nat):Int):=by rw[<-FH,Int.natCast_emod]
theorem set4(x y z w j:Nat){k:Nat}(hk:k<4):([V.int (x:Int),V.int (y:Int),V.int (z:Int),V.int (w:Int)].set k (.int j))=[V.int (st4 x y z w k j 0:Int),V.int (st4 x y z w k j 1:Int),V.int (st4 x y z w k j 2:Int),V.int (st4 x y z w k j 3:Int)]:=by
 match k,hk with
 |0,_=>rfl
 |1,_=>rfl
 |2,_=>rfl
 |3,_=>rfl
def Rep(G:Gv)(s:Nat):Nat->Nat->Nat->Nat->Nat->Prop
 |0,_,_,_,r=>r=s
 |l+1,i,x,y,r=>∃(q:Sq)(a b c d j:Nat),GG G l i q a b c d/\Rep G s l (f4 a b c d (quad l x y)) (x%2^l) (y%2^l) j/\G[r]?=some ⟨[(st4 a b c d (quad l x y) j 0:Int),(st4 a b c d (quad l x y) j 1:Int),(st4 a b c d (quad l x y) j 2:Int),(st4 a b c d (quad l x y) j 3:Int)],(l:Int)+1⟩
theorem Rep.app{G G':Gv}{m s:Nat}(go:AG G G' m):∀{l i x y r:Nat},Rep G s l i x y r->Rep G' s l i x y r
 |0,_,_,_,_,h=>h
 |l+1,i,x,y,r,h=>by
  obtain⟨q,a,b,c,d,j,nd,h1,e⟩:=h;exact⟨q,a,b,c,d,j,nd.app go,Rep.app go h1,go.get e⟩
theorem Rep.lev{G:Gv}(ok:GOk G){s:Nat}(hs:s<8):∀{l i x y r:Nat},Rep G s l i x y r->Ak G r (l:Int)
 |0,_,_,_,r,h=>by
  have h:r=s:=h;subst h;exact⟨_,ok.leaf r hs,rfl⟩
 |l+1,_,_,_,_,h=>by
  obtain⟨q,a,b,c,d,j,nd,h1,e⟩:=h;exact⟨_,e,by show(l:Int)+1=_;lia⟩
section
variable{P:Program}{w:World}{K:PySem.W.Frag}{mg:Str->Option Value}{base:Heap}{a:Ad}
inductive SpRep(a:Ad)(n:Nat)(vs:List V)(H:Hp)(Q:VK):Prop
 |mk (g:GA) (G:Gv) (i l x y s:Nat) (_:vs=[.ref g.p,.int i,.int x,.int y,.int s]) (_:AI a H g G) (_:GOk G) (_:Ak G i (l:Int)) (_:l<n) (_:x<2^l) (_:y<2^l) (_:s<8) (_:G.length+l<8900000) (_:∀(r:Nat)(G':Gv)(H':Hp),Fr g H H'->AI a H' g G'->AG G G' l->Rep G' s l i x y r->Q (.int r) H'):SpRep a n vs H Q
def Sz(a:Ad)(n:Nat):Sp:=λvs H Q _=>SpRep a n vs H Q
theorem Vn{f:Addr}{fd:FuncData}(F:Fun K "replaced" "replaced" Ja f fd)(T:Top K mg a)(hm:mg "replaced" = some (.ref f))(Bi:Cu K fd EA [])(aN:BK P w K mg base CX0 3 a.c_Grove "leaf" Ek (OM a))(a6:BK P w K mg base CX0 2 a.c_Grove "linked" AQ (DV a)):∀n,AJ P w K mg base CX0 (n+4) f fd EA (Sz a n)
 |0=>by
  refine F.ok De (λvs H Q E h=>?_) (λcdv A outer s H vs Q E hr h=>?_)
  ·obtain⟨g,G,i,l,x,y,s,rfl,_,_,_,h0,_⟩:=h;exact absurd h0 (N6 _)
  ·obtain⟨g,G,i,l,x,y,s,rfl,_,_,_,h0,_⟩:=h;exact absurd h0 (N6 _)
 |n+1=>by
  have bD:Cal P w K mg base CX0 (n+4) "replaced" EA (Sz a n):=⟨f,fd,Vn F T hm Bi aN a6 n,hm,F.kp,Bi⟩
  refine F.ok De (λvs H Q E h=>?_) (λcdv A outer s H vs Q E hr h=>?_)
  ·obtain⟨g,G,i,l,x,y,s,rfl,_⟩:=h;rfl
  ·obtain⟨g,G,i,l,x,y,st,rfl,hg,ok,hl,ln,hx,hy,s8,few,k⟩:=h;obtain⟨q0,e0,l0⟩:=id hl;refine⟨_,(Ac (Ao (i:=5) De.nd rfl (Or.inl rfl) (Aj Aw (Az (pv 0) rfl) (pv 1) (λ_ _=>rfl))) (Ac (AN (Ax CQ (pv 5) Ae (AC _)) (Ag (As (AF (pv 0) aN (rm hr) An (Aa (pv 4) Ab)))) AB) (Ac (Ao (i:=6) De.nd rfl (Or.inl rfl) (AK Lx Ae (AK Bf (pv 5) Ae))) (Ac (Ao (i:=7) De.nd rfl (Or.inl rfl) (BY PH rfl T.b_list PyProof.Rows.boot_list (Aa (Aj Aw (Az (pv 0) rfl) (pv 1) (λ_ _=>rfl)) Ab))) (Ac (Ao (i:=8) De.nd rfl (Or.inl rfl) (AK Bw (AK Qw (pv 2) (pv 6)) (AK Jj Ae (AK Qw (pv 3) (pv 6))))) (Ac (ps_asg (Aq bD (rm hr) rfl An (Aa (pv 0) (Aa (Aj Aw (pv 7) (pv 8) (λ_ _=>rfl)) (Bl Cg (pv 2) (pv 6) (Bl Cg (pv 3) (pv 6) (Aa (pv 4) Ab)))))) (pg_sub (pv 7) (pv 8) UZ)) (Ag (As (AF (pv 0) a6 (rm hr) An (Aa (BY BS rfl T.b_tuple Y7 (Aa (pv 7) Ab)) Ab)))))))))),?_⟩
   try dsimp only[cxK]
   refine⟨_,rfl,g.p,_,g.dx,_,_,rfl,hg.hp,T.cl_Grove,T.na_Grove_levels,EK g,_,rfl,g.lv,_,(i:Int),.int q0.lev,rfl,rfl,SqL.of hg.lv,Al (by rw[B9,e0];rfl),?_⟩;cases l with
   |zero =>
    rw[l0];exact xq1 rfl ⟨rfl,(xq1 rfl (BT (xwn rfl rfl hg.hp (SN g) rfl ⟨g.p,(st:Int),rfl,by lia,by lia,k st G H (Fr.refl g H) hg (AG.refl ok) rfl⟩)))⟩
   |succ l =>
    have l0':q0.lev=(l:Int)+1:=by rw[l0];lia
    have l48:=(ok.lev e0).2;have lt64:=pow2_lt (l:=l) A1;have lpos:=OW l;obtain⟨q,p0,p1,p2,p3,nd⟩:=BC ok hl;obtain⟨ts,t,h3,et,ht⟩:=Gn hg nd;refine xq1 rfl ⟨rfl,(xq1 rfl ?_)⟩;rw[V3 (by intro z;injection z with z;lia)];refine Bb (xwb rfl rfl rfl (xq2 rfl rfl ⟨⟨by lia,by lia,by decide⟩,?_⟩));rw[show(λ(i j:Int)=>V.int (i*2^j.toNat)) 1 (q0.lev-1)=V.int (2^l)from W0 V.int (OF l l0')];refine xwf rfl rfl hg.hp T.cl_Grove T.na_Grove_parts (Ci g) (xwi rfl rfl rfl (SqL.of h3) (Al et) ⟨t,(xq1 rfl ⟨.inr (SqT.of ht),λL hL=>?_⟩)⟩);have aL:Ap g L:=Ap.new hg hL;have s1:=Ay (o:=.lst [.int p0,.int p1,.int p2,.int p3]) hL;have hL1:upd H L (.lst [.int p0,.int p1,.int p2,.int p3]) L=some (.lst [.int p0,.int p1,.int p2,.int p3]):=Af;generalize upd H L (.lst [.int p0,.int p1,.int p2,.int p3])=H1 at s1 hL1⊢;have hg1:=hg.same s1;have qk:=CT hx hy;refine xw2 rfl rfl (xq2 rfl rfl ⟨⟨lpos,lt64⟩,(xw2 rfl rfl (xq2 rfl rfl ⟨⟨lpos,lt64⟩,(xq2 rfl rfl ⟨.inl ⟨by decide,by decide⟩,(xq2 rfl rfl ?_)⟩)⟩))⟩);rw[show(λ(i j:Int)=>V.int (i+j)) ((x:Int)/2^l) (2*((y:Int)/2^l))=V.int ((quad l x y:Nat):Int)from W0 V.int (quad_c l x y)];have atq:[V.int (p0:Int),V.int (p1:Int),V.int (p2:Int),V.int (p3:Int)][quad l x y]?=some (.int (f4 p0 p1 p2 p3 (quad l x y):Int)):=by
     generalize quad l x y=kk at qk⊢
     match kk,qk with
     |0,_=>rfl
     |1,_=>rfl
     |2,_=>rfl
     |3,_=>rfl
    have lvq:Ak G (f4 p0 p1 p2 p3 (quad l x y)) (l:Int):=(nd.nat qk).2;refine xw3 rfl rfl rfl (xq4 rfl rfl (SqL.of hL1) (Al atq) (xw2 rfl rfl (xq2 rfl rfl ⟨lpos,(xw2 rfl rfl (xq2 rfl rfl ⟨lpos,(xq1 rfl ?_)⟩))⟩)));refine⟨g,G,f4 p0 p1 p2 p3 (quad l x y),l,x%2^l,y%2^l,st,by rw[<-mod_c,<-mod_c];rfl,hg1,ok,lvq,by lia,J1 _ (R8 A3),J1 _ (R8 A3),s8,by lia,λj G1 H2 fr hg2 go rp=>?_⟩;have gf:=go.few;have hL2:=fr.get aL hL1;refine xw2 rfl rfl ⟨L,_,((quad l x y:Nat):Int),quad l x y,rfl,rfl,hL2,by unfold ixN;rw[V2 A1,V2 (by show((quad l x y:Nat):Int)<((4:Nat):Int);lia),L7],?_⟩;rw[set4 p0 p1 p2 p3 j qk];have hg3:=hg2.put (o:=.lst [V.int (st4 p0 p1 p2 p3 (quad l x y) j 0:Int),V.int (st4 p0 p1 p2 p3 (quad l x y) j 1:Int),V.int (st4 p0 p1 p2 p3 (quad l x y) j 2:Int),V.int (st4 p0 p1 p2 p3 (quad l x y) j 3:Int)]) hL2 aL.1 aL.2.1;have hL3:upd H2 L (.lst [V.int (st4 p0 p1 p2 p3 (quad l x y) j 0:Int),V.int (st4 p0 p1 p2 p3 (quad l x y) j 1:Int),V.int (st4 p0 p1 p2 p3 (quad l x y) j 2:Int),V.int (st4 p0 p1 p2 p3 (quad l x y) j 3:Int)]) L=some (.lst [V.int (st4 p0 p1 p2 p3 (quad l x y) j 0:Int),V.int (st4 p0 p1 p2 p3 (quad l x y) j 1:Int),V.int (st4 p0 p1 p2 p3 (quad l x y) j 2:Int),V.int (st4 p0 p1 p2 p3 (quad l x y) j 3:Int)]):=Af;have fr3:Fr g H (upd H2 L (.lst [V.int (st4 p0 p1 p2 p3 (quad l x y) j 0:Int),V.int (st4 p0 p1 p2 p3 (quad l x y) j 1:Int),V.int (st4 p0 p1 p2 p3 (quad l x y) j 2:Int),V.int (st4 p0 p1 p2 p3 (quad l x y) j 3:Int)])):=λb o e m1 m2 m3=>by
     rw[Ar (Av e hL)];exact fr _ _ (s1 _ _ e) m1 m2 m3
    generalize upd H2 L (.lst [V.int (st4 p0 p1 p2 p3 (quad l x y) j 0:Int),V.int (st4 p0 p1 p2 p3 (quad l x y) j 1:Int),V.int (st4 p0 p1 p2 p3 (quad l x y) j 2:Int),V.int (st4 p0 p1 p2 p3 (quad l x y) j 3:Int)])=H3 at hg3 hL3 fr3⊢;refine xwn rfl rfl hg3.hp (BE g) rfl ⟨L,(xq1 rfl (.inl ⟨SqL.of hL3,λt4 ht4=>?_⟩))⟩;have s4:=Ay (o:=.tup [V.int (st4 p0 p1 p2 p3 (quad l x y) j 0:Int),V.int (st4 p0 p1 p2 p3 (quad l x y) j 1:Int),V.int (st4 p0 p1 p2 p3 (quad l x y) j 2:Int),V.int (st4 p0 p1 p2 p3 (quad l x y) j 3:Int)]) ht4;have ndG:=nd.app go;have lj:=rp.lev go.ok s8;have lst:∀ii,ii<4->Ak G1 (st4 p0 p1 p2 p3 (quad l x y) j ii) (l:Int):=λii hi=>by
     unfold st4;split
     ·exact lj
     ·exact(ndG.nat hi).2
    refine⟨g,G1,t4,_,_,_,_,(l:Int),rfl,hg3.same s4,go.ok,Af,⟨lst 0 A3,lst 1 A3,lst 2 A3,lst 3 A3⟩,by lia,by lia,λr G2 H4 fr4 hg4 go4 e4=>?_⟩;exact k r G2 H4 (fr3.trans ((AA.fr s4).trans fr4)) hg4 (go.trans go4) ⟨q,p0,p1,p2,p3,j,nd.app (go.trans go4),rp.app go4,e4⟩
structure IJ(G:Gv)(n f:Nat)(x y:Int)(s r:Nat)(k w i:Nat):Prop where
 le:n+k<=40
 wid:LL G n f k w
 lw:Ak G w ((n+k+1:Nat):Int)
 li:GH x y 1 1 (2^(n+k))
 no:∀j,j<k->¬GH x y 1 1 (2^(n+j))
 rep:Rep G s (n+k+1) w (x+2^(n+k)).toNat (y+2^(n+k)).toNat i
 tr:Ed G (n+k+1) i r
theorem ST{x y:Int}{m:Nat}(h:GH x y 1 1 (2^m)):(x+2^m).toNat<2^(m+1)/\(y+2^m).toNat<2^(m+1)/\0<=x+2^m/\0<=y+2^m:=by
 obtain⟨h1,h2,h3,h4⟩:=h;have e:=FH (m+1);rw[Ck]at e;have p:=OW m;refine⟨?_,?_,by lia,by lia⟩<;>lia
inductive Th(a:Ad)(vs:List V)(H:Hp)(Q:VK):Prop
 |mk (g:GA) (G:Gv) (f n:Nat) (x y:Int) (s:Nat) (_:vs=[.ref g.p,.int f,.int x,.int y,.int s]) (_:Bn a H g G) (_:Ak G f ((n+1:Nat):Int)) (_:n<=40) (_:GH x y 1 1 (2^40)) (_:s<8) (_:G.length<8000000) (_:∀(r k w i:Nat)(G':Gv)(H':Hp),Fr g H H'->Bn a H' g G'->AG G G' 400->IJ G' n f x y s r k w i->Q (.int r) H'):Th a vs H Q
def OJ(a:Ad):Sp:=λvs H Q _=>Th a vs H Q
theorem Vq{f:Addr}{fd:FuncData}(F:Fun K "planted" "planted" Lj f fd)(T:Top K mg a)(aB:Cal P w K mg base CX0 1 "lies_within" CO Qg)(aY:Cal P w K mg base CX0 2 "is_state" Gq spIS)(aH:Cal P w K mg base CX0 4 "reach_of" DE (Iy a))(bC:Cal P w K mg base CX0 5 "widened_over" Ez (spWO a))
  (bD:Cal P w K mg base CX0 54 "replaced" EA (Sz a 50)) (aM:Cal P w K mg base CX0 4 "trimmed" FI (Mq a)):AJ P w K mg base CX0 55 f fd Lu (OJ a):=by
 refine F.ok FW (λvs H Q E h=>?_) (λcdv A outer s H vs Q E hr h=>?_)
 ·obtain⟨g,G,f',n,x,y,st,rfl,_⟩:=h;rfl
 ·obtain⟨g,G,f',n,x,y,st,rfl,fu,hl,n40,li,s8,few,k⟩:=h;refine⟨_,(Ac (Ao (i:=5) FW.nd rfl (Or.inl rfl) (BX (Aa (pv 2) (Aa (pv 3) (Bh (Bh Ab)))))) (Ac (AN (Ds (CY (Aq aB (rm hr) rfl An (Aa (pv 5) (Aa (BI rfl T.k_LIMIT) Ab))))) (Ag Bj) AB) (Ac (AN (Ds (CY (Aq aY (rm hr) rfl An (Aa (pv 4) Ab)))) (Ag Bj) AB) (Ac (Ao (i:=6) FW.nd rfl (Or.inl rfl) (Aq bC (rm hr) rfl An (Aa (pv 0) (Aa (pv 1) (Aa (pv 5) Ab))))) (Ac (Ao (i:=7) FW.nd rfl (Or.inl rfl) (Aq aH (rm hr) rfl An (Aa (pv 0) (Aa (pv 6) Ab)))) (Ag (As (Aq aM (rm hr) rfl An (Aa (pv 0) (Aa (Aq bD (rm hr) rfl An (Aa (pv 0) (Aa (pv 6) (Bl Bw (pv 2) (pv 7) (Bl Bw (pv 3) (pv 7) (Aa (pv 4) Ab)))))) Ab)))))))))),?_⟩
  try dsimp only[cxK]
  refine xw2 rfl rfl ⟨(by show 4<=sizeLine;decide),λt ht=>?_⟩;have s1:=Ay (o:=.tup [.int x,.int y,.int 1,.int 1]) ht;have ht1:upd H t (.tup [.int x,.int y,.int 1,.int 1]) t=some (.tup [.int x,.int y,.int 1,.int 1]):=Af;generalize upd H t (.tup [.int x,.int y,.int 1,.int 1])=H1 at s1 ht1⊢;have fu1:=fu.same s1;refine xq1 rfl ⟨t,x,y,1,1,_,rfl,ht1,_,rfl,?_⟩;rw[V1 (show GH x y 1 1 1099511627776 from li)];refine Bb (xq1 rfl ⟨(st:Int),rfl,by lia,by lia,true,rfl,Bb ?_⟩);refine xw3 rfl rfl rfl ⟨g,G,f',n,t,x,y,1,1,rfl,fu1,hl,n40,ht1,li,by lia,λkk w' G1 H2 fr2 fu2 go2 le wn lw lf no=>?_⟩;have gf2:=go2.few;refine xw2 rfl rfl ⟨g,G1,w',n+kk,rfl,fu2.at',lw,by lia,?_⟩;obtain⟨b1,b2,b3,b4⟩:=ST lf;refine xw3 rfl rfl rfl (xw2 rfl rfl (xq2 rfl rfl (xw2 rfl rfl (xq2 rfl rfl (xq1 rfl ?_)))));refine⟨g,G1,w',n+kk+1,(x+2^(n+kk)).toNat,(y+2^(n+kk)).toNat,st,by rw[R4 b3,R4 b4];rfl,fu2.at',fu2.ok,lw,by lia,b1,b2,s8,by lia,λi' G2 H3 fr3 hg3 go3 rp=>?_⟩;have gf3:=go3.few;have fu3:=fu2.fr fr3 hg3 go3;have li':=rp.lev go3.ok s8;refine⟨g,G2,i',n+kk,rfl,fu3,li',by lia,λr G3 H4 fr4 fu4 go4 tr=>?_⟩;have go34:=go3.trans go4;exact k r kk w' i' G3 H4 ((AA.fr s1).trans (fr2.trans (fr3.trans fr4))) fu4 ((go2.trans go34).mono A1) ⟨le,wn.app go34,go34.lev lw,lf,no,rp.app go4,tr⟩
end
structure Cl where
 x:Int
 y:Int
 s:Nat
def Sk(H:Hp)(t:Addr)(c:Cl):Prop:=H t=some (.tup [.int c.x,.int c.y,.int c.s])
structure ClOk(c:Cl):Prop where
 li:GH c.x c.y 1 1 (2^40)
 s:c.s<8
theorem IJ.app{G G':Gv}{m n f:Nat}{x y:Int}{s r k w i:Nat}(go:AG G G' m)(h:IJ G n f x y s r k w i):IJ G' n f x y s r k w i:=⟨h.le,h.wid.app go,go.lev h.lw,h.li,h.no,h.rep.app go,h.tr.app go⟩
inductive PR(G:Gv):List Cl->Nat->Nat->Prop
 |nil:PR G [] 0 (bareN 1)
 |cons {cs:List Cl} {c:Cl} {n f r k w i m:Nat} (h:PR G cs n f) (l:Ak G f ((n+1:Nat):Int)) (p:IJ G n f c.x c.y c.s r k w i) (l':Ak G r ((m+1:Nat):Int)):PR G (c::cs) m r
theorem PR.app{G G':Gv}{m:Nat}(go:AG G G' m){cs:List Cl}{n f:Nat}(h:PR G cs n f):PR G' cs n f:=by
 induction h with
 |nil=>exact .nil
 |cons _ l p l' ih=>exact .cons ih (go.lev l) (p.app go) (go.lev l')
section
variable{P:Program}{w:World}{K:PySem.W.Frag}{mg:Str->Option Value}{base:Heap}{a:Ad}
inductive SpFld(a:Ad)(vs:List V)(H:Hp)(Q:VK):Prop
 |mk (g:GA) (G:Gv) (L:Addr) (ts:List Addr) (cs:List Cl) (_:vs=[.ref g.p,.ref L]) (_:Bn a H g G) (_:H L=some (.lst (ts.map V.ref))) (_:L≠g.lv) (_:L≠g.pt) (_:Paired (Sk H) ts cs) (_:(∀c∈cs,ClOk c)) (_:G.length+400*cs.length<8000000) (_:∀(f n:Nat)(G':Gv)(H':Hp),Fr g H H'->Bn a H' g G'->AG G G' (400*cs.length)->n<=40->Ak G' f ((n+1:Nat):Int)->PR G' cs.reverse n f->Q (.int f) H'):SpFld a vs H Q
def UV(a:Ad):Sp:=λvs H Q _=>SpFld a vs H Q
theorem ok_fld{f:Addr}{fd:FuncData}(F:Fun K "field_of" "field_of" Je f fd)(T:Top K mg a)(aQ:Cal P w K mg base CX0 1 "bare_field" Ej (Mf a))(bY:Cal P w K mg base CX0 55 "planted" Lu (OJ a)):AJ P w K mg base CX0 56 f fd Jh (UV a):=by
 refine F.ok ES (λvs H Q E h=>?_) (λcdv A outer s H vs Q E hr h=>?_)
 ·obtain⟨g,G,L,ts,cs,rfl,_⟩:=h;rfl
 ·obtain⟨g,G,L,ts,cs,rfl,fu,hL,n1,n2,pr,oks,few,k⟩:=h;obtain⟨r0,e0⟩:=fu.g0;have lts:=W8 pr;refine⟨_,(Ac (Ao (i:=2) ES.nd rfl (Or.inl rfl) (Aq aQ (rm hr) rfl An (Aa (pv 0) Ab))) (Ac (Fu W2 rfl (Cs (pv 1)) (Ce (i:=3) ES.nd rfl (Or.inl rfl)) (Ag (Ao (i:=2) ES.nd rfl (Or.inl rfl) (Aq bY (rm hr) rfl An (Aa (pv 0) (Aa (pv 2) (Aa (Aj Am (pv 3) Ae (λ_ _=>rfl)) (Aa (Aj Am (pv 3) Ae (λ_ _=>rfl)) (Aa (Aj Am (pv 3) Ae (λ_ _=>rfl)) Ab))))))))) (Ag (As (pv 2))))),?_⟩
  try dsimp only[cxK]
  refine xq1 rfl ⟨g,G,rfl,fu,?_⟩;refine xq1 rfl ⟨L,rfl,⟨_,SqL.of hL⟩,?_⟩;refine Nf (xs:=ts.map V.ref) (λj σ H2=>∃(G':Gv)(f n:Nat)(u3:Option V),σ=[some (.ref g.p),some (.ref L),some (.int f),u3]/\Fr g H H2/\Bn a H2 g G'/\AG G G' (400*j)/\n<=40/\Ak G' f ((n+1:Nat):Int)/\PR G' (cs.take j).reverse n f) ⟨G,bareN 1,0,none,rfl,Fr.refl g H,fu,AG.refl fu.ok,by lia,FP e0 A1,.nil⟩ (λj σ H2 _ ⟨_,_,_,_,_,fr,_⟩=>SqL.of (fr _ _ hL n1 n2 (AD hL fu.at'.nm A4))) ?_ ?_
  ·rintro j v σ H2 ev ⟨G',f',n,u3,rfl,fr,fu2,go,n40,lf,fl⟩;rw[B9]at ev;obtain⟨t,et,rfl⟩:=D5.mp ev;obtain⟨c,ec,hc⟩:=PairedM.getL pr et;have cok:=oks c (D4 ec);have hj:j<cs.length:=(B6.mp ec).1;have hc2:=fr.tup fu.at' hc;have gf:=go.few;refine xw3 rfl rfl rfl (xq4 rfl rfl (SqT.of hc2) (Al (j:=0) rfl) (xwi rfl rfl rfl (SqT.of hc2) (Al (j:=1) rfl) (xwi rfl rfl rfl (SqT.of hc2) (Al (j:=2) rfl) ?_)));refine⟨g,G',f',n,c.x,c.y,c.s,rfl,fu2,lf,n40,cok.li,cok.s,by lia,λr kk w' i' G2 H3 fr3 fu3 go3 pl=>?_⟩;have li':=pl.rep.lev fu3.ok cok.s;obtain⟨m,lm,lr⟩:=Ed.lev li' pl.tr;have le:=pl.le;refine⟨G2,r,m,(xq1 rfl ⟨fr.trans fr3,fu3,(go.trans go3).mono A1,by lia,lr,?_⟩)⟩;rw[F8,ec,Q7,List.reverse_append];exact .cons (fl.app go3) (go3.lev lf) pl lr
  ·rintro σ H2 ⟨G',f',n,u3,rfl,fr,fu2,go,n40,lf,fl⟩;rw[B5,lts]at go fl;rw[L6]at fl;exact xq1 rfl (k f' n G' H2 fr fu2 go n40 lf fl)
end
def JU(G:Gv)(n f:Nat):Prop:=n=0\/∃m qs ps,n=m+1/\Ma G m f qs ps/\¬BA m ps
theorem JU.app{G G':Gv}{k n f:Nat}(go:AG G G' k)(h:JU G n f):JU G' n f:=by
 rcases h with h|⟨m,qs,ps,e,d,b⟩
 ·exact .inl h
 ·exact .inr ⟨m,qs,ps,e,d.app go,b⟩
end J
namespace J
open PySem L2
def CJ(G:Gv):Nat->Nat->Nat->Nat->Nat
 |0,i,_,_=>i
 |n+1,i,x,y=>match G[i]? with
  |some q=>CJ G n (q.parts.getD (quad n x y) 0).toNat (x%2^n) (y%2^n)
  |none=>0
theorem AX(n:Nat):0<2^n:=R8 A3
theorem Bv{G:Gv}{n i:Nat}{q:Sq}{a b c d:Nat}(h:GG G n i q a b c d){x y:Nat}(hx:x<2^(n+1))(hy:y<2^(n+1)):CJ G (n+1) i x y=CJ G n (f4 a b c d (quad n x y)) (x%2^n) (y%2^n):=by
 rw[show CJ G (n+1) i x y=(match G[i]? with|some q=>CJ G n (q.parts.getD (quad n x y) 0).toNat (x%2^n) (y%2^n)|none=>0)from rfl,h.g];show CJ G n (q.parts.getD (quad n x y) 0).toNat _ _=_;have:=(h.nat (CT hx hy)).1;rw[F2,this];rfl
theorem QY{G G':Gv}{k:Nat}(ok:GOk G)(go:AG G G' k):∀{n i x y:Nat},Ak G i (n:Int)->x<2^n->y<2^n->CJ G' n i x y=CJ G n i x y
 |0,_,_,_,_,_,_=>rfl
 |n+1,i,x,y,h,hx,hy=>by
  obtain⟨q,a,b,c,d,nd⟩:=BC ok h;rw[Bv nd hx hy,Bv (nd.app go) hx hy];exact QY ok go (nd.nat (CT hx hy)).2 (J1 _ (AX n)) (J1 _ (AX n))
theorem FM{G r:Gv}(e:G=G0++r)(ok:GOk G):∀{n x y:Nat},n<=48->x<2^n->y<2^n->CJ G n (bareN n) x y=0
 |0,_,_,_,_,_=>rfl
 |n+1,x,y,hn,hx,hy=>by
  obtain⟨q,a,b,c,d,nd⟩:=BC ok (FP e (n:=n+1) hn);have bn:a=bareN n/\b=bareN n/\c=bareN n/\d=bareN n:=by
   have g:=nd.g;rw[show bareN (n+1)=8+n from rfl,Wa e n A1]at g;cases g;have s:[(bareN n:Int),(bareN n:Int),(bareN n:Int),(bareN n:Int)]=[(a:Int),(b:Int),(c:Int),(d:Int)]:=nd.ps;injection s with s0 s
   injection s with s1 s
   injection s with s2 s
   injection s with s3 s
   exact⟨(V8 s0).symm,(V8 s1).symm,(V8 s2).symm,(V8 s3).symm⟩
  obtain⟨rfl,rfl,rfl,rfl⟩:=bn;rw[Bv nd hx hy];have:f4 (bareN n) (bareN n) (bareN n) (bareN n) (quad n x y)=bareN n:=by unfold f4;split<;>rfl
  rw[this];exact FM e ok A1 (J1 _ (AX n)) (J1 _ (AX n))
theorem Gz{n k x y:Nat}(hk:k<4)(hx:x<2^n)(hy:y<2^n):(x+2^n*(k%2))<2^(n+1)/\(y+2^n*(k/2))<2^(n+1)/\quad n (x+2^n*(k%2)) (y+2^n*(k/2))=k/\(x+2^n*(k%2))%2^n=x/\(y+2^n*(k/2))%2^n=y:=by
 have p:=AX n;have e:2^(n+1)=2*2^n:=by rw[D9];lia
 unfold quad;rw[N5 _ _ p,N5 _ _ p,P6,P6,N8 hx,N8 hy,O7 hx,O7 hy,e];generalize 2^n=h at *
 match k,hk with
 |0,_=>exact⟨by lia,by lia,rfl,rfl,rfl⟩
 |1,_=>exact⟨by lia,by lia,rfl,rfl,rfl⟩
 |2,_=>exact⟨by lia,by lia,rfl,rfl,rfl⟩
 |3,_=>exact⟨by lia,by lia,rfl,rfl,rfl⟩
theorem LK{G:Gv}(ok:GOk G):∀{n i j:Nat},Ak G i (n:Int)->Ak G j (n:Int)->(∀x y,x<2^n->y<2^n->CJ G n i x y=CJ G n j x y)->i=j
 |0,i,j,_,_,h=>h 0 0 A3 A3
 |n+1,i,j,hi,hj,h=>by
  obtain⟨q,a,b,c,d,nd⟩:=BC ok hi;obtain⟨q',a',b',c',d',nd'⟩:=BC ok hj;have key:∀k,k<4->f4 a b c d k=f4 a' b' c' d' k:=λk hk=>by
   refine LK ok (nd.nat hk).2 (nd'.nat hk).2 λx y hx hy=>?_;obtain⟨h1,h2,h3,h4,h5⟩:=Gz hk hx hy;have:=h _ _ h1 h2;rw[Bv nd h1 h2,Bv nd' h1 h2,h3,h4,h5]at this;exact this
  have k0:a=a':=key 0 A3;have k1:b=b':=key 1 A3;have k2:c=c':=key 2 A3;have k3:d=d':=key 3 A3;subst k0 k1 k2 k3;exact ok.one nd.g nd'.g (nd.ps.trans nd'.ps.symm)
theorem Qf{n x X:Nat}(h1:x/2^n=X/2^n)(h2:x%2^n=X%2^n):x=X:=by
 rw[<-O3 x (2^n),<-O3 X (2^n),h1,h2]
theorem Qn{G:Gv}(ok:GOk G){s:Nat}(hs:s<8):∀{n i X Y r x y:Nat},X<2^n->Y<2^n->x<2^n->y<2^n->Rep G s n i X Y r->CJ G n r x y=if x=X/\y=Y then s else CJ G n i x y
 |0,i,X,Y,r,x,y,hX,hY,hx,hy,h=>by
  have h:r=s:=h;have e1:X=0:=T7.mp hX;have e2:Y=0:=T7.mp hY;have e3:x=0:=T7.mp hx;have e4:y=0:=T7.mp hy;subst e1 e2 e3 e4 h;rfl
 |n+1,i,X,Y,r,x,y,hX,hY,hx,hy,h=>by
  obtain⟨q,a,b,c,d,j,nd,h1,e⟩:=h;have lj:=h1.lev ok hs;have lst:∀ii,ii<4->Ak G (st4 a b c d (quad n X Y) j ii) (n:Int):=λii hi=>by
   unfold st4;split
   ·exact lj
   ·exact(nd.nat hi).2
  have nr:GG G n r _ (st4 a b c d (quad n X Y) j 0) (st4 a b c d (quad n X Y) j 1) (st4 a b c d (quad n X Y) j 2) (st4 a b c d (quad n X Y) j 3):=⟨e,rfl,rfl,lst 0 A3,lst 1 A3,lst 2 A3,lst 3 A3⟩
  have qk:=CT hx hy;rw[Bv nr hx hy,Bv nd hx hy,Ng (st4 a b c d (quad n X Y) j) qk];have m:=AX n;have x2:=EZ hx;have y2:=EZ hy;have X2:=EZ hX;have Y2:=EZ hY;unfold st4;by_cases hq:quad n x y=quad n X Y
  ·rw[V2 hq,Qn ok hs (J1 _ m) (J1 _ m) (J1 _ m) (J1 _ m) h1,hq];have exy:x/2^n=X/2^n/\y/2^n=Y/2^n:=by
    unfold quad at hq;generalize x/2^n=A at *
    generalize X/2^n=B at *
    generalize y/2^n=C at *
    generalize Y/2^n=D at *
    lia
   obtain⟨ex,ey⟩:=exy;by_cases hxy:x=X/\y=Y
   ·rw[V2 hxy,V2 ⟨by rw[hxy.1],by rw[hxy.2]⟩]
   ·rw[V0 hxy,V0 λz=>hxy ⟨Qf ex z.1,Qf ey z.2⟩]
  ·rw[V0 hq,V0 λz=>hq (by rw[z.1,z.2])]
def fieldF(G:Gv)(n f:Nat)(x y:Int):Nat:=if -(2^n)<=x/\x<2^n/\-(2^n)<=y/\y<2^n then CJ G (n+1) f (x+2^n).toNat (y+2^n).toNat else 0
theorem EO{n:Nat}{x:Int}(h0:-(2^n)<=x)(h1:x<2^n):(x+2^n).toNat<2^(n+1):=by
 have e:=FH (n+1);rw[Ck]at e;lia
theorem DJ{G G':Gv}{k n f:Nat}(ok:GOk G)(go:AG G G' k)(h:Ak G f ((n+1:Nat):Int))(x y:Int):fieldF G' n f x y=fieldF G n f x y:=by
 unfold fieldF;split
 ·rename_i z;exact QY ok go h (EO z.1 z.2.1) (EO z.2.2.1 z.2.2.2)
 ·rfl
theorem Ps{h X:Nat}(u:Nat)(h1:h*u<=X)(h2:X<h*(u+1)):X/h=u/\X%h=X-h*u:=by
 have e:X/h=u:=Nat.div_eq_of_lt_le (by rw[U6];exact h1) (by rw[U6];exact h2);exact⟨e,by have:=O3 X h;rw[e]at this;lia⟩
theorem JJ(x n:Nat):x%2^(n+1)%2^n=x%2^n:=Nat.mod_mod_of_dvd x ⟨2,by rw[D9]⟩
theorem LJ{G:Gv}{n i:Nat}{qs:Nat->Nat}{ps:Nat->Nat->Nat}(h:Ma G n i qs ps){x y:Nat}(hx:x<2^(n+2))(hy:y<2^(n+2)):CJ G (n+2) i x y=CJ G n (ps (quad (n+1) x y) (quad n (x%2^(n+1)) (y%2^(n+1)))) (x%2^n) (y%2^n):=by
 obtain⟨q,nd⟩:=h.node;have qk:=CT (l:=n+1) hx hy;have hx1:x%2^(n+1)<2^(n+1):=J1 _ (AX _);have hy1:y%2^(n+1)<2^(n+1):=J1 _ (AX _);obtain⟨q',nk⟩:=h.sub _ qk;rw[Bv nd hx hy,Ng qs qk,Bv nk hx1 hy1,Ng (ps _) (CT hx1 hy1),JJ,JJ]
theorem bits{h u:Nat}(hu:u<2*h):(u+h)/(2*h)=u/h/\(u+h)%(2*h)/h=1-u/h/\(u+h)%h=u%h/\u/h<2:=by
 have p:0<h:=by lia
 rcases Nat.lt_or_ge u h with z|z
 ·have e1:u/h=0:=N8 z;have e2:(u+h)/(2*h)=0:=N8 A1;have e3:(u+h)%(2*h)=u+h:=O7 A1;have e4:(u+h)/h=1:=(Ps (X:=u+h) 1 A1 A1).1;exact⟨by rw[e1,e2],by rw[e3,e4,e1],Nat.add_mod_right u h,by lia⟩
 ·have e1:u/h=1:=(Ps 1 A1 A1).1;have e2:=Ps (h:=2*h) (X:=u+h) 1 A1 A1;have e3:(u+h-2*h*1)/h=0:=N8 A1;exact⟨by rw[e1,e2.1],by rw[e2.2,e3,e1],Nat.add_mod_right u h,by lia⟩
theorem Qr(n:Nat):2^(n+1)=2*2^n:=by rw[D9];lia
theorem VI{G:Gv}(ok:GOk G){n i m:Nat}{qs:Nat->Nat}{ps:Nat->Nat->Nat}(h:Ma G n i qs ps)(em:G[m]?=some ⟨[(ps 0 3:Int),(ps 1 2:Int),(ps 2 1:Int),(ps 3 0:Int)],(n:Int)+1⟩){u v:Nat}(hu:u<2^(n+1))(hv:v<2^(n+1)):CJ G (n+2) i (u+2^n) (v+2^n)=CJ G (n+1) m u v:=by
 have lp:∀k j,k<4->j<4->Ak G (ps k j) (n:Int):=λk j hk hj=>by
  obtain⟨q,nk⟩:=h.sub k hk;have:=(nk.nat hj).2;rw[Ng (ps k) hj]at this;exact this
 have nm:GG G n m _ (ps 0 3) (ps 1 2) (ps 2 1) (ps 3 0):=⟨em,rfl,rfl,lp 0 3 A3 A3,lp 1 2 A3 A3,lp 2 1 A3 A3,lp 3 0 A3 A3⟩
 have e1:=Qr n;have e2:2^(n+2)=2*2^(n+1):=Qr (n+1);have p:=AX n;rw[LJ h A1 A1,Bv nm hu hv];unfold quad;rw[e1];rw[e1]at hu hv;apply AT;intro G_ hG_;obtain⟨a1,a2,a3,a4⟩:=bits hu;obtain⟨b1,b2,b3,b4⟩:=bits hv;apply hG_;clear hG_ G_;rw[a1,a2,a3,b1,b2,b3];have two:∀{A:Nat},A<2->A=0\/A=1:=λ{A} h=>by lia
 have hu2:=two a4;have hv2:=two b4;rcases hu2 with z|z<;>rcases hv2 with z'|z'<;>rw[z,z']<;>rfl
theorem mid_iff'{m X Y:Nat}{x y:Int}(eX:(X:Int)=x+2^(m+1))(eY:(Y:Int)=y+2^(m+1))(hX:X<2^(m+2))(hY:Y<2^(m+2)):quad m (X%2^(m+1)) (Y%2^(m+1))+quad (m+1) X Y=3↔(-(2^m)<=x/\x<2^m/\-(2^m)<=y/\y<2^m):=by
 have p:=AX m;have e1:=Qr m;have e2:2^(m+2)=2*2^(m+1):=Qr (m+1);have c1:=FH m;have c2:=FH (m+1);rw[e1]at c2;unfold quad;rw[e1];rw[e2,e1]at hX hY;rw[<-c2]at eX eY;rw[<-c1];generalize 2^m=h at *
 have key:∀{X:Nat}{x:Int},(X:Int)=x+((2*h:Nat):Int)->X<2*(2*h)->(X%(2*h)/h+X/(2*h)=1 ↔ -(h:Int)<=x/\x<(h:Int))/\X%(2*h)/h<2/\X/(2*h)<2:=by
  intro X x e l;have h2:0<2*h:=by lia
  have q2:X/(2*h)<2:=by rw[T3 h2];exact l
  have r2:X%(2*h)<2*h:=J1 _ h2;have q1:X%(2*h)/h<2:=by rw[T3 p];exact r2
  have d2:=O3 X (2*h);have d1:=O3 (X%(2*h)) h;have m1:=J1 (X%(2*h)) p;refine⟨?_,q1,q2⟩;generalize X/(2*h)=u at *
  generalize X%(2*h)/h=v at *
  generalize X%(2*h)%h=t at *
  generalize X%(2*h)=rr at *
  have hu:u=0\/u=1:=by lia
  have hv:v=0\/v=1:=by lia
  rcases hu with rfl|rfl<;>rcases hv with rfl|rfl<;>simp only[Nat.mul_zero,Nat.mul_one,N2]at d1 d2<;>lia
 obtain⟨kx,x1,x2⟩:=key eX hX;obtain⟨ky,y1,y2⟩:=key eY hY;clear key;generalize X%(2*h)/h=A at *
 generalize X/(2*h)=B at *
 generalize Y%(2*h)/h=C at *
 generalize Y/(2*h)=D at *
 constructor
 ·intro z;have zx:=kx.mp A1;have zy:=ky.mp A1;exact⟨zx.1,zx.2,zy.1,zy.2⟩
 ·rintro z0_;apply AT;intro G_ hG_;obtain⟨z1,z2,z3,z4⟩:=z0_;apply hG_;clear hG_ G_;have zx:=kx.mpr ⟨z1,z2⟩;have zy:=ky.mpr ⟨z3,z4⟩;lia
theorem Oa{G r:Gv}(e0:G=G0++r)(ok:GOk G){n i m:Nat}(hn:n<=46){qs:Nat->Nat}{ps:Nat->Nat->Nat}(h:Ma G n i qs ps)(ba:BA n ps)(em:G[m]?=some ⟨[(ps 0 3:Int),(ps 1 2:Int),(ps 2 1:Int),(ps 3 0:Int)],(n:Int)+1⟩)(x y:Int):fieldF G (n+1) i x y=fieldF G n m x y:=by
 have s1:=Ck n;have p:=OW n;unfold fieldF;by_cases hin:-(2^n)<=x/\x<2^n/\-(2^n)<=y/\y<2^n
 ·apply AT;intro G_ hG_;obtain⟨a1,a2,a3,a4⟩:=hin;apply hG_;clear hG_ G_;rw[V2 ⟨by lia,by lia,by lia,by lia⟩,V2 ⟨a1,a2,a3,a4⟩];have hu:=EO a1 a2;have hv:=EO a3 a4;have c:=FH n;have ex:(x+2^(n+1)).toNat=(x+2^n).toNat+2^n:=by lia
  have ey:(y+2^(n+1)).toNat=(y+2^n).toNat+2^n:=by lia
  rw[ex,ey];exact VI ok h em hu hv
 ·rw[V0 hin];split
  ·rename_i z;apply AT;intro G_ hG_;obtain⟨z1,z2,z3,z4⟩:=z;apply hG_;clear hG_ G_;have hX:=EO z1 z2;have hY:=EO z3 z4;rw[LJ h hX hY];have ne:¬quad n ((x+2^(n+1)).toNat%2^(n+1)) ((y+2^(n+1)).toNat%2^(n+1))+quad (n+1) (x+2^(n+1)).toNat (y+2^(n+1)).toNat=3:=λq=>hin ((mid_iff' (R4 A1) (R4 A1) hX hY).mp q);rw[ba _ _ (CT hX hY) (CT (J1 _ (AX _)) (J1 _ (AX _))) ne];exact FM e0 ok A1 (J1 _ (AX _)) (J1 _ (AX _))
  ·rfl
theorem FU{G r0:Gv}(e0:G=G0++r0)(ok:GOk G):∀{n f r:Nat},n<=47->Ak G f ((n+1:Nat):Int)->Ed G (n+1) f r->∃m,m<=n/\Ak G r ((m+1:Nat):Int)/\JU G m r/\∀x y,fieldF G m r x y=fieldF G n f x y
 |0,f,r,_,hl,h=>by
  have h:r=f:=h;subst h;exact⟨0,C0 _,hl,.inl rfl,λ_ _=>rfl⟩
 |n+1,f,r,hn,hl,h=>by
  apply AT;intro G_ hG_;obtain⟨qs,ps,d,h⟩:=h;apply hG_;clear hG_ G_;rcases h with ⟨nb,rfl⟩|⟨ba,m,em,h⟩
  ·exact⟨n+1,C0 _,hl,.inr ⟨n,qs,ps,rfl,d,nb⟩,λ_ _=>rfl⟩
  ·obtain⟨k,hk,lk,tk,ek⟩:=FU e0 ok A1 ⟨_,em,by show(n:Int)+1=_;lia⟩ h;refine⟨k,by lia,lk,tk,λx y=>?_⟩;rw[ek x y,Oa e0 ok A1 d ba em x y]
theorem Tr{G r:Gv}(e0:G=G0++r)(ok:GOk G){n f w:Nat}(hn:n<=46)(h:Wid G n f w)(x y:Int):fieldF G (n+1) w x y=fieldF G n f x y:=by
 apply AT;intro G_ hG_;obtain⟨q,a,b,c,d,w0,w1,w2,w3,nd,ea,eb,ec,ed,ew⟩:=h.ex;apply hG_;clear hG_ G_;have lb:=FP e0 (n:=n) A1;have lv:∀{p:Nat}{l:List Int},G[p]?=some ⟨l,(n:Int)+1⟩->Ak G p ((n+1:Nat):Int):=λ{p l} e=>⟨_,e,by show(n:Int)+1=_;lia⟩
 have dp:Ma G n w (f4 w0 w1 w2 w3) (λk j=>if j+k=3 then f4 a b c d k else bareN n):=by
  refine⟨⟨_,ew,rfl,by show(n:Int)+2=_;lia,lv ea,lv eb,lv ec,lv ed⟩,λk hk=>?_⟩
  match k,hk with
  |0,_=>exact⟨_,ea,rfl,rfl,lb,lb,lb,nd.hx⟩
  |1,_=>exact⟨_,eb,rfl,rfl,lb,lb,nd.hy,lb⟩
  |2,_=>exact⟨_,ec,rfl,rfl,lb,nd.hz,lb,lb⟩
  |3,_=>exact⟨_,ed,rfl,rfl,nd.hw,lb,lb,lb⟩
 have g:=nd.g;have l:=nd.lev;have ps:=nd.ps;refine Oa e0 ok hn dp (λk j _ _ ne=>V0 ne) ?_ x y;rw[g];cases q with
 |mk pp ll=>cases ps;cases l;rfl
theorem IW{G r:Gv}(e0:G=G0++r)(ok:GOk G){n f:Nat}:∀{k w:Nat},n+k<=46->LL G n f k w->∀x y,fieldF G (n+k) w x y=fieldF G n f x y
 |0,w,_,h,x,y=>by
  have h:w=f:=h;subst h;rfl
 |k+1,w,hk,h,x,y=>by
  obtain⟨u,h1,h2⟩:=h;rw[show n+(k+1)=n+k+1 by lia,Tr e0 ok A1 h2 x y];exact IW e0 ok A1 h1 x y
theorem Qs{G r0:Gv}(e0:G=G0++r0)(ok:GOk G){n f s r k w i:Nat}{X Y:Int}(hs:s<8)(h:IJ G n f X Y s r k w i):∃m,m<=40/\Ak G r ((m+1:Nat):Int)/\JU G m r/\∀x y,fieldF G m r x y=if x=X/\y=Y then s else fieldF G n f x y:=by
 have le:=h.le;have li:=h.rep.lev ok hs;obtain⟨m,hm,lm,tm,em⟩:=FU e0 ok A1 li h.tr;refine⟨m,by lia,lm,tm,λx y=>?_⟩;rw[em x y,<-IW e0 ok A1 h.wid x y];apply AT;intro G_ hG_;obtain⟨b1,b2,b3,b4⟩:=ST h.li;obtain⟨l1,l2,l3,l4⟩:=h.li;apply hG_;clear hG_ G_;unfold fieldF;split
 ·rename_i z;apply AT;intro G_ hG_;obtain⟨z1,z2,z3,z4⟩:=z;apply hG_;clear hG_ G_;rw[Qn ok hs b1 b2 (EO z1 z2) (EO z3 z4) h.rep];by_cases hxy:x=X/\y=Y
  ·rw[V2 hxy,V2 ⟨by rw[hxy.1],by rw[hxy.2]⟩]
  ·rw[V0 hxy,V0 λq=>hxy ⟨by lia,by lia⟩]
 ·rename_i z;rw[V0 λq=>z ⟨by lia,by lia,by lia,by lia⟩]
theorem VN{G r:Gv}(e0:G=G0++r)(ok:GOk G){n i:Nat}(hn:n<=48)(h:Ak G i (n:Int))(ne:i≠bareN n):∃x y,x<2^n/\y<2^n/\CJ G n i x y≠0:=by
 refine W4 λz=>ne (LK ok h (FP e0 hn) λx y hx hy=>?_);rw[FM e0 ok hn hx hy];exact W4 λq=>z ⟨x,y,hx,hy,q⟩
theorem UB{G r:Gv}(e0:G=G0++r)(ok:GOk G){m f:Nat}(hm:m<=46)(h:JU G (m+1) f):∃x y:Int,¬(-(2^m)<=x/\x<2^m/\-(2^m)<=y/\y<2^m)/\fieldF G (m+1) f x y≠0:=by
 rcases h with h|⟨m',qs,ps,e,dp,nb⟩
 ·lia
 ·have:m'=m:=by lia
  subst this;have:∃k j,k<4/\j<4/\j+k≠3/\ps k j≠bareN m':=by
   refine W4 λz=>nb λk j hk hj ne=>W4 λq=>z ⟨k,j,hk,hj,ne,q⟩
  apply AT;intro G_ hG_;obtain⟨k,j,hk,hj,ne,nbare⟩:=this;obtain⟨qk,nk⟩:=dp.sub k hk;apply hG_;clear hG_ G_;have lp:Ak G (ps k j) (m':Int):=by
   have:=(nk.nat hj).2;rw[Ng (ps k) hj]at this;exact this
  obtain⟨u,v,hu,hv,hc⟩:=VN e0 ok A1 lp nbare;apply AT;intro G_ hG_;obtain⟨a1,a2,a3,a4,a5⟩:=Gz hj hu hv;obtain⟨b1,b2,b3,b4,b5⟩:=Gz (n:=m'+1) hk a1 a2;apply hG_;clear hG_ G_;generalize hX:u+2^m'*(j%2)+2^(m'+1)*(k%2)=X at *
  generalize hY:v+2^m'*(j/2)+2^(m'+1)*(k/2)=Y at *
  have c1:=FH (m'+1);have c2:=FH (m'+2);have s2:=Ck (m'+1);rw[s2]at c2;refine⟨(X:Int)-2^(m'+1),(Y:Int)-2^(m'+1),λz=>ne ?_,?_⟩
  ·have:=(mid_iff' (X:=X) (Y:=Y) A1 A1 b1 b2).mpr z;rw[b3,b4,b5,a3]at this;exact this
  ·unfold fieldF;rw[V2 ⟨by lia,by lia,by lia,by lia⟩,show((X:Int)-2^(m'+1)+2^(m'+1)).toNat=X by lia,show((Y:Int)-2^(m'+1)+2^(m'+1)).toNat=Y by lia,LJ dp b1 b2,b3,b4,b5,a3];have d1:X%2^m'=u:=by rw[<-JJ,b4,a4]
   have d2:Y%2^m'=v:=by rw[<-JJ,b5,a5]
   rw[d1,d2];exact hc
theorem EL{G r:Gv}(e0:G=G0++r)(ok:GOk G){n m f f':Nat}(hn:n<=47)(hm:m<=47)(lf:Ak G f ((n+1:Nat):Int))(lf':Ak G f' ((m+1:Nat):Int))(t:JU G n f)(t':JU G m f')(h:∀x y,fieldF G n f x y=fieldF G m f' x y):n=m/\f=f':=by
 have le:∀{n m f f':Nat},m<=47->JU G m f'->(∀x y,fieldF G n f x y=fieldF G m f' x y)->m<=n:=by
  intro n m f f' hm t' h;refine O8 λz=>?_;obtain⟨k,rfl⟩:∃k,m=k+1:=⟨m-1,by lia⟩
  obtain⟨x,y,out,lv⟩:=UB e0 ok A1 t';rw[<-h x y]at lv;unfold fieldF at lv;split at lv
  ·rename_i q;have:(2:Int)^n<=2^k:=by
    have:=N4 (show 0<2 by decide) (show n<=k by lia)
    exact_mod_cast this
   exact out ⟨by lia,by lia,by lia,by lia⟩
  ·exact lv rfl
 have e1:=le hm t' h;have e2:=le hn t λx y=>(h x y).symm;have e:n=m:=by lia
 subst e;refine⟨rfl,LK ok lf lf' λx y hx hy=>?_⟩;have c1:=FH n;have c2:=FH (n+1);have s2:=Ck n;rw[s2]at c2;have:=h ((x:Int)-2^n) ((y:Int)-2^n);unfold fieldF at this;rw[V2 ⟨by lia,by lia,by lia,by lia⟩,V2 ⟨by lia,by lia,by lia,by lia⟩,show((x:Int)-2^n+2^n).toNat=x by lia,show((y:Int)-2^n+2^n).toNat=y by lia]at this;exact this
structure Nr(L:Int->Int->Prop)(b:Bx):Prop where
 inn:∀u v,L u v->b.l<=u/\u<b.l+b.w/\b.t<=v/\v<b.t+b.h
 le:∃v,L b.l v
 to:∃u,L u b.t
 ri:∃v,L (b.l+b.w-1) v
 bo:∃u,L u (b.t+b.h-1)
theorem QI{l:List Int}(h:l≠[]):mnL l∈l/\∀x∈l,mnL l<=x:=by
 unfold mnL;cases e:l.min? with
 |none=>exact absurd (List.min?_eq_none_iff.mp e) h
 |some m=>exact List.min?_eq_some_iff.mp e
theorem QG{l:List Int}(h:l≠[]):mxL l∈l/\∀x∈l,x<=mxL l:=by
 unfold mxL;cases e:l.max? with
 |none=>exact absurd (List.max?_eq_none_iff.mp e) h
 |some m=>exact List.max?_eq_some_iff.mp e
theorem Tu{L:Int->Int->Prop}{bs:List Bx}(ne:bs≠[])(h1:∀b∈bs,∃M:Int->Int->Prop,Nr M b/\∀u v,M u v->L u v)(h2:∀u v,L u v->∃b∈bs,b.l<=u/\u<b.l+b.w/\b.t<=v/\v<b.t+b.h):Nr L (MX bs):=by
 have n1:bs.map (·.l)≠[]:=λz=>ne (P8.mp z);have n2:bs.map (·.t)≠[]:=λz=>ne (P8.mp z);have n3:(bs.map λb=>b.l+b.w)≠[]:=λz=>ne (P8.mp z);have n4:(bs.map λb=>b.t+b.h)≠[]:=λz=>ne (P8.mp z);obtain⟨m1,a1⟩:=QI n1;obtain⟨m2,a2⟩:=QI n2;obtain⟨m3,a3⟩:=QG n3;obtain⟨m4,a4⟩:=QG n4;obtain⟨b1,hb1,e1⟩:=D6.mp m1;obtain⟨b2,hb2,e2⟩:=D6.mp m2;obtain⟨b3,hb3,e3⟩:=D6.mp m3;obtain⟨b4,hb4,e4⟩:=D6.mp m4;unfold MX;refine⟨λu v q=>?_,?_,?_,?_,?_⟩
 ·obtain⟨b,hb,q1,q2,q3,q4⟩:=h2 u v q;have c1:=a1 _ (D6.mpr ⟨b,hb,rfl⟩);have c2:=a2 _ (D6.mpr ⟨b,hb,rfl⟩);have c3:=a3 _ (D6.mpr ⟨b,hb,rfl⟩);have c4:=a4 _ (D6.mpr ⟨b,hb,rfl⟩);dsimp only at c1 c2 c3 c4⊢;lia
 ·obtain⟨M,t,s⟩:=h1 b1 hb1;obtain⟨v,x⟩:=t.le;exact⟨v,by rw[e1]at x;exact s _ _ x⟩
 ·obtain⟨M,t,s⟩:=h1 b2 hb2;obtain⟨v,x⟩:=t.to;exact⟨v,by rw[e2]at x;exact s _ _ x⟩
 ·obtain⟨M,t,s⟩:=h1 b3 hb3;obtain⟨v,x⟩:=t.ri;refine⟨v,?_⟩;dsimp only at e3⊢;rw[e3]at x;have:=s _ _ x;rw[show mnL (bs.map (·.l))+(mxL (bs.map λb=>b.l+b.w)-mnL (bs.map (·.l)))-1=mxL (bs.map λb=>b.l+b.w)-1 by lia];exact this
 ·obtain⟨M,t,s⟩:=h1 b4 hb4;obtain⟨v,x⟩:=t.bo;refine⟨v,?_⟩;dsimp only at e4⊢;rw[e4]at x;have:=s _ _ x;rw[show mnL (bs.map (·.t))+(mxL (bs.map λb=>b.t+b.h)-mnL (bs.map (·.t)))-1=mxL (bs.map λb=>b.t+b.h)-1 by lia];exact this
theorem MV{half:Int}{b:Bx}:∀{obs:List (Option Bx)}{k:Nat},b∈Dj half k obs ↔ ∃(j:Nat)(c:Bx),obs[j]?=some (some c)/\b=shB half (k+j) c
 |[],k=>⟨(λh=>by cases h),(λh=>by obtain⟨j,c,h,_⟩:=h;simp at h)⟩
 |none::r,k=>by
  rw[show Dj half k (none::r)=Dj half (k+1) r from rfl,MV];constructor
  ·rintro⟨j,c,h,e⟩;exact⟨j+1,c,by simpa using h,by rw[e,show k+1+j=k+(j+1) by lia]⟩
  ·rintro⟨j,c,h,e⟩;cases j with
   |zero=>simp at h
   |succ j=>exact⟨j,c,by simpa using h,by rw[e,show k+1+j=k+(j+1) by lia]⟩
 |some d::r,k=>by
  rw[show Dj half k (some d::r)=shB half k d::Dj half (k+1) r from rfl,B8,MV];constructor
  ·rintro(h|⟨j,c,h,e⟩)
   ·exact⟨0,d,rfl,h⟩
   ·exact⟨j+1,c,by simpa using h,by rw[e,show k+1+j=k+(j+1) by lia]⟩
  ·rintro⟨j,c,h,e⟩;cases j with
   |zero =>
    have h:d=c:=by simpa using h
    subst h;exact .inl e
   |succ j=>exact .inr ⟨j,c,by simpa using h,by rw[e,show k+1+j=k+(j+1) by lia]⟩
def Lv(G:Gv)(n i:Nat)(u v:Int):Prop:=∃a b:Nat,u=a/\v=b/\a<2^n/\b<2^n/\CJ G n i a b≠0
theorem SS{G:Gv}{n i:Nat}{q:Sq}{a b c d:Nat}(nd:GG G n i q a b c d)(u v:Int):Lv G (n+1) i u v ↔ ∃k,k<4/\Lv G n (f4 a b c d k) (u-2^n*((k:Int)%2)) (v-2^n*((k:Int)/2)):=by
 have cc:=FH n;constructor
 ·rintro⟨x,y,rfl,rfl,hx,hy,ne⟩;rw[Bv nd hx hy]at ne;have x2:=EZ hx;have y2:=EZ hy;refine⟨quad n x y,CT hx hy,x%2^n,y%2^n,?_,?_,J1 _ (AX n),J1 _ (AX n),ne⟩
  ·have e:=O3 x (2^n);have q2:((quad n x y:Nat):Int)%2=((x/2^n:Nat):Int):=by
    unfold quad;generalize x/2^n=A at *
    generalize y/2^n=B at *
    lia
   rw[q2,<-cc,<-Q5];lia
  ·have e:=O3 y (2^n);have q2:((quad n x y:Nat):Int)/2=((y/2^n:Nat):Int):=by
    unfold quad;generalize x/2^n=A at *
    generalize y/2^n=B at *
    lia
   rw[q2,<-cc,<-Q5];lia
 ·rintro⟨k,hk,x,y,ex,ey,hx,hy,ne⟩;obtain⟨h1,h2,h3,h4,h5⟩:=Gz hk hx hy;refine⟨x+2^n*(k%2),y+2^n*(k/2),?_,?_,h1,h2,?_⟩
  ·rw[P1,Q5,cc,show((k%2:Nat):Int)=(k:Int)%2 from rfl];lia
  ·rw[P1,Q5,cc,show((k/2:Nat):Int)=(k:Int)/2 from rfl];lia
  ·rw[Bv nd h1 h2,h3,h4,h5];exact ne
theorem NV{L:Int->Int->Prop}{b:Bx}{half:Int}{k:Nat}(h:Nr L b):Nr (λu v=>L (u-half*((k:Int)%2)) (v-half*((k:Int)/2))) (shB half k b):=by
 obtain⟨v1,a1⟩:=h.le;obtain⟨v2,a2⟩:=h.to;obtain⟨v3,a3⟩:=h.ri;obtain⟨v4,a4⟩:=h.bo;unfold shB;generalize half*((k:Int)%2)=p;generalize half*((k:Int)/2)=q;refine⟨λu v m=>?_,⟨v1+q,?_⟩,⟨v2+p,?_⟩,⟨v3+q,?_⟩,⟨v4+p,?_⟩⟩
 ·have:=h.inn _ _ m;dsimp only;lia
 ·show L (b.l+p-p) (v1+q-q);rw[P0,P0];exact a1
 ·show L (v2+p-p) (b.t+q-q);rw[P0,P0];exact a2
 ·show L (b.l+p+b.w-1-p) (v3+q-q);rw[P0,show b.l+p+b.w-1-p=b.l+b.w-1 by lia];exact a3
 ·show L (v4+p-p) (b.t+q+b.h-1-q);rw[P0,show b.t+q+b.h-1-q=b.t+b.h-1 by lia];exact a4
theorem IH{G:Gv}(ok:GOk G):∀{n i:Nat}{b:Bx},Ak G i (n:Int)->BF G n i=some b->Nr (Lv G n i) b
 |0,i,b,_,h=>by
  have h:(if i=0 then none else some (⟨0,0,1,1⟩:Bx))=some b:=h;by_cases z:i=0
  ·rw[V2 z]at h;cases h
  ·rw[V0 z]at h;cases h;have l0:Lv G 0 i 0 0:=⟨0,0,rfl,rfl,by decide,by decide,z⟩
   refine⟨λu v m=>?_,⟨0,l0⟩,⟨0,l0⟩,⟨0,l0⟩,⟨0,l0⟩⟩;obtain⟨x,y,rfl,rfl,hx,hy,_⟩:=m;have hx:x<1:=hx;have hy:y<1:=hy;dsimp only;lia
 |n+1,i,b,l,h=>by
  obtain⟨q,a,b',c,d,nd⟩:=BC ok l;rw[Ep nd]at h;have obs:∀k,k<4->[BF G n a,BF G n b',BF G n c,BF G n d][k]?=some (BF G n (f4 a b' c d k)):=λk hk=>by
   match k,hk with
   |0,_=>rfl
   |1,_=>rfl
   |2,_=>rfl
   |3,_=>rfl
  have key:∀e,e∈Dj (2^n) 0 [BF G n a,BF G n b',BF G n c,BF G n d] ↔ ∃k e',k<4/\BF G n (f4 a b' c d k)=some e'/\e=shB (2^n) k e':=λe=>by
   rw[MV];constructor
   ·rintro⟨j,c',hj,rfl⟩;have j4:j<4:=(B6.mp hj).1;rw[obs j j4]at hj;exact⟨j,c',j4,V4 hj,by rw[N2]⟩
   ·rintro⟨k,e',hk,h1,rfl⟩;exact⟨k,e',by rw[obs k hk,h1],by rw[N2]⟩
  unfold NH at h;cases hg:Dj (2^n) 0 [BF G n a,BF G n b',BF G n c,BF G n d]with
  |nil=>rw[hg]at h;cases h
  |cons e0 es =>
   rw[hg]at h;have h:=V4 h;rw[hg]at key;subst h;refine Tu A6 (λe he=>?_) λu v m=>?_
   ·obtain⟨k,e',hk,h1,rfl⟩:=(key e).mp he;refine⟨_,NV (IH ok (nd.nat hk).2 h1),λu v m=>(SS nd u v).mpr ⟨k,hk,m⟩⟩
   ·obtain⟨k,hk,m⟩:=(SS nd u v).mp m;cases hb:BF G n (f4 a b' c d k)with
    |none =>
     have c0:=(II ok n _ (nd.nat hk).2).mp hb;obtain⟨x,y,_,_,hx,hy,ne⟩:=m;exact absurd (cell_none ok (nd.nat hk).2 c0 hx hy) ne
    |some e' =>
     have t:=NV (half:=2^n) (k:=k) (IH ok (nd.nat hk).2 hb);exact⟨_,(key _).mpr ⟨k,e',hk,hb,rfl⟩,t.inn u v m⟩
where cell_none {G:Gv} (ok:GOk G):∀{n i x y:Nat},Ak G i (n:Int)->Dd G n i=0->x<2^n->y<2^n->CJ G n i x y=0
 |0,i,x,y,_,h,_,_=>by
  have h:(if i=0 then(0:Int)else 1)=0:=h;show i=0;by_cases z:i=0
  ·exact z
  ·rw[V0 z]at h;lia
 |n+1,i,x,y,l,h,hx,hy=>by
  obtain⟨q,a,b,c,d,nd⟩:=BC ok l;have e:=IF nd;have e:Dd G (n+1) i=Dd G n a+(Dd G n b+(Dd G n c+(Dd G n d+0))):=e;have ea:=En G n a;have eb:=En G n b;have ec:=En G n c;have ed:=En G n d;have qk:=CT hx hy;rw[Bv nd hx hy];refine cell_none ok (nd.nat qk).2 ?_ (J1 _ (AX n)) (J1 _ (AX n));generalize quad n x y=k at qk
  match k,qk with
  |0,_=>show Dd G n a=0;lia
  |1,_=>show Dd G n b=0;lia
  |2,_=>show Dd G n c=0;lia
  |3,_=>show Dd G n d=0;lia
seal L2.PA L2.PE L2.PS L2.PSs L2.PT L2.PW
theorem QL{G:Gv}{n f:Nat}(x y:Int):Lv G (n+1) f (x+2^n) (y+2^n)↔fieldF G n f x y≠0:=by
 have c:=FH n;have e:=Qr n;constructor
 ·rintro⟨u,v,eu,ev,hu,hv,ne⟩;unfold fieldF;rw[V2 ⟨by lia,by lia,by lia,by lia⟩,show(x+2^n).toNat=u by lia,show(y+2^n).toNat=v by lia];exact ne
 ·intro ne;unfold fieldF at ne;split at ne
  ·rename_i z;obtain⟨z1,z2,z3,z4⟩:=z;exact⟨(x+2^n).toNat,(y+2^n).toNat,by lia,by lia,EO z1 z2,EO z3 z4,ne⟩
  ·exact absurd rfl ne
def mvB(r:Int)(b:Bx):Bx:=⟨b.l+-r,b.t+-r,b.w,b.h⟩
theorem PY{G:Gv}(ok:GOk G){n f:Nat}(l:Ak G f ((n+1:Nat):Int)){b:Bx}(h:BF G (n+1) f=some b):Nr (λx y=>fieldF G n f x y≠0) (mvB (2^n) b):=by
 have t:=IH ok l h;obtain⟨v1,a1⟩:=t.le;obtain⟨v2,a2⟩:=t.to;obtain⟨v3,a3⟩:=t.ri;obtain⟨v4,a4⟩:=t.bo;have go:∀{u v:Int},Lv G (n+1) f u v->fieldF G n f (u+-(2^n)) (v+-(2^n))≠0:=λ{u v} m=>(QL _ _).mp (by rw[show u+-(2^n)+2^n=u by lia,show v+-(2^n)+2^n=v by lia];exact m);unfold mvB;refine⟨λx y m=>?_,⟨_,go a1⟩,⟨_,go a2⟩,⟨v3+-(2^n),?_⟩,⟨v4+-(2^n),?_⟩⟩
 ·have:=t.inn _ _ ((QL x y).mpr m);dsimp only;lia
 ·have:=go a3;rw[show b.l+b.w-1+-(2^n)=b.l+-(2^n)+b.w-1 by lia]at this;exact this
 ·have:=go a4;rw[show b.t+b.h-1+-(2^n)=b.t+-(2^n)+b.h-1 by lia]at this;exact this
theorem RC{G:Gv}(ok:GOk G){n f:Nat}(l:Ak G f ((n+1:Nat):Int))(h:BF G (n+1) f=none)(x y:Int):fieldF G n f x y=0:=by
 have c:=(II ok _ _ l).mp h;unfold fieldF;split
 ·rename_i z;exact IH.cell_none ok l c (EO z.1 z.2.1) (EO z.2.2.1 z.2.2.2)
 ·rfl
section
variable{P:Program}{w:World}{K:PySem.W.Frag}{mg:Str->Option Value}{base:Heap}{a:Ad}
inductive Tn(a:Ad)(vs:List V)(H:Hp)(Q:VK):Prop
 |mk (g:GA) (G:Gv) (f n:Nat) (_:vs=[.ref g.p,.int f]) (_:Bn a H g G) (_:Ak G f ((n+1:Nat):Int)) (_:n<48) (_:G.length<8000000) (_:(BF G (n+1) f=none->∀H',FrQ g H H'->Bn a H' g G->Q .non H')) (_:∀b,BF G (n+1) f=some b->∀t H',FrQ g H H'->Bn a H' g G->LN H' t (mvB (2^n) b)->Q (.ref t) H'):Tn a vs H Q
def OR(a:Ad):Sp:=λvs H Q _=>Tn a vs H Q
theorem Vx{f:Addr}{fd:FuncData}(F:Fun K "box_of" "box_of" MH f fd)(T:Top K mg a)(bL:BK P w K mg base CX0 101 a.c_Grove "span" Gw (Rp a))(aH:Cal P w K mg base CX0 4 "reach_of" DE (Iy a))(aG:Cal P w K mg base CX0 1 "shifted_box" CN Jr):AJ P w K mg base CX0 102 f fd ML (OR a):=by
 refine F.ok Lf (λvs H Q E h=>?_) (λcdv A outer s H vs Q E hr h=>?_)
 ·obtain⟨g,G,f',n,rfl,_⟩:=h;rfl
 ·obtain⟨g,G,f',n,rfl,fu,lf,n48,few,k0,k1⟩:=h;refine⟨_,(Ac (Ao (i:=2) Lf.nd rfl (Or.inl rfl) (AF (pv 0) bL (rm hr) An (Aa (pv 1) Ab))) (Ac (AN (Ax Jk (pv 2) Cz (AC _)) (Ag (As Cz)) AB) (Ac (Ao (i:=3) Lf.nd rfl (Or.inl rfl) (Aq aH (rm hr) rfl An (Aa (pv 0) (Aa (pv 1) Ab)))) (Ag (As (Aq aG (rm hr) rfl An (Aa (pv 2) (Aa (GL DU (pv 3)) (Aa (GL DU (pv 3)) Ab))))))))),?_⟩
  try dsimp only[cxK]
  refine xq1 rfl ⟨g.p,g.dx,(xq1 rfl ⟨fu.at'.hp,no_span g,(xq1 rfl ⟨g,G,f',n+1,rfl,fu,lf,by lia,λhn H1 fr1 fu1=>?_,λb hb t H1 fr1 fu1 ht=>?_⟩)⟩)⟩
  ·exact xq1 rfl ⟨rfl,(xq1 rfl (BT (k0 hn H1 fr1 fu1)))⟩
  ·refine xq1 rfl ⟨rfl,(xq1 rfl (Bb ?_))⟩;refine xw2 rfl rfl ⟨g,G,f',n,rfl,fu1.at',lf,n48,?_⟩;refine xw3 rfl rfl rfl (xw2 rfl rfl ⟨t,b,_,_,rfl,ht,λt' ht'=>?_⟩);have s2:=Ay (o:=.tup [.int (b.l+-(2^n)),.int (b.t+-(2^n)),.int b.w,.int b.h]) ht';exact k1 b hb t' _ (fr1.trans (AA.frq s2)) (fu1.same s2) Af
end
end J
namespace J
open PySem L2
theorem cel_F{G:Gv}(ok:GOk G):∀{n i x y:Nat},Ak G i (n:Int)->x<2^n->y<2^n->cel G n i x y=CJ G n i x y
 |0,_,_,_,_,_,_=>rfl
 |n+1,i,x,y,h,hx,hy=>by
  obtain⟨q,a,b,c,d,nd⟩:=BC ok h;rw[Bv nd hx hy];have p:=AX n;have hx2:x/2^n<2:=T9 (by rw[D9]at hx;lia);have hy2:y/2^n<2:=T9 (by rw[D9]at hy;lia);have e:qO G i ((x/2^n)%2+2*((y/2^n)%2))=f4 a b c d (quad n x y):=by
   have:=(nd.nat (CT hx hy)).1;unfold qO;rw[nd.g,O7 hx2,O7 hy2];show(q.parts.getD (quad n x y) 0).toNat=_;rw[F2,this];rfl
  show cel G n (qO G i ((x/2^n)%2+2*((y/2^n)%2))) x y=_;rw[e,<-cel_F ok (nd.nat (CT hx hy)).2 (J1 _ p) (J1 _ p)];have:=PF G n (f4 a b c d (quad n x y)) (x%2^n) (y%2^n) (x/2^n) (y/2^n);rw[Nat.mod_add_div,Nat.mod_add_div]at this;exact this
def Tame(r:AH):Prop:=(∀(φ:Sht) k,Bc r k φ=φ)\/∀(φ:Sht) k x y,Bc r (k+1) φ x y=0
def Kc(c:Sht):KTy:=λl _ φ=>l<47/\((∀x y,x<2^(l+2)->y<2^(l+2)->φ x y=0)\/∃i j:Nat,∀x y,x<2^(l+2)->y<2^(l+2)->φ x y=c (x+2^l*i) (y+2^l*j))
theorem SU{c:Sht}{l e e':Nat}{φ:Sht}(h:Kc c (l+1) e φ){u v:Nat}(hu:2^l*u<=2^(l+1)*2)(hv:2^l*v<=2^(l+1)*2):Kc c l e' λx y=>φ (x+2^l*u) (y+2^l*v):=by
 obtain⟨h1,h2⟩:=h;have p1:2^(l+1)=2^l*2:=D9 ..;have p2:2^(l+2)=2^l*2*2:=by rw[D9,D9]
 have p3:2^(l+1+2)=2^l*2*2*2:=by rw[D9,D9,D9]
 refine⟨by lia,?_⟩;rcases h2 with h2|⟨i,j,h2⟩
 ·exact .inl λx y hx hy=>h2 _ _ A1 A1
 ·refine .inr ⟨u+2*i,v+2*j,λx y hx hy=>?_⟩;show φ _ _=_;rw[h2 _ _ A1 A1,p1,Nat.mul_add,Nat.mul_add,N3,N3,Nat.add_assoc,Nat.add_assoc]
theorem tame_cl{r:AH}(t:Tame r)(c:Sht):ClK r (Kc c):=by
 have p1:∀l,2^(l+1)=2^l*2:=λl=>D9 ..;have nine:∀{l e e' φ},Kc c (l+1) e φ->∀i j,i<3->j<3->Kc c l e' λx y=>φ (x+2^(l+1)*i) (y+2^(l+1)*j):=λ{l e e' φ} h i j hi hj=>by
  have:=SU (e':=e') h (u:=2*i) (v:=2*j) (by rw[p1,N3];exact M7 _ A1) (by rw[p1,N3];exact M7 _ A1);rw[<-N3,<-N3,<-p1]at this;exact this
 refine⟨λh _=>nine h,λh=>nine h,λ{l φ} h i j hi hj=>?_⟩;rcases t with t|t
 ·rw[t];have:=SU (e':=l) h (u:=2*i+1) (v:=2*j+1) (by rw[p1,N3];exact M7 _ A1) (by rw[p1,N3];exact M7 _ A1);rw[Nat.mul_add,Nat.mul_add,<-N3,<-N3,<-p1,Nat.mul_one]at this;exact this
 ·obtain⟨k,hk⟩:∃k,2^l=k+1:=⟨2^l-1,by have:=AX l;lia⟩
  refine⟨by have:=h.1;lia,.inl λx y _ _=>?_⟩;show Bc r (2^l) φ _ _=0;rw[hk];exact t _ _ _ _
def Uy(c:Sht)(l i j:Nat):Sht:=λx y=>c (x+2^l*i) (y+2^l*j)
def VO(c:Sht)(cs:List (Nat×Nat)):List (Nat×Sht):=(List.range 47).flatMap λl=>(l,λ_ _=>0)::cs.flatMap λq=>(List.range 16).map λd=>(l,Uy c l (q.1/2^l-d%4) (q.2/2^l-d/4))
theorem Pz{α β:Type}(f:α->List β)(m:Nat):∀l:List α,(∀x∈l,(f x).length<=m)->(l.flatMap f).length<=l.length*m
 |[],_=>by simp
 |a::l,h=>by
  have:=Pz f m l λx hx=>h x (C1 _ hx);have:=h a C3;rw[List.flatMap_cons,C5,F0,Nat.succ_mul];lia
theorem TZ(c:Sht)(cs:List (Nat×Nat)):(VO c cs).length<=47*(1+16*cs.length):=by
 have:=Pz (λl=>((l,λ_ _=>0):Nat×Sht)::cs.flatMap λq=>(List.range 16).map λd=>(l,Uy c l (q.1/2^l-d%4) (q.2/2^l-d/4))) (1+16*cs.length) (List.range 47) λl _=>by
  rw[F0];have:=Pz (λq:Nat×Nat=>(List.range 16).map λd=>(l,Uy c l (q.1/2^l-d%4) (q.2/2^l-d/4))) 16 cs λq _=>by rw[B5,O5];exact C0 _
  lia
 rw[O5]at this;exact this
theorem UD{c:Sht}{cs:List (Nat×Nat)}(hc:∀x y,c x y≠0->(x,y)∈cs):Nz (Kc c) (47*(1+16*cs.length)):=by
 refine⟨λe=>⟨VO c cs,TZ c cs,λl φ h=>?_⟩,λ{l e φ ψ} h q=>⟨h.1,?_⟩⟩
 ·obtain⟨h1,h2⟩:=h;have zero:(∀x y,x<2^(l+2)->y<2^(l+2)->φ x y=0)->∃ψ,(l,ψ)∈VO c cs/\EqOn l φ ψ:=λz=>⟨λ_ _=>0,List.mem_flatMap.mpr ⟨l,M4.mpr h1,C3⟩,z⟩
  rcases h2 with h2|⟨i,j,h2⟩
  ·exact zero h2
  ·by_cases z:∀x y,x<2^(l+2)->y<2^(l+2)->φ x y=0
   ·exact zero z
   ·obtain⟨x,z⟩:=Classical.not_forall.mp z;obtain⟨y,z⟩:=Classical.not_forall.mp z;obtain⟨hx,z⟩:=Classical.not_imp.mp z;obtain⟨hy,z⟩:=Classical.not_imp.mp z;rw[h2 x y hx hy]at z;have hm:=hc _ _ z;have p:=AX l;have p2:2^(l+2)=2^l*4:=by rw[D9,D9];lia
    have near:∀{x i:Nat},x<2^(l+2)->∃d,d<4/\i=(x+2^l*i)/2^l-d:=λ{x i} hx=>by
     rw[N5 _ _ p];have:x/2^l<4:=T9 A1;exact⟨x/2^l,this,by lia⟩
    obtain⟨d1,a1,a2⟩:=near (i:=i) hx;obtain⟨d2,b1,b2⟩:=near (i:=j) hy;refine⟨Uy c l i j,List.mem_flatMap.mpr ⟨l,M4.mpr h1,C1 _ (List.mem_flatMap.mpr ⟨_,hm,D6.mpr ⟨d1+4*d2,M4.mpr A1,?_⟩⟩)⟩,λx y hx hy=>h2 x y hx hy⟩;rw[show(d1+4*d2)%4=d1 by lia,show(d1+4*d2)/4=d2 by lia];show(l,Uy c l ((x+2^l*i)/2^l-d1) ((y+2^l*j)/2^l-d2))=_;rw[<-a2,<-b2]
 ·rcases h.2 with h2|⟨i,j,h2⟩
  ·exact .inl λx y hx hy=>(q x y hx hy).symm.trans (h2 x y hx hy)
  ·exact .inr ⟨i,j,λx y hx hy=>(q x y hx hy).symm.trans (h2 x y hx hy)⟩
def JO(g:GA):List Addr:=[g.lv,g.pt,g.nm,g.br,g.am,g.bx]
theorem CU{H:Hp}{x y:Addr}{o:HO}(h:upd H x o y=none):H y=none:=by
 by_cases e:y=x
 ·subst e;rw[Af]at h;cases h
 ·rw[Ar e]at h;exact h
theorem Rl.none{a:Ad}{H H':Hp}{x dx:Addr}{o o':HO}{g:GA}{G:Gv}{B:List Int}{am:List (Key×V)}(N:Rl a (upd (upd H dx o) x o') H' g G B am):∀y∈JO g,H y=none:=λy hy=>by
 obtain⟨f1,f2,f3,f4,f5,f6⟩:=N.fresh;simp only[JO,B8,D3,W7]at hy;rcases hy with rfl|rfl|rfl|rfl|rfl|rfl
 ·exact CU (CU f1)
 ·exact CU (CU f2)
 ·exact CU (CU f3)
 ·exact CU (CU f4)
 ·exact CU (CU f5)
 ·exact CU (CU f6)
structure ZS(a:Ad)(H:Hp)(g:GA)(G:Gv)(Κ:KTy)(N b:Nat)(p dx mem pr:Addr)(r:AH)(m:MA):Prop where
 jz:JZ a H g G Κ N b p dx mem pr r m
 fu:Bn a H g G
 na:g.am∉m.ds
 nb:g.bx∉m.ds
def FrZ(g:GA)(m:MA)(H H':Hp):Prop:=∀b o,H b=some o->b∉[g.lv,g.pt,g.nm,g.am,g.bx,m.kc]->b∉m.ds->H' b=some o
section
variable{a:Ad}{H H' H1 H2 H3:Hp}{g:GA}{G G':Gv}{Κ:KTy}{N b i:Nat}{p dx mem pr:Addr}{r:AH}{m:MA}
theorem FrZ.trans(h:FrZ g m H1 H2)(k:FrZ g m H2 H3):FrZ g m H1 H3:=λb o e n1 n2=>k b o (h b o e n1 n2) n1 n2
theorem AA.z(s:AA H H'):FrZ g m H H':=λb o e _ _=>s b o e
theorem Fr.z(f:Fr g H H'):FrZ g m H H':=λb o e n1 _=>f b o e (λz=>n1 (by simp[z])) (λz=>n1 (by simp[z])) (λz=>n1 (by simp[z]))
theorem FrQ.z(f:FrQ g H H'):FrZ g m H H':=λb o e n1 _=>f b o e (λz=>n1 (by simp[z])) (λz=>n1 (by simp[z]))
theorem FrJ.z(f:FrJ g m H H'):FrZ g m H H':=λb o e n1 n2=>f b o e (λz=>n1 (by simp[z])) (λz=>n1 (by simp[z])) (λz=>n1 (by simp[z])) (λz=>n1 (by simp[z])) n2
theorem ZS.same(h:ZS a H g G Κ N b p dx mem pr r m)(s:AA H H'):ZS a H' g G Κ N b p dx mem pr r m:=⟨h.jz.same s,h.fu.same s,h.na,h.nb⟩
theorem ZS.mono{b':Nat}(h:ZS a H g G Κ N b p dx mem pr r m)(e:b<=b'):ZS a H g G Κ N b' p dx mem pr r m:=⟨h.jz.mono e,h.fu,h.na,h.nb⟩
theorem ZS.fr(h:ZS a H g G Κ N b p dx mem pr r m)(f:Fr g H H')(fu:Bn a H' g G')(go:AG G G' i):ZS a H' g G' Κ N (b+i) p dx mem pr r m:=⟨h.jz.fr f fu.at' go,fu,h.na,h.nb⟩
theorem ZS.frQ(h:ZS a H g G Κ N b p dx mem pr r m)(f:FrQ g H H')(fu:Bn a H' g G):ZS a H' g G Κ N b p dx mem pr r m:=by
 have hj:=h.jz.jw;have nd:∀{x:Addr}{o:HO},H x=some o->(∀ks,o≠.dK ks)->H' x=some o:=λ{x o} e n=>f _ _ e (h.fu.ne_am e n).1 (h.fu.ne_am e n).2;have kd:∀d∈m.ds,∀o,H d=some o->H' d=some o:=λd hd o e=>f _ _ e (λz=>h.na (z▸hd)) (λz=>h.nb (z▸hd));obtain⟨kc,c1,_⟩:=hj.me.ce;have me:Ix H' g G N (b+470*N) r m:=hj.me.kp hj.ok (AG.refl hj.ok) λx o e w=>by
  rcases w with z|z|z|z
  ·subst z;exact nd e (by rw[hj.me.tp]at e;cases e;intro ks z;cases z)
  ·subst z;exact nd e (by rw[hj.me.l]at e;cases e;intro ks z;cases z)
  ·exact kd x z o e
  ·subst z;exact nd e (by rw[c1]at e;cases e;intro ks z;cases z)
 obtain⟨ff,cn⟩:=h.jz.cn;refine⟨⟨⟨fu.at',hj.ok,hj.bs,fu.br,hj.nbr,nd hj.hp (by intro ks z;cases z),hj.ru.kp λx o e n=>nd e (by intro ks z;rw[z]at n;cases n),hj.rok,hj.rest,me⟩,ff,cn.kp (i:=0) hj.ok (AG.refl hj.ok) kd λkc' e=>⟨kc',nd e (by intro ks z;cases z),C0 _⟩⟩,fu,h.na,h.nb⟩
theorem ZS.aft(h:ZS a H g G Κ N b p dx mem pr r m)(f:FrJ g m H H')(jz:JZ a H' g G' Κ N b p dx mem pr r m)(go:AG G G' i):ZS a H' g G' Κ N b p dx mem pr r m:=by
 have hj:=h.jz.jw;refine⟨jz,?_,h.na,h.nb⟩;obtain⟨at',ok,⟨r0,g0⟩,br,⟨ks,h1,h2⟩,⟨ks',h3,h4⟩,n1,n2,n3⟩:=h.fu;obtain⟨us,hp,_⟩:=at'.pt;obtain⟨kc,c1,_⟩:=hj.me.ce;have nds:∀{x:Addr}{o:HO},H x=some o->(∀ks,o≠.dK ks)->x∉m.ds:=λ{x o} e n z=>by
  obtain⟨j,hj'⟩:=F7 z;obtain⟨kv,e2,_⟩:=hj.me.sq j x hj';rw[e]at e2;cases e2;exact n _ rfl
 obtain⟨t,et⟩:=go.pre;have dk:∀{x:Addr}{ks:List (Key×V)},H x=some (.dK ks)->x∉m.ds->H' x=some (.dK ks):=λ{x ks} e n=>f _ _ e (AD e at'.lv A4) (AD e hp A4) (AD e at'.nm A4) (AD e c1 A4) n;refine⟨jz.jw.gr,go.ok,⟨r0++t,by rw[et,g0,P4]⟩,jz.jw.br,⟨ks,dk h1 h.na,h2.app ok go⟩,⟨ks',dk h3 h.nb,h4.keys.app go.le,λi v e=>?_⟩,n1,n2,n3⟩;obtain⟨l,bb,t,e1,e2,e3,e4⟩:=h4.val i v e;exact⟨l,bb,t,go.lev e1,by rw[FO ok go l i e1];exact e2,e3,f _ _ e4 (AD e4 at'.lv A4) (AD e4 hp A4) (AD e4 at'.nm A4) (AD e4 c1 A4) (nds e4 (by intro ks z;cases z))⟩
theorem ZS.keep(h:ZS a H g G Κ N b p dx mem pr r m)(f:FrZ g m H H'){x:Addr}{o:HO}(e:H x=some o)(k1:∀xs,o≠.lst xs)(k2:∀ks,o≠.dK ks)(k3:∀ks,o≠.dT ks):H' x=some o:=by
 have hj:=h.jz.jw;obtain⟨us,hp,_⟩:=h.fu.at'.pt;obtain⟨kc,c1,_⟩:=hj.me.ce;have n1:=h.fu.ne_am e k2;refine f _ _ e (λz=>?_) (λz=>?_)
 ·simp only[B8,D3,W7]at z;rcases z with z|z|z|z|z|z
  ·exact AD e h.fu.at'.lv (k1 _) z
  ·exact AD e hp (k1 _) z
  ·exact AD e h.fu.at'.nm (k3 _) z
  ·exact n1.1 z
  ·exact n1.2 z
  ·exact AD e c1 (k3 _) z
 ·obtain⟨j,hj'⟩:=F7 z;obtain⟨kv,e2,_⟩:=hj.me.sq j x hj';exact AD e e2 (k2 _) rfl
theorem ZS.new(h:ZS a H g G Κ N b p dx mem pr r m){x:Addr}(n:H x=none):x∉[g.lv,g.pt,g.nm,g.am,g.bx,m.kc]/\x∉m.ds:=by
 have hj:=h.jz.jw;obtain⟨us,hp,_⟩:=h.fu.at'.pt;obtain⟨kc,c1,_⟩:=hj.me.ce;obtain⟨ks,h1,_⟩:=h.fu.am;obtain⟨ks',h3,_⟩:=h.fu.bx;refine⟨λz=>?_,λz=>?_⟩
 ·simp only[B8,D3,W7]at z;rcases z with rfl|rfl|rfl|rfl|rfl|rfl
  ·rw[h.fu.at'.lv]at n;cases n
  ·rw[hp]at n;cases n
  ·rw[h.fu.at'.nm]at n;cases n
  ·rw[h1]at n;cases n
  ·rw[h3]at n;cases n
  ·rw[c1]at n;cases n
 ·obtain⟨j,hj'⟩:=F7 z;obtain⟨kv,e2,_⟩:=hj.me.sq j x hj';rw[e2]at n;cases n
end
theorem JW.putL{a:Ad}{H:Hp}{g:GA}{G:Gv}{N M:Nat}{p dx mem pr x:Addr}{r:AH}{m:MA}{xs:List V}{o:HO}(h:JW a H g G N M p dx mem pr r m)(hx:H x=some (.lst xs))(n1:x≠g.lv)(n2:x≠g.pt)(n3:x≠g.br)(n4:x≠m.l):JW a (upd H x o) g G N M p dx mem pr r m:=by
 have other:∀{b v},H b=some v->(∀l,v≠.lst l)->upd H x o b=some v:=λ{b v} e n=>by rw[Ar (AD e hx (n _))];exact e
 refine⟨h.gr.put hx n1 n2,h.ok,h.bs,by rw[Ar (V5 n3)];exact h.br,h.nbr,other h.hp B0,h.ru.kp λb o e n=>other e λl z=>(by rw[z]at n;cases n),h.rok,h.rest,h.me.kp h.ok (AG.refl h.ok) λb o e w=>?_⟩;rcases w with z|z|z|z
 ·have e2:=h.me.tp;rw[<-z,e]at e2;cases e2;exact other e B0
 ·rw[z]at e⊢;rw[Ar (V5 n4)];exact e
 ·obtain⟨j,hj⟩:=F7 z;obtain⟨kv,e2,_⟩:=h.me.sq j b hj;rw[e]at e2;cases e2;exact other e B0
 ·obtain⟨kc,e2,_⟩:=h.me.ce;rw[z]at e⊢;rw[e]at e2;cases e2;exact other e B0
structure ApZ(g:GA)(m:MA)(x:Addr):Prop where
 n0:x∉[g.lv,g.pt,g.nm,g.am,g.bx,m.kc]
 n1:x∉m.ds
 n2:x≠g.br
 n3:x≠m.l
section
variable{a:Ad}{H H':Hp}{g:GA}{G G':Gv}{Κ:KTy}{N b i:Nat}{p dx mem pr:Addr}{r:AH}{m:MA}
theorem ZS.ap(h:ZS a H g G Κ N b p dx mem pr r m){x:Addr}(n:H x=none):ApZ g m x:=by
 obtain⟨n0,n1⟩:=h.new n;refine⟨n0,n1,λz=>?_,λz=>?_⟩
 ·rw[z,h.fu.br]at n;cases n
 ·rw[z,h.jz.jw.me.l]at n;cases n
theorem ZS.putL{x:Addr}{xs:List V}{o:HO}(h:ZS a H g G Κ N b p dx mem pr r m)(hx:H x=some (.lst xs))(ap:ApZ g m x):ZS a (upd H x o) g G Κ N b p dx mem pr r m:=by
 have lv:x≠g.lv:=λz=>ap.n0 (by simp[z]);have pt:x≠g.pt:=λz=>ap.n0 (by simp[z]);obtain⟨f,c⟩:=h.jz.cn;refine⟨⟨h.jz.jw.putL hx lv pt ap.n2 ap.n3,f,c.kp (i:=0) h.jz.jw.ok (AG.refl h.jz.jw.ok) (λd hd o' e=>?_) λkc e=>⟨kc,?_,C0 _⟩⟩,h.fu.put hx lv pt ap.n2,h.na,h.nb⟩
 ·rw[Ar (λz:d=x=>ap.n1 (z▸hd))];exact e
 ·rw[Ar (AD e hx A4)];exact e
end
def shF(φ:Int->Int->Nat):Sht:=λx y=>(φ ((x:Int)-2^47) ((y:Int)-2^47):Nat)
theorem Py{G:Gv}(ok:GOk G){n f:Nat}(lf:Ak G f ((n+1:Nat):Int)){x y:Nat}(hx:x<2^(n+1))(hy:y<2^(n+1)):BZ G (n+1) f x y=(fieldF G n f ((x:Int)-2^n) ((y:Int)-2^n):Nat):=by
 unfold BZ fieldF;have p:((2^(n+1):Nat):Int)=2^n+2^n:=by rw[L9];exact Ck n
 rw[V2 A1,cel_F ok lf hx hy];congr 2<;>lia
theorem fld_kc{G:Gv}(ok:GOk G){l f e:Nat}(l46:l<46)(lf:Ak G f ((l+1+1:Nat):Int)){φ:Int->Int->Nat}(h:∀x y,fieldF G (l+1) f x y=φ x y):Kc (shF φ) l e (BZ G (l+2) f):=by
 refine⟨by lia,.inr ⟨2^(47-l)-2,2^(47-l)-2,λx y hx hy=>?_⟩⟩;rw[Py ok lf hx hy,h];unfold shF;have p:2^l*(2^(47-l)-2)+2^(l+1)=2^47:=by
  rw[Nat.mul_sub_left_distrib,<-Nat.pow_add,show l+(47-l)=47 by lia,D9];have:2^l*2<=2^47:=by
   rw[<-D9];exact N4 A3 A1
  lia
 have q:((2^l*(2^(47-l)-2):Nat):Int)+2^(l+1)=2^47:=by
  have:=W0 (λz:Nat=>(z:Int)) p;rw[P1,L9 2 (l+1)]at this;exact this
 congr 2<;>(rw[P1];lia)
theorem fld_jr{G:Gv}(ok:GOk G){r:AH}{l e f k:Nat}(lf:Ak G f ((l+1+1:Nat):Int))(jr:JR r G e f k){φ:Int->Int->Nat}(h:∀x y,fieldF G (l+1) f x y=φ x y)(far:∀x y,φ x y≠0->-(2^l)<=x/\x<2^l/\-(2^l)<=y/\y<2^l):Ak G k ((l+1:Nat):Int)/\((∀(φ:Sht) k,Bc r k φ=φ)->∀x y,fieldF G l k x y=φ x y)/\((∀(φ:Sht) k x y,Bc r (k+1) φ x y=0)->∀x y,fieldF G l k x y=0):=by
 obtain⟨l',h1,h2,h3,h4⟩:=jr;have e':l'=l:=by
  obtain⟨q,w1,w2⟩:=h1;obtain⟨q',w3,w4⟩:=lf;rw[w1]at w3;cases w3;have:=w2.symm.trans w4;lia
 subst e';have p:((2^(l'+1):Nat):Int)=2^l'+2^l':=by rw[L9];exact Ck l'
 have p0:((2^l':Nat):Int)=2^l':=L9 2 l';have at':∀x y:Int,-(2^l')<=x->x<2^l'->-(2^l')<=y->y<2^l'->(fieldF G l' k x y:Int)=Bc r (2^e) (BZ G (l'+2) f) ((x+2^l').toNat+2^l') ((y+2^l').toNat+2^l'):=λx y a1 a2 b1 b2=>by
  rw[<-h4 _ _ A1 A1,Py ok h3 A1 A1];congr 2<;>lia
 refine⟨h3,λst x y=>?_,λst x y=>?_⟩
 ·by_cases z:-(2^l')<=x/\x<2^l'/\-(2^l')<=y/\y<2^l'
  ·obtain⟨a1,a2,b1,b2⟩:=z;have p2:((2^(l'+2):Nat):Int)=2^l'+2^l'+(2^l'+2^l'):=by
    rw[L9];show(2:Int)^(l'+2)=_;rw[show(2:Int)^(l'+2)=2^(l'+1)+2^(l'+1)from Ck (l'+1),Ck]
   have:=at' x y a1 a2 b1 b2;rw[st,Py ok lf A1 A1,h]at this;have e2:∀u:Int,-(2^l')<=u->((((u+2^l').toNat+2^l':Nat):Int)-2^(l'+1))=u:=λu hu=>by
    rw[Ck,P1,p0];lia
   rw[e2 x a1,e2 y b1]at this;exact V8 this
  ·unfold fieldF;rw[V0 z];by_cases w:φ x y=0
   ·exact w.symm
   ·exact absurd (far x y w) z
 ·by_cases z:-(2^l')<=x/\x<2^l'/\-(2^l')<=y/\y<2^l'
  ·obtain⟨a1,a2,b1,b2⟩:=z;have:=at' x y a1 a2 b1 b2;obtain⟨j,hj⟩:∃j,2^e=j+1:=⟨2^e-1,by have:=AX e;lia⟩
   rw[hj,st]at this;exact V8 this
  ·unfold fieldF;rw[V0 z]
seal L2.PA L2.PE L2.PS L2.PSs L2.PT L2.PW
inductive Ny(H:Hp):V->Prop
 |non:Ny H .non
 |bl (b:Bool):Ny H (.bl b)
 |str (z:Str):Ny H (.str z)
 |lst {p:Addr} {xs:List V} (h:H p=some (.lst xs)):Ny H (.ref p)
theorem VS(K:PySem.W.Frag):kitOne K (.type "int") (.type "int")=some true/\kitOne K (.type "int") (.type "bool")=some false:=⟨by kernel_rfl,by kernel_rfl⟩
theorem MY(K:PySem.W.Frag):kitOne K (.type "bool") (.type "int")=some true/\kitOne K (.type "bool") (.type "bool")=some true/\kitOne K (.type "str") (.type "int")=some false/\kitOne K (.type "NoneType") (.type "int")=some false/\kitOne K (.type "list") (.type "int")=some false:=⟨by kernel_rfl,by kernel_rfl,by kernel_rfl,by kernel_rfl,by kernel_rfl⟩
section
variable{P:Program}{w:World}{K:PySem.W.Frag}{mg:Str->Option Value}{base:Heap}{a:Ad}
inductive WA(vs:List V)(H:Hp)(Q:VK):Prop
 |mk (i:Int) (_:vs=[.int i]) (_:Q (.bl true) H):WA vs H Q
 |no (v:V) (_:vs=[v]) (_:Ny H v) (_:Q (.bl false) H):WA vs H Q
def UT:Sp:=λvs H Q _=>WA vs H Q
theorem ok_iwx{f:Addr}{fd:FuncData}(F:Fun K "is_whole" "is_whole" Gc f fd)(T:Top K mg a):AJ P w K mg base CX0 1 f fd CZ UT:=by
 refine F.ok LP (λvs H Q E h=>?_) (λcdv A outer s H vs Q E hr h=>?_)
 ·cases h with
  |mk i e=>rw[e];rfl
  |no v e=>rw[e];rfl
 ·cases h with
  |mk i e k =>
   subst e;refine⟨_,(Ag (As (DZ (AL CS rfl T.b_isinstance V6 (Aa (pv 0) (Aa (Dt (v:=.ty "int") rfl T.b_int Z1 rfl) Ab))) (Fv (OY (AL CS rfl T.b_isinstance V6 (Aa (pv 0) (Aa (Dt (v:=.ty "bool") rfl T.b_bool K5 rfl) Ab)))))))),?_⟩
   try dsimp only[cxK]
   exact⟨_,rfl,_,_,_,.type "int",true,rfl,rfl,.of (.int i),(VS K).1,true,rfl,BT ⟨_,rfl,_,_,_,.type "int",false,rfl,rfl,.of (.int i),(VS K).2,false,rfl,k⟩⟩
  |no v e o k =>
   subst e;refine⟨_,(Ag (As (DZ (AL CS rfl T.b_isinstance V6 (Aa (pv 0) (Aa (Dt (v:=.ty "int") rfl T.b_int Z1 rfl) Ab))) (Fv (OY (AL CS rfl T.b_isinstance V6 (Aa (pv 0) (Aa (Dt (v:=.ty "bool") rfl T.b_bool K5 rfl) Ab)))))))),?_⟩
   try dsimp only[cxK]
   cases o with
   |bl b=>exact⟨_,rfl,_,_,_,.type "bool",true,rfl,rfl,.of (.bl b),(MY K).1,true,rfl,BT ⟨_,rfl,_,_,_,.type "bool",true,rfl,rfl,.of (.bl b),(MY K).2.1,true,rfl,k⟩⟩
   |str z=>exact⟨_,rfl,_,_,_,.type "str",false,rfl,rfl,.of (.str z),(MY K).2.2.1,false,rfl,Bb k⟩
   |non=>exact⟨_,rfl,_,_,_,.type "NoneType",false,rfl,rfl,.of .non,(MY K).2.2.2.1,false,rfl,Bb k⟩
   |lst h=>exact⟨_,rfl,_,_,_,.type "list",false,rfl,rfl,.of (.lst h),(MY K).2.2.2.2,false,rfl,Bb k⟩
inductive SpLvF(a:Ad)(vs:List V)(H:Hp)(Q:VK):Prop
 |mk (g:GA) (G:Gv) (f n e:Nat) (_:vs=[.ref g.p,.int f,.int e]) (_:AI a H g G) (_:Ak G f ((n+1:Nat):Int)) (_:n<=40) (_:e<=40) (_:∀l:Nat,l<=41->n<=l->e<=l->2^n+2^e<=2^l->Q (.int ((l+2:Nat):Int)) H):SpLvF a vs H Q
def US(a:Ad):Sp:=λvs H Q _=>SpLvF a vs H Q
theorem ok_lvf{f:Addr}{fd:FuncData}(F:Fun K "level_for" "level_for" GY f fd)(T:Top K mg a)(aH:Cal P w K mg base CX0 4 "reach_of" DE (Iy a)):AJ P w K mg base CX0 5 f fd Ih (US a):=by
 refine F.ok Ee (λvs H Q E h=>?_) (λcdv A outer s H vs Q E hr h=>?_)
 ·obtain⟨g,G,f',n,e,rfl,_⟩:=h;rfl
 ·obtain⟨g,G,f',n,e,rfl,hg,lf,n40,e40,k⟩:=h;refine⟨_,(Ac (Ao (i:=3) Ee.nd rfl (Or.inl rfl) (AK Bw (Aq aH (rm hr) rfl An (Aa (pv 0) (Aa (pv 1) Ab))) (AK Lx Ae (pv 2)))) (Ac (Ao (i:=4) Ee.nd rfl (Or.inl rfl) Ae) (Ac (Ey W2 (Ax GO (AK Lx Ae (AK Bf (pv 4) Ae)) (pv 3) (AC _)) (Ag (Ao (i:=4) Ee.nd rfl (Or.inl rfl) (AK Bw (pv 4) Ae)))) (Ag (As (pv 4)))))),?_⟩
  try dsimp only[cxK]
  refine AW ?_;intro r1 s1 k1 hk1 E1;refine xw2 rfl rfl ⟨g,G,f',n,rfl,hg,lf,by lia,?_⟩;refine xwb rfl rfl rfl ⟨⟨by lia,by lia,by decide⟩,_,_,rfl,rfl,?_⟩;have eR:(2:Int)^n+1*2^(e:Int).toNat=((2^n+2^e:Nat):Int):=by
   rw[L7,Int.one_mul,P1,L9,L9];rfl
  have pn:2^n<=2^40:=N4 A3 n40;have pe:2^e<=2^40:=N4 A3 e40;have pn0:=AX n;have pe0:=AX e;rw[show(λi j:Int=>V.int (i+j)) (2^n) ((λi j:Int=>i*2^j.toNat) 1 (e:Int))=V.int ((2^n+2^e:Nat):Int)from W0 V.int eR];generalize hR:2^n+2^e=R at k;have R41:R<=2^41:=by rw[<-hR];lia
  refine hk1 ?_;refine AW ?_;intro r2 s2 k2 hk2 E2;refine hk2 ?_;refine⟨λm σ H2=>∃j:Nat,σ=[some (.ref g.p),some (.int f'),some (.int (e:Int)),some (.int (R:Int)),some (.int ((j+2:Nat):Int))]/\H2=H/\j+m=41,⟨41,0,rfl,rfl,rfl⟩,?_⟩;rintro m σ H2 ⟨j,rfl,rfl,jm⟩;refine xwb rfl rfl rfl ⟨_,_,rfl,rfl,⟨by lia,by lia,by decide⟩,_,rfl,_,_,rfl,rfl,_,rfl,?_⟩;have eJ:(1:Int)*2^(((j+2:Nat):Int)-2).toNat=((2^j:Nat):Int):=by
   rw[show(((j+2:Nat):Int)-2).toNat=j by lia,Int.one_mul,L9];rfl
  refine IM (λhc=>?_) (λhc=>?_)
  ·have hc:=W1 hc;have hc:(1:Int)*2^(((j+2:Nat):Int)-2).toNat<(R:Int):=hc;rw[eJ]at hc;have m0:m≠0:=λz=>by
    subst z;have:j=41:=by lia
    subst this;lia
   refine⟨fun σ' H'=>∃j2:Nat,σ'=[some (.ref g.p),some (.int f'),some (.int (e:Int)),some (.int (R:Int)),some (.int ((j2+2:Nat):Int))]/\H'=H2/\j2+(m-1)=41,fun σ' H' z=>⟨m-1,by lia,z⟩,?_⟩;have ej:((j+2:Nat):Int)+1=((j+1+2:Nat):Int):=by lia
   exact xwb rfl rfl rfl ⟨j+1,W0 (λz:Int=>[some (V.ref g.p),some (V.int f'),some (V.int (e:Int)),some (V.int (R:Int)),some (V.int z)]) ej,rfl,by lia⟩
  ·have hc:¬(1:Int)*2^(((j+2:Nat):Int)-2).toNat<(R:Int):=λz=>hc (V1 z);rw[eJ]at hc;have le:R<=2^j:=by lia
   refine⟨_,rfl,k j A1 ?_ ?_ le⟩
   ·refine O8 λz=>?_;have:2^j<2^n:=T6 A3 z;lia
   ·refine O8 λz=>?_;have:2^j<2^e:=T6 A3 z;lia
inductive SpWT(a:Ad)(vs:List V)(H:Hp)(Q:VK):Prop
 |mk (g:GA) (G:Gv) (f n k:Nat) (_:vs=[.ref g.p,.int f,.int ((n+k+1:Nat):Int)]) (_:Bn a H g G) (_:Ak G f ((n+1:Nat):Int)) (_:n+k<=46) (_:G.length<8000000) (_:∀(v:Nat)(G':Gv)(H':Hp),Fr g H H'->Bn a H' g G'->AG G G' (5*k)->LL G' n f k v->Ak G' v ((n+k+1:Nat):Int)->Q (.int v) H'):SpWT a vs H Q
def spWT(a:Ad):Sp:=λvs H Q _=>SpWT a vs H Q
theorem ok_wt{f:Addr}{fd:FuncData}(F:Fun K "widened_to" "widened_to" FY f fd)(T:Top K mg a)(a7:BK P w K mg base CX0 3 a.c_Grove "level_of" Ba (LO a))(b9:Cal P w K mg base CX0 4 "widened" IA (Sy a)):AJ P w K mg base CX0 5 f fd Go (spWT a):=by
 refine F.ok Fj (λvs H Q E h=>?_) (λcdv A outer s H vs Q E hr h=>?_)
 ·obtain⟨g,G,f',n,kk,rfl,_⟩:=h;rfl
 ·obtain⟨g,G,f',n,kk,rfl,fu,hl,n46,few,k⟩:=h;refine⟨_,(Ac (Ao (i:=3) Fj.nd rfl (Or.inl rfl) (pv 1)) (Ac (Ey W2 (Ax GO (AF (pv 0) a7 (rm hr) An (Aa (pv 3) Ab)) (pv 2) (AC _)) (Ag (Ao (i:=3) Fj.nd rfl (Or.inl rfl) (Aq b9 (rm hr) rfl An (Aa (pv 0) (Aa (pv 3) Ab)))))) (Ag (As (pv 3))))),?_⟩
  try dsimp only[cxK]
  refine xq1 rfl ?_;refine⟨λm σ H2=>∃(G':Gv)(c j:Nat),σ=[some (.ref g.p),some (.int f'),some (.int ((n+kk+1:Nat):Int)),some (.int c)]/\Fr g H H2/\Bn a H2 g G'/\AG G G' (5*j)/\j+m=kk/\Ak G' c ((n+j+1:Nat):Int)/\LL G' n f' j c,⟨kk,G,f',0,rfl,Fr.refl g H,fu,AG.refl fu.ok,by lia,hl,rfl⟩,?_⟩;rintro m σ H2 ⟨G',c,j,rfl,fr,fu2,go,e40,lc,wn⟩;have gf:=go.few;obtain⟨q,eq,el⟩:=id lc;refine⟨_,rfl,g.p,g.dx,_,rfl,fu2.at'.hp,DI g,_,rfl,⟨g,G',c,q,rfl,fu2.at',eq,?_⟩⟩;rw[el];refine⟨_,rfl,_,_,rfl,rfl,_,rfl,IM (λhc=>?_) (λhc=>?_)⟩
  ·have hc:((n+j+1:Nat):Int)<((n+kk+1:Nat):Int):=W1 hc;refine⟨fun σ' H'=>∃(G2:Gv)(c2 j2:Nat),σ'=[some (.ref g.p),some (.int f'),some (.int ((n+kk+1:Nat):Int)),some (.int c2)]/\Fr g H H'/\Bn a H' g G2/\AG G G2 (5*j2)/\j2+(m-1)=kk/\Ak G2 c2 ((n+j2+1:Nat):Int)/\LL G2 n f' j2 c2,fun σ' H' z=>⟨m-1,by lia,z⟩,?_⟩;refine xw2 rfl rfl ⟨g,G',c,n+j,rfl,fu2,lc,by lia,by lia,λc2 G2 H3 fr3 hg3 go3 wi=>?_⟩;refine⟨G2,c2,j+1,rfl,fr.trans fr3,fu2.fr fr3 hg3 go3,(go.trans go3).mono A1,by lia,?_,⟨c,wn.app go3,wi⟩⟩;have:=wi.lev;rw[show n+(j+1)+1=n+j+2 by lia];exact this
  ·have hc:¬((n+j+1:Nat):Int)<((n+kk+1:Nat):Int):=λz=>hc (V1 z);have:j=kk:=by lia
   subst this;exact⟨_,rfl,k c G' H2 fr fu2 go wn lc⟩
end
def EN(φ:Int->Int->Nat)(k:Nat):Prop:=∀x y,φ x y≠0->-(2^40)+(k:Int)<=x/\x+k<2^40/\-(2^40)+(k:Int)<=y/\y+k<2^40
theorem VD {φ:Int->Int->Nat} {b:Bx} (t:Nr (λx y=>φ x y≠0) b) (k:Nat):GH (b.l-k) (b.t-k) (b.w+2*k) (b.h+2*k) (2^40)↔EN φ k:=by
 unfold GH;constructor
 ·rintro⟨h1,h2,h3,h4⟩ x y h;have:=t.inn x y h;lia
 ·intro h;obtain⟨v1,h1⟩:=t.le;obtain⟨v2,h2⟩:=t.to;obtain⟨v3,h3⟩:=t.ri;obtain⟨v4,h4⟩:=t.bo;have a1:=h _ _ h1;have a2:=h _ _ h2;have a3:=h _ _ h3;have a4:=h _ _ h4;lia
section
variable{P:Program}{w:World}{K:PySem.W.Frag}{mg:Str->Option Value}{base:Heap}{a:Ad}
inductive WD(a:Ad)(vs:List V)(H:Hp)(Q:VK)(E:XK):Prop
 |mk (g:GA) (G:Gv) (f n k:Nat) (_:vs=[.ref g.p,.int f,.int (k:Int)]) (_:Bn a H g G) (_:Ak G f ((n+1:Nat):Int)) (_:n<48) (_:G.length<8000000) (_:EN (fieldF G n f) k->∀H',FrQ g H H'->Bn a H' g G->Q .non H') (_:¬EN (fieldF G n f) k->∀H',FrQ g H H'->Bn a H' g G->E (.ref a.x_TooFar) none H'):WD a vs H Q E
 |no (q f v:V) (_:vs=[q,f,v]) (_:Ny H v\/∃i:Int,v=.int i/\i<0) (_:E (.ref a.x_NoSteps) none H):WD a vs H Q E
def UY(a:Ad):Sp:=λvs H Q E=>WD a vs H Q E
theorem ok_chl{f:Addr}{fd:FuncData}(F:Fun K "check_leap" "check_leap" Gd f fd)(T:Top K mg a)(aC:Cal P w K mg base CX0 1 "is_whole" CZ UT)(bW:Cal P w K mg base CX0 102 "box_of" ML (OR a))(aB:Cal P w K mg base CX0 1 "lies_within" CO Qg):AJ P w K mg base (CXE P w) 103 f fd Gr (UY a):=by
 refine F.okE Fk (λvs H Q E h=>?_) (λcdv A outer s H vs Q E hr h=>?_)
 ·cases h with
  |mk g G f' n k e=>rw[e];rfl
  |no q f' v e=>rw[e];rfl
 ·cases h with
  |no q f' v e od k =>
   subst e;refine⟨_,(Ac (AN (PW.pt (IP (Ds (CY (Aq aC (rm hr) rfl An (Aa (pv 2) Ab)))) (Ft (Ax GO (pv 2) Ae (AC _))))) (Ag (JA Mg rfl rfl T.mx_NoSteps T.ec_NoSteps (Cf Ab))) AB) (Ac (Ao (i:=3) Fk.nd rfl (Or.inl rfl) (Aq bW (rm hr) rfl An (Aa (pv 0) (Aa (pv 1) Ab)))) (Ag (AN (PW.pt (Ic (Ax Pd (pv 3) Cz (AC _)) (EV (Ds (CY (Aq aB (rm hr) rfl An (Be (Bl Bf (Aj Am (pv 3) Ae (λ_ _=>rfl)) (pv 2) (Bl Bf (Aj Am (pv 3) Ae (λ_ _=>rfl)) (pv 2) (Bl Bw (Aj Am (pv 3) Ae (λ_ _=>rfl)) (AK Jj Ae (pv 2)) (Bl Bw (Aj Am (pv 3) Ae (λ_ _=>rfl)) (AK Jj Ae (pv 2)) Ab)))) (Aa (BI rfl T.k_LIMIT) Ab)))))))) (Ag (JA Mg rfl rfl T.mx_TooFar T.ec_TooFar (Cf Ab))) AB)))),?_⟩
   try dsimp only[cxK]
   refine AW ?_;intro r1 s1 k1 hk1 E1;rcases od with od|⟨i,rfl,hi⟩
   ·exact⟨_,rfl,.no v rfl od ⟨false,rfl,BT ⟨by show 1<=100;decide,k⟩⟩⟩
   ·refine⟨_,rfl,.mk i rfl ⟨true,rfl,Bb ?_⟩⟩;refine⟨_,rfl,_,_,rfl,rfl,_,rfl,?_⟩;rw[V1 hi];exact BT ⟨by show 1<=100;decide,k⟩
  |mk g G f' n k e fu lf n48 few kn kf =>
   subst e;refine⟨_,(Ac (AN (PW.pt (IP (Ds (CY (Aq aC (rm hr) rfl An (Aa (pv 2) Ab)))) (Ft (Ax GO (pv 2) Ae (AC _))))) (Ag (JA Mg rfl rfl T.mx_NoSteps T.ec_NoSteps (Cf Ab))) AB) (Ac (Ao (i:=3) Fk.nd rfl (Or.inl rfl) (Aq bW (rm hr) rfl An (Aa (pv 0) (Aa (pv 1) Ab)))) (Ag (AN (PW.pt (Ic (Ax Pd (pv 3) Cz (AC _)) (EV (Ds (CY (Aq aB (rm hr) rfl An (Be (Bl Bf (Aj Am (pv 3) Ae (λ_ _=>rfl)) (pv 2) (Bl Bf (Aj Am (pv 3) Ae (λ_ _=>rfl)) (pv 2) (Bl Bw (Aj Am (pv 3) Ae (λ_ _=>rfl)) (AK Jj Ae (pv 2)) (Bl Bw (Aj Am (pv 3) Ae (λ_ _=>rfl)) (AK Jj Ae (pv 2)) Ab)))) (Aa (BI rfl T.k_LIMIT) Ab)))))))) (Ag (JA Mg rfl rfl T.mx_TooFar T.ec_TooFar (Cf Ab))) AB)))),?_⟩
   try dsimp only[cxK]
   refine AW ?_;intro r1 s1 k1 hk1 E1;refine⟨_,rfl,.mk (k:Int) rfl ⟨true,rfl,Bb ?_⟩⟩;refine⟨_,rfl,_,_,rfl,rfl,_,rfl,?_⟩;rw[V3 A1];refine Bb ?_;refine hk1 ?_;refine AW ?_;intro r2 s2 k2 hk2 E2;refine xw2 rfl rfl ⟨g,G,f',n,rfl,fu,lf,n48,few,λeb H1 fq fu1=>?_,λbb eb t H1 fq fu1 ht=>?_⟩
   ·refine hk2 ?_;refine⟨_,rfl,rfl,false,rfl,Bb ?_⟩;refine kn (λx y h=>absurd (RC fu.ok lf eb x y) h) H1 fq fu1
   ·refine hk2 ?_;have tg:=PY fu.ok lf eb;generalize mvB (2^n) bb=B at ht tg;have ht:H1 t=some (.tup [.int B.l,.int B.t,.int B.w,.int B.h]):=ht;have nb:=VD tg k;refine⟨_,rfl,rfl,true,rfl,BT ?_⟩;refine⟨_,rfl,t,_,0,.int B.l,rfl,rfl,SqT.of ht,Al (j:=0) rfl,_,rfl,_,_,rfl,rfl,?_⟩;refine⟨_,rfl,t,_,1,.int B.t,rfl,rfl,SqT.of ht,Al (j:=1) rfl,_,rfl,_,_,rfl,rfl,?_⟩;refine⟨_,rfl,t,_,2,.int B.w,rfl,rfl,SqT.of ht,Al (j:=2) rfl,_,rfl,_,_,rfl,rfl,.inl ⟨by decide,by decide⟩,_,_,rfl,rfl,?_⟩;refine⟨_,rfl,t,_,3,.int B.h,rfl,rfl,SqT.of ht,Al (j:=3) rfl,_,rfl,_,_,rfl,rfl,.inl ⟨by decide,by decide⟩,_,_,rfl,rfl,?_⟩;refine⟨by show 4<=sizeLine;decide,λu hu=>?_⟩;refine⟨u,B.l-k,B.t-k,B.w+2*k,B.h+2*k,2^40,rfl,Af,?_⟩;generalize eH:upd H1 u _=H2;have s2':AA H1 H2:=eH▸Ay hu;clear eH;have fq2:FrQ g H H2:=fq.trans (AA.frq s2');have fu2:=fu1.same s2';by_cases z:GH (B.l-k) (B.t-k) (B.w+2*k) (B.h+2*k) (2^40)
    ·rw[V1 z];exact⟨true,rfl,Bb (kn (nb.mp z) H2 fq2 fu2)⟩
    ·rw[V3 z];exact⟨false,rfl,BT ⟨by show 1<=100;decide,kf (λy=>z (nb.mpr y)) H2 fq2 fu2⟩⟩
end
def pc(n:Nat):Nat:=if h:n=0 then 0 else n%2+pc (n/2)
termination_by n
decreasing_by exact Nat.div_lt_self (Nat.pos_of_ne_zero h) A3
theorem pc_eq(n:Nat):pc n=n%2+pc (n/2):=by
 by_cases h:n=0
 ·subst h;rw[pc];simp
 ·conv=>lhs;rw[pc,dif_neg h]
def Stl(r:AH):Prop:=∀(φ:Sht) k,Bc r k φ=φ
def Dyg(r:AH):Prop:=∀(φ:Sht) k x y,Bc r (k+1) φ x y=0
theorem Nq{G r:Gv}(e:G=G0++r)(ok:GOk G):Ak G (bareN 1) ((0+1:Nat):Int)/\JU G 0 (bareN 1)/\∀x y,fieldF G 0 (bareN 1) x y=0:=by
 refine⟨FP e (n:=1) A3,.inl rfl,λx y=>?_⟩;unfold fieldF;by_cases z:-(2^0)<=x/\x<2^0/\-(2^0)<=y/\y<2^0
 ·rw[V2 z];exact FM e ok (n:=1) A3 (by show _<2;have:(2:Int)^0=1:=rfl;lia) (by show _<2;have:(2:Int)^0=1:=rfl;lia)
 ·rw[V0 z]
theorem near_lt{φ:Int->Int->Nat}{k:Nat}(h:EN φ k){x y:Int}(hx:φ x y≠0):k<2^40:=by
 have:=h x y hx;lia
theorem Sx{r:AH}(h:Stl r)(k:Dyg r):False:=by
 have h1:Bc r (0+1) (λ_ _=>1) 0 0=1:=by rw[h]
 rw[k]at h1;cases h1
def Tp(H:Hp)(G:Gv)(r:AH)(φ:Int->Int->Nat)(ts:List Addr):Prop:=∃(t:Addr)(sq e res l:Nat),ts.getLast?=some t/\H t=some (.tup [.int sq,.int e,.int res])/\l<=41/\Ak G res ((l+1:Nat):Int)/\(Stl r->∀x y,fieldF G l res x y=φ x y)/\(Dyg r->∀x y,fieldF G l res x y=0)
section
variable{P:Program}{w:World}{K:PySem.W.Frag}{mg:Str->Option Value}{base:Heap}{a:Ad}
inductive Sd(a:Ad)(vs:List V)(H:Hp)(Q:VK)(E:XK):Prop
 |mk (p dx mem pr:Addr) (g:GA) (G:Gv) (φ:Int->Int->Nat) (N b:Nat) (r:AH) (m:MA) (f n k:Nat) (_:vs=[.ref p,.int f,.int (k:Int)]) (_:ZS a H g G (Kc (shF φ)) N b p dx mem pr r m) (_:Nz (Kc (shF φ)) N) (_:Stl r\/Dyg r) (_:Ak G f ((n+1:Nat):Int)) (_:n<=40) (_:JU G n f) (_:f=bareN 1\/(f≠bareN 1/\∀x y,fieldF G n f x y=φ x y)) (_:b+12000+470*N<890000) (_:EN (fieldF G n f) k->∀(L:Addr)(ts:List Addr)(G':Gv)(H':Hp)(i:Nat),FrZ g m H H'->ZS a H' g G' (Kc (shF φ)) N (b+12000) p dx mem pr r m->AG G G' i->H L=none->H' L=some (.lst (ts.map V.ref))->((ts=[]/\(k=0\/f=bareN 1))\/(k≠0/\f≠bareN 1/\Tp H' G' r φ ts))->(Stl r->f≠bareN 1->ts.length=pc k)->Q (.ref L) H') (_:¬EN (fieldF G n f) k->∀H',FrZ g m H H'->ZS a H' g G (Kc (shF φ)) N b p dx mem pr r m->E (.ref a.x_TooFar) none H'):Sd a vs H Q E
 |no (p dx mem pr:Addr) (g:GA) (m:MA) (f v:V) (_:vs=[.ref p,f,v]) (_:H p=some (.ins a.c_Jumps dx (jf5 g.p mem pr m.l m.kc))) (_:Ny H v\/∃i:Int,v=.int i/\i<0) (_:E (.ref a.x_NoSteps) none H):Sd a vs H Q E
def Fc(a:Ad):Sp:=λvs H Q E=>Sd a vs H Q E
theorem ok_road{f:Addr}{fd:FuncData}(F:Fun K "road" "road" Rv f fd)(T:Top K mg a)(b8:Cal P w K mg base (CXE P w) 103 "check_leap" Gr (UY a))(aQ:Cal P w K mg base CX0 1 "bare_field" Ej (Mf a))(bH:Cal P w K mg base CX0 5 "level_for" Ih (US a))(b7:Cal P w K mg base CX0 5 "widened_to" Go (spWT a))(b6:BK P w K mg base CX0 149 a.c_Jumps "after" Fz (Fd a 46))(aM:Cal P w K mg base CX0 4 "trimmed" FI (Mq a)):AJ P w K mg base (CXE P w) 150 f fd Pc (Fc a):=by
 refine F.okE Bo (λvs H Q E h=>?_) (λcdv A outer s H vs Q E hr h=>?_)
 ·cases h with
  |mk p dx mem pr g G φ N b r m f' n k e=>rw[e];rfl
  |no p dx mem pr g m f' v e=>rw[e];rfl
 ·cases h with
  |no p dx mem pr g m f' v e hp od k =>
   subst e;refine⟨_,(Ac (Ao (i:=3) Bo.nd rfl (Or.inl rfl) (Az (pv 0) rfl)) (Ac (Cd (Aq b8 (rm hr) rfl SK (Aa (pv 3) (Aa (pv 1) (Aa (pv 2) Ab))))) (Ac (Ao (i:=4) Bo.nd rfl (Or.inl rfl) (CA Ab)) (Ac (Ao (i:=5) Bo.nd rfl (Or.inl rfl) (pv 1)) (Ac (Ao (i:=6) Bo.nd rfl (Or.inl rfl) (pv 2)) (Ac (Ao (i:=7) Bo.nd rfl (Or.inl rfl) Ae) (Ac (Ey PassesOwn.leaving (PW.pt (Ic (Ax Qv (pv 6) Ae (AC _)) (EV (Ax GN (pv 5) (Aq aQ (rm hr) rfl An (Aa (pv 3) Ab)) (AC _))))) (Ac (AN (Ax CQ (AK Cg (pv 6) Ae) Ae (AC _)) (Ac (Ao (i:=8) Bo.nd rfl (Or.inl rfl) (Aq b7 (rm hr) rfl An (Aa (pv 3) (Aa (pv 5) (Aa (Aq bH (rm hr) rfl An (Aa (pv 3) (Aa (pv 5) (Aa (pv 7) Ab)))) Ab))))) (Ac (Ao (i:=9) Bo.nd rfl (Or.inl rfl) (AF (pv 0) b6 (rm hr) An (Aa (pv 8) (Aa (pv 7) Ab)))) (Ac (Cd (GM W3 W5 W6 Dg (pv 4) (Be (Aa (pv 8) (Aa (pv 7) (Aa (pv 9) Ab))) Ab))) (Ag (Ao (i:=5) Bo.nd rfl (Or.inl rfl) (Aq aM (rm hr) rfl An (Aa (pv 3) (Aa (pv 9) Ab)))))))) AB) (Ac (Ao (i:=6) Bo.nd rfl (Or.inl rfl) (AK IC (pv 6) Ae)) (Ag (Ao (i:=7) Bo.nd rfl (Or.inl rfl) (AK Bw (pv 7) Ae)))))) (Ag (As (pv 4)))))))))),?_⟩
   try dsimp only[cxK]
   refine AW ?_;intro r1 s1 k1 hk1 E1;refine xwf rfl rfl hp T.cl_Jumps T.na_Jumps_grove (Dc _ _ _ _ _) ?_;refine hk1 ?_;refine AW ?_;intro r2 s2 k2 hk2 E2;exact xw3 rfl rfl rfl (.no _ _ v rfl od k)
  |mk p dx mem pr g G φ N b r m f' n k e zs fin st lf n40 tr hf few kn kf =>
   subst e;refine⟨_,(Ac (Ao (i:=3) Bo.nd rfl (Or.inl rfl) (Az (pv 0) rfl)) (Ac (Cd (Aq b8 (rm hr) rfl SK (Aa (pv 3) (Aa (pv 1) (Aa (pv 2) Ab))))) (Ac (Ao (i:=4) Bo.nd rfl (Or.inl rfl) (CA Ab)) (Ac (Ao (i:=5) Bo.nd rfl (Or.inl rfl) (pv 1)) (Ac (Ao (i:=6) Bo.nd rfl (Or.inl rfl) (pv 2)) (Ac (Ao (i:=7) Bo.nd rfl (Or.inl rfl) Ae) (Ac (Ey PassesOwn.leaving (PW.pt (Ic (Ax Qv (pv 6) Ae (AC _)) (EV (Ax GN (pv 5) (Aq aQ (rm hr) rfl An (Aa (pv 3) Ab)) (AC _))))) (Ac (AN (Ax CQ (AK Cg (pv 6) Ae) Ae (AC _)) (Ac (Ao (i:=8) Bo.nd rfl (Or.inl rfl) (Aq b7 (rm hr) rfl An (Aa (pv 3) (Aa (pv 5) (Aa (Aq bH (rm hr) rfl An (Aa (pv 3) (Aa (pv 5) (Aa (pv 7) Ab)))) Ab))))) (Ac (Ao (i:=9) Bo.nd rfl (Or.inl rfl) (AF (pv 0) b6 (rm hr) An (Aa (pv 8) (Aa (pv 7) Ab)))) (Ac (Cd (GM W3 W5 W6 Dg (pv 4) (Be (Aa (pv 8) (Aa (pv 7) (Aa (pv 9) Ab))) Ab))) (Ag (Ao (i:=5) Bo.nd rfl (Or.inl rfl) (Aq aM (rm hr) rfl An (Aa (pv 3) (Aa (pv 9) Ab)))))))) AB) (Ac (Ao (i:=6) Bo.nd rfl (Or.inl rfl) (AK IC (pv 6) Ae)) (Ag (Ao (i:=7) Bo.nd rfl (Or.inl rfl) (AK Bw (pv 7) Ae)))))) (Ag (As (pv 4)))))))))),?_⟩
   try dsimp only[cxK]
   have sz:=zs.jz.sz fin;refine AW ?_;intro r1 s1 k1 hk1 E1;refine xwf rfl rfl zs.jz.jw.hp T.cl_Jumps T.na_Jumps_grove (Dc _ _ _ _ _) ?_;refine hk1 ?_;refine AW ?_;intro r2 s2 k2 hk2 E2;refine xw3 rfl rfl rfl (.mk g G f' n k rfl zs.fu lf A1 A1 (λnr H1 fq fu1=>?_) (λnn H1 fq fu1=>kf nn H1 (FrQ.z fq) (zs.frQ fq fu1)));have zs1:=zs.frQ fq fu1;have fz1:FrZ g m H H1:=FrQ.z fq;refine hk2 ?_;refine AW ?_;intro r3 s3 k3 hk3 E3;refine⟨by show 0<=sizeLine;decide,λL nL=>?_⟩;generalize eH:upd H1 L _=H2;have s2':AA H1 H2:=eH▸Ay nL;have hL2:H2 L=some (.lst (([]:List Addr).map V.ref)):=eH▸Af;clear eH;have zs2:=zs1.same s2';obtain⟨nL1,nL2⟩:=zs1.new nL;have apL:=zs1.ap nL;refine hk3 ?_;refine AW ?_;intro r4 s4 k4 hk4 E4;refine xq1 rfl (hk4 ?_);refine AW ?_;intro r5 s5 k5 hk5 E5;refine xq1 rfl (hk5 ?_);refine AW ?_;intro r6 s6 k6 hk6 E6;refine hk6 ?_;refine AW ?_;intro r7 s7 k7 hk7 E7;have hL0:H L=none:=by
    cases e:H L with
    |none=>rfl
    |some o =>
     have h1:=fq L o e (λz=>nL1 (by simp[z])) (λz=>nL1 (by simp[z]));rw[nL]at h1;cases h1
   have fz2:FrZ g m H H2:=fz1.trans (AA.z s2');have hk0:k/2^0=k:=by rw[Nat.pow_zero,Nat.div_one]
   refine⟨fun μ σ H3=>∃(j:Nat)(G':Gv)(ts:List Addr)(h:Nat)(u8 u9:Option V)(i:Nat),σ=[some (.ref p),some (.int f'),some (.int (k:Int)),some (.ref g.p),some (.ref L),some (.int h),some (.int ((k/2^j:Nat):Int)),some (.int (j:Int)),u8,u9]/\j+μ=41/\FrZ g m H H3/\ZS a H3 g G' (Kc (shF φ)) N (b+270*ts.length) p dx mem pr r m/\AG G G' i/\H3 L=some (.lst (ts.map V.ref))/\ts.length<=j/\((ts=[]/\k%2^j=0)\/(k≠0/\f'≠bareN 1/\Tp H3 G' r φ ts))/\((Stl r/\h=f')\/(Dyg r/\ts=[]/\h=f')\/(Dyg r/\ts≠[]/\h=bareN 1))/\(Stl r->ts.length+pc (k/2^j)=pc k),⟨41,0,G,[],f',none,none,0,(by rw[hk0];rfl),rfl,fz2,zs2,AG.refl zs.fu.ok,hL2,C0 _,.inl ⟨rfl,by rw[Nat.pow_zero,Nat.mod_one]⟩,(by rcases st with st|st;exact .inl ⟨st,rfl⟩;exact .inr (.inl ⟨st,rfl,rfl⟩)),λ_=>by rw[hk0];exact N2 _⟩,?_⟩;rintro μ σ H3 ⟨j,G',ts,h,u8,u9,i,rfl,jm,fz3,zs3,go3,hL3,tl,la,mo,co⟩;have sz3:=zs3.jz.sz fin;have done:(k/2^j=0\/h=bareN 1)->k7 [some (.ref p),some (.int f'),some (.int (k:Int)),some (.ref g.p),some (.ref L),some (.int h),some (.int ((k/2^j:Nat):Int)),some (.int (j:Int)),u8,u9] H3:=λex=>by
    refine hk7 ?_;refine xq1 rfl (kn nr L ts G' H3 i fz3 (zs3.mono A1) go3 hL0 hL3 ?_ ?_)
    ·rcases la with ⟨rfl,kz⟩|la
     ·refine .inl ⟨rfl,?_⟩;rcases ex with ex|rfl
      ·left
       rw[<-O3 k (2^j),ex,kz,Nat.mul_zero]
      ·right
       rcases mo with ⟨_,e⟩|⟨_,_,e⟩|⟨_,e,_⟩
       ·exact e.symm
       ·exact e.symm
       ·exact absurd rfl e
     ·exact .inr la
    ·intro hs nf;have:=co hs;rcases ex with ex|rfl
     ·rw[ex,pc]at this;exact this
     ·rcases mo with ⟨_,e⟩|⟨dy,_⟩|⟨dy,_⟩
      ·exact absurd e.symm nf
      ·exact(Sx hs dy).elim
      ·exact(Sx hs dy).elim
   refine⟨_,rfl,_,_,rfl,rfl,_,rfl,IM (λhc=>?_) (λhc=>?_)⟩
   ·have hc:((k/2^j:Nat):Int) > 0:=W1 hc;have kj:k/2^j≠0:=by lia
    refine⟨_,rfl,_,rfl,g,G',rfl,zs3.fu,rfl,_,rfl,?_⟩;by_cases hb:h=bareN 1
    ·subst hb;rw[V1 rfl];exact Bb (done (.inr rfl))
    ·rw[V3 (λz=>hb (by injection z with z;exact V8 z))];refine BT ?_;have hh:h=f':=by
      rcases mo with ⟨_,e⟩|⟨_,_,e⟩|⟨_,_,e⟩
      ·exact e
      ·exact e
      ·exact absurd e hb
     subst hh;have hφ:∀x y,fieldF G n h x y=φ x y:=by
      rcases hf with e|⟨_,e⟩
      ·exact absurd e hb
      ·exact e
     obtain⟨r0,e0⟩:=zs.fu.g0;obtain⟨x0,y0,h0⟩:∃x y,fieldF G n h x y≠0:=by
      refine W4 λno=>hb ?_;obtain⟨b1,b2,b3⟩:=Nq e0 zs.fu.ok;refine(EL e0 zs.fu.ok A1 A3 lf b1 tr b2 λx y=>?_).2;rw[b3];exact W4 λz=>no ⟨x,y,z⟩
     have k40:=near_lt nr h0;have j40:j<40:=by
      refine Nat.lt_of_not_le λz=>kj (N8 (D8 k40 (N4 A3 z)))
     refine⟨fun σ' H4=>∃(j:Nat)(G':Gv)(ts:List Addr)(h':Nat)(u8 u9:Option V)(i:Nat),σ'=[some (.ref p),some (.int h),some (.int (k:Int)),some (.ref g.p),some (.ref L),some (.int h'),some (.int ((k/2^j:Nat):Int)),some (.int (j:Int)),u8,u9]/\j+(μ-1)=41/\FrZ g m H H4/\ZS a H4 g G' (Kc (shF φ)) N (b+270*ts.length) p dx mem pr r m/\AG G G' i/\H4 L=some (.lst (ts.map V.ref))/\ts.length<=j/\((ts=[]/\k%2^j=0)\/(k≠0/\h≠bareN 1/\Tp H4 G' r φ ts))/\((Stl r/\h'=h)\/(Dyg r/\ts=[]/\h'=h)\/(Dyg r/\ts≠[]/\h'=bareN 1))/\(Stl r->ts.length+pc (k/2^j)=pc k),fun σ' H4 z=>⟨μ-1,by lia,z⟩,?_⟩;have dv:k/2^(j+1)=k/2^j/2:=by rw[D9,Nat.div_div_eq_div_mul]
     have md:k%2^(j+1)=k%2^j+2^j*(k/2^j%2):=Nat.mod_pow_succ;have pe:=pc_eq (k/2^j);refine AW ?_;intro r8 s8 k8 hk8 E8;apply Ob (T:=k8) (fun σ' H4=>∃(G':Gv)(ts:List Addr)(h':Nat)(u8 u9:Option V)(i:Nat),σ'=[some (.ref p),some (.int h),some (.int (k:Int)),some (.ref g.p),some (.ref L),some (.int h'),some (.int ((k/2^j:Nat):Int)),some (.int (j:Int)),u8,u9]/\FrZ g m H H4/\ZS a H4 g G' (Kc (shF φ)) N (b+270*ts.length) p dx mem pr r m/\AG G G' i/\H4 L=some (.lst (ts.map V.ref))/\ts.length<=j+1/\((ts=[]/\k%2^(j+1)=0)\/(k≠0/\h≠bareN 1/\Tp H4 G' r φ ts))/\((Stl r/\h'=h)\/(Dyg r/\ts=[]/\h'=h)\/(Dyg r/\ts≠[]/\h'=bareN 1))/\(Stl r->ts.length+pc (k/2^(j+1))=pc k))
     ·intro rest;refine xwb rfl rfl rfl ⟨B1,rfl,(xq1 rfl (IM (λhc=>?_) (λhc=>?_)))⟩
      ·have hc:((k/2^j:Nat):Int)%2=1:=by
        have:=W1 hc;injection this
       have od:k/2^j%2=1:=by lia
       have lf3:=go3.lev lf;have tl40:ts.length<=39:=by lia
       refine AW ?_;intro r9 s9 k9 hk9 E9;refine⟨_,rfl,_,rfl,_,rfl,_,rfl,_,rfl,⟨g,G',h,n,j,rfl,zs3.fu.at',lf3,n40,by lia,λl l41 nl jl le=>?_⟩⟩;have el:n+(l+1-n)+1=l+2:=by lia
       refine⟨g,G',h,n,l+1-n,by rw[el];rfl,zs3.fu,lf3,by lia,by lia,λv G2 H4 fr4 fu4 go4 wn lv=>?_⟩;have zs4:=zs3.fr fr4 fu4 go4;have sz4:=zs4.jz.sz fin;obtain⟨r4,e4⟩:=fu4.g0;have wf:∀x y,fieldF G2 (l+1) v x y=φ x y:=λx y=>by
        have:=IW e4 fu4.ok (k:=l+1-n) (w:=v) A1 wn x y;rw[show n+(l+1-n)=l+1 by lia]at this;rw[this,DJ zs.fu.ok (go3.trans go4) lf,hφ]
       have lv2:Ak G2 v ((l+1+1:Nat):Int):=by rw[show l+1+1=n+(l+1-n)+1 by lia];exact lv
       have go24:=go3.trans go4;refine hk9 ?_;refine AW ?_;intro r10 s10 k10 hk10 E10;refine xwn rfl rfl zs4.jz.jw.hp (TN _ _ _ _ _) rfl (xq1 rfl ⟨p,dx,mem,pr,g,G2,Kc (shF φ),N,_,r,m,v,l,j,rfl,zs4.jz,fin,tame_cl st _,lv2,by lia,jl,fld_kc fu4.ok A1 lv2 wf,by lia,λres G3 H5 i5 fj jz5 go5 jr up=>?_⟩);have zs5:=zs4.aft fj jz5 go5;have sz5:=zs5.jz.sz fin;have fz5:FrZ g m H H5:=(fz3.trans (Fr.z fr4)).trans (FrJ.z fj);have wf5:∀x y,fieldF G3 (l+1) v x y=φ x y:=λx y=>by rw[DJ fu4.ok go5 lv2];exact wf x y
       obtain⟨lr,rs,rd⟩:=fld_jr zs5.fu.ok (go5.lev lv2) jr wf5 (λx y hxy=>by
        rw[<-hφ]at hxy;have p0:((2^n:Nat):Int)=2^n:=L9 2 n;have p1:((2^l:Nat):Int)=2^l:=L9 2 l;have p2:=AX j;have:=W4 λz:¬(-(2^n)<=x/\x<2^n/\-(2^n)<=y/\y<2^n)=>hxy (by unfold fieldF;rw[V0 z]);lia)
       have hL5:H5 L=some (.lst (ts.map V.ref)):=FrJ.z fj _ _ (Fr.z (m:=m) fr4 _ _ hL3 apL.n0 apL.n1) apL.n0 apL.n1;refine hk10 ?_;refine AW ?_;intro r11 s11 k11 hk11 E11;refine⟨_,rfl,.inl ⟨rfl,_,SqL.of hL5⟩,_,rfl,_,rfl,_,rfl,by show 3<=sizeLine;decide,λt nt=>?_⟩;have s6':=Ay (o:=.tup [.int (v:Int),.int (j:Int),.int (res:Int)]) nt;have ht6:upd H5 t (.tup [.int (v:Int),.int (j:Int),.int (res:Int)]) t=some (.tup [.int (v:Int),.int (j:Int),.int (res:Int)]):=Af;generalize upd H5 t (.tup [.int (v:Int),.int (j:Int),.int (res:Int)])=H6 at s6' ht6⊢;have zs6:=zs5.same s6';have hL6:=s6' _ _ hL5;refine⟨L,_,_,rfl,rfl,hL6,by rw[B5];exact IT A1,?_⟩;have zs7:=zs6.putL (o:=.lst (ts.map V.ref++[.ref t])) hL6 apL;have ht7:upd H6 L (.lst (ts.map V.ref++[.ref t])) t=some (.tup [.int (v:Int),.int (j:Int),.int (res:Int)]):=by rw[Ar (AD ht6 hL6 A4)];exact ht6
       have fz7:FrZ g m H (upd H6 L (.lst (ts.map V.ref++[.ref t]))):=λb' o e n1 n2=>by
        rw[Ar (Av e hL0)];exact s6' _ _ (fz5 _ _ e n1 n2)
       have hL7:upd H6 L (.lst (ts.map V.ref++[.ref t])) L=some (.lst ((ts++[t]).map V.ref)):=by rw[Af,C9];rfl
       generalize upd H6 L (.lst (ts.map V.ref++[.ref t]))=H7 at zs7 ht7 fz7 hL7⊢;refine hk11 ?_;refine xw2 rfl rfl ⟨g,G3,res,l,rfl,zs7.fu,lr,by lia,λnh G8 H8 fr8 fu8 go8 tr8=>?_⟩;have zs8:=zs7.fr fr8 fu8 go8;obtain⟨r8,e8⟩:=fu8.g0;obtain⟨m8,ml8,lv8,tm8,fe8⟩:=FU e8 fu8.ok A1 (go8.lev lr) tr8;have fa:∀x y,fieldF G8 l res x y=fieldF G3 l res x y:=λx y=>DJ zs5.fu.ok go8 lr x y;have ht8:=zs7.keep (Fr.z fr8) ht7 (by intro xs z;cases z) (by intro xs z;cases z) (by intro xs z;cases z);have hL8:H8 L=some (.lst ((ts++[t]).map V.ref)):=Fr.z (m:=m) fr8 _ _ hL7 apL.n0 apL.n1;have goz:=(go24.trans go5).trans go8;have k0:k≠0:=λz=>kj (by rw[z,Nat.zero_div]);refine rest _ _ ⟨G8,ts++[t],nh,_,_,_,rfl,fz7.trans (Fr.z fr8),zs8.mono ?_,goz,hL8,by rw[C5];show ts.length+1<=_;lia,.inr ⟨k0,hb,t,v,j,res,l,by rw[List.getLast?_append];rfl,ht8,l41,go8.lev lr,λhs x y=>by rw[fa];exact rs hs x y,λhd x y=>by rw[fa];exact rd hd x y⟩,?_,λhs=>?_⟩
       ·rw[C5];show _<=b+270*(ts.length+1)
        lia
       ·rcases st with hs|hd
        ·refine .inl ⟨hs,?_⟩;refine(EL e8 fu8.ok A1 A1 lv8 (goz.lev lf) tm8 (tr.app goz) λx y=>?_).2;rw[fe8,fa,rs hs,DJ zs.fu.ok goz lf,hφ]
        ·refine .inr (.inr ⟨hd,by simp,?_⟩);obtain⟨b1,b2,b3⟩:=Nq e8 fu8.ok;refine(EL e8 fu8.ok A1 A3 lv8 b1 tm8 b2 λx y=>?_).2;rw[fe8,fa,rd hd,b3]
       ·have:=co hs;rw[pe,od]at this;rw[dv,C5];show ts.length+1+_=_;lia
      ·have hc:¬((k/2^j:Nat):Int)%2=1:=λz=>hc (V1 (W0 V.int z));have ev:k/2^j%2=0:=by lia
       refine rest _ _ ⟨G',ts,h,u8,u9,i,rfl,fz3,zs3,go3,hL3,by lia,?_,mo,λhs=>?_⟩
       ·rcases la with ⟨e1,e2⟩|la
        ·exact .inl ⟨e1,by rw[md,e2,ev,Nat.mul_zero]⟩
        ·exact .inr la
       ·have:=co hs;rw[pe,ev,N2]at this;rw[dv];exact this
     ·rintro σ' H4 ⟨G2,ts2,h2,v8,v9,i2,rfl,fz4,zs4,go4,hL4,tl4,la4,mo4,co4⟩;refine hk8 ?_;refine AW ?_;intro r9 s9 k9 hk9 E9;refine xwb rfl rfl rfl ⟨⟨by decide,by decide⟩,?_⟩;refine hk9 ?_;have ed:((k/2^j:Nat):Int)/2=((k/2^(j+1):Nat):Int):=by rw[dv];lia
      have ej:(j:Int)+1=((j+1:Nat):Int):=by lia
      refine xwb rfl rfl rfl ⟨j+1,G2,ts2,h2,v8,v9,i2,?_,by lia,fz4,zs4,go4,hL4,tl4,la4,mo4,co4⟩;exact(W0 (λu:Int=>[some (V.ref p),some (V.int h),some (V.int (k:Int)),some (V.ref g.p),some (V.ref L),some (V.int h2),some (V.int u),some (V.int ((j:Int)+1)),v8,v9]) ed).trans (W0 (λv:Int=>[some (V.ref p),some (V.int h),some (V.int (k:Int)),some (V.ref g.p),some (V.ref L),some (V.int h2),some (V.int ((k/2^(j+1):Nat):Int)),some (V.int v),v8,v9]) ej)
   ·have hc:¬((k/2^j:Nat):Int) > 0:=λz=>hc (V1 z);exact Bb (done (.inl A1))
end
theorem ifT{b:Bool}{A B:Prop}(h:b=true)(x:A):if b=true then A else B:=by rw[h];exact BT x
theorem ifF{b:Bool}{A B:Prop}(h:b=false)(x:B):if b=true then A else B:=by rw[h];exact Bb x
section
variable{P:Program}{w:World}{K:PySem.W.Frag}{mg:Str->Option Value}{base:Heap}{a:Ad}
inductive Sf(a:Ad)(vs:List V)(H:Hp)(Q:VK)(E:XK):Prop
 |mk (p dx mem pr:Addr) (g:GA) (G:Gv) (φ:Int->Int->Nat) (N b:Nat) (r:AH) (m:MA) (f n k:Nat) (_:vs=[.ref p,.int f,.int (k:Int)]) (_:ZS a H g G (Kc (shF φ)) N b p dx mem pr r m) (_:Nz (Kc (shF φ)) N) (_:Stl r\/Dyg r) (_:Ak G f ((n+1:Nat):Int)) (_:n<=40) (_:JU G n f) (_:f=bareN 1\/(f≠bareN 1/\∀x y,fieldF G n f x y=φ x y)) (_:b+12000+470*N<890000) (_:EN (fieldF G n f) k->∀(d:Nat)(G':Gv)(H':Hp)(i:Nat),FrZ g m H H'->ZS a H' g G' (Kc (shF φ)) N (b+12048) p dx mem pr r m->AG G G' i->((k=0\/f=bareN 1\/Stl r)->d=f)->(k≠0->Dyg r->d=bareN 1)->Q (.int d) H') (_:¬EN (fieldF G n f) k->∀H',FrZ g m H H'->ZS a H' g G (Kc (shF φ)) N b p dx mem pr r m->E (.ref a.x_TooFar) none H'):Sf a vs H Q E
 |no (p dx mem pr:Addr) (g:GA) (m:MA) (f v:V) (_:vs=[.ref p,f,v]) (_:H p=some (.ins a.c_Jumps dx (jf5 g.p mem pr m.l m.kc))) (_:Ny H v\/∃i:Int,v=.int i/\i<0) (_:E (.ref a.x_NoSteps) none H):Sf a vs H Q E
def Fe(a:Ad):Sp:=λvs H Q E=>Sf a vs H Q E
theorem ok_jump{f:Addr}{fd:FuncData}(F:Fun K "jump" "jump" Rw f fd)(T:Top K mg a)(bU:Cal P w K mg base (CXE P w) 150 "road" Pc (Fc a))(aM:Cal P w K mg base CX0 4 "trimmed" FI (Mq a)):AJ P w K mg base (CXE P w) 151 f fd Ry (Fe a):=by
 refine F.okE OT (λvs H Q E h=>?_) (λcdv A outer s H vs Q E hr h=>?_)
 ·cases h with
  |mk p dx mem pr g G φ N b r m f' n k e=>rw[e];rfl
  |no p dx mem pr g m f' v e=>rw[e];rfl
 ·cases h with
  |no p dx mem pr g m f' v e hp od k =>
   subst e;refine⟨_,(Ac (Ao (i:=3) OT.nd rfl (Or.inl rfl) (Aq bU (rm hr) rfl SK (Aa (pv 0) (Aa (pv 1) (Aa (pv 2) Ab))))) (Ac (AN (Ax CQ (AL BP rfl T.b_len Y8 (Aa (pv 3) Ab)) Ae (AC _)) (Ag (As (pv 1))) AB) (Ag (As (Aq aM (rm hr) rfl An (Aa (Az (pv 0) rfl) (Aa (Aj Am (Aj Aw (pv 3) (GL DU Ae) (λ_ _=>rfl)) Ae (λ_ _=>rfl)) Ab))))))),?_⟩
   try dsimp only[cxK]
   refine AW ?_;intro r1 s1 k1 hk1 E1;exact xw3 rfl rfl rfl (.no p dx mem pr g m _ v rfl hp od k)
  |mk p dx mem pr g G φ N b r m f' n k e zs fin st lf n40 tr hf few kn kf =>
   subst e;refine⟨_,(Ac (Ao (i:=3) OT.nd rfl (Or.inl rfl) (Aq bU (rm hr) rfl SK (Aa (pv 0) (Aa (pv 1) (Aa (pv 2) Ab))))) (Ac (AN (Ax CQ (AL BP rfl T.b_len Y8 (Aa (pv 3) Ab)) Ae (AC _)) (Ag (As (pv 1))) AB) (Ag (As (Aq aM (rm hr) rfl An (Aa (Az (pv 0) rfl) (Aa (Aj Am (Aj Aw (pv 3) (GL DU Ae) (λ_ _=>rfl)) Ae (λ_ _=>rfl)) Ab))))))),?_⟩
   try dsimp only[cxK]
   refine AW ?_;intro r1 s1 k1 hk1 E1;refine xw3 rfl rfl rfl (.mk p dx mem pr g G φ N b r m f' n k rfl zs fin st lf n40 tr hf few (λnr L ts G1 H1 i1 fz1 zs1 go1 nL hL ca _=>?_) kf);refine hk1 ?_;refine AW ?_;intro r2 s2 k2 hk2 E2;refine⟨_,rfl,L,_,rfl,.inl (SqL.of hL),rfl,_,rfl,?_⟩;rcases ca with ⟨rfl,ca⟩|⟨k0,nf,t,sq,e,res,l,la,ht,l41,lr,rs,rd⟩
   ·refine ifT rfl ⟨_,rfl,kn nr f' G1 H1 i1 fz1 (zs1.mono A1) go1 (λ_=>rfl) (λk0 hd=>?_)⟩;rcases ca with z|z
    ·exact absurd z k0
    ·exact z
   ·have ne:ts≠[]:=λz=>by rw[z]at la;cases la
    have tl:1<=ts.length:=R3.mpr ne;refine ifF (V3 (λz=>by injection z with z;rw[B5]at z;lia)) ?_;refine hk2 ?_;have li:atI (ts.map V.ref) (-1)=some (.ref t):=by
     unfold atI;have:ixN (ts.map V.ref).length (-1)=some (ts.length-1):=by
      unfold ixN;rw[B5,V0 A3,V2 A1];congr 1;lia
     rw[this];show(ts.map V.ref)[ts.length-1]?=_;rw[B9,<-List.getLast?_eq_getElem?,la];rfl
    refine xwf rfl rfl zs1.jz.jw.hp T.cl_Jumps T.na_Jumps_grove (Dc _ _ _ _ _) ?_;refine⟨_,rfl,1,rfl,L,_,-1,.ref t,rfl,rfl,SqL.of hL,li,t,_,2,.int (res:Int),rfl,rfl,SqT.of ht,Al (j:=2) rfl,?_⟩;have sz1:=zs1.jz.sz fin;refine⟨g,G1,res,l,rfl,zs1.fu,lr,by lia,λnh G8 H8 fr8 fu8 go8 tr8=>?_⟩;have zs8:=zs1.fr fr8 fu8 go8;obtain⟨r8,e8⟩:=fu8.g0;obtain⟨m8,ml8,lv8,tm8,fe8⟩:=FU e8 fu8.ok A1 (go8.lev lr) tr8;have goz:=go1.trans go8;have fa:∀x y,fieldF G8 l res x y=fieldF G1 l res x y:=λx y=>DJ zs1.fu.ok go8 lr x y;have hφ:∀x y,fieldF G n f' x y=φ x y:=by
     rcases hf with z|⟨_,z⟩
     ·exact absurd z nf
     ·exact z
    refine kn nr nh G8 H8 _ (fz1.trans (Fr.z fr8)) (zs8.mono A1) goz (λc=>?_) (λ_ hd=>?_)
    ·rcases c with z|z|hs
     ·exact absurd z k0
     ·exact absurd z nf
     ·refine(EL e8 fu8.ok A1 A1 lv8 (goz.lev lf) tm8 (tr.app goz) λx y=>?_).2;rw[fe8,fa,rs hs,DJ zs.fu.ok goz lf,hφ]
    ·obtain⟨b1,b2,b3⟩:=Nq e8 fu8.ok;refine(EL e8 fu8.ok A1 A3 lv8 b1 tm8 b2 λx y=>?_).2;rw[fe8,fa,rd hd,b3]
end
def r0:AH:=[]
def r1:AH:=[⟨none,[],0⟩]
theorem r0_st:Stl r0:=fun φ k=>by
 induction k with
 |zero=>rfl
 |succ k ih =>
  show stp r0 (Bc r0 k φ)=φ;rw[ih];rfl
theorem r1_dy:Dyg r1:=fun φ k x y=>rfl
theorem r0_t:Df r0=Str.ofString "" := by decide +kernel
theorem r1_t:Df r1=Str.ofString "* 0" := by decide +kernel
theorem r0_ok:Nw r0:=⟨by decide,λc hc=>nomatch hc⟩
theorem r1_ok:Nw r1:=⟨by decide,λc hc=>by
 rw[D7.mp hc];exact⟨trivial,⟨by decide,by decide⟩,by decide,λd hd=>nomatch hd⟩⟩
theorem len3{vs:List V}(h:vs.length=3):∃x1 x2 x3,vs=[x1,x2,x3]:=by
 match vs,h with
 |[x1,x2,x3],_=>exact⟨x1,x2,x3,rfl⟩
def S5(σ:St):Prop:=∃x1 x2 x3 x4 x5,σ=[x1,x2,x3,x4,x5]
def S4s(σ:St):Prop:=∃x1 x2 x3 x4,σ=[x1,x2,x3,x4]
section
variable{P:Program}{w:World}{K:PySem.W.Frag}{mg:Str->Option Value}{base:Heap}{a:Ad}
inductive Rh(a:Ad)(sp:Sp)(vs:List V)(H:Hp)(Q:VK):Prop
 |mk (OK:V->Hp->Prop) (ER:Bool->Hp->Prop) (_:vs.length=3) (_:∀(Q':VK)(E':XK),(∀v H',OK v H'->Q' v H')->(∀H',ER true H'->E' (.ref a.x_TooFar) none H')->(∀H',ER false H'->E' (.ref a.x_NoSteps) none H')->sp vs H Q' E') (_:∀v H' t H'',OK v H'->AA H' H''->H'' t=some (.tup [.str "field",v])->Q (.ref t) H'') (_:∀H' t H'',ER true H'->AA H' H''->H'' t=some (.tup [.str "too far",.bl true])->Q (.ref t) H'') (_:∀H' t H'',ER false H'->AA H' H''->H'' t=some (.tup [.str "no steps",.bl true])->Q (.ref t) H''):Rh a sp vs H Q
def spSd(a:Ad)(sp:Sp):Sp:=λvs H Q _=>Rh a sp vs H Q
theorem ok_sd{sp:Sp}{d:Nat}{f:Addr}{fd:FuncData}(F:Fun K "_law_said" "_law_said" GZ f fd)(T:Top K mg a)(hd:1<=d)(cL:Cal P w K mg base (CXE P w) d "jump" Ry sp):AJ P w K mg base CX0 (d+1) f fd Ii (spSd a sp):=by
 refine F.ok Ef (λvs H Q E h=>?_) (λcdv A outer s H vs Q E hr h=>?_)
 ·obtain⟨_,_,h,_⟩:=h;exact h
 ·obtain⟨OK,ER,hl,h,k1,k2,k3⟩:=h;obtain⟨x1,x2,x3,rfl⟩:=len3 hl;refine⟨_,(Ac (Ao (i:=3) Ef.nd rfl (Or.inl rfl) Cz) (Ac (Tw (i:=4) (S:=S5) rfl rfl rfl rfl rfl T.mx_TooFar T.ec_TooFar rfl T.mx_NoSteps T.ec_NoSteps Ef.nd rfl rfl (λxe pn E1 pass=>(Ag (Ao (i:=3) Ef.nd rfl (Or.inl rfl) (SJ cL (rm hr) rfl pass (Aa (pv 0) (Aa (pv 1) (Aa (pv 2) Ab))))))) (λea=>(Ag (As (BX (Cf (Aa (DZ (AL (FN K rfl) rfl T.b_isinstance V6 (Aa (pv 4) (Aa (OZ rfl T.mx_FieldError) Ab))) (DZ (AL (FN K rfl) rfl T.b_isinstance V6 (Aa (pv 4) (Aa (Dt (v:=.ty "ValueError") rfl T.b_ValueError PyProof.Rows.Boot.«ValueError» rfl) Ab))) (Fv (OY (AL (FN K rfl) rfl T.b_isinstance V6 (Aa (pv 4) (Aa (OZ rfl T.mx_NoSteps) Ab))))))) Ab)))))) (λea=>(Ag (As (BX (Cf (Aa (DZ (AL (FN K rfl) rfl T.b_isinstance V6 (Aa (pv 4) (Aa (OZ rfl T.mx_FieldError) Ab))) (Fv (AL (FN K rfl) rfl T.b_isinstance V6 (Aa (pv 4) (Aa (Dt (v:=.ty "ValueError") rfl T.b_ValueError PyProof.Rows.Boot.«ValueError» rfl) Ab))))) Ab))))))) (Ag (As (BX (Cf (Aa (pv 3) Ab))))))),?_⟩
  try dsimp only[cxK]
  refine AW ?_;intro r1 s1 kk1 hk1 E1;refine hk1 ?_;refine⟨⟨_,_,_,_,_,rfl⟩,(xw3 rfl rfl rfl (h _ _ (λv H' q=>?_) (λH' q=>?_) (λH' q=>?_)))⟩
  ·refine xq1 rfl ⟨(by show 2<=sizeLine;decide),λt ht=>?_⟩;exact k1 v H' t _ q (Ay ht) Af
  ·refine⟨_,rfl,T.ec_TooFar,.inl ⟨T.mm_TooFar_TooFar,fun σ' e hS he=>?_⟩⟩;obtain⟨y1,y2,y3,y4,y5,rfl⟩:=hS;have s1:=Ay (o:=FJ e a.x_TooFar) he;have ty:TyX K (upd H' e (FJ e a.x_TooFar)) (.ref e) (.ref a.x_TooFar):=.exc Af T.ef_TooFar;refine⟨_,rfl,_,_,_,_,_,rfl,rfl,ty,T.kf_TooFar,true,rfl,BT ?_⟩;refine⟨_,rfl,_,_,_,_,_,rfl,rfl,ty,T.kv_TooFar,true,rfl,BT ?_⟩;refine⟨_,rfl,_,_,_,_,_,rfl,rfl,ty,T.ki_TooFar_NoSteps,_,rfl,?_⟩;refine⟨(by show 2<=sizeLine;decide),λt ht=>?_⟩;exact k2 H' t _ q (s1.trans (Ay ht)) Af
  ·refine⟨_,rfl,T.ec_NoSteps,.inr ⟨⟨T.mm_NoSteps_TooFar,T.mm_NoSteps_NoSteps⟩,fun σ' e hS he=>?_⟩⟩;obtain⟨y1,y2,y3,y4,y5,rfl⟩:=hS;have s1:=Ay (o:=FJ e a.x_NoSteps) he;have ty:TyX K (upd H' e (FJ e a.x_NoSteps)) (.ref e) (.ref a.x_NoSteps):=.exc Af T.ef_NoSteps;refine⟨_,rfl,_,_,_,_,_,rfl,rfl,ty,T.kf_NoSteps,true,rfl,BT ?_⟩;refine⟨_,rfl,_,_,_,_,_,rfl,rfl,ty,T.kv_NoSteps,?_⟩;refine⟨(by show 2<=sizeLine;decide),λt ht=>?_⟩;exact k3 H' t _ q (s1.trans (Ay ht)) Af
inductive Nt(a:Ad)(sp:Sp)(vs:List V)(H:Hp)(Q:VK):Prop
 |mk (OK:V->Hp->Prop) (ER:Bool->Hp->Prop) (_:vs.length=3) (_:∀(Q':VK)(E':XK),(∀v H',OK v H'->Q' v H')->(∀H',ER true H'->E' (.ref a.x_TooFar) none H')->(∀H',ER false H'->E' (.ref a.x_NoSteps) none H')->sp vs H Q' E') (_:∀v H',OK v H'->∃p xs,v=.ref p/\H' p=some (.lst xs)/\Q (.int (xs.length:Int)) H') (_:∀H',ER true H'->Q (.str "too far") H') (_:∀H',ER false H'->Q (.str "no steps") H'):Nt a sp vs H Q
def UL(a:Ad)(sp:Sp):Sp:=λvs H Q _=>Nt a sp vs H Q
theorem kit_ll(K:PySem.W.Frag):kitOne K (.type "list") (.type "list")=some true:=by kernel_rfl
theorem ok_rdl{sp:Sp}{d:Nat}{f:Addr}{fd:FuncData}(F:Fun K "_law_road" "_law_road" Ia f fd)(T:Top K mg a)(hd:1<=d)(bU:Cal P w K mg base (CXE P w) d "road" Pc sp):AJ P w K mg base CX0 (d+1) f fd Ij (UL a sp):=by
 refine F.ok FX (λvs H Q E h=>?_) (λcdv A outer s H vs Q E hr h=>?_)
 ·obtain⟨_,_,h,_⟩:=h;exact h
 ·obtain⟨OK,ER,hl,h,k1,k2,k3⟩:=h;obtain⟨x1,x2,x3,rfl⟩:=len3 hl;refine⟨_,(Ac (Ao (i:=3) FX.nd rfl (Or.inl rfl) Cz) (Ac (ps_try2 (S:=S4s) rfl rfl rfl rfl rfl T.mx_TooFar T.ec_TooFar rfl T.mx_NoSteps T.ec_NoSteps (λxe pn E1 pass=>(Ag (Ao (i:=3) FX.nd rfl (Or.inl rfl) (SJ bU (rm hr) rfl pass (Aa (pv 0) (Aa (pv 1) (Aa (pv 2) Ab))))))) (λea=>(Ag (As Id))) (λea=>(Ag (As Id)))) (Ac (AN (CY (AL CS rfl T.b_isinstance V6 (Aa (pv 3) (Aa (Dt (v:=.ty "list") rfl T.b_list PyProof.Rows.boot_list rfl) Ab)))) (Ag (As (AL BP rfl T.b_len Y8 (Aa (pv 3) Ab)))) AB) (Ag (As Id))))),?_⟩
  try dsimp only[cxK]
  refine AW ?_;intro r1 s1 kk1 hk1 E1;refine hk1 ?_;refine AW ?_;intro r2 s2 kk2 hk2 E2;refine⟨⟨_,_,_,_,rfl⟩,(xw3 rfl rfl rfl (h _ _ (λv H' q=>?_) (λH' q=>?_) (λH' q=>?_)))⟩
  ·refine hk2 ?_;obtain⟨p,xs,rfl,hp,k⟩:=k1 v H' q;refine⟨_,rfl,_,_,_,.type "list",true,rfl,rfl,.of (.lst hp),kit_ll K,true,rfl,BT ?_⟩;exact⟨_,rfl,p,_,rfl,.inl (SqL.of hp),k⟩
  ·exact⟨_,rfl,T.ec_TooFar,.inl ⟨T.mm_TooFar_TooFar,fun σ' hS=>k2 H' q⟩⟩
  ·exact⟨_,rfl,T.ec_NoSteps,.inr ⟨⟨T.mm_NoSteps_TooFar,T.mm_NoSteps_NoSteps⟩,fun σ' hS=>k3 H' q⟩⟩
inductive SpBi(vs:List V)(H:Hp)(Q:VK):Prop
 |mk (n:Nat) (_:vs=[.int (n:Int)]) (_:Q (.int (pc n:Int)) H):SpBi vs H Q
def spBi:Sp:=λvs H Q _=>SpBi vs H Q
theorem ok_bi{f:Addr}{fd:FuncData}(F:Fun K "_law_bits" "_law_bits" Ib f fd)(T:Top K mg a):AJ P w K mg base CX0 1 f fd Ik spBi:=by
 refine F.ok Eg (λvs H Q E h=>?_) (λcdv A outer s H vs Q E hr h=>?_)
 ·obtain⟨n,rfl,_⟩:=h;rfl
 ·obtain⟨n,rfl,k⟩:=h;refine⟨_,(Ac (Ao (i:=1) Eg.nd rfl (Or.inl rfl) Ae) (Ac (Ey W2 (Ax Qv (pv 0) Ae (AC _)) (Ac (Ao (i:=1) Eg.nd rfl (Or.inl rfl) (AK Bw (pv 1) (AK Cg (pv 0) Ae))) (Ag (Ao (i:=0) Eg.nd rfl (Or.inl rfl) (AK IC (pv 0) Ae))))) (Ag (As (pv 1))))),?_⟩
  try dsimp only[cxK]
  refine AW ?_;intro r1 s1 kk1 hk1 E1;refine hk1 ?_;refine⟨λm σ H2=>∃c:Nat,σ=[some (.int (m:Int)),some (.int (c:Int))]/\H2=H/\c+pc m=pc n,⟨n,0,rfl,rfl,N2 _⟩,?_⟩;rintro m σ H2 ⟨c,rfl,rfl,ec⟩;refine⟨_,rfl,_,_,rfl,rfl,_,rfl,IM (λhc=>?_) (λhc=>?_)⟩
  ·have hc:(m:Int) > 0:=W1 hc;refine⟨fun σ' H'=>∃m' c:Nat,m'<m/\σ'=[some (.int (m':Int)),some (.int (c:Int))]/\H'=H2/\c+pc m'=pc n,fun σ' H' ⟨m',c,l,z⟩=>⟨m',l,c,z⟩,?_⟩;refine AW ?_;intro r2 s2 kk2 hk2 E2;refine⟨_,rfl,_,rfl,_,_,rfl,rfl,B1,_,_,rfl,rfl,?_⟩;refine hk2 ?_;refine xwb rfl rfl rfl ⟨⟨by decide,by decide⟩,m/2,c+m%2,Nat.div_lt_self A1 A3,?_,rfl,by rw[pc_eq m]at ec;lia⟩;have e1:(m:Int)/2=((m/2:Nat):Int):=by lia
   have e2:(c:Int)+(m:Int)%2=((c+m%2:Nat):Int):=by lia
   exact(W0 (λu:Int=>[some (V.int u),some (V.int ((c:Int)+(m:Int)%2))]) e1).trans (W0 (λu:Int=>[some (V.int ((m/2:Nat):Int)),some (V.int u)]) e2)
  ·have hc:¬(m:Int) > 0:=λz=>hc (V1 z);have m0:m=0:=by lia
   subst m0;have:c=pc n:=by
    rw[show pc 0=0 by rw[pc];simp]at ec;exact ec
   subst this;exact⟨_,rfl,k⟩
end
def stC:List Cl->Int->Int->Nat
 |[],_,_=>0
 |c::cs,x,y=>if x=c.x/\y=c.y then c.s else stC cs x y
theorem Uh{G r0:Gv}(e0:G=G0++r0)(ok:GOk G){cs:List Cl}{n f:Nat}(h:PR G cs n f):(∀c∈cs,c.s<8)->JU G n f/\∀x y,fieldF G n f x y=stC cs x y:=by
 induction h with
 |nil =>
  intro _;refine⟨.inl rfl,λx y=>?_⟩;unfold fieldF;split
  ·rename_i z;exact FM e0 ok A3 (EO z.1 z.2.1) (EO z.2.2.1 z.2.2.2)
  ·rfl
 |@cons cs c n f r k w i m h l p l' ih =>
  intro hs;obtain⟨t,e⟩:=ih λc hc=>hs c (C1 _ hc);obtain⟨m',_,lm,tm,em⟩:=Qs e0 ok (hs c (C3 ..)) p;have:m'=m:=by
   have:=V8 (lm.uniq l');lia
  subst this;refine⟨tm,λx y=>?_⟩;rw[em x y,e x y];rfl
theorem Ix.new{a:Ad}{H H':Hp}{g:GA}{G:Gv}{N M:Nat}{r:AH}{m:MA}(hg:AI a H g G)(nl:H m.l=none)(nk:H m.kc=none)(h4:H' m.tp=some (.tup [.ref m.l,.ref m.kc]))(h5:H' m.l=some (.lst (m.ds.map V.ref)))(h6:H' m.kc=some (.dT []))(h7:∀d∈m.ds,H' d=some (.dK []))(h8:m.ds.length=47)(h9:m.ds.Nodup):Ix H' g G N M r m:=by
 obtain⟨ts,h3,_⟩:=hg.pt;exact⟨h4,h5,⟨V5 (Av hg.lv nl),V5 (Av h3 nl),V5 (Av hg.nm nk)⟩,h8,h9,λe d ed=>⟨[],h7 d (D4 ed),F5 _,λp hp=>(nomatch hp),λn v hv=>by cases hv⟩,⟨[],h6,F5 _,λks v hv=>by cases hv⟩⟩
def plc(sd fa al:Int):Int×Int:=if sd=0 then(2^40-1-fa,al)else if sd=1 then(al,2^40-1-fa)else if sd=2 then(fa-2^40,al)else(al,fa-2^40)
theorem Vd(sd al:Int)(n k:Nat)(s:Nat)(a1:-(2^38)<=al)(a2:al<2^38)(nn:n<2^39):(k<=n↔(-(2^40)+(k:Int)<=(plc sd n al).1/\(plc sd n al).1+k<2^40/\-(2^40)+(k:Int)<=(plc sd n al).2/\(plc sd n al).2+k<2^40)):=by
 unfold plc;split
 ·show k<=n↔(_<=(2:Int)^40-1-n/\(2:Int)^40-1-n+k<_/\_<=al/\al+k<_);lia
 ·split
  ·show k<=n↔(_<=al/\al+k<_/\_<=(2:Int)^40-1-n/\(2:Int)^40-1-n+k<_);lia
  ·split
   ·show k<=n↔(_<=(n:Int)-2^40/\(n:Int)-2^40+k<_/\_<=al/\al+k<_);lia
   ·show k<=n↔(_<=al/\al+k<_/\_<=(n:Int)-2^40/\(n:Int)-2^40+k<_);lia
structure Sj(cs:List Cl)(n:Nat):Prop where
 len:cs.length<=2
 ok:∀c∈cs,ClOk c
 s1:∀c∈cs,1<=c.s
 ne:cs≠[]
 near:∀k:Nat,(k<=n ↔ ∀c∈cs,-(2^40)+(k:Int)<=c.x/\c.x+k<2^40/\-(2^40)+(k:Int)<=c.y/\c.y+k<2^40)
theorem Ro:∀{cs:List Cl}{x y:Int},stC cs x y≠0->∃c∈cs,c.x=x/\c.y=y
 |[],x,y,h=>absurd rfl h
 |c::cs,x,y,h=>by
  unfold stC at h;by_cases z:x=c.x/\y=c.y
  ·exact⟨c,C3,z.1.symm,z.2.symm⟩
  ·rw[V0 z]at h;obtain⟨d,h1,h2⟩:=Ro h;exact⟨d,C1 _ h1,h2⟩
theorem OH:∀{cs:List Cl},(∀c∈cs,1<=c.s)->∀c∈cs,stC cs c.x c.y≠0
 |d::cs,h,c,hc=>by
  unfold stC;by_cases z:c.x=d.x/\c.y=d.y
  ·rw[V2 z];have:=h d C3;lia
  ·rw[V0 z];rcases B8.mp hc with rfl|hc
   ·exact absurd ⟨rfl,rfl⟩ z
   ·exact OH (λe he=>h e (C1 _ he)) c hc
theorem Sj.nr{cs:List Cl}{n:Nat}(h:Sj cs n)(k:Nat):k<=n↔EN (stC cs) k:=by
 rw[h.near k];constructor
 ·intro q x y hx;obtain⟨c,hc,rfl,rfl⟩:=Ro hx;exact q c hc
 ·intro q c hc;exact q _ _ (OH h.s1 c hc)
theorem Sj.fin{cs:List Cl}{n:Nat}(h:Sj cs n):Nz (Kc (shF (stC cs))) 1551:=by
 have:=UD (c:=shF (stC cs)) (cs:=cs.map λc=>((c.x+2^47).toNat,(c.y+2^47).toNat)) λx y hx=>by
  unfold shF at hx;obtain⟨c,hc,e1,e2⟩:=Ro (λz=>hx (by rw[z];rfl));refine D6.mpr ⟨c,hc,?_⟩;rw[e1,e2];show(((x:Int)-2^47+2^47).toNat,((y:Int)-2^47+2^47).toNat)=_;rw[show(x:Int)-2^47+2^47=(x:Int) by lia,show(y:Int)-2^47+2^47=(y:Int) by lia,L7,L7]
 rw[B5]at this;refine⟨λe=>?_,this.ext⟩;obtain⟨Ls,l1,l2⟩:=this.ls e;have:=h.len;exact⟨Ls,by lia,l2⟩
section
variable{P:Program}{w:World}{K:PySem.W.Frag}{mg:Str->Option Value}{base:Heap}{a:Ad}
inductive SpPlc(vs:List V)(H:Hp)(Q:VK):Prop
 |mk (sd fa al:Int) (_:vs=[.int sd,.int fa,.int al]) (_:∀t H',AA H H'->H' t=some (.tup [.int (plc sd fa al).1,.int (plc sd fa al).2])->Q (.ref t) H'):SpPlc vs H Q
def UQ:Sp:=λvs H Q _=>SpPlc vs H Q
theorem ok_plc{f:Addr}{fd:FuncData}(F:Fun K "_law_place" "_law_place" Gf f fd)(T:Top K mg a):AJ P w K mg base CX0 1 f fd Gs UQ:=by
 refine F.ok IN (λvs H Q E h=>?_) (λcdv A outer s H vs Q E hr h=>?_)
 ·obtain⟨sd,fa,al,rfl,_⟩:=h;rfl
 ·obtain⟨sd,fa,al,rfl,k⟩:=h;refine⟨_,(Ac (Ao (i:=3) IN.nd rfl (Or.inl rfl) (AK Ly Ae Ae)) (Ac (AN (Ax CQ (pv 0) Ae (AC _)) (Ag (As (BX (Bl Bf (AK Bf (pv 3) Ae) (pv 1) (Aa (pv 2) Ab))))) AB) (Ac (AN (Ax CQ (pv 0) Ae (AC _)) (Ag (As (BX (Aa (pv 2) (Bl Bf (AK Bf (pv 3) Ae) (pv 1) Ab))))) AB) (Ac (AN (Ax CQ (pv 0) Ae (AC _)) (Ag (As (BX (Bl Bf (pv 1) (pv 3) (Aa (pv 2) Ab))))) AB) (Ag (As (BX (Aa (pv 2) (Bl Bf (pv 1) (pv 3) Ab))))))))),?_⟩
  try dsimp only[cxK]
  unfold plc at k;refine AW ?_;intro r1 s1 k1 hk1 E1;refine⟨_,_,rfl,rfl,⟨by decide,by decide,by decide⟩,?_⟩;refine hk1 ?_;refine AW ?_;intro r2 s2 k2 hk2 E2;refine⟨_,rfl,rfl,_,rfl,IM (λhc=>?_) (λhc=>?_)⟩
  ·have e0:sd=0:=by have:=W1 hc;injection this
   rw[V2 e0]at k;exact⟨_,rfl,_,_,rfl,rfl,_,rfl,_,_,rfl,rfl,_,rfl,(by show 2<=sizeLine;decide),λt ht=>k t _ (Ay ht) Af⟩
  have n0:¬sd=0:=λz=>hc (V1 (W0 V.int z));rw[V0 n0]at k;refine hk2 ?_;refine AW ?_;intro r3 s3 k3 hk3 E3;refine⟨_,rfl,rfl,_,rfl,IM (λhc=>?_) (λhc=>?_)⟩
  ·have e0:sd=1:=by have:=W1 hc;injection this
   rw[V2 e0]at k;exact⟨_,rfl,_,rfl,_,_,rfl,rfl,_,rfl,_,_,rfl,rfl,(by show 2<=sizeLine;decide),λt ht=>k t _ (Ay ht) Af⟩
  have n1:¬sd=1:=λz=>hc (V1 (W0 V.int z));rw[V0 n1]at k;refine hk3 ?_;refine AW ?_;intro r4 s4 k4 hk4 E4;refine⟨_,rfl,rfl,_,rfl,IM (λhc=>?_) (λhc=>?_)⟩
  ·have e0:sd=2:=by have:=W1 hc;injection this
   rw[V2 e0]at k;exact⟨_,rfl,_,rfl,_,_,rfl,rfl,_,rfl,(by show 2<=sizeLine;decide),λt ht=>k t _ (Ay ht) Af⟩
  have n2:¬sd=2:=λz=>hc (V1 (W0 V.int z));rw[V0 n2]at k;refine hk4 ?_;exact⟨_,rfl,_,rfl,_,rfl,_,_,rfl,rfl,(by show 2<=sizeLine;decide),λt ht=>k t _ (Ay ht) Af⟩
end
end J
namespace J
open PySem L2
structure WH(G:Gv)(f n:Nat)(φ:Int->Int->Nat):Prop where
 lf:Ak G f ((n+1:Nat):Int)
 n40:n<=40
 tr:JU G n f
 ne:f≠bareN 1
 hf:∀x y,fieldF G n f x y=φ x y
theorem WH.goes{G G':Gv}{f n i:Nat}{φ:Int->Int->Nat}(h:WH G f n φ)(ok:GOk G)(go:AG G G' i):WH G' f n φ:=⟨go.lev h.lf,h.n40,h.tr.app go,h.ne,λx y=>by rw[DJ ok go h.lf];exact h.hf x y⟩
structure Y64(a:Ad)(H0:Hp)(g:GA)(p dx mem pr:Addr)(r:AH)(m:MA)(cs:List Cl)(d f n:Nat)(H:Hp)(G:Gv)(b:Nat):Prop where
 zs:ZS a H g G (Kc (shF (stC cs))) 1551 b p dx mem pr r m
 sm:AA H0 H
 at':WH G f n (stC cs)
 dr:Sj cs d
 st:Stl r\/Dyg r
 ap:∀x o,H0 x=some o->x∉[g.lv,g.pt,g.nm,g.am,g.bx,m.kc]/\x∉m.ds
section
variable{a:Ad}{H0:Hp}{g:GA}{p dx mem pr:Addr}{r:AH}{m:MA}{cs:List Cl}{d f n:Nat}{H H':Hp}{G G':Gv}{b i:Nat}{Q:VK}
theorem Y64.go{b':Nat}(h:Y64 a H0 g p dx mem pr r m cs d f n H G b)(fz:FrZ g m H H')(zs:ZS a H' g G' (Kc (shF (stC cs))) 1551 b' p dx mem pr r m)(go:AG G G' i):Y64 a H0 g p dx mem pr r m cs d f n H' G' b' :=
 ⟨zs,λx o e=>fz x o (h.sm x o e) (h.ap x o e).1 (h.ap x o e).2,h.at'.goes h.zs.fu.ok go,h.dr,h.st,h.ap⟩
theorem Y64.same(h:Y64 a H0 g p dx mem pr r m cs d f n H G b)(s:AA H H'):Y64 a H0 g p dx mem pr r m cs d f n H' G b:=h.go (AA.z s) (h.zs.same s) (AG.refl h.zs.fu.ok)
theorem Y64.base{x:Addr}{o:HO}(h:Y64 a H0 g p dx mem pr r m cs d f n H G b)(hx:H x=some o)(ap:ApZ g m x):Y64 a (upd H0 x o) g p dx mem pr r m cs d f n H G b:=by
 refine⟨h.zs,λy o' e=>?_,h.at',h.dr,h.st,λy o' e=>?_⟩
 ·by_cases z:y=x
  ·subst z;rw[Af]at e;cases e;exact hx
  ·rw[Ar z]at e;exact h.sm y o' e
 ·by_cases z:y=x
  ·subst z;exact⟨ap.n0,ap.n1⟩
  ·rw[Ar z]at e;exact h.ap y o' e
theorem Y64.nr(h:Y64 a H0 g p dx mem pr r m cs d f n H G b)(k:Nat):k<=d↔EN (fieldF G n f) k:=by
 rw[h.dr.nr k,show fieldF G n f=stC cs from funext λx=>funext λy=>h.at'.hf x y]
theorem Y64.sdN(h:Y64 a H0 g p dx mem pr r m cs d f n H G b){x v:V}(od:Ny H v\/∃i:Int,v=.int i/\i<0)(k:∀t H',AA H H'->H' t=some (.tup [.str "no steps",.bl true])->Q (.ref t) H'):Rh a (Fe a) [.ref p,x,v] H Q :=
 ⟨λ_ _=>False,λb H'=>b=false/\H'=H,rfl,λQ' E' _ _ h3=>.no p dx mem pr g m x v rfl h.zs.jz.jw.hp od (h3 H ⟨rfl,rfl⟩),λ_ _ _ _ z=>(nomatch z),λ_ _ _ z=>(nomatch z.1),λH' t H'' z s ht=>k t H'' (z.2▸s) ht⟩
theorem Y64.rdN(h:Y64 a H0 g p dx mem pr r m cs d f n H G b){x v:V}(od:Ny H v\/∃i:Int,v=.int i/\i<0)(k:Q (.str "no steps") H):Nt a (Fc a) [.ref p,x,v] H Q :=
 ⟨λ_ _=>False,λb H'=>b=false/\H'=H,rfl,λQ' E' _ _ h3=>.no p dx mem pr g m x v rfl h.zs.jz.jw.hp od (h3 H ⟨rfl,rfl⟩),λ_ _ z=>(nomatch z),λ_ z=>(nomatch z.1),λH' z=>z.2▸k⟩
theorem Y64.sdF(h:Y64 a H0 g p dx mem pr r m cs d f n H G b){k:Nat}(far:d<k)(b1:b<=140000)(kq:∀t H',Y64 a H0 g p dx mem pr r m cs d f n H' G b->H' t=some (.tup [.str "too far",.bl true])->Q (.ref t) H'):Rh a (Fe a) [.ref p,.int f,.int (k:Int)] H Q:=by
 have nn:¬EN (fieldF G n f) k:=λz=>absurd ((h.nr k).mpr z) A1;refine⟨λ_ _=>False,λb' H'=>b'=true/\Y64 a H0 g p dx mem pr r m cs d f n H' G b,rfl,λQ' E' _ h2 _=>.mk p dx mem pr g G (stC cs) 1551 b r m f n k rfl h.zs h.dr.fin h.st h.at'.lf h.at'.n40 h.at'.tr (.inr ⟨h.at'.ne,h.at'.hf⟩) A1 (λz=>absurd z nn) (λ_ H' fz zs=>h2 H' ⟨rfl,h.go fz zs (AG.refl h.zs.fu.ok)⟩),λ_ _ _ _ z=>(nomatch z),λH' t H'' z s ht=>kq t H'' (z.2.same s) ht,λ_ _ _ z=>(nomatch z.1)⟩
theorem Y64.rdF(h:Y64 a H0 g p dx mem pr r m cs d f n H G b){k:Nat}(far:d<k)(b1:b<=140000)(kq:∀H',Y64 a H0 g p dx mem pr r m cs d f n H' G b->Q (.str "too far") H'):Nt a (Fc a) [.ref p,.int f,.int (k:Int)] H Q:=by
 have nn:¬EN (fieldF G n f) k:=λz=>absurd ((h.nr k).mpr z) A1;refine⟨λ_ _=>False,λb' H'=>b'=true/\Y64 a H0 g p dx mem pr r m cs d f n H' G b,rfl,λQ' E' _ h2 _=>.mk p dx mem pr g G (stC cs) 1551 b r m f n k rfl h.zs h.dr.fin h.st h.at'.lf h.at'.n40 h.at'.tr (.inr ⟨h.at'.ne,h.at'.hf⟩) A1 (λz=>absurd z nn) (λ_ H' fz zs=>h2 H' ⟨rfl,h.go fz zs (AG.refl h.zs.fu.ok)⟩),λ_ _ z=>(nomatch z),λH' z=>kq H' z.2,λ_ z=>(nomatch z.1)⟩
theorem Y64.sdK(h:Y64 a H0 g p dx mem pr r m cs d f n H G b){k:Nat}(nr:k<=d)(b1:b<=140000)(kq:∀e t G' H',Y64 a H0 g p dx mem pr r m cs d f n H' G' (b+12048)->((k=0\/Stl r)->e=f)->(k≠0->Dyg r->e=bareN 1)->H' t=some (.tup [.str "field",.int ((e:Nat):Int)])->Q (.ref t) H'):Rh a (Fe a) [.ref p,.int f,.int (k:Int)] H Q:=by
 have nn:=(h.nr k).mp nr;refine⟨λv H'=>∃e G',v=.int ((e:Nat):Int)/\Y64 a H0 g p dx mem pr r m cs d f n H' G' (b+12048)/\((k=0\/Stl r)->e=f)/\(k≠0->Dyg r->e=bareN 1),λ_ _=>False,rfl,λQ' E' h1 _ _=>.mk p dx mem pr g G (stC cs) 1551 b r m f n k rfl h.zs h.dr.fin h.st h.at'.lf h.at'.n40 h.at'.tr (.inr ⟨h.at'.ne,h.at'.hf⟩) A1 (λ_ e G' H' i fz zs go c1 c2=>h1 _ H' ⟨e,G',rfl,h.go fz zs go,λz=>c1 (z.imp id .inr),c2⟩) (λz=>absurd nn z),λv H' t H'' z s ht=>?_,λ_ _ _ z=>(nomatch z),λ_ _ _ z=>(nomatch z)⟩;obtain⟨e,G',rfl,y,c1,c2⟩:=z;exact kq e t G' H'' (y.same s) c1 c2 ht
theorem Y64.rdK(h:Y64 a H0 g p dx mem pr r m cs d f n H G b){k:Nat}(nr:k<=d)(b1:b<=140000)(kq:∀(c:Nat) G' H',Y64 a H0 g p dx mem pr r m cs d f n H' G' (b+12000)->(Stl r->c=pc k)->(k=0->c=0)->Q (.int (c:Int)) H'):Nt a (Fc a) [.ref p,.int f,.int (k:Int)] H Q:=by
 have nn:=(h.nr k).mp nr;refine⟨λv H'=>∃(L:Addr)(ts:List Addr)(G':Gv),v=.ref L/\H' L=some (.lst (ts.map V.ref))/\Y64 a H0 g p dx mem pr r m cs d f n H' G' (b+12000)/\(Stl r->ts.length=pc k)/\(k=0->ts.length=0),λ_ _=>False,rfl,λQ' E' h1 _ _=>.mk p dx mem pr g G (stC cs) 1551 b r m f n k rfl h.zs h.dr.fin h.st h.at'.lf h.at'.n40 h.at'.tr (.inr ⟨h.at'.ne,h.at'.hf⟩) A1 (λ_ L ts G' H' i fz zs go _ hL c1 c2=>h1 _ H' ⟨L,ts,G',rfl,hL,h.go fz zs go,λz=>c2 z h.at'.ne,λz=>?_⟩) (λz=>absurd nn z),λv H' z=>?_,λ_ z=>(nomatch z),λ_ z=>(nomatch z)⟩
 ·rcases c1 with ⟨e,_⟩|⟨e,_⟩
  ·rw[e];rfl
  ·exact absurd z e
 ·obtain⟨L,ts,G',rfl,hL,y,c1,c2⟩:=z;exact⟨L,_,rfl,hL,by rw[B5];exact kq _ G' H' y c1 c2⟩
theorem near0{k:Nat}{G r0:Gv}(e:G=G0++r0)(ok:GOk G):EN (fieldF G 0 (bareN 1)) k:=λx y h=>absurd ((Nq e ok).2.2 x y) h
theorem Y64.sdB(h:Y64 a H0 g p dx mem pr r m cs d f n H G b)(k:Nat)(b1:b<=140000)(kq:∀t G' H',Y64 a H0 g p dx mem pr r m cs d f n H' G' (b+12048)->H' t=some (.tup [.str "field",.int (bareN 1:Int)])->Q (.ref t) H'):Rh a (Fe a) [.ref p,.int (bareN 1:Int),.int (k:Int)] H Q:=by
 obtain⟨r0,e0⟩:=h.zs.fu.g0;obtain⟨q1,q2,q3⟩:=Nq e0 h.zs.fu.ok;refine⟨λv H'=>∃G',v=.int (bareN 1:Int)/\Y64 a H0 g p dx mem pr r m cs d f n H' G' (b+12048),λ_ _=>False,rfl,λQ' E' h1 _ _=>.mk p dx mem pr g G (stC cs) 1551 b r m (bareN 1) 0 k rfl h.zs h.dr.fin h.st q1 A3 q2 (.inl rfl) A1 (λ_ e G' H' i fz zs go c1 c2=>h1 _ H' ⟨G',by rw[c1 (.inr (.inl rfl))],h.go fz zs go⟩) (λz=>absurd (near0 e0 h.zs.fu.ok) z),λv H' t H'' z s ht=>?_,λ_ _ _ z=>(nomatch z),λ_ _ _ z=>(nomatch z)⟩;obtain⟨G',rfl,y⟩:=z;exact kq t G' H'' (y.same s) ht
theorem Y64.rdB(h:Y64 a H0 g p dx mem pr r m cs d f n H G b)(k:Nat)(b1:b<=140000)(kq:∀H',Q (.int 0) H'):Nt a (Fc a) [.ref p,.int (bareN 1:Int),.int (k:Int)] H Q:=by
 obtain⟨r0,e0⟩:=h.zs.fu.g0;obtain⟨q1,q2,q3⟩:=Nq e0 h.zs.fu.ok;refine⟨λv H'=>∃L,v=.ref L/\H' L=some (.lst []),λ_ _=>False,rfl,λQ' E' h1 _ _=>.mk p dx mem pr g G (stC cs) 1551 b r m (bareN 1) 0 k rfl h.zs h.dr.fin h.st q1 A3 q2 (.inl rfl) A1 (λ_ L ts G' H' i fz zs go _ hL c1 c2=>h1 _ H' ⟨L,rfl,?_⟩) (λz=>absurd (near0 e0 h.zs.fu.ok) z),λv H' z=>?_,λ_ z=>(nomatch z),λ_ z=>(nomatch z)⟩
 ·rcases c1 with ⟨e,_⟩|⟨_,e,_⟩
  ·rw[hL,e];rfl
  ·exact absurd rfl e
 ·obtain⟨L,rfl,hL⟩:=z;exact⟨L,_,rfl,hL,kq H'⟩
end
seal L2.PA L2.PE L2.PS L2.PSs L2.PT L2.PW
section
variable{P:Program}{w:World}{K:PySem.W.Frag}{mg:Str->Option Value}{base:Heap}{a:Ad}
theorem ix2{i x y:Int}(h:i=0\/i=1):atI [V.int x,V.int y] i=some (.int (if i=0 then x else y)):=by
 rcases h with rfl|rfl<;>rfl
theorem ok_law{f:Addr}{fd:FuncData}(F:Fun K "law" "law" Vb f fd)(T:Top K mg a)(cG:PU P w K mg base CX0 2 "Grove" a.c_Grove Gx (OQ a))(aF:Cal P w K mg base CX0 1 "_law_at" Lw (spAt K))(bO:Cal P w K mg base CX0 1 "_law_place" Gs UQ)(bN:Cal P w K mg base CX0 56 "field_of" Jh (UV a))(bQ:Cal P w K mg base CX0 8 "read_rule" Ie (spRR a))(cF:PU P w K mg base CX0 3 "Jumps" a.c_Jumps Gu (OO a))(aK:Cal P w K mg base CX0 152 "_law_said" Ii (spSd a (Fe a)))(aS:Cal P w K mg base CX0 151 "_law_road" Ij (UL a (Fc a)))(bS:Cal P w K mg base CX0 1 "_law_bits" Ik spBi):AJ P w K mg base CX0 153 f fd p_law (SB K):=by
 refine F.ok Dm (λvs H Q E h=>?_) (λcdv A outer s H vs Q E hr h=>?_)
 ·obtain⟨l,ns,rfl,_⟩:=h;rfl
 ·obtain⟨l,ns,rfl,hS,hlen,kq⟩:=h;refine⟨_,(Ac (Ao (i:=1) Dm.nd rfl (Or.inl rfl) (AK Lx (AK Cg (Aq aF (rm hr) rfl An (Aa (pv 0) (Bh Ab))) Ae) (AK Cg (Aq aF (rm hr) rfl An (Aa (pv 0) (Bh Ab))) Ae))) (Ac (Ao (i:=2) Dm.nd rfl (Or.inl rfl) (AK Bf (AK Cg (Aq aF (rm hr) rfl An (Aa (pv 0) (Bh Ab))) (AK Ly Ae Ae)) (AK Ly Ae Ae))) (Ac (Ao (i:=3) Dm.nd rfl (Or.inl rfl) (Aq bO (rm hr) rfl An (Bl Cg (Aq aF (rm hr) rfl An (Aa (pv 0) (Bh Ab))) Ae (Aa (pv 1) (Aa (pv 2) Ab))))) (Ac (Ao (i:=4) Dm.nd rfl (Or.inl rfl) (CA (Be (Aa (Aj Am (pv 3) Ae (λ_ _=>rfl)) (Aa (Aj Am (pv 3) Ae (λ_ _=>rfl)) (Bl Bw Ae (AK Cg (AK IC (Aq aF (rm hr) rfl An (Aa (pv 0) (Bh Ab))) Ae) Ae) Ab))) Ab))) (Ac (AN (Ax CQ (AK Cg (Aq aF (rm hr) rfl An (Aa (pv 0) (Bh Ab))) Ae) Ae (AC _)) (Ag (Cd (GM W3 W5 W6 Dg (pv 4) (Be (Bl Bf (AK Cg (AK IC (Aq aF (rm hr) rfl An (Aa (pv 0) (Bh Ab))) Ae) Ae) Ae (Bl Bf (AK Cg (Aq aF (rm hr) rfl An (Aa (pv 0) (Bh Ab))) Ae) Ae (Bh Ab))) Ab)))) AB) (Ac (Ao (i:=5) Dm.nd rfl (Or.inl rfl) (Vj cG (rm hr) rfl An)) (Ac (Ao (i:=6) Dm.nd rfl (Or.inl rfl) (Aq bN (rm hr) rfl An (Aa (pv 5) (Aa (pv 4) Ab)))) (Ac (Ao (i:=7) Dm.nd rfl (Or.inl rfl) (Aq bN (rm hr) rfl An (Aa (pv 5) (Vk Ab Ab)))) (Ac (Ao (i:=8) Dm.nd rfl (Or.inl rfl) (JE cF (rm hr) rfl An (Aa (pv 5) (Aa (Aq bQ (rm hr) rfl An (Aa (Aj Aw (CA (Cf (Cf Ab))) (AK Cg (Aq aF (rm hr) rfl An (Aa (pv 0) (Bh Ab))) Ae) (λ_ _=>rfl)) Ab)) Ab)))) (Ac (Ao (i:=9) Dm.nd rfl (Or.inl rfl) (Aj Aw (CA (Aa (pv 6) (Aa (pv 7) Ab))) (AK Cg (Aq aF (rm hr) rfl An (Aa (pv 0) (Bh Ab))) Ae) (λ_ _=>rfl))) (Ac (AN (Ax CQ (pv 1) Ae (AC _)) (Ag (Ao (i:=9) Dm.nd rfl (Or.inl rfl) (pv 6))) AB) (Ac (Fu W2 rfl (Cs (CA (Aa (GL DU Ae) (Bl Bf (GL DU Ae) (pv 1) (Aa EW (Aa EW (Aa Cz (Cf (Vk (Aa (pv 1) Ab) Ab))))))))) (Ce (i:=10) Dm.nd rfl (Or.inl rfl)) (Ac (AN (PW.pt (IP (Ax (DH hr.units) (Aq aK (rm hr) rfl An (Aa (pv 8) (Aa (pv 6) (Aa (pv 10) Ab)))) (BX (Cf (Aa EW Ab))) (AC _)) (Ft (Ax (DH hr.units) (Aq aK (rm hr) rfl An (Aa (pv 8) (Aa (pv 7) (Aa (pv 10) Ab)))) (BX (Cf (Aa EW Ab))) (AC _))))) (Ag (As EW)) AB) (Ag (AN (Ax GN (Aq aS (rm hr) rfl An (Aa (pv 8) (Aa (pv 6) (Aa (pv 10) Ab)))) Id (AC _)) (Ag (As EW)) AB)))) (Ac (Fu W2 rfl (Cs (CA (Bl Bw (pv 1) Ae (Bl Bw (AK Bw (pv 1) Ae) (AK Cg (Aq aF (rm hr) rfl An (Aa (pv 0) (Bh Ab))) (AK Ly Ae Ae)) (Bl Ly Ae Ae Ab))))) (Ce (i:=11) Dm.nd rfl (Or.inl rfl)) (Ag (AN (PW.pt (IP (Ax (DH hr.units) (Aq aK (rm hr) rfl An (Aa (pv 8) (Aa (pv 6) (Aa (pv 11) Ab)))) (BX (Cf (Aa EW Ab))) (AC _)) (Ft (Ax GN (Aq aS (rm hr) rfl An (Aa (pv 8) (Aa (pv 6) (Aa (pv 11) Ab)))) Id (AC _))))) (Ag (As EW)) AB))) (Ac (AN (PW.pt (IP (Ax (DH hr.units) (Aq aK (rm hr) rfl An (Aa (pv 8) (Aa (pv 6) (Aa (pv 1) Ab)))) (BX (Cf (Aa (pv 9) Ab))) (AC _)) (Ft (Ax (DH hr.units) (Aq aK (rm hr) rfl An (Aa (pv 8) (Aa (pv 6) (Bl Bw (pv 1) Ae Ab)))) (BX (Cf (Aa EW Ab))) (AC _))))) (Ag (As EW)) AB) (Ac (AN (PW.pt (Ic (Ax CQ (AK Cg (Aq aF (rm hr) rfl An (Aa (pv 0) (Bh Ab))) Ae) Ae (AC _)) (EV (Ax GN (Aq aS (rm hr) rfl An (Aa (pv 8) (Aa (pv 6) (Aa (pv 1) Ab)))) (Aq bS (rm hr) rfl An (Aa (pv 1) Ab)) (AC _))))) (Ag (As EW)) AB) (Ac (AN (PW.pt (IP (Ax (DH hr.units) (Aq aK (rm hr) rfl An (Aa (pv 8) (Aa (pv 6) (Bh Ab)))) (BX (Cf (Aa (pv 6) Ab))) (AC _)) (Ft (Ax GN (Aq aS (rm hr) rfl An (Aa (pv 8) (Aa (pv 6) (Bh Ab)))) Ae (AC _))))) (Ag (As EW)) AB) (Ac (Ao (i:=12) Dm.nd rfl (Or.inl rfl) (AK Cg (Aq aF (rm hr) rfl An (Aa (pv 0) (Bh Ab))) (AK Ly Ae Ae))) (Ag (As (DZ (Ei (Rz hr.units) (Aq aK (rm hr) rfl An (Aa (pv 8) (Aa (pv 7) (Aa (pv 12) Ab)))) (BX (Cf (Aa (pv 7) Ab))) (AC _)) (Fv (Ei CQ (Aq aS (rm hr) rfl An (Aa (pv 8) (Aa (pv 7) (Aa (pv 12) Ab)))) Ae (AC _))))))))))))))))))))))),?_⟩
  try dsimp only[cxK]
  refine AW ?_;intro r1 s1 k1 hk1 E1;obtain⟨n0,hn0⟩:=F9 (M9 (atN ns 0) (by decide:(4:Int)≠0));have n04:n0<4:=by have:=N1 (atN ns 0) (by decide:(0:Int)<4);lia
  obtain⟨b0,hb0⟩:=F9 (M9 (atN ns 1) (by decide:(38:Int)≠0));have b38:b0<38:=by have:=N1 (atN ns 1) (by decide:(0:Int)<38);lia
  refine⟨_,rfl,l,ns,0,rfl,hS,by decide,_,_,rfl,rfl,(by show(0:Int)<4;decide),_,rfl,l,ns,1,rfl,hS,by decide,_,_,rfl,rfl,(by show(0:Int)<38;decide),?_⟩;refine⟨(n0:Int),(b0:Int),W0 V.int hn0,W0 V.int hb0,⟨by lia,by lia,by lia⟩,?_⟩;have en:(n0:Int)*2^(b0:Int).toNat=((n0*2^b0:Nat):Int):=by
   rw[L7,Q5,L9];rfl
  have d39:n0*2^b0<2^39:=by
   have h1:2^b0<=2^37:=N4 A3 A1;have h2:n0*2^b0<=3*2^37:=Nat.mul_le_mul A1 h1;exact F6 h2 A3
  generalize hd:n0*2^b0=d at en d39;rw[show(λi j:Int=>V.int (i*2^j.toNat)) (n0:Int) (b0:Int)=V.int (d:Int)from W0 V.int en];clear en hd n04 b38 hn0 hb0;refine hk1 ?_;refine AW ?_;intro r2 s2 k2 hk2 E2;refine⟨_,rfl,l,ns,3,rfl,hS,by decide,_,_,rfl,rfl,⟨by decide,by decide,by decide⟩,_,_,rfl,rfl,(by show(0:Int)<2^(39:Int).toNat;decide),_,_,rfl,rfl,⟨by decide,by decide,by decide⟩,_,_,rfl,rfl,?_⟩;have a0:0<=atN ns 3%2^(39:Int).toNat:=M9 _ A3;have a1:atN ns 3%2^(39:Int).toNat<2^(39:Int).toNat:=N1 _ A3;have eal:∃al:Int,atN ns 3%2^(39:Int).toNat-2^(38:Int).toNat=al/\-(2^38)<=al/\al<2^38:=⟨_,rfl,by rw[show(38:Int).toNat=38 from rfl];lia,by rw[show(38:Int).toNat=38 from rfl];rw[show(39:Int).toNat=39 from rfl]at a1⊢;lia⟩
  obtain⟨al,eal,al0,al1⟩:=eal;rw[show(λi j:Int=>V.int (i-j)) (atN ns 3%2^(39:Int).toNat) (2^(38:Int).toNat)=V.int al from W0 V.int eal];clear a0 a1 eal;refine hk2 ?_;refine AW ?_;intro r3 s3 k3 hk3 E3;refine⟨_,rfl,l,ns,2,rfl,hS,by decide,_,_,rfl,rfl,(by show(0:Int)<4;decide),_,rfl,_,rfl,.mk (atN ns 2%4) d al rfl λt H1 s1' ht=>?_⟩;generalize hX:plc (atN ns 2%4) d al=XY at ht;have nX:∀k:Nat,(k<=d↔_):=λk=>Vd (atN ns 2%4) al d k 0 al0 al1 d39;rw[hX]at nX;refine hk3 ?_;refine AW ?_;intro r4 s4 k4 hk4 E4;refine⟨_,rfl,t,_,0,.int XY.1,rfl,rfl,SqT.of ht,Al (j:=0) rfl,_,rfl,t,_,1,.int XY.2,rfl,rfl,SqT.of ht,Al (j:=1) rfl,_,rfl,l,ns,2,rfl,s1'.seq hS,by decide,_,_,rfl,rfl,⟨by decide,by decide⟩,_,_,rfl,rfl,(by show(0:Int)<7;decide),_,_,rfl,rfl,?_⟩;obtain⟨sv,hsv⟩:=F9 (M9 (atN ns 2/4) (by decide:(7:Int)≠0));have sv7:sv<7:=by have:=N1 (atN ns 2/4) (by decide:(0:Int)<7);lia
  have esv:(1:Int)+atN ns 2/4%7=((1+sv:Nat):Int):=by lia
  refine⟨by show 3<=sizeLine;decide,λtc ntc=>?_⟩;generalize eHa:upd H1 tc _=Ha;have sa:AA H1 Ha:=eHa▸Ay ntc;have ha:Sk Ha tc ⟨XY.1,XY.2,1+sv⟩:=by
   rw[<-eHa];unfold Sk;rw[Af];exact W0 (λz:Int=>some (HO.tup [.int XY.1,.int XY.2,.int z])) esv
  clear eHa;refine⟨by show 1<=sizeLine;decide,λLc nLc=>?_⟩;generalize eHb:upd Ha Lc _=Hb;have sb:AA Ha Hb:=eHb▸Ay nLc;have hLc:Hb Lc=some (.lst ([tc].map V.ref)):=eHb▸Af;have hb:Sk Hb tc ⟨XY.1,XY.2,1+sv⟩:=sb _ _ ha;have s0b:=(s1'.trans sa).trans sb;have nLH:H Lc=none:=AA.noneN (s1'.trans sa) nLc;clear eHb sa ha sb ht hX esv hsv nLc;have ok1:ClOk ⟨XY.1,XY.2,1+sv⟩:=by
   have:=(nX 0).mp (F5 _);refine⟨?_,by show 1+sv<8;lia⟩;show -(2^40)<=XY.1/\-(2^40)<=XY.2/\XY.1+1<=2^40/\XY.2+1<=2^40;lia
  refine hk4 ?_;refine AW ?_;intro r5 s5 k5 hk5 E5;apply Ob (T:=k5) (fun σ H2=>∃(ts:List Addr)(cs:List Cl),σ=[some (.ref l),some (.int (d:Int)),some (.int al),some (.ref t),some (.ref Lc),none,none,none,none,none,none,none,none]/\AA H H2/\H2 Lc=some (.lst (ts.map V.ref))/\Paired (Sk H2) ts cs/\Sj cs.reverse d)
  ·intro rest;have dr1:Sj ([⟨XY.1,XY.2,1+sv⟩]:List Cl).reverse d:=by
    refine⟨by show 1<=2;decide,λc hc=>?_,λc hc=>?_,by simp,λk=>?_⟩
    ·rw[D7.mp hc];exact ok1
    ·rw[D7.mp hc];show 1<=1+sv;lia
    ·rw[nX k];constructor
     ·intro h c hc;rw[D7.mp hc];exact h
     ·intro h;exact h _ (D7.mpr rfl)
   refine⟨_,rfl,l,ns,4,rfl,s0b.seq hS,by decide,_,_,rfl,rfl,B1,rfl,xq1 rfl (IM (λ_=>?_) (λ_=>rest _ _ ⟨[tc],_,rfl,s0b,hLc,.cons hb .nil,dr1⟩))⟩;refine⟨_,rfl,.inl ⟨rfl,_,SqL.of hLc⟩,_,rfl,l,ns,4,rfl,s0b.seq hS,by decide,_,_,rfl,rfl,⟨by decide,by decide⟩,_,_,rfl,rfl,(by show(0:Int)<9;decide),_,_,rfl,rfl,?_⟩;refine⟨_,rfl,l,ns,3,rfl,s0b.seq hS,by decide,_,_,rfl,rfl,(by show(0:Int)<9;decide),_,_,rfl,rfl,by show 3<=sizeLine;decide,λu nu=>?_⟩;have x0:0<=atN ns 4/2%9:=M9 _ A3;have x1:atN ns 4/2%9<9:=N1 _ A3;have y0:0<=atN ns 3%9:=M9 _ A3;have y1:atN ns 3%9<9:=N1 _ A3;generalize eHc:upd Hb u _=Hc;have sc:AA Hb Hc:=eHc▸Ay nu;have hc:Sk Hc u ⟨atN ns 4/2%9-4,atN ns 3%9-4,3⟩:=eHc▸Af;clear eHc;have hc':∃u1 v1:Int,-4<=u1/\u1<=4/\-4<=v1/\v1<=4/\Sk Hc u ⟨u1,v1,3⟩:=⟨_,_,by lia,by lia,by lia,by lia,hc⟩
   clear hc x0 x1 y0 y1;obtain⟨u1,v1,x0,x1,y0,y1,hc⟩:=hc';have hLc':=sc _ _ hLc;refine⟨Lc,_,_,rfl,rfl,hLc',by show 1<sizeLine;decide,?_⟩;have tp:∀{b:Addr}{ys:List V},Hc b=some (.tup ys)->upd Hc Lc (.lst ([tc].map V.ref++[.ref u])) b=some (.tup ys):=λ{b ys} e=>by rw[Ar (AD e hLc' A4)];exact e
   refine rest _ _ ⟨[tc,u],[⟨XY.1,XY.2,1+sv⟩,⟨u1,v1,3⟩],rfl,λb' o e=>?_,Af,.cons (tp (sc _ _ hb)) (.cons (tp hc) .nil),?_⟩
   ·rw[Ar (Av e nLH)];exact sc _ _ (s0b _ _ e)
   ·have two:∀{p:Cl->Prop},p ⟨XY.1,XY.2,1+sv⟩->p ⟨u1,v1,3⟩->∀c∈([⟨XY.1,XY.2,1+sv⟩,⟨u1,v1,3⟩]:List Cl).reverse,p c:=λ{p} h1 h2 c hc=>by
     rcases B8.mp hc with rfl|hc
     ·exact h2
     ·rw[D7.mp hc];exact h1
    refine⟨by show 2<=2;decide,two ok1 ⟨?_,by show 3<8;decide⟩,two (by show 1<=1+sv;lia) (by show 1<=3;decide),by simp,λk=>?_⟩
    ·show -(2^40)<=u1/\-(2^40)<=v1/\u1+1<=2^40/\v1+1<=2^40;lia
    ·constructor
     ·intro hk;refine two ((nX k).mp hk) ?_;show -(2^40)+(k:Int)<=u1/\u1+k<2^40/\-(2^40)+(k:Int)<=v1/\v1+k<2^40;lia
     ·intro h;exact(nX k).mpr (h _ (C1 _ (D7.mpr rfl)))
  rintro σ H2 ⟨ts,cs,rfl,s2',hL2,pr,dr⟩;refine hk5 ?_;clear hb s0b ok1 nX hLc;refine AW ?_;intro r6 s6 k6 hk6 E6;intro gx dx' nx ndx nex;refine⟨gx,dx',rfl,Af,λg H3 gp N=>⟨rfl,?_⟩⟩;have s3':AA H2 H3:=λb o e=>N.kp b o (by rw[Ar (Av e nx),Ar (Av e ndx)];exact e) (gp▸Av e nx);subst gp;have fu:=Bn.new N;have ng:=N.none;clear N;have apg:∀x o,H2 x=some o->x∉JO g:=λx o e z=>by rw[ng x z]at e;cases e
  refine hk6 ?_;refine AW ?_;intro r7 s7 k7 hk7 E7;have nL1:Lc∉JO g:=apg _ _ hL2;have lg:G0.length=56:=RU;refine xw2 rfl rfl ⟨g,G0,Lc,ts,cs,rfl,fu,s3' _ _ hL2,λz=>nL1 (by simp[JO,z]),λz=>nL1 (by simp[JO,z]),PairedM.imp (λt c z=>s3' _ _ z) pr,λc hc=>dr.ok c (List.mem_reverse.mpr hc),by have:=dr.len;rw[List.length_reverse]at this;lia,λf' n' G4 H4 fr4 fu4 go4 n40 lf4 fl4=>?_⟩;obtain⟨rr4,e4⟩:=fu4.g0;obtain⟨tr4,fe4⟩:=Uh e4 fu4.ok fl4 λc hc=>(dr.ok c hc).s;have at4:WH G4 f' n' (stC cs.reverse):=by
   refine⟨lf4,n40,tr4,λz=>?_,fe4⟩;obtain⟨c,hc⟩:=List.exists_mem_of_ne_nil _ dr.ne;have h1:=OH dr.s1 c hc;rw[<-fe4,z]at h1;obtain⟨q1,_,q3⟩:=Nq e4 fu4.ok;have:n'=0:=by
    have:=lf4;rw[z]at this;have:=V8 (this.uniq q1);lia
   subst this;exact h1 (q3 _ _)
  refine hk7 ?_;have gf4:=go4.few;have cl2:=dr.len;rw[List.length_reverse]at cl2;have ap4:∀{Ha Hb:Hp},AA H2 Ha->Fr g Ha Hb->AA H2 Hb:=λ{Ha Hb} sa fr x o e=>fr x o (sa _ _ e) (λz=>apg x o e (by simp[JO,z])) (λz=>apg x o e (by simp[JO,z])) (λz=>apg x o e (by simp[JO,z]));have s24:AA H2 H4:=ap4 s3' fr4;refine AW ?_;intro r8 s8 k8 hk8 E8;refine⟨_,rfl,by show 0<=sizeLine;decide,λLe nLe=>?_⟩;generalize eHe:upd H4 Le _=He;have se:AA H4 He:=eHe▸Ay nLe;have hLe:He Le=some (.lst (([]:List Addr).map V.ref)):=eHe▸Af;clear eHe;have fue:=fu4.same se;refine⟨g,G4,Le,[],[],rfl,fue,hLe,V5 (Av fu4.at'.lv nLe),(by obtain⟨us,hp,_⟩:=fu4.at'.pt;exact V5 (Av hp nLe)),.nil,(λc hc=>nomatch hc),by show G4.length+400*0<8000000;lia,λf0 n0 G5 H5 fr5 fu5 go5 _ lf5 fl5=>?_⟩;have ef0:f0=bareN 1:=by cases fl5;rfl
  subst ef0;have at5:=at4.goes fu4.ok go5;have gf5:G5.length<=G4.length+400*0:=go5.few;have g51:G5.length<=1000:=by lia
  have s25:AA H2 H5:=ap4 (s24.trans se) fr5;refine hk8 ?_;clear s24 se hLe nLe fue fr4 fr5 fl5 lf5 fl4 tr4 fe4 lf4 fu4;refine AW ?_;intro r9 s9 k9 hk9 E9;obtain⟨r,rok,rz,rt,rst,rev,rod⟩:∃r:AH,Nw r/\GF r 0 GT=0/\atI [V.str (Str.ofString ""),V.str (Str.ofString "* 0")] (atN ns 5%2)=some (.str (Df r))/\(Stl r\/Dyg r)/\(atN ns 5%2=0->Stl r)/\(atN ns 5%2≠0->Dyg r):=by
   have x0:0<=atN ns 5%2:=M9 _ A3;have x1:atN ns 5%2<2:=N1 _ A3;rcases(show atN ns 5%2=0\/atN ns 5%2=1 by lia)with e|e
   ·exact⟨J.r0,r0_ok,rfl,by rw[e,r0_t];rfl,.inl r0_st,λ_=>r0_st,λz=>absurd e z⟩
   ·exact⟨J.r1,r1_ok,rfl,by rw[e,r1_t];rfl,.inr r1_dy,λz=>(by rw[e]at z;cases z),λ_=>r1_dy⟩
  refine⟨_,rfl,by show 2<=sizeLine;decide,λLr nLr=>?_⟩;have sr:=Ay (o:=.lst [.str (Str.ofString ""),.str (Str.ofString "* 0")]) nLr;refine⟨_,rfl,l,ns,5,rfl,(((s2'.trans s25).trans sr).seq hS),by decide,_,_,rfl,rfl,B1,xq4 rfl rfl (SqL.of Af) rt ?_⟩;generalize upd H5 Lr (.lst [.str (Str.ofString ""),.str (Str.ofString "* 0")])=H6 at sr⊢;refine⟨r,rfl,rok,rz,λpr H7 s7' hR7=>?_⟩;have s27:=(s25.trans sr).trans s7';have fu7:=(fu5.same sr).same s7';intro p dxp np ndp nep;have nq:upd H7 dxp (.own p) p=none:=by rw[Ar (V5 nep)];exact np
  have sj:AA H7 (upd (upd H7 dxp (.own p)) p (.ins a.c_Jumps dxp [])):=(show AA H7 _ from AE ndp).trans (AE nq);refine⟨p,dxp,g.p,pr,Df r,r,rfl,Af,hR7.same sj,λH8 mem m fr8 nmem hp8 hmem8 fre htp hl hkc hds lds nds nmd=>⟨rfl,?_⟩⟩;have s8':AA H7 H8:=λb o e=>fr8 b o (sj b o e) (Av e np);have mn:∀{y:Addr},upd (upd H7 dxp (.own p)) p (.ins a.c_Jumps dxp []) y=none->H7 y=none:=λ{y} e=>AA.noneN sj e;have fu8:=fu7.same s8';have hw:Ix H8 g G5 1551 (1000+470*1551) r m:=(Ix.new (N:=0) (M:=0) fu7.at' (mn fre.2.1) (mn fre.2.2.1) htp hl hkc hds lds nds).mono (F5 _) (F5 _);have nds7:∀dd∈m.ds,H7 dd=none:=λdd hdd=>mn (fre.2.2.2 dd hdd);obtain⟨rr5,e5⟩:=fu5.g0;have bs5:Bs G5:=λj hj=>by
   have:=Mn j hj;rw[e5];exact JM this
  obtain⟨ka,ha1,_⟩:=fu7.am;obtain⟨kb,hb1,_⟩:=fu7.bx;have zs8:ZS a H8 g G5 (Kc (shF (stC cs.reverse))) 1551 1000 p dxp mem pr r m:=by
   refine⟨⟨⟨fu8.at',fu8.ok,bs5,fu8.br,⟨fu8.n1,fu8.n2⟩,hp8,hR7.same s8',rok,rz,hw⟩,λ_=>0,λe dd ed=>⟨[],hds dd (D4 ed),rfl,Q9,λk hk=>nomatch hk⟩,C8 g51 (Nat.le_add_right _ _),[],hkc,F5 _⟩,fu8,λz=>?_,λz=>?_⟩
   ·rw[nds7 _ z]at ha1;cases ha1
   ·rw[nds7 _ z]at hb1;cases hb1
  have Y0:Y64 a H2 g p dxp mem pr r m cs.reverse d f' n' H8 G5 1000:=by
   refine⟨zs8,s27.trans s8',at5,dr,rst,λx o e=>⟨λz=>?_,λz=>?_⟩⟩
   ·simp only[B8,D3,W7]at z;rcases z with z|z|z|z|z|z
    ·exact apg x o e (by simp[JO,z])
    ·exact apg x o e (by simp[JO,z])
    ·exact apg x o e (by simp[JO,z])
    ·exact apg x o e (by simp[JO,z])
    ·exact apg x o e (by simp[JO,z])
    ·rw[z]at e;have:=mn fre.2.2.1;rw[s27 _ _ e]at this;cases this
   ·have:=nds7 x z;rw[s27 _ _ e]at this;cases this
  refine hk9 ?_;have hS2:=s2'.seq hS;clear zs8 hw mn s8' sj fr8 hp8 hmem8 fre htp hl hkc hds nmd nds lds hR7 rt rz rok s7' sr s27 fu7 fu5 s25 go5 gf5 gf4 at4 at5 nds7 ha1 hb1 e5 bs5 fu8 nmem e4 ap4 apg ng fu;refine AW ?_;intro r10 s10 k10 hk10 E10;refine⟨_,rfl,_,rfl,by show 2<=sizeLine;decide,λLd nLd=>?_⟩;generalize eHa:upd H8 Ld _=Ha;have sa:AA H8 Ha:=eHa▸Ay nLd;have hLd:Ha Ld=some (.lst [.int (f':Int),.int (bareN 1:Int)]):=eHa▸Af;clear eHa;have Ya:=Y0.same sa;have x50:0<=atN ns 5%2:=M9 _ A3;have x51:atN ns 5%2<2:=N1 _ A3;refine⟨_,rfl,l,ns,5,rfl,Ya.sm.seq hS2,by decide,_,_,rfl,rfl,B1,xq4 rfl rfl (SqL.of hLd) (ix2 A1) ?_⟩;refine hk10 ?_;refine AW ?_;intro r11 s11 k11 hk11 E11;apply Ob (T:=k11) (fun σ H9=>H9=Ha/\∃D:Nat,σ=[some (.ref l),some (.int (d:Int)),some (.int al),some (.ref t),some (.ref Lc),some (.ref g.p),some (.int (f':Int)),some (.int (bareN 1:Int)),some (.ref p),some (.int (D:Int)),none,none,none]/\((d=0\/Stl r)->D=f')/\(d≠0->Dyg r->D=bareN 1))
  ·intro rest;refine⟨_,rfl,rfl,_,rfl,IM (λhc=>?_) (λhc=>?_)⟩
   ·have hc:d=0:=by have:=W1 hc;injection this with this;exact V8 this
    exact⟨_,rfl,rest _ _ ⟨rfl,f',rfl,λ_=>rfl,λz=>absurd hc z⟩⟩
   ·have hc:d≠0:=λz=>hc (V1 (by rw[z];rfl));by_cases z5:atN ns 5%2=0
    ·refine rest _ _ ⟨rfl,f',?_,λ_=>rfl,λ_ hd=>(Sx (rev z5) hd).elim⟩;exact W0 (λz:Int=>[some (V.ref l),some (V.int (d:Int)),some (V.int al),some (V.ref t),some (V.ref Lc),some (V.ref g.p),some (V.int (f':Int)),some (V.int (bareN 1:Int)),some (V.ref p),some (V.int z),none,none,none]) (V2 z5)
    ·refine rest _ _ ⟨rfl,bareN 1,?_,λq=>?_,λ_ _=>rfl⟩
     ·exact W0 (λz:Int=>[some (V.ref l),some (V.int (d:Int)),some (V.int al),some (V.ref t),some (V.ref Lc),some (V.ref g.p),some (V.int (f':Int)),some (V.int (bareN 1:Int)),some (V.ref p),some (V.int z),none,none,none]) (V0 z5)
     ·rcases q with q|q
      ·exact absurd q hc
      ·exact(Sx q (rod z5)).elim
  rintro σ H9 ⟨rfl,D,rfl,hD1,hD2⟩;refine hk11 ?_;clear Y0 sa hLd nLd rst;refine AW ?_;intro r12 s12 k12 hk12 E12;refine⟨1,rfl,1,rfl,_,rfl,_,_,rfl,rfl,?_⟩;refine⟨_,rfl,by show 1<=sizeLine;decide,λLo nLo=>?_⟩;generalize eHb:upd H9 Lo _=Hb;have sb:AA H9 Hb:=eHb▸Ay nLo;have hLo:Hb Lo=some (.lst [.int (d:Int)]):=eHb▸Af;clear eHb;refine⟨by show 7<=sizeLine;decide,λLq nLq=>?_⟩;generalize eHc:upd Hb Lq _=Hc;have sc:AA Hb Hc:=eHc▸Ay nLq;have hLq:Hc Lq=some (.lst [.int (-1),.int (-1-(d:Int)),.bl true,.bl false,.non,.str (Str.ofString "1"),.ref Lo]):=eHc▸Af;have hLo':=sc _ _ hLo;clear eHc;have Yc:=(Ya.same sb).same sc;refine⟨Lq,rfl,⟨_,SqL.of hLq⟩,?_⟩;have all:∀(j:Nat)(v:V),[V.int (-1),.int (-1-(d:Int)),.bl true,.bl false,.non,.str (Str.ofString "1"),.ref Lo][j]?=some v->∀{Hx:Hp},AA Hc Hx->(Ny Hx v\/∃i:Int,v=.int i/\i<0):=λj v ej Hx sx=>by
   match j,ej with
   |0,ej=>cases ej;exact .inr ⟨_,rfl,by decide⟩
   |1,ej=>cases ej;exact .inr ⟨_,rfl,by lia⟩
   |2,ej=>cases ej;exact .inl (.bl _)
   |3,ej=>cases ej;exact .inl (.bl _)
   |4,ej=>cases ej;exact .inl .non
   |5,ej=>cases ej;exact .inl (.str _)
   |6,ej=>cases ej;exact .inl (.lst (sx _ _ hLo'))
   |n+7,ej=>cases ej
  refine Nf (xs:=[.int (-1),.int (-1-(d:Int)),.bl true,.bl false,.non,.str (Str.ofString "1"),.ref Lo]) (λj σ Hx=>AA Hc Hx/\∃u10:Option V,σ=[some (.ref l),some (.int (d:Int)),some (.int al),some (.ref t),some (.ref Lc),some (.ref g.p),some (.int (f':Int)),some (.int (bareN 1:Int)),some (.ref p),some (.int (D:Int)),u10,none,none]) ⟨AA.refl Hc,none,rfl⟩ (λj σ Hx _ z=>SqL.of (z.1 _ _ hLq)) ?_ ?_
  ·rintro j v σ Hx ev ⟨sx,u10,rfl⟩;have Yx:=Yc.same sx;have od:=all j v ev sx;refine AW ?_;intro r13 s13 k13 hk13 E13;refine⟨_,rfl,_,rfl,_,rfl,Yx.sdN od λt1 H10 s10' ht1=>?_⟩;refine⟨by show 2<=sizeLine;decide,λu nu=>⟨⟨t1,u,_,rfl,rfl,SqT.of (Ay nu _ _ ht1),SqT.of Af,rfl⟩,false,rfl,Bb ?_⟩⟩;generalize eHd:upd H10 u _=Hd;have sd:AA H10 Hd:=eHd▸Ay nu;clear eHd;have sxd:=(sx.trans s10').trans sd;have Yd:=Yc.same sxd;refine⟨_,rfl,_,rfl,_,rfl,Yd.sdN (all j v ev sxd) λt2 H11 s11' ht2=>?_⟩;refine⟨by show 2<=sizeLine;decide,λu2 nu2=>⟨⟨t2,u2,_,rfl,rfl,SqT.of (Ay nu2 _ _ ht2),SqT.of Af,rfl⟩,false,rfl,Bb ?_⟩⟩;generalize eHe:upd H11 u2 _=He;have se:AA H11 He:=eHe▸Ay nu2;clear eHe;have sxe:=(sxd.trans s11').trans se;have Ye:=Yc.same sxe;refine hk13 ?_;refine⟨_,rfl,_,rfl,_,rfl,Ye.rdN (all j v ev sxe) ?_⟩;exact⟨rfl,_,rfl,LT rfl ⟨sxe,_,rfl⟩⟩
  ·rintro σ Hx ⟨sx,u10,rfl⟩;refine hk12 ?_;have Yx:=Yc.same sx;clear Yc Ya sx sc sb hLq hLo hLo' all nLo nLq;refine AW ?_;intro r13 s13 k13 hk13 E13;refine⟨_,rfl,_,_,rfl,rfl,_,rfl,_,_,rfl,rfl,_,rfl,l,ns,6,rfl,Yx.sm.seq hS2,by decide,_,_,rfl,rfl,⟨by decide,by decide,by decide⟩,_,_,rfl,rfl,(by show(0:Int)<10^(12:Int).toNat;decide),_,_,rfl,rfl,_,_,rfl,rfl,⟨by decide,by decide,by decide⟩,by show 3<=sizeLine;decide,λLm nLm=>?_⟩;have q0:0<=atN ns 6%10^(12:Int).toNat:=M9 _ A3;obtain⟨q6,hq6⟩:=F9 q0;generalize eHb:upd Hx Lm _=Hb;have sb:AA Hx Hb:=eHb▸Ay nLm;have hLm:Hb Lm=some (.lst [.int ((d+1:Nat):Int),.int ((d+1+q6:Nat):Int),.int ((10^30:Nat):Int)]):=by
    rw[<-eHb,Af];have e1:(d:Int)+1=((d+1:Nat):Int):=by lia
    have e2:(d:Int)+1+atN ns 6%10^(12:Int).toNat=((d+1+q6:Nat):Int):=by rw[hq6];lia
    have e3:(10:Int)^(30:Int).toNat=((10^30:Nat):Int):=by decide
    exact(W0 (λz:Int=>some (HO.lst [.int z,.int ((d:Int)+1+atN ns 6%10^(12:Int).toNat),.int ((10:Int)^(30:Int).toNat)])) e1).trans ((W0 (λz:Int=>some (HO.lst [.int ((d+1:Nat):Int),.int z,.int ((10:Int)^(30:Int).toNat)])) e2).trans (W0 (λz:Int=>some (HO.lst [.int ((d+1:Nat):Int),.int ((d+1+q6:Nat):Int),.int z])) e3))
   clear eHb;have Yb:=(Yx.same sb).base hLm (Yx.zs.ap nLm);have s2m:AA H2 (upd H2 Lm (.lst [.int ((d+1:Nat):Int),.int ((d+1+q6:Nat):Int),.int ((10^30:Nat):Int)])):=Ay (AA.noneN Yx.sm nLm);have hLmm:upd H2 Lm (.lst [.int ((d+1:Nat):Int),.int ((d+1+q6:Nat):Int),.int ((10^30:Nat):Int)]) Lm=some (.lst [.int ((d+1:Nat):Int),.int ((d+1+q6:Nat):Int),.int ((10^30:Nat):Int)]):=Af;generalize upd H2 Lm (.lst [.int ((d+1:Nat):Int),.int ((d+1+q6:Nat):Int),.int ((10^30:Nat):Int)])=Hm at Yb s2m hLmm;have hSm:=s2m.seq hS2;clear Yx sb q0 hq6 nLm s2m;refine⟨Lm,rfl,⟨_,SqL.of hLm⟩,?_⟩;have all:∀(j:Nat)(v:V),[V.int ((d+1:Nat):Int),.int ((d+1+q6:Nat):Int),.int ((10^30:Nat):Int)][j]?=some v->∃k:Nat,v=.int (k:Int)/\d<k:=λj v ej=>by
    match j,ej with
    |0,ej=>cases ej;exact⟨_,rfl,by lia⟩
    |1,ej=>cases ej;exact⟨_,rfl,by lia⟩
    |2,ej=>cases ej;exact⟨_,rfl,Q8 d39 A3⟩
    |n+3,ej=>cases ej
   refine Nf (xs:=[.int ((d+1:Nat):Int),.int ((d+1+q6:Nat):Int),.int ((10^30:Nat):Int)]) (λj σ Hx=>Y64 a Hm g p dxp mem pr r m cs.reverse d f' n' Hx G5 1000/\∃u11:Option V,σ=[some (.ref l),some (.int (d:Int)),some (.int al),some (.ref t),some (.ref Lc),some (.ref g.p),some (.int (f':Int)),some (.int (bareN 1:Int)),some (.ref p),some (.int (D:Int)),u10,u11,none]) ⟨Yb,none,rfl⟩ (λj σ Hx _ z=>SqL.of (z.1.sm _ _ hLmm)) ?_ ?_
   ·rintro j v σ Hy ev ⟨Yy,u11,rfl⟩;obtain⟨k,rfl,dk⟩:=all j v ev;refine⟨_,rfl,_,rfl,_,rfl,Yy.sdF dk A3 λt1 H10 Yd ht1=>?_⟩;refine⟨by show 2<=sizeLine;decide,λu nu=>⟨⟨t1,u,_,rfl,rfl,SqT.of (Ay nu _ _ ht1),SqT.of Af,rfl⟩,false,rfl,Bb ?_⟩⟩;refine⟨_,rfl,_,rfl,_,rfl,(Yd.same (Ay nu)).rdF dk A3 λH11 Ye=>?_⟩;exact⟨rfl,_,rfl,LT rfl ⟨Ye,_,rfl⟩⟩
   ·rintro σ Hy ⟨Yy,u11,rfl⟩;refine hk13 ?_;clear all Yb hLmm hLm;refine AW ?_;intro r14 s14 k14 hk14 E14;refine⟨_,rfl,_,rfl,_,rfl,Yy.sdK (C0 d) A3 λe t1 G9 H10 Yd c1 c2 ht1=>?_⟩;have eD:e=D:=by
     by_cases z:d=0\/Stl r
     ·rw[c1 z,hD1 z]
     ·have z1:d≠0:=λq=>z (.inl q);rcases Yd.st with q|q
      ·exact absurd (.inr q) z
      ·rw[c2 z1 q,hD2 z1 q]
    subst eD;refine⟨_,rfl,by show 2<=sizeLine;decide,λu nu=>⟨⟨t1,u,_,rfl,rfl,SqT.of (Ay nu _ _ ht1),SqT.of Af,rfl⟩,false,rfl,Bb ?_⟩⟩;have Ye:=Yd.same (Ay (o:=.tup [.str "field",.int (e:Int)]) nu);generalize upd H10 u (.tup [.str "field",.int (e:Int)])=H11 at Ye⊢;clear Yd ht1 nu c1 c2;refine⟨_,rfl,_,rfl,_,rfl,_,_,rfl,rfl,(Ye.sdF (k:=d+1) (R1 d) A3 λt2 H12 Yf ht2=>?_:Rh a (Fe a) [.ref p,.int (f':Int),.int ((d+1:Nat):Int)] H11 _)⟩;refine⟨by show 2<=sizeLine;decide,λu2 nu2=>⟨⟨t2,u2,_,rfl,rfl,SqT.of (Ay nu2 _ _ ht2),SqT.of Af,rfl⟩,false,rfl,Bb ?_⟩⟩;have Yg:=Yf.same (Ay (o:=.tup [.str "too far",.bl true]) nu2);generalize upd H12 u2 (.tup [.str "too far",.bl true])=H13 at Yg⊢;clear Yf ht2 nu2 Ye;refine hk14 ?_;refine AW ?_;intro r15 s15 k15 hk15 E15;apply Ob (T:=k15) (fun σ H14=>∃G10,σ=[some (.ref l),some (.int (d:Int)),some (.int al),some (.ref t),some (.ref Lc),some (.ref g.p),some (.int (f':Int)),some (.int (bareN 1:Int)),some (.ref p),some (.int (e:Int)),u10,u11,none]/\Y64 a Hm g p dxp mem pr r m cs.reverse d f' n' H14 G10 25048)
    ·intro rest;refine⟨_,rfl,l,ns,5,rfl,Yg.sm.seq hSm,by decide,_,_,rfl,rfl,B1,rfl,_,rfl,IM (λhc=>?_) (λhc=>?_)⟩
     ·have hc:atN ns 5%2=0:=by have:=W1 hc;injection this
      refine⟨_,rfl,_,rfl,_,rfl,Yg.rdK (C0 d) A3 λc G10 H14 Yh c1 c2=>?_⟩;refine⟨_,rfl,.mk d rfl ?_⟩;rw[c1 (rev hc)];exact⟨rfl,_,rfl,LT rfl (rest _ _ ⟨G10,rfl,Yh⟩)⟩
     ·exact Bb (rest _ _ ⟨_,rfl,⟨Yg.zs.mono A3,Yg.sm,Yg.at',Yg.dr,Yg.st,Yg.ap⟩⟩)
    ·rintro σ H14 ⟨G10,rfl,Yh⟩;refine hk15 ?_;clear Yg;refine AW ?_;intro r16 s16 k16 hk16 E16;refine⟨_,rfl,_,rfl,(Yh.sdK (k:=0) (F5 d) A3 λe0 t3 G11 H15 Yi c1 c2 ht3=>?_:Rh a (Fe a) [.ref p,.int (f':Int),.int ((0:Nat):Int)] H14 _)⟩;have e0f:=c1 (.inl rfl);subst e0f;refine⟨_,rfl,by show 2<=sizeLine;decide,λu nu=>⟨⟨t3,u,_,rfl,rfl,SqT.of (Ay nu _ _ ht3),SqT.of Af,rfl⟩,false,rfl,Bb ?_⟩⟩;have Yj:=Yi.same (Ay (o:=.tup [.str "field",.int (e0:Int)]) nu);generalize upd H15 u (.tup [.str "field",.int (e0:Int)])=H16 at Yj⊢;clear Yi ht3 nu c1 c2;refine⟨_,rfl,_,rfl,(Yj.rdK (k:=0) (F5 d) A3 λc G12 H17 Yk c1 c2=>?_:Nt a (Fc a) [.ref p,.int (e0:Int),.int ((0:Nat):Int)] H16 _)⟩;rw[c2 rfl];refine⟨rfl,_,rfl,LT rfl ?_⟩;refine hk16 ?_;refine AW ?_;intro r17 s17 k17 hk17 E17;refine⟨_,rfl,l,ns,6,rfl,Yk.sm.seq hSm,by decide,_,_,rfl,rfl,⟨by decide,by decide,by decide⟩,_,_,rfl,rfl,(by show(0:Int)<10^(30:Int).toNat;decide),?_⟩;obtain⟨hu,ehu⟩:=F9 (show 0<=atN ns 6%10^(30:Int).toNat from M9 _ A3);rw[show(λi j:Int=>V.int (i%j)) (atN ns 6) (10^(30:Int).toNat)=V.int (hu:Int)from W0 V.int ehu];refine hk17 ?_;refine⟨_,rfl,_,rfl,_,rfl,Yk.sdB hu A3 λt4 G13 H18 Yl ht4=>?_⟩;refine⟨_,rfl,by show 2<=sizeLine;decide,λu4 nu4=>⟨⟨t4,u4,_,rfl,rfl,SqT.of (Ay nu4 _ _ ht4),SqT.of Af,rfl⟩,true,rfl,BT ?_⟩⟩;have Ym:=Yl.same (Ay (o:=.tup [.str "field",.int (bareN 1:Int)]) nu4);refine⟨_,rfl,_,rfl,_,rfl,Ym.rdB hu A3 λH19=>?_⟩;exact⟨rfl,kq _⟩
end
end J
namespace J
open PySem L2
theorem ar1{α:Type}:∀us:List α,us.length=1->∃a0,us=[a0]
 |[a0],_=>⟨a0,rfl⟩
theorem ar2{α:Type}:∀us:List α,us.length=2->∃a0 a1,us=[a0,a1]
 |[a0,a1],_=>⟨a0,a1,rfl⟩
theorem ar3{α:Type}:∀us:List α,us.length=3->∃a0 a1 a2,us=[a0,a1,a2]
 |[a0,a1,a2],_=>⟨a0,a1,a2,rfl⟩
theorem ar4{α:Type}:∀us:List α,us.length=4->∃a0 a1 a2 a3,us=[a0,a1,a2,a3]
 |[a0,a1,a2,a3],_=>⟨a0,a1,a2,a3,rfl⟩
theorem ar5{α:Type}:∀us:List α,us.length=5->∃a0 a1 a2 a3 a4,us=[a0,a1,a2,a3,a4]
 |[a0,a1,a2,a3,a4],_=>⟨a0,a1,a2,a3,a4,rfl⟩
structure Fg(K:PySem.W.Frag)(x:Str)(st:Stmt)(f:Addr)(fd:FuncData):Prop where
 at_:PySem.W.nsIn K mainGlobals x=some (some (.ref f))
 fn:Fun K x x st f fd
structure Fm(K:PySem.W.Frag)(C:Addr)(m q:Str)(st:Stmt)(f:Addr)(fd:FuncData):Prop where
 me:NP K C m f
 fn:Fun K m q st f fd
structure Fi(K:PySem.W.Frag)(C:Addr)(q:Str)(st:Stmt)(f:Addr)(fd:FuncData):Prop where
 mk_:Mk K C f
 fn:Fun K "__init__" q st f fd
theorem bnd{K:PySem.W.Frag}{x q:Str}{st:Stmt}{f:Addr}{fd:FuncData}{ps:List Str}(F:Fun K x q st f fd)(h:∀(kV doc pm:Value)(an:Option Addr)(cdv ct:Value)(us:List Value),us.length=ps.length->bindArgs (PySem.W.fnOf x q (JS st) (GD st) (Ah st) .none kV doc pm an cdv ct) ⟨us,[]⟩=pure (ps.zip us):=by intro _ _ _ _ _ _ us hl;first|(obtain⟨x0,rfl⟩:=ar1 us hl;exact rfl)|(obtain⟨x0,x1,rfl⟩:=ar2 us hl;exact rfl)|(obtain⟨x0,x1,x2,rfl⟩:=ar3 us hl;exact rfl)|(obtain⟨x0,x1,x2,x3,rfl⟩:=ar4 us hl;exact rfl)|(obtain⟨x0,x1,x2,x3,x4,rfl⟩:=ar5 us hl;exact rfl)):Cu K fd ps []:=F.binds h
theorem fin{l:PySem.W.OpenLaw}{w:World}{K:PySem.W.Frag}{h:Heap}{mg:Str->Option Value}{fa:Addr}(X:K.In h)(G:h.Ns mainGlobals mg)(hfa:mg "law" = some (.ref fa))
  {c_Amounts:Addr} {c_Places:Addr} {c_Clause:Addr} {c_Grove:Addr} {c_Rule:Addr} {c_Jumps:Addr} {f0:Addr} {d0:FuncData} {f1:Addr} {d1:FuncData} {f2:Addr} {d2:FuncData} {f3:Addr} {d3:FuncData} {f4:Addr} {d4:FuncData} {f5:Addr} {d5:FuncData} {f6:Addr} {d6:FuncData} {f7:Addr} {d7:FuncData} {f8:Addr} {d8:FuncData} {f9:Addr} {d9:FuncData} {f10:Addr} {d10:FuncData} {f11:Addr} {d11:FuncData} {f12:Addr} {d12:FuncData} {f13:Addr} {d13:FuncData} {f14:Addr} {d14:FuncData} {f15:Addr} {d15:FuncData} {f16:Addr} {d16:FuncData} {f17:Addr} {d17:FuncData} {f18:Addr} {d18:FuncData} {f19:Addr} {d19:FuncData} {f20:Addr} {d20:FuncData} {f21:Addr} {d21:FuncData} {f22:Addr} {d22:FuncData} {f23:Addr} {d23:FuncData} {f24:Addr} {d24:FuncData} {f25:Addr} {d25:FuncData} {f26:Addr} {d26:FuncData} {f27:Addr} {d27:FuncData} {f28:Addr} {d28:FuncData} {f29:Addr} {d29:FuncData} {f30:Addr} {d30:FuncData} {f31:Addr} {d31:FuncData} {f32:Addr} {d32:FuncData} {f33:Addr} {d33:FuncData} {f34:Addr} {d34:FuncData} {f35:Addr} {d35:FuncData} {f36:Addr} {d36:FuncData} {f37:Addr} {d37:FuncData} {f38:Addr} {d38:FuncData} {f39:Addr} {d39:FuncData} {f40:Addr} {d40:FuncData} {f41:Addr} {d41:FuncData} {f42:Addr} {d42:FuncData} {f44:Addr} {d44:FuncData} {f46:Addr} {d46:FuncData} {f48:Addr} {d48:FuncData} {f50:Addr} {d50:FuncData} {f51:Addr} {d51:FuncData} {f52:Addr} {d52:FuncData} {f53:Addr} {d53:FuncData} {f54:Addr} {d54:FuncData} {f55:Addr} {d55:FuncData} {f56:Addr} {d56:FuncData} {f57:Addr} {d57:FuncData} {f58:Addr} {d58:FuncData} {f61:Addr} {d61:FuncData} {f62:Addr} {d62:FuncData} {f63:Addr} {d63:FuncData} {f64:Addr} {d64:FuncData} {f65:Addr} {d65:FuncData} {f66:Addr} {d66:FuncData} {f67:Addr} {d67:FuncData} {f68:Addr} {d68:FuncData} {f43:Addr} {d43:FuncData} {f45:Addr} {d45:FuncData} {f47:Addr} {d47:FuncData} {f49:Addr} {d49:FuncData} {f59:Addr} {d59:FuncData} {f60:Addr} {d60:FuncData} {t_STATES:Tok} {t_NEIGHBOURS:Tok} {t_STATE_FIGURES:Tok} {x_STATE_FIGURES:Str} {t_AMOUNT_FIGURES:Tok} {x_AMOUNT_FIGURES:Str} {t_ANY_SIGN:Tok} {x_ANY_SIGN:Str} {t_TOP_LEVEL:Tok} {t_LIMIT:Tok} {t_LEAST_LEVEL:Tok} {t_CLAUSE_MARK:Tok} {x_CLAUSE_MARK:Str} {t_LEAST_JUMPED:Tok} {x_FieldError:Addr} {x_NoRule:Addr} {x_Restless:Addr} {x_NoSquare:Addr} {x_NoLevel:Addr} {x_NoState:Addr} {x_TooFar:Addr} {x_NoSteps:Addr}
  (cH:PySem.W.nsIn K mainGlobals "Amounts" = some (some (.ref c_Amounts)))
  (cJ:PySem.W.nsIn K mainGlobals "Places" = some (some (.ref c_Places)))
  (cK:PySem.W.nsIn K mainGlobals "Clause" = some (some (.ref c_Clause)))
  (cO:PySem.W.nsIn K mainGlobals "Grove" = some (some (.ref c_Grove)))
  (cP:PySem.W.nsIn K mainGlobals "Rule" = some (some (.ref c_Rule)))
  (cN:PySem.W.nsIn K mainGlobals "Jumps" = some (some (.ref c_Jumps)))
  (q_Amounts:Cls K c_Amounts)
  (q_Places:Cls K c_Places)
  (q_Clause:Cls K c_Clause)
  (q_Grove:Cls K c_Grove)
  (q_Rule:Cls K c_Rule)
  (q_Jumps:Cls K c_Jumps)
  (na_Amounts_state:findIn K (.ref c_Amounts) "state" = some none)
  (na_Amounts_numbers:findIn K (.ref c_Amounts) "numbers" = some none)
  (na_Places_wanted:findIn K (.ref c_Places) "wanted" = some none)
  (na_Clause_cell:findIn K (.ref c_Clause) "cell" = some none)
  (na_Clause_conditions:findIn K (.ref c_Clause) "conditions" = some none)
  (na_Clause_makes:findIn K (.ref c_Clause) "makes" = some none)
  (na_Grove_levels:findIn K (.ref c_Grove) "levels" = some none)
  (na_Grove_parts:findIn K (.ref c_Grove) "parts" = some none)
  (na_Grove_numbers:findIn K (.ref c_Grove) "numbers" = some none)
  (na_Grove_bares:findIn K (.ref c_Grove) "bares" = some none)
  (na_Grove_amounts:findIn K (.ref c_Grove) "amounts" = some none)
  (na_Grove_boxes:findIn K (.ref c_Grove) "boxes" = some none)
  (na_Rule_text:findIn K (.ref c_Rule) "text" = some none)
  (na_Rule_clauses:findIn K (.ref c_Rule) "clauses" = some none)
  (na_Jumps_grove:findIn K (.ref c_Jumps) "grove" = some none)
  (na_Jumps_memories:findIn K (.ref c_Jumps) "memories" = some none)
  (na_Jumps_rule:findIn K (.ref c_Jumps) "rule" = some none)
  (na_Jumps_known_squares:findIn K (.ref c_Jumps) "known_squares" = some none)
  (na_Jumps_known_cells:findIn K (.ref c_Jumps) "known_cells" = some none)
  (g0:Fg K "is_whole" Gc f0 d0)
  (g1:Fg K "is_state" Jc f1 d1)
  (g2:Fg K "takes" OV f2 d2)
  (g3:Fg K "read_clause" DM f3 d3)
  (g4:Fg K "read_state" Ga f4 d4)
  (g5:Fg K "read_wanted" Fn f5 d5)
  (g6:Fg K "read_condition" Dz f6 d6)
  (g7:Fg K "read_amounts" Et f7 d7)
  (g8:Fg K "read_numbers" Es f8 d8)
  (g9:Fg K "read_places" DL f9 d9)
  (g10:Fg K "shifted_box" Fl f10 d10)
  (g11:Fg K "least_box" Cv f11 d11)
  (g12:Fg K "lies_within" Fo f12 d12)
  (g13:Fg K "reach_of" Jb f13 d13)
  (g14:Fg K "bare_field" Ge f14 d14)
  (g15:Fg K "widened" Lh f15 d15)
  (g16:Fg K "trimmed" Li f16 d16)
  (g17:Fg K "middle_of" ET f17 d17)
  (g18:Fg K "is_bare_around" DA f18 d18)
  (g19:Fg K "widened_over" Er f19 d19)
  (g20:Fg K "widened_to" FY f20 d20)
  (g21:Fg K "planted" Lj f21 d21)
  (g22:Fg K "replaced" Ja f22 d22)
  (g23:Fg K "field_of" Je f23 d23)
  (g24:Fg K "box_of" MH f24 d24)
  (g25:Fg K "jump" Rw f25 d25)
  (g26:Fg K "road" Rv f26 d26)
  (g27:Fg K "check_leap" Gd f27 d27)
  (g28:Fg K "level_for" GY f28 d28)
  (g29:Fg K "clause_texts" Eu f29 d29)
  (g30:Fg K "read_rule" GX f30 d30)
  (g31:Fg K "deciding" Jf f31 d31)
  (g32:Fg K "becomes" Lk f32 d32)
  (g33:Fg K "shown_rule" FZ f33 d33)
  (g34:Fg K "nine_parts" Gb f34 d34)
  (g35:Fg K "fours_of" Jd f35 d35)
  (g36:Fg K "met_in_the_middle" CK f36 d36)
  (g37:Fg K "_law_at" Ll f37 d37)
  (g38:Fg K "_law_place" Gf f38 d38)
  (g39:Fg K "_law_said" GZ f39 d39)
  (g40:Fg K "_law_road" Ia f40 d40)
  (g41:Fg K "_law_bits" Ib f41 d41)
  (g42:Fg K "law" Vb f42 d42)
  (g44:Fm K c_Amounts "holds" "Amounts.holds" DY f44 d44)
  (g46:Fm K c_Places "holds" "Places.holds" Dq f46 d46)
  (g48:Fm K c_Clause "fits" "Clause.fits" DO f48 d48)
  (g50:Fm K c_Grove "kept" "Grove.kept" Gj f50 d50)
  (g51:Fm K c_Grove "linked" "Grove.linked" Ev f51 d51)
  (g52:Fm K c_Grove "check_square" "Grove.check_square" Cy f52 d52)
  (g53:Fm K c_Grove "leaf" "Grove.leaf" Gi f53 d53)
  (g54:Fm K c_Grove "level_of" "Grove.level_of" DC f54 d54)
  (g55:Fm K c_Grove "state_of" "Grove.state_of" DB f55 d55)
  (g56:Fm K c_Grove "span" "Grove.span" Gh f56 d56)
  (g57:Fm K c_Grove "boxed" "Grove.boxed" DN f57 d57)
  (g58:Fm K c_Grove "measured" "Grove.measured" CG f58 d58)
  (g61:Fm K c_Jumps "change" "Jumps.change" Dr f61 d61)
  (g62:Fm K c_Jumps "after" "Jumps.after" Fq f62 d62)
  (g63:Fm K c_Jumps "check_jump" "Jumps.check_jump" CW f63 d63)
  (g64:Fm K c_Jumps "reckoned" "Jumps.reckoned" CF f64 d64)
  (g65:Fm K c_Jumps "fresh" "Jumps.fresh" BR f65 d65)
  (g66:Fm K c_Jumps "four_halfway" "Jumps.four_halfway" AY f66 d66)
  (g67:Fm K c_Jumps "middle_after" "Jumps.middle_after" Cw f67 d67)
  (g68:Fm K c_Jumps "cell_after" "Jumps.cell_after" Cb f68 d68)
  (g43:Fi K c_Amounts "Amounts.__init__" Ew f43 d43)
  (g45:Fi K c_Places "Places.__init__" Fp f45 d45)
  (g47:Fi K c_Clause "Clause.__init__" Fs f47 d47)
  (g49:Fi K c_Grove "Grove.__init__" Gk f49 d49)
  (g59:Fi K c_Rule "Rule.__init__" EU f59 d59)
  (g60:Fi K c_Jumps "Jumps.__init__" Gg f60 d60)
  (z_all:PySem.W.nsIn K mainGlobals "all" = some none)
  (z_bool:PySem.W.nsIn K mainGlobals "bool" = some none)
  (z_enumerate:PySem.W.nsIn K mainGlobals "enumerate" = some none)
  (z_int:PySem.W.nsIn K mainGlobals "int" = some none)
  (z_isinstance:PySem.W.nsIn K mainGlobals "isinstance" = some none)
  (z_len:PySem.W.nsIn K mainGlobals "len" = some none)
  (z_list:PySem.W.nsIn K mainGlobals "list" = some none)
  (z_max:PySem.W.nsIn K mainGlobals "max" = some none)
  (z_min:PySem.W.nsIn K mainGlobals "min" = some none)
  (z_range:PySem.W.nsIn K mainGlobals "range" = some none)
  (z_str:PySem.W.nsIn K mainGlobals "str" = some none)
  (z_tuple:PySem.W.nsIn K mainGlobals "tuple" = some none)
  (z_zip:PySem.W.nsIn K mainGlobals "zip" = some none)
  (g_STATES:PySem.W.nsIn K mainGlobals "STATES" = some (some (.int 8 t_STATES)))
  (g_NEIGHBOURS:PySem.W.nsIn K mainGlobals "NEIGHBOURS" = some (some (.int 8 t_NEIGHBOURS)))
  (g_STATE_FIGURES:PySem.W.nsIn K mainGlobals "STATE_FIGURES" = some (some (.str x_STATE_FIGURES t_STATE_FIGURES)))
  (gx_STATE_FIGURES:x_STATE_FIGURES=Str.ofString "01234567")
  (g_AMOUNT_FIGURES:PySem.W.nsIn K mainGlobals "AMOUNT_FIGURES" = some (some (.str x_AMOUNT_FIGURES t_AMOUNT_FIGURES)))
  (gx_AMOUNT_FIGURES:x_AMOUNT_FIGURES=Str.ofString "012345678")
  (g_ANY_SIGN:PySem.W.nsIn K mainGlobals "ANY_SIGN" = some (some (.str x_ANY_SIGN t_ANY_SIGN)))
  (gx_ANY_SIGN:x_ANY_SIGN=Str.ofString "*")
  (g_TOP_LEVEL:PySem.W.nsIn K mainGlobals "TOP_LEVEL" = some (some (.int 48 t_TOP_LEVEL)))
  (g_LIMIT:PySem.W.nsIn K mainGlobals "LIMIT" = some (some (.int 1099511627776 t_LIMIT)))
  (g_LEAST_LEVEL:PySem.W.nsIn K mainGlobals "LEAST_LEVEL" = some (some (.int 1 t_LEAST_LEVEL)))
  (g_CLAUSE_MARK:PySem.W.nsIn K mainGlobals "CLAUSE_MARK" = some (some (.str x_CLAUSE_MARK t_CLAUSE_MARK)))
  (gx_CLAUSE_MARK:x_CLAUSE_MARK=Str.ofString "; ")
  (g_LEAST_JUMPED:PySem.W.nsIn K mainGlobals "LEAST_JUMPED" = some (some (.int 2 t_LEAST_JUMPED)))
  (z_ValueError:PySem.W.nsIn K mainGlobals "ValueError" = some none)
  (nx_FieldError:PySem.W.nsIn K mainGlobals "FieldError" = some (some (.ref x_FieldError)))
  (nx_NoRule:PySem.W.nsIn K mainGlobals "NoRule" = some (some (.ref x_NoRule)))
  (nx_Restless:PySem.W.nsIn K mainGlobals "Restless" = some (some (.ref x_Restless)))
  (nx_NoSquare:PySem.W.nsIn K mainGlobals "NoSquare" = some (some (.ref x_NoSquare)))
  (nx_NoLevel:PySem.W.nsIn K mainGlobals "NoLevel" = some (some (.ref x_NoLevel)))
  (nx_NoState:PySem.W.nsIn K mainGlobals "NoState" = some (some (.ref x_NoState)))
  (nx_TooFar:PySem.W.nsIn K mainGlobals "TooFar" = some (some (.ref x_TooFar)))
  (nx_NoSteps:PySem.W.nsIn K mainGlobals "NoSteps" = some (some (.ref x_NoSteps)))
  (ec_TooFar:FR K x_TooFar)
  (ec_NoSteps:FR K x_NoSteps)
  (ec_FieldError:FR K x_FieldError)
  (xf_TooFar_0:hasDictIn K x_TooFar=true)
  (xf_TooFar_1:findIn K (.ref x_TooFar) "__getattribute__" = some (some (.builtin "BaseException.__getattribute__")))
  (xf_TooFar_2:findIn K (.ref x_TooFar) "__getattr__" = some none)
  (xf_TooFar_3:findIn K (.ref x_TooFar) "__class__" = some (some (.builtin "object.__class__")))
  (xf_4:specialIn K (.builtin "object.__class__") "__get__" = some (some (.builtin "getset_descriptor.__get__")))
  (xf_5:takesIn K (.builtin "object.__class__")=some true)
  (xf_TooFar_6:mroIn K x_TooFar (.type "object")=some true)
  (xf_TooFar_7:mroIn K x_TooFar (.type "BaseException")=some true)
  (mr_TooFar:mroIn K x_TooFar (.ref x_FieldError)=some true)
  (kv_TooFar:kitOne K (.ref x_TooFar) (.type "ValueError")=some true)
  (ki_TooFar_NoRule:kitOne K (.ref x_TooFar) (.ref x_NoRule)=some false)
  (ki_TooFar_Restless:kitOne K (.ref x_TooFar) (.ref x_Restless)=some false)
  (ki_TooFar_NoSquare:kitOne K (.ref x_TooFar) (.ref x_NoSquare)=some false)
  (ki_TooFar_NoLevel:kitOne K (.ref x_TooFar) (.ref x_NoLevel)=some false)
  (ki_TooFar_NoState:kitOne K (.ref x_TooFar) (.ref x_NoState)=some false)
  (ki_TooFar_TooFar:kitOne K (.ref x_TooFar) (.ref x_TooFar)=some true)
  (ki_TooFar_NoSteps:kitOne K (.ref x_TooFar) (.ref x_NoSteps)=some false)
  (kf_TooFar:kitOne K (.ref x_TooFar) (.ref x_FieldError)=some true)
  (xf_NoSteps_0:hasDictIn K x_NoSteps=true)
  (xf_NoSteps_1:findIn K (.ref x_NoSteps) "__getattribute__" = some (some (.builtin "BaseException.__getattribute__")))
  (xf_NoSteps_2:findIn K (.ref x_NoSteps) "__getattr__" = some none)
  (xf_NoSteps_3:findIn K (.ref x_NoSteps) "__class__" = some (some (.builtin "object.__class__")))
  (xf_NoSteps_6:mroIn K x_NoSteps (.type "object")=some true)
  (xf_NoSteps_7:mroIn K x_NoSteps (.type "BaseException")=some true)
  (mr_NoSteps:mroIn K x_NoSteps (.ref x_FieldError)=some true)
  (kv_NoSteps:kitOne K (.ref x_NoSteps) (.type "ValueError")=some true)
  (ki_NoSteps_NoRule:kitOne K (.ref x_NoSteps) (.ref x_NoRule)=some false)
  (ki_NoSteps_Restless:kitOne K (.ref x_NoSteps) (.ref x_Restless)=some false)
  (ki_NoSteps_NoSquare:kitOne K (.ref x_NoSteps) (.ref x_NoSquare)=some false)
  (ki_NoSteps_NoLevel:kitOne K (.ref x_NoSteps) (.ref x_NoLevel)=some false)
  (ki_NoSteps_NoState:kitOne K (.ref x_NoSteps) (.ref x_NoState)=some false)
  (ki_NoSteps_TooFar:kitOne K (.ref x_NoSteps) (.ref x_TooFar)=some false)
  (ki_NoSteps_NoSteps:kitOne K (.ref x_NoSteps) (.ref x_NoSteps)=some true)
  (kf_NoSteps:kitOne K (.ref x_NoSteps) (.ref x_FieldError)=some true)
  (mm_TooFar_TooFar:mroIn K x_TooFar (.ref x_TooFar)=some true)
  (mm_NoSteps_TooFar:mroIn K x_NoSteps (.ref x_TooFar)=some false)
  (mm_NoSteps_NoSteps:mroIn K x_NoSteps (.ref x_NoSteps)=some true)
  : ∃fd:FuncData,(∀(s:Shared)(v:Value),BindsTo s fd ⟨[v],[]⟩ [("_law_script",v)])/\∀base:Heap,K.In base->base.Ns mainGlobals mg->AJ l.prog w K mg base CX0 153 fa fd ["_law_script"] (SB K):=by
 have e:=hfa.symm.trans (V7 X G g42.at_);cases e;have no:∀{x:Str},PySem.W.nsIn K mainGlobals x=some none->mg x=none:=λz=>PySem.W.mg_none_of X G z;subst gx_CLAUSE_MARK;subst gx_ANY_SIGN;subst gx_AMOUNT_FIGURES;subst gx_STATE_FIGURES;have T:Top K mg (⟨c_Amounts,c_Places,c_Clause,c_Grove,c_Rule,c_Jumps,x_FieldError,x_NoRule,x_Restless,x_NoSquare,x_NoLevel,x_NoState,x_TooFar,x_NoSteps⟩:Ad):=⟨no z_all,no z_bool,no z_enumerate,no z_int,no z_isinstance,no z_len,no z_list,no z_max,no z_min,no z_range,no z_str,no z_tuple,no z_zip,⟨t_STATES,V7 X G g_STATES⟩,⟨t_NEIGHBOURS,V7 X G g_NEIGHBOURS⟩,⟨t_STATE_FIGURES,V7 X G g_STATE_FIGURES⟩,⟨t_AMOUNT_FIGURES,V7 X G g_AMOUNT_FIGURES⟩,⟨t_ANY_SIGN,V7 X G g_ANY_SIGN⟩,⟨t_TOP_LEVEL,V7 X G g_TOP_LEVEL⟩,⟨t_LIMIT,V7 X G g_LIMIT⟩,⟨t_LEAST_LEVEL,V7 X G g_LEAST_LEVEL⟩,⟨t_CLAUSE_MARK,V7 X G g_CLAUSE_MARK⟩,⟨t_LEAST_JUMPED,V7 X G g_LEAST_JUMPED⟩,V7 X G cH,q_Amounts,na_Amounts_state,na_Amounts_numbers,V7 X G cJ,q_Places,na_Places_wanted,V7 X G cK,q_Clause,na_Clause_cell,na_Clause_conditions,na_Clause_makes,V7 X G cO,q_Grove,na_Grove_levels,na_Grove_parts,na_Grove_numbers,na_Grove_bares,na_Grove_amounts,na_Grove_boxes,V7 X G cP,q_Rule,na_Rule_text,na_Rule_clauses,V7 X G cN,q_Jumps,na_Jumps_grove,na_Jumps_memories,na_Jumps_rule,na_Jumps_known_squares,na_Jumps_known_cells,no z_ValueError,V7 X G nx_FieldError,V7 X G nx_NoRule,V7 X G nx_Restless,V7 X G nx_NoSquare,V7 X G nx_NoLevel,V7 X G nx_NoState,V7 X G nx_TooFar,V7 X G nx_NoSteps,ec_TooFar,ec_NoSteps,ec_FieldError,⟨xf_TooFar_0,xf_TooFar_1,xf_TooFar_2,xf_TooFar_3,xf_4,xf_5,xf_TooFar_6,xf_TooFar_7⟩,mr_TooFar,kv_TooFar,ki_TooFar_NoRule,ki_TooFar_Restless,ki_TooFar_NoSquare,ki_TooFar_NoLevel,ki_TooFar_NoState,ki_TooFar_TooFar,ki_TooFar_NoSteps,kf_TooFar,⟨xf_NoSteps_0,xf_NoSteps_1,xf_NoSteps_2,xf_NoSteps_3,xf_4,xf_5,xf_NoSteps_6,xf_NoSteps_7⟩,mr_NoSteps,kv_NoSteps,ki_NoSteps_NoRule,ki_NoSteps_Restless,ki_NoSteps_NoSquare,ki_NoSteps_NoLevel,ki_NoSteps_NoState,ki_NoSteps_TooFar,ki_NoSteps_NoSteps,kf_NoSteps,mm_TooFar_TooFar,mm_NoSteps_TooFar,mm_NoSteps_NoSteps⟩
 refine⟨d42,λs v=>(by obtain⟨_,_,_,_,_,_,_,_,_,rfl,_⟩:=g42.fn.ex;exact .of_eq rfl),λbase _ _=>?_⟩;have cal:∀{CX:CXT}{k:Nat}{x:Str}{st:Stmt}{f:Addr}{fd:FuncData}{ps:List Str}{sp:Sp},Fg K x st f fd->AJ l.prog w K mg base CX k f fd ps sp->Cu K fd ps []->Cal l.prog w K mg base CX k x ps sp:=λF o b=>⟨_,_,o,V7 X G F.at_,F.fn.kp,b⟩
 have calm:∀{CX:CXT}{k:Nat}{C:Addr}{x q:Str}{st:Stmt}{f:Addr}{fd:FuncData}{ps:List Str}{sp:Sp},Fm K C x q st f fd->Cls K C->AJ l.prog w K mg base CX k f fd ps sp->Cu K fd ps []->BK l.prog w K mg base CX k C x ps sp:=λF c o b=>⟨⟨_,_,o,F.me,b⟩,c⟩
 have calc':∀{CX:CXT}{k:Nat}{C:Addr}{x q:Str}{st:Stmt}{f:Addr}{fd:FuncData}{ps:List Str}{sp:Sp},Fi K C q st f fd->mg x=some (.ref C)->AJ l.prog w K mg base CX k f fd ps sp->Cu K fd ps []->PU l.prog w K mg base CX k x C ps sp:=λF m o b=>⟨_,_,o,F.mk_,m,b⟩
 have aC:=cal (k:=1) (sp:=UU) g0 (ok_iw g0.fn T) (bnd g0.fn);have aY:=cal (k:=2) (sp:=spIS) g1 (ok_is g1.fn T aC) (bnd g1.fn);have aO:=calm (k:=1) (sp:=(ON _)) g50 q_Grove (ok_kept g50.fn T) (bnd g50.fn);have cG:=calc' (k:=2) (sp:=(OQ _)) g49 T.m_Grove (Vu g49.fn T aO) (bnd g49.fn)
 have a6:=calm (k:=2) (sp:=(DV _)) g51 q_Grove (ok_link g51.fn T aO) (bnd g51.fn);have aA:=calm (k:=2) (sp:=(SC _)) g52 q_Grove (ok_chk g52.fn T aC) (bnd g52.fn);have aN:=calm (k:=3) (sp:=(OM _)) g53 q_Grove (ok_leaf g53.fn T aY) (bnd g53.fn);have a7:=calm (k:=3) (sp:=(LO _)) g54 q_Grove (ok_lev g54.fn T aA) (bnd g54.fn);have aW:=calm (k:=4) (sp:=(UK _)) g55 q_Grove (ok_sta g55.fn T a7) (bnd g55.fn);have aG:=cal (k:=1) (sp:=Jr) g10 (Vm g10.fn T) (bnd g10.fn);have aV:=cal (k:=1) (sp:=Md) g11 (Vr g11.fn T) (bnd g11.fn);have aT:=calm (k:=100) (sp:=(Qh _ 49)) g57 q_Grove (Vy g57.fn g58.fn T g57.me (bnd g57.fn) g58.me (bnd g58.fn) aG aV 49) (bnd g57.fn);have bL:=calm (k:=101) (sp:=(Rp _)) g56 q_Grove (ok_span g56.fn T aA aT) (bnd g56.fn);have aB:=cal (k:=1) (sp:=Qg) g12 (ok_lie g12.fn T) (bnd g12.fn);have aH:=cal (k:=4) (sp:=(Iy _)) g13 (Vo g13.fn T a7) (bnd g13.fn);have b9:=cal (k:=4) (sp:=(Sy _)) g15 (ok_wid g15.fn T a7 a6) (bnd g15.fn);have bR:=cal (k:=3) (sp:=(UR _)) g17 (ok_mid g17.fn T a6) (bnd g17.fn);have aZ:=cal (k:=1) (sp:=(spBA _)) g18 (ok_ba g18.fn T) (bnd g18.fn);have aM:=cal (k:=4) (sp:=(Mq _)) g16 (ok_trim g16.fn T a7 aZ bR) (bnd g16.fn);have bC:=cal (k:=5) (sp:=(spWO _)) g19 (ok_wo g19.fn T aB aH b9) (bnd g19.fn);have aQ:=cal (k:=1) (sp:=(Mf _)) g14 (Vz g14.fn T) (bnd g14.fn);have bD:=cal (k:=54) (sp:=(Sz _ 50)) g22 (Vn g22.fn T (V7 X G g22.at_) (bnd g22.fn) aN a6 50) (bnd g22.fn);have bY:=cal (k:=55) (sp:=(OJ _)) g21 (Vq g21.fn T aB aY aH bC bD aM) (bnd g21.fn);have bN:=cal (k:=56) (sp:=(UV _)) g23 (ok_fld g23.fn T aQ bY) (bnd g23.fn);have bW:=cal (k:=102) (sp:=(OR _)) g24 (Vx g24.fn T bL aH aG) (bnd g24.fn);have bT:=cal (k:=1) (sp:=Mc) g2 (Vl g2.fn) (bnd g2.fn);have bZ:=calc' (k:=1) (sp:=(Mu _)) g43 T.m_Amounts (TK g43.fn T) (bnd g43.fn)
 have cC:=calc' (k:=1) (sp:=(Mr _)) g45 T.m_Places (TH g45.fn T) (bnd g45.fn)
 have cD:=calc' (k:=1) (sp:=(Mt _)) g47 T.m_Clause (TJ g47.fn T) (bnd g47.fn)
 have cA:=calm (k:=1) (sp:=(Lb _)) g44 q_Amounts (RB g44.fn T) (bnd g44.fn);have cB:=calm (k:=2) (sp:=(La _)) g46 q_Places (RA g46.fn T bT) (bnd g46.fn);have bI:=calm (k:=3) (sp:=(Rs _)) g48 q_Clause (ok_Fits g48.fn T bT cA cB) (bnd g48.fn);have bV:=cal (k:=4) (sp:=(UW _)) g31 (ok_dec g31.fn T bI) (bnd g31.fn);have bA:=cal (k:=5) (sp:=(SE _)) g32 (ok_bec g32.fn T bV) (bnd g32.fn);have aI:=cal (k:=1) (sp:=UM) g4 (ok_rs g4.fn T) (bnd g4.fn);have aR:=cal (k:=2) (sp:=spRW) g5 (ok_rw g5.fn T aI) (bnd g5.fn);have bE:=cal (k:=1) (sp:=spRN) g8 (ok_rn g8.fn T) (bnd g8.fn);have bF:=cal (k:=3) (sp:=(UP _)) g7 (ok_ram g7.fn T aI bE bZ) (bnd g7.fn);have bJ:=cal (k:=3) (sp:=(UN _)) g9 (ok_rpl g9.fn T aR cC) (bnd g9.fn);have aX:=cal (k:=4) (sp:=(OI _)) g6 (Vp g6.fn T bF bJ) (bnd g6.fn);have bK:=cal (k:=5) (sp:=(spRC _)) g3 (ok_rc g3.fn T aI aR aX cD) (bnd g3.fn);have bG:=cal (k:=1) (sp:=spCT) g29 (ok_ct g29.fn T) (bnd g29.fn);have cM:=calc' (k:=6) (sp:=(spRI _)) g59 T.m_Rule (ok_ri g59.fn T bG bK) (bnd g59.fn)
 have bQ:=cal (k:=8) (sp:=(spRR _)) g30 (ok_rr g30.fn T cM bA) (bnd g30.fn);have bM:=cal (k:=1) (sp:=(Rq _)) g33 (ok_show g33.fn T) (bnd g33.fn);have bB:=calm (k:=2) (sp:=(UX _)) g61 q_Jumps (ok_chg g61.fn T bM) (bnd g61.fn);have cF:=calc' (k:=3) (sp:=(OO _)) g60 T.m_Jumps (Vs g60.fn T bB) (bnd g60.fn)
 have aE:=calm (k:=6) (sp:=(SD _)) g68 q_Jumps (ok_cel g68.fn T aW aN bA) (bnd g68.fn);have a9:=calm (k:=7) (sp:=(OL _)) g67 q_Jumps (ok_mid2 g67.fn T a6 aE) (bnd g67.fn);have aJ:=cal (k:=3) (sp:=(Ms _)) g34 (ok_nine g34.fn T a6) (bnd g34.fn);have aP:=cal (k:=1) (sp:=Js) g35 (Vv g35.fn T) (bnd g35.fn);have aD:=cal (k:=3) (sp:=(SA _)) g36 (ok_met g36.fn T a6) (bnd g36.fn);have a8:=calm (k:=148) (sp:=(Fd _ 46)) g64 q_Jumps (SM g64.fn g66.fn g65.fn T g64.me (bnd g64.fn) g66.me (bnd g66.fn) g65.me (bnd g65.fn) a9 a6 aJ aP aD 46) (bnd g64.fn);have aU:=calm (k:=4) (sp:=(spCj _)) g63 q_Jumps (ok_cj g63.fn T a7 aC) (bnd g63.fn);have b6:=calm (k:=149) (sp:=(Fd _ 46)) g62 q_Jumps (TF g62.fn T A3 aU a8) (bnd g62.fn);have aC:=cal (k:=1) (sp:=UT) g0 (ok_iwx g0.fn T) (bnd g0.fn);have b8:=cal (k:=103) (sp:=(UY _)) g27 (ok_chl g27.fn T aC bW aB) (bnd g27.fn);have bH:=cal (k:=5) (sp:=(US _)) g28 (ok_lvf g28.fn T aH) (bnd g28.fn);have b7:=cal (k:=5) (sp:=(spWT _)) g20 (ok_wt g20.fn T a7 b9) (bnd g20.fn);have bU:=cal (k:=150) (sp:=(Fc _)) g26 (ok_road g26.fn T b8 aQ bH b7 b6 aM) (bnd g26.fn);have cL:=cal (k:=151) (sp:=(Fe _)) g25 (ok_jump g25.fn T bU aM) (bnd g25.fn);have aF:=cal (k:=1) (sp:=(spAt K)) g37 (ok_at g37.fn T) (bnd g37.fn);have bO:=cal (k:=1) (sp:=UQ) g38 (ok_plc g38.fn T) (bnd g38.fn);have aK:=cal (k:=152) (sp:=(spSd _ (Fe _))) g39 (ok_sd g39.fn T A3 cL) (bnd g39.fn);have aS:=cal (k:=151) (sp:=(UL _ (Fc _))) g40 (ok_rdl g40.fn T A3 bU) (bnd g40.fn);have bS:=cal (k:=1) (sp:=spBi) g41 (ok_bi g41.fn T) (bnd g41.fn);exact ok_law g42.fn T cG aF bO bN bQ cF aK aS bS
theorem walk{l:PySem.W.OpenLaw}{q:Program}{loose:List Str}{XP:(Str->Option Value)->Heap->Prop}{YP:World->Heap->Prop}{d:DefRec}{K:Params->PySem.W.Frag}(hn:l.most=some 63)(hdf:d.params.defaults=[])
  (hY:∀(w:World)(h:Heap),YP w h->(K w.params).In h)
  (F:∀(w:World)(mg:Str->Option Value)(fa:Addr)(h:Heap),(K w.params).In h->h.Ns mainGlobals mg->mg d.name=some (.ref fa) ->
   ∃fd:FuncData,(∀(s:Shared)(u:Value),BindsTo s fd ⟨[u],[]⟩ [("_law_script",u)])/\∀base:Heap,(K w.params).In base->base.Ns mainGlobals mg->AJ l.prog w (K w.params) mg base CX0 153 fa fd ["_law_script"] (SB (K w.params))) :
  PySem.W.WalkO q loose XP YP l.row.toRowW d [] (λf vs=>PySem.call f vs) :=
 L2.Sl (n:=63) (k:=153) (x:="_law_script") (CX:=λ_=>CX0) (sp:=λw=>SB (K w.params)) hn A3 hdf ⟨rfl,by decide,by decide⟩ hY F (λ_ _ a ns hl _ hS=>⟨a,ns,rfl,hS,hl,λ_=>rfl⟩) λ_ _ _ _ _ z=>z
end J
structure PySem.W.Fast:Prop where(tw5293489181726955090 tw10827565478529162767 tw16405031448321683896 tw17764558973883640388 tw15620130446956609658 tw13193530875918796163 tw3313337427086638044 tw11204213171766952138 tw15901138945527426750 tw17359617717057989824 tw4903839356097815113 tw13242415822620260593 tw548649045439117011 tw13759505199959793030 tw15249210333867810013 tw1736144264009517112 tw9318214943605426705 tw5028213875481521977 tw5866470965817904126 tw13810153669455115071 tw17362118442151202467 tw3750307779573612746 tw13202607847213270421 tw835487307365091724 tw15229861766729681837 tw16506606044551525167 tw13201204656923807745 tw8205306992026543090 tw15451853592316328318 tw15854159439853034972 tw16949405977659867977 tw5032913571757698563 tw14006586244233317306 tw2398441233965863364 tw13527464373625839235 tw14880858861854121992 tw10211085515902405932 tw3507013507675900159 tw6999219943314829594 tw11759429440166994828 tw607527523772205674 tw14423523029005809638 tw15118747083915875345 tw3816224476594512713 tw3982027598194491072 tw807054228779989882 tw15416887895717781735 tw4234325281241170399 tw9188356231428072945 tw922491157942460875 tw16601202429871793102 tw2243398912112546138 tw8290576175932998425 tw4559323512982028340 tw15106435373359376203 tw8377044957996758522 tw16792319510299128919 tw3434989186841343189 tw9117907344991626510 tw8303919322391093090 tw5866816507033435016 tw2853845699370104155 tw3071437544546416917 tw6478226885205216802 tw9205919381975797933 tw16481771420729114805 tw11216120785508123027 tw16332625438381366490 tw10544113346685894032 tw9350030214081255838 tw5279284733562897108 tw15100328608756672621 tw13525297800112093621 tw10898570301038577044 tw7815638579320500868 tw15949489572035464673 tw12629656004463286806 tw18249616071347490294 tw8481456482618293595 tw3470117682754481076 tw9773266511402582116 tw6448640351765466680 tw9997488386719477558 tw13334605375918997741 tw18275804449468020453 tw4494349812845624463 tw12874623281109170938 tw15971425782496730195 tw9720468675503276087 tw6236752167602080451 tw17201983100880088001 tw14323193933057368408 tw17640428957364845326 tw11362485664686422028 tw5927543215243394065 tw361411941419641175 tw12006217026344621918 tw324385815713339179 tw18061236927937963827 tw18096275446821322839 tw480768680696367261 tw1453288721873784024 tw2113286803005216733 tw1235168851515698160 tw17803464957984363371 tw12413313038098625645 tw3373431134050320904 tw9718150907296777007 tw14611968900051452923 tw18314856204906815604 tw16662034274957306734 tw11672239575897968420 tw10507562089116048673 tw5876030082809098357 tw14196532040628189719 tw1203398241074196477 tw17091386979248494921 tw10823354708257920883 tw9973663863288230325 tw16384335248520206045 tw2321316629882093453 tw15129990561843174249 tw831810251265100323 tw1687336460266785135 tw163860252693864731 tw13651809143308267163 tw12800344075932562815 tw5244663078235215272 tw6038912800055093510 tw12675810338760763452 tw2740578437600045973 tw5742435435800341377 tw16683161944008367482 tw1213492227366985952 tw357536071812523715 tw10325495290112049457 tw2066493547628202094 tw16212454111558097234 tw18325744046380693608 tw16866454559685286438 tw283619842285229624 tw5685555943118316122 tw15936521784746595234 tw16848728775248528690 tw3366928730164266461 tw12195260218310636982 tw12558680180209582148 tw13759437053428933667 tw7015714062847225491 tw11338801310931565146 tw15573804617709200503 tw16523509574299572525 tw3022343843498505475 tw14607331035632828909 tw7834895176791233833 tw18104215480986126339 tw6580727689561660456 tw17301856697836114890 tw12295787555468836042 tw18048473164564657932 tw7292407041087292038 tw922167951357474172 tw6278980095005609701 tw13288590760795301756 tw7242368594968404442 tw4478654592299771046 tw1199432715284650646 tw12115718074079055036 tw4646991788827692704 tw1987532119862731651 tw15725356131970009380 tw12431334445779838779 tw4437096876284890607 tw13478208087151163363 tw489357167091216699 tw12592105228692138288 tw10306692221164970871 tw1850621157977213448 tw8327979159903101309 tw9145578036883489368 tw8147785850877944692 tw942596151824955054 tw13309329553839929928 tw4188812366215657685 tw9899497544547609954 tw2947133359083475476 tw16112325267901369041 tw3339856870032254255 tw6518660259579184716 tw11466798678240664742 tw977992753554310310 tw7326575686368126106 tw14671767280778202995 tw3927029112211915095 tw280020999226878575 tw14998399020014822933 tw16677270903565149173 tw14317750240893600181 tw12615295737101214720 tw17745637230084636186 tw10293318825910627961 tw8902947905932717024 tw17238397716661919940 tw9387364742475711707 tw699603065000273925 tw5459268555279992570 tw2971739606217564754 tw14796022834518274908 tw2686292447919241318 tw17218313602219756519 tw13480738832528164557 tw3078818710533250562 tw2230693125310799213 tw16648201668260832210 tw9942860999037282618 tw8846167806486887961 tw1914922852728034029 tw3489774840540202653 tw11510493310220649785 tw666801824268866854 tw17222628108759852977 tw7733837676190488246 tw11613302242535144870 tw7251090450564791652 tw3957012008744757352 tw7460267350656434689 tw10108422798501859156 tw71602189865488558 tw16792972666808811588 tw16832418834315158786 tw14524749268349863558 tw9243506022914419103 tw13604448540276044339 tw11057740112255235148 tw9714648844759800782 tw16608457188369815310 tw9130866124943088958 tw16894215679983135530 tw5897945970281103332 tw1942377607086477594 tw13516562361801463871 tw12439269943407899482 tw17309335669639660670 tw11079181025403141322 tw5061670868074186122 tw8681092795779416779 tw2134825287217507181 tw2680230613688245997 tw1828713813690883541 tw6810669704071666038 tw13848567824919313501 tw15657253036321441721 tw7211314325935239664 tw4541059013496506069 tw16534048528048458189 tw16731551830580378380 tw16138703915066550711 tw12448441568781959492 tw16845152880869517074 tw8623555363044104034 tw16355834372961461366 tw14667713595331141345 tw14389667689888728973 tw14033640848551206569 tw2523045529952027067 tw1147942784889649377 tw12183272867112267229 tw16753530885167677175 tw14765332667278485322 tw7438587797029383366 tw1027571323991897340 tw9420491279718918330 tw2497256070586227299 tw4609326550585255855 tw3049764469754120653 tw106809815456574403 tw18363279745258137340 tw15426748573172824173 tw13356178682016211552 tw5524320805574363465 tw1232488133773377347 tw1491797017540223337 tw15351436876864254639 tw15370488868439186303 tw8734721966737262524 tw17237078105242353554 tw8991374505718281224 tw14843634660664278603 tw9440916895623660176 tw3406585332066322684 tw15047993786065709656 tw1658905610805875716 tw8963018218485986603 tw16264704515908557703 tw16843282752129214361 tw16389711354011007699 tw16327832542192430240 tw1031008976990293020 tw6456077867877781624 tw11692707021675625140 tw16920615281426295337 tw13232293366510083556 tw14462565573273870026 tw17682776282062873168 tw1286241466303180051 tw16104765788506764749 tw13249824126091296904 tw14394392694110484365 tw9822967103345606856 tw1233539122571217137 tw2459690985566205936 tw15050623823454207099 tw6813559109642432138 tw5461933088854043867 tw16648022923020908221 tw11373558366824481366 tw14501547989713075884 tw13127956338102778360 tw12592096442149631151 tw4814068636854748487 tw14234665216156437608 tw6351484849668071433 tw13658908985932049938 tw16021541088791801462 tw5382335710207826481 tw3929144928396614098 tw14071023341275118531 tw11407763475372755295 tw5667036745237856653 tw4867205273435896400 tw12030127229438758525 tw10305354279080739947 tw14568246593480660401 tw1170562155803463470 tw5701232553272793423 tw15375847299982941828 tw7356142597408209392 tw7782599175283302248 tw6249999236086830268 tw9228948833466910346 tw8664202911323449051 tw17885232840992001626 tw12320846756898944944 tw10827743691802859571 tw11944270000406791438 tw12871551541752576962 tw15440634959930473717 tw16067438958223457970 tw4186944273576798423 tw6238607697282665203 tw14068078189578093732 tw16561020820981543729 tw9322271537018767115 tw3870636937962972265 tw3002883429839021998 tw12260555955182739489 tw5024215867738842549 tw6813879898213446539 tw5397321275999545581 tw12481309856725128803 tw11117226302989231689 tw13768155533519869498 tw18112540087591277783 tw8266756243390178629 tw6188959175909021983 tw7195202264115371768 tw15375228056032798834 tw10559761274607402538 tw14345820088489917389 tw16600584272159963563 tw5693010122734775421 tw10804076448659678418 tw9255583064265852653 tw2662180564397608993 tw4140528408555620374 tw3633206113871295447 tw1144604228012787081 tw15738710868159376413 tw10766856222397230610 tw6011598574896516627 tw3736590648084455638 tw5948842794663515278 tw17490689595300641312 tw12809051128224949749 tw655994687210511485 tw18326298382812154591 tw13969110967376264255 tw10710168409767948117 tw14640685364916785608 tw785379811536495406 tw15820408035995434876 tw2031108777904340348 tw6508103996442871720 tw2135852534370917345 tw7296726066039145206 tw8852042022649710255 tw13012092211088670152 tw2055764016059114194 tw14803144577294613800 tw6190093428016807200 tw7772466781721090631 tw656035783474966381 tw14963986307522667219 tw11953163711034189604 tw8616159448128451647 tw4942997005455832568 tw3693513465937057172 tw12912449308278990204 tw14313701285214604450 tw10409460899397976013 tw12901006659536980161 tw9724565150985811825 tw7395147508821124834 tw14211289237461885570 tw13794100954944825918 tw1054655529546834993 tw1846588572795809328 tw10714609922420812715 tw16837662302586075114 tw2985566802264693226 tw11882577690932621016 tw11898092681295912183 tw11681032695269786858 tw13047569956599178025 tw5979818502210352556 tw12497060866419326109 tw12315398017906154335 tw2874808759614749361 tw8549145622233412739 tw5528703056744026073 tw7603035103161105266 tw1231171741068542860 tw5360761186862877070 tw2715095094960725930 tw12096667086605051514 tw14508746522528212376 tw13873255295633457087 tw12623338917022734963 tw3846854946359413927 tw1341446294566746780 tw11447802593909870118 tw13542505476656768219 tw7573909692692372216 tw224759310186645990 tw2162741320190709183 tw16650189169829392692 tw1516567132977848213 tw3189723416323939034 tw616277094901166299 tw980316540073250475 tw9993473750172498623 tw3645378372293511520 tw12135073173905411097 tw10690569911501415315 tw10651534169838941445 tw13829446069174763467 tw13625175074495406983 tw8423451057634189307 tw6235417596727305602 tw6209970614472064596 tw14329496851996531476 tw4406307327144794297 tw16079661477184743133 tw14595152497454374845 tw3918705410714510056 tw1404983770750326435 tw1367680528882540934 tw1837703054940609274 tw3905806974509572373 tw919383320383465897 tw11897465396763964831 tw9971553248434788239 tw14506810554884424365 tw10216706887807856578 tw12106697344481620485 tw13102154159086370106 tw13004364621355995518 tw5889449602076780607 tw8677747020850111282 tw7311106639278967098 tw12242666385234444765 tw6378620615554535630 tw12560167043781464803 tw3911780610088552185 tw6039252849544276032 tw8601377939202847894 tw2570611898847656131 tw6228851771362946699 tw2114003876556424636 tw2419792496262802577 tw17495947679796694092 tw8802141981900031073 tw2589843942843760143 tw16854134147403203567 tw9062335817302176400 tw17005861951121024939 tw13197532019890288729 tw4310009883998295055 tw12794271901304598853 tw3955293397054350714 tw5547598984314293339 tw14932078727659927634 tw17762462825071210012 tw15066342476488559003 tw7331560783247843337 tw5547001061867013889 tw16487866553529877149 tw4863507008480861362 tw11633225522174787193 tw11621716302701013475 tw6371289702147854209 tw12996525471201724895 tw12269755961214188639 tw12668707446992538165 tw5922373108651634699 tw13298914575217146458 tw11048528532890479904 tw7547984328776184788 tw3520311792729111522 tw15579582403494573264 tw17966290713556228654 tw8127268656988271108 tw4840993873661938836 tw6141998559924663930 tw1788303749604422859 tw16076636706358229387:True)
open PySem PySem.W PyProof.Rows
set_option maxRecDepth 100000 in
set_option maxHeartbeats 0 in
theorem PySem.Challenge.cw_jumpfield_k64_steps_refused_holds : PySem.Challenge.rw_jumpfield_k64_steps_refused.Holds := by
 w_on; o_law; k_head; (case hw=>w_witness2)
 k_fill
 refine J.walk (l:=PySem.Challenge.rw_jumpfield_k64_steps_refused) rfl rfl (fun w h Y=>PySem.W.kIn_of Y) ?F
 case F =>
  intro w mg fa h KX G hmg;refine' J.fin KX G hmg ?h0 ?h1 ?h2 ?h3 ?h4 ?h5 ?h6 ?h7 ?h8 ?h9 ?h10 ?h11 ?h12 ?h13 ?h14 ?h15 ?h16 ?h17 ?h18 ?h19 ?h20 ?h21 ?h22 ?h23 ?h24 ?h25 ?h26 ?h27 ?h28 ?h29 ?h30 ?h31 ?h32 ?h33 ?h34 ?h35 ?h36 ?h37 ?h38 ?h39 ?h40 ?h41 ?h42 ?h43 ?h44 ?h45 ?h46 ?h47 ?h48 ?h49 ?h50 ?h51 ?h52 ?h53 ?h54 ?h55 ?h56 ?h57 ?h58 ?h59 ?h60 ?h61 ?h62 ?h63 ?h64 ?h65 ?h66 ?h67 ?h68 ?h69 ?h70 ?h71 ?h72 ?h73 ?h74 ?h75 ?h76 ?h77 ?h78 ?h79 ?h80 ?h81 ?h82 ?h83 ?h84 ?h85 ?h86 ?h87 ?h88 ?h89 ?h90 ?h91 ?h92 ?h93 ?h94 ?h95 ?h96 ?h97 ?h98 ?h99 ?h100 ?h101 ?h102 ?h103 ?h104 ?h105 ?h106 ?h107 ?h108 ?h109 ?h110 ?h111 ?h112 ?h113 ?h114 ?h115 ?h116 ?h117 ?h118 ?h119 ?h120 ?h121 ?h122 ?h123 ?h124 ?h125 ?h126 ?h127 ?h128 ?h129 ?h130 ?h131 ?h132 ?h133 ?h134 ?h135 ?h136 ?h137 ?h138 ?h139 ?h140 ?h141 ?h142 ?h143 ?h144 ?h145 ?h146 ?h147 ?h148 ?h149 ?h150 ?h151 ?h152 ?h153 ?h154 ?h155 ?h156 ?h157 ?h158 ?h159 ?h160 ?h161 ?h162 ?h163 ?h164 ?h165 ?h166 ?h167 ?h168 ?h169 ?h170 ?h171 ?h172 ?h173 ?h174 ?h175
  (case h0 | h1 | h2 | h3 | h4 | h5=>k_is)
  (case h6 | h7 | h8 | h9 | h10 | h11=>(refine' ⟨?_,?_,?_,?_⟩<;>k_is))
  (case h12 | h13 | h14 | h15 | h16 | h17 | h18 | h19 | h20 | h21 | h22 | h23 | h24 | h25 | h26 | h27 | h28 | h29 | h30=>k_is)
  (case h31 | h32 | h33 | h34 | h35 | h36 | h37 | h38 | h39 | h40 | h41 | h42 | h43 | h44 | h45 | h46 | h47 | h48 | h49 | h50 | h51 | h52 | h53 | h54 | h55 | h56 | h57 | h58 | h59 | h60 | h61 | h62 | h63 | h64 | h65 | h66 | h67 | h68 | h69 | h70 | h71 | h72 | h73=>(apply J.Fg.mk; k_is; apply L2.RV<;>k_is))
  (case h74 | h75 | h76 | h77 | h78 | h79 | h80 | h81 | h82 | h83 | h84 | h85 | h86 | h87 | h88 | h89 | h90 | h91 | h92 | h93=>(apply J.Fm.mk; (apply L2.NP.mk<;>k_is); apply L2.RV<;>k_is))
  (case h94 | h95 | h96 | h97 | h98 | h99=>(apply J.Fi.mk; (apply L2.Mk.mk<;>k_is); apply L2.RV<;>k_is))
  (case h100 | h101 | h102 | h103 | h104 | h105 | h106 | h107 | h108 | h109 | h110 | h111 | h112 | h113 | h114 | h115=>k_is)
  (case h116=>decide +kernel)
  (case h117=>k_is)
  (case h118=>decide +kernel)
  (case h119=>k_is)
  (case h120=>decide +kernel)
  (case h121 | h122 | h123 | h124=>k_is)
  (case h125=>decide +kernel)
  (case h126 | h127 | h128 | h129 | h130 | h131 | h132 | h133 | h134 | h135=>k_is)
  (case h136 | h137 | h138=>(show PySem.W.excIn _ _ _ _=true; k_exc))
  (case h139 | h140 | h141 | h142 | h143 | h144 | h145 | h146 | h147=>k_is)
  (case h148 | h149 | h150 | h151 | h152 | h153 | h154 | h155 | h156=>kit_is)
  (case h157 | h158 | h159 | h160 | h161 | h162 | h163=>k_is)
  (case h164 | h165 | h166 | h167 | h168 | h169 | h170 | h171 | h172=>kit_is)
  (case h173 | h174 | h175=>k_is)
