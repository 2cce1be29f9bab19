import PyProof.Rows.All
import Wide.All
import OpenK.AllK
import Wide.FinOn
import Lean
import PyProof.EqAt
import PyProof.EqKinds
import PyProof.TupleCall
import PyProof.Rows.CatFin
import PyProof.StrLawsIn
import KE.IntTextLaws
import KE.IntTextText
import PyProof.SumAny
import PyProof.SeqI3
import PyProof.WalkInts
import PyProof.NeKinds
import KE.KDictLaws
import PyProof.DictIter
import PyProof.DictWalks
import PyProof.Rows.DictUnroll
import KE.KSortTup
import KE.KDictSum
import PyProof.StrLawsTight
import PyProof.StrLawsChain
import PyProof.Rows.StrLawsPart
import PyProof.Rows.StrFirst
import PyProof.Rows.ReprOcc
import PyProof.Rows.StrItems
import KE.KSortKey
import PyProof.Rows.SortRuns
import PySem.Challenge.RW_jumpfield_k53_reasons_walked
set_option Elab.async false
set_option linter.all false
set_option maxRecDepth 100000
set_option maxHeartbeats 8000000
theorem A0{p:Prop}(h:p:=by decide +kernel):p:=h
theorem A1{p:Prop}(h:p:=by lia):p:=h
theorem A2{p:Prop}(h:p:=by intro z; cases z):p:=h
theorem A3{p:Prop}(h:p:=by decide):p:=h
theorem A6{p:Prop}(h:p:=by intro _ z; cases z):p:=h
theorem B0{p:Prop}(h:p:=by omega):p:=h
theorem B1{p:Prop}(h:p:=by simp):p:=h
theorem B2{p:Prop}(h:p:=by intro _ _ _ z; cases z):p:=h
theorem B3{p:Prop}(h:p:=by show (0:Int) < 4; decide):p:=h
theorem B4{p:Prop}(h:p:=by show 0 < 1000; decide):p:=h
theorem B5{p:Prop}(h:p:=by show 1 < 1000; decide):p:=h
abbrev B6:=@List.length_map
abbrev B7:=@List.getElem?_eq_some_iff
abbrev B8:=@List.length_append
abbrev B9:=@List.getElem?_map
abbrev C0:=@List.map_append
abbrev C6:=@List.getElem?_eq_getElem
abbrev C7:=@List.mem_singleton
abbrev C8:=@Nat.le_refl
abbrev C9:=@Array.getElem?_eq_getElem
abbrev D0:=@PySem.Heap.get?_push_of_some
abbrev D1:=@List.mem_append
abbrev D3:=@List.getD_eq_getElem?_getD
abbrev D4:=@Nat.le_trans
abbrev D5:=@Option.map_eq_some_iff
abbrev D6:=@List.mem_cons
abbrev D7:=@List.mem_of_getElem?
abbrev D8:=@List.mem_cons_self
abbrev D9:=@Array.length_toList
abbrev E1:=@List.mem_cons_of_mem
abbrev E3:=@List.getElem?_append_right
abbrev E4:=@List.mem_map
abbrev E5:=@Nat.lt_of_le_of_lt
abbrev E6:=@List.size_toArray
abbrev E7:=@List.length_cons
abbrev E8:=@List.getElem?_of_mem
abbrev E9:=@PySem.Heap.lt_size
abbrev F0:=@List.map_cons
abbrev F1:=@Bool.false_ne_true
abbrev F3:=@PySem.Heap.get?_push_size
abbrev F4:=@List.take_add_one
abbrev F5:=@Nat.lt_of_lt_of_le
abbrev F6:=@List.getElem?_append_left
abbrev F7:=@List.take_length
abbrev F8:=@List.not_mem_nil
abbrev F9:=@Nat.ne_of_lt
abbrev J0:=@Option.toList_some
abbrev J1:=@Nat.zero_le
abbrev J3:=@List.mem_append_right
abbrev J6:=@Array.getElem?_toList
abbrev J7:=@List.length_take
abbrev J8:=@Array.getElem?_eq_some_iff
abbrev J9:=@Array.toList_push
abbrev L5:=@List.append_assoc
abbrev L6:=@Nat.pow_succ
abbrev L7:=@List.getElem?_eq_none
abbrev L8:=@Int.toNat_natCast
abbrev L9:=@Nat.zero_add
abbrev M0:=@Nat.le_of_lt
abbrev M4:=@Int.eq_ofNat_of_zero_le
abbrev M5:=@List.length_singleton
abbrev M6:=@Nat.succ_mul
abbrev M7:=@Nat.lt_trans
abbrev M8:=@List.nodup_cons
abbrev M9:=@Bool.false_eq_true
abbrev N1:=@List.nodup_append
abbrev N2:=@List.mem_range
abbrev N3:=@List.map_map
abbrev N4:=@List.find?_cons
abbrev N5:=@List.drop_eq_getElem_cons
abbrev N6:=@List.length_replicate
abbrev N7:=@Nat.sub_self
abbrev N8:=@Nat.mul_le_mul_right
abbrev N9:=@Nat.add_sub_cancel_left
abbrev O0:=@List.length_range
abbrev O1:=@List.getElem?_range
abbrev O2:=@Nat.mul_succ
abbrev O3:=@Nat.add_assoc
abbrev O4:=@List.lookup_cons
abbrev O5:=@List.getElem_mem
abbrev O6:=@List.all_eq_true
abbrev O7:=@Array.append_empty
abbrev O8:=@List.take_append_drop
abbrev O9:=@List.pairwise_append
abbrev P0:=@Array.getElem_toList
abbrev P1:=@Nat.lt_irrefl
abbrev P2:=@List.nodup_nil
abbrev P3:=@List.append_nil
abbrev P4:=@Bool.eq_iff_iff
abbrev P5:=@Array.extract_eq_empty_of_le
abbrev P6:=@List.flatten_cons
abbrev P7:=@PySem.Heap.size_push
abbrev P8:=@PySem.Heap.get?_none_of_le
abbrev P9:=@Array.toList_extract
abbrev Q0:=@Nat.zero_mul
abbrev Q1:=@Bool.and_eq_true
abbrev Q3:=@List.mem_of_find?_eq_some
abbrev Q4:=@List.replicate_succ
abbrev Q5:=@List.range_succ
abbrev Q6:=@List.length_nil
abbrev Q7:=@List.foldl_cons
abbrev Q8:=@Nat.sub_add_cancel
abbrev Q9:=@List.find?_eq_none
abbrev R3:=@Array.size_extract
abbrev R4:=@List.ext_getElem?
abbrev R5:=@Array.getElem?_extract
abbrev R7:=@Array.reverse_reverse
abbrev R8:=@Nat.succ_le_succ
abbrev R9:=@Nat.le_add_right
abbrev S0:=@Nat.pow_le_pow_right
abbrev S1:=@Nat.le_succ
abbrev S2:=@Nat.add_mul_div_left
abbrev S3:=@List.mem_append_left
abbrev S4:=@Array.toList_reverse
abbrev S5:=@Array.reverse_append
abbrev S6:=@Nat.not_lt_zero
abbrev S7:=@List.nil_append
abbrev S8:=@List.mem_filter
abbrev S9:=@Nat.mul_le_mul_left
abbrev T0:=@List.filterMap_cons
abbrev T1:=@Nat.add_zero
abbrev T4:=@Array.getD_eq_getD_getElem?
abbrev T5:=@List.pairwise_cons
abbrev T6:=@List.getElem?_drop
abbrev T7:=@Array.perm_iff_toList_perm
abbrev T8:=@List.pairwise_iff_getElem
abbrev T9:=@List.getElem?_zip_eq_some
abbrev U0:=@List.all_eq_false
abbrev U1:=@Array.append_push
abbrev U2:=@Nat.mul_assoc
abbrev U3:=@List.getElem?_take_of_lt
abbrev U4:=@List.any_cons
abbrev U5:=@Nat.min_le_right
abbrev U6:=@Nat.le_of_not_lt
abbrev U7:=@List.getElem_map
abbrev U8:=@List.getElem?_replicate
abbrev U9:=@List.getElem?_cons_succ
abbrev V0:=@List.countP_cons
abbrev V1:=@List.cons_append
abbrev V2:=@List.any_eq_true
abbrev V3:=@Nat.ne_of_gt
abbrev V4:=@Nat.mul_zero
abbrev V5:=@Nat.add_comm
abbrev V6:=@List.getElem?_set_self
abbrev V7:=@Int.zero_add
abbrev V8:=@PySem.Heap.get?_update_other
abbrev V9:=@Array.getElem?_eq_none
abbrev W0:=@Option.map_some
abbrev W1:=@Int.emod_nonneg
abbrev W3:=@List.mem_of_mem_take
abbrev W4:=@List.getLast?_append
abbrev W5:=@List.all_cons
abbrev W6:=@Bool.not_true
abbrev W7:=@Int.emod_lt_of_pos
abbrev W8:=@List.findIdx?_eq_some_iff_getElem
abbrev W9:=@Option.isSome_map
abbrev Y4:=@Nat.mul_comm
abbrev Y5:=@Nat.le_of_eq
abbrev Y6:=@List.reverse_cons
abbrev Y7:=@List.pairwise_map
abbrev Y8:=@List.all_map
abbrev Y9:=@Bool.eq_false_iff
abbrev Z0:=@PySem.wpAny_bind
abbrev Z1:=@decide_eq_true
abbrev Z2:=@decide_eq_false
abbrev Z3:=@if_neg
abbrev Z4:=@PyProof.Rows.wpS_bind
abbrev Z5:=@PyProof.Rows.wpS_pure
abbrev Z6:=@if_pos
abbrev Z7:=@Ne.symm
abbrev Z8:=@PySem.F.plainAttrs_list
abbrev Z9:=@PySem.F.slot_list_append
abbrev X4:=@PySem.F.type_list_append
abbrev X5:=@PySem.Paired.length
abbrev X6:=@PySem.PassesOwn.never
abbrev X7:=@PySem.wpAny_pure
abbrev X8:=@congrArg
abbrev X9:=@Option.some.inj
abbrev K0:=@PyProof.Rows.boot_isinstance
abbrev K1:=@of_decide_eq_true
abbrev K2:=@PySem.boot_len
abbrev K3:=@PySem.W.mg_of
abbrev K4:=@PySem.Paired.snoc
abbrev K5:=@PyProof.Rows.wpS_forRange
abbrev K6:=@PySem.wpAny_truthy_bool
abbrev K7:=@PySem.W.kia_one
abbrev K8:=@or_false
abbrev K9:=@PyProof.Rows.boot_tuple
abbrev A0a:=@PyProof.Rows.callWith_type1
abbrev A0b:=@PySem.wpAny_mono
abbrev A0c:=@PySem.F.plainAttrs_str
abbrev A0d:=@PyProof.Rows.boot_int
abbrev A0e:=@PySem.mem_of_lookup
abbrev A0f:=@PyProof.Rows.wpS_mono
abbrev A0g:=@PyProof.Rows.boot_str
abbrev A0h:=@PySem.wpAny_field
abbrev A1a:=@PyProof.Rows.wpS_modify
abbrev A1b:=@PySem.wpAny_seqItems
abbrev A1c:=@Int.ofNat.inj
abbrev A1d:=@PySem.wpAny_setField_rec
abbrev A1e:=@PySem.wpAny_passesOwn
abbrev A1f:=@PySem.call_meets
abbrev A1g:=@PySem.F.slot_tuple_iterator_next
abbrev A1h:=@PySem.wpAny_holding
abbrev A2a:=@if_false
abbrev A2b:=@PyProof.Rows.boot_list
abbrev A2c:=@PySem.wpAny_Call_Name_kw
abbrev A2d:=@PySem.tupleKind_room_in1
abbrev A2e:=@PySem.wpAny_rule
abbrev A2f:=@PySem.F.slot_str_join
abbrev A2g:=@PySem.F.type_str_join
abbrev A2h:=@PySem.wpAny_call_entry
abbrev A3a:=@List.Perm.refl
abbrev A3b:=@if_true
abbrev A3c:=@not_false_eq_true
abbrev A3d:=@PyProof.Rows.wpS_get
abbrev A3e:=@not_or
abbrev A3f:=@PyProof.Rows.boot_bool
abbrev A3g:=@PySem.wpAny_pyIter_list
abbrev A3h:=@PySem.F.slot_dict_get
abbrev A4a:=@PySem.wpAny_attempt
abbrev A4b:=@PySem.W.plainGet_of
abbrev A4c:=@PySem.typeIs_str
abbrev A4d:=@PySem.Calls.callWith_builtin
abbrev A4e:=@PySem.wpAny_execs_nil
abbrev A4f:=@PySem.F.slot_zip_next
abbrev A4g:=@PySem.W.callWith_K
abbrev A4h:=@beq_iff_eq
abbrev A5a:=@of_decide_eq_false
abbrev A5b:=@PySem.wpAny_updateSeq_pair
abbrev A5c:=@decide_eq_true_eq
abbrev A5d:=@PySem.wpAny_onRaise
abbrev A5e:=@PySem.F.args_str_split_2
open PySem.W (instObj methodObj lookIn plainGet hasDictIn findIn handedIn isFn plainOver takerIn any_some makesIn emptyDict keepIn specialIn takesIn mroIn kitOne kitx_list kitx_dict notCls clsIn)
namespace L2
open PySem PySem.Spec PyProof.Rows
abbrev Key:=Sum Int Str
def On:Key->Value->Bool
 |.inl k,v=>Value.isInt k v
 |.inr x,v=>Value.isStrOf x v
def keyH(w:World):Key->Int
 |.inl k=>hashInt k
 |.inr x=>hashStr w x
theorem BZ:∀{k:Key}{v:Value},On k v=true->(∃i t,k=Sum.inl i/\v=Value.int i t)\/(∃x t,k=Sum.inr x/\v=Value.str x t)
 |.inl i,v,h=>by
  obtain⟨t,e⟩:=Value.isInt_shape (k:=i) (v:=v) h;exact .inl ⟨i,t,rfl,e⟩
 |.inr x,v,h=>by
  obtain⟨t,e⟩:=Value.isStrOf_shape (x:=x) (v:=v) h;exact .inr ⟨x,t,rfl,e⟩
theorem Ug(i:Int)(t:Tok):On (.inl i) (.int i t)=true:=by simp[On,Value.isInt]
theorem Uf(x:Str)(t:Tok):On (.inr x) (.str x t)=true:=by simp[On,Value.isStrOf]
theorem key_ll(a b:Int):decide ((Sum.inl a:Key)=Sum.inl b)=(a==b):=by
 by_cases e:a=b
 ·subst e;simp
 ·have h:¬(Sum.inl a:Key)=Sum.inl b:=λq=>e (Sum.inl.inj q);rw[Z2 h];exact(beq_eq_false_iff_ne.mpr e).symm
theorem key_rr(a b:Str):decide ((Sum.inr a:Key)=Sum.inr b)=decide (a=b):=by
 by_cases e:a=b
 ·subst e;simp
 ·have h:¬(Sum.inr a:Key)=Sum.inr b:=λq=>e (Sum.inr.inj q);rw[Z2 h,Z2 e]
theorem key_lr(a:Int)(b:Str):decide ((Sum.inl a:Key)=Sum.inr b)=false:=Z2 (λq=>nomatch q)
theorem key_rl(a:Str)(b:Int):decide ((Sum.inr a:Key)=Sum.inl b)=false:=Z2 (λq=>nomatch q)
def Cv(prog:Program)(w:World):PySem.KeyKind prog w Key where
 is:=On
 hash:=keyH w
 inj:=λv a b ha hb=>by
  rcases BZ ha with ⟨i,t,rfl,rfl⟩|⟨x,t,rfl,rfl⟩
  ·rcases BZ hb with ⟨j,u,rfl,e⟩|⟨y,u,rfl,e⟩
   ·injection e with e1 _;rw[e1]
   ·exact nomatch e
  ·rcases BZ hb with ⟨j,u,rfl,e⟩|⟨y,u,rfl,e⟩
   ·exact nomatch e
   ·injection e with e1 _;rw[e1]
 byValue:=λk v h=>by
  rcases BZ h with ⟨i,t,rfl,rfl⟩|⟨x,t,rfl,rfl⟩<;>rfl
 pyHash:=λhv h=>by
  rcases BZ hv with ⟨i,t,rfl,rfl⟩|⟨x,t,rfl,rfl⟩
  ·exact wpAny_pyHash_int h
  ·exact wpAny_pyHash_str h
 eqBool:=λhu hv h=>by
  rcases BZ hu with ⟨i,t,rfl,rfl⟩|⟨x,t,rfl,rfl⟩
  ·rcases BZ hv with ⟨j,u,rfl,rfl⟩|⟨y,u,rfl,rfl⟩
   ·rw[key_ll]at h;exact wpAny_eqBool_int h
   ·rw[key_lr]at h;exact SeqAt.EqAt.int_str i t y u _ _ _ _ h
  ·rcases BZ hv with ⟨j,u,rfl,rfl⟩|⟨y,u,rfl,rfl⟩
   ·rw[key_rl]at h;exact SeqAt.EqAt.str_int x t j u _ _ _ _ h
   ·rw[key_rr]at h;exact wpAny_eqBool_str h
 «strs»:=λk x t v h=>by
  rcases BZ h with ⟨i,u,rfl,e⟩|⟨y,u,rfl,e⟩
  ·exact nomatch e
  ·injection e with e1 _
   subst e1;cases v<;>rfl
theorem Qw(prog:Program)(w:World)(i:Int)(t:Tok):(Cv prog w).is (.inl i) (.int i t)=true:=Ug i t
theorem Qv(prog:Program)(w:World)(x:Str)(t:Tok):(Cv prog w).is (.inr x) (.str x t)=true:=Uf x t
inductive V where
 |non|bl (b:Bool)|int (i:Int)|str (x:Str)|byt (b:Array UInt8)|flt (b:UInt64)|ref (a:Addr)|ty (n:String)
 deriving DecidableEq
def Be:V->Value->Prop
 |.non,u=>u=Value.none
 |.bl b,u=>u=Value.bool b
 |.int i,u=>∃t,u=Value.int i t
 |.str x,u=>∃t,u=Value.str x t
 |.byt b,u=>∃t,u=Value.bytes b t
 |.flt b,u=>∃t,u=Value.float b t
 |.ref a,u=>u=Value.ref a
 |.ty n,u=>u=Value.type n
abbrev AN:List V->List Value->Prop:=Paired Be
theorem AN.length{xs:List V}{us:List Value}(r:AN xs us):xs.length=us.length:=X5 r
theorem AN.get:∀{xs:List V}{us:List Value}{i:Nat}{x:V},AN xs us->xs[i]?=some x->∃u,us[i]?=some u/\Be x u
 |_,_,_,_,.nil,e=>by simp at e
 |_,_,0,_,.cons r _,e=>by simp at e;subst e;exact⟨_,rfl,r⟩
 |_,_,i+1,x,.cons _ t,e=>by
  obtain⟨u,h1,h2⟩:=AN.get (i:=i) (x:=x) t (by simpa using e);exact⟨u,by simpa using h1,h2⟩
theorem AN.set{x:V}{u:Value}(r:Be x u):∀{xs:List V}{us:List Value}(i:Nat),AN xs us->AN (xs.set i x) (us.set i u)
 |_,_,_,.nil=>.nil
 |_,_,0,.cons _ t=>.cons r t
 |_,_,i+1,.cons q t=>.cons q (AN.set r i t)
theorem AN.append:∀{xs ys:List V}{us ws:List Value},AN xs us->AN ys ws->AN (xs++ys) (us++ws)
 |_,_,_,_,.nil,s=>s
 |_,_,_,_,.cons r t,s=>.cons r (AN.append t s)
theorem AN.take:∀{xs:List V}{us:List Value}(n:Nat),AN xs us->AN (xs.take n) (us.take n)
 |_,_,0,_=>.nil
 |_,_,_+1,.nil=>.nil
 |_,_,n+1,.cons r t=>.cons r (AN.take n t)
theorem AN.drop:∀{xs:List V}{us:List Value}(n:Nat),AN xs us->AN (xs.drop n) (us.drop n)
 |_,_,0,r=>r
 |_,_,_+1,.nil=>.nil
 |_,_,n+1,.cons _ t=>AN.drop n t
theorem AN.none_of:∀{xs:List V}{us:List Value}{i:Nat},AN xs us->xs[i]?=none->us[i]?=none:=λ{xs us i} r e=>by
 have h1:=r.length;have h2:xs.length<=i:=List.getElem?_eq_none_iff.mp e;exact List.getElem?_eq_none_iff.mpr A1
def Id:Option V->Option Value->Prop
 |some v,some u=>Be v u
 |none,none=>True
 |_,_=>False
def KV{κ:Type}:List (κ×V)->List (κ×Value)->Prop:=Paired λ(p:κ×V)(q:κ×Value)=>p.1=q.1/\Be p.2 q.2
def kV:Key->V
 |.inl i=>.int i
 |.inr x=>.str x
inductive HO where
 |lst (xs:List V)
 |tup (xs:List V)
 |dK (kvs:List (Key×V))|dT (kvs:List (List Key×V))
 |set (S:Int->Bool) (n:Nat)
 |ins (C dx:Addr) (fs:List (Str×V))
 |own (x:Addr)
 |xd (fs:List (Str×V))
 |met (f x:Addr)
 |rng (lo hi:Int)
 |frz (o:Obj) (u:HO)
 |tbl (ps:Array Value)
 |ext (φ:Heap->Prop)
abbrev Hp:=Addr->Option HO
def upd(H:Hp)(a:Addr)(o:HO):Hp:=λb=>if b=a then some o else H b
theorem Af{H:Hp}{a:Addr}{o:HO}:upd H a o a=some o:=by unfold upd;rw[Z6 rfl]
theorem Ao{H:Hp}{a b:Addr}{o:HO}(h:b≠a):upd H a o b=H b:=by unfold upd;rw[Z3 h]
theorem Fz{H:Hp}{a:Addr}{o u:HO}:upd (upd H a o) a u=upd H a u:=by
 funext b;unfold upd;split<;>rfl
theorem As{H:Hp}{a b:Addr}{o u:HO}(h:H a=some o)(h':H b=some u)(d:o≠u):a≠b:=by
 intro e;subst e;rw[h]at h';exact d (X9 h')
theorem Ah{H:Hp}{a b:Addr}{o:HO}(h:H a=some o)(h':H b=none):a≠b:=by
 intro e;subst e;rw[h]at h';cases h'
section
variable(P:Program)(w:World)
def BN(H:Hp)(h:Heap)(a:Addr):HO->Prop
 |.lst xs=>xs.length<=sizeLine/\∃(its:List Value)(n:Nat),AN xs its/\h.get? a=some {cls:=.type "list",data:=.seq its.toArray n}
 |.tup xs=>xs.length<=sizeLine/\∃its:List Value,AN xs its/\IsTup h a its.toArray
 |.dK kvs=>kvs.length<=sizeLine/\(a==sysModules)=false/\∃vs,KV kvs vs/\h.DictOf (Cv P w) a vs
 |.dT kvs=>kvs.length<=sizeLine/\(a==sysModules)=false/\∃xs:List (List Key×Addr×Value),
   Paired (λ(p:List Key×V)(q:List Key×Addr×Value)=>p.1=q.1/\H q.2.1=some (.tup (p.1.map kV))/\Be p.2 q.2.2) kvs xs /\
   ∃o es ep,h.get? a=some o/\o.ExactDict/\o.data=.dict es ep/\es.toList=xs.map (entryOfKey (tupleKind (Cv P w)))/\(xs.map (·.1)).Nodup
 |.set S n=>h.SetOf (intKind P w) a S n
 |.ins C dx fs=>H dx=some (.own a)/\fs.length<=1000/\dx≠a/\h.get? a=some (instObj C dx) /\
   ∃mA,h.Ns1 dx mA/\(∀f,Id (fs.lookup f) (mA f))/\PySem.Within mA (fs.map (·.1))
 |.own _=>∃o,h.get? a=some o
 |.xd fs=>∃mA,h.Ns1 a mA/\∀f,Id (fs.lookup f) (mA f)
 |.rng lo hi=>∃t u v,h.get? a=some {cls:=.type "range",data:=.fields #[.int lo t,.int hi u,.int 1 v]}
 |.frz o u=>h.get? a=some o/\BN H h a u
 |.tbl ps=>h.get? a=some {cls:=.none,data:=.fields ps}
 |.met f x=>h.get? a=some (methodObj (.ref f) (.ref x))
 |.ext φ=>φ h/\(∃o,h.get? a=some o)/\∀h1 h2:Heap,φ h1->(∀o,h1.get? a=some o->h2.get? a=some o)->φ h2
def HOk(H:Hp)(h:Heap):Prop:=∀a o,H a=some o->BN P w H h a o
end
section
variable{P:Program}{w:World}{H H':Hp}{h h':Heap}{a:Addr}{o:HO}
theorem BN.lt(x:BN P w H h a o):a<h.objs.size:=by
 cases o with
 |lst xs=>obtain⟨_,_,_,_,e⟩:=x;exact E9 e
 |tup xs=>obtain⟨_,_,_,p⟩:=x;exact p.lt
 |dK kvs=>obtain⟨_,_,_,_,o,_,_,e,_⟩:=x;exact E9 e
 |dT kvs=>obtain⟨_,_,_,_,o,_,_,e,_⟩:=x;exact E9 e
 |set S n=>obtain⟨o,_,_,_,e,_⟩:=x;exact E9 e
 |ins C dx fs=>obtain⟨_,_,_,e,_⟩:=x;exact E9 e
 |own y=>obtain⟨_,e⟩:=x;exact E9 e
 |xd fs=>obtain⟨_,⟨_,_,_,e,_⟩,_⟩:=x;exact E9 e
 |rng lo hi=>obtain⟨_,_,_,e⟩:=x;exact E9 e
 |frz ob u=>obtain⟨e,_⟩:=x;exact E9 e
 |tbl ps=>exact E9 (show h.get? a=some _ from x)
 |met f y=>exact E9 (show h.get? a=some _ from x)
 |ext φ=>obtain⟨_,⟨_,e⟩,_⟩:=x;exact E9 e
theorem Paired.mapP{α β:Type}{F G:α->β->Prop}:∀{l₁:List α}{l₂:List β},Paired F l₁ l₂->(∀a b,F a b->G a b)->Paired G l₁ l₂
 |_,_,.nil,_=>.nil
 |_,_,.cons r t,f=>.cons (f _ _ r) (Paired.mapP t f)
theorem BN.stay(x:BN P w H h a o)(k:∀b u,(b=a\/H b=some (.own a))->h.get? b=some u->h'.get? b=some u)
  (ho:∀b,H b=some (.own a)->H' b=some (.own a)) (ht:∀b xs,H b=some (.tup xs)->H' b=some (.tup xs)):BN P w H' h' a o:=by
 induction o with
 |lst xs=>obtain⟨z,its,n,r,e⟩:=x;exact⟨z,its,n,r,k _ _ (.inl rfl) e⟩
 |tup xs=>obtain⟨z,its,r,ob,e,c⟩:=x;exact⟨z,its,r,ob,k _ _ (.inl rfl) e,c⟩
 |dK kvs=>obtain⟨z,y,vs,r,ob,es,ep,e,c⟩:=x;exact⟨z,y,vs,r,ob,es,ep,k _ _ (.inl rfl) e,c⟩
 |dT kvs =>
  obtain⟨z,y,xs,r,ob,es,ep,e,c⟩:=x;exact⟨z,y,xs,Paired.mapP r λp q z=>⟨z.1,ht _ _ z.2.1,z.2.2⟩,ob,es,ep,k _ _ (.inl rfl) e,c⟩
 |set S n=>obtain⟨ob,es,ep,t,e,c⟩:=x;exact⟨ob,es,ep,t,k _ _ (.inl rfl) e,c⟩
 |ins C dx fs =>
  obtain⟨d,z,ne,e,mA,⟨od,es,ep,e2,c⟩,r⟩:=x;exact⟨ho _ d,z,ne,k _ _ (.inl rfl) e,mA,⟨od,es,ep,k _ _ (.inr d) e2,c⟩,r⟩
 |own y=>obtain⟨ob,e⟩:=x;exact⟨ob,k _ _ (.inl rfl) e⟩
 |xd fs=>obtain⟨mA,⟨od,es,ep,e,c⟩,r⟩:=x;exact⟨mA,⟨od,es,ep,k _ _ (.inl rfl) e,c⟩,r⟩
 |rng lo hi=>obtain⟨t,u,v,e⟩:=x;exact⟨t,u,v,k _ _ (.inl rfl) e⟩
 |frz ob u ih=>obtain⟨e,q⟩:=x;exact⟨k _ _ (.inl rfl) e,ih q⟩
 |tbl ps =>
  have e:h.get? a=some {cls:=.none,data:=.fields ps}:=x;show h'.get? a=some {cls:=.none,data:=.fields ps};exact k a _ (.inl rfl) e
 |met f y =>
  have e:h.get? a=some (methodObj (.ref f) (.ref y)):=x;show h'.get? a=some (methodObj (.ref f) (.ref y));exact k a _ (.inl rfl) e
 |ext φ=>obtain⟨p,⟨o,e⟩,st⟩:=x;exact⟨st _ _ p λo q=>k _ _ (.inl rfl) q,⟨o,k _ _ (.inl rfl) e⟩,st⟩
theorem HOk.lt(x:HOk P w H h)(e:H a=some o):a<h.objs.size:=(x a o e).lt
theorem HOk.fresh(x:HOk P w H h)(e:h.objs.size<=a):H a=none:=by
 cases q:H a with
 |none=>rfl
 |some u=>exact absurd (F5 (x.lt q) e) (P1 _)
theorem HOk.kept(x:HOk P w H h)(k:∀b u,h.get? b=some u->h'.get? b=some u):HOk P w H h':=λa o e =>
 (x a o e).stay (λb u _ q=>k b u q) (λ_ q=>q) λ_ _ q=>q
theorem HOk.laid(x:HOk P w H h)(k:∀b u,h.get? b=some u->h'.get? b=some u)(hp:h.objs.size<=a)(new:BN P w (upd H a o) h' a o):HOk P w (upd H a o) h':=λb u e=>by
 have hn:=x.fresh hp;by_cases hb:b=a
 ·subst hb;rw[Af]at e;cases e;exact new
 ·rw[Ao hb]at e;exact(x b u e).stay (λc v _ q=>k c v q) (λc q=>by rw[Ao (Ah q hn)];exact q) λc xs q=>by rw[Ao (Ah q hn)];exact q
end
def Rd(H:Hp)(a:Addr)(u:HO):Prop:=H a=some u\/∃o,H a=some (.frz o u)
theorem Rd.ok{P:Program}{w:World}{H:Hp}{h:Heap}{a:Addr}{u:HO}(r:Rd H a u)(x:HOk P w H h):BN P w H h a u:=by
 rcases r with r|⟨o,r⟩
 ·exact x a u r
 ·obtain⟨_,q⟩:=x a _ r;exact q
def Mut:Option HO->Prop
 |some (.lst _)=>True
 |some (.dK _)=>True
 |some (.dT _)=>True
 |some (.set _ _)=>True
 |some (.ins _ _ _)=>True
 |some (.ext _)=>True
 |_=>False
section
variable{P:Program}{w:World}{H:Hp}{h h':Heap}{x e:Addr}{o':HO}
theorem HOk.write(ok:HOk P w H h)(mu:Mut (H x))(he:e=x\/H e=some (.own x))(k:∀b u,b≠e->h.get? b=some u->h'.get? b=some u)(heo:∃u,h'.get? e=some u)
  (new:BN P w (upd H x o') h' x o'):HOk P w (upd H x o') h':=λb u q=>by
 have nown:∀c y,H c=some (.own y)->c≠x:=λc y r z=>by subst z;rw[r]at mu;exact mu
 have ntup:∀c xs,H c=some (.tup xs)->c≠x:=λc xs r z=>by subst z;rw[r]at mu;exact mu
 by_cases hb:b=x
 ·subst hb;rw[Af]at q;cases q;exact new
 ·rw[Ao hb]at q;by_cases hbe:b=e
  ·have q':H b=some (.own x):=by
    rcases he with z|z
    ·exact absurd (hbe.trans z) hb
    ·rw[hbe];exact z
   rw[q]at q';cases q';obtain⟨v,hv⟩:=heo;exact⟨v,by rw[hbe];exact hv⟩
  ·refine(ok b u q).stay (λc v hc r=>k c v ?_ r) (λc r=>by rw[Ao (nown c b r)];exact r) λc xs r=>by rw[Ao (ntup c xs r)];exact r
   rcases hc with rfl|hc
   ·exact hbe
   ·rintro rfl;rcases he with z|z
    ·exact nown c b hc z
    ·rw[hc]at z;cases z;exact hb rfl
end
structure Un(fs ex:List Addr)(H H':Hp)(h h':Heap):Prop where
 keep:∀b o,h.get? b=some o->H b=none->b∉fs->b∉ex->h'.get? b=some o
 slot:∀b o,h.get? b=some o->H b=none->b∈fs->b∉ex->∃sl,h'.get? b=some {o with slots:=sl}
 free:∀b o,h.get? b=some o->H b=none->b∉ex->H' b=none
 there:∀b o,h.get? b=some o->b∉ex->∃o',h'.get? b=some o'
 tups:∀b xs,H b=some (.tup xs)->H' b=some (.tup xs)
 frzs:∀b o u,H b=some (.frz o u)->H' b=some (.frz o u)
 tbls:∀b ps,H b=some (.tbl ps)->∃more,H' b=some (.tbl (ps++more))
section
variable{fs fs' ex ex':List Addr}{H H1 H2:Hp}{h h1 h2 h':Heap}{a x e:Addr}{o:HO}
theorem Un.any(u:Un fs ex H H1 h h1){b:Addr}{ob:Obj}(q:h.get? b=some ob)(n:H b=none)(hx:b∉ex):∃sl,h1.get? b=some {ob with slots:=sl}:=by
 by_cases hb:b∈fs
 ·exact u.slot b ob q n hb hx
 ·exact⟨ob.slots,u.keep b ob q n hb hx⟩
theorem Un.kept(k:∀b u,h.get? b=some u->h'.get? b=some u):Un fs ex H H h h' :=
 ⟨λb ob q _ _ _=>k b ob q,λb ob q _ _ _=>⟨ob.slots,k b ob q⟩,λ_ _ _ n _=>n,λb ob q _=>⟨ob,k b ob q⟩,λ_ _ q=>q,λ_ _ _ q=>q,λ_ ps q=>⟨#[],by rw[q];simp⟩⟩
theorem Un.refl:Un fs ex H H h h:=Un.kept λ_ _ q=>q
theorem Un.laid(k:∀b u,h.get? b=some u->h'.get? b=some u)(hp:h.objs.size<=a)(hn:H a=none):Un fs ex H (upd H a o) h h' where
 keep:=λb u q _ _ _=>k b u q
 slot:=λb u q _ _ _=>⟨u.slots,k b u q⟩
 free:=λb u q n _=>by rw[Ao (F9 (F5 (E9 q) hp))];exact n
 there:=λb u q _=>⟨u,k b u q⟩
 tups:=λb xs q=>by rw[Ao (Ah q hn)];exact q
 frzs:=λb u xs q=>by rw[Ao (Ah q hn)];exact q
 tbls:=λb ps q=>⟨#[],by rw[Ao (Ah q hn),q];simp⟩
theorem Un.write(mu:Mut (H x))(he:e=x\/H e=some (.own x))(k:∀b u,b≠e->h.get? b=some u->h'.get? b=some u)(heo:∃u,h'.get? e=some u):Un fs ex H (upd H x o) h h':=by
 have hx:∀b,H b=none->b≠x:=λb n z=>by subst z;rw[n]at mu;exact mu
 have hb:∀b,H b=none->b≠e:=λb n z=>by
  subst z;rcases he with r|r
  ·exact hx b n r
  ·rw[n]at r;cases r
 have hm:∀b u,H b=some u->¬Mut (some u)->b≠x:=λb u q nm z=>by subst z;rw[q]at mu;exact nm mu
 refine⟨λb u q n _ _=>k b u (hb b n) q,λb u q n _ _=>⟨u.slots,k b u (hb b n) q⟩,λb u q n _=>by rw[Ao (hx b n)];exact n,λb u q _=>?_,
  λb xs q=>by rw[Ao (hm b _ q λz=>z)];exact q,λb u xs q=>by rw[Ao (hm b _ q λz=>z)];exact q,λb ps q=>⟨#[],by rw[Ao (hm b _ q λz=>z),q];simp⟩⟩
 by_cases hbe:b=e
 ·subst hbe;exact heo
 ·exact⟨u,k b u hbe q⟩
end
def trk(h:Heap)(H:Hp):List Addr:=(List.range h.objs.size).filter λa=>(H a).isSome
def Pr(h:Heap)(H:Hp):Heap:=PySem.W.hideAll h (trk h H)
theorem Ul(h:Heap)(H:Hp):(Pr h H).objs.size=h.objs.size:=PySem.W.hideAll_size _ _
theorem Wa{h:Heap}{H:Hp}{b:Addr}{o:Obj}(e:h.get? b=some o)(n:H b=none):(Pr h H).get? b=some o :=
 PySem.W.hideAll_get _ e λhm=>by
  have q:(H b).isSome=true:=(S8.mp hm).2;rw[n]at q;simp at q
theorem of_hidT{h:Heap}{H:Hp}{b:Addr}{o:Obj}(e:(Pr h H).get? b=some o):h.get? b=some o/\H b=none:=by
 have e':h.get? b=some o:=PySem.W.of_hideAll (trk h H) e;refine⟨e',?_⟩;cases q:H b with
 |none=>rfl
 |some x =>
  have hm:b∈trk h H:=S8.mpr ⟨N2.mpr (E9 e'),by simp[q]⟩;have z:(Pr h H).get? b=none:=PySem.W.hideAll_none (trk h H) hm;rw[z]at e;cases e
structure Mod(K:PySem.W.Frag)(mg:Str->Option Value)(base:Heap):Prop where
 kin:K.In base
 glob:base.Ns mainGlobals mg
 blt:∃mb,base.Ns builtinsNs mb/\∀x:Str,x≠"__name__" -> mb x=bootBuiltins x
 nolimit:base.NoLimit
structure Cx where
 prog:Program
 w:World
 K:PySem.W.Frag
 mg:Str->Option Value
 base:Heap
 A:Around
 N:List Str
 s₀:Shared
 H₀:Hp
 env:Env
 outer:List Env
 stack:List Env
 ex:List Addr
 fn:Str->Bool
 calm:Bool
 pn:List (Addr×Obj)
 xe:Value->Shared->Prop
def frs(l:List Env):List Addr:=l.filterMap (·.frame)
abbrev Cx.fs(X:Cx):List Addr:=frs X.outer
def Vis(sc:Scope)(x:Str):Prop:=sc.names.lookup x=some .local\/sc.names.lookup x=some .cell\/sc.names.lookup x=some .free
def Loc(sc:Scope)(x:Str):Prop:=sc.names.lookup x=some .local\/sc.names.lookup x=some .cell
def Look(env:Env)(h:Heap)(m:Str->Option Value)(x:Str)(u:Value):Prop :=
 (env.kindOf x=some .local/\m x=some u)\/((env.kindOf x=some .cell\/env.kindOf x=some .free)/\∃c,env.cells.lookup x=some c/\h.IsCell c (some u))
structure Cx.Ok(X:Cx):Prop where
 mod:Mod X.K X.mg X.base
 kind:X.env.scope.kind=.function
 glob:X.env.globals=mainGlobals
 blt:X.env.builtins=builtinsNs
 above:X.s₀.heap.objs.size<=X.env.locals
 inj:∀x y c,X.env.cells.lookup x=some c->X.env.cells.lookup y=some c->x=y
 has:∀x,(X.env.kindOf x=some .cell\/X.env.kindOf x=some .free)->∃c,X.env.cells.lookup x=some c
 cab:∀x c,X.fn x=true->X.env.cells.lookup x=some c->X.s₀.heap.objs.size<=c
 hd:X.calm=true->X.A.handled=none
 frames:X.A.frames=some X.stack
 stk:X.stack=X.outer\/(X.stack=X.env::X.outer/\X.env.frame=some X.env.locals)
 exf:∀b∈X.ex,b≠X.env.locals/\∀x c,X.env.cells.lookup x=some c->c≠b
 bs:∀b o,X.base.get? b=some o->X.s₀.heap.get? b=some o/\X.H₀ b=none
 bsz:X.base.objs.size<=X.s₀.heap.objs.size
 noex:∀b o,X.base.get? b=some o->b∉X.ex
 exfs:∀b∈X.ex,b∉X.fs
 funs:X.s₀.heap.FunFrames X.base X.outer
 frf:∀b∈X.fs,X.H₀ b=none
structure Inv(X:Cx)(pins:List (Addr×Obj))(σ:List (Option V))(H:Hp)(s:Shared):Prop where
 ok:X.Ok
 os:s.os=X.s₀.os
 bare:AllBare s.gens
 base:Un X.fs X.ex X.H₀ H X.s₀.heap s.heap
 loc:∃m,s.heap.Ns X.env.locals m/\∀(i:Nat)(x:Str)(v:V),X.N[i]?=some x->σ[i]?=some (some v)->Vis X.env.scope x->∃u,Be v u/\Look X.env s.heap m x u
 cell:∀x c,X.env.cells.lookup x=some c->∃v,s.heap.IsCell c v
 free:H X.env.locals=none
 freeC:∀x c,X.env.cells.lookup x=some c->H c=none
 pin:∀p∈X.pn++pins,s.heap.get? p.1=some p.2/\H p.1=none/\p.1≠X.env.locals/\p.1∉X.fs/\∀v,p.2.data≠.cell v
 hok:HOk X.prog X.w H s.heap
 len:σ.length=X.N.length
section
variable{X:Cx}{pins:List (Addr×Obj)}{σ:List (Option V)}{H H':Hp}{s:Shared}{h':Heap}
theorem Cx.Ok.nofr(ok:X.Ok){b:Addr}{o:Obj}(e:X.base.get? b=some o):b∉X.fs:=λhb=>by
 have:=(ok.funs.mem hb).1;rw[e]at this;cases this
theorem Inv.bs(I:Inv X pins σ H s):∀b o,X.base.get? b=some o->s.heap.get? b=some o/\H b=none:=λb o e =>
 ⟨I.base.keep b o (I.ok.bs b o e).1 (I.ok.bs b o e).2 (I.ok.nofr e) (I.ok.noex b o e),I.base.free b o (I.ok.bs b o e).1 (I.ok.bs b o e).2 (I.ok.noex b o e)⟩
theorem Inv.bk(I:Inv X pins σ H s):∀b o,X.base.get? b=some o->s.heap.get? b=some o:=λb o e=>(I.bs b o e).1
theorem Inv.mod(I:Inv X pins σ H s):Mod X.K X.mg X.base:=I.ok.mod
theorem Inv.kIn(I:Inv X pins σ H s):X.K.In s.heap:=I.ok.mod.kin.keeps I.bk
theorem Inv.lt(I:Inv X pins σ H s):X.env.locals<s.heap.objs.size:=let ⟨_,hn,_⟩:=I.loc;hn.lt
theorem Inv.sz(I:Inv X pins σ H s):X.s₀.heap.objs.size<=s.heap.objs.size:=D4 I.ok.above (M0 I.lt)
theorem Inv.nofs(I:Inv X pins σ H s){a:Addr}(h:s.heap.objs.size<=a):a∉X.fs:=λhb=>by
 obtain⟨_,o,ho,_⟩:=I.ok.funs.mem hb;exact absurd (F5 (E9 ho) (D4 I.sz h)) (P1 _)
theorem Inv.cne(I:Inv X pins σ H s):∀x c,X.env.cells.lookup x=some c->c≠X.env.locals:=λx c e z=>by
 obtain⟨v,o,ho,hd⟩:=I.cell x c e;obtain⟨m,⟨o',es,ep,ho',hd',_⟩,_⟩:=I.loc;rw[z,ho']at ho;cases ho;rw[hd']at hd;cases hd
theorem Inv.funs (I:Inv X pins σ H s):s.heap.FunFrames X.base X.outer:=by
 have all:∀(l:List Env),(∀b∈frs l,b∈X.fs)->X.s₀.heap.FunFrames X.base l->s.heap.FunFrames X.base l:=by
  intro l;induction l with
  |nil=>intro _ _;trivial
  |cons env r ih =>
   intro hs hl;obtain⟨hk,⟨L,o,hf,hn,ho,hd⟩,hr⟩:=hl;have hL:L∈X.fs:=hs L (by unfold frs;rw[T0,hf];exact D8);obtain⟨sl,e⟩:=I.base.slot L o ho (I.ok.frf L hL) hL λz=>I.ok.exfs L z hL;exact⟨hk,⟨L,_,hf,hn,e,hd⟩,ih (λb hb=>hs b (by unfold frs;rw[T0,hf];exact E1 _ hb)) hr⟩
 exact all X.outer (λ_ hb=>hb) I.ok.funs
theorem Inv.stack(I:Inv X pins σ H s):s.heap.FunFrames X.base X.stack:=by
 rcases I.ok.stk with e|⟨e,hf⟩
 ·rw[e];exact I.funs
 ·rw[e];obtain⟨m,hn,_⟩:=I.loc;refine .cons (by rw[I.ok.kind];decide) hf hn ?_ I.funs;exact P8 (D4 I.ok.bsz I.ok.above)
theorem Inv.stkSub(I:Inv X pins σ H s):∀b∈frs X.stack,b∈X.env.locals::X.fs:=λb hb=>by
 rcases I.ok.stk with e|⟨e,hf⟩
 ·rw[e]at hb;exact E1 _ hb
 ·rw[e]at hb;unfold frs at hb;rw[T0,hf]at hb;exact hb
theorem Inv.stkFree(I:Inv X pins σ H s):∀b∈frs X.stack,H b=none:=λb hb=>by
 rcases D6.mp (I.stkSub b hb)with e|hb
 ·rw[e];exact I.free
 ·obtain⟨_,o,ho,_⟩:=I.ok.funs.mem hb;exact I.base.free b o ho (I.ok.frf b hb) λz=>I.ok.exfs b z hb
theorem Inv.step{g':Array GenState}{t':Nat}{d':Drawn}{ch:List Addr}(I:Inv X pins σ H s)
  (hch:∀b∈ch,(b∈X.ex\/X.s₀.heap.objs.size<=b)/\b≠X.env.locals/\(∀x c,X.env.cells.lookup x=some c->c≠b)/\∀p∈X.pn++pins,p.1≠b)
  (keep:∀b o,b≠X.env.locals->b∉X.fs->b∉ch->s.heap.get? b=some o->H b=none->h'.get? b=some o)
  (slot:∀b o,b≠X.env.locals->b∈X.fs->b∉ch->s.heap.get? b=some o->H b=none->∃sl,h'.get? b=some {o with slots:=sl}) (free:∀b o,b∉ch->s.heap.get? b=some o->H b=none->H' b=none)
  (there:∀b o,b∉ch->s.heap.get? b=some o->∃o',h'.get? b=some o')
  (tups:∀b xs,H b=some (.tup xs)->H' b=some (.tup xs)) (frzs:∀b o u,H b=some (.frz o u)->H' b=some (.frz o u)) (tbls:∀b ps,H b=some (.tbl ps)->∃more,H' b=some (.tbl (ps++more)))
  (ns:∀m,s.heap.Ns X.env.locals m->h'.Ns X.env.locals m) (hok:HOk X.prog X.w H' h') (hg:AllBare g') :
  Inv X pins σ H' {s with heap:=h',gens:=g',drawn:=d',toks:=t'}:=by
 have neL:∀b o,X.s₀.heap.get? b=some o->b≠X.env.locals:=λb o e=>F9 (F5 (E9 e) I.ok.above);have neC:∀b o,X.s₀.heap.get? b=some o->b∉X.ex->b∉ch:=λb o e hx hb=>by
  rcases(hch b hb).1 with z|z
  ·exact hx z
  ·exact absurd (F5 (E9 e) z) (P1 _)
 have cellK:∀x c,X.env.cells.lookup x=some c->∀v,s.heap.IsCell c v->h'.IsCell c v:=λx c e v ⟨o,ho,hd⟩=>by
  have nch:c∉ch:=λz=>(hch c z).2.2.1 x c e rfl;by_cases hc:c∈X.fs
  ·obtain⟨sl,q⟩:=slot c o (I.cne x c e) hc nch ho (I.freeC x c e);exact⟨_,q,hd⟩
  ·exact⟨o,keep c o (I.cne x c e) hc nch ho (I.freeC x c e),hd⟩
 refine⟨I.ok,I.os,hg,⟨λb o e n hb hx=>?_,λb o e n hb hx=>?_,λb o e n hx=>?_,λb o e hx=>?_,λb xs e=>tups b xs (I.base.tups b xs e),λb o xs e=>frzs b o xs (I.base.frzs b o xs e),λb ps e=>?_⟩,?_,λx c e=>?_,?_,λx c e=>?_,λp hp=>?_,hok,I.len⟩
 ·exact keep b o (neL b o e) hb (neC b o e hx) (I.base.keep b o e n hb hx) (I.base.free b o e n hx)
 ·obtain⟨sl,e1⟩:=I.base.slot b o e n hb hx;obtain⟨sl',e2⟩:=slot b _ (neL b o e) hb (neC b o e hx) e1 (I.base.free b o e n hx);exact⟨sl',e2⟩
 ·obtain⟨o',e1⟩:=I.base.there b o e hx;exact free b o' (neC b o e hx) e1 (I.base.free b o e n hx)
 ·obtain⟨o',e1⟩:=I.base.there b o e hx;exact there b o' (neC b o e hx) e1
 ·obtain⟨m1,e1⟩:=I.base.tbls b ps e;obtain⟨m2,e2⟩:=tbls b _ e1;exact⟨m1++m2,by rw[e2,Array.append_assoc]⟩
 ·obtain⟨m,hn,hl⟩:=I.loc;refine⟨m,ns m hn,λi x v e1 e2 e3=>?_⟩;obtain⟨u,r,l⟩:=hl i x v e1 e2 e3;refine⟨u,r,?_⟩;rcases l with l|⟨k,c,e,z⟩
  ·exact .inl l
  ·exact .inr ⟨k,c,e,cellK x c e _ z⟩
 ·obtain⟨v,z⟩:=I.cell x c e;exact⟨v,cellK x c e v z⟩
 ·obtain⟨m,⟨o,_,_,ho,_⟩,_⟩:=I.loc;exact free _ o (λz=>(hch _ z).2.1 rfl) ho I.free
 ·obtain⟨v,o,ho,hd⟩:=I.cell x c e;exact free c o (λz=>(hch c z).2.2.1 x c e rfl) ho (I.freeC x c e)
 ·obtain⟨e,n,ne,nf,d⟩:=I.pin p hp;have nch:p.1∉ch:=λz=>(hch p.1 z).2.2.2 p hp rfl;exact⟨keep p.1 p.2 ne nf nch e n,free p.1 p.2 nch e n,ne,nf,d⟩
theorem Inv.un{t':Nat}(I:Inv X pins σ H s)(u:Un X.fs [] H H' s.heap h')(hok:HOk X.prog X.w H' h'):Inv X pins σ H' {s with heap:=h',toks:=t'}:=by
 obtain⟨m,⟨o,es,ep,ho,r⟩,_⟩:=id I.loc;obtain⟨sl,hL⟩:=u.any ho I.free B1;exact I.step (g':=s.gens) (d':=s.drawn) (ch:=[]) (λ_ z=>nomatch z) (λb o _ hb _ e n=>u.keep b o e n hb B1) (λb o _ hb _ e n=>u.slot b o e n hb B1) (λb o _ e n=>u.free b o e n B1) (λb o _ e=>u.there b o e B1) u.tups u.frzs u.tbls (λm' hm=>by
  obtain⟨o',es',ep',ho',r'⟩:=hm;rw[ho]at ho';cases ho';exact⟨_,es',ep',hL,r'⟩) hok I.bare
theorem Inv.call{g':Array GenState}{t':Nat}{d':Drawn}{ch:List Addr}(I:Inv X pins σ H s)(u:Un (frs X.stack) ch H H' s.heap h')(hok:HOk X.prog X.w H' h')(hg:AllBare g')
  (hch:∀b∈ch,(b∈X.ex\/X.s₀.heap.objs.size<=b)/\b≠X.env.locals/\(∀x c,X.env.cells.lookup x=some c->c≠b)/\∀p∈X.pn++pins,p.1≠b) :
  Inv X pins σ H' {s with heap:=h',gens:=g',drawn:=d',toks:=t'}:=by
 obtain⟨m,⟨o,es,ep,ho,r⟩,_⟩:=id I.loc;obtain⟨sl,hL⟩:=u.any ho I.free λz=>(hch _ z).2.1 rfl;exact I.step (ch:=ch) hch (λb o hL hb hc e n=>u.keep b o e n (λz=>(D6.mp (I.stkSub b z)).elim hL hb) hc) (λb o _ _ hc e n=>u.any e n hc) (λb o hc e n=>u.free b o e n hc) (λb o hc e=>u.there b o e hc) u.tups u.frzs u.tbls (λm' hm=>by
  obtain⟨o',es',ep',ho',r'⟩:=hm;rw[ho]at ho';cases ho';exact⟨_,es',ep',hL,r'⟩) hok hg
theorem Inv.turned{t':Nat}{it:Addr}(I:Inv X pins σ H s)(k:∀b o,b≠it->s.heap.get? b=some o->h'.get? b=some o)(hn:H it=none)(hL:it≠X.env.locals)
  (h1:it∈X.ex\/X.s₀.heap.objs.size<=it) (h2:∀x c,X.env.cells.lookup x=some c->c≠it) (h3:∀p∈X.pn++pins,p.1≠it):Inv X pins σ H {s with heap:=h',toks:=t'}:=by
 have nit:∀b u,H b=some u->b≠it:=λb u e z=>by rw[z,hn]at e;cases e
 refine I.step (g':=s.gens) (d':=s.drawn) (ch:=[it]) (λb hb=>?_) (λb o _ _ hc e _=>k b o (λz=>hc (by simp[z])) e) (λb o _ _ hc e _=>⟨o.slots,k b o (λz=>hc (by simp[z])) e⟩) (λ_ _ _ _ n=>n)
  (λb o hc e=>⟨o,k b o (λz=>hc (by simp[z])) e⟩) (λ_ _ e=>e) (λ_ _ _ e=>e) (λb ps e=>⟨#[],by rw[e];simp⟩) (λm hm=>?_) (λb u e=>?_) I.bare
 ·have e:b=it:=by simpa using hb
  subst e;exact⟨h1,hL,h2,h3⟩
 ·obtain⟨o,es,ep,ho,r⟩:=hm;exact⟨o,es,ep,k _ o (Z7 hL) ho,r⟩
 ·refine(I.hok b u e).stay (λc v hc q=>k c v ?_ q) (λ_ q=>q) λ_ _ q=>q;rcases hc with z|z
  ·rw[z];exact nit b u e
  ·exact nit c _ z
theorem Inv.tok(I:Inv X pins σ H s)(t:Nat):Inv X pins σ H {s with toks:=t}:=I.un (h':=s.heap) (t':=t) Un.refl I.hok
theorem Inv.kept{t':Nat}(I:Inv X pins σ H s)(k:∀b u,s.heap.get? b=some u->h'.get? b=some u):Inv X pins σ H {s with heap:=h',toks:=t'}:=I.un (Un.kept k) (I.hok.kept k)
theorem Inv.laid{a:Addr}{o:HO}{t':Nat}(I:Inv X pins σ H s)(k:∀b u,s.heap.get? b=some u->h'.get? b=some u)(hp:s.heap.objs.size<=a)(new:BN X.prog X.w (upd H a o) h' a o) :
  Inv X pins σ (upd H a o) {s with heap:=h',toks:=t'}:=I.un (Un.laid k hp (I.hok.fresh hp)) (I.hok.laid k hp new)
theorem Inv.write{x e:Addr}{o:HO}{t':Nat}(I:Inv X pins σ H s)(mu:Mut (H x))(he:e=x\/H e=some (.own x))(k:∀b u,b≠e->s.heap.get? b=some u->h'.get? b=some u)(heo:∃u,h'.get? e=some u)
  (new:BN X.prog X.w (upd H x o) h' x o):Inv X pins σ (upd H x o) {s with heap:=h',toks:=t'}:=I.un (Un.write mu he k heo) (I.hok.write mu he k heo new)
theorem Inv.weak{σ':List (Option V)}(I:Inv X pins σ H s)(hl:σ'.length=σ.length)(w:∀(i:Nat) v,σ'[i]?=some (some v)->σ[i]?=some (some v)):Inv X pins σ' H s :=
 ⟨I.ok,I.os,I.bare,I.base,let ⟨m,hn,hl'⟩:=I.loc;⟨m,hn,λi x v e1 e2 e3=>hl' i x v e1 (w i v e2) e3⟩,I.cell,I.free,I.freeC,I.pin,I.hok,hl.trans I.len⟩
theorem Inv.pins_of{pins':List (Addr×Obj)}(I:Inv X pins σ H s)(h:∀p∈pins',s.heap.get? p.1=some p.2/\H p.1=none/\p.1≠X.env.locals/\p.1∉X.fs/\∀v,p.2.data≠.cell v):Inv X pins' σ H s :=
 ⟨I.ok,I.os,I.bare,I.base,I.loc,I.cell,I.free,I.freeC,λp hp=>(D1.mp hp).elim (λz=>I.pin p (S3 _ z)) (h p),I.hok,I.len⟩
theorem Qo{N:List Str}(hN:N.Nodup){i j:Nat}{x:Str}(a:N[i]?=some x)(b:N[j]?=some x):i=j:=by
 obtain⟨h1,e1⟩:=B7.mp a;obtain⟨h2,e2⟩:=B7.mp b;exact(List.getElem_inj hN).mp (e1.trans e2.symm)
theorem Oa{M:Model}{A:Around}{E:Value->Shared->Prop}{i:Nat}{x:Str}{v:V}{u:Value}{Q:Unit->Shared->Prop}(I:Inv X pins σ H s)(hN:X.N.Nodup)(hi:X.N[i]?=some x)(hx:Loc X.env.scope x)(r:Be v u)
  (h:∀s',Inv X pins (σ.set i (some v)) H s'->(∃a,Heap.SameBut a s.heap s'.heap/\(a=X.env.locals\/X.env.cells.lookup x=some a))->Q () s') (hf:X.fn x=true\/X.env.scope.names.lookup x=some .local:=by first|exact .inl rfl|exact .inr rfl|assumption):wpAny M A (storeName X.env x u) Q E s:=by
 obtain⟨m,hn,hl⟩:=id I.loc;have hcls:(X.env.scope.kind==.class || (X.env.scope.kind==.module && X.env.locals != X.env.globals))=false:=by rw[I.ok.kind];rfl
 have hiσ:i<σ.length:=by rw[I.len];exact(B7.mp hi).1
 have cne:=I.cne;have tracked:∀{a:Addr}{h':Heap},(∃o,s.heap.get? a=some o/\H a=none)->Heap.SameBut a s.heap h'->HOk X.prog X.w H h':=λ{a h'} ha hs b ob e=>by
  obtain⟨_,_,hfree⟩:=ha;refine(I.hok b ob e).stay (λc w' hc q=>(hs.2 c ?_).trans q) (λ_ q=>q) λ_ _ q=>q;rintro rfl;rcases hc with rfl|hc
  ·rw[hfree]at e;cases e
  ·rw[hfree]at hc;cases hc
 rcases hx with hk|hk
 ·refine wpAny_storeName_local hk hn (λh' hn' hs=>?_) hcls;obtain⟨oL,_,_,hoL,_⟩:=id hn;refine h _ ⟨I.ok,I.os,I.bare,⟨λb o e n hb hx=>?_,λb o e n hb hx=>?_,I.base.free,λb o e hx=>?_,I.base.tups,I.base.frzs,I.base.tbls⟩,⟨_,hn',λj y v' e1 e2 e3=>?_⟩,λy c e=>?_,I.free,I.freeC,λp hp=>?_,tracked ⟨oL,hoL,I.free⟩ hs,by simpa using I.len⟩ ⟨_,hs,.inl rfl⟩
  ·exact(hs.2 b (F9 (F5 (E9 e) I.ok.above))).trans (I.base.keep b o e n hb hx)
  ·obtain⟨sl,e1⟩:=I.base.slot b o e n hb hx;exact⟨sl,(hs.2 b (F9 (F5 (E9 e) I.ok.above))).trans e1⟩
  ·obtain⟨o',e1⟩:=I.base.there b o e hx;exact⟨o',(hs.2 b (F9 (F5 (E9 e) I.ok.above))).trans e1⟩
  ·by_cases hj:j=i
   ·subst hj;rw[hi]at e1;cases e1;rw[V6 hiσ]at e2;cases e2;exact⟨u,r,.inl ⟨hk,by simp⟩⟩
   ·rw[List.getElem?_set_ne (Z7 hj)]at e2;obtain⟨u',r',q⟩:=hl j y v' e1 e2 e3;refine⟨u',r',?_⟩;rcases q with ⟨k,e⟩|⟨k,c,e,z⟩
    ·refine .inl ⟨k,?_⟩;have:y≠x:=λe=>hj (Qo hN e1 (e▸hi));simp[this,e]
    ·exact .inr ⟨k,c,e,z.sameBut hs (cne y c e)⟩
  ·obtain⟨w',z⟩:=I.cell y c e;exact⟨w',z.sameBut hs (cne y c e)⟩
  ·obtain⟨e,n,ne,nf,d⟩:=I.pin p hp;exact⟨(hs.2 p.1 ne).trans e,n,ne,nf,d⟩
 ·have hfn:X.fn x=true:=by
   rcases hf with z|z
   ·exact z
   ·rw[z]at hk;cases hk
  obtain⟨c,hc⟩:=I.ok.has x (.inl hk);obtain⟨w',z⟩:=I.cell x c hc;refine wpAny_storeName_cell I.ok.kind hk hc z (λh' hc' hs=>?_);obtain⟨oc,hoc,hocd⟩:=id z;refine h {s with heap:=h'} ⟨I.ok,I.os,I.bare,⟨λb o e n hb hx=>?_,λb o e n hb hx=>?_,I.base.free,λb o e hx=>?_,I.base.tups,I.base.frzs,I.base.tbls⟩,⟨m,hn.sameBut hs (Z7 (cne x c hc)),λj y v' e1 e2 e3=>?_⟩,λy c' e=>?_,I.free,I.freeC,λp hp=>?_,tracked ⟨oc,hoc,I.freeC x c hc⟩ hs,by simpa using I.len⟩ ⟨c,hs,.inr hc⟩
  ·exact(hs.2 b (F9 (F5 (E9 e) (I.ok.cab x c hfn hc)))).trans (I.base.keep b o e n hb hx)
  ·obtain⟨sl,e1⟩:=I.base.slot b o e n hb hx;exact⟨sl,(hs.2 b (F9 (F5 (E9 e) (I.ok.cab x c hfn hc)))).trans e1⟩
  ·obtain⟨o',e1⟩:=I.base.there b o e hx;exact⟨o',(hs.2 b (F9 (F5 (E9 e) (I.ok.cab x c hfn hc)))).trans e1⟩
  ·by_cases hj:j=i
   ·subst hj;rw[hi]at e1;cases e1;rw[V6 hiσ]at e2;cases e2;exact⟨u,r,.inr ⟨.inl hk,c,hc,hc'⟩⟩
   ·rw[List.getElem?_set_ne (Z7 hj)]at e2;obtain⟨u',r',q⟩:=hl j y v' e1 e2 e3;refine⟨u',r',?_⟩;rcases q with q|⟨k,c',e,z'⟩
    ·exact .inl q
    ·refine .inr ⟨k,c',e,z'.sameBut hs ?_⟩;rintro rfl;exact hj (Qo hN e1 (I.ok.inj _ _ _ e hc▸hi))
  ·by_cases hcc:c'=c
   ·subst hcc;exact⟨_,hc'⟩
   ·obtain⟨w2,z2⟩:=I.cell y c' e;exact⟨w2,z2.sameBut hs hcc⟩
  ·obtain⟨e,n,ne,nf,d⟩:=I.pin p hp;refine⟨(hs.2 p.1 ?_).trans e,n,ne,nf,d⟩;intro q;rw[q,hoc]at e;have q':oc=p.2:=X9 e;exact d w' (by rw[<-q'];exact hocd)
theorem PV{M:Model}{A:Around}{E:Value->Shared->Prop}{i:Nat}{x:Str}{v:V}{u:Value}{Q:Unit->Shared->Prop}(I:Inv X pins σ H s)(hN:X.N.Nodup)(hi:X.N[i]?=some x)(hx:Loc X.env.scope x)(r:Be v u)
  (h:∀s',Inv X pins (σ.set i (some v)) H s'->Q () s') (hf:X.fn x=true\/X.env.scope.names.lookup x=some .local:=by first|exact .inl rfl|exact .inr rfl|assumption):wpAny M A (storeName X.env x u) Q E s :=
 Oa I hN hi hx r (λs' I' _=>h s' I') hf
theorem Inv.call'{s':Shared}{ch:List Addr}(I:Inv X pins σ H s)(ho:s'.os=s.os)(u:Un (frs X.stack) ch H H' s.heap s'.heap)(hok:HOk X.prog X.w H' s'.heap)(hg:AllBare s'.gens)
  (hch:∀b∈ch,(b∈X.ex\/X.s₀.heap.objs.size<=b)/\b≠X.env.locals/\(∀x c,X.env.cells.lookup x=some c->c≠b)/\∀p∈X.pn++pins,p.1≠b):Inv X pins σ H' s':=by
 obtain⟨h',g',d',t',o'⟩:=s';have e:o'=s.os:=ho;subst e;exact I.call (g':=g') (t':=t') (d':=d') u hok hg hch
end
abbrev XK:=Value->Option Addr->Hp->Prop
abbrev St:=List (Option V)
abbrev VK:=V->Hp->Prop
abbrev TE:=St->Hp->VK->Prop
abbrev TT:=St->Hp->(Bool->Hp->Prop)->Prop
abbrev TA:=St->Hp->(List V->Hp->Prop)->Prop
structure Ja where
 nx:St->Hp->Prop
 rt:VK
 bk:St->Hp->Prop:=λ_ _=>False
 ct:St->Hp->Prop:=λ_ _=>False
abbrev TS:=Ja->St->Hp->Prop
def EP(X:Cx)(pins:List (Addr×Obj))(σ:St)(Q:VK)(u:Value)(s':Shared):Prop:=∃v H',Inv X pins σ H' s'/\Be v u/\Q v H'
def TP(X:Cx)(pins:List (Addr×Obj))(σ:St)(Q:Bool->Hp->Prop)(b:Bool)(s':Shared):Prop:=∃H',Inv X pins σ H' s'/\Q b H'
def AP(X:Cx)(pins:List (Addr×Obj))(σ:St)(Q:List V->Hp->Prop)(us:List Value)(s':Shared):Prop:=∃vs H',Inv X pins σ H' s'/\AN vs us/\Q vs H'
def SP(X:Cx)(pins:List (Addr×Obj))(D:Ja)(f:Flow)(s':Shared):Prop :=
 match f with
 |.next=>∃σ' H',Inv X pins σ' H' s'/\D.nx σ' H'
 |.brk=>∃σ' H',Inv X pins σ' H' s'/\D.bk σ' H'
 |.cont=>∃σ' H',Inv X pins σ' H' s'/\D.ct σ' H'
 |.ret u=>∃v σ' H',Inv X pins σ' H' s'/\Be v u/\D.rt v H'
def PE(X:Cx)(e:Expr)(t:TE):Prop :=
 ∀(pins:List (Addr×Obj))(s:Shared)(σ:St)(H:Hp)(Q:VK),Inv X pins σ H s->t σ H Q->wpAny (model X.prog X.w) X.A (eval e X.env) (EP X pins σ Q) X.xe s
def PT(X:Cx)(e:Expr)(t:TT):Prop :=
 ∀(pins:List (Addr×Obj))(s:Shared)(σ:St)(H:Hp)(Q:Bool->Hp->Prop),Inv X pins σ H s->t σ H Q->wpAny (model X.prog X.w) X.A (isTrue e X.env (eval e X.env)) (TP X pins σ Q) X.xe s
def PW(X:Cx)(e:Expr)(t:TT):Prop :=
 ∀(whole:Sem Value)(pins:List (Addr×Obj))(s:Shared)(σ:St)(H:Hp)(Q:Bool->Hp->Prop),Inv X pins σ H s->t σ H Q->wpAny (model X.prog X.w) X.A (isTrue e X.env whole) (TP X pins σ Q) X.xe s
theorem PW.pt{X:Cx}{e:Expr}{t:TT}(h:PW X e t):PT X e t:=h _
def PA(X:Cx)(es:List Expr)(t:TA):Prop :=
 ∀(pos:Pos)(pins:List (Addr×Obj))(s:Shared)(σ:St)(H:Hp)(Q:List V->Hp->Prop),Inv X pins σ H s->t σ H Q->wpAny (model X.prog X.w) X.A (spliced (backTo pos (starEach es X.env))) (AP X pins σ Q) X.xe s
def PS(X:Cx)(st:Stmt)(t:TS):Prop :=
 ∀(pins:List (Addr×Obj))(s:Shared)(σ:St)(H:Hp)(D:Ja),Inv X pins σ H s->t D σ H->wpAny (model X.prog X.w) X.A (exec st X.env) (SP X pins D) X.xe s
def PSs(X:Cx)(st:List Stmt)(t:TS):Prop :=
 ∀(pins:List (Addr×Obj))(s:Shared)(σ:St)(H:Hp)(D:Ja),Inv X pins σ H s->t D σ H->wpAny (model X.prog X.w) X.A (execs st X.env) (SP X pins D) X.xe s
theorem thn{α:Type}{t:Sem α}{Q Q':α->Shared->Prop}{M:Model}{A:Around}{E:Value->Shared->Prop}{s:Shared}(h:wpAny M A t Q E s)(hQ:∀a s,Q a s->Q' a s):wpAny M A t Q' E s:=A0b h hQ λ_ _ x=>x
section
variable{X:Cx}
def Gf(i:Nat):TE:=fun σ H Q=>∃v,σ[i]?=some (some v)/\Q v H
def tC(v:V):TE:=λ_ H Q=>Q v H
theorem pe_var{i:Nat}{x:Str}{pos:Pos}(hN:X.N[i]?=some x)(hv:Vis X.env.scope x)(hd:(x==("__debug__" : Str))=false:=by decide)(hcd:(x==("__classdict__" : Str))=false:=by decide):PE X (.Name x pos) (Gf i):=by
 intro pins s σ H Q I h;obtain⟨v,e,h⟩:=h;obtain⟨m,hn,hl⟩:=I.loc;obtain⟨u,r,l⟩:=hl i x v hN e hv;have fin:EP X pins σ Q u s:=⟨v,H,I,r,h⟩
 rcases l with ⟨hk,hm⟩|⟨hk,c,hc,hcell⟩
 ·exact wpAny_Name (wpAny_loadName_local I.ok.kind hk hn hm fin) hd
 ·rcases hk with hk|hk
  ·exact wpAny_Name (wpAny_loadName_cell I.ok.kind hk hc hcell fin) hd
  ·exact wpAny_Name (wpAny_loadName_free I.ok.kind hk hc hcell fin hcd) hd
theorem Ae{i j pos}:PE X (.Constant (.int i) j pos) (tC (.int i)):=λ_ _ _ H _ I h=>wpAny_Constant_int ⟨.int i,H,I.tok _,⟨_,rfl⟩,h⟩
theorem CH{b j pos}:PE X (.Constant (.bool b) j pos) (tC (.bl b)):=λ_ _ _ H _ I h=>Constant_bool ⟨.bl b,H,I,rfl,h⟩
theorem Ik{j pos}:PE X (.Constant .none j pos) (tC .non):=λ_ _ _ H _ I h=>Constant_none ⟨.non,H,I,rfl,h⟩
theorem GF{x j pos}:PE X (.Constant (.str x) j pos) (tC (.str x)):=λ_ _ _ H _ I h=>Calls.Constant_str ⟨.str x,H,I.tok _,⟨_,rfl⟩,h⟩
def Gl(X:Cx)(x:Str):Prop:=X.env.kindOf x=some .globalImplicit
theorem Ml{E:Value->Shared->Prop}{pins:List (Addr×Obj)}{s:Shared}{σ:St}{H:Hp}{x:Str}{u:Value}{pos:Pos}{Q:Value->Shared->Prop}(I:Inv X pins σ H s)(hg:Gl X x)(hm:X.mg x=some u)(h:Q u s)
  (hd:(x==("__debug__" : Str))=false:=by decide):wpAny (model X.prog X.w) X.A (eval (.Name x pos) X.env) Q E s :=
 Calls.Name_function_global I.ok.kind hg (Calls.loadGlobal_global (by rw[I.ok.glob];exact I.mod.glob.keeps I.bk) hm h) hd
theorem IB{E:Value->Shared->Prop}{pins:List (Addr×Obj)}{s:Shared}{σ:St}{H:Hp}{x:Str}{u:Value}{pos:Pos}{Q:Value->Shared->Prop}(I:Inv X pins σ H s)(hg:Gl X x)(hm:X.mg x=none)(hv:bootBuiltins x=some u)(h:Q u s)
  (hn:x≠"__name__" := by decide) (hd:(x==("__debug__" : Str))=false:=by decide):wpAny (model X.prog X.w) X.A (eval (.Name x pos) X.env) Q E s:=by
 obtain⟨mb,h1,h2⟩:=I.mod.blt;exact Calls.Name_function_global I.ok.kind hg (Calls.loadGlobal_builtin (by rw[I.ok.glob];exact I.mod.glob.keeps I.bk) hm (by rw[I.ok.blt];exact h1.keeps I.bk) ((h2 x hn).trans hv) h) hd
theorem SN{x:Str}{v:V}{u:Value}{pos:Pos}(hg:Gl X x)(hm:X.mg x=some u)(r:Be v u)(hd:(x==("__debug__" : Str))=false:=by decide):PE X (.Name x pos) (tC v) :=
 λ_ _ _ H _ I h=>Ml I hg hm ⟨v,H,I,r,h⟩ hd
theorem En{x:Str}{v:V}{u:Value}{pos:Pos}(hg:Gl X x)(hm:X.mg x=none)(hv:bootBuiltins x=some u)(r:Be v u)(hn:x≠"__name__" := by decide)(hd:(x==("__debug__" : Str))=false:=by decide):PE X (.Name x pos) (tC v) :=
 λ_ _ _ H _ I h=>IB I hg hm hv ⟨v,H,I,r,h⟩ hn hd
variable{a b:Expr}{ta tb:TE}{pos:Pos}
def PC(X:Cx)(op:CmpOp)(a b:Expr)(t:TE):Prop :=
 ∀(pins:List (Addr×Obj))(s:Shared)(σ:St)(H:Hp)(Q:VK),Inv X pins σ H s->t σ H Q ->
  wpAny (model X.prog X.w) X.A (eval a X.env) (λv s₁=>wpAny (model X.prog X.w) X.A (eval b X.env) (λu s₂=>wpAny (model X.prog X.w) X.A (compareOp op v u) (EP X pins σ Q) X.xe s₂) X.xe s₁) X.xe s
def tB(t:TE):TT:=fun σ H Q=>t σ H λx H1=>∃c,x=.bl c/\Q c H1
theorem OW{op:CmpOp}{t:TE}(h:PC X op a b t)(h1:behindInMarks op b=false:=by first|exact nobehind _ A3 A3|rfl):PT X (.Compare a [op] [b] pos) (tB t):=by
 intro pins s σ H Q I hw;refine wpAny_isTrue_Compare1 (thn (h pins s σ H _ I hw) λv s1 h1=>thn h1 λu s2 h2=>thn h2 λc s3 ⟨x,H1,I1,r1,q1⟩=>?_) h1;obtain⟨d,rfl,q⟩:=q1;cases r1;exact K6 ⟨H1,I1,q⟩
theorem CD{e:Expr}{t:TE}(h:PE X e t)(he:∀whole,isTrue e X.env whole=(do let v <-whole;standAt e.pos;holding [v] (truthy v)):=by intro _;rfl):PT X e (tB t):=by
 intro pins s σ H Q I hw;refine isTrue_plain (thn (h pins s σ H _ I hw) λv s1 ⟨x,H1,I1,r1,q1⟩=>?_) (he _);obtain⟨d,rfl,q⟩:=q1;cases r1;exact K6 ⟨H1,I1,q⟩
variable{tA tB':TT}{rest:List Expr}
def tAnd(t u:TT):TT:=fun σ H Q=>t σ H λc H1=>if c=true then u σ H1 Q else Q false H1
def tOr(t u:TT):TT:=fun σ H Q=>t σ H λc H1=>if c=true then Q true H1 else u σ H1 Q
def tNot(t:TT):TT:=fun σ H Q=>t σ H λc H1=>Q (!c) H1
theorem OV(ha:PT X a tA):PW X (.BoolOp .And [a] pos) tA:=by
 intro wh pins s σ H Q I h;refine isTrue_and (thn (ha pins s σ H Q I h) λc s1 e=>?_);cases c with
 |true=>exact isTrue_and_nil e
 |false=>exact e
theorem GE(ha:PT X a tA):PW X (.BoolOp .Or [a] pos) tA:=by
 intro wh pins s σ H Q I h;refine isTrue_or (thn (ha pins s σ H Q I h) λc s1 e=>?_);cases c with
 |false=>exact isTrue_or_nil e
 |true=>exact e
theorem Rq(ha:PT X a tA)(hb:PW X (.BoolOp .And (b::rest) pos) tB'):PW X (.BoolOp .And (a::b::rest) pos) (tAnd tA tB'):=by
 intro wh pins s σ H Q I h;refine isTrue_and (thn (ha pins s σ H _ I h) λc s1 ⟨H1,I1,q1⟩=>?_);cases c with
 |true=>exact hb wh pins s1 σ H1 Q I1 q1
 |false=>exact⟨H1,I1,q1⟩
theorem Jd(ha:PT X a tA)(hb:PW X (.BoolOp .Or (b::rest) pos) tB'):PW X (.BoolOp .Or (a::b::rest) pos) (tOr tA tB'):=by
 intro wh pins s σ H Q I h;refine isTrue_or (thn (ha pins s σ H _ I h) λc s1 ⟨H1,I1,q1⟩=>?_);cases c with
 |true=>exact⟨H1,I1,q1⟩
 |false=>exact hb wh pins s1 σ H1 Q I1 q1
theorem CK(ha:PT X a tA):PT X (.UnaryOp .Not a pos) (tNot tA):=by
 intro pins s σ H Q I h;exact isTrue_not (ha pins s σ H (λc H1=>Q (!c) H1) I h)
def tAndV(ta tb:TE):TE:=fun σ H Q=>ta σ H λx H1=>∃c,x=.bl c/\if c=true then tb σ H1 Q else Q (.bl false) H1
def tOrV(ta tb:TE):TE:=fun σ H Q=>ta σ H λx H1=>∃c,x=.bl c/\if c=true then Q (.bl true) H1 else tb σ H1 Q
def tNotV(ta:TE):TE:=fun σ H Q=>ta σ H λx H1=>∃c,x=.bl c/\Q (.bl (!c)) H1
theorem Le{op}{t:TE}(h:PE X a t):PE X (.BoolOp op [a] pos) t:=λpins s σ H Q I hw=>BoolOp_one (h pins s σ H Q I hw)
theorem Lg(ha:PE X a ta)(hb:PE X (.BoolOp .And (b::rest) pos) tb):PE X (.BoolOp .And (a::b::rest) pos) (tAndV ta tb):=by
 intro pins s σ H Q I h;refine BoolOp_and (thn (ha pins s σ H _ I h) λv s1 ⟨x,H1,I1,r1,q1⟩=>?_);obtain⟨c,rfl,q1⟩:=q1;cases r1;refine K6 ?_;cases c with
 |true=>exact hb pins s1 σ H1 Q I1 q1
 |false=>exact⟨.bl false,H1,I1,rfl,q1⟩
theorem pe_or(ha:PE X a ta)(hb:PE X (.BoolOp .Or (b::rest) pos) tb):PE X (.BoolOp .Or (a::b::rest) pos) (tOrV ta tb):=by
 intro pins s σ H Q I h;refine BoolOp_or (thn (ha pins s σ H _ I h) λv s1 ⟨x,H1,I1,r1,q1⟩=>?_);obtain⟨c,rfl,q1⟩:=q1;cases r1;refine K6 ?_;cases c with
 |false=>exact hb pins s1 σ H1 Q I1 q1
 |true=>exact⟨.bl true,H1,I1,rfl,q1⟩
theorem Vq(ha:PE X a ta):PE X (.UnaryOp .Not a pos) (tNotV ta):=by
 intro pins s σ H Q I h;refine UnaryOp_ (thn (ha pins s σ H _ I h) λv s1 ⟨x,H1,I1,r1,q1⟩=>?_);obtain⟨c,rfl,q1⟩:=q1;cases r1;exact not_of (K6 ⟨.bl (!c),H1,I1,rfl,q1⟩)
end
def SqL(K:PySem.W.Frag)(H:Hp)(a:Addr)(xs:List V):Prop :=
 Rd H a (.lst xs) \/
  ∃(o:Obj)(its:Array Value)(n:Nat),K.lookup a=some o/\o.cls=.type "list" /\ o.dict=none/\o.data=.seq its n/\its.size<=sizeLine/\AN xs its.toList
def SqT(K:PySem.W.Frag)(H:Hp)(a:Addr)(xs:List V):Prop :=
 Rd H a (.tup xs) \/
  ∃(o:Obj)(its:Array Value)(n:Nat),K.lookup a=some o/\o.cls=.type "tuple" /\ o.data=.seq its n/\its.size<=sizeLine/\AN xs its.toList
def absV:Value->Option V
 |.none=>some .non
 |.bool b=>some (.bl b)
 |.int i _=>some (.int i)
 |.str x _=>some (.str x)
 |.bytes b _=>some (.byt b)
 |.float b _=>some (.flt b)
 |.ref a=>some (.ref a)
 |.type n=>some (.ty n)
 |_=>none
theorem Be.abs{x:V}{u:Value}(r:Be x u):absV u=some x:=by
 cases x with
 |non=>cases r;rfl
 |bl _=>cases r;rfl
 |int _=>obtain⟨t,rfl⟩:=r;rfl
 |str _=>obtain⟨t,rfl⟩:=r;rfl
 |byt _=>obtain⟨t,rfl⟩:=r;rfl
 |flt _=>obtain⟨t,rfl⟩:=r;rfl
 |ref _=>cases r;rfl
 |ty _=>cases r;rfl
theorem Be.inj{x y:V}{u:Value}(r:Be x u)(q:Be y u):x=y:=X9 (r.abs.symm.trans q.abs)
theorem AN.inj:∀{xs ys:List V}{us:List Value},AN xs us->AN ys us->xs=ys
 |_,_,_,.nil,.nil=>rfl
 |_,_,_,.cons r t,.cons r' t'=>by rw[r.inj r',AN.inj t t']
section
variable{X:Cx}{pins:List (Addr×Obj)}{σ:St}{H:Hp}{s:Shared}{a:Addr}{xs ys:List V}
theorem SqL.of{K:PySem.W.Frag}(h:H a=some (.lst xs)):SqL K H a xs:=.inl (.inl h)
theorem SqT.of{K:PySem.W.Frag}(h:H a=some (.tup xs)):SqT K H a xs:=.inl (.inl h)
theorem Inv.list(I:Inv X pins σ H s)(h:SqL X.K H a xs):∃its:List Value,AN xs its/\PlainL s.heap a its.toArray/\xs.length<=sizeLine:=by
 rcases h with h|⟨o,its,n,hk,hc,hd,hs,hz,r⟩
 ·obtain⟨z,its,n,r,e⟩:=h.ok I.hok;exact⟨its,r,⟨_,n,e,rfl,rfl,rfl⟩,z⟩
 ·refine⟨its.toList,r,⟨o,n,I.kIn a o hk,hc,hd,by simpa using hs⟩,?_⟩;have e:=r.length;simp only[D9]at e;lia
theorem Inv.tuple(I:Inv X pins σ H s)(h:SqT X.K H a xs):∃its:List Value,AN xs its/\IsTup s.heap a its.toArray/\xs.length<=sizeLine:=by
 rcases h with h|⟨o,its,n,hk,hc,hs,hz,r⟩
 ·obtain⟨z,its,r,p⟩:=h.ok I.hok;exact⟨its,r,p,z⟩
 ·refine⟨its.toList,r,⟨o,I.kIn a o hk,hc,n,by simpa using hs⟩,?_⟩;have e:=r.length;simp only[D9]at e;lia
theorem Inv.list_inj(I:Inv X pins σ H s)(h:SqL X.K H a xs)(h':SqL X.K H a ys):xs=ys:=by
 obtain⟨its,r,⟨o,n,e,_,_,d⟩,_⟩:=I.list h;obtain⟨its',r',⟨o',n',e',_,_,d'⟩,_⟩:=I.list h';rw[e]at e';cases e';rw[d]at d';injection d' with d1 _
 have:its=its':=by simpa using X8 Array.toList d1
 subst this;exact r.inj r'
theorem Inv.tuple_inj(I:Inv X pins σ H s)(h:SqT X.K H a xs)(h':SqT X.K H a ys):xs=ys:=by
 obtain⟨its,r,⟨o,e,_,n,d⟩,_⟩:=I.tuple h;obtain⟨its',r',⟨o',e',_,n',d'⟩,_⟩:=I.tuple h';rw[e]at e';cases e';rw[d]at d';injection d' with d1 _
 have:its=its':=by simpa using X8 Array.toList d1
 subst this;exact r.inj r'
end
abbrev Cx.wish(X:Cx)(E:Value->Shared->Prop):Cx:={X with xe:=E}
abbrev Cx.nox(X:Cx):Cx:=X.wish λ_ _=>False
theorem Cx.Ok.wish{X:Cx}(ok:X.Ok)(E:Value->Shared->Prop):(X.wish E).Ok :=
 ⟨ok.mod,ok.kind,ok.glob,ok.blt,ok.above,ok.inj,ok.has,ok.cab,ok.hd,ok.frames,ok.stk,ok.exf,ok.bs,ok.bsz,ok.noex,ok.exfs,ok.funs,ok.frf⟩
theorem Cx.Ok.unwish{X:Cx}{E:Value->Shared->Prop}(ok:(X.wish E).Ok):X.Ok :=
 ⟨ok.mod,ok.kind,ok.glob,ok.blt,ok.above,ok.inj,ok.has,ok.cab,ok.hd,ok.frames,ok.stk,ok.exf,ok.bs,ok.bsz,ok.noex,ok.exfs,ok.funs,ok.frf⟩
section
variable{X:Cx}{pins:List (Addr×Obj)}{σ:St}{H:Hp}{s:Shared}{E:Value->Shared->Prop}
theorem Inv.wish(I:Inv X pins σ H s)(E:Value->Shared->Prop):Inv (X.wish E) pins σ H s:=⟨I.ok.wish E,I.os,I.bare,I.base,I.loc,I.cell,I.free,I.freeC,I.pin,I.hok,I.len⟩
theorem Inv.unwish(I:Inv (X.wish E) pins σ H s):Inv X pins σ H s:=⟨I.ok.unwish,I.os,I.bare,I.base,I.loc,I.cell,I.free,I.freeC,I.pin,I.hok,I.len⟩
theorem SP.unwish{D:Ja}{f:Flow}{s':Shared}(h:SP (X.wish E) pins D f s'):SP X pins D f s':=by
 cases f with
 |next=>obtain⟨σ',H',I,q⟩:=h;exact⟨σ',H',I.unwish,q⟩
 |brk=>obtain⟨σ',H',I,q⟩:=h;exact⟨σ',H',I.unwish,q⟩
 |cont=>obtain⟨σ',H',I,q⟩:=h;exact⟨σ',H',I.unwish,q⟩
 |ret u=>obtain⟨v,σ',H',I,r,q⟩:=h;exact⟨v,σ',H',I.unwish,r,q⟩
theorem PSs.nox{st:List Stmt}{t:TS}(h:PSs X.nox st t):PSs X st t:=λpins s σ H D I hw =>
 A0b (h pins s σ H D (I.wish _) hw) (λ_ _ q=>q.unwish) λ_ _ z=>False.elim z
end
section
variable{X:Cx}{st:Stmt}{rest:List Stmt}{t u:TS}{e:Expr}{te:TE}{pos:Pos}
def tNext:TS:=λD σ H=>D.nx σ H
def tSeq(t u:TS):TS:=λD σ H=>t {D with nx:=u D} σ H
theorem AF:PSs X [] tNext:=λ_ _ σ H _ I h=>A4e ⟨σ,H,I,h⟩
theorem Ac(h1:PS X st t)(h2:PSs X rest u):PSs X (st::rest) (tSeq t u):=by
 intro pins s σ H D I h;refine wpAny_execs_cons (thn (h1 pins s σ H {D with nx:=u D} I h) λf s1 q=>?_);cases f with
 |next =>
  obtain⟨σ',H',I',q⟩:=q;exact h2 pins s1 σ' H' D I' q
 |ret v=>exact q
 |brk=>exact q
 |cont=>exact q
theorem Ag(h1:PS X st t):PSs X [st] t:=by
 intro pins s σ H D I h;refine wpAny_execs_cons (thn (h1 pins s σ H D I h) λf s1 q=>?_);cases f with
 |next=>exact A4e q
 |ret v=>exact q
 |brk=>exact q
 |cont=>exact q
theorem Inv.quiet{pins:List (Addr×Obj)}{σ:St}{H:Hp}{s:Shared}(I:Inv X pins σ H s):interactive X.env=false:=by simp[interactive,I.ok.kind]
def tDrop(te:TE):TS:=λD σ H=>te σ H λ_ H1=>D.nx σ H1
theorem AZ(he:PE X e te)(hs:swapsWith e none pos.line X.env=pure false:=by rfl):PS X (.Expr e pos) (tDrop te):=by
 intro pins s σ H D I h;exact wpAny_Expr_any (thn (he pins s σ H _ I h) λv s1 ⟨x,H1,I1,r1,q1⟩=>⟨σ,H1,I1,q1⟩) I.quiet hs
def tRet(te:TE):TS:=λD σ H=>te σ H D.rt
theorem Au(he:PE X e te):PS X (.Return (some e) pos) (tRet te):=by
 intro pins s σ H D I h;exact wpAny_Return_some (thn (he pins s σ H _ I h) λv s1 ⟨x,H1,I1,r1,q1⟩=>⟨x,σ,H1,I1,r1,q1⟩)
def tIfS(c:TT)(t u:TS):TS:=λD σ H=>c σ H λb H1=>if b=true then t D σ H1 else u D σ H1
theorem AU{c:Expr}{a b:List Stmt}{tc:TT}(hc:PT X c tc)(ha:PSs X a t)(hb:PSs X b u):PS X (.If c a b pos) (tIfS tc t u):=by
 intro pins s σ H D I h;refine wpAny_If (thn (hc pins s σ H _ I h) λd s1 ⟨H1,I1,q1⟩=>?_);cases d with
 |true=>exact ha pins s1 σ H1 D I1 q1
 |false=>exact hb pins s1 σ H1 D I1 q1
def tNever:TS:=λ_ _ _=>False
theorem BO:PS X st tNever:=λ_ _ _ _ _ _ h=>h.elim
end
abbrev TG:=V->St->Hp->(St->Hp->Prop)->Prop
abbrev TGs:=List V->St->Hp->(St->Hp->Prop)->Prop
def PG(X:Cx)(target:Expr)(t:TG):Prop :=
 ∀(pins:List (Addr×Obj))(s:Shared)(σ:St)(H:Hp)(v:V)(u:Value)(Q:St->Hp->Prop),Inv X pins σ H s->Be v u->t v σ H Q ->
  wpAny (model X.prog X.w) X.A (assign target X.env u) (λ_ s'=>∃σ' H',Inv X pins σ' H' s'/\Q σ' H') X.xe s
def PGs(X:Cx)(ts:List Expr)(t:TGs):Prop :=
 ∀(pins:List (Addr×Obj))(s:Shared)(σ:St)(H:Hp)(vs:List V)(us:List Value)(Q:St->Hp->Prop),Inv X pins σ H s->AN vs us->t vs σ H Q ->
  wpAny (model X.prog X.w) X.A (assignInOrder ((assignEach ts X.env).map (·.2)) us) (λ_ s'=>∃σ' H',Inv X pins σ' H' s'/\Q σ' H') X.xe s
abbrev TSet:=V->V->V->Hp->(Hp->Prop)->Prop
def PSet(X:Cx)(t:TSet):Prop :=
 ∀(pins:List (Addr×Obj))(s:Shared)(σ:St)(H:Hp)(o i v:V)(ov iv u:Value)(Q:Hp->Prop),Inv X pins σ H s->Be o ov->Be i iv->Be v u->t o i v H Q ->
  wpAny (model X.prog X.w) X.A (setItem ov iv u) (λ_ s'=>∃H',Inv X pins σ H' s'/\Q H') X.xe s
section
variable{X:Cx}{pos:Pos}
def Nm(i:Nat):TG:=λv σ H Q=>Q (σ.set i (some v)) H
theorem AL{i:Nat}{x:Str}(hN:X.N.Nodup)(hi:X.N[i]?=some x)(hx:Loc X.env.scope x)(hf:X.fn x=true\/X.env.scope.names.lookup x=some .local:=by first|exact .inl rfl|exact .inr rfl|assumption):PG X (.Name x pos) (Nm i):=by
 intro pins s σ H v u Q I r h;exact wpAny_assign_Name (PV I hN hi hx r (λs' I'=>⟨_,H,I',h⟩) hf)
def gNil:TGs:=λvs σ H Q=>vs=[]/\Q σ H
def QF(t:TG)(u:TGs):TGs:=λvs σ H Q=>∃v r,vs=v::r/\t v σ H fun σ' H'=>u r σ' H' Q
theorem DK:PGs X [] gNil:=by
 intro pins s σ H vs us Q I r h;obtain⟨e,h⟩:=h;subst e;cases r;exact assignInOrder_nil ⟨σ,H,I,h⟩
theorem AY{e:Expr}{es:List Expr}{t:TG}{u:TGs}(h1:PG X e t)(h2:PGs X es u)
  (hs:(assignEach (e::es) X.env).map (·.2)=assign e X.env::(assignEach es X.env).map (·.2):=by rfl):PGs X (e::es) (QF t u):=by
 intro pins s σ H vs us Q I r h;obtain⟨v,vr,e1,h⟩:=h;subst e1;cases r with
 |cons r rr =>
  rw[hs];refine assignInOrder_cons (thn (h1 pins s σ H _ _ _ I r h) λ_ s1 ⟨σ1,H1,I1,q1⟩=>?_);exact h2 pins s1 σ1 H1 _ _ Q I1 rr q1
def gTup(K:PySem.W.Frag)(n:Nat)(t:TGs):TG:=λv σ H Q=>∃a xs,v=.ref a/\SqT K H a xs/\xs.length=n/\t xs σ H Q
theorem EY{es:List Expr}{k:Nat}{t:TGs}{n:Nat}(hc:X.calm=true)(h:PGs X es t)
  (hn:(assignEach es X.env).length=n:=by rfl) (hst:(assignEach es X.env).findIdx? (·.1)=none:=by rfl):PG X (.Tuple es k pos) (gTup X.K n t):=by
 intro pins s σ H v u Q I r hw;obtain⟨a,xs,e1,hq,hl,hw⟩:=hw;subst e1;cases r;obtain⟨its,rv,ht,hz⟩:=I.tuple hq;refine assign_Tuple_tuple (I.ok.hd hc) ht (by simp[hn,<-hl,rv.length]) hst λh' hx=>?_;have I1:Inv X pins σ H {s with heap:=h'}:=I.kept (t':=s.toks) λb o e=>hx b o (F9 (E9 e)) e;exact h pins _ σ H xs _ Q I1 (by simpa using rv) hw
def gSub(to ti:TE)(t:TSet):TG:=λv σ H Q=>to σ H λo H1=>ti σ H1 λi H2=>t o i v H2 λH3=>Q σ H3
theorem pg_sub{o i:Expr}{to ti:TE}{t:TSet}(ho:PE X o to)(hi:PE X i ti)(hs:PSet X t)
  (ha:∀v,assign (.Subscript o i pos) X.env v=(do
   let ov <-holding [v] (eval o X.env);let iv <-holding [v,ov] (eval i X.env)
   standAt pos
   holding [v,ov,iv] (setItem ov iv v)
   release [v,ov,iv] []):=by intro _;rfl):PG X (.Subscript o i pos) (gSub to ti t):=by
 intro pins s σ H v u Q I r h;rw[ha];refine Z0 (A1h (thn (ho pins s σ H _ I h) λov s1 ⟨x,H1,I1,r1,q1⟩=>?_));refine Z0 (A1h (thn (hi pins s1 σ H1 _ I1 q1) λiv s2 ⟨y,H2,I2,r2,q2⟩=>?_));refine Z0 (wpAny_standAt (Z0 (A1h (thn (hs pins s2 σ H2 x y v ov iv u _ I2 r1 r2 r q2) λ_ s3 ⟨H3,I3,q3⟩=>?_))));exact wpAny_release ⟨σ,H3,I3,q3⟩
def tAsg(te:TE)(g:TG):TS:=λD σ H=>te σ H λx H1=>g x σ H1 D.nx
theorem Vk{tg e:Expr}{te:TE}{g:TG}(he:PE X e te)(hg:PG X tg g)(hs:swapsWithSole [tg] e pos.line X.env=pure false:=by rfl)(hw:swappedStores [tg] e X.env=pure none:=by rfl)
  (h1:(assignEach [tg] X.env).map (·.2)=[assign tg X.env]:=by rfl):PS X (.Assign [tg] e pos) (tAsg te g):=by
 intro pins s σ H D I h;refine wpAny_Assign_stores (thn (he pins s σ H _ I h) λv s1 ⟨x,H1,I1,r1,q1⟩=>?_) hs hw;rw[h1];exact thn (hg pins s1 σ H1 x v _ I1 r1 q1) λ_ s2 q=>q
theorem Ax{i:Nat}{x:Str}{e:Expr}{te:TE}{pos':Pos}(hN:X.N.Nodup)(hi:X.N[i]?=some x)(hx:Loc X.env.scope x)(he:PE X e te)(hs:swapsWith e (some (.Name x pos')) pos.line X.env=pure false:=by rfl)(hf:X.fn x=true\/X.env.scope.names.lookup x=some .local:=by first|exact .inl rfl|exact .inr rfl|assumption) :
  PS X (.Assign [.Name x pos'] e pos) (tAsg te (Nm i)):=by
 intro pins s σ H D I h;refine wpAny_Assign_Name (thn (he pins s σ H _ I h) λv s1 ⟨y,H1,I1,r1,q1⟩=>?_) hs;exact PV I1 hN hi hx r1 (λs2 I2=>⟨_,H1,I2,q1⟩) hf
end
section
variable{X:Cx}{pos:Pos}
def tWhile(c:TT)(tb:TS):TS:=λD σ H=>∃W:Nat->St->Hp->Prop,(∃m,W m σ H)/\∀m σ H,W m σ H ->
 c σ H λb H1=>if b=true then ∃N:St->Hp->Prop,(∀σ' H',N σ' H'->∃m',m'<m/\W m' σ' H')/\tb {D with nx:=N,ct:=N,bk:=D.nx} σ H1 else D.nx σ H1
theorem Vj{c:Expr}{body:List Stmt}{tc:TT}{tb:TS}(hp:PassesOwn (model X.prog X.w) X.A X.env X.xe)(hc:PT X c tc)(hb:PSs X body tb):PS X (.While c body [] pos) (tWhile tc tb):=by
 intro pins s σ H D I h;obtain⟨W,⟨m0,w0⟩,turn⟩:=h;refine wpAny_While (codeAny_whileLoop (λn s'=>∃σ' H',Inv X pins σ' H' s'/\W n σ' H') ?_ m0 ⟨σ,H,I,w0⟩);rintro n s1 ⟨σ1,H1,I1,w1⟩;refine A1e hp (thn (hc pins s1 σ1 H1 _ I1 (turn n σ1 H1 w1)) λb s2 ⟨H2,I2,q2⟩=>?_);cases b with
 |true =>
  obtain⟨N,hN,q2⟩:=q2;rw[Z6 rfl];refine A1e hp (thn (hb pins s2 σ1 H2 _ I2 q2) λf s3 q3=>?_);cases f with
  |next =>
   obtain⟨σ3,H3,I3,n3⟩:=q3;obtain⟨m',hm,w3⟩:=hN σ3 H3 n3;exact⟨m',hm,σ3,H3,I3,w3⟩
  |cont =>
   obtain⟨σ3,H3,I3,n3⟩:=q3;obtain⟨m',hm,w3⟩:=hN σ3 H3 n3;exact⟨m',hm,σ3,H3,I3,w3⟩
  |brk=>exact q3
  |ret v=>exact q3
 |false =>
  rw[Z3 F1];exact A4e ⟨σ1,H2,I2,q2⟩
end
structure It where
 go:Nat->Hp->Prop
 yld:Nat->Hp->V->Hp->Prop
 stop:Nat->Hp->Prop
def Gm(X:Cx)(pins:List (Addr×Obj))(H:Hp)(b:Addr):Prop :=
 H b=none/\b≠X.env.locals/\b∉X.fs/\(b∈X.ex\/X.s₀.heap.objs.size<=b)/\(∀x c,X.env.cells.lookup x=some c->c≠b)/\∀p∈X.pn++pins,p.1≠b
theorem Inv.fpOk{X:Cx}{pins:List (Addr×Obj)}{σ:St}{H H':Hp}{s:Shared}{b:Addr}(I:Inv X pins σ H s)(hb:s.heap.objs.size<=b)(hn:H' b=none):Gm X pins H' b:=by
 refine⟨hn,V3 (F5 I.lt hb),I.nofs hb,.inr (D4 I.sz hb),λx c e z=>?_,λp hp z=>?_⟩
 ·obtain⟨v,q⟩:=I.cell x c e;exact absurd (F5 q.lt (by rw[z];exact hb)) (P1 _)
 ·exact absurd (F5 (E9 (I.pin p hp).1) (by rw[z];exact hb)) (P1 _)
structure NU(P:Program)(w:World)(K:PySem.W.Frag)(tg:Expr)(J:It)(fp:List Addr)(it:Addr)(tn:Nat->Heap->Prop):Prop where
 mem:it∈fp
 obj:∀i h,tn i h->∀b∈fp,∃o,h.get? b=some o/\∀v,o.data≠.cell v
 keep:∀i h h',tn i h->(∀b∈fp,∀o,h.get? b=some o->h'.get? b=some o)->tn i h'
 item:∀(X:Cx),X.prog=P->X.w=w->X.K=K->X.calm=true->∀(i:Nat)(pins:List (Addr×Obj))(s:Shared)(σ:St)(H:Hp)(E:Value->Shared->Prop),Inv X pins σ H s->(∀b∈fp,Gm X pins H b)->tn i s.heap->J.go i H ->
  wpAny (model P w) X.A (pyNext (.ref it)) (λr s1=>∃u,r=some u /\
   wpAny (model P w) X.A (letOwnedTupleGo tg (.ref it) u) (λ_ s2=>∃x H',Inv X pins σ H' s2/\Be x u/\J.yld i H x H'/\tn (i+1) s2.heap/\∀b∈fp,H' b=none) E s1) E s
 done:∀(X:Cx),X.prog=P->X.w=w->X.K=K->X.calm=true->∀(i:Nat)(pins:List (Addr×Obj))(s:Shared)(σ:St)(H:Hp)(E:Value->Shared->Prop),Inv X pins σ H s->(∀b∈fp,Gm X pins H b)->tn i s.heap->J.stop i H ->
  wpAny (model P w) X.A (pyNext (.ref it)) (λr s1=>r=none/\Inv X pins σ H s1) E s
 self:∀(A:Around)(i:Nat)(s:Shared)(Q:Value->Shared->Prop)(E:Value->Shared->Prop),tn i s.heap->Q (.ref it) s->wpAny (model P w) A (pyIter (.ref it)) Q E s
abbrev TI:=St->Hp->(It->Hp->Prop)->Prop
def PIE(X:Cx)(pins:List (Addr×Obj))(σ:St)(tg:Expr)(R:It->Hp->Prop)(itv:Value)(s2:Shared):Prop :=
 ∃(it:Addr)(fp:List Addr)(tn:Nat->Heap->Prop)(J:It)(H':Hp),itv=.ref it/\Inv X pins σ H' s2/\NU X.prog X.w X.K tg J fp it tn/\tn 0 s2.heap/\(∀b∈fp,Gm X pins H' b)/\R J H'
def PI(X:Cx)(tg iter:Expr)(wi:TI):Prop :=
 ∀(pins:List (Addr×Obj))(s:Shared)(σ:St)(H:Hp)(R:It->Hp->Prop),Inv X pins σ H s->wi σ H R ->
  wpAny (model X.prog X.w) X.A (eval iter X.env) (λv s1=>wpAny (model X.prog X.w) X.A (pyIter v) (PIE X pins σ tg R) X.xe s1) X.xe s
theorem QE{M:Model}{A:Around}{E:Value->Shared->Prop}{s:Shared}{tg:Expr}{it:Addr}{u:Value}{o:Obj}{n:String}{vs:Array Value}{Q:Unit->Shared->Prop}(ho:s.heap.get? it=some o)(hc:o.cls=.type n)(hd:o.data=.fields vs)
    (hn:["enumerate","zip","dict_itemiterator","dict_reverseitemiterator","odict_iterator","itertools.zip_longest","itertools.pairwise"].contains n=false) (hQ:Q () s):wpAny M A (letOwnedTupleGo tg (.ref it) u) Q E s:=by
  unfold letOwnedTupleGo;cases tg<;>first
    |exact X7 hQ
    | (cases u<;>first
        |exact X7 hQ
        | (refine Z0 (wpAny_load ho ?_)
           rw[hc,hd];show wpAny M A (if(["enumerate","zip","dict_itemiterator","dict_reverseitemiterator","odict_iterator","itertools.zip_longest","itertools.pairwise"].contains n && vs[0]?==some (rawInt _))=true then _ else _) Q E s;rw[Z3 (by intro h;rw[hn,Bool.false_and]at h;cases h)];exact X7 hQ))
def Itl(K:PySem.W.Frag)(a:Addr):It :=
 ⟨λi H=>∃xs x,SqL K H a xs/\xs[i]?=some x,λi H x H'=>H'=H/\∀xs,SqL K H a xs->xs[i]?=some x,λi H=>∃xs,SqL K H a xs/\xs.length<=i⟩
def Itt(K:PySem.W.Frag)(a:Addr):It :=
 ⟨λi H=>∃xs x,SqT K H a xs/\xs[i]?=some x,λi H x H'=>H'=H/\∀xs,SqT K H a xs->xs[i]?=some x,λi H=>∃xs,SqT K H a xs/\xs.length<=i⟩
def Itr(lo:Int)(n:Nat):It:=⟨λi _=>i<n,λi H x H'=>H'=H/\x=.int (lo+i),λi _=>n<=i⟩
theorem Tu{P:Program}{w:World}{K:PySem.W.Frag}{tg:Expr}(a it:Addr):NU P w K tg (Itl K a) [it] it (λi h=>h.IsListIter it a i) where
 mem:=by simp
 obj:=λi h st b hb=>by
  have e:b=it:=by simpa using hb
  subst e;obtain⟨o,e,c,d⟩:=st;exact⟨o,e,λv z=>by rw[d]at z;cases z⟩
 keep:=λi h h' st k=>st.at λo e=>k it B1 o e
 item:=by
  intro X hP hw hK hc i pins s σ H E I hf st hg;subst hP hw hK;obtain⟨xs,x,hq,hx⟩:=hg;obtain⟨its,rv,p,hz⟩:=I.list hq;obtain⟨u,hu,ru⟩:=rv.get hx;obtain⟨f0,f1,f2,f3,f4,f5⟩:=hf it B1;refine wpAny_pyNext_list_item st p.isList (x:=u) (by simpa using hu) λh' st' sb=>?_;have I1:Inv X pins σ H {s with heap:=h'}:=I.turned (t':=s.toks) (λb o hb e=>(sb.2 b hb).trans e) f0 f1 f3 f4 f5;obtain⟨o,e,c,d⟩:=id st';exact⟨u,rfl,QE (s:={s with heap:=h'}) e c d A3 ⟨x,H,I1,ru,⟨rfl,λys hy=>by rw[I.list_inj hy hq];exact hx⟩,st',λb hb=>(hf b hb).1⟩⟩
 done:=by
  intro X hP hw hK hc i pins s σ H E I hf st hg;subst hP hw hK;obtain⟨xs,hq,hx⟩:=hg;obtain⟨its,rv,p,hz⟩:=I.list hq;obtain⟨f0,f1,f2,f3,f4,f5⟩:=hf it B1;have hl:=rv.length;exact wpAny_pyNext_list_end (I.ok.hd hc) st p.isList (by simp;lia) λh' eb=>⟨rfl,I.turned (t':=s.toks) (λb o hb e=>eb b o hb e) f0 f1 f3 f4 f5⟩
 self:=λ_ _ _ _ _ st h=>wpAny_pyIter_listiter st h
theorem Rh{P:Program}{w:World}{K:PySem.W.Frag}{tg:Expr}(a it:Addr):NU P w K tg (Itt K a) [it] it (λi h=>h.IsTupleIter it a i) where
 mem:=by simp
 obj:=λi h st b hb=>by
  have e:b=it:=by simpa using hb
  subst e;obtain⟨o,e,c,d⟩:=st;exact⟨o,e,λv z=>by rw[d]at z;cases z⟩
 keep:=λi h h' st k=>st.at λo e=>k it B1 o e
 item:=by
  intro X hP hw hK hc i pins s σ H E I hf st hg;subst hP hw hK;obtain⟨xs,x,hq,hx⟩:=hg;obtain⟨its,rv,p,hz⟩:=I.tuple hq;obtain⟨u,hu,ru⟩:=rv.get hx;obtain⟨f0,f1,f2,f3,f4,f5⟩:=hf it B1;refine wpAny_pyNext_tuple_item st (show s.heap.IsTuple a its.toArray from p) (x:=u) (by simpa using hu) λh' st' sb=>?_;have I1:Inv X pins σ H {s with heap:=h'}:=I.turned (t':=s.toks) (λb o hb e=>(sb.2 b hb).trans e) f0 f1 f3 f4 f5;obtain⟨o,e,c,d⟩:=id st';exact⟨u,rfl,QE (s:={s with heap:=h'}) e c d A3 ⟨x,H,I1,ru,⟨rfl,λys hy=>by rw[I.tuple_inj hy hq];exact hx⟩,st',λb hb=>(hf b hb).1⟩⟩
 done:=by
  intro X hP hw hK hc i pins s σ H E I hf st hg;subst hP hw hK;obtain⟨xs,hq,hx⟩:=hg;obtain⟨its,rv,p,hz⟩:=I.tuple hq;obtain⟨f0,f1,f2,f3,f4,f5⟩:=hf it B1;have hl:=rv.length;exact wpAny_pyNext_tuple_end (I.ok.hd hc) st (show s.heap.IsTuple a its.toArray from p) (by simp;lia) λh' eb=>⟨rfl,I.turned (t':=s.toks) (λb o hb e=>eb b o hb e) f0 f1 f3 f4 f5⟩
 self:=λ_ _ _ _ _ st h=>wpAny_pyIter_tupleiter st h
theorem Ri{P:Program}{w:World}{K:PySem.W.Frag}{tg:Expr}(it:Addr)(lo:Int)(n:Nat):NU P w K tg (Itr lo n) [it] it (λi h=>IsRangeIter h it (lo+(i:Nat)*1) ((n:Int)-(i:Nat)) 1) where
 mem:=by simp
 obj:=λi h st b hb=>by
  have e:b=it:=by simpa using hb
  subst e;exact⟨_,st,λv z=>by
   have z':Data.fields _=Data.cell v:=z;cases z'⟩
 keep:=λi h h' st k=>k it B1 _ st
 item:=by
  intro X hP hw hK hc i pins s σ H E I hf st hg;subst hP hw hK;obtain⟨f0,f1,f2,f3,f4,f5⟩:=hf it B1;have W:=Walks.range (prog:=X.prog) (w:=X.w) (I.ok.hd hc) it lo 1 n;refine W.item i s _ _ hg st λv h' tk hv st' kk=>?_;obtain⟨t,rfl⟩:=hv;have I1:Inv X pins σ H {s with heap:=h',toks:=tk}:=I.turned (λb o hb e=>kk b o (by simpa using hb) e) f0 f1 f3 f4 f5;refine⟨_,rfl,QE (s:={s with heap:=h',toks:=tk}) (n:="range_iterator") st' rfl rfl A3 ⟨.int (lo+i),H,I1,⟨t,?_⟩,⟨rfl,rfl⟩,st',λb hb=>(hf b hb).1⟩⟩;rw[Int.mul_one]
 done:=by
  intro X hP hw hK hc i pins s σ H E I hf st hg;subst hP hw hK;obtain⟨f0,f1,f2,f3,f4,f5⟩:=hf it B1;exact wpAny_pyNext_range_end (I.ok.hd hc) st (by have:n<=i:=hg;lia) λh' eb=>⟨rfl,I.turned (t':=s.toks) (λb o hb e=>eb b o hb e) f0 f1 f3 f4 f5⟩
 self:=λ_ _ _ _ _ st h=>wpAny_pyIter_rangeiter st h
section
variable{X:Cx}{tg:Expr}
def iList(K:PySem.W.Frag)(tl:TE):TI:=fun σ H R=>tl σ H λx H1=>∃a,x=.ref a/\(∃xs,SqL K H1 a xs)/\R (Itl K a) H1
def iTup(K:PySem.W.Frag)(tl:TE):TI:=fun σ H R=>tl σ H λx H1=>∃a,x=.ref a/\(∃xs,SqT K H1 a xs)/\R (Itt K a) H1
theorem Bc{l:Expr}{tl:TE}(hl:PE X l tl):PI X tg l (iList X.K tl):=by
 intro pins s σ H R I h;refine thn (hl pins s σ H _ I h) λv s1 ⟨x,H1,I1,r1,q1⟩=>?_;obtain⟨a,e,⟨xs,hq⟩,q⟩:=q1;subst e;cases r1;obtain⟨its,rv,p,hz⟩:=I1.list hq;refine A3g p.isList ?_;refine⟨s1.heap.objs.size,[s1.heap.objs.size],_,_,H1,rfl,I1.kept (t':=s1.toks) λb o e=>D0 _ e,Tu a _,⟨_,F3 _ rfl,rfl,rfl⟩,λb hb=>?_,q⟩;have e:b=s1.heap.objs.size:=by simpa using hb
 subst e;exact I1.fpOk (C8 _) (I1.hok.fresh (C8 _))
theorem Ld{l:Expr}{tl:TE}(hl:PE X l tl):PI X tg l (iTup X.K tl):=by
 intro pins s σ H R I h;refine thn (hl pins s σ H _ I h) λv s1 ⟨x,H1,I1,r1,q1⟩=>?_;obtain⟨a,e,⟨xs,hq⟩,q⟩:=q1;subst e;cases r1;obtain⟨its,rv,p,hz⟩:=I1.tuple hq;refine wpAny_pyIter_tuple (show s1.heap.IsTuple a its.toArray from p) ?_;refine⟨s1.heap.objs.size,[s1.heap.objs.size],_,_,H1,rfl,I1.kept (t':=s1.toks) λb o e=>D0 _ e,Rh a _,⟨_,F3 _ rfl,rfl,rfl⟩,λb hb=>?_,q⟩;have e:b=s1.heap.objs.size:=by simpa using hb
 subst e;exact I1.fpOk (C8 _) (I1.hok.fresh (C8 _))
theorem Qk{pins:List (Addr×Obj)}{σ:St}{H:Hp}{s:Shared}{R:It->Hp->Prop}{E:Value->Shared->Prop}{lo hi:Int}{t u v:Tok}{tk:Nat}(I:Inv X pins σ H s)(h1:-(2^62)<=lo)(h2:lo<2^62)(h3:-(2^62)<=hi)(h4:hi<2^62)
  (q:R (Itr lo (hi-lo).toNat) H):wpAny (model X.prog X.w) X.A (pyIter (.ref s.heap.objs.size)) (PIE X pins σ tg R) E {s with heap:=s.heap.push {cls:=.type "range",data:=.fields #[.int lo t,.int hi u,.int 1 v]},toks:=tk}:=by
 refine wpAny_pyIter_range (IsRange.new ..) (small_one h1 h2 h3 h4) ?_;have I1:Inv X pins σ H {s with heap:=s.heap.push {cls:=.type "range",data:=.fields #[.int lo t,.int hi u,.int 1 v]},toks:=tk}:=I.kept λb o e=>D0 _ e;refine⟨(s.heap.push {cls:=.type "range",data:=.fields #[.int lo t,.int hi u,.int 1 v]}).objs.size,[(s.heap.push {cls:=.type "range",data:=.fields #[.int lo t,.int hi u,.int 1 v]}).objs.size],_,_,H,rfl,
  I1.kept (t':=tk) λb o e=>D0 _ e,Ri _ lo (hi-lo).toNat,?_,λb hb=>?_,q⟩
 ·have e1:lo+((0:Nat):Int)*1=lo:=by simp
  have e2:(((hi-lo).toNat:Nat):Int)-((0:Nat):Int)=Builtin.Range.rangeSize lo hi 1:=by rw[rangeSize_one];split<;>lia
  show IsRangeIter _ _ (lo+((0:Nat):Int)*1) ((((hi-lo).toNat:Nat):Int)-((0:Nat):Int)) 1;rw[e1,e2];exact F3 _ rfl
 ·have e:b=(s.heap.push {cls:=.type "range",data:=.fields #[.int lo t,.int hi u,.int 1 v]}).objs.size:=by simpa using hb
  subst e;exact I1.fpOk (C8 _) (I1.hok.fresh (C8 _))
def iRng1(ta:TA):TI:=fun σ H R=>ta σ H λvs H1=>∃j:Int,vs=[.int j]/\-(2^62)<=j/\j<2^62/\R (Itr 0 j.toNat) H1
def iRng2(ta:TA):TI:=fun σ H R=>ta σ H λvs H1=>∃i j:Int,vs=[.int i,.int j]/\(-(2^62)<=i/\i<2^62/\-(2^62)<=j/\j<2^62)/\R (Itr i (j-i).toNat) H1
theorem BR{a:Expr}{ta:TA}{p pos:Pos}(hg:Gl X "range")(hm:X.mg "range" = none)(ha:PA X [a] ta)(hs:starEach [a] X.env=[(false,eval a X.env)]:=by rfl):PI X tg (.Call (.Name "range" p) [a] [] pos) (iRng1 ta):=by
 intro pins s σ H R I h;refine Call_ (IB I hg hm boot_range (A0a (thn (ha pos pins s σ H _ I h) λus s1 ⟨vs,H1,I1,r1,q1⟩=>?_) hs rfl));obtain⟨j,e,q1,q2,q⟩:=q1;subst e;cases r1 with
 |cons r rr =>
  cases rr;obtain⟨t,rfl⟩:=r;exact call_range_1 (Qk I1 A1 A1 q1 q2 (by simpa using q))
theorem TF{a b:Expr}{ta:TA}{p pos:Pos}(hg:Gl X "range")(hm:X.mg "range" = none)(ha:PA X [a,b] ta)(hs:starEach [a,b] X.env=[(false,eval a X.env),(false,eval b X.env)]:=by rfl)(hs2:starEach [b] X.env=[(false,eval b X.env)]:=by rfl) :
  PI X tg (.Call (.Name "range" p) [a,b] [] pos) (iRng2 ta):=by
 intro pins s σ H R I h;refine Call_ (IB I hg hm boot_range (A0a (thn (ha pos pins s σ H _ I h) λus s1 ⟨vs,H1,I1,r1,q1⟩=>?_) (by rw[hs,hs2]) (by rw[hs2];rfl)));obtain⟨i,j,e,⟨q1,q2,q3,q4⟩,q⟩:=q1;subst e;cases r1 with
 |cons r rr =>
  cases rr with
  |cons r' rr =>
   cases rr;obtain⟨t,rfl⟩:=r;obtain⟨t',rfl⟩:=r';exact call_range_2 (Qk I1 q1 q2 q3 q4 q)
def tFor(wi:TI)(g:TG)(tb:TS):TS:=λD σ H=>wi σ H λJ H1=>∃W:Nat->Nat->St->Hp->Prop,(∃m,W 0 m σ H1)/\∀i m σ H,W i m σ H ->
 (J.stop i H/\D.nx σ H)\/(J.go i H/\∃N:St->Hp->Prop,(∀σ' H',N σ' H'->∃m',m'<m/\W (i+1) m' σ' H')/\∀x H',J.yld i H x H'->g x σ H' fun σ2 H2=>tb {D with nx:=N,ct:=N,bk:=D.nx} σ2 H2)
def Lb(fp:List Addr)(h:Heap):List (Addr×Obj):=fp.filterMap λb=>(h.get? b).map λo=>(b,o)
theorem GR{fp:List Addr}{h:Heap}{b:Addr}{o:Obj}(hb:b∈fp)(e:h.get? b=some o):(b,o)∈Lb fp h:=List.mem_filterMap.mpr ⟨b,hb,by rw[e];rfl⟩
theorem Od{fp:List Addr}{h:Heap}{p:Addr×Obj}(hp:p∈Lb fp h):p.1∈fp/\h.get? p.1=some p.2:=by
 obtain⟨b,hb,e⟩:=List.mem_filterMap.mp hp;cases q:h.get? b with
 |none=>rw[q]at e;cases e
 |some o =>
  rw[q]at e;have e':(b,o)=p:=X9 e;subst e';exact⟨hb,q⟩
theorem Inv.pinned{pins:List (Addr×Obj)}{σ:St}{H:Hp}{s:Shared}{fp:List Addr}(I:Inv X pins σ H s)(hf:∀b∈fp,Gm X pins H b)(ho:∀b∈fp,∃o,s.heap.get? b=some o/\∀v,o.data≠.cell v):Inv X (pins++Lb fp s.heap) σ H s :=
 I.pins_of λp hp=>(D1.mp hp).elim (λz=>I.pin p (J3 _ z)) λz=>by
  obtain⟨hb,e⟩:=Od z;obtain⟨f0,f1,f2,_⟩:=hf p.1 hb;obtain⟨o,e',d⟩:=ho p.1 hb;rw[e]at e';cases e';exact⟨e,f0,f1,f2,d⟩
theorem Inv.unpinned{pins pl:List (Addr×Obj)}{σ:St}{H:Hp}{s:Shared}(I:Inv X (pins++pl) σ H s):Inv X pins σ H s:=I.pins_of λp hp=>I.pin p (J3 _ (S3 _ hp))
theorem BE{iter:Expr}{body:List Stmt}{wi:TI}{g:TG}{tb:TS}{pos:Pos}(hp:PassesOwn (model X.prog X.w) X.A X.env X.xe)(hc:X.calm=true)(hi:PI X tg iter wi)(hg:PG X tg g)(hb:PSs X body tb)
  (hs:∀x,foldedSetIterable iter X.env x=pure x:=by intro _;rfl):PS X (.For tg iter body [] pos) (tFor wi g tb):=by
 intro pins s σ H D I h;refine wpAny_For (thn (hi pins s σ H _ I h) λv s1 h1=>thn h1 λitv s2 h2=>?_) hs;obtain⟨it,fp,tn,J,H2,e,I2,T,st2,f2,W,⟨m0,w0⟩,turn⟩:=h2;subst e;have stat:∀{H':Hp},(∀b∈fp,H' b=none)->∀b∈fp,Gm X pins H' b:=λhn b hb=>⟨hn b hb,(f2 b hb).2⟩
 refine codeAny_forLoop_any (λn s'=>∃i σ' H',Inv X pins σ' H' s'/\tn i s'.heap/\(∀b∈fp,H' b=none)/\W i n σ' H') ?_ m0 ⟨0,σ,H2,I2,st2,λb hb=>(f2 b hb).1,w0⟩;rintro n s3 ⟨i,σ3,H3,I3,st3,fr3,w3⟩;rcases turn i n σ3 H3 w3 with ⟨stop,qn⟩|⟨go,N,hN,step⟩
 ·refine A1e hp (thn (T.done X rfl rfl rfl hc i pins s3 σ3 H3 X.xe I3 (stat fr3) st3 stop) λr s4 ⟨hr,I4⟩=>?_);subst hr;exact A4e ⟨σ3,H3,I4,qn⟩
 ·refine A1e hp (thn (T.item X rfl rfl rfl hc i pins s3 σ3 H3 X.xe I3 (stat fr3) st3 go) λr s4 ⟨u,hr,h4⟩=>?_);subst hr;refine A1e hp (thn h4 λ_ s5 ⟨x,H5,I5,r5,y5,st5,fr5⟩=>?_);have I5':=I5.pinned (stat fr5) (T.obj _ _ st5);refine A1e hp (thn (hg _ s5 σ3 H5 x u _ I5' r5 (step x H5 y5)) λ_ s6 ⟨σ6,H6,I6,q6⟩=>?_);refine A1e hp (thn (hb _ s6 σ6 H6 _ I6 q6) λf s7 q7=>?_);have again:∀{σ7:St}{H7:Hp},Inv X (pins++Lb fp s5.heap) σ7 H7 s7->N σ7 H7->∃m,m<n/\∃i σ' H',Inv X pins σ' H' s7/\tn i s7.heap/\(∀b∈fp,H' b=none)/\W i m σ' H':=λ{σ7 H7} I7 n7=>by
   obtain⟨m',hm,w7⟩:=hN σ7 H7 n7;refine⟨m',hm,i+1,σ7,H7,I7.unpinned,T.keep _ _ _ st5 λb hb o e=>(I7.pin (b,o) (J3 _ (J3 _ (GR hb e)))).1,λb hb=>?_,w7⟩;obtain⟨o,e,d⟩:=T.obj _ _ st5 b hb;exact(I7.pin (b,o) (J3 _ (J3 _ (GR hb e)))).2.1
  cases f with
  |next=>obtain⟨σ7,H7,I7,n7⟩:=q7;exact again I7 n7
  |cont=>obtain⟨σ7,H7,I7,n7⟩:=q7;exact again I7 n7
  |brk=>obtain⟨σ7,H7,I7,q7⟩:=q7;exact⟨σ7,H7,I7.unpinned,q7⟩
  |ret v=>obtain⟨x7,σ7,H7,I7,r7,q7⟩:=q7;exact⟨x7,σ7,H7,I7.unpinned,r7,q7⟩
end
theorem Cw{K:PySem.W.Frag}{a:Addr}{xs:List V}{g:TG}{tb:TS}{D:Ja}{σ:St}{H:Hp}(Pv:Nat->St->Hp->Prop)(h0:Pv 0 σ H)(hl:∀i σ H,i<=xs.length->Pv i σ H->SqL K H a xs)
  (hs:∀i x σ H,xs[i]?=some x->Pv i σ H->g x σ H fun σ2 H2=>tb {D with nx:=Pv (i+1),ct:=Pv (i+1),bk:=D.nx} σ2 H2) (hd:∀σ H,Pv xs.length σ H->D.nx σ H) :
  ∃W:Nat->Nat->St->Hp->Prop,(∃m,W 0 m σ H)/\∀i m σ H,W i m σ H ->
   ((Itl K a).stop i H/\D.nx σ H)\/((Itl K a).go i H/\∃N:St->Hp->Prop,(∀σ' H',N σ' H'->∃m',m'<m/\W (i+1) m' σ' H')/\∀x H',(Itl K a).yld i H x H'->g x σ H' fun σ2 H2=>tb {D with nx:=N,ct:=N,bk:=D.nx} σ2 H2):=by
 refine⟨λi m σ H=>m=xs.length-i/\i<=xs.length/\Pv i σ H,⟨xs.length,by simp,J1 _,h0⟩,?_⟩;rintro i m σ H ⟨rfl,hi,p⟩;have q:=hl i σ H hi p;by_cases hlt:i<xs.length
 ·refine .inr ⟨⟨xs,xs[i],q,by simp[hlt]⟩,Pv (i+1),fun σ' H' p'=>⟨xs.length-(i+1),by lia,rfl,hlt,p'⟩,λx H' y=>?_⟩;obtain⟨e,y⟩:=y;subst e;exact hs i x σ _ (y xs q) p
 ·have e:i=xs.length:=by lia
  subst e;exact .inl ⟨⟨xs,q,C8 _⟩,hd σ H p⟩
theorem Td{K:PySem.W.Frag}{a:Addr}{xs:List V}{g:TG}{tb:TS}{D:Ja}{σ:St}{H:Hp}(Pv:Nat->St->Hp->Prop)(h0:Pv 0 σ H)(hl:∀i σ H,i<=xs.length->Pv i σ H->SqT K H a xs)
  (hs:∀i x σ H,xs[i]?=some x->Pv i σ H->g x σ H fun σ2 H2=>tb {D with nx:=Pv (i+1),ct:=Pv (i+1),bk:=D.nx} σ2 H2) (hd:∀σ H,Pv xs.length σ H->D.nx σ H) :
  ∃W:Nat->Nat->St->Hp->Prop,(∃m,W 0 m σ H)/\∀i m σ H,W i m σ H ->
   ((Itt K a).stop i H/\D.nx σ H)\/((Itt K a).go i H/\∃N:St->Hp->Prop,(∀σ' H',N σ' H'->∃m',m'<m/\W (i+1) m' σ' H')/\∀x H',(Itt K a).yld i H x H'->g x σ H' fun σ2 H2=>tb {D with nx:=N,ct:=N,bk:=D.nx} σ2 H2):=by
 refine⟨λi m σ H=>m=xs.length-i/\i<=xs.length/\Pv i σ H,⟨xs.length,by simp,J1 _,h0⟩,?_⟩;rintro i m σ H ⟨rfl,hi,p⟩;have q:=hl i σ H hi p;by_cases hlt:i<xs.length
 ·refine .inr ⟨⟨xs,xs[i],q,by simp[hlt]⟩,Pv (i+1),fun σ' H' p'=>⟨xs.length-(i+1),by lia,rfl,hlt,p'⟩,λx H' y=>?_⟩;obtain⟨e,y⟩:=y;subst e;exact hs i x σ _ (y xs q) p
 ·have e:i=xs.length:=by lia
  subst e;exact .inl ⟨⟨xs,q,C8 _⟩,hd σ H p⟩
theorem CV{lo:Int}{n:Nat}{g:TG}{tb:TS}{D:Ja}{σ:St}{H:Hp}(Pv:Nat->St->Hp->Prop)(h0:Pv 0 σ H)
  (hs:∀i σ H,i<n->Pv i σ H->g (.int (lo+i)) σ H fun σ2 H2=>tb {D with nx:=Pv (i+1),ct:=Pv (i+1),bk:=D.nx} σ2 H2) (hd:∀σ H,Pv n σ H->D.nx σ H) :
  ∃W:Nat->Nat->St->Hp->Prop,(∃m,W 0 m σ H)/\∀i m σ H,W i m σ H ->
   ((Itr lo n).stop i H/\D.nx σ H)\/((Itr lo n).go i H/\∃N:St->Hp->Prop,(∀σ' H',N σ' H'->∃m',m'<m/\W (i+1) m' σ' H')/\∀x H',(Itr lo n).yld i H x H'->g x σ H' fun σ2 H2=>tb {D with nx:=N,ct:=N,bk:=D.nx} σ2 H2):=by
 refine⟨λi m σ H=>m=n-i/\i<=n/\Pv i σ H,⟨n,by simp,J1 _,h0⟩,?_⟩;rintro i m σ H ⟨rfl,hi,p⟩;by_cases hlt:i<n
 ·refine .inr ⟨hlt,Pv (i+1),fun σ' H' p'=>⟨n-(i+1),by lia,rfl,hlt,p'⟩,λx H' y=>?_⟩;obtain⟨e,y⟩:=y;subst e y;exact hs i σ _ hlt p
 ·have e:i=n:=by lia
  subst e;exact .inl ⟨C8 _,hd σ H p⟩
abbrev R2:=V->V->Hp->VK->Prop
def OpR(X:Cx)(f:Value->Value->Sem Value)(r:R2):Prop :=
 ∀(pins:List (Addr×Obj))(s:Shared)(σ:St)(H:Hp)(x y:V)(v u:Value)(Q:VK),Inv X pins σ H s->Be x v->Be y u->r x y H Q ->
  wpAny (model X.prog X.w) X.A (f v u) (EP X pins σ Q) X.xe s
def UnR(X:Cx)(f:Value->Sem Value)(r:V->Hp->VK->Prop):Prop :=
 ∀(pins:List (Addr×Obj))(s:Shared)(σ:St)(H:Hp)(x:V)(v:Value)(Q:VK),Inv X pins σ H s->Be x v->r x H Q ->
  wpAny (model X.prog X.w) X.A (f v) (EP X pins σ Q) X.xe s
def Fy(X:Cx)(f:Value)(r:List V->Hp->VK->Prop):Prop :=
 ∀(pins:List (Addr×Obj))(s:Shared)(σ:St)(H:Hp)(xs:List V)(us:List Value)(Q:VK),Inv X pins σ H s->AN xs us->r xs H Q ->
  wpAny (model X.prog X.w) X.A (call f us) (EP X pins σ Q) X.xe s
def tOp(r:R2)(ta tb:TE):TE:=fun σ H Q=>ta σ H λx H1=>tb σ H1 λy H2=>r x y H2 Q
def tUn(r:V->Hp->VK->Prop)(ta:TE):TE:=fun σ H Q=>ta σ H λx H1=>r x H1 Q
def rI(C:Int->Int->Prop)(g:Int->Int->V):R2:=λx y H Q=>∃i j,x=.int i/\y=.int j/\C i j/\Q (g i j) H
def rI0(g:Int->Int->V):R2:=λx y H Q=>∃i j,x=.int i/\y=.int j/\Q (g i j) H
def rU(g:Int->V):V->Hp->VK->Prop:=λx H Q=>∃i,x=.int i/\Q (g i) H
section
variable{X:Cx}{a b c:Expr}{ta tb tc:TE}{pos:Pos}
theorem binT(ha:PE X a ta)(hb:PE X b tb){pins:List (Addr×Obj)}{s:Shared}{σ:St}{H:Hp}{R:V->V->Hp->Prop}(I:Inv X pins σ H s)
  (h:ta σ H λx H1=>tb σ H1 λy H2=>R x y H2) {Q:Value->Shared->Prop} {f:Value->Value->Sem Value}
  (hf:∀v u s2 x y H2,Inv X pins σ H2 s2->Be x v->Be y u->R x y H2->wpAny (model X.prog X.w) X.A (f v u) Q X.xe s2) :
  wpAny (model X.prog X.w) X.A (eval a X.env) (λv s₁=>wpAny (model X.prog X.w) X.A (eval b X.env) (λu s₂=>wpAny (model X.prog X.w) X.A (f v u) Q X.xe s₂) X.xe s₁) X.xe s:=by
 refine thn (ha pins s σ H _ I h) λv s1 ⟨x,H1,I1,r1,q1⟩=>?_;refine thn (hb pins s1 σ H1 _ I1 q1) λu s2 ⟨y,H2,I2,r2,q2⟩=>?_;exact hf v u s2 x y H2 I2 r1 r2 q2
theorem AK{op:Operator}{r:R2}(ho:OpR X (binaryOp op) r)(ha:PE X a ta)(hb:PE X b tb):PE X (.BinOp a op b pos) (tOp r ta tb):=by
 intro pins s σ H Q I h;exact wpAny_BinOp (binT ha hb I h λv u s2 x y H2 I2 rx ry q=>ho pins s2 σ H2 x y v u Q I2 rx ry q)
theorem MO{op:UnaryOp}{r:V->Hp->VK->Prop}(ho:UnR X (unaryOp op) r)(ha:PE X a ta):PE X (.UnaryOp op a pos) (tUn r ta):=by
 intro pins s σ H Q I h;exact UnaryOp_ (thn (ha pins s σ H _ I h) λv s1 ⟨x,H1,I1,r1,q1⟩=>ho pins s1 σ H1 x v Q I1 r1 q1)
theorem opI{f:Value->Value->Sem Value}{C:Int->Int->Prop}{g:Int->Int->Int}
  (rule:∀(i j:Int)(t u:Tok)(s:Shared)(Q:Value->Shared->Prop)(E:Value->Shared->Prop),C i j->Q (.int (g i j) s.toks) {s with toks:=s.toks+1}->wpAny (model X.prog X.w) X.A (f (.int i t) (.int j u)) Q E s) :
  OpR X f (rI C λi j=>.int (g i j)):=by
 intro pins s σ H x y v u Q I rx ry h;obtain⟨i,j,rfl,rfl,hc,q⟩:=h;obtain⟨t,rfl⟩:=rx;obtain⟨t',rfl⟩:=ry;exact rule i j t t' s _ _ hc ⟨.int (g i j),H,I.tok _,⟨_,rfl⟩,q⟩
theorem opI0{f:Value->Value->Sem Value}{g:Int->Int->Int}
  (rule:∀(i j:Int)(t u:Tok)(s:Shared)(Q:Value->Shared->Prop)(E:Value->Shared->Prop),Q (.int (g i j) s.toks) {s with toks:=s.toks+1}->wpAny (model X.prog X.w) X.A (f (.int i t) (.int j u)) Q E s) :
  OpR X f (rI0 λi j=>.int (g i j)):=by
 intro pins s σ H x y v u Q I rx ry h;obtain⟨i,j,rfl,rfl,q⟩:=h;obtain⟨t,rfl⟩:=rx;obtain⟨t',rfl⟩:=ry;exact rule i j t t' s _ _ ⟨.int (g i j),H,I.tok _,⟨_,rfl⟩,q⟩
theorem opB0{f:Value->Value->Sem Value}{g:Int->Int->Bool}
  (rule:∀(i j:Int)(t u:Tok)(s:Shared)(Q:Value->Shared->Prop)(E:Value->Shared->Prop),Q (.bool (g i j)) s->wpAny (model X.prog X.w) X.A (f (.int i t) (.int j u)) Q E s) :
  OpR X f (rI0 λi j=>.bl (g i j)):=by
 intro pins s σ H x y v u Q I rx ry h;obtain⟨i,j,rfl,rfl,q⟩:=h;obtain⟨t,rfl⟩:=rx;obtain⟨t',rfl⟩:=ry;exact rule i j t t' s _ _ ⟨.bl (g i j),H,I,rfl,q⟩
def CDiv(i j:Int):Prop:=0<j/\j<1073741824
def CPow(i j:Int):Prop:=0<=j/\j<=1000000/\i.natAbs<2^64
def CMul(i j:Int):Prop:=(-(2^64)<i/\i<2^64)\/(-(2^64)<j/\j<2^64)
theorem CMul.ok{i j:Int}(h:CMul i j):IntMulOk i j:=by
 rcases h with ⟨h1,h2⟩|⟨h1,h2⟩
 ·exact .of_left (intBits_le_64 h1 h2)
 ·exact .of_right (intBits_le_64 h1 h2)
theorem Rg(k:Nat):(0:Int)<=2^k:=by
 rw[two_pow_cast];exact Int.natCast_nonneg _
theorem Bo:OpR X (binaryOp .Add) (rI0 λi j=>.int (i+j)):=opI0 λ_ _ _ _ _ _ _ q=>add_int q
theorem Cd:OpR X (binaryOp .Sub) (rI0 λi j=>.int (i-j)):=opI0 λ_ _ _ _ _ _ _ q=>sub_int q
theorem Ru:OpR X (binaryOp .Mult) (rI CMul λi j=>.int (i*j)):=opI λ_ _ _ _ _ _ _ hc q=>mul_int q hc.ok
theorem IQ:OpR X (binaryOp .FloorDiv) (rI CDiv λi j=>.int (i/j)):=opI λi j _ _ _ _ _ hc q=>by
 have h1:(0:Int)<j:=hc.1;have h2:j<1073741824:=hc.2;exact floordiv_int A1 (by rw[Int.fdiv_eq_ediv_of_nonneg i A1];exact q) (.inl (PyProof.noPylong_small A1))
theorem BU:OpR X (binaryOp .Mod) (rI (λ_ j=>0<j) λi j=>.int (i%j)):=opI λi j _ _ _ _ _ hc q=>by
 have h1:(0:Int)<j:=hc;exact mod_int' A1 (by rw[Int.fmod_eq_emod_of_nonneg i A1];exact q)
theorem op_shl:OpR X (binaryOp .LShift) (rI CPow λi j=>.int (i*2^j.toNat)):=opI λ_ _ _ _ _ _ _ hc q=>lshift_int_small hc.1 hc.2.1 hc.2.2 q
theorem Vu:OpR X (binaryOp .RShift) (rI (λ_ j=>0<=j) λi j=>.int (i/2^j.toNat)):=opI λi j _ _ _ _ _ hc q =>
 rshift_int hc (by rw[Int.fdiv_eq_ediv_of_nonneg i (Rg _)];exact q)
theorem Vy:OpR X (binaryOp .BitAnd) (rI0 λi j=>.int (Builtin.bitAnd i j)):=opI0 λ_ _ _ _ _ _ _ q=>and_int q
theorem unI{f:Value->Sem Value}{g:Int->Int}
  (rule:∀(i:Int)(t:Tok)(s:Shared)(Q:Value->Shared->Prop)(E:Value->Shared->Prop),Q (.int (g i) s.toks) {s with toks:=s.toks+1}->wpAny (model X.prog X.w) X.A (f (.int i t)) Q E s) :
  UnR X f (rU λi=>.int (g i)):=by
 intro pins s σ H x v Q I rx h;obtain⟨i,rfl,q⟩:=h;obtain⟨t,rfl⟩:=rx;exact rule i t s _ _ ⟨.int (g i),H,I.tok _,⟨_,rfl⟩,q⟩
theorem Jh:UnR X (unaryOp .USub) (rU λi=>.int (-i)):=unI λ_ _ _ _ _ q=>neg_int q
end
def scal:V->V->Bool
 |.non,.non=>true|.non,.int _=>true|.int _,.non=>true|.non,.bl _=>true|.bl _,.non=>true|.non,.str _=>true|.str _,.non=>true
 |.int _,.int _=>true|.bl _,.bl _=>true|.str _,.str _=>true|.byt _,.byt _=>true
 |.int _,.str _=>true|.str _,.int _=>true|.bl _,.str _=>true|.str _,.bl _=>true
 |_,_=>false
def rEq:R2:=λx y H Q=>scal x y=true/\Q (.bl (decide (x=y))) H
def rNe:R2:=λx y H Q=>scal x y=true/\Q (.bl (!decide (x=y))) H
theorem IT{i j:Int}:decide (V.int i=V.int j)=(i==j):=by
 rw[P4];simp
theorem Wk{i j:Bool}:decide (V.bl i=V.bl j)=(i==j):=by
 rw[P4];simp
theorem Tf{i j:Str}:decide (V.str i=V.str j)=(i==j):=by
 rw[P4];simp
theorem Tg{i j:Array UInt8}:decide (V.byt i=V.byt j)=(i.toList==j.toList):=by
 rw[P4];cases i;cases j;simp
section
variable{X:Cx}{a b c:Expr}{ta tb tc:TE}{pos:Pos}
theorem Bg{pins:List (Addr×Obj)}{σ:St}{H:Hp}{s:Shared}{Q:VK}{k k':Bool}(I:Inv X pins σ H s)(q:Q (.bl k) H)(e:k=k'):EP X pins σ Q (.bool k') s:=by
 subst e;exact⟨.bl k,H,I,rfl,q⟩
theorem Ds:OpR X (compareOp .Eq) rEq:=by
 intro pins s σ H x y v u Q I rx ry h;obtain⟨hs,q⟩:=h;cases x with
 |non =>
  cases rx;cases y with
  |non=>cases ry;exact PySem.EqNone.eq_none_none (Bg I q B1)
  |bl j=>cases ry;exact PySem.EqNone.eq_none_bool (Bg I q B1)
  |int j=>obtain⟨t',rfl⟩:=ry;exact PySem.EqNone.eq_none_int (Bg I q B1)
  |str j=>obtain⟨t',rfl⟩:=ry;exact PySem.EqNone.eq_none_str (Bg I q B1)
  |_=>exact absurd (show false=true from hs) F1
 |bl i =>
  cases rx;cases y with
  |non=>cases ry;exact PySem.EqNone.eq_bool_none (Bg I q B1)
  |bl j=>cases ry;exact eq_bool (Bg I q Wk)
  |str j=>obtain⟨t',rfl⟩:=ry;exact PySem.EqMixed.eq_bool_str (Bg I q B1)
  |_=>exact absurd (show false=true from hs) F1
 |int i =>
  obtain⟨t,rfl⟩:=rx;cases y with
  |non=>cases ry;exact PySem.EqNone.eq_int_none (Bg I q B1)
  |int j=>obtain⟨t',rfl⟩:=ry;exact eq_int (Bg I q IT)
  |str j=>obtain⟨t',rfl⟩:=ry;exact PySem.EqMixed.eq_int_str (Bg I q B1)
  |_=>exact absurd (show false=true from hs) F1
 |str i =>
  obtain⟨t,rfl⟩:=rx;cases y with
  |non=>cases ry;exact PySem.EqNone.eq_str_none (Bg I q B1)
  |bl j=>cases ry;exact PySem.EqMixed.eq_str_bool (Bg I q B1)
  |int j=>obtain⟨t',rfl⟩:=ry;exact PySem.EqMixed.eq_str_int (Bg I q B1)
  |str j=>obtain⟨t',rfl⟩:=ry;exact eq_str (Bg I q Tf)
  |_=>exact absurd (show false=true from hs) F1
 |byt i =>
  obtain⟨t,rfl⟩:=rx;cases y with
  |byt j=>obtain⟨t',rfl⟩:=ry;exact PySem.W.eq_bytes (Bg I q Tg)
  |_=>exact absurd (show false=true from hs) F1
 |_=>cases y<;>exact absurd (show false=true from hs) F1
theorem Ia:OpR X (compareOp .NotEq) rNe:=by
 intro pins s σ H x y v u Q I rx ry h;obtain⟨hs,q⟩:=h;cases x with
 |non =>
  cases rx;cases y with
  |non=>cases ry;exact PySem.EqNone.ne_none_none (Bg I q B1)
  |bl j=>cases ry;exact PySem.EqNone.ne_none_bool (Bg I q B1)
  |int j=>obtain⟨t',rfl⟩:=ry;exact PySem.EqNone.ne_none_int (Bg I q B1)
  |str j=>obtain⟨t',rfl⟩:=ry;exact PySem.EqNone.ne_none_str (Bg I q B1)
  |_=>exact absurd (show false=true from hs) F1
 |bl i =>
  cases rx;cases y with
  |non=>cases ry;exact PySem.EqNone.ne_bool_none (Bg I q B1)
  |bl j=>cases ry;exact ne_bool (Bg I q (X8 not Wk))
  |str j=>obtain⟨t',rfl⟩:=ry;exact PySem.EqMixed.ne_bool_str (Bg I q B1)
  |_=>exact absurd (show false=true from hs) F1
 |int i =>
  obtain⟨t,rfl⟩:=rx;cases y with
  |non=>cases ry;exact PySem.EqNone.ne_int_none (Bg I q B1)
  |int j=>obtain⟨t',rfl⟩:=ry;exact ne_int (Bg I q (X8 not IT))
  |str j=>obtain⟨t',rfl⟩:=ry;exact PySem.EqMixed.ne_int_str (Bg I q B1)
  |_=>exact absurd (show false=true from hs) F1
 |str i =>
  obtain⟨t,rfl⟩:=rx;cases y with
  |non=>cases ry;exact PySem.EqNone.ne_str_none (Bg I q B1)
  |bl j=>cases ry;exact PySem.EqMixed.ne_str_bool (Bg I q B1)
  |int j=>obtain⟨t',rfl⟩:=ry;exact PySem.EqMixed.ne_str_int (Bg I q B1)
  |str j=>obtain⟨t',rfl⟩:=ry;exact ne_str (Bg I q (X8 not Tf))
  |_=>exact absurd (show false=true from hs) F1
 |byt i =>
  obtain⟨t,rfl⟩:=rx;cases y with
  |byt j=>obtain⟨t',rfl⟩:=ry;exact PySem.W.ne_bytes (Bg I q (X8 not Tg))
  |_=>exact absurd (show false=true from hs) F1
 |_=>cases y<;>exact absurd (show false=true from hs) F1
theorem JE:OpR X (compareOp .Lt) (rI0 λi j=>.bl (decide (i<j))):=opB0 λ_ _ _ _ _ _ _ q=>lt_int q
theorem MS:OpR X (compareOp .LtE) (rI0 λi j=>.bl (decide (i<=j))):=opB0 λ_ _ _ _ _ _ _ q=>le_int q
theorem Vx:OpR X (compareOp .Gt) (rI0 λi j=>.bl (decide (j<i))):=opB0 λ_ _ _ _ _ _ _ q=>gt_int q
theorem TK:OpR X (compareOp .In) (λx y H Q=>∃i j,x=.str i/\y=.str j/\Q (.bl (!(Builtin.Str.occurrences j i 0 j.length 1).isEmpty)) H):=by
 intro pins s σ H x y v u Q I rx ry h;obtain⟨i,j,rfl,rfl,q⟩:=h;obtain⟨t,rfl⟩:=rx;obtain⟨t',rfl⟩:=ry;exact in_str (Bg I q rfl)
theorem MT:OpR X (compareOp .Is) (λx y H Q=>y=.non/\Q (.bl (decide (x=.non))) H):=by
 intro pins s σ H x y v u Q I rx ry h;obtain⟨rfl,q⟩:=h;cases ry;refine is_none_gen (Bg I q ?_);cases x<;>first
  | (cases rx;rfl)
  | (obtain⟨t,rfl⟩:=rx;rfl)
theorem op_notN:OpR X (compareOp .IsNot) (λx y H Q=>y=.non/\Q (.bl (!decide (x=.non))) H):=by
 intro pins s σ H x y v u Q I rx ry h;obtain⟨rfl,q⟩:=h;cases ry;refine isnot_none_gen (Bg I q ?_);cases x<;>first
  | (cases rx;rfl)
  | (obtain⟨t,rfl⟩:=rx;rfl)
theorem JD:OpR X (compareOp .NotIn) (λx y H Q=>∃i j,x=.str i/\y=.str j/\Q (.bl (!(!(Builtin.Str.occurrences j i 0 j.length 1).isEmpty))) H):=by
 intro pins s σ H x y v u Q I rx ry h;obtain⟨i,j,rfl,rfl,q⟩:=h;obtain⟨t,rfl⟩:=rx;obtain⟨t',rfl⟩:=ry;exact notIn_str (Bg I q rfl)
theorem AM(b:Expr){op:CmpOp}(h:op≠.In:=by decide)(h2:op≠.NotIn:=by decide):behindInMarks op b=false:=by
 have e1:(op==CmpOp.In)=false:=by cases op<;>first|rfl|exact absurd rfl h
 have e2:(op==CmpOp.NotIn)=false:=by cases op<;>first|rfl|exact absurd rfl h2
 cases b<;>simp[behindInMarks,e1,e2]
theorem EG{op:CmpOp}{r:R2}(ho:OpR X (compareOp op) r)(ha:PE X a ta)(hb:PE X b tb)(hm:behindInMarks op b=false):PE X (.Compare a [op] [b] pos) (tOp r ta tb):=by
 intro pins s σ H Q I h;exact wpAny_Compare1 (binT ha hb I h λv u s2 x y H2 I2 rx ry q=>ho pins s2 σ H2 x y v u Q I2 rx ry q) hm
def tTest(t:TE):TT:=fun σ H Q=>t σ H λx H'=>∃k,x=.bl k/\Q k H'
theorem AI{op:CmpOp}{r:R2}(ho:OpR X (compareOp op) r)(ha:PE X a ta)(hb:PE X b tb)(hm:behindInMarks op b=false):PT X (.Compare a [op] [b] pos) (tTest (tOp r ta tb)):=by
 intro pins s σ H Q I h;refine wpAny_isTrue_Compare1 (thn (ha pins s σ H _ I h) λv s1 ⟨x,H1,I1,r1,q1⟩=>thn (hb pins s1 σ H1 _ I1 q1) λu s2 ⟨y,H2,I2,r2,q2⟩ =>
  thn (ho pins s2 σ H2 x y v u _ I2 r1 r2 q2) λc s3 ⟨z,H3,I3,r3,k,e,q3⟩=>?_) hm
 subst e;cases r3;exact K6 ⟨H3,I3,q3⟩
def UP(r r':R2)(ta tb tc:TE):TE:=fun σ H Q=>ta σ H λx H1=>tb σ H1 λy H2=>r x y H2 λz H3=>∃k,z=.bl k /\
 (if k=true then tc σ H3 λw' H4=>r' y w' H4 Q else Q (.bl false) H3)
theorem Vs{op op':CmpOp}{r r':R2}(ho:OpR X (compareOp op) r)(ho':OpR X (compareOp op') r')(ha:PE X a ta)(hb:PE X b tb)(hc:PE X c tc)
  (hm:lastMarks [op,op'] [b,c]=false:=by with_unfolding_all rfl):PE X (.Compare a [op,op'] [b,c] pos) (UP r r' ta tb tc):=by
 intro pins s σ H Q I h;refine Compare_chain (thn (ha pins s σ H _ I h) λv s1 ⟨x,H1,I1,r1,q1⟩=>chain_link (thn (hb pins s1 σ H1 _ I1 q1) λu s2 ⟨y,H2,I2,r2,q2⟩ =>
  thn (ho pins s2 σ H2 x y v u _ I2 r1 r2 q2) λd s3 ⟨z,H3,I3,r3,k,e,q3⟩=>?_)) hm
 subst e;cases r3;refine K6 ?_;cases k with
 |false=>exact ite_ff ⟨.bl false,H3,I3,rfl,q3⟩
 |true=>exact ite_tt (chain_last (thn (hc pins s3 σ H3 _ I3 q3) λw' s4 ⟨z',H4,I4,r4,q4⟩=>ho' pins s4 σ H4 y z' u w' Q I4 r2 r4 q4))
theorem MN{op op':CmpOp}{r r':R2}(ho:OpR X (compareOp op) r)(ho':OpR X (compareOp op') r')(ha:PE X a ta)(hb:PE X b tb)(hc:PE X c tc)
  (hm:lastMarks [op,op'] [b,c]=false:=by with_unfolding_all rfl):PT X (.Compare a [op,op'] [b,c] pos) (tTest (UP r r' ta tb tc)):=by
 intro pins s σ H Q I h;refine isTrue_chain (thn (ha pins s σ H _ I h) λv s1 ⟨x,H1,I1,r1,q1⟩=>test_link (thn (hb pins s1 σ H1 _ I1 q1) λu s2 ⟨y,H2,I2,r2,q2⟩ =>
  thn (ho pins s2 σ H2 x y v u _ I2 r1 r2 q2) λd s3 ⟨z,H3,I3,r3,k,e,q3⟩=>?_)) hm
 subst e;cases r3;refine K6 ?_;cases k with
 |false =>
  obtain⟨k',e',q'⟩:=q3;cases e';exact ite_ff ⟨H3,I3,q'⟩
 |true =>
  refine ite_tt (test_last (thn (hc pins s3 σ H3 _ I3 q3) λw' s4 ⟨z',H4,I4,r4,q4⟩=>thn (ho' pins s4 σ H4 y z' u w' _ I4 r2 r4 q4) λd' s5 ⟨z2,H5,I5,r5,k2,e2,q5⟩=>?_));subst e2;cases r5;exact K6 ⟨H5,I5,q5⟩
theorem Lw:(sizeLine:Nat)<2^63:=by rw[sizeLine_eq];decide
theorem MU:OpR X (binaryOp .Add) (λx y H Q=>∃i j,x=.str i/\y=.str j/\i.length+j.length<=sizeLine/\Q (.str (i++j)) H):=by
 intro pins s σ H x y v u Q I rx ry h;obtain⟨i,j,rfl,rfl,hz,q⟩:=h;obtain⟨t,rfl⟩:=rx;obtain⟨t',rfl⟩:=ry;exact add_str (λt' tk=>⟨.str (i++j),H,I.tok _,⟨_,rfl⟩,q⟩) hz
theorem LF{x:V}{us:List Value}(r:AN [x] us):∃u,us=[u]/\Be x u:=by
 cases r with
 |cons r1 r2=>cases r2;exact⟨_,rfl,r1⟩
theorem vals2{x y:V}{us:List Value}(r:AN [x,y] us):∃u w',us=[u,w']/\Be x u/\Be y w':=by
 cases r with
 |cons r1 r2 =>
  cases r2 with
  |cons r3 r4=>cases r4;exact⟨_,_,rfl,r1,r3⟩
theorem Uy(hc:X.calm=true):Fy X (.builtin "min") (λxs H Q=>∃i j,xs=[.int i,.int j]/\Q (.int (if j<i then j else i)) H):=by
 intro pins s σ H xs us Q I r h;obtain⟨i,j,rfl,q⟩:=h;obtain⟨u,w',rfl,⟨t,rfl⟩,⟨t',rfl⟩⟩:=vals2 r;refine min_two_ints (I.ok.hd hc) λh' tk k=>⟨_,H,I.kept k,?_,q⟩
 by_cases hj:j<i
 ·rw[Z6 hj,Z6 hj];exact⟨_,rfl⟩
 ·rw[Z3 hj,Z3 hj];exact⟨_,rfl⟩
theorem UA:Fy X (.type "int") (λxs H Q=>(∃i,xs=[.int i]/\Q (.int i) H)\/∃k,xs=[.bl k]/\Q (.int (if k then 1 else 0)) H):=by
 intro pins s σ H xs us Q I r h;rcases h with ⟨i,rfl,q⟩|⟨k,rfl,q⟩
 ·obtain⟨u,rfl,t,rfl⟩:=LF r;exact call_int_int ⟨.int i,H,I,⟨_,rfl⟩,q⟩
 ·obtain⟨u,rfl,r1⟩:=LF r;cases r1;exact call_int_bool ⟨.int (if k then 1 else 0),H,I.tok _,⟨_,rfl⟩,q⟩
theorem EK:Fy X (.type "str") (λxs H Q=>∃i,xs=[.int i]/\i.natAbs.log2<1920/\Q (.str (toString i)) H):=by
 intro pins s σ H xs us Q I r h;obtain⟨i,rfl,hz,q⟩:=h;obtain⟨u,rfl,t,rfl⟩:=LF r;exact PySem.P.str_of_int hz ⟨.str _,H,I.tok _,⟨_,rfl⟩,q⟩
end
structure Sc(h:Heap)(x dx C:Addr)(mA:Str->Option Value):Prop where
 obj:h.get? x=some (instObj C dx)
 ns:h.Ns1 dx mA
 ne:dx≠x
theorem Ua{h:Heap}{dx:Addr}{mA:Str->Option Value}(n:h.Ns1 dx mA):∃od,h.get? dx=some od/\∀name,lookIn name od=some (mA name):=by
 obtain⟨o,es,ep,ho,hd,hk,_,hm⟩:=n;refine⟨o,ho,λname=>?_⟩;have e:=hm name;unfold nsFind findBy at e;rw[<-Array.find?_toList]at e;unfold lookIn;rw[hd];dsimp only;split
 ·rename_i y q;rw[q]at e;exact X8 some e
 ·rename_i q;rw[q]at e;have a:es.toList.any (·.refKey)=false:=by
   rw[List.any_eq_false];intro y hy;obtain⟨z,t,hkey⟩:=hk y (Array.mem_toList_iff.mp hy);simp[DictEntry.refKey,hkey]
  have a':¬es.toList.any (·.refKey)=true:=by rw[a];exact F1
  rw[Z3 a'];exact X8 some e
theorem Sc.look{h:Heap}{x dx C:Addr}{mA:Str->Option Value}(I:Sc h x dx C mA):∃od,PySem.W.InstAt h x (instObj C dx) C (some od)/\∀name,lookIn name od=some (mA name) :=
 let ⟨od,ho,hl⟩:=Ua I.ns
 ⟨od,⟨I.obj,rfl,rfl,ho⟩,hl⟩
section
variable{prog:Program}{w:World}{A:Around}{E:Value->Shared->Prop}{s:Shared}{K:PySem.W.Frag}{x dx C f:Addr}{mA:Str->Option Value}{name:Str}{v:Value}
theorem get_map{expr:Bool}{Q:Value->Shared->Prop}(X:K.In s.heap)(I:Sc s.heap x dx C mA)(hg:plainGet K C name=true)(hh:hasDictIn K C=true)
  (ha:findIn K (.ref C) name=some none) (hv:mA name=some v) (hv':handedIn v=true) (h:Q v {s with toks:=s.toks+1}) :
  wpAny (model prog w) A (getAttr (.ref x) name expr) Q E s:=by
 obtain⟨od,J,hl⟩:=I.look;exact PySem.W.get_value X J (A4b hg).1 (PySem.W.findObj_own hh ha rfl (by rw[hl,hv])) hv' h
theorem Wb{pl:Sem Bool}{Q:Value×List Value->Shared->Prop}(X:K.In s.heap)(I:Sc s.heap x dx C mA)(hg:plainGet K C name=true)
  (hf:findIn K (.ref C) name=some (some (.ref f))) (ht:isFn K (.ref f)=true) (hv:mA name=none) (h:Q (.ref f,[.ref x]) s) :
  wpAny (model prog w) A (getMethod (.ref x) name pl) Q E s:=by
 obtain⟨od,J,hl⟩:=I.look;exact PySem.W.method_fn X J (A4b hg).1 (A4b hg).2 hf (beq_iff_eq.mp ht) (by show(lookIn name od).map (·.isSome)=some false;rw[hl,hv];rfl) h
theorem set_map{ns:List Str}{Q:Unit->Shared->Prop}(X:K.In s.heap)(I:Sc s.heap x dx C mA)
  (hs:findIn K (.ref C) "__setattr__" = some (some (.builtin "object.__setattr__"))) (hp:plainOver K C=true) (ht:takerIn K C name=some none) (hh:hasDictIn K C=true)
  (hw:PySem.Within mA ns) (hsz:ns.length<=sizeLine)
  (h:∀h',Sc h' x dx C (λy=>if y=name then some v else mA y)->Heap.SameBut dx s.heap h'->Q () {s with heap:=h',toks:=s.toks+2}) :
  wpAny (model prog w) A (setAttr (.ref x) name v) Q E s:=by
 obtain⟨od,J,hl⟩:=I.look;refine PySem.W.set_plain X J hs (PySem.W.osa_open (s:={s with toks:=s.toks+1}) (r:=none) X J hp ht λb=>?_)
 obtain⟨cd,hc,hd'⟩:=any_some hh;have hx:s.heap.get? x=some ⟨.ref C,some dx,.plain,#[]⟩:=I.obj;refine Z0 (X7 (Z0 (Z0 (wpAny_loadPart hx (Z0 (PySem.W.Looks.here (s:={s with toks:=s.toks+1}) (PySem.W.looks_clsIn X hc) ?_))))))
 rw[hd'];refine X7 (a:=some dx) (Z0 (X7 (Z0 ?_)));refine wpAny_nsSet1 (s:={s with toks:=s.toks+1}) I.ns λh' hn2 hs2=>?_;obtain⟨oD,esD,epD,hoD,hdD,hcD⟩:=hn2.count (PySem.Within.cons name v hw);refine Z0 (wpAny_lookBehind hoD (by rw[hdD];exact pastItsLine_dict (D4 hcD (by rw[E7];lia))) ?_);exact X7 (h _ ⟨(hs2.2 _ (Z7 I.ne)).trans I.obj,hn2,I.ne⟩ hs2)
theorem VO{R:Result->Shared->Prop}{vs:List Value}{kw:List (Str×Value)}(X:K.In s.heap)(hm:makesIn K C=true)
  (hi:findIn K (.ref C) "__init__" = some (some (.ref f))) (hf:PySem.W.typeIn K (.ref f)=some (.type "function"))
  (h:codeAny (model prog w) (A.under (.builtin "type.__call__" ⟨.ref C::vs,kw⟩)) (.call (.ref f) ⟨.ref (s.heap.objs.size+1)::vs,kw⟩) (PySem.W.InitBack (s.heap.objs.size+1) R)
   {s with heap:=(s.heap.push emptyDict).push (instObj C s.heap.objs.size)}) :
  codeAny (model prog w) A (.call (.ref C) ⟨vs,kw⟩) R s:=by
 obtain⟨hh,g,d,t,os⟩:=s;exact PySem.W.make_core (PySem.W.makes_of X hm) (PySem.W.looks_findIn X hi) (λself=>PySem.W.bind_fn X self hf) (.inl rfl) h
end
def AT(f:Str)(v:V):List (Str×V)->List (Str×V)
 |[]=>[(f,v)]
 | (g,x)::r=>if g=f then(g,v)::r else(g,x)::AT f v r
theorem Aj(f g:Str)(v:V):∀fs:List (Str×V),(AT f v fs).lookup g=if g=f then some v else fs.lookup g
 |[]=>by
  show List.lookup g [(f,v)]=_;by_cases h:g=f
  ·have hb:(g==f)=true:=beq_iff_eq.mpr h;simp only[List.lookup,hb,Z6 h]
  ·have hb:(g==f)=false:=beq_eq_false_iff_ne.mpr h;simp only[List.lookup,hb,Z3 h]
 | (k,x)::r=>by
  have ih:=Aj f g v r;rw[show AT f v ((k,x)::r)=(if k=f then(k,v)::r else(k,x)::AT f v r)from rfl];by_cases hk:k=f
  ·rw[Z6 hk];by_cases h:g=k
   ·have hb:(g==k)=true:=beq_iff_eq.mpr h;simp only[List.lookup,hb,Z6 (h.trans hk)]
   ·have hb:(g==k)=false:=beq_eq_false_iff_ne.mpr h;simp only[List.lookup,hb,Z3 (λe:g=f=>h (e.trans hk.symm))]
  ·rw[Z3 hk];by_cases h:g=k
   ·have hb:(g==k)=true:=beq_iff_eq.mpr h;simp only[List.lookup,hb,Z3 (λe:g=f=>hk (h.symm.trans e))]
   ·have hb:(g==k)=false:=beq_eq_false_iff_ne.mpr h;simp only[List.lookup,hb];exact ih
theorem Lx(f:Str)(v:V):∀fs:List (Str×V),f∈(AT f v fs).map (·.1)/\∀g,g∈fs.map (·.1)->g∈(AT f v fs).map (·.1)
 |[]=>⟨by simp[AT],λg h=>by simp at h⟩
 | (k,x)::r=>by
  obtain⟨i1,i2⟩:=Lx f v r;rw[show AT f v ((k,x)::r)=(if k=f then(k,v)::r else(k,x)::AT f v r)from rfl];by_cases hk:k=f
  ·rw[Z6 hk];subst hk;exact⟨by simp,λg h=>by simpa using h⟩
  ·rw[Z3 hk];refine⟨?_,λg h=>?_⟩
   ·rw[F0];exact E1 _ i1
   ·rw[F0]at h⊢;rcases D6.mp h with e|e
    ·exact D6.mpr (.inl e)
    ·exact E1 _ (i2 g e)
theorem BD(f:Str)(v:V):∀fs:List (Str×V),(AT f v fs).length<=fs.length+1
 |[]=>by simp[AT]
 | (k,x)::r=>by
  have ih:=BD f v r;rw[show AT f v ((k,x)::r)=(if k=f then(k,v)::r else(k,x)::AT f v r)from rfl];by_cases hk:k=f
  ·rw[Z6 hk,E7,E7];lia
  ·rw[Z3 hk,E7,E7];lia
theorem Id.some_of{v:V}{o:Option Value}(r:Id (some v) o):∃u,o=some u/\Be v u:=by
 cases o with
 |none=>exact(show False from r).elim
 |some u=>exact⟨u,rfl,r⟩
theorem Id.none_of{o:Option Value}(r:Id none o):o=none:=by
 cases o with
 |none=>rfl
 |some u=>exact(show False from r).elim
theorem Um{v:V}{u:Value}(r:Be v u):handedIn u=true:=by
 cases v with
 |non=>cases(show u=Value.none from r);rfl
 |bl b=>cases(show u=Value.bool b from r);rfl
 |int i=>obtain⟨t,e⟩:=(show ∃t,u=Value.int i t from r);cases e;rfl
 |str x=>obtain⟨t,e⟩:=(show ∃t,u=Value.str x t from r);cases e;rfl
 |byt b=>obtain⟨t,e⟩:=(show ∃t,u=Value.bytes b t from r);cases e;rfl
 |flt b=>obtain⟨t,e⟩:=(show ∃t,u=Value.float b t from r);cases e;rfl
 |ref a=>cases(show u=Value.ref a from r);rfl
 |ty n=>cases(show u=Value.type n from r);rfl
section
variable{P:Program}{w:World}{H H':Hp}{h h':Heap}{a C dx:Addr}{fs fs':List (Str×V)}
theorem Mo(hok:HOk P w H h)(e:H a=some (.ins C dx fs)):∃mA,Sc h a dx C mA/\(∀f,Id (fs.lookup f) (mA f))/\PySem.Within mA (fs.map (·.1))/\fs.length<=1000/\H dx=some (.own a):=by
 obtain⟨d,z,ne,ob,mA,n,r,q⟩:=(show BN P w H h a (.ins C dx fs)from hok a _ e)
 exact⟨mA,⟨ob,n,ne⟩,r,q,z,d⟩
end
structure Cls(K:PySem.W.Frag)(C:Addr):Prop where
 pg:plainGet K C Str.empty=true
 hd:hasDictIn K C=true
 po:plainOver K C=true
 sa:findIn K (.ref C) "__setattr__" = some (some (.builtin "object.__setattr__"))
theorem Cls.get{K:PySem.W.Frag}{C:Addr}(c:Cls K C)(f:Str):plainGet K C f=true:=c.pg
def BG(K:PySem.W.Frag)(C:Addr)(f:Str):Prop:=findIn K (.ref C) f=some none
theorem BG.taker{K:PySem.W.Frag}{C:Addr}{f:Str}(n:BG K C f):takerIn K C f=some none:=by
 unfold takerIn;rw[show findIn K (.ref C) f=some none from n];rfl
structure PH(K:PySem.W.Frag)(C:Addr)(m:Str)(f:Addr):Prop where
 at_:findIn K (.ref C) m=some (some (.ref f))
 fn:isFn K (.ref f)=true
 kp:keepIn K (.ref f)=true
section
variable{X:Cx}{pins:List (Addr×Obj)}{σ:St}{H:Hp}{s:Shared}{a C dx:Addr}{fs:List (Str×V)}{f:Str}{v:V}{A:Around}{E:Value->Shared->Prop}
theorem RS{b:Bool}{Q:Value->Shared->Prop}(I:Inv X pins σ H s)(e:H a=some (.ins C dx fs))(c:Cls X.K C)(n:BG X.K C f)(l:fs.lookup f=some v)
  (h:∀u s',Inv X pins σ H s'->Be v u->Q u s'):wpAny (model X.prog X.w) A (getAttr (.ref a) f b) Q E s:=by
 obtain⟨mA,O,r,_,_,_⟩:=Mo I.hok e;obtain⟨u,hu,ru⟩:=Id.some_of (v:=v) (o:=mA f) (by rw[<-l];exact r f);exact get_map I.kIn O (c.get f) c.hd n hu (Um ru) (h u _ (I.tok _) ru)
theorem RQ{m:Str}{g:Addr}{pl:Sem Bool}{Q:Value×List Value->Shared->Prop}(I:Inv X pins σ H s)(e:H a=some (.ins C dx fs))(c:Cls X.K C)(k:PH X.K C m g)(l:fs.lookup m=none)
  (h:Q (.ref g,[.ref a]) s):wpAny (model X.prog X.w) A (getMethod (.ref a) m pl) Q E s:=by
 obtain⟨mA,O,r,_,_,_⟩:=Mo I.hok e;have hn:mA m=none:=Id.none_of (by rw[<-l];exact r m);exact Wb I.kIn O (c.get m) k.at_ k.fn hn h
theorem Ro{y:V}{u:Value}{Q:Unit->Shared->Prop}(I:Inv X pins σ H s)(e:H a=some (.ins C dx fs))(c:Cls X.K C)(n:BG X.K C f)(hl:fs.length<1000)(ry:Be y u)
  (h:∀s',Inv X pins σ (upd H a (.ins C dx (AT f y fs))) s'->Q () s'):wpAny (model X.prog X.w) A (setAttr (.ref a) f u) Q E s:=by
 obtain⟨mA,O,r,wi,_,ho⟩:=Mo I.hok e;have hz:(fs.map (·.1)).length<=sizeLine:=by rw[B6,sizeLine_eq];lia
 refine set_map I.kIn O c.sa c.po n.taker c.hd wi hz λh' O' sb=>h _ ?_;have hd:∃o,h'.get? dx=some o:=let ⟨o,_,_,e',_⟩:=O'.ns;⟨o,e'⟩;refine I.write (x:=a) (e:=dx) (by rw[e];exact True.intro) (.inr ho) (λb q hb z=>(sb.2 b hb).trans z) hd ?_;refine⟨by rw[Ao O.ne];exact ho,?_,O.ne,O'.obj,_,O'.ns,λg=>?_,λg hg=>?_⟩
 ·have:=BD f y fs;lia
 ·show Id ((AT f y fs).lookup g) (if g=f then some u else mA g);rw[Aj];by_cases q:g=f
  ·rw[Z6 q,Z6 q];exact ry
  ·rw[Z3 q,Z3 q];exact r g
 ·by_cases q:g=f
  ·rw[q];exact(Lx f y fs).1
  ·refine(Lx f y fs).2 g (wi g λz=>hg ?_);show(if g=f then some u else mA g)=none;rw[Z3 q];exact z
theorem Inv.made(I:Inv X pins σ H s):Inv X pins σ (upd (upd H s.heap.objs.size (.own (s.heap.objs.size+1))) (s.heap.objs.size+1) (.ins C s.heap.objs.size []))
  {s with heap:=(s.heap.push emptyDict).push (instObj C s.heap.objs.size)}:=by
 have e1:(s.heap.push emptyDict).get? s.heap.objs.size=some emptyDict:=F3 s.heap rfl;have e2:((s.heap.push emptyDict).push (instObj C s.heap.objs.size)).get? (s.heap.objs.size+1)=some (instObj C s.heap.objs.size):=by
  have:=F3 (s.heap.push emptyDict) (o:=instObj C s.heap.objs.size) rfl
  rwa [P7]at this
 have e3:(s.heap.push emptyDict).Ns s.heap.objs.size (λ_=>none):=⟨emptyDict,#[],_,e1,rfl,(λe he=>absurd he B1),λ_=>rfl⟩
 have I1:=I.laid (a:=s.heap.objs.size) (o:=.own (s.heap.objs.size+1)) (h':=s.heap.push emptyDict) (t':=s.toks) (λb u q=>D0 _ q) (C8 _) ⟨_,e1⟩;refine I1.laid (a:=s.heap.objs.size+1) (o:=.ins C s.heap.objs.size []) (t':=s.toks) (λb u q=>D0 _ q) (Y5 (P7 _ _)) ?_;have ne:s.heap.objs.size≠s.heap.objs.size+1:=F9 (Nat.lt_succ_self _);refine⟨by rw[Ao ne,Af],J1 _,ne,e2,λ_=>none,(Heap.Ns1.of_empty e3).at λo q=>D0 _ q,λ_=>True.intro,λy hy=>absurd rfl hy⟩
theorem attr_of{prog:Program}{w:World}{env:Env}{e:Expr}{f:Str}{pos:Pos}{s:Shared}{Q:Value->Shared->Prop}(hb:attributeBase e f env (eval e env)=eval e env)
  (h:wpAny (model prog w) A (eval e env) (λo s₁=>wpAny (model prog w) A (getAttr o f true) Q E s₁) E s):wpAny (model prog w) A (eval (.Attribute e f pos) env) Q E s :=
 Attribute_any_ h (by rw[arm_eval_Attribute,hb])
end
def tFld(K:PySem.W.Frag)(ta:TE)(f:Str):TE:=fun σ H Q=>ta σ H λx H1=>∃a C dx fs v,x=.ref a/\H1 a=some (.ins C dx fs)/\Cls K C/\BG K C f/\fs.lookup f=some v/\Q v H1
def sFld(K:PySem.W.Frag)(ta tv:TE)(f:Str):TS:=λD σ H=>tv σ H λy H1=>ta σ H1 λx H2=>∃a C dx fs,x=.ref a/\H2 a=some (.ins C dx fs)/\Cls K C/\BG K C f/\fs.length<1000 /\
 D.nx σ (upd H2 a (.ins C dx (AT f y fs)))
section
variable{X:Cx}{o e value:Expr}{f:Str}{pos pos' tpos:Pos}{ta tv:TE}
theorem AJ(he:PE X e ta)(hb:attributeBase e f X.env (eval e X.env)=eval e X.env):PE X (.Attribute e f pos) (tFld X.K ta f):=by
 intro pins s σ H Q I h;refine attr_of hb (thn (he pins s σ H _ I h) λu s1 ⟨x,H1,I1,rx,a,C,dx,fs,v,ex,ea,c,n,l,q⟩=>?_);subst ex;obtain rfl:u=Value.ref a:=rx;exact RS I1 ea c n l λu' s2 I2 ru=>⟨v,H1,I2,ru,q⟩
theorem Cs(ha:PE X o ta)(hv:PE X value tv)(hs:swapsWith value (some (.Attribute o f pos')) pos.line X.env=pure false):PS X (.Assign [.Attribute o f pos'] value pos) (sFld X.K ta tv f):=by
 intro pins s σ H D I h;refine plainObj_wpAny_Assign_Attribute (thn (hv pins s σ H _ I h) λu s1 ⟨y,H1,I1,ry,q⟩=>thn (ha pins s1 σ H1 _ I1 q) λov s2 ⟨x,H2,I2,rx,a,C,dx,fs,ex,ea,c,n,l,q2⟩=>?_) hs;subst ex;obtain rfl:ov=Value.ref a:=rx;exact Ro I2 ea c n l ry λs3 I3=>⟨σ,_,I3,q2⟩
end
section
variable{X:Cx}{pins:List (Addr×Obj)}{σ:St}{H:Hp}{s:Shared}{A:Around}{E:Value->Shared->Prop}{Q:Value->Shared->Prop}{c:Value}{b:Bool}
inductive LC(K:PySem.W.Frag)(H:Hp):V->Value->Prop where
 |non:LC K H .non (.type "NoneType")
 |bl (x:Bool):LC K H (.bl x) (.type "bool")
 |int (i:Int):LC K H (.int i) (.type "int")
 |str (x:Str):LC K H (.str x) (.type "str")
 |flt (x:UInt64):LC K H (.flt x) (.type "float")
 |lst {a:Addr} {xs:List V} (e:H a=some (.lst xs)):LC K H (.ref a) (.type "list")
 |frz {a:Addr} {o:Obj} {xs:List V} (e:H a=some (.frz o (.lst xs))):LC K H (.ref a) (.type "list")
 |tup {a:Addr} {xs:List V} (e:H a=some (.tup xs)):LC K H (.ref a) (.type "tuple")
 |dK {a:Addr} {kvs:List (Key×V)} (e:H a=some (.dK kvs)):LC K H (.ref a) (.type "dict")
 |dT {a:Addr} {kvs:List (List Key×V)} (e:H a=some (.dT kvs)):LC K H (.ref a) (.type "dict")
 |ins {a C dx:Addr} {fs:List (Str×V)} (e:H a=some (.ins C dx fs)) (cl:Cls K C) (ha:findIn K (.ref C) "__class__" = some (some (.builtin "object.__class__")))
   (hn:specialIn K (.builtin "object.__class__") "__get__" = some (some (.builtin "getset_descriptor.__get__"))) (htk:takesIn K (.builtin "object.__class__")=some true)
   (hm:mroIn K C (.type "object")=some true):LC K H (.ref a) (.ref C)
theorem Uh{x:V}{u t:Value}(I:Inv X pins σ H s)(rx:Be x u)(ty:LC X.K H x t)(e:kitOne X.K t c=some b)(h:∀tk,Q (.bool b) {s with toks:=tk}) :
  wpAny (model X.prog X.w) A (call (.builtin "isinstance") [u,c]) Q E s:=by
 cases ty with
 |non=>cases(show u=Value.none from rx);exact K7 PySem.W.kitx_none I.kIn True.intro e (λz=>nomatch z) h
 |bl y=>cases(show u=Value.bool y from rx);exact K7 PySem.W.kitx_bool I.kIn True.intro e (λz=>nomatch z) h
 |int i=>obtain⟨t,q⟩:=(show ∃t,u=Value.int i t from rx);cases q;exact K7 PySem.W.kitx_int I.kIn True.intro e (λz=>nomatch z) h
 |str y=>obtain⟨t,q⟩:=(show ∃t,u=Value.str y t from rx);cases q;exact K7 PySem.W.kitx_str I.kIn True.intro e (λz=>nomatch z) h
 |flt y=>obtain⟨t,q⟩:=(show ∃t,u=Value.float y t from rx);cases q;exact K7 PySem.W.kitx_float I.kIn True.intro e (λz=>nomatch z) h
 |@lst a xs ea =>
  cases(show u=Value.ref a from rx);obtain⟨_,_,n,_,h1⟩:=(show BN X.prog X.w H s.heap a (.lst xs)from I.hok a _ ea)
  exact K7 kitx_list I.kIn ⟨_,h1,rfl⟩ e (λz=>nomatch z) h
 |@frz a ob xs ea =>
  cases(show u=Value.ref a from rx);obtain⟨_,_,_,n,_,h1⟩:=(show BN X.prog X.w H s.heap a (.frz ob (.lst xs))from I.hok a _ ea)
  exact K7 kitx_list I.kIn ⟨_,h1,rfl⟩ e (λz=>nomatch z) h
 |@tup a xs ea =>
  cases(show u=Value.ref a from rx);obtain⟨_,_,_,p⟩:=(show BN X.prog X.w H s.heap a (.tup xs)from I.hok a _ ea)
  obtain⟨o,h1,h2,_⟩:=p;exact K7 PySem.W.kitx_tuple I.kIn ⟨o,h1,h2⟩ e (λz=>nomatch z) h
 |@dK a kvs ea =>
  cases(show u=Value.ref a from rx);obtain⟨_,_,vs,_,p⟩:=(show BN X.prog X.w H s.heap a (.dK kvs)from I.hok a _ ea)
  obtain⟨o,es,ep,h1,h2,_⟩:=p;exact K7 kitx_dict I.kIn ⟨o,h1,h2.1⟩ e (λz=>nomatch z) h
 |@dT a kvs ea =>
  cases(show u=Value.ref a from rx);obtain⟨_,_,xs,_,o,es,ep,h1,h2,_⟩:=(show BN X.prog X.w H s.heap a (.dT kvs)from I.hok a _ ea)
  exact K7 kitx_dict I.kIn ⟨o,h1,h2.1⟩ e (λz=>nomatch z) h
 |@ins a C dx fs ea cl ha hn htk hm =>
  cases(show u=Value.ref a from rx);obtain⟨mA,O,_⟩:=Mo I.hok ea;obtain⟨od,J,_⟩:=O.look;exact K7 (PySem.W.kitx_own (cl.get _) cl.hd ha hn htk hm) I.kIn J e (λz=>nomatch z) h
end
structure Dq(k:Nat)(A:Around):Prop where
 hd:A.handled=none
 dp:A.depth+3*k+5<recursionLimit
 un:A.units+16*k+200<cLine
theorem Dq.mono{j k:Nat}{A:Around}(r:Dq k A)(h:j<=k):Dq j A:=⟨r.hd,by have:=r.dp;lia,by have:=r.un;lia⟩
theorem Dq.deeper{k:Nat}{A:Around}(r:Dq (k+1) A)(env:Env):Dq k (A.deeper env) :=
 ⟨r.hd,by have:=r.dp;show A.depth+1+3*k+5<_;lia,by have:=r.un;show A.units+3+16*k+200<_;lia⟩
theorem RK{A:Around}{C:Addr}{us:List Value}{kw:List (Str×Value)}:(A.under (.builtin "type.__call__" ⟨.ref C::us,kw⟩)).depth=A.depth+1:=by
 first|rfl|simp[Around.under,Code.weight,Code.isCreation,Code.isGuard,Code.isCaller,Code.frames,Code.isFrame,guardIds]
theorem RJ{A:Around}{C:Addr}{us:List Value}{kw:List (Str×Value)}:(A.under (.builtin "type.__call__" ⟨.ref C::us,kw⟩)).units=A.units+1:=by
 first|rfl|simp[Around.under,Code.cUnits,Code.frames,Code.isFrame]
theorem Dq.make{k:Nat}{A:Around}(r:Dq (k+1) A)(C:Addr)(us:List Value)(kw:List (Str×Value)):Dq k (A.under (.builtin "type.__call__" ⟨.ref C::us,kw⟩)) :=
 ⟨r.hd,by have:=r.dp;rw[RK];lia,by have:=r.un;rw[RJ];lia⟩
theorem Dq.depth{k:Nat}{A:Around}(r:Dq k A):A.depth<recursionLimit:=by have:=r.dp;lia
theorem Dq.units{k:Nat}{A:Around}(r:Dq k A):A.units+64<cLine:=by have:=r.un;lia
def OG:TA:=λ_ H Q=>Q [] H
def CF(ta:TE)(tr:TA):TA:=fun σ H Q=>ta σ H λx H1=>tr σ H1 λxs H2=>Q (x::xs) H2
section
variable{X:Cx}{e:Expr}{es:List Expr}{te:TE}{t:TA}{pos:Pos}
theorem Ab:PA X [] OG:=λ_ _ _ _ H Q I h=>Calls.spliced_nil ⟨[],H,I,.nil,h⟩
theorem Aa(ha:PE X e te)(hr:PA X es t)(hs:starEach (e::es) X.env=(false,eval e X.env)::starEach es X.env:=by rfl):PA X (e::es) (CF te t):=by
 intro pos pins s σ H Q I h;rw[hs];show wpAny _ _ (spliced ((false,eval e X.env)::backTo pos (starEach es X.env))) _ _ s;refine Calls.spliced_cons (thn (ha pins s σ H _ I h) λu s1 ⟨x,H1,I1,r1,q1⟩=>?_);exact thn (hr pos pins s1 σ H1 _ I1 q1) λus s2 ⟨xs,H2,I2,r2,q2⟩=>⟨x::xs,H2,I2,.cons r1 r2,q2⟩
def UM(t:TA):TE:=fun σ H Q=>t σ H λxs H1=>xs.length<=sizeLine/\∀p,H1 p=none->Q (.ref p) (upd H1 p (.tup xs))
def tLst(t:TA):TE:=fun σ H Q=>t σ H λxs H1=>xs.length<=sizeLine/\∀p,H1 p=none->Q (.ref p) (upd H1 p (.lst xs))
theorem Dd{x1}(h:PA X es t):PE X (.Tuple es x1 pos) (UM t):=by
 intro pins s σ H Q I hq;refine wpAny_Tuple_spliced (thn (h pos pins s σ H _ I hq) λus s1 ⟨xs,H1,I1,r,z,q⟩=>⟨by rw[<-r.length];exact z,?_⟩);have hf:H1 s1.heap.objs.size=none:=I1.hok.fresh (C8 _);refine⟨.ref s1.heap.objs.size,upd H1 s1.heap.objs.size (.tup xs),I1.laid (t':=s1.toks) (λb u e=>D0 _ e) (C8 _) ?_,rfl,q _ hf⟩;exact⟨z,us,r,⟨_,F3 _ rfl,rfl,_,rfl⟩⟩
theorem Bn(h:PA X es t):PE X (.List es pos) (tLst t):=by
 intro pins s σ H Q I hq;refine wpAny_List_spliced (thn (h pos pins s σ H _ I hq) λus s1 ⟨xs,H1,I1,r,z,q⟩=>⟨by rw[<-r.length];exact z,?_⟩);have hf:H1 s1.heap.objs.size=none:=I1.hok.fresh (C8 _);refine⟨.ref s1.heap.objs.size,upd H1 s1.heap.objs.size (.lst xs),I1.laid (t':=s1.toks) (λb u e=>D0 _ e) (C8 _) ?_,rfl,q _ hf⟩;exact⟨z,us,0,r,F3 _ rfl⟩
end
abbrev Sp:=List V->Hp->VK->XK->Prop
abbrev CXT:=List Env->Hp->Shared->XK->Value->Shared->Prop
structure Se(P:Program)(w:World)(K:PySem.W.Frag)(mg:Str->Option Value)(base:Heap)(A:Around)(outer:List Env)(s:Shared)(H:Hp):Prop where
 frames:A.frames=some outer
 mod:Mod K mg base
 bs:∀b o,base.get? b=some o->s.heap.get? b=some o/\H b=none
 bsz:base.objs.size<=s.heap.objs.size
 funs:s.heap.FunFrames base outer
 frf:∀b∈frs outer,H b=none
 hok:HOk P w H s.heap
 bare:AllBare s.gens
def CE(outer:List Env)(P:Program)(w:World)(H:Hp)(s:Shared)(Q:VK)(u:Value)(s':Shared):Prop :=
 ∃v H',s'.os=s.os/\AllBare s'.gens/\Un (frs outer) [] H H' s.heap s'.heap/\HOk P w H' s'.heap/\Be v u/\Q v H'
def CR(CX:CXT)(outer:List Env)(P:Program)(w:World)(H:Hp)(s:Shared)(Q:VK)(E:XK)(r:Result)(s':Shared):Prop :=
 match r with
 |.ok (.ret u)=>CE outer P w H s Q u s'
 |.ok _=>False
 |.error e=>CX outer H s E e s'
structure AR(P:Program)(w:World)(K:PySem.W.Frag)(mg:Str->Option Value)(base:Heap)(CX:CXT)(k:Nat)(f:Addr)(fd:FuncData)(ps:List Str)(sp:Sp):Prop where
 len:∀vs H Q E,sp vs H Q E->vs.length=ps.length
 run:∀(A:Around)(outer:List Env)(s:Shared)(H:Hp)(args:Args)(us:List Value)(vs:List V)(Q:VK)(E:XK),Dq k A->Se P w K mg base A outer s H->BindsTo s fd args (ps.zip us)->AN vs us->sp vs H Q E ->
  codeAny (model P w) A (.call (.ref f) args) (CR CX outer P w H s Q E) s
theorem AR.imp{P:Program}{w:World}{K:PySem.W.Frag}{mg:Str->Option Value}{base:Heap}{CX:CXT}{k:Nat}{f:Addr}{fd:FuncData}{ps:List Str}{sp sp':Sp}(F:AR P w K mg base CX k f fd ps sp)
  (h:∀vs H Q E,sp' vs H Q E->sp vs H Q E):AR P w K mg base CX k f fd ps sp' :=
 ⟨λvs H Q E q=>F.len vs H Q E (h _ _ _ _ q),λA outer s H args us vs Q E hr he hb hv hs=>F.run A outer s H args us vs Q E hr he hb hv (h _ _ _ _ hs)⟩
theorem Se.make{P:Program}{w:World}{K:PySem.W.Frag}{mg:Str->Option Value}{base:Heap}{A:Around}{outer:List Env}{s:Shared}{H:Hp}(e:Se P w K mg base A outer s H)(C:Addr)(us:List Value)(kw:List (Str×Value)) :
  Se P w K mg base (A.under (.builtin "type.__call__" ⟨.ref C::us,kw⟩)) outer s H:=⟨by first|exact e.frames|(simpa[Around.under,Code.envs,Code.isFrame,pushEnvs] using e.frames),e.mod,e.bs,e.bsz,e.funs,e.frf,e.hok,e.bare⟩
section
variable{X:Cx}{pins:List (Addr×Obj)}{σ:St}{H:Hp}{s s':Shared}
theorem Inv.env0(I:Inv X pins σ H s):Se X.prog X.w X.K X.mg X.base X.A X.stack s H :=
 ⟨I.ok.frames,I.ok.mod,I.bs,D4 I.ok.bsz I.sz,I.stack,I.stkFree,I.hok,I.bare⟩
theorem Inv.after{Q:VK}{u:Value}(I:Inv X pins σ H s)(h:CE X.stack X.prog X.w H s Q u s'):EP X pins σ Q u s':=by
 obtain⟨v,H',os,bare,un,hok,r,q⟩:=h;obtain⟨hh,g,d,t,os'⟩:=s';obtain rfl:os'=s.os:=os;exact⟨v,H',I.call (h':=hh) (g':=g) (d':=d) (t':=t) (ch:=[]) un hok bare (λb z=>absurd z B1),r,q⟩
end
def tCall(sp:Sp)(dvs:List V)(E:XK)(t:TA):TE:=fun σ H Q=>t σ H λvs H1=>sp (vs++dvs) H1 Q E
def Si(C:Addr)(m:Str)(sp:Sp)(dvs:List V)(E:XK)(ta:TE)(t:TA):TE:=fun σ H Q=>ta σ H λx H1=>∃a dx fs,x=.ref a/\H1 a=some (.ins C dx fs)/\fs.lookup m=none /\
 t σ H1 λvs H2=>sp (x::(vs++dvs)) H2 Q E
def Sj(C:Addr)(sp:Sp)(dvs:List V)(E:XK)(t:TA):TE:=fun σ H Q=>t σ H λvs H1=>∀x dx,H1 x=none->H1 dx=none->dx≠x ->
 sp (.ref x::(vs++dvs)) (upd (upd H1 dx (.own x)) x (.ins C dx [])) (λv H2=>v=.non/\Q (.ref x) H2) E
def Dv(K:PySem.W.Frag)(fd:FuncData)(ps:List Str)(ds:List Value):Prop :=
 ∀(s:Shared)(us:List Value),K.In s.heap->(us++ds).length=ps.length->BindsTo s fd ⟨us,[]⟩ (ps.zip (us++ds))
theorem Dv.all{K:PySem.W.Frag}{fd:FuncData}{ps:List Str}(h:∀us:List Value,us.length=ps.length->bindArgs fd ⟨us,[]⟩=pure (ps.zip us)):Dv K fd ps []:=λs us _ hl=>by
 rw[P3]at hl⊢;exact .of_eq (h us hl)
def Fv(CX:CXT)(X:Cx)(E:XK):Prop:=∀(pins:List (Addr×Obj))(σ:St)(H:Hp)(s:Shared)(e:Value)(s':Shared),Inv X pins σ H s->CX X.stack H s E e s'->X.xe e s'
section
variable{X:Cx}{CX:CXT}{k:Nat}{f C:Addr}{fd:FuncData}{ps:List Str}{sp:Sp}{dvs:List V}{ds:List Value}{E:XK}{x m:Str}{p pos apos:Pos}{e o:Expr}{es:List Expr}{ta:TE}{t:TA}
theorem Vg{pins:List (Addr×Obj)}{σ:St}{H:Hp}{s:Shared}{Q:VK}{us:List Value}{vs:List V}(F:AR X.prog X.w X.K X.mg X.base CX k f fd ps sp)(hr:Dq k X.A)(hb:Dv X.K fd ps ds)(hd:AN dvs ds)(hx:Fv CX X E)
  (I:Inv X pins σ H s) (r:AN vs us) (h:sp (vs++dvs) H Q E):wpAny (model X.prog X.w) X.A (call (.ref f) us) (EP X pins σ Q) X.xe s:=by
 have r2:AN (vs++dvs) (us++ds):=r.append hd;have hl:(us++ds).length=ps.length:=by rw[<-r2.length];exact F.len _ _ _ _ h
 refine wpAny_call (codeAny_mono (F.run X.A X.stack s H ⟨us,[]⟩ (us++ds) (vs++dvs) Q E hr I.env0 (hb s us I.kIn hl) r2 h) λr s' hq=>?_);cases r with
 |error e=>exact hx pins σ H s e s' I hq
 |ok fl =>
  cases fl with
  |ret u=>exact I.after hq
  |next=>exact False.elim hq
  |brk=>exact False.elim hq
  |cont=>exact False.elim hq
theorem pe_call(F:AR X.prog X.w X.K X.mg X.base CX k f fd ps sp)(hr:Dq k X.A)(hg:Gl X x)(hm:X.mg x=some (.ref f))(hk:keepIn X.K (.ref f)=true)(hb:Dv X.K fd ps ds)(hd:AN dvs ds)(hx:Fv CX X E)
  (ha:PA X (e::es) t) (hdb:(x==("__debug__" : Str))=false:=by decide) (he:starEach (e::es) X.env=(false,eval e X.env)::starEach es X.env:=by rfl) (hpl:(backTo pos (starEach es X.env)).any (·.1)=false:=by rfl) :
  PE X (.Call (.Name x p) (e::es) [] pos) (tCall sp dvs E t):=by
 intro pins s σ H Q I h;refine A2c (Ml I hg hm ?_ hdb);refine A4g (h₀:=X.base) I.ok.mod.kin hk (thn (ha pos pins s σ H _ I h) λus s1 ⟨vs,H1,I1,r,q⟩=>⟨I1.kIn,?_⟩) he hpl;exact Vg F hr hb hd hx I1 r q
theorem pe_meth{pl:Sem Bool}(he:PE X o ta)(c:Cls X.K C)(hm:PH X.K C m f)(F:AR X.prog X.w X.K X.mg X.base CX k f fd ps sp)(hr:Dq k X.A)(hb:Dv X.K fd ps ds)(hd:AN dvs ds)(hx:Fv CX X E)(ha:PA X (e::es) t)
  (hst:starEach (e::es) X.env=(false,eval e X.env)::starEach es X.env:=by rfl) (hpl:(backTo pos (starEach es X.env)).any (·.1)=false:=by rfl)
  (ht:eval (.Call (.Attribute o m apos) (e::es) [] pos) X.env=(do
   let ov <-eval o X.env
   standAt apos.atName
   let (f,first) <-holding [ov] (getMethod ov m pl)
   callWith pos f first (backTo pos (starEach (e::es) X.env)) (backToKw pos (keywordEach [] X.env))):=by rfl) :
  PE X (.Call (.Attribute o m apos) (e::es) [] pos) (Si C m sp dvs E ta t):=by
 intro pins s σ H Q I h;refine PySem.W.methodCall_KW (pl:=pl) (thn (he pins s σ H _ I h) λu s1 ⟨x,H1,I1,rx,a,dx,fs,ex,ea,l,q⟩=>?_) ht;subst ex;obtain rfl:u=Value.ref a:=rx;refine RQ I1 ea c hm l ?_;refine A4g (first:=[.ref a]) (h₀:=X.base) I.ok.mod.kin hm.kp (thn (ha pos pins s1 σ H1 _ I1 q) λus s2 ⟨vs,H2,I2,r,q2⟩=>⟨I2.kIn,?_⟩) hst hpl;exact Vg (us:=.ref a::us) (vs:=.ref a::vs) F hr hb hd hx I2 (.cons rfl r) q2
structure Mk(K:PySem.W.Frag)(C f:Addr):Prop where
 makes:makesIn K C=true
 init:findIn K (.ref C) "__init__" = some (some (.ref f))
 fn:isFn K (.ref f)=true
 kp:keepIn K (.ref C)=true
theorem Qg{pins:List (Addr×Obj)}{σ:St}{H:Hp}{s:Shared}{Q:VK}{us:List Value}{vs:List V}(M:Mk X.K C f)(F:AR X.prog X.w X.K X.mg X.base CX k f fd ps sp)(hr:Dq (k+1) X.A)(hb:Dv X.K fd ps ds)(hd:AN dvs ds)
  (hx:Fv CX X E) (I:Inv X pins σ H s) (r:AN vs us)
  (h:∀x dx,H x=none->H dx=none->dx≠x->sp (.ref x::(vs++dvs)) (upd (upd H dx (.own x)) x (.ins C dx [])) (λv H2=>v=.non/\Q (.ref x) H2) E) :
  wpAny (model X.prog X.w) X.A (call (.ref C) us) (EP X pins σ Q) X.xe s:=by
 have hq:=h (s.heap.objs.size+1) s.heap.objs.size (I.hok.fresh (S1 _)) (I.hok.fresh (C8 _)) (F9 (Nat.lt_succ_self _));have I2:=Inv.made (C:=C) I;have r2:AN (V.ref (s.heap.objs.size+1)::(vs++dvs)) (Value.ref (s.heap.objs.size+1)::(us++ds)):=.cons rfl (r.append hd);have hl:(Value.ref (s.heap.objs.size+1)::us++ds).length=ps.length:=by
  have e:=r2.length;rw[F.len _ _ _ _ hq]at e;exact e.symm
 refine wpAny_call (VO (f:=f) I.kIn M.makes M.init (beq_iff_eq.mp M.fn) (codeAny_mono (F.run _ X.stack _ _ ⟨Value.ref (s.heap.objs.size+1)::us,[]⟩ (Value.ref (s.heap.objs.size+1)::(us++ds)) _ _ E (hr.make C us [])
  (I2.env0.make C us []) (hb _ (Value.ref (s.heap.objs.size+1)::us) I2.kIn hl) r2 hq) λr s' hq'=>?_))
 cases r with
 |error e=>exact hx pins σ _ _ e s' I2 hq'
 |ok fl =>
  cases fl with
  |ret u =>
   obtain⟨v,H',I3,rv,ev,q3⟩:=I2.after hq';subst ev;exact⟨rv,⟨V.ref (s.heap.objs.size+1),H',I3,rfl,q3⟩⟩
  |next=>exact False.elim hq'
  |brk=>exact False.elim hq'
  |cont=>exact False.elim hq'
theorem pe_make(M:Mk X.K C f)(F:AR X.prog X.w X.K X.mg X.base CX k f fd ps sp)(hr:Dq (k+1) X.A)(hg:Gl X x)(hm:X.mg x=some (.ref C))(hb:Dv X.K fd ps ds)(hd:AN dvs ds)(hx:Fv CX X E)
  (ha:PA X (e::es) t) (hdb:(x==("__debug__" : Str))=false:=by decide) (he:starEach (e::es) X.env=(false,eval e X.env)::starEach es X.env:=by rfl) (hpl:(backTo pos (starEach es X.env)).any (·.1)=false:=by rfl) :
  PE X (.Call (.Name x p) (e::es) [] pos) (Sj C sp dvs E t):=by
 intro pins s σ H Q I h;refine A2c (Ml I hg hm ?_ hdb);refine A4g (h₀:=X.base) I.ok.mod.kin M.kp (thn (ha pos pins s σ H _ I h) λus s1 ⟨vs,H1,I1,r,q⟩=>⟨I1.kIn,?_⟩) he hpl;exact Qg M F hr hb hd hx I1 r q
theorem Vr(M:Mk X.K C f)(F:AR X.prog X.w X.K X.mg X.base CX k f fd ps sp)(hr:Dq (k+1) X.A)(hg:Gl X x)(hm:X.mg x=some (.ref C))(hb:Dv X.K fd ps ds)(hd:AN dvs ds)(hx:Fv CX X E)
  (hdb:(x==("__debug__" : Str))=false:=by decide):PE X (.Call (.Name x p) [] [] pos) (Sj C sp dvs E OG):=by
 intro pins s σ H Q I h;refine A2c (Ml I hg hm ?_ hdb);exact PySem.W.callWith_K0 I.kIn M.kp (Qg (us:=[]) M F hr hb hd hx I .nil h)
end
section
variable{X:Cx}{CX:CXT}{k:Nat}{f C:Addr}{fd:FuncData}{ps ks:List Str}{sp:Sp}{E:XK}{x m:Str}{p pos apos kpos:Pos}{e o:Expr}{es:List Expr}{kws:List Keyword}{te ta:TE}{t tk:TA}{nm:Option Str}
variable{g:List Value->List Value->List Value}{gV:List V->List V->List V}
end
structure Aw(N P:List Str)(sc:Scope):Prop where
 kind:sc.kind=.function
 co:sc.isCoroutine=false
 gen:sc.isGenerator=false
 nd:N.Nodup
 pre:N.take P.length=P
 par:∀x∈P,sc.names.lookup x=some .local\/sc.names.lookup x=some .cell
 nofree:∀y∈sc.names,y.2≠.free
theorem Oy{kindOf:Str->Option NameKind}{x:Str}:∀{binds:List (Str×Value)}{m:Str->Option Value},(∀v,(x,v)∉binds)->bindL kindOf binds m x=m x
 |[],_,_=>rfl
 | (n,v)::r,m,h=>by
  unfold bindL;rw[Oy λw hw=>h w (E1 _ hw)];split
  ·have:x≠n:=by rintro rfl;exact h v D8
   simp[this]
  ·rfl
theorem OA{kindOf:Str->Option NameKind}{x:Str}:∀{binds:List (Str×Value)}{m:Str->Option Value},(∀v,(x,v)∉binds)->bindC kindOf binds m x=m x
 |[],_,_=>rfl
 | (n,v)::r,m,h=>by
  unfold bindC;rw[OA λw hw=>h w (E1 _ hw)];split
  ·rfl
  ·have:x≠n:=by rintro rfl;exact h v D8
   simp[this]
theorem Oz{kindOf:Str->Option NameKind}{x:Str}{v:Value}:∀{P:List Str}{vs:List Value}{i:Nat}{m:Str->Option Value},P.Nodup->P[i]?=some x->vs[i]?=some v->kindOf x=some .local ->
  bindL kindOf (P.zip vs) m x=some v
 |[],_,_,_,_,h,_,_=>by simp at h
 |_::_,[],_,_,_,_,h,_=>by simp at h
 |p::P,w::vs,0,m,nd,h1,h2,hk=>by
  simp at h1 h2;subst h1;subst h2;show bindL kindOf ((p,w)::P.zip vs) m p=_;unfold bindL;rw[Oy λv hv=>(M8.mp nd).1 (List.of_mem_zip hv).1,Z6 hk];simp
 |p::P,w::vs,i+1,m,nd,h1,h2,hk=>by
  show bindL kindOf ((p,w)::P.zip vs) m x=_;unfold bindL;exact Oz (i:=i) (M8.mp nd).2 (by simpa using h1) (by simpa using h2) hk
theorem OB{kindOf:Str->Option NameKind}{x:Str}{v:Value}:∀{P:List Str}{vs:List Value}{i:Nat}{m:Str->Option Value},P.Nodup->P[i]?=some x->vs[i]?=some v->kindOf x≠some .local ->
  bindC kindOf (P.zip vs) m x=some v
 |[],_,_,_,_,h,_,_=>by simp at h
 |_::_,[],_,_,_,_,h,_=>by simp at h
 |p::P,w::vs,0,m,nd,h1,h2,hk=>by
  simp at h1 h2;subst h1;subst h2;show bindC kindOf ((p,w)::P.zip vs) m p=_;unfold bindC;rw[OA λv hv=>(M8.mp nd).1 (List.of_mem_zip hv).1,Z3 hk];simp
 |p::P,w::vs,i+1,m,nd,h1,h2,hk=>by
  show bindC kindOf ((p,w)::P.zip vs) m x=_;unfold bindC;exact OB (i:=i) (M8.mp nd).2 (by simpa using h1) (by simpa using h2) hk
def LG(N:List Str)(vs:List V):St:=vs.map some++List.replicate (N.length-vs.length) none
def Uv(CX:CXT)(P:Program)(w:World)(K:PySem.W.Frag)(mg:Str->Option Value)(base:Heap)(N:List Str)(qual:Str)(scope:Scope)(f:Addr)(cd:Value)(A:Around)(outer:List Env)(s:Shared)(H:Hp)(E:XK):Cx where
 prog:=P
 w:=w
 K:=K
 mg:=mg
 base:=base
 A:=A.deeper (envOfC qual scope s.heap.objs.size f cd)
 N:=N
 s₀:=s
 H₀:=H
 env:=envOfC qual scope s.heap.objs.size f cd
 outer:=outer
 stack:=envOfC qual scope s.heap.objs.size f cd::outer
 ex:=[]
 calm:=true
 fn:=λ_=>true
 pn:=[]
 xe:=λe s'=>wpAny (model P w) (A.deeper (envOfC qual scope s.heap.objs.size f cd)) (leaving (envOfC qual scope s.heap.objs.size f cd) e) (λ_ s''=>CX outer H s E e s'') (λe' s''=>CX outer H s E e' s'') s'
theorem QR{sc:Scope}{n:Nat}{x:Str}(h:sc.names.lookup x=some .cell):∃c,(cellsFrom n sc.names []).lookup x=some c:=by
 have q:=PySem.W.cellsFrom_some sc.names n [] (.inl h);exact Option.isSome_iff_exists.mp q
theorem Uk{CX:CXT}{P:Program}{w:World}{K:PySem.W.Frag}{mg:Str->Option Value}{base:Heap}{N ps:List Str}{qual:Str}{scope:Scope}{f:Addr}{cd:Value}{A:Around}{outer:List Env}{s s1:Shared}{H:Hp}{E:XK}{us:List Value}{vs:List V}
  (S:Aw N ps scope) (hd:A.handled=none) (e0:Se P w K mg base A outer s H) (hl:vs.length=ps.length) (r:AN vs us)
  (x:InCallC s s.heap.objs.size (bindL (envOfC qual scope s.heap.objs.size f cd).kindOf (ps.zip us) λ_=>none) (cellsFrom (s.heap.objs.size+1) scope.names []) (bindC (envOfC qual scope s.heap.objs.size f cd).kindOf (ps.zip us) λ_=>none) s1) :
  Inv (Uv CX P w K mg base N qual scope f cd A outer s H E) [] (LG N vs) H s1:=by
 have hpl:ps.length<=N.length:=by have:=X8 List.length S.pre;rw[J7]at this;lia
 obtain⟨h1,tk,rfl,hk⟩:=x.done;have noA:∀b:Addr,b∉(Uv CX P w K mg base N qual scope f cd A outer s H E).ex:=λb z=>absurd (show b∈([]:List Addr)from z) B1;refine⟨⟨e0.mod,S.kind,rfl,rfl,C8 _,λy z c h1 h2=>?_,λy hy=>?_,λy c _ h=>?_,λ_=>hd,Around.frames_deeper e0.frames,.inr ⟨rfl,rfl⟩,λb z=>absurd z (noA b),e0.bs,e0.bsz,λb _ _=>noA b,λb z=>absurd z (noA b),e0.funs,e0.frf⟩,
  rfl,e0.bare,Un.kept hk,⟨_,x.toInCall.ns,λi y v h1 h2 h3=>?_⟩,λy c h=>⟨_,x.cell y c h⟩,e0.hok.fresh (C8 _),λy c h=>?_,λp hp=>absurd (show p∈([]:List (Addr×Obj))from hp) B1,e0.hok.kept hk,?_⟩
 ·exact name_of_addr x.apart (A0e h1) (A0e h2)
 ·have hy:scope.names.lookup y=some .cell\/scope.names.lookup y=some .free:=hy;rcases hy with hy|hy
  ·exact QR hy
  ·exact absurd rfl (S.nofree _ (A0e hy))
 ·exact M0 (x.above y c (A0e h))
 ·have hi:i<vs.length:=by
   unfold LG at h2;by_cases hi:i<vs.length
   ·exact hi
   ·rw[E3 (by simpa using hi)]at h2;rw[U8]at h2;split at h2<;>cases h2
  have ha:vs[i]?=some v:=by
   unfold LG at h2;rw[F6 (by simpa using hi),B9]at h2;cases e:vs[i]? with
   |none=>rw[e]at h2;cases h2
   |some a=>rw[e]at h2;cases h2;rfl
  obtain⟨u,hu,rv⟩:=r.get ha;have hp:ps[i]?=some y:=by
   rw[<-S.pre,U3 A1];exact h1
  have ndP:ps.Nodup:=by rw[<-S.pre];exact S.nd.sublist (List.take_sublist _ _)
  refine⟨u,rv,?_⟩;rcases S.par y (D7 hp)with k|k
  ·exact .inl ⟨k,Oz ndP hp hu k⟩
  ·obtain⟨c,e⟩:=QR (n:=s.heap.objs.size+1) k;refine .inr ⟨.inl k,c,e,?_⟩;have q:=x.cell y c e;rw[OB ndP hp hu (by show scope.names.lookup y≠_;rw[k];decide)]at q;exact q
 ·exact e0.hok.fresh (M0 (x.above y c (A0e h)))
 ·unfold LG;show _=N.length;rw[B8,B6,N6];lia
theorem fn_of{CX:CXT}{P:Program}{w:World}{K:PySem.W.Frag}{mg:Str->Option Value}{base:Heap}{k:Nat}{f:Addr}{name qual:Str}{params:Arguments}{body:List Stmt}{scope:Scope}{dV kV doc pm cdv ct oc:Value}{an od:Option Addr}
  {osl:Array (Option Value)} {N ps:List Str} {sp:Sp} (lk:K.lookup f=some ⟨oc,od,.func (PySem.W.fnOf name qual params body scope dV kV doc pm an cdv ct),osl⟩) (hcd:PySem.W.codeIn K cdv qual=true) (S:Aw N ps scope)
  (len:∀vs H Q E,sp vs H Q E->vs.length=ps.length)
  (hbody:∀(A:Around)(outer:List Env)(s:Shared)(H:Hp)(vs:List V)(Q:VK)(E:XK),Dq k (A.deeper (envOfC qual scope s.heap.objs.size f cdv))->sp vs H Q E ->
   ∃t,PSs (Uv CX P w K mg base N qual scope f cdv A outer s H E) body t/\t {nx:=λ_ H'=>Q .non H',rt:=Q} (LG N vs) H) :
  AR P w K mg base CX (k+1) f (PySem.W.fnOf name qual params body scope dV kV doc pm an cdv ct) ps sp:=by
 refine⟨len,λA outer s H args us vs Q E hr e0 hb r hsp=>?_⟩;have hl:=len _ _ _ _ hsp;have KX:K.In s.heap:=e0.mod.kin.keeps λb o e=>(e0.bs b o e).1;have lim:s.heap.NoLimit:=e0.mod.nolimit.keeps λb o e=>(e0.bs b o e).1;have hkind:∀y∈ps.zip us,scope.names.lookup y.1=some .local\/(scope.names.lookup y.1=some .cell/\((cellsFrom (s.heap.objs.size+1) scope.names []).lookup y.1).isSome=true):=λ⟨n,v⟩ hy=>by
  rcases S.par n (List.of_mem_zip hy).1 with q|q
  ·exact .inl q
  ·exact .inr ⟨q,PySem.W.cellsFrom_some _ _ _ (.inl q)⟩
 refine codeAny_call_function hr.depth (KX _ _ lk) rfl S.co S.gen rfl (PySem.W.codeRec_of KX hcd) (hb _ _ _ _ ?_);refine wpAny_newFunctionEnv_cells S.kind hkind λenv he s1 x=>?_;subst he;refine⟨lim.keeps x.toInCall.keep,codeAny_func ?_⟩;obtain⟨t,ht,hq⟩:=hbody A outer s H vs Q E (hr.deeper _) hsp;have I:Inv (Uv CX P w K mg base N qual scope f cdv A outer s H E) [] (LG N vs) H s1:=Uk S hr.hd e0 hl r x;refine A0b (ht [] s1 (LG N vs) H _ I hq) (λfl s' hs=>?_) λe s' hs=>hs;have fin:∀{σ':St}{H':Hp}{v:V}{u:Value},Inv (Uv CX P w K mg base N qual scope f cdv A outer s H E) [] σ' H' s'->Be v u->Q v H'->CE outer P w H s Q u s' :=
  λ{σ' H' v u} J rv q=>⟨v,H',J.os,J.bare,J.base,J.hok,rv,q⟩
 cases fl with
 |ret u =>
  obtain⟨v,σ',H',J,rv,q⟩:=hs;exact fin J rv q
 |next =>
  obtain⟨σ',H',J,q⟩:=hs;exact fin (v:=V.non) (u:=Value.none) J rfl q
 |brk =>
  obtain⟨_,_,_,q⟩:=hs;exact False.elim q
 |cont =>
  obtain⟨_,_,_,q⟩:=hs;exact False.elim q
section
variable{X:Cx}{x:Str}{p pos:Pos}{e:Expr}{es:List Expr}{t:TA}{id T:String}{r:List V->Hp->VK->Prop}
def tCB(r:List V->Hp->VK->Prop)(t:TA):TE:=fun σ H Q=>t σ H λvs H1=>r vs H1 Q
theorem AO(hc:Fy X (.builtin id) r)(hg:Gl X x)(hm:X.mg x=none)(hv:bootBuiltins x=some (.builtin id))(ha:PA X (e::es) t)(hn:x≠"__name__" := by decide)(hdb:(x==("__debug__" : Str))=false:=by decide)
  (he:starEach (e::es) X.env=(false,eval e X.env)::starEach es X.env:=by rfl) (hpl:(backTo pos (starEach es X.env)).any (·.1)=false:=by rfl):PE X (.Call (.Name x p) (e::es) [] pos) (tCB r t):=by
 intro pins s σ H Q I h;refine A2c (IB I hg hm hv ?_ hn hdb);exact PyProof.Rows.callWith_builtin1 (thn (ha pos pins s σ H _ I h) λus s1 ⟨vs,H1,I1,r1,q1⟩=>hc pins s1 σ H1 vs us Q I1 r1 q1) he hpl
theorem Bv(hc:Fy X (.type T) r)(hg:Gl X x)(hm:X.mg x=none)(hv:bootBuiltins x=some (.type T))(ha:PA X (e::es) t)(hn:x≠"__name__" := by decide)(hdb:(x==("__debug__" : Str))=false:=by decide)
  (he:starEach (e::es) X.env=(false,eval e X.env)::starEach es X.env:=by rfl) (hpl:(backTo pos (starEach es X.env)).any (·.1)=false:=by rfl):PE X (.Call (.Name x p) (e::es) [] pos) (tCB r t):=by
 intro pins s σ H Q I h;refine A2c (IB I hg hm hv ?_ hn hdb);exact A0a (thn (ha pos pins s σ H _ I h) λus s1 ⟨vs,H1,I1,r1,q1⟩=>hc pins s1 σ H1 vs us Q I1 r1 q1) he hpl
end
end L2
namespace HT
open PySem PyProof.Rows
section
open PySem.SeqAt
open PySem.AutoSeq1 (wpAny_loadPart')
open PySem.MeetsSeq PySem.MeetsSeq2 PySem.MeetsSeq3
end
section
variable{prog:Program}{w:World}{A:Around}{E:Value->Shared->Prop}{s:Shared}
def sIx(n d:Nat):Option Int->Nat
 |none=>d
 |some v=>if v<0 then(v+(n:Int)).toNat else min v.toNat n
theorem SB(n d k:Nat):sIx n d (some (k:Int))=min k n:=by
 show(if(k:Int)<0 then((k:Int)+(n:Int)).toNat else min (k:Int).toNat n)=min k n;rw[Z3 A1,L8]
end
end HT
namespace L2
open PySem PySem.Spec PyProof.Rows
abbrev TO:=St->Hp->(Option Int->Hp->Prop)->Prop
def PO(X:Cx)(e:Option Expr)(t:TO):Prop :=
 ∀(pins:List (Addr×Obj))(s:Shared)(σ:St)(H:Hp)(Q:Option Int->Hp->Prop),Inv X pins σ H s->t σ H Q ->
  wpAny (model X.prog X.w) X.A (evalPart e X.env) (λu s'=>∃o H',Inv X pins σ H' s'/\IsPart u o/\Q o H') X.xe s
def tNoPart:TO:=λ_ H Q=>Q none H
def tPart(t:TE):TO:=fun σ H Q=>t σ H λx H1=>∃i,x=.int i/\Q (some i) H1
section
variable{X:Cx}{e:Expr}{te:TE}{lo hi:Option Expr}{tl th:TO}{pos p2:Pos}
theorem po_none:PO X none tNoPart:=by
 intro pins s σ H Q I h;rw[evalPart_none];exact X7 ⟨none,H,I,.none,h⟩
theorem DJ(h:PE X e te):PO X (some e) (tPart te):=by
 intro pins s σ H Q I hw;rw[evalPart_some];refine thn (h pins s σ H _ I hw) λu s1 ⟨x,H1,I1,r1,q1⟩=>?_;obtain⟨i,rfl,q⟩:=q1;obtain⟨t,rfl⟩:=r1;exact⟨some i,H1,I1,.int i t,q⟩
def SlR(X:Cx)(r:V->Option Int->Option Int->Hp->VK->Prop):Prop :=
 ∀(pins:List (Addr×Obj))(s:Shared)(σ:St)(H:Hp)(x:V)(v vl vu:Value)(lo hi:Option Int)(sl:Addr)(Q:VK),Inv X pins σ H s->Be x v->s.heap.IsSliceOf sl vl vu .none->IsPart vl lo->IsPart vu hi->r x lo hi H Q ->
  ∃T id,typeLookup (.type T) "__getitem__" = pure (some (.builtin id))/\s.TypeIs v T/\wpAny (model X.prog X.w) X.A (getItem v (.ref sl)) (EP X pins σ Q) X.xe s
def tSl(r:V->Option Int->Option Int->Hp->VK->Prop)(te:TE)(tl th:TO):TE:=fun σ H Q=>te σ H λx H1=>tl σ H1 λl H2=>th σ H2 λu H3=>r x l u H3 Q
theorem Gi{r:V->Option Int->Option Int->Hp->VK->Prop}(hr:SlR X r)(he:PE X e te)(hl:PO X lo tl)(hu:PO X hi th):PE X (.Subscript e (.Slice lo hi none p2) pos) (tSl r te tl th):=by
 intro pins s σ H Q I h;refine Subscript_ (thn (he pins s σ H _ I h) λv s1 ⟨x,H1,I1,r1,q1⟩=>?_);refine wpAny_Slice (thn (hl pins s1 σ H1 _ I1 q1) λvl s2 ⟨l,H2,I2,pl,q2⟩=>thn (hu pins s2 σ H2 _ I2 q2) λvu s3 ⟨u,H3,I3,pu,q3⟩=>?_);rw[evalPart_none];refine X7 ?_;have I4:Inv X pins σ H3 {s3 with heap:=s3.heap.push {cls:=.type "slice",data:=.fields #[vl,vu,.none]} }:=I3.kept (t':=s3.toks) λb ob q=>D0 _ q;obtain⟨T,id,hT,ht,hg⟩:=hr pins {s3 with heap:=s3.heap.push {cls:=.type "slice",data:=.fields #[vl,vu,.none]} } σ H3 x v vl vu l u s3.heap.objs.size Q I4 r1 (Heap.IsSliceOf.new ..) pl pu q3;show wpAny (model X.prog X.w) X.A (subscriptTail e (.Slice lo hi none p2) v (.ref s3.heap.objs.size)) (EP X pins σ Q) X.xe {s3 with heap:=s3.heap.push {cls:=.type "slice",data:=.fields #[vl,vu,.none]} };exact tail_any (ops:=[.ref s3.heap.objs.size,v]) ht hT hg (by with_unfolding_all rfl)
def Nt(xs:List V)(lo hi:Option Int):List V:=(xs.drop (HT.sIx xs.length 0 lo)).take (HT.sIx xs.length xs.length hi-HT.sIx xs.length 0 lo)
theorem QK(xs:List V)(lo hi:Option Int):(Nt xs lo hi).length<=xs.length:=by
 unfold Nt;rw[J7,List.length_drop];lia
end
def ixN(n:Nat)(i:Int):Option Nat:=if 0<=i then(if i<n then some i.toNat else none)else if -(n:Int)<=i then some (i+n).toNat else none
def atI{α:Type}(xs:List α)(i:Int):Option α:=(ixN xs.length i).bind λj=>xs[j]?
theorem Ta{n:Nat}{i:Int}{j:Nat}(h:ixN n i=some j):seqIndex? i n=some j/\j<n/\-(n:Int)<=i/\i<n:=by
 unfold ixN at h;by_cases h0:0<=i
 ·rw[Z6 h0]at h;by_cases h1:i<n
  ·rw[Z6 h1]at h;have e:i.toNat=j:=X9 h;exact⟨by rw[seqIndex_of h0 h1,e],by lia,by lia,h1⟩
  ·rw[Z3 h1]at h;cases h
 ·rw[Z3 h0]at h;by_cases h1:-(n:Int)<=i
  ·rw[Z6 h1]at h;have e:(i+n).toNat=j:=X9 h;exact⟨by rw[seqIndex_neg A1 h1,e],by lia,h1,by lia⟩
  ·rw[Z3 h1]at h;cases h
theorem Pz{α:Type}{xs:List α}{i:Int}{v:α}(h:atI xs i=some v):∃j,seqIndex? i xs.length=some j/\xs[j]?=some v/\j<xs.length/\-(xs.length:Int)<=i/\i<xs.length:=by
 unfold atI at h;cases e:ixN xs.length i with
 |none=>rw[e]at h;cases h
 |some j =>
  rw[e]at h;obtain⟨h1,h2,h3,h4⟩:=Ta e;exact⟨j,h1,h,h2,h3,h4⟩
theorem Am{α:Type}{xs:List α}{j:Nat}{v:α}(h:xs[j]?=some v):atI xs (j:Int)=some v:=by
 have hj:j<xs.length:=(B7.mp h).1;have e:ixN xs.length (j:Int)=some j:=by
  unfold ixN;rw[Z6 A1,Z6 A1];simp
 unfold atI;rw[e];exact h
def PlainIx(b:Expr):Prop:=∀o i,subscripted b false o i=operate [o,i] (getItem o i)
def IxR(X:Cx)(r:R2):Prop :=
 ∀(value slice:Expr)(pins:List (Addr×Obj))(s:Shared)(σ:St)(H:Hp)(x y:V)(v u:Value)(Q:VK),Inv X pins σ H s->Be x v->Be y u->r x y H Q ->
  subscripted slice false v u=operate [v,u] (getItem v u)->wpAny (model X.prog X.w) X.A (subscriptTail value slice v u) (EP X pins σ Q) X.xe s
def MtR(X:Cx)(id:String)(r:V->List V->Hp->VK->Prop):Prop :=
 ∀(pins:List (Addr×Obj))(s:Shared)(σ:St)(H:Hp)(x:V)(xs:List V)(v:Value)(us:List Value)(Q:VK),Inv X pins σ H s->Be x v->AN xs us->r x xs H Q ->
  wpAny (model X.prog X.w) X.A (call (.builtin id) (v::us)) (EP X pins σ Q) X.xe s
section
variable{X:Cx}{a b:Expr}{ta tb:TE}{pos:Pos}
theorem Al{r:R2}(hr:IxR X r)(ha:PE X a ta)(hb:PE X b tb)(hs:PlainIx b):PE X (.Subscript a b pos) (tOp r ta tb):=by
 intro pins s σ H Q I h;exact Subscript_ (binT ha hb I h λv u s2 x y H2 I2 rx ry q=>hr a b pins s2 σ H2 x y v u Q I2 rx ry q (hs _ _))
def rIxL(K:PySem.W.Frag):R2:=λx y H Q=>∃p xs i v,x=.ref p/\y=.int i/\SqL K H p xs/\atI xs i=some v/\Q v H
def IW(K:PySem.W.Frag):R2:=λx y H Q=>∃p xs i v,x=.ref p/\y=.int i/\SqT K H p xs/\atI xs i=some v/\Q v H
def rIxS:R2:=λx y H Q=>∃z i c,x=.str z/\y=.int i/\z.length<=sizeLine/\atI z.cps.toList i=some c/\Q (.str ⟨#[c]⟩) H
theorem Ar:IxR X (rIxL X.K):=by
 intro value slice pins s σ H x y v u Q I rx ry h hs;obtain⟨p,xs,i,z,rfl,rfl,hq,he,q⟩:=h;cases rx;obtain⟨t,rfl⟩:=ry;obtain⟨its,r,pl,hz⟩:=I.list hq;obtain⟨j,h1,h2,h3,h4,h5⟩:=Pz he;obtain⟨w,ew,rw'⟩:=r.get h2;have hl:=r.length;have hn:=Lw;have fin:EP X pins σ Q w s:=⟨z,H,I,rw',q⟩
 by_cases h0:0<=i
 ·have hj:i.toNat=j:=by
   rw[seqIndex_of h0 h5]at h1;exact X9 h1
  exact item_listR pl.isList h0 A1 (by rw[hj];simpa using ew) fin hs
 ·have hj:(i+(its.toArray.size:Int)).toNat=j:=by
   rw[seqIndex_neg A1 h4]at h1;rw[E6,<-hl];exact X9 h1
  exact subscriptTail_builtinR (x:=w) pl.isList.typeIs slot_list_getitem.lookup
   (wpAny_getItem_list_neg (Q:=λr s'=>r=w/\EP X pins σ Q r s') pl.isList A1 (by rw[E6]<;>lia) A1 (by rw[hj];simpa using ew) ⟨rfl,fin⟩) hs
theorem An:IxR X (IW X.K):=by
 intro value slice pins s σ H x y v u Q I rx ry h hs;obtain⟨p,xs,i,z,rfl,rfl,hq,he,q⟩:=h;cases rx;obtain⟨t,rfl⟩:=ry;obtain⟨its,r,pl,hz⟩:=I.tuple hq;obtain⟨j,h1,h2,h3,h4,h5⟩:=Pz he;obtain⟨w,ew,rw'⟩:=r.get h2;have hl:=r.length;have hn:=Lw;have fin:EP X pins σ Q w s:=⟨z,H,I,rw',q⟩
 exact subscriptTail_builtinR (x:=w) pl.typeIs slot_tuple_getitem.lookup
  (getItem_tuple (j:=j) (Q:=λr s'=>r=w/\EP X pins σ Q r s') pl A1 A1 (by rw[E6,<-hl];exact h1) (by simpa using ew) ⟨rfl,fin⟩) hs
theorem ix_str:IxR X rIxS:=by
 intro value slice pins s σ H x y v u Q I rx ry h hs;obtain⟨z,i,c,rfl,rfl,hz,he,q⟩:=h;obtain⟨t,rfl⟩:=rx;obtain⟨t',rfl⟩:=ry;obtain⟨j,h1,h2,h3,h4,h5⟩:=Pz he;have hl:z.cps.toList.length=z.length:=by simp[Str.length]
 rw[hl]at h1 h4 h5;have hn:=Lw;exact tail_any (A4c s z t) slot_str_getitem.lookup (getItem_str (c:=c) (by
  have e1:decide (i < -(2^63:Int))=false:=Z2 A1;have e2:decide (i ≥ 2^63)=false:=Z2 A1;rw[e1,e2,Bool.or_false]) (by rw[h1];simpa using h2) ⟨.str ⟨#[c]⟩,H,I.tok _,⟨_,rfl⟩,q⟩) hs
theorem RI(its:List Value)(n j:Nat)(u:Value):Obj.mapSeq (·.setIfInBounds j u) {cls:=.type "list",data:=.seq its.toArray n}={cls:=.type "list",data:=.seq (its.set j u).toArray n}:=by
 simp[Obj.mapSeq]
theorem Inv.lst{pins:List (Addr×Obj)}{σ:St}{H:Hp}{s:Shared}{p:Addr}{xs:List V}(I:Inv X pins σ H s)(h:H p=some (.lst xs)) :
  ∃(its:List Value)(n:Nat),AN xs its/\s.heap.get? p=some {cls:=.type "list",data:=.seq its.toArray n}/\xs.length<=sizeLine:=by
 obtain⟨z,its,n,r,e⟩:=I.hok p _ h;exact⟨its,n,r,e,z⟩
theorem Inv.lstUpd{pins:List (Addr×Obj)}{σ:St}{H:Hp}{s:Shared}{p:Addr}{xs ys:List V}{its its':List Value}{n n':Nat}{f:Obj->Obj}(I:Inv X pins σ H s)(h:H p=some (.lst xs))
  (ho:s.heap.get? p=some {cls:=.type "list",data:=.seq its.toArray n}) (hf:f {cls:=.type "list",data:=.seq its.toArray n}={cls:=.type "list",data:=.seq its'.toArray n'}) (r:AN ys its') (hz:ys.length<=sizeLine) (t:Nat) :
  Inv X pins σ (upd H p (.lst ys)) {s with heap:=s.heap.update p f,toks:=t}:=by
 have e:(s.heap.update p f).get? p=some {cls:=.type "list",data:=.seq its'.toArray n'}:=by
  rw[Heap.get?_update_self f ho (by rw[hf]<;>rfl),hf]
 refine I.write (x:=p) (e:=p) (by rw[h];trivial) (.inl rfl) (λb u hb q=>(V8 _ _ (Z7 hb)).trans q) ⟨_,e⟩ ?_;exact⟨hz,its',n',r,e⟩
def rSetL:V->V->V->Hp->(Hp->Prop)->Prop:=λo i v H Q=>∃p xs k j,o=.ref p/\i=.int k/\H p=some (.lst xs)/\ixN xs.length k=some j/\Q (upd H p (.lst (xs.set j v)))
theorem Ve:PSet X rSetL:=by
 intro pins s σ H o i v ov iv u Q I ro ri rv h;obtain⟨p,xs,k,j,rfl,rfl,hp,hj,q⟩:=h;cases ro;obtain⟨t,rfl⟩:=ri;obtain⟨its,n,r,ho,hz⟩:=I.lst hp;obtain⟨h1,h2,h3,h4⟩:=Ta hj;have hl:=r.length;have hn:=Lw;have I':Inv X pins σ (upd H p (.lst (xs.set j v))) {s with heap:=s.heap.update p (Obj.mapSeq (·.setIfInBounds j u))} :=
  I.lstUpd hp ho (RI its n j u) (r.set rv j) (by rw[List.length_set];exact hz) s.toks
 by_cases h0:0<=k
 ·have hk:k.toNat=j:=by
   rw[seqIndex_of h0 h4]at h1;exact X9 h1
  exact PySem.W.ki_setAt ho h0 A1 (by rw[E6,<-hl];exact h4) (by rw[hk];exact⟨_,I',q⟩)
 ·have hk:(k+(its.toArray.size:Int)).toNat=j:=by
   rw[seqIndex_neg A1 h3]at h1;rw[E6,<-hl];exact X9 h1
  exact PySem.W.ki_setBack ho A1 (by rw[E6,<-hl];exact h3) A1 (by rw[hk];exact⟨_,I',q⟩)
theorem OP(lo hi:Option Int)(n:Nat):(sliceBounds lo hi none n).1=((HT.sIx n 0 lo:Nat):Int)/\(sliceBounds lo hi none n).2.1=((HT.sIx n n hi:Nat):Int)/\(sliceBounds lo hi none n).2.2=1:=by
 refine⟨?_,?_,rfl⟩
 ·cases lo with
  |none=>simp[sliceBounds,HT.sIx]
  |some i =>
   simp only[sliceBounds,HT.sIx,Option.getD_none,show(1:Int) > 0 by decide,A3b];by_cases h:i<0
   ·simp only[h,A3b]<;>lia
   ·simp only[h,A2a]<;>lia
 ·cases hi with
  |none=>simp[sliceBounds,HT.sIx]
  |some i =>
   simp only[sliceBounds,HT.sIx,Option.getD_none,show(1:Int) > 0 by decide,A3b];by_cases h:i<0
   ·simp only[h,A3b]<;>lia
   ·simp only[h,A2a]<;>lia
theorem NG(its:List Value)(lo hi:Option Int):slicePick its.toArray lo hi none=((its.drop (HT.sIx its.length 0 lo)).take (HT.sIx its.length its.length hi-HT.sIx its.length 0 lo)).toArray:=by
 obtain⟨h1,h2,h3⟩:=OP lo hi its.toArray.size;unfold slicePick;rw[h1,h2,h3];simp only[sliceRange_one,pick_run,E6]<;>rfl
def rSlL(K:PySem.W.Frag):V->Option Int->Option Int->Hp->VK->Prop:=λx lo hi H Q=>∃a xs,x=.ref a/\SqL K H a xs/\∀p,H p=none->Q (.ref p) (upd H p (.lst (Nt xs lo hi)))
theorem IL:SlR X (rSlL X.K):=by
 intro pins s σ H x v vl vu lo hi sl Q I rx hs pl pu h;obtain⟨a,xs,rfl,hx,q⟩:=h;cases rx;obtain⟨its,r,ht,hz⟩:=I.list hx;have hlen:=r.length;refine⟨"list",_,slot_list_getitem.lookup,ht.isList.typeIs,?_⟩;refine wpAny_getItem_list_slice ht.isList hs pl pu .none B1 ?_ (by rw[E6]<;>lia);rw[NG,<-hlen];refine⟨.ref s.heap.objs.size,_,I.laid (t':=s.toks) (o:=.lst (Nt xs lo hi)) (λb ob q=>D0 _ q) (C8 _) ?_,rfl,q _ (I.hok.fresh (C8 _))⟩;exact⟨D4 (QK xs lo hi) hz,_,0,(r.drop (HT.sIx xs.length 0 lo)).take (HT.sIx xs.length xs.length hi-HT.sIx xs.length 0 lo),F3 _ rfl⟩
def JL:V->Bool
 |.non=>true
 |.bl _=>true
 |.int _=>true
 |.str _=>true
 |_=>false
def eqV:V->V->Bool
 |.non,.non=>true
 |.bl a,.bl b=>a==b
 |.bl a,.int b=>(if a then 1 else 0)==b
 |.int a,.bl b=>a==(if b then 1 else 0)
 |.int a,.int b=>a==b
 |.str a,.str b=>a==b
 |_,_=>false
theorem eqAt_V{A:Around}{s:Shared}{y x:V}{u v:Value}(ry:Be y u)(rx:Be x v)(fy:JL y=true)(fx:JL x=true):SeqAt.EqAt A s u v (eqV y x):=by
 cases y with
 |non =>
  cases ry;cases x with
  |non=>cases rx;exact SeqAt.EqAt.same _
  |bl b=>cases rx;exact SeqAt.EqAt.none_bool b
  |int b=>obtain⟨t,rfl⟩:=rx;exact SeqAt.EqAt.none_int b t
  |str b=>obtain⟨t,rfl⟩:=rx;exact SeqAt.EqAt.none_str b t
  |_=>exact absurd (show false=true from fx) F1
 |bl a =>
  cases ry;cases x with
  |non=>cases rx;exact SeqAt.EqAt.bool_none a
  |bl b=>cases rx;exact SeqAt.EqAt.bool_bool a b
  |int b=>obtain⟨t,rfl⟩:=rx;exact SeqAt.EqAt.bool_int a b t
  |str b=>obtain⟨t,rfl⟩:=rx;exact SeqAt.EqAt.bool_str a b t
  |_=>exact absurd (show false=true from fx) F1
 |int a =>
  obtain⟨t',rfl⟩:=ry;cases x with
  |non=>cases rx;exact SeqAt.EqAt.int_none a t'
  |bl b=>cases rx;exact SeqAt.EqAt.int_bool a t' b
  |int b=>obtain⟨t,rfl⟩:=rx;exact SeqAt.EqAt.int_int a t' b t
  |str b=>obtain⟨t,rfl⟩:=rx;exact SeqAt.EqAt.int_str a t' b t
  |_=>exact absurd (show false=true from fx) F1
 |str a =>
  obtain⟨t',rfl⟩:=ry;cases x with
  |non=>cases rx;exact SeqAt.EqAt.str_none a t'
  |bl b=>cases rx;exact SeqAt.EqAt.str_bool a t' b
  |int b=>obtain⟨t,rfl⟩:=rx;exact SeqAt.EqAt.str_int a t' b t
  |str b=>obtain⟨t,rfl⟩:=rx;exact SeqAt.EqAt.str_str a t' b t
  |_=>exact absurd (show false=true from fx) F1
 |_=>exact absurd (show false=true from fy) F1
def eqU(x:V)(u:Value):Bool:=match u with
 |.none=>eqV .non x
 |.bool b=>eqV (.bl b) x
 |.int i _=>eqV (.int i) x
 |.str z _=>eqV (.str z) x
 |_=>false
theorem Wg{x y:V}{u:Value}(r:Be y u)(f:JL y=true):eqU x u=eqV y x:=by
 cases y with
 |non=>cases r;rfl
 |bl b=>cases r;rfl
 |int i=>obtain⟨t,rfl⟩:=r;rfl
 |str z=>obtain⟨t,rfl⟩:=r;rfl
 |_=>exact absurd (show false=true from f) F1
theorem PD{x:V}:∀{xs:List V}{us:List Value},AN xs us->xs.all JL=true->us.any (eqU x)=xs.any λy=>eqV y x
 |_,_,.nil,_=>rfl
 |y::xs,u::us,.cons r t,f=>by
  rw[W5,Q1]at f;rw[U4,U4,Wg r f.1,PD t f.2]
theorem Ng{A:Around}{s:Shared}{x:V}{v:Value}(rx:Be x v)(fx:JL x=true):∀{xs:List V}{us:List Value},AN xs us->xs.all JL=true->∀u∈us,SeqAt.EqAt A s u v (eqU x u)
 |_,_,.nil,_=>λu hu=>by cases hu
 |y::xs,u::us,.cons r t,f=>λu' hu=>by
  rw[W5,Q1]at f;rcases D6.mp hu with rfl|hu
  ·rw[Wg r f.1];exact eqAt_V r rx f.1 fx
  ·exact Ng rx fx t f.2 u' hu
def inV(x:V)(xs:List V):Bool:=xs.any λy=>eqV y x
def rIn(K:PySem.W.Frag)(neg:Bool):R2:=λx y H Q=>∃p xs,y=.ref p/\(SqL K H p xs\/SqT K H p xs)/\JL x=true/\xs.all JL=true/\Q (.bl (if neg then !inV x xs else inV x xs)) H
theorem TL:OpR X (compareOp .In) (rIn X.K false):=by
 intro pins s σ H x y v u Q I rx ry h;obtain⟨p,xs,rfl,hq,fx,fs,q⟩:=h;cases ry;rcases hq with hq|hq
 ·obtain⟨its,r,pl,hz⟩:=I.list hq;refine SeqAt.in_listAt (eqU x) pl.isList (λw hw=>Ng rx fx r fs w (by simpa using hw)) ⟨.bl _,H,I,rfl,?_⟩;rw[show its.toArray.any (eqU x)=its.any (eqU x) by simp,PD r fs];exact q
 ·obtain⟨its,r,pl,hz⟩:=I.tuple hq;refine SeqAt.in_tupleAt (eqU x) pl (λw hw=>Ng rx fx r fs w (by simpa using hw)) ⟨.bl _,H,I,rfl,?_⟩;rw[show its.toArray.any (eqU x)=its.any (eqU x) by simp,PD r fs];exact q
theorem Bh:Fy X (.builtin "len") (λxs H Q=>∃p ys,xs=[.ref p]/\(SqL X.K H p ys\/SqT X.K H p ys)/\Q (.int ys.length) H):=by
 intro pins s σ H xs us Q I r h;obtain⟨p,ys,rfl,hq,q⟩:=h;obtain⟨u,rfl,rx⟩:=LF r;cases rx;have hn:=Lw;rcases hq with hq|hq
 ·obtain⟨its,r',pl,hz⟩:=I.list hq;have hlen:=r'.length;exact Calls.call_len_list pl.isList (by simp only[E6]<;>lia) ⟨.int ys.length,H,I.tok _,⟨s.toks+1,by rw[E6,hlen]⟩,q⟩
 ·obtain⟨its,r',pl,hz⟩:=I.tuple hq;have hlen:=r'.length;exact len_tuple pl (by simp only[E6]<;>lia) ⟨.int ys.length,H,I.tok _,⟨s.toks+1,by rw[E6,hlen]⟩,q⟩
theorem GU:Fy X (.builtin "len") (λxs H Q=>∃z,xs=[.str z]/\z.length<=sizeLine/\Q (.int z.length) H):=by
 intro pins s σ H xs us Q I r h;obtain⟨z,rfl,hz,q⟩:=h;obtain⟨u,rfl,t,rfl⟩:=LF r;have hn:=Lw;exact len_str A1 ⟨.int z.length,H,I.tok _,⟨_,rfl⟩,q⟩
theorem GT:Fy X (.type "list") (λxs H Q=>∃p ys,xs=[.ref p]/\(SqL X.K H p ys\/SqT X.K H p ys)/\∀l,H l=none->Q (.ref l) (upd H l (.lst ys))):=by
 intro pins s σ H xs us Q I r h;obtain⟨p,ys,rfl,hq,q⟩:=h;obtain⟨u,rfl,rx⟩:=LF r;cases rx;have fin:∀(its:List Value),AN ys its->ys.length<=sizeLine->∀(h':Heap)(c':Nat),(∀b o',s.heap.get? b=some o'->h'.get? b=some o') ->
   h'.get? s.heap.objs.size=some {cls:=.type "list",dict:=none,data:=.seq its.toArray c',slots:=#[]}->EP X pins σ Q (.ref s.heap.objs.size) {s with heap:=h'}:=λits r' hz h' c' kp e =>
  ⟨.ref s.heap.objs.size,_,I.laid (t':=s.toks) kp (C8 _) (show BN X.prog X.w _ h' _ (.lst ys)from⟨hz,its,c',r',e⟩),rfl,q _ (I.hok.fresh (C8 _))⟩
 rcases hq with hq|hq
 ·obtain⟨its,r',pl,hz⟩:=I.list hq;have hlen:=r'.length;obtain⟨o,ho,hc,n,hd⟩:=pl.isList;exact call_list_seq p (.inl rfl) ho hc hd (λh' c' kp e=>fin its r' hz h' c' kp e) (by simp only[E6]<;>lia)
 ·obtain⟨its,r',pl,hz⟩:=I.tuple hq;have hlen:=r'.length;obtain⟨o,ho,hc,n,hd⟩:=pl;exact call_list_seq p (.inr rfl) ho hc hd (λh' c' kp e=>fin its r' hz h' c' kp e) (by simp only[E6]<;>lia)
theorem CB:Fy X (.type "tuple") (λxs H Q=>∃p ys,xs=[.ref p]/\((SqL X.K H p ys/\∀l,H l=none->Q (.ref l) (upd H l (.tup ys)))\/(SqT X.K H p ys/\Q (.ref p) H))):=by
 intro pins s σ H xs us Q I r h;obtain⟨p,ys,rfl,h⟩:=h;obtain⟨u,rfl,rx⟩:=LF r;cases rx;rcases h with ⟨hq,q⟩|⟨hq,q⟩
 ·obtain⟨its,r',pl,hz⟩:=I.list hq;have hlen:=r'.length;refine call_tuple_list pl.isList (λh' kp=>?_) (by simp only[E6]<;>lia);have I1:Inv X pins σ H {s with heap:=h'}:=I.kept (t':=s.toks) kp
  have I2:Inv X pins σ (upd H h'.objs.size (.tup ys)) {s with heap:=h'.push {cls:=.type "tuple",data:=.seq its.toArray} } :=
   I1.laid (t':=s.toks) (λb o e=>D0 _ e) (C8 _) (show BN X.prog X.w _ _ _ (.tup ys)from⟨hz,its,r',IsTup.new _ _⟩)
  exact⟨.ref h'.objs.size,_,I2,rfl,q _ (I1.hok.fresh (C8 _))⟩
 ·obtain⟨its,r',pl,hz⟩:=I.tuple hq;exact call_tuple_same pl ⟨.ref p,H,I,rfl,q⟩
def tyV(K:PySem.W.Frag)(T:String)(x:V)(H:Hp):Prop:=match x with
 |.str _=>T="str"
 |.int _=>T="int"
 |.ref p=>(T="list" /\ ∃xs,SqL K H p xs)\/(T="tuple" /\ ∃o,K.lookup p=some o/\o.cls=.type "tuple" /\ o.dict=none) \/
   (T="dict" /\ ((∃kvs,H p=some (.dK kvs))\/∃kvs,H p=some (.dT kvs)))\/(T="set" /\ ∃S n,H p=some (.set S n))
 |_=>False
theorem UK{pins:List (Addr×Obj)}{σ:St}{H:Hp}{s:Shared}{T:String}{x:V}{v:Value}(I:Inv X pins σ H s)(r:Be x v)(ty:tyV X.K T x H) :
  s.TypeIs v T/\∀a,v=.ref a->∃ob,s.heap.get? a=some ob/\ob.dict=none:=by
 cases x with
 |str z =>
  obtain⟨t,rfl⟩:=r;cases(show T="str" from ty);exact⟨A4c s z t,λ_ e=>nomatch e⟩
 |int i =>
  obtain⟨t,rfl⟩:=r;cases(show T="int" from ty);exact⟨typeIs_int s i t,λ_ e=>nomatch e⟩
 |ref p =>
  cases r;rcases ty with ⟨rfl,xs,hq⟩|⟨rfl,o,hk,hc,hd⟩|⟨rfl,hk⟩|⟨rfl,S,n,hk⟩
  ·obtain⟨its,_,pl,_⟩:=I.list hq;refine⟨pl.isList.typeIs,λa e=>?_⟩;cases e;obtain⟨o,n,e,c,hd,_⟩:=pl;exact⟨o,e,hd⟩
  ·refine⟨⟨o,I.kIn p o hk,hc⟩,λa e=>?_⟩;cases e;exact⟨o,I.kIn _ o hk,hd⟩
  ·have z:∃o,s.heap.get? p=some o/\o.ExactDict:=by
    rcases hk with ⟨kvs,hk⟩|⟨kvs,hk⟩
    ·obtain⟨_,_,_,_,o,_,_,e,ex,_⟩:=I.hok p _ hk;exact⟨o,e,ex⟩
    ·obtain⟨_,_,_,_,o,_,_,e,ex,_⟩:=I.hok p _ hk;exact⟨o,e,ex⟩
   obtain⟨o,e,ex⟩:=z;refine⟨⟨o,e,ex.1⟩,λa e2=>?_⟩;cases e2;exact⟨o,e,ex.2.1⟩
  ·obtain⟨o,_,_,_,e,ex,_⟩:=I.hok p _ hk;refine⟨⟨o,e,ex.1⟩,λa e2=>?_⟩;cases e2;exact⟨o,e,ex.2.1⟩
 |_=>exact False.elim ty
def tBM0(K:PySem.W.Frag)(T:String)(r:V->List V->Hp->VK->Prop)(to:TE):TE:=fun σ H Q=>to σ H λx H1=>tyV K T x H1/\r x [] H1 Q
def tBM(K:PySem.W.Frag)(T:String)(r:V->List V->Hp->VK->Prop)(to:TE)(t:TA):TE:=fun σ H Q=>to σ H λx H1=>tyV K T x H1/\t σ H1 λxs H2=>r x xs H2 Q
variable{o e:Expr}{es:List Expr}{to:TE}{t:TA}{name:Str}{apos cpos:Pos}{T id:String}{r:V->List V->Hp->VK->Prop}
theorem pe_bm0(pa:PlainAttrs T)(slot:Slot T name id)(hty:typeOf (.builtin id)=pure (.type "method_descriptor"))(hm:MtR X id r)(ho:PE X o to)
  (hbase:attributeBase o name X.env (eval o X.env)=eval o X.env:=by rfl) (hline:(apos.endLine==cpos.line)=true:=by rfl):PE X (.Call (.Attribute o name apos) [] [] cpos) (tBM0 X.K T r to):=by
 intro pins s σ H Q I h;refine wpAny_Call_method0_late hbase hline (thn (ho pins s σ H _ I h) λv s1 ⟨x,H1,I1,r1,ty,q1⟩=>?_);obtain⟨h1,h2⟩:=UK I1 r1 ty;exact⟨T,id,pa,slot,hty,h1,h2,A4d rfl (PySem.evalArgs_none (hm pins s1 σ H1 x [] v [] Q I1 r1 .nil q1))⟩
theorem Ce(pa:PlainAttrs T)(slot:Slot T name id)(hty:typeOf (.builtin id)=pure (.type "method_descriptor"))(hm:MtR X id r)(ho:PE X o to)(ha:PA X (e::es) t)
  (hbase:attributeBase o name X.env (eval o X.env)=eval o X.env:=by rfl)
  (hfew:((backTo cpos (starEach (e::es) X.env)).all (λx=>!x.1) && (backToKw cpos (keywordEach [] X.env)).all (λx=>x.1.isSome)
   && decide ((e::es).length+([]:List Keyword).length+(if([]:List Keyword).isEmpty then 0 else 1)<30))=true:=by rfl)
  (hline:(apos.endLine==cpos.line)=true:=by rfl) (hs:starEach (e::es) X.env=(false,eval e X.env)::starEach es X.env:=by rfl) (hplain:(backTo cpos (starEach es X.env)).any (·.1)=false:=by rfl) :
  PE X (.Call (.Attribute o name apos) (e::es) [] cpos) (tBM X.K T r to t):=by
 intro pins s σ H Q I h;refine wpAny_Call_method_late hbase hfew hline rfl (thn (ho pins s σ H _ I h) λv s1 ⟨x,H1,I1,r1,ty,q1⟩=>?_);obtain⟨h1,h2⟩:=UK I1 r1 ty;refine⟨T,id,pa,slot,hty,h1,h2,?_⟩;have hA:=ha cpos pins s1 σ H1 _ I1 q1;rw[hs]at hA⊢;refine A4d (by show(false || (backTo cpos (starEach es X.env)).any (·.1))=false;rw[hplain]<;>rfl) (Calls.evalArgs_plain ?_);exact thn hA λus s2 ⟨vs,H2,I2,r2,q2⟩=>hm pins s2 σ H2 x vs v us Q I2 r1 r2 q2
end
def MtM(X:Cx)(id:String)(r:V->List V->Hp->VK->Prop):Prop :=
 ∀(pins:List (Addr×Obj))(s:Shared)(σ:St)(H:Hp)(x:V)(xs:List V)(v:Value)(us:List Value)(Q:VK),Inv X pins σ H s->Be x v->AN xs us->r x xs H Q ->
  wpAny (model X.prog X.w) X.A (call (.builtin id) (v::us)) (EP X pins σ Q) X.xe s
theorem AN.one:∀{x:V}{us:List Value},AN [x] us->∃u,us=[u]/\Be x u
 |_,_,.cons r .nil=>⟨_,rfl,r⟩
theorem AN.two:∀{x y:V}{us:List Value},AN [x,y] us->∃u v,us=[u,v]/\Be x u/\Be y v:=by
 intro x y us h;cases h with
 |cons r t=>cases t with
  |cons q t=>cases t;exact⟨_,_,rfl,r,q⟩
theorem AN.zero:∀{us:List Value},AN [] us->us=[]
 |_,.nil=>rfl
theorem AN.reverse{xs:List V}{us:List Value}(h:AN xs us):AN xs.reverse us.reverse:=by
 induction h with
 |nil=>exact .nil
 |cons r t ih=>rw[Y6,Y6];exact AN.append ih (.cons r .nil)
theorem AN.rep{xs:List V}{us:List Value}(h:AN xs us):∀k:Nat,AN (List.replicate k xs).flatten (List.replicate k us).flatten
 |0=>.nil
 |k+1=>by
  rw[Q4,Q4,P6,P6];exact AN.append h (AN.rep h k)
theorem Os(its:List Value):∀(k:Nat)(acc:List Value),
  List.foldl (λx1 x2=>x1++x2) acc.toArray (List.replicate k its.toArray)=(acc++(List.replicate k its).flatten).toArray
 |0,acc=>by simp
 |k+1,acc=>by
  have e:acc.toArray++its.toArray=(acc++its).toArray:=by simp
  have e2:(acc++its)++(List.replicate k its).flatten=acc++(List.replicate (k+1) its).flatten:=by
   rw[Q4,P6,L5]
  rw[<-e2,<-Os its k (acc++its),<-e,Q4,Q7]
section
variable{X:Cx}{pins:List (Addr×Obj)}{σ:St}{H:Hp}{s:Shared}{l b:Addr}{xs ys zs:List V}
theorem Inv.lset{its its':List Value}{n:Nat}{f:Array Value->Array Value}{t':Nat}(I:Inv X pins σ H s)(hH:H l=some (.lst xs))
  (e:s.heap.get? l=some {cls:=.type "list",data:=.seq its.toArray n}) (hf:f its.toArray=its'.toArray) (hv:AN ys its') (hz:ys.length<=sizeLine) :
  Inv X pins σ (upd H l (.lst ys)) {s with heap:=s.heap.update l (Obj.mapSeq f),toks:=t'}:=by
 have q:=PySem.IsL.update e f;rw[hf]at q;refine I.write (x:=l) (e:=l) (by rw[hH];exact trivial) (.inl rfl) (λb' u hb hu=>(V8 s.heap (Obj.mapSeq f) (Z7 hb)).trans hu) ⟨_,q⟩ ?_;exact⟨hz,its',_,hv,q⟩
theorem Inv.lnew{its:List Value}{t':Nat}(I:Inv X pins σ H s)(hv:AN ys its)(hz:ys.length<=sizeLine) :
  Inv X pins σ (upd H s.heap.objs.size (.lst ys)) {s with heap:=s.heap.push {cls:=.type "list",data:=.seq its.toArray},toks:=t'} :=
 I.laid (λ_ _ q=>D0 _ q) (C8 _) ⟨hz,its,0,hv,F3 _ rfl⟩
theorem Inv.fresh(I:Inv X pins σ H s):H s.heap.objs.size=none:=I.hok.fresh (C8 _)
theorem Inv.lstM(I:Inv X pins σ H s)(hH:H l=some (.lst xs)):xs.length<=sizeLine/\∃(its:List Value)(n:Nat),AN xs its/\xs.length=its.length/\s.heap.get? l=some {cls:=.type "list",data:=.seq its.toArray n}:=by
 obtain⟨z,its,n,r,e⟩:=I.hok l _ hH;exact⟨z,its,n,r,r.length,e⟩
theorem VF{n:Nat}(h:n<=sizeLine):Builtin.List.listTooLong n=false:=by
 unfold Builtin.List.listTooLong;exact Z2 A1
end
section
variable{X:Cx}
def SI:V->List V->Hp->VK->Prop:=λx vs H Q=>∃l xs y,x=.ref l/\vs=[y]/\H l=some (.lst xs)/\xs.length<sizeLine/\Q .non (upd H l (.lst (xs++[y])))
theorem Ba:MtM X "list.append" SI:=by
 intro pins s σ H x vs v us Q I rx rv h;obtain⟨l,xs,y,rfl,rfl,hH,hz,q⟩:=h;cases rx;obtain⟨u,rfl,ru⟩:=rv.one;obtain⟨z,its,n,r,hl,e⟩:=I.lstM hH;refine A1f F.slot_list_append ⟨_,e,rfl⟩ F.entry_list_append (F.args_list_append_2 _ _) (PySem.list_append l its.toArray n u (by rw[E6];lia)) ⟨e,?_⟩;refine⟨.non,_,I.lset (its':=its++[u]) hH e B1 (r.append (.cons ru .nil)) ?_,rfl,q⟩;rw[B8,M5];lia
def Vi:V->List V->Hp->VK->Prop:=λx vs H Q=>∃l xs,x=.ref l/\vs=[]/\H l=some (.lst xs)/\Q .non (upd H l (.lst xs.reverse))
theorem RD:MtM X "list.reverse" Vi:=by
 intro pins s σ H x vs v us Q I rx rv h;obtain⟨l,xs,rfl,rfl,hH,q⟩:=h;cases rx;have hus:=rv.zero;subst hus;obtain⟨z,its,n,r,hl,e⟩:=I.lstM hH;refine A1f F.slot_list_reverse ⟨_,e,rfl⟩ F.entry_list_reverse (F.args_list_reverse_1 _) (AutoSeq1.list_reverse_list_0 l its.toArray n (by rw[E6];lia)) ⟨e,?_⟩;refine⟨.non,_,I.lset (its':=its.reverse) hH e B1 r.reverse ?_,rfl,q⟩;rw[List.length_reverse];lia
def rCat:R2:=λx y H Q=>∃l b xs zs,x=.ref l/\y=.ref b/\H l=some (.lst xs)/\H b=some (.lst zs)/\xs.length+zs.length<=sizeLine/\∀p,H p=none->Q (.ref p) (upd H p (.lst (xs++zs)))
theorem Li:OpR X (binaryOp .Add) rCat:=by
 intro pins s σ H x y v u Q I rx ry h;obtain⟨l,b,xs,zs,rfl,rfl,hH,hB,hz,q⟩:=h;cases rx;cases ry;obtain⟨z,its,n,r,hl,e⟩:=I.lstM hH;obtain⟨z2,its2,n2,r2,hl2,e2⟩:=I.lstM hB;refine PySem.P.add_list e e2 ?_ (by rw[E6,E6];lia);have ea:its.toArray++its2.toArray=(its++its2).toArray:=by simp
 rw[ea];exact⟨.ref _,_,I.lnew (t':=s.toks) (r.append r2) (by rw[B8];lia),rfl,q _ I.fresh⟩
def rRep:R2:=λx y H Q=>∃l k xs,x=.ref l/\y=.int k/\H l=some (.lst xs)/\-(2^63)<=k/\k<2^63/\xs.length*k.toNat<=sizeLine /\
 ∀p,H p=none->Q (.ref p) (upd H p (.lst (List.replicate k.toNat xs).flatten))
theorem len_rep{α:Type}(xs:List α)(k:Nat):(List.replicate k xs).flatten.length=k*xs.length:=by
 induction k with
 |zero=>simp
 |succ k ih=>rw[Q4,P6,B8,ih,M6,V5]
theorem Vv:OpR X (binaryOp .Mult) rRep:=by
 intro pins s σ H x y v u Q I rx ry h;obtain⟨l,k,xs,rfl,rfl,hH,h1,h2,hz,q⟩:=h;cases rx;obtain⟨t,rfl⟩:=ry;obtain⟨z,its,n,r,hl,e⟩:=I.lstM hH;have hlen:its.toArray.size*k.toNat<=sizeLine:=by rw[E6,<-hl];exact hz
 have hcap:¬its.toArray.size*k.toNat > (2^63-1)/8:=by
  have:(sizeLine:Nat)<=(2^63-1)/8:=by decide
  lia
 have hfit:¬(!Builtin.List.listFitsIndex k)=true:=by
  rw[fitsIndex_both h1 h2];exact F1
 have hlong:¬Builtin.List.listTooLong (its.toArray.size*k.toNat)=true:=by
  rw[VF hlen];exact F1
 have hnew:List.foldl (λx1 x2=>x1++x2) #[] (List.replicate (if its.toArray.isEmpty=true then 0 else k.toNat) its.toArray)=(List.replicate k.toNat its).flatten.toArray:=by
  have f0:∀m:Nat,List.foldl (λx1 x2=>x1++x2) #[] (List.replicate m its.toArray)=(List.replicate m its).flatten.toArray:=λm=>by
   have:=Os its m [];rw[S7]at this;exact this
  rw[f0];cases its with
  |nil=>simp
  |cons a r'=>rw[Z3 B1]
 refine wpAny_binaryOp_repeat_ref (T:="list") (U:="int") A3 ⟨_,e,rfl⟩ (λs'=>typeIs_int s' k t) noFill_list_mul F.fills_int_mul F.slot_int_rmul repeat_list F.slot_int_index.lookup
  (A1f F.slot_int_rmul (typeIs_int s k t) F.entry_int_rmul (F.args_int_rmul_2 _ _) (int___rmul___int_list k t l its.toArray n)
   ⟨e,rfl,⟨_,e,rfl⟩,A1f F.slot_list_mul ⟨_,e,rfl⟩ F.entry_list_mul (F.args_list_mul_2 _ _) (AutoListH.list___mul___list_int_3 l its.toArray n k t hfit hcap hlong) ⟨e,?_⟩⟩)
 rw[hnew];exact⟨.ref _,_,I.lnew (t':=s.toks) (r.rep k.toNat) (by rw[len_rep,Y4];exact hz),rfl,q _ I.fresh⟩
end
section
variable{prog:Program}{w:World}{A:Around}{E:Value->Shared->Prop}{s:Shared}
end
section
variable{X:Cx}
end
end L2
namespace Att
open PySem PySem.W PySem.Calls PyProof.Rows
theorem LZ{P:Params}{h:Heap}:∀(ns:List Int)(vs:List Value),WellAll P h vs (ns.map WData.int)->IntsAre vs ns:=by
 intro ns;induction ns with
 |nil =>
  intro vs w;rw[List.map_nil]at w;cases w;exact .nil
 |cons n ns ih =>
  intro vs w;rw[F0]at w;cases w with
  |cons a b =>
   cases a;exact .cons _ _ (ih _ b)
theorem Ty{l:OpenLaw}{n:Nat}(hn:l.most=some n){P:Params}{h:Heap}{args:List WData}{vals:List Value}
  (hpre:l.row.toRowW.claim.pre args=true) (hwl:WellAll P h vals args) :
  ∃a vs ns,vals=[Value.ref a]/\args=[WData.list (ns.map WData.int)]/\h.get? a=some {cls:=.type "list",data:=.seq vs.toArray}/\IntsAre vs ns/\ns.length<=n:=by
 have hsh:WShape.hasAll [] args [.list .int]=true:=(pre_splitW hpre).1;have hc:l.pre.holds [] {args:=args}=true:=(pre_splitW hpre).2;obtain⟨d,r,rfl,h1,h2⟩:=hasAllW_cons hsh;obtain rfl:=hasAllW_nil h2;obtain⟨xs,rfl,h3⟩:=hasW_list h1;obtain⟨ns,rfl⟩:=items_int h3;have hlen:ns.length<=n:=by
  unfold OpenLaw.pre at hc;have h4:(WTm.not (.lt (.lit (.int (n:Int))) (.len (.arg 0)))).holds [] {args:=[.list (ns.map .int)]}=true:=by
   have h4:=(holds_andW hc).1;rw[hn]at h4;exact h4
  have h5:=condW_of h4 (w_not (w_lt w_lit (w_len_list (w_arg rfl))));rw[B6]at h5;refine U6 λq=>?_;have q':(n:Int)<((ns.length:Nat):Int):=by lia
  first
   | (rw[Z1 q']at h5;exact absurd h5 A3)
   | (simp at h5;lia)
 cases hwl with
 |cons w1 w2 =>
  cases w2;cases w1 with
  |list ho hall=>exact⟨_,_,ns,rfl,rfl,ho,LZ ns _ hall,hlen⟩
theorem TC(l:OpenLaw)(args:List WData):l.row.toRowW.claim.post args (.bool true) args=true :=
 postW_of (r:=l.row.toRowW) (X:=(true==true))
  (show WShape.has [] (.bool true) .bool=true by first|rfl|decide|simp[WShape.has,WShape.arms,WShape.armsAll])
  (show(WTm.eq .res (.lit (.bool true))).value [] {args:=args,res:=some (.bool true),after:=args}=some (.bool (true==true))from w_eq_bool (w_res rfl) w_lit) rfl
theorem QW{l:OpenLaw}{n:Nat}{q:Program}{loose:List Str}{XP:(Str->Option Value)->Heap->Prop}{YP:World->Heap->Prop}{d:DefRec}
  (hn:l.most=some n) (hdf:d.params.defaults=[])
  (call:∀(w:World)(s₀ s₁:Shared)(mg mb:Str->Option Value)(fa:Addr)(o:Obj)(pm cd doc:Value)(a:Addr)(vs:List Value)(ns:List Int),
   Ground q loose [] XP w s₀ mg mb s₁.heap->YP w s₁.heap ->
   s₁.heap.get? fa=some o->o.data=.func (docDef d.name d.params d.body d.scope pm cd doc)->s₁.heap.CodeRec cd d.name->mg d.name=some (.ref fa) ->
   s₁.heap.get? a=some {cls:=.type "list",data:=.seq vs.toArray}->IntsAre vs ns->ns.length<=n->s₁.gens=#[] ->
   codeAny (model l.prog w) callerA (.call (.ref fa) ⟨[.ref a],[]⟩) (λr s'=>r=.ok (.ret (.bool true))/\OldK s₁.heap s'.heap/\s'.os=s₁.os/\AllBare s'.gens) s₁) :
  WalkO q loose XP YP l.row.toRowW d [] (λf vs=>PySem.call f vs):=by
 intro w s₀ s₁ mg mb G Y fa o pm cd doc dV kV ho hd hcd hD hmg hg args vals as hpre hlay hrd hwl hlo;obtain rfl:dV=.none:=Dflts.none hD hdf;obtain rfl:kV=.none:=Dflts.noKw hD;obtain⟨a,vs,ns,rfl,rfl,hobj,hints,hlen⟩:=Ty hn hpre hwl;refine enter_call (codeAny_mono (call w s₀ s₁ mg mb fa o pm cd doc a vs ns G Y ho (fd_plain hd) hcd hmg hobj hints hlen hg) λr s' hq=>?_);obtain⟨rfl,h2,h3,h4⟩:=hq;exact⟨.inl ⟨.bool true,.bool true,[],rfl,λ_=>rfl,.bool true,TC l _,λ_=>⟨List.Pairwise.nil,λ_ hm=>(nomatch hm)⟩⟩,h2,h3,h4⟩
section
variable{prog:Program}{w:World}{A:Around}{E:Value->Shared->Prop}{s:Shared}{K:Frag}
end
end Att
namespace L2
open PySem PySem.Spec PyProof.Rows
theorem NW:∀{vs:List Value}{ns:List Int},IntsAre vs ns->AN (ns.map V.int) vs
 |_,_,.nil=>.nil
 |_,_,.cons n t h=>.cons ⟨t,rfl⟩ (NW h)
def Only(H:Hp):Prop:=∀b,H b=none\/∃o xs,H b=some (.frz o (.lst xs))
theorem VS{P:Program}{w:World}{K:PySem.W.Frag}{mg mb:Str->Option Value}{CX:CXT}{k:Nat}{fa a:Addr}{fd:FuncData}{x:Str}{sp:Sp}{s₁:Shared}{vs:List Value}{ns:List Int}
  (KX:K.In s₁.heap) (hns:s₁.heap.Ns mainGlobals mg) (hb:s₁.heap.Ns builtinsNs mb) (hbb:∀x:Str,x≠"__name__" -> mb x=bootBuiltins x) (hlim:s₁.heap.NoLimit) (hg:s₁.gens=#[])
  (ha:s₁.heap.get? a=some {cls:=.type "list",data:=.seq vs.toArray}) (hi:IntsAre vs ns) (hl:ns.length<=sizeLine) (hr:Dq k callerA)
  (F:∀base:Heap,K.In base->base.Ns mainGlobals mg->AR P w K mg base CX k fa fd [x] sp) (hbind:∀(s:Shared)(u:Value),BindsTo s fd ⟨[u],[]⟩ [(x,u)])
  (hsp:∀H:Hp,Only H->SqL K H a (ns.map V.int)->sp [.ref a] H (λv _=>v=.bl true) λ_ _ _=>False)
  (hCX:∀H e s',CX [] H s₁ (λ_ _ _=>False) e s'->False) :
  codeAny (model P w) callerA (.call (.ref fa) ⟨[.ref a],[]⟩) (λr s'=>r=.ok (.ret (.bool true))/\OldK s₁.heap s'.heap/\s'.os=s₁.os/\AllBare s'.gens) s₁:=by
 have rv:=NW hi;have lenV:=hi.length;have core:∀H:Hp,Only H->SqL K H a (ns.map V.int)->HOk P w H s₁.heap->(∀b,H b≠none->b=a)->(H a≠none->K.lookup a=none) ->
   codeAny (model P w) callerA (.call (.ref fa) ⟨[.ref a],[]⟩) (λr s'=>r=.ok (.ret (.bool true))/\OldK s₁.heap s'.heap/\s'.os=s₁.os/\AllBare s'.gens) s₁:=by
  intro H hO hS hok hA hK;have base_of:∀{b:Addr}{o:Obj},s₁.heap.get? b=some o->H b=none->(Pr s₁.heap H).get? b=some o:=λe n=>Wa e n;have noA:∀{b:Addr}{o:Obj}{es:Array DictEntry}{ep:Nat},s₁.heap.get? b=some o->o.data=.dict es ep->H b=none:=λ{b o es ep} e d=>by
   cases q:H b with
   |none=>rfl
   |some u =>
    have e':b=a:=hA b (by rw[q];simp);subst e';rw[ha]at e;cases e;have d':Data.seq vs.toArray _=Data.dict es ep:=d;cases d'
  have nsK:∀{b:Addr}{m:Str->Option Value},s₁.heap.Ns b m->(Pr s₁.heap H).Ns b m:=λ{b m} ⟨o,es,ep,e,d,r⟩=>⟨o,es,ep,base_of e (noA e d),d,r⟩
  have hKb:K.In (Pr s₁.heap H):=λb o e=>base_of (KX b o e) (by
   cases q:H b with
   |none=>rfl
   |some u =>
    have e':b=a:=hA b (by rw[q];simp);subst e';rw[hK (by rw[q];simp)]at e;cases e)
  have hM:Mod K mg (Pr s₁.heap H):=⟨hKb,nsK hns,⟨mb,nsK hb,hbb⟩,let ⟨mc,h1,h2⟩:=hlim;⟨mc,nsK h1,h2⟩⟩
  have e0:Se P w K mg (Pr s₁.heap H) callerA [] s₁ H:=⟨rfl,hM,λb o e=>of_hidT e,Y5 (Ul _ _),trivial,λb hb=>absurd (show b∈([]:List Addr)from hb) B1,hok,.of_eq hg⟩
  refine codeAny_mono ((F _ hKb (nsK hns)).run callerA [] s₁ H ⟨[.ref a],[]⟩ [.ref a] [.ref a] _ _ hr e0 (hbind s₁ (.ref a)) (.cons rfl .nil) (hsp H hO hS)) λr s' h=>?_;cases r with
  |error e=>exact(hCX H e s' h).elim
  |ok fl =>
   cases fl with
   |next=>exact False.elim h
   |brk=>exact False.elim h
   |cont=>exact False.elim h
   |ret u =>
    obtain⟨v,H',os,bare,un,hok',r',q⟩:=h;have q':v=.bl true:=q;subst q';obtain rfl:u=Value.bool true:=r';refine⟨rfl,OldK.of_keep λb o e=>?_,os,bare⟩;cases q:H b with
    |none=>exact un.keep b o e q (by intro z;exact absurd (show b∈([]:List Addr)from z) B1) B1
    |some u =>
     rcases hO b with z|⟨ob,xs,z⟩
     ·rw[q]at z;cases z
     ·have z2:=un.frzs b ob _ z;obtain⟨e1,_⟩:=hok b _ z;obtain⟨e2,_⟩:=hok' b _ z2;rw[e]at e1;cases e1;exact e2
 cases hk:K.lookup a with
 |some o =>
  have e:=KX a o hk;rw[ha]at e;cases e;refine core (λ_=>none) (λ_=>.inl rfl) (.inr ⟨_,vs.toArray,_,hk,rfl,rfl,rfl,by rw[E6,lenV];exact hl,by simpa using rv⟩) (λb u z=>by have z':(none:Option HO)=some u:=z;cases z') (λb z=>absurd rfl z) λz=>absurd rfl z
 |none =>
  refine core (λb=>if b=a then some (.frz {cls:=.type "list",data:=.seq vs.toArray} (.lst (ns.map V.int)))else none) (λb=>?_) (.inl (.inr ⟨{cls:=.type "list",data:=.seq vs.toArray},Z6 rfl⟩)) (λb u z=>?_) (λb z=>?_) λ_=>hk
  ·by_cases hb:b=a
   ·exact .inr ⟨_,_,Z6 hb⟩
   ·exact .inl (Z3 hb)
  ·by_cases hb:b=a
   ·have z':=(Z6 hb).symm.trans z;cases z';subst hb;exact⟨ha,by rw[B6];exact hl,vs,_,rv,ha⟩
   ·have z':=(Z3 hb).symm.trans z;cases z'
  ·by_cases hb:b=a
   ·exact hb
   ·exact absurd (Z3 hb) z
theorem Sf{l:PySem.W.OpenLaw}{n k:Nat}{q:Program}{loose:List Str}{XP:(Str->Option Value)->Heap->Prop}{YP:World->Heap->Prop}{d:DefRec}{K:Params->PySem.W.Frag}{CX:World->CXT}{sp:World->Sp}{x:Str}
  (hn:l.most=some n) (hn2:n<=sizeLine) (hdf:d.params.defaults=[]) (hr:Dq k callerA)
  (hY:∀(w:World)(h:Heap),YP w h->(K w.params).In h)
  (F:∀(w:World)(mg:Str->Option Value)(fa:Addr)(h:Heap),(K w.params).In h->h.Ns mainGlobals mg->mg d.name=some (.ref fa) ->
   ∃fd:FuncData,(∀(s:Shared)(u:Value),BindsTo s fd ⟨[u],[]⟩ [(x,u)]) /\
    ∀base:Heap,(K w.params).In base->base.Ns mainGlobals mg->AR l.prog w (K w.params) mg base (CX w) k fa fd [x] (sp w))
  (hsp:∀(w:World)(H:Hp)(a:Addr)(ns:List Int),ns.length<=n->Only H->SqL (K w.params) H a (ns.map V.int)->sp w [.ref a] H (λv _=>v=.bl true) λ_ _ _=>False)
  (hCX:∀(w:World)(H:Hp)(s:Shared)(e:Value)(s':Shared),CX w [] H s (λ_ _ _=>False) e s'->False) :
  PySem.W.WalkO q loose XP YP l.row.toRowW d [] (λf vs=>PySem.call f vs):=by
 refine Att.QW hn hdf λw s₀ s₁ mg mb fa o pm cd doc a vs ns G Y ho hd hcd hmg hobj hints hlen hg=>?_;have KX:=hY w _ Y;obtain⟨fd,hb,hF⟩:=F w mg fa _ KX G.T.g hmg;exact VS KX G.T.g G.T.b G.T.builtins G.T.nolimit hg hobj hints (D4 hlen hn2) hr hF hb (λH hO hS=>hsp w H a ns hlen hO hS) λH e s'=>hCX w H s₁ e s'
end L2
/- THE LAST THEOREM (shape;LID,My.* are yours):
 My.Adr: a structure of the addresses that your layer names (classes,functions);My.Txt K t: a structure (Prop) of the equations over K;
 My.txt_mk:{K} {implicit addresses ..} (e1:nsIn K mainGlobals "law" = some (some (.ref f))) (e2:K.lookup f=some ⟨oc,od,.func (fnOf "law" "law" params body scope dV kV doc pm an cdv ct),sl⟩) (e3:codeIn K cdv "law" = true) ..:∃t,My.Txt K t
set_option maxRecDepth 100000 in
set_option maxHeartbeats 0 in
theorem PySem.Challenge.cw_LID_holds:PySem.Challenge.rw_LID.Holds:=by
 w_on;o_law;k_head;(case hw=>w_witness2)
 k_fill
 refine L2.Sf (l:=PySem.Challenge.rw_LID) (n:=63) (k:=40) (x:="script") (CX:=λw=>..) (sp:=λ_=>My.sp_law) rfl A3 rfl ⟨rfl,by decide,by decide⟩ (λw h Y=>PySem.W.kIn_of Y) ?F ?S ?C
 case F =>
  intro w mg fa h KX G hmg;have T:∃t,My.Txt (L2.KOf KX) t:=by
   dsimp only[L2.KOf]                          
   (case e1=>PySem.W.k_is)                    
   (case e2=>PySem.W.k_is)
   ..
  obtain⟨t,T⟩:=T;have e0:=hmg.symm.trans (K3 KX G T.law);cases e0                                       
 case S=>exact λw H a ns hl hO hS=>..
 case C=>exact ..
(the tactic k_is has no namespace: write k_is) -/
namespace L2
open PySem PySem.Spec PyProof.Rows
def Bd(s:Stmt)(j:Nat):Stmt:=match s with
 |.ClassDef _ _ _ body _ _ _ _ _ _ _=>body.getD j (.Pass ⟨0,0,0,0⟩)
 |_=>.Pass ⟨0,0,0,0⟩
def JM(s:Stmt):Arguments:=match s with
 |.FunctionDef _ a _ _ _ _ _ _ _ _=>a
 |_=>{posonlyargs:=[],args:=[],vararg:=none,kwonlyargs:=[],kw_defaults:=[],kwarg:=none,defaults:=[]}
def IS(s:Stmt):List Stmt:=match s with
 |.FunctionDef _ _ b _ _ _ _ _ _ _=>b
 |_=>[]
def Ak(s:Stmt):Scope:=match s with
 |.FunctionDef _ _ _ _ _ _ sc _ _ _=>sc
 |_=>{kind:=.function,names:=[],isGenerator:=false,isCoroutine:=false}
abbrev CX0:CXT:=λ_ _ _ _ _ _=>False
abbrev E0:XK:=λ_ _ _=>False
theorem Aq{X:Cx}:Fv CX0 X E0:=λ_ _ _ _ _ _ _ h=>h.elim
structure Fun(K:PySem.W.Frag)(x qual:Str)(st:Stmt)(f:Addr)(fd:FuncData):Prop where
 ex:∃(oc:Value)(od:Option Addr)(kV doc pm:Value)(an:Option Addr)(cdv ct:Value)(osl:Array (Option Value)),
  fd=PySem.W.fnOf x qual (JM st) (IS st) (Ak st) .none kV doc pm an cdv ct/\K.lookup f=some ⟨oc,od,.func fd,osl⟩/\PySem.W.codeIn K cdv qual=true
 kp:keepIn K (.ref f)=true
section
variable{P:Program}{w:World}{K:PySem.W.Frag}{mg:Str->Option Value}{base:Heap}
theorem Fun.ok{x qual:Str}{st:Stmt}{f:Addr}{fd:FuncData}{N ps:List Str}{k:Nat}{sp:Sp}(F:Fun K x qual st f fd)(S:Aw N ps (Ak st))(len:∀vs H Q E,sp vs H Q E->vs.length=ps.length)
  (hbody:∀(cdv:Value)(A:Around)(outer:List Env)(s:Shared)(H:Hp)(vs:List V)(Q:VK)(E:XK),Dq k (A.deeper (envOfC qual (Ak st) s.heap.objs.size f cdv))->sp vs H Q E ->
   ∃t,PSs (Uv CX0 P w K mg base N qual (Ak st) f cdv A outer s H E).nox (IS st) t/\t {nx:=λ_ H'=>Q .non H',rt:=Q} (LG N vs) H):AR P w K mg base CX0 (k+1) f fd ps sp:=by
 obtain⟨oc,od,kV,doc,pm,an,cdv,ct,osl,rfl,lk,hcd⟩:=F.ex;refine fn_of lk hcd S len λA outer s H vs Q E hr hsp=>?_;obtain⟨t,h,q⟩:=hbody cdv A outer s H vs Q E hr hsp;exact⟨t,h.nox,q⟩
theorem Fun.binds{x qual:Str}{st:Stmt}{f:Addr}{fd:FuncData}{ps:List Str}(F:Fun K x qual st f fd)
  (h:∀(kV doc pm:Value)(an:Option Addr)(cdv ct:Value)(us:List Value),us.length=ps.length->bindArgs (PySem.W.fnOf x qual (JM st) (IS st) (Ak st) .none kV doc pm an cdv ct) ⟨us,[]⟩=pure (ps.zip us)):Dv K fd ps []:=by
 obtain⟨oc,od,kV,doc,pm,an,cdv,ct,osl,rfl,lk,hcd⟩:=F.ex;exact .all (h kV doc pm an cdv ct)
theorem RU {x qual:Str} {st:Stmt} {f:Addr} {oc:Value} {od an:Option Addr} {osl:Array (Option Value)} {kV doc pm cdv ct:Value} (l:K.lookup f=some ⟨oc,od,.func (PySem.W.fnOf x qual (JM st) (IS st) (Ak st) .none kV doc pm an cdv ct),osl⟩)
  (c:PySem.W.codeIn K cdv qual=true) (k:keepIn K (.ref f)=true):Fun K x qual st f (PySem.W.fnOf x qual (JM st) (IS st) (Ak st) .none kV doc pm an cdv ct):=⟨⟨oc,od,kV,doc,pm,an,cdv,ct,osl,rfl,l,c⟩,k⟩
end
theorem DS{A:Around}{k:Nat}(hr:Dq k A):A.units+1<cLine:=E5 (Nat.add_le_add_left (by decide:1<=64) _) hr.units
section
variable{X:Cx}
theorem pv(i:Nat){x:Str}{pos:Pos}(hN:X.N[i]?=some x:=by rfl)(hv:Vis X.env.scope x:=by first|exact Or.inl rfl|exact Or.inr (Or.inl rfl)|exact Or.inr (Or.inr rfl))(hd:(x==("__debug__" : Str))=false:=by decide)
  (hcd:(x==("__classdict__" : Str))=false:=by decide):PE X (.Name x pos) (Gf i):=pe_var hN hv hd hcd
end
theorem Bq{A B:Prop}(h:B):if false=true then A else B:=by
 rw[Z3 F1];exact h
theorem CN{A B:Prop}(h:A):if true=true then A else B:=by
 rw[Z6 rfl];exact h
theorem Nk{c A B:Prop}[Decidable c](h1:c->A)(h2:¬c->B):if c then A else B:=by
 by_cases h:c
 ·rw[Z6 h];exact h1 h
 ·rw[Z3 h];exact h2 h
theorem QC{c A B:Prop}[Decidable c](hc:c)(h:B):if(!decide c)=true then A else B:=by
 rw[Z1 hc];exact Bq h
def Av(H H':Hp):Prop:=∀b o,H b=some o->H' b=some o
theorem Av.refl(H:Hp):Av H H:=λ_ _ h=>h
theorem Av.trans{H H1 H2:Hp}(a:Av H H1)(b:Av H1 H2):Av H H2:=λc o h=>b c o (a c o h)
theorem Av.seq{K:PySem.W.Frag}{H H':Hp}{a:Addr}{xs:List V}(e:Av H H')(h:SqL K H a xs):SqL K H' a xs:=by
 rcases h with (h|⟨o,h⟩)|h
 ·exact .inl (.inl (e _ _ h))
 ·exact .inl (.inr ⟨o,e _ _ h⟩)
 ·exact .inr h
def Tq(a D:Addr)(h:Heap):Prop:=∃o,h.get? a=some o/\o.cls=.ref D/\∃vs,o.data=.fields vs/\vs[2]?=some .none
theorem Tq.not{a D:Addr}{h:Heap}(x:Tq a D h):∃o,h.get? a=some o/\o.cls=.ref D/\notCls o=true:=by
 obtain⟨o,e,c,vs,d,_⟩:=x;exact⟨o,e,c,by unfold notCls;rw[d]⟩
section
variable{M:Model}{A:Around}{E:Value->Shared->Prop}{s:Shared}{b0:Heap}{env:Env}{outer:List Env}{L a T:Addr}{cls fl:Value}{Q:Unit->Shared->Prop}
end
section
variable{κ:Type}[DecidableEq κ]
def BK(kvs:List (κ×V))(k:κ):Option V:=(kvs.find? λkv=>decide (kv.1=k)).map (·.2)
def EX(kvs:List (κ×V))(k:κ)(v:V):List (κ×V) :=
 if(kvs.any λkv=>decide (kv.1=k))=true then kvs.map (λkv=>if kv.1=k then(kv.1,v)else kv)else kvs++[(k,v)]
theorem BI{p:κ×V}{r:List (κ×V)}{k:κ}(e:p.1=k):BK (p::r) k=some p.2:=by simp[BK,N4,e]
theorem Br{p:κ×V}{r:List (κ×V)}{k:κ}(e:¬p.1=k):BK (p::r) k=BK r k:=by simp[BK,N4,e]
theorem Ie(k:κ):∀kvs:List (κ×V),(kvs.any λkv=>decide (kv.1=k))=(BK kvs k).isSome
 |[]=>rfl
 |p::r=>by
  rw[U4];by_cases e:p.1=k
  ·simp only[BI e,Z1 e,Bool.true_or,Option.isSome_some]
  ·rw[Br e,Z2 e,Bool.false_or];exact Ie k r
theorem PN(k j:κ)(y:V):∀kvs:List (κ×V),BK (kvs.map λkv=>if kv.1=k then(kv.1,y)else kv) j=(BK kvs j).map λx=>if j=k then y else x
 |[]=>rfl
 |p::r=>by
  have ih:=PN k j y r;rw[F0];by_cases h:p.1=k
  ·rw[Z6 h];by_cases e:p.1=j
   ·rw[BI (p:=(p.1,y)) e,BI e,W0,Z6 (e.symm.trans h)]
   ·rw[Br (p:=(p.1,y)) e,Br e,ih]
  ·rw[Z3 h];by_cases e:p.1=j
   ·rw[BI (p:=p) e,BI e,W0,Z3 (λz=>h (e.trans z))]
   ·rw[Br (p:=p) e,Br e,ih]
theorem NX(k j:κ)(y:V):∀kvs:List (κ×V),BK kvs k=none->BK (kvs++[(k,y)]) j=if j=k then some y else BK kvs j
 |[],_=>by
  by_cases e:k=j
  ·rw[Z6 e.symm];exact BI (p:=(k,y)) e
  ·rw[Z3 (λz=>e z.symm)];exact Br (p:=(k,y)) e
 |p::r,hn=>by
  rw[V1];have hk:¬p.1=k:=λz=>by rw[BI z]at hn;cases hn
  rw[Br hk]at hn;have ih:=NX k j y r hn;by_cases e:p.1=j
  ·rw[BI e,BI e,Z3 (λz=>hk (e.trans z))]
  ·rw[Br e,Br e,ih]
theorem PM(kvs:List (κ×V))(k j:κ)(y:V):BK (EX kvs k y) j=if j=k then some y else BK kvs j:=by
 unfold EX;by_cases a:(kvs.any λkv=>decide (kv.1=k))=true
 ·rw[Z6 a,PN];rw[Ie]at a;by_cases e:j=k
  ·obtain⟨x,hx⟩:=Option.isSome_iff_exists.mp a;rw[Z6 e,e,hx,W0,Z6 rfl]
  ·rw[Z3 e];cases BK kvs j with
   |none=>rfl
   |some x=>rw[W0,Z3 e]
 ·rw[Z3 a];refine NX k j y kvs ?_;rw[Ie]at a;cases q:BK kvs k with
  |none=>rfl
  |some x=>rw[q]at a;exact(a rfl).elim
theorem FJ(kvs:List (κ×V))(k:κ)(v:V):(EX kvs k v).length<=kvs.length+1:=by
 unfold EX;split
 ·rw[B6];lia
 ·rw[B8,E7,Q6];lia
theorem Jz{kvs:List (κ×V)}{k:κ}(v:V)(h:BK kvs k=none):EX kvs k v=kvs++[(k,v)]:=by
 unfold EX;rw[Ie,h];exact Z3 A3
theorem Id.isSome_eq{o:Option V}{u:Option Value}(r:Id o u):o.isSome=u.isSome:=by
 cases o with
 |none=>cases u with
  |none=>rfl
  |some _=>exact(show False from r).elim
 |some _=>cases u with
  |none=>exact(show False from r).elim
  |some _=>rfl
theorem Id.getD{o:Option V}{u:Option Value}{d:V}{d':Value}(r:Id o u)(rd:Be d d'):Be (o.getD d) (u.getD d'):=by
 cases o with
 |none=>cases u with
  |none=>exact rd
  |some _=>exact(show False from r).elim
 |some _=>cases u with
  |none=>exact(show False from r).elim
  |some _=>exact r
theorem KV.val{kvs:List (κ×V)}{vs:List (κ×Value)}(r:KV kvs vs)(k:κ):Id (BK kvs k) (valueAt vs k):=by
 unfold KV at r;induction r with
 |nil=>exact True.intro
 |@cons p q ps qs h t ih =>
  obtain⟨h1,h2⟩:=h;by_cases e:p.1=k
  ·have e':q.1=k:=h1.symm.trans e;have b:valueAt (q::qs) k=some q.2:=by simp[valueAt,N4,e']
   rw[BI e,b];exact h2
  ·have e':¬q.1=k:=λz=>e (h1.trans z);have b:valueAt (q::qs) k=valueAt qs k:=by simp[valueAt,N4,e']
   rw[Br e,b];exact ih
theorem KV.any{kvs:List (κ×V)}{vs:List (κ×Value)}(r:KV kvs vs)(k:κ):(kvs.any λkv=>decide (kv.1=k))=vs.any λkv=>decide (kv.1=k):=by
 unfold KV at r;induction r with
 |nil=>rfl
 |cons h t ih=>rw[U4,U4,ih,h.1]
theorem KV.repl{kvs:List (κ×V)}{vs:List (κ×Value)}(r:KV kvs vs)(k:κ){y:V}{u:Value}(ry:Be y u) :
  KV (kvs.map λkv=>if kv.1=k then(kv.1,y)else kv) (vs.map λkv=>if kv.1=k then(kv.1,u)else kv):=by
 unfold KV at r⊢;induction r with
 |nil=>exact .nil
 |@cons p q ps qs h t ih =>
  rw[F0,F0];refine .cons ?_ ih;obtain⟨h1,h2⟩:=h;by_cases e:p.1=k
  ·rw[Z6 e,Z6 (h1.symm.trans e)];exact⟨h1,ry⟩
  ·rw[Z3 e,Z3 (λz=>e (h1.trans z))];exact⟨h1,h2⟩
theorem KV.put{kvs:List (κ×V)}{vs:List (κ×Value)}(r:KV kvs vs)(k:κ){y:V}{u:Value}(ry:Be y u):KV (EX kvs k y) (stored vs k u):=by
 unfold EX stored;rw[r.any k];by_cases e:(vs.any λkv=>decide (kv.1=k))=true
 ·rw[Z6 e,Z6 e];exact r.repl k ry
 ·rw[Z3 e,Z3 e];exact K4 r ⟨rfl,ry⟩
theorem KV.length{kvs:List (κ×V)}{vs:List (κ×Value)}(r:KV kvs vs):kvs.length=vs.length:=X5 r
end
theorem Oo{P:Program}{w:World}{k:Key}{u:Value}(r:Be (kV k) u):(Cv P w).is k u=true:=by
 cases k with
 |inl i=>obtain⟨t,e⟩:=(show ∃t,u=Value.int i t from r);subst e;exact Qw P w i t
 |inr x=>obtain⟨t,e⟩:=(show ∃t,u=Value.str x t from r);subst e;exact Qv P w x t
theorem Op{P:Program}{w:World}:∀{ks:List Key}{us:List Value},AN (ks.map kV) us->ItemsAre (Cv P w) ks us
 |[],_,r=>by rw[List.map_nil]at r;cases r;exact .nil
 |k::ks,_,r=>by
  rw[F0]at r;cases r with
  |cons h t=>exact .cons (Oo h) (Op t)
abbrev KT(H:Hp):List (List Key×V)->List (List Key×Addr×Value)->Prop:=Paired λp q=>p.1=q.1/\H q.2.1=some (.tup (p.1.map kV))/\Be p.2 q.2.2
theorem KT.val{H:Hp}{kvs:List (List Key×V)}{xs:List (List Key×Addr×Value)}(r:KT H kvs xs)(k:List Key):Id (BK kvs k) ((atKey xs k).map (·.2)):=by
 induction r with
 |nil=>exact True.intro
 |@cons p q ps qs h t ih =>
  obtain⟨h1,_,h2⟩:=h;by_cases e:p.1=k
  ·have e':q.1=k:=h1.symm.trans e;have b:atKey (q::qs) k=some q.2:=by simp[atKey,N4,e']
   rw[BI e,b];exact h2
  ·have e':¬q.1=k:=λz=>e (h1.trans z);have b:atKey (q::qs) k=atKey qs k:=by simp[atKey,N4,e']
   rw[Br e,b];exact ih
theorem KT.repl{H:Hp}{kvs:List (List Key×V)}{xs:List (List Key×Addr×Value)}(r:KT H kvs xs)(k:List Key){y:V}{u:Value}(ry:Be y u) :
  KT H (kvs.map λkv=>if kv.1=k then(kv.1,y)else kv) (xs.map (putAt k u)):=by
 induction r with
 |nil=>exact .nil
 |@cons p q ps qs h t ih =>
  rw[F0,F0];refine .cons ?_ ih;obtain⟨h1,h2,h3⟩:=h;unfold putAt;by_cases e:p.1=k
  ·rw[Z6 e,Z6 (h1.symm.trans e)];exact⟨h1,h2,ry⟩
  ·rw[Z3 e,Z3 (λz=>e (h1.trans z))];exact⟨h1,h2,h3⟩
theorem KT.put{H:Hp}{kvs:List (List Key×V)}{xs:List (List Key×Addr×Value)}(r:KT H kvs xs)(k:List Key){b:Addr}{y:V}{u:Value}(hb:H b=some (.tup (k.map kV)))(ry:Be y u) :
  KT H (EX kvs k y) (storedH xs k b u):=by
 have e:(kvs.any λkv=>decide (kv.1=k))=(atKey xs k).isSome:=by
  rw[Ie,(r.val k).isSome_eq,W9]
 unfold EX storedH;rw[e];by_cases q:(atKey xs k).isSome=true
 ·rw[Z6 q,Z6 q];exact r.repl k ry
 ·rw[Z3 q,Z3 q];exact K4 r ⟨rfl,hb,ry⟩
theorem KT.keeps{H H':Hp}{kvs:List (List Key×V)}{xs:List (List Key×Addr×Value)}(r:KT H kvs xs)(ht:∀b ys,H b=some (.tup ys)->H' b=some (.tup ys)):KT H' kvs xs :=
 Paired.mapP r λ_ _ z=>⟨z.1,ht _ _ z.2.1,z.2.2⟩
section
variable{P:Program}{w:World}{H:Hp}{h:Heap}{a:Addr}
theorem rd_of{u:HO}(ok:HOk P w H h)(e:Rd H a u):BN P w H h a u:=e.ok ok
theorem Np{kvs:List (Key×V)}(ok:HOk P w H h)(e:Rd H a (.dK kvs)):kvs.length<=sizeLine/\(a==sysModules)=false/\∃vs,KV kvs vs/\h.DictOf (Cv P w) a vs :=
 show BN P w H h a (.dK kvs)from rd_of ok e
theorem dk_of{kvs:List (Key×V)}(ok:HOk P w H h)(e:H a=some (.dK kvs)):kvs.length<=sizeLine/\(a==sysModules)=false/\∃vs,KV kvs vs/\h.DictOf (Cv P w) a vs:=Np ok (.inl e)
theorem Ly{ks:List Key}(ok:HOk P w H h)(e:H a=some (.tup (ks.map kV))):(tupleKind (Cv P w)).is h ks a:=by
 obtain⟨_,its,r,o,h1,h2,n,h3⟩:=(show BN P w H h a (.tup (ks.map kV))from ok a _ e)
 exact⟨o,its.toArray,n,h1,h2,h3,by simpa using Op r⟩
theorem LR{kvs:List (List Key×V)}(ok:HOk P w H h)(e:Rd H a (.dT kvs)):kvs.length<=sizeLine/\(a==sysModules)=false /\
  ∃xs,KT H kvs xs/\h.DictOfH (tupleKind (Cv P w)) a xs:=by
 obtain⟨z,y,xs,r,o,es,ep,h1,h2,h3,h4,h5⟩:=(show BN P w H h a (.dT kvs)from rd_of ok e)
 refine⟨z,y,xs,r,o,es,ep,h1,h2,h3,h4,λx hx=>?_,h5⟩;have all:∀{l:List (List Key×V)}{m:List (List Key×Addr×Value)},KT H l m->∀x∈m,(tupleKind (Cv P w)).is h x.1 x.2.1:=by
  intro l m q;induction q with
  |nil=>intro x hx;exact nomatch hx
  |@cons p q ps qs hq t ih =>
   intro x hx;rcases D6.mp hx with e|hx
   ·subst e;exact Ly ok (by rw[<-hq.1];exact hq.2.1)
   ·exact ih x hx
 exact all r x hx
theorem dt_of{kvs:List (List Key×V)}(ok:HOk P w H h)(e:H a=some (.dT kvs)):kvs.length<=sizeLine/\(a==sysModules)=false /\
  ∃xs,KT H kvs xs/\h.DictOfH (tupleKind (Cv P w)) a xs:=LR ok (.inl e)
end
def Fx(H:Hp)(a:Addr)(y:V)(r:Option V):Prop :=
 (∃kvs k,Rd H a (.dK kvs)/\y=kV k/\r=BK kvs k)\/∃kvs k b,Rd H a (.dT kvs)/\y=.ref b/\H b=some (.tup (k.map kV))/\r=BK kvs k
def JS(H:Hp)(a:Addr)(y v:V)(H':Hp):Prop :=
 (∃kvs k,H a=some (.dK kvs)/\y=kV k/\kvs.length<sizeLine/\H'=upd H a (.dK (EX kvs k v))) \/
 ∃kvs k b,H a=some (.dT kvs)/\y=.ref b/\H b=some (.tup (k.map kV))/\kvs.length<sizeLine/\H'=upd H a (.dT (EX kvs k v))
theorem Fx.k{H:Hp}{a:Addr}{kvs:List (Key×V)}{k:Key}(e:H a=some (.dK kvs)):Fx H a (kV k) (BK kvs k):=.inl ⟨kvs,k,.inl e,rfl,rfl⟩
theorem Fx.t{H:Hp}{a b:Addr}{kvs:List (List Key×V)}{k:List Key}(e:H a=some (.dT kvs))(eb:H b=some (.tup (k.map kV))):Fx H a (.ref b) (BK kvs k):=.inr ⟨kvs,k,b,.inl e,rfl,eb,rfl⟩
theorem JS.k{H:Hp}{a:Addr}{kvs:List (Key×V)}{k:Key}{v:V}(e:H a=some (.dK kvs))(hl:kvs.length<sizeLine):JS H a (kV k) v (upd H a (.dK (EX kvs k v))):=.inl ⟨kvs,k,e,rfl,hl,rfl⟩
theorem JS.t{H:Hp}{a b:Addr}{kvs:List (List Key×V)}{k:List Key}{v:V}(e:H a=some (.dT kvs))(eb:H b=some (.tup (k.map kV)))(hl:kvs.length<sizeLine) :
  JS H a (.ref b) v (upd H a (.dT (EX kvs k v))):=.inr ⟨kvs,k,b,e,rfl,eb,hl,rfl⟩
section
variable{X:Cx}{pins:List (Addr×Obj)}{σ:St}{H:Hp}{s:Shared}{a:Addr}{y v:V}{u r:Value}{o:Option V}{A:Around}{E:Value->Shared->Prop}
theorem Inv.big(I:Inv X pins σ H s):sysModules<s.heap.objs.size:=by
 have h:mainGlobals<s.heap.objs.size:=(I.mod.glob.keeps I.bk).lt;exact M7 A3 h
theorem Uu{Q:Value->Shared->Prop}(hu:A.units+1<cLine)(I:Inv X pins σ H s)(g:Fx H a y (some v))(ry:Be y u)(h:∀w' s',Inv X pins σ H s'->Be v w'->Q w' s') :
  wpAny (model X.prog X.w) A (getItem (.ref a) u) Q E s:=by
 rcases g with ⟨kvs,k,e,ey,l⟩|⟨kvs,k,b,e,ey,eb,l⟩
 ·subst ey;obtain⟨z,hd,vs,rel,dd⟩:=Np I.hok e;obtain⟨w',hw,rw'⟩:=Id.some_of (v:=v) (o:=valueAt vs k) (by rw[l];exact rel.val k);exact wpAny_getItem_of (Oo ry) dd.mapOf hw (h w' _ (I.tok _) rw')
 ·subst ey;cases(show u=Value.ref b from ry);obtain⟨z,hd,xs,rel,dd⟩:=LR I.hok e;obtain⟨w',hw,rw'⟩:=Id.some_of (v:=v) (o:=(atKey xs k).map (·.2)) (by rw[l];exact rel.val k);obtain⟨p,hp,hp2⟩:=D5.mp hw;refine wpAny_getItem_heap (A2d hu) (Ly I.hok eb) dd hp ?_;rw[hp2];exact h w' _ (I.tok _) rw'
theorem d_in{Q:Value->Shared->Prop}(hu:A.units+1<cLine)(I:Inv X pins σ H s)(g:Fx H a y o)(ry:Be y u)(h:∀s',Inv X pins σ H s'->Q (.bool o.isSome) s') :
  wpAny (model X.prog X.w) A (compareOp .In u (.ref a)) Q E s:=by
 rcases g with ⟨kvs,k,e,ey,l⟩|⟨kvs,k,b,e,ey,eb,l⟩
 ·subst ey;obtain⟨z,hd,vs,rel,dd⟩:=Np I.hok e;refine wpAny_in_of (Oo ry) hd dd.mapOf ?_;rw[<-(rel.val k).isSome_eq,<-l];exact h _ (I.tok _)
 ·subst ey;cases(show u=Value.ref b from ry);obtain⟨z,hd,xs,rel,dd⟩:=LR I.hok e;refine wpAny_in_heap (A2d hu) (Ly I.hok eb) hd dd ?_;have q:=(rel.val k).isSome_eq;rw[W9]at q;rw[<-q,<-l];exact h _ (I.tok _)
theorem d_notIn{Q:Value->Shared->Prop}(hu:A.units+1<cLine)(I:Inv X pins σ H s)(g:Fx H a y o)(ry:Be y u)(h:∀s',Inv X pins σ H s'->Q (.bool (!o.isSome)) s') :
  wpAny (model X.prog X.w) A (compareOp .NotIn u (.ref a)) Q E s:=by
 rcases g with ⟨kvs,k,e,ey,l⟩|⟨kvs,k,b,e,ey,eb,l⟩
 ·subst ey;obtain⟨z,hd,vs,rel,dd⟩:=Np I.hok e;refine wpAny_notIn_of (Oo ry) hd dd.mapOf ?_;rw[<-(rel.val k).isSome_eq,<-l];exact h _ (I.tok _)
 ·subst ey;cases(show u=Value.ref b from ry);obtain⟨z,hd,xs,rel,dd⟩:=LR I.hok e;refine wpAny_notIn_heap (A2d hu) (Ly I.hok eb) hd dd ?_;have q:=(rel.val k).isSome_eq;rw[W9]at q;rw[<-q,<-l];exact h _ (I.tok _)
theorem Th{h':Heap}{t':Nat}{ob:HO}(I:Inv X pins σ H s)(mu:Mut (H a))(hs:Heap.SameBut a s.heap h')(he:∃q,h'.get? a=some q)(new:BN X.prog X.w (upd H a ob) h' a ob) :
  Inv X pins σ (upd H a ob) {s with heap:=h',toks:=t'} :=
 I.write (x:=a) (e:=a) mu (.inl rfl) (λb q hb z=>(hs.2 b hb).trans z) he new
theorem dk_new{P:Program}{w:World}{H':Hp}{h':Heap}{kvs:List (Key×V)}{vs:List (Key×Value)}(z:kvs.length<=sizeLine)(hd:(a==sysModules)=false)(rel:KV kvs vs)(dd:h'.DictOf (Cv P w) a vs) :
  BN P w H' h' a (.dK kvs):=⟨z,hd,vs,rel,dd⟩
theorem Ut{H':Hp}{Q:Unit->Shared->Prop}(hu:A.units+1<cLine)(I:Inv X pins σ H s)(g:JS H a y v H')(ry:Be y u)(rv:Be v r)(h:∀s',Inv X pins σ H' s'->Q () s') :
  wpAny (model X.prog X.w) A (setItem (.ref a) u r) Q E s:=by
 rcases g with ⟨kvs,k,e,ey,l,eH⟩|⟨kvs,k,b,e,ey,eb,l,eH⟩
 ·subst ey eH;obtain⟨z,hd,vs,rel,dd⟩:=dk_of I.hok e;have hz:vs.length<=sizeLine:=by rw[<-rel.length];exact z
  have hl:(EX kvs k v).length<=sizeLine:=by have:=FJ kvs k v;lia
  refine wpAny_setItem_pairs (hsz:=hz) (Oo ry) dd λh' dd' hs=>h _ ?_;have he:∃q,h'.get? a=some q:=let ⟨q,_,_,hq,_⟩:=dd';⟨q,hq⟩;exact Th I (by rw[e];exact True.intro) hs he (dk_new hl hd (rel.put k rv) dd')
 ·subst ey eH;cases(show u=Value.ref b from ry);obtain⟨z,hd,xs,rel,dd⟩:=dt_of I.hok e;have hz:xs.length<=sizeLine:=by rw[<-X5 rel];exact z
  have hl:(EX kvs k v).length<=sizeLine:=by have:=FJ kvs k v;lia
  refine wpAny_setItem_heap (hsz:=hz) (A2d hu) (Ly I.hok eb) dd λh' dd' hs=>h _ ?_;obtain⟨q,es,ep,hq,h2,h3,h4,_,h5⟩:=dd';refine Th I (by rw[e];exact True.intro) hs ⟨q,hq⟩ ⟨hl,hd,_,(rel.put k eb rv).keeps λc ys ec=>?_,q,es,ep,hq,h2,h3,h4,h5⟩;rw[Ao (As ec e (λz=>nomatch z))];exact ec
end
section
variable{X:Cx}{pins:List (Addr×Obj)}{σ:St}{H:Hp}{s:Shared}{a:Addr}{kvs:List (Key×V)}{k:Key}{u:Value}{A:Around}{E:Value->Shared->Prop}
end
def NoSl(i:Expr):Prop:=∀ov iv,subscripted i false ov iv=operate [ov,iv] (getItem ov iv)
theorem subD_of{prog:Program}{w:World}{A:Around}{E:Value->Shared->Prop}{s:Shared}{env:Env}{value slice:Expr}{pos:Pos}{T id:String}{Q:Value->Shared->Prop}
  (hl:typeLookup (.type T) "__getitem__" = pure (some (.builtin id))) (hs:NoSl slice)
  (h:wpAny (model prog w) A (eval value env) (λo s₁=>wpAny (model prog w) A (eval slice env) (λi s₂=>s₂.TypeIs o T/\wpAny (model prog w) A (getItem o i) Q E s₂) E s₁) E s) :
  wpAny (model prog w) A (eval (.Subscript value slice pos) env) Q E s:=by
 refine Subscript_ (A0b h (λo s₁ h₁=>A0b h₁ (λi s₂ h₂=>?_) λ_ _ x=>x) λ_ _ x=>x);obtain⟨hT,h₂⟩:=h₂;unfold subscriptTail;refine Z0 ?_;rw[getitemInPython_of_ne hT.not_modules];refine Z0 (wpAny_specialOf hT hl ?_);have fin:wpAny (model prog w) A (subscripted slice false o i) (λr s₃=>wpAny (model prog w) A (letTemporaryGo value o r >>= λ_=>pure r) Q E s₃) E s₂:=by
  rw[hs o i];exact wpAny_operating (A0b h₂ (λr s₃ h₃=>Z0 (wpAny_letTemporaryGo (X7 h₃))) λ_ _ x=>x)
 first
  |exact X7 (Z0 fin)
  |exact Z0 (X7 (Z0 fin))
  |exact Z0 fin
theorem QJ{X:Cx}{pins:List (Addr×Obj)}{σ:St}{H:Hp}{s:Shared}{a:Addr}{y:V}{o:Option V}(I:Inv X pins σ H s)(g:Fx H a y o):s.TypeIs (.ref a) "dict" := by
 rcases g with ⟨kvs,k,e,_,_⟩|⟨kvs,k,b,e,_,_,_⟩
 ·obtain⟨_,_,vs,_,dd⟩:=Np I.hok e;exact dd.typeIs
 ·obtain⟨_,_,xs,_,dd⟩:=LR I.hok e;exact dd.typeIs
def tDGet(td ty:TE):TE:=fun σ H Q=>td σ H λx H1=>ty σ H1 λy H2=>∃a v,x=.ref a/\Fx H2 a y (some v)/\Q v H2
def tDIn(ty td:TE):TE:=fun σ H Q=>ty σ H λy H1=>td σ H1 λx H2=>∃a o,x=.ref a/\Fx H2 a y o/\Q (.bl o.isSome) H2
def tDNotIn(ty td:TE):TE:=fun σ H Q=>ty σ H λy H1=>td σ H1 λx H2=>∃a o,x=.ref a/\Fx H2 a y o/\Q (.bl (!o.isSome)) H2
def sDPut(td ty tv:TE):TS:=λD σ H=>tv σ H λv H1=>td σ H1 λx H2=>ty σ H2 λy H3=>∃a H4,x=.ref a/\JS H3 a y v H4/\D.nx σ H4
section
variable{X:Cx}{o i e value:Expr}{pos pos' tpos:Pos}{td ty tv:TE}
theorem OY(hu:X.A.units+1<cLine)(ho:PE X o td)(hi:PE X i ty)(hs:NoSl i):PE X (.Subscript o i pos) (tDGet td ty):=by
 intro pins s σ H Q I h;refine subD_of PySem.F.slot_dict_getitem.lookup hs (thn (ho pins s σ H _ I h) λu s1 ⟨x,H1,I1,rx,q1⟩=>thn (hi pins s1 σ H1 _ I1 q1) λiv s2 ⟨y,H2,I2,ry,a,v,ex,g,q2⟩=>?_);subst ex;obtain rfl:u=Value.ref a:=rx;exact⟨QJ I2 g,Uu hu I2 g ry λw' s3 I3 rw'=>⟨v,H2,I3,rw',q2⟩⟩
theorem pc_din(hu:X.A.units+1<cLine)(hi:PE X i ty)(ho:PE X o td):PC X .In i o (tDIn ty td):=by
 intro pins s σ H Q I h;refine thn (hi pins s σ H _ I h) λiv s1 ⟨y,H1,I1,ry,q1⟩=>thn (ho pins s1 σ H1 _ I1 q1) λu s2 ⟨x,H2,I2,rx,a,ov,ex,g,q2⟩=>?_;subst ex;obtain rfl:u=Value.ref a:=rx;exact d_in hu I2 g ry λs3 I3=>⟨.bl ov.isSome,H2,I3,rfl,q2⟩
theorem Lh(hu:X.A.units+1<cLine)(hi:PE X i ty)(ho:PE X o td):PC X .NotIn i o (tDNotIn ty td):=by
 intro pins s σ H Q I h;refine thn (hi pins s σ H _ I h) λiv s1 ⟨y,H1,I1,ry,q1⟩=>thn (ho pins s1 σ H1 _ I1 q1) λu s2 ⟨x,H2,I2,rx,a,ov,ex,g,q2⟩=>?_;subst ex;obtain rfl:u=Value.ref a:=rx;exact d_notIn hu I2 g ry λs3 I3=>⟨.bl (!ov.isSome),H2,I3,rfl,q2⟩
theorem FF(hu:X.A.units+1<cLine)(ho:PE X o td)(hi:PE X i ty)(hv:PE X value tv)(hs:swapsWith value (some (.Subscript o i pos')) pos.line X.env=pure false) :
  PS X (.Assign [.Subscript o i pos'] value pos) (sDPut td ty tv):=by
 intro pins s σ H D I h;refine wpAny_Assign_Subscript (thn (hv pins s σ H _ I h) λr s1 ⟨v,H1,I1,rv,q1⟩=>thn (ho pins s1 σ H1 _ I1 q1) λu s2 ⟨x,H2,I2,rx,q2⟩=>thn (hi pins s2 σ H2 _ I2 q2) λiv s3 ⟨y,H3,I3,ry,a,H4,ex,g,q3⟩=>?_) hs;subst ex;obtain rfl:u=Value.ref a:=rx;exact Ut hu I3 g ry rv λs4 I4=>⟨σ,H4,I4,q3⟩
end
theorem Wj{P:Program}{w:World}{H:Hp}(h:Heap)(hb:sysModules<h.objs.size):BN P w H (h.push {cls:=.type "dict",data:=.dict #[]}) h.objs.size (.dK []) :=
 ⟨J1 _,beq_eq_false_iff_ne.mpr (Z7 (F9 hb)),[],.nil,Heap.DictOf.new h⟩
theorem Wi{P:Program}{w:World}{H:Hp}(h:Heap)(hb:sysModules<h.objs.size):BN P w H (h.push {cls:=.type "dict",data:=.dict #[]}) h.objs.size (.dT []) :=
 ⟨J1 _,beq_eq_false_iff_ne.mpr (Z7 (F9 hb)),[],.nil,_,#[],0,F3 _ rfl,⟨rfl,rfl,rfl⟩,rfl,rfl,P2⟩
def tDNewK:TE:=λ_ H Q=>∀p,H p=none->Q (.ref p) (upd H p (.dK []))
def tDNewT:TE:=λ_ H Q=>∀p,H p=none->Q (.ref p) (upd H p (.dT []))
section
variable{X:Cx}{pos:Pos}
theorem JA:PE X (.Dict [] [] pos) tDNewK:=λpins s σ H Q I h =>
 wpAny_Dict_empty ⟨.ref s.heap.objs.size,_,I.laid (a:=s.heap.objs.size) (o:=.dK []) (t':=s.toks) (λ_ _ q=>D0 _ q) (C8 _) (Wj s.heap I.big),rfl,h _ (I.hok.fresh (C8 _))⟩
theorem Il:PE X (.Dict [] [] pos) tDNewT:=λpins s σ H Q I h =>
 wpAny_Dict_empty ⟨.ref s.heap.objs.size,_,I.laid (a:=s.heap.objs.size) (o:=.dT []) (t':=s.toks) (λ_ _ q=>D0 _ q) (C8 _) (Wi s.heap I.big),rfl,h _ (I.hok.fresh (C8 _))⟩
end
structure M1(X:Cx)(o:Expr)(m:Str)(apos:Pos)(e:Expr)(cpos:Pos):Prop where
 base:attributeBase o m X.env (eval o X.env)=eval o X.env
 few:((backTo cpos (starEach [e] X.env)).all (λx=>!x.1) && (backToKw cpos (keywordEach [] X.env)).all (λx=>x.1.isSome)
  && decide (([e]:List Expr).length+([]:List Keyword).length+(if([]:List Keyword).isEmpty then 0 else 1)<30))=true
 line:(apos.endLine==cpos.line)=true
 trees:backTo cpos (starEach [e] X.env)=[(false,eval e X.env)]
def IsD(H:Hp)(a:Addr):Prop:=(∃kvs,Rd H a (.dK kvs))\/∃kvs,Rd H a (.dT kvs)
theorem isD_at{X:Cx}{pins:List (Addr×Obj)}{σ:St}{H:Hp}{s:Shared}{a:Addr}(I:Inv X pins σ H s)(d:IsD H a) :
  s.TypeIs (.ref a) "dict" /\ (∀b,Value.ref a=.ref b->∃ob,s.heap.get? b=some ob/\ob.dict=none)/\(a==sysModules)=false:=by
 rcases d with ⟨kvs,e⟩|⟨kvs,e⟩
 ·obtain⟨_,hd,vs,_,dd⟩:=Np I.hok e;refine⟨dd.typeIs,λb q=>?_,hd⟩;cases q;obtain⟨ob,_,_,h1,h2,_⟩:=dd;exact⟨ob,h1,h2.2.1⟩
 ·obtain⟨_,hd,xs,_,dd⟩:=LR I.hok e;refine⟨dd.typeIs,λb q=>?_,hd⟩;cases q;obtain⟨ob,_,_,h1,h2,_⟩:=dd;exact⟨ob,h1,h2.2.1⟩
section
variable{X:Cx}{pins:List (Addr×Obj)}{σ:St}{H:Hp}{s:Shared}{a:Addr}{y d:V}{u r:Value}{o:Option V}{A:Around}{E:Value->Shared->Prop}
theorem d_get1{Q:Value->Shared->Prop}(hu:A.units+1<cLine)(I:Inv X pins σ H s)(g:Fx H a y o)(ry:Be y u)(h:∀w' s',Inv X pins σ H s'->Be (o.getD .non) w'->Q w' s') :
  wpAny (model X.prog X.w) A (call (.builtin "dict.get") [.ref a,u]) Q E s:=by
 rcases g with ⟨kvs,k,e,ey,l⟩|⟨kvs,k,b,e,ey,eb,l⟩
 ·subst ey;obtain⟨z,hd,vs,rel,dd⟩:=Np I.hok e;refine call_meetsIn A3h dd.typeIs PySem.F.entry_dict_get (PySem.F.args_dict_get_2 _ _) (meets_dict_get (Cv X.prog X.w) a (Oo ry) hd) ⟨_,dd.mapOf,h _ _ (I.tok _) ?_⟩;rw[l];exact(rel.val k).getD rfl
 ·subst ey;cases(show u=Value.ref b from ry);obtain⟨z,hd,xs,rel,dd⟩:=LR I.hok e;refine call_meetsIn A3h dd.typeIs PySem.F.entry_dict_get (PySem.F.args_dict_get_2 _ _) (meetsH_dict_get (tupleKind (Cv X.prog X.w)) a b hd) ⟨A2d hu,k,xs,Ly I.hok eb,dd,h _ _ (I.tok _) ?_⟩;rw[l];exact(rel.val k).getD rfl
end
def tDGet1(td ty:TE):TE:=fun σ H Q=>td σ H λx H1=>∃a,x=.ref a/\IsD H1 a/\ty σ H1 λy H2=>∃o,Fx H2 a y o/\Q (o.getD .non) H2
section
variable{X:Cx}{o e f:Expr}{apos cpos:Pos}{td ty tx:TE}
theorem MP(hu:X.A.units+1<cLine)(ho:PE X o td)(he:PE X e ty)(m:M1 X o "get" apos e cpos):PE X (.Call (.Attribute o "get" apos) [e] [] cpos) (tDGet1 td ty):=by
 intro pins s σ H Q I h;refine wpAny_Call_method m.base m.few m.line PySem.F.plainAttrs_dict A3h PySem.F.type_dict_get (thn (ho pins s σ H _ I h) λu s1 ⟨x,H1,I1,rx,a,ex,d,q1⟩=>?_);subst ex;obtain rfl:u=Value.ref a:=rx;obtain⟨t1,t2,_⟩:=isD_at I1 d;refine⟨t1,t2,?_⟩;rw[m.trees];refine A4d rfl (Calls.evalArgs_plain (Calls.spliced_cons (thn (he pins s1 σ H1 _ I1 q1) λiv s2 ⟨y,H2,I2,ry,ov,g,q2⟩=>Calls.spliced_nil ?_)));exact d_get1 hu I2 g ry λw' s3 I3 rw'=>⟨_,H2,I3,rw',q2⟩
end
section
variable{X:Cx}{pins:List (Addr×Obj)}{σ:St}{H:Hp}{s:Shared}{a:Addr}{kvs:List (Key×V)}{A:Around}{E:Value->Shared->Prop}
end
section
variable{X:Cx}{pins:List (Addr×Obj)}{σ:St}{H:Hp}{s:Shared}{a:Addr}{y:V}{u:Value}{A:Around}{E:Value->Shared->Prop}
end
section
variable{X:Cx}
end
section
variable{κ:Type}[DecidableEq κ]
end
section
variable{P:Program}{w:World}{K:PySem.W.Frag}{mg:Str->Option Value}{base:Heap}{N:List Str}{qual:Str}{scope:Scope}{f:Addr}{cd:Value}{A:Around}{outer:List Env}{s:Shared}{H:Hp}{E:XK}
end
section
variable{X:Cx}{C:Addr}{x:Str}{np cpos pos:Pos}{e:Expr}{es:List Expr}{t:TA}{E:XK}
end
section
variable{X:Cx}{CX:CXT}{k:Nat}{f:Addr}{fd:FuncData}{ps:List Str}{sp:Sp}{dvs:List V}{ds:List Value}{E:XK}{x:Str}{p pos:Pos}{e:Expr}{es:List Expr}{t:TA}{S:St->Prop}
end
def isExc(a D:Addr):HO:=.ext (Tq a D)
theorem Inv.track{X:Cx}{pins:List (Addr×Obj)}{σ:St}{H:Hp}{s:Shared}{a:Addr}{o:HO}(I:Inv X pins σ H s)(ha:H a=none)(h0:X.s₀.heap.get? a=none)(hb:X.base.get? a=none)(hL:X.env.locals≠a)(hc:∀x c,X.env.cells.lookup x=some c->c≠a)
  (hp:∀p,p∈X.pn++pins->p.1≠a) (hs:∀b,b∈X.fs->b≠a) (new:BN X.prog X.w (upd H a o) s.heap a o):Inv X pins σ (upd H a o) s:=by
 have ne:∀b u,H b=some u->b≠a:=λb u q z=>by rw[z,ha]at q;cases q
 refine⟨I.ok,I.os,I.bare,⟨I.base.keep,I.base.slot,λb u q n x=>?_,I.base.there,λb xs q=>?_,λb u v q=>?_,λb ps q=>?_⟩,I.loc,I.cell,?_,λx c q=>?_,λp z=>?_,λb u q=>?_,I.len⟩
 ·rw[Ao (λz=>by rw[z,h0]at q;cases q)];exact I.base.free b u q n x
 ·have z:=I.base.tups b xs q;rw[Ao (ne _ _ z)];exact z
 ·have z:=I.base.frzs b u v q;rw[Ao (ne _ _ z)];exact z
 ·obtain⟨m,z⟩:=I.base.tbls b ps q;exact⟨m,by rw[Ao (ne _ _ z)];exact z⟩
 ·rw[Ao hL];exact I.free
 ·rw[Ao (hc x c q)];exact I.freeC x c q
 ·obtain⟨e,n,r⟩:=I.pin p z;exact⟨e,by rw[Ao (hp p z)];exact n,r⟩
 ·by_cases z:b=a
  ·subst z;rw[Af]at q;cases q;exact new
  ·rw[Ao z]at q;exact(I.hok b u q).stay (λc v _ r=>r) (λc r=>by rw[Ao (ne _ _ r)];exact r) λc xs r=>by rw[Ao (ne _ _ r)];exact r
section
variable{X:Cx}{C:Addr}{x n:Str}{np hpos pos:Pos}{i:Nat}{b₀:Stmt}{suite body:List Stmt}{S:St->Prop}{tb:XK->TS}{th:TS}
end
section
variable{P:Program}{w:World}{K:PySem.W.Frag}{mg:Str->Option Value}{base:Heap}
end
section
variable{X:Cx}{k:Nat}{f:Addr}{fd:FuncData}{ps:List Str}{sp:Sp}{x:Str}{p pos:Pos}{e:Expr}{es:List Expr}{t:TA}
end
section
variable{X:Cx}{tg:Expr}
def Its(x:Str):It:=⟨λi _=>i<x.cps.size,λi H v H'=>H'=H/\∃c,x.cps[i]?=some c/\v=.str ⟨#[c]⟩,λi _=>i=x.cps.size⟩
theorem PP{P:Program}{w:World}{K:PySem.W.Frag}(it:Addr)(x:Str)(t:Tok)(T:String)(hn:["enumerate","zip","dict_itemiterator","dict_reverseitemiterator","odict_iterator","itertools.zip_longest","itertools.pairwise"].contains T=false)
  (W:∀A:Around,A.handled=none->Walks P w A it [it] [it] x.cps.size (SignAt x) (λi h=>h.IsStrIter it T x t i))
  (hself:∀(A:Around)(i:Nat)(s:Shared)(Q:Value->Shared->Prop)(E:Value->Shared->Prop),s.heap.IsStrIter it T x t i->Q (.ref it) s->wpAny (model P w) A (pyIter (.ref it)) Q E s):NU P w K tg (Its x) [it] it (λi h=>h.IsStrIter it T x t i) where
 mem:=by simp
 obj:=λi h st b hb=>by
  have e:b=it:=by simpa using hb
  subst e;obtain⟨o,e,c,d⟩:=st;exact⟨o,e,λv z=>by rw[d]at z;cases z⟩
 keep:=λi h h' ⟨o,e,r⟩ k=>⟨o,k it B1 o e,r⟩
 item:=by
  intro X hP hw hK hc i pins s σ H E I hf st hg;subst hP hw hK;obtain⟨f0,f1,f2,f3,f4,f5⟩:=hf it B1;refine(W X.A (I.ok.hd hc)).item i s _ _ hg st λv h' tk hv st' kk=>?_;obtain⟨c,u,hc',rfl⟩:=hv;have I1:Inv X pins σ H {s with heap:=h',toks:=tk}:=I.turned (λb o hb e=>kk b o (by simpa using hb) e) f0 f1 f3 f4 f5;obtain⟨o,e,oc,od⟩:=id st';exact⟨_,rfl,QE (s:={s with heap:=h',toks:=tk}) e oc od hn ⟨.str ⟨#[c]⟩,H,I1,⟨u,rfl⟩,⟨rfl,c,hc',rfl⟩,st',λb hb=>(hf b hb).1⟩⟩
 done:=by
  intro X hP hw hK hc i pins s σ H E I hf st hg;subst hP hw hK;obtain⟨f0,f1,f2,f3,f4,f5⟩:=hf it B1;have z:i=x.cps.size:=hg;subst z;exact(W X.A (I.ok.hd hc)).done s _ _ st λh' tk kk=>⟨rfl,I.turned (λb o hb e=>kk b o (by simpa using hb) e) f0 f1 f3 f4 f5⟩
 self:=hself
def iStr(tl:TE):TI:=fun σ H R=>tl σ H λv H1=>∃x,v=.str x/\R (Its x) H1
theorem Vm{l:Expr}{tl:TE}(hl:PE X l tl):PI X tg l (iStr tl):=by
 intro pins s σ H R I h;refine thn (hl pins s σ H _ I h) λv s1 ⟨y,H1,I1,r1,q1⟩=>?_;obtain⟨x,rfl,q⟩:=q1;obtain⟨t,rfl⟩:=r1;have fp:∀b,b∈[s1.heap.objs.size]->Gm X pins H1 b:=λb hb=>by
  have e:b=s1.heap.objs.size:=by simpa using hb
  subst e;exact I1.fpOk (C8 _) (I1.hok.fresh (C8 _))
 cases ha:x.cps.all (· < 128)with
 |true =>
  refine wpAny_pyIter_ascii ha ?_;refine⟨s1.heap.objs.size,[s1.heap.objs.size],_,_,H1,rfl,I1.kept (t':=s1.toks) λb o e=>D0 _ e,PP _ x t "str_ascii_iterator" A3 (λA hA=>Walks.strAscii hA _ x t) (λ_ _ _ _ _ st h=>wpAny_pyIter_striter_ascii st h),⟨_,F3 _ rfl,rfl,rfl⟩,fp,q⟩
 |false =>
  refine wpAny_pyIter_wide ha ?_;refine⟨s1.heap.objs.size,[s1.heap.objs.size],_,_,H1,rfl,I1.kept (t':=s1.toks) λb o e=>D0 _ e,PP _ x t "str_iterator" A3 (λA hA=>Walks.strWide hA _ x t) (λ_ _ _ _ _ st h=>wpAny_pyIter_striter_wide st h),⟨_,F3 _ rfl,rfl,rfl⟩,fp,q⟩
theorem for_str{x:Str}{g:TG}{tb:TS}{D:Ja}{σ:St}{H:Hp}(Pv:Nat->St->Hp->Prop)(h0:Pv 0 σ H)
  (hs:∀i c σ H,x.cps[i]?=some c->Pv i σ H->g (.str ⟨#[c]⟩) σ H fun σ2 H2=>tb {D with nx:=Pv (i+1),ct:=Pv (i+1),bk:=D.nx} σ2 H2) (hd:∀σ H,Pv x.cps.size σ H->D.nx σ H) :
  ∃W:Nat->Nat->St->Hp->Prop,(∃m,W 0 m σ H)/\∀i m σ H,W i m σ H ->
   ((Its x).stop i H/\D.nx σ H)\/((Its x).go i H/\∃N:St->Hp->Prop,(∀σ' H',N σ' H'->∃m',m'<m/\W (i+1) m' σ' H')/\∀v H',(Its x).yld i H v H'->g v σ H' fun σ2 H2=>tb {D with nx:=N,ct:=N,bk:=D.nx} σ2 H2):=by
 refine⟨λi m σ H=>m=x.cps.size-i/\i<=x.cps.size/\Pv i σ H,⟨x.cps.size,by simp,J1 _,h0⟩,?_⟩;rintro i m σ H ⟨rfl,hi,p⟩;by_cases hlt:i<x.cps.size
 ·refine .inr ⟨hlt,Pv (i+1),fun σ' H' p'=>⟨x.cps.size-(i+1),by lia,rfl,hlt,p'⟩,λv H' y=>?_⟩;obtain⟨e,c,hc,rfl⟩:=y;subst e;exact hs i c σ _ hc p
 ·have e:i=x.cps.size:=by lia
  subst e;exact .inl ⟨rfl,hd σ H p⟩
theorem Ge:Fy X (.type "int") (λxs H Q=>∃x n,xs=[.str x]/\PySem.intText? x=some n/\x.length<=640/\Q (.int n) H):=by
 intro pins s σ H xs us Q I r h;obtain⟨x,n,rfl,hn,hl,q⟩:=h;cases r with
 |cons r1 r2 =>
  cases r2;obtain⟨t,rfl⟩:=r1;exact PySem.W.KIN.call_text hn hl ⟨.int n,H,I.tok _,⟨_,rfl⟩,q⟩
theorem QT(hc:X.calm=true):Fy X (.builtin "all") (λxs H Q=>∃(p:Addr)(bs:List Bool),xs=[.ref p]/\SqL X.K H p (bs.map V.bl)/\Q (.bl (bs.all id)) H):=by
 intro pins s σ H xs us Q I r h;obtain⟨p,bs,rfl,hq,q⟩:=h;cases r with
 |cons r1 r2 =>
  cases r2;cases(show _=Value.ref p from r1);obtain⟨its,rv,pl,hz⟩:=I.list hq;have hne:p≠s.heap.objs.size:=F9 (by obtain⟨o,n,e,_⟩:=pl;exact E9 e);refine call_all_walk (A3g pl.isList ?_);have vals:∀(i:Nat) v,its[i]?=some v->∃b,bs[i]?=some b/\v=.bool b:=λi v e=>by
   cases eb:bs[i]? with
   |none =>
    have:its[i]?=none:=rv.none_of (by rw[B9,eb];rfl);rw[e]at this;cases this
   |some b =>
    obtain⟨u,hu,ru⟩:=rv.get (i:=i) (x:=V.bl b) (by rw[B9,eb];rfl);rw[e]at hu;cases hu;exact⟨b,rfl,ru⟩
  refine⟨s.heap.objs.size,_,_,_,_,_,λi=>bs.getD i true,rfl,Walks.list (A:=X.A.in1) (I.ok.hd hc) s.heap.objs.size p hne its.toArray,⟨⟨_,F3 _ rfl,rfl,rfl⟩,?_⟩,?_,?_⟩
  ·exact pl.isList.at λo e=>D0 _ e
  ·intro i v s2 Q2 E2 hP hQ;obtain⟨b,eb,rfl⟩:=vals i v (by simpa using hP);have e2:bs.getD i true=b:=by rw[D3,eb];rfl
   have hQ:Q2 (bs.getD i true) s2:=hQ;rw[e2]at hQ;exact K6 hQ
  ·intro h' tk kk;have I2:Inv X pins σ H {s with heap:=h',toks:=tk}:=I.kept λb o e=>kk b o (by intro z;exact F9 (E9 e) (by simpa using z)) (D0 _ e);have len:its.toArray.size=bs.length:=by rw[E6,<-rv.length,B6]
   have e3:(List.range its.toArray.size).all (λi=>bs.getD i true)=bs.all id:=by
    rw[len,P4,O6,O6];constructor
    ·intro z b hb;obtain⟨i,hi,e⟩:=List.mem_iff_getElem.mp hb;have:=z i (N2.mpr hi);rw[D3,C6 hi,e]at this;exact this
    ·intro z i hi;have hi':=N2.mp hi;rw[D3,C6 hi'];exact z _ (O5 hi')
   rw[e3];exact⟨.bl _,H,I2,rfl,q⟩
def WK(lo c:Int)(n:Nat):It:=⟨λi _=>i<n,λi H x H'=>H'=H/\x=.int (lo+i*c),λi _=>i=n⟩
theorem PQ{P:Program}{w:World}{K:PySem.W.Frag}(it:Addr)(lo c:Int)(n:Nat):NU P w K tg (WK lo c n) [it] it (λi h=>IsRangeIter h it (lo+(i:Nat)*c) ((n:Int)-(i:Nat)) c) where
 mem:=by simp
 obj:=λi h st b hb=>by
  have e:b=it:=by simpa using hb
  subst e;exact⟨_,st,λv z=>by
   have z':Data.fields _=Data.cell v:=z;cases z'⟩
 keep:=λi h h' st k=>k it B1 _ st
 item:=by
  intro X hP hw hK hc i pins s σ H E I hf st hg;subst hP hw hK;obtain⟨f0,f1,f2,f3,f4,f5⟩:=hf it B1;refine(Walks.range (prog:=X.prog) (w:=X.w) (I.ok.hd hc) it lo c n).item i s _ _ hg st λv h' tk hv st' kk=>?_;obtain⟨t,rfl⟩:=hv;have I1:Inv X pins σ H {s with heap:=h',toks:=tk}:=I.turned (λb o hb e=>kk b o (by simpa using hb) e) f0 f1 f3 f4 f5;exact⟨_,rfl,QE (s:={s with heap:=h',toks:=tk}) (n:="range_iterator") st' rfl rfl A3 ⟨.int (lo+i*c),H,I1,⟨t,rfl⟩,⟨rfl,rfl⟩,st',λb hb=>(hf b hb).1⟩⟩
 done:=by
  intro X hP hw hK hc i pins s σ H E I hf st hg;subst hP hw hK;obtain⟨f0,f1,f2,f3,f4,f5⟩:=hf it B1;have z:i=n:=hg;subst z;exact(Walks.range (prog:=X.prog) (w:=X.w) (I.ok.hd hc) it lo c i).done s _ _ st λh' tk kk=>⟨rfl,I.turned (λb o hb e=>kk b o (by simpa using hb) e) f0 f1 f3 f4 f5⟩
 self:=λ_ _ _ _ _ st h=>wpAny_pyIter_rangeiter st h
def iRng3(ta:TA):TI:=fun σ H R=>ta σ H λvs H1=>∃(i j c:Int)(n:Nat),vs=[.int i,.int j,.int c]/\c≠0/\(j-i).natAbs<1073741824/\c.natAbs<1073741824/\Builtin.Range.small i j c=true/\Builtin.Range.rangeSize i j c=(n:Int)/\R (WK i c n) H1
theorem Oc{a b c:Expr}{ta:TA}{p pos:Pos}(hg:Gl X "range")(hm:X.mg "range" = none)(ha:PA X [a,b,c] ta)(hs:starEach [a,b,c] X.env=[(false,eval a X.env),(false,eval b X.env),(false,eval c X.env)]:=by rfl)
  (hs2:starEach [b,c] X.env=[(false,eval b X.env),(false,eval c X.env)]:=by rfl):PI X tg (.Call (.Name "range" p) [a,b,c] [] pos) (iRng3 ta):=by
 intro pins s σ H R I h;refine Call_ (IB I hg hm boot_range (A0a (thn (ha pos pins s σ H _ I h) λus s1 ⟨vs,H1,I1,r1,q1⟩=>?_) (by rw[hs,hs2]) (by rw[hs2];rfl)));obtain⟨i,j,c,n,rfl,hc,hb1,hb2,hsm,hsz,q⟩:=q1;cases r1 with
 |cons r rr =>
  cases rr with
  |cons r' rr =>
   cases rr with
   |cons r'' rr =>
    cases rr;obtain⟨t,rfl⟩:=r;obtain⟨t',rfl⟩:=r';obtain⟨t'',rfl⟩:=r'';refine call_range_3 hc (wpAny_pyIter_range (IsRange.new ..) hsm ?_) (.inl (PyProof.noPylong_small A1));have I2:Inv X pins σ H1 {s1 with heap:=s1.heap.push {cls:=.type "range",data:=.fields #[.int i t,.int j t',.int c t'']} }:=I1.kept (t':=s1.toks) λb o e=>D0 _ e
    refine⟨(s1.heap.push {cls:=.type "range",data:=.fields #[.int i t,.int j t',.int c t'']}).objs.size,[(s1.heap.push {cls:=.type "range",data:=.fields #[.int i t,.int j t',.int c t'']}).objs.size],_,_,H1,rfl,
     I2.kept (t':=s1.toks) λb o e=>D0 _ e,PQ _ i c n,?_,λb hb=>?_,q⟩
    ·show IsRangeIter _ _ (i+((0:Nat):Int)*c) ((n:Int)-((0:Nat):Int)) c;have e1:i+((0:Nat):Int)*c=i:=by simp
     have e2:(n:Int)-((0:Nat):Int)=Builtin.Range.rangeSize i j c:=by rw[hsz];simp
     rw[e1,e2];exact F3 _ rfl
    ·have e:b=(s1.heap.push {cls:=.type "range",data:=.fields #[.int i t,.int j t',.int c t'']}).objs.size:=by simpa using hb
     subst e;exact I2.fpOk (C8 _) (I2.hok.fresh (C8 _))
theorem Nn{lo c:Int}{n:Nat}{g:TG}{tb:TS}{D:Ja}{σ:St}{H:Hp}(Pv:Nat->St->Hp->Prop)(h0:Pv 0 σ H)
  (hs:∀i σ H,i<n->Pv i σ H->g (.int (lo+i*c)) σ H fun σ2 H2=>tb {D with nx:=Pv (i+1),ct:=Pv (i+1),bk:=D.nx} σ2 H2) (hd:∀σ H,Pv n σ H->D.nx σ H) :
  ∃W:Nat->Nat->St->Hp->Prop,(∃m,W 0 m σ H)/\∀i m σ H,W i m σ H ->
   ((WK lo c n).stop i H/\D.nx σ H)\/((WK lo c n).go i H/\∃N:St->Hp->Prop,(∀σ' H',N σ' H'->∃m',m'<m/\W (i+1) m' σ' H')/\∀v H',(WK lo c n).yld i H v H'->g v σ H' fun σ2 H2=>tb {D with nx:=N,ct:=N,bk:=D.nx} σ2 H2):=by
 refine⟨λi m σ H=>m=n-i/\i<=n/\Pv i σ H,⟨n,by simp,J1 _,h0⟩,?_⟩;rintro i m σ H ⟨rfl,hi,p⟩;by_cases hlt:i<n
 ·refine .inr ⟨hlt,Pv (i+1),fun σ' H' p'=>⟨n-(i+1),by lia,rfl,hlt,p'⟩,λv H' y=>?_⟩;obtain⟨e,rfl⟩:=y;subst e;exact hs i σ _ hlt p
 ·have e:i=n:=by lia
  subst e;exact .inl ⟨rfl,hd σ H p⟩
end
section
variable{X:Cx}{iter:Expr}{ti:TE}{x G:Str}{px px1 px2 cpos pos:Pos}{scope:Scope}{g:Str}
end
structure WM(K:PySem.W.Frag)(D:Addr):Prop where
 hd:hasDictIn K D=true
 ga:findIn K (.ref D) "__getattribute__" = some (some (.builtin "BaseException.__getattribute__"))
 gt:findIn K (.ref D) "__getattr__" = some none
 cl:findIn K (.ref D) "__class__" = some (some (.builtin "object.__class__"))
 sp:specialIn K (.builtin "object.__class__") "__get__" = some (some (.builtin "getset_descriptor.__get__"))
 tk:takesIn K (.builtin "object.__class__")=some true
 mo:mroIn K D (.type "object")=some true
 mb:mroIn K D (.type "BaseException")=some true
section
variable{K:PySem.W.Frag}{prog:Program}{w:World}{A:Around}{E:Value->Shared->Prop}{s:Shared}{a D:Addr}{o:Obj}
open PySem.W Builtin Builtin.ObjectAttr Builtin.Getset_descriptor
theorem Wf{M:Model}{h:Heap}(X:K.In h)(f:WM K D):Looks M h (find (.ref a) (.ref D) "__class__") (.bind (.builtin "getset_descriptor.__get__") (.builtin "object.__class__")) :=
 (looks_findIn X f.cl).andThen ((looks_specialIn X f.sp).andThen ((show Looks M h (dataDescriptor? (some (.builtin "object.__class__")) (some (.builtin "getset_descriptor.__get__"))) (some (.builtin "getset_descriptor.__get__",.builtin "object.__class__"))from(looks_takesIn X f.tk).andThen .now).andThen (Looks.tag .now)))
theorem exc_get{R:Result->Shared->Prop}{tp:Value}(X:K.In s.heap)(f:WM K D)(he:s.heap.get? a=some o)(hc:o.cls=.ref D)(hq:R (.ok (.ret (.ref D))) s) :
  codeAny (model prog w) A (.call (.builtin "getset_descriptor.__get__") ⟨[.builtin "object.__class__",.ref a,tp],[]⟩) R s:=by
 obtain⟨h,g,d,t,os⟩:=s;have L0:Looks (model prog w) h (typeOf (.ref a)) (.ref D):=hc▸(Looks.ld he).andThen .now;have L1:=looks_mroIn (M:=model prog w) X f.mo;refine codeAny_call_builtin KF.slot_gs.plain KF.entry_gs (KF.slot_gs.check _ _ _ _ _ _ _ _ KF.type_class (KF.args_gs _ _ _) ?_);unfold Builtin.«getset_descriptor.__get__» descrGet;rw[dga_obj];refine Z0 (X7 ?_);unfold descrGetter descrCheckInstance descrNameAndClass isInstance;simp only[KF.owner_class]
 repeat lk
 refine⟨Code.quiet_builtin _ A0,codeAny_builtin KF.entry_class ?_⟩;unfold Builtin.«object.__class__» shownTypeOf
 repeat lk
 exact hq
theorem Ur{Q:Option Value->Shared->Prop}(X:K.In s.heap)(f:WM K D)(he:s.heap.get? a=some o)(hc:o.cls=.ref D)(hq:Q (some (.ref D)) {s with toks:=s.toks+1}) :
  wpAny (model prog w) A (getAttr? (.ref a) "__class__") Q E s:=by
 obtain⟨h,g,d,t,os⟩:=s;have L0:Looks (model prog w) h (typeOf (.ref a)) (.ref D):=hc▸(Looks.ld he).andThen .now;have L1:=looks_findIn (M:=model prog w) X f.ga;have L2:=looks_findIn (M:=model prog w) X f.gt;have L3:=Wf (M:=model prog w) (a:=a) X f;have L4:Looks (model prog w) h (isInstance (.ref a) (.type "BaseException")) true:=L0.andThen (looks_mroIn X f.mb);unfold getAttr? getAttrBy? getAttrBy;refine Z0 (wpAny_mkText (Z0 (A4a (A1h (Z0 (L0.at (Z0 (L1.at ?_))))))));dsimp only;have n0:(Value.builtin "BaseException.__getattribute__" == Value.builtin "object.__getattribute__")=false:=by decide +kernel
 rw[Z3 (by rw[n0,Bool.and_false];exact F1)];unfold getAttrByItsOwn hookBefore;rw[Z6 (by rfl)];refine Z0 (L2.at ?_);refine Z0 (A4a (A1h ?_));unfold callGetattribute;rw[Z3 A3];unfold boundAndCalled;refine Z0 (wpAny_of_eq (PySem.F.excAttr_ValueError.ga.bind (.ref a)) ?_);dsimp only;refine wpAny_call (codeAny_call_builtin PySem.F.excAttr_ValueError.ga.plain PySem.F.entry_bexc_ga ?_);have hk:builtinKind "BaseException.__getattribute__" = some .slot:=by decide +kernel
 have hsp:splitId "BaseException.__getattribute__" = some ("BaseException","__getattribute__"):=by decide +kernel
 have har:=PySem.F.args_bexc_ga (.ref a) (.str "__class__" t);simp only[checkBuiltinCall,hk,hsp];refine Z0 (L4.at ?_);rw[Z3 A3];refine wpAny_of_eq (a:=()) har ?_;unfold Builtin.«object.__getattribute__»;dsimp only at L3
 repeat ((fail_if_success (with_reducible show wpAny _ _ (call _ _) _ _ _));lk)
 refine wpAny_call (exc_get (s:=⟨h,g,d,t+1,os⟩) X f he hc ?_);dsimp only
 repeat lk
 exact hq
end
inductive TyX(K:PySem.W.Frag)(H:Hp):V->Value->Prop where
 |of {x:V} {t:Value} (h:LC K H x t):TyX K H x t
 |exc {a D:Addr} (e:H a=some (isExc a D)) (f:WM K D):TyX K H (.ref a) (.ref D)
theorem VT{K:PySem.W.Frag}{a D:Addr}(f:WM K D):PySem.W.KitX K (.ref a) (.ref D) (λh=>∃o,h.get? a=some o/\o.cls=.ref D/\notCls o=true) where
 ty:=λM h X ⟨o,e,c,_⟩=>c▸(PySem.W.Looks.ld e).andThen .now
 it:=λM h X _=>by
  obtain⟨cd,hc,_⟩:=any_some f.hd;unfold clsIn at hc;split at hc
  ·rename_i c' d' cd' sl' ho;intro A' Q' E' s' k q;unfold isType loadHead;exact Z0 (wpAny_loadPart (k _ _ (X _ _ ho)) (X7 q))
  ·cases hc
 ne:=λh tp dd its n sl X htp=>by
  obtain⟨cd,hc,_⟩:=any_some f.hd;refine Y9.mpr λq=>?_;have e:D=tp:=Value.ref.inj (beq_iff_eq.mp q);subst e;unfold clsIn at hc;split at hc
  ·rename_i c' d' cd' sl' ho;have z:=(X _ _ ho).symm.trans htp;cases z
  ·cases hc
 ca:=λX ⟨o,e,c,_⟩ k=>Ur X f e c k
def clsV:V->Option Value
 |.ty n=>some (.type n)
 |.ref C=>some (.ref C)
 |_=>none
theorem Dh{X:Cx}:Fy X (.builtin "isinstance") (λxs H Q=>∃x c cv t b,xs=[x,c]/\clsV c=some cv/\TyX X.K H x t/\kitOne X.K t cv=some b/\Q (.bl b) H):=by
 intro pins s σ H xs us Q I r h;obtain⟨x,c,cv,t,b,rfl,hc,ty,hk,q⟩:=h;cases r with
 |@cons _ u _ _ rx rr =>
  cases rr with
  |@cons _ v _ _ rc rn =>
   cases rn;have ev:v=cv:=by
    cases c with
    |ty n=>cases hc;exact rc
    |ref C=>cases hc;exact rc
    |_=>cases hc
   subst ev;cases ty with
   |of ty=>exact Uh I rx ty hk λtk=>⟨.bl b,H,I.tok tk,rfl,q⟩
   |@exc a D e f =>
    cases(show u=Value.ref a from rx);obtain⟨p,_,_⟩:=(show BN X.prog X.w H s.heap a (isExc a D)from I.hok a _ e)
    exact K7 (VT f) I.kIn (Tq.not p) hk (λz=>nomatch z) λtk=>⟨.bl b,H,I.tok tk,rfl,q⟩
section
variable{X:Cx}{c:Expr}{a b:List Stmt}{tc:TT}{t u:TS}{pos:Pos}
end
def Gd(env:Env)(a:List (Str×Addr))(x:Str×NameKind):List (Str×Addr):=if(x.2==NameKind.free)=true then(x.1,(env.cells.lookup x.1).getD 0)::a else a
def RX(env:Env)(l:List (Str×NameKind)):List (Str×Addr):=l.foldl (Gd env) []
theorem RV{α β:Type}{l:List α}{f:α->β->Sem (ForInStep β)}{g:β->α->β}(h:∀x∈l,∀b,f x b=pure (.yield (g b x))):∀b,forIn l b f=pure (l.foldl g b):=by
 induction l with
 |nil=>intro b;rfl
 |cons x l ih =>
  intro b;rw[List.forIn_cons,h x D8,pure_bind];exact ih (λy hy=>h y (E1 _ hy)) _
theorem Ny{scope:Scope}{env:Env}(h:∀y∈scope.names,y.2=.free->∃c,env.cells.lookup y.1=some c):closureFor scope env=pure (RX env scope.names):=by
 simp only[closureFor];rw[RV (g:=Gd env) (λx hx c=>by
  obtain⟨n,k⟩:=x;by_cases hk:k=.free
  ·subst hk;obtain⟨a,ha⟩:=h _ hx rfl;have e:cellOf env n=pure a:=by unfold cellOf;rw[show env.cells.lookup n=some a from ha]
   simp only[Gd,beq_self_eq_true,A3b,e,show env.cells.lookup n=some a from ha,Option.getD_some];rfl
  ·have hb:(k==NameKind.free)=false:=by simpa using hk
   simp only[Gd,hb,M9,A2a])]
 rfl
theorem Ox(env:Env){y:Str}{c:Addr}:∀(l:List (Str×NameKind))(a:List (Str×Addr)),(l.foldl (Gd env) a).lookup y=some c->a.lookup y=some c\/((y,NameKind.free)∈l/\c=(env.cells.lookup y).getD 0)
 |[],a,h=>.inl h
 | (n,k)::r,a,h=>by
  rw[Q7]at h;rcases Ox env r _ h with z|⟨z,e⟩
  ·unfold Gd at z;split at z
   ·rename_i hk;have hk':k=.free:=by simpa using hk
    rw[O4]at z;split at z
    ·rename_i hy;have hy':y=n:=by simpa using hy
     subst hy' hk';exact .inr ⟨D8,(X9 z).symm⟩
    ·exact .inl z
   ·exact .inl z
  ·exact .inr ⟨E1 _ z,e⟩
theorem QQ(env:Env){y:Str}:∀(l:List (Str×NameKind))(a:List (Str×Addr)),(∃c,a.lookup y=some c)->∃c,(l.foldl (Gd env) a).lookup y=some c
 |[],_,h=>h
 | (n,k)::r,a,h=>by
  rw[Q7];refine QQ env r _ ?_;unfold Gd;split
  ·rw[O4];split
   ·exact⟨_,rfl⟩
   ·exact h
  ·exact h
theorem RW(env:Env){y:Str}:∀(l:List (Str×NameKind))(a:List (Str×Addr)),(y,NameKind.free)∈l->∃c,(l.foldl (Gd env) a).lookup y=some c
 |[],_,h=>by simp at h
 | (n,k)::r,a,h=>by
  rw[Q7];rcases D6.mp h with e|h
  ·cases e;refine QQ env r _ ⟨(env.cells.lookup y).getD 0,?_⟩;unfold Gd;simp only[beq_self_eq_true,A3b,O4]
  ·exact RW env r _ h
theorem ML{env:Env}{y:Str}:∀{names:List (Str×NameKind)},(∀z∈names,z.2≠.cell) ->
  ((names.map λ(n,k)=>if(k==NameKind.free && env.scope.kind==.function && env.kindOf n==some .cell)then(n,NameKind.cell)else(n,k)).lookup y=some .cell \/
   (names.map λ(n,k)=>if(k==NameKind.free && env.scope.kind==.function && env.kindOf n==some .cell)then(n,NameKind.cell)else(n,k)).lookup y=some .free)->(y,NameKind.free)∈names
 |[],_,h=>by simp at h
 | (n,k)::r,hc,h=>by
  have ih:=@ML env y r (λz hz=>hc z (E1 _ hz));have h':List.lookup y ((if(k==NameKind.free && env.scope.kind==.function && env.kindOf n==some .cell)=true then(n,NameKind.cell)else(n,k))::(r.map λ(n,k)=>if(k==NameKind.free && env.scope.kind==.function && env.kindOf n==some .cell)then(n,NameKind.cell)else(n,k)))=some .cell \/
   List.lookup y ((if(k==NameKind.free && env.scope.kind==.function && env.kindOf n==some .cell)=true then(n,NameKind.cell)else(n,k))::(r.map λ(n,k)=>if(k==NameKind.free && env.scope.kind==.function && env.kindOf n==some .cell)then(n,NameKind.cell)else(n,k)))=some .free:=h
  clear h;by_cases hb:(k==NameKind.free && env.scope.kind==.function && env.kindOf n==some .cell)=true
  ·rw[Z6 hb]at h';have hk:k=.free:=by
    simp only[Q1,A4h]at hb;exact hb.1.1
   simp only[O4]at h';cases hy:y==n with
   |true =>
    have:y=n:=by simpa using hy
    subst this hk;exact D8
   |false =>
    rw[hy]at h';exact E1 _ (ih h')
  ·rw[Z3 hb]at h';simp only[O4]at h';cases hy:y==n with
   |true =>
    rw[hy]at h';have:y=n:=by simpa using hy
    subst this;rcases h' with z|z
    ·exact absurd (X9 z) (hc (y,k) D8)
    ·cases X9 z;exact D8
   |false =>
    rw[hy]at h';exact E1 _ (ih h')
theorem Jy{env:Env}{y:Str}:∀{names:List (Str×NameKind)},names.lookup y=some .free ->
  ((names.map λ(n,k)=>if(k==NameKind.free && env.scope.kind==.function && env.kindOf n==some .cell)then(n,NameKind.cell)else(n,k)).lookup y=some .cell \/
   (names.map λ(n,k)=>if(k==NameKind.free && env.scope.kind==.function && env.kindOf n==some .cell)then(n,NameKind.cell)else(n,k)).lookup y=some .free)
 |[],h=>by simp at h
 | (n,k)::r,h=>by
  have ih:=@Jy env y r;show List.lookup y ((if(k==NameKind.free && env.scope.kind==.function && env.kindOf n==some .cell)=true then(n,NameKind.cell)else(n,k))::(r.map λ(n,k)=>if(k==NameKind.free && env.scope.kind==.function && env.kindOf n==some .cell)then(n,NameKind.cell)else(n,k)))=some .cell \/
   List.lookup y ((if(k==NameKind.free && env.scope.kind==.function && env.kindOf n==some .cell)=true then(n,NameKind.cell)else(n,k))::(r.map λ(n,k)=>if(k==NameKind.free && env.scope.kind==.function && env.kindOf n==some .cell)then(n,NameKind.cell)else(n,k)))=some .free
  rw[O4]at h;by_cases hb:(k==NameKind.free && env.scope.kind==.function && env.kindOf n==some .cell)=true
  ·rw[Z6 hb];simp only[O4];cases hy:y==n with
   |true=>exact .inl rfl
   |false=>rw[hy]at h;exact ih h
  ·rw[Z3 hb];simp only[O4];cases hy:y==n with
   |true=>rw[hy]at h;exact .inr h
   |false=>rw[hy]at h;exact ih h
section
variable{prog:Program}{w:World}{A:Around}{R:Result->Shared->Prop}{s:Shared}
abbrev Sh(ifs:List Expr)(env:Env):Sem Bool:=forIn ifs true λc r=>if r=true then do let ok <-isTrue c env (eval c env);pure (ForInStep.yield ok)else pure (ForInStep.yield r)
theorem QN{elt target iter:Expr}{ifs:List Expr}{scope:Scope}{pos:Pos}{it acc:Value}{env:Env}(I:Nat->Shared->Prop)
  (turn:∀n s,I n s->wpAny (model prog w) A (pyNext it) (λr s₁=>match r with
   |none=>R (.ok .next) s₁
   |some v=>wpAny (model prog w) A (letOwnedTupleGo target it v) (λ_ s₀=>wpAny (model prog w) A (assign target env v) (λ_ s₂ =>
     wpAny (model prog w) A (Sh ifs env) (λok s₃ =>
      if ok=true then wpAny (model prog w) A (eval elt env) (λx s₄ =>
       wpAny (model prog w) A (call (.builtin "list.append") [acc,x]) (λ_ s₅=>∃m,m<n/\I m s₅) (λ_ _=>False) s₄) (λ_ _=>False) s₃
      else ∃m,m<n/\I m s₃) (λ_ _=>False) s₂) (λ_ _=>False) s₀) (λ_ _=>False) s₁) (λ_ _=>False) s)
  (n:Nat) (h:I n s):codeAny (model prog w) A (.compLoop (.ListComp elt [⟨target,iter,ifs,0⟩] scope pos) 0 it acc env) R s:=by
 refine codeAny_loop rfl I (λn s hI=>?_) n h;show wpAny _ A ((compTurn (.ListComp elt [⟨target,iter,ifs,0⟩] scope pos) 0 it acc env).onRaise (λx=>do noteFrame x env;theTreesLotGoes x)) _ _ s;refine wpAny_noted ?_;rw[compTurn_list];refine Z0 (wpAny_standAt (Z0 (A0b (turn n s hI) (λr s₁ h₁=>?_) λ_ _ h'=>h'.elim)));cases r with
 |none=>exact X7 h₁
 |some v =>
  refine Z0 (A0b h₁ (λ_ s₀ h₀=>?_) λ_ _ h'=>h'.elim);refine Z0 (A0b h₀ (λ_ s₂ h₂=>Z0 (A0b h₂ (λok s₃ h₃=>?_) λ_ _ h'=>h'.elim)) λ_ _ h'=>h'.elim);cases ok with
  |false=>exact X7 ⟨rfl,h₃⟩
  |true =>
   exact Z0 (Z0 (A0b h₃ (λx s₄ h₄=>Z0 (A0b h₄ (λ_ s₅ h₅=>X7 (X7 ⟨rfl,h₅⟩)) λ_ _ h'=>h'.elim)) λ_ _ h'=>h'.elim))
end
def Ma(cs:List Nat)(σ:St):St:=cs.map λj=>(σ[j]?).getD none
def cxC(X:Cx)(scope:Scope)(N:List Str)(s:Shared)(H:Hp)(ex:List Addr):Cx :=
 {X with N:=N,s₀:=s,H₀:=H,env:=compEnvC scope (RX X.env scope.names) s.heap.objs.size X.env,outer:=X.stack,stack:=X.stack,ex:=ex,fn:=λ_=>false,pn:=[],xe:=λ_ _=>False}
def PTs(X:Cx)(ifs:List Expr)(t:TT):Prop :=
 ∀(pins:List (Addr×Obj))(s:Shared)(σ:St)(H:Hp)(Q:Bool->Hp->Prop),Inv X pins σ H s->t σ H Q->wpAny (model X.prog X.w) X.A (Sh ifs X.env) (TP X pins σ Q) X.xe s
def tYes:TT:=λ_ H Q=>Q true H
theorem Bp{X:Cx}:PTs X [] tYes:=λ_ _ _ H _ I h=>wpAny_tests_nil ⟨H,I,h⟩
theorem SK{X:Cx}{c:Expr}{t:TT}(h:PT X c t):PTs X [c] t:=λpins s σ H Q I q=>wpAny_tests_one (h pins s σ H Q I q)
structure Bk(X:Cx)(scope:Scope)(N:List Str)(k:Nat)(cs:List Nat):Prop where
 cell:∀y∈scope.names,y.2≠.cell
 kind:scope.kind=.function
 names:∀y∈scope.names,y.2=.local->scope.names.lookup y.1=some .local
 free:∀y∈scope.names,y.2=.free->X.env.scope.names.lookup y.1=some .cell\/X.env.scope.names.lookup y.1=some .free
 len:N.length=k+cs.length
 cap:∀j,j<cs.length->∃x,N[k+j]?=some x/\X.N[cs.getD j 0]?=some x/\scope.names.lookup x=some .free
def Gn(k:Nat)(cs:List Nat)(g:TG)(tc:TT)(te:TE)(J:It)(σ:St)(H1:Hp)(fin:List V->Hp->Prop):Prop :=
 ∃W:Nat->Nat->List V->Hp->Prop,(∃m,W 0 m [] H1)/\∀i m acc H,W i m acc H ->
  (J.stop i H/\fin acc H)\/(J.go i H/\∃Nx:List V->Hp->Prop,(∀acc' H',Nx acc' H'->∃m',m'<m/\W (i+1) m' acc' H')/\∀x H',J.yld i H x H'->g x (List.replicate k none++Ma cs σ) H' fun σ2 H2=>(∃ts:St,ts.length=k/\σ2=ts++Ma cs σ)/\acc.length<sizeLine /\
   tc σ2 H2 λb H3=>if b=true then te σ2 H3 λv H4=>Nx (acc++[v]) H4 else Nx acc H3)
def tComp(k:Nat)(cs:List Nat)(wi:TI)(g:TG)(tc:TT)(te:TE):TE:=fun σ H Q=>wi σ H λJ H1=>Gn k cs g tc te J σ H1 λacc H2=>∀p,H2 p=none->Q (.ref p) (upd H2 p (.lst acc))
section
variable{X:Cx}{tg iter elt:Expr}{ifs:List Expr}{scope:Scope}{pos:Pos}{wi:TI}{g:TG}{tc:TT}{te:TE}{N:List Str}{k:Nat}{cs:List Nat}
theorem Inv.block{pins:List (Addr×Obj)}{σ:St}{H:Hp}{s s':Shared}{ex:List Addr}(S:Bk X scope N k cs)(I:Inv X pins σ H s)
  (hex:∀b∈ex,Gm X pins H b/\∃o,s.heap.get? b=some o) (hos:s'.os=s.os) (hg:AllBare s'.gens) (hk:∀b o,s.heap.get? b=some o->s'.heap.get? b=some o) (hn:∃m,s'.heap.Ns s.heap.objs.size m) :
  Inv (cxC X scope N s H ex) [] (List.replicate k none++Ma cs σ) H s':=by
 have lk:∀{x c},(RX X.env scope.names).lookup x=some c->X.env.cells.lookup x=some c:=λ{x c} h=>by
  rcases Ox X.env _ _ h with z|⟨z,e⟩
  ·simp at z
  ·obtain⟨a,ha⟩:=I.ok.has x (S.free _ z rfl);rw[e,ha];rfl
 have nex:∀b,b∈ex->b≠s.heap.objs.size:=λb hb z=>by
  obtain⟨_,o,ho⟩:=hex b hb;exact absurd (E9 ho) (by rw[z];exact P1 _)
 refine⟨⟨I.ok.mod,S.kind,I.ok.glob,I.ok.blt,C8 _,λx y c h1 h2=>I.ok.inj x y c (lk h1) (lk h2),λx hx=>?_,λx c h _=>(nomatch h),I.ok.hd,I.ok.frames,.inl rfl,λb hb=>⟨nex b hb,λx c h=>?_⟩,I.bs,?_,λb o e hb=>?_,λb hb hf=>?_,I.stack,I.stkFree⟩,
  hos,hg,Un.kept hk,?_,λx c h=>?_,I.hok.fresh (C8 _),λx c h=>I.freeC x c (lk h),λp hp=>absurd (show p∈([]:List (Addr×Obj))from hp) B1,I.hok.kept hk,?_⟩
 ·exact RW X.env _ _ (ML S.cell hx)
 ·exact(hex b hb).1.2.2.2.2.1 x c (lk h)
 ·exact D4 I.ok.bsz I.sz
 ·rcases(hex b hb).1.2.2.2.1 with z|z
  ·exact I.ok.noex b o e z
  ·exact absurd (F5 (E9 e) (D4 I.ok.bsz z)) (P1 _)
 ·rcases D6.mp (I.stkSub b hf)with z|z
  ·exact(hex b hb).1.2.1 z
  ·exact(hex b hb).1.2.2.1 z
 ·obtain⟨m,hm⟩:=hn;obtain⟨mo,hmo,hlo⟩:=I.loc;refine⟨m,hm,λi x v h1 h2 h3=>?_⟩;have hi:k<=i:=by
   by_cases z:i<k
   ·rw[F6 (by simpa using z),U8,Z6 z]at h2;cases h2
   ·lia
  obtain⟨j,rfl⟩:∃j,i=k+j:=⟨i-k,by lia⟩
  rw[E3 B1,N6,N9]at h2;unfold Ma at h2;rw[B9]at h2;have hj:j<cs.length:=by
   by_cases z:j<cs.length
   ·exact z
   ·rw[L7 A1]at h2;cases h2
  obtain⟨x',e1,e2,e3⟩:=S.cap j hj;rw[show N[k+j]?=some x from h1]at e1;cases e1;rw[C6 hj]at h2;have h2':(σ[cs[j]]?).getD none=some v:=X9 h2;rw[D3,C6 hj]at e2;have h4:σ[cs[j]]?=some (some v):=by
   cases q:σ[cs[j]]? with
   |none=>rw[q]at h2';cases h2'
   |some w=>rw[q]at h2';rw[show w=some v from h2']
  have kO:=S.free (x,.free) (A0e e3) rfl;obtain⟨u,ru,l⟩:=hlo _ x v e2 h4 (.inr kO);refine⟨u,ru,?_⟩;rcases l with ⟨z,_⟩|⟨_,c,hc',z⟩
  ·have z':X.env.scope.names.lookup x=some .local:=z;rcases kO with q|q<;>· rw[z']at q;cases q
  ·obtain⟨c',h5⟩:=RW X.env _ [] (A0e e3);have h6:=lk h5;rw[hc']at h6;cases h6;obtain⟨o,ho,hd⟩:=z;exact .inr ⟨Jy e3,c,h5,o,hk _ _ ho,hd⟩
 ·obtain⟨v,o,ho,hd⟩:=I.cell x c (lk h);exact⟨v,o,hk _ _ ho,hd⟩
 ·show(List.replicate k none++Ma cs σ).length=N.length;rw[B8,N6,S.len];unfold Ma;rw[B6]
end
structure Ws(C:Cx->Prop)(P:Program)(w:World)(K:PySem.W.Frag)(tg:Expr)(J:It)(fp:List Addr)(it:Addr)(tn:Nat->Heap->Prop):Prop where
 obj:∀i h,tn i h->∀b∈fp,∃o,h.get? b=some o/\∀v,o.data≠.cell v
 keep:∀i h h',tn i h->(∀b∈fp,∀o,h.get? b=some o->h'.get? b=some o)->tn i h'
 item:∀(X:Cx),C X->X.prog=P->X.w=w->X.K=K->∀(i:Nat)(pins:List (Addr×Obj))(s:Shared)(σ:St)(H:Hp)(E:Value->Shared->Prop),Inv X pins σ H s->(∀b∈fp,Gm X pins H b)->tn i s.heap->J.go i H ->
  wpAny (model P w) X.A (pyNext (.ref it)) (λr s1=>∃u,r=some u/\wpAny (model P w) X.A (letOwnedTupleGo tg (.ref it) u) (λ_ s2=>∃x H',Inv X pins σ H' s2/\Be x u/\J.yld i H x H'/\tn (i+1) s2.heap/\∀b∈fp,H' b=none) E s1) E s
 done:∀(X:Cx),C X->X.prog=P->X.w=w->X.K=K->∀(i:Nat)(pins:List (Addr×Obj))(s:Shared)(σ:St)(H:Hp)(E:Value->Shared->Prop),Inv X pins σ H s->(∀b∈fp,Gm X pins H b)->tn i s.heap->J.stop i H ->
  wpAny (model P w) X.A (pyNext (.ref it)) (λr s1=>r=none/\Inv X pins σ H s1) E s
 self:∀(A:Around)(i:Nat)(s:Shared)(Q:Value->Shared->Prop)(E:Value->Shared->Prop),tn i s.heap->Q (.ref it) s->wpAny (model P w) A (pyIter (.ref it)) Q E s
theorem NU.q{P:Program}{w:World}{K:PySem.W.Frag}{tg:Expr}{J:It}{fp:List Addr}{it:Addr}{tn:Nat->Heap->Prop}(T:NU P w K tg J fp it tn):Ws (λX=>X.calm=true) P w K tg J fp it tn :=
 ⟨T.obj,T.keep,λX c p w k=>T.item X p w k c,λX c p w k=>T.done X p w k c,T.self⟩
section
variable{X:Cx}{tg iter elt:Expr}{ifs:List Expr}{scope:Scope}{pos:Pos}{wi:TI}{g:TG}{tc:TT}{te:TE}{N:List Str}{k:Nat}{cs:List Nat}{fin:List V->Hp->Prop}
theorem Ux{pins:List (Addr×Obj)}{σ:St}{H2:Hp}{sD s1:Shared}{it D:Addr}{fp:List Addr}{tn:Nat->Heap->Prop}{J:It}{n0:Nat}{RR:Result->Shared->Prop}{Cq:Cx->Prop}(hc:∀s H ex,Cq (cxC X scope N s H ex))(S:Bk X scope N k cs)
  (hg:∀s H ex,PG (cxC X scope N s H ex) tg g) (ht:∀s H ex,PTs (cxC X scope N s H ex) ifs tc) (he:∀s H ex,PE (cxC X scope N s H ex) elt te)
  (ID:Inv X pins σ H2 sD) (hD:sD.heap.get? D=some {cls:=.type "list",data:=.seq ([]:List Value).toArray n0}) (hD0:X.s₀.heap.objs.size<=D) (fD:Gm X pins H2 D) (nfp:D∉fp)
  (T:Ws Cq X.prog X.w X.K tg J fp it tn) (st:tn 0 sD.heap) (f2:∀b∈fp,Gm X pins H2 b) (hb:Gn k cs g tc te J σ H2 fin)
  (hos:s1.os=sD.os) (hgn:AllBare s1.gens) (hk:∀b o,sD.heap.get? b=some o->s1.heap.get? b=some o) (hn:∃m,s1.heap.Ns sD.heap.objs.size m)
  (hRR:∀(H':Hp)(acc:List V)(s4:Shared),fin acc H'->H' D=none->Inv X pins σ (upd H' D (.lst acc)) s4->(∃m,s4.heap.Ns sD.heap.objs.size m)->Gm X pins (upd H' D (.lst acc)) sD.heap.objs.size->RR (.ok .next) s4) :
  codeAny (model X.prog X.w) X.A (.compLoop (.ListComp elt [⟨tg,iter,ifs,0⟩] scope pos) 0 (.ref it) (.ref D) (compEnvC scope (RX X.env scope.names) sD.heap.objs.size X.env)) RR s1:=by
 obtain⟨W,⟨m0,w0⟩,turn⟩:=hb;have hobj:∀b,b∈D::fp->∃o,sD.heap.get? b=some o:=λb hb=>by
  rcases D6.mp hb with rfl|z
  ·exact⟨_,hD⟩
  ·obtain⟨o,e,_⟩:=T.obj _ _ st b z;exact⟨o,e⟩
 have hexx:∀b∈D::fp,Gm X pins H2 b/\∃o,sD.heap.get? b=some o:=λb hb=>⟨by
  rcases D6.mp hb with rfl|z
  ·exact fD
  ·exact f2 b z,hobj b hb⟩
 have neC:∀b,b∈D::fp->b≠sD.heap.objs.size:=λb hb z=>by
  obtain⟨o,e⟩:=hobj b hb;exact absurd (E9 e) (by rw[z];exact P1 _)
 have nfr:∀b,b∈D::fp->b∉frs X.stack:=λb hb hf=>by
  rcases D6.mp (ID.stkSub b hf)with z|z
  ·exact(hexx b hb).1.2.1 z
  ·exact(hexx b hb).1.2.2.1 z
 have I0:=ID.block S hexx hos hgn hk hn;have I0ok:=I0.ok;have cells:∀b,b∈D::fp->∀x c,(RX X.env scope.names).lookup x=some c->c≠b:=λb hb x c h=>(I0ok.exf b hb).2 x c h;have fpok:∀{H':Hp}{pl:List (Addr×Obj)},(∀b∈fp,H' b=none)->(∀p∈pl,p.1=D)->∀b∈fp,Gm (cxC X scope N sD H2 (D::fp)) pl H' b:=λhn hp b hb =>
  ⟨hn b hb,neC b (.tail _ hb),nfr b (.tail _ hb),.inl (.tail _ hb),cells b (.tail _ hb),λp hp' z=>nfp (by
   have:=hp p hp';rw[<-this,z];exact hb)⟩
 refine QN (λn s'=>∃(i:Nat)(acc:List V)(its:List Value)(nn:Nat)(H':Hp),Inv (cxC X scope N sD H2 (D::fp)) [] (List.replicate k none++Ma cs σ) H' s'/\tn i s'.heap/\(∀b∈fp,H' b=none)/\H' D=none/\acc.length<=sizeLine/\AN acc its /\
  s'.heap.get? D=some {cls:=.type "list",data:=.seq its.toArray nn}/\W i n acc H') ?_ m0
  ⟨0,[],[],n0,H2,I0,T.keep _ _ _ st (λb _ o e=>hk b o e),λb hb=>(f2 b hb).1,fD.1,J1 _,.nil,hk _ _ hD,w0⟩
 rintro n s3 ⟨i,acc,its,nn,H3,I3,st3,fr3,nD3,hl3,v3,e3,w3⟩;have I3p:Inv (cxC X scope N sD H2 (D::fp)) [(D,{cls:=.type "list",data:=.seq its.toArray nn})] (List.replicate k none++Ma cs σ) H3 s3:=I3.pins_of λp hp=>by
  rw[C7]at hp;subst hp;exact⟨e3,nD3,neC D (.head _),nfr D (.head _),λv z=>by cases z⟩
 have one:∀p∈[((D,{cls:=.type "list",data:=.seq its.toArray nn}):Addr×Obj)],p.1=D:=λp hp=>by
  rw[C7]at hp;subst hp;rfl
 rcases turn i n acc H3 w3 with ⟨stop,qf⟩|⟨go,Nx,hNx,step⟩
 ·refine thn (T.done (cxC X scope N sD H2 (D::fp)) (hc _ _ _) rfl rfl rfl i _ s3 _ H3 _ I3p (fpok fr3 one) st3 stop) λr s4 ⟨hr,I4⟩=>?_;subst hr;have IX:Inv X pins σ H3 s4:=ID.call' (ch:=D::fp) I4.os I4.base I4.hok I4.bare λb hb=>⟨(hexx b hb).1.2.2.2.1,(hexx b hb).1.2.1,(hexx b hb).1.2.2.2.2.1,(hexx b hb).1.2.2.2.2.2⟩
  have p4:=(I4.pin (D,{cls:=.type "list",data:=.seq its.toArray nn}) (by show _∈[]++[_];simp)).1;have IY:Inv X pins σ (upd H3 D (.lst acc)) s4:=by
   refine IX.track nD3 (P8 hD0) (P8 (D4 ID.ok.bsz hD0)) (Z7 fD.2.1) fD.2.2.2.2.1 fD.2.2.2.2.2 (λb hb z=>fD.2.2.1 (z▸hb)) ?_;exact⟨hl3,its,nn,v3,p4⟩
  refine hRR H3 acc s4 qf nD3 IY ?_ (ID.fpOk (C8 _) ?_)
  ·obtain⟨m,hm,_⟩:=I4.loc;exact⟨m,hm⟩
  ·rw[Ao (Z7 (neC D (.head _)))];exact I4.free
 ·refine thn (T.item (cxC X scope N sD H2 (D::fp)) (hc _ _ _) rfl rfl rfl i _ s3 _ H3 (λ_ _=>False) I3p (fpok fr3 one) st3 go) λr s4 ⟨u,hr,h4⟩=>?_;subst hr;refine thn h4 λ_ s5 ⟨x,H5,I5,r5,y5,st5,fr5⟩=>?_;have I5':=I5.pinned (fpok fr5 one) (T.obj _ _ st5);refine thn (hg sD H2 (D::fp) _ s5 _ H5 x u _ I5' r5 (step x H5 y5)) λ_ s6 ⟨σ6,H6,I6,⟨ts,tl,eσ⟩,hz6,q6⟩=>?_;refine thn (ht sD H2 (D::fp) _ s6 σ6 H6 _ I6 q6) λb s7 ⟨H7,I7,q7⟩=>?_;have weak:∀{pl:List (Addr×Obj)}{H':Hp}{s':Shared},Inv (cxC X scope N sD H2 (D::fp)) pl σ6 H' s'->Inv (cxC X scope N sD H2 (D::fp)) [] (List.replicate k none++Ma cs σ) H' s':=λ{pl H' s'} J=>by
   refine(J.weak (σ':=List.replicate k none++Ma cs σ) ?_ λj v e=>?_).pins_of λp hp=>absurd hp B1
   ·rw[eσ,B8,B8,N6,tl]
   ·by_cases z:j<k
    ·rw[F6 (by simpa using z),U8,Z6 z]at e;cases e
    ·rw[E3 (by rw[N6];lia),N6]at e;rw[eσ,E3 A1,tl];exact e
  have later:∀{pl:List (Addr×Obj)}{σ':St}{H':Hp}{s':Shared},Inv (cxC X scope N sD H2 (D::fp)) (pl++Lb fp s5.heap) σ' H' s'->tn (i+1) s'.heap/\∀b∈fp,H' b=none:=λ{pl σ' H' s'} J =>
   ⟨T.keep _ _ _ st5 λb hb o e=>(J.pin (b,o) (J3 _ (J3 _ (GR hb e)))).1,λb hb=>by
    obtain⟨o,e,_⟩:=T.obj _ _ st5 b hb;exact(J.pin (b,o) (J3 _ (J3 _ (GR hb e)))).2.1⟩
  cases b with
  |false =>
   have q7':Nx acc H7:=by simpa using q7
   obtain⟨m',hm,w7⟩:=hNx _ _ q7';rw[Z3 F1];have p7:=I7.pin (D,{cls:=.type "list",data:=.seq its.toArray nn}) (J3 _ (S3 _ (C7.mpr rfl)));exact⟨m',hm,i+1,acc,its,nn,H7,weak I7,(later I7).1,(later I7).2,p7.2.1,hl3,v3,p7.1,w7⟩
  |true =>
   rw[Z6 rfl]at q7;rw[Z6 rfl];refine thn (he sD H2 (D::fp) _ s7 σ6 H7 _ I7 q7) λy s8 ⟨v,H8,I8,r8,q8⟩=>?_;obtain⟨m',hm,w8⟩:=hNx _ _ q8;have p8:=I8.pin (D,{cls:=.type "list",data:=.seq its.toArray nn}) (J3 _ (S3 _ (C7.mpr rfl)));have hlen:=v3.length;refine A1f F.slot_list_append ⟨_,p8.1,rfl⟩ F.entry_list_append (F.args_list_append_2 _ _) (PySem.list_append D its.toArray nn y (by rw[E6];lia)) ⟨p8.1,?_⟩;have q:=PySem.IsL.update p8.1 (·.push y);have eq:its.toArray.push y=(its++[y]).toArray:=by simp
   dsimp only at q;rw[eq]at q;have I8':Inv (cxC X scope N sD H2 (D::fp)) ([]++Lb fp s5.heap) σ6 H8 s8:=I8.pins_of λp hp=>I8.pin p (J3 _ (J3 _ hp));have I9:=I8'.turned (t':=s8.toks) (it:=D) (h':=s8.heap.update D (Obj.mapSeq (·.push y))) (λb o hb e=>(V8 s8.heap (Obj.mapSeq (·.push y)) (Z7 hb)).trans e) p8.2.1 (neC D (.head _)) (.inl (.head _)) (cells D (.head _))
    (λp hp z=>nfp (by
     have:=(Od (fp:=fp) (h:=s5.heap) (p:=p) (by simpa[cxC] using hp)).1;rw[z]at this;exact this))
   refine⟨m',hm,i+1,acc++[v],its++[y],_,H8,weak I9,(later I9).1,(later I9).2,p8.2.1,?_,v3.append (.cons r8 .nil),q,w8⟩;rw[B8,M5];lia
theorem Nw{pins:List (Addr×Obj)}{σ:St}{H2:Hp}{s2:Shared}{it:Addr}{fp:List Addr}{tn:Nat->Heap->Prop}{J:It}{RR:Value->Addr->Result->Shared->Prop}{E:Value->Shared->Prop}{Cq:Cx->Prop}(hc:∀s H ex,Cq (cxC X scope N s H ex))(S:Bk X scope N k cs)
  (hg:∀s H ex,PG (cxC X scope N s H ex) tg g) (ht:∀s H ex,PTs (cxC X scope N s H ex) ifs tc) (he:∀s H ex,PE (cxC X scope N s H ex) elt te)
  (I2:Inv X pins σ H2 s2) (T:Ws Cq X.prog X.w X.K tg J fp it tn) (st:tn 0 s2.heap) (f2:∀b∈fp,Gm X pins H2 b) (hb:Gn k cs g tc te J σ H2 fin)
  (hRR:∀(D C:Addr)(H':Hp)(acc:List V)(s4:Shared),fin acc H'->H' D=none->Inv X pins σ (upd H' D (.lst acc)) s4->(∃m,s4.heap.Ns C m)->Gm X pins (upd H' D (.lst acc)) C->RR (.ref D) C (.ok .next) s4) :
  wpAny (model X.prog X.w) X.A (newList []) (λacc s₃=>wpAny (model X.prog X.w) X.A (newFunctionEnv scope X.env.globals (RX X.env scope.names) [] X.env.qual none .none (some X.env)) (λcenv s₄ =>
   codeAny (model X.prog X.w) X.A (.compStart (.ListComp elt [⟨tg,iter,ifs,0⟩] scope pos) 0 (.ref it) acc {cenv with scope:=relabel scope X.env}) (RR acc cenv.locals) s₄) E s₃) E s2:=by
 refine wpAny_newObj_type (wpAny_newFunctionEnv S.cell (by intro y hy;simp at hy) (λh₁ hns₁ hsb₁=>?_) S.kind);dsimp only at hns₁ hsb₁⊢;have keepD:∀b o,s2.heap.get? b=some o->(s2.heap.push {cls:=.type "list",dict:=none,data:=.seq ([]:List Value).toArray}).get? b=some o:=λb o e=>D0 _ e;have ID:Inv X pins σ H2 {s2 with heap:=s2.heap.push {cls:=.type "list",dict:=none,data:=.seq ([]:List Value).toArray} }:=I2.kept (t':=s2.toks) keepD;have hD:(s2.heap.push {cls:=.type "list",dict:=none,data:=.seq ([]:List Value).toArray}).get? s2.heap.objs.size=some {cls:=.type "list",data:=.seq ([]:List Value).toArray}:=F3 _ rfl;have nfp:s2.heap.objs.size∉fp:=λz=>by
  obtain⟨o,e,_⟩:=T.obj _ _ st _ z;exact absurd (E9 e) (P1 _)
 have stD:tn 0 (s2.heap.push {cls:=.type "list",dict:=none,data:=.seq ([]:List Value).toArray}):=T.keep _ _ _ st λb _ o e=>keepD b o e;have hk:∀b o,(s2.heap.push {cls:=.type "list",dict:=none,data:=.seq ([]:List Value).toArray}).get? b=some o->h₁.get? b=some o:=λb o e=>hsb₁.extBut b o (F9 (E9 e)) (D0 _ e);have loop:∀s₃:Shared,s₃={s2 with heap:=h₁,toks:=s2.toks+([]:List (Str×Value)).length} ->
   codeAny (model X.prog X.w) X.A (.compLoop (.ListComp elt [⟨tg,iter,ifs,0⟩] scope pos) 0 (.ref it) (.ref s2.heap.objs.size) (compEnvC scope (RX X.env scope.names) (s2.heap.push {cls:=.type "list",dict:=none,data:=.seq ([]:List Value).toArray}).objs.size X.env))
    (RR (.ref s2.heap.objs.size) (s2.heap.push {cls:=.type "list",dict:=none,data:=.seq ([]:List Value).toArray}).objs.size) s₃:=by
  rintro s₃ rfl;exact Ux (sD:={s2 with heap:=s2.heap.push {cls:=.type "list",dict:=none,data:=.seq ([]:List Value).toArray} }) hc S hg ht he ID hD I2.sz (I2.fpOk (C8 _) I2.fresh) nfp T stD f2 hb rfl I2.bare hk ⟨_,hns₁⟩ λH' acc s4=>hRR _ _ H' acc s4
 exact codeAny_compStart_list (loop _ rfl) (T.self _ 0 _ _ _ (T.keep _ _ _ stD λb _ o e=>hk b o e) (loop _ rfl))
theorem BL(hc:X.calm=true)(S:Bk X scope N k cs)(hi:PI X tg iter wi)(hg:∀s H ex,PG (cxC X scope N s H ex) tg g)(ht:∀s H ex,PTs (cxC X scope N s H ex) ifs tc)(he:∀s H ex,PE (cxC X scope N s H ex) elt te)
  (hs:∀x,foldedSetIterable iter X.env x=pure x:=by intro _;rfl):PE X (.ListComp elt [⟨tg,iter,ifs,0⟩] scope pos) (tComp k cs wi g tc te):=by
 intro pins s σ H Q I h;rw[eval_ListComp];refine wpAny_comprehension_free (use:=none) rfl hs (Ny λy hy hf=>I.ok.has _ (S.free y hy hf)) S.kind S.names (thn (hi pins s σ H _ I h) λv s1 h1=>thn h1 λitv s2 h2=>?_);obtain⟨it,fp,tn,J,H2,rfl,I2,T,st2,f2,hb⟩:=h2;refine Nw (RR:=λacc C=>compPost (model X.prog X.w) X.A X.xe none (EP X pins σ Q) acc C) (Cq:=λX=>X.calm=true) (λ_ _ _=>hc) S hg ht he I2 T.q st2 f2 hb λD C H' acc s4 qf nD J4 hn fC=>?_;obtain⟨m,hm⟩:=hn;refine⟨m,hm,λh' sb=>⟨.ref D,upd H' D (.lst acc),?_,rfl,qf D nD⟩⟩;exact J4.turned (t':=s4.toks) (it:=C) (λb o hb e=>(sb.2 b hb).trans e) fC.1 fC.2.1 fC.2.2.2.1 fC.2.2.2.2.1 fC.2.2.2.2.2
def UN(i k:Nat)(cs:List Nat)(wi:TI)(g:TG)(tc:TT)(te:TE):TS:=λD σ H=>wi σ H λJ H1=>Gn k cs g tc te J σ H1 λacc H2=>∀p,H2 p=none->D.nx (σ.set i (some (.ref p))) (upd H2 p (.lst acc))
theorem Do{i:Nat}{y:Str}{py spos:Pos}(hc:X.calm=true)(hN:X.N.Nodup)(hi':X.N[i]?=some y)(hy:X.env.scope.names.lookup y=some .local)(S:Bk X scope N k cs)(hi:PI X tg iter wi)
  (hg:∀s H ex,PG (cxC X scope N s H ex) tg g) (ht:∀s H ex,PTs (cxC X scope N s H ex) ifs tc) (he:∀s H ex,PE (cxC X scope N s H ex) elt te)
  (hsw:swapsWith (.ListComp elt [⟨tg,iter,ifs,0⟩] scope pos) (some (.Name y py)) spos.line X.env=pure true:=by rfl) (hs:∀x,foldedSetIterable iter X.env x=pure x:=by intro _;rfl) :
  PS X (.Assign [.Name y py] (.ListComp elt [⟨tg,iter,ifs,0⟩] scope pos) spos) (UN i k cs wi g tc te):=by
 intro pins s σ H D I h;rw[exec_Assign_Name_used _ _ _ _ hsw];refine Z0 (wpAny_standAt (Z0 ?_));show wpAny _ X.A (do let _ <-comprehension (.ListComp elt [⟨tg,iter,ifs,0⟩] scope pos) scope X.env _ (newList []) false (eval iter X.env) (some (assign (.Name y py) X.env))) _ _ s;refine Z0 (A0b (wpAny_comprehension_free (use:=some (assign (.Name y py) X.env)) (Q:=λ_ s'=>SP X pins D .next s') rfl hs (Ny λy hy hf=>I.ok.has _ (S.free y hy hf)) S.kind S.names
  (thn (hi pins s σ H _ I h) λv s1 h1=>thn h1 λitv s2 h2=>?_)) (λ_ s' hq=>X7 (X7 hq)) λ_ _ e=>e)
 obtain⟨it,fp,tn,J,H2,rfl,I2,T,st2,f2,hb⟩:=h2;refine Nw (RR:=λacc C=>compPost (model X.prog X.w) X.A X.xe (some (assign (.Name y py) X.env)) (λ_ s'=>SP X pins D .next s') acc C) (Cq:=λX=>X.calm=true) (λ_ _ _=>hc) S hg ht he I2 T.q st2 f2 hb λL C H' acc s4 qf nD J4 hn fC=>?_;obtain⟨m,hm⟩:=hn;show wpAny _ X.A (assign (.Name y py) X.env (.ref L)) _ _ _;refine wpAny_assign_Name (Oa J4 hN hi' (.inl hy) (v:=.ref L) rfl (λs5 J5 hsb=>?_) (.inr hy));obtain⟨a,sb,ha⟩:=hsb;have nCa:C≠a:=by
  rcases ha with z|z
  ·rw[z];exact fC.2.1
  ·exact λq=>fC.2.2.2.2.1 y a z q.symm
 refine⟨m,hm.sameBut sb nCa,λh' sb'=>⟨σ.set i (some (.ref L)),upd H' L (.lst acc),?_,qf L nD⟩⟩;exact J5.turned (t':=s5.toks) (it:=C) (λb o hb e=>(sb'.2 b hb).trans e) fC.1 fC.2.1 fC.2.2.2.1 fC.2.2.2.2.1 fC.2.2.2.2.2
end
section
variable{K:PySem.W.Frag}{k:Nat}{cs:List Nat}{g:TG}{tc:TT}{te:TE}{σ:St}{H:Hp}{fin:List V->Hp->Prop}
abbrev Bt(k:Nat)(cs:List Nat)(g:TG)(tc:TT)(te:TE)(σ:St)(x:V)(acc:List V)(H:Hp)(Nx:List V->Hp->Prop):Prop :=
 g x (List.replicate k none++Ma cs σ) H fun σ2 H2=>(∃ts:St,ts.length=k/\σ2=ts++Ma cs σ)/\acc.length<sizeLine/\tc σ2 H2 λb H3=>if b=true then te σ2 H3 λv H4=>Nx (acc++[v]) H4 else Nx acc H3
theorem BP{a:Addr}{xs:List V}(Pv:Nat->List V->Hp->Prop)(h0:Pv 0 [] H)(hl:∀i acc H,i<=xs.length->Pv i acc H->SqL K H a xs)
  (hs:∀i x acc H,xs[i]?=some x->Pv i acc H->Bt k cs g tc te σ x acc H (Pv (i+1))) (hd:∀acc H,Pv xs.length acc H->fin acc H):Gn k cs g tc te (Itl K a) σ H fin:=by
 refine⟨λi m acc H=>m=xs.length-i/\i<=xs.length/\Pv i acc H,⟨xs.length,by simp,J1 _,h0⟩,?_⟩;rintro i m acc H ⟨rfl,hi,p⟩;have q:=hl i acc H hi p;by_cases hlt:i<xs.length
 ·refine .inr ⟨⟨xs,xs[i],q,by simp[hlt]⟩,Pv (i+1),λacc' H' p'=>⟨xs.length-(i+1),by lia,rfl,hlt,p'⟩,λx H' y=>?_⟩;obtain⟨e,y⟩:=y;subst e;exact hs i x acc _ (y xs q) p
 ·have e:i=xs.length:=by lia
  subst e;exact .inl ⟨⟨xs,q,C8 _⟩,hd acc H p⟩
theorem Mp{a:Addr}{xs:List V}(Pv:Nat->List V->Hp->Prop)(h0:Pv 0 [] H)(hl:∀i acc H,i<=xs.length->Pv i acc H->SqT K H a xs)
  (hs:∀i x acc H,xs[i]?=some x->Pv i acc H->Bt k cs g tc te σ x acc H (Pv (i+1))) (hd:∀acc H,Pv xs.length acc H->fin acc H):Gn k cs g tc te (Itt K a) σ H fin:=by
 refine⟨λi m acc H=>m=xs.length-i/\i<=xs.length/\Pv i acc H,⟨xs.length,by simp,J1 _,h0⟩,?_⟩;rintro i m acc H ⟨rfl,hi,p⟩;have q:=hl i acc H hi p;by_cases hlt:i<xs.length
 ·refine .inr ⟨⟨xs,xs[i],q,by simp[hlt]⟩,Pv (i+1),λacc' H' p'=>⟨xs.length-(i+1),by lia,rfl,hlt,p'⟩,λx H' y=>?_⟩;obtain⟨e,y⟩:=y;subst e;exact hs i x acc _ (y xs q) p
 ·have e:i=xs.length:=by lia
  subst e;exact .inl ⟨⟨xs,q,C8 _⟩,hd acc H p⟩
theorem Gj{lo:Int}{n:Nat}(Pv:Nat->List V->Hp->Prop)(h0:Pv 0 [] H)(hs:∀i acc H,i<n->Pv i acc H->Bt k cs g tc te σ (.int (lo+i)) acc H (Pv (i+1)))(hd:∀acc H,Pv n acc H->fin acc H):Gn k cs g tc te (Itr lo n) σ H fin:=by
 refine⟨λi m acc H=>m=n-i/\i<=n/\Pv i acc H,⟨n,by simp,J1 _,h0⟩,?_⟩;rintro i m acc H ⟨rfl,hi,p⟩;by_cases hlt:i<n
 ·refine .inr ⟨hlt,Pv (i+1),λacc' H' p'=>⟨n-(i+1),by lia,rfl,hlt,p'⟩,λx H' y=>?_⟩;obtain⟨e,y⟩:=y;subst e y;exact hs i acc _ hlt p
 ·have e:i=n:=by lia
  subst e;exact .inl ⟨C8 _,hd acc H p⟩
end
section
variable{prog:Program}{w:World}{A:Around}{E:Value->Shared->Prop}{s:Shared}
theorem JF{I t:Addr}{k:Nat}{vs:Array Value}{v:Value}{Q:Value->Shared->Prop}(hI:s.heap.IsTupleIter I t k)(hV:s.heap.IsTuple t vs)(hv:vs[k]?=some v)
  (q:∀g,g.IsTupleIter I t (k+1)->Heap.SameBut I s.heap g->Q v {s with heap:=g}):wpAny (model prog w) A (Builtin.SmallTypes.nextOf (.ref I)) Q E s:=by
 obtain⟨oI,eI,cI,dI⟩:=id hI;obtain⟨oV,eV,_,nV,dV⟩:=hV;unfold Builtin.SmallTypes.nextOf;refine Z0 (wpAny_callSpecial?_slot (name:=Str.ofString "__next__") hI.typeIs A1g (A2h A1g hI.typeIs F.entry_tuple_iterator_next ?_ (F.args_tuple_iterator_next_1 _)));show wpAny _ _ (field (.ref I) 0 >>= _) _ _ s;refine Z0 (A0h eI dI (x:=.ref t) rfl ?_);show wpAny _ _ (if(Value.ref t==Value.none)=true then _ else _) _ _ s;rw[Z3 (λz:(Value.ref t==Value.none)=true=>F1 z)];show wpAny _ _ (field (.ref I) 1 >>= _) _ _ s;refine Z0 (A0h eI dI (x:=.int k 0) rfl ?_);show wpAny _ _ (seqItems? (.ref t) >>= _) _ _ s;refine Z0 (A1b eV dV ?_);simp only[L8,hv];refine Z0 (wpAny_setField eI dI B1 (X7 ⟨v,rfl,X7 (q _ ?_ (Heap.SameBut.update ..))⟩));exact⟨_,Heap.get?_update_self _ eI (Obj.isFreed_of_fields (Obj.data_mapFields dI _)),(Obj.cls_mapFields ..).trans cI,by rw[Obj.data_mapFields dI];simp[rawInt]⟩
theorem Ll{I t:Addr}{k:Nat}{vs:Array Value}{Q:Value->Shared->Prop}(hA:A.handled=none)(hI:s.heap.IsTupleIter I t k)(hV:s.heap.IsTuple t vs)(hv:vs[k]?=none)
  (q:∀g e,Heap.ExtBut I s.heap g->(∃o,g.get? e=some o/\o.cls=.type "StopIteration")->E (.ref e) {s with heap:=g}):wpAny (model prog w) A (Builtin.SmallTypes.nextOf (.ref I)) Q E s:=by
 obtain⟨oI,eI,cI,dI⟩:=id hI;obtain⟨oV,eV,_,nV,dV⟩:=hV;unfold Builtin.SmallTypes.nextOf;refine Z0 (wpAny_callSpecial?_slot (name:=Str.ofString "__next__") hI.typeIs A1g (A2h A1g hI.typeIs F.entry_tuple_iterator_next ?_ (F.args_tuple_iterator_next_1 _)));show wpAny _ _ (field (.ref I) 0 >>= _) _ _ s;refine Z0 (A0h eI dI (x:=.ref t) rfl ?_);show wpAny _ _ (if(Value.ref t==Value.none)=true then _ else _) _ _ s;rw[Z3 (λz:(Value.ref t==Value.none)=true=>F1 z)];show wpAny _ _ (field (.ref I) 1 >>= _) _ _ s;refine Z0 (A0h eI dI (x:=.int k 0) rfl ?_);show wpAny _ _ (seqItems? (.ref t) >>= _) _ _ s;refine Z0 (A1b eV dV ?_);simp only[L8,hv];refine Z0 (A2e (Z0 (wpAny_setField eI dI B1 ?_)));show wpAny _ _ (newExc (.type "StopIteration") [] >>= _) _ _ _;refine Z0 ?_;simp only[newExc,newTuple];refine Z0 (wpAny_newObj_type ?_ (by size_fits));refine Z0 (m:=firstArgMember _ _) (wpAny_of_eq (a:=Value.none) (by first|rfl|(simp only[firstArgMember];rfl)) (wpAny_newObj_type ?_ (by size_fits)));simp only[raiseNew];refine Z0 (wpAny_handled ?_)
 first|rw[show A.in1.handled=none from hA]|rw[hA]
 refine Z0 (X7 (wpAny_throw (q _ _ (((Heap.SameBut.update ..).extBut.push _).push _) ⟨_,F3 _ rfl,rfl⟩)))
def Cn:Bool->Heap->Addr->Addr->Nat->Prop
 |true,h,I,l,k=>h.IsTupleIter I l k
 |false,h,I,l,k=>h.IsListIter I l k
def Du:Bool->Heap->Addr->Array Value->Prop
 |true,h,l,vs=>h.IsTuple l vs
 |false,h,l,vs=>h.IsList l vs
def SqX(K:PySem.W.Frag):Bool->Hp->Addr->List V->Prop
 |true,H,a,xs=>SqT K H a xs
 |false,H,a,xs=>SqL K H a xs
theorem Cn.move{b:Bool}{h g:Heap}{I l:Addr}{k:Nat}(x:Cn b h I l k)(e:∀o,h.get? I=some o->g.get? I=some o):Cn b g I l k:=by
 cases b with
 |true=>obtain⟨o,ho,r⟩:=x;exact⟨o,e _ ho,r⟩
 |false=>obtain⟨o,ho,r⟩:=x;exact⟨o,e _ ho,r⟩
theorem Cn.there{b:Bool}{h:Heap}{I l:Addr}{k:Nat}(x:Cn b h I l k):∃o,h.get? I=some o/\∀v,o.data≠.cell v:=by
 cases b with
 |true=>obtain⟨o,ho,_,d⟩:=x;exact⟨o,ho,λv z=>by rw[d]at z;cases z⟩
 |false=>obtain⟨o,ho,_,d⟩:=x;exact⟨o,ho,λv z=>by rw[d]at z;cases z⟩
theorem Du.move{b:Bool}{h g:Heap}{l:Addr}{vs:Array Value}(x:Du b h l vs)(e:∀o,h.get? l=some o->g.get? l=some o):Du b g l vs:=by
 cases b with
 |true=>obtain⟨o,ho,r⟩:=x;exact⟨o,e _ ho,r⟩
 |false=>obtain⟨o,ho,r⟩:=x;exact⟨o,e _ ho,r⟩
theorem Di{b:Bool}{I l:Addr}{k:Nat}{vs:Array Value}{v:Value}{Q:Value->Shared->Prop}(hI:Cn b s.heap I l k)(hV:Du b s.heap l vs)(hv:vs[k]?=some v)
  (q:∀g,Cn b g I l (k+1)->Heap.SameBut I s.heap g->Q v {s with heap:=g}):wpAny (model prog w) A (Builtin.SmallTypes.nextOf (.ref I)) Q E s:=by
 cases b with
 |true=>exact JF hI hV hv q
 |false=>exact wpAny_nextOf_list_item hI hV hv q
theorem Fp{b:Bool}{I l:Addr}{k:Nat}{vs:Array Value}{Q:Value->Shared->Prop}(hA:A.handled=none)(hI:Cn b s.heap I l k)(hV:Du b s.heap l vs)(hv:vs[k]?=none)
  (q:∀g e,Heap.ExtBut I s.heap g->(∃o,g.get? e=some o/\o.cls=.type "StopIteration")->E (.ref e) {s with heap:=g}):wpAny (model prog w) A (Builtin.SmallTypes.nextOf (.ref I)) Q E s:=by
 cases b with
 |true=>exact Ll hA hI hV hv q
 |false=>exact wpAny_nextOf_list_end hA hI hV hv q
theorem EW{b:Bool}{l:Addr}{vs:Array Value}{Q:Value->Shared->Prop}(hV:Du b s.heap l vs)
  (q:∀g,Cn b g s.heap.objs.size l 0->g.objs.size=s.heap.objs.size+1->(∀c o,s.heap.get? c=some o->g.get? c=some o)->Q (.ref s.heap.objs.size) {s with heap:=g}):wpAny (model prog w) A (pyIter (.ref l)) Q E s:=by
 cases b with
 |true=>exact wpAny_pyIter_tuple hV (q _ ⟨_,F3 _ rfl,rfl,rfl⟩ (P7 ..) λc o e=>D0 _ e)
 |false=>exact A3g hV (q _ ⟨_,F3 _ rfl,rfl,rfl⟩ (P7 ..) λc o e=>D0 _ e)
structure Ts(z U O i j l m:Addr):Prop where
 nd:[z,U,O,i,j].Nodup
 l:l∉[z,O,i,j]
 m:m∉[z,O,i,j]
theorem UF{b c:Bool}{z U O i j l m:Addr}{k:Nat}{xs ys:Array Value}{x y p q:Value}{Q:Value->Shared->Prop}(D:Ts z U O i j l m)(hZ:IsZip s.heap z U O .none)(hU:IsPair s.heap U (.ref i) (.ref j))(hO:IsPair s.heap O p q)
  (hi:Cn b s.heap i l k) (hj:Cn c s.heap j m k) (hl:Du b s.heap l xs) (hm:Du c s.heap m ys) (hx:xs[k]?=some x) (hy:ys[k]?=some y)
  (fin:∀g,IsZip g z U O (rawInt s.heap.objs.size)->IsPair g O x y->Cn b g i l (k+1)->Cn c g j m (k+1)->IsPair g s.heap.objs.size x y->g.objs.size=s.heap.objs.size+1 ->
   (∀a o,a∉[z,O,i,j]->s.heap.get? a=some o->g.get? a=some o)->Q (.ref s.heap.objs.size) {s with heap:=g}) :
  wpAny (model prog w) A (Builtin.«zip.__next__» ⟨[.ref z],[]⟩) (λr s'=>∃v,r=.done (.ret v)/\Q v s') E s:=by
 obtain⟨nd,nl,nm⟩:=D;simp only[M8,D6,F8,K8,A3e,P2,and_true,A3c]at nd nl nm;obtain⟨⟨zU,zO,zi,zj⟩,⟨UO,Ui,Uj⟩,⟨Oi,Oj⟩,ij⟩:=nd;obtain⟨lz,lO,li,lj⟩:=nl;obtain⟨mz,mO,mi,mj⟩:=nm;show wpAny _ _ (field (.ref z) 2 >>= _) _ _ _;refine Z0 (A0h hZ rfl (x:=.bool false) rfl ?_);show wpAny _ _ (field (.ref z) 3 >>= _) _ _ _;refine Z0 (A0h hZ rfl (x:=.ref U) rfl (Z0 (A1b hU rfl ?_)));show wpAny _ _ (Builtin.SmallTypes.ownedTupleIsFree (.ref z) >>= _) _ _ _;refine Z0 ?_;unfold Builtin.SmallTypes.ownedTupleIsFree;refine Z0 (A0h hZ rfl (x:=.none) rfl (X7 ?_));simp only[A3b];refine Z0 (A2e (Z0 (A0h hZ rfl (x:=.ref O) rfl (Z0 (A1d hZ B1 λh1 hZ1 s1=>?_)))));replace hZ1:IsZip h1 z U O .ellipsis:=hZ1;refine Z0 ?_;simp only[List.zipIdx_cons,List.zipIdx_nil,List.forIn_cons,List.forIn_nil];refine Z0 (Z0 (A5d ?_));show wpAny _ _ (Builtin.SmallTypes.nextOf (.ref i) >>= _) _ _ _;refine Z0 (Di (hi.move λo e=>s1.extBut _ _ (Z7 zi) e) (hl.move λo e=>s1.extBut _ _ lz e) hx λh2 hi2 s2=>X7 ?_);have hO2:IsPair h2 O p q:=s2.extBut _ _ Oi (s1.extBut _ _ (Z7 zO) hO);refine Z0 (A1b hO2 rfl (Z0 (A5b hO2 λh3 hO3 s3=>?_)));replace hO3:IsPair h3 O x q:=hO3;refine Z0 (wpAny_letGo (X7 (Z0 (Z0 (A5d ?_)))));show wpAny _ _ (Builtin.SmallTypes.nextOf (.ref j) >>= _) _ _ _;refine Z0 (Di (hj.move λo e=>s3.extBut _ _ (Z7 Oj) (s2.extBut _ _ (Z7 ij) (s1.extBut _ _ (Z7 zj) e))) (hm.move λo e=>s3.extBut _ _ mO (s2.extBut _ _ mi (s1.extBut _ _ mz e))) hy λh4 hj4 s4=>X7 ?_);have hO4:IsPair h4 O x q:=s4.extBut _ _ Oj hO3;refine Z0 (A1b hO4 rfl (Z0 (A5b hO4 λh5 hO5 s5=>?_)));replace hO5:IsPair h5 O x y:=hO5;refine Z0 (wpAny_letGo (X7 (X7 (Z0 (A1b hO5 rfl (Z0 (wpAny_newTuple ?_)))))));have sz:h5.objs.size=s.heap.objs.size:=by rw[s5.1,s4.1,s3.1,s2.1,s1.1]
 have hZ5:IsZip h5 z U O .ellipsis:=s5.extBut _ _ zO (s4.extBut _ _ zj (s3.extBut _ _ zO (s2.extBut _ _ zi hZ1)));have kp:∀a o,a∉[z,O,i,j]->s.heap.get? a=some o->h5.get? a=some o:=λa o ha e=>by
  simp only[D6,F8,K8,A3e]at ha;exact s5.extBut _ _ ha.2.1 (s4.extBut _ _ ha.2.2.2 (s3.extBut _ _ ha.2.1 (s2.extBut _ _ ha.2.2.1 (s1.extBut _ _ ha.1 e))))
 have hi5:Cn b h5 i l (k+1):=hi2.move λo e=>s5.extBut _ _ (Z7 Oi) (s4.extBut _ _ ij (s3.extBut _ _ (Z7 Oi) e));have hj5:Cn c h5 j m (k+1):=hj4.move λo e=>s5.extBut _ _ (Z7 Oj) e;have zlt:z<h5.objs.size:=E9 hZ5;show wpAny _ _ (Builtin.SmallTypes.ownedTupleHandOut (.ref z) (.ref h5.objs.size) >>= _) _ _ _;refine Z0 ?_;unfold Builtin.SmallTypes.ownedTupleHandOut;have hZ6:IsZip (h5.push {cls:=.type "tuple",data:=.seq #[x,y]}) z U O .ellipsis:=D0 _ hZ5;refine Z0 (A1d hZ6 B1 λh7 hZ7 s7=>?_);replace hZ7:IsZip h7 z U O (rawInt h5.objs.size):=hZ7;refine A1d hZ7 B1 λh8 hZ8 s8=>?_;replace hZ8:IsZip h8 z U O (rawInt h5.objs.size):=hZ8;have up:∀a o,a≠z->h5.get? a=some o->h8.get? a=some o:=λa o na e=>s8.extBut _ _ na (s7.extBut _ _ na (D0 _ e));have hT:IsPair h8 h5.objs.size x y:=s8.extBut _ _ (V3 zlt) (s7.extBut _ _ (V3 zlt) (F3 _ rfl));have sz8:h8.objs.size=h5.objs.size+1:=by rw[s8.1,s7.1,P7]
 rw[sz]at hZ8 hT sz8;refine X7 ⟨_,rfl,?_⟩;show Q (.ref h5.objs.size) _;rw[sz];refine fin h8 hZ8 (up _ _ (Z7 zO) hO5) (hi5.move λo e=>up _ o (Z7 zi) e) (hj5.move λo e=>up _ o (Z7 zj) e) hT sz8 λa o ha e=>up a o ?_ (kp a o ha e);simp only[D6,F8,K8,A3e]at ha;exact ha.1
theorem UE{b c:Bool}{z U O i j l m:Addr}{k:Nat}{xs ys:Array Value}{p q:Value}{Q:Fin->Shared->Prop}(hA:A.handled=none)(D:Ts z U O i j l m)(hZ:IsZip s.heap z U O .none)(hU:IsPair s.heap U (.ref i) (.ref j))(hO:IsPair s.heap O p q)
  (hi:Cn b s.heap i l k) (hj:Cn c s.heap j m k) (hl:Du b s.heap l xs) (hm:Du c s.heap m ys) (hend:xs[k]?=none\/ys[k]?=none)
  (fin:∀g e,(∀a o,a∉[z,O,i,j]->s.heap.get? a=some o->g.get? a=some o)->(∃o,g.get? e=some o/\o.cls=.type "StopIteration")->E (.ref e) {s with heap:=g}) :
  wpAny (model prog w) A (Builtin.«zip.__next__» ⟨[.ref z],[]⟩) Q E s:=by
 obtain⟨nd,nl,nm⟩:=D;simp only[M8,D6,F8,K8,A3e,P2,and_true,A3c]at nd nl nm;obtain⟨⟨zU,zO,zi,zj⟩,⟨UO,Ui,Uj⟩,⟨Oi,Oj⟩,ij⟩:=nd;obtain⟨lz,lO,li,lj⟩:=nl;obtain⟨mz,mO,mi,mj⟩:=nm;show wpAny _ _ (field (.ref z) 2 >>= _) _ _ _;refine Z0 (A0h hZ rfl (x:=.bool false) rfl ?_);show wpAny _ _ (field (.ref z) 3 >>= _) _ _ _;refine Z0 (A0h hZ rfl (x:=.ref U) rfl (Z0 (A1b hU rfl ?_)));show wpAny _ _ (Builtin.SmallTypes.ownedTupleIsFree (.ref z) >>= _) _ _ _;refine Z0 ?_;unfold Builtin.SmallTypes.ownedTupleIsFree;refine Z0 (A0h hZ rfl (x:=.none) rfl (X7 ?_));simp only[A3b];refine Z0 (A2e (Z0 (A0h hZ rfl (x:=.ref O) rfl (Z0 (A1d hZ B1 λh1 hZ1 s1=>?_)))));replace hZ1:IsZip h1 z U O .ellipsis:=hZ1;refine Z0 ?_;simp only[List.zipIdx_cons,List.zipIdx_nil,List.forIn_cons,List.forIn_nil];refine Z0 (Z0 (A5d ?_));show wpAny _ _ (Builtin.SmallTypes.nextOf (.ref i) >>= _) _ _ _;have out:∀{a:Addr},a∉[z,O,i,j]->a≠z/\a≠O/\a≠i/\a≠j:=λha=>by simpa only[D6,F8,K8,A3e] using ha
 cases hx:xs[k]? with
 |none =>
  refine Z0 (Fp hA (hi.move λo e=>s1.extBut _ _ (Z7 zi) e) (hl.move λo e=>s1.extBut _ _ lz e) hx λh2 e s2 he=>?_);obtain⟨oe,hoe,hce⟩:=he;have hZ2:IsZip h2 z U O .ellipsis:=s2 _ _ zi hZ1;have ez:e≠z:=λt=>by subst t;rw[hZ2]at hoe;cases hoe;simp at hce
  exact A1d hZ2 B1 λh3 _ s3=>fin h3 e (λa o ha t=>s3.extBut _ _ (out ha).1 (s2 _ _ (out ha).2.2.1 (s1.extBut _ _ (out ha).1 t))) ⟨oe,s3.extBut _ _ ez hoe,hce⟩
 |some x =>
  have hy:ys[k]?=none:=by
   rcases hend with t|t
   ·rw[hx]at t;cases t
   ·exact t
  refine Z0 (Di (hi.move λo e=>s1.extBut _ _ (Z7 zi) e) (hl.move λo e=>s1.extBut _ _ lz e) hx λh2 hi2 s2=>X7 ?_);have hO2:IsPair h2 O p q:=s2.extBut _ _ Oi (s1.extBut _ _ (Z7 zO) hO);refine Z0 (A1b hO2 rfl (Z0 (A5b hO2 λh3 hO3 s3=>?_)));refine Z0 (wpAny_letGo (X7 (Z0 (Z0 (A5d ?_)))));show wpAny _ _ (Builtin.SmallTypes.nextOf (.ref j) >>= _) _ _ _;refine Z0 (Fp hA (hj.move λo e=>s3.extBut _ _ (Z7 Oj) (s2.extBut _ _ (Z7 ij) (s1.extBut _ _ (Z7 zj) e))) (hm.move λo e=>s3.extBut _ _ mO (s2.extBut _ _ mi (s1.extBut _ _ mz e))) hy λh4 e s4 he=>?_);obtain⟨oe,hoe,hce⟩:=he;have hZ4:IsZip h4 z U O .ellipsis:=s4 _ _ zj (s3.extBut _ _ zO (s2.extBut _ _ zi hZ1));have ez:e≠z:=λt=>by subst t;rw[hZ4]at hoe;cases hoe;simp at hce
  exact A1d hZ4 B1 λh5 _ s5=>fin h5 e (λa o ha t=>s5.extBut _ _ (out ha).1 (s4 _ _ (out ha).2.2.2 (s3.extBut _ _ (out ha).2.1 (s2.extBut _ _ (out ha).2.2.1 (s1.extBut _ _ (out ha).1 t))))) ⟨oe,s5.extBut _ _ ez hoe,hce⟩
theorem UG(g2:Heap)(n:Nat)(e2:g2.objs.size=n+2)(i j:Value):∃g5,g5=((g2.push {cls:=.type "tuple",data:=.seq #[i,j]}).push {cls:=.type "tuple",data:=.seq #[.none,.none]}).push
   {cls:=.type "zip",data:=.fields #[.none,.bool false,.bool false,.ref g2.objs.size,.ref (g2.push {cls:=.type "tuple",data:=.seq #[i,j]}).objs.size]} /\
  IsZip g5 (n+4) (n+2) (n+3) .none/\IsPair g5 (n+2) i j/\IsPair g5 (n+3) .none .none/\(∀a o,g2.get? a=some o->g5.get? a=some o) /\
  ((g2.push {cls:=.type "tuple",data:=.seq #[i,j]}).push {cls:=.type "tuple",data:=.seq #[.none,.none]}).objs.size=n+4:=by
 have e3:(g2.push {cls:=.type "tuple",data:=.seq #[i,j]}).objs.size=n+3:=by rw[P7,e2]
 have e4:((g2.push {cls:=.type "tuple",data:=.seq #[i,j]}).push {cls:=.type "tuple",data:=.seq #[.none,.none]}).objs.size=n+4:=by rw[P7,e3]
 refine⟨_,rfl,?_,?_,?_,λa o e=>D0 _ (D0 _ (D0 _ e)),e4⟩
 ·have q:=F3 ((g2.push {cls:=.type "tuple",data:=.seq #[i,j]}).push {cls:=.type "tuple",data:=.seq #[.none,.none]}) (o:={cls:=.type "zip",data:=.fields #[.none,.bool false,.bool false,.ref g2.objs.size,.ref (g2.push {cls:=.type "tuple",data:=.seq #[i,j]}).objs.size]}) rfl;rw[e4]at q;show _=some _;rw[q,e2,e3]
 ·have q:=D0 {cls:=.type "zip",data:=.fields #[.none,.bool false,.bool false,.ref g2.objs.size,.ref (g2.push {cls:=.type "tuple",data:=.seq #[i,j]}).objs.size]} (D0 {cls:=.type "tuple",data:=.seq #[.none,.none]} (F3 g2 (o:={cls:=.type "tuple",data:=.seq #[i,j]}) rfl));rw[<-e2];exact q
 ·have q:=D0 {cls:=.type "zip",data:=.fields #[.none,.bool false,.bool false,.ref g2.objs.size,.ref (g2.push {cls:=.type "tuple",data:=.seq #[i,j]}).objs.size]} (F3 (g2.push {cls:=.type "tuple",data:=.seq #[i,j]}) (o:={cls:=.type "tuple",data:=.seq #[.none,.none]}) rfl);rw[<-e3];exact q
theorem TZ{b c:Bool}(l m:Addr)(xs ys:Array Value):Meets (Builtin.«zip.__new__» ⟨[.type "zip",.ref l,.ref m],[]⟩) (λ_ R s=>Du b s.heap l xs/\Du c s.heap m ys /\
   ∀g,IsZip g (s.heap.objs.size+4) (s.heap.objs.size+2) (s.heap.objs.size+3) .none->IsPair g (s.heap.objs.size+2) (.ref s.heap.objs.size) (.ref (s.heap.objs.size+1))->IsPair g (s.heap.objs.size+3) .none .none ->
    Cn b g s.heap.objs.size l 0->Cn c g (s.heap.objs.size+1) m 0->(∀a o,s.heap.get? a=some o->g.get? a=some o)->R (.ok (.ret (.ref (s.heap.objs.size+4)))) {s with heap:=g}) :=
 .of_wp λprog w A R s h=>by
  obtain⟨hp,g,d,tk,os⟩:=s;obtain⟨hl,hm,h⟩:=h;have hsub:=sub_zip
  wp_walk using EW hl
  intro g1 i1 z1 k1;have hm1:Du c (Shared.heap ⟨g1,g,d,tk,os⟩) m ys:=hm.move λo e=>k1 _ o e
  wp_walk using EW hm1
  intro g2 i2 z2 k2
  wp_walk
  refine⟨_,rfl,?_⟩;have e1:g1.objs.size=hp.objs.size+1:=z1;have e2:g2.objs.size=hp.objs.size+2:=by rw[show g2.objs.size=g1.objs.size+1 from z2,e1]
  obtain⟨g5,e5,a1,a2,a3,k5,s5⟩:=UG g2 hp.objs.size e2 (.ref hp.objs.size) (.ref g1.objs.size);have a2':IsPair g5 (hp.objs.size+2) (.ref hp.objs.size) (.ref (hp.objs.size+1)):=by rw[<-e1];exact a2
  have i2':Cn c g2 (hp.objs.size+1) m 0:=by rw[<-e1];exact i2
  have key:=h g5 a1 a2' a3 ((i1.move λo e=>k2 _ o e).move λo e=>k5 _ o e) (i2'.move λo e=>k5 _ o e) λa o e=>k5 _ _ (k2 _ _ (k1 _ _ e));dsimp only at key;rw[e5,<-s5]at key;exact key
theorem Inv.turnedL{X:Cx}{pins:List (Addr×Obj)}{σ:St}{H:Hp}{s:Shared}{g:Heap}{tk:Nat}{ch:List Addr}(I:Inv X pins σ H s)(k:∀b o,b∉ch->s.heap.get? b=some o->g.get? b=some o)(hch:∀b∈ch,Gm X pins H b):Inv X pins σ H {s with heap:=g,toks:=tk}:=by
 have nch:∀b u,H b=some u->b∉ch:=λb u e z=>by rw[(hch b z).1]at e;cases e
 refine I.step (g':=s.gens) (d':=s.drawn) (ch:=ch) (λb hb=>⟨(hch b hb).2.2.2.1,(hch b hb).2.1,(hch b hb).2.2.2.2.1,(hch b hb).2.2.2.2.2⟩) (λb o _ _ hc e _=>k b o hc e) (λb o _ _ hc e _=>⟨o.slots,k b o hc e⟩) (λ_ _ _ _ n=>n)
  (λb o hc e=>⟨o,k b o hc e⟩) (λ_ _ e=>e) (λ_ _ _ e=>e) (λb ps e=>⟨#[],by rw[e];simp⟩) (λm hm=>?_) (λb u e=>?_) I.bare
 ·obtain⟨o,es,ep,ho,r⟩:=hm;exact⟨o,es,ep,k _ o (λz=>(hch _ z).2.1 rfl) ho,r⟩
 ·refine(I.hok b u e).stay (λc v hc q=>k c v ?_ q) (λ_ q=>q) λ_ _ q=>q;rcases hc with z|z
  ·rw[z];exact nch b u e
  ·exact nch c _ z
theorem Inv.pair{X:Cx}{pins:List (Addr×Obj)}{σ:St}{H:Hp}{s:Shared}{g:Heap}{tk n:Nat}{ch:List Addr}{x y:V}{u v:Value}(I:Inv X pins σ H s)(k:∀b o,b∉ch->s.heap.get? b=some o->g.get? b=some o)(hch:∀b∈ch,Gm X pins H b)
  (rx:Be x u) (ry:Be y v) (e:g.get? s.heap.objs.size=some {cls:=.type "tuple",data:=.seq #[u,v] n}):H s.heap.objs.size=none/\Inv X pins σ (upd H s.heap.objs.size (.tup [x,y])) {s with heap:=g,toks:=tk}:=by
 have f:=I.fpOk (C8 _) I.fresh;refine⟨f.1,(I.turnedL (tk:=tk) k hch).track f.1 (P8 I.sz) (P8 (D4 I.ok.bsz I.sz)) (Z7 f.2.1) f.2.2.2.2.1 f.2.2.2.2.2 (λb hb z=>f.2.2.1 (z▸hb)) ?_⟩;exact⟨by show 2<=sizeLine;decide,[u,v],.cons rx (.cons ry .nil),_,e,rfl,n,rfl⟩
theorem Inv.sq{X:Cx}{pins:List (Addr×Obj)}{σ:St}{H:Hp}{s:Shared}{b:Bool}{a:Addr}{xs:List V}(I:Inv X pins σ H s)(h:SqX X.K b H a xs):∃its:List Value,AN xs its/\Du b s.heap a its.toArray:=by
 cases b with
 |true =>
  obtain⟨its,r,p,_⟩:=I.tuple h;exact⟨its,r,p⟩
 |false =>
  obtain⟨its,r,p,_⟩:=I.list h;exact⟨its,r,p.isList⟩
theorem Inv.sq_inj{X:Cx}{pins:List (Addr×Obj)}{σ:St}{H:Hp}{s:Shared}{b:Bool}{a:Addr}{xs ys:List V}(I:Inv X pins σ H s)(h:SqX X.K b H a xs)(h':SqX X.K b H a ys):xs=ys:=by
 cases b with
 |true=>exact I.tuple_inj h h'
 |false=>exact I.list_inj h h'
def Itz(K:PySem.W.Frag)(b c:Bool)(l m:Addr):It :=
 ⟨λi H=>∃xs ys x y,SqX K b H l xs/\SqX K c H m ys/\xs[i]?=some x/\ys[i]?=some y,
  λi H v H'=>∃(T:Addr)(x y:V),v=.ref T/\H T=none/\H'=upd H T (.tup [x,y])/\(∀xs,SqX K b H l xs->xs[i]?=some x)/\∀ys,SqX K c H m ys->ys[i]?=some y,
  λi H=>∃xs ys,SqX K b H l xs/\SqX K c H m ys/\(xs.length<=i\/ys.length<=i)⟩
def ZipTn(b c:Bool)(z U O i j l m:Addr)(k:Nat)(h:Heap):Prop:=IsZip h z U O .none/\IsPair h U (.ref i) (.ref j)/\(∃p q,IsPair h O p q)/\Cn b h i l k/\Cn c h j m k
theorem UL{P:Program}{w:World}{K:PySem.W.Frag}{es:List Expr}{n:Nat}{tpos:Pos}{b c:Bool}{z U O i j l m:Addr}(D:Ts z U O i j l m):NU P w K (.Tuple es n tpos) (Itz K b c l m) [z,U,O,i,j] z (ZipTn b c z U O i j l m) where
 mem:=by simp
 obj:=λk h st a ha=>by
  obtain⟨hZ,hU,⟨p,q,hO⟩,hi,hj⟩:=st;simp only[D6,F8,K8]at ha;rcases ha with rfl|rfl|rfl|rfl|rfl
  ·exact⟨_,hZ,λv t=>by cases t⟩
  ·exact⟨_,hU,λv t=>by cases t⟩
  ·exact⟨_,hO,λv t=>by cases t⟩
  ·exact hi.there
  ·exact hj.there
 keep:=λk h h' st kp=>by
  obtain⟨hZ,hU,⟨p,q,hO⟩,hi,hj⟩:=st;exact⟨kp z B1 _ hZ,kp U B1 _ hU,⟨p,q,kp O B1 _ hO⟩,hi.move λo e=>kp i B1 o e,hj.move λo e=>kp j B1 o e⟩
 item:=by
  intro X hP hw hK hc k pins s σ H E I hf st hg;subst hP hw hK;obtain⟨hZ,hU,⟨p,q,hO⟩,hi,hj⟩:=st;obtain⟨xs,ys,x,y,sx,sy,hx,hy⟩:=hg;obtain⟨us,ru,ou⟩:=I.sq sx;obtain⟨vs,rv,ov⟩:=I.sq sy;obtain⟨u,hu,rxu⟩:=ru.get hx;obtain⟨v,hv,ryv⟩:=rv.get hy;have hT:s.TypeIs (.ref z) "zip" := ⟨_,hZ,rfl⟩
  unfold pyNext;refine Z0 (A4a (wpAny_callSpecial?_slot (name:=Str.ofString "__next__") hT A4f (A2h A4f hT F.entry_zip_next (UF D hZ hU hO hi hj ou ov (by simpa using hu) (by simpa using hv) λg gZ gO gi gj gT gs gk=>X7 ⟨_,rfl,?_⟩) (F.args_zip_next_1 _))));refine wpAny_letOwnedTupleGo_zip (s:={s with heap:=g}) gZ λg2 gZ2 sb=>?_;obtain⟨nd,nl,nm⟩:=D;simp only[M8,D6,F8,K8,A3e,P2,and_true,A3c]at nd;obtain⟨⟨zU,zO,zi,zj⟩,⟨UO,Ui,Uj⟩,⟨Oi,Oj⟩,ij⟩:=nd;have zlt:z<s.heap.objs.size:=E9 hZ;have kk:∀a o,a∉[z,O,i,j]->s.heap.get? a=some o->g2.get? a=some o:=λa o ha e=>(sb.2 a (λt=>ha (by simp[t]))).trans (gk a o ha e);have fch:∀a∈[z,O,i,j],Gm X pins H a:=λa ha=>hf a (by
   simp only[D6,F8,K8]at ha⊢;rcases ha with t|t|t|t<;>simp[t])
  obtain⟨nT,J⟩:=I.pair (tk:=s.toks) kk fch rxu ryv ((sb.2 _ (V3 zlt)).trans gT);refine⟨.ref s.heap.objs.size,_,J,rfl,⟨_,x,y,rfl,nT,rfl,λxs' q'=>by rw[I.sq_inj q' sx];exact hx,λys' q'=>by rw[I.sq_inj q' sy];exact hy⟩,⟨gZ2,kk U _ ?_ hU,⟨u,v,(sb.2 O (Z7 zO)).trans gO⟩,gi.move λo e=>(sb.2 i (Z7 zi)).trans e,gj.move λo e=>(sb.2 j (Z7 zj)).trans e⟩,λa ha=>?_⟩
  ·simp only[D6,F8,K8,A3e];exact⟨Z7 zU,UO,Ui,Uj⟩
  ·have e:=(hf a ha).1;have lt:a≠s.heap.objs.size:=by
    simp only[D6,F8,K8]at ha;rcases ha with t|t|t|t|t<;>subst t
    ·exact F9 zlt
    ·exact F9 (E9 hU)
    ·exact F9 (E9 hO)
    ·obtain⟨o,e,_⟩:=hi.there;exact F9 (E9 e)
    ·obtain⟨o,e,_⟩:=hj.there;exact F9 (E9 e)
   rw[Ao lt];exact e
 done:=by
  intro X hP hw hK hc k pins s σ H E I hf st hg;subst hP hw hK;obtain⟨hZ,hU,⟨p,q,hO⟩,hi,hj⟩:=st;obtain⟨xs,ys,sx,sy,hend⟩:=hg;obtain⟨us,ru,ou⟩:=I.sq sx;obtain⟨vs,rv,ov⟩:=I.sq sy;have lu:=ru.length;have lv:=rv.length;have hT:s.TypeIs (.ref z) "zip" := ⟨_,hZ,rfl⟩
  have he:us.toArray[k]?=none\/vs.toArray[k]?=none:=hend.imp (λt=>by simp;lia) (λt=>by simp;lia);unfold pyNext;refine Z0 (A4a (wpAny_callSpecial?_slot (name:=Str.ofString "__next__") hT A4f (A2h A4f hT F.entry_zip_next (UE (I.ok.hd hc) D hZ hU hO hi hj ou ov he λg e gk ge=>?_) (F.args_zip_next_1 _))));obtain⟨o,ho,hcl⟩:=ge;refine Z0 (wpAny_isInstance (T:="StopIteration") (b:=true) ⟨o,ho,hcl⟩ isSubtype_stop (X7 ⟨rfl,?_⟩));exact I.turnedL (tk:=s.toks) gk λa ha=>hf a (by
   simp only[D6,F8,K8]at ha⊢;rcases ha with t|t|t|t<;>simp[t])
 self:=λ_ _ _ _ _ st h=>wpAny_pyIter_zip st.1 h
end
theorem Du.obj{b:Bool}{h:Heap}{l:Addr}{vs:Array Value}(x:Du b h l vs):∃o,h.get? l=some o:=by
 cases b with
 |true=>obtain⟨o,e,_⟩:=x;exact⟨o,e⟩
 |false=>obtain⟨o,e,_⟩:=x;exact⟨o,e⟩
theorem Us(g1:Heap)(n:Nat)(e1:g1.objs.size=n+1):∃g2,g2=g1.push {cls:=.type "enumerate",data:=.fields #[.none,.bool false,.ref n,rawInt 0,.none,.none]}/\IsEnum g2 (n+1) n 0 .none/\∀a o,g1.get? a=some o->g2.get? a=some o:=by
 refine⟨_,rfl,?_,λa o e=>D0 _ e⟩;have q:=F3 g1 (o:={cls:=.type "enumerate",data:=.fields #[.none,.bool false,.ref n,rawInt 0,.none,.none]}) rfl;rw[e1]at q;exact q
set_option maxHeartbeats 1000000 in
theorem RH{b:Bool}(l:Addr)(xs:Array Value):Meets (Builtin.«enumerate.__new__» ⟨[.type "enumerate",.ref l],[]⟩) (λ_ R s=>Du b s.heap l xs /\
   ∀g,IsEnum g (s.heap.objs.size+1) s.heap.objs.size 0 .none->Cn b g s.heap.objs.size l 0->(∀a o,s.heap.get? a=some o->g.get? a=some o)->R (.ok (.ret (.ref (s.heap.objs.size+1)))) {s with heap:=g}) :=
 .of_wp λprog w A R s h=>by
  obtain⟨hp,g,d,tk,os⟩:=s;obtain⟨hl,h⟩:=h;obtain⟨ol,eol⟩:=hl.obj;have hsub:=sub_enumerate;have fin:∀g1,Cn b g1 hp.objs.size l 0->g1.objs.size=hp.objs.size+1->(∀c o,hp.get? c=some o->g1.get? c=some o)->∃v,Fin.done (Flow.ret (.ref g1.objs.size))=Fin.done (Flow.ret v)/\R (.ok (.ret v)) ⟨g1.push {cls:=.type "enumerate",data:=.fields #[.none,.bool false,.ref hp.objs.size,rawInt 0,.none,.none]},g,d,tk,os⟩:=λg1 i1 z1 k1=>by
   obtain⟨g2,e2,a1,k2⟩:=Us g1 hp.objs.size z1;refine⟨_,rfl,?_⟩;have key:=h g2 a1 (i1.move λo e=>k2 _ o e) λa o e=>k2 _ _ (k1 _ _ e);dsimp only at key;rw[e2,<-z1]at key;exact key
  wp_walk using AutoSeq1.wpAny_loadPart' eol
  refine wpAny_stack_any λst=>X7 ?_;split
  ·rename_i c' _ _ _ _ _;cases(c'==Value.type "enumerate")
   ·wp_walk using AutoSeq1.wpAny_loadPart' eol,EW hl
    intro g1 i1 z1 k1
    wp_walk
    exact fin g1 i1 z1 k1
   ·wp_walk using AutoSeq1.wpAny_loadPart' eol,EW hl
    intro g1 i1 z1 k1
    wp_walk
    exact fin g1 i1 z1 k1
  ·wp_walk using AutoSeq1.wpAny_loadPart' eol,EW hl
   intro g1 i1 z1 k1
   wp_walk
   exact fin g1 i1 z1 k1
theorem Ou{prog:Program}{w:World}{A:Around}{b:Bool}(hA:A.handled=none)(I l:Addr)(ne:l≠I)(vs:Array Value) :
  Draws prog w A I [I,l] vs.size (λk v=>vs[k]?=some v) (λk h=>Cn b h I l k/\Du b h l vs) where
 live:=λ_ _ st=>let ⟨o,ho,_⟩:=st.1.there;⟨o,ho⟩
 frame:=λ_ _ _ st hk=>⟨st.1.move λo e=>hk I B1 o e,st.2.move λo e=>hk l B1 o e⟩
 item:=λk s Q E hi st hQ=>Di st.1 st.2 (v:=vs[k]) (by simp[hi]) λg hI sb=>hQ _ g s.toks (by simp[hi]) ⟨hI,st.2.move λo e=>(sb.2 l ne).trans e⟩ sb
 done:=λs Q E st hE=>Fp hA st.1 st.2 B1 hE
def Ite(K:PySem.W.Frag)(b:Bool)(l:Addr):It :=
 ⟨λi H=>∃xs x,SqX K b H l xs/\xs[i]?=some x,
  λi H v H'=>∃(T:Addr)(x:V),v=.ref T/\H T=none/\H'=upd H T (.tup [.int i,x])/\∀xs,SqX K b H l xs->xs[i]?=some x,
  λi H=>∃xs,SqX K b H l xs/\xs.length=i⟩
theorem Tv{P:Program}{w:World}{K:PySem.W.Frag}{es:List Expr}{n:Nat}{tpos:Pos}{b:Bool}{e I l:Addr}(eI:e≠I)(le:l≠e)(lI:l≠I) :
  NU P w K (.Tuple es n tpos) (Ite K b l) [e,I] e (λk h=>(∃old,IsEnum h e I k old)/\Cn b h I l k) where
 mem:=by simp
 obj:=λk h st a ha=>by
  obtain⟨⟨old,he⟩,hI⟩:=st;simp only[D6,F8,K8]at ha;rcases ha with rfl|rfl
  ·exact⟨_,he,λv t=>by cases t⟩
  ·exact hI.there
 keep:=λk h h' st kp=>by
  obtain⟨⟨old,he⟩,hI⟩:=st;exact⟨⟨old,kp e B1 _ he⟩,hI.move λo t=>kp I B1 o t⟩
 item:=by
  intro X hP hw hK hc k pins s σ H E J hf st hg;subst hP hw hK;obtain⟨⟨old,he⟩,hI⟩:=st;obtain⟨xs,x,sx,hx⟩:=hg;obtain⟨us,ru,ou⟩:=J.sq sx;have lu:=ru.length;have hk:k<xs.length:=(B7.mp hx).1;refine wpAny_pyNext_enum_itemD (Ou (b:=b) (A:=X.A.in1) (J.ok.hd hc) I l lI us.toArray) he ⟨hI,ou⟩ (by simp;lia) eI (by simp[eI,Z7 le]) λu g tk hu gE gS gT gs gk=>⟨_,rfl,?_⟩
  obtain⟨u',hu',rxu⟩:=ru.get hx;have eu:u=u':=by
   have:us[k]?=some u:=by simpa using hu
   rw[hu']at this;exact(X9 this).symm
  subst eu;refine wpAny_letOwnedTupleGo_enum (s:={s with heap:=g,toks:=tk+1}) gE λg2 gE2 sb=>?_;have elt:e<s.heap.objs.size:=E9 he;have kk:∀a o,a∉[e,I]->s.heap.get? a=some o->g2.get? a=some o:=λa o ha t=>(sb.2 a (λz=>ha (by simp[z]))).trans (gk a o (λz=>ha (by simp[z])) (λz=>ha (by simp[z])) t);obtain⟨nT,J2⟩:=J.pair (tk:=tk+1) (x:=.int k) (u:=.int k tk) kk hf ⟨tk,rfl⟩ rxu ((sb.2 _ (V3 elt)).trans gT);refine⟨.ref s.heap.objs.size,_,J2,rfl,⟨_,x,rfl,nT,rfl,λxs' q'=>by rw[J.sq_inj q' sx];exact hx⟩,⟨⟨_,by simpa using gE2⟩,gS.1.move λo t=>(sb.2 I (Z7 eI)).trans t⟩,λa ha=>?_⟩;have t:=(hf a ha).1;have lt:a≠s.heap.objs.size:=by
   simp only[D6,F8,K8]at ha;rcases ha with z|z<;>subst z
   ·exact F9 elt
   ·obtain⟨o,t,_⟩:=hI.there;exact F9 (E9 t)
  rw[Ao lt];exact t
 done:=by
  intro X hP hw hK hc k pins s σ H E J hf st hg;subst hP hw hK;obtain⟨⟨old,he⟩,hI⟩:=st;obtain⟨xs,sx,hend⟩:=hg;obtain⟨us,ru,ou⟩:=J.sq sx;have lu:=ru.length;have ek:k=us.toArray.size:=by simp;lia
  refine wpAny_pyNext_enum_endD (Ou (b:=b) (A:=X.A.in1) (J.ok.hd hc) I l lI us.toArray) he ⟨ek▸hI,ou⟩ λg gk=>⟨rfl,?_⟩
  exact J.turnedL (tk:=s.toks) (ch:=[e,I]) (λa o ha t=>gk a o (λz=>ha (by simp[z])) t) hf
 self:=λA i s Q E st h=>by
  obtain⟨⟨old,he⟩,_⟩:=st;exact wpAny_pyIter_enum he h
section
variable{X:Cx}{es:List Expr}{n:Nat}{tpos p pos:Pos}{e1 e2:Expr}{t:TA}
def iZip(b c:Bool)(K:PySem.W.Frag)(t:TA):TI:=fun σ H R=>t σ H λvs H1=>∃(l m:Addr),vs=[.ref l,.ref m]/\(∃xs,SqX K b H1 l xs)/\(∃ys,SqX K c H1 m ys)/\R (Itz K b c l m) H1
theorem Du.lt{b:Bool}{h:Heap}{l:Addr}{vs:Array Value}(x:Du b h l vs):l<h.objs.size:=by
 cases b with
 |true=>obtain⟨o,e,_⟩:=x;exact E9 e
 |false=>obtain⟨o,e,_⟩:=x;exact E9 e
theorem apart5(n l m:Nat)(hl:l<n)(hm:m<n):Ts (n+4) (n+2) (n+3) n (n+1) l m:=by
 refine⟨(show([n+4,n+2,n+3,n,n+1]:List Nat).Nodup from ?_),(show l∉([n+4,n+3,n,n+1]:List Nat)from ?_),(show m∉([n+4,n+3,n,n+1]:List Nat)from ?_)⟩
 ·simp only[M8,D6,F8,K8,A3e,P2,and_true,A3c];lia
 ·simp only[D6,F8,K8,A3e];lia
 ·simp only[D6,F8,K8,A3e];lia
theorem pi_zip(b c:Bool)(hg:Gl X "zip")(hm:X.mg "zip" = none)(ha:PA X [e1,e2] t)(hs:starEach [e1,e2] X.env=[(false,eval e1 X.env),(false,eval e2 X.env)]:=by rfl)(hs2:starEach [e2] X.env=[(false,eval e2 X.env)]:=by rfl) :
  PI X (.Tuple es n tpos) (.Call (.Name "zip" p) [e1,e2] [] pos) (iZip b c X.K t):=by
 intro pins s σ H R I h;refine Call_ (IB I hg hm PyProof.Rows.boot_zip (A0a (thn (ha pos pins s σ H _ I h) λus s1 ⟨vs,H1,I1,r1,q1⟩=>?_) (by rw[hs,hs2]) (by rw[hs2];rfl)));obtain⟨l,m,rfl,⟨xs,sx⟩,⟨ys,sy⟩,q⟩:=q1;obtain⟨u,v,rfl,ru,rv⟩:=r1.two;cases(show u=Value.ref l from ru);cases(show v=Value.ref m from rv);obtain⟨ul,_,ol⟩:=I1.sq sx;obtain⟨um,_,om⟩:=I1.sq sy;refine callType_new F.called_zip A3 (F.typeCall_zip_2 _ _) (F.newCall_zip_2 _ _) (λobj=>F.args_object_init_3 obj _ _) F.entry_zip_new (TZ (b:=b) (c:=c) l m ul.toArray um.toArray) ⟨ol,om,λg gZ gU gO gi gj gk=>?_⟩;refine⟨⟨_,gZ,rfl⟩,wpAny_pyIter_zip (s:={s1 with heap:=g}) gZ ?_⟩;have ll:=ol.lt;have lm:=om.lt;have hA:=apart5 s1.heap.objs.size l m ll lm;refine⟨s1.heap.objs.size+4,_,_,_,H1,rfl,I1.kept (t':=s1.toks) gk,UL hA,⟨gZ,gU,⟨_,_,gO⟩,gi,gj⟩,λa ha=>?_,q⟩;have le:s1.heap.objs.size<=a:=by
  simp only[D6,F8,K8]at ha;rcases ha with t|t|t|t|t<;>rw[t]<;>first|exact C8 _|exact R9 _ _
 exact I1.fpOk le (I1.hok.fresh le)
def iEnum(b:Bool)(K:PySem.W.Frag)(t:TA):TI:=fun σ H R=>t σ H λvs H1=>∃(l:Addr),vs=[.ref l]/\(∃xs,SqX K b H1 l xs)/\R (Ite K b l) H1
theorem SM(b:Bool)(hg:Gl X "enumerate")(hm:X.mg "enumerate" = none)(ha:PA X [e1] t)(hs:starEach [e1] X.env=[(false,eval e1 X.env)]:=by rfl) :
  PI X (.Tuple es n tpos) (.Call (.Name "enumerate" p) [e1] [] pos) (iEnum b X.K t):=by
 intro pins s σ H R I h;refine Call_ (IB I hg hm PyProof.Rows.boot_enumerate (A0a (thn (ha pos pins s σ H _ I h) λus s1 ⟨vs,H1,I1,r1,q1⟩=>?_) hs rfl));obtain⟨l,rfl,⟨xs,sx⟩,q⟩:=q1;obtain⟨u,rfl,ru⟩:=r1.one;cases(show u=Value.ref l from ru);obtain⟨ul,_,ol⟩:=I1.sq sx;refine callType_new F.called_enumerate A3 (F.typeCall_enumerate_1 _) (F.newCall_enumerate_1 _) (λobj=>F.args_object_init_2 obj _) F.entry_enumerate_new (RH (b:=b) l ul.toArray) ⟨ol,λg gE gi gk=>?_⟩;refine⟨⟨_,gE,rfl⟩,wpAny_pyIter_enum (s:={s1 with heap:=g}) gE ?_⟩;have ll:=ol.lt;refine⟨s1.heap.objs.size+1,_,_,_,H1,rfl,I1.kept (t':=s1.toks) gk,Tv (e:=s1.heap.objs.size+1) (I:=s1.heap.objs.size) (l:=l) (Nat.succ_ne_self _) (F9 (Nat.lt_succ_of_lt ll)) (F9 ll),⟨⟨_,gE⟩,gi⟩,λa ha=>?_,q⟩;have le:s1.heap.objs.size<=a:=by
  simp only[D6,F8,K8]at ha;rcases ha with t|t<;>rw[t]<;>first|exact C8 _|exact R9 _ _
 exact I1.fpOk le (I1.hok.fresh le)
end
section
variable{K:PySem.W.Frag}{b c:Bool}{l m:Addr}{xs ys:List V}{σ:St}{H:Hp}
theorem JK{K:PySem.W.Frag}{i j:Nat}{T:Addr}{x y:V}{σ:St}{H:Hp}{Q:St->Hp->Prop}(h:H T=some (.tup [x,y]))(q:Q ((σ.set i (some x)).set j (some y)) H):gTup K 2 (QF (Nm i) (QF (Nm j) gNil)) (.ref T) σ H Q :=
 ⟨T,_,rfl,SqT.of h,rfl,x,_,rfl,y,_,rfl,rfl,q⟩
theorem QG{g:TG}{tb:TS}{D:Ja}(Pv:Nat->St->Hp->Prop)(h0:Pv 0 σ H)(hl:∀i σ H,i<=xs.length->Pv i σ H->SqX K b H l xs)
  (hs:∀i x σ H T,xs[i]?=some x->Pv i σ H->H T=none->g (.ref T) σ (upd H T (.tup [.int i,x])) fun σ2 H2=>tb {D with nx:=Pv (i+1),ct:=Pv (i+1),bk:=D.nx} σ2 H2) (hd:∀σ H,Pv xs.length σ H->D.nx σ H) :
  ∃W:Nat->Nat->St->Hp->Prop,(∃m,W 0 m σ H)/\∀i m σ H,W i m σ H ->
   ((Ite K b l).stop i H/\D.nx σ H)\/((Ite K b l).go i H/\∃N:St->Hp->Prop,(∀σ' H',N σ' H'->∃m',m'<m/\W (i+1) m' σ' H')/\∀x H',(Ite K b l).yld i H x H'->g x σ H' fun σ2 H2=>tb {D with nx:=N,ct:=N,bk:=D.nx} σ2 H2):=by
 refine⟨λi m σ H=>m=xs.length-i/\i<=xs.length/\Pv i σ H,⟨xs.length,by simp,J1 _,h0⟩,?_⟩;rintro i m σ H ⟨rfl,hi,p⟩;have q:=hl i σ H hi p;by_cases hlt:i<xs.length
 ·refine .inr ⟨⟨xs,xs[i],q,by simp[hlt]⟩,Pv (i+1),fun σ' H' p'=>⟨xs.length-(i+1),by lia,rfl,hlt,p'⟩,λx H' y=>?_⟩;obtain⟨T,z,rfl,nT,rfl,hz⟩:=y;exact hs i z σ _ T (hz xs q) p nT
 ·have e:i=xs.length:=by lia
  subst e;exact .inl ⟨⟨xs,q,rfl⟩,hd σ H p⟩
variable{k:Nat}{cs:List Nat}{g:TG}{tc:TT}{te:TE}{fin:List V->Hp->Prop}
theorem blk_zip(Pv:Nat->List V->Hp->Prop)(h0:Pv 0 [] H)(hl:∀i acc H,Pv i acc H->SqX K b H l xs/\SqX K c H m ys)
  (hs:∀i x y acc H T,xs[i]?=some x->ys[i]?=some y->Pv i acc H->H T=none->Bt k cs g tc te σ (.ref T) acc (upd H T (.tup [x,y])) (Pv (i+1))) (hd:∀acc H,Pv (min xs.length ys.length) acc H->fin acc H):Gn k cs g tc te (Itz K b c l m) σ H fin:=by
 refine⟨λi n acc H=>n=min xs.length ys.length-i/\i<=min xs.length ys.length/\Pv i acc H,⟨min xs.length ys.length,by simp,J1 _,h0⟩,?_⟩;rintro i n acc H ⟨rfl,hi,p⟩;obtain⟨qx,qy⟩:=hl i acc H p;by_cases hlt:i<min xs.length ys.length
 ·have lx:i<xs.length:=by lia
  have ly:i<ys.length:=by lia
  refine .inr ⟨⟨xs,ys,xs[i],ys[i],qx,qy,by simp[lx],by simp[ly]⟩,Pv (i+1),λacc' H' p'=>⟨min xs.length ys.length-(i+1),by lia,rfl,hlt,p'⟩,λx H' y=>?_⟩;obtain⟨T,z,z',rfl,nT,rfl,hz,hz'⟩:=y;exact hs i z z' acc _ T (hz xs qx) (hz' ys qy) p nT
 ·have e:i=min xs.length ys.length:=by lia
  subst e;exact .inl ⟨⟨xs,ys,qx,qy,by lia⟩,hd acc H p⟩
theorem blk_str{x:Str}(Pv:Nat->List V->Hp->Prop)(h0:Pv 0 [] H)(hs:∀i ch acc H,x.cps.toList[i]?=some ch->Pv i acc H->Bt k cs g tc te σ (.str ⟨#[ch]⟩) acc H (Pv (i+1)))(hd:∀acc H,Pv x.cps.toList.length acc H->fin acc H):Gn k cs g tc te (Its x) σ H fin:=by
 have e0:x.cps.toList.length=x.cps.size:=by simp
 refine⟨λi m acc H=>m=x.cps.size-i/\i<=x.cps.size/\Pv i acc H,⟨x.cps.size,by simp,J1 _,h0⟩,?_⟩;rintro i m acc H ⟨rfl,hi,p⟩;by_cases hlt:i<x.cps.size
 ·refine .inr ⟨hlt,Pv (i+1),λacc' H' p'=>⟨x.cps.size-(i+1),by lia,rfl,hlt,p'⟩,λv H' y=>?_⟩;obtain⟨e,ch,hch,rfl⟩:=y;subst e;exact hs i ch acc _ (by simpa using hch) p
 ·have e:i=x.cps.size:=by lia
  subst e;exact .inl ⟨rfl,hd acc H (by rw[e0];exact p)⟩
end
theorem PE.or{X:Cx}{e:Expr}{t u:TE}(h:PE X e t)(h':PE X e u):PE X e (fun σ H Q=>t σ H Q\/u σ H Q):=by
 intro pins s σ H Q I q;rcases q with q|q
 ·exact h pins s σ H Q I q
 ·exact h' pins s σ H Q I q
theorem rm{a b:Nat}{A:Around}(h:Dq b A)(hle:a<=b:=by first|decide|lia):Dq a A:=h.mono hle
structure Cal(P:Program)(w:World)(K:PySem.W.Frag)(mg:Str->Option Value)(base:Heap)(CX:CXT)(k:Nat)(x:Str)(ps:List Str)(sp:Sp):Prop where
 ex:∃(f:Addr)(fd:FuncData),AR P w K mg base CX k f fd ps sp/\mg x=some (.ref f)/\keepIn K (.ref f)=true/\Dv K fd ps []
structure BJ(P:Program)(w:World)(K:PySem.W.Frag)(mg:Str->Option Value)(base:Heap)(CX:CXT)(k:Nat)(C:Addr)(m:Str)(ps:List Str)(sp:Sp):Prop where
 ex:∃(f:Addr)(fd:FuncData),AR P w K mg base CX k f fd ps sp/\PH K C m f/\Dv K fd ps []
 cl:Cls K C
structure PK(P:Program)(w:World)(K:PySem.W.Frag)(mg:Str->Option Value)(base:Heap)(CX:CXT)(k:Nat)(x:Str)(C:Addr)(ps:List Str)(sp:Sp):Prop where
 ex:∃(f:Addr)(fd:FuncData),AR P w K mg base CX k f fd ps sp/\Mk K C f/\mg x=some (.ref C)/\Dv K fd ps []
section
variable{X:Cx}{CX:CXT}{k:Nat}{C:Addr}{ps:List Str}{sp:Sp}{E:XK}{x m:Str}{p pos apos:Pos}{e o:Expr}{es:List Expr}{ta:TE}{t:TA}
theorem Az(c:Cal X.prog X.w X.K X.mg X.base CX k x ps sp)(hr:Dq k X.A)(hg:Gl X x)(hx:Fv CX X E)(ha:PA X (e::es) t)(hdb:(x==("__debug__" : Str))=false:=by decide)
  (he:starEach (e::es) X.env=(false,eval e X.env)::starEach es X.env:=by rfl) (hpl:(backTo pos (starEach es X.env)).any (·.1)=false:=by rfl):PE X (.Call (.Name x p) (e::es) [] pos) (tCall sp [] E t):=by
 obtain⟨f,fd,F,hm,hk,hb⟩:=c.ex;exact pe_call F hr hg hm hk hb .nil hx ha hdb he hpl
theorem Ay{pl:Sem Bool}(he:PE X o ta)(c:BJ X.prog X.w X.K X.mg X.base CX k C m ps sp)(hr:Dq k X.A)(hx:Fv CX X E)(ha:PA X (e::es) t)
  (hst:starEach (e::es) X.env=(false,eval e X.env)::starEach es X.env:=by rfl) (hpl:(backTo pos (starEach es X.env)).any (·.1)=false:=by rfl)
  (ht:eval (.Call (.Attribute o m apos) (e::es) [] pos) X.env=(do
   let ov <-eval o X.env;standAt apos.atName;let (f,first) <-holding [ov] (getMethod ov m pl);callWith pos f first (backTo pos (starEach (e::es) X.env)) (backToKw pos (keywordEach [] X.env))):=by rfl):PE X (.Call (.Attribute o m apos) (e::es) [] pos) (Si C m sp [] E ta t):=by
 obtain⟨f,fd,F,hm,hb⟩:=c.ex;exact pe_meth he c.cl hm F hr hb .nil hx ha hst hpl ht
theorem JC(c:PK X.prog X.w X.K X.mg X.base CX k x C ps sp)(hr:Dq (k+1) X.A)(hg:Gl X x)(hx:Fv CX X E)(ha:PA X (e::es) t)(hdb:(x==("__debug__" : Str))=false:=by decide)
  (he:starEach (e::es) X.env=(false,eval e X.env)::starEach es X.env:=by rfl) (hpl:(backTo pos (starEach es X.env)).any (·.1)=false:=by rfl):PE X (.Call (.Name x p) (e::es) [] pos) (Sj C sp [] E t):=by
 obtain⟨f,fd,F,M,hm,hb⟩:=c.ex;exact pe_make M F hr hg hm hb .nil hx ha hdb he hpl
theorem Vt(c:PK X.prog X.w X.K X.mg X.base CX k x C ps sp)(hr:Dq (k+1) X.A)(hg:Gl X x)(hx:Fv CX X E)(hdb:(x==("__debug__" : Str))=false:=by decide):PE X (.Call (.Name x p) [] [] pos) (Sj C sp [] E OG):=by
 obtain⟨f,fd,F,M,hm,hb⟩:=c.ex;exact Vr M F hr hg hm hb .nil hx hdb
theorem CQ{i:Int}(hg:Gl X x)(hm:∃tk,X.mg x=some (.int i tk))(hd:(x==("__debug__" : Str))=false:=by decide):PE X (.Name x pos) (tC (.int i)):=by
 obtain⟨tk,hm⟩:=hm;exact SN hg hm ⟨tk,rfl⟩ hd
theorem Mf{z:Str}(hg:Gl X x)(hm:∃tk,X.mg x=some (.str z tk))(hd:(x==("__debug__" : Str))=false:=by decide):PE X (.Name x pos) (tC (.str z)):=by
 obtain⟨tk,hm⟩:=hm;exact SN hg hm ⟨tk,rfl⟩ hd
end
def cOk(So:Scope)(No:List Str)(scope:Scope)(N:List Str)(k:Nat)(cs:List Nat):Bool :=
 scope.names.all (λy=>y.2 != .cell) && (scope.kind==.function && (scope.names.all (λy=>y.2 != .local || scope.names.lookup y.1==some .local) && (scope.names.all (λy=>y.2 != .free || (So.names.lookup y.1==some .cell || So.names.lookup y.1==some .free)) &&
  (N.length==k+cs.length && (List.range cs.length).all λj=>match N[k+j]?,No[cs.getD j 0]? with
   |some x,some y=>x==y && scope.names.lookup x==some .free
   |_,_=>false))))
theorem Bk.of{X:Cx}{So:Scope}{No:List Str}{scope:Scope}{N:List Str}{k:Nat}{cs:List Nat}(hS:X.env.scope=So)(hN:X.N=No)(h:cOk So No scope N k cs=true):Bk X scope N k cs:=by
 subst hS hN;unfold cOk at h;simp only[Q1,O6,bne_iff_ne,ne_eq,Bool.or_eq_true,A4h,N2]at h;obtain⟨h1,h2,h3,h4,h5,h6⟩:=h;refine⟨h1,h2,λy hy e=>?_,λy hy e=>?_,h5,λj hj=>?_⟩
 ·rcases h3 y hy with z|z
  ·exact absurd e z
  ·exact z
 ·rcases h4 y hy with z|z
  ·exact absurd e z
  ·exact z
 ·have z:=h6 j hj;split at z
  ·rename_i x y e1 e2;simp only[Q1,A4h]at z;obtain⟨z1,z2⟩:=z;subst z1;exact⟨x,e1,e2,z2⟩
  ·cases z
theorem Eu{σ:St}{H:Hp}{A B:Hp->Prop}(h:A H):tYes σ H λb H3=>if b=true then A H3 else B H3:=by
 show if true=true then A H else B H;exact CN h
section
variable{X:Cx}{scope:Scope}{N:List Str}{s:Shared}{H:Hp}{ex:List Addr}{x y:Str}{px py pos:Pos}{k:Nat}
theorem AV{i:Nat}(hN:N.Nodup)(hi:N[i]?=some x)(hl:(relabel scope X.env).names.lookup x=some .local):PG (cxC X scope N s H ex) (.Name x pos) (Nm i):=AL (X:=cxC X scope N s H ex) hN hi (.inl hl) (.inr hl)
theorem Vo{i j:Nat}(hc:X.calm=true)(hN:N.Nodup)(hi:N[i]?=some x)(hj:N[j]?=some y)(hl:(relabel scope X.env).names.lookup x=some .local)(hm:(relabel scope X.env).names.lookup y=some .local) :
  PG (cxC X scope N s H ex) (.Tuple [.Name x px,.Name y py] k pos) (gTup X.K 2 (QF (Nm i) (QF (Nm j) gNil))) :=
 EY (X:=cxC X scope N s H ex) hc (AY (AV hN hi hl) (AY (AV hN hj hm) DK))
end
theorem AN.strs:∀(l:List Str)(k:Nat),AN (l.map V.str) (strsFrom k l)
 |[],_=>.nil
 |x::r,k=>.cons ⟨k,rfl⟩ (AN.strs r (k+1))
section
variable{X:Cx}
theorem Qu:MtR X "str.split" (λx xs H Q=>∃a b,x=.str a/\xs=[.str b]/\(b.length==0)=false/\a.length<=100000/\∀p,H p=none->Q (.ref p) (upd H p (.lst ((Txt.split a b).map V.str)))):=by
 intro pins s σ H x xs v us Q I rx r h;obtain⟨a,b,rfl,rfl,hb,ha,q⟩:=h;obtain⟨t,rfl⟩:=rx;obtain⟨u,rfl,hu⟩:=r.one;obtain⟨tb,rfl⟩:=hu;have big:a.length+2<=sizeLine:=D4 (Nat.add_le_add_right ha 2) A3;have fin:∀(its:List Value)(tk:Nat),AN ((Txt.split a b).map V.str) its->EP X pins σ Q (.ref s.heap.objs.size) {s with heap:=s.heap.push {cls:=.type "list",data:=.seq its.toArray},toks:=tk}:=λits tk hv =>
  ⟨.ref _,_,I.lnew (t':=tk) hv (by rw[B6];exact D4 (split_le a b) big),rfl,q _ I.fresh⟩
 by_cases h1:(decide (a.length<b.length) || decide (Builtin.Str.strKind a<Builtin.Str.strKind b))=true
 ·refine A1f F.slot_str_split (A4c _ _ _) F.entry_str_split (A5e _ _) (meets_str_split_cannot_occur a b t tb h1) ?_;refine fin _ s.toks ?_;unfold Txt.split;rw[Z6 h1];exact .cons ⟨t,rfl⟩ .nil
 ·have h1':=Y9.mpr h1;by_cases h2:(Builtin.Str.occurrences a b 0 a.length (a.length+1)).isEmpty=true
  ·refine A1f F.slot_str_split (A4c _ _ _) F.entry_str_split (A5e _ _) (meets_str_split_not_found a b t tb h1' hb h2) ?_;refine fin _ s.toks ?_;unfold Txt.split;rw[Z3 h1,Z6 h2];exact .cons ⟨t,rfl⟩ .nil
  ·have e:Txt.split a b=Builtin.Str.partsBetween a (Builtin.Str.occurrences a b 0 a.length (a.length+1)) b.length:=by
    unfold Txt.split;rw[Z3 h1,Z3 h2]
   refine A1f F.slot_str_split (A4c _ _ _) F.entry_str_split (A5e _ _) (meets_str_split_sep a b t tb h1' hb (Y9.mpr h2) A1 (by rw[<-e];exact D4 (split_le a b) big)) ?_;refine fin _ _ ?_;rw[e];exact AN.strs _ _
theorem Pm:MtR X "str.partition" (λx xs H Q=>∃a b,x=.str a/\xs=[.str b]/\(b.length==0)=false/\a.length<=100000/\∀p,H p=none->Q (.ref p) (upd H p (.tup [.str (Txt.partition a b).1,.str (Txt.partition a b).2.1,.str (Txt.partition a b).2.2]))):=by
 intro pins s σ H x xs v us Q I rx r h;obtain⟨a,b,rfl,rfl,hb,ha,q⟩:=h;obtain⟨t,rfl⟩:=rx;obtain⟨u,rfl,hu⟩:=r.one;obtain⟨tb,rfl⟩:=hu;have fin:∀(its:List Value)(tk:Nat),AN [.str (Txt.partition a b).1,.str (Txt.partition a b).2.1,.str (Txt.partition a b).2.2] its->EP X pins σ Q (.ref s.heap.objs.size) {s with heap:=s.heap.push {cls:=.type "tuple",data:=.seq its.toArray},toks:=tk}:=λits tk hv =>
  ⟨.ref _,_,I.laid (t':=tk) (o:=.tup [.str (Txt.partition a b).1,.str (Txt.partition a b).2.1,.str (Txt.partition a b).2.2]) (λ_ _ e=>D0 _ e) (C8 _) ⟨by show 3<=sizeLine;decide,its,hv,_,F3 _ rfl,rfl,_,rfl⟩,rfl,q _ I.fresh⟩
 refine A1f F.slot_str_partition (A4c _ _ _) F.entry_str_partition (F.args_str_partition_2 _ _) (meets_str_partition a b t tb hb (D4 ha A3)) ?_;show EP X pins σ Q _ _;cases e:Builtin.Str.occurrences a b 0 a.length 1 with
 |nil =>
  refine fin _ _ ?_;unfold Txt.partition;rw[e];exact .cons ⟨_,rfl⟩ (.cons ⟨_,rfl⟩ (.cons ⟨_,rfl⟩ .nil))
 |cons i l =>
  refine fin _ _ ?_;unfold Txt.partition;rw[e];exact .cons ⟨_,rfl⟩ (.cons ⟨_,rfl⟩ (.cons ⟨_,rfl⟩ .nil))
theorem AN.tstrs:∀{l:List Str}{its:List Value},AN (l.map V.str) its->∃ts:List (Str×Tok),its=strValues ts/\ts.map (·.1)=l
 |[],_,.nil=>⟨[],rfl,rfl⟩
 |x::r,_,.cons ⟨t,e⟩ rr=>by
  obtain⟨ts,e1,e2⟩:=AN.tstrs rr;subst e e1;exact⟨(x,t)::ts,rfl,by rw[F0,e2]⟩
theorem Mh:MtR X "str.join" (λx xs H Q=>∃(sep:Str)(p:Addr)(l:List Str),x=.str sep/\xs=[.ref p]/\SqL X.K H p (l.map V.str)/\JoinOk sep l=true/\Q (.str (Str.join sep l)) H):=by
 intro pins s σ H x xs v us Q I rx r h;obtain⟨sep,p,l,rfl,rfl,hl,hok,q⟩:=h;obtain⟨t,rfl⟩:=rx;obtain⟨u,rfl,hu⟩:=r.one;cases(show u=Value.ref p from hu);obtain⟨its,rv,pl,_⟩:=I.list hl;obtain⟨ts,rfl,e⟩:=AN.tstrs rv;refine SC.join (texts:=l) pl.isList e hok λt' k=>⟨.str _,H,I.tok k,⟨t',rfl⟩,?_⟩
 have:Txt.join sep l=Str.join sep l:=StrLaws.glued_eq_join sep l;rw[this];exact q
theorem QO(n:Int):∀{ns:List Int}{its:List Value},AN (ns.map V.int) its->its.countP (λy=>match y with|.int i _=>i==n|_=>false)=ns.countP (· == n)
 |[],_,.nil=>rfl
 |x::r,_,.cons ⟨t,e⟩ rr=>by
  subst e;rw[V0,V0,QO n rr]
theorem UJ{ns:List Int}{its:List Value}(h:AN (ns.map V.int) its){y:Value}(hy:y∈its):∃i t,y=.int i t:=by
 induction ns generalizing its with
 |nil=>cases h;simp at hy
 |cons n r ih =>
  cases h with
  |cons q qq =>
   obtain⟨t,e⟩:=q;rcases D6.mp hy with z|z
   ·exact⟨n,t,z.trans e⟩
   ·exact ih qq z
theorem VI:MtR X "list.count" (λx xs H Q=>∃(l:Addr)(ns:List Int)(n:Int),x=.ref l/\xs=[.int n]/\H l=some (.lst (ns.map V.int))/\Q (.int (ns.countP (· == n):Nat)) H):=by
 intro pins s σ H x xs v us Q I rx r h;obtain⟨l,ns,n,rfl,rfl,hH,q⟩:=h;cases rx;obtain⟨u,rfl,hu⟩:=r.one;obtain⟨tk,rfl⟩:=hu;obtain⟨z,its,k,rv,hl,e⟩:=I.lstM hH;refine A1f F.slot_list_count ⟨_,e,rfl⟩ F.entry_list_count (F.args_list_count_2 _ _) (MeetsSeq.list_count l its.toArray k (.int n tk) (λy=>match y with|.int i _=>i==n|_=>false) (λy hy=>?_)) ⟨e,?_⟩
 ·obtain⟨i,t,rfl⟩:=UJ rv (by simpa using hy);exact PySem.MeetsSeq.EqGives.int i n t tk
 ·refine⟨.int _,H,I.tok _,⟨_,rfl⟩,?_⟩;have:(List.countP (λy=>match y with|Value.int i _=>i==n|_=>false) its.toArray.toList)=ns.countP (· == n):=QO n (by simpa using rv);rw[this];exact q
theorem IF:∀{ns:List Int}{its:List Value},AN (ns.map V.int) its->IntsAre its ns
 |[],_,.nil=>.nil
 |x::r,_,.cons ⟨t,e⟩ rr=>by
  subst e;exact .cons _ t (IF rr)
theorem Rv(hu:X.A.units+64<cLine):OpR X (compareOp .Eq) (λx y H Q=>∃(a b:Addr)(ns ms:List Int),x=.ref a/\y=.ref b/\SqL X.K H a (ns.map V.int)/\SqL X.K H b (ms.map V.int)/\Q (.bl (decide (ns=ms))) H):=by
 intro pins s σ H x y v u Q I rx ry h;obtain⟨a,b,ns,ms,rfl,rfl,h1,h2,q⟩:=h;cases rx;cases ry;obtain⟨xs,r1,p1,_⟩:=I.list h1;obtain⟨ys,r2,p2,_⟩:=I.list h2;exact PySem.W.eq_intsK p1.isList (IF r1) p2.isList (IF r2) hu ⟨.bl _,H,I,rfl,q⟩
theorem Rt(hu:X.A.units+64<cLine):OpR X (compareOp .NotEq) (λx y H Q=>∃(a b:Addr)(ns ms:List Int),x=.ref a/\y=.ref b/\SqL X.K H a (ns.map V.int)/\SqL X.K H b (ms.map V.int)/\Q (.bl (!decide (ns=ms))) H):=by
 intro pins s σ H x y v u Q I rx ry h;obtain⟨a,b,ns,ms,rfl,rfl,h1,h2,q⟩:=h;cases rx;cases ry;obtain⟨xs,r1,p1,_⟩:=I.list h1;obtain⟨ys,r2,p2,_⟩:=I.list h2;exact PySem.W.ne_intsK p1.isList (IF r1) p2.isList (IF r2) hu ⟨.bl _,H,I,rfl,q⟩
end
end L2
namespace L2
open PySem
section
variable{X:Cx}{es es':List Expr}{t t':TA}{pos:Pos}
theorem AH{i:Int}{j}(hr:PA X es t):PA X (.Constant (.int i) j pos::es) (CF (tC (.int i)) t):=Aa Ae hr
theorem Rs{z:Str}{j}(hr:PA X es t):PA X (.Constant (.str z) j pos::es) (CF (tC (.str z)) t):=Aa GF hr
theorem MR(h:PA X es' t')(hr:PA X es t):PA X (.List es' pos::es) (CF (tLst t') t):=Aa (Bn h) hr
theorem Bx{x1}(h:PA X es' t')(hr:PA X es t):PA X (.Tuple es' x1 pos::es) (CF (UM t') t):=Aa (Dd h) hr
theorem Ck{op:Operator}{r:R2}{a b:Expr}{ta tb:TE}(ho:OpR X (binaryOp op) r)(ha:PE X a ta)(hb:PE X b tb)(hr:PA X es t):PA X (.BinOp a op b pos::es) (CF (tOp r ta tb) t):=Aa (AK ho ha hb) hr
theorem SZ{K:PySem.W.Frag}(h:X.K=K):IxR X (IW K):=h▸An
theorem IE{K:PySem.W.Frag}(h:X.K=K):IxR X (rIxL K):=h▸Ar
end
theorem AE{P:Prop}(h:∀G:Prop,(P->G)->G):P:=h P id
theorem xq1{α:Sort _}{a:α}{P Q:α->Prop}(h:P a)(k:Q a):∃x,P x/\Q x:=⟨a,h,k⟩
theorem xq2{α β:Sort _}{a:α}{b:β}{P Q R:α->β->Prop}(h:P a b)(h':Q a b)(k:R a b):∃x y,P x y/\Q x y/\R x y:=⟨a,b,h,h',k⟩
theorem xq3{α β γ:Sort _}{a:α}{b:β}{c:γ}{P Q R S:α->β->γ->Prop}(h:P a b c)(h':Q a b c)(h'':R a b c)(k:S a b c):∃x y z,P x y z/\Q x y z/\R x y z/\S x y z:=⟨a,b,c,h,h',h'',k⟩
theorem xq4{α β γ δ:Sort _}{a:α}{b:β}{c:γ}{d:δ}{P Q R S T:α->β->γ->δ->Prop}(h:P a b c d)(h':Q a b c d)(h'':R a b c d)(h3:S a b c d)(k:T a b c d):∃x y z w,P x y z w/\Q x y z w/\R x y z w/\S x y z w/\T x y z w:=⟨a,b,c,d,h,h',h'',h3,k⟩
theorem lts{A:TS}{D:Ja}{σ:St}{H:Hp}(h:let s:=σ;let E:=D;A E s H):A D σ H:=h
theorem ltg{g:TG}{v:V}{σ:St}{H:Hp}{Q:St->Hp->Prop}(h:let s:=σ;g v s H Q):g v σ H Q:=h
theorem xq5{K:PySem.W.Frag}{f:Str}{H:Hp}{a C dx:Addr}{fs:List (Str×V)}{v:V}{Q:V->Prop}(h:H a=some (.ins C dx fs))(h2:Cls K C)(h3:BG K C f)(h4:fs.lookup f=some v)(k:Q v):∃b C dx fs w,V.ref a=.ref b/\H b=some (.ins C dx fs)/\Cls K C/\BG K C f/\fs.lookup f=some w/\Q w:=⟨a,C,dx,fs,v,rfl,h,h2,h3,h4,k⟩
theorem xw2{α β:Sort _}{a:α}{b:β}{P:α->Prop}{Q:α->β->Prop}{K:α->β->Prop}(h1:P a)(h2:Q a b)(k:K a b):∃x0,P x0/\∃x1,Q x0 x1/\K x0 x1:=⟨a,h1,b,h2,k⟩
theorem xw3{α β γ:Sort _}{a:α}{b:β}{c:γ}{P:α->Prop}{Q:α->β->Prop}{R:α->β->γ->Prop}{K:α->β->γ->Prop}(h1:P a)(h2:Q a b)(h3:R a b c)(k:K a b c):∃x0,P x0/\∃x1,Q x0 x1/\∃x2,R x0 x1 x2/\K x0 x1 x2:=⟨a,h1,b,h2,c,h3,k⟩
theorem xwb{α β γ:Sort _}{a:α}{b:β}{c:γ}{P:α->Prop}{Q:α->β->γ->Prop}{R:α->β->γ->Prop}{K:α->β->γ->Prop}(h1:P a)(h2:Q a b c)(h3:R a b c)(k:K a b c):∃x0,P x0/\∃x1 x2,Q x0 x1 x2/\R x0 x1 x2/\K x0 x1 x2:=⟨a,h1,b,c,h2,h3,k⟩
theorem xwm{α β γ δ:Sort _}{a:α}{b:β}{c:γ}{d:δ}{P:α->Prop}{Q:α->β->γ->δ->Prop}{R:α->β->γ->δ->Prop}{S:α->β->γ->δ->Prop}{K:α->β->γ->δ->Prop}(h1:P a)(h2:Q a b c d)(h3:R a b c d)(h4:S a b c d)(k:K a b c d):∃x0,P x0/\∃x1 x2 x3,Q x0 x1 x2 x3/\R x0 x1 x2 x3/\S x0 x1 x2 x3/\K x0 x1 x2 x3:=⟨a,h1,b,c,d,h2,h3,h4,k⟩
theorem xwi{α β γ δ ε:Sort _}{a:α}{b:β}{c:γ}{d:δ}{e:ε}{P:α->Prop}{Q:α->β->γ->δ->ε->Prop}{R:α->β->γ->δ->ε->Prop}{S:α->β->γ->δ->ε->Prop}{T:α->β->γ->δ->ε->Prop}{K:α->β->γ->δ->ε->Prop}(h1:P a)(h2:Q a b c d e)(h3:R a b c d e)(h4:S a b c d e)(h5:T a b c d e)(k:K a b c d e):∃x0,P x0/\∃x1 x2 x3 x4,Q x0 x1 x2 x3 x4/\R x0 x1 x2 x3 x4/\S x0 x1 x2 x3 x4/\T x0 x1 x2 x3 x4/\K x0 x1 x2 x3 x4:=⟨a,h1,b,c,d,e,h2,h3,h4,h5,k⟩
theorem xwf{α β γ δ ε ζ:Sort _}{a:α}{b:β}{c:γ}{d:δ}{e:ε}{f:ζ}{P:α->Prop}{Q:α->β->γ->δ->ε->ζ->Prop}{R:α->β->γ->δ->ε->ζ->Prop}{S:α->β->γ->δ->ε->ζ->Prop}{T:α->β->γ->δ->ε->ζ->Prop}{U:α->β->γ->δ->ε->ζ->Prop}{K:α->β->γ->δ->ε->ζ->Prop}(h1:P a)(h2:Q a b c d e f)(h3:R a b c d e f)(h4:S a b c d e f)(h5:T a b c d e f)(h6:U a b c d e f)(k:K a b c d e f):∃x0,P x0/\∃x1 x2 x3 x4 x5,Q x0 x1 x2 x3 x4 x5/\R x0 x1 x2 x3 x4 x5/\S x0 x1 x2 x3 x4 x5/\T x0 x1 x2 x3 x4 x5/\U x0 x1 x2 x3 x4 x5/\K x0 x1 x2 x3 x4 x5:=⟨a,h1,b,c,d,e,f,h2,h3,h4,h5,h6,k⟩
theorem xwn{α β γ δ ε:Sort _}{a:α}{b:β}{c:γ}{d:δ}{e:ε}{P:α->Prop}{Q:α->β->γ->δ->Prop}{R:α->β->γ->δ->Prop}{S:α->β->γ->δ->Prop}{T:α->β->γ->δ->ε->Prop}{K:α->β->γ->δ->ε->Prop}(h1:P a)(h2:Q a b c d)(h3:R a b c d)(h4:S a b c d)(h5:T a b c d e)(k:K a b c d e):∃x0,P x0/\∃x1 x2 x3,Q x0 x1 x2 x3/\R x0 x1 x2 x3/\S x0 x1 x2 x3/\∃x4,T x0 x1 x2 x3 x4/\K x0 x1 x2 x3 x4:=⟨a,h1,b,c,d,h2,h3,h4,e,h5,k⟩
theorem xwj{α β γ δ ε ζ:Sort _}{a:α}{b:β}{c:γ}{d:δ}{e:ε}{f:ζ}{P:α->Prop}{Q:α->β->Prop}{R:α->β->γ->δ->ε->ζ->Prop}{S:α->β->γ->δ->ε->ζ->Prop}{T:α->β->γ->δ->ε->ζ->Prop}{U:α->β->γ->δ->ε->ζ->Prop}{K:α->β->γ->δ->ε->ζ->Prop}(h1:P a)(h2:Q a b)(h3:R a b c d e f)(h4:S a b c d e f)(h5:T a b c d e f)(h6:U a b c d e f)(k:K a b c d e f):∃x0,P x0/\∃x1,Q x0 x1/\∃x2 x3 x4 x5,R x0 x1 x2 x3 x4 x5/\S x0 x1 x2 x3 x4 x5/\T x0 x1 x2 x3 x4 x5/\U x0 x1 x2 x3 x4 x5/\K x0 x1 x2 x3 x4 x5:=⟨a,h1,b,h2,c,d,e,f,h3,h4,h5,h6,k⟩
theorem AS{A B:TS}{D:Ja}{σ:St}{H:Hp}(h:let r:=B D;let s:=σ;∀k:St->Hp->Prop,(∀{σ H},r σ H->k σ H)->let E:Ja:={D with nx:=k};A E s H):tSeq A B D σ H:=h _ λz=>z
end L2
namespace Nu
open PySem PySem.NumText PyProof.Rows
theorem ext{a b:Str}(h:a.cps.toList=b.cps.toList):a=b:=by
 obtain⟨⟨l⟩⟩:=a;obtain⟨⟨r⟩⟩:=b;cases h;rfl
theorem len(x:Str):x.length=x.cps.toList.length:=by simp[Str.length]
end Nu
namespace L2
open PySem PySem.Spec PyProof.Rows
section
variable{X:Cx}
theorem Wl(hc:X.calm=true):Fy X (.builtin "any") (λxs H Q=>∃(p:Addr)(bs:List Bool),xs=[.ref p]/\SqL X.K H p (bs.map V.bl)/\Q (.bl (bs.any id)) H):=by
 intro pins s σ H xs us Q I r h;obtain⟨p,bs,rfl,hq,q⟩:=h;cases r with
 |cons r1 r2 =>
  cases r2;cases(show _=Value.ref p from r1);obtain⟨its,rv,pl,hz⟩:=I.list hq;have hne:p≠s.heap.objs.size:=F9 (by obtain⟨o,n,e,_⟩:=pl;exact E9 e);refine call_any_walk (A3g pl.isList ?_);have vals:∀(i:Nat) v,its[i]?=some v->∃b,bs[i]?=some b/\v=.bool b:=λi v e=>by
   cases eb:bs[i]? with
   |none =>
    have:its[i]?=none:=rv.none_of (by rw[B9,eb];rfl);rw[e]at this;cases this
   |some b =>
    obtain⟨u,hu,ru⟩:=rv.get (i:=i) (x:=V.bl b) (by rw[B9,eb];rfl);rw[e]at hu;cases hu;exact⟨b,rfl,ru⟩
  refine⟨s.heap.objs.size,_,_,_,_,_,λi=>bs.getD i false,rfl,Walks.list (A:=X.A.in1) (I.ok.hd hc) s.heap.objs.size p hne its.toArray,⟨⟨_,F3 _ rfl,rfl,rfl⟩,?_⟩,?_,?_⟩
  ·exact pl.isList.at λo e=>D0 _ e
  ·intro i v s2 Q2 E2 hP hQ;obtain⟨b,eb,rfl⟩:=vals i v (by simpa using hP);have e2:bs.getD i false=b:=by rw[D3,eb];rfl
   have hQ:Q2 (bs.getD i false) s2:=hQ;rw[e2]at hQ;exact K6 hQ
  ·intro h' tk kk;have I2:Inv X pins σ H {s with heap:=h',toks:=tk}:=I.kept λb o e=>kk b o (by intro z;exact F9 (E9 e) (by simpa using z)) (D0 _ e);have len:its.toArray.size=bs.length:=by rw[E6,<-rv.length,B6]
   have e3:(List.range its.toArray.size).any (λi=>bs.getD i false)=bs.any id:=by
    rw[len,P4,V2,V2];constructor
    ·rintro⟨i,hi,e⟩;have hi':=N2.mp hi;rw[D3,C6 hi']at e;exact⟨_,O5 hi',e⟩
    ·rintro⟨b,hb,e⟩;obtain⟨i,hi,e2⟩:=List.mem_iff_getElem.mp hb;refine⟨i,N2.mpr hi,?_⟩;rw[D3,C6 hi,e2];exact e
   rw[e3];exact⟨.bl _,H,I2,rfl,q⟩
theorem OX{K:PySem.W.Frag}{e:Expr}{f:Str}{ta:TE}{pos:Pos}(hK:X.K=K)(he:PE X e ta)(hb:attributeBase e f X.env (eval e X.env)=eval e X.env):PE X (.Attribute e f pos) (tFld K ta f):=hK▸AJ he hb
end
section
variable{X:Cx}
theorem QD{ns:List Int}{its:List Value}(rv:AN (ns.map V.int) its):∀(i:Nat) v,its.toArray[i]?=some v->∃t,v=.int (ns.getD i 0) t:=λi v e=>by
 have e:its[i]?=some v:=by simpa using e
 cases eb:ns[i]? with
 |none =>
  have:its[i]?=none:=rv.none_of (by rw[B9,eb];rfl);rw[e]at this;cases this
 |some b =>
  obtain⟨u,hu,ru⟩:=rv.get (i:=i) (x:=V.int b) (by rw[B9,eb];rfl);rw[e]at hu;cases hu;rw[D3,eb];obtain⟨t,rfl⟩:=ru;exact⟨t,rfl⟩
end
theorem QZ(ns ms:List Int):((List.range (min ns.length ms.length)).all (λj=>ns.getD j 0==ms.getD j 0) && ns.length==ms.length)=decide (ns=ms):=by
 rw[P4,Q1,O6,A4h,decide_eq_true_iff];constructor
 ·rintro⟨h1,h2⟩;refine List.ext_getElem h2 λi h3 h4=>?_;have:=h1 i (N2.mpr A1);rw[A4h,D3,D3,C6 h3,C6 h4]at this;exact this
 ·rintro rfl;exact⟨λx _=>beq_iff_eq.mpr rfl,rfl⟩
section
variable{X:Cx}
theorem NY{H:Hp}{ns:List Int}{its:List Value}(rv:AN (ns.map V.int) its){A:Around}{s:Shared}{ms:List Int}{jts:List Value}(rw':AN (ms.map V.int) jts)(j:Nat)(h1:j<its.toArray.size)(h2:j<jts.toArray.size):PySem.SeqAt.EqAt A s its.toArray[j] jts.toArray[j] (ns.getD j 0==ms.getD j 0):=by
 obtain⟨t,e⟩:=QD rv j _ (C9 h1);obtain⟨u,e2⟩:=QD rw' j _ (C9 h2);rw[e,e2];exact PySem.SeqAt.EqAt.int_int _ t _ u
theorem TM(hu:X.A.units+64<cLine):OpR X (compareOp .Eq) (λx y H Q=>∃(a b:Addr)(ns ms:List Int),x=.ref a/\y=.ref b/\SqT X.K H a (ns.map V.int)/\SqT X.K H b (ms.map V.int)/\Q (.bl (decide (ns=ms))) H):=by
 intro pins s σ H x y v u Q I rx ry h;obtain⟨a,b,ns,ms,rfl,rfl,h1,h2,q⟩:=h;cases rx;cases ry;obtain⟨xs,r1,p1,_⟩:=I.tuple h1;obtain⟨ys,r2,p2,_⟩:=I.tuple h2;refine PySem.SeqAt.eq_tupleAt p1 p2 A1 (λj k1 k2=>NY (H:=H) r1 r2 j k1 k2) ?_;rw[E6,E6,<-r1.length,<-r2.length,B6,B6,QZ];exact⟨.bl _,H,I,rfl,q⟩
end
section
variable{prog:Program}{w:World}{κ:Type}[DecidableEq κ]{knd:HeapKind prog w κ}{A:Around}{E:Value->Shared->Prop}{s:Shared}
end
section
variable{X:Cx}{pins:List (Addr×Obj)}{σ:St}{H:Hp}{s:Shared}{a:Addr}{y v:V}{u r:Value}{o:Option V}{A:Around}{E:Value->Shared->Prop}
end
section
variable{X:Cx}{o e f:Expr}{apos cpos:Pos}{td ty tx:TE}
end
section
variable{prog:Program}{w:World}{A:Around}{E:Value->Shared->Prop}{s:Shared}{d it:Addr}{o:Obj}{es:Array DictEntry}{ep i:Nat}
end
end L2
namespace L2
open PySem PySem.W PyProof.Rows
section
variable{rk:Nat->Int}{n:Nat}
structure Tp(n:Nat)(p:Array Nat):Prop where
 sz:p.size=n
 pm:p.Perm (List.range n).toArray
def kk(rk:Nat->Int)(p:Array Nat)(i:Nat):Int:=rk (p.getD i 0)
def Up(rk:Nat->Int)(p:Array Nat)(m:Nat):Prop:=∀i j,i<=j->j<m->kk rk p i<=kk rk p j
end
end L2
namespace L2
open PySem PySem.W PySem.Spec PyProof.Rows
def CU:List Int->List Int->Bool
 |[],[]=>false
 |[],_::_=>true
 |_::_,[]=>false
 |a::as,b::bs=>if a=b then CU as bs else decide (a<b)
theorem Ni:∀a,CU a a=false
 |[]=>rfl
 |a::as=>by unfold CU;rw[Z6 rfl];exact Ni as
theorem JI:∀{a b c:List Int},CU a c=true->CU a b=true\/CU b c=true
 |[],[],_,h=>.inr h
 |[],_::_,_,_=>.inl rfl
 |_::_,_,[],h=>by cases h
 |a::as,[],c::cs,_=>.inr rfl
 |a::as,b::bs,c::cs,h=>by
  unfold CU at h⊢;by_cases ac:a=c
  ·subst ac;rw[Z6 rfl]at h;by_cases ab:a=b
   ·subst ab;rw[Z6 rfl,Z6 rfl];exact JI h
   ·rw[Z3 ab,Z3 (λz=>ab z.symm)];rcases Int.lt_or_gt_of_ne ab with z|z
    ·exact .inl (Z1 z)
    ·exact .inr (Z1 z)
  ·rw[Z3 ac]at h;have h:=K1 h;by_cases ab:a=b
   ·subst ab;rw[Z3 ac];exact .inr (Z1 h)
   ·rw[Z3 ab];by_cases z:a<b
    ·exact .inl (Z1 z)
    ·by_cases bc:b=c
     ·lia
     ·rw[Z3 bc];exact .inr (Z1 A1)
theorem Qy:∀{a b:List Int},CU a b=false->CU b a=false->a=b
 |[],[],_,_=>rfl
 |[],_::_,h,_=>by cases h
 |_::_,[],_,h=>by cases h
 |a::as,b::bs,h,h'=>by
  unfold CU at h h';by_cases ab:a=b
  ·subst ab;rw[Z6 rfl]at h h';rw[Qy h h']
  ·rw[Z3 ab]at h;rw[Z3 (λz=>ab z.symm)]at h';have:=A5a h;have:=A5a h';lia
theorem VQ{a b:List Int}(h:CU a b=true):CU b a=false:=by
 cases e:CU b a with
 |false=>rfl
 |true =>
  rcases JI (b:=b) (show CU a b=true from h)with z|z
  ·
   have:CU a a=true\/CU a a=false:=by cases CU a a<;>simp
   exact absurd (lexI_two h e) B1
  ·rw[Ni]at z;cases z
where lexI_two:∀{a b:List Int},CU a b=true->CU b a=true->false=true
 |[],[],h,_=>h
 |[],_::_,_,h=>h
 |_::_,[],h,_=>h
 |a::as,b::bs,h,h'=>by
  unfold CU at h h';by_cases ab:a=b
  ·subst ab;rw[Z6 rfl]at h h';exact lexI_two h h'
  ·rw[Z3 ab]at h;rw[Z3 (λz=>ab z.symm)]at h';have:=K1 h;have:=K1 h';lia
def TB(rows:List (List Int))(i:Nat):Int:=((rows.countP λr=>CU r (rows.getD i []):Nat):Int)
theorem Ov{α:Type}{p q:α->Bool}:∀{l:List α}{x:α},x∈l->(∀y,p y=true->q y=true)->p x=false->q x=true->l.countP p<l.countP q
 |y::l,x,hx,h,hp,hq=>by
  rw[V0,V0];have le:l.countP p<=l.countP q:=List.countP_mono_left λz _=>h z;rcases D6.mp hx with rfl|hx
  ·rw[hp,hq];simp only[M9,A2a,A3b];lia
  ·have:=Ov hx h hp hq;by_cases py:p y=true
   ·rw[py,h y py];lia
   ·rw[Z3 py];split<;>lia
theorem Vh{rows:List (List Int)}{i j:Nat}(hi:i<rows.length):decide (TB rows i<TB rows j)=CU (rows.getD i []) (rows.getD j []):=by
 have mi:rows.getD i []∈rows:=by
  rw[D3,C6 hi];exact O5 hi
 unfold TB;generalize rows.getD i []=a at *
 generalize rows.getD j []=b;cases h:CU a b with
 |true =>
  refine Z1 ?_;have:=Ov (p:=λr=>CU r a) (q:=λr=>CU r b) mi (λy hy=>?_) (Ni a) h
  ·lia
  ·rcases JI (b:=b) hy with z|z
   ·exact z
   ·rw[VQ h]at z;cases z
 |false =>
  refine Z2 ?_;have:=List.countP_mono_left (l:=rows) (p:=λr=>CU r b) (q:=λr=>CU r a) λy _ hy=>?_
  ·lia
  ·rcases JI (b:=a) hy with z|z
   ·exact z
   ·rw[h]at z;cases z
section
variable{prog:Program}{w:World}{A:Around}{E:Value->Shared->Prop}
theorem ST{b:Bool}{Q:Bool->Shared->Prop}{s:Shared}:∀{xs ys:List Int}{us vs:List Value}{i:Nat},AN (xs.map V.int) us->AN (ys.map V.int) vs->Q (CU xs ys) s->KatLex prog w A b (decide (xs.length<ys.length)) Q (us.zip vs) i s
 |[],[],_,_,i,.nil,.nil,q=>q
 |[],y::ys,_,_,i,.nil,.cons _ _,q=>by
  show Q (decide (0<ys.length+1)) s;rw[Z1 (Nat.succ_pos _)];exact q
 |x::xs,[],_,_,i,.cons _ _,.nil,q=>by
  show Q (decide (xs.length+1<0)) s;rw[Z2 (S6 _)];exact q
 |x::xs,y::ys,u::us,v::vs,i,.cons r1 t1,.cons r2 t2,q=>by
  obtain⟨t,rfl⟩:=(show ∃t,u=.int x t from r1)
  obtain⟨t',rfl⟩:=(show ∃t,v=.int y t from r2)
  refine wpAny_eqBool_int ?_;unfold CU at q;by_cases e:x=y
  ·subst e;rw[Z6 rfl]at q;simp only[beq_self_eq_true,A3b];have h:=ST (b:=b) (i:=i+1) t1 t2 q;rw[show decide ((x::xs).length<(x::ys).length)=decide (xs.length<ys.length) by simp];exact h
  ·rw[Z3 e]at q;have e':(x==y)=false:=by simpa using e
   simp only[e',M9,A2a];cases b && i==0 with
   |true=>exact oneLt_int q
   |false =>
    exact kat_one _ _ (wpAny_lt_int q)
end
section
variable{X:Cx}
theorem Sg{H:Hp}{h:Heap}(ok:HOk X.prog X.w H h){items:List (Addr×List Int)}(hq:∀q∈items,H q.1=some (.tup (q.2.map V.int))/\q.2≠[]){i:Nat}(hi:i<items.length) :
  ∃(b:Addr)(o:Obj)(us:List Value)(m:Nat),(items.map λq=>Value.ref q.1).getD i Value.none=.ref b/\h.get? b=some o/\o.cls=.type "tuple" /\ o.data=.seq us.toArray m/\AN (((items.map (·.2)).getD i []).map V.int) us:=by
 have hm:=O5 hi;obtain⟨h1,h2⟩:=hq _ hm;obtain⟨_,its,r,o,e,c,n,d⟩:=(show BN X.prog X.w H h _ (.tup _)from ok _ _ h1)
 refine⟨_,o,its,n,?_,e,c,d,?_⟩
 ·rw[D3,B9,C6 hi];rfl
 ·rw[D3,B9,C6 hi];exact r
theorem Ot{H:Hp}{h:Heap}(ok:HOk X.prog X.w H h):∀{items:List (Addr×List Int)},(∀q∈items,H q.1=some (.tup (q.2.map V.int))/\q.2≠[])->∃fs:List Value,KatTups h (items.map λq=>Value.ref q.1) fs/\fs.length=items.length/\∀v∈fs,∃x t,v=.int x t
 |[],_=>⟨[],.nil,rfl,λv hv=>nomatch hv⟩
 |q::items,hq=>by
  obtain⟨fs,h1,h2,h3⟩:=Ot ok λq' hq'=>hq q' (E1 _ hq');obtain⟨e,ne⟩:=hq q (D8 ..);obtain⟨_,its,r,o,e1,c,n,d⟩:=(show BN X.prog X.w H h _ (.tup _)from ok _ _ e)
  match hx:q.2,ne with
  |x::xs,_ =>
   rw[hx]at r;cases r with
   |@cons _ u _ us r1 r2 =>
    obtain⟨t,rfl⟩:=(show ∃t,u=.int x t from r1)
    refine⟨.int x t::fs,.cons e1 c d B1 h1,by rw[E7,E7,h2],λv hv=>?_⟩;rcases D6.mp hv with rfl|hv
    ·exact⟨x,t,rfl⟩
    ·exact h3 v hv
def LD:List (Addr×List Int)->Prop:=List.Pairwise λp q=>CU q.2 p.2=false
end
section
variable{X:Cx}
theorem Tw{H:Hp}{s:Shared}{A:Around}(ok:HOk X.prog X.w H s.heap)(hu:A.units<cLine){a b:Addr}{ns:List Int}(h1:H a=some (.tup (ns.map V.int)))(h2:H b=some (.tup (ns.map V.int))):PySem.SeqAt.EqAt A s (.ref a) (.ref b) true:=by
 by_cases e:a=b
 ·subst e;exact PySem.SeqAt.EqAt.same _
 ·obtain⟨_,its,r,pt⟩:=(show BN X.prog X.w H s.heap _ (.tup _)from ok _ _ h1)
  obtain⟨_,jts,r',pt'⟩:=(show BN X.prog X.w H s.heap _ (.tup _)from ok _ _ h2)
  refine PySem.SeqAt.EqAt.of_refs e ?_;have:=PySem.SeqAt.RcAt.tuples (A:=A) (s:=s) (e:=λj=>ns.getD j 0==ns.getD j 0) pt pt' hu λj k1 k2=>NY (H:=H) r r' j k1 k2;rw[E6,E6,<-r.length,<-r'.length,B6,QZ,Z1 rfl]at this;exact this
theorem SE{H:Hp}{s:Shared}{A:Around}(ok:HOk X.prog X.w H s.heap)(hu:A.units<cLine):∀{is js:List (Addr×List Int)},(∀q∈is,H q.1=some (.tup (q.2.map V.int)))->(∀q∈js,H q.1=some (.tup (q.2.map V.int)))->is.map (·.2)=js.map (·.2) ->
  ∀{xs ys:List Value},AN (is.map λq=>V.ref q.1) xs->AN (js.map λq=>V.ref q.1) ys->xs.length=ys.length/\∀j (h1:j<xs.length) (h2:j<ys.length),PySem.SeqAt.EqAt A s xs[j] ys[j] true
 |[],[],_,_,_,_,_,.nil,.nil=>⟨rfl,λj h1=>absurd h1 (S6 _)⟩
 |[],_::_,_,_,e,_,_,_,_=>by cases e
 |_::_,[],_,_,e,_,_,_,_=>by cases e
 |i::is,j::js,h1,h2,e,x::xs,y::ys,.cons r1 t1,.cons r2 t2=>by
  rw[F0,F0]at e;injection e with e0 e1
  obtain⟨l,k⟩:=SE ok hu (λq hq=>h1 q (E1 _ hq)) (λq hq=>h2 q (E1 _ hq)) e1 t1 t2;refine⟨by rw[E7,E7,l],λn p1 p2=>?_⟩;cases n with
  |zero =>
   cases(show x=Value.ref i.1 from r1);cases(show y=Value.ref j.1 from r2);have q1:=h1 i (D8 ..);have q2:=h2 j (D8 ..);rw[<-e0]at q2;exact Tw ok hu q1 q2
  |succ n=>exact k n (by simpa using p1) (by simpa using p2)
theorem Wr(n:Nat):(List.range n).all (λ_=>true)=true:=O6.mpr λ_ _=>rfl
def AlikeT(K:PySem.W.Frag)(H:Hp)(x y:V):Prop:=∃(a b:Addr)(is js:List (Addr×List Int)),x=.ref a/\y=.ref b/\SqL K H a (is.map λq=>V.ref q.1)/\SqL K H b (js.map λq=>V.ref q.1)/\(∀q∈is,H q.1=some (.tup (q.2.map V.int)))/\(∀q∈js,H q.1=some (.tup (q.2.map V.int)))/\is.map (·.2)=js.map (·.2)
theorem Qm(hu:X.A.units+64<cLine):OpR X (compareOp .NotEq) (λx y H Q=>AlikeT X.K H x y/\Q (.bl false) H):=by
 intro pins s σ H x y v u Q I rx ry h;obtain⟨⟨a,b,is,js,rfl,rfl,h1,h2,t1,t2,e⟩,q⟩:=h;cases rx;cases ry;obtain⟨xs,r1,p1,_⟩:=I.list h1;obtain⟨ys,r2,p2,_⟩:=I.list h2;obtain⟨l,k⟩:=SE (A:=X.A.in1) I.hok (by show X.A.units+1<_;lia) t1 t2 e r1 r2;refine PySem.SeqAt.RcNeAt.lists (e:=λ_=>true) p1.isList p2.isList (by rw[E6,E6,l]) A1 (λj k1 k2=>?_) _ _ _ _ ?_
 ·simp only[E6]at k1 k2
  simpa using k j k1 k2
 ·rw[Wr];exact⟨.bl _,H,I,rfl,q⟩
end
end L2
namespace L2
open PySem PySem.W PySem.Spec PyProof.Rows
section
variable{prog:Program}{w:World}{A:Around}{E:Value->Shared->Prop}{s:Shared}{r d:Addr}{o:Obj}{es:Array DictEntry}{ep:Nat}
end
section
variable{X:Cx}{o:Expr}{apos cpos:Pos}{td:TE}
end
section
variable{X:Cx}
end
end L2
namespace Tx
open PySem PySem.Builtin PySem.Builtin.Str PyProof.Rows
theorem Ca(a b:Str):(a++b).cps.toList=a.cps.toList++b.cps.toList:=cps_toList_append a b
def jl(sep:List Nat):List (List Nat)->List Nat
 |[]=>[]
 |[x]=>x
 |x::y::r=>x++sep++jl sep (y::r)
theorem Es(sep:Str):∀ts:List Str,(Str.join sep ts).cps.toList=jl sep.cps.toList (ts.map λt=>t.cps.toList)
 |[]=>rfl
 |[x]=>rfl
 |x::y::r=>by
  have e:Str.join sep (x::y::r)=x++sep++Str.join sep (y::r):=rfl;rw[e,Ca,Ca,Es sep (y::r)];rfl
theorem PB{c:Nat}:∀{x y A B:List Nat},c∉x->c∉y->x++c::A=y++c::B->x=y/\A=B
 |[],[],A,B,_,_,h=>⟨rfl,by simpa using h⟩
 |[],y::ys,A,B,_,hy,h=>by
  simp at h;exact absurd (by rw[h.1];exact D8) hy
 |x::xs,[],A,B,hx,_,h=>by
  simp at h;exact absurd (by rw[<-h.1];exact D8) hx
 |x::xs,y::ys,A,B,hx,hy,h=>by
  simp at h;obtain⟨e,h⟩:=h;obtain⟨e2,e3⟩:=PB (x:=xs) (y:=ys) (λz=>hx (E1 _ z)) (λz=>hy (E1 _ z)) h;exact⟨by rw[e,e2],e3⟩
theorem RP(c:Nat)(s:List Nat):∀(as bs:List (List Nat)),as≠[]->bs≠[]->(∀t∈as,c∉t)->(∀t∈bs,c∉t)->jl (c::s) as=jl (c::s) bs->as=bs
 |[],_,h,_,_,_,_=>absurd rfl h
 |_,[],_,h,_,_,_=>absurd rfl h
 |[x],[y],_,_,_,_,e=>by
  have e':x=y:=e;rw[e']
 |[x],y::z::r,_,_,ha,_,e=>by
  have e':x=y++c::s++jl (c::s) (z::r):=e;exact absurd (by rw[e'];simp) (ha x D8)
 |x::z::r,[y],_,_,_,hb,e=>by
  have e':x++c::s++jl (c::s) (z::r)=y:=e;exact absurd (by rw[<-e'];simp) (hb y D8)
 |x::x2::r,y::y2::r',_,_,ha,hb,e=>by
  have e':x++c::(s++jl (c::s) (x2::r))=y++c::(s++jl (c::s) (y2::r')):=by
   have:x++c::s++jl (c::s) (x2::r)=y++c::s++jl (c::s) (y2::r'):=e
   simpa using this
  obtain⟨e1,e2⟩:=PB (ha x D8) (hb y D8) e';have e3:=List.append_cancel_left e2;rw[e1,RP c s (x2::r) (y2::r') B1 B1 (λt ht=>ha t (E1 _ ht)) (λt ht=>hb t (E1 _ ht)) e3]
theorem Oh {as bs:List Str} (h:as.map (λt=>t.cps.toList)=bs.map λt=>t.cps.toList):as=bs:=by
 induction as generalizing bs with
 |nil=>cases bs with|nil=>rfl|cons=>simp at h
 |cons a r ih =>
  cases bs with
  |nil=>simp at h
  |cons b q =>
   simp at h;rw[Nu.ext (a:=a) (b:=b) (by simpa using h.1),ih (by simpa using h.2)]
theorem PX(c:Nat)(ts:List Str)(hne:ts≠[])(hf:∀t∈ts,c∉t.cps.toList):Txt.split (Str.join ⟨#[c]⟩ ts) ⟨#[c]⟩=ts:=by
 refine Oh (RP c [] _ _ ?_ ?_ ?_ ?_ ?_)
 ·intro h;have:=split_pos (Str.join ⟨#[c]⟩ ts) ⟨#[c]⟩;have h2:(Txt.split (Str.join ⟨#[c]⟩ ts) ⟨#[c]⟩).length=0:=by simpa using X8 List.length h
  lia
 ·simpa using hne
 ·intro t ht;obtain⟨p,hp,rfl⟩:=E4.mp ht;exact StrLaws.split_free _ c p hp
 ·intro t ht;obtain⟨p,hp,rfl⟩:=E4.mp ht;exact hf p hp
 ·have h:=X8 (λz:Str=>z.cps.toList) (StrLaws.join_split (Str.join ⟨#[c]⟩ ts) ⟨#[c]⟩);rw[Es,Es]at h;exact h
theorem part_at(c:Nat)(a b:Str)(h:c∉a.cps.toList):Txt.partition (a++⟨#[c]⟩++b) ⟨#[c]⟩=(a,⟨#[c]⟩,b):=by
 have hin:c∈(a++⟨#[c]⟩++b).cps.toList:=by rw[Ca,Ca];simp
 have hs:=StrLaws.partition_sum (a++⟨#[c]⟩++b) ⟨#[c]⟩;have hh:=partition_head (a++⟨#[c]⟩++b) ⟨#[c]⟩;have ho:=StrLaws.found_one (a++⟨#[c]⟩++b) c;rw[Z1 hin]at ho;have hp2:(Txt.partition (a++⟨#[c]⟩++b) ⟨#[c]⟩).2.1=⟨#[c]⟩:=by
  unfold Txt.partition;cases e:occurrences (a++⟨#[c]⟩++b) ⟨#[c]⟩ 0 (a++⟨#[c]⟩++b).length 1 with
  |nil=>rw[e]at ho;simp at ho
  |cons i l=>rfl
 have hp1:c∉(Txt.partition (a++⟨#[c]⟩++b) ⟨#[c]⟩).1.cps.toList:=by
  rcases hh with ⟨_,no⟩|⟨i,e,hA,no⟩
  ·obtain⟨j,hj⟩:=E8 hin;exact absurd ((StrLaws.subAt_one _ c j).mpr hj) (no j)
  ·rw[e];exact StrLaws.part_free _ c 0 i (by have:i+1<=_:=hA.1;lia) λk _ hk=>no k hk
 have e:(Txt.partition (a++⟨#[c]⟩++b) ⟨#[c]⟩).1.cps.toList++(Txt.partition (a++⟨#[c]⟩++b) ⟨#[c]⟩).2.1.cps.toList++(Txt.partition (a++⟨#[c]⟩++b) ⟨#[c]⟩).2.2.cps.toList=a.cps.toList++[c]++b.cps.toList:=by
  have e0:=X8 (λz:Str=>z.cps.toList) hs;rw[Ca,Ca,Ca,Ca]at e0;exact e0
 rw[hp2]at e;have e':(Txt.partition (a++⟨#[c]⟩++b) ⟨#[c]⟩).1.cps.toList++c::(Txt.partition (a++⟨#[c]⟩++b) ⟨#[c]⟩).2.2.cps.toList=a.cps.toList++c::b.cps.toList:=by simpa using e
 obtain⟨e1,e2⟩:=PB hp1 h e';exact Prod.ext (Nu.ext e1) (Prod.ext hp2 (Nu.ext e2))
theorem II{n:Int}(h0:0<=n)(h1:n<=9):(Str.ofString (toString n))=(⟨#[48+n.toNat]⟩:Str):=by
 obtain⟨m,rfl⟩:=M4 h0;exact(show ∀m:Nat,m<10->(Str.ofString (toString (m:Int)))=(⟨#[48+(m:Int).toNat]⟩:Str) by decide +kernel) m A1
end Tx
namespace Tx
open PySem PySem.Builtin PySem.Builtin.Str PyProof.Rows
theorem RO:∀ts:List (List Nat),jl [] ts=ts.flatten
 |[]=>rfl
 |[x]=>by simp[jl]
 |x::y::r=>by
  show x++[]++jl [] (y::r)=_;rw[RO (y::r)];simp
theorem Te(sep:Str)(m:Nat):∀(l:List Str)(acc:Nat),(∀t∈l,t.length<=m)->l.foldl (λa t=>a+t.length+sep.length) acc<=acc+l.length*(m+sep.length)
 |[],acc,_=>by simp
 |t::r,acc,h=>by
  have h1:=h t D8;have h2:=Te sep m r (acc+t.length+sep.length) λz hz=>h z (E1 _ hz);rw[Q7,E7,M6];lia
theorem Mn{sep:Str}{l:List Str}(m:Nat)(h:∀t∈l,t.length<=m)(hs:l.length*(m+sep.length)<=100000):JoinOk sep l=true:=by
 unfold JoinOk;have h2:=Te sep m l 0 h;have e:l.toArray.foldl (λa t=>a+t.length+sep.length) 0=l.foldl (λa t=>a+t.length+sep.length) 0:=by simp
 rw[e];have:tooLong (l.foldl (λa t=>a+t.length+sep.length) 0)=false:=by
  unfold tooLong;refine Z2 ?_;have:(100000:Nat)<=sizeLine:=by decide
  lia
 rw[this];rfl
theorem app_len(a b:Str):(a++b).length=a.length+b.length:=by
 rw[Nu.len,Nu.len,Nu.len,Ca,B8]
end Tx
namespace Tx
open PySem PySem.Builtin PySem.Builtin.Str PyProof.Rows
theorem Wo(x:Str)(c d k:Nat)(h1:x.cps.toList[k]?=some c)(h2:x.cps.toList[k+1]?=some d):StrLaws.At x ⟨#[c,d]⟩ x.length k:=by
 have l:k+1<x.cps.toList.length:=(B7.mp h2).1;refine⟨?_,?_⟩
 ·show k+2<=x.length;rw[Nu.len];lia
 ·rw[StrLaws.subAt_eq];show((x.cps.toList.drop k).take 2==[c,d])=true;have e1:x.cps.toList.drop k=c::d::x.cps.toList.drop (k+2):=by
   rw[N5 A1,(B7.mp h1).2,N5 l,(B7.mp h2).2]
  rw[e1];simp
def Led(c d:Nat)(l:List Nat):Prop:=∀k:Nat,l[k]?=some c->l[k+1]?=some d
theorem MQ{x:Str}{c d a b:Nat}(hx:Led c d x.cps.toList)(hb:b<=x.length)(hn:∀k,a<=k->k<b->¬StrLaws.At x ⟨#[c,d]⟩ x.length k):c∉(strSub x a b).cps.toList:=by
 intro hm;rw[StrLaws.strSub_toList]at hm;obtain⟨j,hj⟩:=E8 hm;have hlt:j<b-a:=by
  have h1:j<((x.cps.toList.drop a).take (b-a)).length:=(B7.mp hj).1;rw[J7]at h1;lia
 rw[U3 hlt,T6]at hj;exact hn (a+j) A1 A1 (Wo x c d (a+j) hj (hx _ hj))
theorem LJ{x:Str}{c d:Nat}(hx:Led c d x.cps.toList):∀(cuts:List Nat)(a f:Nat),StrLaws.ChainG x ⟨#[c,d]⟩ x.length a cuts f->(∀k,f<=k->¬StrLaws.At x ⟨#[c,d]⟩ x.length k)->∀p∈StrLaws.partsFrom x 2 a cuts,c∉p.cps.toList
 |[],a,f,h,hn,p,hp=>by
  have e:f=a:=h;subst e;rw[C7.mp hp];exact MQ hx (C8 _) λk h1 _=>hn k h1
 |g::r,a,f,h,hn,p,hp=>by
  rcases D6.mp hp with rfl|hp'
  ·exact MQ hx (by have:g+2<=_:=h.2.1.1;lia) h.2.2.1
  ·exact LJ hx r _ f h.2.2.2 hn p hp'
theorem kind_le(x:Str):¬Builtin.Str.strKind x<Builtin.Str.strKind (⟨#[59,32]⟩:Str):=by
 have e:Builtin.Str.strKind (⟨#[59,32]⟩:Str)=1:=by simp[Builtin.Str.strKind]
 rw[e];unfold Builtin.Str.strKind;split
 ·decide
 ·split<;>decide
theorem PY{x:Str}(hx:Led 59 32 x.cps.toList):∀p∈Txt.split x ⟨#[59,32]⟩,59∉p.cps.toList:=by
 obtain⟨f,hG,hn⟩:=StrLaws.occ_tight x ⟨#[59,32]⟩ A3;have whole:59∈x.cps.toList->∃k,StrLaws.At x ⟨#[59,32]⟩ x.length k:=λhm=>by
  obtain⟨j,hj⟩:=E8 hm;exact⟨j,Wo x 59 32 j hj (hx j hj)⟩
 unfold Txt.split;split
 ·rename_i hc;intro p hp;rw[C7.mp hp];intro hm;obtain⟨k,hk⟩:=whole hm;have h2:k+2<=x.length:=hk.1;rw[Bool.or_eq_true,A5c,A5c]at hc;rcases hc with h|h
  ·have h3:x.length<2:=h;lia
  ·exact kind_le x h
 ·split
  ·rename_i he;intro p hp;rw[C7.mp hp];intro hm;obtain⟨k,hk⟩:=whole hm;rw[List.isEmpty_iff.mp he]at hG;have ef:f=0:=hG;exact hn k A1 hk
  ·rw[StrLaws.partsBetween_eq];exact LJ hx _ 0 f hG hn
theorem VR{c d:Nat}(hcd:c≠d):∀ts:List (List Nat),(∀t∈ts,c∉t)->Led c d (jl [c,d] ts)
 |[],_=>λk h=>by simp[jl]at h
 |[x],hf=>λk h=>absurd (D7 (show x[k]?=some c from h)) (hf x D8)
 |x::y::r,hf=>λk h=>by
  have ih:=VR hcd (y::r) λt ht=>hf t (E1 _ ht);have e:jl [c,d] (x::y::r)=x++(c::d::jl [c,d] (y::r)):=by
   show x++[c,d]++jl [c,d] (y::r)=_;simp
  rw[e]at h⊢;by_cases h1:k<x.length
  ·rw[F6 h1]at h;exact absurd (D7 h) (hf x D8)
  ·rw[E3 A1]at h;rw[E3 A1];obtain⟨m,hm⟩:∃m,k-x.length=m:=⟨_,rfl⟩
   rw[show k+1-x.length=m+1 by lia];rw[hm]at h;cases m with
   |zero=>rfl
   |succ m =>
    cases m with
    |zero =>
     have:some d=some c:=h;exact absurd (X9 this).symm hcd
    |succ m =>
     rw[U9,U9]at h⊢;exact ih m h
theorem LI(ts:List Str)(hne:ts≠[])(hf:∀t∈ts,59∉t.cps.toList):Txt.split (Str.join ⟨#[59,32]⟩ ts) ⟨#[59,32]⟩=ts:=by
 have led:Led 59 32 (Str.join ⟨#[59,32]⟩ ts).cps.toList:=by
  rw[Es];refine VR A3 _ λt ht=>?_;obtain⟨p,hp,rfl⟩:=E4.mp ht;exact hf p hp
 refine Oh (RP 59 [32] _ _ ?_ ?_ ?_ ?_ ?_)
 ·intro h;have:=split_pos (Str.join ⟨#[59,32]⟩ ts) ⟨#[59,32]⟩;have h2:(Txt.split (Str.join ⟨#[59,32]⟩ ts) ⟨#[59,32]⟩).length=0:=by simpa using X8 List.length h
  lia
 ·simpa using hne
 ·intro t ht;obtain⟨p,hp,rfl⟩:=E4.mp ht;exact PY led p hp
 ·intro t ht;obtain⟨p,hp,rfl⟩:=E4.mp ht;exact hf p hp
 ·have h:=X8 (λz:Str=>z.cps.toList) (StrLaws.join_split (Str.join ⟨#[59,32]⟩ ts) ⟨#[59,32]⟩);rw[Es,Es]at h;exact h
end Tx
namespace L2
open PySem PySem.W PySem.Spec PyProof.Rows
section
variable{X:Cx}{CX:CXT}{k:Nat}{ps:List Str}{sp:Sp}{E:XK}{x:Str}{p pos:Pos}{e:Expr}{es:List Expr}{t:TA}{S:St->Prop}
end
section
variable{X:Cx}
end
theorem NS(d:Addr)(hd:(d==sysModules)=false):Meets (Builtin.«dict.__len__» {pos:=[Value.ref d]}) λ_ R s=>∃o es ep,s.heap.get? d=some o/\o.data=Data.dict es ep/\R (Except.ok (Flow.ret (Value.int (es.size:Int) s.toks))) {s with toks:=s.toks+1}:=by
 rintro prog w A R s ⟨o,es,ep,ho,hdat,h⟩;show wpAny (model prog w) A.in1 (do
  let n <-dictSize d;let m <-Builtin.Dict.pendingCount d
  retInt (↑n+↑m)) _ _ s
 refine Z0 (Z0 (wpAny_dictEntries ho hdat (X7 (Z0 (wpAny_pendingCount_other hd (A0b (wpAny_ret_mkInt (Q:=λv s'=>R (Except.ok (Flow.ret v)) s') ?_) (λfin s' ⟨v,e,q⟩=>by subst e;exact q) (λ_ _ x=>x)))))));show R (Except.ok (Flow.ret (Value.int ((es.size:Int)+((0:Nat):Int)) s.toks))) _;rw[show((es.size:Int)+((0:Nat):Int))=(es.size:Int) by lia];exact h
section
variable{X:Cx}
theorem Uz:Fy X (.builtin "len") (λxs H Q=>∃a kvs,xs=[V.ref a]/\Rd H a (.dT kvs)/\Q (.int kvs.length) H):=by
 intro pins s σ H xs us Q I r h;obtain⟨a,kvs,rfl,ha,q⟩:=h;obtain⟨u,rfl,ru⟩:=LF r;cases ru;obtain⟨z,y,xs,rel,dd⟩:=LR I.hok ha;have ty:=dd.typeIs;obtain⟨o,es,ep,h1,h2,h3,h4,h5⟩:=dd;have hz:es.size=kvs.length:=by
  have:=X8 List.length h4;rw[B6,D9]at this;rw[this,X5 rel]
 rw[sizeLine_eq]at z;refine call_len_meets (n:=(kvs.length:Int)) ty F.slot_dict_len F.entry_dict_len (F.args_dict_len_1 _) (NS a y) A1 A1 (λQ' q'=>⟨o,es,ep,h1,h3,?_⟩) ⟨.int kvs.length,H,I.tok _,⟨_,rfl⟩,q⟩;rw[hz];exact q'
end
section
variable{X:Cx}
theorem TJ(hu:X.A.units+64<cLine):OpR X (compareOp .NotEq) (λx y H Q=>∃(a b:Addr)(xs:List V),x=.ref a/\y=.ref b/\SqL X.K H a xs/\SqL X.K H b []/\Q (.bl (!decide (xs.length=0))) H):=by
 intro pins s σ H x y v u Q I rx ry h;obtain⟨a,b,xs,rfl,rfl,h1,h2,q⟩:=h;cases rx;cases ry;obtain⟨is,r1,p1,_⟩:=I.list h1;obtain⟨ys,r2,p2,_⟩:=I.list h2;cases r2;have hl:=r1.length;cases xs with
 |nil =>
  cases r1;exact PySem.SeqAt.RcNeAt.lists (e:=λ_=>true) p1.isList p2.isList rfl A1 (λj h1 h2=>absurd h1 (S6 _)) _ _ _ _ ⟨.bl _,H,I,rfl,q⟩
 |cons x xs =>
  cases is with
  |nil=>cases hl
  |cons i is=>exact PySem.SeqAt.RcNeAt.lists_lengths p1.isList p2.isList rfl A1 _ _ _ _ ⟨.bl _,H,I,rfl,q⟩
end
section
variable{X:Cx}
theorem Vn{K:PySem.W.Frag}{tg l:Expr}{tl:TE}(h:X.K=K)(hl:PE X l tl):PI X tg l (iList K tl):=h▸Bc hl
end
end L2
namespace L2
open PySem PySem.W PySem.Spec PyProof.Rows
section
variable{X:Cx}{pins:List (Addr×Obj)}{σ:St}{H H':Hp}{s:Shared}{k:Nat}{f b:Addr}{fd:FuncData}{ps:List Str}
end
end L2
namespace PyProof.Rows
open PySem
def Pt:Bool->Keyed->Array Keyed->Nat->Nat->Nat->StateT SortSt Sem (Option Nat):=sortPriv% PySem.Builtin.gallop
section
variable{prog:Program}{w:World}{A:Around}{E:Value->Shared->Prop}{s:Shared}
def beyE(left:Bool)(key:Keyed)(arr:Array Keyed)(base i:Nat):StateT SortSt Sem (Option Bool):=elem' arr (base+i) >>= λx=>if left=true then lt' x key else lt' key x >>= λr=>pure (r.map λb=>!b)
def BeyOk(prog:Program)(w:World)(A:Around)(E:Value->Shared->Prop)(s:Shared)(left:Bool)(key:Keyed)(st:SortSt)(x:Keyed)(b:Bool):Prop :=
 (left=true->∀Q:Option Bool->SortSt->Prop,Q (some b) st->wpS (model prog w) A E s (lt' x key) Q st)/\(left=false->∀Q:Option Bool->SortSt->Prop,Q (some (!b)) st->wpS (model prog w) A E s (lt' key x) Q st)
theorem NA{left:Bool}{key:Keyed}{arr:Array Keyed}{base n i:Nat}{st:SortSt}{B:Nat->Bool}{Q:Option Bool->SortSt->Prop}(hz:base+n<=arr.size)(hB:∀i x,i<n->arr[base+i]?=some x->BeyOk prog w A E s left key st x (B i))(hi:i<n)(h:Q (some (B i)) st):wpS (model prog w) A E s (beyE left key arr base i) Q st:=by
 unfold beyE;have hl:base+i<arr.size:=by omega
 refine Z4 ?_;rw[elem'_eq,C9 hl];refine Z5 ?_;obtain⟨h1,h2⟩:=hB i arr[base+i] hi (C9 hl);cases left with
 |true =>
  rw[Z6 rfl];exact h1 rfl _ h
 |false =>
  rw[Z3 B1];refine Z4 (h2 rfl _ (Z5 ?_));show Q (some (!!B i)) st;rw[Bool.not_not];exact h
theorem up_ok{γ:Type}{f:Nat->(Option γ×Nat×Nat)->StateT SortSt Sem (ForInStep (Option γ×Nat×Nat))}{m n:Nat}{C:Nat->Bool}{st:SortSt}(h1:m<=n+1)
  (hs:∀x l o Q',(m<=o->Q' (.done (none,l,o)) st)->(o<m->C o=true->Q' (.yield (none,o,2*o+1)) st)->(o<m->C o=false->Q' (.done (none,l,o)) st)->wpS (model prog w) A E s (f x (none,l,o)) Q' st) :
  wpS (model prog w) A E s (forIn [0:n] (none,0,1) f) (λr st'=>st'=st/\∃l o,r=(none,l,o)/\l<o/\(l=0\/(l<m/\C l=true))/\(m<=o\/C o=false)) st:=by
 refine K5 (I:=λx r st'=>st'=st/\∃l o,r=(none,l,o)/\x<o/\l<o/\(l=0\/(l<m/\C l=true))) ?_ ?_ ⟨rfl,0,1,rfl,by omega,by omega,.inl rfl⟩
 ·rintro x c st' _ _ ⟨rfl,l,o,rfl,hx,hl,hc⟩;refine hs x l o _ (λz=>?_) (λz y=>?_) (λz y=>?_)
  ·exact⟨rfl,l,o,rfl,hl,hc,.inl z⟩
  ·exact⟨rfl,o,2*o+1,rfl,by omega,by omega,.inr ⟨z,y⟩⟩
  ·exact⟨rfl,l,o,rfl,hl,hc,.inr y⟩
 ·rintro c st' ⟨rfl,l,o,rfl,hx,hl,hc⟩;exact⟨rfl,l,o,rfl,hl,hc,.inl B0⟩
theorem Wm{γ:Type}{f:Nat->(Option γ×Nat×Nat)->StateT SortSt Sem (ForInStep (Option γ×Nat×Nat))}{n lo hi:Nat}{B:Nat->Bool}{st:SortSt}(hn:hi<=n)(hl:lo<=hi)(mono:∀i j,i<=j->j<n->B j=true->B i=true)(h1:∀i,i<lo->B i=true)(h2:∀i,hi<=i->i<n->B i=false)
  (hs:∀x l h Q',(h<=l->Q' (.done (none,l,h)) st)->(l<h->h<=n->B (l+(h-l)/2)=true->Q' (.yield (none,l+(h-l)/2+1,h)) st)->(l<h->h<=n->B (l+(h-l)/2)=false->Q' (.yield (none,l,l+(h-l)/2)) st)->(l<h->h<=n)->wpS (model prog w) A E s (f x (none,l,h)) Q' st) :
  wpS (model prog w) A E s (forIn [0:n] (none,lo,hi) f) (λr st'=>st'=st/\∃l h,r=(none,l,h)/\h<=n/\(∀i,i<h->B i=true)/\(∀i,h<=i->i<n->B i=false)) st:=by
 refine K5 (I:=λx r st'=>st'=st/\∃l h,r=(none,l,h)/\l<=h/\h-l<=n-x/\h<=n/\(∀i,i<l->B i=true)/\(∀i,h<=i->i<n->B i=false)) ?_ ?_ ⟨rfl,lo,hi,rfl,hl,by omega,hn,h1,h2⟩
 ·rintro x c st' _ hx ⟨rfl,l,h,rfl,lh,me,hh,i1,i2⟩;refine hs x l h _ (λz=>?_) (λz _ y=>?_) (λz _ y=>?_) (λ_=>hh)
  ·exact⟨rfl,l,h,rfl,hh,λi hi=>i1 i B0,i2⟩
  ·exact⟨rfl,_,h,rfl,by omega,by omega,hh,λi hi=>mono i _ B0 B0 y,i2⟩
  ·refine⟨rfl,l,_,rfl,by omega,by omega,by omega,i1,λi hi hn=>?_⟩;cases e:B i with
   |false=>rfl
   |true=>rw[mono _ i hi hn e]at y;cases y
 ·rintro c st' ⟨rfl,l,h,rfl,lh,me,hh,i1,i2⟩;exact⟨rfl,l,h,rfl,hh,λi hi=>i1 i B0,i2⟩
theorem Oq{left:Bool}{key:Keyed}{arr:Array Keyed}{base n hint:Nat}{st:SortSt}{B:Nat->Bool}{Q:Option Nat->SortSt->Prop}(hz:base+n<=arr.size)(hh:hint<n)(hB:∀i x,i<n->arr[base+i]?=some x->BeyOk prog w A E s left key st x (B i))(mono:∀i j,i<=j->j<n->B j=true->B i=true)(k:∀h,h<=n->(∀i,i<h->B i=true)->(∀i,h<=i->i<n->B i=false)->Q (some h) st):wpS (model prog w) A E s (Pt left key arr base n hint) Q st:=by
 have monoF:∀i j,i<=j->j<n->B i=false->B j=false:=λi j h1 h2 z=>by
  cases e:B j with
  |false=>rfl
  |true=>rw[mono i j h1 h2 e]at z;cases z
 refine Z4 ?_;refine NA (i:=hint) hz hB hh ?_;dsimp only;cases hb:B hint with
 |true =>
  rw[Z6 rfl];refine Z4 (A0f (up_ok (m:=n-hint) (C:=λo=>B (hint+o)) B0 ?_) ?_)
  ·intro x l o Q' q1 q2 q3;dsimp only;by_cases z:o ≥ n-hint
   ·rw[Z6 z];exact Z5 (q1 z)
   rw[Z3 z];refine Z4 (NA (i:=hint+o) hz hB B0 ?_);dsimp only;cases e:B (hint+o)with
   |true=>exact Z5 (q2 B0 e)
   |false=>exact Z5 (q3 B0 e)
  ·rintro r st' ⟨rfl,l,o,rfl,lo,hl,ho⟩;dsimp only;refine Z4 (A0f (Wm (lo:=hint+l+1) (hi:=hint+min o (n-hint)) B0 ?_ mono ?_ ?_ ?_) ?_)
   ·rcases hl with z|z<;>omega
   ·intro i hi;rcases hl with z|z
    ·exact mono i hint B0 hh hb
    ·exact mono i (hint+l) B0 B0 z.2
   ·intro i hi hn;rcases ho with z|z
    ·omega
    ·by_cases y:n-hint<=o
     ·omega
     ·exact monoF (hint+o) i B0 hn z
   ·intro x l h Q' q1 q2 q3 q4;dsimp only;by_cases z:l ≥ h
    ·rw[Z6 z];exact Z5 (q1 z)
    rw[Z3 z];have:=q4 B0;refine Z4 (NA (i:=l+(h-l)/2) hz hB B0 ?_);dsimp only;cases e:B (l+(h-l)/2)with
    |true=>exact Z5 (q2 B0 this e)
    |false=>exact Z5 (q3 B0 this e)
   ·rintro r st' ⟨rfl,l',h,rfl,hn,i1,i2⟩;exact Z5 (k h hn i1 i2)
 |false =>
  rw[Z3 B1];refine Z4 (A0f (up_ok (m:=hint+1) (C:=λo=>!B (hint-o)) B0 ?_) ?_)
  ·intro x l o Q' q1 q2 q3;dsimp only;by_cases z:o ≥ hint+1
   ·rw[Z6 z];exact Z5 (q1 z)
   rw[Z3 z];refine Z4 (NA (i:=hint-o) hz hB B0 ?_);dsimp only;cases e:B (hint-o)with
   |true=>exact Z5 (q3 B0 (by rw[e];rfl))
   |false=>exact Z5 (q2 B0 (by rw[e];rfl))
  ·rintro r st' ⟨rfl,l,o,rfl,lo,hl,ho⟩;dsimp only;have hlF:B (hint-l)=false:=by
    rcases hl with z|z
    ·rw[z];exact hb
    ·simpa using z.2
   refine Z4 (A0f (Wm (lo:=hint+1-min o (hint+1)) (hi:=hint-l) B0 ?_ mono ?_ ?_ ?_) ?_)
   ·rcases hl with z|z<;>omega
   ·intro i hi;rcases ho with z|z
    ·omega
    ·by_cases y:hint+1<=o
     ·omega
     ·have z:B (hint-o)=true:=by simpa using z
      exact mono i (hint-o) B0 B0 z
   ·intro i hi hn;exact monoF (hint-l) i hi hn hlF
   ·intro x l h Q' q1 q2 q3 q4;dsimp only;by_cases z:l ≥ h
    ·rw[Z6 z];exact Z5 (q1 z)
    rw[Z3 z];have:=q4 B0;refine Z4 (NA (i:=l+(h-l)/2) hz hB B0 ?_);dsimp only;cases e:B (l+(h-l)/2)with
    |true=>exact Z5 (q2 B0 this e)
    |false=>exact Z5 (q3 B0 this e)
   ·rintro r st' ⟨rfl,l',h,rfl,hn,i1,i2⟩;exact Z5 (k h hn i1 i2)
end
end PyProof.Rows
namespace PyProof.Rows
open PySem
def SoA(rk:Keyed->Nat)(a:Array Keyed):Prop:=∀(i j:Nat)(x y:Keyed),i<=j->a[i]?=some x->a[j]?=some y->rk x<=rk y
structure MI(rk:Keyed->Nat)(a b out:Array Keyed)(ia ib:Nat):Prop where
 pm:out.toList.Perm (a.toList.take ia++b.toList.take ib)
 so:out.toList.Pairwise (λx y=>rk x<=rk y)
 ba:∀o∈out.toList,∀i x,ia<=i->a[i]?=some x->rk o<=rk x
 bb:∀o∈out.toList,∀i x,ib<=i->b[i]?=some x->rk o<=rk x
section
variable{rk:Keyed->Nat}{a b out:Array Keyed}{ia ib:Nat}
theorem MI.nil:MI rk a b #[] 0 0:=⟨by simp,by simp,λo h=>by simp at h,λo h=>by simp at h⟩
theorem NZ{a:Array Keyed}{i:Nat}{x:Keyed}(h:a[i]?=some x):a.toList.take (i+1)=a.toList.take i++[x]:=by
 rw[F4,J6,h];rfl
theorem MI.pushA{x:Keyed}(h:MI rk a b out ia ib)(sa:SoA rk a)(e:a[ia]?=some x)(le:∀j y,ib<=j->b[j]?=some y->rk x<=rk y):MI rk a b (out.push x) (ia+1) ib:=by
 have me:∀o,o∈(out.push x).toList->o∈out.toList\/o=x:=λo ho=>by
  rw[J9,D1,C7]at ho;exact ho
 refine⟨?_,?_,λo ho i y hi ey=>?_,λo ho i y hi ey=>?_⟩
 ·rw[J9,NZ e,L5];refine(h.pm.append_right _).trans ?_;rw[L5];exact List.Perm.append_left _ List.perm_append_comm
 ·rw[J9,O9];refine⟨h.so,by simp,λo ho y hy=>?_⟩;rw[C7.mp hy];exact h.ba o ho ia x (C8 _) e
 ·rcases me o ho with z|rfl
  ·exact h.ba o z i y A1 ey
  ·exact sa ia i _ y A1 e ey
 ·rcases me o ho with z|rfl
  ·exact h.bb o z i y hi ey
  ·exact le i y hi ey
theorem MI.pushB{x:Keyed}(h:MI rk a b out ia ib)(sb:SoA rk b)(e:b[ib]?=some x)(le:∀j y,ia<=j->a[j]?=some y->rk x<=rk y):MI rk a b (out.push x) ia (ib+1):=by
 have me:∀o,o∈(out.push x).toList->o∈out.toList\/o=x:=λo ho=>by
  rw[J9,D1,C7]at ho;exact ho
 refine⟨?_,?_,λo ho i y hi ey=>?_,λo ho i y hi ey=>?_⟩
 ·rw[J9,NZ e,<-L5];exact h.pm.append_right _
 ·rw[J9,O9];refine⟨h.so,by simp,λo ho y hy=>?_⟩;rw[C7.mp hy];exact h.bb o ho ib x (C8 _) e
 ·rcases me o ho with z|rfl
  ·exact h.ba o z i y hi ey
  ·exact le i y hi ey
 ·rcases me o ho with z|rfl
  ·exact h.bb o z i y A1 ey
  ·exact sb ib i _ y A1 e ey
theorem QI{a:Array Keyed}{i k:Nat}(h:i+k<a.size):a.extract i (i+(k+1))=(a.extract i (i+k)).push a[i+k]:=by
 apply Array.toList_inj.mp;rw[J9,P9,P9];simp only[List.extract,N9];rw[F4];congr 1;rw[T6,J6,C9 h];rfl
theorem MI.addA(sa:SoA rk a)(h:MI rk a b out ia ib):∀{k:Nat},ia+k<=a.size->(∀i x,ia<=i->i<ia+k->a[i]?=some x->∀j y,ib<=j->b[j]?=some y->rk x<=rk y)->MI rk a b (out++a.extract ia (ia+k)) (ia+k) ib
 |0,_,_=>by rw[T1,P5 A1,O7];exact h
 |k+1,hk,le=>by
  have hl:ia+k<a.size:=by lia
  have:=(MI.addA sa h (k:=k) A1 (λi x h1 h2=>le i x h1 A1)).pushA sa (C9 hl) (le _ _ A1 A1 (C9 hl));rw[QI hl,U1];exact this
theorem MI.addB(sb:SoA rk b)(h:MI rk a b out ia ib):∀{k:Nat},ib+k<=b.size->(∀i x,ib<=i->i<ib+k->b[i]?=some x->∀j y,ia<=j->a[j]?=some y->rk x<=rk y)->MI rk a b (out++b.extract ib (ib+k)) ia (ib+k)
 |0,_,_=>by rw[T1,P5 A1,O7];exact h
 |k+1,hk,le=>by
  have hl:ib+k<b.size:=by lia
  have:=(MI.addB sb h (k:=k) A1 (λi x h1 h2=>le i x h1 A1)).pushB sb (C9 hl) (le _ _ A1 A1 (C9 hl));rw[QI hl,U1];exact this
structure Mgd(rk:Keyed->Nat)(a b out:Array Keyed):Prop where
 pm:out.toList.Perm (a.toList++b.toList)
 so:out.toList.Pairwise (λx y=>rk x<=rk y)
theorem MI.whole(h:MI rk a b out a.size b.size):Mgd rk a b out:=by
 refine⟨?_,h.so⟩;have:=h.pm;rw[show a.size=a.toList.length from D9.symm,show b.size=b.toList.length from D9.symm,F7,F7]at this;exact this
theorem MI.doneA(sa:SoA rk a)(h:MI rk a b out ia b.size)(ha:ia<=a.size):Mgd rk a b (out++a.extract ia a.size++b.extract b.size b.size):=by
 have h1:=MI.addA sa h (k:=a.size-ia) A1 λi x _ _ _ j y hj ey=>by
  rw[V9 A1]at ey;cases ey
 rw[show ia+(a.size-ia)=a.size by lia]at h1;have e:b.extract b.size b.size=#[]:=by simp
 rw[e,O7];exact h1.whole
theorem MI.doneB(sb:SoA rk b)(h:MI rk a b out a.size ib)(hb:ib<=b.size):Mgd rk a b (out++a.extract a.size a.size++b.extract ib b.size):=by
 have e:a.extract a.size a.size=#[]:=by simp
 rw[e,O7];have h1:=MI.addB sb h (k:=b.size-ib) A1 λi x _ _ _ j y hj ey=>by
  rw[V9 A1]at ey;cases ey
 rw[show ib+(b.size-ib)=b.size by lia]at h1;exact h1.whole
theorem MI.lastA(sa:SoA rk a)(sb:SoA rk b)(h:MI rk a b out ia ib)(ha:ia<=a.size)(hb:ib<=b.size)(le:∀i x,ib<=i->b[i]?=some x->∀j y,ia<=j->a[j]?=some y->rk x<=rk y):Mgd rk a b (out++b.extract ib b.size++a.extract ia a.size):=by
 have h1:=MI.addB sb h (k:=b.size-ib) A1 λi x h1 _=>le i x h1;rw[show ib+(b.size-ib)=b.size by lia]at h1;have h2:=MI.addA sa h1 (k:=a.size-ia) A1 λi x _ _ _ j y hj ey=>by
  rw[V9 A1]at ey;cases ey
 rw[show ia+(a.size-ia)=a.size by lia]at h2;exact h2.whole
end
end PyProof.Rows
namespace PyProof.Rows
open PySem
section
variable{prog:Program}{w:World}{A:Around}{E:Value->Shared->Prop}{s:Shared}{rk:Keyed->Nat}{S:Keyed->Prop}{κ:SortKind}
def NE(prog:Program)(w:World)(A:Around)(E:Value->Shared->Prop)(s:Shared)(rk:Keyed->Nat)(S:Keyed->Prop)(κ:SortKind):Prop:=∀x y st (Q:Option Bool->SortSt->Prop),S x->S y->kindOf st=κ->Q (some (decide (rk x<rk y))) st->wpS (model prog w) A E s (lt' x y) Q st
def Ei(st st':SortSt):Prop:=∃g,st'=SortSt.mk' (kindOf st) (arrOf st) (pendingOf st) g (failedOf st)
theorem Ei.refl(st:SortSt):Ei st st:=⟨gallopOf st,rfl⟩
theorem Ei.kind{st st':SortSt}(h:Ei st st'):kindOf st'=kindOf st:=by
 obtain⟨g,rfl⟩:=h;rfl
theorem CZ{arr:Array Keyed}{i:Nat}{x:Keyed}{st:SortSt}{Q:Keyed->SortSt->Prop}(e:arr[i]?=some x)(h:Q x st):wpS (model prog w) A E s (elem' arr i) Q st:=by
 rw[elem'_eq,e];exact Z5 h
theorem Lz{key:Keyed}{arr:Array Keyed}{base n hint:Nat}{st:SortSt}{Q:Option Nat->SortSt->Prop}(hl:NE prog w A E s rk S κ)(hk:kindOf st=κ)(Sk:S key)(Sa:∀(i:Nat) x,base<=i->i<base+n->arr[i]?=some x->S x)(so:∀(i j:Nat) x y,base<=i->i<=j->j<base+n->arr[i]?=some x->arr[j]?=some y->rk x<=rk y)(hz:base+n<=arr.size)(hh:hint<n)
  (k:∀h,h<=n->(∀(i:Nat) x,base<=i->i<base+h->arr[i]?=some x->rk x<=rk key)->(∀(i:Nat) x,base+h<=i->i<base+n->arr[i]?=some x->rk key<rk x)->Q (some h) st):wpS (model prog w) A E s (Pt false key arr base n hint) Q st:=by
 refine Oq (B:=λi=>(arr[base+i]?).any λx=>!decide (rk key<rk x)) hz hh (λi x hi e=>?_) (λi j ij jn z=>?_) λh hn h1 h2=>?_
 ·refine⟨(λz=>by cases z),λ_ Q' q=>hl _ _ _ _ Sk (Sa _ x B0 B0 e) hk ?_⟩;have:(some (decide (rk key<rk x)))=some (!((arr[base+i]?).any λx=>!decide (rk key<rk x))):=by rw[e];simp
  rw[this];exact q
 ·have e1:arr[base+i]?=some arr[base+i]:=C9 B0;have e2:arr[base+j]?=some arr[base+j]:=C9 B0;have:=so _ _ _ _ B0 (by omega:base+i<=base+j) B0 e1 e2;simp only[e1,e2,Option.any_some,Bool.not_eq_true',decide_eq_false_iff_not]at z⊢;omega
 ·refine k h hn (λi x b1 b2 e=>?_) (λi x b1 b2 e=>?_)
  ·have:=h1 (i-base) B0;rw[show base+(i-base)=i by omega,e]at this;simp only[Option.any_some,Bool.not_eq_true',decide_eq_false_iff_not]at this;omega
  ·have:=h2 (i-base) B0 B0;rw[show base+(i-base)=i by omega,e]at this
   simpa using this
theorem Nl{key:Keyed}{arr:Array Keyed}{base n hint:Nat}{st:SortSt}{Q:Option Nat->SortSt->Prop}(hl:NE prog w A E s rk S κ)(hk:kindOf st=κ)(Sk:S key)(Sa:∀(i:Nat) x,base<=i->i<base+n->arr[i]?=some x->S x)(so:∀(i j:Nat) x y,base<=i->i<=j->j<base+n->arr[i]?=some x->arr[j]?=some y->rk x<=rk y)(hz:base+n<=arr.size)(hh:hint<n)
  (k:∀h,h<=n->(∀(i:Nat) x,base<=i->i<base+h->arr[i]?=some x->rk x<rk key)->(∀(i:Nat) x,base+h<=i->i<base+n->arr[i]?=some x->rk key<=rk x)->Q (some h) st):wpS (model prog w) A E s (Pt true key arr base n hint) Q st:=by
 refine Oq (B:=λi=>(arr[base+i]?).any λx=>decide (rk x<rk key)) hz hh (λi x hi e=>?_) (λi j ij jn z=>?_) λh hn h1 h2=>?_
 ·refine⟨λ_ Q' q=>hl _ _ _ _ (Sa _ x B0 B0 e) Sk hk ?_,λz=>by cases z⟩;have:(some (decide (rk x<rk key)))=some ((arr[base+i]?).any λx=>decide (rk x<rk key)):=by rw[e];simp
  rw[this];exact q
 ·have e1:arr[base+i]?=some arr[base+i]:=C9 B0;have e2:arr[base+j]?=some arr[base+j]:=C9 B0;have:=so _ _ _ _ B0 (by omega:base+i<=base+j) B0 e1 e2;simp only[e1,e2,Option.any_some,A5c]at z⊢;omega
 ·refine k h hn (λi x b1 b2 e=>?_) (λi x b1 b2 e=>?_)
  ·have:=h1 (i-base) B0;rw[show base+(i-base)=i by omega,e]at this
   simpa using this
  ·have:=h2 (i-base) B0 B0;rw[show base+(i-base)=i by omega,e]at this
   simpa using this
end
end PyProof.Rows
namespace PyProof.Rows
open PySem
def VM:Array Keyed->Array Keyed->StateT SortSt Sem (Array Keyed):=sortPriv% PySem.Builtin.mergeLo
structure Lv(rk:Keyed->Nat)(a b out:Array Keyed)(ia ib:Nat):Prop where
 mi:MI rk a b out ia ib
 la:ia+1<a.size
 lb:ib<b.size
section
variable{prog:Program}{w:World}{A:Around}{E:Value->Shared->Prop}{s:Shared}{rk:Keyed->Nat}{S:Keyed->Prop}{κ:SortKind}
theorem wpI{M:Model}{α:Type}{c:Prop}[Decidable c]{p q:StateT SortSt Sem α}{Q:α->SortSt->Prop}{st:SortSt}(h1:c->wpS M A E s p Q st)(h2:¬c->wpS M A E s q Q st):wpS M A E s (if c then p else q) Q st:=by
 by_cases h:c
 ·rw[Z6 h];exact h1 h
 ·rw[Z3 h];exact h2 h
theorem wpE{M:Model}{α:Type}{x y:Nat}{p q:StateT SortSt Sem α}{Q:α->SortSt->Prop}{st:SortSt}(h1:x=y->wpS M A E s p Q st)(h2:x≠y->wpS M A E s q Q st):wpS M A E s (if(x==y)=true then p else q) Q st:=wpI (λz=>h1 (eq_of_beq z)) λz=>h2 λe=>z (beq_iff_eq.mpr e)
theorem wpJ{M:Model}{α β:Type}{c:Prop}[Decidable c]{jp:Unit->β->StateT SortSt Sem α}{x y:β}{Q:α->SortSt->Prop}{st:SortSt}(h:∀m,wpS M A E s (jp () m) Q st):wpS M A E s (if c then jp () x else jp () y) Q st:=wpI (λ_=>h x) λ_=>h y
theorem wpC{M:Model}{α:Type}{m:StateT SortSt Sem α}{Q:α->SortSt->Prop}{st:SortSt}(P:(α->SortSt->Prop)->SortSt->Prop)(h:P Q st)(k:P Q st->wpS M A E s m Q st):wpS M A E s m Q st:=k h
theorem wpR{M:Model}{α:Type}{m:StateT SortSt Sem α}{Q:α->SortSt->Prop}{st:SortSt}(F:(α->SortSt->Prop)->Prop)(h:F Q)(k:∀R,F R->wpS M A E s m R st):wpS M A E s m Q st:=k Q h
theorem RE{a b:Array Keyed}{st:SortSt}{Q:Array Keyed->SortSt->Prop}(hl:NE prog w A E s rk S κ)(hk:kindOf st=κ)(na:1<=a.size)(nb:1<=b.size)(Sa:∀(i:Nat) x,a[i]?=some x->S x)(Sb:∀(i:Nat) x,b[i]?=some x->S x)(sa:SoA rk a)(sb:SoA rk b)(first:∀x y,b[0]?=some x->a[0]?=some y->rk x<=rk y)(last:∀(i:Nat) x y,b[i]?=some x->a[a.size-1]?=some y->rk x<=rk y)(k:∀out st',Mgd rk a b out->Ei st st'->Q out st'):wpS (model prog w) A E s (VM a b) Q st:=by
 have atA:∀{i:Nat},i<a.size->∃x,a[i]?=some x:=λ{i} h=>⟨_,C9 h⟩
 have atB:∀{i:Nat},i<b.size->∃x,b[i]?=some x:=λ{i} h=>⟨_,C9 h⟩
 have lastL:∀{ia:Nat},ia+1=a.size->∀{ib:Nat}(i:Nat) x,ib<=i->b[i]?=some x->∀(j:Nat) y,ia<=j->a[j]?=some y->rk x<=rk y:=λ{ia} e {ib} i x _ ex j y hj ey=>by
  have jl:=(J8.mp ey).1;have:j=a.size-1:=by omega
  subst this;exact last i x y ex ey
 refine Z4 (wpS_lift (A2e ⟨rfl,?_⟩));obtain⟨x0,e0⟩:=atB nb;refine Z4 (CZ e0 ?_);have m0:MI rk a b #[x0] 0 1:=by
  have:=MI.pushB (MI.nil (rk:=rk) (a:=a) (b:=b)) sb e0 λj y _ ey=>by
   obtain⟨y0,f0⟩:=atA na;exact D4 (first _ _ e0 f0) (sa 0 j _ _ (J1 _) f0 ey)
  exact this
 refine wpE (λz1=>?_) λz1=>?_
 ·refine Z5 (k _ _ ?_ (Ei.refl st));rw[z1]at m0;have:=m0.doneA sa (J1 _);rw[<-z1]at this⊢;exact this
 refine wpE (λz2=>?_) λz2=>?_
 ·exact Z5 (k _ _ (m0.lastA sa sb (J1 _) nb (lastL z2)) (Ei.refl st))
 have z1:1<b.size:=by lia
 have z2:0+1<a.size:=by lia
 refine Z4 (A3d ?_);refine Z4 (A0f (K5 (I:=λx r st'=>Ei st st'/\∃out ia ib g,r=(none,out,ia,ib,g)/\Lv rk a b out ia ib/\x<=ia+ib) (Q:=λr st'=>Ei st st'/\∃o t,r=(some o,t)/\Mgd rk a b o) ?_ ?_ ⟨Ei.refl st,_,_,_,_,rfl,⟨m0,z2,z1⟩,J1 _⟩) ?_)
 ·rintro x c st1 _ hx ⟨sy,out,ia,ib,g,rfl,lv,le⟩;have hk1:kindOf st1=κ:=by rw[sy.kind,hk]
  refine Z4 (A0f (K5 (I:=λx r st'=>st'=st1/\∃out' ia' ib' ac bc,r=(none,out',ia',ib',ac,bc)/\Lv rk a b out' ia' ib'/\ia+ib+x<=ia'+ib') (Q:=λr st'=>st'=st1/\((∃o t,r=(some o,t)/\Mgd rk a b o)\/∃out' ia' ib' ac bc,r=(none,out',ia',ib',ac,bc)/\Lv rk a b out' ia' ib'/\ia+ib+1<=ia'+ib')) ?_ ?_ ⟨rfl,out,ia,ib,0,0,rfl,lv,C8 _⟩) ?_)
  ·rintro x' c' st2 _ hx' ⟨rfl,out',ia',ib',ac,bc,rfl,lv',le'⟩;obtain⟨mi0,la0,lb0⟩:=lv';obtain⟨y,ey⟩:=atB lb0;obtain⟨z,ez⟩:=atA (Nat.lt_of_succ_lt la0);refine Z4 (CZ ey (Z4 (CZ ez (Z4 (hl _ _ _ _ (Sb _ _ ey) (Sa _ _ ez) hk1 ?_)))));by_cases lt:rk y<rk z
   ·rw[Z1 lt];have mi:=mi0.pushB sb ey λj y' hj ey'=>by
     have:=sa _ _ _ _ hj ez ey';lia
    refine wpI (λ_=>Z4 (CZ ey (wpE (λq=>Z5 ⟨rfl,.inl ⟨_,_,rfl,?_⟩⟩) λq=>?_))) λh=>absurd rfl h
    ·rw[q]at mi⊢;exact mi.doneA sa A1
    have lv2:Lv rk a b (out'.push y) ia' (ib'+1):=⟨mi,la0,by lia⟩
    exact wpI (λ_=>Z5 ⟨rfl,.inr ⟨_,_,_,_,_,rfl,lv2,by lia⟩⟩) λ_=>Z5 ⟨rfl,_,_,_,_,_,rfl,lv2,by lia⟩
   ·rw[Z2 lt];have mi:=mi0.pushA sa ez λj y' hj ey'=>by
     have:=sb _ _ _ _ hj ey ey';lia
    refine wpI (λh=>nomatch h) λ_=>Z4 (CZ ez (wpE (λq=>Z5 ⟨rfl,.inl ⟨_,_,rfl,mi.lastA sa sb A1 (M0 lb0) (lastL q)⟩⟩) λq=>?_));have lv2:Lv rk a b (out'.push z) (ia'+1) ib':=⟨mi,by lia,lb0⟩
    exact wpI (λ_=>Z5 ⟨rfl,.inr ⟨_,_,_,_,_,rfl,lv2,by lia⟩⟩) λ_=>Z5 ⟨rfl,_,_,_,_,_,rfl,lv2,by lia⟩
  ·rintro c' st2 ⟨rfl,out',ia',ib',ac,bc,rfl,lv',le'⟩;have:=lv'.la;have:=lv'.lb;lia
  rintro r st2 ⟨rfl,⟨o,t,rfl,mg⟩|⟨out',ia',ib',ac,bc,rfl,lv',le'⟩⟩
  ·exact Z5 ⟨sy,_,_,rfl,mg⟩
  refine Z4 (wpS_lift (A2e ⟨rfl,?_⟩));refine Z4 (A0f (K5 (I:=λx r st'=>Ei st st'/\∃out2 ia2 ib2 g2 ac2 bc2,r=(none,out2,ia2,ib2,g2,ac2,bc2)/\Lv rk a b out2 ia2 ib2/\ia'+ib'+x<=ia2+ib2) (Q:=λr st'=>Ei st st'/\((∃o t,r=(some o,t)/\Mgd rk a b o)\/∃out2 ia2 ib2 g2 ac2 bc2,r=(none,out2,ia2,ib2,g2,ac2,bc2)/\Lv rk a b out2 ia2 ib2/\ia'+ib'<=ia2+ib2)) ?_ ?_ ⟨sy,out',ia',ib',_,_,_,rfl,lv',C8 _⟩) ?_)
  ·rintro x2 c2 st3 _ hx2 ⟨sy2,out2,ia2,ib2,g2,ac2,bc2,rfl,lv2,le2⟩;dsimp -zeta only
   extract_lets s1 out3 s2 ia3 s3 ib3 s4 m3 s5 ac3 bc3 ib4 jp m4
   refine wpR (λR=>(∀o t st',Mgd rk a b o->Ei st st'->R (.done (some o,t)) st')/\∀o i j g p q st',Lv rk a b o i j->ia'+ib'+(x2+1)<=i+j->Ei st st'->R (.done (none,o,i,j,g,p,q)) st'/\R (.yield (none,o,i,j,g,p,q)) st') ⟨λo t st' m s=>⟨s,.inl ⟨_,_,rfl,m⟩⟩,λo i j g p q st' l e s=>⟨⟨s,.inr ⟨_,_,_,_,_,_,rfl,l,by lia⟩⟩,s,_,_,_,_,_,_,rfl,l,e⟩⟩ λR ⟨Rd,Rn⟩=>?_;refine wpJ λm=>?_;have sy3:Ei st (SortSt.mk' (kindOf st3) (arrOf st3) (pendingOf st3) m (failedOf st3)):=by
    obtain⟨gg,rfl⟩:=sy2;exact⟨_,rfl⟩
   have hk3:=sy3.kind.trans hk;obtain⟨mi0,la2,lb2⟩:=lv2;obtain⟨y,ey⟩:=atB lb2;refine Z4 (A1a (Z4 (CZ ey (Z4 (Lz hl hk3 (Sb _ _ ey) (λi x _ _ e=>Sa i x e) (λi j x y _ h _=>sa i j x y h) A1 A1 λkk hkk h1 h2=>?_)))));dsimp -zeta only
   extract_lets ac4 jp2 out4 ia4
   have h2:∀(i:Nat) x,ia2+kk<=i->a[i]?=some x->rk y<rk x:=λi x hi ex=>h2 i x hi (by have:=(J8.mp ex).1;lia) ex;refine wpC (λQ st=>∀o i,MI rk a b o i ib2->i+1<a.size->ia2<=i->(∀(i':Nat) x,i<=i'->a[i']?=some x->rk y<rk x)->wpS (model prog w) A E s (jp2 () o i) Q st) (λo i mi2 li lei gt=>?_) λhj2=>?_
   ·have mi3:=mi2.pushB sb ey λj y' hj ey'=>M0 (gt j y' hj ey');refine Z4 (CZ ey (wpE (λq3=>Z5 (Rd _ _ _ ?_ sy3)) λq3=>?_))
    ·have q3:ib2+1=b.size:=q3;show Mgd rk a b (o.push y++a.extract i a.size++b.extract (ib2+1) b.size);rw[q3]at mi3⊢;exact mi3.doneA sa A1
    have q3:ib2+1≠b.size:=q3;obtain⟨z,ez⟩:=atA (i:=i) A1;refine Z4 (CZ ez (Z4 (Nl hl hk3 (Sa _ _ ez) (λi x _ _ e=>Sb i x e) (λi j x y _ h _=>sb i j x y h) (by show ib2+1+(b.size-(ib2+1))<=b.size;lia) (by show 0<b.size-(ib2+1);lia) λk2 hk2 h3 h4=>?_)));dsimp -zeta only
    extract_lets bc4 ia5 jp3 out5 ib5
    have hk2:k2<=b.size-(ib2+1):=hk2;have h4:∀(j:Nat) x,ib2+1+k2<=j->b[j]?=some x->rk z<=rk x:=λj x hj ex=>h4 j x hj (by have:=(J8.mp ex).1;show j<ib2+1+(b.size-(ib2+1));lia) ex;refine wpC (λQ st=>∀o j,MI rk a b o i j->ib2+1<=j->j<b.size->(∀(j':Nat) x,j<=j'->b[j']?=some x->rk z<=rk x)->wpS (model prog w) A E s (jp3 () o j) Q st) (λo j mi4 lj ljb ge=>?_) λhj3=>?_
    ·have mi5:=mi4.pushA sa ez ge;refine Z4 (CZ ez (wpE (λq5=>Z5 (Rd _ _ _ (mi5.lastA sa sb A1 A1 (lastL q5)) sy3)) λq5=>?_));have lv3:Lv rk a b _ (i+1) j:=⟨mi5,by lia,ljb⟩
     exact wpI (λ_=>Z5 (Rn _ _ _ _ _ _ _ lv3 A1 sy3).1) λ_=>Z5 (Rn _ _ _ _ _ _ _ lv3 A1 sy3).2
    ·clear_value jp3
     refine wpI (λzk=>?_) λzk=>?_
     ·have mi4:=MI.addB sb mi3 (k:=k2) A1 λi x h1' h2' ex j y' hj ey'=>D4 (M0 (h3 i x h1' h2' ex)) (sa _ _ _ _ hj ez ey');refine wpE (λq4=>Z5 (Rd _ _ _ ?_ sy3)) λq4=>hj3 _ _ mi4 A1 (by have q4:ib2+1+k2≠b.size:=q4;lia) h4;have q4:ib2+1+k2=b.size:=q4;show Mgd rk a b (o.push y++b.extract (ib2+1) (ib2+1+k2)++a.extract i a.size++b.extract (ib2+1+k2) b.size);have mi4':=mi4;rw[q4]at mi4'⊢;exact mi4'.doneA sa A1
     ·have zk:k2=0:=by lia
      subst zk;exact hj3 _ _ mi3 (C8 _) A1 h4
   ·clear_value jp2
    refine wpI (λzk=>?_) λzk=>?_
    ·have mi2:=MI.addA sa mi0 (k:=kk) A1 λi x h1' h2' ex j y' hj ey'=>D4 (h1 i x h1' h2' ex) (sb _ _ _ _ hj ey ey');refine wpE (λq1=>Z5 (Rd _ _ _ (mi2.lastA sa sb A1 A1 (lastL q1)) sy3)) λq1=>wpE (λq2=>Z5 (Rd _ _ _ ?_ sy3)) λq2=>hj2 _ _ mi2 (by have q1:ia2+kk+1≠a.size:=q1;have q2:ia2+kk≠a.size:=q2;lia) A1 h2;have q2:ia2+kk=a.size:=q2;show Mgd rk a b (out2++a.extract ia2 (ia2+kk)++a.extract (ia2+kk) a.size++b.extract ib2 b.size);have mi2':=mi2;rw[q2]at mi2'⊢;exact mi2'.doneB sb A1
    ·have zk:kk=0:=by lia
     subst zk;exact hj2 _ _ mi0 la2 (C8 _) h2
  ·rintro c2 st3 ⟨sy2,out2,ia2,ib2,g2,ac2,bc2,rfl,lv2,le2⟩;have:=lv2.la;have:=lv2.lb;lia
  rintro r st3 ⟨sy2,⟨o,t,rfl,mg⟩|⟨out2,ia2,ib2,g2,ac2,bc2,rfl,lv2,le2⟩⟩
  ·exact Z5 ⟨sy2,_,_,rfl,mg⟩
  refine Z4 (A1a (Z5 ?_));refine⟨?_,_,_,_,_,rfl,lv2,by show x+1<=ia2+ib2;lia⟩;obtain⟨gg,rfl⟩:=sy2;exact⟨_,rfl⟩
 ·rintro c st1 ⟨sy,out,ia,ib,g,rfl,lv,le⟩;have:=lv.la;have:=lv.lb;lia
 ·rintro r st1 ⟨sy,o,t,rfl,mg⟩;exact Z5 (k _ _ mg sy)
end
end PyProof.Rows
namespace PyProof.Rows
open PySem
structure MH(rk:Keyed->Nat)(a b out:Array Keyed)(na nb:Nat):Prop where
 pm:out.toList.Perm (a.toList.drop na++b.toList.drop nb)
 so:out.toList.Pairwise (λx y=>rk y<=rk x)
 ba:∀o∈out.toList,∀i x,i<na->a[i]?=some x->rk x<=rk o
 bb:∀o∈out.toList,∀i x,i<nb->b[i]?=some x->rk x<=rk o
section
variable{rk:Keyed->Nat}{a b out:Array Keyed}{na nb:Nat}
theorem MH.nil:MH rk a b #[] a.size b.size:=by
 refine⟨?_,by simp,λo h=>by simp at h,λo h=>by simp at h⟩;rw[show a.size=a.toList.length from D9.symm,show b.size=b.toList.length from D9.symm,List.drop_length,List.drop_length];exact A3a _
theorem LB{a:Array Keyed}{i:Nat}{x:Keyed}(h:a[i]?=some x):a.toList.drop i=x::a.toList.drop (i+1):=by
 obtain⟨hl,e⟩:=J8.mp h;rw[N5 (by rw[D9];exact hl),P0,e]
theorem MH.pushA{x:Keyed}(h:MH rk a b out (na+1) nb)(sa:SoA rk a)(e:a[na]?=some x)(le:∀j y,j<nb->b[j]?=some y->rk y<=rk x):MH rk a b (out.push x) na nb:=by
 have me:∀o,o∈(out.push x).toList->o∈out.toList\/o=x:=λo ho=>by
  rw[J9,D1,C7]at ho;exact ho
 refine⟨?_,?_,λo ho i y hi ey=>?_,λo ho i y hi ey=>?_⟩
 ·rw[J9,LB e,V1];exact List.perm_append_singleton x _ |>.trans (h.pm.cons x)
 ·rw[J9,O9];refine⟨h.so,by simp,λo ho y hy=>?_⟩;rw[C7.mp hy];exact h.ba o ho na x A1 e
 ·rcases me o ho with z|rfl
  ·exact h.ba o z i y A1 ey
  ·exact sa i na y _ A1 ey e
 ·rcases me o ho with z|rfl
  ·exact h.bb o z i y hi ey
  ·exact le i y hi ey
theorem MH.pushB{x:Keyed}(h:MH rk a b out na (nb+1))(sb:SoA rk b)(e:b[nb]?=some x)(le:∀j y,j<na->a[j]?=some y->rk y<=rk x):MH rk a b (out.push x) na nb:=by
 have me:∀o,o∈(out.push x).toList->o∈out.toList\/o=x:=λo ho=>by
  rw[J9,D1,C7]at ho;exact ho
 refine⟨?_,?_,λo ho i y hi ey=>?_,λo ho i y hi ey=>?_⟩
 ·rw[J9,LB e];exact(List.perm_append_singleton x _).trans ((h.pm.cons x).trans List.perm_middle.symm)
 ·rw[J9,O9];refine⟨h.so,by simp,λo ho y hy=>?_⟩;rw[C7.mp hy];exact h.bb o ho nb x A1 e
 ·rcases me o ho with z|rfl
  ·exact h.ba o z i y hi ey
  ·exact le i y hi ey
 ·rcases me o ho with z|rfl
  ·exact h.bb o z i y A1 ey
  ·exact sb i nb y _ A1 ey e
theorem QH{a:Array Keyed}{i j:Nat}{x:Keyed}(h:a[i]?=some x)(ij:i<j):(a.extract i j).reverse=(a.extract (i+1) j).reverse.push x:=by
 apply Array.toList_inj.mp;rw[J9,S4,S4,P9,P9];simp only[List.extract];rw[LB h,show j-i=(j-(i+1))+1 by lia,List.take_succ_cons,Y6]
theorem MH.addA(sa:SoA rk a){n:Nat}(h:MH rk a b out n nb)(hn:n<=a.size):∀{k t:Nat},t+k=n->(∀i x,t<=i->i<n->a[i]?=some x->∀j y,j<nb->b[j]?=some y->rk y<=rk x)->MH rk a b (out++(a.extract t n).reverse) t nb
 |0,t,e,_=>by
  have:t=n:=by lia
  subst this;rw[P5 A1,Array.reverse_empty,O7];exact h
 |k+1,t,e,le=>by
  have hl:t<a.size:=by lia
  have ex:a[t]?=some a[t]:=C9 hl;have:=(MH.addA sa h hn (k:=k) (t:=t+1) A1 (λi x h1 h2=>le i x A1 h2)).pushA sa ex (le t _ (C8 _) A1 ex);rw[QH ex A1,U1];exact this
theorem MH.addB(sb:SoA rk b){n:Nat}(h:MH rk a b out na n)(hn:n<=b.size):∀{k t:Nat},t+k=n->(∀i x,t<=i->i<n->b[i]?=some x->∀j y,j<na->a[j]?=some y->rk y<=rk x)->MH rk a b (out++(b.extract t n).reverse) na t
 |0,t,e,_=>by
  have:t=n:=by lia
  subst this;rw[P5 A1,Array.reverse_empty,O7];exact h
 |k+1,t,e,le=>by
  have hl:t<b.size:=by lia
  have ex:b[t]?=some b[t]:=C9 hl;have:=(MH.addB sb h hn (k:=k) (t:=t+1) A1 (λi x h1 h2=>le i x A1 h2)).pushB sb ex (le t _ (C8 _) A1 ex);rw[QH ex A1,U1];exact this
theorem MH.whole(h:MH rk a b out 0 0):Mgd rk a b out.reverse:=by
 refine⟨?_,?_⟩
 ·rw[S4];exact(List.reverse_perm _).trans h.pm
 ·rw[S4,List.pairwise_reverse];exact h.so
theorem MH.doneA(sa:SoA rk a)(h:MH rk a b out na 0)(hn:na<=a.size):Mgd rk a b (a.extract 0 na++b.extract 0 0++out.reverse):=by
 have h1:=(MH.addA sa h hn (k:=na) (t:=0) A1 λi x _ _ _ j y hj=>absurd hj A1).whole;have e:b.extract 0 0=#[]:=by simp
 rw[e,O7];rw[S5,R7]at h1;exact h1
theorem MH.doneB(sb:SoA rk b)(h:MH rk a b out 0 nb)(hn:nb<=b.size):Mgd rk a b (a.extract 0 0++b.extract 0 nb++out.reverse):=by
 have h1:=(MH.addB sb h hn (k:=nb) (t:=0) A1 λi x _ _ _ j y hj=>absurd hj A1).whole;have e:a.extract 0 0=#[]:=by simp
 rw[e,Array.empty_append];rw[S5,R7]at h1;exact h1
theorem MH.firstB(sa:SoA rk a)(sb:SoA rk b)(h:MH rk a b out na nb)(ha:na<=a.size)(hb:nb<=b.size)(le:∀i x,i<na->a[i]?=some x->∀j y,j<nb->b[j]?=some y->rk y<=rk x):Mgd rk a b (b.extract 0 nb++a.extract 0 na++out.reverse):=by
 have h1:=MH.addA sa h ha (k:=na) (t:=0) A1 λi x _ h2=>le i x h2;have h2:=(MH.addB sb h1 hb (k:=nb) (t:=0) A1 λi x _ _ _ j y hj=>absurd hj A1).whole;rw[S5,S5,R7,R7,<-Array.append_assoc]at h2;exact h2
end
end PyProof.Rows
namespace PyProof.Rows
open PySem
def VN:Array Keyed->Array Keyed->StateT SortSt Sem (Array Keyed):=sortPriv% PySem.Builtin.mergeHi
structure LvH(rk:Keyed->Nat)(a b out:Array Keyed)(na nb:Nat):Prop where
 mh:MH rk a b out na nb
 la:1<=na
 ka:na<=a.size
 lb:2<=nb
 kb:nb<=b.size
section
variable{prog:Program}{w:World}{A:Around}{E:Value->Shared->Prop}{s:Shared}{rk:Keyed->Nat}{S:Keyed->Prop}{κ:SortKind}
theorem RF{a b:Array Keyed}{st:SortSt}{Q:Array Keyed->SortSt->Prop}(hl:NE prog w A E s rk S κ)(hk:kindOf st=κ)(na:1<=a.size)(nb:1<=b.size)(Sa:∀(i:Nat) x,a[i]?=some x->S x)(Sb:∀(i:Nat) x,b[i]?=some x->S x)(sa:SoA rk a)(sb:SoA rk b)(first:∀x y,b[0]?=some x->a[0]?=some y->rk x<=rk y)(last:∀(i:Nat) x y,b[i]?=some x->a[a.size-1]?=some y->rk x<=rk y)(k:∀out st',Mgd rk a b out->Ei st st'->Q out st'):wpS (model prog w) A E s (VN a b) Q st:=by
 have atA:∀{i:Nat},i<a.size->∃x,a[i]?=some x:=λ{i} h=>⟨_,C9 h⟩
 have atB:∀{i:Nat},i<b.size->∃x,b[i]?=some x:=λ{i} h=>⟨_,C9 h⟩
 obtain⟨f0,ef0⟩:=atA na;have firstL:∀{nb:Nat},nb=1->∀{na:Nat}(i:Nat) x,i<na->a[i]?=some x->∀(j:Nat) y,j<nb->b[j]?=some y->rk y<=rk x:=λ{nb} e {na} i x _ ex j y hj ey=>by
  have:j=0:=by lia
  subst this;exact D4 (first _ _ ey ef0) (sa 0 i _ _ (J1 _) ef0 ex)
 refine Z4 (wpS_lift (A2e ⟨rfl,?_⟩));obtain⟨x0,e0⟩:=atA (i:=a.size-1) A1;refine Z4 (CZ e0 ?_);have m0:MH rk a b #[x0] (a.size-1) b.size:=by
  have:=MH.pushA (na:=a.size-1) (show MH rk a b #[] (a.size-1+1) b.size by rw[Q8 na];exact MH.nil) sa e0 λj y _ ey=>last j y x0 ey e0;exact this
 refine wpE (λz1=>Z5 (k _ _ ?_ (Ei.refl st))) λz1=>wpE (λz2=>Z5 (k _ _ (m0.firstB sa sb A1 (C8 _) (firstL z2)) (Ei.refl st))) λz2=>?_
 ·rw[z1]at m0⊢;exact m0.doneB sb (C8 _)
 refine Z4 (A3d ?_);refine Z4 (A0f (K5 (I:=λx r st'=>Ei st st'/\∃na nb out g,r=(none,na,nb,out,g)/\LvH rk a b out na nb/\na+nb+x<=a.size+b.size) (Q:=λr st'=>Ei st st'/\∃o t,r=(some o,t)/\Mgd rk a b o) ?_ ?_ ⟨Ei.refl st,_,_,_,_,rfl,⟨m0,by lia,by lia,by lia,C8 _⟩,by lia⟩) ?_)
 ·rintro x c st1 _ hx ⟨sy,na1,nb1,out,g,rfl,lv,le⟩;have hk1:kindOf st1=κ:=by rw[sy.kind,hk]
  refine Z4 (A0f (K5 (I:=λx r st'=>st'=st1/\∃na' nb' out' ac bc,r=(none,na',nb',out',ac,bc)/\LvH rk a b out' na' nb'/\na'+nb'+x<=na1+nb1) (Q:=λr st'=>st'=st1/\((∃o t,r=(some o,t)/\Mgd rk a b o)\/∃na' nb' out' ac bc,r=(none,na',nb',out',ac,bc)/\LvH rk a b out' na' nb'/\na'+nb'+1<=na1+nb1)) ?_ ?_ ⟨rfl,na1,nb1,out,0,0,rfl,lv,C8 _⟩) ?_)
  ·rintro x' c' st2 _ hx' ⟨rfl,na',nb',out',ac,bc,rfl,lv',le'⟩;obtain⟨mh,la',ka',lb',kb'⟩:=lv';obtain⟨y,ey⟩:=atB (i:=nb'-1) A1;obtain⟨z,ez⟩:=atA (i:=na'-1) A1;refine Z4 (CZ ey (Z4 (CZ ez (Z4 (hl _ _ _ _ (Sb _ _ ey) (Sa _ _ ez) hk1 ?_)))));by_cases lt:rk y<rk z
   ·rw[Z1 lt];have mi:=(show MH rk a b out' (na'-1+1) nb' by rw[Q8 la'];exact mh).pushA sa ez λj y' hj ey'=>by
     have:=sb j (nb'-1) _ _ A1 ey' ey;lia
    refine wpI (λ_=>Z4 (CZ ez (wpE (λq=>Z5 ⟨rfl,.inl ⟨_,_,rfl,?_⟩⟩) λq=>?_))) λh=>absurd rfl h
    ·rw[q]at mi⊢;exact mi.doneB sb A1
    have lv2:LvH rk a b (out'.push z) (na'-1) nb':=⟨mi,by lia,by lia,by lia,by lia⟩
    exact wpI (λ_=>Z5 ⟨rfl,.inr ⟨_,_,_,_,_,rfl,lv2,by lia⟩⟩) λ_=>Z5 ⟨rfl,_,_,_,_,_,rfl,lv2,by lia⟩
   ·rw[Z2 lt];have mi:=(show MH rk a b out' na' (nb'-1+1) by rw[Q8 A1];exact mh).pushB sb ey λj y' hj ey'=>by
     have:=sa j (na'-1) _ _ A1 ey' ez;lia
    refine wpI (λh=>nomatch h) λ_=>Z4 (CZ ey (wpE (λq=>Z5 ⟨rfl,.inl ⟨_,_,rfl,mi.firstB sa sb A1 A1 (firstL q)⟩⟩) λq=>?_));have lv2:LvH rk a b (out'.push y) na' (nb'-1):=⟨mi,by lia,by lia,by lia,by lia⟩
    exact wpI (λ_=>Z5 ⟨rfl,.inr ⟨_,_,_,_,_,rfl,lv2,by lia⟩⟩) λ_=>Z5 ⟨rfl,_,_,_,_,_,rfl,lv2,by lia⟩
  ·rintro c' st2 ⟨rfl,na',nb',out',ac,bc,rfl,lv',le'⟩;have:=lv'.la;have:=lv'.lb;have:=lv.ka;have:=lv.kb;lia
  rintro r st2 ⟨rfl,⟨o,t,rfl,mg⟩|⟨na',nb',out',ac,bc,rfl,lv',le'⟩⟩
  ·exact Z5 ⟨sy,_,_,rfl,mg⟩
  refine Z4 (wpS_lift (A2e ⟨rfl,?_⟩));refine Z4 (A0f (K5 (I:=λx r st'=>Ei st st'/\∃na2 nb2 out2 g2 ac2 bc2,r=(none,na2,nb2,out2,g2,ac2,bc2)/\LvH rk a b out2 na2 nb2/\na2+nb2+x<=na'+nb') (Q:=λr st'=>Ei st st'/\((∃o t,r=(some o,t)/\Mgd rk a b o)\/∃na2 nb2 out2 g2 ac2 bc2,r=(none,na2,nb2,out2,g2,ac2,bc2)/\LvH rk a b out2 na2 nb2/\na2+nb2<=na'+nb')) ?_ ?_ ⟨sy,na',nb',out',_,_,_,rfl,lv',C8 _⟩) ?_)
  ·rintro x2 c2 st3 _ hx2 ⟨sy2,na2,nb2,out2,g2,ac2,bc2,rfl,lv2,le2⟩;dsimp -zeta only
   extract_lets s1 na3 s2 nb3 s3 out3 s4 m3 s5 ac3 bc3 nb4 jp m4
   refine wpR (λR=>(∀o t st',Mgd rk a b o->Ei st st'->R (.done (some o,t)) st')/\∀i j o g p q st',LvH rk a b o i j->i+j+(x2+1)<=na'+nb'->Ei st st'->R (.done (none,i,j,o,g,p,q)) st'/\R (.yield (none,i,j,o,g,p,q)) st') ⟨λo t st' m s=>⟨s,.inl ⟨_,_,rfl,m⟩⟩,λi j o g p q st' l e s=>⟨⟨s,.inr ⟨_,_,_,_,_,_,rfl,l,by lia⟩⟩,s,_,_,_,_,_,_,rfl,l,e⟩⟩ λR ⟨Rd,Rn⟩=>?_;refine wpJ λm=>?_;have sy3:Ei st (SortSt.mk' (kindOf st3) (arrOf st3) (pendingOf st3) m (failedOf st3)):=by
    obtain⟨gg,rfl⟩:=sy2;exact⟨_,rfl⟩
   have hk3:=sy3.kind.trans hk;obtain⟨mh,la2,ka2,lb2,kb2⟩:=lv2;obtain⟨y,ey⟩:=atB (i:=nb2-1) A1;refine Z4 (A1a (Z4 (CZ ey (Z4 (Lz hl hk3 (Sb _ _ ey) (λi x _ _ e=>Sa i x e) (λi j x y _ h _=>sa i j x y h) (by show 0+na2<=a.size;lia) (by show na2-1<na2;lia) λt1 ht1 h1 h2=>?_)))));dsimp -zeta only
   extract_lets k4 ac4 jp2 out4 na4
   have ht1:t1<=na2:=ht1;have h1:∀(j:Nat) x,j<t1->a[j]?=some x->rk x<=rk y:=λj x hj ex=>h1 j x (J1 _) A1 ex;refine wpC (λQ st=>∀i o,MH rk a b o i nb2->1<=i->i<=na2->(∀(j:Nat) x,j<i->a[j]?=some x->rk x<=rk y)->wpS (model prog w) A E s (jp2 () i o) Q st) (λi o mi2 li lei ge=>?_) λhj2=>?_
   ·have mi3:=(show MH rk a b _ i (nb2-1+1) by rw[Q8 A1];exact mi2).pushB sb ey λj y' hj ey'=>ge j y' hj ey';refine Z4 (CZ ey (wpE (λq3=>Z5 (Rd _ _ _ (mi3.firstB sa sb A1 (by show nb2-1<=b.size;lia) (firstL q3)) sy3)) λq3=>?_));have q3:nb2-1≠1:=q3;obtain⟨z,ez⟩:=atA (i:=i-1) A1;refine Z4 (CZ ez (Z4 (Nl hl hk3 (Sa _ _ ez) (λi x _ _ e=>Sb i x e) (λi j x y _ h _=>sb i j x y h) (by show 0+(nb2-1)<=b.size;lia) (by show nb2-1-1<nb2-1;lia) λt2 ht2 h3 h4=>?_)));dsimp -zeta only
    extract_lets k5 bc4 na5 jp3 out5 nb5
    have ht2:t2<=nb2-1:=ht2;have h3:∀(j:Nat) x,j<t2->b[j]?=some x->rk x<=rk z:=λj x hj ex=>M0 (h3 j x (J1 _) A1 ex);refine wpC (λQ st=>∀j o,MH rk a b o i j->2<=j->j<=nb2-1->(∀(j':Nat) x,j'<j->b[j']?=some x->rk x<=rk z)->wpS (model prog w) A E s (jp3 () j o) Q st) (λj o mi4 lj ljb gz=>?_) λhj3=>?_
    ·have mi5:=(show MH rk a b _ (i-1+1) j by rw[Q8 li];exact mi4).pushA sa ez λj' y' hj ey'=>gz j' y' hj ey';refine Z4 (CZ ez (wpE (λq5=>Z5 (Rd _ _ _ ?_ sy3)) λq5=>?_))
     ·have q5:i-1=0:=q5;show Mgd rk a b (a.extract 0 (i-1)++b.extract 0 j++(o.push z).reverse);rw[q5]at mi5⊢;exact mi5.doneB sb A1
     have q5:i-1≠0:=q5;have lv3:LvH rk a b _ (i-1) j:=⟨mi5,by lia,by lia,lj,by lia⟩
     exact wpI (λ_=>Z5 (Rn _ _ _ _ _ _ _ lv3 A1 sy3).1) λ_=>Z5 (Rn _ _ _ _ _ _ _ lv3 A1 sy3).2
    ·clear_value jp3
     refine wpI (λzk=>?_) λzk=>?_
     ·have zk:nb2-1-t2 > 0:=zk;have mi4:=MH.addB sb mi3 A1 (k:=nb2-1-t2) (t:=t2) A1 λi' x h1' h2' ex j y' hj ey'=>D4 (sa j (i-1) _ _ A1 ey' ez) (h4 i' x A1 (by show i'<0+(nb2-1);lia) ex);refine wpE (λq4=>Z5 (Rd _ _ _ (mi4.firstB sa sb A1 (by show t2<=b.size;lia) (firstL q4)) sy3)) λq4=>wpE (λq6=>Z5 (Rd _ _ _ ?_ sy3)) λq6=>hj3 _ _ mi4 (by have q4:t2≠1:=q4;have q6:t2≠0:=q6;show 2<=t2;lia) ht2 h3;have q6:t2=0:=q6;show Mgd rk a b (a.extract 0 i++b.extract 0 t2++(o.push y++(b.extract t2 (nb2-1)).reverse).reverse);subst q6;exact mi4.doneA sa A1
     ·have zk:¬nb2-1-t2 > 0:=zk;have zk:t2=nb2-1:=by lia
      subst zk;exact hj3 _ _ mi3 (by show 2<=nb2-1;lia) (C8 _) h3
   ·clear_value jp2
    refine wpI (λzk=>?_) λzk=>?_
    ·have zk:na2-t1 > 0:=zk;have mi2:=MH.addA sa mh A1 (k:=na2-t1) (t:=t1) A1 λi x h1' h2' ex j y' hj ey'=>D4 (sb j (nb2-1) _ _ A1 ey' ey) (M0 (h2 i x A1 (by show i<0+na2;lia) ex));refine wpE (λq1=>Z5 (Rd _ _ _ ?_ sy3)) λq1=>hj2 _ _ mi2 (by have q1:t1≠0:=q1;show 1<=t1;lia) ht1 h1;have q1:t1=0:=q1;show Mgd rk a b (a.extract 0 t1++b.extract 0 nb2++(out2++(a.extract t1 na2).reverse).reverse);subst q1;exact mi2.doneB sb A1
    ·have zk:¬na2-t1 > 0:=zk;have zk:t1=na2:=by lia
     subst zk;exact hj2 _ _ mh la2 (C8 _) h1
  ·rintro c2 st3 ⟨sy2,na2,nb2,out2,g2,ac2,bc2,rfl,lv2,le2⟩;have:=lv2.la;have:=lv2.lb;have:=lv'.ka;have:=lv'.kb;lia
  rintro r st3 ⟨sy2,⟨o,t,rfl,mg⟩|⟨na2,nb2,out2,g2,ac2,bc2,rfl,lv2,le2⟩⟩
  ·exact Z5 ⟨sy2,_,_,rfl,mg⟩
  refine Z4 (A1a (Z5 ?_));refine⟨?_,_,_,_,_,rfl,lv2,by show na2+nb2+(x+1)<=a.size+b.size;lia⟩;obtain⟨gg,rfl⟩:=sy2;exact⟨_,rfl⟩
 ·rintro c st1 ⟨sy,na1,nb1,out,g,rfl,lv,le⟩;have:=lv.la;have:=lv.lb;lia
 ·rintro r st1 ⟨sy,o,t,rfl,mg⟩;exact Z5 (k _ _ mg sy)
end
end PyProof.Rows
namespace PyProof.Rows
open PySem
theorem SU(t:Nat):∀(l:List Keyed)(n:Nat)(arr:Array Keyed),t+n+l.length<=arr.size->((l.zipIdx n).foldl (λa (p:Keyed×Nat)=>a.setIfInBounds (t+p.2) p.1) arr).toList=arr.toList.take (t+n)++l++arr.toList.drop (t+n+l.length)
 |[],n,arr,h=>by simp
 |x::l,n,arr,h=>by
  rw[E7]at h;rw[List.zipIdx_cons,Q7,SU t l (n+1) _ (by rw[Array.size_setIfInBounds];lia)];have hl:t+n<arr.toList.length:=by rw[D9];lia
  rw[Array.toList_setIfInBounds,E7];have e1:(arr.toList.set (t+n) x).take (t+(n+1))=arr.toList.take (t+n)++[x]:=by
   rw[show t+(n+1)=(t+n)+1 by lia,F4,List.take_set_of_le (C8 _),V6 hl];rfl
  have e2:(arr.toList.set (t+n) x).drop (t+(n+1)+l.length)=arr.toList.drop (t+n+(l.length+1)):=by
   rw[List.drop_set_of_lt A1];congr 1;lia
  rw[e1,e2];simp
theorem Ud{t:Nat}{m arr:Array Keyed}(h:t+m.size<=arr.size):(m.toList.zipIdx.foldl (λa (p:Keyed×Nat)=>a.setIfInBounds (t+p.2) p.1) arr).toList=arr.toList.take t++m.toList++arr.toList.drop (t+m.size):=by
 have:=SU t m.toList 0 arr (by rw[D9];lia);rw[D9]at this;exact this
end PyProof.Rows
namespace PyProof.Rows
open PySem
def SoR(rk:Keyed->Nat)(arr:Array Keyed)(lo hi:Nat):Prop:=∀(i j:Nat)(x y:Keyed),lo<=i->i<=j->j<hi->arr[i]?=some x->arr[j]?=some y->rk x<=rk y
structure Mgr(rk:Keyed->Nat)(arr arr':Array Keyed)(lo hi:Nat):Prop where
 pm:arr'.toList.Perm arr.toList
 out:∀i:Nat,i<lo\/hi<=i->arr'[i]?=arr[i]?
 so:SoR rk arr' lo hi
section
variable{prog:Program}{w:World}{A:Around}{E:Value->Shared->Prop}{s:Shared}{rk:Keyed->Nat}{S:Keyed->Prop}{κ:SortKind}
theorem SoR.ext{arr:Array Keyed}{lo hi:Nat}(h:SoR rk arr lo hi)(hz:hi<=arr.size):SoA rk (arr.extract lo hi):=λi j x y ij ex ey=>by
 have jl:=(J8.mp ey).1;rw[R3]at jl;rw[R5]at ex ey;rw[Z6 A1]at ex ey;exact h (lo+i) (lo+j) x y A1 A1 A1 ex ey
theorem SoR.join{arr:Array Keyed}{lo mid hi:Nat}(h1:SoR rk arr lo mid)(h2:SoR rk arr mid hi)(h:∀(i j:Nat) x y,lo<=i->i<mid->mid<=j->j<hi->arr[i]?=some x->arr[j]?=some y->rk x<=rk y):SoR rk arr lo hi:=λi j x y li ij jh ex ey=>by
 by_cases a:j<mid
 ·exact h1 i j x y li ij a ex ey
 ·by_cases b:i<mid
  ·exact h i j x y li b A1 jh ex ey
  ·exact h2 i j x y A1 ij jh ex ey
theorem Mgr.same{arr:Array Keyed}{lo hi:Nat}(h:SoR rk arr lo hi):Mgr rk arr arr lo hi:=⟨A3a _,λ_ _=>rfl,h⟩
theorem laid_at{t:Nat}{m arr arr':Array Keyed}(h:t+m.size<=arr.size)(e:arr'.toList=arr.toList.take t++m.toList++arr.toList.drop (t+m.size))(i:Nat):arr'[i]?=if t<=i/\i<t+m.size then m[i-t]? else arr[i]?:=by
 rw[<-J6,e];have l1:(arr.toList.take t).length=t:=by rw[J7,D9];lia
 have l2:(arr.toList.take t++m.toList).length=t+m.size:=by rw[B8,l1,D9]
 by_cases a:i<t
 ·rw[Z3 A1,L5,F6 A1,List.getElem?_take,Z6 a,J6]
 ·by_cases b:i<t+m.size
  ·rw[Z6 A1,F6 A1,E3 A1,l1,J6]
  ·rw[Z3 A1,E3 A1,l2,T6,show t+m.size+(i-(t+m.size))=i by lia,J6]
theorem VJ{arr arr' m:Array Keyed}{lo t mid u hi:Nat}(b1:lo<=t)(b2:t<mid)(b3:mid<u)(b4:u<=hi)(hz:hi<=arr.size)(h1:SoR rk arr lo mid)(h2:SoR rk arr mid hi)(low:∀(i j:Nat) x y,lo<=i->i<t->mid<=j->j<hi->arr[i]?=some x->arr[j]?=some y->rk x<=rk y)(high:∀(i j:Nat) x y,lo<=i->i<mid->u<=j->j<hi->arr[i]?=some x->arr[j]?=some y->rk x<=rk y)(mg:Mgd rk (arr.extract t mid) (arr.extract mid u) m)(e:arr'.toList=arr.toList.take t++m.toList++arr.toList.drop (t+m.size)):Mgr rk arr arr' lo hi:=by
 have ms:m.size=u-t:=by
  have:=mg.pm.length_eq;rw[B8,D9,D9,D9,R3,R3]at this;lia
 have tm:t+m.size=u:=by lia
 have at':=laid_at (t:=t) (m:=m) (arr:=arr) (arr':=arr') A1 e;have ml:arr.extract t mid++arr.extract mid u=arr.extract t u:=by
  rw[Array.extract_append_extract];congr 1<;>lia
 have inm:∀{i:Nat}{x:Keyed},m[i]?=some x->∃j,t<=j/\j<u/\arr[j]?=some x:=λ{i x} ex=>by
  have hm:x∈m.toList:=by rw[<-J6]at ex;exact D7 ex
  have:=mg.pm.mem_iff.mp hm;rw[<-Array.toList_append,ml]at this;obtain⟨j,hj⟩:=E8 this;rw[J6,R5]at hj;split at hj
  ·exact⟨t+j,by lia,by lia,hj⟩
  ·cases hj
 refine⟨?_,λi hi'=>?_,λi j x y li ij jh ex ey=>?_⟩
 ·rw[e];have:arr.toList=arr.toList.take t++(arr.extract t u).toList++arr.toList.drop (t+m.size):=by
   rw[P9,tm,L5];simp only[List.extract];have:(arr.toList.drop t).take (u-t)++arr.toList.drop u=arr.toList.drop t:=by
    have:=O8 (u-t) (arr.toList.drop t);rw[List.drop_drop,show t+(u-t)=u by lia]at this;exact this
   rw[this,O8]
  rw (occs:=.pos [3]) [this];refine List.Perm.append_right _ (List.Perm.append_left _ ?_);rw[<-ml,Array.toList_append];exact mg.pm
 ·rw[at',Z3 A1]
 ·rw[at']at ex ey;by_cases ci:t<=i/\i<t+m.size
  ·rw[Z6 ci]at ex;by_cases cj:t<=j/\j<t+m.size
   ·rw[Z6 cj]at ey;by_cases q:i=j
    ·subst q;rw[ex]at ey;cases ey;exact C8 _
    ·have:=T8.mp mg.so (i-t) (j-t) (by rw[D9];lia) (by rw[D9];lia) A1;obtain⟨_,f1⟩:=J8.mp ex;obtain⟨_,f2⟩:=J8.mp ey;rw[P0,P0,f1,f2]at this;exact this
   ·rw[Z3 cj]at ey;obtain⟨k,k1,k2,ek⟩:=inm ex;by_cases q:k<mid
    ·exact high k j x y A1 q A1 jh ek ey
    ·exact h2 k j x y A1 A1 jh ek ey
  ·rw[Z3 ci]at ex;by_cases cj:t<=j/\j<t+m.size
   ·rw[Z6 cj]at ey;obtain⟨k,k1,k2,ek⟩:=inm ey;by_cases q:k<mid
    ·exact h1 i k x y li A1 q ex ek
    ·exact low i k x y li A1 A1 A1 ex ek
   ·rw[Z3 cj]at ey;by_cases q:i<t
    ·by_cases r:j<mid
     ·exact h1 i j x y li ij r ex ey
     ·exact low i j x y li q A1 jh ex ey
    ·exact h2 i j x y A1 ij jh ex ey
end
end PyProof.Rows
namespace PyProof.Rows
open PySem
section
variable{prog:Program}{w:World}{A:Around}{E:Value->Shared->Prop}{s:Shared}{rk:Keyed->Nat}{S:Keyed->Prop}{κ:SortKind}
theorem UH{st st':SortSt}{Q:PUnit->SortSt->Prop}(h:Q ⟨⟩ st'):wpS (model prog w) A E s (set st':StateT SortSt Sem PUnit) Q st:=by
 unfold wpS;rw[StateT.run_set];exact X7 ⟨rfl,h⟩
theorem RG{st:SortSt}{Q:Bool->SortSt->Prop}{i sa na pw sb nb pw':Nat}(hl:NE prog w A E s rk S κ)(hk:kindOf st=κ)(hf:failedOf st=none)(e1:(pendingOf st)[i]?=some (sa,na,pw))(e2:(pendingOf st)[i+1]?=some (sb,nb,pw'))(hab:sb=sa+na)(na1:1<=na)(nb1:1<=nb)(hz:sb+nb<=(arrOf st).size)(Sall:∀(i:Nat) x,(arrOf st)[i]?=some x->S x)(s1:SoR rk (arrOf st) sa sb)(s2:SoR rk (arrOf st) sb (sb+nb))
  (k:∀st',kindOf st'=κ->failedOf st'=none->pendingOf st'=((pendingOf st).setIfInBounds i (sa,na+nb,pw)).eraseIdxIfInBounds (i+1)->Mgr rk (arrOf st) (arrOf st') sa (sb+nb)->Q true st'):wpS (model prog w) A E s (mergeAt' i) Q st:=by
 subst hab;have at':∀{j:Nat},j<(arrOf st).size->∃x,(arrOf st)[j]?=some x:=λ{j} h=>⟨_,C9 h⟩
 refine Z4 (A3d ?_);rw[e1,e2];dsimp only;refine Z4 (UH ?_);obtain⟨y0,ey0⟩:=at' (j:=sa+na) A1;refine Z4 (CZ ey0 (Z4 (Lz hl hk (Sall _ _ ey0) (λi x _ _ e=>Sall i x e) (λi j x y h1 h2 h3=>s1 i j x y h1 h2 h3) (show sa+na<=(arrOf st).size by lia) A1 λkk hkk h1 h2=>?_)));dsimp only;by_cases q1:(na-kk==0)=true
 ·rw[Z6 q1];have q1:na-kk=0:=by simpa using q1
  refine Z5 (k _ hk hf rfl (Mgr.same (s1.join s2 λi j x y a1 a2 a3 a4 ex ey=>?_)));exact D4 (h1 i x a1 A1 ex) (s2 _ _ _ _ (C8 _) a3 a4 ey0 ey)
 rw[Z3 q1];have q1:¬na-kk=0:=λz=>q1 (by simpa using z);obtain⟨xl,exl⟩:=at' (j:=sa+kk+(na-kk)-1) A1;refine Z4 (CZ exl (Z4 (Nl hl hk (Sall _ _ exl) (λi x _ _ e=>Sall i x e) (λi j x y h1 h2 h3=>s2 i j x y h1 h2 h3) (show sa+na+nb<=(arrOf st).size by lia) A1 λt2 ht2 h3 h4=>?_)));dsimp only;have low:∀(i j:Nat) x y,sa<=i->i<sa+kk->sa+na<=j->j<sa+na+nb->(arrOf st)[i]?=some x->(arrOf st)[j]?=some y->rk x<=rk y:=λi j x y a1 a2 a3 a4 ex ey=>D4 (h1 i x a1 a2 ex) (s2 _ _ _ _ (C8 _) a3 a4 ey0 ey);have high:∀(i j:Nat) x y,sa<=i->i<sa+na->sa+na+t2<=j->j<sa+na+nb->(arrOf st)[i]?=some x->(arrOf st)[j]?=some y->rk x<=rk y:=λi j x y a1 a2 a3 a4 ex ey=>D4 (s1 i _ x xl a1 A1 A1 ex exl) (h4 j y a3 a4 ey);by_cases q2:(t2==0)=true
 ·rw[Z6 q2];have q2:t2=0:=by simpa using q2
  subst q2;exact Z5 (k _ hk hf rfl (Mgr.same (s1.join s2 λi j x y a1 a2 a3 a4 ex ey=>high i j x y a1 a2 a3 a4 ex ey)))
 rw[Z3 q2];have q2:¬t2=0:=λz=>q2 (by simpa using z);have sx:SoA rk ((arrOf st).extract (sa+kk) (sa+na)):=SoR.ext (λi j x y a1 a2 a3=>s1 i j x y A1 a2 a3) A1;have sy:SoA rk ((arrOf st).extract (sa+na) (sa+na+t2)):=SoR.ext (λi j x y a1 a2 a3=>s2 i j x y A1 a2 A1) A1;have zx:((arrOf st).extract (sa+kk) (sa+na)).size=na-kk:=by rw[R3];lia
 have zy:((arrOf st).extract (sa+na) (sa+na+t2)).size=t2:=by rw[R3];lia
 have ax:∀{j:Nat}{x:Keyed},((arrOf st).extract (sa+kk) (sa+na))[j]?=some x->(arrOf st)[sa+kk+j]?=some x/\j<na-kk:=λ{j x} e=>by
  have:=(J8.mp e).1;rw[R5,Z6 A1]at e;exact⟨e,by lia⟩
 have ay:∀{j:Nat}{x:Keyed},((arrOf st).extract (sa+na) (sa+na+t2))[j]?=some x->(arrOf st)[sa+na+j]?=some x/\j<t2:=λ{j x} e=>by
  have:=(J8.mp e).1;rw[R5,Z6 A1]at e;exact⟨e,by lia⟩
 have fst:∀x y,((arrOf st).extract (sa+na) (sa+na+t2))[0]?=some x->((arrOf st).extract (sa+kk) (sa+na))[0]?=some y->rk x<=rk y:=λx y ex ey=>by
  have e:=(ay ex).1;rw[T1,ey0]at e;cases e;exact M0 (h2 _ y A1 A1 (ax ey).1)
 have lst:∀(i:Nat) x y,((arrOf st).extract (sa+na) (sa+na+t2))[i]?=some x->((arrOf st).extract (sa+kk) (sa+na))[((arrOf st).extract (sa+kk) (sa+na)).size-1]?=some y->rk x<=rk y:=λi x y ex ey=>by
  have e:=(ax ey).1;rw[zx,show sa+kk+(na-kk-1)=sa+kk+(na-kk)-1 by lia,exl]at e;cases e;exact M0 (h3 _ x A1 (by have:=(ay ex).2;lia) (ay ex).1)
 have fin:∀(m:Array Keyed)(st1:SortSt),Mgd rk ((arrOf st).extract (sa+kk) (sa+na)) ((arrOf st).extract (sa+na) (sa+na+t2)) m->Ei (SortSt.mk' (kindOf st) (arrOf st) (((pendingOf st).setIfInBounds i (sa,na+nb,pw)).eraseIdxIfInBounds (i+1)) (gallopOf st) (failedOf st)) st1->wpS (model prog w) A E s (do modify λs=>setArr s (m.toList.zipIdx.foldl (λa (p:Keyed×Nat)=>a.setIfInBounds (sa+kk+p.2) p.1) (arrOf s));pure (failedOf (<-get)).isNone) Q st1:=λm st1 mg sy1=>by
  obtain⟨g,rfl⟩:=sy1;refine Z4 (A1a (Z4 (A3d (Z5 ?_))));show Q (failedOf st).isNone _;rw[hf];have ms:m.size=na-kk+t2:=by
   have:=mg.pm.length_eq;rw[B8,D9,D9,D9,zx,zy]at this;exact this
  refine k _ hk rfl rfl (VJ (t:=sa+kk) (mid:=sa+na) (u:=sa+na+t2) A1 A1 A1 A1 A1 s1 s2 low high mg (Ud (show sa+kk+m.size<=(arrOf st).size by lia)))
 by_cases q3:na-kk<=t2
 ·rw[Z6 q3];exact Z4 (RE hl hk (show 1<=((arrOf st).extract (sa+kk) (sa+na)).size by rw[zx];lia) (show 1<=((arrOf st).extract (sa+na) (sa+na+t2)).size by rw[zy];lia) (λi x e=>Sall _ x (ax e).1) (λi x e=>Sall _ x (ay e).1) sx sy fst lst fin)
 ·rw[Z3 q3];exact Z4 (RF hl hk (show 1<=((arrOf st).extract (sa+kk) (sa+na)).size by rw[zx];lia) (show 1<=((arrOf st).extract (sa+na) (sa+na+t2)).size by rw[zy];lia) (λi x e=>Sall _ x (ax e).1) (λi x e=>Sall _ x (ay e).1) sx sy fst lst fin)
end
end PyProof.Rows
namespace PyProof.Rows
open PySem
structure Rea(arr arr':Array Keyed)(lo hi:Nat):Prop where
 pm:arr'.toList.Perm arr.toList
 out:∀i:Nat,i<lo\/hi<=i->arr'[i]?=arr[i]?
section
variable{prog:Program}{w:World}{A:Around}{E:Value->Shared->Prop}{s:Shared}{rk:Keyed->Nat}{S:Keyed->Prop}{κ:SortKind}
theorem Rea.refl(arr:Array Keyed)(lo hi:Nat):Rea arr arr lo hi:=⟨A3a _,λ_ _=>rfl⟩
theorem Rea.size{arr arr':Array Keyed}{lo hi:Nat}(h:Rea arr arr' lo hi):arr'.size=arr.size:=by
 have:=h.pm.length_eq;rw[D9,D9]at this;exact this
theorem Rea.all{arr arr':Array Keyed}{lo hi:Nat}(h:Rea arr arr' lo hi)(Sa:∀(i:Nat) x,arr[i]?=some x->S x)(i:Nat)(x:Keyed)(e:arr'[i]?=some x):S x:=by
 rw[<-J6]at e;obtain⟨j,hj⟩:=E8 (h.pm.mem_iff.mp (D7 e));rw[J6]at hj;exact Sa j x hj
theorem Rea.trans{a b c:Array Keyed}{lo hi:Nat}(h:Rea a b lo hi)(h2:Rea b c lo hi):Rea a c lo hi:=⟨h2.pm.trans h.pm,λi hi=>(h2.out i hi).trans (h.out i hi)⟩
theorem ins_ok{arr:Array Keyed}{lo k l hi:Nat}{key:Keyed}(hk:lo+k<hi)(hz:hi<=arr.size)(lk:l<=k)(ek:arr[lo+k]?=some key)(so:SoR rk arr lo (lo+k))(h1:∀(i:Nat) x,lo<=i->i<lo+l->arr[i]?=some x->rk x<=rk key)(h2:∀(i:Nat) x,lo+l<=i->i<lo+k->arr[i]?=some x->rk key<=rk x):Rea arr (bubble arr (lo+k) (lo+k-(lo+l))) lo hi/\SoR rk (bubble arr (lo+k) (lo+k-(lo+l))) lo (lo+k+1):=by
 have g:=getElem?_bubble (xs:=arr) (src:=lo+k) B0 (lo+k-(lo+l)) B0;rw[show lo+k-(lo+k-(lo+l))=lo+l by omega]at g;refine⟨⟨T7.mp (bubble_perm _ _ _),λi hi'=>?_⟩,λi j x y li ij jh ex ey=>?_⟩
 ·rw[g,Z3 B0,Z3 B0]
 ·rw[g]at ex ey;by_cases ci:i=lo+l
  ·rw[Z6 ci,ek]at ex;cases ex;by_cases cj:j=lo+l
   ·rw[Z6 cj,ek]at ey;cases ey;exact C8 _
   ·rw[Z3 cj,Z6 B0]at ey;exact h2 (j-1) y B0 B0 ey
  ·rw[Z3 ci]at ex;by_cases di:lo+l<i/\i<=lo+k
   ·rw[Z6 di]at ex;rw[Z3 B0,Z6 B0]at ey;exact so (i-1) (j-1) x y B0 B0 B0 ex ey
   ·rw[Z3 di]at ex;by_cases cj:j=lo+l
    ·rw[Z6 cj,ek]at ey;cases ey;exact h1 i x li B0 ex
    ·rw[Z3 cj]at ey;by_cases dj:lo+l<j/\j<=lo+k
     ·rw[Z6 dj]at ey;exact so i (j-1) x y li B0 B0 ex ey
     ·rw[Z3 dj]at ey;exact so i j x y li ij B0 ex ey
end
end PyProof.Rows
namespace PyProof.Rows
open PySem
section
variable{prog:Program}{w:World}{A:Around}{E:Value->Shared->Prop}{s:Shared}{rk:Keyed->Nat}{S:Keyed->Prop}{κ:SortKind}
theorem IR{st:SortSt}{i j:Nat}{x y:Keyed}{Q:Option Bool->SortSt->Prop}(hl:NE prog w A E s rk S κ)(hk:kindOf st=κ)(ex:(arrOf st)[i]?=some x)(ey:(arrOf st)[j]?=some y)(Sx:S x)(Sy:S y)(h:Q (some (decide (rk x<rk y))) st):wpS (model prog w) A E s (ltAt' i j) Q st:=by
 rw[ltAt'_eq];exact Z4 (A3d (Z4 (CZ ex (Z4 (CZ ey (hl _ _ _ _ Sx Sy hk h))))))
theorem move_ok{st:SortSt}{src dst:Nat}{Q:Unit->SortSt->Prop}(h:Q () (setArr st (bubble (arrOf st) src (src-dst)))):wpS (model prog w) A E s (moveDown' src dst) Q st:=by
 rw[moveDown'_eq];exact A1a h
theorem NT{st:SortSt}{Q:Bool->SortSt->Prop}{lo n ok:Nat}(hl:NE prog w A E s rk S κ)(hk:kindOf st=κ)(hz:lo+n<=(arrOf st).size)(hok:ok<=n)(Sall:∀(i:Nat) x,(arrOf st)[i]?=some x->S x)(so:SoR rk (arrOf st) lo (lo+ok))(k:∀arr',Rea (arrOf st) arr' lo (lo+n)->SoR rk arr' lo (lo+n)->Q true (setArr st arr')):wpS (model prog w) A E s (binarySort' lo n ok) Q st:=by
 refine Z4 (A0f (K5 (I:=λx c st'=>c=(none,())/\∃arr',st'=setArr st arr'/\Rea (arrOf st) arr' lo (lo+n)/\SoR rk arr' lo (lo+x)) (Q:=λc st'=>c=(none,())/\∃arr',st'=setArr st arr'/\Rea (arrOf st) arr' lo (lo+n)/\SoR rk arr' lo (lo+n)) ?_ ?_ ⟨rfl,arrOf st,rfl,Rea.refl _ _ _,?_⟩) ?_)
 ·rintro x c st' hx1 hx ⟨rfl,arr',rfl,re,so'⟩;have sz:=re.size;obtain⟨key,ek⟩:∃key,arr'[lo+x]?=some key:=⟨_,C9 A1⟩
  refine Z4 (A0f (K5 (I:=λy r st''=>st''=setArr st arr'/\∃l h,r=(none,l,h)/\l<=h/\h-l<=x-y/\h<=x/\(∀(i:Nat) z,lo<=i->i<lo+l->arr'[i]?=some z->rk z<=rk key)/\(∀(i:Nat) z,lo+h<=i->i<lo+x->arr'[i]?=some z->rk key<=rk z)) (Q:=λr st''=>st''=setArr st arr'/\∃l h,r=(none,l,h)/\l<=x/\(∀(i:Nat) z,lo<=i->i<lo+l->arr'[i]?=some z->rk z<=rk key)/\(∀(i:Nat) z,lo+l<=i->i<lo+x->arr'[i]?=some z->rk key<=rk z)) ?_ ?_ ⟨rfl,0,x,rfl,by lia,by lia,by lia,λi z h1 h2=>absurd h2 A1,λi z h1 h2=>absurd h2 A1⟩) ?_)
  ·rintro y r st'' _ hy ⟨rfl,l,h,rfl,lh,me,hh,i1,i2⟩;dsimp only;by_cases z:l ≥ h
   ·rw[Z6 z];exact Z5 ⟨rfl,l,h,rfl,by lia,i1,λi z' a b=>i2 i z' A1 b⟩
   rw[Z3 z];obtain⟨v,ev⟩:∃v,arr'[lo+(l+h)/2]?=some v:=⟨_,C9 A1⟩
   refine Z4 (IR hl hk ek ev (re.all Sall _ _ ek) (re.all Sall _ _ ev) ?_);dsimp only;by_cases lt:rk key<rk v
   ·rw[Z1 lt,Z6 rfl];exact Z5 ⟨rfl,l,(l+h)/2,rfl,by lia,by lia,by lia,i1,λi z' a b e=>by
     have:=so' _ i _ _ A1 a A1 ev e;lia⟩
   ·rw[Z2 lt,Z3 B1];exact Z5 ⟨rfl,(l+h)/2+1,h,rfl,by lia,by lia,hh,λi z' a b e=>by
     have:=so' i (lo+(l+h)/2) _ _ a A1 A1 e ev;lia,i2⟩
  ·rintro r st'' ⟨rfl,l,h,rfl,lh,me,hh,i1,i2⟩;exact⟨rfl,l,h,rfl,by lia,i1,λi z' a b=>i2 i z' A1 b⟩
  ·rintro r st'' ⟨rfl,l,h,rfl,lx,i1,i2⟩;dsimp only;have fin:=ins_ok (hi:=lo+n) A1 A1 lx ek so' i1 i2;exact Z4 (move_ok (Z5 ⟨rfl,_,rfl,re.trans fin.1,fin.2⟩))
 ·rintro c st' ⟨rfl,arr',rfl,re,so'⟩;exact⟨rfl,arr',rfl,re,λi j x y a b d=>so' i j x y a b A1⟩
 ·intro i j x y a b d ex ey;by_cases z:j<lo+ok
  ·exact so i j x y a b z ex ey
  ·have:i=j:=by lia
   subst this;rw[ex]at ey;cases ey;exact C8 _
 ·rintro c st' ⟨rfl,arr',rfl,re,so'⟩;exact Z5 (k arr' re so')
end
end PyProof.Rows
namespace PyProof.Rows
open PySem
def DeR(rk:Keyed->Nat)(arr:Array Keyed)(lo hi:Nat):Prop:=∀(i j:Nat)(x y:Keyed),lo<=i->i<=j->j<hi->arr[i]?=some x->arr[j]?=some y->rk y<=rk x
def EqR(rk:Keyed->Nat)(arr:Array Keyed)(lo hi:Nat):Prop:=∀(i j:Nat)(x y:Keyed),lo<=i->i<hi->lo<=j->j<hi->arr[i]?=some x->arr[j]?=some y->rk x=rk y
def Kr(rk:Keyed->Nat)(arr arr':Array Keyed):Prop:=∀(k:Nat)(x':Keyed),arr'[k]?=some x'->∃x,arr[k]?=some x/\rk x'=rk x
section
variable{prog:Program}{w:World}{A:Around}{E:Value->Shared->Prop}{s:Shared}{rk:Keyed->Nat}{S:Keyed->Prop}{κ:SortKind}
theorem SoR.one{arr:Array Keyed}{lo:Nat}:SoR rk arr lo (lo+1):=λi j x y a b c ex ey=>by
 have:i=j:=by lia
 subst this;rw[ex]at ey;cases ey;exact C8 _
theorem EqR.one{arr:Array Keyed}{lo:Nat}:EqR rk arr (lo+1-(0+1)) (lo+1):=λi j x y a b c d ex ey=>by
 have:i=j:=by lia
 subst this;rw[ex]at ey;cases ey;rfl
theorem SoR.snoc{arr:Array Keyed}{lo hi:Nat}{x y:Keyed}(h:SoR rk arr lo hi)(l:lo<hi)(ex:arr[hi]?=some x)(ey:arr[hi-1]?=some y)(le:rk y<=rk x):SoR rk arr lo (hi+1):=λi j a b li ij jh ea eb=>by
 by_cases z:j<hi
 ·exact h i j a b li ij z ea eb
 ·have:j=hi:=by lia
  subst this;rw[ex]at eb;cases eb;by_cases q:i=j
  ·subst q;rw[ex]at ea;cases ea;exact C8 _
  ·exact D4 (h i (j-1) a y li A1 A1 ea ey) le
theorem DeR.snoc{arr:Array Keyed}{lo hi:Nat}{x y:Keyed}(h:DeR rk arr lo hi)(l:lo<hi)(ex:arr[hi]?=some x)(ey:arr[hi-1]?=some y)(le:rk x<=rk y):DeR rk arr lo (hi+1):=λi j a b li ij jh ea eb=>by
 by_cases z:j<hi
 ·exact h i j a b li ij z ea eb
 ·have:j=hi:=by lia
  subst this;rw[ex]at eb;cases eb;by_cases q:i=j
  ·subst q;rw[ex]at ea;cases ea;exact C8 _
  ·exact D4 le (h i (j-1) a y li A1 A1 ea ey)
theorem EqR.snoc{arr:Array Keyed}{lo hi:Nat}{x y:Keyed}(h:EqR rk arr lo hi)(l:lo<hi)(ex:arr[hi]?=some x)(ey:arr[hi-1]?=some y)(le:rk x=rk y):EqR rk arr lo (hi+1):=by
 have key:∀(i:Nat) a,lo<=i->i<hi+1->arr[i]?=some a->rk a=rk y:=λi a li ih ea=>by
  by_cases z:i<hi
  ·exact h i (hi-1) a y li z A1 A1 ea ey
  ·have:i=hi:=by lia
   subst this;rw[ex]at ea;cases ea;exact le
 exact λi j a b li ih lj jh ea eb=>(key i a li ih ea).trans (key j b lj jh eb).symm
theorem DeR.kr{arr arr':Array Keyed}{lo hi:Nat}(h:DeR rk arr lo hi)(k:Kr rk arr arr'):DeR rk arr' lo hi:=λi j a b li ij jh ea eb=>by
 obtain⟨a',e1,q1⟩:=k i a ea;obtain⟨b',e2,q2⟩:=k j b eb;rw[q1,q2];exact h i j a' b' li ij jh e1 e2
theorem EqR.mir{arr:Array Keyed}{lo hi:Nat}(h:EqR rk arr lo hi)(hz:hi<=arr.size):Kr rk arr (mirror arr lo hi ((hi-lo)/2)):=λk x' e=>by
 have g:=getElem?_mirror_all (xs:=arr) (i:=lo) hz k;rw[g]at e;split at e
 ·rename_i q;obtain⟨x,ex⟩:∃x,arr[k]?=some x:=⟨_,C9 A1⟩
  exact⟨x,ex,h _ _ _ _ A1 A1 q.1 q.2 e ex⟩
 ·exact⟨x',e,rfl⟩
theorem Mi{arr:Array Keyed}{i j lo hi:Nat}(li:lo<=i)(jh:j<=hi)(hz:hi<=arr.size):Rea arr (mirror arr i j ((j-i)/2)) lo hi:=⟨T7.mp (mirror_perm _ _ _ _),λk hk=>by
 rw[getElem?_mirror_all A1];by_cases q:i<=k/\k<j
 ·lia
 ·rw[Z3 q]⟩
theorem DeR.mir{arr:Array Keyed}{lo hi:Nat}(h:DeR rk arr lo hi)(hz:hi<=arr.size):SoR rk (mirror arr lo hi ((hi-lo)/2)) lo hi:=λi j a b li ij jh ea eb=>by
 rw[getElem?_mirror_all hz,Z6 A1]at ea eb;exact h _ _ b a A1 A1 A1 eb ea
theorem OU{st:SortSt}{i j:Nat}{Q:Unit->SortSt->Prop}(h:Q () (setArr st (mirror (arrOf st) i j ((j-i)/2)))):wpS (model prog w) A E s (reverseSlice' i j) Q st:=by
 rw[reverseSlice'_eq];exact A1a h
theorem QM{st:SortSt}{Q:Option Nat->SortSt->Prop}{lo nrem:Nat}(hl:NE prog w A E s rk S κ)(hk:kindOf st=κ)(hz:lo+nrem<=(arrOf st).size)(h1:1<=nrem)(Sall:∀(i:Nat) x,(arrOf st)[i]?=some x->S x)
  (k:∀arr' m,Rea (arrOf st) arr' lo (lo+nrem)->1<=m->m<=nrem->SoR rk arr' lo (lo+m)->Q (some m) (setArr st arr')):wpS (model prog w) A E s (countRun' lo nrem) Q st:=by
 refine Z4 (A0f (K5 (I:=λx c st'=>st'=setArr st (arrOf st)/\c=(none,x)/\SoR rk (arrOf st) lo (lo+x)) (Q:=λc st'=>st'=setArr st (arrOf st)/\∃n,c=(none,n)/\1<=n/\n<=nrem/\SoR rk (arrOf st) lo (lo+n)/\(n=nrem\/∀x y,(arrOf st)[lo+n]?=some x->(arrOf st)[lo+n-1]?=some y->rk x<rk y)) ?_ ?_ ⟨rfl,rfl,?_⟩) ?_)
 ·rintro x c st' hx1 hx ⟨rfl,rfl,so⟩;obtain⟨a,ea⟩:∃a,(arrOf st)[lo+x]?=some a:=⟨_,C9 A1⟩
  obtain⟨b,eb⟩:∃b,(arrOf st)[lo+x-1]?=some b:=⟨_,C9 A1⟩
  refine Z4 (IR hl hk ea eb (Sall _ _ ea) (Sall _ _ eb) (wpI (λlt=>Z5 ⟨rfl,x,rfl,by lia,by lia,so,.inr λp q ep eq=>by rw[ea]at ep;rw[eb]at eq;cases ep;cases eq;exact K1 lt⟩) λlt=>?_));have lt:=λz=>lt (Z1 z);exact Z5 ⟨rfl,rfl,so.snoc A1 ea eb A1⟩
 ·rintro c st' ⟨rfl,rfl,so⟩;rw[Nat.max_eq_right A1]at so⊢;exact⟨rfl,nrem,rfl,h1,C8 _,so,.inl rfl⟩
 ·exact SoR.one
 ·rintro c st' ⟨rfl,n,rfl,n1,n2,so,fall⟩;refine wpE (λq1=>Z5 (k (arrOf st) n (Rea.refl _ _ _) n1 n2 so)) λq1=>?_;have fall:=fall.resolve_left q1;obtain⟨a,ea⟩:∃a,(arrOf st)[lo+n]?=some a:=⟨_,C9 A1⟩
  obtain⟨b,eb⟩:∃b,(arrOf st)[lo+n-1]?=some b:=⟨_,C9 A1⟩
  have flt:=fall a b ea eb;dsimp -zeta only
  extract_lets n_ q_ jp
  refine wpC (λQ _=>∀ar,Rea (arrOf st) ar lo (lo+nrem)->DeR rk ar lo (lo+n+1)->wpS (model prog w) A E s (jp ()) Q (setArr st ar)) (λar re0 de0=>?_) λhj=>?_
  ·refine Z4 (wpS_lift (A2e ⟨rfl,?_⟩));refine Z4 (A0f (K5 (I:=λx c st'=>∃arr' neq,st'=setArr st arr'/\c=(none,x,neq)/\Rea (arrOf st) arr' lo (lo+nrem)/\neq+1<=x/\DeR rk arr' lo (lo+x)/\EqR rk arr' (lo+x-(neq+1)) (lo+x)) (Q:=λc st'=>∃arr' n neq,st'=setArr st arr'/\c=(none,n,neq)/\Rea (arrOf st) arr' lo (lo+nrem)/\1<=n/\n<=nrem/\neq+1<=n/\DeR rk arr' lo (lo+n)/\EqR rk arr' (lo+n-(neq+1)) (lo+n)) ?_ ?_ ⟨ar,0,rfl,rfl,re0,by lia,de0,EqR.one (lo:=lo+n)⟩) ?_)
   ·rintro x c st' hx1 hx ⟨arr',neq,rfl,rfl,re',nq,de',eq'⟩;have hzz:lo+nrem<=arr'.size:=by rw[Rea.size re'];exact hz
    obtain⟨a,ea⟩:∃a,arr'[lo+x]?=some a:=⟨_,C9 A1⟩
    obtain⟨b,eb⟩:∃b,arr'[lo+x-1]?=some b:=⟨_,C9 A1⟩
    refine Z4 (IR hl hk ea eb (Rea.all re' Sall _ _ ea) (Rea.all re' Sall _ _ eb) (wpI (λlt=>?_) λlt=>?_))
    ·have dn:DeR rk arr' lo (lo+x+1):=de'.snoc A1 ea eb (M0 (K1 lt));exact wpI (λq=>Z4 (OU (Z5 ⟨_,0,rfl,rfl,Rea.trans re' (Mi A1 A1 hzz),by lia,dn.kr (eq'.mir A1),EqR.one (lo:=lo+x)⟩))) λq=>Z5 ⟨arr',0,rfl,rfl,re',by lia,dn,EqR.one (lo:=lo+x)⟩
    ·have lt:=λz=>lt (Z1 z);refine Z4 (IR hl hk eb ea (Rea.all re' Sall _ _ eb) (Rea.all re' Sall _ _ ea) (wpI (λgt=>Z5 ⟨arr',x,neq,rfl,rfl,re',by lia,by lia,nq,de',eq'⟩) λgt=>?_));have gt:=λz=>gt (Z1 z);refine Z5 ⟨arr',neq+1,rfl,rfl,re',by lia,de'.snoc A1 ea eb A1,?_⟩;have:=eq'.snoc A1 ea eb A1;rw[show lo+(x+1)-(neq+1+1)=lo+x-(neq+1) by lia];exact this
   ·rintro c st' ⟨arr',neq,rfl,rfl,re',nq,de',eq'⟩;rw[Nat.max_eq_right (by show n+1<=nrem;lia)]at nq de' eq'⊢;exact⟨arr',nrem,neq,rfl,rfl,re',h1,C8 _,nq,de',eq'⟩
   ·rintro c st' ⟨arr',n',neq,rfl,rfl,re',n1,n2,nq,de',eq'⟩;have hzz:lo+nrem<=arr'.size:=by rw[Rea.size re'];exact hz
    dsimp -zeta only
    extract_lets r_ s_ n_ q_ jp2
    refine wpC (λQ _=>∀ar,Rea (arrOf st) ar lo (lo+nrem)->DeR rk ar lo (lo+n')->wpS (model prog w) A E s (jp2 ()) Q (setArr st ar)) (λar reM deM=>?_) λhj2=>?_
    ·have reT:Rea (arrOf st) (mirror ar lo (lo+n') ((lo+n'-lo)/2)) lo (lo+nrem):=Rea.trans reM (Mi (C8 _) A1 (by rw[Rea.size reM];exact hz));have so0:=DeR.mir deM (by rw[Rea.size reM];lia);refine Z4 (OU ?_);show wpS _ _ _ _ _ _ (setArr st (mirror ar lo (lo+n') ((lo+n'-lo)/2)));generalize mirror ar lo (lo+n') ((lo+n'-lo)/2)=arM at reT so0;refine Z4 (A0f (K5 (I:=λx c st'=>st'=setArr st arM/\c=(none,x)/\SoR rk arM lo (lo+x)) (Q:=λc st'=>st'=setArr st arM/\∃n,c=(none,n)/\1<=n/\n<=nrem/\SoR rk arM lo (lo+n)) ?_ ?_ ⟨rfl,rfl,so0⟩) ?_)
     ·rintro x c st' hx1 hx ⟨rfl,rfl,so⟩;have hzz:lo+nrem<=arM.size:=by rw[Rea.size reT];exact hz
      obtain⟨a,ea⟩:∃a,arM[lo+x]?=some a:=⟨_,C9 A1⟩
      obtain⟨b,eb⟩:∃b,arM[lo+x-1]?=some b:=⟨_,C9 A1⟩
      refine Z4 (IR hl hk ea eb (Rea.all reT Sall _ _ ea) (Rea.all reT Sall _ _ eb) (wpI (λlt=>Z5 ⟨rfl,x,rfl,by lia,by lia,so⟩) λlt=>?_));have lt:=λz=>lt (Z1 z);exact Z5 ⟨rfl,rfl,so.snoc A1 ea eb A1⟩
     ·rintro c st' ⟨rfl,rfl,so⟩;rw[Nat.max_eq_right n2]at so⊢;exact⟨rfl,nrem,rfl,h1,C8 _,so⟩
     ·rintro c st' ⟨rfl,m,rfl,m1,m2,so⟩;exact Z5 (k _ m reT m1 m2 so)
    ·clear_value jp2
     exact wpI (λq=>Z4 (OU (hj2 (mirror arr' (lo+n'-(neq+1)) (lo+n') ((lo+n'-(lo+n'-(neq+1)))/2)) (Rea.trans re' (Mi A1 A1 hzz)) (de'.kr (eq'.mir A1))))) λq=>hj2 arr' re' de'
  ·clear_value jp
   refine wpI (λq2=>?_) λq2=>?_
   ·obtain⟨z,ez⟩:∃z,(arrOf st)[lo]?=some z:=⟨_,C9 A1⟩
    refine Z4 (IR hl hk ez eb (Sall _ _ ez) (Sall _ _ eb) (wpI (λ_=>Z5 (k (arrOf st) n (Rea.refl _ _ _) n1 n2 so)) λrose=>?_));have rose:=λz=>rose (Z1 z);have eqa:EqR rk (arrOf st) lo (lo+n):=by
     have key:∀(i:Nat) x,lo<=i->i<lo+n->(arrOf st)[i]?=some x->rk x=rk b:=λi x li ih ex=>by
      have:=so lo i z x (C8 _) li ih ez ex;have:=so i (lo+n-1) x b li A1 A1 ex eb;lia
     exact λi j x y li ih lj jh ex ey=>(key i x li ih ex).trans (key j y lj jh ey).symm
    exact Z4 (OU (hj _ (Mi (C8 _) A1 hz) (DeR.kr (DeR.snoc (λi j x y li ij jh ex ey=>Y5 (eqa j i y x A1 jh li A1 ey ex)) A1 ea eb (M0 flt)) (eqa.mir A1))))
   ·refine hj (arrOf st) (Rea.refl _ _ _) (DeR.snoc (λi j x y li ij jh ex ey=>?_) A1 ea eb (M0 flt));have:i=j:=by lia
    subst this;rw[ex]at ey;cases ey;exact C8 _
end
end PyProof.Rows
namespace PyProof.Rows
open PySem
def CW(rk:Keyed->Nat)(arr:Array Keyed):List (Nat×Nat×Nat)->Nat->Nat->Prop
 |[],a,b=>a=b
 |r::l,a,b=>r.1=a/\1<=r.2.1/\SoR rk arr a (a+r.2.1)/\CW rk arr l (a+r.2.1) b
section
variable{prog:Program}{w:World}{A:Around}{E:Value->Shared->Prop}{s:Shared}{rk:Keyed->Nat}{S:Keyed->Prop}{κ:SortKind}
theorem CW.le{arr:Array Keyed}:∀{l:List (Nat×Nat×Nat)}{a b:Nat},CW rk arr l a b->a+l.length<=b
 |[],a,b,h=>Y5 h
 |r::l,a,b,h=>by
  have:=CW.le h.2.2.2;have:=h.2.1;rw[E7];lia
theorem CW.app{arr:Array Keyed}:∀{l l2:List (Nat×Nat×Nat)}{a b c:Nat},CW rk arr l a b->CW rk arr l2 b c->CW rk arr (l++l2) a c
 |[],l2,a,b,c,h,h2=>by
  cases(show a=b from h);exact h2
 |r::l,l2,a,b,c,h,h2=>⟨h.1,h.2.1,h.2.2.1,CW.app h.2.2.2 h2⟩
theorem CW.cut{arr:Array Keyed}:∀{l l2:List (Nat×Nat×Nat)}{a c:Nat},CW rk arr (l++l2) a c->∃b,CW rk arr l a b/\CW rk arr l2 b c
 |[],l2,a,c,h=>⟨a,rfl,h⟩
 |r::l,l2,a,c,h=>by
  obtain⟨b,h1,h2⟩:=CW.cut h.2.2.2;exact⟨b,⟨h.1,h.2.1,h.2.2.1,h1⟩,h2⟩
theorem CW.out{arr arr':Array Keyed}:∀{l:List (Nat×Nat×Nat)}{a b:Nat},CW rk arr l a b->(∀i:Nat,a<=i->i<b->arr'[i]?=arr[i]?)->CW rk arr' l a b
 |[],a,b,h,k=>h
 |r::l,a,b,h,k=>by
  have:=CW.le h.2.2.2;refine⟨h.1,h.2.1,λi j x y li ij jh ex ey=>?_,CW.out h.2.2.2 λi p q=>k i A1 q⟩;rw[k _ A1 A1]at ex ey;exact h.2.2.1 i j x y li ij jh ex ey
theorem CW.last{arr:Array Keyed}{f:Nat×Nat×Nat->Nat×Nat×Nat}(hf:∀r,(f r).1=r.1/\(f r).2.1=r.2.1):∀{l:List (Nat×Nat×Nat)}{a b k:Nat},CW rk arr l a b->CW rk arr (l.modify k f) a b
 |[],a,b,k,h=>by
  rw[List.modify_nil];exact h
 |r::l,a,b,0,h=>by
  rw[List.modify_zero_cons];refine⟨(hf r).1.trans h.1,?_,?_,?_⟩
  ·rw[(hf r).2];exact h.2.1
  ·rw[(hf r).2];exact h.2.2.1
  ·rw[(hf r).2];exact h.2.2.2
 |r::l,a,b,k+1,h=>by
  rw[List.modify_succ_cons];exact⟨h.1,h.2.1,h.2.2.1,CW.last hf h.2.2.2⟩
theorem two_of{α:Type}{l:List α}{i:Nat}{x y:α}(e1:l[i]?=some x)(e2:l[i+1]?=some y):∃l1 l2,l=l1++x::y::l2/\l1.length=i:=by
 have h1:=(B7.mp e1).1;have h2:=(B7.mp e2).1;refine⟨l.take i,l.drop (i+2),?_,by rw[J7];lia⟩;have d1:l.drop i=x::l.drop (i+1):=by
  rw[N5 h1,(B7.mp e1).2]
 have d2:l.drop (i+1)=y::l.drop (i+2):=by
  rw[N5 h2,(B7.mp e2).2]
 rw[<-d2,<-d1,O8]
theorem Vp{p:Array (Nat×Nat×Nat)}{i:Nat}{x y z:Nat×Nat×Nat}{l1 l2:List (Nat×Nat×Nat)}(e:p.toList=l1++x::y::l2)(li:l1.length=i):((p.setIfInBounds i z).eraseIdxIfInBounds (i+1)).toList=l1++z::l2:=by
 subst li;have e1:(p.setIfInBounds l1.length z).toList=l1++z::y::l2:=by
  rw[Array.toList_setIfInBounds,e,List.set_append_right _ _ (C8 _),N7];rfl
 have sz:(p.setIfInBounds l1.length z).size=l1.length+2+l2.length:=by
  rw[<-D9,e1,B8,E7,E7];lia
 unfold Array.eraseIdxIfInBounds;rw[dif_pos A1,Array.toList_eraseIdx,e1,List.eraseIdx_append_of_length_le A1,N9];rfl
structure Srn(rk:Keyed->Nat)(κ:SortKind)(a0:Array Keyed)(lo:Nat)(st:SortSt):Prop where
 kind:kindOf st=κ
 fail:failedOf st=none
 pm:(arrOf st).toList.Perm a0.toList
 runs:CW rk (arrOf st) (pendingOf st).toList 0 lo
theorem Srn.size{a0:Array Keyed}{lo:Nat}{st:SortSt}(h:Srn rk κ a0 lo st):(arrOf st).size=a0.size:=by
 have:=h.pm.length_eq;rw[D9,D9]at this;exact this
theorem Srn.all{a0:Array Keyed}{lo:Nat}{st:SortSt}(h:Srn rk κ a0 lo st)(Sa:∀(i:Nat) x,a0[i]?=some x->S x)(i:Nat)(x:Keyed)(e:(arrOf st)[i]?=some x):S x:=by
 rw[<-J6]at e;obtain⟨j,hj⟩:=E8 (h.pm.mem_iff.mp (D7 e));rw[J6]at hj;exact Sa j x hj
theorem Nf{st:SortSt}{Q:Bool->SortSt->Prop}{i lo:Nat}{a0:Array Keyed}(hl:NE prog w A E s rk S κ)(h:Srn rk κ a0 lo st)(Sa:∀(i:Nat) x,a0[i]?=some x->S x)(hi:i+1<(pendingOf st).size)(hlo:lo<=a0.size)
  (k:∀st',Srn rk κ a0 lo st'->(pendingOf st').size+1=(pendingOf st).size->(∀j:Nat,lo<=j->(arrOf st')[j]?=(arrOf st)[j]?)->Q true st'):wpS (model prog w) A E s (mergeAt' i) Q st:=by
 obtain⟨⟨sa,na,pa⟩,e1⟩:∃x,(pendingOf st)[i]?=some x:=⟨_,C9 A1⟩
 obtain⟨⟨sb,nb,pb⟩,e2⟩:∃x,(pendingOf st)[i+1]?=some x:=⟨_,C9 hi⟩
 obtain⟨l1,l2,el,li⟩:=two_of (l:=(pendingOf st).toList) (by rw[J6];exact e1) (by rw[J6];exact e2);have rn:=h.runs;rw[el]at rn;obtain⟨c,r1,rn⟩:=rn.cut;obtain⟨q1,n1,s1,rn⟩:=rn;obtain⟨q2,n2,s2,rn⟩:=rn;dsimp only at q1 n1 s1 q2 n2 s2 rn;subst q1;have r1le:=r1.le;have rnle:=rn.le;have sz:=h.size;refine RG hl h.kind h.fail e1 e2 q2 n1 n2 A1 (h.all Sa) (q2▸s1) (q2▸s2) λst' k1 k2 k3 mg=>?_;have pl:=Vp (z:=(sa,na+nb,pa)) el li;rw[<-k3]at pl;refine k st' ⟨k1,k2,mg.pm.trans h.pm,?_⟩ ?_ λj hj=>mg.out j (.inr A1)
 ·rw[pl];refine CW.app (CW.out r1 λj _ hj=>mg.out j (.inl hj)) ⟨rfl,by show 1<=na+nb;lia,?_,?_⟩
  ·have:=mg.so;rw[q2,O3]at this;exact this
  ·show CW rk (arrOf st') l2 (sa+(na+nb)) lo;rw[<-O3];exact CW.out rn λj hj _=>mg.out j (.inr A1)
 ·have a1:=X8 List.length pl;have a2:=X8 List.length el;rw[D9,B8,E7]at a1;rw[D9,B8,E7,E7]at a2;lia
end
end PyProof.Rows
namespace PyProof.Rows
open PySem
section
variable{prog:Program}{w:World}{A:Around}{E:Value->Shared->Prop}{s:Shared}{rk:Keyed->Nat}{S:Keyed->Prop}{κ:SortKind}
theorem Srn.push{a0:Array Keyed}{lo n pw:Nat}{st:SortSt}(h:Srn rk κ a0 lo st)(n1:1<=n)(so:SoR rk (arrOf st) lo (lo+n)):Srn rk κ a0 (lo+n) (setPending st ((pendingOf st).push (lo,n,pw))) :=
 ⟨h.kind,h.fail,h.pm,by
  show CW rk (arrOf st) ((pendingOf st).push (lo,n,pw)).toList 0 (lo+n);rw[J9];exact CW.app h.runs ⟨rfl,n1,so,rfl⟩⟩
theorem Srn.last{a0:Array Keyed}{lo k:Nat}{st:SortSt}{f:Nat×Nat×Nat->Nat×Nat×Nat}(hf:∀r,(f r).1=r.1/\(f r).2.1=r.2.1)(h:Srn rk κ a0 lo st):Srn rk κ a0 lo (setPending st ((pendingOf st).modify k f)) :=
 ⟨h.kind,h.fail,h.pm,by
  show CW rk (arrOf st) ((pendingOf st).modify k f).toList 0 lo;rw[Array.toList_modify];exact CW.last hf h.runs⟩
theorem Qb{st:SortSt}{Q:Unit->SortSt->Prop}(hl:NE prog w A E s rk S κ)(hk:kindOf st=κ)(hf:failedOf st=none)(hp:pendingOf st=#[])(Sa:∀(i:Nat) x,(arrOf st)[i]?=some x->S x)
  (k:∀st',failedOf st'=none->(arrOf st').toList.Perm (arrOf st).toList->SoR rk (arrOf st') 0 (arrOf st).size->Q () st'):wpS (model prog w) A E s sortRuns' Q st:=by
 have h0:Srn rk κ (arrOf st) 0 st:=⟨hk,hf,A3a _,by rw[hp];rfl⟩
 generalize e0:arrOf st=a0 at h0 Sa k;rw[sortRuns'_eq];refine Z4 (A3d ?_);dsimp only;have esz:(arrOf st).size=a0.size:=by rw[e0]
 simp only[esz];generalize minRun' a0.size a0.size 0=mr;refine Z4 (A0f (K5 (I:=λx c st'=>∃lo,c=(none,lo)/\Srn rk κ a0 lo st'/\lo<=a0.size/\(x<=lo\/a0.size<=lo)) (Q:=λc st'=>c=(none,a0.size)/\Srn rk κ a0 a0.size st') ?step ?fin ⟨0,rfl,h0,by lia,by lia⟩) ?post)
 case fin =>
  rintro c st' ⟨lo,rfl,hS,l1,l2⟩;have:lo=a0.size:=by lia
  subst this;exact⟨rfl,hS⟩
 case step =>
  rintro x c st' _ hx ⟨lo,rfl,hS,l1,l2⟩;dsimp only;by_cases ge:lo ≥ a0.size
  ·rw[Z6 ge];have:lo=a0.size:=by lia
   subst this;exact Z5 ⟨rfl,hS⟩
  rw[Z3 ge];have sz:=hS.size;have rest:∀(n:Nat)(st2:SortSt),Srn rk κ a0 lo st2->1<=n->lo+n<=a0.size->SoR rk (arrOf st2) lo (lo+n)->∃lo',((none,lo+n):Option Unit×Nat)=(none,lo')/\Srn rk κ a0 lo' (setPending st2 ((pendingOf st2).push (lo,n,0)))/\lo'<=a0.size/\(x+1<=lo'\/a0.size<=lo'):=λn st2 h2 n1 nl so=>⟨lo+n,rfl,h2.push n1 so,nl,by lia⟩
  refine Z4 (QM hl hS.kind (show lo+(a0.size-lo)<=(arrOf st').size by lia) A1 (hS.all Sa) λarr' m re m1 m2 so=>?_);dsimp only;have hS1:Srn rk κ a0 lo (setArr st' arr'):=⟨hS.kind,hS.fail,re.pm.trans hS.pm,CW.out hS.runs λi _ h=>re.out i (.inl h)⟩
  by_cases few:m<mr
  ·rw[Z6 few];refine Z4 (wpS_lift (A2e ⟨rfl,?_⟩));refine Z4 (NT hl hS1.kind (show lo+min (a0.size-lo) mr<=(arrOf (setArr st' arr')).size by rw[hS1.size];lia) A1 (hS1.all Sa) so λarr2 re2 so2=>?_);have hS2:Srn rk κ a0 lo (setArr st' arr2):=⟨hS.kind,hS.fail,re2.pm.trans hS1.pm,CW.out hS1.runs λi _ h=>re2.out i (.inl h)⟩
   generalize hn:min (a0.size-lo) mr=n at so2⊢;have n1:1<=n:=by lia
   have nl:lo+n<=a0.size:=by lia
   simp only[W6,M9,A2a];have so2:SoR rk (arrOf (setArr st' arr2)) lo (lo+n):=so2;generalize setArr st' arr2=st2 at hS2 so2⊢;refine Z4 (A3d ?_);cases hb:(pendingOf st2).back? with
   |none =>
    dsimp only;exact Z4 (A1a (Z5 (rest n st2 hS2 n1 nl so2)))
   |some r =>
    obtain⟨s1,n1',p1⟩:=r;dsimp only;refine Z4 (A0f (K5 (I:=λ_ c st3=>c=(none,())/\Srn rk κ a0 lo st3/\SoR rk (arrOf st3) lo (lo+n)) (Q:=λc st3=>c=(none,())/\Srn rk κ a0 lo st3/\SoR rk (arrOf st3) lo (lo+n)) ?_ (λc st3 h=>h) ⟨rfl,hS2,so2⟩) ?_)
    ·rintro y c st3 _ _ ⟨rfl,h3,so3⟩;refine Z4 (A3d ?_);by_cases g:(pendingOf st3).size > 1
     ·rw[Z6 g];obtain⟨⟨sx,nx,older⟩,e⟩:∃x,(pendingOf st3)[(pendingOf st3).size-2]?=some x:=⟨_,C9 A1⟩
      rw[e];dsimp only;split
      ·exact Z5 ⟨rfl,h3,so3⟩
      ·refine Z4 (Nf hl h3 Sa A1 l1 λst4 h4 _ keep=>?_);simp only[W6,M9,A2a];refine Z5 ⟨rfl,h4,λi j x y li ij jh ex ey=>?_⟩;rw[keep _ A1]at ex ey;exact so3 i j x y li ij jh ex ey
     ·rw[Z3 g];exact Z5 ⟨rfl,h3,so3⟩
    ·rintro c st3 ⟨rfl,h3,so3⟩;dsimp only;exact Z4 (A1a (Z4 (A1a (Z5 (rest n _ (Srn.last (λr=>⟨rfl,rfl⟩) h3) n1 nl so3)))))
  ·rw[Z3 few];have so2:SoR rk (arrOf (setArr st' arr')) lo (lo+m):=so;have hS2:=hS1;generalize setArr st' arr'=st2 at hS2 so2⊢;have n1:1<=m:=m1;have nl:lo+m<=a0.size:=by lia
   generalize m=n at so2 n1 nl⊢;refine Z4 (A3d ?_);cases hb:(pendingOf st2).back? with
   |none =>
    dsimp only;exact Z4 (A1a (Z5 (rest n st2 hS2 n1 nl so2)))
   |some r =>
    obtain⟨s1,n1',p1⟩:=r;dsimp only;refine Z4 (A0f (K5 (I:=λ_ c st3=>c=(none,())/\Srn rk κ a0 lo st3/\SoR rk (arrOf st3) lo (lo+n)) (Q:=λc st3=>c=(none,())/\Srn rk κ a0 lo st3/\SoR rk (arrOf st3) lo (lo+n)) ?_ (λc st3 h=>h) ⟨rfl,hS2,so2⟩) ?_)
    ·rintro y c st3 _ _ ⟨rfl,h3,so3⟩;refine Z4 (A3d ?_);by_cases g:(pendingOf st3).size > 1
     ·rw[Z6 g];obtain⟨⟨sx,nx,older⟩,e⟩:∃x,(pendingOf st3)[(pendingOf st3).size-2]?=some x:=⟨_,C9 A1⟩
      rw[e];dsimp only;split
      ·exact Z5 ⟨rfl,h3,so3⟩
      ·refine Z4 (Nf hl h3 Sa A1 l1 λst4 h4 _ keep=>?_);simp only[W6,M9,A2a];refine Z5 ⟨rfl,h4,λi j x y li ij jh ex ey=>?_⟩;rw[keep _ A1]at ex ey;exact so3 i j x y li ij jh ex ey
     ·rw[Z3 g];exact Z5 ⟨rfl,h3,so3⟩
    ·rintro c st3 ⟨rfl,h3,so3⟩;dsimp only;exact Z4 (A1a (Z4 (A1a (Z5 (rest n _ (Srn.last (λr=>⟨rfl,rfl⟩) h3) n1 nl so3)))))
 case post =>
  rintro c st' ⟨rfl,hS⟩;dsimp only;refine Z4 (A0f (K5 (I:=λx c st''=>c=(none,())/\Srn rk κ a0 a0.size st''/\((pendingOf st'').size<=1\/(pendingOf st'').size+x<=a0.size)) (Q:=λc st''=>c=(none,())/\Srn rk κ a0 a0.size st''/\(pendingOf st'').size<=1) ?_ ?_ ⟨rfl,hS,?_⟩) ?_)
  ·rintro x c st'' _ hx ⟨rfl,h1,h2⟩;refine Z4 (A3d ?_);by_cases q:(pendingOf st'').size<=1
   ·rw[Z6 q];exact Z5 ⟨rfl,h1,q⟩
   rw[Z3 q];have go:∀i,i+1<(pendingOf st'').size->wpS (model prog w) A E s (mergeAt' i) (λb st4=>b=true/\Srn rk κ a0 a0.size st4/\(pendingOf st4).size+(x+1)<=a0.size) st'':=λi hi=>Nf hl h1 Sa hi (C8 _) λst4 h4 h5 _=>⟨rfl,h4,by lia⟩
   refine Z4 (A0f (go _ ?_) λb st4 h=>?_)
   ·repeat' split
    all_goals lia
   ·obtain⟨rfl,h4,h5⟩:=h;simp only[W6,M9,A2a];exact Z5 ⟨rfl,h4,.inr h5⟩
  ·rintro c st'' ⟨rfl,h1,h2⟩;exact⟨rfl,h1,by lia⟩
  ·have:=hS.runs.le;rw[D9]at this;exact .inr A1
  ·rintro c st'' ⟨rfl,h1,h2⟩;refine Z5 (k st'' h1.fail h1.pm ?_);have rn:=h1.runs;have lz:(pendingOf st'').toList.length<=1:=by rw[D9];exact h2
   generalize (pendingOf st'').toList=l at rn lz
   match l,rn,lz with
   |[],rn,_ =>
    have z:0=a0.size:=rn;exact λi j x y _ _ h=>absurd h A1
   |[r],rn,_ =>
    obtain⟨q1,q2,q3,q4⟩:=rn;have:0+r.2.1=a0.size:=q4;rw[this]at q3;exact q3
end
end PyProof.Rows
namespace L2
open PySem PySem.W PySem.Spec PyProof.Rows
theorem TH{α β:Type}{f:β->α}{l' l:List α}(h:l'.Perm l):∀p:List β,p.map f=l->∃p':List β,p'.Perm p/\p'.map f=l':=by
 induction h with
 |nil=>exact λp e=>⟨p,A3a _,e⟩
 |cons x _ ih =>
  intro p e;cases p with
  |nil=>cases e
  |cons i p =>
   rw[F0]at e;injection e with e1 e2
   obtain⟨p',h1,h2⟩:=ih p e2;exact⟨i::p',h1.cons i,by rw[F0,h2,e1]⟩
 |swap x y l =>
  intro p e
  match p,e with
  |i::j::p,e =>
   rw[F0,F0]at e;injection e with e1 e2
   injection e2 with e2 e3
   exact⟨j::i::p,List.Perm.swap i j p,by rw[F0,F0,e1,e2,e3]⟩
 |trans _ _ ih1 ih2 =>
  intro p e;obtain⟨p1,h1,h2⟩:=ih2 p e;obtain⟨p2,h3,h4⟩:=ih1 p1 h2;exact⟨p2,h3.trans h1,h4⟩
section
variable{prog:Program}{w:World}{A:Around}{E:Value->Shared->Prop}{s:Shared}{ks vs:List Value}{κ:SortKind}
theorem run_any{Q:SortSt->Shared->Prop}{rk:Nat->Int}{rk':Keyed->Nat}(lk:ks.length=vs.length)(hr:∀i,i<vs.length->rk i=(rk' (kas_item (ks.toArray.zip vs.toArray) i):Int))(hc:∀i j C,i<vs.length->j<vs.length->C (decide (rk i<rk j)) s->kas_ask prog w A κ ks i j C s)
  (k:∀p st',Tp vs.length p->Up rk p vs.length->failedOf st'=none->arrOf st'=p.map (kas_item (ks.toArray.zip vs.toArray))->Q st' s):wpAny (model prog w) A ((sortRuns').run (SortSt.mk' κ (ks.toArray.zip vs.toArray) #[] 7 none)) (λr s'=>Q r.2 s') E s:=by
 have sz:(ks.toArray.zip vs.toArray).size=vs.length:=by simp[lk]
 have whole:((List.range vs.length).map (kas_item (ks.toArray.zip vs.toArray)))=(ks.toArray.zip vs.toArray).toList:=by
  have e:=kas_range (ks.toArray.zip vs.toArray);rw[sz]at e;rw[<-X8 Array.toList e];simp
 have fst:∀i,i<vs.length->(kas_item (ks.toArray.zip vs.toArray) i).1=ks.getD i Value.none:=λi hi=>by
  have h1:i<ks.length:=by rw[lk];exact hi
  unfold kas_item;rw[T4,C9 (by rw[sz];exact hi),D3,C6 h1];simp
 have hl:NE prog w A E s rk' (λx=>∃i,i<vs.length/\x=kas_item (ks.toArray.zip vs.toArray) i) κ:=by
  rintro x y st Q' ⟨i,hi,rfl⟩ ⟨j,hj,rfl⟩ hk q;rw[lt'_eq];refine Z4 (A3d ?_);rw[hk];have c:=hc i j (λb s'=>s'=s/\b=decide (rk i<rk j)) hi hj ⟨rfl,rfl⟩;unfold kas_ask at c;rw[<-fst i hi,<-fst j hj]at c;refine Z4 (wpS_lift (A4a (A0b c (λb s' h=>?_) λ_ _ x=>x.elim)));obtain⟨rfl,rfl⟩:=h;refine⟨rfl,?_⟩;refine Z5 ?_;have e:decide (rk i<rk j)=decide (rk' (kas_item (ks.toArray.zip vs.toArray) i)<rk' (kas_item (ks.toArray.zip vs.toArray) j)):=by
   rw[hr i hi,hr j hj];exact decide_eq_decide.mpr Int.ofNat_lt
  rw[e];exact q
 have run:=Qb (st:=SortSt.mk' κ (ks.toArray.zip vs.toArray) #[] 7 none) (Q:=λ_ st'=>Q st' s) hl rfl rfl rfl (λi x e=>?_) λst' hf pm so=>?_
 ·exact A0b run (λr s' h=>by obtain⟨rfl,q⟩:=h;exact q) λ_ _ e=>e
 ·have hi:i<vs.length:=by
   have:=(J8.mp e).1;rw[sz]at this;exact this
  refine⟨i,hi,?_⟩;have e:(ks.toArray.zip vs.toArray)[i]?=some x:=e;unfold kas_item;rw[T4,e];rfl
 ·have pm:(arrOf st').toList.Perm (ks.toArray.zip vs.toArray).toList:=pm;obtain⟨p,h1,h2⟩:=TH pm _ whole;have lp:p.length=vs.length:=by rw[h1.length_eq,O0]
  have ea:arrOf st'=p.toArray.map (kas_item (ks.toArray.zip vs.toArray)):=by
   apply Array.toList_inj.mp;rw[Array.toList_map];exact h2.symm
  refine k p.toArray st' ⟨by simpa using lp,T7.mpr (by simpa using h1)⟩ (λi j ij hj=>?_) hf ea;have so:SoR rk' (arrOf st') 0 vs.length:=by
   rw[<-sz];exact so
  have at':∀{i:Nat},i<vs.length->p.toArray.getD i 0<vs.length/\(arrOf st')[i]?=some (kas_item (ks.toArray.zip vs.toArray) (p.toArray.getD i 0)):=λ{i} hi=>by
   have hp:i<p.length:=by rw[lp];exact hi
   have e:p.toArray.getD i 0=p[i]:=by simp[Array.getD,hp]
   rw[e];refine⟨by simpa using h1.mem_iff.mp (O5 hp),?_⟩;rw[ea,Array.getElem?_map,List.getElem?_toArray,C6 hp];rfl
  obtain⟨a1,a2⟩:=at' (i:=i) A1;obtain⟨b1,b2⟩:=at' hj;unfold kk;rw[hr _ a1,hr _ b1];exact Int.ofNat_le.mpr (so i j _ _ (J1 _) ij hj a2 b2)
end
def RN(H:Hp)(v:Value):List Int:=match v with
 |.ref u=>(match H u with
  |some (.tup vs)=>vs.filterMap λv=>(match v with|.int n=>some n|_=>none)
  |_=>[])
 |_=>[]
theorem Ue{H:Hp}{u:Addr}{ns:List Int}(h:H u=some (.tup (ns.map V.int))):RN H (.ref u)=ns:=by
 unfold RN;dsimp only;rw[h];dsimp only;clear h;induction ns with
 |nil=>rfl
 |cons n ns ih =>
  rw[F0,T0];dsimp only;rw[ih]
def rkK(H:Hp)(rows:List (List Int))(x:Keyed):Nat:=rows.countP λr=>CU r (RN H x.1)
theorem rkK_of{H:Hp}{items:List (Addr×List Int)}(ht:∀q∈items,H q.1=some (.tup (q.2.map V.int))){vs:List Value}(lv:vs.length=items.length){i:Nat}(hi:i<items.length):TB (items.map (·.2)) i=(rkK H (items.map (·.2)) (kas_item ((items.map λq=>Value.ref q.1).toArray.zip vs.toArray) i):Int):=by
 have e:(kas_item ((items.map λq=>Value.ref q.1).toArray.zip vs.toArray) i).1=.ref items[i].1:=by
  unfold kas_item;rw[T4,C9 (by simp;lia)];simp
 unfold TB rkK;rw[e,Ue (ht _ (O5 hi)),D3,B9,C6 hi];rfl
section
variable{prog:Program}{w:World}{A:Around}{E:Value->Shared->Prop}
theorem Ub{s:Shared}{a:Addr}{vs:List Value}{n:Nat}{P:PySem.Fin->Shared->Prop}{κ:SortKind}{rk:Nat->Int}{rk':Keyed->Nat}(ho:s.heap.get? a=some (seqObj "list" vs.toArray n))(h64:vs.length<=100000)(hr:∀i,i<vs.length->rk i=(rk' (kas_item (vs.toArray.zip vs.toArray) i):Int))
  (hk:∀(s':Shared)(Q:SortKind->Shared->Prop),(∀b o,b≠a->s.heap.get? b=some o->s'.heap.get? b=some o)->2<=vs.length->Q κ s'->wpAny (model prog w) A (keyKind' vs.toArray) Q E s')
  (hc:∀(s':Shared),(∀b o,b≠a->s.heap.get? b=some o->s'.heap.get? b=some o)->∀i j C,i<vs.length->j<vs.length->C (decide (rk i<rk j)) s'->kas_ask prog w A κ vs i j C s')
  (fin:∀p,Tp vs.length p->Up rk p vs.length->P (.done (.ret .none)) {s with heap:=sortedHeap s.heap a vs (p.toList.map λi=>vs.getD i Value.none).toArray}) :
  wpAny (model prog w) A (Builtin.«list.sort» ⟨[.ref a],[]⟩) P E s:=by
 have alt:a<s.heap.objs.size:=E9 ho;have len:vs.toArray.size=vs.length:=E6;have ln:vs.length<=sizeLine:=D4 h64 A3;rw[list_sort_plain];refine Z0 (listItems_at ho rfl (Z0 (listUpdate_at ho rfl ?_)));have ⟨e1,he1⟩:∃e1,(s.heap.update a (Obj.mapSeq λ_=>#[])).get? a=some (seqObj "list" #[] e1):=⟨_,get?_update_seq ho _⟩
 refine Z0 (seqEpoch_at he1 rfl (Z0 (wpAny_newTuple (Z0 (wpAny_newList (A1h ?_))))));have hin:(((s.heap.update a (Obj.mapSeq λ_=>#[])).push (seqObj "tuple" vs.toArray 0)).push (seqObj "list" #[] 0)).get? a=some (seqObj "list" #[] e1):=by
  refine D0 _ (D0 _ he1)
 have keep:∀b o,b≠a->s.heap.get? b=some o->(((s.heap.update a (Obj.mapSeq λ_=>#[])).push (seqObj "tuple" vs.toArray 0)).push (seqObj "list" #[] 0)).get? b=some o:=λb o hb e =>
  D0 _ (D0 _ (by rw[Heap.get?_update_ne _ _ _ _ hb];exact e))
 show wpAny (model prog w) A _ P E {s with heap:=(((s.heap.update a (Obj.mapSeq λ_=>#[])).push (seqObj "tuple" vs.toArray 0)).push (seqObj "list" #[] 0))};dsimp only;by_cases few:vs.toArray.size<2
 ·rw[Z6 few,Z6 few];refine Z0 (X7 ?_);rw[StateT.run_pure];refine Z0 (X7 ?_);dsimp only;have eo:(arrOf (SortSt.mk' general' (vs.toArray.zip vs.toArray) #[] 7 none)).map (·.2)=((List.range vs.length).toArray.toList.map λi=>vs.getD i Value.none).toArray:=by
   rw[len]at few;clear hk hc fin keep hin ho hr;show(vs.toArray.zip vs.toArray).map (·.2)=_
   match vs,few with
   |[],_=>simp
   |[v],_=>simp
  refine Z0 (seqEpoch_at hin rfl (Z0 (listUpdate_at hin rfl ?_ (hsz2:=by rw[eo];simp;lia))));simp only[bne_self_eq_false,M9,A2a];rw[eo];refine X7 (fin _ ⟨by simp,Array.Perm.refl _⟩ λi j ij hj=>?_);have:i=j:=by lia
  rw[this];exact Int.le_refl _
 ·rw[Z3 few,Z3 few];have two:2<=vs.length:=by lia
  refine Z0 (hk _ _ keep two ?_);refine Z0 (A0b (run_any (ks:=vs) (rk:=rk) (Q:=λst' s'=>s'={s with heap:=(((s.heap.update a (Obj.mapSeq λ_=>#[])).push (seqObj "tuple" vs.toArray 0)).push (seqObj "list" #[] 0))}/\failedOf st'=none/\∃p,Tp vs.length p/\Up rk p vs.length/\arrOf st'=p.map (kas_item (vs.toArray.zip vs.toArray))) rfl hr (hc _ keep) λp st' h1 h2 h3 h4=>⟨rfl,h3,p,h1,h2,h4⟩) ?_ λ_ _ e=>e);rintro⟨⟨⟩,st'⟩ s' ⟨rfl,hf,p,pn,up,ea⟩;dsimp only at hf ea⊢;have eo:=kat_snds (ks:=vs) (vs:=vs) rfl ea;refine Z0 (seqEpoch_at hin rfl (Z0 (listUpdate_at hin rfl ?_ (hsz2:=by rw[eo];simp only[E6,B6,D9,pn.sz];lia))));rw[hf,eo];simp only[bne_self_eq_false,M9,A2a];exact X7 (fin p pn up)
theorem Qa{s:Shared}{l:Addr}{vs:List Value}{Q:Value->Shared->Prop}{κ:SortKind}{rk:Nat->Int}{rk':Keyed->Nat}(hl:s.heap.IsList l vs.toArray)(h64:vs.length<=100000)(hr:∀i,i<vs.length->rk i=(rk' (kas_item (vs.toArray.zip vs.toArray) i):Int))
  (hk:∀(A:Around)(E:Value->Shared->Prop)(s':Shared)(Q:SortKind->Shared->Prop),(∀b o,s.heap.get? b=some o->s'.heap.get? b=some o)->2<=vs.length->Q κ s'->wpAny (model prog w) A (keyKind' vs.toArray) Q E s')
  (hc:∀(A:Around)(s':Shared),(∀b o,s.heap.get? b=some o->s'.heap.get? b=some o)->∀i j C,i<vs.length->j<vs.length->C (decide (rk i<rk j)) s'->kas_ask prog w A κ vs i j C s')
  (fin:∀p,Tp vs.length p->Up rk p vs.length->Q (.ref (s.heap.objs.size+1)) {s with heap:=sortedAll s.heap vs (p.toList.map λi=>vs.getD i Value.none).toArray}) :
  wpAny (model prog w) A (call (.builtin "sorted") [.ref l]) Q E s:=by
 have ln:vs.length<=sizeLine:=D4 h64 A3;refine Calls.call_function_entry kind_sorted plain_sorted entry_sorted (args_sorted1 _) ?_;unfold Builtin.«sorted»;refine Z0 (m:=checkCount "sorted" 1 1 _) (X7 (Z0 (collect_list hl (Z0 (wpAny_newList ?_)))));have sz1:((s.heap.push (seqObj "list" #[] 0)).update s.heap.objs.size (Obj.mapSeq (· ++ vs.toArray))).objs.size=s.heap.objs.size+1:=by
  rw[Heap.size_update];exact size_push' ..
 have at1:(((s.heap.push (seqObj "list" #[] 0)).update s.heap.objs.size (Obj.mapSeq (· ++ vs.toArray))).push (seqObj "list" vs.toArray 0)).get? (s.heap.objs.size+1)=some (seqObj "list" vs.toArray 0):=by
  have:=F3 ((s.heap.push (seqObj "list" #[] 0)).update s.heap.objs.size (Obj.mapSeq (· ++ vs.toArray))) (show(seqObj "list" vs.toArray 0).isFreed=false from rfl);rw[sz1]at this;exact this
 have keep1:∀b o,s.heap.get? b=some o->(((s.heap.push (seqObj "list" #[] 0)).update s.heap.objs.size (Obj.mapSeq (· ++ vs.toArray))).push (seqObj "list" vs.toArray 0)).get? b=some o:=λb o e =>
  D0 _ (by rw[Heap.get?_update_ne _ _ _ _ (F9 (E9 e))];exact D0 _ e)
 show wpAny (model prog w) _ _ _ _ {s with heap:=(((s.heap.push (seqObj "list" #[] 0)).update s.heap.objs.size (Obj.mapSeq (· ++ vs.toArray))).push (seqObj "list" vs.toArray 0))};rw[sz1];have ne:∀b o,s.heap.get? b=some o->b≠s.heap.objs.size+1:=λb o e=>F9 (Nat.lt_succ_of_lt (E9 e));refine Z0 (A1h (A2h slot_list_sort ⟨_,at1,rfl⟩ entry_list_sort (Ub (κ:=κ) (rk:=rk) (rk':=rk') at1 h64 hr (λs' Q' kp t2 q=>hk _ _ s' Q' (λb o e=>kp b o (ne b o e) (keep1 b o e)) t2 q) (λs' kp=>hc _ s' λb o e=>kp b o (ne b o e) (keep1 b o e)) λp pn up=>⟨_,rfl,X7 ⟨_,rfl,fin p pn up⟩⟩) (args_list_sort _)))
end
section
variable{X:Cx}
theorem JP:Fy X (.builtin "sorted") (λxs H Q=>∃(p:Addr)(items:List (Addr×List Int)),xs=[.ref p]/\SqL X.K H p (items.map λq=>V.ref q.1)/\items.length<=100000/\(∀q∈items,H q.1=some (.tup (q.2.map V.int))/\q.2≠[]) /\
  ∀(L:Addr)(out:List (Addr×List Int)),H L=none->out.Perm items->LD out->Q (.ref L) (upd H L (.lst (out.map λq=>V.ref q.1)))):=by
 intro pins s σ H xs us Q I r h;obtain⟨p,items,rfl,hq,h64,ht,q⟩:=h;cases r with
 |cons r1 r2 =>
  cases r2;cases(show _=Value.ref p from r1);obtain⟨its,rv,pl,hz⟩:=I.list hq;have ei:its=items.map λq=>Value.ref q.1:=by
   clear pl hz ht q hq h64;induction items generalizing its with
   |nil=>cases rv;rfl
   |cons it items ih =>
    cases rv with
    |cons a1 a2 =>
     cases(show _=Value.ref it.1 from a1);rw[F0,ih _ a2]
  subst ei;have len:(items.map λq=>Value.ref q.1).length=items.length:=B6 _;have ln:items.length<=sizeLine:=D4 h64 A3;refine Qa (κ:=tuples' true) (rk:=TB (items.map (·.2))) (rk':=rkK H (items.map (·.2))) pl.isList (by rw[len];exact h64) (λi hi=>rkK_of (λq hq=>(ht q hq).1) len (by rw[len]at hi;exact hi)) (λA E s' Q' kp two q'=>?_) (λA s' kp i j C hi hj c=>?_) λpm pn up=>?_
  ·obtain⟨fs,k1,k2,k3⟩:=Ot (I.hok.kept kp) ht;refine kat_kind (T:=.type "int") k1 (by rw[k2,<-len];lia) (λv hv=>?_) rfl q';obtain⟨x,t,rfl⟩:=k3 v hv;exact .now
  ·rw[len]at hi hj;obtain⟨b,o,us,m,e1,e2,e3,e4,e5⟩:=Sg (I.hok.kept kp) ht hi;obtain⟨b',o',us',m',f1,f2,f3,f4,f5⟩:=Sg (I.hok.kept kp) ht hj;unfold kas_ask;rw[e1,f1];refine kat_lt e2 e4 f2 f4 ?_;rw[Vh (by rw[B6];exact hi)]at c;have:=ST (prog:=X.prog) (w:=X.w) (A:=A) (b:=true) (i:=0) e5 f5 c;have l1:=e5.length;have l2:=f5.length;rw[B6]at l1 l2;rw[E6,E6,<-l1,<-l2];exact this
  ·obtain⟨ep,at1⟩:=sortedAll_at s.heap (items.map λq=>Value.ref q.1) (pm.toList.map λi=>(items.map λq=>Value.ref q.1).getD i Value.none).toArray;have pl2:pm.toList.Perm (List.range items.length):=by
    have:=pn.pm;rw[len]at this
    simpa using this.toList
   have sz:pm.size=items.length:=pn.sz.trans len;have lt:∀i∈pm.toList,i<items.length:=λi hi=>by simpa using (pl2.mem_iff).mp hi
   let d:Addr×List Int:=(0,[])
   have out:(pm.toList.map λi=>items.getD i d).Perm items:=by
    refine(pl2.map _).trans ?_;refine List.Perm.of_eq (R4 λi=>?_);rw[B9];by_cases hi:i<items.length
    ·rw[O1 hi,C6 hi];show some (items.getD i d)=_;rw[D3,C6 hi];rfl
    ·rw[L7 (by simpa using hi),L7 A1];rfl
   have rows:LD (pm.toList.map λi=>items.getD i d):=by
    refine T8.mpr λi j hi hj ij=>?_;rw[B6,D9,sz]at hi hj;have u:=up i j (M0 ij) (by rw[len];exact hj);have gi:pm.getD i 0=pm[i]'A1:=by simp[Array.getD,sz,hi]
    have gj:pm.getD j 0=pm[j]'A1:=by simp[Array.getD,sz,hj]
    have li:=lt _ (O5 (l:=pm.toList) (n:=i) (by rw[D9];lia));have lj:=lt _ (O5 (l:=pm.toList) (n:=j) (by rw[D9];lia));rw[P0]at li lj;unfold kk at u;rw[gi,gj]at u;rw[U7,U7,P0,P0];generalize pm[i]=a at *
    generalize pm[j]=b at *
    have:=Vh (rows:=items.map (·.2)) (i:=b) (j:=a) (by rw[B6];exact lj);rw[Z2 A1]at this;have gd:∀{c:Nat},c<items.length->(items.map (·.2)).getD c []=(items.getD c d).2:=λ{c} hc=>by
     rw[D3,B9,D3,C6 hc];rfl
    rw[gd lj,gd li]at this;exact this.symm
   refine⟨.ref (s.heap.objs.size+1),_,?_,rfl,q (s.heap.objs.size+1) _ (I.hok.fresh (S1 _)) out rows⟩;refine I.laid (a:=s.heap.objs.size+1) (λb o e=>sortedAll_old e) (S1 _) ⟨by rw[B6,B6,D9,sz];exact ln,_,ep,?_,at1⟩;have:∀{l:List Nat},(∀i∈l,i<items.length)->AN ((l.map λi=>items.getD i d).map λq=>V.ref q.1) (l.map λi=>(items.map λq=>Value.ref q.1).getD i Value.none):=by
    intro l;induction l with
    |nil=>intro _;exact .nil
    |cons i l ih =>
     intro hl;refine .cons ?_ (ih λj hj=>hl j (E1 _ hj));have hi:=hl i (D8 ..);show Be (V.ref (items.getD i d).1) ((items.map λq=>Value.ref q.1).getD i Value.none);rw[D3,D3,B9,C6 hi];rfl
   exact this lt
end
section
variable{X:Cx}{pins:List (Addr×Obj)}{σ:St}{H H':Hp}{s:Shared}{k:Nat}{f b:Addr}{fd:FuncData}{ps:List Str}
end
section
variable{prog:Program}{w:World}{A:Around}{E:Value->Shared->Prop}{s:Shared}{r d:Addr}{o:Obj}{es:Array DictEntry}{ep:Nat}
end
section
variable{X:Cx}
end
end L2
namespace J
open PySem L2
def top(i:Nat):Stmt:=PySem.Challenge.pw_jumpfield_k53_reasons_walked.main.body.getD i (.Pass ⟨0,0,0,0⟩)
abbrev Ji:Stmt:=top 10
abbrev Rz:List Str:=["thing"]
abbrev Fb:List Str:=["thing"]
theorem Qc:Aw Rz Fb (Ak Ji):=⟨rfl,rfl,rfl,by decide +kernel,rfl,by decide +kernel,by decide +kernel⟩
abbrev Jj:Stmt:=top 17
abbrev RA:List Str:=["thing"]
abbrev Jn:List Str:=["thing"]
theorem Qd:Aw RA Jn (Ak Jj):=⟨rfl,rfl,rfl,by decide +kernel,rfl,by decide +kernel,by decide +kernel⟩
abbrev OT:Stmt:=top 18
abbrev cZ:List Str:=["wanted","state"]
abbrev Mg:List Str:=["wanted","state"]
theorem Vf:Aw cZ Mg (Ak OT):=⟨rfl,rfl,rfl,by decide +kernel,rfl,by decide +kernel,by decide +kernel⟩
abbrev El:Stmt:=top 22
abbrev Jf:List Str:=["text","words","cell","conditions"]
abbrev FU:List Str:=["text"]
theorem Dy:Aw Jf FU (Ak El):=⟨rfl,rfl,rfl,by decide +kernel,rfl,by decide +kernel,by decide +kernel⟩
abbrev Gq:Stmt:=top 23
abbrev Pd:List Str:=["word"]
abbrev DM:List Str:=["word"]
theorem NI:Aw Pd DM (Ak Gq):=⟨rfl,rfl,rfl,by decide +kernel,rfl,by decide +kernel,by decide +kernel⟩
abbrev FN:Stmt:=top 24
abbrev NM:List Str:=["word"]
abbrev Eo:List Str:=["word"]
theorem Mz:Aw NM Eo (Ak FN):=⟨rfl,rfl,rfl,by decide +kernel,rfl,by decide +kernel,by decide +kernel⟩
abbrev DT:Stmt:=top 25
abbrev Lm:List Str:=["word"]
abbrev DY:List Str:=["word"]
theorem Ju:Aw Lm DY (Ak DT):=⟨rfl,rfl,rfl,by decide +kernel,rfl,by decide +kernel,by decide +kernel⟩
abbrev EQ:Stmt:=top 26
abbrev MY:List Str:=["word","parts"]
abbrev Fa:List Str:=["word"]
theorem GW:Aw MY Fa (Ak EQ):=⟨rfl,rfl,rfl,by decide +kernel,rfl,by decide +kernel,by decide +kernel⟩
abbrev EO:Stmt:=top 27
abbrev MX:List Str:=["signs","numbers","sign"]
abbrev EZ:List Str:=["signs"]
theorem Ew:Aw MX EZ (Ak EO):=⟨rfl,rfl,rfl,by decide +kernel,rfl,by decide +kernel,by decide +kernel⟩
abbrev Ek:Stmt:=top 28
abbrev Je:List Str:=["word"]
abbrev FT:List Str:=["word"]
theorem MB:Aw Je FT (Ak Ek):=⟨rfl,rfl,rfl,by decide +kernel,rfl,by decide +kernel,by decide +kernel⟩
abbrev ER:Stmt:=top 35
abbrev MZ:List Str:=["text"]
abbrev Fd:List Str:=["text"]
theorem LT:Aw MZ Fd (Ak ER):=⟨rfl,rfl,rfl,by decide +kernel,rfl,by decide +kernel,by decide +kernel⟩
abbrev Ih:Stmt:=top 36
abbrev Qr:List Str:=["text","rule"]
abbrev Im:List Str:=["text"]
theorem Jt:Aw Qr Im (Ak Ih):=⟨rfl,rfl,rfl,by decide +kernel,rfl,by decide +kernel,by decide +kernel⟩
abbrev Jl:Stmt:=top 37
abbrev RC:List Str:=["rule","cell","around","number","clause"]
abbrev Jo:List Str:=["rule","cell","around"]
theorem Ig:Aw RC Jo (Ak Jl):=⟨rfl,rfl,rfl,by decide +kernel,rfl,by decide +kernel,by decide +kernel⟩
abbrev JZ:Stmt:=top 38
abbrev TX:List Str:=["rule","cell","around","number"]
abbrev IO:List Str:=["rule","cell","around"]
theorem MC:Aw TX IO (Ak JZ):=⟨rfl,rfl,rfl,by decide +kernel,rfl,by decide +kernel,by decide +kernel⟩
abbrev Gp:Stmt:=top 39
abbrev Pc:List Str:=["rule"]
abbrev GG:List Str:=["rule"]
theorem NH:Aw Pc GG (Ak Gp):=⟨rfl,rfl,rfl,by decide +kernel,rfl,by decide +kernel,by decide +kernel⟩
abbrev Gr:Stmt:=top 42
abbrev Pe:List Str:=["grove","square","parts","a","b","c","d"]
abbrev CS:List Str:=["grove","square"]
theorem Cy:Aw Pe CS (Ak Gr):=⟨rfl,rfl,rfl,by decide +kernel,rfl,by decide +kernel,by decide +kernel⟩
abbrev Jk:Stmt:=top 43
abbrev RB:List Str:=["nine"]
abbrev Fc:List Str:=["nine"]
theorem Qe:Aw RB Fc (Ak Jk):=⟨rfl,rfl,rfl,by decide +kernel,rfl,by decide +kernel,by decide +kernel⟩
abbrev Db:Stmt:=top 44
abbrev IZ:List Str:=["grove","four","parts"]
abbrev Ch:List Str:=["grove","four"]
theorem Er:Aw IZ Ch (Ak Db):=⟨rfl,rfl,rfl,by decide +kernel,rfl,by decide +kernel,by decide +kernel⟩
abbrev La:Stmt:=top 47
abbrev TY:List Str:=["_law_script","_law_k"]
abbrev IP:List Str:=["_law_script","_law_k"]
theorem Rp:Aw TY IP (Ak La):=⟨rfl,rfl,rfl,by decide +kernel,rfl,by decide +kernel,by decide +kernel⟩
abbrev Ij:Stmt:=top 48
abbrev Qt:List Str:=["_law_found","_law_due"]
abbrev FH:List Str:=["_law_found","_law_due"]
theorem OR:Aw Qt FH (Ak Ij):=⟨rfl,rfl,rfl,by decide +kernel,rfl,by decide +kernel,by decide +kernel⟩
abbrev Ii:Stmt:=top 49
abbrev Qs:List Str:=["_law_cell","_law_k","_law_value"]
abbrev FG:List Str:=["_law_cell","_law_k"]
theorem Go:Aw Qs FG (Ak Ii):=⟨rfl,rfl,rfl,by decide +kernel,rfl,by decide +kernel,by decide +kernel⟩
abbrev DU:Stmt:=top 50
abbrev Lo:List Str:=["_law_cell","_law_few","_law_taken","_law_amounts","_law_k","_law_wishes","_law_place"]
abbrev Ea:List Str:=["_law_cell","_law_few"]
theorem Bz:Aw Lo Ea (Ak DU):=⟨rfl,rfl,rfl,by decide +kernel,rfl,by decide +kernel,by decide +kernel⟩
abbrev FD:Stmt:=top 51
abbrev LO:List Str:=["_law_clause","_law_cell","_law_around","_law_state","_law_mask","_law_many","_law_place"]
abbrev Iq:List Str:=["_law_clause","_law_cell","_law_around"]
theorem CO:Aw LO Iq (Ak FD):=⟨rfl,rfl,rfl,by decide +kernel,rfl,by decide +kernel,by decide +kernel⟩
abbrev ET:Stmt:=top 52
abbrev Nb:List Str:=["_law_clauses","_law_cell","_law_around","_law_clause"]
abbrev DO:List Str:=["_law_clauses","_law_cell","_law_around"]
theorem GX:Aw Nb DO (Ak ET):=⟨rfl,rfl,rfl,by decide +kernel,rfl,by decide +kernel,by decide +kernel⟩
abbrev EE:Stmt:=top 53
abbrev JG:List Str:=["_law_clause","_law_words_here","_law_state","_law_mask","_law_signs","_law_place"]
abbrev GH:List Str:=["_law_clause"]
theorem Cb:Aw JG GH (Ak EE):=⟨rfl,rfl,rfl,by decide +kernel,rfl,by decide +kernel,by decide +kernel⟩
abbrev FB:Stmt:=top 54
abbrev LK:List Str:=["_law_clauses"]
abbrev Io:List Str:=["_law_clauses"]
theorem OQ:Aw LK Io (Ak FB):=⟨rfl,rfl,rfl,by decide +kernel,rfl,by decide +kernel,by decide +kernel⟩
abbrev CG:Stmt:=top 55
abbrev FI:List Str:=["_law_cells","_law_few","_law_clauses"]
abbrev DN:List Str:=["_law_cells","_law_few"]
theorem Dl:Aw FI DN (Ak CG):=⟨rfl,rfl,rfl,by decide +kernel,rfl,by decide +kernel,by decide +kernel⟩
abbrev ES:Stmt:=top 56
abbrev Na:List Str:=["_law_script","_law_wide","_law_few","_law_grid","_law_y","_law_cell","_law_row","_law_x","_law_state"]
abbrev Fe:List Str:=["_law_script","_law_wide","_law_few"]
theorem BC:Aw Na Fe (Ak ES):=⟨rfl,rfl,rfl,by decide +kernel,rfl,by decide +kernel,by decide +kernel⟩
abbrev FC:Stmt:=top 57
abbrev LM:List Str:=["_law_grove","_law_grid","_law_rows","_law_above","_law_y","_law_made","_law_x"]
abbrev Ip:List Str:=["_law_grove","_law_grid"]
theorem Co:Aw LM Ip (Ak FC):=⟨rfl,rfl,rfl,by decide +kernel,rfl,by decide +kernel,by decide +kernel⟩
abbrev EF:Stmt:=top 58
abbrev JH:List Str:=["_law_nine"]
abbrev GK:List Str:=["_law_nine"]
theorem NJ:Aw JH GK (Ak EF):=⟨rfl,rfl,rfl,by decide +kernel,rfl,by decide +kernel,by decide +kernel⟩
abbrev Gw:Stmt:=top 59
abbrev Ph:List Str:=["_law_grove","_law_square","_law_lines_here","_law_upper","_law_lower","_law_left","_law_right"]
abbrev EH:List Str:=["_law_grove","_law_square"]
theorem CA:Aw Ph EH (Ak Gw):=⟨rfl,rfl,rfl,by decide +kernel,rfl,by decide +kernel,by decide +kernel⟩
abbrev Gu:Stmt:=top 60
abbrev Pg:List Str:=["_law_grove","_law_square","_law_lines_here","_law_parts_here","_law_y","_law_x","_law_some"]
abbrev GJ:List Str:=["_law_grove","_law_square"]
theorem Cz:Aw Pg GJ (Ak Gu):=⟨rfl,rfl,rfl,by decide +kernel,rfl,by decide +kernel,by decide +kernel⟩
abbrev DD:Stmt:=top 61
abbrev Iv:List Str:=["_law_grove","_law_clauses","_law_square","_law_made","_law_lines_here","_law_line","_law_four","_law_k","_law_x","_law_y","_law_here","_law_around","_law_due"]
abbrev Fj:List Str:=["_law_grove","_law_clauses","_law_square","_law_made"]
theorem AX:Aw Iv Fj (Ak DD):=⟨rfl,rfl,rfl,by decide +kernel,rfl,by decide +kernel,by decide +kernel⟩
abbrev FP:Stmt:=top 62
abbrev NO:List Str:=["_law_told","_law_used","_law_wanted","_law_found","_law_one"]
abbrev FW:List Str:=["_law_told","_law_used","_law_wanted"]
theorem EN:Aw NO FW (Ak FP):=⟨rfl,rfl,rfl,by decide +kernel,rfl,by decide +kernel,by decide +kernel⟩
abbrev Ci:Stmt:=top 63
abbrev Ee:List Str:=["_law_grove","_law_clauses","_law_told","_law_used","_law_row","_law_square","_law_e","_law_made","_law_level","_law_four","_law_twice","_law_wanted","_law_nine","_law_a","_law_b","_law_c","_law_d","_law_k","_law_some","_law_due"]
abbrev DZ:List Str:=["_law_grove","_law_clauses","_law_told","_law_used","_law_row"]
theorem AG:Aw Ee DZ (Ak Ci):=⟨rfl,rfl,rfl,by decide +kernel,rfl,by decide +kernel,by decide +kernel⟩
abbrev Gs:Stmt:=top 64
abbrev Pf:List Str:=["_law_row","_law_one"]
abbrev GI:List Str:=["_law_row"]
theorem Jb:Aw Pf GI (Ak Gs):=⟨rfl,rfl,rfl,by decide +kernel,rfl,by decide +kernel,by decide +kernel⟩
abbrev FO:Stmt:=top 65
abbrev NN:List Str:=["_law_grove","_law_clauses","_law_rows","_law_square","_law_e","_law_told","_law_used","_law_row"]
abbrev FV:List Str:=["_law_grove","_law_clauses","_law_rows","_law_square","_law_e"]
theorem Dz:Aw NN FV (Ak FO):=⟨rfl,rfl,rfl,by decide +kernel,rfl,by decide +kernel,by decide +kernel⟩
abbrev Qf:Stmt:=top 66
abbrev VH:List Str:=["_law_script","_law_grove","_law_few","_law_clauses","_law_many","_law_others","_law_rule","_law_other","_law_level","_law_e","_law_square","_law_jumps","_law_turned","_law_now","_law_rows","_law_kept"]
abbrev p_law:List Str:=["_law_script"]
theorem Da:Aw VH p_law (Ak Qf):=⟨rfl,rfl,rfl,by decide +kernel,rfl,by decide +kernel,by decide +kernel⟩
abbrev EV:Stmt:=Bd (top 19) 0
abbrev Nd:List Str:=["self","state","numbers"]
abbrev Fo:List Str:=["self","state","numbers"]
theorem LV:Aw Nd Fo (Ak EV):=⟨rfl,rfl,rfl,by decide +kernel,rfl,by decide +kernel,by decide +kernel⟩
abbrev Ez:Stmt:=Bd (top 19) 1
abbrev LY:List Str:=["self","around"]
abbrev EB:List Str:=["self","around"]
theorem JY:Aw LY EB (Ak Ez):=⟨rfl,rfl,rfl,by decide +kernel,rfl,by decide +kernel,by decide +kernel⟩
abbrev FQ:Stmt:=Bd (top 20) 0
abbrev NP:List Str:=["self","wanted"]
abbrev FX:List Str:=["self","wanted"]
theorem ME:Aw NP FX (Ak FQ):=⟨rfl,rfl,rfl,by decide +kernel,rfl,by decide +kernel,by decide +kernel⟩
abbrev DE:Stmt:=Bd (top 20) 1
abbrev Iw:List Str:=["self","around"]
abbrev Fk:List Str:=["self","around"]
theorem LU:Aw Iw Fk (Ak DE):=⟨rfl,rfl,rfl,by decide +kernel,rfl,by decide +kernel,by decide +kernel⟩
abbrev FS:Stmt:=Bd (top 21) 0
abbrev NR:List Str:=["self","cell","conditions","makes"]
abbrev FZ:List Str:=["self","cell","conditions","makes"]
theorem MG:Aw NR FZ (Ak FS):=⟨rfl,rfl,rfl,by decide +kernel,rfl,by decide +kernel,by decide +kernel⟩
abbrev Em:Stmt:=Bd (top 21) 1
abbrev Jg:List Str:=["self","cell","around"]
abbrev Ga:List Str:=["self","cell","around"]
theorem MJ:Aw Jg Ga (Ak Em):=⟨rfl,rfl,rfl,by decide +kernel,rfl,by decide +kernel,by decide +kernel⟩
abbrev GD:Stmt:=Bd (top 31) 0
abbrev Pl:List Str:=["self","state","level","bare"]
abbrev GN:List Str:=["self"]
theorem Ej:Aw Pl GN (Ak GD):=⟨rfl,rfl,rfl,by decide +kernel,rfl,by decide +kernel,by decide +kernel⟩
abbrev GC:Stmt:=Bd (top 31) 1
abbrev Pk:List Str:=["self","parts","level","number"]
abbrev EJ:List Str:=["self","parts","level"]
theorem Jc:Aw Pk EJ (Ak GC):=⟨rfl,rfl,rfl,by decide +kernel,rfl,by decide +kernel,by decide +kernel⟩
abbrev EU:Stmt:=Bd (top 31) 2
abbrev Nc:List Str:=["self","parts","number"]
abbrev BB:List Str:=["self","parts"]
theorem GZ:Aw Nc BB (Ak EU):=⟨rfl,rfl,rfl,by decide +kernel,rfl,by decide +kernel,by decide +kernel⟩
abbrev CJ:Stmt:=Bd (top 31) 3
abbrev IA:List Str:=["self","square"]
abbrev BY:List Str:=["self","square"]
theorem Ic:Aw IA BY (Ak CJ):=⟨rfl,rfl,rfl,by decide +kernel,rfl,by decide +kernel,by decide +kernel⟩
abbrev GB:Stmt:=Bd (top 31) 4
abbrev Pj:List Str:=["self","state"]
abbrev EI:List Str:=["self","state"]
theorem NL:Aw Pj EI (Ak GB):=⟨rfl,rfl,rfl,by decide +kernel,rfl,by decide +kernel,by decide +kernel⟩
abbrev DG:Stmt:=Bd (top 31) 5
abbrev Iz:List Str:=["self","a","b","c","d","square","level"]
abbrev CL:List Str:=["self","a","b","c","d"]
theorem Ex:Aw Iz CL (Ak DG):=⟨rfl,rfl,rfl,by decide +kernel,rfl,by decide +kernel,by decide +kernel⟩
abbrev DX:Stmt:=Bd (top 31) 7
abbrev Lu:List Str:=["self","square"]
abbrev BF:List Str:=["self","square"]
theorem Jx:Aw Lu BF (Ak DX):=⟨rfl,rfl,rfl,by decide +kernel,rfl,by decide +kernel,by decide +kernel⟩
abbrev DW:Stmt:=Bd (top 31) 8
abbrev Ls:List Str:=["self","square"]
abbrev Cl:List Str:=["self","square"]
theorem Jw:Aw Ls Cl (Ak DW):=⟨rfl,rfl,rfl,by decide +kernel,rfl,by decide +kernel,by decide +kernel⟩
abbrev DV:Stmt:=Bd (top 31) 9
abbrev Lr:List Str:=["self","square"]
abbrev CT:List Str:=["self","square"]
theorem Jv:Aw Lr CT (Ak DV):=⟨rfl,rfl,rfl,by decide +kernel,rfl,by decide +kernel,by decide +kernel⟩
abbrev FE:Stmt:=Bd (top 34) 0
abbrev LQ:List Str:=["self","text"]
abbrev Ir:List Str:=["self","text"]
theorem OS:Aw LQ Ir (Ak FE):=⟨rfl,rfl,rfl,by decide +kernel,rfl,by decide +kernel,by decide +kernel⟩
abbrev Gx:Stmt:=Bd (top 45) 0
abbrev Pi:List Str:=["self","grove","rule"]
abbrev GM:List Str:=["self","grove","rule"]
theorem NK:Aw Pi GM (Ak Gx):=⟨rfl,rfl,rfl,by decide +kernel,rfl,by decide +kernel,by decide +kernel⟩
abbrev DF:Stmt:=Bd (top 45) 1
abbrev Iy:List Str:=["self","rule","text"]
abbrev DP:List Str:=["self","rule"]
theorem GY:Aw Iy DP (Ak DF):=⟨rfl,rfl,rfl,by decide +kernel,rfl,by decide +kernel,by decide +kernel⟩
abbrev FR:Stmt:=Bd (top 45) 2
abbrev NQ:List Str:=["self","square","e"]
abbrev FY:List Str:=["self","square","e"]
theorem MF:Aw NQ FY (Ak FR):=⟨rfl,rfl,rfl,by decide +kernel,rfl,by decide +kernel,by decide +kernel⟩
abbrev Dm:Stmt:=Bd (top 45) 3
abbrev Jq:List Str:=["self","square","e","level"]
abbrev Ct:List Str:=["self","square","e"]
theorem EC:Aw Jq Ct (Ak Dm):=⟨rfl,rfl,rfl,by decide +kernel,rfl,by decide +kernel,by decide +kernel⟩
abbrev CP:Stmt:=Bd (top 45) 4
abbrev Lp:List Str:=["self","square","e","result"]
abbrev Bf:List Str:=["self","square","e"]
theorem DB:Aw Lp Bf (Ak CP):=⟨rfl,rfl,rfl,by decide +kernel,rfl,by decide +kernel,by decide +kernel⟩
abbrev Cc:Stmt:=Bd (top 45) 5
abbrev Ep:List Str:=["self","square","e","grove","level","nine"]
abbrev Df:List Str:=["self","square","e"]
theorem DC:Aw Ep Df (Ak Cc):=⟨rfl,rfl,rfl,by decide +kernel,rfl,by decide +kernel,by decide +kernel⟩
abbrev Bu:Stmt:=Bd (top 45) 6
abbrev CM:List Str:=["self","square","e","nine"]
abbrev Bw:List Str:=["self","square","e"]
theorem DR:Aw CM Bw (Ak Bu):=⟨rfl,rfl,rfl,by decide +kernel,rfl,by decide +kernel,by decide +kernel⟩
abbrev CI:Stmt:=Bd (top 45) 7
abbrev Ix:List Str:=["self","square","parts","a","b","c","d"]
abbrev BX:List Str:=["self","square"]
theorem Bm:Aw Ix BX (Ak CI):=⟨rfl,rfl,rfl,by decide +kernel,rfl,by decide +kernel,by decide +kernel⟩
abbrev Cr:Stmt:=Bd (top 45) 8
abbrev Fq:List Str:=["self","leaves","leaf","states"]
abbrev Dp:List Str:=["self","leaves"]
theorem Cg:Aw Fq Dp (Ak Cr):=⟨rfl,rfl,rfl,by decide +kernel,rfl,by decide +kernel,by decide +kernel⟩
abbrev Ey:Stmt:=Bd (top 45) 9
abbrev LX:List Str:=["self","square","e","told"]
abbrev EA:List Str:=["self","square","e"]
theorem Gg:Aw LX EA (Ak Ey):=⟨rfl,rfl,rfl,by decide +kernel,rfl,by decide +kernel,by decide +kernel⟩
abbrev Cp:Stmt:=Bd (top 45) 10
abbrev GP:List Str:=["self","square","e","seen","told","below"]
abbrev BA:List Str:=["self","square","e","seen","told"]
theorem Dr:Aw GP BA (Ak Cp):=⟨rfl,rfl,rfl,by decide +kernel,rfl,by decide +kernel,by decide +kernel⟩
abbrev Cj:Stmt:=Bd (top 45) 11
abbrev Ef:List Str:=["self","square","e","level","parts"]
abbrev Eb:List Str:=["self","square","e"]
theorem DA:Aw Ef Eb (Ak Cj):=⟨rfl,rfl,rfl,by decide +kernel,rfl,by decide +kernel,by decide +kernel⟩
structure Ad where
 c_Amounts:Addr
 c_Places:Addr
 c_Clause:Addr
 c_Grove:Addr
 c_Rule:Addr
 c_Jumps:Addr
structure Top(K:PySem.W.Frag)(mg:Str->Option Value)(a:Ad):Prop where
 b_all:mg "all" = none
 b_any:mg "any" = none
 b_bool:mg "bool" = none
 b_enumerate:mg "enumerate" = none
 b_int:mg "int" = none
 b_isinstance:mg "isinstance" = none
 b_len:mg "len" = none
 b_list:mg "list" = none
 b_min:mg "min" = none
 b_range:mg "range" = none
 b_sorted:mg "sorted" = none
 b_str:mg "str" = none
 b_tuple:mg "tuple" = none
 b_zip:mg "zip" = none
 k_STATES:∃t,mg "STATES" = some (.int 8 t)
 k_NEIGHBOURS:∃t,mg "NEIGHBOURS" = some (.int 8 t)
 k_STATE_FIGURES:∃t,mg "STATE_FIGURES" = some (.str (Str.ofString "01234567") t)
 k_AMOUNT_FIGURES:∃t,mg "AMOUNT_FIGURES" = some (.str (Str.ofString "012345678") t)
 k_ANY_SIGN:∃t,mg "ANY_SIGN" = some (.str (Str.ofString "*") t)
 k_TOP_LEVEL:∃t,mg "TOP_LEVEL" = some (.int 48 t)
 k_CLAUSE_MARK:∃t,mg "CLAUSE_MARK" = some (.str (Str.ofString "; ") t)
 k_LEAST_JUMPED:∃t,mg "LEAST_JUMPED" = some (.int 2 t)
 m_Amounts:mg "Amounts" = some (.ref a.c_Amounts)
 cl_Amounts:Cls K a.c_Amounts
 na_Amounts_state:BG K a.c_Amounts "state"
 na_Amounts_numbers:BG K a.c_Amounts "numbers"
 m_Places:mg "Places" = some (.ref a.c_Places)
 cl_Places:Cls K a.c_Places
 na_Places_wanted:BG K a.c_Places "wanted"
 m_Clause:mg "Clause" = some (.ref a.c_Clause)
 cl_Clause:Cls K a.c_Clause
 na_Clause_cell:BG K a.c_Clause "cell"
 na_Clause_conditions:BG K a.c_Clause "conditions"
 na_Clause_makes:BG K a.c_Clause "makes"
 m_Grove:mg "Grove" = some (.ref a.c_Grove)
 cl_Grove:Cls K a.c_Grove
 na_Grove_levels:BG K a.c_Grove "levels"
 na_Grove_parts:BG K a.c_Grove "parts"
 na_Grove_numbers:BG K a.c_Grove "numbers"
 na_Grove_bares:BG K a.c_Grove "bares"
 na_Grove_amounts:BG K a.c_Grove "amounts"
 na_Grove_boxes:BG K a.c_Grove "boxes"
 m_Rule:mg "Rule" = some (.ref a.c_Rule)
 cl_Rule:Cls K a.c_Rule
 na_Rule_text:BG K a.c_Rule "text"
 na_Rule_clauses:BG K a.c_Rule "clauses"
 m_Jumps:mg "Jumps" = some (.ref a.c_Jumps)
 cl_Jumps:Cls K a.c_Jumps
 na_Jumps_grove:BG K a.c_Jumps "grove"
 na_Jumps_memories:BG K a.c_Jumps "memories"
 na_Jumps_rule:BG K a.c_Jumps "rule"
 na_Jumps_known_squares:BG K a.c_Jumps "known_squares"
 na_Jumps_known_cells:BG K a.c_Jumps "known_cells"
seal L2.PA L2.PE L2.PS L2.PSs L2.PT L2.PW
inductive BQ where
 |am (s:Int) (ns:List Int)
 |pl (ws:List (Option Int))
structure Bj where
 cell:Option Int
 conds:List BQ
 makes:Int
abbrev AA:=List Bj
def Gb:Option Int->V
 |none=>.non
 |some i=>.int i
def Dx(w:Option Int)(s:Int):Bool:=match w with
 |none=>true
 |some i=>decide (i=s)
def BQ.holds(ar:List Int):BQ->Bool
 |.am s ns=>ns.any λn=>decide (n=((ar.countP (· == s):Nat):Int))
 |.pl ws=>(ws.zip ar).all λp=>Dx p.1 p.2
def Bj.fits(cell:Int)(ar:List Int)(c:Bj):Bool:=Dx c.cell cell && c.conds.all (BQ.holds ar)
def Nr(r:AA)(cell:Int)(ar:List Int):Option Nat:=r.findIdx? (Bj.fits cell ar)
def Dw(r:AA)(cell:Int)(ar:List Int):Int:=match r.find? (Bj.fits cell ar)with
 |none=>cell
 |some c=>c.makes
def fl1(f:Str)(a:V):List (Str×V):=AT f a []
def fl2(f g:Str)(a b:V):List (Str×V):=AT g b (AT f a [])
def fl3(f g h:Str)(a b c:V):List (Str×V):=AT h c (AT g b (AT f a []))
theorem fl1_1{f:Str}{a:V}:(fl1 f a).lookup f=some a:=by unfold fl1;rw[Aj,Z6 rfl]
theorem Px{f m:Str}{a:V}(h:¬m=f):(fl1 f a).lookup m=none:=by unfold fl1;rw[Aj,Z3 h];rfl
theorem We{f g:Str}{a b:V}(h:¬f=g):(fl2 f g a b).lookup f=some a:=by unfold fl2;rw[Aj,Z3 h,Aj,Z6 rfl]
theorem Wd{f g:Str}{a b:V}:(fl2 f g a b).lookup g=some b:=by unfold fl2;rw[Aj,Z6 rfl]
theorem fl2_no{f g m:Str}{a b:V}(h1:¬m=f)(h2:¬m=g):(fl2 f g a b).lookup m=none:=by unfold fl2;rw[Aj,Z3 h2,Aj,Z3 h1];rfl
theorem fl3_1{f g h:Str}{a b c:V}(h1:¬f=g)(h2:¬f=h):(fl3 f g h a b c).lookup f=some a:=by unfold fl3;rw[Aj,Z3 h2,Aj,Z3 h1,Aj,Z6 rfl]
theorem fl3_2{f g h:Str}{a b c:V}(h1:¬g=h):(fl3 f g h a b c).lookup g=some b:=by unfold fl3;rw[Aj,Z3 h1,Aj,Z6 rfl]
theorem fl3_3{f g h:Str}{a b c:V}:(fl3 f g h a b c).lookup h=some c:=by unfold fl3;rw[Aj,Z6 rfl]
theorem fl3_no{f g h m:Str}{a b c:V}(h1:¬m=f)(h2:¬m=g)(h3:¬m=h):(fl3 f g h a b c).lookup m=none:=by unfold fl3;rw[Aj,Z3 h3,Aj,Z3 h2,Aj,Z3 h1];rfl
theorem Ql(f:Str)(v:V):∀l:List (Str×V),(AT f v l).length<=l.length+1
 |[]=>C8 _
 | (g,w)::r=>by
  unfold AT;split
  ·exact S1 _
  ·rw[E7,E7];exact R8 (Ql f v r)
theorem Ai{H:Hp}{p:Addr}{o:HO}(h:H p=none):Av H (upd H p o):=λb u e=>by
 rw[Ao (Ah e h)];exact e
theorem alc{H H':Hp}{p:Addr}{o:HO}(h:H p=none)(e:upd H p o=H'):Av H H'/\H' p=some o:=e▸⟨Ai h,Af⟩
inductive De(a:Ad)(H:Hp):Addr->BQ->Prop where
 |am {p t dx:Addr} {s:Int} {ns:List Int} (h:H p=some (.ins a.c_Amounts dx (fl2 "state" "numbers" (.int s) (.ref t)))) (ht:H t=some (.tup (ns.map V.int))):De a H p (.am s ns)
 |pl {p t dx:Addr} {ws:List (Option Int)} (h:H p=some (.ins a.c_Places dx (fl1 "wanted" (.ref t)))) (ht:H t=some (.tup (ws.map Gb))):De a H p (.pl ws)
structure BW(a:Ad)(H:Hp)(p:Addr)(c:Bj):Prop where
 ex:∃(dx t:Addr)(cs:List Addr),H p=some (.ins a.c_Clause dx (fl3 "cell" "conditions" "makes" (Gb c.cell) (.ref t) (.int c.makes)))/\H t=some (.tup (cs.map V.ref))/\Paired (De a H) cs c.conds
structure BV(a:Ad)(H:Hp)(p:Addr)(x:Str)(r:AA):Prop where
 ex:∃(dx t:Addr)(cs:List Addr),H p=some (.ins a.c_Rule dx (fl2 "text" "clauses" (.str x) (.ref t)))/\H t=some (.tup (cs.map V.ref))/\Paired (BW a H) cs r
theorem Paired.imp{α β:Type}{F G:α->β->Prop}(h:∀x y,F x y->G x y):∀{l:List α}{m:List β},Paired F l m->Paired G l m
 |_,_,.nil=>.nil
 |_,_,.cons r t=>.cons (h _ _ r) (Paired.imp h t)
theorem Paired.get{α β:Type}{F:α->β->Prop}:∀{l:List α}{m:List β}{i:Nat}{x:α},Paired F l m->l[i]?=some x->∃y,m[i]?=some y/\F x y
 |_,_,_,_,.nil,e=>by simp at e
 |_,_,0,_,.cons r _,e=>by simp at e;subst e;exact⟨_,rfl,r⟩
 |_,_,i+1,x,.cons _ t,e=>by
  obtain⟨y,h1,h2⟩:=Paired.get (i:=i) (x:=x) t (by simpa using e);exact⟨y,by simpa using h1,h2⟩
theorem De.same{a:Ad}{H H':Hp}{p:Addr}{c:BQ}(s:Av H H')(h:De a H p c):De a H' p c:=by
 cases h with
 |am h ht=>exact .am (s _ _ h) (s _ _ ht)
 |pl h ht=>exact .pl (s _ _ h) (s _ _ ht)
theorem BW.same{a:Ad}{H H':Hp}{p:Addr}{c:Bj}(s:Av H H')(h:BW a H p c):BW a H' p c:=by
 obtain⟨dx,t,cs,h1,h2,h3⟩:=h.ex;exact⟨dx,t,cs,s _ _ h1,s _ _ h2,Paired.imp (λ_ _ z=>z.same s) h3⟩
theorem BV.same{a:Ad}{H H':Hp}{p:Addr}{x:Str}{r:AA}(s:Av H H')(h:BV a H p x r):BV a H' p x r:=by
 obtain⟨dx,t,cs,h1,h2,h3⟩:=h.ex;exact⟨dx,t,cs,s _ _ h1,s _ _ h2,Paired.imp (λ_ _ z=>z.same s) h3⟩
theorem in_ints(n:Int)(ns:List Int):inV (.int n) (ns.map V.int)=ns.any λm=>decide (m=n):=by
 unfold inV;rw[List.any_map];congr 1
theorem Uo(ns:List Int):(ns.map V.int).all JL=true:=by
 rw[Y8];exact O6.mpr λ_ _=>rfl
theorem IT(i j:Int):decide (V.int i=V.int j)=decide (i=j):=by
 by_cases h:i=j
 ·rw[Z1 h,Z1 (by rw[h])]
 ·rw[Z2 h,Z2 λz=>h (by injection z)]
section
variable{P:Program}{w:World}{K:PySem.W.Frag}{mg:Str->Option Value}{base:Heap}{a:Ad}
inductive Tk(vs:List V)(H:Hp)(Q:VK):Prop
 |mk (x:Option Int) (s:Int) (_:vs=[Gb x,.int s]) (_:Q (.bl (Dx x s)) H):Tk vs H Q
def Mc:Sp:=λvs H Q _=>Tk vs H Q
theorem Vz{f:Addr}{fd:FuncData}(F:Fun K "takes" "takes" OT f fd):AR P w K mg base CX0 1 f fd Mg Mc:=by
 refine F.ok Vf (λvs H Q E h=>?_) (λcdv A outer s H vs Q E hr h=>?_)
 ·obtain⟨x,s,rfl,_⟩:=h;rfl
 ·obtain⟨x,s,rfl,k⟩:=h;refine⟨_,(Ag (Au (pe_or (EG MT (pv 0) Ik (AM _)) (Le (EG Ds (pv 0) (pv 1) (AM _)))))),?_⟩
  try dsimp only[cxK]
  refine xq1 rfl ⟨rfl,(xq1 rfl ?_)⟩;cases x with
  |none=>exact CN k
  |some i =>
   have e:decide (Gb (some i)=V.int s)=Dx (some i) s:=IT i s;rw[<-e]at k;exact Bq (xw2 rfl rfl ⟨rfl,k⟩)
inductive Rc(a:Ad)(vs:List V)(H:Hp)(Q:VK):Prop
 |mk (p t dx:Addr) (s:Int) (_:vs=[.ref p,.int s,.ref t]) (_:H p=some (.ins a.c_Amounts dx [])) (_:Q .non (upd H p (.ins a.c_Amounts dx (fl2 "state" "numbers" (.int s) (.ref t))))):Rc a vs H Q
def Mx(a:Ad):Sp:=λvs H Q _=>Rc a vs H Q
theorem TU{f:Addr}{fd:FuncData}(F:Fun K "__init__" "Amounts.__init__" EV f fd)(T:Top K mg a):AR P w K mg base CX0 1 f fd Fo (Mx a):=by
 refine F.ok LV (λvs H Q E h=>?_) (λcdv A outer s H vs Q E hr h=>?_)
 ·obtain⟨p,t,dx,s,rfl,_⟩:=h;rfl
 ·obtain⟨p,t,dx,s,rfl,hp,k⟩:=h;refine⟨_,(Ac (Cs (pv 0) (pv 1) rfl) (Ag (Cs (pv 0) (pv 2) rfl))),?_⟩
  try dsimp only[cxK]
  refine xw2 rfl rfl ⟨p,_,dx,[],rfl,hp,T.cl_Amounts,T.na_Amounts_state,B4,(xw2 rfl rfl ⟨p,_,dx,(xq1 rfl ⟨Af,T.cl_Amounts,T.na_Amounts_numbers,B5,?_⟩)⟩)⟩;rw[Fz];exact k
inductive Ra(a:Ad)(vs:List V)(H:Hp)(Q:VK):Prop
 |mk (p t dx:Addr) (_:vs=[.ref p,.ref t]) (_:H p=some (.ins a.c_Places dx [])) (_:Q .non (upd H p (.ins a.c_Places dx (fl1 "wanted" (.ref t))))):Ra a vs H Q
def Ms(a:Ad):Sp:=λvs H Q _=>Ra a vs H Q
theorem TQ{f:Addr}{fd:FuncData}(F:Fun K "__init__" "Places.__init__" FQ f fd)(T:Top K mg a):AR P w K mg base CX0 1 f fd FX (Ms a):=by
 refine F.ok ME (λvs H Q E h=>?_) (λcdv A outer s H vs Q E hr h=>?_)
 ·obtain⟨p,t,dx,rfl,_⟩:=h;rfl
 ·obtain⟨p,t,dx,rfl,hp,k⟩:=h;refine⟨_,(Ag (Cs (pv 0) (pv 1) rfl)),?_⟩
  try dsimp only[cxK]
  exact xw2 rfl rfl ⟨p,_,dx,[],rfl,hp,T.cl_Places,T.na_Places_wanted,B4,k⟩
inductive Rb(a:Ad)(vs:List V)(H:Hp)(Q:VK):Prop
 |mk (p t dx:Addr) (c:Option Int) (m:Int) (_:vs=[.ref p,Gb c,.ref t,.int m]) (_:H p=some (.ins a.c_Clause dx [])) (_:Q .non (upd H p (.ins a.c_Clause dx (fl3 "cell" "conditions" "makes" (Gb c) (.ref t) (.int m))))):Rb a vs H Q
def Mw(a:Ad):Sp:=λvs H Q _=>Rb a vs H Q
theorem TR{f:Addr}{fd:FuncData}(F:Fun K "__init__" "Clause.__init__" FS f fd)(T:Top K mg a):AR P w K mg base CX0 1 f fd FZ (Mw a):=by
 refine F.ok MG (λvs H Q E h=>?_) (λcdv A outer s H vs Q E hr h=>?_)
 ·obtain⟨p,t,dx,c,m,rfl,_⟩:=h;rfl
 ·obtain⟨p,t,dx,c,m,rfl,hp,k⟩:=h;refine⟨_,(Ac (Cs (pv 0) (pv 1) rfl) (Ac (Cs (pv 0) (pv 2) rfl) (Ag (Cs (pv 0) (pv 3) rfl)))),?_⟩
  try dsimp only[cxK]
  refine⟨_,rfl,_,rfl,p,_,dx,[],rfl,hp,T.cl_Clause,T.na_Clause_cell,B4,_,rfl,_,rfl,p,_,dx,_,rfl,Af,T.cl_Clause,T.na_Clause_conditions,B5,_,rfl,_,rfl,p,_,dx,_,rfl,Af,T.cl_Clause,T.na_Clause_makes,
   E5 (Ql _ _ _) (by show 2<1000;decide),?_⟩
  rw[Fz,Fz];exact k
def JX(a:Ad):Sp:=λvs H Q E=>(∃(p l t dx:Addr)(s:Int)(ns ar:List Int),vs=[.ref p,.ref l]/\H p=some (.ins a.c_Amounts dx (fl2 "state" "numbers" (.int s) (.ref t)))/\H t=some (.tup (ns.map V.int))/\H l=some (.lst (ar.map V.int))/\Q (.bl (BQ.holds ar (.am s ns))) H)
theorem Rx{f:Addr}{fd:FuncData}(F:Fun K "holds" "Amounts.holds" Ez f fd)(T:Top K mg a):AR P w K mg base CX0 1 f fd EB (JX a):=by
 refine F.ok JY (λvs H Q E h=>?_) (λcdv A outer s H vs Q E hr h=>?_)
 ·obtain⟨p,l,t,dx,s,ns,ar,rfl,_⟩:=h;rfl
 ·obtain⟨p,l,t,dx,s,ns,ar,rfl,hp,ht,hl,k⟩:=h;refine⟨_,(Ag (Au (EG TL (Ce Z8 PySem.F.slot_list_count PySem.F.type_list_count VI (pv 1) (Aa (AJ (pv 0) rfl) Ab)) (AJ (pv 0) rfl) rfl))),?_⟩
  try dsimp only[cxK]
  refine xq1 rfl ⟨.inl ⟨rfl,_,SqL.of hl⟩,(xwf rfl rfl hp T.cl_Amounts T.na_Amounts_state (We A0) ⟨l,ar,s,rfl,rfl,hl,(xwf rfl rfl hp T.cl_Amounts T.na_Amounts_numbers Wd ⟨t,(xq1 rfl ⟨.inr (SqT.of ht),rfl,Uo ns,?_⟩)⟩)⟩)⟩;show Q (.bl (inV _ _)) H;rw[in_ints];exact k
inductive OE(a:Ad)(vs:List V)(H:Hp)(Q:VK):Prop
 |mk (p l t dx:Addr) (ws:List (Option Int)) (ar:List Int) (_:vs=[.ref p,.ref l]) (_:H p=some (.ins a.c_Places dx (fl1 "wanted" (.ref t)))) (_:H t=some (.tup (ws.map Gb))) (_:H l=some (.lst (ar.map V.int))) (_:ws.length<=100) (_:∀H',Av H H'->Q (.bl (BQ.holds ar (.pl ws))) H'):OE a vs H Q
def JU(a:Ad):Sp:=λvs H Q _=>OE a vs H Q
theorem Rw{f:Addr}{fd:FuncData}(F:Fun K "holds" "Places.holds" DE f fd)(T:Top K mg a)(bZ:Cal P w K mg base CX0 1 "takes" Mg Mc):AR P w K mg base CX0 2 f fd Fk (JU a):=by
 refine F.ok LU (λvs H Q E h=>?_) (λcdv A outer s H vs Q E hr h=>?_)
 ·obtain⟨p,l,t,dx,ws,ar,rfl,_⟩:=h;rfl
 ·obtain⟨p,l,t,dx,ws,ar,rfl,hp,ht,hl,hw,k⟩:=h;refine⟨_,(Ag (Au (AO (QT rfl) rfl T.b_all PyProof.Rows.boot_all (Aa (BL rfl (Bk.of (So:=Ak DE) (No:=Iw) (N:=["one","state"]) (k:=2) (cs:=[]) rfl rfl A0) (pi_zip true false rfl T.b_zip (Aa (AJ (pv 0) rfl) (Aa (pv 1) Ab))) (λ_ _ _=>(Vo (i:=0) (j:=1) rfl A0 rfl rfl rfl rfl)) (λ_ _ _=>Bp) (λ_ _ _=>(Az bZ (rm hr) rfl Aq (Aa (pv 0) (Aa (pv 1) Ab))))) Ab)))),?_⟩
  try dsimp only[cxK]
  refine xwf rfl rfl hp T.cl_Places T.na_Places_wanted fl1_1 (xq1 rfl ⟨t,l,rfl,⟨_,SqT.of ht⟩,⟨_,SqL.of hl⟩,?_⟩);refine blk_zip (xs:=ws.map Gb) (ys:=ar.map V.int) (λi acc H2=>Av H H2/\acc=(((ws.zip ar).take i).map λp=>V.bl (Dx p.1 p.2))) ⟨Av.refl H,rfl⟩ (λi acc H2 z=>⟨SqT.of (z.1 _ _ ht),SqL.of (z.1 _ _ hl)⟩) ?_ ?_
  ·rintro i x y acc H2 T' hx hy ⟨sm,rfl⟩ nT;rw[B9]at hx hy;obtain⟨o,eo,rfl⟩:=D5.mp hx;obtain⟨m,em,rfl⟩:=D5.mp hy;have ez:(ws.zip ar)[i]?=some (o,m):=by rw[T9];exact⟨eo,em⟩
   refine JK Af ⟨⟨[some (Gb o),some (.int m)],rfl,rfl⟩,?_,?_⟩
   ·have:((((ws.zip ar).take i).map λp=>V.bl (Dx p.1 p.2))).length<=ws.length:=by
     rw[B6,J7,List.length_zip];omega
    exact E5 (D4 this hw) A3
   ·refine Eu ?_;refine xw2 rfl rfl ⟨o,m,rfl,sm.trans (Ai nT),?_⟩;rw[F4,ez,C0];rfl
  ·rintro acc H2 ⟨sm,rfl⟩ q nq;have len:min (ws.map Gb).length (ar.map V.int).length=(ws.zip ar).length:=by rw[B6,B6,List.length_zip]
   rw[len,F7];refine⟨q,(ws.zip ar).map (λp=>Dx p.1 p.2),rfl,SqL.of (by rw[Af,N3];rfl),?_⟩;have e:((ws.zip ar).map (λp=>Dx p.1 p.2)).all id=BQ.holds ar (.pl ws):=by rw[Y8];rfl
   rw[e];exact k _ (sm.trans (Ai nq))
inductive WH(a:Ad)(vs:List V)(H:Hp)(Q:VK):Prop
 |mk (p l:Addr) (c:Bj) (cell:Int) (ar:List Int) (_:vs=[.ref p,.int cell,.ref l]) (_:BW a H p c) (_:c.conds.length<=100) (_:(∀d∈c.conds,∀ws,d=BQ.pl ws->ws.length<=100)) (_:H l=some (.lst (ar.map V.int))) (_:∀H',Av H H'->Q (.bl (c.fits cell ar)) H'):WH a vs H Q
def Rm(a:Ad):Sp:=λvs H Q _=>WH a vs H Q
theorem ok_Fits{f:Addr}{fd:FuncData}(F:Fun K "fits" "Clause.fits" Em f fd)(T:Top K mg a)(bZ:Cal P w K mg base CX0 1 "takes" Mg Mc)(M_Am:BJ P w K mg base CX0 1 a.c_Amounts "holds" EB (JX a))(M_Pl:BJ P w K mg base CX0 2 a.c_Places "holds" Fk (JU a)) :
  AR P w K mg base CX0 3 f fd Ga (Rm a):=by
 refine F.ok MJ (λvs H Q E h=>?_) (λcdv A outer s H vs Q E hr h=>?_)
 ·obtain⟨p,l,c,cell,ar,rfl,_⟩:=h;rfl
 ·obtain⟨p,l,c,cell,ar,rfl,hC,hn,hn2,hl,k⟩:=h;obtain⟨dx,t,cs,hp,ht,hcs⟩:=hC.ex;refine⟨_,(Ag (Au (Lg (Az bZ (rm hr) rfl Aq (Aa (AJ (pv 0) rfl) (Aa (pv 1) Ab))) (Le (AO (QT rfl) rfl T.b_all PyProof.Rows.boot_all (Aa (BL rfl (Bk.of (So:=Ak Em) (No:=Jg) (N:=["condition","around"]) (k:=1) (cs:=[2]) rfl rfl A0) (Ld (AJ (pv 0) rfl)) (λ_ _ _=>(AV (i:=0) A0 rfl rfl)) (λ_ _ _=>Bp) (λ_ _ _=>(PE.or (Ay (pv 0) M_Am (rm hr) Aq (Aa (pv 1) Ab)) (Ay (pv 0) M_Pl (rm hr) Aq (Aa (pv 1) Ab))))) Ab)))))),?_⟩
  try dsimp only[cxK]
  refine xwf rfl rfl hp T.cl_Clause T.na_Clause_cell (fl3_1 A0 A0) (xq1 rfl ⟨c.cell,cell,rfl,Dx c.cell cell,rfl,?_⟩);cases et:Dx c.cell cell with
  |false =>
   refine Bq ?_;have:=k H (Av.refl H);unfold Bj.fits at this;rw[et]at this;exact this
  |true =>
   refine CN ?_;have ln:cs.length=c.conds.length:=X5 hcs;refine xwf rfl rfl hp T.cl_Clause T.na_Clause_conditions (fl3_2 A0) ⟨t,rfl,⟨_,SqT.of ht⟩,?_⟩;refine Mp (xs:=cs.map V.ref) (λi acc H2=>Av H H2/\acc=((c.conds.take i).map λd=>V.bl (BQ.holds ar d))) ⟨Av.refl H,rfl⟩ (λi acc H2 _ z=>SqT.of (z.1 _ _ ht)) ?_ ?_
   ·rintro i x acc H2 hx ⟨sm,rfl⟩;rw[B9]at hx;obtain⟨q,eq,rfl⟩:=D5.mp hx;obtain⟨d,ed,hd⟩:=Paired.get hcs eq;have hd2:=hd.same sm;refine⟨⟨[some (.ref q)],rfl,rfl⟩,?_,?_⟩
    ·have:((c.conds.take i).map λd=>V.bl (BQ.holds ar d)).length<=c.conds.length:=by
      rw[B6,J7];omega
     exact E5 (D4 this hn) A3
    ·refine Eu ?_;have nx:∀H4,Av H2 H4->Av H H4/\((c.conds.take i).map λd=>V.bl (BQ.holds ar d))++[V.bl (BQ.holds ar d)]=((c.conds.take (i+1)).map λd=>V.bl (BQ.holds ar d)):=λH4 s4=>⟨sm.trans s4,by
      rw[F4,ed,C0];rfl⟩
     have md:d∈c.conds:=D7 ed;cases hd2 with
     |@am t2 dx2 s ns h1 h2=>exact .inl ⟨_,rfl,q,dx2,_,rfl,h1,fl2_no A0 A0,_,rfl,q,l,t2,dx2,s,ns,ar,rfl,h1,h2,sm _ _ hl,nx H2 (Av.refl H2)⟩
     |@pl t2 dx2 ws h1 h2=>exact .inr ⟨_,rfl,q,dx2,_,rfl,h1,Px A0,_,rfl,q,l,t2,dx2,ws,ar,rfl,h1,h2,sm _ _ hl,hn2 _ md ws rfl,λH4 s4=>nx H4 s4⟩
   ·rintro acc H2 ⟨sm,rfl⟩ q nq;rw[B6,ln,F7];refine⟨q,c.conds.map (BQ.holds ar),rfl,SqL.of (by rw[Af,N3];rfl),?_⟩;have e:(c.conds.map (BQ.holds ar)).all id=c.fits cell ar:=by
     unfold Bj.fits;rw[et,Y8];rfl
    rw[e];exact k _ (sm.trans (Ai nq))
def ROk(r:AA):Prop:=r.length<=5000/\∀c∈r,c.conds.length<=100/\∀d∈c.conds,∀ws,d=BQ.pl ws->ws.length<=100
def decV(o:Option Nat):V:=match o with
 |none=>.non
 |some n=>.int n
inductive SpDec(a:Ad)(vs:List V)(H:Hp)(Q:VK):Prop
 |mk (p l:Addr) (z:Str) (r:AA) (cell:Int) (ar:List Int) (_:vs=[.ref p,.int cell,.ref l]) (_:BV a H p z r) (_:ROk r) (_:H l=some (.lst (ar.map V.int))) (_:∀H',Av H H'->Q (decV (Nr r cell ar)) H'):SpDec a vs H Q
def Va(a:Ad):Sp:=λvs H Q _=>SpDec a vs H Q
theorem ok_dec{f:Addr}{fd:FuncData}(F:Fun K "deciding" "deciding" Jl f fd)(T:Top K mg a)(bP:BJ P w K mg base CX0 3 a.c_Clause "fits" Ga (Rm a)):AR P w K mg base CX0 4 f fd Jo (Va a):=by
 refine F.ok Ig (λvs H Q E h=>?_) (λcdv A outer s H vs Q E hr h=>?_)
 ·obtain⟨p,l,z,r,cell,ar,rfl,_⟩:=h;rfl
 ·obtain⟨p,l,z,r,cell,ar,rfl,hR,hn,hl,k⟩:=h;obtain⟨dx,t,cs,hp,ht,hcs⟩:=hR.ex;have ln:cs.length=r.length:=X5 hcs;refine⟨_,(Ac (BE X6 rfl (SM true rfl T.b_enumerate (Aa (AJ (pv 0) rfl) Ab)) (EY rfl (AY (AL (i:=3) Ig.nd rfl (Or.inl rfl)) (AY (AL (i:=4) Ig.nd rfl (Or.inl rfl)) DK))) (Ag (AU (CD (Ay (pv 4) bP (rm hr) Aq (Aa (pv 1) (Aa (pv 2) Ab)))) (Ag (Au (pv 3))) AF))) (Ag (Au Ik))),?_⟩
  try dsimp only[cxK]
  refine xwf rfl rfl hp T.cl_Rule T.na_Rule_clauses Wd ⟨t,rfl,⟨_,SqT.of ht⟩,?_⟩;refine QG (b:=true) (xs:=cs.map V.ref) (λi σ H2=>Av H H2/\(∃u v,σ=[some (.ref p),some (.int cell),some (.ref l),u,v])/\∀c∈r.take i,c.fits cell ar=false) ⟨Av.refl H,⟨none,none,rfl⟩,λc hc=>by simp at hc⟩ (λi σ H2 _ q=>SqT.of (q.1 _ _ ht)) ?_ ?_
  ·rintro i x σ H2 T' hx ⟨sm,⟨u,v,rfl⟩,no⟩ nT;rw[B9]at hx;obtain⟨q,eq,rfl⟩:=D5.mp hx;obtain⟨c,ec,hc⟩:=Paired.get hcs eq;have s3:=sm.trans (Ai (o:=.tup [.int i,.ref q]) nT);have hc3:=hc.same s3;obtain⟨dx2,t2,cs2,h1,_⟩:=hc3.ex;refine JK Af ?_;have mc:=D7 ec;refine xwn rfl rfl h1 (fl3_no A0 A0 A0) rfl (xq1 rfl ⟨q,l,c,cell,ar,rfl,hc3,(hn.2 c mc).1,(hn.2 c mc).2,s3 _ _ hl,λH4 s4=>(xq1 rfl ?_)⟩);cases ef:c.fits cell ar with
   |true =>
    refine CN ?_;refine xq1 rfl ?_;have e:Nr r cell ar=some i:=by
     unfold Nr;rw[W8];have hi:i<r.length:=(B7.mp ec).1;refine⟨hi,?_,λj hj=>?_⟩
     ·rw[(B7.mp ec).2];exact ef
     ·have:=no r[j] (List.mem_take_iff_getElem.mpr ⟨j,by omega,rfl⟩);rw[this];exact F1
    have:=k H4 (s3.trans s4);rw[e]at this;exact this
   |false =>
    refine Bq ⟨s3.trans s4,⟨_,_,rfl⟩,λd hd=>?_⟩;rw[F4,ec]at hd;rcases D1.mp hd with z|z
    ·exact no d z
    ·have:d=c:=by simpa using z
     rw[this];exact ef
  ·rintro σ H2 ⟨sm,⟨u,v,rfl⟩,no⟩;rw[B6,ln,F7]at no;have e:Nr r cell ar=none:=by
    unfold Nr;rw[List.findIdx?_eq_none_iff];exact no
   have:=k H2 sm;rw[e]at this;exact this
inductive SpBec(a:Ad)(vs:List V)(H:Hp)(Q:VK):Prop
 |mk (p l:Addr) (z:Str) (r:AA) (cell:Int) (ar:List Int) (_:vs=[.ref p,.int cell,.ref l]) (_:BV a H p z r) (_:ROk r) (_:H l=some (.lst (ar.map V.int))) (_:∀H',Av H H'->Q (.int (Dw r cell ar)) H'):SpBec a vs H Q
def Sz(a:Ad):Sp:=λvs H Q _=>SpBec a vs H Q
theorem QV{r:AA}{cell:Int}{ar:List Int}(h:Nr r cell ar=none):Dw r cell ar=cell:=by
 unfold Nr at h;rw[List.findIdx?_eq_none_iff]at h;unfold Dw;rw[Q9.mpr λc hc=>by rw[h c hc];exact F1]
theorem QU{r:AA}{cell:Int}{ar:List Int}{i:Nat}(h:Nr r cell ar=some i):∃c,r[i]?=some c/\Dw r cell ar=c.makes:=by
 unfold Nr at h;rw[W8]at h;obtain⟨hi,h1,h2⟩:=h;refine⟨r[i],C6 hi,?_⟩;unfold Dw;have:r.find? (Bj.fits cell ar)=some r[i]:=by
  rw[List.find?_eq_some_iff_getElem];exact⟨h1,i,hi,rfl,λj hj=>by simpa using h2 j hj⟩
 rw[this]
theorem ok_bec{f:Addr}{fd:FuncData}(F:Fun K "becomes" "becomes" JZ f fd)(T:Top K mg a)(cB:Cal P w K mg base CX0 4 "deciding" Jo (Va a)):AR P w K mg base CX0 5 f fd IO (Sz a):=by
 refine F.ok MC (λvs H Q E h=>?_) (λcdv A outer s H vs Q E hr h=>?_)
 ·obtain⟨p,l,z,r,cell,ar,rfl,_⟩:=h;rfl
 ·obtain⟨p,l,z,r,cell,ar,rfl,hR,hn,hl,k⟩:=h;refine⟨_,(Ac (Ax (i:=3) MC.nd rfl (Or.inl rfl) (Az cB (rm hr) rfl Aq (Aa (pv 0) (Aa (pv 1) (Aa (pv 2) Ab))))) (Ac (AU (AI MT (pv 3) Ik (AM _)) (Ag (Au (pv 1))) AF) (Ag (Au (AJ (Al An (AJ (pv 0) rfl) (pv 3) (λ_ _=>rfl)) rfl))))),?_⟩
  try dsimp only[cxK]
  refine xw3 rfl rfl rfl ⟨p,l,z,r,cell,ar,rfl,hR,hn,hl,λH2 s2=>?_⟩;refine xq1 rfl ⟨rfl,(xq1 rfl ?_)⟩;cases e:Nr r cell ar with
  |none =>
   refine CN (xq1 rfl ?_);have:=k H2 s2;rw[QV e]at this;exact this
  |some i =>
   obtain⟨c,ec,em⟩:=QU e;obtain⟨dx,t,cs,hp,ht,hcs⟩:=hR.ex;obtain⟨q,eq⟩:∃q,cs[i]?=some q:=by
    have ln:cs.length=r.length:=X5 hcs;have:i<cs.length:=by rw[ln];exact(B7.mp ec).1
    exact⟨_,C6 this⟩
   obtain⟨c',ec',hc⟩:=Paired.get hcs eq;rw[ec]at ec';cases ec';obtain⟨dx2,t2,cs2,h1,_⟩:=(hc.same s2).ex;refine Bq (xwf rfl rfl (s2 _ _ hp) T.cl_Rule T.na_Rule_clauses Wd (xwi rfl rfl rfl (SqT.of (s2 _ _ ht)) (Am (by rw[B9,eq];rfl)) (xq5 h1 T.cl_Clause T.na_Clause_makes fl3_3 ?_)));have:=k H2 s2;rw[em]at this;exact this
end
def sgD(d:Int):Str:=⟨#[48+d.toNat]⟩
def wC:Option Int->Nat
 |none=>42
 |some d=>48+d.toNat
def wS(x:Option Int):Str:=⟨#[wC x]⟩
def Dg(ns:List Int):Str:=⟨(ns.map λn=>48+n.toNat).toArray⟩
def Bb:BQ->Str
 |.am s ns=>sgD s++⟨#[61]⟩++Dg ns
 |.pl ws=>⟨(ws.map wC).toArray⟩
def Bl(c:Bj):Str:=Str.join ⟨#[32]⟩ (wS c.cell::(c.conds.map Bb++[sgD c.makes]))
def Og:Str:=⟨#[59,32]⟩
def BS(r:AA):Str:=Str.join Og (r.map Bl)
def CC(d:Int):Prop:=0<=d/\d<8
def wOk:Option Int->Prop
 |none=>True
 |some d=>CC d
def BQ.ok:BQ->Prop
 |.am s ns=>CC s/\ns≠[]/\(∀n∈ns,0<=n/\n<=8)/\ns.Pairwise (· < ·)
 |.pl ws=>ws.length=8/\∀w∈ws,wOk w
structure Bj.ok(c:Bj):Prop where
 cell:wOk c.cell
 makes:CC c.makes
 few:c.conds.length<=50
 conds:∀d∈c.conds,d.ok
theorem eight{d:Int}(h:CC d):d=0\/d=1\/d=2\/d=3\/d=4\/d=5\/d=6\/d=7:=by
 obtain⟨m,rfl⟩:=M4 h.1;have h1:=h.2;exact(show ∀m:Nat,m<8->((m:Int)=0\/(m:Int)=1\/(m:Int)=2\/(m:Int)=3\/(m:Int)=4\/(m:Int)=5\/(m:Int)=6\/(m:Int)=7) by decide) m B0
abbrev figs8:Str:=Str.ofString "01234567"
abbrev figs9:Str:=Str.ofString "012345678"
theorem US{d:Int}(h:CC d):PySem.intText? (sgD d)=some d/\(!(Builtin.Str.occurrences figs8 (sgD d) 0 figs8.length 1).isEmpty)=true:=by
 rcases eight h with rfl|rfl|rfl|rfl|rfl|rfl|rfl|rfl<;>exact⟨by decide +kernel,by decide +kernel⟩
theorem nine{d:Int}(h0:0<=d)(h1:d<=8):d=0\/d=1\/d=2\/d=3\/d=4\/d=5\/d=6\/d=7\/d=8:=by
 obtain⟨m,rfl⟩:=M4 h0;exact(show ∀m:Nat,m<9->((m:Int)=0\/(m:Int)=1\/(m:Int)=2\/(m:Int)=3\/(m:Int)=4\/(m:Int)=5\/(m:Int)=6\/(m:Int)=7\/(m:Int)=8) by decide) m B0
theorem Wp{d:Int}(h0:0<=d)(h1:d<=8):PySem.intText? (⟨#[48+d.toNat]⟩:Str)=some d/\(!(Builtin.Str.occurrences figs9 (⟨#[48+d.toNat]⟩:Str) 0 figs9.length 1).isEmpty)=true:=by
 rcases nine h0 h1 with rfl|rfl|rfl|rfl|rfl|rfl|rfl|rfl|rfl<;>exact⟨by decide +kernel,by decide +kernel⟩
theorem star_no{d:Int}(h:CC d):decide (V.str (wS (some d))=V.str (Str.ofString "*"))=false:=by
 rcases eight h with rfl|rfl|rfl|rfl|rfl|rfl|rfl|rfl<;>decide +kernel
theorem Mq{x:Option Int}(h:wOk x):wC x≠61/\wC x≠32/\wC x≠59:=by
 cases x with
 |none=>exact⟨by decide,by decide,by decide⟩
 |some d =>
  have:=h.1;have:=h.2;show 48+d.toNat≠61/\48+d.toNat≠32/\48+d.toNat≠59;refine⟨?_,?_,?_⟩<;>omega
theorem Ow{d:BQ}(h:d.ok):32∉(Bb d).cps.toList/\59∉(Bb d).cps.toList:=by
 cases d with
 |am s ns =>
  obtain⟨⟨s0,s1⟩,_,hn,_⟩:=h;have e:(Bb (.am s ns)).cps.toList=(48+s.toNat)::61::ns.map λn=>48+n.toNat:=by
   show(sgD s++⟨#[61]⟩++Dg ns).cps.toList=_;rw[Tx.Ca,Tx.Ca];rfl
  rw[e];constructor
  ·intro z;rcases D6.mp z with z|z
   ·omega
   ·rcases D6.mp z with z|z
    ·omega
    ·obtain⟨n,hn',e⟩:=E4.mp z;have:=hn n hn';omega
  ·intro z;rcases D6.mp z with z|z
   ·omega
   ·rcases D6.mp z with z|z
    ·omega
    ·obtain⟨n,hn',e⟩:=E4.mp z;have:=hn n hn';omega
 |pl ws =>
  have e:(Bb (.pl ws)).cps.toList=ws.map wC:=rfl;rw[e];constructor
  ·intro z;obtain⟨x,hx,e⟩:=E4.mp z;exact(Mq (h.2 x hx)).2.1 e
  ·intro z;obtain⟨x,hx,e⟩:=E4.mp z;exact(Mq (h.2 x hx)).2.2 e
theorem JQ:∀(ns:List Int)(lo:Int),lo<=9->(∀n∈ns,lo<=n/\n<=8)->ns.Pairwise (· < ·)->(ns.length:Int)<=9-lo
 |[],lo,h,_,_=>by show(0:Int)<=9-lo;omega
 |n::r,lo,_,hn,hp=>by
  have h1:=hn n D8;have h2:=JQ r (n+1) B0 (λm hm=>⟨by have:=(T5.mp hp).1 m hm;omega,(hn m (E1 _ hm)).2⟩) (T5.mp hp).2;rw[E7];omega
theorem JN{d:BQ}(h:d.ok):(Bb d).length<=11:=by
 cases d with
 |am s ns =>
  obtain⟨_,_,hn,hp⟩:=h;have hl:=JQ ns 0 A3 hn hp;rw[Nu.len];show(sgD s++⟨#[61]⟩++Dg ns).cps.toList.length<=11;rw[Tx.Ca,Tx.Ca,B8,B8];show 1+1+(ns.map λn=>48+n.toNat).length<=11;rw[B6];omega
 |pl ws =>
  rw[Nu.len];show(ws.map wC).length<=11;rw[B6,h.1];decide
section
variable{P:Program}{w:World}{K:PySem.W.Frag}{mg:Str->Option Value}{base:Heap}{a:Ad}
theorem Sl(K:PySem.W.Frag):kitOne K (.type "str") (.type "str")=some true:=by kernel_rfl
inductive SpRS(vs:List V)(H:Hp)(Q:VK):Prop
 |mk (d:Int) (_:vs=[.str (sgD d)]) (_:CC d) (_:Q (.int d) H):SpRS vs H Q
def UV:Sp:=λvs H Q _=>SpRS vs H Q
theorem ok_rs{f:Addr}{fd:FuncData}(F:Fun K "read_state" "read_state" Gq f fd)(T:Top K mg a):AR P w K mg base CX0 1 f fd DM UV:=by
 refine F.ok NI (λvs H Q E h=>?_) (λcdv A outer s H vs Q E hr h=>?_)
 ·obtain⟨d,rfl,_⟩:=h;rfl
 ·obtain⟨d,rfl,hd,k⟩:=h;obtain⟨e1,e2⟩:=US hd;refine⟨_,(Ac (AU (PW.pt (Jd (AI Ia (AO GU rfl T.b_len K2 (Aa (pv 0) Ab)) Ae (AM _)) (GE (AI JD (pv 0) (Mf rfl T.k_STATE_FIGURES) rfl)))) (Ag BO) AF) (Ag (Au (Bv Ge rfl T.b_int A0d (Aa (pv 0) Ab))))),?_⟩
  try dsimp only[cxK]
  refine xw2 rfl rfl ⟨(by show 1<=sizeLine;decide),rfl,(xq1 rfl ?_)⟩;refine QC rfl (xwb rfl rfl rfl (xq1 rfl ?_));rw[e2];exact Bq (xq1 rfl ⟨_,d,rfl,e1,(by show 1<=640;decide),k⟩)
inductive SpRW(vs:List V)(H:Hp)(Q:VK):Prop
 |mk (x:Option Int) (_:vs=[.str (wS x)]) (_:wOk x) (_:Q (Gb x) H):SpRW vs H Q
def spRW:Sp:=λvs H Q _=>SpRW vs H Q
theorem ok_rw{f:Addr}{fd:FuncData}(F:Fun K "read_wanted" "read_wanted" FN f fd)(T:Top K mg a)(aP:Cal P w K mg base CX0 1 "read_state" DM UV):AR P w K mg base CX0 2 f fd Eo spRW:=by
 refine F.ok Mz (λvs H Q E h=>?_) (λcdv A outer s H vs Q E hr h=>?_)
 ·obtain⟨x,rfl,_⟩:=h;rfl
 ·obtain⟨x,rfl,hx,k⟩:=h;refine⟨_,(Ac (AU (AI Ds (pv 0) (Mf rfl T.k_ANY_SIGN) (AM _)) (Ag (Au Ik)) AF) (Ag (Au (Az aP (rm hr) rfl Aq (Aa (pv 0) Ab))))),?_⟩
  try dsimp only[cxK]
  refine xq1 rfl ⟨rfl,(xq1 rfl ?_)⟩;cases x with
  |none=>exact CN k
  |some d =>
   rw[star_no hx];exact Bq (xq1 rfl ⟨d,rfl,hx,k⟩)
inductive SpRN(vs:List V)(H:Hp)(Q:VK):Prop
 |mk (ns:List Int) (_:vs=[.str (Dg ns)]) (_:ns≠[]) (_:ns.length<=100) (_:(∀n∈ns,0<=n/\n<=8)) (_:ns.Pairwise (· < ·)) (_:∀(t:Addr)(H':Hp),Av H H'->H' t=some (.tup (ns.map V.int))->Q (.ref t) H'):SpRN vs H Q
def spRN:Sp:=λvs H Q _=>SpRN vs H Q
theorem ok_rn{f:Addr}{fd:FuncData}(F:Fun K "read_numbers" "read_numbers" EO f fd)(T:Top K mg a):AR P w K mg base CX0 1 f fd EZ spRN:=by
 refine F.ok Ew (λvs H Q E h=>?_) (λcdv A outer s H vs Q E hr h=>?_)
 ·obtain⟨ns,rfl,_⟩:=h;rfl
 ·obtain⟨ns,rfl,hne,hl,hn,hp,k⟩:=h;have el:(Dg ns).length=ns.length:=by rw[Nu.len];show(ns.map _).length=_;rw[B6]
  have ec:(Dg ns).cps.toList=ns.map λn=>48+n.toNat:=rfl;have pos:0<ns.length:=List.length_pos_iff.mpr hne;refine⟨_,(Ac (AU (AI Ds (AO GU rfl T.b_len K2 (Aa (pv 0) Ab)) Ae (AM _)) (Ag BO) AF) (Ac (Ax (i:=1) Ew.nd rfl (Or.inl rfl) (Bn Ab)) (Ac (BE X6 rfl (Vm (pv 0)) (AL (i:=2) Ew.nd rfl (Or.inl rfl)) (Ac (AU (AI JD (pv 2) (Mf rfl T.k_AMOUNT_FIGURES) rfl) (Ag BO) AF) (Ac (AU (PW.pt (Rq (AI Vx (AO Bh rfl T.b_len K2 (Aa (pv 1) Ab)) Ae (AM _)) (OV (AI MS (Bv Ge rfl T.b_int A0d (Aa (pv 2) Ab)) (Al Ar (pv 1) (MO Jh Ae) (λ_ _=>rfl)) (AM _))))) (Ag BO) AF) (Ag (AZ (Ce Z8 Z9 X4 Ba (pv 1) (Aa (Bv Ge rfl T.b_int A0d (Aa (pv 2) Ab)) Ab))))))) (Ag (Au (Bv CB rfl T.b_tuple K9 (Aa (pv 1) Ab))))))),?_⟩
  try dsimp only[cxK]
  refine xw2 rfl rfl ⟨(by rw[el];exact D4 hl A3),rfl,(xq1 rfl ?_)⟩;have nz:decide (V.int ((Dg ns).length:Int)=V.int 0)=false:=Z2 λz=>by
   injection z with z
   omega
  rw[nz];refine Bq ⟨(by show 0<=sizeLine;decide),λl hl0=>?_⟩;refine xw2 rfl rfl ?_;refine for_str (λi σ H2=>∃v,σ=[some (.str (Dg ns)),some (.ref l),v]/\H2=upd H l (.lst ((ns.take i).map V.int))) ⟨none,rfl,rfl⟩ ?_ ?_
  ·rintro i ch σ H2 hch ⟨v,rfl,rfl⟩;have hch':(ns.map λn=>48+n.toNat)[i]?=some ch:=by rw[<-ec];simpa using hch
   rw[B9]at hch';obtain⟨n,en,rfl⟩:=D5.mp hch';have mn:=D7 en;obtain⟨f1,f2⟩:=Wp (hn n mn).1 (hn n mn).2;have hi:i<ns.length:=(B7.mp en).1;have tl:(ns.take i).length=i:=by rw[J7];omega
   refine xwb rfl rfl rfl (xq1 rfl ?_);rw[f2];refine Bq (xq1 rfl ⟨l,(xq1 rfl ⟨.inl (SqL.of Af),(xq2 rfl rfl (xq1 rfl ?_))⟩)⟩);have nx:∃v,([some (V.str (Dg ns)),some (.ref l),some (.str ⟨#[48+n.toNat]⟩)]:St)=[some (.str (Dg ns)),some (.ref l),v]/\upd (upd H l (.lst ((ns.take i).map V.int))) l (.lst ((ns.take i).map V.int++[V.int n]))=upd H l (.lst ((ns.take (i+1)).map V.int)):=by
    refine xq1 rfl ?_;rw[Fz,F4,en,C0];rfl
   have app:tDrop (tBM K "list" SI (Gf 1) (CF (tCB (λxs H Q=>∃x n,xs=[.str x]/\PySem.intText? x=some n/\x.length<=640/\Q (.int n) H) (CF (Gf 2) OG)) OG))
     {nx:=fun σ H2=>∃v,σ=[some (.str (Dg ns)),some (.ref l),v]/\H2=upd H l (.lst ((ns.take (i+1)).map V.int)),rt:=Q,bk:=λ_ _=>False,ct:=fun σ H2=>∃v,σ=[some (.str (Dg ns)),some (.ref l),v]/\H2=upd H l (.lst ((ns.take (i+1)).map V.int))}
     [some (.str (Dg ns)),some (.ref l),some (.str ⟨#[48+n.toNat]⟩)] (upd H l (.lst ((ns.take i).map V.int))) :=
    ⟨_,rfl,.inl ⟨rfl,_,SqL.of Af⟩,_,rfl,_,n,rfl,f1,(by show 1<=640;decide),l,_,_,rfl,rfl,Af,(by rw[B6,tl];exact F5 hi (D4 hl A3)),nx⟩
   by_cases i0:i=0
   ·subst i0;exact Bq app
   ·have ip:0<i:=by omega
    have lt0:decide ((0:Int)<(((ns.take i).map V.int).length:Int))=true:=Z1 (by rw[B6,tl];omega);rw[lt0];have hm:i-1<ns.length:=by omega
    have hlt:ns[i-1]<n:=by
     have:=T8.mp hp (i-1) i hm hi B0;rw[(B7.mp en).2]at this;exact this
    have at1:atI ((ns.take i).map V.int) (-1)=some (V.int ns[i-1]):=by
     have:((ns.take i).map V.int)[i-1]?=some (V.int ns[i-1]):=by
      rw[B9,U3 B0,C6 hm];rfl
     have e1:((ns.take i).map V.int).length=i:=by rw[B6,tl]
     unfold atI ixN;rw[e1,Z3 A3,Z6 B0];show((ns.take i).map V.int)[((-1:Int)+(i:Nat)).toNat]?=_;rw[show((-1:Int)+(i:Nat)).toNat=i-1 by omega];exact this
    refine CN (xq1 rfl ⟨_,n,rfl,f1,(by show 1<=640;decide),(xw2 rfl rfl ⟨l,_,(xq2 rfl rfl ⟨SqL.of Af,at1,(xq2 rfl rfl (xq1 rfl ?_))⟩)⟩)⟩);rw[Z2 (by omega:¬n<=ns[i-1])];exact Bq app
  ·rintro σ H2 ⟨v,rfl,rfl⟩;have e:(Dg ns).cps.size=ns.length:=by
    have:(Dg ns).cps.toList.length=ns.length:=by rw[ec,B6]
    simpa using this
   rw[e,F7];refine xq1 rfl ⟨l,(xq1 rfl (.inl ⟨SqL.of Af,λt ht=>?_⟩))⟩;exact k t _ ((Ai hl0).trans (Ai ht)) Af
end
section
variable{P:Program}{w:World}{K:PySem.W.Frag}{mg:Str->Option Value}{base:Heap}{a:Ad}
theorem eq_in(x:Str):(!(Builtin.Str.occurrences x (Str.ofString "=") 0 x.length 1).isEmpty)=decide (61∈x.cps.toList):=by
 have:Str.ofString "=" = (⟨#[61]⟩:Str):=by decide +kernel
 rw[this];exact StrLaws.found_one x 61
inductive Tl(a:Ad)(vs:List V)(H:Hp)(Q:VK):Prop
 |mk (d:BQ) (_:vs=[.str (Bb d)]) (_:d.ok) (_:∀(p:Addr)(H':Hp),Av H H'->De a H' p d->Q (.ref p) H'):Tl a vs H Q
def OJ(a:Ad):Sp:=λvs H Q _=>Tl a vs H Q
inductive SpRAm(a:Ad)(vs:List V)(H:Hp)(Q:VK):Prop
 |mk (s:Int) (ns:List Int) (_:vs=[.str (Bb (.am s ns))]) (_:(BQ.am s ns).ok) (_:∀(p:Addr)(H':Hp),Av H H'->De a H' p (.am s ns)->Q (.ref p) H'):SpRAm a vs H Q
def UX(a:Ad):Sp:=λvs H Q _=>SpRAm a vs H Q
theorem ok_ram{f:Addr}{fd:FuncData}(F:Fun K "read_amounts" "read_amounts" EQ f fd)(T:Top K mg a)(aP:Cal P w K mg base CX0 1 "read_state" DM UV)(bI:Cal P w K mg base CX0 1 "read_numbers" EZ spRN)
  (cD:PK P w K mg base CX0 1 "Amounts" a.c_Amounts Fo (Mx a)):AR P w K mg base CX0 3 f fd Fa (UX a):=by
 refine F.ok GW (λvs H Q E h=>?_) (λcdv A outer s H vs Q E hr h=>?_)
 ·obtain⟨s,ns,rfl,_⟩:=h;rfl
 ·obtain⟨d,ns,rfl,ho,k⟩:=h;have hlen:=JN ho;obtain⟨hd,hne,hn,hp⟩:=ho;have hl:=JQ ns 0 A3 hn hp;have e61:Str.ofString "=" = (⟨#[61]⟩:Str):=by decide +kernel
  have ep:Txt.partition (Bb (.am d ns)) (Str.ofString "=")=(sgD d,⟨#[61]⟩,Dg ns):=by
   rw[e61];refine Tx.part_at 61 (sgD d) (Dg ns) ?_;intro z;have:61=48+d.toNat:=by simpa[sgD] using z
   have:=hd.2;omega
  refine⟨_,(Ac (Ax (i:=1) GW.nd rfl (Or.inl rfl) (Ce A0c PySem.F.slot_str_partition PySem.F.type_str_partition Pm (pv 0) (Rs Ab))) (Ag (Au (JC cD (rm hr) rfl Aq (Aa (Az aP (rm hr) rfl Aq (Aa (Al An (pv 1) Ae (λ_ _=>rfl)) Ab)) (Aa (Az bI (rm hr) rfl Aq (Aa (Al An (pv 1) Ae (λ_ _=>rfl)) Ab)) Ab)))))),?_⟩
  try dsimp only[cxK]
  refine xq1 rfl ⟨rfl,(xq2 rfl rfl ⟨A0,B0,λt ht=>?_⟩)⟩;rw[ep];refine xq1 rfl ⟨t,_,0,(xq1 rfl ⟨rfl,SqT.of Af,rfl,d,rfl,hd,(xq1 rfl ⟨t,_,2,(xq1 rfl ⟨rfl,SqT.of Af,rfl,ns,rfl,hne,by omega,hn,hp,λt2 H2 s2 ht2=>?_⟩)⟩)⟩)⟩;intro x dx nx ndx nex;have sx:Av H2 (upd (upd H2 dx (.own x)) x (.ins a.c_Amounts dx [])):=(Ai ndx).trans (Ai (by rw[Ao (Z7 nex)];exact nx));refine⟨x,t2,dx,d,rfl,Af,rfl,?_⟩;have nx2:(upd H2 dx (.own x)) x=none:=by rw[Ao (Z7 nex)];exact nx
  rw[Fz];have sy:Av H2 (upd (upd H2 dx (.own x)) x (.ins a.c_Amounts dx (fl2 "state" "numbers" (.int d) (.ref t2)))):=(Ai ndx).trans (Ai nx2);exact k x _ (((Ai ht).trans s2).trans sy) (.am Af (sy _ _ ht2))
inductive SpRPl(a:Ad)(vs:List V)(H:Hp)(Q:VK):Prop
 |mk (ws:List (Option Int)) (_:vs=[.str (Bb (.pl ws))]) (_:(BQ.pl ws).ok) (_:∀(p:Addr)(H':Hp),Av H H'->De a H' p (.pl ws)->Q (.ref p) H'):SpRPl a vs H Q
def UW(a:Ad):Sp:=λvs H Q _=>SpRPl a vs H Q
theorem ok_rpl{f:Addr}{fd:FuncData}(F:Fun K "read_places" "read_places" Ek f fd)(T:Top K mg a)(aV:Cal P w K mg base CX0 2 "read_wanted" Eo spRW)
  (cH:PK P w K mg base CX0 1 "Places" a.c_Places FX (Ms a)):AR P w K mg base CX0 3 f fd FT (UW a):=by
 refine F.ok MB (λvs H Q E h=>?_) (λcdv A outer s H vs Q E hr h=>?_)
 ·obtain⟨ws,rfl,_⟩:=h;rfl
 ·obtain⟨ws,rfl,ho,k⟩:=h;have hlen:=JN ho;obtain⟨h8,hw⟩:=ho;have el:(Bb (.pl ws)).length=8:=by rw[Nu.len];show(ws.map wC).length=8;rw[B6,h8]
  have ec:(Bb (.pl ws)).cps.toList=ws.map wC:=rfl;refine⟨_,(Ac (AU (AI Ia (AO GU rfl T.b_len K2 (Aa (pv 0) Ab)) (CQ rfl T.k_NEIGHBOURS) (AM _)) (Ag BO) AF) (Ag (Au (JC cH (rm hr) rfl Aq (Aa (Bv CB rfl T.b_tuple K9 (Aa (BL rfl (Bk.of (So:=Ak Ek) (No:=Je) (N:=["sign"]) (k:=1) (cs:=[]) rfl rfl A0) (Vm (pv 0)) (λ_ _ _=>(AV (i:=0) A0 rfl rfl)) (λ_ _ _=>Bp) (λ_ _ _=>(Az aV (rm hr) rfl Aq (Aa (pv 0) Ab)))) Ab)) Ab))))),?_⟩
  try dsimp only[cxK]
  refine xw2 rfl rfl ⟨D4 hlen A3,rfl,(xq1 rfl ?_)⟩;rw[el];refine QC rfl (xw2 rfl rfl ?_);refine blk_str (λi acc H2=>H2=H/\acc=(ws.take i).map Gb) ⟨rfl,rfl⟩ ?_ ?_
  ·rintro i ch acc H2 hch ⟨rfl,rfl⟩;rw[ec,B9]at hch;obtain⟨x,ex,rfl⟩:=D5.mp hch;refine⟨⟨[some (.str ⟨#[wC x]⟩)],rfl,rfl⟩,?_,?_⟩
   ·rw[B6,J7];exact E5 (U5 _ _) (by rw[h8];decide)
   ·refine Eu (xq1 rfl ⟨x,rfl,hw x (D7 ex),rfl,?_⟩);rw[F4,ex,C0];rfl
  ·rintro acc H2 ⟨rfl,rfl⟩ q nq;rw[ec,B6,F7];refine⟨q,(xq1 rfl (.inl ⟨SqL.of Af,λt ht=>?_⟩))⟩;intro x dx nx ndx nex;have nx2:∀o,(upd (upd (upd H2 q (.lst (ws.map Gb))) t (.tup (ws.map Gb))) dx o) x=none:=λo=>by rw[Ao (Z7 nex)];exact nx
   refine⟨x,t,dx,rfl,Af,rfl,?_⟩;rw[Fz];have s1:Av H2 (upd (upd H2 q (.lst (ws.map Gb))) t (.tup (ws.map Gb))):=(Ai nq).trans (Ai ht);have s2:Av (upd (upd H2 q (.lst (ws.map Gb))) t (.tup (ws.map Gb))) (upd (upd (upd (upd H2 q (.lst (ws.map Gb))) t (.tup (ws.map Gb))) dx (.own x)) x (.ins a.c_Places dx (fl1 "wanted" (.ref t)))):=(Ai ndx).trans (Ai (nx2 _));exact k x _ (s1.trans s2) (.pl Af (s2 _ _ Af))
theorem VA{f:Addr}{fd:FuncData}(F:Fun K "read_condition" "read_condition" DT f fd)(T:Top K mg a)(bJ:Cal P w K mg base CX0 3 "read_amounts" Fa (UX a))(bQ:Cal P w K mg base CX0 3 "read_places" FT (UW a)) :
  AR P w K mg base CX0 4 f fd DY (OJ a):=by
 refine F.ok Ju (λvs H Q E h=>?_) (λcdv A outer s H vs Q E hr h=>?_)
 ·obtain⟨d,rfl,_⟩:=h;rfl
 ·obtain⟨d,rfl,ho,k⟩:=h;refine⟨_,(Ac (AU (AI TK GF (pv 0) rfl) (Ag (Au (Az bJ (rm hr) rfl Aq (Aa (pv 0) Ab)))) AF) (Ag (Au (Az bQ (rm hr) rfl Aq (Aa (pv 0) Ab))))),?_⟩
  try dsimp only[cxK]
  refine xwb rfl rfl rfl (xq1 rfl ?_);rw[eq_in];cases d with
  |am s ns =>
   have m:61∈(Bb (.am s ns)).cps.toList:=by
    show 61∈(sgD s++⟨#[61]⟩++Dg ns).cps.toList;rw[Tx.Ca,Tx.Ca];simp
   rw[Z1 m];exact CN (xq1 rfl ⟨s,ns,rfl,ho,k⟩)
  |pl ws =>
   have m:¬61∈(Bb (.pl ws)).cps.toList:=λz=>by
    obtain⟨x,hx,e⟩:=E4.mp (show 61∈ws.map wC from z);exact(Mq (ho.2 x hx)).1 e
   rw[Z2 m];exact Bq (xq1 rfl ⟨ws,rfl,ho,k⟩)
inductive SpRC(a:Ad)(vs:List V)(H:Hp)(Q:VK):Prop
 |mk (c:Bj) (_:vs=[.str (Bl c)]) (_:c.ok) (_:∀(p:Addr)(H':Hp),Av H H'->BW a H' p c->Q (.ref p) H'):SpRC a vs H Q
def spRC(a:Ad):Sp:=λvs H Q _=>SpRC a vs H Q
theorem Jr{c:Bj}(h:c.ok):(Bl c).length<=1000:=by
 have j:=StrLaws.join_length_le ⟨#[32]⟩ (wS c.cell::(c.conds.map Bb++[sgD c.makes]));have b:∀l:List BQ,(∀d∈l,d.ok)->((l.map Bb).map (·.length)).sum<=11*l.length:=by
  intro l;induction l with
  |nil=>intro _;exact J1 _
  |cons d r ih =>
   intro hd;have h1:=JN (hd d D8);have h2:=ih λe he=>hd e (E1 _ he);simp only[F0,List.sum_cons,E7];omega
 have b1:=b c.conds h.conds;have h50:=h.few;simp only[F0,C0,List.map_nil,List.sum_cons,List.sum_append,List.sum_nil,E7,B8,Q6,B6]at j;have l1:(wS c.cell).length=1:=rfl;have l2:(sgD c.makes).length=1:=rfl;have l3:(⟨#[32]⟩:Str).length=1:=rfl;rw[l1,l2,l3]at j;unfold Bl;omega
theorem IU(x:Option Int)(h:wOk x):32∉(wS x).cps.toList/\59∉(wS x).cps.toList:=by
 have:=Mq h;constructor
 ·intro z;have:32=wC x:=by simpa[wS] using z
  exact(Mq h).2.1 this.symm
 ·intro z;have:59=wC x:=by simpa[wS] using z
  exact(Mq h).2.2 this.symm
theorem GS{c:Bj}(h:c.ok):Txt.split (Bl c) (Str.ofString " ")=wS c.cell::(c.conds.map Bb++[sgD c.makes]):=by
 have e:Str.ofString " " = (⟨#[32]⟩:Str):=by decide +kernel
 rw[e];refine Tx.PX 32 _ B1 λt ht=>?_;rcases D6.mp ht with rfl|ht
 ·exact(IU _ h.cell).1
 ·rcases D1.mp ht with ht|ht
  ·obtain⟨d,hd,rfl⟩:=E4.mp ht;exact(Ow (h.conds d hd)).1
  ·rw[C7.mp ht];exact(IU (some c.makes) h.makes).1
theorem cut_mid(x z:V)(ys:List V):Nt (x::(ys++[z])) (some 1) (some (-1))=ys:=by
 have n:(x::(ys++[z])).length=ys.length+2:=by simp
 unfold Nt;rw[n];have h1:HT.sIx (ys.length+2) 0 (some 1)=1:=by
  show(if(1:Int)<0 then((1:Int)+((ys.length+2:Nat):Int)).toNat else min (1:Int).toNat (ys.length+2))=1;rw[Z3 A3];show min 1 (ys.length+2)=1;omega
 have h2:HT.sIx (ys.length+2) (ys.length+2) (some (-1))=ys.length+1:=by
  show(if(-1:Int)<0 then((-1:Int)+((ys.length+2:Nat):Int)).toNat else min (-1:Int).toNat (ys.length+2))=ys.length+1;rw[Z6 A3];omega
 rw[h1,h2];show(ys++[z]).take (ys.length+1-1)=ys;rw[Nat.add_sub_cancel,List.take_left' rfl]
theorem at_last(x:V)(ys:List V)(z:V):atI (x::(ys++[z])) (-1)=some z:=by
 have n:(x::(ys++[z])).length=ys.length+2:=by simp
 unfold atI ixN;rw[n,Z3 A3,Z6 B0];show(x::(ys++[z]))[((-1:Int)+((ys.length+2:Nat):Int)).toNat]?=some z;rw[show((-1:Int)+((ys.length+2:Nat):Int)).toNat=ys.length+1 by omega,U9,E3 (C8 _),N7];rfl
theorem ok_rc{f:Addr}{fd:FuncData}(F:Fun K "read_clause" "read_clause" El f fd)(T:Top K mg a)(aP:Cal P w K mg base CX0 1 "read_state" DM UV)(aV:Cal P w K mg base CX0 2 "read_wanted" Eo spRW)
  (b8:Cal P w K mg base CX0 4 "read_condition" DY (OJ a)) (cJ:PK P w K mg base CX0 1 "Clause" a.c_Clause FZ (Mw a)):AR P w K mg base CX0 5 f fd FU (spRC a):=by
 refine F.ok Dy (λvs H Q E h=>?_) (λcdv A outer s H vs Q E hr h=>?_)
 ·obtain⟨c,rfl,_⟩:=h;rfl
 ·obtain⟨c,rfl,ho,k⟩:=h;have hlen:=Jr ho;have f50:=ho.few;refine⟨_,(Ac (AU (CK (CD (AO Dh rfl T.b_isinstance K0 (Aa (pv 0) (Aa (En (v:=.ty "str") rfl T.b_str A0g rfl) Ab))))) (Ag BO) AF) (Ac (Ax (i:=1) Dy.nd rfl (Or.inl rfl) (Ce A0c PySem.F.slot_str_split PySem.F.type_str_split Qu (pv 0) (Rs Ab))) (Ac (AU (AI JE (AO Bh rfl T.b_len K2 (Aa (pv 1) Ab)) Ae (AM _)) (Ag BO) AF) (Ac (Ax (i:=2) Dy.nd rfl (Or.inl rfl) (Az aV (rm hr) rfl Aq (Aa (Al Ar (pv 1) Ae (λ_ _=>rfl)) Ab))) (Ac (Ax (i:=3) Dy.nd rfl (Or.inl rfl) (Bv CB rfl T.b_tuple K9 (Aa (BL rfl (Bk.of (So:=Ak El) (No:=Jf) (N:=["word"]) (k:=1) (cs:=[]) rfl rfl A0) (Bc (Gi IL (pv 1) (DJ Ae) (DJ (MO Jh Ae)))) (λ_ _ _=>(AV (i:=0) A0 rfl rfl)) (λ_ _ _=>Bp) (λ_ _ _=>(Az b8 (rm hr) rfl Aq (Aa (pv 0) Ab)))) Ab))) (Ag (Au (JC cJ (rm hr) rfl Aq (Aa (pv 2) (Aa (pv 3) (Aa (Az aP (rm hr) rfl Aq (Aa (Al Ar (pv 1) (MO Jh Ae) (λ_ _=>rfl)) Ab)) Ab))))))))))),?_⟩
  try dsimp only[cxK]
  refine xq1 rfl ⟨_,_,_,.type "str",true,rfl,rfl,.of (.str _),Sl K,true,rfl,?_⟩;refine Bq (xq1 rfl ⟨rfl,(xq2 rfl rfl ⟨A0,B0,λl hl=>?_⟩)⟩);rw[GS ho];have eW:((wS c.cell::(c.conds.map Bb++[sgD c.makes])).map V.str)=V.str (wS c.cell)::((c.conds.map λd=>V.str (Bb d))++[V.str (sgD c.makes)]):=by
   rw[F0,C0,N3];rfl
  rw[eW];have hL:∀o,upd H l o l=some o:=λo=>Af;refine xq1 rfl ⟨l,(xq1 rfl ⟨.inl (SqL.of Af),(xq2 rfl rfl (xq1 rfl ?_))⟩)⟩;rw[Z2 (by simp;omega:¬((((V.str (wS c.cell)::((c.conds.map λd=>V.str (Bb d))++[V.str (sgD c.makes)])).length:Nat):Int)<2))];refine Bq (xwi rfl rfl rfl (SqL.of Af) (Am (j:=0) rfl) ⟨c.cell,rfl,ho.cell,?_⟩);refine xw3 rfl rfl rfl (xq1 rfl ⟨l,(xq1 rfl ⟨SqL.of Af,λq hq=>⟨q,rfl,⟨_,SqL.of Af⟩,?_⟩⟩)⟩);rw[cut_mid];have s0:Av H (upd (upd H l (.lst (V.str (wS c.cell)::((c.conds.map λd=>V.str (Bb d))++[V.str (sgD c.makes)])))) q (.lst (c.conds.map λd=>V.str (Bb d)))):=(Ai hl).trans (Ai hq);have nlq:l≠q:=λz=>by rw[<-z,Af]at hq;cases hq
  generalize hH1:upd (upd H l (.lst (V.str (wS c.cell)::((c.conds.map λd=>V.str (Bb d))++[V.str (sgD c.makes)])))) q (.lst (c.conds.map λd=>V.str (Bb d)))=H1;rw[hH1]at s0;have hq1:H1 q=some (.lst (c.conds.map λd=>V.str (Bb d))):=by rw[<-hH1];exact Af
  have hl1:H1 l=some (.lst (V.str (wS c.cell)::((c.conds.map λd=>V.str (Bb d))++[V.str (sgD c.makes)]))):=by rw[<-hH1,Ao nlq];exact Af
  refine BP (xs:=c.conds.map λd=>V.str (Bb d)) (λi acc H2=>∃ps:List Addr,acc=ps.map V.ref/\Av H1 H2/\Paired (De a H2) ps (c.conds.take i)) ⟨[],rfl,Av.refl H1,.nil⟩ (λi acc H2 _ ⟨ps,_,sm,_⟩=>SqL.of (sm _ _ hq1)) ?_ ?_
  ·rintro i x acc H2 hx ⟨ps,rfl,sm,pr⟩;rw[B9]at hx;obtain⟨d,ed,rfl⟩:=D5.mp hx;refine⟨⟨[some (.str (Bb d))],rfl,rfl⟩,?_,?_⟩
   ·have e1:=X5 pr;rw[J7]at e1;rw[B6,e1];exact E5 (U5 _ _) (E5 f50 A3)
   ·refine Eu (xq1 rfl ⟨d,rfl,ho.conds d (D7 ed),λp H3 s3 hp=>⟨ps++[p],by rw[C0];rfl,sm.trans s3,?_⟩⟩);rw[F4,ed];exact K4 (Paired.imp (λ_ _ z=>z.same s3) pr) hp
  ·rintro acc H2 ⟨ps,rfl,sm,pr⟩ r nr;rw[B6,F7]at pr;refine⟨r,(xq1 rfl (.inl ⟨SqL.of Af,λt ht=>?_⟩))⟩;have s3:Av H1 (upd (upd H2 r (.lst (ps.map V.ref))) t (.tup (ps.map V.ref))):=(sm.trans (Ai nr)).trans (Ai ht);generalize hH3:upd (upd H2 r (.lst (ps.map V.ref))) t (.tup (ps.map V.ref))=H3;have ht3:H3 t=some (.tup (ps.map V.ref)):=by rw[<-hH3];exact Af
   have s23:Av H2 H3:=by rw[<-hH3];exact(Ai nr).trans (Ai ht)
   rw[hH3]at s3;refine xw3 rfl rfl rfl (xq1 rfl ⟨l,_,(xq2 rfl rfl ⟨SqL.of (s3 _ _ hl1),at_last _ _ _,c.makes,rfl,ho.makes,?_⟩)⟩);intro x dx nx ndx nex;have nx2:∀o,(upd H3 dx o) x=none:=λo=>by rw[Ao (Z7 nex)];exact nx
   refine⟨x,t,dx,c.cell,c.makes,rfl,Af,rfl,?_⟩;rw[Fz];have s4:Av H3 (upd (upd H3 dx (.own x)) x (.ins a.c_Clause dx (fl3 "cell" "conditions" "makes" (Gb c.cell) (.ref t) (.int c.makes)))):=(Ai ndx).trans (Ai (nx2 _));exact k x _ ((s0.trans s3).trans s4) ⟨dx,t,ps,Af,s4 _ _ ht3,Paired.imp (λ_ _ z=>(z.same s23).same s4) pr⟩
theorem LS{c:Bj}(h:c.ok):59∉(Bl c).cps.toList:=by
 intro z;unfold Bl at z;rw[PyProof.Rows.mem_join]at z;rcases z with ⟨t,ht,z⟩|⟨_,z⟩
 ·rcases D6.mp ht with rfl|ht
  ·exact(IU _ h.cell).2 z
  ·rcases D1.mp ht with ht|ht
   ·obtain⟨d,hd,rfl⟩:=E4.mp ht;exact(Ow (h.conds d hd)).2 z
   ·rw[C7.mp ht]at z;exact(IU (some c.makes) h.makes).2 z
 ·have:59=32:=by simpa using z
  omega
end
structure LE(r:AA):Prop where
 few:r.length<=50
 ok:∀c∈r,c.ok
theorem LE.rok{r:AA}(h:LE r):ROk r:=⟨D4 h.few A3,λc hc=>⟨D4 (h.ok c hc).few A3,λd hd ws e=>by
 subst e;rw[((h.ok c hc).conds _ hd).1];decide⟩⟩
theorem Qh{r:AA}(h:LE r):(BS r).length<=60000:=by
 have j:=StrLaws.join_length_le Og (r.map Bl);have b:∀l:List Bj,(∀c∈l,c.ok)->((l.map Bl).map (·.length)).sum<=1000*l.length:=by
  intro l;induction l with
  |nil=>intro _;exact J1 _
  |cons d r ih =>
   intro hd;have h1:=Jr (hd d D8);have h2:=ih λe he=>hd e (E1 _ he);simp only[F0,List.sum_cons,E7];omega
 have b1:=b r h.ok;have h50:=h.few;have l3:Og.length=2:=rfl;rw[l3,B6]at j;unfold BS;omega
theorem SD{r:AA}(h:r≠[]):decide (V.str (BS r)=V.str (Str.ofString ""))=false:=by
 refine Z2 λz=>?_;injection z with z
 obtain⟨c,hc⟩:=List.exists_mem_of_ne_nil r h;have h1:=PySem.join_mem_le Og (r.map Bl) (Bl c) (E4.mpr ⟨c,hc,rfl⟩);have h2:=PySem.join_mem_le ⟨#[32]⟩ (wS c.cell::(c.conds.map Bb++[sgD c.makes])) (wS c.cell) D8;have h3:(wS c.cell).length=1:=rfl;have h4:(BS r).length=0:=by rw[z];decide +kernel
 unfold BS at h4;have h5:(Bl c).length=(Str.join ⟨#[32]⟩ (wS c.cell::(c.conds.map Bb++[sgD c.makes]))).length:=rfl;omega
theorem De.put{a:Ad}{H:Hp}{p q:Addr}{o u:HO}{c:BQ}(h:De a H q c)(hp:H p=some u)(n:∀C d fs,u=HO.ins C d fs->fs.lookup ("state" : Str)=none/\fs.lookup ("wanted" : Str)=none/\fs.lookup ("makes" : Str)=none)(nt:∀xs,u≠.tup xs):De a (upd H p o) q c:=by
 have other:∀{b v},H b=some v->v≠u->upd H p o b=some v:=λ{b v} e d=>by rw[Ao (As e hp d)];exact e
 cases h with
 |am h ht =>
  refine .am (other h λz=>?_) (other ht λz=>nt _ z.symm);have:=(n _ _ _ z.symm).1;rw[We A0]at this;cases this
 |pl h ht =>
  refine .pl (other h λz=>?_) (other ht λz=>nt _ z.symm);have:=(n _ _ _ z.symm).2.1;rw[fl1_1]at this;cases this
theorem BW.put{a:Ad}{H:Hp}{p q:Addr}{o u:HO}{c:Bj}(h:BW a H q c)(hp:H p=some u)(n:∀C d fs,u=HO.ins C d fs->fs.lookup ("state" : Str)=none/\fs.lookup ("wanted" : Str)=none/\fs.lookup ("makes" : Str)=none)(nt:∀xs,u≠.tup xs):BW a (upd H p o) q c:=by
 have other:∀{b v},H b=some v->v≠u->upd H p o b=some v:=λ{b v} e d=>by rw[Ao (As e hp d)];exact e
 obtain⟨dx,t,cs,h1,h2,h3⟩:=h.ex;refine⟨dx,t,cs,other h1 λz=>?_,other h2 λz=>nt _ z.symm,Paired.imp (λ_ _ z=>z.put hp n nt) h3⟩;have:=(n _ _ _ z.symm).2.2;rw[fl3_3]at this;cases this
section
variable{P:Program}{w:World}{K:PySem.W.Frag}{mg:Str->Option Value}{base:Heap}{a:Ad}
inductive SpCT(vs:List V)(H:Hp)(Q:VK):Prop
 |mk (r:AA) (_:vs=[.str (BS r)]) (_:LE r) (_:∀(l:Addr)(H':Hp),Av H H'->H' l=some (.lst (r.map λc=>V.str (Bl c)))->Q (.ref l) H'):SpCT vs H Q
def spCT:Sp:=λvs H Q _=>SpCT vs H Q
theorem ok_ct{f:Addr}{fd:FuncData}(F:Fun K "clause_texts" "clause_texts" ER f fd)(T:Top K mg a):AR P w K mg base CX0 1 f fd Fd spCT:=by
 refine F.ok LT (λvs H Q E h=>?_) (λcdv A outer s H vs Q E hr h=>?_)
 ·obtain⟨r,rfl,_⟩:=h;rfl
 ·obtain⟨r,rfl,ho,k⟩:=h;have hlen:=Qh ho;refine⟨_,(Ac (AU (AI Ds (pv 0) GF (AM _)) (Ag (Au (Bn Ab))) AF) (Ag (Au (Ce A0c PySem.F.slot_str_split PySem.F.type_str_split Qu (pv 0) (Aa (Mf rfl T.k_CLAUSE_MARK) Ab))))),?_⟩
  try dsimp only[cxK]
  refine xq1 rfl ⟨rfl,(xq1 rfl ?_)⟩;by_cases hr0:r=[]
  ·subst hr0;refine CN ⟨(by show 0<=sizeLine;decide),λl hl=>?_⟩;exact k l _ (Ai hl) Af
  ·rw[SD hr0];refine Bq (xq1 rfl ⟨rfl,(xq2 rfl rfl ⟨A0,B0,λl hl=>?_⟩)⟩);have em:Str.ofString "; " = (⟨#[59,32]⟩:Str):=by decide +kernel
   have e:Txt.split (BS r) (Str.ofString "; ")=r.map Bl:=by
    rw[em];refine Tx.LI _ (by simpa using hr0) λt ht=>?_;obtain⟨c,hc,rfl⟩:=E4.mp ht;exact LS (ho.ok c hc)
   rw[e,N3];exact k l _ (Ai hl) Af
inductive SpRI(a:Ad)(vs:List V)(H:Hp)(Q:VK):Prop
 |mk (p dx:Addr) (r:AA) (_:vs=[.ref p,.str (BS r)]) (_:H p=some (.ins a.c_Rule dx [])) (_:LE r) (_:∀H',(∀b o,H b=some o->b≠p->H' b=some o)->BV a H' p (BS r) r->Q .non H'):SpRI a vs H Q
def spRI(a:Ad):Sp:=λvs H Q _=>SpRI a vs H Q
theorem ok_ri{f:Addr}{fd:FuncData}(F:Fun K "__init__" "Rule.__init__" FE f fd)(T:Top K mg a)(bK:Cal P w K mg base CX0 1 "clause_texts" Fd spCT)(bR:Cal P w K mg base CX0 5 "read_clause" FU (spRC a)) :
  AR P w K mg base CX0 6 f fd Ir (spRI a):=by
 refine F.ok OS (λvs H Q E h=>?_) (λcdv A outer s H vs Q E hr h=>?_)
 ·obtain⟨p,dx,r,rfl,_⟩:=h;rfl
 ·obtain⟨p,dx,r,rfl,hp,ho,k⟩:=h;have hlen:=Qh ho;have f50:=ho.few;refine⟨_,(Ac (Cs (pv 0) (pv 1) rfl) (Ag (Cs (pv 0) (Bv CB rfl T.b_tuple K9 (Aa (BL rfl (Bk.of (So:=Ak FE) (No:=LQ) (N:=["part"]) (k:=1) (cs:=[]) rfl rfl A0) (Bc (Az bK (rm hr) rfl Aq (Aa (pv 1) Ab))) (λ_ _ _=>(AV (i:=0) A0 rfl rfl)) (λ_ _ _=>Bp) (λ_ _ _=>(Az bR (rm hr) rfl Aq (Aa (pv 0) Ab)))) Ab)) rfl))),?_⟩
  try dsimp only[cxK]
  refine xw2 rfl rfl ⟨p,_,dx,[],rfl,hp,T.cl_Rule,T.na_Rule_text,B4,?_⟩;generalize hH1:upd H p (.ins a.c_Rule dx (AT "text" (.str (BS r)) []))=H1;have hp1:H1 p=some (.ins a.c_Rule dx (AT "text" (.str (BS r)) [])):=by rw[<-hH1];exact Af
  have k1:∀b o,H b=some o->b≠p->H1 b=some o:=λb o e n=>by rw[<-hH1,Ao n];exact e
  refine xq1 rfl ⟨r,rfl,ho,λl H2 s2 hl=>⟨l,rfl,⟨_,SqL.of hl⟩,?_⟩⟩;refine BP (xs:=r.map λc=>V.str (Bl c)) (λi acc H3=>∃ps:List Addr,acc=ps.map V.ref/\Av H2 H3/\Paired (BW a H3) ps (r.take i)) ⟨[],rfl,Av.refl H2,.nil⟩ (λi acc H3 _ ⟨ps,_,sm,_⟩=>SqL.of (sm _ _ hl)) ?_ ?_
  ·rintro i x acc H3 hx ⟨ps,rfl,sm,pr⟩;rw[B9]at hx;obtain⟨c,ec,rfl⟩:=D5.mp hx;refine⟨⟨[some (.str (Bl c))],rfl,rfl⟩,?_,?_⟩
   ·have e1:=X5 pr;rw[J7]at e1;rw[B6,e1];exact E5 (U5 _ _) (E5 f50 A3)
   ·refine Eu (xq1 rfl ⟨c,rfl,ho.ok c (D7 ec),λq H4 s4 hq=>⟨ps++[q],by rw[C0];rfl,sm.trans s4,?_⟩⟩);rw[F4,ec];exact K4 (Paired.imp (λ_ _ z=>z.same s4) pr) hq
  ·rintro acc H3 ⟨ps,rfl,sm,pr⟩ q nq;rw[B6,F7]at pr;refine⟨q,(xq1 rfl (.inl ⟨SqL.of Af,λt ht=>?_⟩))⟩;generalize hH4:upd (upd H3 q (.lst (ps.map V.ref))) t (.tup (ps.map V.ref))=H4;have s34:Av H3 H4:=by rw[<-hH4];exact(Ai nq).trans (Ai ht)
   have ht4:H4 t=some (.tup (ps.map V.ref)):=by rw[<-hH4];exact Af
   have s14:Av H1 H4:=(s2.trans sm).trans s34;have ntp:t≠p:=λz=>by rw[z,s14 _ _ hp1]at ht4;cases ht4
   refine xq1 rfl ⟨p,_,dx,(xq1 rfl ⟨s14 _ _ hp1,T.cl_Rule,T.na_Rule_clauses,B5,?_⟩)⟩;have up:∀b o,H4 b=some o->b≠p->upd H4 p (.ins a.c_Rule dx (fl2 "text" "clauses" (.str (BS r)) (.ref t))) b=some o:=λb o e n=>by rw[Ao n];exact e
   have cl:∀q' c,BW a H4 q' c->BW a (upd H4 p (.ins a.c_Rule dx (fl2 "text" "clauses" (.str (BS r)) (.ref t)))) q' c:=λq' c hc=>by
    exact hc.put (s14 _ _ hp1) (λC d fs e=>by
     cases e;exact⟨Px A0,Px A0,Px A0⟩) (λxs z=>by cases z)
   exact k _ (λb o e n=>up _ _ (s14 _ _ (k1 b o e n)) n) ⟨dx,t,ps,Af,up _ _ ht4 ntp,Paired.imp (λq' c z=>cl q' c (z.same s34)) pr⟩
def Dk:List Int:=[0,0,0,0,0,0,0,0]
inductive SpRR(a:Ad)(vs:List V)(H:Hp)(Q:VK):Prop
 |mk (r:AA) (_:vs=[.str (BS r)]) (_:LE r) (_:Dw r 0 Dk=0) (_:∀(p:Addr)(H':Hp),Av H H'->BV a H' p (BS r) r->Q (.ref p) H'):SpRR a vs H Q
def spRR(a:Ad):Sp:=λvs H Q _=>SpRR a vs H Q
theorem ok_rr{f:Addr}{fd:FuncData}(F:Fun K "read_rule" "read_rule" Ih f fd)(T:Top K mg a)(cT:PK P w K mg base CX0 6 "Rule" a.c_Rule Ir (spRI a))(bG:Cal P w K mg base CX0 5 "becomes" IO (Sz a)) :
  AR P w K mg base CX0 8 f fd Im (spRR a):=by
 refine F.ok Jt (λvs H Q E h=>?_) (λcdv A outer s H vs Q E hr h=>?_)
 ·obtain⟨r,rfl,_⟩:=h;rfl
 ·obtain⟨r,rfl,ho,hz,k⟩:=h;refine⟨_,(Ac (AU (CK (CD (AO Dh rfl T.b_isinstance K0 (Aa (pv 0) (Aa (En (v:=.ty "str") rfl T.b_str A0g rfl) Ab))))) (Ag BO) AF) (Ac (Ax (i:=1) Jt.nd rfl (Or.inl rfl) (JC cT (rm hr) rfl Aq (Aa (pv 0) Ab))) (Ac (AU (AI Ia (Az bG (rm hr) rfl Aq (Aa (pv 1) (AH (Ck Vv (Bn (AH Ab)) (CQ rfl T.k_NEIGHBOURS) Ab)))) Ae (AM _)) (Ag BO) AF) (Ag (Au (pv 1)))))),?_⟩
  try dsimp only[cxK]
  refine xq1 rfl ⟨_,_,_,.type "str",true,rfl,rfl,.of (.str _),Sl K,true,rfl,?_⟩;refine Bq (xq1 rfl ?_);intro x dx nx ndx nex;refine⟨x,dx,r,rfl,Af,ho,λH2 kp hR=>⟨rfl,?_⟩⟩;have s2:Av H H2:=λb o e=>kp b o (by rw[Ao (Ah e nx),Ao (Ah e ndx)];exact e) (Ah e nx);refine xq1 rfl ⟨(by show 1<=sizeLine;decide),λl hl=>?_⟩;refine⟨l,8,(xq1 rfl ⟨rfl,Af,A3,A3,A3,λm hm=>?_⟩)⟩;have s3:=(s2.trans (Ai (o:=.lst [.int 0]) hl)).trans (Ai (o:=.lst (Dk.map V.int)) hm);have s23:=(Ai (o:=.lst [.int 0]) hl).trans (Ai (o:=.lst (Dk.map V.int)) hm);refine⟨x,m,_,r,0,Dk,rfl,hR.same s23,ho.rok,Af,λH4 s4=>?_⟩;refine⟨rfl,(xq1 rfl ?_)⟩;rw[hz];refine QC rfl (xq1 rfl ?_);exact k x H4 (s3.trans s4) ((hR.same s23).same s4)
end
def atN(ns:List Int)(k:Int):Int:=ns.getD k.toNat 0
theorem VU(K:PySem.W.Frag):kitOne K (.type "int") (.type "int")=some true/\kitOne K (.type "int") (.type "bool")=some false:=⟨by kernel_rfl,by kernel_rfl⟩
section
variable{P:Program}{w:World}{K:PySem.W.Frag}{mg:Str->Option Value}{base:Heap}{a:Ad}
inductive SpAt(K:PySem.W.Frag)(vs:List V)(H:Hp)(Q:VK):Prop
 |mk (l:Addr) (ns:List Int) (k:Int) (_:vs=[.ref l,.int k]) (_:SqL K H l (ns.map V.int)) (_:0<=k) (_:Q (.int (atN ns k)) H):SpAt K vs H Q
def spAt(K:PySem.W.Frag):Sp:=λvs H Q _=>SpAt K vs H Q
theorem ok_at{f:Addr}{fd:FuncData}(F:Fun K "_law_at" "_law_at" La f fd)(T:Top K mg a):AR P w K mg base CX0 1 f fd IP (spAt K):=by
 refine F.ok Rp (λvs H Q E h=>?_) (λcdv A outer s H vs Q E hr h=>?_)
 ·obtain⟨l,ns,k,rfl,_⟩:=h;rfl
 ·obtain⟨l,ns,k,rfl,hS,h0,q⟩:=h;refine⟨_,(Ac (AU (AI JE (pv 1) (AO Bh rfl T.b_len K2 (Aa (pv 0) Ab)) (AM _)) (Ag (Au (Al Ar (pv 0) (pv 1) (λ_ _=>rfl)))) AF) (Ag (Au Ae))),?_⟩
  try dsimp only[cxK]
  refine xw2 rfl rfl ⟨l,(xq1 rfl ⟨.inl hS,(xq2 rfl rfl (xq1 rfl ?_))⟩)⟩;obtain⟨n,rfl⟩:=M4 h0;refine Nk (λhc=>?_) (λhc=>?_)
  ·have hc':n<ns.length:=by
    have:=K1 hc;rw[B6]at this;omega
   refine xw2 rfl rfl ⟨l,_,n,.int ns[n],rfl,rfl,hS,Am (by rw[B9,C6 hc'];rfl),?_⟩;have e:atN ns (n:Int)=ns[n]:=by
    unfold atN;rw[L8,D3,C6 hc'];rfl
   rw[e]at q;exact q
  ·have hc':ns.length<=n:=by
    have:¬(n:Int)<((ns.map V.int).length:Int):=λz=>hc (Z1 z);rw[B6]at this;omega
   have e:atN ns (n:Int)=0:=by
    unfold atN;rw[L8,D3,L7 hc'];rfl
   rw[e]at q;exact q
end
theorem IK{d:Int}(h0:0<=d)(h1:d<=9):d.natAbs.log2<1920:=by
 obtain⟨m,rfl⟩:=M4 h0;exact(show ∀m:Nat,m<10->(m:Int).natAbs.log2<1920 by decide +kernel) m B0
theorem Mj{n:Nat}(h:n<=100000):n<=sizeLine:=D4 h A3
abbrev UR:Str:=Str.ofString "01234567*"
theorem star_at:∀m:Nat,m<9->UR.cps.toList[m]?=some (if m=8 then 42 else 48+m):=by decide +kernel
inductive SpLaw(K:PySem.W.Frag)(vs:List V)(H:Hp)(Q:VK):Prop
 |mk (a:Addr) (ns:List Int) (_:vs=[.ref a]) (_:SqL K H a (ns.map V.int)) (_:ns.length<=63) (_:∀H',Q (.bl true) H'):SpLaw K vs H Q
def Sr(K:PySem.W.Frag):Sp:=λvs H Q _=>SpLaw K vs H Q
def Ft(n:Int)(k:Nat):Bool:=decide (V.int (Builtin.bitAnd (n/2^k) 1)=V.int 1)
def Cu(n:Int):List Int:=((List.range 9).filter (Ft n)).map λ(k:Nat)=>(k:Int)
theorem nums_ne:∀m:Nat,m<511->Cu ((m:Int)+1)≠[]:=by decide +kernel
theorem Qn(n:Int):(Cu n).Pairwise (· < ·):=by
 unfold Cu;rw[Y7];have:((List.range 9).filter (Ft n)).Pairwise (· < ·):=List.pairwise_lt_range.sublist List.filter_sublist;exact this.imp λh=>by omega
theorem SQ(n:Int):∀m∈Cu n,0<=m/\m<=8:=λm hm=>by
 obtain⟨k,hk,rfl⟩:=E4.mp hm;have:=N2.mp (S8.mp hk).1;omega
structure LC4 where
 tk:Int
 ams:List (Int×Int)
 wis:List (Int×Int)
 ms:Int
structure LC4.Ok(c:LC4):Prop where
 tk:0<=c.tk/\c.tk<=8
 ams:∀p∈c.ams,CC p.1/\1<=p.2/\p.2<=511
 few:c.ams.length<=2
 wis:∀p∈c.wis,(0<=p.1/\p.1<8)/\CC p.2
 asc:c.wis.Pairwise λp q=>p.1<q.1
 ms:CC c.ms
def ED(wis:List (Int×Int)):List (Option Int):=(List.range 8).map λ(k:Nat)=>(wis.find? λp=>decide (p.1=(k:Int))).map (·.2)
def LC4.a(c:LC4):Bj:=⟨if c.tk=8 then none else some c.tk,c.ams.map (λp=>.am p.1 (Cu p.2))++(if c.wis=[]then []else [.pl (ED c.wis)]),c.ms⟩
theorem JT(wis:List (Int×Int)):(ED wis).length=8:=by
 unfold ED;rw[B6,O0]
theorem nums_ne'{m:Int}(h1:1<=m)(h2:m<=511):Cu m≠[]:=by
 have:=nums_ne (m.toNat-1) A1;rw[show(((m.toNat-1:Nat):Int)+1)=m by lia]at this;exact this
theorem LC4.Ok.a{c:LC4}(h:c.Ok):c.a.ok:=by
 refine⟨?_,h.ms,?_,?_⟩
 ·unfold LC4.a;dsimp only;have:=h.tk;split
  ·trivial
  ·exact⟨by lia,by lia⟩
 ·unfold LC4.a;dsimp only;have:=h.few;rw[B8,B6];split
  ·rw[Q6];lia
  ·rw[M5];lia
 ·intro d hd;unfold LC4.a at hd;dsimp only at hd;rcases D1.mp hd with z|z
  ·obtain⟨p,hp,rfl⟩:=E4.mp z;obtain⟨h1,h2,h3⟩:=h.ams p hp;exact⟨h1,nums_ne' h2 h3,SQ _,Qn _⟩
  ·split at z
   ·cases z
   ·rw[C7.mp z];refine⟨JT _,λw hw=>?_⟩;unfold ED at hw;obtain⟨k,_,rfl⟩:=E4.mp hw;cases e:c.wis.find? λp=>decide (p.1=(k:Int))with
    |none=>trivial
    |some p=>exact(h.wis p (Q3 e)).2
def NV(H:Hp)(t:Addr)(p:Int×Int):Prop:=H t=some (.tup [.int p.1,.int p.2])
inductive Ib(H:Hp)(q:Addr)(c:LC4):Prop
 |mk (la lw:Addr) (tas tws:List Addr) (_:H q=some (.tup [.int c.tk,.ref la,.ref lw,.int c.ms])) (_:H la=some (.lst (tas.map V.ref))) (_:Paired (NV H) tas c.ams) (_:H lw=some (.lst (tws.map V.ref))) (_:Paired (NV H) tws c.wis)
theorem Ib.same{H H':Hp}{q:Addr}{c:LC4}(s:Av H H')(h:Ib H q c):Ib H' q c:=by
 obtain⟨la,lw,tas,tws,h1,h2,h3,h4,h5⟩:=h;exact⟨la,lw,tas,tws,s _ _ h1,s _ _ h2,Paired.imp (λt p e=>s _ _ e) h3,s _ _ h4,Paired.imp (λt p e=>s _ _ e) h5⟩
inductive FK(H:Hp)(q:Addr)(r:List LC4):Prop
 |mk (ts:List Addr) (_:H q=some (.lst (ts.map V.ref))) (_:Paired (Ib H) ts r)
theorem FK.same{H H':Hp}{q:Addr}{r:List LC4}(s:Av H H')(h:FK H q r):FK H' q r:=by
 obtain⟨ts,h1,h2⟩:=h;exact⟨ts,s _ _ h1,Paired.imp (λt c e=>e.same s) h2⟩
structure Mb(r:List LC4):Prop where
 few:r.length<=10
 ok:∀c∈r,c.Ok
section
variable{P:Program}{w:World}{K:PySem.W.Frag}{mg:Str->Option Value}{base:Heap}{a:Ad}
inductive Wt(vs:List V)(H:Hp)(Q:VK):Prop
 |mk (c k:Int) (_:vs=[.int c,.int k]) (_:0<=k) (_:k<=1000) (_:∀i:Int,0<=i->Q (.int i) H):Wt vs H Q
def OH:Sp:=λvs H Q _=>Wt vs H Q
theorem ok_stir{f:Addr}{fd:FuncData}(F:Fun K "_law_stir" "_law_stir" Ii f fd)(T:Top K mg a):AR P w K mg base CX0 1 f fd FG OH:=by
 refine F.ok Go (λvs H Q E h=>?_) (λcdv A outer s H vs Q E hr h=>?_)
 ·obtain⟨c,k,rfl,_⟩:=h;rfl
 ·obtain⟨c,k',rfl,k0,k1,k⟩:=h;refine⟨_,(Ac (Ax (i:=2) Go.nd rfl (Or.inl rfl) (AK BU (AK Bo (AK Bo (AK BU (pv 0) Ae) (AK Ru Ae (pv 1))) Ae) Ae)) (Ac (Ax (i:=2) Go.nd rfl (Or.inl rfl) (AK BU (AK Ru (pv 2) (pv 2)) Ae)) (Ag (Au (AK IQ (AK BU (AK Bo (AK Ru (pv 2) Ae) (pv 1)) Ae) Ae))))),?_⟩
  try dsimp only[cxK]
  refine xwb rfl rfl rfl ⟨(by show(0:Int)<2147483629;decide),(xwb rfl rfl rfl ⟨.inl ⟨by decide,by decide⟩,(xq2 rfl rfl (xq2 rfl rfl (xq2 rfl rfl ⟨(by show(0:Int)<2147483629;decide),?_⟩)))⟩)⟩;have h0:=W1 (c%2147483629+7919*k'+11) (show(2147483629:Int)≠0 by decide);have h1:=W7 (c%2147483629+7919*k'+11) (show(0:Int)<2147483629 by decide);obtain⟨v,hv⟩:∃v,(c%2147483629+7919*k'+11)%2147483629=v:=⟨_,rfl⟩
  rw[hv]at h0 h1;rw[show(λ(i j:Int)=>V.int (i%j)) (c%2147483629+7919*k'+11) 2147483629=V.int v from X8 V.int hv];refine xw2 rfl rfl (xq2 rfl rfl ⟨.inl ⟨by lia,by lia⟩,(xq2 rfl rfl ⟨(by show(0:Int)<2147483587;decide),?_⟩)⟩);have g0:=W1 (v*v) (show(2147483587:Int)≠0 by decide);have g1:=W7 (v*v) (show(0:Int)<2147483587 by decide);obtain⟨u,hu⟩:∃u,v*v%2147483587=u:=⟨_,rfl⟩
  rw[hu]at g0 g1;rw[show(λ(i j:Int)=>V.int (i%j)) (v*v) 2147483587=V.int u from X8 V.int hu];refine xwb rfl rfl rfl ⟨.inl ⟨by lia,by lia⟩,(xwb rfl rfl rfl (xq2 rfl rfl ⟨(by show(0:Int)<2147483563;decide),(xq2 rfl rfl ⟨⟨by decide,by decide⟩,k _ ?_⟩)⟩))⟩;have:=W1 (u*48271+k') (show(2147483563:Int)≠0 by decide);show 0<=(u*48271+k')%2147483563/13;lia
inductive PJ(H:Hp)(q:Addr):Prop
 |mk (x y z u:Int) (_:H q=some (.lst [.int x,.int y,.int z,.int u])) (_:CC x/\CC y/\CC z/\CC u)
theorem PJ.same{H H':Hp}{q:Addr}(s:Av H H')(h:PJ H q):PJ H' q:=by
 obtain⟨x,y,z,u,h1,h2⟩:=h;exact⟨x,y,z,u,s _ _ h1,h2⟩
theorem PJ.get{H:Hp}{q:Addr}(h:PJ H q):∃xs:List V,H q=some (.lst xs)/\∀i:Int,0<=i->∃d:Int,CC d/\atI xs (i%4)=some (.int d):=by
 obtain⟨x,y,z,u,h1,h2,h3,h4,h5⟩:=h;refine⟨_,h1,λi hi=>?_⟩;have e:i%4=((i%4).toNat:Int):=by lia
 have l:(i%4).toNat<4:=by lia
 rw[e];generalize (i%4).toNat=j at l
 match j,l with
 |0,_=>exact⟨x,h2,Am rfl⟩
 |1,_=>exact⟨y,h3,Am rfl⟩
 |2,_=>exact⟨z,h4,Am rfl⟩
 |3,_=>exact⟨u,h5,Am rfl⟩
end
theorem Av.noneN{H H':Hp}(s:Av H H'){x:Addr}(n:H' x=none):H x=none:=by
 cases e:H x with
 |none=>rfl
 |some o=>rw[s _ _ e]at n;cases n
theorem Nh{T:St->Hp->Prop}{C:Prop}(P:St->Hp->Prop)(h:(∀σ H,P σ H->T σ H)->C)(k:∀σ H,P σ H->T σ H):C:=h k
section
variable{P:Program}{w:World}{K:PySem.W.Frag}{mg:Str->Option Value}{base:Heap}{a:Ad}
inductive SpCb4(vs:List V)(H:Hp)(Q:VK):Prop
 |mk (c:Int) (fw:Addr) (_:vs=[.int c,.ref fw]) (_:PJ H fw) (_:∀(q:Addr)(d:LC4)(H':Hp),Av H H'->Ib H' q d->d.Ok->Q (.ref q) H'):SpCb4 vs H Q
def Vc:Sp:=λvs H Q _=>SpCb4 vs H Q
theorem ok_cb4{f:Addr}{fd:FuncData}(F:Fun K "_law_clause_by" "_law_clause_by" DU f fd)(T:Top K mg a)(aF:Cal P w K mg base CX0 1 "_law_stir" FG OH):AR P w K mg base CX0 2 f fd Ea Vc:=by
 refine F.ok Bz (λvs H Q E h=>?_) (λcdv A outer s H vs Q E hr h=>?_)
 ·obtain⟨c,fw,rfl,_⟩:=h;rfl
 ·obtain⟨c,fw,rfl,hf,k⟩:=h;refine⟨_,(Ac (Ax (i:=2) Bz.nd rfl (Or.inl rfl) Ae) (Ac (AU (AI Vx (AK BU (Az aF (rm hr) rfl Aq (Aa (pv 0) (AH Ab))) Ae) Ae (AM _)) (Ag (Ax (i:=2) Bz.nd rfl (Or.inl rfl) (Al Ar (pv 1) (AK BU (Az aF (rm hr) rfl Aq (Aa (pv 0) (AH Ab))) Ae) (λ_ _=>rfl)))) AF) (Ac (Ax (i:=3) Bz.nd rfl (Or.inl rfl) (Bn Ab)) (Ac (BE X6 rfl (BR rfl T.b_range (Ck BU (Az aF (rm hr) rfl Aq (Aa (pv 0) (AH Ab))) Ae Ab)) (AL (i:=4) Bz.nd rfl (Or.inl rfl)) (Ag (AZ (Ce Z8 Z9 X4 Ba (pv 3) (Bx (Aa (Al Ar (pv 1) (AK BU (Az aF (rm hr) rfl Aq (Aa (pv 0) (Ck Bo Ae (pv 4) Ab))) Ae) (λ_ _=>rfl)) (Ck Bo Ae (AK BU (Az aF (rm hr) rfl Aq (Aa (pv 0) (Ck Bo Ae (pv 4) Ab))) Ae) Ab)) Ab))))) (Ac (Ax (i:=5) Bz.nd rfl (Or.inl rfl) (Bn Ab)) (Ac (BE X6 rfl (BR rfl T.b_range (AH Ab)) (AL (i:=6) Bz.nd rfl (Or.inl rfl)) (Ag (AU (AI Ds (AK BU (Az aF (rm hr) rfl Aq (Aa (pv 0) (Ck Bo Ae (pv 6) Ab))) Ae) Ae (AM _)) (Ag (AZ (Ce Z8 Z9 X4 Ba (pv 5) (Bx (Aa (pv 6) (Aa (Al Ar (pv 1) (AK BU (Az aF (rm hr) rfl Aq (Aa (pv 0) (Ck Bo Ae (pv 6) Ab))) Ae) (λ_ _=>rfl)) Ab)) Ab)))) AF))) (Ag (Au (Dd (Aa (pv 2) (Aa (pv 3) (Aa (pv 5) (Aa (Al Ar (pv 1) (AK BU (Az aF (rm hr) rfl Aq (Aa (pv 0) (AH Ab))) Ae) (λ_ _=>rfl)) Ab))))))))))))),?_⟩
  try dsimp only[cxK]
  refine lts ?_;intro s_1 E_1;obtain⟨xs,hx,hget⟩:=hf.get;apply Nh (fun σ H'=>H=H'/\∃tk:Int,(0<=tk/\tk<=8)/\σ=[some (.int c),some (.ref fw),some (.int tk),none,none,none,none])
  ·intro rest;refine xq1 rfl ⟨_,_,rfl,by decide,by decide,λi hi=>?_⟩;refine xq2 rfl rfl ⟨B3,(xq2 rfl rfl (xq1 rfl ?_))⟩;refine(λ(h1:_) h2=>Nk h2 h1) (λ_=>rest _ _ ⟨rfl,8,by decide,rfl⟩) (λ_=>?_);refine xw2 rfl rfl ⟨_,_,rfl,by decide,by decide,λj hj=>?_⟩;obtain⟨d,dok,ed⟩:=hget j hj;refine xq2 rfl rfl ⟨B3,fw,xs,(xq2 rfl rfl ⟨SqL.of hx,ed,rest _ _ ⟨rfl,d,⟨dok.1,by have:=dok.2;lia⟩,rfl⟩⟩)⟩
  rintro σ H' ⟨rfl,tk,tkr,rfl⟩;refine⟨(by show 0<=sizeLine;decide),λLA hLA=>?_⟩;generalize bH:upd H LA _=H1;obtain⟨s1,hA1⟩:=alc hLA bH;refine xq1 rfl ⟨_,_,rfl,by decide,by decide,λi hi=>?_⟩;obtain⟨m,hm⟩:∃m:Nat,i%3=(m:Int):=⟨(i%3).toNat,by lia⟩
  have m3:m<3:=by lia
  refine xq2 rfl rfl ⟨(by show(0:Int)<3;decide),(m:Int),X8 (λz=>[V.int z]) hm,by lia,by lia,?_⟩;rw[L8];refine CV (n:=m) (λj σ H3=>∃(tas:List Addr)(ams:List (Int×Int))(u4:Option V),σ=[some (.int c),some (.ref fw),some (.int tk),some (.ref LA),u4,none,none]/\Av H H3/\H3 LA=some (.lst (tas.map V.ref))/\Paired (NV H3) tas ams/\ams.length=j/\∀p∈ams,CC p.1/\1<=p.2/\p.2<=511) ⟨[],[],none,rfl,s1,hA1,.nil,rfl,λp hp=>(nomatch hp)⟩ ?_ ?_
  ·rintro j σ H3 hj ⟨tas,ams,u4,rfl,sm,hA3,pr,lc,oks⟩;refine ltg ?_;intro s_3;have lts:=X5 pr;refine xq1 rfl ⟨.inl ⟨rfl,_,SqL.of hA3⟩,(xw3 rfl rfl rfl (xq2 rfl rfl ⟨_,_,rfl,by show 0<=3+(0+(j:Int));lia,by show 3+(0+(j:Int))<=1000;lia,λi1 hi1=>?_⟩))⟩;obtain⟨d,dok,ed⟩:=hget i1 hi1;refine xq2 rfl rfl ⟨B3,fw,xs,(xq2 rfl rfl ⟨SqL.of (sm _ _ hx),ed,?_⟩)⟩;refine xw2 rfl rfl (xq2 rfl rfl ⟨_,_,rfl,by show 0<=6+(0+(j:Int));lia,by show 6+(0+(j:Int))<=1000;lia,λi2 hi2=>?_⟩);refine xq2 rfl rfl ⟨(by show(0:Int)<511;decide),(xq2 rfl rfl ⟨(by show 2<=sizeLine;decide),λt ht=>?_⟩)⟩;have s6:=Ai (o:=.tup [.int d,.int (1+i2%511)]) ht;have ht6:NV (upd H3 t (.tup [.int d,.int (1+i2%511)])) t (d,1+i2%511):=Af;show ∃_,_;generalize upd H3 t (.tup [.int d,.int (1+i2%511)])=H6 at s6 ht6⊢;have hA6:=s6 _ _ hA3;refine⟨LA,(xq2 rfl rfl ⟨hA6,by rw[B6];exact E5 (show tas.length<=100 by lia) A3,?_⟩)⟩;have tp:∀{b:Addr}{ys:List V},H6 b=some (.tup ys)->upd H6 LA (.lst (tas.map V.ref++[.ref t])) b=some (.tup ys):=λ{b ys} e=>by rw[Ao (As e hA6 A2)];exact e
   refine⟨tas++[t],ams++[(d,1+i2%511)],(xq1 rfl ⟨λb o e=>?_,by rw[Af,C0];rfl,K4 (Paired.imp (λb c z=>tp (s6 _ _ z)) pr) (show NV _ t (d,1+i2%511)from tp ht6),by rw[B8,lc];rfl,λp hp=>?_⟩)⟩
   ·rw[Ao (Ah e hLA)];exact s6 _ _ (sm _ _ e)
   ·rcases D1.mp hp with z|z
    ·exact oks p z
    ·rw[C7.mp z];exact⟨dok,by show 1<=1+i2%511;lia,by show 1+i2%511<=511;lia⟩
  rintro σ H3 ⟨tas,ams,u4,rfl,sm,hA3,pr,lc,oks⟩;refine⟨(by show 0<=sizeLine;decide),λLW hLW=>?_⟩;have s4:=Ai (o:=.lst []) hLW;have hW4:upd H3 LW (.lst []) LW=some (.lst []):=Af;have nW:H LW=none:=Av.noneN sm hLW;generalize upd H3 LW (.lst [])=H4 at s4 hW4⊢;have hA4:=s4 _ _ hA3;have pr4:Paired (NV H4) tas ams:=Paired.imp (λb c z=>s4 _ _ z) pr;have sH4:=sm.trans s4;have nAW:LA≠LW:=λz=>by rw[z]at hA3;rw[hA3]at hLW;cases hLW
  clear hA3 pr sm s4 hA1 s1;refine⟨8,rfl,by decide,by decide,?_⟩;refine CV (n:=8) (λj σ H5=>∃(tws:List Addr)(wis:List (Int×Int))(u6:Option V),σ=[some (.int c),some (.ref fw),some (.int tk),some (.ref LA),u4,some (.ref LW),u6]/\Av H H5/\H5 LA=some (.lst (tas.map V.ref))/\Paired (NV H5) tas ams/\H5 LW=some (.lst (tws.map V.ref))/\Paired (NV H5) tws wis/\wis.length<=j/\(∀p∈wis,(0<=p.1/\p.1<(j:Int))/\CC p.2)/\wis.Pairwise λp q=>p.1<q.1) ⟨[],[],none,rfl,sH4,hA4,pr4,hW4,.nil,C8 _,λp hp=>(nomatch hp),.nil⟩ ?_ ?_
  ·rintro j σ H5 hj ⟨tws,wis,u6,rfl,sm,hA5,prA,hW5,prW,lw,okw,asc⟩;refine ltg ?_;intro s_5;have lts:=X5 prW;refine xw2 rfl rfl (xq2 rfl rfl ⟨_,_,rfl,by show 0<=9+(0+(j:Int));lia,by show 9+(0+(j:Int))<=1000;lia,λi1 hi1=>?_⟩);refine xq2 rfl rfl ⟨(by show(0:Int)<9;decide),rfl,(xq1 rfl (Nk (λ_=>?_) (λ_=>?_)))⟩
   ·refine xq1 rfl ⟨.inl ⟨rfl,_,SqL.of hW5⟩,(xw3 rfl rfl rfl (xwb rfl rfl rfl ⟨_,_,rfl,by show 0<=20+(0+(j:Int));lia,by show 20+(0+(j:Int))<=1000;lia,λi2 hi2=>?_⟩))⟩;obtain⟨d,dok,ed⟩:=hget i2 hi2;refine xq2 rfl rfl ⟨B3,fw,xs,(xq2 rfl rfl ⟨SqL.of (sm _ _ hx),ed,(by show 2<=sizeLine;decide),λt ht=>?_⟩)⟩;have s6:=Ai (o:=.tup [.int (0+(j:Int)),.int d]) ht;have ht6:NV (upd H5 t (.tup [.int (0+(j:Int)),.int d])) t (0+(j:Int),d):=Af;show ∃_,_;generalize upd H5 t (.tup [.int (0+(j:Int)),.int d])=H6 at s6 ht6⊢;have hW6:=s6 _ _ hW5;refine⟨LW,(xq2 rfl rfl ⟨hW6,by rw[B6];exact E5 (show tws.length<=100 by lia) A3,?_⟩)⟩;have tp:∀{b:Addr}{ys:List V},H6 b=some (.tup ys)->upd H6 LW (.lst (tws.map V.ref++[.ref t])) b=some (.tup ys):=λ{b ys} e=>by rw[Ao (As e hW6 A2)];exact e
    refine⟨tws++[t],wis++[(0+(j:Int),d)],(xq1 rfl ⟨λb o e=>?_,by rw[Ao nAW];exact s6 _ _ hA5,Paired.imp (λb c z=>tp (s6 _ _ z)) prA,by rw[Af,C0];rfl,K4 (Paired.imp (λb c z=>tp (s6 _ _ z)) prW) (show NV _ t (0+(j:Int),d)from tp ht6),by rw[B8,M5];lia,λp hp=>?_,?_⟩)⟩
    ·rw[Ao (Ah e nW)];exact s6 _ _ (sm _ _ e)
    ·rcases D1.mp hp with z|z
     ·have:=okw p z;exact⟨⟨by lia,by lia⟩,this.2⟩
     ·rw[C7.mp z];exact⟨⟨by show 0<=0+(j:Int);lia,by show 0+(j:Int)<_;lia⟩,dok⟩
    ·rw[O9];refine⟨asc,List.pairwise_singleton _ _,λp hp q hq=>?_⟩;rw[C7.mp hq];have:=okw p hp;show p.1<0+(j:Int)
     lia
   ·exact⟨tws,wis,(xq1 rfl ⟨sm,hA5,prA,hW5,prW,by lia,λp hp=>⟨⟨(okw p hp).1.1,by have:=(okw p hp).1.2;lia⟩,(okw p hp).2⟩,asc⟩)⟩
  rintro σ H5 ⟨tws,wis,u6,rfl,sm,hA5,prA,hW5,prW,lw,okw,asc⟩;refine xw3 rfl rfl rfl (xw2 rfl rfl ⟨_,_,rfl,by decide,by decide,λi3 hi3=>?_⟩);obtain⟨d,dok,ed⟩:=hget i3 hi3;refine xq2 rfl rfl ⟨B3,fw,xs,(xq2 rfl rfl ⟨SqL.of (sm _ _ hx),ed,(by show 4<=sizeLine;decide),λq hq=>?_⟩)⟩;have s6:=Ai (o:=.tup [.int tk,.ref LA,.ref LW,.int d]) hq;exact k q ⟨tk,ams,wis,d⟩ _ (sm.trans s6) ⟨LA,LW,tas,tws,Af,s6 _ _ hA5,Paired.imp (λb c z=>s6 _ _ z) prA,s6 _ _ hW5,Paired.imp (λb c z=>s6 _ _ z) prW⟩ ⟨tkr,oks,by show ams.length<=2;lia,λp hp=>okw p hp,asc,dok⟩
end
end J
namespace J
open PySem L2
theorem bit_and:∀m:Nat,m<512->Builtin.bitAnd (m:Int) 1=((m%2:Nat):Int):=by decide +kernel
theorem VE(m:Int){k:Nat}(hk:k<=8):((Cu m).any λn=>decide (n=(k:Int)))=Ft m k:=by
 unfold Cu;rw[List.any_map];cases e:Ft m k with
 |true =>
  rw[V2];exact⟨k,S8.mpr ⟨N2.mpr A1,e⟩,by simp⟩
 |false =>
  rw[List.any_eq_false];intro j hj z;have:=K1 z;have ej:j=k:=by
   have:(j:Int)=(k:Int):=this;lia
  rw[ej]at hj;rw[(S8.mp hj).2]at e;cases e
def JO(ar:List Int)(s:Int):Nat:=ar.countP (· == s)
def QX(ar:List Int)(p:Int×Int):Bool:=Ft p.2 (JO ar p.1)
def Re(ar:List Int)(p:Int×Int):Bool:=decide (ar[p.1.toNat]?=some p.2)
theorem ws_all {wis:List (Int×Int)} {ar:List Int} (h8:ar.length=8) (hw:∀p∈wis,(0<=p.1/\p.1<8)/\CC p.2) (asc:wis.Pairwise λp q=>p.1<q.1):(((ED wis).zip ar).all λp=>Dx p.1 p.2)=wis.all (Re ar):=by
 have ga:∀k:Nat,k<8->∃x,ar[k]?=some x:=λk hk=>⟨_,C6 A1⟩
 have gw:∀k:Nat,k<8->(ED wis)[k]?=some ((wis.find? λp=>decide (p.1=(k:Int))).map (·.2)):=λk hk=>by
  unfold ED;rw[B9,O1 hk];rfl
 cases e:wis.all (Re ar)with
 |true =>
  rw[O6]at e;rw[O6];intro q hq;obtain⟨k,hk⟩:=E8 hq;rw[T9]at hk;have k8:k<8:=by
   have:=(B7.mp hk.2).1;lia
  rw[gw k k8]at hk;cases ef:wis.find? λp=>decide (p.1=(k:Int))with
  |none =>
   rw[ef]at hk;have:=X9 hk.1;unfold Dx;rw[<-this];rfl
  |some p =>
   rw[ef]at hk;have h1:some p.2=q.1:=X9 hk.1;have hp:=e p (Q3 ef);have h2:p.1=(k:Int):=by
    have:=List.find?_some ef;exact K1 this
   have h3:ar[p.1.toNat]?=some p.2:=K1 hp;rw[h2,L8,hk.2]at h3;unfold Dx;rw[<-h1];exact Z1 (X9 h3).symm
 |false =>
  rw[U0]at e;obtain⟨p,hp,np⟩:=e;rw[U0];have pr:=(hw p hp).1;have k8:p.1.toNat<8:=by lia
  obtain⟨x,hx⟩:=ga _ k8;have fi:(wis.find? λq=>decide (q.1=((p.1.toNat:Nat):Int)))=some p:=by
   cases ef:wis.find? λq=>decide (q.1=((p.1.toNat:Nat):Int))with
   |none =>
    have:=Q9.mp ef p hp;exact absurd (Z1 (show p.1=((p.1.toNat:Nat):Int) by lia)) this
   |some q =>
    have h1:q.1=((p.1.toNat:Nat):Int):=by
     have:=List.find?_some ef;exact K1 this
    have hq:=Q3 ef;have h2:q.1=p.1:=by lia
    have one:∀{l:List (Int×Int)},l.Pairwise (λp q=>p.1<q.1)->∀{x y:Int×Int},x∈l->y∈l->x.1=y.1->x=y:=λ{l}=>by
     induction l with
     |nil =>
      intro _ x y hx;cases hx
     |cons z l ih =>
      intro hp x y hx hy exy;rw[T5]at hp;rcases D6.mp hx with ex|hx'
      ·rcases D6.mp hy with ey|hy'
       ·rw[ex,ey]
       ·have:=hp.1 _ hy';rw[ex]at exy;lia
      ·rcases D6.mp hy with ey|hy'
       ·have:=hp.1 _ hx';rw[ey]at exy;lia
       ·exact ih hp.2 hx' hy' exy
    rw[one asc hq hp h2]
  refine⟨(some p.2,x),D7 (i:=p.1.toNat) ?_,?_⟩
  ·rw[T9];refine⟨?_,hx⟩;rw[gw _ k8,fi];rfl
  ·intro z;have z:p.2=x:=K1 z;exact np (Z1 (by rw[hx,z]))
theorem fits4{c:LC4}(ok:c.Ok){ar:List Int}(h8:ar.length=8)(cell:Int):c.a.fits cell ar=((decide (c.tk=8) || decide (c.tk=cell)) && (c.ams.all (QX ar) && c.wis.all (Re ar))):=by
 unfold Bj.fits LC4.a;dsimp only;congr 1
 ·unfold Dx;by_cases z:c.tk=8
  ·rw[Z6 z,Z1 z];rfl
  ·rw[Z3 z,Z2 z];rfl
 ·rw[List.all_append,Y8];congr 1
  ·refine List.all_congr rfl λp=>?_;show((Cu p.2).any λn=>decide (n=((ar.countP (· == p.1):Nat):Int)))=Ft p.2 (JO ar p.1);have:ar.countP (· == p.1)<=8:=by
    rw[<-h8];exact List.countP_le_length
   exact VE _ this
  ·by_cases z:c.wis=[]
   ·rw[Z6 z,z];rfl
   ·rw[Z3 z];show(BQ.holds ar (.pl (ED c.wis)) && true)=_;rw[Bool.and_true];exact ws_all h8 ok.wis ok.asc
seal L2.PA L2.PE L2.PS L2.PSs L2.PT L2.PW
theorem Vl(l:Nat):((2^l:Nat):Int)=(2:Int)^l:=Int.natCast_pow 2 l
section
variable{P:Program}{w:World}{K:PySem.W.Frag}{mg:Str->Option Value}{base:Heap}{a:Ad}
inductive SpFi4(vs:List V)(H:Hp)(Q:VK):Prop
 |mk (q m:Addr) (c:LC4) (cell:Int) (ar:List Int) (_:vs=[.ref q,.int cell,.ref m]) (_:Ib H q c) (_:c.Ok) (_:H m=some (.lst (ar.map V.int))) (_:ar.length=8) (_:∀H',Av H H'->Q (.bl (c.a.fits cell ar)) H'):SpFi4 vs H Q
def UZ:Sp:=λvs H Q _=>SpFi4 vs H Q
theorem ok_fi4{f:Addr}{fd:FuncData}(F:Fun K "_law_fits" "_law_fits" FD f fd)(T:Top K mg a):AR P w K mg base CX0 1 f fd Iq UZ:=by
 refine F.ok CO (λvs H Q E h=>?_) (λcdv A outer s H vs Q E hr h=>?_)
 ·obtain⟨q,m,c,cell,ar,rfl,_⟩:=h;rfl
 ·obtain⟨q,m,c,cell,ar,rfl,hq,ok,hm,h8,k⟩:=h;refine⟨_,(Ac (AU (PW.pt (Rq (AI Ia (Al An (pv 0) Ae (λ_ _=>rfl)) Ae (AM _)) (OV (AI Ia (Al An (pv 0) Ae (λ_ _=>rfl)) (pv 1) (AM _))))) (Ag (Au CH)) AF) (Ac (BE X6 rfl (Bc (Al An (pv 0) Ae (λ_ _=>rfl))) (EY rfl (AY (AL (i:=3) CO.nd rfl (Or.inr rfl)) (AY (AL (i:=4) CO.nd rfl (Or.inl rfl)) DK))) (Ac (Ax (i:=5) CO.nd rfl (Or.inl rfl) (AO Bh rfl T.b_len K2 (Aa (BL rfl (Bk.of (So:=Ak FD) (No:=LO) (N:=["_law_one","_law_state"]) (k:=1) (cs:=[3]) rfl rfl A0) (Bc (pv 2)) (λ_ _ _=>(AV (i:=0) A0 rfl rfl)) (λ_ _ _=>(SK (AI Ds (pv 0) (pv 1) (AM _)))) (λ_ _ _=>(pv 0))) Ab))) (Ag (AU (AI Ds (AK Vy (AK Vu (pv 4) (pv 5)) Ae) Ae (AM _)) (Ag (Au CH)) AF)))) (Ac (BE X6 rfl (Bc (Al An (pv 0) Ae (λ_ _=>rfl))) (EY rfl (AY (AL (i:=6) CO.nd rfl (Or.inl rfl)) (AY (AL (i:=3) CO.nd rfl (Or.inr rfl)) DK))) (Ag (AU (AI Ia (Al Ar (pv 2) (pv 6) (λ_ _=>rfl)) (pv 3) (AM _)) (Ag (Au CH)) AF))) (Ag (Au CH))))),?_⟩
  try dsimp only[cxK]
  obtain⟨la,lw,tas,tws,h1,h2,h3,h4,h5⟩:=hq;rw[fits4 ok h8]at k;have di:∀x y:Int,decide (V.int x=V.int y)=decide (x=y):=IT;apply Nh (fun σ H'=>H=H'/\σ=[some (.ref q),some (.int cell),some (.ref m),none,none,none,none]/\(decide (c.tk=8) || decide (c.tk=cell))=true)
  ·intro rest;refine xwi rfl rfl rfl (SqT.of h1) (Am (j:=0) rfl) ⟨rfl,(xq1 rfl ?_)⟩;rw[di];by_cases z:c.tk=8
   ·rw[Z1 z];exact Bq (Bq (rest _ _ ⟨rfl,rfl,by rw[Z1 z];rfl⟩))
   ·rw[Z2 z];refine CN (xwi rfl rfl rfl (SqT.of h1) (Am (j:=0) rfl) (xq1 rfl ⟨rfl,(xq1 rfl ?_)⟩));rw[di];by_cases y:c.tk=cell
    ·rw[Z1 y];exact Bq (rest _ _ ⟨rfl,rfl,by rw[Z1 y,Bool.or_true]⟩)
    ·rw[Z2 y];refine CN ?_;have:=k H (Av.refl H);rw[Z2 z,Z2 y]at this;exact this
  rintro σ H' ⟨rfl,rfl,tt⟩;rw[tt,Bool.true_and]at k;have lta:=X5 h3;have ltw:=X5 h5;refine xwi rfl rfl rfl (SqT.of h1) (Am (j:=1) rfl) ⟨la,rfl,⟨_,SqL.of h2⟩,?_⟩;refine Cw (xs:=tas.map V.ref) (λj σ H2=>∃u3 u4 u5:Option V,σ=[some (.ref q),some (.int cell),some (.ref m),u3,u4,u5,none]/\Av H H2/\(c.ams.take j).all (QX ar)=true) ⟨none,none,none,rfl,Av.refl H,rfl⟩ (λj σ H2 _ z=>by obtain⟨_,_,_,_,sm,_⟩:=z;exact SqL.of (sm _ _ h2)) ?_ ?_
  ·rintro j v σ H2 ev ⟨u3,u4,u5,rfl,sm,al⟩;rw[B9]at ev;obtain⟨t,et,rfl⟩:=D5.mp ev;obtain⟨p,ep,hp⟩:=Paired.get h3 et;have mp:=D7 ep;obtain⟨sp,m1,m2⟩:=ok.ams p mp;refine JK (sm _ _ hp) ?_;have hm2:=sm _ _ hm;refine xq1 rfl ⟨m,rfl,⟨_,SqL.of hm2⟩,?_⟩;refine BP (xs:=ar.map V.int) (λi acc H3=>Av H2 H3/\acc=((ar.take i).filter (· == p.1)).map V.int) ⟨Av.refl H2,rfl⟩ (λi acc H3 _ z=>SqL.of (z.1 _ _ hm2)) ?_ ?_
   ·rintro i x acc H3 hx ⟨s3,rfl⟩;rw[B9]at hx;obtain⟨n,en,rfl⟩:=D5.mp hx;refine⟨⟨[some (.int n)],rfl,rfl⟩,?_,?_⟩
    ·rw[B6];refine E5 (List.length_filter_le _ _) ?_;rw[J7];exact E5 (show min i ar.length<=8 by lia) A3
    ·refine xw2 rfl rfl ⟨rfl,(xq1 rfl ?_)⟩;rw[di];have step:(ar.take (i+1)).filter (· == p.1)=(ar.take i).filter (· == p.1)++if n=p.1 then [n]else []:=by
      rw[F4,en,J0,List.filter_append];congr 1;by_cases z:n=p.1
      ·rw[Z6 z,List.filter_cons,Z6 (by rw[z];simp),List.filter_nil]
      ·rw[Z3 z,List.filter_cons,Z3 (by simpa using z),List.filter_nil]
     by_cases z:n=p.1
     ·rw[Z1 z];refine CN (xq1 rfl ⟨s3,?_⟩);rw[step,Z6 z,C0];rfl
     ·rw[Z2 z];refine Bq ⟨s3,?_⟩;rw[step,Z3 z,P3]
   ·rintro acc H3 ⟨s3,rfl⟩ L hL;rw[B6,F7];generalize cY:upd H3 L _=H4;obtain⟨s4,hL4⟩:=alc hL cY;refine⟨L,(xq1 rfl ⟨.inl (SqL.of hL4),?_⟩)⟩;have ec:(((ar.filter (· == p.1)).map V.int).length:Int)=((JO ar p.1:Nat):Int):=by
     rw[B6];unfold JO;rw[List.countP_eq_length_filter]
    rw[ec];have c8:JO ar p.1<=8:=by
     unfold JO;rw[<-h8];exact List.countP_le_length
    have sm4:=(sm.trans s3).trans s4;obtain⟨v,hv⟩:∃v:Nat,p.2/2^(((JO ar p.1:Nat):Int)).toNat=(v:Int):=⟨(p.2/2^(((JO ar p.1:Nat):Int)).toNat).toNat,by
     have:0<=p.2/2^(((JO ar p.1:Nat):Int)).toNat:=Int.ediv_nonneg A1 (by rw[<-Vl];lia);lia⟩
    have v5:v<512:=by
     have:p.2/2^(((JO ar p.1:Nat):Int)).toNat<=p.2:=Int.ediv_le_self _ A1;lia
    have hb:=bit_and v v5;refine xw2 rfl rfl (xq2 rfl rfl ⟨(by show(0:Int)<=((JO ar p.1:Nat):Int);lia),(xq2 rfl rfl ⟨rfl,(xq1 rfl ?_)⟩)⟩);have am:QX ar p=decide (v%2=1):=by
     unfold QX Ft;rw[show p.2/2^JO ar p.1=(v:Int)from hv,hb,di];by_cases z:v%2=1
     ·rw[Z1 z,Z1 (by rw[z];rfl)]
     ·rw[Z2 z,Z2 A1]
    have tst:decide (V.int (Builtin.bitAnd (p.2/2^(((JO ar p.1:Nat):Int)).toNat) 1)=V.int 0)=!(QX ar p):=by
     rw[am,hv,hb,di];by_cases z:v%2=1
     ·rw[Z1 z,Z2 A1];rfl
     ·rw[Z2 z,Z1 A1];rfl
    have tst':decide ((λ(i j:Int)=>V.int (Builtin.bitAnd i j)) ((λ(i j:Int)=>i/2^j.toNat) p.2 ((JO ar p.1:Nat):Int)) 1=V.int 0)=!(QX ar p):=tst;cases ea:QX ar p with
    |false =>
     rw[ea]at tst';refine(λ(h1:_)=>Nk (λ_=>h1) (λz=>absurd tst' z)) ?_;have e0:c.ams.all (QX ar)=false:=U0.mpr ⟨p,mp,by rw[ea];decide⟩;rw[e0,Bool.false_and]at k;exact k _ sm4
    |true =>
     rw[ea]at tst';refine(λ(h1:_)=>Nk (λz=>absurd (tst'.symm.trans z) A3) (λ_=>h1)) ?_;refine⟨_,_,_,rfl,sm4,?_⟩;rw[F4,ep,J0,List.all_append,al,W5,ea];rfl
  rintro σ H2 ⟨u3,u4,u5,rfl,sm,al⟩;rw[B6,lta,F7]at al;rw[al,Bool.true_and]at k;refine xwi rfl rfl rfl (SqT.of (sm _ _ h1)) (Am (j:=2) rfl) ⟨lw,rfl,⟨_,SqL.of (sm _ _ h4)⟩,?_⟩;refine Cw (xs:=tws.map V.ref) (λj σ H3=>∃u3 u4 u5 u6:Option V,σ=[some (.ref q),some (.int cell),some (.ref m),u3,u4,u5,u6]/\Av H H3/\(c.wis.take j).all (Re ar)=true) ⟨_,_,_,none,rfl,sm,rfl⟩ (λj σ H3 _ z=>by obtain⟨_,_,_,_,_,sm,_⟩:=z;exact SqL.of (sm _ _ h4)) ?_ ?_
  ·rintro j v σ H3 ev ⟨u3,u4,u5,u6,rfl,sm,al⟩;rw[B9]at ev;obtain⟨t,et,rfl⟩:=D5.mp ev;obtain⟨p,ep,hp⟩:=Paired.get h5 et;have mp:=D7 ep;obtain⟨⟨p0,p8⟩,_⟩:=ok.wis p mp;refine JK (sm _ _ hp) ?_;obtain⟨x,hx⟩:∃x,ar[p.1.toNat]?=some x:=⟨_,C6 A1⟩
   have ix:p.1=((p.1.toNat:Nat):Int):=by lia
   refine xwj rfl rfl rfl rfl (SqL.of (sm _ _ hm)) (by rw[ix];exact Am (by rw[B9,hx];rfl)) (xq1 rfl ⟨rfl,(xq1 rfl ?_)⟩);rw[di];have wi:Re ar p=decide (x=p.2):=by
    unfold Re;rw[hx];by_cases z:x=p.2
    ·rw[Z1 z,Z1 (by rw[z])]
    ·rw[Z2 z,Z2 (λq=>z (X9 q))]
   by_cases z:x=p.2
   ·rw[Z1 z];refine Bq ⟨_,_,_,_,rfl,sm,?_⟩;rw[F4,ep,J0,List.all_append,al,W5,wi,Z1 z];rfl
   ·rw[Z2 z];refine CN ?_;have e0:c.wis.all (Re ar)=false:=U0.mpr ⟨p,mp,by rw[wi,Z2 z];decide⟩;rw[e0]at k;exact k _ sm
  ·rintro σ H3 ⟨u3,u4,u5,u6,rfl,sm,al⟩;rw[B6,ltw,F7]at al;rw[al]at k;exact k _ sm
inductive SpBe4(vs:List V)(H:Hp)(Q:VK):Prop
 |mk (q m:Addr) (r:List LC4) (cell:Int) (ar:List Int) (_:vs=[.ref q,.int cell,.ref m]) (_:FK H q r) (_:Mb r) (_:H m=some (.lst (ar.map V.int))) (_:ar.length=8) (_:∀H',Av H H'->Q (.int (Dw (r.map LC4.a) cell ar)) H'):SpBe4 vs H Q
def SA:Sp:=λvs H Q _=>SpBe4 vs H Q
theorem Uq{r:List LC4}{cell:Int}{ar:List Int}{j:Nat}{c:LC4}(ec:r[j]?=some c)(no:∀d∈r.take j,d.a.fits cell ar=false)(yes:c.a.fits cell ar=true):Dw (r.map LC4.a) cell ar=c.ms:=by
 unfold Dw;have e:(r.map LC4.a).find? (Bj.fits cell ar)=some c.a:=by
  have hr:r=r.take j++(c::r.drop (j+1)):=by
   conv=>lhs;rw[<-O8 j r]
   rw[N5 (B7.mp ec).1,(B7.mp ec).2]
  rw[hr,C0,List.find?_append,F0,N4,yes];have n:((r.take j).map LC4.a).find? (Bj.fits cell ar)=none:=by
   rw[Q9];intro x hx;obtain⟨d,hd,rfl⟩:=E4.mp hx;rw[no d hd];decide
  rw[n];rfl
 rw[e];rfl
theorem ok_be4{f:Addr}{fd:FuncData}(F:Fun K "_law_becomes" "_law_becomes" ET f fd)(T:Top K mg a)(bY:Cal P w K mg base CX0 1 "_law_fits" Iq UZ):AR P w K mg base CX0 2 f fd DO SA:=by
 refine F.ok GX (λvs H Q E h=>?_) (λcdv A outer s H vs Q E hr h=>?_)
 ·obtain⟨q,m,r,cell,ar,rfl,_⟩:=h;rfl
 ·obtain⟨q,m,r,cell,ar,rfl,hq,ok,hm,h8,k⟩:=h;refine⟨_,(Ac (BE X6 rfl (Bc (pv 0)) (AL (i:=3) GX.nd rfl (Or.inl rfl)) (Ag (AU (CD (Az bY (rm hr) rfl Aq (Aa (pv 3) (Aa (pv 1) (Aa (pv 2) Ab))))) (Ag (Au (Al An (pv 3) Ae (λ_ _=>rfl)))) AF))) (Ag (Au (pv 1)))),?_⟩
  try dsimp only[cxK]
  obtain⟨ts,h1,h2⟩:=hq;have lt:=X5 h2;refine xq1 rfl ⟨q,rfl,⟨_,SqL.of h1⟩,?_⟩;refine Cw (xs:=ts.map V.ref) (λj σ H2=>∃u3:Option V,σ=[some (.ref q),some (.int cell),some (.ref m),u3]/\Av H H2/\∀d∈r.take j,d.a.fits cell ar=false) ⟨none,rfl,Av.refl H,λd hd=>(by rw[List.take_zero]at hd;cases hd)⟩ (λj σ H2 _ z=>by obtain⟨_,_,sm,_⟩:=z;exact SqL.of (sm _ _ h1)) ?_ ?_
  ·rintro j v σ H2 ev ⟨u3,rfl,sm,no⟩;rw[B9]at ev;obtain⟨t,et,rfl⟩:=D5.mp ev;obtain⟨c,ec,hc⟩:=Paired.get h2 et;have mc:=D7 ec;refine xw3 rfl rfl rfl ⟨t,m,c,cell,ar,rfl,hc.same sm,ok.ok c mc,sm _ _ hm,h8,λH3 s3=>(xq1 rfl ?_)⟩;have sm3:=sm.trans s3;cases ef:c.a.fits cell ar with
   |true =>
    obtain⟨la,lw,tas,tws,g1,_⟩:=hc.same sm3;refine CN (xwi rfl rfl rfl (SqT.of g1) (Am (j:=3) rfl) ?_);rw[<-Uq ec no ef];exact k H3 sm3
   |false =>
    refine Bq (xq1 rfl ⟨sm3,λd hd=>?_⟩);rw[F4,ec,J0]at hd;rcases D1.mp hd with z|z
    ·exact no d z
    ·rw[C7.mp z];exact ef
  ·rintro σ H2 ⟨u3,rfl,sm,no⟩;rw[B6,lt,F7]at no;have e:Dw (r.map LC4.a) cell ar=cell:=by
    unfold Dw;have n:(r.map LC4.a).find? (Bj.fits cell ar)=none:=by
     rw[Q9];intro x hx;obtain⟨d,hd,rfl⟩:=E4.mp hx;rw[no d hd];decide
    rw[n]
   have:=k H2 sm;rw[e]at this;exact xq1 rfl this
end
theorem join_w4(ws:List (Option Int)):Str.join (Str.ofString "") (ws.map wS)=Bb (.pl ws):=by
 have e3:Str.ofString "" = (⟨#[]⟩:Str):=by decide +kernel
 rw[e3];refine Nu.ext ?_;rw[Tx.Es,Tx.RO,N3];show(ws.map _).flatten=ws.map wC;induction ws with
 |nil=>rfl
 |cons x r ih=>rw[F0,P6,ih,F0];rfl
theorem SY{ns:List Int}(h:∀m∈ns,0<=m/\m<=8):Str.join (Str.ofString "") (ns.map λn=>Str.ofString (toString n))=Dg ns:=by
 have e3:Str.ofString "" = (⟨#[]⟩:Str):=by decide +kernel
 rw[e3];refine Nu.ext ?_;rw[Tx.Es,Tx.RO,N3];show(ns.map _).flatten=ns.map λn=>48+n.toNat;induction ns with
 |nil=>rfl
 |cons n r ih =>
  have h1:=h n D8;rw[F0,P6,ih λm hm=>h m (E1 _ hm)];show(Str.ofString (toString n)).cps.toList++_=_;rw[Tx.II h1.1 A1];rfl
theorem Nq{d:Int}(h0:0<=d)(h1:d<=9):(Str.ofString (toString d)).length=1:=by rw[Tx.II h0 h1];rfl
theorem star4{t:Int}(h0:0<=t)(h1:t<=8):atI UR.cps.toList t=some (wC (if t=8 then none else some t)):=by
 obtain⟨n,rfl⟩:=M4 h0;have:=star_at n A1;by_cases z:n=8
 ·rw[Z6 z]at this;rw[Z6 (by rw[z];rfl)];exact Am this
 ·rw[Z3 z]at this;rw[Z3 A1];exact Am this
theorem ws_set{l:List (Int×Int)}{p:Int×Int}(h0:0<=p.1)(h8:p.1<8)(lt:∀q∈l,q.1<p.1):ED (l++[p])=(ED l).set p.1.toNat (some p.2):=by
 have gw:∀(l:List (Int×Int))(k:Nat),k<8->(ED l)[k]?=some ((l.find? λp=>decide (p.1=(k:Int))).map (·.2)):=λl k hk=>by
  unfold ED;rw[B9,O1 hk];rfl
 refine R4 λk=>?_;by_cases hk:k<8
 ·rw[List.getElem?_set,gw _ k hk,gw _ k hk,List.find?_append,JT];by_cases e:p.1.toNat=k
  ·rw[Z6 e,Z6 A1];have n:(l.find? λq=>decide (q.1=(k:Int)))=none:=by
    rw[Q9];intro q hq z;have:=K1 z;have:=lt q hq;lia
   rw[n,N4,Z1 (show p.1=(k:Int) by lia)];rfl
  ·rw[Z3 e,N4,Z2 (show ¬p.1=(k:Int) by lia)];show some (Option.map _ (Option.or _ none))=_;rw[Option.or_none]
 ·rw[L7 (by rw[JT];lia),L7 (by rw[List.length_set,JT];lia)]
theorem ws_nil:(List.replicate (8:Int).toNat [V.str (Str.ofString "*")]).flatten=(ED []).map λw=>V.str (wS w):=by
 have e:Str.ofString "*" = (⟨#[42]⟩:Str):=by decide +kernel
 rw[e];rfl
theorem ws_ok{l:List (Int×Int)}(h:∀p∈l,CC p.2):∀w∈ED l,wOk w:=λw hw=>by
 unfold ED at hw;obtain⟨k,_,rfl⟩:=E4.mp hw;cases e:l.find? λp=>decide (p.1=(k:Int))with
 |none=>trivial
 |some p=>exact h p (Q3 e)
section
variable{P:Program}{w:World}{K:PySem.W.Frag}{mg:Str->Option Value}{base:Heap}{a:Ad}
inductive SpWs4(vs:List V)(H:Hp)(Q:VK):Prop
 |mk (q:Addr) (c:LC4) (_:vs=[.ref q]) (_:Ib H q c) (_:c.Ok) (_:∀H',Av H H'->Q (.str (Bl c.a)) H'):SpWs4 vs H Q
def UT:Sp:=λvs H Q _=>SpWs4 vs H Q
theorem ok_ws4{f:Addr}{fd:FuncData}(F:Fun K "_law_words" "_law_words" EE f fd)(T:Top K mg a):AR P w K mg base CX0 1 f fd GH UT:=by
 refine F.ok Cb (λvs H Q E h=>?_) (λcdv A outer s H vs Q E hr h=>?_)
 ·obtain⟨q,c,rfl,_⟩:=h;rfl
 ·obtain⟨q,c,rfl,hq,ok,k⟩:=h;refine⟨_,(Ac (Ax (i:=1) Cb.nd rfl (Or.inl rfl) (Bn (Aa (Al ix_str GF (Al An (pv 0) Ae (λ_ _=>rfl)) (λ_ _=>rfl)) Ab))) (Ac (BE X6 rfl (Bc (Al An (pv 0) Ae (λ_ _=>rfl))) (EY rfl (AY (AL (i:=2) Cb.nd rfl (Or.inl rfl)) (AY (AL (i:=3) Cb.nd rfl (Or.inr rfl)) DK))) (Ag (AZ (Ce Z8 Z9 X4 Ba (pv 1) (Ck MU (AK MU (Bv EK rfl T.b_str A0g (Aa (pv 2) Ab)) GF) (Ce A0c A2f A2g Mh GF (Aa (BL rfl (Bk.of (So:=Ak EE) (No:=JG) (N:=["_law_k","_law_mask"]) (k:=1) (cs:=[3]) rfl rfl A0) (BR rfl T.b_range (AH Ab)) (λ_ _ _=>(AV (i:=0) A0 rfl rfl)) (λ_ _ _=>(SK (AI Ds (AK Vy (AK Vu (pv 1) (pv 0)) Ae) Ae (AM _)))) (λ_ _ _=>(Bv EK rfl T.b_str A0g (Aa (pv 0) Ab)))) Ab)) Ab))))) (Ac (Ax (i:=4) Cb.nd rfl (Or.inl rfl) (AK Vv (Bn (Rs Ab)) Ae)) (Ac (BE X6 rfl (Bc (Al An (pv 0) Ae (λ_ _=>rfl))) (EY rfl (AY (AL (i:=5) Cb.nd rfl (Or.inl rfl)) (AY (AL (i:=2) Cb.nd rfl (Or.inl rfl)) DK))) (Ag (Vk (Bv EK rfl T.b_str A0g (Aa (pv 2) Ab)) (pg_sub (pv 4) (pv 5) Ve)))) (Ac (AU (AI (TJ hr.units) (Al An (pv 0) Ae (λ_ _=>rfl)) (Bn Ab) (AM _)) (Ag (AZ (Ce Z8 Z9 X4 Ba (pv 1) (Aa (Ce A0c A2f A2g Mh GF (Aa (pv 4) Ab)) Ab)))) AF) (Ag (Au (Ce A0c A2f A2g Mh GF (Ck Li (pv 1) (Bn (Aa (Bv EK rfl T.b_str A0g (Aa (Al An (pv 0) Ae (λ_ _=>rfl)) Ab)) Ab)) Ab))))))))),?_⟩
  try dsimp only[cxK]
  refine lts ?_;intro s_1 E_1;obtain⟨la,lw,tas,tws,h1,h2,h3,h4,h5⟩:=hq;have l0:(Str.ofString "").length=0:=by decide +kernel
  have lta:=X5 h3;have ltw:=X5 h5;have few:=ok.few;have md9:c.ms<=9:=by have:=ok.ms.2;lia
  have wok:=ws_ok λp hp=>(ok.wis p hp).2;obtain⟨hd,ehd⟩:∃hd:Option Int,hd=if c.tk=8 then none else some c.tk:=⟨_,rfl⟩
  refine xwi rfl rfl rfl (SqT.of h1) (Am (j:=0) rfl) ⟨UR,_,wC hd,rfl,rfl,A0,(by rw[ehd];exact star4 ok.tk.1 ok.tk.2),(by show 1<=sizeLine;decide),λLW hLW=>?_⟩;have s1:=Ai (o:=.lst [.str (wS hd)]) hLW;have hW1:upd H LW (.lst [.str (wS hd)]) LW=some (.lst [.str (wS hd)]):=Af;show ∃_,_;have eS:(.lst [.str ⟨#[wC hd]⟩]:HO)=.lst [.str (wS hd)]:=rfl;rw[eS];generalize upd H LW (.lst [.str (wS hd)])=H1 at s1 hW1⊢;refine xwi rfl rfl rfl (SqT.of (s1 _ _ h1)) (Am (j:=1) rfl) ⟨la,rfl,⟨_,SqL.of (s1 _ _ h2)⟩,?_⟩;refine Cw (xs:=tas.map V.ref) (λj σ H2=>∃u2 u3:Option V,σ=[some (.ref q),some (.ref LW),u2,u3,none,none]/\Av H H2/\H2 LW=some (.lst ((wS hd::(c.ams.take j).map λp=>Bb (.am p.1 (Cu p.2))).map V.str))) ⟨none,none,rfl,s1,hW1⟩ (λj σ H2 _ z=>by obtain⟨_,_,_,sm,_⟩:=z;exact SqL.of (sm _ _ h2)) ?_ ?_
  ·rintro j v σ H2 ev ⟨u2,u3,rfl,sm,hW2⟩;refine ltg ?_;intro s_2;rw[B9]at ev;obtain⟨t,et,rfl⟩:=D5.mp ev;obtain⟨p,ep,hp⟩:=Paired.get h3 et;have mp:=D7 ep;obtain⟨sp,m1,m2⟩:=ok.ams p mp;have sp9:p.1<=9:=by have:=sp.2;lia
   have hn:=SQ p.2;have hlen:=JQ (Cu p.2) 0 A3 hn (Qn _);refine JK (sm _ _ hp) ?_;refine xq1 rfl ⟨.inl ⟨rfl,_,SqL.of hW2⟩,(xq1 rfl ⟨p.1,rfl,IK sp.1 sp9,(xq2 rfl rfl ⟨Mj (by erw [Nq sp.1 sp9];decide),rfl,9,rfl,by decide,by decide,?_⟩)⟩)⟩;refine Gj (n:=9) (λi acc H3=>H2=H3/\acc=((((List.range i).filter (Ft p.2)).map λ(k:Nat)=>(k:Int)).map λn=>Str.ofString (toString n)).map V.str) ⟨rfl,rfl⟩ ?_ ?_
   ·rintro i acc H3 hi ⟨rfl,rfl⟩;refine ltg ?_;intro s_3;have lt:(((((List.range i).filter (Ft p.2)).map λ(k:Nat)=>(k:Int)).map λn=>Str.ofString (toString n)).map V.str).length<sizeLine:=by
     rw[B6,B6,B6];have:=List.length_filter_le (Ft p.2) (List.range i);rw[O0]at this;exact E5 (D4 this (M0 hi)) A3
    refine⟨⟨[some (.int (0+(i:Int)))],rfl,rfl⟩,lt,?_⟩;refine xw2 rfl rfl (xq2 rfl rfl ⟨(by show(0:Int)<=0+(i:Int);lia),(xq2 rfl rfl ⟨rfl,(xq1 rfl ?_)⟩)⟩);have ei:(0+(i:Int)).toNat=i:=by lia
    have e:(List.range (i+1)).filter (Ft p.2)=(List.range i).filter (Ft p.2)++if Ft p.2 i=true then [i]else []:=by
     rw[Q5,List.filter_append,List.filter_cons,List.filter_nil]
    rw[ei];show if Ft p.2 i=true then _ else _;refine Nk (λhb=>?_) (λhb=>?_)
    ·refine xw2 rfl rfl ⟨IK A1 A1,rfl,?_⟩;rw[e,Z6 hb,C0,C0,C0];show _++[V.str (Str.ofString (toString (0+(i:Int))))]=_++[V.str (Str.ofString (toString (i:Int)))]
     rw[V7]
    ·refine⟨rfl,?_⟩;rw[e,Z3 hb,P3]
   ·rintro acc H3 ⟨rfl,rfl⟩ l hl;have enum:(((List.range 9).filter (Ft p.2)).map λ(k:Nat)=>(k:Int))=Cu p.2:=rfl;rw[enum];generalize cM:upd H2 l _=H3;obtain⟨s3,hl3⟩:=alc hl cM;have hjok:JoinOk (Str.ofString "") ((Cu p.2).map λn=>Str.ofString (toString n))=true:=by
     refine Tx.Mn 1 (λt ht=>?_) ?_
     ·obtain⟨n,hn2,rfl⟩:=E4.mp ht;have:=hn n hn2;rw[Nq this.1 A1];decide
     ·rw[B6,l0];lia
    refine⟨_,l,(xq1 rfl ⟨rfl,SqL.of hl3,hjok,(xq2 rfl rfl ⟨Mj ?_,?_⟩)⟩)⟩
    ·rw[SY hn];have e1:(Dg (Cu p.2)).length=(Cu p.2).length:=by rw[Nu.len];show((Cu p.2).map _).length=_;rw[B6]
     have e2:(Str.ofString "=").length=1:=by decide +kernel
     rw[Tx.app_len,e1,e2]
     erw [Nq sp.1 sp9]
     lia
    ·have e:Str.ofString (toString p.1)++Str.ofString "=" ++ Str.join (Str.ofString "") ((Cu p.2).map λn=>Str.ofString (toString n))=Bb (.am p.1 (Cu p.2)):=by
      rw[SY hn,Tx.II sp.1 sp9,show Str.ofString "=" = (⟨#[61]⟩:Str) by decide +kernel];rfl
     have hW3:=s3 _ _ hW2;refine⟨LW,(xq2 rfl rfl ⟨hW3,?_,?_⟩)⟩
     ·rw[B6,E7,B6,J7];exact E5 (show min j c.ams.length+1<=3 by lia) A3
     ·refine⟨_,_,rfl,λb o z=>?_,?_⟩
      ·rw[Ao (Ah z hLW)];exact s3 _ _ (sm _ _ z)
      ·rw[Af,F4,ep,J0,C0,F0,F0,C0];show some (HO.lst (_++[V.str _]))=_
       erw [e]
       rfl
  rintro σ H2 ⟨u2,u3,rfl,sm,hW2⟩;rw[B6,lta,F7]at hW2;obtain⟨ws0,ew0⟩:∃ws0:List Str,ws0=wS hd::c.ams.map λp=>Bb (.am p.1 (Cu p.2)):=⟨_,rfl⟩
  rw[<-ew0]at hW2;have lw0:ws0.length<=3:=by rw[ew0,E7,B6];lia
  refine⟨(by show 1<=sizeLine;decide),λL1 hL1=>?_⟩;generalize cM:upd H2 L1 _=H3;obtain⟨s3,hL13⟩:=alc hL1 cM;refine⟨L1,8,(xq1 rfl ⟨rfl,hL13,by decide,by decide,(by show 1*8<=sizeLine;decide),λSG hSG=>?_⟩)⟩;rw[ws_nil];have s4:=Ai (o:=.lst ((ED []).map λw=>V.str (wS w))) hSG;have hSG4:upd H3 SG (.lst ((ED []).map λw=>V.str (wS w))) SG=some (.lst ((ED []).map λw=>V.str (wS w))):=Af;have nSG:H SG=none:=Av.noneN (sm.trans s3) hSG;have nWS:LW≠SG:=λz=>by rw[z]at hW2;rw[s3 _ _ hW2]at hSG;cases hSG
  generalize upd H3 SG (.lst ((ED []).map λw=>V.str (wS w)))=H4 at s4 hSG4⊢;have sm4:=(sm.trans s3).trans s4;have hW4:=s4 _ _ (s3 _ _ hW2);refine xwi rfl rfl rfl (SqT.of (sm4 _ _ h1)) (Am (j:=2) rfl) ⟨lw,rfl,⟨_,SqL.of (sm4 _ _ h4)⟩,?_⟩;refine Cw (xs:=tws.map V.ref) (λj σ H5=>∃u2 u5:Option V,σ=[some (.ref q),some (.ref LW),u2,u3,some (.ref SG),u5]/\Av H H5/\H5 LW=some (.lst (ws0.map V.str))/\H5 SG=some (.lst ((ED (c.wis.take j)).map λw=>V.str (wS w)))) ⟨u2,none,rfl,sm4,hW4,hSG4⟩ (λj σ H5 _ z=>by obtain⟨_,_,_,sm,_⟩:=z;exact SqL.of (sm _ _ h4)) ?_ ?_
  ·rintro j v σ H5 ev ⟨u2,u5,rfl,sm,hW5,hS5⟩;refine ltg ?_;intro s_6;rw[B9]at ev;obtain⟨t,et,rfl⟩:=D5.mp ev;obtain⟨p,ep,hp⟩:=Paired.get h5 et;have mp:=D7 ep;obtain⟨⟨p0,p8⟩,sp⟩:=ok.wis p mp;have sp9:p.2<=9:=by have:=sp.2;lia
   refine JK (sm _ _ hp) ?_;refine xq1 rfl ⟨p.2,rfl,IK sp.1 sp9,(xw2 rfl rfl ⟨SG,_,p.1,p.1.toNat,rfl,rfl,hS5,(by unfold ixN;rw[Z6 p0,Z6 (by rw[B6,JT];exact p8)]),?_⟩)⟩;refine⟨_,_,rfl,λb o z=>?_,by rw[Ao nWS];exact hW5,?_⟩
   ·rw[Ao (Ah z nSG)];exact sm _ _ z
   ·have asc:∀q∈c.wis.take j,q.1<p.1:=by
     intro q hq;have hpw:=ok.asc;have:c.wis.take (j+1)=c.wis.take j++[p]:=by rw[F4,ep,J0]
     have h9:=hpw.sublist (List.take_sublist (j+1) c.wis);rw[this,O9]at h9;exact h9.2.2 q hq p D8
    rw[Af,F4,ep,J0,ws_set p0 p8 asc,List.map_set,Tx.II sp.1 sp9];rfl
  rintro σ H5 ⟨u2,u5,rfl,sm,hW5,hS5⟩;rw[B6,ltw,F7]at hS5;have close:∀(ws1:List Str)(σ:St)(H6:Hp),True->True:=λ_ _ _ _=>trivial;apply Nh (fun σ H6=>Av H H6/\(∃a2 a5,σ=[some (.ref q),some (.ref LW),a2,u3,some (.ref SG),a5])/\H6 LW=some (.lst ((wS c.a.cell::c.a.conds.map Bb).map V.str)))
  ·intro rest;refine xwi rfl rfl rfl (SqT.of (sm _ _ h1)) (Am (j:=2) rfl) ⟨(by show 0<=sizeLine;decide),λL0 hL0=>?_⟩;generalize cL:upd H5 L0 _=H6;obtain⟨s6,hL06⟩:=alc hL0 cL;have sm6:=sm.trans s6;refine⟨lw,L0,(xq1 rfl ⟨rfl,SqL.of (sm6 _ _ h4),SqL.of hL06,(xq1 rfl ?_)⟩)⟩;rw[B6,ltw];have ec:(wS c.a.cell::c.a.conds.map Bb)=ws0++(if c.wis=[]then []else [Bb (.pl (ED c.wis))]):=by
    rw[ew0];unfold LC4.a;dsimp only;rw[C0,N3,<-ehd,V1];split<;>rfl
   by_cases z:c.wis=[]
   ·rw[z];refine Bq (rest _ _ ⟨sm6,⟨_,_,rfl⟩,?_⟩);rw[ec,Z6 z,P3];exact s6 _ _ hW5
   ·have nz:c.wis.length≠0:=λy=>z (List.length_eq_zero_iff.mp y);rw[Z2 nz];have e2:(ED c.wis).map (λw=>V.str (wS w))=((ED c.wis).map wS).map V.str:=by rw[N3];rfl
    have hS6:=s6 _ _ hS5;rw[e2]at hS6;have hjok:JoinOk (Str.ofString "") ((ED c.wis).map wS)=true:=by
     refine Tx.Mn 1 (λt ht=>?_) ?_
     ·obtain⟨n,hn2,rfl⟩:=E4.mp ht;exact C8 1
     ·rw[B6,l0,JT];decide
    refine CN (xq1 rfl ⟨.inl ⟨rfl,_,SqL.of (s6 _ _ hW5)⟩,rfl,(xq1 rfl ⟨_,SG,(xq1 rfl ⟨rfl,SqL.of hS6,hjok,?_⟩)⟩)⟩);rw[join_w4];refine⟨LW,(xq2 rfl rfl ⟨s6 _ _ hW5,?_,rest _ _ ⟨λb o y=>?_,⟨_,_,rfl⟩,?_⟩⟩)⟩
    ·rw[B6];exact E5 lw0 A3
    ·rw[Ao (Ah y hLW)];exact sm6 _ _ y
    ·rw[Af,ec,Z3 z,C0];rfl
  clear hS5 hW5 sm;rintro σ H6 ⟨sm,⟨a2,a5,rfl⟩,hW⟩;have aok:=ok.a;have f3:=aok.few;refine⟨rfl,(xwj rfl rfl rfl rfl (SqT.of (sm _ _ h1)) (Am (j:=3) rfl) ⟨c.ms,rfl,IK ok.ms.1 md9,(by show 1<=sizeLine;decide),λw4 hw4=>?_⟩)⟩;generalize cX:upd H6 w4 _=H7;obtain⟨s7,hw47⟩:=alc hw4 cX;refine⟨LW,w4,(xq2 rfl rfl ⟨s7 _ _ hW,hw47,Mj (by simp only[E7,Q6,B6];lia),λw5 hw5=>?_⟩)⟩;have eL:(wS c.a.cell::c.a.conds.map Bb).map V.str++[.str (Str.ofString (toString c.ms))]=(wS c.a.cell::(c.a.conds.map Bb++[sgD c.a.makes])).map V.str:=by
   rw[Tx.II ok.ms.1 md9,<-V1,C0];rfl
  rw[eL];generalize cS:upd H7 w5 _=H8;obtain⟨s8,hw58⟩:=alc hw5 cS;have lb:(Str.ofString " ").length=1:=by decide +kernel
  have hjok:JoinOk (Str.ofString " ") (wS c.a.cell::(c.a.conds.map Bb++[sgD c.a.makes]))=true:=by
   refine Tx.Mn 11 (λt ht=>?_) ?_
   ·rcases D6.mp ht with rfl|ht
    ·show 1<=11;decide
    ·rcases D1.mp ht with ht|ht
     ·obtain⟨d,hd,rfl⟩:=E4.mp ht;exact JN (aok.conds d hd)
     ·rw[C7.mp ht];show 1<=11;decide
   ·rw[lb,E7,B8,B6,E7,Q6];lia
  refine⟨_,w5,(xq1 rfl ⟨rfl,SqL.of hw58,hjok,?_⟩)⟩;have eC:Str.join (Str.ofString " ") (wS c.a.cell::(c.a.conds.map Bb++[sgD c.a.makes]))=Bl c.a:=by
   rw[show Str.ofString " " = (⟨#[32]⟩:Str) by decide +kernel];rfl
  rw[eC];exact k _ ((sm.trans s7).trans s8)
theorem Mb.t{r:List LC4}(h:Mb r):LE (r.map LC4.a):=⟨by rw[B6];have:=h.few;lia,λc hc=>by obtain⟨d,hd,rfl⟩:=E4.mp hc;exact(h.ok d hd).a⟩
inductive SpTx4(vs:List V)(H:Hp)(Q:VK):Prop
 |mk (q:Addr) (r:List LC4) (_:vs=[.ref q]) (_:FK H q r) (_:Mb r) (_:∀H',Av H H'->Q (.str (BS (r.map LC4.a))) H'):SpTx4 vs H Q
def UU:Sp:=λvs H Q _=>SpTx4 vs H Q
theorem ok_tx4{f:Addr}{fd:FuncData}(F:Fun K "_law_text" "_law_text" FB f fd)(T:Top K mg a)(bU:Cal P w K mg base CX0 1 "_law_words" GH UT):AR P w K mg base CX0 2 f fd Io UU:=by
 refine F.ok OQ (λvs H Q E h=>?_) (λcdv A outer s H vs Q E hr h=>?_)
 ·obtain⟨q,r,rfl,_⟩:=h;rfl
 ·obtain⟨q,r,rfl,hq,ok,k⟩:=h;refine⟨_,(Ag (Au (Ce A0c A2f A2g Mh GF (Aa (BL rfl (Bk.of (So:=Ak FB) (No:=LK) (N:=["_law_clause"]) (k:=1) (cs:=[]) rfl rfl A0) (Bc (pv 0)) (λ_ _ _=>(AV (i:=0) A0 rfl rfl)) (λ_ _ _=>Bp) (λ_ _ _=>(Az bU (rm hr) rfl Aq (Aa (pv 0) Ab)))) Ab)))),?_⟩
  try dsimp only[cxK]
  refine lts ?_;intro s_9 E_9;obtain⟨ts,h1,h2⟩:=hq;have lt:=X5 h2;have few:=ok.few;refine⟨rfl,(xq1 rfl ⟨q,rfl,⟨_,SqL.of h1⟩,?_⟩)⟩;refine BP (xs:=ts.map V.ref) (λi acc H4=>Av H H4/\acc=((r.take i).map λc=>Bl c.a).map V.str) ⟨Av.refl H,rfl⟩ (λi acc H4 _ z=>SqL.of (z.1 _ _ h1)) ?_ ?_
  ·rintro i x acc H4 hx ⟨sm,rfl⟩;refine ltg ?_;intro s_10;rw[B9]at hx;obtain⟨t,et,rfl⟩:=D5.mp hx;obtain⟨c,ec,hc⟩:=Paired.get h2 et;refine⟨⟨[some (.ref t)],rfl,rfl⟩,?_,Eu (xq1 rfl ⟨t,c,rfl,hc.same sm,ok.ok c (D7 ec),λH5 s5=>⟨sm.trans s5,?_⟩⟩)⟩
   ·rw[B6,B6,J7];exact E5 (show min i r.length<=10 by lia) A3
   ·rw[F4,ec,J0,C0,C0];rfl
  ·rintro acc H4 ⟨sm,rfl⟩ p hp;rw[B6,lt,F7];have eM:(r.map λc=>Bl c.a)=(r.map LC4.a).map Bl:=by rw[N3];rfl
   rw[eM];have em:Str.ofString "; " = Og:=by decide +kernel
   have hjok:JoinOk (Str.ofString "; ") ((r.map LC4.a).map Bl)=true:=by
    refine Tx.Mn 1000 (λt ht=>?_) ?_
    ·obtain⟨c,hc,rfl⟩:=E4.mp ht;exact Jr (ok.t.ok c hc)
    ·rw[B6,B6,em,show Og.length=2 from rfl];lia
   refine⟨_,p,(xq1 rfl ⟨rfl,SqL.of Af,hjok,?_⟩)⟩;rw[em];exact k _ (sm.trans (Ai hp))
end
def c000:LC4:=⟨0,[(0,256)],[],0⟩
theorem c000_ok:c000.Ok where
 tk:=⟨by decide,by decide⟩
 ams:=λp hp=>by rw[C7.mp hp];exact⟨⟨by decide,by decide⟩,by decide,by decide⟩
 few:=by decide
 wis:=λp hp=>nomatch hp
 asc:=.nil
 ms:=⟨by decide,by decide⟩
theorem UB(r:AA):Dw (c000.a::r) 0 Dk=0:=by
 unfold Dw;rw[N4];have:c000.a.fits 0 Dk=true:=by decide
 rw[this];rfl
section
variable{P:Program}{w:World}{K:PySem.W.Frag}{mg:Str->Option Value}{base:Heap}{a:Ad}
inductive SpCs4(vs:List V)(H:Hp)(Q:VK):Prop
 |mk (cl fw:Addr) (ns:List Int) (_:vs=[.ref cl,.ref fw]) (_:H cl=some (.lst (ns.map V.int))) (_:ns.length<=8) (_:PJ H fw) (_:∀(q:Addr)(r:List LC4)(H':Hp),Av H H'->FK H' q r->Mb r->Dw (r.map LC4.a) 0 Dk=0->Q (.ref q) H'):SpCs4 vs H Q
def Vb:Sp:=λvs H Q _=>SpCs4 vs H Q
theorem ok_cs4{f:Addr}{fd:FuncData}(F:Fun K "_law_clauses_by" "_law_clauses_by" CG f fd)(T:Top K mg a)(bA:Cal P w K mg base CX0 2 "_law_clause_by" Ea Vc)(aS:Cal P w K mg base CX0 2 "_law_becomes" DO SA):AR P w K mg base CX0 3 f fd DN Vb:=by
 refine F.ok Dl (λvs H Q E h=>?_) (λcdv A outer s H vs Q E hr h=>?_)
 ·obtain⟨cl,fw,ns,rfl,_⟩:=h;rfl
 ·obtain⟨cl,fw,ns,rfl,hcl,n6,hf,k⟩:=h;refine⟨_,(Ac (Do (i:=2) rfl Dl.nd rfl rfl (Bk.of (So:=Ak CG) (No:=FI) (N:=["_law_cell","_law_few"]) (k:=1) (cs:=[1]) rfl rfl A0) (Bc (pv 0)) (λ_ _ _=>(AV (i:=0) A0 rfl rfl)) (λ_ _ _=>Bp) (λ_ _ _=>(Az bA (rm hr) rfl Aq (Aa (pv 0) (Aa (pv 1) Ab))))) (Ac (AU (AI Ia (Az aS (rm hr) rfl Aq (Aa (pv 2) (AH (MR (AH (AH (AH (AH (AH (AH (AH (AH Ab)))))))) Ab)))) Ae (AM _)) (Ag (Ax (i:=2) Dl.nd rfl (Or.inl rfl) (AK Li (Bn (Bx (AH (MR (Bx (AH (AH Ab)) Ab) (MR Ab (AH Ab)))) Ab)) (pv 2)))) AF) (Ag (Au (pv 2))))),?_⟩
  try dsimp only[cxK]
  refine xq1 rfl ⟨cl,rfl,⟨_,SqL.of hcl⟩,?_⟩;refine BP (xs:=ns.map V.int) (λi acc H4=>Av H H4/\∃(ts:List Addr)(r:List LC4),acc=ts.map V.ref/\Paired (Ib H4) ts r/\r.length=i/\∀c∈r,c.Ok) ⟨Av.refl H,[],[],rfl,.nil,rfl,λc hc=>nomatch hc⟩ (λi acc H4 _ z=>SqL.of (z.1 _ _ hcl)) ?_ ?_
  ·rintro i x acc H4 hx ⟨sm,ts,r,rfl,pr,ln,oks⟩;have lts:=X5 pr;have i6:i<ns.length:=by have:=(B7.mp hx).1;rw[B6]at this;exact this
   rw[B9]at hx;obtain⟨n,en,rfl⟩:=D5.mp hx;refine⟨⟨[some (.int n)],rfl,rfl⟩,?_,Eu (xw2 rfl rfl ⟨n,fw,rfl,hf.same sm,λq d H5 s5 hd dok=>⟨sm.trans s5,ts++[q],r++[d],by rw[C0];rfl,K4 (Paired.imp (λb c z=>z.same s5) pr) hd,by rw[B8,ln];rfl,λc hc=>?_⟩⟩)⟩
   ·rw[B6];exact E5 (show ts.length<=8 by lia) A3
   ·rcases D1.mp hc with z|z
    ·exact oks c z
    ·rw[C7.mp z];exact dok
  ·rintro acc H4 ⟨sm,ts,r,rfl,pr,ln,oks⟩ L hL;rw[B6]at ln;have lts:=X5 pr;generalize bH:upd H4 L _=H1;obtain⟨s1,hL1⟩:=alc hL bH;have hR:FK H1 L r:=⟨ts,hL1,Paired.imp (λb c z=>z.same s1) pr⟩
   have rk:Mb r:=⟨by lia,oks⟩
   refine xq1 rfl ⟨(by show 8<=sizeLine;decide),λz8 hz8=>?_⟩;have s3:=Ai (o:=.lst (Dk.map V.int)) hz8;refine⟨L,z8,r,0,Dk,rfl,hR.same s3,rk,Af,rfl,λH5 s4=>?_⟩;have s14:Av H H5:=((sm.trans s1).trans s3).trans s4;have hR4:=(hR.same s3).same s4;refine⟨rfl,(xq1 rfl ?_)⟩;rw[IT];by_cases hz:Dw (r.map LC4.a) 0 Dk=0
   ·rw[Z1 hz];exact Bq (xq1 rfl (k L r H5 s14 hR4 rk hz))
   ·rw[Z2 hz];refine CN ?_;refine⟨(by show 2<=sizeLine;decide),λb1 hb1=>⟨(by show 1<=sizeLine;decide),λb2 hb2=>⟨(by show 0<=sizeLine;decide),λb3 hb3=>⟨(by show 4<=sizeLine;decide),λb4 hb4=>⟨(by show 1<=sizeLine;decide),λb5 hb5=>?_⟩⟩⟩⟩⟩;generalize hH6:upd (upd (upd (upd (upd H5 b1 (.tup [.int 0,.int 256])) b2 (.lst [.ref b1])) b3 (.lst [])) b4 (.tup [.int 0,.ref b2,.ref b3,.int 0])) b5 (.lst [.ref b4])=H6;have s5:Av H5 H6:=by rw[<-hH6];exact(((Ai hb1).trans (Ai hb2)).trans (Ai hb3)).trans ((Ai hb4).trans (Ai hb5))
    have e1:H6 b1=some (.tup [.int 0,.int 256]):=by rw[<-hH6];exact Ai hb5 _ _ (Ai hb4 _ _ (Ai hb3 _ _ (Ai hb2 _ _ Af)))
    have e2:H6 b2=some (.lst [.ref b1]):=by rw[<-hH6];exact Ai hb5 _ _ (Ai hb4 _ _ (Ai hb3 _ _ Af))
    have e3:H6 b3=some (.lst []):=by rw[<-hH6];exact Ai hb5 _ _ (Ai hb4 _ _ Af)
    have e4:H6 b4=some (.tup [.int 0,.ref b2,.ref b3,.int 0]):=by rw[<-hH6];exact Ai hb5 _ _ Af
    have e5:H6 b5=some (.lst [.ref b4]):=by rw[<-hH6];exact Af
    obtain⟨cs4,hcl4,pr4⟩:=hR4.same s5;have ld4:=X5 pr4;refine xq1 rfl ⟨b5,L,(xq2 rfl rfl ⟨e5,hcl4,Mj (by simp only[E7,Q6,B6];lia),λq hq=>?_⟩)⟩;have s6:=Ai (o:=.lst ([V.ref b4]++cs4.map V.ref)) hq;have c0:Ib H6 b4 c000:=⟨b2,b3,[b1],[],e4,e2,.cons e1 .nil,e3,.nil⟩
    refine xq1 rfl (k q (c000::r) _ ((s14.trans s5).trans s6) ⟨b4::cs4,Af,.cons (c0.same s6) (Paired.imp (λ_ _ z=>z.same s6) pr4)⟩ ⟨by rw[E7];lia,λc hc=>?_⟩ (UB _));rcases D6.mp hc with z|z
    ·rw[z];exact c000_ok
    ·exact oks c z
end
end J
namespace J
open PySem L2
theorem seqc{A B:TS}{D:Ja}{σ:St}{H:Hp}(h:∀k:St->Hp->Prop,k=B D->A {D with nx:=k} σ H):tSeq A B D σ H:=h _ rfl
structure Sq where
 parts:List Int
 lev:Int
abbrev Gv:=List Sq
structure GA where
 p:Addr
 dx:Addr
 lv:Addr
 pt:Addr
 nm:Addr
 br:Addr
 am:Addr
 bx:Addr
def fl6(g:GA):List (Str×V):=AT "boxes" (.ref g.bx) (AT "amounts" (.ref g.am) (AT "bares" (.ref g.br) (AT "numbers" (.ref g.nm) (AT "parts" (.ref g.pt) (AT "levels" (.ref g.lv) [])))))
theorem Gc(g:GA):(fl6 g).lookup ("levels" : Str)=some (V.ref g.lv):=by
 unfold fl6;rw[Aj,Z3 A0,Aj,Z3 A0,Aj,Z3 A0,Aj,Z3 A0,Aj,Z3 A0,Aj,Z6 rfl]
theorem Eh(g:GA):(fl6 g).lookup ("parts" : Str)=some (V.ref g.pt):=by
 unfold fl6;rw[Aj,Z3 A0,Aj,Z3 A0,Aj,Z3 A0,Aj,Z3 A0,Aj,Z6 rfl]
theorem Wc(g:GA):(fl6 g).lookup ("numbers" : Str)=some (V.ref g.nm):=by
 unfold fl6;rw[Aj,Z3 A0,Aj,Z3 A0,Aj,Z3 A0,Aj,Z6 rfl]
theorem Pw(g:GA):(fl6 g).lookup ("bares" : Str)=some (V.ref g.br):=by
 unfold fl6;rw[Aj,Z3 A0,Aj,Z3 A0,Aj,Z6 rfl]
theorem fl6_am(g:GA):(fl6 g).lookup ("amounts" : Str)=some (V.ref g.am):=by
 unfold fl6;rw[Aj,Z3 A0,Aj,Z6 rfl]
theorem IH(g:GA){m:Str}(h1:¬m=("boxes" : Str))(h2:¬m=("amounts" : Str))(h3:¬m=("bares" : Str))(h4:¬m=("numbers" : Str))(h5:¬m=("parts" : Str))(h6:¬m=("levels" : Str)):(fl6 g).lookup m=none:=by
 unfold fl6;rw[Aj,Z3 h1,Aj,Z3 h2,Aj,Z3 h3,Aj,Z3 h4,Aj,Z3 h5,Aj,Z3 h6];rfl
theorem Pa(g:GA):(fl6 g).lookup ("kept" : Str)=none:=IH g A0 A0 A0 A0 A0 A0
theorem Ec(g:GA):(fl6 g).lookup ("linked" : Str)=none:=IH g A0 A0 A0 A0 A0 A0
theorem Qp(g:GA):(fl6 g).lookup ("check_square" : Str)=none:=IH g A0 A0 A0 A0 A0 A0
theorem SR(g:GA):(fl6 g).lookup ("leaf" : Str)=none:=IH g A0 A0 A0 A0 A0 A0
theorem Ed(g:GA):(fl6 g).lookup ("level_of" : Str)=none:=IH g A0 A0 A0 A0 A0 A0
theorem Lj(g:GA):(fl6 g).lookup ("joined" : Str)=none:=IH g A0 A0 A0 A0 A0 A0
theorem Cm(g:GA):(fl6 g).lookup ("quarters" : Str)=none:=IH g A0 A0 A0 A0 A0 A0
theorem Jp(g:GA):(fl6 g).lookup ("state_of" : Str)=none:=IH g A0 A0 A0 A0 A0 A0
def kOf(ps:List Int):List Key:=ps.map Sum.inl
theorem VV(ps:List Int):(kOf ps).map kV=ps.map V.int:=by unfold kOf;rw[N3];rfl
theorem Mm:∀{ps qs:List Int},kOf ps=kOf qs->ps=qs
 |[],[],_=>rfl
 |[],_::_,h=>by cases h
 |_::_,[],h=>by cases h
 |x::r,y::t,h=>by
  have h:Sum.inl x::kOf r=(Sum.inl y:Key)::kOf t:=h;injection h with h1 h2
  injection h1 with h1
  rw[h1,Mm h2]
def IC:Nat->Gv->List (List Key×V)
 |_,[]=>[]
 |n,q::r=>(kOf q.parts,.int (n:Int))::IC (n+1) r
theorem QA:∀(G:Gv)(n:Nat),(IC n G).length=G.length
 |[],_=>rfl
 |q::r,n=>by show(IC (n+1) r).length+1=r.length+1;rw[QA r]
theorem Om(q:Sq):∀(G:Gv)(n:Nat),IC n (G++[q])=IC n G++[(kOf q.parts,.int ((n+G.length:Nat):Int))]
 |[],_=>rfl
 |p::r,n=>by
  show(kOf p.parts,V.int (n:Int))::IC (n+1) (r++[q])=_;rw[Om q r (n+1)];show _=(kOf p.parts,V.int (n:Int))::(IC (n+1) r++[(kOf q.parts,V.int ((n+(r.length+1):Nat):Int))]);rw[show n+1+r.length=n+(r.length+1) by lia]
theorem Pn(ps:List Int):∀(G:Gv)(n:Nat),(∃(i:Nat)(q:Sq),G[i]?=some q/\q.parts=ps/\BK (IC n G) (kOf ps)=some (.int ((n+i:Nat):Int)))\/(BK (IC n G) (kOf ps)=none/\∀q∈G,q.parts≠ps)
 |[],n=>.inr ⟨rfl,λq hq=>by simp at hq⟩
 |p::r,n=>by
  by_cases e:p.parts=ps
  ·exact .inl ⟨0,p,rfl,e,BI (by rw[e])⟩
  ·have ne:¬(kOf p.parts,V.int (n:Int)).1=kOf ps:=λz=>e (Mm z);rcases Pn ps r (n+1)with ⟨i,q,h1,h2,h3⟩|⟨h1,h2⟩
   ·refine .inl ⟨i+1,q,h1,h2,?_⟩;show BK ((kOf p.parts,V.int (n:Int))::IC (n+1) r) (kOf ps)=_;rw[Br ne,h3,show n+1+i=n+(i+1) by lia]
   ·refine .inr ⟨?_,λq hq=>?_⟩
    ·show BK ((kOf p.parts,V.int (n:Int))::IC (n+1) r) (kOf ps)=_;rw[Br ne,h1]
    ·rcases D6.mp hq with rfl|hq
     ·exact e
     ·exact h2 q hq
def TupAt(H:Hp)(t:Addr)(q:Sq):Prop:=H t=some (.tup (q.parts.map V.int))
structure AD(a:Ad)(H:Hp)(g:GA)(G:Gv):Prop where
 hp:H g.p=some (.ins a.c_Grove g.dx (fl6 g))
 lv:H g.lv=some (.lst (G.map λq=>.int q.lev))
 pt:∃ts:List Addr,H g.pt=some (.lst (ts.map V.ref))/\Paired (TupAt H) ts G
 nm:H g.nm=some (.dT (IC 0 G))
 ne:g.lv≠g.pt
def Fr(g:GA)(H H':Hp):Prop:=∀b o,H b=some o->b≠g.lv->b≠g.pt->b≠g.nm->H' b=some o
theorem Fr.refl(g:GA)(H:Hp):Fr g H H:=λ_ _ e _ _ _=>e
theorem Fr.trans{g:GA}{H1 H2 H3:Hp}(h:Fr g H1 H2)(h2:Fr g H2 H3):Fr g H1 H3:=λb o e n1 n2 n3=>h2 b o (h b o e n1 n2 n3) n1 n2 n3
theorem Av.fr{g:GA}{H1 H2:Hp}(h:Av H1 H2):Fr g H1 H2:=λb o e _ _ _=>h b o e
theorem PairedM.imp{α β:Type}{F G:α->β->Prop}(h:∀x y,F x y->G x y):∀{l:List α}{m:List β},Paired F l m->Paired G l m
 |_,_,.nil=>.nil
 |_,_,.cons r t=>.cons (h _ _ r) (PairedM.imp h t)
theorem PairedM.get{α β:Type}{F:α->β->Prop}:∀{l:List α}{m:List β}{i:Nat}{y:β},Paired F l m->m[i]?=some y->∃x,l[i]?=some x/\F x y
 |_,_,_,_,.nil,e=>by simp at e
 |_,_,0,_,.cons r _,e=>by simp at e;subst e;exact⟨_,rfl,r⟩
 |_,_,i+1,y,.cons _ t,e=>by
  obtain⟨x,h1,h2⟩:=PairedM.get (i:=i) (y:=y) t (by simpa using e);exact⟨x,by simpa using h1,h2⟩
theorem IM{H:Hp}{p:Addr}{o:HO}(h:H p=none):Av H (upd H p o):=λb u e=>by
 rw[Ao (Ah e h)];exact e
theorem AD.same{a:Ad}{H H':Hp}{g:GA}{G:Gv}(s:Av H H')(h:AD a H g G):AD a H' g G:=by
 obtain⟨h1,h2,⟨ts,h3,h4⟩,h5,h6⟩:=h;exact⟨s _ _ h1,s _ _ h2,⟨ts,s _ _ h3,PairedM.imp (λt q z=>s _ _ z) h4⟩,s _ _ h5,h6⟩
theorem AD.put{a:Ad}{H:Hp}{g:GA}{G:Gv}{l:Addr}{xs:List V}{o:HO}(hl:H l=some (.lst xs))(n1:l≠g.lv)(n2:l≠g.pt)(h:AD a H g G):AD a (upd H l o) g G:=by
 obtain⟨h1,h2,⟨ts,h3,h4⟩,h5,h6⟩:=h;have other:∀{b v},H b=some v->v≠.lst xs->upd H l o b=some v:=λ{b v} e n=>by rw[Ao (As e hl n)];exact e
 exact⟨other h1 A2,by rw[Ao (Z7 n1)];exact h2,⟨ts,by rw[Ao (Z7 n2)];exact h3,PairedM.imp (λt q z=>other z A2) h4⟩,other h5 A2,h6⟩
def Ap(G:Gv)(x:Nat)(l:Int):Prop:=∃q,G[x]?=some q/\q.lev=l
structure GOk(G:Gv):Prop where
 leaf:∀s:Nat,s<8->G[s]?=some ⟨[(s:Int)],0⟩
 node:∀(i:Nat) q,G[i]?=some q->8<=i->∃x y z w:Nat,q.parts=[(x:Int),(y:Int),(z:Int),(w:Int)]/\(Ap G x (q.lev-1)/\Ap G y (q.lev-1)/\Ap G z (q.lev-1)/\Ap G w (q.lev-1))/\1<=q.lev/\q.lev<=48
 nd:(G.map Sq.parts).Nodup
theorem Ap.lt{G:Gv}{x:Nat}{l:Int}(h:Ap G x l):x<G.length:=by
 obtain⟨q,h,_⟩:=h;exact(B7.mp h).1
theorem Ps{G r:Gv}{x:Nat}{q:Sq}(h:G[x]?=some q):(G++r)[x]?=some q:=by
 rw[F6 (B7.mp h).1];exact h
theorem Ap.app{G r:Gv}{x:Nat}{l:Int}(h:Ap G x l):Ap (G++r) x l:=by
 obtain⟨q,h,e⟩:=h;exact⟨q,Ps h,e⟩
theorem GOk.lev{G:Gv}(h:GOk G){i:Nat}{q:Sq}(e:G[i]?=some q):0<=q.lev/\q.lev<=48:=by
 by_cases h8:i<8
 ·rw[h.leaf i h8]at e;cases e;exact⟨Int.le_refl 0,by show(0:Int)<=48;decide⟩
 ·obtain⟨x,y,z,w,_,_,h1,h2⟩:=h.node i q e A1;exact⟨by lia,h2⟩
theorem GOk.snoc{G:Gv}(h:GOk G){x y z w:Nat}{l:Int}(hx:Ap G x l)(hy:Ap G y l)(hz:Ap G z l)(hw:Ap G w l)(h47:l<=47)(new:∀q∈G,q.parts≠[(x:Int),(y:Int),(z:Int),(w:Int)]):GOk (G++[⟨[(x:Int),(y:Int),(z:Int),(w:Int)],l+1⟩]) where
 leaf:=λs hs=>Ps (h.leaf s hs)
 node:=λi q e hi=>by
  by_cases hl:i<G.length
  ·rw[F6 hl]at e;obtain⟨x,y,z,w,h1,⟨a1,a2,a3,a4⟩,h3⟩:=h.node i q e hi;exact⟨x,y,z,w,h1,⟨a1.app,a2.app,a3.app,a4.app⟩,h3⟩
  ·rw[E3 A1]at e;have:i-G.length=0:=by
    by_cases z:i-G.length=0
    ·exact z
    ·rw[L7 (by rw[M5];lia)]at e;cases e
   rw[this]at e;cases e;obtain⟨q0,e0,l0⟩:=hx;have:=(h.lev e0).1;have el:l+1-1=l:=by lia
   refine⟨x,y,z,w,rfl,?_,?_,?_⟩
   ·show Ap _ x (l+1-1)/\Ap _ y (l+1-1)/\Ap _ z (l+1-1)/\Ap _ w (l+1-1);rw[el];exact⟨Ap.app ⟨q0,e0,l0⟩,hy.app,hz.app,hw.app⟩
   ·show 1<=l+1;lia
   ·show l+1<=48;lia
 nd:=by
  rw[C0,N1];refine⟨h.nd,by simp,λp hp p' hp'=>?_⟩;obtain⟨q,hq,rfl⟩:=E4.mp hp;rw[show p'=[(x:Int),(y:Int),(z:Int),(w:Int)] by simpa using hp'];exact new q hq
theorem GOk.one{G:Gv}(h:GOk G){i j:Nat}{p q:Sq}(hi:G[i]?=some p)(hj:G[j]?=some q)(e:p.parts=q.parts):i=j:=by
 have li:=(B7.mp hi).1;have lj:=(B7.mp hj).1;have h1:(G.map Sq.parts)[i]'(by rw[B6];exact li)=(G.map Sq.parts)[j]'(by rw[B6];exact lj):=by
  rw[U7,U7,(B7.mp hi).2,(B7.mp hj).2,e]
 exact(List.getElem_inj h.nd).mp h1
seal L2.PA L2.PE L2.PS L2.PSs L2.PT L2.PW
theorem Ol{n:Nat}(h:n<10000000):n<sizeLine:=F5 h A3
theorem SX(K:PySem.W.Frag):kitOne K (.type "int") (.type "int")=some true/\kitOne K (.type "int") (.type "bool")=some false:=⟨by kernel_rfl,by kernel_rfl⟩
section
variable{P:Program}{w:World}{K:PySem.W.Frag}{mg:Str->Option Value}{base:Heap}{a:Ad}
inductive SpIW(vs:List V)(H:Hp)(Q:VK):Prop
 |mk (i:Int) (_:vs=[.int i]) (_:Q (.bl true) H):SpIW vs H Q
def UY:Sp:=λvs H Q _=>SpIW vs H Q
theorem ok_iw{f:Addr}{fd:FuncData}(F:Fun K "is_whole" "is_whole" Ji f fd)(T:Top K mg a):AR P w K mg base CX0 1 f fd Fb UY:=by
 refine F.ok Qc (λvs H Q E h=>?_) (λcdv A outer s H vs Q E hr h=>?_)
 ·obtain⟨i,rfl,_⟩:=h;rfl
 ·obtain⟨i,rfl,k⟩:=h;exact⟨_,(Ag (Au (Lg (AO Dh rfl T.b_isinstance K0 (Aa (pv 0) (Aa (En (v:=.ty "int") rfl T.b_int A0d rfl) Ab))) (Le (Vq (AO Dh rfl T.b_isinstance K0 (Aa (pv 0) (Aa (En (v:=.ty "bool") rfl T.b_bool A3f rfl) Ab)))))))),(xq1 rfl ⟨_,_,_,.type "int",true,rfl,rfl,.of (.int i),(SX K).1,true,rfl,CN (xq1 rfl ⟨_,_,_,.type "int",false,rfl,rfl,.of (.int i),(SX K).2,false,rfl,k⟩)⟩)⟩
inductive SpIS(vs:List V)(H:Hp)(Q:VK):Prop
 |mk (i:Int) (_:vs=[.int i]) (_:0<=i) (_:i<8) (_:Q (.bl true) H):SpIS vs H Q
def spIS:Sp:=λvs H Q _=>SpIS vs H Q
theorem ok_is{f:Addr}{fd:FuncData}(F:Fun K "is_state" "is_state" Jj f fd)(T:Top K mg a)(aU:Cal P w K mg base CX0 1 "is_whole" Fb UY):AR P w K mg base CX0 2 f fd Jn spIS:=by
 refine F.ok Qd (λvs H Q E h=>?_) (λcdv A outer s H vs Q E hr h=>?_)
 ·obtain⟨i,rfl,_⟩:=h;rfl
 ·obtain⟨i,rfl,h0,h1,k⟩:=h;refine⟨_,(Ag (Au (Lg (Az aU (rm hr) rfl Aq (Aa (pv 0) Ab)) (Le (Vs MS JE Ae (pv 0) (CQ rfl T.k_STATES)))))),?_⟩
  try dsimp only[cxK]
  refine xq1 rfl ⟨i,rfl,true,rfl,CN (xwb rfl rfl rfl (xq1 rfl ?_))⟩;rw[Z1 h0];refine CN (xq2 rfl rfl ?_);show Q (.bl (decide (i<8))) H;rw[Z1 h1];exact k
inductive WD(a:Ad)(vs:List V)(H:Hp)(Q:VK):Prop
 |mk (g:GA) (G:Gv) (t:Addr) (ps:List Int) (l:Int) (_:vs=[.ref g.p,.ref t,.int l]) (_:AD a H g G) (_:H t=some (.tup (ps.map V.int))) (_:(∀q∈G,q.parts≠ps)) (_:G.length<9000000) (_:∀H',Fr g H H'->AD a H' g (G++[⟨ps,l⟩])->Q (.int (G.length:Int)) H'):WD a vs H Q
def OM(a:Ad):Sp:=λvs H Q _=>WD a vs H Q
theorem ok_kept{f:Addr}{fd:FuncData}(F:Fun K "kept" "Grove.kept" GC f fd)(T:Top K mg a):AR P w K mg base CX0 1 f fd EJ (OM a):=by
 refine F.ok Jc (λvs H Q E h=>?_) (λcdv A outer s H vs Q E hr h=>?_)
 ·obtain⟨g,G,t,ps,l,rfl,_⟩:=h;rfl
 ·obtain⟨g,G,t,ps,l,rfl,hg,ht,new,few,k⟩:=h;obtain⟨h1,h2,⟨ts,h3,h4⟩,h5,h6⟩:=hg;have lt:ts.length=G.length:=X5 h4;refine⟨_,(Ac (Ax (i:=3) Jc.nd rfl (Or.inl rfl) (AO Bh rfl T.b_len K2 (Aa (AJ (pv 0) rfl) Ab))) (Ac (FF (DS hr) (AJ (pv 0) rfl) (pv 1) (pv 3) rfl) (Ac (AZ (Ce Z8 Z9 X4 Ba (AJ (pv 0) rfl) (Aa (pv 2) Ab))) (Ac (AZ (Ce Z8 Z9 X4 Ba (AJ (pv 0) rfl) (Aa (pv 1) Ab))) (Ag (Au (pv 3))))))),?_⟩
  try dsimp only[cxK]
  refine xwf rfl rfl h1 T.cl_Grove T.na_Grove_levels (Gc g) ⟨g.lv,(xq1 rfl ⟨.inl (SqL.of h2),?_⟩)⟩;rw[B6];have ne1:g.p≠g.nm:=As h1 h5 A2;have ne2:g.lv≠g.nm:=As h2 h5 A2;have ne3:g.pt≠g.nm:=As h3 h5 A2;have ne4:g.p≠g.lv:=As h1 h2 A2;have ne5:g.p≠g.pt:=As h1 h3 A2;have vn:BK (IC 0 G) (kOf ps)=none:=by
   rcases Pn ps G 0 with ⟨i,q,e1,e2,_⟩|⟨e,_⟩
   ·exact absurd e2 (new q (D7 e1))
   ·exact e
  refine xw2 rfl rfl (xq5 h1 T.cl_Grove T.na_Grove_numbers (Wc g) (xq1 rfl ⟨g.nm,(xq1 rfl ⟨JS.t (k:=kOf ps) h5 (by rw[VV];exact ht) (by rw[QA];exact Ol A1),?_⟩)⟩));rw[Jz _ vn];have e5:IC 0 G++[(kOf ps,V.int (G.length:Int))]=IC 0 (G++[⟨ps,l⟩]):=by rw[Om,L9]
  rw[e5];generalize hH1:upd H g.nm (.dT (IC 0 (G++[⟨ps,l⟩])))=H1;have k1:∀b o,H b=some o->b≠g.nm->H1 b=some o:=λb o e n=>by rw[<-hH1,Ao n];exact e
  have n1:H1 g.nm=some (.dT (IC 0 (G++[⟨ps,l⟩]))):=by rw[<-hH1];exact Af
  refine xwf rfl rfl (k1 _ _ h1 ne1) T.cl_Grove T.na_Grove_levels (Gc g) ⟨.inl ⟨rfl,_,SqL.of (k1 _ _ h2 ne2)⟩,(xq1 rfl ⟨g.lv,(xq2 rfl rfl ⟨k1 _ _ h2 ne2,by rw[B6];exact Ol A1,?_⟩)⟩)⟩;generalize hH2:upd H1 g.lv (.lst ((G.map λq=>V.int q.lev)++[.int l]))=H2;have k2:∀b o,H1 b=some o->b≠g.lv->H2 b=some o:=λb o e n=>by rw[<-hH2,Ao n];exact e
  have n2:H2 g.lv=some (.lst ((G++[(⟨ps,l⟩:Sq)]).map λq=>V.int q.lev)):=by rw[<-hH2,Af,C0];rfl
  have h3':=k2 _ _ (k1 _ _ h3 ne3) (Z7 h6);refine xwf rfl rfl (k2 _ _ (k1 _ _ h1 ne1) ne4) T.cl_Grove T.na_Grove_parts (Eh g) ⟨.inl ⟨rfl,_,SqL.of h3'⟩,(xq1 rfl ⟨g.pt,(xq2 rfl rfl ⟨h3',by rw[B6,lt];exact Ol A1,?_⟩)⟩)⟩;generalize hH3:upd H2 g.pt (.lst (ts.map V.ref++[.ref t]))=H3;have k3:∀b o,H2 b=some o->b≠g.pt->H3 b=some o:=λb o e n=>by rw[<-hH3,Ao n];exact e
  have n3:H3 g.pt=some (.lst ((ts++[t]).map V.ref)):=by rw[<-hH3,Af,C0];rfl
  have fr:Fr g H H3:=λb o e m1 m2 m3=>k3 _ _ (k2 _ _ (k1 _ _ e m3) m1) m2;have tp:∀(c:Addr)(xs:List V),H c=some (.tup xs)->H3 c=some (.tup xs):=λc xs e=>fr _ _ e (As e h2 A2) (As e h3 A2) (As e h5 A2);refine xq1 rfl (k H3 fr ⟨fr _ _ h1 ne4 ne5 ne1,k3 _ _ n2 h6,⟨ts++[t],n3,K4 (PairedM.imp (λc q z=>tp c _ z) h4) (tp t _ ht)⟩,k3 _ _ (k2 _ _ n1 (Z7 ne2)) (Z7 ne3),h6⟩)
structure AQ(G G':Gv)(n:Nat):Prop where
 ok:GOk G'
 pre:∃r,G'=G++r
 few:G'.length<=G.length+n
theorem AQ.refl{G:Gv}(h:GOk G):AQ G G 0:=⟨h,⟨[],by simp⟩,C8 _⟩
theorem AQ.trans{G G' G'':Gv}{n m:Nat}(h:AQ G G' n)(h2:AQ G' G'' m):AQ G G'' (n+m):=by
 obtain⟨r,e⟩:=h.pre;obtain⟨t,e2⟩:=h2.pre;have f1:=h.few;have f2:=h2.few;exact⟨h2.ok,⟨r++t,by rw[e2,e,L5]⟩,by lia⟩
theorem AQ.get{G G':Gv}{n x:Nat}{q:Sq}(h:AQ G G' n)(e:G[x]?=some q):G'[x]?=some q:=by
 obtain⟨r,e2⟩:=h.pre;rw[e2];exact Ps e
theorem AQ.lev{G G':Gv}{n x:Nat}{l:Int}(h:AQ G G' n)(e:Ap G x l):Ap G' x l:=by
 obtain⟨q,e,z⟩:=e;exact⟨q,h.get e,z⟩
inductive RZ(a:Ad)(vs:List V)(H:Hp)(Q:VK):Prop
 |mk (g:GA) (G:Gv) (t:Addr) (x y z w:Nat) (l:Int) (_:vs=[.ref g.p,.ref t]) (_:AD a H g G) (_:GOk G) (_:H t=some (.tup [.int x,.int y,.int z,.int w])) (_:(Ap G x l/\Ap G y l/\Ap G z l/\Ap G w l)) (_:l<=47) (_:G.length<9000000) (_:∀(n:Nat)(G':Gv)(H':Hp),Fr g H H'->AD a H' g G'->AQ G G' 1->G'[n]?=some ⟨[(x:Int),(y:Int),(z:Int),(w:Int)],l+1⟩->Q (.int n) H'):RZ a vs H Q
def FM(a:Ad):Sp:=λvs H Q _=>RZ a vs H Q
theorem ok_link{f:Addr}{fd:FuncData}(F:Fun K "linked" "Grove.linked" EU f fd)(T:Top K mg a)(aT:BJ P w K mg base CX0 1 a.c_Grove "kept" EJ (OM a)):AR P w K mg base CX0 2 f fd BB (FM a):=by
 refine F.ok GZ (λvs H Q E h=>?_) (λcdv A outer s H vs Q E hr h=>?_)
 ·obtain⟨g,G,t,x,y,z,w,l,rfl,_⟩:=h;rfl
 ·obtain⟨g,G,t,x,y,z,w,l,rfl,hg,ok,ht,⟨hx,hy,hz,hw⟩,h47,few,k⟩:=h;have hg0:=hg;obtain⟨h1,h2,⟨ts,h3,h4⟩,h5,h6⟩:=hg;refine⟨_,(Ac (Ax (i:=2) GZ.nd rfl (Or.inl rfl) (MP (DS hr) (AJ (pv 0) rfl) (pv 1) ⟨rfl,rfl,rfl,rfl⟩)) (Ac (AU (AI MT (pv 2) Ik (AM _)) (Ag (Au (Ay (pv 0) aT (rm hr) Aq (Aa (pv 1) (Ck Bo (Al Ar (AJ (pv 0) rfl) (Al An (pv 1) Ae (λ_ _=>rfl)) (λ_ _=>rfl)) Ae Ab))))) AF) (Ag (Au (pv 2))))),?_⟩
  try dsimp only[cxK]
  refine xwf rfl rfl h1 T.cl_Grove T.na_Grove_numbers (Wc g) ⟨g.nm,rfl,.inr ⟨_,.inl h5⟩,(xq1 rfl ⟨_,Fx.t (k:=kOf [(x:Int),(y:Int),(z:Int),(w:Int)]) h5 (by rw[VV];exact ht),?_⟩)⟩;rcases Pn [(x:Int),(y:Int),(z:Int),(w:Int)] G 0 with ⟨i,q,e1,e2,e3⟩|⟨e,new⟩
  ·rw[e3];refine xq1 rfl ⟨rfl,(xq1 rfl (Bq (xq1 rfl ?_)))⟩;rw[L9];refine k i G H (Fr.refl g H) hg0 ⟨ok,⟨[],by simp⟩,by lia⟩ ?_;have h8:8<=i:=by
    refine U6 λz'=>?_;rw[ok.leaf i z']at e1;cases e1;cases e2
   obtain⟨x',y',z',w',p1,⟨lx,_⟩,_⟩:=ok.node i q e1 h8;have exx:x'=x:=by
    rw[p1]at e2;injection e2 with e2 _
    exact A1c e2
   rw[exx]at lx;obtain⟨qa,a1,a2⟩:=lx;obtain⟨qb,b1,b2⟩:=hx;rw[a1]at b1;cases b1;have el:q.lev=l+1:=by lia
   rw[e1];cases q with
   |mk pp ll=>cases e2;cases el;rfl
  ·rw[e];refine xq1 rfl ⟨rfl,(xq1 rfl (CN ?_))⟩;obtain⟨q,e1,e2⟩:=id hx;refine xwn rfl rfl h1 (Pa g) rfl (xwf rfl rfl h1 T.cl_Grove T.na_Grove_levels (Gc g) (xwi rfl rfl rfl (SqT.of ht) (Am (j:=0) rfl) (xq4 rfl rfl (SqL.of h2) (Am (by rw[B9,e1];rfl)) (xq2 rfl rfl ?_))));refine⟨g,G,t,[(x:Int),(y:Int),(z:Int),(w:Int)],l+1,by rw[<-e2];rfl,hg0,ht,new,few,λH' fr hg'=>?_⟩;refine k G.length _ H' fr hg' ⟨ok.snoc hx hy hz hw h47 new,⟨_,rfl⟩,by rw[B8];exact C8 _⟩ ?_;rw[E3 (C8 _),N7];rfl
inductive SpChk(a:Ad)(vs:List V)(H:Hp)(Q:VK):Prop
 |mk (g:GA) (G:Gv) (i:Nat) (_:vs=[.ref g.p,.int i]) (_:AD a H g G) (_:i<G.length) (_:Q .non H):SpChk a vs H Q
def Ss(a:Ad):Sp:=λvs H Q _=>SpChk a vs H Q
theorem ok_chk{f:Addr}{fd:FuncData}(F:Fun K "check_square" "Grove.check_square" CJ f fd)(T:Top K mg a)(aU:Cal P w K mg base CX0 1 "is_whole" Fb UY):AR P w K mg base CX0 2 f fd BY (Ss a):=by
 refine F.ok Ic (λvs H Q E h=>?_) (λcdv A outer s H vs Q E hr h=>?_)
 ·obtain⟨g,G,i,rfl,_⟩:=h;rfl
 ·obtain⟨g,G,i,rfl,hg,hi,k⟩:=h;refine⟨_,(Ag (AU (PW.pt (Jd (CK (CD (Az aU (rm hr) rfl Aq (Aa (pv 1) Ab)))) (GE (CK (MN MS JE Ae (pv 1) (AO Bh rfl T.b_len K2 (Aa (AJ (pv 0) rfl) Ab))))))) (Ag BO) AF)),?_⟩
  try dsimp only[cxK]
  refine⟨_,rfl,_,rfl,true,rfl,Bq ⟨_,rfl,_,_,rfl,rfl,_,rfl,?_⟩⟩;rw[Z1 (by lia:(0:Int)<=(i:Int))];refine CN (xwf rfl rfl hg.hp T.cl_Grove T.na_Grove_levels (Gc g) ⟨g.lv,(xq1 rfl ⟨.inl (SqL.of hg.lv),(xq2 rfl rfl (xq1 rfl ?_))⟩)⟩);rw[B6,Z1 (by lia:(i:Int)<(G.length:Int))];exact Bq k
inductive WB(a:Ad)(vs:List V)(H:Hp)(Q:VK):Prop
 |mk (p:Addr) (i:Int) (_:vs=[.ref p,.int i]) (_:0<=i) (_:i<8) (_:Q (.int i) H):WB a vs H Q
def OL(a:Ad):Sp:=λvs H Q _=>WB a vs H Q
theorem ok_leaf{f:Addr}{fd:FuncData}(F:Fun K "leaf" "Grove.leaf" GB f fd)(T:Top K mg a)(cA:Cal P w K mg base CX0 2 "is_state" Jn spIS):AR P w K mg base CX0 3 f fd EI (OL a):=by
 refine F.ok NL (λvs H Q E h=>?_) (λcdv A outer s H vs Q E hr h=>?_)
 ·obtain⟨g,i,rfl,_⟩:=h;rfl
 ·obtain⟨g,i,rfl,h0,h1,k⟩:=h;exact⟨_,(Ac (AU (CK (CD (Az cA (rm hr) rfl Aq (Aa (pv 1) Ab)))) (Ag BO) AF) (Ag (Au (pv 1)))),(xq1 rfl ⟨i,rfl,h0,h1,true,rfl,Bq (xq1 rfl k)⟩)⟩
inductive SpLev(a:Ad)(vs:List V)(H:Hp)(Q:VK):Prop
 |mk (g:GA) (G:Gv) (i:Nat) (q:Sq) (_:vs=[.ref g.p,.int i]) (_:AD a H g G) (_:G[i]?=some q) (_:Q (.int q.lev) H):SpLev a vs H Q
def Mt(a:Ad):Sp:=λvs H Q _=>SpLev a vs H Q
theorem ok_lev{f:Addr}{fd:FuncData}(F:Fun K "level_of" "Grove.level_of" DX f fd)(T:Top K mg a)(aG:BJ P w K mg base CX0 2 a.c_Grove "check_square" BY (Ss a)):AR P w K mg base CX0 3 f fd BF (Mt a):=by
 refine F.ok Jx (λvs H Q E h=>?_) (λcdv A outer s H vs Q E hr h=>?_)
 ·obtain⟨g,G,i,q,rfl,_⟩:=h;rfl
 ·obtain⟨g,G,i,q,rfl,hg,hi,k⟩:=h;refine⟨_,(Ac (AZ (Ay (pv 0) aG (rm hr) Aq (Aa (pv 1) Ab))) (Ag (Au (Al Ar (AJ (pv 0) rfl) (pv 1) (λ_ _=>rfl))))),?_⟩
  try dsimp only[cxK]
  refine xwn rfl rfl hg.hp (Qp g) rfl ⟨g,G,i,rfl,hg,(B7.mp hi).1,?_⟩;exact xwf rfl rfl hg.hp T.cl_Grove T.na_Grove_levels (Gc g) (xwi rfl rfl rfl (SqL.of hg.lv) (Am (by rw[B9,hi];rfl)) k)
inductive SpQua(a:Ad)(vs:List V)(H:Hp)(Q:VK):Prop
 |mk (g:GA) (G:Gv) (i:Nat) (q:Sq) (_:vs=[.ref g.p,.int i]) (_:AD a H g G) (_:G[i]?=some q) (_:q.lev≠0) (_:∀t,H t=some (.tup (q.parts.map V.int))->Q (.ref t) H):SpQua a vs H Q
def PZ(a:Ad):Sp:=λvs H Q _=>SpQua a vs H Q
theorem ok_qua{f:Addr}{fd:FuncData}(F:Fun K "quarters" "Grove.quarters" DW f fd)(T:Top K mg a)(a7:BJ P w K mg base CX0 3 a.c_Grove "level_of" BF (Mt a)):AR P w K mg base CX0 4 f fd Cl (PZ a):=by
 refine F.ok Jw (λvs H Q E h=>?_) (λcdv A outer s H vs Q E hr h=>?_)
 ·obtain⟨g,G,i,q,rfl,_⟩:=h;rfl
 ·obtain⟨g,G,i,q,rfl,hg,hi,h0,k⟩:=h;refine⟨_,(Ac (AU (AI Ds (Ay (pv 0) a7 (rm hr) Aq (Aa (pv 1) Ab)) Ae (AM _)) (Ag BO) AF) (Ag (Au (Al Ar (AJ (pv 0) rfl) (pv 1) (λ_ _=>rfl))))),?_⟩
  try dsimp only[cxK]
  refine xwn rfl rfl hg.hp (Ed g) rfl ⟨g,G,i,q,rfl,hg,hi,rfl,(xq1 rfl ?_)⟩;rw[Z2 (by intro z;injection z with z;exact h0 z)];obtain⟨ts,h3,h4⟩:=hg.pt;obtain⟨t,et,ht⟩:=PairedM.get h4 hi;exact Bq (xwf rfl rfl hg.hp T.cl_Grove T.na_Grove_parts (Eh g) (xwi rfl rfl rfl (SqL.of h3) (Am (by rw[B9,et];rfl)) (k t ht)))
inductive SpSta(a:Ad)(vs:List V)(H:Hp)(Q:VK):Prop
 |mk (g:GA) (G:Gv) (i:Nat) (q:Sq) (_:vs=[.ref g.p,.int i]) (_:AD a H g G) (_:G[i]?=some q) (_:q.lev=0) (_:Q (.int i) H):SpSta a vs H Q
def Sm(a:Ad):Sp:=λvs H Q _=>SpSta a vs H Q
theorem ok_sta{f:Addr}{fd:FuncData}(F:Fun K "state_of" "Grove.state_of" DV f fd)(T:Top K mg a)(a7:BJ P w K mg base CX0 3 a.c_Grove "level_of" BF (Mt a)):AR P w K mg base CX0 4 f fd CT (Sm a):=by
 refine F.ok Jv (λvs H Q E h=>?_) (λcdv A outer s H vs Q E hr h=>?_)
 ·obtain⟨g,G,i,q,rfl,_⟩:=h;rfl
 ·obtain⟨g,G,i,q,rfl,hg,hi,h0,k⟩:=h;refine⟨_,(Ac (AU (AI Ia (Ay (pv 0) a7 (rm hr) Aq (Aa (pv 1) Ab)) Ae (AM _)) (Ag BO) AF) (Ag (Au (pv 1)))),?_⟩
  try dsimp only[cxK]
  refine xwn rfl rfl hg.hp (Ed g) rfl ⟨g,G,i,q,rfl,hg,hi,rfl,(xq1 rfl ?_)⟩;rw[h0];exact QC rfl (xq1 rfl k)
end
section
variable{P:Program}{w:World}{K:PySem.W.Frag}{mg:Str->Option Value}{base:Heap}{a:Ad}
inductive WE(a:Ad)(vs:List V)(H:Hp)(Q:VK):Prop
 |mk (g:GA) (G:Gv) (x y z w:Nat) (l:Int) (_:vs=[.ref g.p,.int x,.int y,.int z,.int w]) (_:AD a H g G) (_:GOk G) (_:(Ap G x l/\Ap G y l/\Ap G z l/\Ap G w l)) (_:l<=47) (_:G.length<9000000) (_:∀(n:Nat)(G':Gv)(H':Hp),Fr g H H'->AD a H' g G'->AQ G G' 1->G'[n]?=some ⟨[(x:Int),(y:Int),(z:Int),(w:Int)],l+1⟩->Q (.int n) H'):WE a vs H Q
def Mu(a:Ad):Sp:=λvs H Q _=>WE a vs H Q
theorem ok_join{f:Addr}{fd:FuncData}(F:Fun K "joined" "Grove.joined" DG f fd)(T:Top K mg a)(aG:BJ P w K mg base CX0 2 a.c_Grove "check_square" BY (Ss a))(a6:BJ P w K mg base CX0 2 a.c_Grove "linked" BB (FM a)):AR P w K mg base CX0 4 f fd CL (Mu a):=by
 refine F.ok Ex (λvs H Q E h=>?_) (λcdv A outer s H vs Q E hr h=>?_)
 ·obtain⟨g,G,x,y,z,w,l,rfl,_⟩:=h;rfl
 ·obtain⟨g,G,x,y,z,w,l,rfl,hg,ok,⟨hx,hy,hz,hw⟩,h47,few,k⟩:=h;refine⟨_,(Ac (BE X6 rfl (Ld (Dd (Aa (pv 1) (Aa (pv 2) (Aa (pv 3) (Aa (pv 4) Ab)))))) (AL (i:=5) Ex.nd rfl (Or.inl rfl)) (Ag (AZ (Ay (pv 0) aG (rm hr) Aq (Aa (pv 5) Ab))))) (Ac (Ax (i:=6) Ex.nd rfl (Or.inr rfl) (Al Ar (AJ (pv 0) rfl) (pv 1) (λ_ _=>rfl))) (Ac (AU (PW.pt (Jd (AI Ds (pv 6) (CQ rfl T.k_TOP_LEVEL) (AM _)) (GE (CD (AO (Wl rfl) rfl T.b_any PyProof.Rows.boot_any (Aa (BL rfl (Bk.of (So:=Ak DG) (No:=Iz) (N:=["square","self","level"]) (k:=1) (cs:=[0,6]) rfl rfl A0) (Ld (Dd (Aa (pv 2) (Aa (pv 3) (Aa (pv 4) Ab))))) (λ_ _ _=>(AV (i:=0) A0 rfl rfl)) (λ_ _ _=>Bp) (λ_ _ _=>(EG Ia (Al (IE (K:=K) rfl) (OX (K:=K) rfl (pv 1) rfl) (pv 0) (λ_ _=>rfl)) (pv 2) (AM _)))) Ab)))))) (Ag BO) AF) (Ag (Au (Ay (pv 0) a6 (rm hr) Aq (Bx (Aa (pv 1) (Aa (pv 2) (Aa (pv 3) (Aa (pv 4) Ab)))) Ab))))))),?_⟩
  try dsimp only[cxK]
  refine xw3 rfl rfl rfl (xq1 rfl ⟨(by show 4<=sizeLine;decide),λt1 ht1=>⟨t1,rfl,⟨_,SqT.of Af⟩,?_⟩⟩);have s1:=IM (o:=.tup [.int x,.int y,.int z,.int w]) ht1;have ht1':upd H t1 (.tup [.int x,.int y,.int z,.int w]) t1=some (.tup [.int x,.int y,.int z,.int w]):=Af;generalize upd H t1 (.tup [.int x,.int y,.int z,.int w])=H1 at s1 ht1'⊢;have hg1:=hg.same s1;have mem:∀(i:Nat) v,[V.int (x:Int),V.int (y:Int),V.int (z:Int),V.int (w:Int)][i]?=some v->∃n:Nat,v=.int n/\n<G.length:=λi v e=>by
   have:=D7 e;simp only[D6,F8,K8]at this;rcases this with rfl|rfl|rfl|rfl
   ·exact⟨x,rfl,hx.lt⟩
   ·exact⟨y,rfl,hy.lt⟩
   ·exact⟨z,rfl,hz.lt⟩
   ·exact⟨w,rfl,hw.lt⟩
  refine Td (xs:=[.int x,.int y,.int z,.int w]) (λi σ H2=>H1=H2/\∃u5:Option V,σ=[some (.ref g.p),some (.int x),some (.int y),some (.int z),some (.int w),u5,none]) ⟨rfl,none,rfl⟩ (λi σ H2 _ q=>q.1▸SqT.of ht1') ?_ ?_
  ·rintro i v σ H2 ev ⟨rfl,u5,rfl⟩;obtain⟨n,rfl,hn⟩:=mem i v ev;exact xwn rfl rfl hg1.hp (Qp g) rfl ⟨g,G,n,rfl,hg1,hn,rfl,_,rfl⟩
  ·rintro σ H2 ⟨rfl,u5,rfl⟩;obtain⟨qx,ex,lx⟩:=id hx;refine⟨_,rfl,g.p,_,g.dx,_,_,rfl,hg1.hp,T.cl_Grove,T.na_Grove_levels,Gc g,_,rfl,g.lv,_,(x:Int),.int qx.lev,rfl,rfl,SqL.of hg1.lv,Am (by rw[B9,ex];rfl),?_⟩;rw[lx];refine xq1 rfl ⟨rfl,(xq1 rfl ?_)⟩;rw[Z2 (by intro z;injection z with z;lia)];refine Bq (xw3 rfl rfl rfl ⟨(by show 3<=sizeLine;decide),λt2 ht2=>⟨t2,rfl,⟨_,SqT.of Af⟩,?_⟩⟩);have s2:=IM (o:=.tup [.int y,.int z,.int w]) ht2;have ht2':upd H1 t2 (.tup [.int y,.int z,.int w]) t2=some (.tup [.int y,.int z,.int w]):=Af;generalize upd H1 t2 (.tup [.int y,.int z,.int w])=H2 at s2 ht2'⊢;have hg2:=hg1.same s2;have mem2:∀(i:Nat) v,[V.int (y:Int),V.int (z:Int),V.int (w:Int)][i]?=some v->∃(n:Nat)(q:Sq),v=.int n/\G[n]?=some q/\q.lev=l:=λi v e=>by
    have:=D7 e;simp only[D6,F8,K8]at this;rcases this with rfl|rfl|rfl
    ·obtain⟨q,e1,e2⟩:=hy;exact⟨y,q,rfl,e1,e2⟩
    ·obtain⟨q,e1,e2⟩:=hz;exact⟨z,q,rfl,e1,e2⟩
    ·obtain⟨q,e1,e2⟩:=hw;exact⟨w,q,rfl,e1,e2⟩
   refine Mp (xs:=[.int y,.int z,.int w]) (λi acc H4=>H2=H4/\acc=(List.replicate i false).map V.bl/\i<=3) ⟨rfl,rfl,by lia⟩ (λi acc H4 _ z=>z.1▸SqT.of ht2') ?_ ?_
   ·rintro i v acc H4 ev ⟨rfl,rfl,h3⟩;obtain⟨n,q,rfl,en,lq⟩:=mem2 i v ev;have hi:i<3:=(B7.mp ev).1;refine⟨⟨[some (.int n)],rfl,rfl⟩,by rw[B6,N6];exact Ol A1,Eu ⟨_,rfl,g.p,_,g.dx,_,_,rfl,hg2.hp,T.cl_Grove,T.na_Grove_levels,Gc g,_,rfl,g.lv,_,(n:Int),.int q.lev,rfl,rfl,SqL.of hg2.lv,Am (by rw[B9,en];rfl),_,rfl,rfl,rfl,?_,hi⟩⟩;rw[lq,Z1 rfl,List.replicate_succ',C0];rfl
   ·rintro acc H4 ⟨rfl,rfl,_⟩ q hq;refine⟨q,List.replicate 3 false,rfl,SqL.of Af,(xq1 rfl (Bq ?_))⟩;have s3:=IM (o:=.lst ((List.replicate 3 false).map V.bl)) hq;refine xq1 rfl ⟨g.p,g.dx,(xq1 rfl ⟨(hg2.same s3).hp,Ec g,(xw3 rfl rfl rfl (xq1 rfl ⟨(by show 4<=sizeLine;decide),λt4 ht4=>?_⟩))⟩)⟩;have s4:=s3.trans (IM (o:=.tup [.int x,.int y,.int z,.int w]) ht4);exact⟨g,G,t4,x,y,z,w,l,rfl,hg2.same s4,ok,Af,⟨hx,hy,hz,hw⟩,h47,few,λn G' H' fr hg' go e=>k n G' H' ((Av.fr (s1.trans (s2.trans s4))).trans fr) hg' go e⟩
end
end J
namespace J
open PySem L2
def bareN:Nat->Nat
 |0=>0
 |j+1=>8+j
def Dt(n:Nat):Gv:=(List.range n).map λ(s:Nat)=>(⟨[(s:Int)],0⟩:Sq)
def Fu(n:Nat):Gv:=(List.range n).map λ(j:Nat)=>(⟨[(bareN j:Int),(bareN j:Int),(bareN j:Int),(bareN j:Int)],(j:Int)+1⟩:Sq)
def G0:Gv:=Dt 8++Fu 48
theorem RM(n:Nat):Dt (n+1)=Dt n++[⟨[(n:Int)],0⟩]:=by unfold Dt;rw[Q5,C0];rfl
theorem NB(n:Nat):Fu (n+1)=Fu n++[⟨[(bareN n:Int),(bareN n:Int),(bareN n:Int),(bareN n:Int)],(n:Int)+1⟩]:=by unfold Fu;rw[Q5,C0];rfl
theorem EL(n:Nat):(Dt n).length=n:=by unfold Dt;rw[B6,O0]
theorem OD(n:Nat):(Fu n).length=n:=by unfold Fu;rw[B6,O0]
theorem UC{i j:Nat}(h:bareN i=bareN j):i=j:=by
 cases i<;>cases j
 ·rfl
 ·have:0=8+_:=h;lia
 ·have:8+_=0:=h;lia
 ·have:8+_=8+_:=h;lia
theorem Uc(n:Nat):∀q∈Dt n,q.parts≠[(n:Int)]:=λq hq z=>by
 obtain⟨s,hs,rfl⟩:=E4.mp hq;have:=N2.mp hs;injection z with z _
 have:s=n:=A1c z;lia
theorem OC(n:Nat):∀q∈Dt 8++Fu n,q.parts≠[(bareN n:Int),(bareN n:Int),(bareN n:Int),(bareN n:Int)]:=λq hq z=>by
 rcases D1.mp hq with hq|hq
 ·obtain⟨s,hs,rfl⟩:=E4.mp hq;cases z
 ·obtain⟨s,hs,rfl⟩:=E4.mp hq;have:=N2.mp hs;injection z with z _
  have:=UC (A1c z);lia
theorem RT:G0.length=56:=by unfold G0;rw[B8,EL,OD]
theorem Pu(j:Nat)(h:j<48):G0[8+j]?=some ⟨[(bareN j:Int),(bareN j:Int),(bareN j:Int),(bareN j:Int)],(j:Int)+1⟩:=by
 unfold G0;rw[E3 (by rw[EL];lia),EL,show 8+j-8=j by lia];unfold Fu;rw[B9,O1 h];rfl
theorem Tb(s:Nat)(h:s<8):G0[s]?=some ⟨[(s:Int)],0⟩:=by
 unfold G0;rw[F6 (by rw[EL];exact h)];unfold Dt;rw[B9,O1 h];rfl
theorem g0_lev(j:Nat)(h:j<=48):Ap G0 (bareN j) (j:Int):=by
 cases j with
 |zero=>exact⟨_,Tb 0 A3,rfl⟩
 |succ j=>exact⟨_,Pu j A1,rfl⟩
theorem g0_nd:∀n,((Dt 8++Fu n).map Sq.parts).Nodup
 |0=>by decide
 |n+1=>by
  rw[NB,<-L5,C0,N1];refine⟨g0_nd n,by simp,λp hp p' hp'=>?_⟩;obtain⟨q,hq,rfl⟩:=E4.mp hp;rw[show p'=[(bareN n:Int),(bareN n:Int),(bareN n:Int),(bareN n:Int)] by simpa using hp'];exact OC n q hq
theorem g0_ok:GOk G0 where
 leaf:=Tb
 node:=λi q e h8=>by
  have hi:i<56:=by rw[<-RT];exact(B7.mp e).1
  obtain⟨j,rfl⟩:∃j,i=8+j:=⟨i-8,by lia⟩
  rw[Pu j A1]at e;cases e;have:=g0_lev j A1;refine⟨bareN j,bareN j,bareN j,bareN j,rfl,?_,?_,?_⟩
  ·show Ap G0 _ ((j:Int)+1-1)/\Ap G0 _ ((j:Int)+1-1)/\Ap G0 _ ((j:Int)+1-1)/\Ap G0 _ ((j:Int)+1-1);rw[show(j:Int)+1-1=(j:Int) by lia];exact⟨this,this,this,this⟩
  ·show 1<=(j:Int)+1;lia
  ·show(j:Int)+1<=48;lia
 nd:=g0_nd 48
def amK(n:Nat):List (Key×V):=(List.range n).map λ(s:Nat)=>(Sum.inl (s:Int),V.int (if(1:Int)<(s:Int)then 1 else(s:Int)))
theorem QY(n:Nat):amK (n+1)=amK n++[(Sum.inl (n:Int),V.int (if(1:Int)<(n:Int)then 1 else(n:Int)))]:=by unfold amK;rw[Q5,C0];rfl
theorem amK_len(n:Nat):(amK n).length=n:=by unfold amK;rw[B6,O0]
theorem OF{κ:Type}[DecidableEq κ]{k:κ}:∀{l m:List (κ×V)},BK l k=none->BK (l++m) k=BK m k
 |[],_,_=>rfl
 |p::r,m,h=>by
  by_cases e:p.1=k
  ·rw[BI e]at h;cases h
  ·rw[Br e]at h;show BK (p::(r++m)) k=_;rw[Br e];exact OF h
theorem Wq(n:Nat):∀m,n<=m->BK (amK n) (Sum.inl (m:Int))=none:=by
 induction n with
 |zero=>intro m _;rfl
 |succ n ih =>
  intro m hm;rw[QY,OF (ih m A1),Br (by intro z;injection z with z;have:=A1c z;lia)];rfl
def Et(n:Nat):List Int:=(List.range (n+1)).map λj=>((bareN j:Nat):Int)
theorem NC(n:Nat):Et (n+1)=Et n++[((bareN (n+1):Nat):Int)]:=by unfold Et;rw[Q5,C0];rfl
theorem RY(n:Nat):(Et n).getLast?=some ((bareN n:Nat):Int):=by
 cases n with
 |zero=>rfl
 |succ n=>rw[NC,W4];rfl
theorem ND{xs:List V}{x:V}(h:xs.getLast?=some x):atI xs (-1)=some x:=by
 obtain⟨ys,rfl⟩:=List.getLast?_eq_some_iff.mp h;unfold atI ixN;rw[Z3 A3,Z6 (by rw[B8,M5];lia)];show(ys++[x])[((-1:Int)+((ys++[x]).length:Nat)).toNat]?=some x;rw[B8,M5,show((-1:Int)+((ys.length+1:Nat):Int)).toNat=ys.length by lia,E3 (C8 _),N7];rfl
seal L2.PA L2.PE L2.PS L2.PSs L2.PT L2.PW
structure WJ(a:Ad)(H H':Hp)(g:GA)(G:Gv)(B:List Int)(am:List (Key×V)):Prop where
 kp:∀b o,H b=some o->b≠g.p->H' b=some o
 at':AD a H' g G
 br:H' g.br=some (.lst (B.map V.int))
 am:H' g.am=some (.dK am)
 bx:H' g.bx=some (.dK [])
 fresh:H g.lv=none/\H g.pt=none/\H g.nm=none/\H g.br=none/\H g.am=none/\H g.bx=none
 n1:g.br≠g.lv
 n2:g.br≠g.pt
 n3:g.am≠g.bx
section
variable{P:Program}{w:World}{K:PySem.W.Frag}{mg:Str->Option Value}{base:Heap}{a:Ad}
inductive Tn(a:Ad)(vs:List V)(H:Hp)(Q:VK):Prop
 |mk (p dx:Addr) (_:vs=[.ref p]) (_:H p=some (.ins a.c_Grove dx [])) (_:∀(g:GA)(H':Hp),g.p=p->WJ a H H' g G0 (Et 48) (amK 8)->Q .non H'):Tn a vs H Q
def OO(a:Ad):Sp:=λvs H Q _=>Tn a vs H Q
theorem VC{f:Addr}{fd:FuncData}(F:Fun K "__init__" "Grove.__init__" GD f fd)(T:Top K mg a)(aT:BJ P w K mg base CX0 1 a.c_Grove "kept" EJ (OM a)):AR P w K mg base CX0 2 f fd GN (OO a):=by
 refine F.ok Ej (λvs H Q E h=>?_) (λcdv A outer s H vs Q E hr h=>?_)
 ·obtain⟨p,dx,rfl,_⟩:=h;rfl
 ·obtain⟨p,dx,rfl,hp,k⟩:=h;refine⟨_,(Ac (Cs (pv 0) (Bn Ab) rfl) (Ac (Cs (pv 0) (Bn Ab) rfl) (Ac (Cs (pv 0) Il rfl) (Ac (Cs (pv 0) (Bn (AH Ab)) rfl) (Ac (Cs (pv 0) JA rfl) (Ac (Cs (pv 0) JA rfl) (Ac (BE X6 rfl (BR rfl T.b_range (Aa (CQ rfl T.k_STATES) Ab)) (AL (i:=1) Ej.nd rfl (Or.inl rfl)) (Ac (AZ (Ay (pv 0) aT (rm hr) Aq (Bx (Aa (pv 1) Ab) (AH Ab)))) (Ag (FF (DS hr) (AJ (pv 0) rfl) (pv 1) (AO (Uy rfl) rfl T.b_min PyProof.Rows.boot_min (Aa (pv 1) (AH Ab))) rfl)))) (Ag (BE X6 rfl (TF rfl T.b_range (AH (Ck Bo (CQ rfl T.k_TOP_LEVEL) Ae Ab))) (AL (i:=2) Ej.nd rfl (Or.inl rfl)) (Ac (Ax (i:=3) Ej.nd rfl (Or.inl rfl) (Al Ar (AJ (pv 0) rfl) (MO Jh Ae) (λ_ _=>rfl))) (Ag (AZ (Ce Z8 Z9 X4 Ba (AJ (pv 0) rfl) (Aa (Ay (pv 0) aT (rm hr) Aq (Bx (Aa (pv 3) (Aa (pv 3) (Aa (pv 3) (Aa (pv 3) Ab)))) (Aa (pv 2) Ab))) Ab)))))))))))))),?_⟩
  try dsimp only[cxK]
  have stp:∀{Hk:Hp}{x:Addr}{o:HO}{fs fs':List (Str×V)},Hk p=some (.ins a.c_Grove dx fs)->Hk x=none->(∀b v,Hk b=some v->b≠p->upd (upd Hk x o) p (.ins a.c_Grove dx fs') b=some v)/\upd (upd Hk x o) p (.ins a.c_Grove dx fs') x=some o/\upd (upd Hk x o) p (.ins a.c_Grove dx fs') p=some (.ins a.c_Grove dx fs')/\upd Hk x o p=some (.ins a.c_Grove dx fs):=λ{Hk x o fs fs'} e1 e2=>by
   have n:x≠p:=λz=>by rw[z,e1]at e2;cases e2
   exact⟨λb v e nb=>by rw[Ao nb,Ao (Ah e e2)];exact e,by rw[Ao n];exact Af,Af,by rw[Ao (Z7 n)];exact e1⟩
  refine AS ?_;intro r_k_ s_k_ k_ hk_ E_k_;refine⟨(by show 0<=sizeLine;decide),λlv hlv=>?_⟩;obtain⟨k1,x1,p1,q1⟩:=stp (o:=.lst []) (fs':=AT "levels" (.ref lv) []) hp hlv;refine xq1 rfl ⟨p,_,dx,[],rfl,q1,T.cl_Grove,T.na_Grove_levels,B4,?_⟩;show k_ _ _;generalize upd (upd H lv _) p _=H1 at k1 x1 p1⊢;refine hk_ ?_;refine AS ?_;intro r_k_ s_k_ k_ hk_ E_k_;refine⟨(by show 0<=sizeLine;decide),λpt hpt=>?_⟩;obtain⟨k2,x2,p2,q2⟩:=stp (o:=.lst []) (fs':=AT "parts" (.ref pt) (AT "levels" (.ref lv) [])) p1 hpt;refine xq1 rfl ⟨p,_,dx,(xq1 rfl ⟨q2,T.cl_Grove,T.na_Grove_parts,B5,?_⟩)⟩;show k_ _ _;generalize upd (upd H1 pt _) p _=H2 at k2 x2 p2⊢;refine hk_ ?_;refine AS ?_;intro r_k_ s_k_ k_ hk_ E_k_;intro nm hnm;obtain⟨k3,x3,p3,q3⟩:=stp (o:=.dT []) (fs':=AT "numbers" (.ref nm) (AT "parts" (.ref pt) (AT "levels" (.ref lv) []))) p2 hnm;refine xq1 rfl ⟨p,_,dx,(xq1 rfl ⟨q3,T.cl_Grove,T.na_Grove_numbers,(by show 2<1000;decide),?_⟩)⟩;show k_ _ _;generalize upd (upd H2 nm _) p _=H3 at k3 x3 p3⊢;refine hk_ ?_;refine AS ?_;intro r_k_ s_k_ k_ hk_ E_k_;refine⟨(by show 1<=sizeLine;decide),λbr hbr=>?_⟩;obtain⟨k4,x4,p4,q4⟩:=stp (o:=.lst [.int 0]) (fs':=AT "bares" (.ref br) (AT "numbers" (.ref nm) (AT "parts" (.ref pt) (AT "levels" (.ref lv) [])))) p3 hbr;refine xq1 rfl ⟨p,_,dx,(xq1 rfl ⟨q4,T.cl_Grove,T.na_Grove_bares,(by show 3<1000;decide),?_⟩)⟩;show k_ _ _;generalize upd (upd H3 br _) p _=H4 at k4 x4 p4⊢;refine hk_ ?_;refine AS ?_;intro r_k_ s_k_ k_ hk_ E_k_;intro am ham;obtain⟨k5,x5,p5,q5⟩:=stp (o:=.dK []) (fs':=AT "amounts" (.ref am) (AT "bares" (.ref br) (AT "numbers" (.ref nm) (AT "parts" (.ref pt) (AT "levels" (.ref lv) []))))) p4 ham;refine xq1 rfl ⟨p,_,dx,(xq1 rfl ⟨q5,T.cl_Grove,T.na_Grove_amounts,(by show 4<1000;decide),?_⟩)⟩;show k_ _ _;generalize upd (upd H4 am _) p _=H5 at k5 x5 p5⊢;refine hk_ ?_;refine AS ?_;intro r_k_ s_k_ k_ hk_ E_k_;intro bx hbx;obtain⟨k6,x6,p6,q6⟩:=stp (o:=.dK []) (fs':=fl6 ⟨p,dx,lv,pt,nm,br,am,bx⟩) p5 hbx;refine xq1 rfl ⟨p,_,dx,(xq1 rfl ⟨q6,T.cl_Grove,T.na_Grove_boxes,(by show 5<1000;decide),?_⟩)⟩;show k_ _ (upd (upd H5 bx (.dK [])) p (.ins a.c_Grove dx (fl6 ⟨p,dx,lv,pt,nm,br,am,bx⟩)));generalize upd (upd H5 bx _) p _=H6 at k6 x6 p6⊢;refine hk_ ?_;have f26:∀b v,H1 b=some v->b≠p->H6 b=some v:=λb v e n=>k6 _ _ (k5 _ _ (k4 _ _ (k3 _ _ (k2 _ _ e n) n) n) n) n;have f36:∀b v,H2 b=some v->b≠p->H6 b=some v:=λb v e n=>k6 _ _ (k5 _ _ (k4 _ _ (k3 _ _ e n) n) n) n;have f46:∀b v,H3 b=some v->b≠p->H6 b=some v:=λb v e n=>k6 _ _ (k5 _ _ (k4 _ _ e n) n) n;have f56:∀b v,H4 b=some v->b≠p->H6 b=some v:=λb v e n=>k6 _ _ (k5 _ _ e n) n;have np:∀{Hk:Hp}{x:Addr}{fs:List (Str×V)},Hk p=some (.ins a.c_Grove dx fs)->Hk x=none->x≠p:=λ{Hk x fs} e1 e2 z=>by rw[z,e1]at e2;cases e2
  have no:∀{Hk Hm:Hp}{x y:Addr}{v:HO},Hk x=some v->Hk y=none->x≠y:=λ{Hk Hm x y v} e1 e2=>Ah e1 e2;have nlv:=np hp hlv;have npt:=np p1 hpt;have nnm:=np p2 hnm;have nbr:=np p3 hbr;have nam:=np p4 ham;have nbx:=np p5 hbx;have y1:=f26 _ _ x1 nlv;have y2:=f36 _ _ x2 npt;have y3:=f46 _ _ x3 nnm;have y4:=f56 _ _ x4 nbr;have y5:=k6 _ _ x5 nam;have back:∀{Hk:Hp}{x:Addr},(∀b v,H b=some v->b≠p->Hk b=some v)->x≠p->Hk x=none->H x=none:=λ{Hk x} kp n e=>by
   cases h:H x with
   |none=>rfl
   |some v=>rw[kp _ _ h n]at e;cases e
  have c2:∀b v,H b=some v->b≠p->H2 b=some v:=λb v e n=>k2 _ _ (k1 _ _ e n) n;have c3:∀b v,H b=some v->b≠p->H3 b=some v:=λb v e n=>k3 _ _ (c2 _ _ e n) n;have c4:∀b v,H b=some v->b≠p->H4 b=some v:=λb v e n=>k4 _ _ (c3 _ _ e n) n;have c5:∀b v,H b=some v->b≠p->H5 b=some v:=λb v e n=>k5 _ _ (c4 _ _ e n) n;have c6:∀b v,H b=some v->b≠p->H6 b=some v:=λb v e n=>k6 _ _ (c5 _ _ e n) n;have d1:lv≠pt:=Ah x1 hpt;have d2:br≠lv:=Z7 (Ah (k3 _ _ (k2 _ _ x1 nlv) nlv) hbr);have d3:br≠pt:=Z7 (Ah (k3 _ _ x2 npt) hbr);have d4:am≠bx:=Ah x5 hbx;have N0:WJ a H H6 ⟨p,dx,lv,pt,nm,br,am,bx⟩ (Dt 0) (Et 0) (amK 0):=⟨c6,⟨p6,y1,⟨[],y2,.nil⟩,y3,d1⟩,y4,y5,x6,⟨hlv,back k1 npt hpt,back c2 nnm hnm,back c3 nbr hbr,back c4 nam ham,back c5 nbx hbx⟩,d2,d3,d4⟩
  have k':=k ⟨p,dx,lv,pt,nm,br,am,bx⟩;have gp:(⟨p,dx,lv,pt,nm,br,am,bx⟩:GA).p=p:=rfl;generalize (⟨p,dx,lv,pt,nm,br,am,bx⟩:GA)=g at N0 k' gp;subst gp;clear k p6 q6 q5 q4 q3 q2 q1 y1 y2 y3 y4 y5 x6 c6 c5 c4 c3 c2 f26 f36 f46 f56 k1 k2 k3 k4 k5 k6 x1 x2 x3 x4 x5 p1 p2 p3 p4 p5 d1 d2 d3 d4 nlv npt nnm nbr nam nbx hbx ham hbr hnm hpt hlv back no np stp;refine⟨8,rfl,by decide,by decide,?_⟩;refine CV (n:=8) (λi σ H7=>∃u1:Option V,σ=[some (.ref g.p),u1,none,none]/\WJ a H H7 g (Dt i) (Et 0) (amK i)) ⟨none,rfl,N0⟩ ?_ ?_
  ·rintro i σ H7 hi ⟨u1,rfl,N⟩;obtain⟨kp,at',hbr,ham,hbx,fresh,n1,n2,n3⟩:=N;have cl:(i:Int)=0+(i:Int):=(V7 _).symm;refine xq1 rfl ⟨g.p,g.dx,(xq1 rfl ⟨at'.hp,Pa g,(xq1 rfl ⟨(by show 1<=sizeLine;decide),λt ht=>?_⟩)⟩)⟩;have s1:=IM (o:=.tup [.int (0+(i:Int))]) ht;refine⟨g,Dt i,t,[0+(i:Int)],0,rfl,at'.same s1,Af,by rw[<-cl];exact Uc i,by rw[EL];lia,λH8 fr at8=>?_⟩;rw[<-cl,<-RM]at at8;have fr':Fr g H7 H8:=(Av.fr s1).trans fr;obtain⟨ts,h3,h4⟩:=at'.pt;have kd:∀(b:Addr)(kvs:List (Key×V)),H7 b=some (.dK kvs)->H8 b=some (.dK kvs):=λb kvs e=>fr' _ _ e (As e at'.lv A2) (As e h3 A2) (As e at'.nm A2);have ham8:=kd _ _ ham;refine xq1 rfl ⟨_,_,rfl,(xwf rfl rfl at8.hp T.cl_Grove T.na_Grove_amounts (fl6_am g) (xq1 rfl ⟨g.am,(xq1 rfl ⟨JS.k (k:=Sum.inl (0+(i:Int))) ham8 (by rw[amK_len];exact Ol A1),?_⟩)⟩))⟩;rw[<-cl,Jz _ (Wq i i (C8 _)),<-QY];have other:∀{b:Addr}{v:HO},H8 b=some v->b≠g.am->upd H8 g.am (.dK (amK (i+1))) b=some v:=λ{b v} e n=>by rw[Ao n];exact e
   have na:∀{b:Addr}{v:HO},H8 b=some v->v≠.dK (amK i)->b≠g.am:=λ{b v} e n=>As e ham8 n;obtain⟨ts8,h38,h48⟩:=at8.pt;refine xq1 rfl ⟨?_,⟨other at8.hp (na at8.hp A2),other at8.lv (na at8.lv A2),⟨ts8,other h38 (na h38 A2),PairedM.imp (λc q z=>other z (na z A2)) h48⟩,other at8.nm (na at8.nm A2),at8.ne⟩,?_,Af,?_,fresh,n1,n2,n3⟩
   ·intro b v e nb;have e8:H8 b=some v:=fr' _ _ (kp _ _ e nb) (Ah e fresh.1) (Ah e fresh.2.1) (Ah e fresh.2.2.1);exact other e8 (Ah e fresh.2.2.2.2.1)
   ·have e8:H8 g.br=_:=fr' _ _ hbr n1 n2 (As hbr at'.nm A2);exact other e8 (na e8 A2)
   ·exact other (kd _ _ hbx) (Z7 n3)
  ·rintro σ H7 ⟨u1,rfl,N⟩;refine xq2 rfl rfl ⟨1,49,rfl,⟨by decide,by decide,by decide,by decide⟩,?_⟩;have N0:WJ a H H7 g (Dt 8++Fu 0) (Et 0) (amK 8):=by rw[show Dt 8++Fu 0=Dt 8 from P3 _];exact N
   clear N;refine CV (lo:=1) (n:=48) (λj σ H8=>∃u2 u3:Option V,σ=[some (.ref g.p),u1,u2,u3]/\WJ a H H8 g (Dt 8++Fu j) (Et j) (amK 8)) ⟨none,none,rfl,N0⟩ ?_ ?_
   ·rintro j σ H8 hj ⟨u2,u3,rfl,N⟩;obtain⟨kp,at',hbr,ham,hbx,fresh,n1,n2,n3⟩:=N;refine xwf rfl rfl at'.hp T.cl_Grove T.na_Grove_bares (Pw g) (xwi rfl rfl rfl (SqL.of hbr) (ND (by rw[List.getLast?_map,RY];rfl)) ?_);refine xwf rfl rfl at'.hp T.cl_Grove T.na_Grove_bares (Pw g) ⟨.inl ⟨rfl,_,SqL.of hbr⟩,(xq1 rfl ⟨g.p,g.dx,(xq1 rfl ⟨at'.hp,Pa g,(xw3 rfl rfl rfl (xq1 rfl ⟨(by show 4<=sizeLine;decide),λt ht=>(xq1 rfl ?_)⟩))⟩)⟩)⟩;have s1:=IM (o:=.tup [.int (bareN j:Int),.int (bareN j:Int),.int (bareN j:Int),.int (bareN j:Int)]) ht;have ln:(Dt 8++Fu j).length=8+j:=by rw[B8,EL,OD]
    refine⟨g,Dt 8++Fu j,t,[(bareN j:Int),(bareN j:Int),(bareN j:Int),(bareN j:Int)],1+(j:Int),rfl,at'.same s1,Af,OC j,by rw[ln];lia,λH9 fr at9=>?_⟩;rw[show(1:Int)+(j:Int)=(j:Int)+1 by lia,L5,<-NB]at at9;have fr':Fr g H8 H9:=(Av.fr s1).trans fr;obtain⟨ts,h3,h4⟩:=at'.pt;have kd:∀(b:Addr)(kvs:List (Key×V)),H8 b=some (.dK kvs)->H9 b=some (.dK kvs):=λb kvs e=>fr' _ _ e (As e at'.lv A2) (As e h3 A2) (As e at'.nm A2);have hbr9:H9 g.br=_:=fr' _ _ hbr n1 n2 (As hbr at'.nm A2);refine⟨g.br,(xq2 rfl rfl ⟨hbr9,by rw[B6];unfold Et;rw[B6,O0];exact Ol A1,?_⟩)⟩;have eb:(Et j).map V.int++[V.int ((Dt 8++Fu j).length:Int)]=(Et (j+1)).map V.int:=by rw[NC,C0,ln];rfl
    rw[eb];have other:∀{b:Addr}{v:HO},H9 b=some v->v≠.lst ((Et j).map V.int)->upd H9 g.br (.lst ((Et (j+1)).map V.int)) b=some v:=λ{b v} e n=>by rw[Ao (As e hbr9 n)];exact e
    refine⟨_,_,rfl,?_,at9.put hbr9 n1 n2,Af,other (kd _ _ ham) A2,other (kd _ _ hbx) A2,fresh,n1,n2,n3⟩;intro b v e nb;rw[Ao (Ah e fresh.2.2.2.1)];exact fr' _ _ (kp _ _ e nb) (Ah e fresh.1) (Ah e fresh.2.1) (Ah e fresh.2.2.1)
   ·rintro σ H8 ⟨u2,u3,rfl,N⟩;exact k' H8 rfl N
end
structure MA where
 tp:Addr
 l:Addr
 kc:Addr
 ds:List Addr
def jf2(gp mem:Addr):List (Str×V):=AT "memories" (.ref mem) (AT "grove" (.ref gp) [])
def jf5(gp mem pr l kc:Addr):List (Str×V):=AT "known_cells" (.ref kc) (AT "known_squares" (.ref l) (AT "rule" (.ref pr) (jf2 gp mem)))
theorem jf2_mem(gp mem:Addr):(jf2 gp mem).lookup ("memories" : Str)=some (V.ref mem):=by
 unfold jf2;rw[Aj,Z6 rfl]
theorem VZ(gp mem:Addr){m:Str}(h1:¬m=("memories" : Str))(h2:¬m=("grove" : Str)):(jf2 gp mem).lookup m=none:=by
 unfold jf2;rw[Aj,Z3 h1,Aj,Z3 h2];rfl
section
variable(gp mem pr l kc:Addr)
theorem VY:(jf5 gp mem pr l kc).lookup ("known_cells" : Str)=some (V.ref kc):=by
 unfold jf5;rw[Aj,Z6 rfl]
theorem VX:(jf5 gp mem pr l kc).lookup ("known_squares" : Str)=some (V.ref l):=by
 unfold jf5;rw[Aj,Z3 A0,Aj,Z6 rfl]
theorem jf5_ru:(jf5 gp mem pr l kc).lookup ("rule" : Str)=some (V.ref pr):=by
 unfold jf5;rw[Aj,Z3 A0,Aj,Z3 A0,Aj,Z6 rfl]
theorem jf5_mem:(jf5 gp mem pr l kc).lookup ("memories" : Str)=some (V.ref mem):=by
 unfold jf5 jf2;rw[Aj,Z3 A0,Aj,Z3 A0,Aj,Z3 A0,Aj,Z6 rfl]
theorem DQ:(jf5 gp mem pr l kc).lookup ("grove" : Str)=some (V.ref gp):=by
 unfold jf5 jf2;rw[Aj,Z3 A0,Aj,Z3 A0,Aj,Z3 A0,Aj,Z3 A0,Aj,Z6 rfl]
theorem Eg{m:Str}(h1:¬m=("known_cells" : Str))(h2:¬m=("known_squares" : Str))(h3:¬m=("rule" : Str))(h4:¬m=("memories" : Str))(h5:¬m=("grove" : Str)):(jf5 gp mem pr l kc).lookup m=none:=by
 unfold jf5;rw[Aj,Z3 h1,Aj,Z3 h2,Aj,Z3 h3,VZ _ _ h4 h5]
theorem Ry:(jf5 gp mem pr l kc).lookup ("change" : Str)=none:=Eg _ _ _ _ _ A0 A0 A0 A0 A0
theorem Of:(jf5 gp mem pr l kc).lookup ("after" : Str)=none:=Eg _ _ _ _ _ A0 A0 A0 A0 A0
theorem Oe:(jf5 gp mem pr l kc).lookup ("check_jump" : Str)=none:=Eg _ _ _ _ _ A0 A0 A0 A0 A0
theorem Iu:(jf5 gp mem pr l kc).lookup ("reckoned" : Str)=none:=Eg _ _ _ _ _ A0 A0 A0 A0 A0
theorem TW:(jf5 gp mem pr l kc).lookup ("fresh" : Str)=none:=Eg _ _ _ _ _ A0 A0 A0 A0 A0
theorem Qq:(jf5 gp mem pr l kc).lookup ("four_halfway" : Str)=none:=Eg _ _ _ _ _ A0 A0 A0 A0 A0
theorem noJ_mid:(jf5 gp mem pr l kc).lookup ("middle_after" : Str)=none:=Eg _ _ _ _ _ A0 A0 A0 A0 A0
theorem VG:(jf5 gp mem pr l kc).lookup ("cell_after" : Str)=none:=Eg _ _ _ _ _ A0 A0 A0 A0 A0
theorem putN{f g:Str}{v x:V}{r:List (Str×V)}(h:¬g=f):AT f v ((g,x)::r)=(g,x)::AT f v r:=Z3 h
theorem putE{f:Str}{v x:V}{r:List (Str×V)}:AT f v ((f,x)::r)=(f,v)::r:=Z6 rfl
theorem putZ{f:Str}{v:V}:AT f v []=[(f,v)]:=rfl
theorem Pq:jf5 gp mem pr l kc=[(("grove" : Str),V.ref gp),(("memories" : Str),V.ref mem),(("rule" : Str),V.ref pr),(("known_squares" : Str),V.ref l),(("known_cells" : Str),V.ref kc)]:=by
 unfold jf5 jf2
 repeat first|rw[putN A0]|rw[putE]|rw[putZ]
theorem jf5_put(pr' l' kc':Addr):AT "known_cells" (.ref kc') (AT "known_squares" (.ref l') (AT "rule" (.ref pr') (jf5 gp mem pr l kc)))=jf5 gp mem pr' l' kc':=by
 rw[Pq,Pq]
 repeat first|rw[putN A0]|rw[putE]|rw[putZ]
end
inductive Nv:HO->Prop
 |tup {xs:List V}:Nv (.tup xs)
 |ins {C dx:Addr} {fs:List (Str×V)} (h1:1<=fs.length) (h2:fs.length<=3):Nv (.ins C dx fs)
theorem Md(f:Str)(v:V):∀fs:List (Str×V),1<=(AT f v fs).length
 |[]=>C8 1
 | (g,x)::r=>by
  unfold AT;split
  ·rw[E7];lia
  ·rw[E7];lia
theorem De.kp{a:Ad}{H H':Hp}{p:Addr}{c:BQ}(k:∀b o,H b=some o->Nv o->H' b=some o)(h:De a H p c):De a H' p c:=by
 cases h with
 |am h ht=>exact .am (k _ _ h (.ins (Md _ _ _) (D4 (BD _ _ _) (R8 (D4 (BD _ _ _) (by show 0+1<=2;decide)))))) (k _ _ ht .tup)
 |pl h ht=>exact .pl (k _ _ h (.ins (Md _ _ _) (D4 (BD _ _ _) (by show 0+1<=3;decide)))) (k _ _ ht .tup)
theorem BW.kp{a:Ad}{H H':Hp}{p:Addr}{c:Bj}(k:∀b o,H b=some o->Nv o->H' b=some o)(h:BW a H p c):BW a H' p c:=by
 obtain⟨dx,t,cs,h1,h2,h3⟩:=h.ex;exact⟨dx,t,cs,k _ _ h1 (.ins (Md _ _ _) (D4 (BD _ _ _) (R8 (D4 (BD _ _ _) (R8 (D4 (BD _ _ _) (by show 0+1<=1;decide))))))),k _ _ h2 .tup,Paired.imp (λ_ _ z=>z.kp k) h3⟩
theorem BV.kp{a:Ad}{H H':Hp}{p:Addr}{x:Str}{r:AA}(k:∀b o,H b=some o->Nv o->H' b=some o)(h:BV a H p x r):BV a H' p x r:=by
 obtain⟨dx,t,cs,h1,h2,h3⟩:=h.ex;exact⟨dx,t,cs,k _ _ h1 (.ins (Md _ _ _) (D4 (BD _ _ _) (R8 (D4 (BD _ _ _) (by show 0+1<=2;decide))))),k _ _ h2 .tup,Paired.imp (λ_ _ z=>z.kp k) h3⟩
def mK(ms:List (Str×MA)):List (Key×V):=ms.map λe=>(Sum.inr e.1,V.ref e.2.tp)
theorem SS(t:Str):∀ms:List (Str×MA),(∃m,(t,m)∈ms/\BK (mK ms) (Sum.inr t)=some (.ref m.tp))\/(BK (mK ms) (Sum.inr t)=none/\∀e∈ms,e.1≠t)
 |[]=>.inr ⟨rfl,λe he=>nomatch he⟩
 |e::r=>by
  by_cases h:e.1=t
  ·refine .inl ⟨e.2,?_,?_⟩
   ·rw[<-h];exact D8
   ·exact BI (p:=(Sum.inr e.1,V.ref e.2.tp)) (r:=mK r) (by rw[h])
  ·have n:BK (mK (e::r)) (Sum.inr t)=BK (mK r) (Sum.inr t):=Br (p:=(Sum.inr e.1,V.ref e.2.tp)) (r:=mK r) λz=>h (Sum.inr.inj z);rcases SS t r with ⟨m,h1,h2⟩|⟨h1,h2⟩
   ·exact .inl ⟨m,E1 _ h1,n.trans h2⟩
   ·refine .inr ⟨n.trans h1,λx hx=>?_⟩;rcases D6.mp hx with z|z
    ·rw[z];exact h
    ·exact h2 x z
inductive WN(H H':Hp)(t:Str)(ms ms':List (Str×MA))(m:MA):Prop
 |old (_:(t,m)∈ms) (_:ms'=ms):WN H H' t ms ms' m
 |new (_:ms'=ms++[(t,m)]) (_:∀e∈ms,e.1≠t) (_:H m.tp=none/\H m.l=none/\H m.kc=none/\∀d∈m.ds,H d=none) (_:H' m.tp=some (.tup [.ref m.l,.ref m.kc])) (_:H' m.l=some (.lst (m.ds.map V.ref))) (_:H' m.kc=some (.dT [])) (_:∀d∈m.ds,H' d=some (.dK [])) (_:m.ds.length=47) (_:m.ds.Nodup):WN H H' t ms ms' m
section
variable{P:Program}{w:World}{K:PySem.W.Frag}{mg:Str->Option Value}{base:Heap}{a:Ad}
inductive Wu(a:Ad)(vs:List V)(H:Hp)(Q:VK):Prop
 |mk (p:Addr) (t:Str) (r:AA) (_:vs=[.ref p]) (_:BV a H p t r) (_:Q (.str t) H):Wu a vs H Q
def Rj(a:Ad):Sp:=λvs H Q _=>Wu a vs H Q
theorem ok_show{f:Addr}{fd:FuncData}(F:Fun K "shown_rule" "shown_rule" Gp f fd)(T:Top K mg a):AR P w K mg base CX0 1 f fd GG (Rj a):=by
 refine F.ok NH (λvs H Q E h=>?_) (λcdv A outer s H vs Q E hr h=>?_)
 ·obtain⟨p,t,r,rfl,_⟩:=h;rfl
 ·obtain⟨p,t,r,rfl,hR,k⟩:=h;obtain⟨dx,tt,cs,h1,h2,h3⟩:=hR.ex;refine⟨_,(Ag (Au (AJ (pv 0) rfl))),?_⟩
  try dsimp only[cxK]
  exact xwf rfl rfl h1 T.cl_Rule T.na_Rule_text (We A0) k
inductive SpChg(a:Ad)(vs:List V)(H:Hp)(Q:VK):Prop
 |mk (p dx mem pr:Addr) (fs:List (Str×V)) (t:Str) (r:AA) (ms:List (Str×MA)) (_:vs=[.ref p,.ref pr]) (_:H p=some (.ins a.c_Jumps dx fs)) (_:fs.lookup ("memories" : Str)=some (.ref mem)) (_:fs.length<=10) (_:H mem=some (.dK (mK ms))) (_:ms.length<=1000) (_:∀e∈ms,H e.2.tp=some (.tup [.ref e.2.l,.ref e.2.kc])) (_:BV a H pr t r) (_:∀(H':Hp)(m:MA)(ms':List (Str×MA)),(∀b o,H b=some o->b≠p->b≠mem->H' b=some o)->H' p=some (.ins a.c_Jumps dx (AT "known_cells" (.ref m.kc) (AT "known_squares" (.ref m.l) (AT "rule" (.ref pr) fs))))->H' mem=some (.dK (mK ms'))->WN H H' t ms ms' m->Q .non H'):SpChg a vs H Q
def Su(a:Ad):Sp:=λvs H Q _=>SpChg a vs H Q
theorem ok_chg{f:Addr}{fd:FuncData}(F:Fun K "change" "Jumps.change" DF f fd)(T:Top K mg a)(bT:Cal P w K mg base CX0 1 "shown_rule" GG (Rj a)):AR P w K mg base CX0 2 f fd DP (Su a):=by
 refine F.ok GY (λvs H Q E h=>?_) (λcdv A outer s H vs Q E hr h=>?_)
 ·obtain⟨p,dx,mem,pr,fs,t,r,ms,rfl,_⟩:=h;rfl
 ·obtain⟨p,dx,mem,pr,fs,t,r,ms,rfl,hp,hmem,hfs,hm,few,tps,hR,k⟩:=h;refine⟨_,(Ac (Ax (i:=2) GY.nd rfl (Or.inl rfl) (Az bT (rm hr) rfl Aq (Aa (pv 1) Ab))) (Ac (AU (OW (Lh (DS hr) (pv 2) (AJ (pv 0) rfl))) (Ag (FF (DS hr) (AJ (pv 0) rfl) (pv 2) (Dd (Aa (BL rfl (Bk.of (So:=Ak DF) (No:=Iy) (N:=["e"]) (k:=1) (cs:=[]) rfl rfl A0) (BR rfl T.b_range (Ck Cd (CQ rfl T.k_TOP_LEVEL) Ae Ab)) (λ_ _ _=>(AV (i:=0) A0 rfl rfl)) (λ_ _ _=>Bp) (λ_ _ _=>JA)) (Aa Il Ab))) rfl)) AF) (Ac (Cs (pv 0) (pv 1) rfl) (Ac (Cs (pv 0) (Al An (OY (DS hr) (AJ (pv 0) rfl) (pv 2) (λ_ _=>rfl)) Ae (λ_ _=>rfl)) rfl) (Ag (Cs (pv 0) (Al An (OY (DS hr) (AJ (pv 0) rfl) (pv 2) (λ_ _=>rfl)) Ae (λ_ _=>rfl)) rfl)))))),?_⟩
  try dsimp only[cxK]
  have npm:p≠mem:=As hp hm A2;refine xq1 rfl ⟨pr,t,r,rfl,hR,?_⟩;apply Nh (fun σ H1=>σ=[some (.ref p),some (.ref pr),some (.str t)]/\∃(m:MA)(ms':List (Str×MA)),(∀b o,H b=some o->b≠mem->H1 b=some o)/\H1 mem=some (.dK (mK ms'))/\BK (mK ms') (Sum.inr t)=some (.ref m.tp)/\H1 m.tp=some (.tup [.ref m.l,.ref m.kc])/\WN H H1 t ms ms' m/\m.tp≠p/\(H m.tp=none->m.l≠p/\m.kc≠p/\∀d∈m.ds,d≠p))
  ·intro rest;refine xw2 rfl rfl (xq5 hp T.cl_Jumps T.na_Jumps_memories hmem ⟨mem,(xq1 rfl ⟨Fx.k (k:=Sum.inr t) hm,(xq1 rfl ?_)⟩)⟩);rcases SS t ms with ⟨m,m1,m2⟩|⟨no,nk⟩
   ·rw[m2];refine Bq (rest _ _ ⟨rfl,m,ms,λb o e _=>e,hm,m2,tps _ m1,.old m1 rfl,As (tps _ m1) hp A2,λz=>?_⟩);rw[tps _ m1]at z;cases z
   ·rw[no];refine CN ?_;refine xq2 rfl rfl (xq1 rfl ⟨by decide,by decide,?_⟩);refine Gj (n:=47) (λi acc H2=>Av H H2/\∃ds:List Addr,acc=ds.map V.ref/\ds.length=i/\(∀d∈ds,H2 d=some (.dK []))/\(∀d∈ds,H d=none)/\ds.Nodup) ⟨Av.refl H,[],rfl,rfl,λd hd=>(nomatch hd),λd hd=>(nomatch hd),.nil⟩ ?_ ?_
    ·rintro i acc H2 hi ⟨sm,ds,rfl,ln,c1,c2,nd⟩;refine⟨⟨[some (.int (0+(i:Int)))],rfl,rfl⟩,?_,Eu λd hd=>⟨sm.trans (Ai hd),ds++[d],by rw[C0];rfl,by rw[B8,ln];rfl,λx hx=>?_,λx hx=>?_,?_⟩⟩
     ·rw[B6,ln];exact F5 hi A3
     ·rcases D1.mp hx with z|z
      ·exact Ai hd _ _ (c1 x z)
      ·rw[C7.mp z];exact Af
     ·rcases D1.mp hx with z|z
      ·exact c2 x z
      ·rw[C7.mp z];exact Av.noneN sm hd
     ·rw[N1];refine⟨nd,by simp,λx hx y hy z=>?_⟩;rw[C7.mp hy]at z;rw[<-z,c1 x hx]at hd;cases hd
    ·rintro acc H2 ⟨sm,ds,rfl,ln,c1,c2,nd⟩ l hl;generalize cM:upd H2 l _=H3;obtain⟨s3,hl3⟩:=alc hl cM;intro kc hkc;generalize cY:upd H3 kc _=H4;obtain⟨s4,hk4⟩:=alc hkc cY;refine⟨(by show 2<=sizeLine;decide),λtp htp=>?_⟩;show ∃_,_;generalize cF:upd H4 tp _=H5;obtain⟨s5,ht5⟩:=alc htp cF;have n1:H l=none:=Av.noneN sm hl;have n2:H kc=none:=Av.noneN (sm.trans s3) hkc;have n3:H tp=none:=Av.noneN ((sm.trans s3).trans s4) htp;have s05:=((sm.trans s3).trans s4).trans s5;have hm5:=s05 _ _ hm;refine xwf rfl rfl (s05 _ _ hp) T.cl_Jumps T.na_Jumps_memories hmem (xq1 rfl ⟨mem,(xq1 rfl ⟨JS.k (k:=Sum.inr t) hm5 ?_,?_⟩)⟩)
     ·unfold mK;rw[B6];exact E5 few A3
     ·rw[Jz _ no];have e6:mK ms++[(Sum.inr t,V.ref tp)]=mK (ms++[(t,⟨tp,l,kc,ds⟩)]):=by unfold mK;rw[C0];rfl
      rw[e6];have k6:∀b o,H5 b=some o->b≠mem->upd H5 mem (.dK (mK (ms++[(t,⟨tp,l,kc,ds⟩)]))) b=some o:=λb o e n=>by rw[Ao n];exact e
      have hm6:upd H5 mem (.dK (mK (ms++[(t,⟨tp,l,kc,ds⟩)]))) mem=some (.dK (mK (ms++[(t,⟨tp,l,kc,ds⟩)]))):=Af;generalize upd H5 mem (.dK (mK (ms++[(t,⟨tp,l,kc,ds⟩)])))=H6 at k6 hm6⊢;have nm:∀{x:Addr},H x=none->x≠mem:=λz y=>by rw[y,hm]at z;cases z
      have np:∀{x:Addr},H x=none->x≠p:=λz y=>by rw[y,hp]at z;cases z
      refine rest _ _ ⟨rfl,⟨tp,l,kc,ds⟩,ms++[(t,⟨tp,l,kc,ds⟩)],λb o e n=>k6 _ _ (s05 _ _ e) n,hm6,?_,k6 _ _ ht5 (nm n3),.new rfl nk ⟨n3,n1,n2,c2⟩ (k6 _ _ ht5 (nm n3)) (k6 _ _ (s5 _ _ (s4 _ _ hl3)) (nm n1)) (k6 _ _ (s5 _ _ hk4) (nm n2)) (λd hd=>k6 _ _ (s5 _ _ (s4 _ _ (s3 _ _ (c1 d hd)))) (nm (c2 d hd))) ln nd,np n3,λ_=>⟨np n1,np n2,λd hd=>np (c2 d hd)⟩⟩;rw[<-e6];rw[OF no];exact BI rfl
  rintro σ H1 ⟨rfl,m,ms',k1,hm1,vv,ht1,chg,ntp,nnew⟩;have hp1:=k1 _ _ hp npm;have lf:fs.length<1000:=by lia
  have put:∀{Hk:Hp}{fs':List (Str×V)}(fs'':List (Str×V)),Hk p=some (.ins a.c_Jumps dx fs')->(∀b o,Hk b=some o->b≠p->upd Hk p (.ins a.c_Jumps dx fs'') b=some o)/\upd Hk p (.ins a.c_Jumps dx fs'') p=some (.ins a.c_Jumps dx fs''):=λ{Hk fs'} fs'' e=>⟨λb o e n=>by rw[Ao n];exact e,Af⟩
  refine xw2 rfl rfl ⟨p,_,dx,fs,rfl,hp1,T.cl_Jumps,T.na_Jumps_rule,lf,?_⟩;obtain⟨k2,hp2⟩:=put (AT "rule" (.ref pr) fs) hp1;generalize upd H1 p (.ins a.c_Jumps dx (AT "rule" (.ref pr) fs))=H2 at k2 hp2⊢;have l2:=BD ("rule" : Str) (.ref pr) fs;have look2:(AT "rule" (.ref pr) fs).lookup ("memories" : Str)=some (.ref mem):=by rw[Aj,Z3 A0];exact hmem
  have hm2:=k2 _ _ hm1 (Z7 npm);have ht2:=k2 _ _ ht1 ntp;refine xwf rfl rfl hp2 T.cl_Jumps T.na_Jumps_memories look2 (xq1 rfl ⟨mem,.ref m.tp,rfl,vv▸Fx.k (k:=Sum.inr t) hm2,(xq4 rfl rfl (SqT.of ht2) (Am (j:=0) rfl) (xq1 rfl ⟨p,_,dx,(xq1 rfl ⟨hp2,T.cl_Jumps,T.na_Jumps_known_squares,by lia,?_⟩)⟩))⟩);obtain⟨k3,hp3⟩:=put (AT "known_squares" (.ref m.l) (AT "rule" (.ref pr) fs)) hp2;generalize upd H2 p (.ins a.c_Jumps dx (AT "known_squares" (.ref m.l) (AT "rule" (.ref pr) fs)))=H3 at k3 hp3⊢;have l3:=BD ("known_squares" : Str) (.ref m.l) (AT "rule" (.ref pr) fs);have look3:(AT "known_squares" (.ref m.l) (AT "rule" (.ref pr) fs)).lookup ("memories" : Str)=some (.ref mem):=by rw[Aj,Z3 A0];exact look2
  have hm3:=k3 _ _ hm2 (Z7 npm);have ht3:=k3 _ _ ht2 ntp;refine xwf rfl rfl hp3 T.cl_Jumps T.na_Jumps_memories look3 (xq1 rfl ⟨mem,.ref m.tp,rfl,vv▸Fx.k (k:=Sum.inr t) hm3,(xq4 rfl rfl (SqT.of ht3) (Am (j:=1) rfl) (xq1 rfl ⟨p,_,dx,(xq1 rfl ⟨hp3,T.cl_Jumps,T.na_Jumps_known_cells,by lia,?_⟩)⟩))⟩);obtain⟨k4,hp4⟩:=put (AT "known_cells" (.ref m.kc) (AT "known_squares" (.ref m.l) (AT "rule" (.ref pr) fs))) hp3;have k14:∀b o,H1 b=some o->b≠p->upd H3 p (.ins a.c_Jumps dx (AT "known_cells" (.ref m.kc) (AT "known_squares" (.ref m.l) (AT "rule" (.ref pr) fs)))) b=some o:=λb o e n=>k4 _ _ (k3 _ _ (k2 _ _ e n) n) n;refine k _ m ms' (λb o e n1 n2=>k14 _ _ (k1 _ _ e n2) n1) hp4 (k14 _ _ hm1 (Z7 npm)) ?_;cases chg with
  |old h1 h2=>exact .old h1 h2
  |new h1 h2 h3 h4 h5 h6 h7 h8 h9 =>
   obtain⟨y1,y2,y3⟩:=nnew h3.1;exact .new h1 h2 h3 (k14 _ _ h4 ntp) (k14 _ _ h5 y1) (k14 _ _ h6 y2) (λd hd=>k14 _ _ (h7 d hd) (y3 d hd)) h8 h9
inductive Tm(a:Ad)(vs:List V)(H:Hp)(Q:VK):Prop
 |mk (p dx gp pr:Addr) (t:Str) (r:AA) (_:vs=[.ref p,.ref gp,.ref pr]) (_:H p=some (.ins a.c_Jumps dx [])) (_:BV a H pr t r) (_:∀(H':Hp)(mem:Addr)(m:MA),(∀b o,H b=some o->b≠p->H' b=some o)->H mem=none->H' p=some (.ins a.c_Jumps dx (jf5 gp mem pr m.l m.kc))->H' mem=some (.dK (mK [(t,m)]))->(H m.tp=none/\H m.l=none/\H m.kc=none/\∀d∈m.ds,H d=none)->H' m.tp=some (.tup [.ref m.l,.ref m.kc])->H' m.l=some (.lst (m.ds.map V.ref))->H' m.kc=some (.dT [])->(∀d∈m.ds,H' d=some (.dK []))->m.ds.length=47->m.ds.Nodup->(∀d∈m.ds,d≠mem)->Q .non H'):Tm a vs H Q
def ON(a:Ad):Sp:=λvs H Q _=>Tm a vs H Q
theorem VB{f:Addr}{fd:FuncData}(F:Fun K "__init__" "Jumps.__init__" Gx f fd)(T:Top K mg a)(aR:BJ P w K mg base CX0 2 a.c_Jumps "change" DP (Su a)):AR P w K mg base CX0 3 f fd GM (ON a):=by
 refine F.ok NK (λvs H Q E h=>?_) (λcdv A outer s H vs Q E hr h=>?_)
 ·obtain⟨p,dx,gp,pr,t,r,rfl,_⟩:=h;rfl
 ·obtain⟨p,dx,gp,pr,t,r,rfl,hp,hR,k⟩:=h;refine⟨_,(Ac (Cs (pv 0) (pv 1) rfl) (Ac (Cs (pv 0) JA rfl) (Ag (AZ (Ay (pv 0) aR (rm hr) Aq (Aa (pv 2) Ab)))))),?_⟩
  try dsimp only[cxK]
  refine xw2 rfl rfl ⟨p,_,dx,[],rfl,hp,T.cl_Jumps,T.na_Jumps_grove,B4,?_⟩;have k1:∀b o,H b=some o->b≠p->upd H p (.ins a.c_Jumps dx (AT "grove" (.ref gp) [])) b=some o:=λb o e n=>by rw[Ao n];exact e
  have hp1:upd H p (.ins a.c_Jumps dx (AT "grove" (.ref gp) [])) p=some (.ins a.c_Jumps dx (AT "grove" (.ref gp) [])):=Af;have kn:∀b,upd H p (.ins a.c_Jumps dx (AT "grove" (.ref gp) [])) b=none->H b=none:=λb e=>by
   by_cases z:b=p
   ·rw[z,hp1]at e;cases e
   ·rw[Ao z]at e;exact e
  generalize upd H p (.ins a.c_Jumps dx (AT "grove" (.ref gp) []))=H1 at k1 hp1 kn⊢;intro mem hmem;generalize cC:upd H1 mem _=H2;obtain⟨s2,hm2⟩:=alc hmem cC;have nmp:mem≠p:=λz=>by rw[z,hp1]at hmem;cases hmem
  refine xq1 rfl ⟨p,_,dx,(xq1 rfl ⟨s2 _ _ hp1,T.cl_Jumps,T.na_Jumps_memories,B5,?_⟩)⟩;have k3:∀b o,H2 b=some o->b≠p->upd H2 p (.ins a.c_Jumps dx (jf2 gp mem)) b=some o:=λb o e n=>by rw[Ao n];exact e
  have hp3:upd H2 p (.ins a.c_Jumps dx (jf2 gp mem)) p=some (.ins a.c_Jumps dx (jf2 gp mem)):=Af;have kn3:∀b,upd H2 p (.ins a.c_Jumps dx (jf2 gp mem)) b=none->H b=none:=λb e=>by
   by_cases z:b=p
   ·rw[z,hp3]at e;cases e
   ·rw[Ao z]at e;exact kn _ (Av.noneN s2 e)
  rw[show AT ("memories" : Str) (V.ref mem) (AT ("grove" : Str) (V.ref gp) [])=jf2 gp mem from rfl];generalize upd H2 p (.ins a.c_Jumps dx (jf2 gp mem))=H3 at k3 hp3 kn3⊢;have k03:∀b o,H b=some o->b≠p->H3 b=some o:=λb o e n=>k3 _ _ (s2 _ _ (k1 _ _ e n)) n;have hm3:=k3 _ _ hm2 nmp;have hR3:BV a H3 pr t r:=by
   refine hR.kp λb o e n=>k03 _ _ e λz=>?_;rw[z,hp]at e;cases e;cases n with
   |ins h1 _=>cases h1
  refine xwn rfl rfl hp3 (VZ _ _ A0 A0) rfl ⟨p,dx,mem,pr,jf2 gp mem,t,r,[],rfl,hp3,jf2_mem _ _,by rw[show(jf2 gp mem).length=2 from rfl];decide,hm3,J1 _,λe he=>(nomatch he),hR3,λH' m ms' fr hp' hm' chg=>?_⟩;cases chg with
  |old h1 _=>cases h1
  |new h1 h2 h3 h4 h5 h6 h7 h8 h9 =>
   rw[h1]at hm';refine k H' mem m (λb o e n=>fr _ _ (k03 _ _ e n) n ?_) (kn _ hmem) hp' hm' ⟨kn3 _ h3.1,kn3 _ h3.2.1,kn3 _ h3.2.2.1,λd hd=>kn3 _ (h3.2.2.2 d hd)⟩ h4 h5 h6 h7 h8 h9 λd hd z=>?_
   ·intro z;rw[z]at e;rw[kn _ hmem]at e;cases e
   ·have:=h3.2.2.2 d hd;rw[z,hm3]at this;cases this
end
def qO(G:Gv)(n k:Nat):Nat:=match G[n]? with
 |some q=>(q.parts.getD k 0).toNat
 |none=>0
def cel(G:Gv):Nat->Nat->Nat->Nat->Nat
 |0,n,_,_=>n
 |l+1,n,x,y=>cel G l (qO G n ((x/2^l)%2+2*((y/2^l)%2))) x y
def stp(r:AA)(c:Nat->Nat->Int):Nat->Nat->Int:=λx y=>Dw r (c x y) [c (x-1) (y-1),c x (y-1),c (x+1) (y-1),c (x-1) y,c (x+1) y,c (x-1) (y+1),c x (y+1),c (x+1) (y+1)]
def BH(r:AA):Nat->(Nat->Nat->Int)->Nat->Nat->Int
 |0,c=>c
 |n+1,c=>stp r (BH r n c)
def AW(G:Gv)(l n:Nat):Nat->Nat->Int:=λx y=>(cel G l n x y:Int)
def JR(r:AA)(G:Gv)(e n m:Nat):Prop:=∃l:Nat,Ap G n ((l+2:Nat):Int)/\e<=l/\Ap G m ((l+1:Nat):Int)/\∀x y,x<2^(l+1)->y<2^(l+1)->AW G (l+1) m x y=BH r (2^e) (AW G (l+2) n) (x+2^l) (y+2^l)
theorem GOk.four{G:Gv}(ok:GOk G){n l:Nat}(h:Ap G n ((l+1:Nat):Int)):∃x y z w:Nat,G[n]?=some ⟨[(x:Int),(y:Int),(z:Int),(w:Int)],((l+1:Nat):Int)⟩/\Ap G x (l:Int)/\Ap G y (l:Int)/\Ap G z (l:Int)/\Ap G w (l:Int):=by
 obtain⟨q,e,el⟩:=h;have h8:8<=n:=by
  refine U6 λz=>?_;rw[ok.leaf n z]at e;cases e;have:(0:Int)=((l+1:Nat):Int):=el;lia
 obtain⟨x,y,z,w,p,⟨l1,l2,l3,l4⟩,_⟩:=ok.node n q e h8;have e1:q.lev-1=(l:Int):=by lia
 rw[e1]at l1 l2 l3 l4;refine⟨x,y,z,w,?_,l1,l2,l3,l4⟩;rw[e];cases q with
 |mk pp ll=>cases p;cases el;rfl
theorem GOk.cell{G:Gv}(ok:GOk G){n:Nat}(h:Ap G n 0):n<8:=by
 obtain⟨q,e,el⟩:=h;refine Nat.lt_of_not_le λz=>?_;obtain⟨_,_,_,_,_,_,h1,_⟩:=ok.node n q e z;lia
theorem DH{G:Gv}{n x y z w:Nat}{l:Int}(e:G[n]?=some ⟨[(x:Int),(y:Int),(z:Int),(w:Int)],l⟩):qO G n 0=x/\qO G n 1=y/\qO G n 2=z/\qO G n 3=w:=by
 unfold qO;rw[e];exact⟨rfl,rfl,rfl,rfl⟩
theorem DI{G:Gv}(ok:GOk G){n l:Nat}(h:Ap G n ((l+1:Nat):Int)){k:Nat}(hk:k<4):Ap G (qO G n k) (l:Int):=by
 obtain⟨x,y,z,w,e,h1,h2,h3,h4⟩:=ok.four h;obtain⟨q1,q2,q3,q4⟩:=DH e
 match k,hk with
 |0,_=>rw[q1];exact h1
 |1,_=>rw[q2];exact h2
 |2,_=>rw[q3];exact h3
 |3,_=>rw[q4];exact h4
theorem QS{G G':Gv}{i:Nat}(ok:GOk G)(go:AQ G G' i):∀(l n:Nat),Ap G n (l:Int)->∀x y,cel G' l n x y=cel G l n x y
 |0,n,_,x,y=>rfl
 |l+1,n,h,x,y=>by
  have e:∀k,qO G' n k=qO G n k:=λk=>by
   obtain⟨q,e,_⟩:=h;unfold qO;rw[go.get e,e]
  show cel G' l (qO G' n _) x y=cel G l (qO G n _) x y;rw[e];exact QS ok go l _ (DI ok h A1) x y
theorem BM{G G':Gv}{i:Nat}(ok:GOk G)(go:AQ G G' i){l n:Nat}(h:Ap G n (l:Int)):AW G' l n=AW G l n:=by
 funext x y
 unfold AW;rw[QS ok go l n h]
theorem JR.goes{r:AA}{G G':Gv}{i e n m:Nat}(ok:GOk G)(go:AQ G G' i)(h:JR r G e n m):JR r G' e n m:=by
 obtain⟨l,h1,h2,h3,h4⟩:=h;refine⟨l,go.lev h1,h2,go.lev h3,λx y hx hy=>?_⟩;rw[BM ok go h1,BM ok go h3];exact h4 x y hx hy
def Bs(G:Gv):Prop:=∀j:Nat,j<48->G[8+j]?=some ⟨[(bareN j:Int),(bareN j:Int),(bareN j:Int),(bareN j:Int)],(j:Int)+1⟩
theorem Bs.goes{G G':Gv}{i:Nat}(h:Bs G)(go:AQ G G' i):Bs G':=λj hj=>go.get (h j hj)
theorem Bs.zero{G:Gv}(h:Bs G):∀(l:Nat),l<=48->∀x y,cel G l (bareN l) x y=0
 |0,_,x,y=>rfl
 |l+1,hl,x,y=>by
  obtain⟨q1,q2,q3,q4⟩:=DH (h l A1);have e:∀k,k<4->qO G (8+l) k=bareN l:=λk hk=>by
   match k,hk with
   |0,_=>exact q1
   |1,_=>exact q2
   |2,_=>exact q3
   |3,_=>exact q4
  show cel G l (qO G (8+l) _) x y=0;rw[e _ A1];exact h.zero l A1 x y
theorem PR{r:AA}(h:Dw r 0 Dk=0):∀k,BH r k (λ_ _=>0)=λ_ _=>0
 |0=>rfl
 |k+1=>by
  show stp r (BH r k _)=_;rw[PR h k]
  funext x y
  exact h
theorem Bs.lev{G:Gv}(ok:GOk G)(h:Bs G):∀l:Nat,l<=48->Ap G (bareN l) (l:Int)
 |0,_=>⟨_,ok.leaf 0 A3,rfl⟩
 |l+1,hl=>⟨_,h l A1,by show(l:Int)+1=((l+1:Nat):Int);lia⟩
theorem JR.bare{r:AA}{G:Gv}(ok:GOk G)(h:Bs G)(re:Dw r 0 Dk=0){l e:Nat}(hl:l+2<=48)(he:e<=l):JR r G e (bareN (l+2)) (bareN (l+1)):=by
 refine⟨l,h.lev ok _ hl,he,h.lev ok _ A1,λx y _ _=>?_⟩;have z:∀k,k<=48->AW G k (bareN k)=λ_ _=>0:=λk hk=>by
  funext x y
  unfold AW;rw[h.zero k hk x y];rfl
 rw[z _ hl,z _ A1,PR re]
theorem Wn{r:AA}(h:LE r){cell:Int}(hc:CC cell)(ar:List Int):CC (Dw r cell ar):=by
 cases e:Nr r cell ar with
 |none=>rw[QV e];exact hc
 |some i =>
  obtain⟨c,h1,h2⟩:=QU e;rw[h2];exact(h.ok c (D7 h1)).makes
theorem Wh:∀xs:List Int,xs.length=8->∃a b c d e f g h,xs=[a,b,c,d,e,f,g,h]
 |[a,b,c,d,e,f,g,h],_=>⟨a,b,c,d,e,f,g,h,rfl⟩
structure CY(H:Hp)(g:GA)(G:Gv)(N M:Nat)(r:AA)(m:MA):Prop where
 tp:H m.tp=some (.tup [.ref m.l,.ref m.kc])
 l:H m.l=some (.lst (m.ds.map V.ref))
 ap:m.l≠g.lv/\m.l≠g.pt/\m.kc≠g.nm
 len:m.ds.length=47
 nd:m.ds.Nodup
 sq:∀(e:Nat) d,m.ds[e]?=some d->∃kv,H d=some (.dK kv)/\kv.length<=N/\(∀p∈kv,∃i,p.1=Sum.inl i)/\∀(n:Nat) v,BK kv (Sum.inl (n:Int))=some v->∃k:Nat,v=.int (k:Int)/\JR r G e n k
 ce:∃kc,H m.kc=some (.dT kc)/\kc.length<=M/\∀(ks:List Int) v,BK kc (kOf ks)=some v->∃c ar,ks=c::ar/\v=.int (Dw r c ar)
theorem CY.mono{H:Hp}{g:GA}{G:Gv}{N M N' M':Nat}{r:AA}{m:MA}(h:CY H g G N M r m)(e1:N<=N')(e2:M<=M'):CY H g G N' M' r m:=by
 refine⟨h.tp,h.l,h.ap,h.len,h.nd,λe d ed=>?_,?_⟩
 ·obtain⟨kv,h1,h2,h3,h4⟩:=h.sq e d ed;exact⟨kv,h1,D4 h2 e1,h3,h4⟩
 ·obtain⟨kc,h1,h2,h3⟩:=h.ce;exact⟨kc,h1,D4 h2 e2,h3⟩
theorem CY.kp{H H':Hp}{g:GA}{G G':Gv}{N M i:Nat}{r:AA}{m:MA}(h:CY H g G N M r m)(ok:GOk G)(go:AQ G G' i)(k:∀b o,H b=some o->b=m.tp\/b=m.l\/b∈m.ds\/b=m.kc->H' b=some o):CY H' g G' N M r m:=by
 refine⟨k _ _ h.tp (.inl rfl),k _ _ h.l (.inr (.inl rfl)),h.ap,h.len,h.nd,λe d ed=>?_,?_⟩
 ·obtain⟨kv,h1,h2,h3,h4⟩:=h.sq e d ed;refine⟨kv,k _ _ h1 (.inr (.inr (.inl (D7 ed)))),h2,h3,λn v hv=>?_⟩;obtain⟨x,e1,e2⟩:=h4 n v hv;exact⟨x,e1,e2.goes ok go⟩
 ·obtain⟨kc,h1,h2,h3⟩:=h.ce;exact⟨kc,k _ _ h1 (.inr (.inr (.inr rfl))),h2,h3⟩
structure JW(a:Ad)(H:Hp)(g:GA)(G:Gv)(N M:Nat)(p dx mem pr:Addr)(r:AA)(m:MA):Prop where
 gr:AD a H g G
 ok:GOk G
 bs:Bs G
 br:H g.br=some (.lst ((Et 48).map V.int))
 nbr:g.br≠g.lv/\g.br≠g.pt
 hp:H p=some (.ins a.c_Jumps dx (jf5 g.p mem pr m.l m.kc))
 ru:BV a H pr (BS r) r
 rok:LE r
 rest:Dw r 0 Dk=0
 me:CY H g G N M r m
theorem JW.same{a:Ad}{H H':Hp}{g:GA}{G:Gv}{N M:Nat}{p dx mem pr:Addr}{r:AA}{m:MA}(s:Av H H')(h:JW a H g G N M p dx mem pr r m):JW a H' g G N M p dx mem pr r m :=
 ⟨h.gr.same s,h.ok,h.bs,s _ _ h.br,h.nbr,s _ _ h.hp,h.ru.same s,h.rok,h.rest,h.me.kp h.ok (AQ.refl h.ok) λb o e _=>s _ _ e⟩
theorem JW.mono{a:Ad}{H:Hp}{g:GA}{G:Gv}{N M N' M':Nat}{p dx mem pr:Addr}{r:AA}{m:MA}(h:JW a H g G N M p dx mem pr r m)(e1:N<=N')(e2:M<=M'):JW a H g G N' M' p dx mem pr r m :=
 ⟨h.gr,h.ok,h.bs,h.br,h.nbr,h.hp,h.ru,h.rok,h.rest,h.me.mono e1 e2⟩
theorem CY.fr{a:Ad}{H H':Hp}{g:GA}{G G':Gv}{N M i:Nat}{r:AA}{m:MA}(h:CY H g G N M r m)(hg:AD a H g G)(ok:GOk G)(f:Fr g H H')(go:AQ G G' i):CY H' g G' N M r m:=by
 obtain⟨ts,h3,_⟩:=hg.pt;refine h.kp ok go λb o e w=>?_;rcases w with z|z|z|z
 ·have e2:=h.tp;rw[<-z,e]at e2;cases e2;exact f _ _ e (As e hg.lv A2) (As e h3 A2) (As e hg.nm A2)
 ·have e2:=h.l;rw[z]at e⊢;rw[e]at e2;cases e2;exact f _ _ e h.ap.1 h.ap.2.1 (As e hg.nm A2)
 ·obtain⟨j,hj⟩:=E8 z;obtain⟨kv,e2,_⟩:=h.sq j b hj;rw[e]at e2;cases e2;exact f _ _ e (As e hg.lv A2) (As e h3 A2) (As e hg.nm A2)
 ·obtain⟨kc,e2,_⟩:=h.ce;rw[z]at e⊢;rw[e]at e2;cases e2;exact f _ _ e (As e hg.lv A2) (As e h3 A2) h.ap.2.2
theorem BV.fr{a:Ad}{H H':Hp}{g:GA}{G:Gv}{p:Addr}{x:Str}{r:AA}(h:BV a H p x r)(hg:AD a H g G)(f:Fr g H H'):BV a H' p x r:=by
 obtain⟨ts,h3,_⟩:=hg.pt;exact h.kp λb o e n=>f _ _ e (As e hg.lv (by intro z;rw[z]at n;cases n)) (As e h3 (by intro z;rw[z]at n;cases n)) (As e hg.nm (by intro z;rw[z]at n;cases n))
theorem JW.fr{a:Ad}{H H':Hp}{g:GA}{G G':Gv}{N M i:Nat}{p dx mem pr:Addr}{r:AA}{m:MA}(h:JW a H g G N M p dx mem pr r m)(f:Fr g H H')(hg':AD a H' g G')(go:AQ G G' i):JW a H' g G' N M p dx mem pr r m:=by
 obtain⟨ts,h3,_⟩:=h.gr.pt;refine⟨hg',go.ok,h.bs.goes go,f _ _ h.br h.nbr.1 h.nbr.2 (As h.br h.gr.nm A2),h.nbr,f _ _ h.hp (As h.hp h.gr.lv A2) (As h.hp h3 A2) (As h.hp h.gr.nm A2),h.ru.fr h.gr f,h.rok,h.rest,h.me.fr h.gr h.ok f go⟩
def FrJ(g:GA)(m:MA)(H H':Hp):Prop:=∀b o,H b=some o->b≠g.lv->b≠g.pt->b≠g.nm->b≠m.kc->b∉m.ds->H' b=some o
theorem FrJ.trans{g:GA}{m:MA}{H1 H2 H3:Hp}(h:FrJ g m H1 H2)(k:FrJ g m H2 H3):FrJ g m H1 H3:=λb o e n1 n2 n3 n4 n5=>k _ _ (h _ _ e n1 n2 n3 n4 n5) n1 n2 n3 n4 n5
theorem Fr.j{g:GA}{m:MA}{H1 H2:Hp}(h:Fr g H1 H2):FrJ g m H1 H2:=λb o e n1 n2 n3 _ _=>h _ _ e n1 n2 n3
theorem Av.j{g:GA}{m:MA}{H1 H2:Hp}(h:Av H1 H2):FrJ g m H1 H2:=λb o e _ _ _ _ _=>h _ _ e
theorem JW.putC{a:Ad}{H:Hp}{g:GA}{G:Gv}{N M:Nat}{p dx mem pr:Addr}{r:AA}{m:MA}{kc:List (List Key×V)}(h:JW a H g G N M p dx mem pr r m)(len:kc.length<=M+1)(sem:∀(ks:List Int) v,BK kc (kOf ks)=some v->∃c ar,ks=c::ar/\v=.int (Dw r c ar)):JW a (upd H m.kc (.dT kc)) g G N (M+1) p dx mem pr r m:=by
 obtain⟨kc0,hk,_⟩:=h.me.ce;have other:∀{b v},H b=some v->(∀kk,v≠.dT kk)->upd H m.kc (.dT kc) b=some v:=λ{b v} e n=>by rw[Ao (As e hk (n _))];exact e
 obtain⟨ts,h3,h4⟩:=h.gr.pt;refine⟨⟨other h.gr.hp A6,other h.gr.lv A6,⟨ts,other h3 A6,PairedM.imp (λt q z=>other z A6) h4⟩,by rw[Ao (Z7 h.me.ap.2.2)];exact h.gr.nm,h.gr.ne⟩,h.ok,h.bs,other h.br A6,h.nbr,other h.hp A6,h.ru.kp λb o e n=>other e λkk z=>(by rw[z]at n;cases n),h.rok,h.rest,⟨other h.me.tp A6,other h.me.l A6,h.me.ap,h.me.len,h.me.nd,λe d ed=>?_,⟨kc,Af,len,sem⟩⟩⟩;obtain⟨kv,q1,q2,q3,q4⟩:=h.me.sq e d ed;exact⟨kv,other q1 A6,q2,q3,q4⟩
theorem JW.putS{a:Ad}{H:Hp}{g:GA}{G:Gv}{N M:Nat}{p dx mem pr:Addr}{r:AA}{m:MA}{e:Nat}{d:Addr}{kv:List (Key×V)}{n k:Nat}(h:JW a H g G N M p dx mem pr r m)(ed:m.ds[e]?=some d)(hd:H d=some (.dK kv))(jr:JR r G e n k):JW a (upd H d (.dK (EX kv (Sum.inl (n:Int)) (.int (k:Int))))) g G (N+1) M p dx mem pr r m:=by
 have other:∀{b v},H b=some v->(∀kk,v≠.dK kk)->upd H d (.dK (EX kv (Sum.inl (n:Int)) (.int (k:Int)))) b=some v:=λ{b v} e n=>by rw[Ao (As e hd (n _))];exact e
 obtain⟨ts,h3,h4⟩:=h.gr.pt;obtain⟨kc,c1,c2,c3⟩:=h.me.ce;refine⟨⟨other h.gr.hp A6,other h.gr.lv A6,⟨ts,other h3 A6,PairedM.imp (λt q z=>other z A6) h4⟩,other h.gr.nm A6,h.gr.ne⟩,h.ok,h.bs,other h.br A6,h.nbr,other h.hp A6,h.ru.kp λb o e n=>other e λkk z=>(by rw[z]at n;cases n),h.rok,h.rest,⟨other h.me.tp A6,other h.me.l A6,h.me.ap,h.me.len,h.me.nd,λe' d' ed'=>?_,⟨kc,other c1 A6,c2,c3⟩⟩⟩;obtain⟨kv',q1,q2,q3,q4⟩:=h.me.sq e' d' ed';by_cases z:e'=e
 ·rw[z,ed]at ed';cases ed';rw[hd]at q1;cases q1;subst z;refine⟨_,Af,D4 (FJ _ _ _) A1,λq hq=>?_,λn' v hv=>?_⟩
  ·unfold EX at hq;split at hq
   ·obtain⟨q0,h0,rfl⟩:=E4.mp hq;split
    ·exact q3 q0 h0
    ·exact q3 q0 h0
   ·rcases D1.mp hq with y|y
    ·exact q3 q y
    ·rw[C7.mp y];exact⟨_,rfl⟩
  ·rw[PM]at hv;split at hv
   ·rename_i y;have:n'=n:=by have:=Sum.inl.inj y;lia
    rw[this];cases hv;exact⟨k,rfl,jr⟩
   ·exact q4 n' v hv
 ·have nd:d'≠d:=λy=>z (by
   rw[y]at ed';exact(List.getElem?_inj (B7.mp ed').1 h.me.nd).mp (ed'.trans ed.symm))
  exact⟨kv',by rw[Ao nd];exact q1,D4 q2 A1,q3,q4⟩
section
variable{P:Program}{w:World}{K:PySem.W.Frag}{mg:Str->Option Value}{base:Heap}{a:Ad}
inductive WI(a:Ad)(vs:List V)(H:Hp)(Q:VK):Prop
 |mk (p dx mem pr t:Addr) (g:GA) (G:Gv) (N M:Nat) (r:AA) (m:MA) (c:Int) (ar:List Int) (_:vs=[.ref p,.ref t]) (_:JW a H g G N M p dx mem pr r m) (_:H t=some (.tup ((c::ar).map V.int))) (_:ar.length=8) (_:∀x∈c::ar,CC x) (_:M<1000000) (_:∀H',(∀b o,H b=some o->b≠m.kc->H' b=some o)->JW a H' g G N (M+1) p dx mem pr r m->Q (.int (Dw r c ar)) H'):WI a vs H Q
def Sw(a:Ad):Sp:=λvs H Q _=>WI a vs H Q
theorem ok_cel{f:Addr}{fd:FuncData}(F:Fun K "cell_after" "Jumps.cell_after" Cr f fd)(T:Top K mg a)(aL:BJ P w K mg base CX0 4 a.c_Grove "state_of" CT (Sm a))(aZ:BJ P w K mg base CX0 3 a.c_Grove "leaf" EI (OL a))(bG:Cal P w K mg base CX0 5 "becomes" IO (Sz a)):AR P w K mg base CX0 6 f fd Dp (Sw a):=by
 refine F.ok Cg (λvs H Q E h=>?_) (λcdv A outer s H vs Q E hr h=>?_)
 ·obtain⟨p,dx,mem,pr,t,g,G,N,M,r,m,c,ar,rfl,_⟩:=h;rfl
 ·obtain⟨p,dx,mem,pr,t,g,G,N,M,r,m,c,ar,rfl,hj,ht,h8,sts,few,k⟩:=h;obtain⟨kc,c1,c2,c3⟩:=hj.me.ce;have htk:H t=some (.tup ((kOf (c::ar)).map kV)):=by rw[VV];exact ht
  refine⟨_,(Ac (Ax (i:=2) Cg.nd rfl (Or.inl rfl) (MP (DS hr) (AJ (pv 0) rfl) (pv 1) ⟨rfl,rfl,rfl,rfl⟩)) (Ac (AU (AI MT (pv 2) Ik (AM _)) (Ac (Do (i:=3) rfl Cg.nd rfl rfl (Bk.of (So:=Ak Cr) (No:=Fq) (N:=["one","self"]) (k:=1) (cs:=[0]) rfl rfl A0) (Ld (pv 1)) (λ_ _ _=>(AV (i:=0) A0 rfl rfl)) (λ_ _ _=>Bp) (λ_ _ _=>(Ay (OX (K:=K) rfl (pv 1) rfl) aL (rm hr) Aq (Aa (pv 0) Ab)))) (Ac (Ax (i:=2) Cg.nd rfl (Or.inl rfl) (Ay (AJ (pv 0) rfl) aZ (rm hr) Aq (Aa (Az bG (rm hr) rfl Aq (Aa (AJ (pv 0) rfl) (Aa (Al Ar (pv 3) Ae (λ_ _=>rfl)) (Aa (Gi IL (pv 3) (DJ Ae) po_none) Ab)))) Ab))) (Ag (FF (DS hr) (AJ (pv 0) rfl) (pv 1) (pv 2) rfl)))) AF) (Ag (Au (pv 2))))),?_⟩
  try dsimp only[cxK]
  refine xwf rfl rfl hj.hp T.cl_Jumps T.na_Jumps_known_cells (VY _ _ _ _ _) ⟨m.kc,rfl,.inr ⟨_,.inl c1⟩,(xq1 rfl ⟨_,Fx.t (k:=kOf (c::ar)) c1 htk,?_⟩)⟩;cases ev:BK kc (kOf (c::ar))with
  |some v =>
   obtain⟨c',ar',e1,e2⟩:=c3 _ v ev;cases e1;rw[e2];exact xq1 rfl ⟨rfl,(xq1 rfl (Bq (xq1 rfl (k H (λb o e _=>e) (hj.mono (C8 _) (S1 _))))))⟩
  |none =>
   refine xq1 rfl ⟨rfl,(xq1 rfl (CN ?_))⟩;refine xq1 rfl ⟨t,rfl,⟨_,SqT.of ht⟩,?_⟩;refine Mp (xs:=(c::ar).map V.int) (λi acc H2=>H=H2/\acc=((c::ar).take i).map V.int) ⟨rfl,rfl⟩ (λi acc H2 _ z=>z.1▸SqT.of ht) ?_ ?_
   ·rintro i v acc H2 ev2 ⟨rfl,rfl⟩;rw[B9]at ev2;obtain⟨x,ex,rfl⟩:=D5.mp ev2;obtain⟨x0,x8⟩:=sts x (D7 ex);obtain⟨n,rfl⟩:=M4 x0;refine⟨⟨[some (.int (n:Int))],rfl,rfl⟩,?_,Eu (xq1 rfl (xq5 hj.hp T.cl_Jumps T.na_Jumps_grove (DQ _ _ _ _ _) (xq3 rfl hj.gr.hp (Jp g) (xq1 rfl ⟨g,G,n,_,rfl,hj.gr,hj.ok.leaf n A1,rfl,rfl,?_⟩))))⟩
    ·rw[B6,J7];exact E5 (U5 _ _) (by rw[E7,h8];decide)
    ·rw[F4,ex,J0,C0];rfl
   ·rintro acc H2 ⟨rfl,rfl⟩ L hL;rw[B6,F7];generalize bH:upd H L _=H1;obtain⟨s1,hL1⟩:=alc hL bH;have hj1:=hj.same s1;refine xwf rfl rfl hj1.hp T.cl_Jumps T.na_Jumps_grove (DQ _ _ _ _ _) (xq3 rfl hj1.gr.hp (SR g) (xwf rfl rfl hj1.hp T.cl_Jumps T.na_Jumps_rule (jf5_ru _ _ _ _ _) (xwi rfl rfl rfl (SqL.of hL1) (Am (j:=0) rfl) ?_)));refine xq1 rfl ⟨1,rfl,L,(xq1 rfl ⟨SqL.of hL1,λSL hSL=>?_⟩)⟩;have ecut:Nt ((c::ar).map V.int) (some 1) none=ar.map V.int:=by
     obtain⟨x1,x2,x3,x4,x5,x6,x7,x8,rfl⟩:=Wh ar h8;rfl
    rw[ecut];generalize cC:upd H1 SL _=H2;obtain⟨s2,hS2⟩:=alc hSL cC;have hj2:=hj1.same s2;refine⟨pr,SL,_,r,c,ar,rfl,hj2.ru,hj2.rok.rok,hS2,λH3 s3=>?_⟩;have hj3:=hj2.same s3;have s03:=(s1.trans s2).trans s3;have bst:=Wn hj.rok (sts c D8) ar;refine⟨g.p,_,rfl,bst.1,bst.2,?_⟩;refine xq1 rfl (xq1 rfl (xq5 hj3.hp T.cl_Jumps T.na_Jumps_known_cells (VY _ _ _ _ _) (xq1 rfl ⟨m.kc,(xq1 rfl ⟨JS.t (k:=kOf (c::ar)) (s03 _ _ c1) (s03 _ _ htk) (E5 (show kc.length<=1000000 by lia) A3),?_⟩)⟩)));refine xq1 rfl (k _ (λb o e n=>by rw[Ao n];exact s03 _ _ e) (hj3.putC (D4 (FJ _ _ _) A1) λks v hv=>?_));rw[PM]at hv;split at hv
    ·rename_i y;rw[Mm y];cases hv;exact⟨c,ar,rfl,rfl⟩
    ·exact c3 ks v hv
end
def spNo:Sp:=λ_ _ _ _=>False
theorem AR.no{P:Program}{w:World}{K:PySem.W.Frag}{mg:Str->Option Value}{base:Heap}{CX:CXT}{k:Nat}{f:Addr}{fd:FuncData}{ps:List Str}:AR P w K mg base CX k f fd ps spNo :=
 ⟨λ_ _ _ _ h=>h.elim,λ_ _ _ _ _ _ _ _ _ _ _ _ _ h=>h.elim⟩
theorem AQ.mono{G G':Gv}{n m:Nat}(h:AQ G G' n)(e:n<=m):AQ G G' m:=⟨h.ok,h.pre,D4 h.few A1⟩
theorem bareJ{l:Nat}(h:l<=48):((Et 48).map V.int)[l]?=some (.int (bareN l:Int)):=by
 unfold Et;rw[B9,B9,O1 A1];rfl
section
variable{P:Program}{w:World}{K:PySem.W.Frag}{mg:Str->Option Value}{base:Heap}{a:Ad}
theorem tretl {ts:TA} {D:Ja} {σ:St} {H:Hp} (h:ts σ H λxs H1=>xs.length<=sizeLine/\∀p,H1 p=none->D.rt (.ref p) (upd H1 p (.lst xs))):tRet (tLst ts) D σ H:=h
theorem FA {ta:TE} {tr:TA} {σ:St} {H:Hp} {Q:List V->Hp->Prop} (h:ta σ H λx H1=>tr σ H1 λxs H2=>Q (x::xs) H2):CF ta tr σ H Q:=h
theorem ixt{K:PySem.W.Frag}{σ:St}{i:Nat}{H:Hp}{t:Addr}{xs:List V}{j:Int}{v:V}{Q:VK}(r:σ[i]?=some (some (.ref t)))(h:H t=some (.tup xs))(e:atI xs j=some v)(k:Q v H):tOp (IW K) (Gf i) (tC (V.int j)) σ H Q:=⟨_,r,t,xs,j,v,rfl,rfl,SqT.of h,e,k⟩
theorem ixp{K:PySem.W.Frag}{H:Hp}{p t:Addr}{ts:List Addr}{n:Nat}{Q:VK}(h:H p=some (.lst (ts.map V.ref)))(e:ts[n]?=some t)(k:Q (.ref t) H):rIxL K (.ref p) (.int n) H Q:=⟨p,_,n,_,rfl,rfl,SqL.of h,Am (by rw[B9,e];rfl),k⟩
structure Ln(a:Ad)(g:GA)(H0:Hp)(G0:Gv)(j:Nat)(H:Hp)(G:Gv):Prop where
 fr:Fr g H0 H
 kt:∀{b:Addr}{xs:List V},H0 b=some (.tup xs)->H b=some (.tup xs)
 gr:AD a H g G
 go:AQ G0 G j
theorem lnk{a:Ad}{H0 H:Hp}{g:GA}{G0 G:Gv}{j:Nat}{u:Addr}{x y z w:Nat}{l:Int}{Q:VK}(s:Ln a g H0 G0 j H G)(hu:H u=none)(lv:Ap G0 x l/\Ap G0 y l/\Ap G0 z l/\Ap G0 w l)(h47:l<=47)(few:G0.length+j<9000000)
  (k:∀(n:Nat)(G':Gv)(H':Hp),Ln a g H0 G0 (j+1) H' G'->AQ G G' 1->G'[n]?=some ⟨[(x:Int),(y:Int),(z:Int),(w:Int)],l+1⟩->Q (.int n) H'):RZ a [.ref g.p,.ref u] (upd H u (.tup [.int x,.int y,.int z,.int w])) Q:=by
 generalize e_1:upd H u _=H1;obtain⟨s1,h1⟩:=alc hu e_1;have i1:=s.gr.same s1;have lf:=s.go.few;refine⟨g,G,u,x,y,z,w,l,rfl,i1,s.go.ok,h1,⟨s.go.lev lv.1,s.go.lev lv.2.1,s.go.lev lv.2.2.1,s.go.lev lv.2.2.2⟩,h47,by lia,λn G' H' fr hg go e=>k n G' H' ⟨s.fr.trans ((Av.fr s1).trans fr),λ{b xs} e=>?_,hg,s.go.trans go⟩ go e⟩;obtain⟨us,q3,_⟩:=i1.pt;have e':=s1 _ _ (s.kt e);exact fr _ _ e' (As e' i1.lv A2) (As e' q3 A2) (As e' i1.nm A2)
theorem ttup {ts:TA} {σ:St} {H:Hp} {Q:VK} (h:ts σ H λxs H1=>xs.length<=sizeLine/\∀p,H1 p=none->Q (.ref p) (upd H1 p (.tup xs))):UM ts σ H Q:=h
theorem al9{P:Int->Prop}{a b c d e f g h i:Int}(ha:P a)(hb:P b)(hc:P c)(hd:P d)(he:P e)(hf:P f)(hg:P g)(hh:P h)(hi:P i):∀x∈[a,b,c,d,e,f,g,h,i],P x:=by
 intro x hx;simp only[D6,F8,K8]at hx;rcases hx with rfl|rfl|rfl|rfl|rfl|rfl|rfl|rfl|rfl<;>assumption
structure Lc(g:GA)(m:MA)(H0 H:Hp):Prop where
 fr:FrJ g m H0 H
 kt:∀{b:Addr}{xs:List V},H0 b=some (.tup xs)->H b=some (.tup xs)
theorem celT{a:Ad}{H0 H:Hp}{g:GA}{G:Gv}{N M:Nat}{p dx mem pr u:Addr}{r:AA}{m:MA}{c:Int}{ar:List Int}{Q:VK}(hj:JW a H g G N M p dx mem pr r m)(lc:Lc g m H0 H)(hu:H u=none)(sts:∀x∈c::ar,CC x)(hl:ar.length=8)(hM:M<1000000)
  (h:∀(k:Nat)(Y:Hp),Dw r c ar=k->k<8->Lc g m H0 Y->JW a Y g G N (M+1) p dx mem pr r m->Q (.int k) Y):WI a [.ref p,.ref u] (upd H u (.tup ((c::ar).map V.int))) Q:=by
 generalize e_1:upd H u _=X;obtain⟨s,hv⟩:=alc hu e_1;have i:=hj.same s;refine⟨p,dx,mem,pr,u,g,G,N,M,r,m,c,ar,rfl,i,hv,hl,sts,hM,λY fr hj'=>?_⟩;obtain⟨z1,z2⟩:=Wn hj.rok (sts c (.head ..)) ar;obtain⟨k,e⟩:=M4 z1;rw[e];refine h k Y e A1 ⟨lc.fr.trans λb o e _ _ _ n4 _=>fr _ _ (s _ _ e) n4,λ{b xs} e=>?_⟩ hj';obtain⟨kc,c1,_⟩:=i.me.ce;have e:=s _ _ (lc.kt e);exact fr _ _ e (As e c1 A2)
theorem cel9{K:PySem.W.Frag}{a:Ad}{H0 H:Hp}{g:GA}{G:Gv}{N M:Nat}{p dx mem pr:Addr}{r:AA}{m:MA}{σ:St}{Q:VK}{i1 i2 i3 i4 i5 i6 i7 i8 i9:Nat}{t1 t2 t3 t4 t5 t6 t7 t8 t9:Addr}{xs1 xs2 xs3 xs4 xs5 xs6 xs7 xs8 xs9:List V}{j1 j2 j3 j4 j5 j6 j7 j8 j9 c1 c2 c3 c4 c5 c6 c7 c8 c9:Int}(hj:JW a H g G N M p dx mem pr r m)(lc:Lc g m H0 H)(h1:H0 t1=some (.tup xs1))(h2:H0 t2=some (.tup xs2))(h3:H0 t3=some (.tup xs3))(h4:H0 t4=some (.tup xs4))(h5:H0 t5=some (.tup xs5))(h6:H0 t6=some (.tup xs6))(h7:H0 t7=some (.tup xs7))(h8:H0 t8=some (.tup xs8))(h9:H0 t9=some (.tup xs9))(sts:∀x∈[c1,c2,c3,c4,c5,c6,c7,c8,c9],CC x)(hM:M<1000000)
  (k:∀(k:Nat)(Y:Hp),Dw r c1 [c2,c3,c4,c5,c6,c7,c8,c9]=k->k<8->Lc g m H0 Y->JW a Y g G N (M+1) p dx mem pr r m->Q (.int k) Y) (e:σ[0]?=some (some (.ref p))/\(σ[i1]?=some (some (.ref t1))/\atI xs1 j1=some (.int c1))/\(σ[i2]?=some (some (.ref t2))/\atI xs2 j2=some (.int c2))/\(σ[i3]?=some (some (.ref t3))/\atI xs3 j3=some (.int c3))/\(σ[i4]?=some (some (.ref t4))/\atI xs4 j4=some (.int c4))/\(σ[i5]?=some (some (.ref t5))/\atI xs5 j5=some (.int c5))/\(σ[i6]?=some (some (.ref t6))/\atI xs6 j6=some (.int c6))/\(σ[i7]?=some (some (.ref t7))/\atI xs7 j7=some (.int c7))/\(σ[i8]?=some (some (.ref t8))/\atI xs8 j8=some (.int c8))/\(σ[i9]?=some (some (.ref t9))/\atI xs9 j9=some (.int c9)):=by exact⟨rfl,⟨rfl,rfl⟩,⟨rfl,rfl⟩,⟨rfl,rfl⟩,⟨rfl,rfl⟩,⟨rfl,rfl⟩,⟨rfl,rfl⟩,⟨rfl,rfl⟩,⟨rfl,rfl⟩,⟨rfl,rfl⟩⟩) :
  Si a.c_Jumps "cell_after" (Sw a) [] E0 (Gf 0) (CF (UM (CF (tOp (IW K) (Gf i1) (tC (V.int j1))) (CF (tOp (IW K) (Gf i2) (tC (V.int j2))) (CF (tOp (IW K) (Gf i3) (tC (V.int j3))) (CF (tOp (IW K) (Gf i4) (tC (V.int j4))) (CF (tOp (IW K) (Gf i5) (tC (V.int j5))) (CF (tOp (IW K) (Gf i6) (tC (V.int j6))) (CF (tOp (IW K) (Gf i7) (tC (V.int j7))) (CF (tOp (IW K) (Gf i8) (tC (V.int j8))) (CF (tOp (IW K) (Gf i9) (tC (V.int j9))) OG)))))))))) OG) σ H Q:=by
 apply AE;intro G_ hG_;obtain⟨r0,⟨r1,e1⟩,⟨r2,e2⟩,⟨r3,e3⟩,⟨r4,e4⟩,⟨r5,e5⟩,⟨r6,e6⟩,⟨r7,e7⟩,⟨r8,e8⟩,⟨r9,e9⟩⟩:=e;apply hG_;clear hG_ G_;exact⟨_,r0,(xq3 rfl hj.hp (VG _ _ _ _ _) (ixt r1 (lc.kt h1) e1 (ixt r2 (lc.kt h2) e2 (ixt r3 (lc.kt h3) e3 (ixt r4 (lc.kt h4) e4 (ixt r5 (lc.kt h5) e5 (ixt r6 (lc.kt h6) e6 (ixt r7 (lc.kt h7) e7 (ixt r8 (lc.kt h8) e8 (ixt r9 (lc.kt h9) e9 ⟨(by show 9<=sizeLine;decide),λ_ hu=>celT hj lc hu sts rfl hM k⟩))))))))))⟩
inductive WA(a:Ad)(vs:List V)(H:Hp)(Q:VK):Prop
 |mk (p dx mem pr:Addr) (g:GA) (G:Gv) (N M:Nat) (r:AA) (m:MA) (n:Nat) (_:vs=[.ref p,.int n]) (_:JW a H g G N M p dx mem pr r m) (_:Ap G n ((1+1:Nat):Int)) (_:M<900000) (_:G.length<8000000) (_:∀(k:Nat)(G':Gv)(H':Hp),FrJ g m H H'->JW a H' g G' N (M+4) p dx mem pr r m->AQ G G' 1->JR r G' 0 n k->Q (.int k) H'):WA a vs H Q
def OK(a:Ad):Sp:=λvs H Q _=>WA a vs H Q
theorem ok_mid2{f:Addr}{fd:FuncData}(F:Fun K "middle_after" "Jumps.middle_after" CI f fd)(T:Top K mg a)(a6:BJ P w K mg base CX0 2 a.c_Grove "linked" BB (FM a))(aK:BJ P w K mg base CX0 6 a.c_Jumps "cell_after" Dp (Sw a)):AR P w K mg base CX0 7 f fd BX (OK a):=by
 refine F.ok Bm (λvs H Q E h=>?_) (λcdv A outer s H vs Q E hr h=>?_)
 ·apply AE;intro G_ hG_;obtain⟨p,dx,mem,pr,g,G,N,M,r,m,n,rfl,_⟩:=h;apply hG_;clear hG_ G_;rfl
 ·apply AE;intro G_ hG_;obtain⟨p,dx,mem,pr,g,G,N,M,r,m,n,rfl,hj,hl,fewM,few,k⟩:=h;obtain⟨qa,qb,qc,qd,en,la,lb,lc,ld⟩:=hj.ok.four hl;obtain⟨a0,a1,a2,a3,ea,la0,la1,la2,la3⟩:=hj.ok.four (l:=0) la;obtain⟨b0,b1,b2,b3,eb,lb0,lb1,lb2,lb3⟩:=hj.ok.four (l:=0) lb;obtain⟨c0,c1,c2,c3,ec,lc0,lc1,lc2,lc3⟩:=hj.ok.four (l:=0) lc;obtain⟨d0,d1,d2,d3,ed,ld0,ld1,ld2,ld3⟩:=hj.ok.four (l:=0) ld;obtain⟨ts,h3,h4⟩:=hj.gr.pt;obtain⟨t,et,ht⟩:=PairedM.get h4 en;obtain⟨ta,eta,hta⟩:=PairedM.get h4 ea;obtain⟨tb,etb,htb⟩:=PairedM.get h4 eb;obtain⟨tc,etc,htc⟩:=PairedM.get h4 ec;obtain⟨td,etd,htd⟩:=PairedM.get h4 ed;apply hG_;clear hG_ G_;refine⟨_,(Ac (Ax (i:=2) Bm.nd rfl (Or.inl rfl) (Al Ar (AJ (AJ (pv 0) rfl) rfl) (pv 1) (λ_ _=>rfl))) (Ac (Ax (i:=3) Bm.nd rfl (Or.inl rfl) (Al Ar (AJ (AJ (pv 0) rfl) rfl) (Al An (pv 2) Ae (λ_ _=>rfl)) (λ_ _=>rfl))) (Ac (Ax (i:=4) Bm.nd rfl (Or.inl rfl) (Al Ar (AJ (AJ (pv 0) rfl) rfl) (Al An (pv 2) Ae (λ_ _=>rfl)) (λ_ _=>rfl))) (Ac (Ax (i:=5) Bm.nd rfl (Or.inl rfl) (Al Ar (AJ (AJ (pv 0) rfl) rfl) (Al An (pv 2) Ae (λ_ _=>rfl)) (λ_ _=>rfl))) (Ac (Ax (i:=6) Bm.nd rfl (Or.inl rfl) (Al Ar (AJ (AJ (pv 0) rfl) rfl) (Al An (pv 2) Ae (λ_ _=>rfl)) (λ_ _=>rfl))) (Ag (Au (Ay (AJ (pv 0) rfl) a6 (rm hr) Aq (Bx (Aa (Ay (pv 0) aK (rm hr) Aq (Bx (Aa (Al An (pv 3) Ae (λ_ _=>rfl)) (Aa (Al An (pv 3) Ae (λ_ _=>rfl)) (Aa (Al An (pv 3) Ae (λ_ _=>rfl)) (Aa (Al An (pv 4) Ae (λ_ _=>rfl)) (Aa (Al An (pv 3) Ae (λ_ _=>rfl)) (Aa (Al An (pv 4) Ae (λ_ _=>rfl)) (Aa (Al An (pv 5) Ae (λ_ _=>rfl)) (Aa (Al An (pv 5) Ae (λ_ _=>rfl)) (Aa (Al An (pv 6) Ae (λ_ _=>rfl)) Ab))))))))) Ab)) (Aa (Ay (pv 0) aK (rm hr) Aq (Bx (Aa (Al An (pv 4) Ae (λ_ _=>rfl)) (Aa (Al An (pv 3) Ae (λ_ _=>rfl)) (Aa (Al An (pv 4) Ae (λ_ _=>rfl)) (Aa (Al An (pv 4) Ae (λ_ _=>rfl)) (Aa (Al An (pv 3) Ae (λ_ _=>rfl)) (Aa (Al An (pv 4) Ae (λ_ _=>rfl)) (Aa (Al An (pv 5) Ae (λ_ _=>rfl)) (Aa (Al An (pv 6) Ae (λ_ _=>rfl)) (Aa (Al An (pv 6) Ae (λ_ _=>rfl)) Ab))))))))) Ab)) (Aa (Ay (pv 0) aK (rm hr) Aq (Bx (Aa (Al An (pv 5) Ae (λ_ _=>rfl)) (Aa (Al An (pv 3) Ae (λ_ _=>rfl)) (Aa (Al An (pv 3) Ae (λ_ _=>rfl)) (Aa (Al An (pv 4) Ae (λ_ _=>rfl)) (Aa (Al An (pv 5) Ae (λ_ _=>rfl)) (Aa (Al An (pv 6) Ae (λ_ _=>rfl)) (Aa (Al An (pv 5) Ae (λ_ _=>rfl)) (Aa (Al An (pv 5) Ae (λ_ _=>rfl)) (Aa (Al An (pv 6) Ae (λ_ _=>rfl)) Ab))))))))) Ab)) (Aa (Ay (pv 0) aK (rm hr) Aq (Bx (Aa (Al An (pv 6) Ae (λ_ _=>rfl)) (Aa (Al An (pv 3) Ae (λ_ _=>rfl)) (Aa (Al An (pv 4) Ae (λ_ _=>rfl)) (Aa (Al An (pv 4) Ae (λ_ _=>rfl)) (Aa (Al An (pv 5) Ae (λ_ _=>rfl)) (Aa (Al An (pv 6) Ae (λ_ _=>rfl)) (Aa (Al An (pv 5) Ae (λ_ _=>rfl)) (Aa (Al An (pv 6) Ae (λ_ _=>rfl)) (Aa (Al An (pv 6) Ae (λ_ _=>rfl)) Ab))))))))) Ab)) Ab)))) Ab))))))))),?_⟩
  try dsimp only[cxK]
  refine AS ?_;intro r_k0 s_k0 k0 hk E_k0;refine xwf rfl rfl hj.hp T.cl_Jumps T.na_Jumps_grove (DQ _ _ _ _ _) (xq5 hj.gr.hp T.cl_Grove T.na_Grove_parts (Eh g) (xq1 rfl (ixp h3 et ?_)));refine hk ?_;refine AS ?_;intro r_k1 s_k1 k1 hk E_k1;refine xwf rfl rfl hj.hp T.cl_Jumps T.na_Jumps_grove (DQ _ _ _ _ _) (xq5 hj.gr.hp T.cl_Grove T.na_Grove_parts (Eh g) (ixt rfl ht rfl (ixp h3 eta ?_)));refine hk ?_;refine AS ?_;intro r_k2 s_k2 k2 hk E_k2;refine xwf rfl rfl hj.hp T.cl_Jumps T.na_Jumps_grove (DQ _ _ _ _ _) (xq5 hj.gr.hp T.cl_Grove T.na_Grove_parts (Eh g) (ixt rfl ht rfl (ixp h3 etb ?_)));refine hk ?_;refine AS ?_;intro r_k3 s_k3 k3 hk E_k3;refine xwf rfl rfl hj.hp T.cl_Jumps T.na_Jumps_grove (DQ _ _ _ _ _) (xq5 hj.gr.hp T.cl_Grove T.na_Grove_parts (Eh g) (ixt rfl ht rfl (ixp h3 etc ?_)));refine hk ?_;refine AS ?_;intro r_k4 s_k4 k4 hk E_k4;refine xwf rfl rfl hj.hp T.cl_Jumps T.na_Jumps_grove (DQ _ _ _ _ _) (xq5 hj.gr.hp T.cl_Grove T.na_Grove_parts (Eh g) (ixt rfl ht rfl (ixp h3 etd ?_)));refine hk ?_;have st:∀{x:Nat},Ap G x ((0:Nat):Int)->CC (x:Int):=λ{x} h=>by
   have:=hj.ok.cell h;exact⟨by lia,by lia⟩
  have c_:Lc g m H H:=⟨λ_ _ e _ _ _ _ _=>e,λe=>e⟩
  refine xwf rfl rfl hj.hp T.cl_Jumps T.na_Jumps_grove (DQ _ _ _ _ _) (xq3 rfl hj.gr.hp (Ec g) ?_);refine FA (ttup (FA (cel9 hj c_ hta hta hta htb hta htb htc htc htd (al9 (st la3) (st la0) (st la1) (st lb0) (st la2) (st lb2) (st lc0) (st lc1) (st ld0)) A1 λk0 Y0 ek0 kl0 x0 j0=>?_)));refine FA (cel9 j0 x0 htb hta htb htb hta htb htc htd htd (al9 (st lb2) (st la1) (st lb0) (st lb1) (st la3) (st lb3) (st lc1) (st ld0) (st ld1)) A1 λk1 Y1 ek1 kl1 x1 j1=>?_);refine FA (cel9 j1 x1 htc hta hta htb htc htd htc htc htd (al9 (st lc1) (st la2) (st la3) (st lb2) (st lc0) (st ld0) (st lc2) (st lc3) (st ld2)) A1 λk2 Y2 ek2 kl2 x2 j2=>?_);refine FA (cel9 j2 x2 htd hta htb htb htc htd htc htd htd (al9 (st ld0) (st la3) (st lb2) (st lb3) (st lc1) (st ld1) (st lc3) (st ld2) (st ld3)) A1 λk3 Y3 ek3 kl3 x3 j3=>?_);have lf:∀{k:Nat},k<8->Ap G k ((0:Nat):Int):=λ{k} h=>⟨_,hj.ok.leaf k h,rfl⟩
  refine⟨(by show 4<=sizeLine;decide),λu hu=>lnk (⟨.refl _ _,λe=>e,j3.gr,.refl hj.ok⟩:Ln a g Y3 G 0 Y3 G) hu ⟨lf kl0,lf kl1,lf kl2,lf kl3⟩ A3 A1 λx G' H' s go e=>?_⟩;refine k x G' H' (x3.fr.trans s.fr.j) (j3.fr s.fr s.gr go) go ⟨0,go.lev hl,C8 0,⟨_,e,rfl⟩,?_⟩;apply AE;intro G_ hG_;obtain⟨rfl,rfl,rfl,rfl⟩:=DH (go.get ea);obtain⟨rfl,rfl,rfl,rfl⟩:=DH (go.get eb);obtain⟨rfl,rfl,rfl,rfl⟩:=DH (go.get ec);obtain⟨rfl,rfl,rfl,rfl⟩:=DH (go.get ed);obtain⟨rfl,rfl,rfl,rfl⟩:=DH (go.get en);obtain⟨rfl,rfl,rfl,rfl⟩:=DH e;apply hG_;clear hG_ G_;intro x' y' hx hy
  match x',hx,y',hy with
  |0,_,0,_=>exact ek0.symm
  |1,_,0,_=>exact ek1.symm
  |0,_,1,_=>exact ek2.symm
  |1,_,1,_=>exact ek3.symm
inductive SpCj(a:Ad)(vs:List V)(H:Hp)(Q:VK):Prop
 |mk (p dx gp mem pr l kc:Addr) (g:GA) (G:Gv) (n e:Nat) (q:Sq) (_:vs=[.ref p,.int n,.int e]) (_:H p=some (.ins a.c_Jumps dx (jf5 g.p mem pr l kc))) (_:AD a H g G) (_:G[n]?=some q) (_:2+(e:Int)<=q.lev) (_:Q .non H):SpCj a vs H Q
def spCj(a:Ad):Sp:=λvs H Q _=>SpCj a vs H Q
theorem ok_cj{f:Addr}{fd:FuncData}(F:Fun K "check_jump" "Jumps.check_jump" Dm f fd)(T:Top K mg a)(a7:BJ P w K mg base CX0 3 a.c_Grove "level_of" BF (Mt a))(aU:Cal P w K mg base CX0 1 "is_whole" Fb UY):AR P w K mg base CX0 4 f fd Ct (spCj a):=by
 refine F.ok EC (λvs H Q E h=>?_) (λcdv A outer s H vs Q E hr h=>?_)
 ·apply AE;intro G_ hG_;obtain⟨p,dx,gp,mem,pr,l,kc,g,G,n,e,q,rfl,_⟩:=h;apply hG_;clear hG_ G_;rfl
 ·apply AE;intro G_ hG_;obtain⟨p,dx,gp,mem,pr,l,kc,g,G,n,e,q,rfl,hp,hg,eq,hl,k⟩:=h;apply hG_;clear hG_ G_;refine⟨_,(Ac (Ax (i:=3) EC.nd rfl (Or.inl rfl) (Ay (AJ (pv 0) rfl) a7 (rm hr) Aq (Aa (pv 1) Ab))) (Ac (AU (AI JE (pv 3) (CQ rfl T.k_LEAST_JUMPED) (AM _)) (Ag BO) AF) (Ag (AU (PW.pt (Jd (CK (CD (Az aU (rm hr) rfl Aq (Aa (pv 2) Ab)))) (GE (CK (MN MS MS Ae (pv 2) (AK Cd (pv 3) (CQ rfl T.k_LEAST_JUMPED))))))) (Ag BO) AF)))),?_⟩
  try dsimp only[cxK]
  refine xwf rfl rfl hp T.cl_Jumps T.na_Jumps_grove (DQ _ _ _ _ _) (xq3 rfl hg.hp (Ed g) (xq1 rfl ⟨g,G,n,q,rfl,hg,eq,?_⟩));refine xwb rfl rfl rfl (xq1 rfl ?_);rw[Z2 (by lia:¬q.lev<2)];refine Bq ?_;refine⟨_,rfl,_,rfl,true,rfl,Bq ⟨_,rfl,_,_,rfl,rfl,_,rfl,?_⟩⟩;rw[Z1 (by lia:(0:Int)<=(e:Int))];refine CN (xwb rfl rfl rfl (xq2 rfl rfl (xq1 rfl ?_)));rw[Z1 (by lia:(e:Int)<=q.lev-2)];exact Bq k
end
end J
namespace J
open PySem L2
theorem Fs{α β:Type}{f:α->β}:∀{l m:List α},(∀x∈l,∀y∈m,f x=f y->x=y)->l.map f=m.map f->l=m
 |[],[],_,_=>rfl
 |[],_::_,_,e=>by cases e
 |_::_,[],_,e=>by cases e
 |x::l,y::m,h,e=>by
  rw[F0,F0]at e;injection e with e1 e2
  rw[h x D8 y D8 e1,Fs (λa ha b hb=>h a (E1 _ ha) b (E1 _ hb)) e2]
theorem sgD_inj{d e:Int}(h:CC d)(k:CC e)(z:sgD d=sgD e):d=e:=by
 have z:[48+d.toNat]=[48+e.toNat]:=X8 (λs:Str=>s.cps.toList) z;injection z with z
 have h0:=h.1;have k0:=k.1;lia
theorem UI{x y:Option Int}(h:wOk x)(k:wOk y)(z:wC x=wC y):x=y:=by
 cases x with
 |none=>cases y with
  |none=>rfl
  |some e =>
   have z:42=48+e.toNat:=z;lia
 |some d=>cases y with
  |none =>
   have z:48+d.toNat=42:=z;lia
  |some e =>
   have z:48+d.toNat=48+e.toNat:=z;have h:CC d:=h;have k:CC e:=k;have h0:=h.1;have k0:=k.1;rw[show d=e by lia]
theorem PF(s:Int)(ns:List Int):(Bb (.am s ns)).cps.toList=(48+s.toNat)::61::ns.map λn=>48+n.toNat:=by
 show(sgD s++⟨#[61]⟩++Dg ns).cps.toList=_;rw[Tx.Ca,Tx.Ca];rfl
theorem pl_no{ws:List (Option Int)}(h:BQ.ok (.pl ws)):61∉(Bb (.pl ws)).cps.toList:=by
 have e:(Bb (.pl ws)).cps.toList=ws.map wC:=rfl;rw[e];intro z;obtain⟨x,hx,e⟩:=E4.mp z;exact(Mq (h.2 x hx)).1 e
theorem Uw{c d:BQ}(h:c.ok)(k:d.ok)(z:Bb c=Bb d):c=d:=by
 cases c with
 |am s ns=>cases d with
  |am t ms =>
   have z:(Bb (.am s ns)).cps.toList=(Bb (.am t ms)).cps.toList:=X8 (λs:Str=>s.cps.toList) z;rw[PF,PF]at z;injection z with z1 z2
   injection z2 with _ z2
   have h0:=h.1.1;have k0:=k.1.1;have e1:s=t:=by lia
   have e2:ns=ms:=Fs (λx hx y hy e=>by
    have h1:=(h.2.2.1 x hx).1;have k1:=(k.2.2.1 y hy).1;lia) z2
   rw[e1,e2]
  |pl ws =>
   exfalso;refine pl_no k ?_;rw[<-z,PF];exact E1 _ D8
 |pl ws=>cases d with
  |am t ms =>
   exfalso;refine pl_no h ?_;rw[z,PF];exact E1 _ D8
  |pl vs =>
   have z:ws.map wC=vs.map wC:=X8 (λs:Str=>s.cps.toList) z;rw[Fs (λx hx y hy e=>UI (h.2 x hx) (k.2 y hy) e) z]
theorem QP{c d:Bj}(h:c.ok)(k:d.ok)(z:Bl c=Bl d):c=d:=by
 have e:=GS h;rw[z,GS k]at e;injection e with e1 e2
 obtain⟨e3,e4⟩:=List.append_inj' e2 rfl;injection e4 with e4
 have e1:[wC d.cell]=[wC c.cell]:=X8 (λs:Str=>s.cps.toList) e1;injection e1 with e1
 have f1:=UI k.cell h.cell e1;have f2:=Fs (λx hx y hy e=>Uw (k.conds x hx) (h.conds y hy) e) e3;have f3:=sgD_inj k.makes h.makes e4;cases c;cases d;cases f1;cases f2;cases f3;rfl
theorem Tz{r s:AA}(h:LE r)(k:LE s)(z:BS r=BS s):r=s:=by
 have no:∀{t:AA},t≠[]->BS t≠BS []:=λ{t} n e=>by
  have:=A5a (SD n);exact this (X8 V.str (e.trans rfl))
 cases r with
 |nil=>cases s with
  |nil=>rfl
  |cons c t=>exact absurd z.symm (no A2)
 |cons c t=>cases s with
  |nil=>exact absurd z (no A2)
  |cons d u =>
   have sp:∀{q:AA},LE q->q≠[]->Txt.split (BS q) ⟨#[59,32]⟩=q.map Bl:=λ{q} hq nq=>by
    refine Tx.LI (q.map Bl) (by intro z;exact nq (List.map_eq_nil_iff.mp z)) λt ht=>?_;obtain⟨c,hc,rfl⟩:=E4.mp ht;exact LS (hq.ok c hc)
   have e:=sp h A2;rw[z,sp k A2]at e;exact(Fs (λx hx y hy e=>QP (k.ok x hx) (h.ok y hy) e) e).symm
def Sv(o:HO):Prop:=Nv o\/∃xs:List V,o=.lst xs/\xs.length<=50
def KpS(H H':Hp):Prop:=∀b o,H b=some o->Sv o->H' b=some o
theorem Sv.lst{xs:List V}(h:xs.length<=50):Sv (.lst xs):=.inr ⟨xs,rfl,h⟩
theorem KpS.refl(H:Hp):KpS H H:=λ_ _ e _=>e
theorem KpS.trans{H1 H2 H3:Hp}(h:KpS H1 H2)(k:KpS H2 H3):KpS H1 H3:=λb o e s=>k b o (h b o e s) s
theorem Av.kps{H H':Hp}(h:Av H H'):KpS H H':=λb o e _=>h b o e
theorem Bs.long{G:Gv}(h:Bs G):56<=G.length:=(B7.mp (h 47 A3)).1
theorem Sv.nl{b x:Addr}{H:Hp}{o:HO}{xs:List V}(s:Sv o)(e:H b=some o)(ex:H x=some (.lst xs))(lx:50<xs.length):b≠x:=λz=>by
 rw[z,ex]at e;cases e;rcases s with s|⟨ys,ey,ly⟩
 ·cases s
 ·cases ey;lia
theorem Sv.nt{b x:Addr}{H:Hp}{o:HO}{k:List (List Key×V)}(s:Sv o)(e:H b=some o)(ex:H x=some (.dT k)):b≠x:=λz=>by
 rw[z,ex]at e;cases e;rcases s with s|⟨ys,ey,ly⟩
 ·cases s
 ·cases ey
theorem Sv.nk{b x:Addr}{H:Hp}{o:HO}{k:List (Key×V)}(s:Sv o)(e:H b=some o)(ex:H x=some (.dK k)):b≠x:=λz=>by
 rw[z,ex]at e;cases e;rcases s with s|⟨ys,ey,ly⟩
 ·cases s
 ·cases ey
theorem Fr.kps{a:Ad}{H H':Hp}{g:GA}{G:Gv}(f:Fr g H H')(hg:AD a H g G)(l56:56<=G.length):KpS H H':=by
 intro b o e s;obtain⟨ts,h3,h4⟩:=hg.pt;have lt:ts.length=G.length:=X5 h4;exact f _ _ e (s.nl e hg.lv (by rw[B6];lia)) (s.nl e h3 (by rw[B6];lia)) (s.nt e hg.nm)
theorem FrJ.kps{a:Ad}{H H':Hp}{g:GA}{G:Gv}{N M:Nat}{r:AA}{m:MA}(f:FrJ g m H H')(hg:AD a H g G)(l56:56<=G.length)(hm:CY H g G N M r m):KpS H H':=by
 intro b o e s;obtain⟨ts,h3,h4⟩:=hg.pt;obtain⟨kc,c1,_⟩:=hm.ce;have lt:ts.length=G.length:=X5 h4;refine f _ _ e (s.nl e hg.lv (by rw[B6];lia)) (s.nl e h3 (by rw[B6];lia)) (s.nt e hg.nm) (s.nt e c1) λz=>?_;obtain⟨j,hj⟩:=E8 z;obtain⟨kv,e2,_⟩:=hm.sq j b hj;exact s.nk e e2 rfl
theorem Paired.impM{α β:Type}{F G:α->β->Prop}:∀{l:List α}{m:List β},(∀x y,y∈m->F x y->G x y)->Paired F l m->Paired G l m
 |_,_,_,.nil=>.nil
 |_,_,h,.cons r t=>.cons (h _ _ D8 r) (Paired.impM (λx y hy=>h x y (E1 _ hy)) t)
theorem Ib.kps{H H':Hp}{q:Addr}{c:LC4}(k:KpS H H')(ok:c.Ok)(h:Ib H q c):Ib H' q c:=by
 obtain⟨la,lw,tas,tws,h1,h2,h3,h4,h5⟩:=h;have l3:=X5 h3;have l5:=X5 h5;have f2:=ok.few;have a8:((c.wis.map λp=>p.1).length:Int)<=9-0:=JQ (c.wis.map λp=>p.1) 0 A3 (λn hn=>by
  obtain⟨p,hp,rfl⟩:=E4.mp hn;have:=(ok.wis p hp).1;lia) (by
   rw[Y7];exact ok.asc)
 rw[B6]at a8;exact⟨la,lw,tas,tws,k _ _ h1 (.inl .tup),k _ _ h2 (.lst (by rw[B6];lia)),Paired.imp (λt p e=>k _ _ e (.inl .tup)) h3,k _ _ h4 (.lst (by rw[B6];lia)),Paired.imp (λt p e=>k _ _ e (.inl .tup)) h5⟩
theorem FK.kps{H H':Hp}{q:Addr}{r:List LC4}(k:KpS H H')(ok:Mb r)(h:FK H q r):FK H' q r:=by
 obtain⟨ts,h1,h2⟩:=h;have l2:=X5 h2;have f:=ok.few;exact⟨ts,k _ _ h1 (.lst (by rw[B6];lia)),Paired.impM (λt c hc e=>e.kps k (ok.ok c hc)) h2⟩
theorem BV.kps{a:Ad}{H H':Hp}{p:Addr}{x:Str}{r:AA}(k:KpS H H')(h:BV a H p x r):BV a H' p x r:=h.kp λb o e n=>k b o e (.inl n)
def Dj(m m':MA):Prop:=m.kc≠m'.kc/\∀d∈m.ds,d∉m'.ds
theorem Dj.symm{m m':MA}(h:Dj m m'):Dj m' m:=⟨Z7 h.1,λd hd z=>h.2 d z hd⟩
theorem CY.nds{H:Hp}{g:GA}{G:Gv}{N M:Nat}{r:AA}{m:MA}(h:CY H g G N M r m){b:Addr}{o:HO}(e:H b=some o)(n:∀kk,o≠.dK kk):b∉m.ds:=λz=>by
 obtain⟨j,hj⟩:=E8 z;obtain⟨kv,e2,_⟩:=h.sq j b hj;rw[e]at e2;cases e2;exact n _ rfl
theorem CY.frJ{a:Ad}{H H':Hp}{g:GA}{G G':Gv}{N M N' M' i:Nat}{r r':AA}{m m':MA}(h:CY H g G N M r m)(h':CY H g G N' M' r' m')(hg:AD a H g G)(ok:GOk G)(dj:Dj m m')(f:FrJ g m' H H')(go:AQ G G' i):CY H' g G' N M r m:=by
 obtain⟨ts,h3,_⟩:=hg.pt;obtain⟨kc',c1',_⟩:=h'.ce;refine h.kp ok go λb o e w=>?_;rcases w with z|z|z|z
 ·have e2:=h.tp;rw[<-z,e]at e2;cases e2;exact f _ _ e (As e hg.lv A2) (As e h3 A2) (As e hg.nm A2) (As e c1' A2) (h'.nds e A6)
 ·have e2:=h.l;rw[z]at e⊢;rw[e]at e2;cases e2;exact f _ _ e h.ap.1 h.ap.2.1 (As e hg.nm A2) (As e c1' A2) (h'.nds e A6)
 ·obtain⟨j,hj⟩:=E8 z;obtain⟨kv,e2,_⟩:=h.sq j b hj;rw[e]at e2;cases e2;exact f _ _ e (As e hg.lv A2) (As e h3 A2) (As e hg.nm A2) (As e c1' A2) (dj.2 _ z)
 ·obtain⟨kc,e2,_⟩:=h.ce;rw[z]at e⊢;rw[e]at e2;cases e2;exact f _ _ e (As e hg.lv A2) (As e h3 A2) h.ap.2.2 dj.1 (h'.nds e A6)
theorem JW.putL{a:Ad}{H:Hp}{g:GA}{G:Gv}{N M:Nat}{p dx mem pr x:Addr}{r:AA}{m:MA}{xs:List V}{o:HO}(h:JW a H g G N M p dx mem pr r m)(hx:H x=some (.lst xs))(n1:x≠g.lv)(n2:x≠g.pt)(n3:x≠g.br)(n4:x≠m.l):JW a (upd H x o) g G N M p dx mem pr r m:=by
 have other:∀{b v},H b=some v->(∀l,v≠.lst l)->upd H x o b=some v:=λ{b v} e n=>by rw[Ao (As e hx (n _))];exact e
 refine⟨h.gr.put hx n1 n2,h.ok,h.bs,by rw[Ao (Z7 n3)];exact h.br,h.nbr,other h.hp A6,h.ru.kp λb o e n=>other e λl z=>(by rw[z]at n;cases n),h.rok,h.rest,h.me.kp h.ok (AQ.refl h.ok) λb o e w=>?_⟩;rcases w with z|z|z|z
 ·have e2:=h.me.tp;rw[<-z,e]at e2;cases e2;exact other e A6
 ·rw[z]at e⊢;rw[Ao (Z7 n4)];exact e
 ·obtain⟨j,hj⟩:=E8 z;obtain⟨kv,e2,_⟩:=h.me.sq j b hj;rw[e]at e2;cases e2;exact other e A6
 ·obtain⟨kc,e2,_⟩:=h.me.ce;rw[z]at e⊢;rw[e]at e2;cases e2;exact other e A6
theorem CY.new{a:Ad}{H H':Hp}{g:GA}{G:Gv}{N M:Nat}{r:AA}{m:MA}(hg:AD a H g G)(nl:H m.l=none)(nk:H m.kc=none)(h4:H' m.tp=some (.tup [.ref m.l,.ref m.kc]))(h5:H' m.l=some (.lst (m.ds.map V.ref)))(h6:H' m.kc=some (.dT []))(h7:∀d∈m.ds,H' d=some (.dK []))(h8:m.ds.length=47)(h9:m.ds.Nodup):CY H' g G N M r m:=by
 obtain⟨ts,h3,_⟩:=hg.pt;exact⟨h4,h5,⟨Z7 (Ah hg.lv nl),Z7 (Ah h3 nl),Z7 (Ah hg.nm nk)⟩,h8,h9,λe d ed=>⟨[],h7 d (D7 ed),J1 _,λp hp=>(nomatch hp),λn v hv=>by cases hv⟩,⟨[],h6,J1 _,λks v hv=>by cases hv⟩⟩
structure JB where
 p:Addr
 dx:Addr
 mem:Addr
 pr:Addr
 rl:List LC4
 m:MA
def JB.r(b:JB):AA:=b.rl.map LC4.a
def JWB(a:Ad)(H:Hp)(g:GA)(G:Gv)(N M:Nat)(b:JB):Prop:=JW a H g G N M b.p b.dx b.mem b.pr b.r b.m
theorem FrJ.mem{a:Ad}{H H':Hp}{g:GA}{G:Gv}{N M:Nat}{r:AA}{m:MA}{x:Addr}{k:List (Key×V)}(f:FrJ g m H H')(hg:AD a H g G)(hm:CY H g G N M r m)(e:H x=some (.dK k))(n:x∉m.ds):H' x=some (.dK k):=by
 obtain⟨ts,h3,_⟩:=hg.pt;obtain⟨kc,c1,_⟩:=hm.ce;exact f _ _ e (As e hg.lv A2) (As e h3 A2) (As e hg.nm A2) (As e c1 A2) n
section
variable{a:Ad}{H H':Hp}{g:GA}{G G':Gv}{N M i:Nat}{b1 b2:JB}
end
structure Mems(H:Hp)(g:GA)(G:Gv)(N M:Nat)(mem:Addr)(ms:List (Str×MA)):Prop where
 hm:H mem=some (.dK (mK ms))
 all:∀e∈ms,∃r,e.1=BS r/\LE r/\CY H g G N M r e.2/\mem∉e.2.ds
 dj:∀e∈ms,∀e'∈ms,e=e'\/Dj e.2 e'.2
structure Fw(a:Ad)(H:Hp)(g:GA)(G:Gv)(N M:Nat)(b:JB)(ms:List (Str×MA)):Prop where
 j:JWB a H g G N M b
 me:Mems H g G N M b.mem ms
 cur:(BS b.r,b.m)∈ms
section
variable{a:Ad}{H H':Hp}{g:GA}{G G':Gv}{N M i:Nat}{b b1 b2:JB}{ms ms':List (Str×MA)}
theorem Fw.same(h:Fw a H g G N M b ms)(s:Av H H'):Fw a H' g G N M b ms:=by
 have j:JW a H g G N M b.p b.dx b.mem b.pr b.r b.m:=h.j;refine⟨JW.same s h.j,⟨s _ _ h.me.hm,λe he=>?_,h.me.dj⟩,h.cur⟩;obtain⟨r,e1,e2,e3,e4⟩:=h.me.all e he;exact⟨r,e1,e2,e3.kp j.ok (AQ.refl j.ok) λb o e _=>s _ _ e,e4⟩
theorem Ti{p dx mem gp me2 pr l kc:Addr}{k:List (Key×V)}(hp:H p=some (.ins a.c_Jumps dx (jf5 gp me2 pr l kc)))(hm:H mem=some (.dK k))(fr:∀b o,H b=some o->b≠p->b≠mem->H' b=some o):KpS H H':=λb o e s=>fr _ _ e (λz=>by
  rw[z,hp]at e;cases e;rcases s with s|⟨_,s,_⟩
  ·cases s with
   |ins h1 h2 =>
    rw[Pq]at h2;exact absurd h2 (by show ¬5<=3;decide)
  ·cases s) (s.nk e hm)
theorem Fw.chg{pr':Addr}{rl':List LC4}{m':MA}(h:Fw a H g G N M b ms)(ok:Mb rl')(rest:Dw (rl'.map LC4.a) 0 Dk=0)(hR:BV a H pr' (BS (rl'.map LC4.a)) (rl'.map LC4.a))(fr:∀x o,H x=some o->x≠b.p->x≠b.mem->H' x=some o)(hp':H' b.p=some (.ins a.c_Jumps b.dx (AT "known_cells" (.ref m'.kc) (AT "known_squares" (.ref m'.l) (AT "rule" (.ref pr') (jf5 g.p b.mem b.pr b.m.l b.m.kc))))))(hm':H' b.mem=some (.dK (mK ms')))(c:WN H H' (BS (rl'.map LC4.a)) ms ms' m'):Fw a H' g G N M ⟨b.p,b.dx,b.mem,pr',rl',m'⟩ ms'/\ms'.length<=ms.length+1:=by
 have j:JW a H g G N M b.p b.dx b.mem b.pr b.r b.m:=h.j;have kp:=Ti j.hp h.me.hm fr;have np:∀{x:Addr}{o:HO},H x=some o->(∀C d f,o≠.ins C d f)->x≠b.p:=λ{x o} e n=>As e j.hp (n _ _ _);have nm:∀{x:Addr}{o:HO},H x=some o->(∀k,o≠.dK k)->x≠b.mem:=λ{x o} e n=>As e h.me.hm (n _);obtain⟨ts,h3,h4⟩:=j.gr.pt;have hg:AD a H' g G:=by
  refine⟨fr _ _ j.gr.hp (As j.gr.hp j.hp ?_) (nm j.gr.hp A6),fr _ _ j.gr.lv (np j.gr.lv B2) (nm j.gr.lv A6),⟨ts,fr _ _ h3 (np h3 B2) (nm h3 A6),PairedM.imp (λt q z=>fr _ _ z (np z B2) (nm z A6)) h4⟩,fr _ _ j.gr.nm (np j.gr.nm B2) (nm j.gr.nm A6),j.gr.ne⟩;intro z;injection z with _ _ z
  have:=Gc g;rw[z,Eg _ _ _ _ _ A0 A0 A0 A0 A0]at this;cases this
 have kept:∀{r:AA}{m:MA},CY H g G N M r m->b.mem∉m.ds->CY H' g G N M r m:=λ{r m} hw n=>by
  refine hw.kp j.ok (AQ.refl j.ok) λx o e w=>?_;rcases w with z|z|z|z
  ·have e2:=hw.tp;rw[<-z,e]at e2;cases e2;exact fr _ _ e (np e B2) (nm e A6)
  ·have e2:=hw.l;rw[<-z,e]at e2;cases e2;exact fr _ _ e (np e B2) (nm e A6)
  ·obtain⟨y,hy⟩:=E8 z;obtain⟨kv,e2,_⟩:=hw.sq y x hy;rw[e]at e2;cases e2;exact fr _ _ e (np e B2) λq=>n (q▸z)
  ·obtain⟨kc,e2,_⟩:=hw.ce;rw[<-z,e]at e2;cases e2;exact fr _ _ e (np e B2) (nm e A6)
 have mk:CY H' g G N M (rl'.map LC4.a) m'->JWB a H' g G N M ⟨b.p,b.dx,b.mem,pr',rl',m'⟩:=λhw=>⟨hg,j.ok,j.bs,fr _ _ j.br (np j.br B2) (nm j.br A6),j.nbr,by rw[jf5_put]at hp';exact hp',hR.kps kp,ok.t,rest,hw⟩
 cases c with
 |old h1 h2 =>
  subst h2;obtain⟨r,e1,e2,e3,e4⟩:=h.me.all _ h1;have er:rl'.map LC4.a=r:=Tz ok.t e2 e1;rw[<-er]at e3;refine⟨⟨mk (kept e3 e4),⟨hm',λe he=>?_,h.me.dj⟩,h1⟩,S1 _⟩;obtain⟨r,e1,e2,e3,e4⟩:=h.me.all e he;exact⟨r,e1,e2,kept e3 e4,e4⟩
 |new h1 h2 h3' h4' h5 h6 h7 h8 h9 =>
  subst h1;have hw:CY H' g G N M (rl'.map LC4.a) m':=CY.new j.gr h3'.2.1 h3'.2.2.1 h4' h5 h6 h7 h8 h9;have nmm:b.mem∉m'.ds:=λz=>by
   have:=h3'.2.2.2 _ z;rw[h.me.hm]at this;cases this
  have ap:∀e∈ms,Dj e.2 m':=λe he=>by
   obtain⟨r,e1,e2,e3,e4⟩:=h.me.all e he;obtain⟨kc,c1,_⟩:=e3.ce;refine⟨Ah c1 h3'.2.2.1,λd hd z=>?_⟩;obtain⟨y,hy⟩:=E8 hd;obtain⟨kv,e2,_⟩:=e3.sq y d hy;rw[h3'.2.2.2 _ z]at e2;cases e2
  refine⟨⟨mk hw,⟨hm',λe he=>?_,λe he e' he'=>?_⟩,D1.mpr (.inr (C7.mpr rfl))⟩,by rw[B8];exact C8 _⟩
  ·rcases D1.mp he with z|z
   ·obtain⟨r,e1,e2,e3,e4⟩:=h.me.all e z;exact⟨r,e1,e2,kept e3 e4,e4⟩
   ·rw[C7.mp z];exact⟨_,rfl,ok.t,hw,nmm⟩
  ·rcases D1.mp he with z|z
   ·rcases D1.mp he' with y|y
    ·exact h.me.dj e z e' y
    ·rw[C7.mp y];exact .inr (ap e z)
   ·rw[C7.mp z];rcases D1.mp he' with y|y
    ·exact .inr (ap e' y).symm
    ·rw[C7.mp y];exact .inl rfl
end
theorem Tj(G:Gv):∀(l n x y i j:Nat),cel G l n (x+2^l*i) (y+2^l*j)=cel G l n x y
 |0,n,x,y,i,j=>rfl
 |l+1,n,x,y,i,j=>by
  show cel G l (qO G n (((x+2^(l+1)*i)/2^l)%2+2*(((y+2^(l+1)*j)/2^l)%2))) (x+2^(l+1)*i) (y+2^(l+1)*j)=cel G l (qO G n ((x/2^l)%2+2*((y/2^l)%2))) x y;have p:0<2^l:=Nat.pow_pos A3;have e:∀i:Nat,2^(l+1)*i=2^l*(2*i):=λi=>by rw[L6,U2]
  rw[e i,e j,S2 _ _ p,S2 _ _ p,Nat.add_mul_mod_self_left,Nat.add_mul_mod_self_left];exact Tj G l _ x y (2*i) (2*j)
theorem Nz(G:Gv)(l n:Nat){x y i j:Nat}(hx:x<2^l)(hy:y<2^l)(hi:i<2)(hj:j<2):AW G (l+1) n (x+2^l*i) (y+2^l*j)=AW G l (qO G n (i+2*j)) x y:=by
 unfold AW;show((cel G l (qO G n (((x+2^l*i)/2^l)%2+2*(((y+2^l*j)/2^l)%2))) (x+2^l*i) (y+2^l*j):Nat):Int)=_;have p:0<2^l:=Nat.pow_pos A3;rw[S2 _ _ p,S2 _ _ p,Nat.div_eq_of_lt hx,Nat.div_eq_of_lt hy,L9,L9,Nat.mod_eq_of_lt hi,Nat.mod_eq_of_lt hj,Tj]
theorem Mr(r:AA)(c:Nat->Nat->Int)(n:Nat):∀m,BH r (m+n) c=BH r m (BH r n c)
 |0=>by rw[L9];rfl
 |m+1=>by
  rw[show m+1+n=(m+n)+1 by lia];show stp r (BH r (m+n) c)=stp r (BH r m (BH r n c));rw[Mr r c n m]
theorem PU(r:AA){c d:Nat->Nat->Int}{X Y:Nat}:∀(k x y:Nat),k<=x->k<=y->(∀u v,x-k<=u->u<=x+k->y-k<=v->v<=y+k->c u v=d (u+X) (v+Y))->BH r k c x y=BH r k d (x+X) (y+Y)
 |0,x,y,_,_,h=>h x y A1 A1 A1 A1
 |k+1,x,y,hx,hy,h=>by
  have ih:∀u v,x-1<=u->u<=x+1->y-1<=v->v<=y+1->BH r k c u v=BH r k d (u+X) (v+Y):=λu v h1 h2 h3 h4=>PU r k u v A1 A1 λa b q1 q2 q3 q4=>h a b A1 A1 A1 A1;show Dw r (BH r k c x y) [BH r k c (x-1) (y-1),BH r k c x (y-1),BH r k c (x+1) (y-1),BH r k c (x-1) y,BH r k c (x+1) y,BH r k c (x-1) (y+1),BH r k c x (y+1),BH r k c (x+1) (y+1)]=Dw r (BH r k d (x+X) (y+Y)) [BH r k d (x+X-1) (y+Y-1),BH r k d (x+X) (y+Y-1),BH r k d (x+X+1) (y+Y-1),BH r k d (x+X-1) (y+Y),BH r k d (x+X+1) (y+Y),BH r k d (x+X-1) (y+Y+1),BH r k d (x+X) (y+Y+1),BH r k d (x+X+1) (y+Y+1)];rw[ih x y A1 A1 A1 A1,ih (x-1) (y-1) A1 A1 A1 A1,ih x (y-1) A1 A1 A1 A1,ih (x+1) (y-1) A1 A1 A1 A1,ih (x-1) y A1 A1 A1 A1,ih (x+1) y A1 A1 A1 A1,ih (x-1) (y+1) A1 A1 A1 A1,ih x (y+1) A1 A1 A1 A1,ih (x+1) (y+1) A1 A1 A1 A1];rw[show x-1+X=x+X-1 by lia,show y-1+Y=y+Y-1 by lia,show x+1+X=x+X+1 by lia,show y+1+Y=y+Y+1 by lia]
def Vw(G:Gv)(c:Nat->Nat->Int)(l m X Y:Nat):Prop:=∀x y,x<2^l->y<2^l->AW G l m x y=c (x+X) (y+Y)
theorem Vw.q{G:Gv}{c:Nat->Nat->Int}{l m X Y i j:Nat}(h:Vw G c (l+1) m X Y)(hi:i<2)(hj:j<2):Vw G c l (qO G m (i+2*j)) (X+2^l*i) (Y+2^l*j):=λx y hx hy=>by
 rw[<-Nz G l m hx hy hi hj,h _ _ ?_ ?_]
 ·rw[show x+2^l*i+X=x+(X+2^l*i) by lia,show y+2^l*j+Y=y+(Y+2^l*j) by lia]
 ·rw[L6];have:2^l*i<=2^l*1:=S9 _ A1;lia
 ·rw[L6];have:2^l*j<=2^l*1:=S9 _ A1;lia
theorem Vw.of{G:Gv}{c:Nat->Nat->Int}{l m X Y:Nat}(h0:Vw G c l (qO G m 0) X Y)(h1:Vw G c l (qO G m 1) (X+2^l) Y)(h2:Vw G c l (qO G m 2) X (Y+2^l))(h3:Vw G c l (qO G m 3) (X+2^l) (Y+2^l)):Vw G c (l+1) m X Y:=λx y hx hy=>by
 rw[L6]at hx hy;by_cases zx:x<2^l
 ·by_cases zy:y<2^l
  ·have:=Nz G l m zx zy (i:=0) (j:=0) A3 A3;rw[show x+2^l*0=x by lia,show y+2^l*0=y by lia]at this;rw[this];exact h0 x y zx zy
  ·have:=Nz G l m zx (y:=y-2^l) A1 (i:=0) (j:=1) A3 A3;rw[show x+2^l*0=x by lia,show y-2^l+2^l*1=y by lia]at this;rw[this,h2 x (y-2^l) zx A1,show y-2^l+(Y+2^l)=y+Y by lia]
 ·by_cases zy:y<2^l
  ·have:=Nz G l m (x:=x-2^l) A1 zy (i:=1) (j:=0) A3 A3;rw[show y+2^l*0=y by lia,show x-2^l+2^l*1=x by lia]at this;rw[this,h1 (x-2^l) y A1 zy,show x-2^l+(X+2^l)=x+X by lia]
  ·have:=Nz G l m (x:=x-2^l) (y:=y-2^l) A1 A1 (i:=1) (j:=1) A3 A3;rw[show x-2^l+2^l*1=x by lia,show y-2^l+2^l*1=y by lia]at this;rw[this,h3 (x-2^l) (y-2^l) A1 A1,show x-2^l+(X+2^l)=x+X by lia,show y-2^l+(Y+2^l)=y+Y by lia]
theorem Vw.jump{G:Gv}{r:AA}{c:Nat->Nat->Int}{l e m k X Y:Nat}(h:Vw G c (l+2) m X Y)(he:e<=l)(j:∀x y,x<2^(l+1)->y<2^(l+1)->AW G (l+1) k x y=BH r (2^e) (AW G (l+2) m) (x+2^l) (y+2^l)):Vw G (BH r (2^e) c) (l+1) k (X+2^l) (Y+2^l):=λx y hx hy=>by
 have p:2^e<=2^l:=S0 A3 he;have p1:2^(l+1)=2^l*2:=L6 ..;have p2:2^(l+2)=2^l*2*2:=by rw[L6,L6]
 rw[j x y hx hy,PU r (X:=X) (Y:=Y) (2^e) (x+2^l) (y+2^l) A1 A1 λu v h1 h2 h3 h4=>h u v A1 A1];rw[show x+2^l+X=x+(X+2^l) by lia,show y+2^l+Y=y+(Y+2^l) by lia]
seal L2.PA L2.PE L2.PS L2.PSs L2.PT L2.PW
theorem Vw.at'{G:Gv}{c:Nat->Nat->Int}{l m X Y X' Y':Nat}(h:Vw G c l m X Y)(e1:X=X')(e2:Y=Y'):Vw G c l m X' Y':=by
 subst e1;subst e2;exact h
theorem Vw.goes{G G':Gv}{c:Nat->Nat->Int}{l m X Y i:Nat}(h:Vw G c l m X Y)(ok:GOk G)(go:AQ G G' i)(lv:Ap G m (l:Int)):Vw G' c l m X Y:=λx y hx hy=>by
 rw[BM ok go lv];exact h x y hx hy
section
variable{P:Program}{w:World}{K:PySem.W.Frag}{mg:Str->Option Value}{base:Heap}{a:Ad}
inductive Wz(a:Ad)(vs:List V)(H:Hp)(Q:VK):Prop
 |mk (g:GA) (G:Gv) (n l:Nat) (_:vs=[.ref g.p,.int n]) (_:AD a H g G) (_:GOk G) (_:Ap G n ((l+1+1:Nat):Int)) (_:l<=46) (_:G.length<8000000) (_:∀(L:Addr)(ks:List Nat)(G':Gv)(H':Hp),Fr g H H'->AD a H' g G'->AQ G G' 5->H' L=some (.lst (ks.map λ(k:Nat)=>V.int (k:Int)))->ks.length=9->(∀i j,i<3->j<3->∃k,ks[i+3*j]?=some k/\Ap G' k ((l+1:Nat):Int)/\Vw G' (AW G (l+2) n) (l+1) k (2^l*i) (2^l*j))->Q (.ref L) H'):Wz a vs H Q
def JV(a:Ad):Sp:=λvs H Q _=>Wz a vs H Q
theorem VP{K:PySem.W.Frag}{a:Ad}{H0 H:Hp}{g:GA}{G0 G:Gv}{j:Nat}{σ:St}{i1 i2 i3 i4:Nat}{t1 t2 t3 t4:Addr}{xs1 xs2 xs3 xs4:List V}{j1 j2 j3 j4:Int}{x y z w:Nat}{l:Int}{Q:VK}(s:Ln a g H0 G0 j H G)(h1:H0 t1=some (.tup xs1))(h2:H0 t2=some (.tup xs2))(h3:H0 t3=some (.tup xs3))(h4:H0 t4=some (.tup xs4))(lv:Ap G0 x l/\Ap G0 y l/\Ap G0 z l/\Ap G0 w l)(few:l<=47/\G0.length+j<9000000)
  (k:∀(n:Nat)(G':Gv)(H':Hp),Ln a g H0 G0 (j+1) H' G'->AQ G G' 1->G'[n]?=some ⟨[(x:Int),(y:Int),(z:Int),(w:Int)],l+1⟩->Q (.int n) H') (e:(σ[0]?=some (some (.ref g.p))/\σ[i1]?=some (some (.ref t1))/\σ[i2]?=some (some (.ref t2))/\σ[i3]?=some (some (.ref t3))/\σ[i4]?=some (some (.ref t4)))/\atI xs1 j1=some (.int x)/\atI xs2 j2=some (.int y)/\atI xs3 j3=some (.int z)/\atI xs4 j4=some (.int w):=by exact⟨⟨rfl,rfl,rfl,rfl,rfl⟩,rfl,rfl,rfl,rfl⟩):Si a.c_Grove "linked" (FM a) [] E0 (Gf 0) (CF (UM (CF (tOp (IW K) (Gf i1) (tC (V.int j1))) (CF (tOp (IW K) (Gf i2) (tC (V.int j2))) (CF (tOp (IW K) (Gf i3) (tC (V.int j3))) (CF (tOp (IW K) (Gf i4) (tC (V.int j4))) OG))))) OG) σ H Q:=by
 apply AE;intro G_ hG_;obtain⟨⟨r,r1,r2,r3,r4⟩,e1,e2,e3,e4⟩:=e;apply hG_;clear hG_ G_;exact⟨_,r,(xq3 rfl s.gr.hp (Ec g) (ixt r1 (s.kt h1) e1 (ixt r2 (s.kt h2) e2 (ixt r3 (s.kt h3) e3 (ixt r4 (s.kt h4) e4 ⟨(by show 4<=sizeLine;decide),λ_ hu=>lnk s hu lv few.1 few.2 k⟩)))))⟩
theorem vw4{G:Gv}{c:Nat->Nat->Int}{l m x y z w X Y:Nat}{lv:Int}(e:G[m]?=some ⟨[(x:Int),(y:Int),(z:Int),(w:Int)],lv⟩)(h0:Vw G c l x (2^l*X) (2^l*Y))(h1:Vw G c l y (2^l*(X+1)) (2^l*Y))(h2:Vw G c l z (2^l*X) (2^l*(Y+1)))(h3:Vw G c l w (2^l*(X+1)) (2^l*(Y+1))):Vw G c (l+1) m (2^l*X) (2^l*Y):=by
 apply AE;intro G_ hG_;obtain⟨rfl,rfl,rfl,rfl⟩:=DH e;apply hG_;clear hG_ G_;exact .of h0 h1 h2 h3
theorem vwQ{G:Gv}{c:Nat->Nat->Int}{l m x y z w X Y:Nat}{lv:Int}(e:G[m]?=some ⟨[(x:Int),(y:Int),(z:Int),(w:Int)],lv⟩)(v:Vw G c (l+1) m (2^l*X) (2^l*Y)):Vw G c l x (2^l*X) (2^l*Y)/\Vw G c l y (2^l*(X+1)) (2^l*Y)/\Vw G c l z (2^l*X) (2^l*(Y+1))/\Vw G c l w (2^l*(X+1)) (2^l*(Y+1)):=by
 apply AE;intro G_ hG_;obtain⟨rfl,rfl,rfl,rfl⟩:=DH e;apply hG_;clear hG_ G_;exact⟨v.q (i:=0) (j:=0) A3 A3,(v.q (i:=1) (j:=0) A3 A3).at' A1 rfl,(v.q (i:=0) (j:=1) A3 A3).at' rfl A1,(v.q (i:=1) (j:=1) A3 A3).at' A1 A1⟩
theorem ok_nine{f:Addr}{fd:FuncData}(F:Fun K "nine_parts" "nine_parts" Gr f fd)(T:Top K mg a)(a6:BJ P w K mg base CX0 2 a.c_Grove "linked" BB (FM a)):AR P w K mg base CX0 3 f fd CS (JV a):=by
 refine F.ok Cy (λvs H Q E h=>?_) (λcdv A outer s H vs Q E hr h=>?_)
 ·apply AE;intro G_ hG_;obtain⟨g,G,n,l,rfl,_⟩:=h;apply hG_;clear hG_ G_;rfl
 ·apply AE;intro G_ hG_;obtain⟨g,G,n,l,rfl,hg,ok,hl,l46,few,k⟩:=h;obtain⟨qa,qb,qc,qd,en,la,lb,lc,ld⟩:=ok.four hl;obtain⟨a0,a1,a2,a3,ea,la0,la1,la2,la3⟩:=ok.four la;obtain⟨b0,b1,b2,b3,eb,lb0,lb1,lb2,lb3⟩:=ok.four lb;obtain⟨c0,c1,c2,c3,ec,lc0,lc1,lc2,lc3⟩:=ok.four lc;obtain⟨d0,d1,d2,d3,ed,ld0,ld1,ld2,ld3⟩:=ok.four ld;obtain⟨ts,h3,h4⟩:=hg.pt;obtain⟨t,et,ht⟩:=PairedM.get h4 en;obtain⟨ta,eta,hta⟩:=PairedM.get h4 ea;obtain⟨tb,etb,htb⟩:=PairedM.get h4 eb;obtain⟨tc,etc,htc⟩:=PairedM.get h4 ec;obtain⟨td,etd,htd⟩:=PairedM.get h4 ed;apply hG_;clear hG_ G_;have s0:Ln a g H G 0 H G:=⟨.refl _ _,λe=>e,hg,.refl ok⟩
  refine⟨_,(Ac (Ax (i:=2) Cy.nd rfl (Or.inl rfl) (Al Ar (AJ (pv 0) rfl) (pv 1) (λ_ _=>rfl))) (Ac (Ax (i:=3) Cy.nd rfl (Or.inl rfl) (Al Ar (AJ (pv 0) rfl) (Al An (pv 2) Ae (λ_ _=>rfl)) (λ_ _=>rfl))) (Ac (Ax (i:=4) Cy.nd rfl (Or.inl rfl) (Al Ar (AJ (pv 0) rfl) (Al An (pv 2) Ae (λ_ _=>rfl)) (λ_ _=>rfl))) (Ac (Ax (i:=5) Cy.nd rfl (Or.inl rfl) (Al Ar (AJ (pv 0) rfl) (Al An (pv 2) Ae (λ_ _=>rfl)) (λ_ _=>rfl))) (Ac (Ax (i:=6) Cy.nd rfl (Or.inl rfl) (Al Ar (AJ (pv 0) rfl) (Al An (pv 2) Ae (λ_ _=>rfl)) (λ_ _=>rfl))) (Ag (Au (Bn (Aa (Al An (pv 2) Ae (λ_ _=>rfl)) (Aa (Ay (pv 0) a6 (rm hr) Aq (Bx (Aa (Al An (pv 3) Ae (λ_ _=>rfl)) (Aa (Al An (pv 4) Ae (λ_ _=>rfl)) (Aa (Al An (pv 3) Ae (λ_ _=>rfl)) (Aa (Al An (pv 4) Ae (λ_ _=>rfl)) Ab)))) Ab)) (Aa (Al An (pv 2) Ae (λ_ _=>rfl)) (Aa (Ay (pv 0) a6 (rm hr) Aq (Bx (Aa (Al An (pv 3) Ae (λ_ _=>rfl)) (Aa (Al An (pv 3) Ae (λ_ _=>rfl)) (Aa (Al An (pv 5) Ae (λ_ _=>rfl)) (Aa (Al An (pv 5) Ae (λ_ _=>rfl)) Ab)))) Ab)) (Aa (Ay (pv 0) a6 (rm hr) Aq (Bx (Aa (Al An (pv 3) Ae (λ_ _=>rfl)) (Aa (Al An (pv 4) Ae (λ_ _=>rfl)) (Aa (Al An (pv 5) Ae (λ_ _=>rfl)) (Aa (Al An (pv 6) Ae (λ_ _=>rfl)) Ab)))) Ab)) (Aa (Ay (pv 0) a6 (rm hr) Aq (Bx (Aa (Al An (pv 4) Ae (λ_ _=>rfl)) (Aa (Al An (pv 4) Ae (λ_ _=>rfl)) (Aa (Al An (pv 6) Ae (λ_ _=>rfl)) (Aa (Al An (pv 6) Ae (λ_ _=>rfl)) Ab)))) Ab)) (Aa (Al An (pv 2) Ae (λ_ _=>rfl)) (Aa (Ay (pv 0) a6 (rm hr) Aq (Bx (Aa (Al An (pv 5) Ae (λ_ _=>rfl)) (Aa (Al An (pv 6) Ae (λ_ _=>rfl)) (Aa (Al An (pv 5) Ae (λ_ _=>rfl)) (Aa (Al An (pv 6) Ae (λ_ _=>rfl)) Ab)))) Ab)) (Aa (Al An (pv 2) Ae (λ_ _=>rfl)) Ab))))))))))))))))),?_⟩
  try dsimp only[cxK]
  refine AS ?_;intro r_k0 s_k0 k0 hk E_k0;refine xwf rfl rfl hg.hp T.cl_Grove T.na_Grove_parts (Eh g) (xq1 rfl (ixp h3 et ?_));refine hk ?_;refine AS ?_;intro r_k1 s_k1 k1 hk E_k1;refine xwf rfl rfl hg.hp T.cl_Grove T.na_Grove_parts (Eh g) (ixt rfl ht rfl (ixp h3 eta ?_));refine hk ?_;refine AS ?_;intro r_k2 s_k2 k2 hk E_k2;refine xwf rfl rfl hg.hp T.cl_Grove T.na_Grove_parts (Eh g) (ixt rfl ht rfl (ixp h3 etb ?_));refine hk ?_;refine AS ?_;intro r_k3 s_k3 k3 hk E_k3;refine xwf rfl rfl hg.hp T.cl_Grove T.na_Grove_parts (Eh g) (ixt rfl ht rfl (ixp h3 etc ?_));refine hk ?_;refine AS ?_;intro r_k4 s_k4 k4 hk E_k4;refine xwf rfl rfl hg.hp T.cl_Grove T.na_Grove_parts (Eh g) (ixt rfl ht rfl (ixp h3 etd ?_));refine hk ?_;refine tretl (FA (ixt rfl (s0.kt ht) rfl (FA (VP s0 hta htb hta htb ⟨la1,lb0,la3,lb2⟩ ⟨by lia,by lia⟩ λm1 G1 H1 s1 go1 e1=>?_))));refine FA (ixt rfl (s1.kt ht) rfl (FA (VP s1 hta hta htc htc ⟨la2,la3,lc0,lc1⟩ ⟨by lia,by lia⟩ λm3 G3 H3 s3 go3 e3=>?_)));refine FA (VP s3 hta htb htc htd ⟨la3,lb2,lc1,ld0⟩ ⟨by lia,by lia⟩ λm4 G4 H4 s4 go4 e4=>?_);refine FA (VP s4 htb htb htd htd ⟨lb2,lb3,ld0,ld1⟩ ⟨by lia,by lia⟩ λm5 G5 H5 s5 go5 e5=>?_);refine FA (ixt rfl (s5.kt ht) rfl (FA (VP s5 htc htd htc htd ⟨lc1,ld0,lc3,ld2⟩ ⟨by lia,by lia⟩ λm7 G7 H7 s7 go7 e7=>?_)));refine FA (ixt rfl (s7.kt ht) rfl ⟨(by show 9<=sizeLine;decide),λL hL=>?_⟩);have gz:=s7.go;have sL:=Ai (o:=.lst (([qa,m1,qb,m3,m4,m5,qc,m7,qd]:List Nat).map λ(k:Nat)=>V.int (k:Int))) hL;refine k L [qa,m1,qb,m3,m4,m5,qc,m7,qd] G7 _ (s7.fr.trans (Av.fr sL)) (s7.gr.same sL) gz Af rfl ?_;have v0:Vw G (AW G (l+2) n) (l+1+1) n (2^(l+1)*0) (2^(l+1)*0):=λx y _ _=>rfl;have p1:2^(l+1)=2^l*2:=L6 ..;apply AE;intro G_ hG_;obtain⟨va,vb,vc,vd⟩:=vwQ (gz.get en) (v0.goes ok gz hl);apply hG_;clear hG_ G_;have va:=va.at' (X':=2^l*0) (Y':=2^l*0) A1 A1;have vb:=vb.at' (X':=2^l*2) (Y':=2^l*0) A1 A1;have vc:=vc.at' (X':=2^l*0) (Y':=2^l*2) A1 A1;have vd:=vd.at' (X':=2^l*2) (Y':=2^l*2) A1 A1;apply AE;intro G_ hG_;obtain⟨va0,va1,va2,va3⟩:=vwQ (gz.get ea) va;obtain⟨vb0,vb1,vb2,vb3⟩:=vwQ (gz.get eb) vb;obtain⟨vc0,vc1,vc2,vc3⟩:=vwQ (gz.get ec) vc;obtain⟨vd0,vd1,vd2,vd3⟩:=vwQ (gz.get ed) vd;apply hG_;clear hG_ G_;have g5:=go7.get e5;have g4:=go7.get (go5.get e4);have g3:=go7.get (go5.get (go4.get e3));have g1:=go7.get (go5.get (go4.get (go3.get e1)));intro i j hi hj
  match i,hi,j,hj with
  |0,_,0,_=>exact⟨qa,rfl,gz.lev la,va⟩
  |1,_,0,_=>exact⟨m1,rfl,⟨_,g1,rfl⟩,vw4 g1 va1 vb0 va3 vb2⟩
  |2,_,0,_=>exact⟨qb,rfl,gz.lev lb,vb⟩
  |0,_,1,_=>exact⟨m3,rfl,⟨_,g3,rfl⟩,vw4 g3 va2 va3 vc0 vc1⟩
  |1,_,1,_=>exact⟨m4,rfl,⟨_,g4,rfl⟩,vw4 g4 va3 vb2 vc1 vd0⟩
  |2,_,1,_=>exact⟨m5,rfl,⟨_,g5,rfl⟩,vw4 g5 vb2 vb3 vd0 vd1⟩
  |0,_,2,_=>exact⟨qc,rfl,gz.lev lc,vc⟩
  |1,_,2,_=>exact⟨m7,rfl,⟨_,e7,rfl⟩,vw4 e7 vc1 vd0 vc3 vd2⟩
  |2,_,2,_=>exact⟨qd,rfl,gz.lev ld,vd⟩
inductive To(vs:List V)(H:Hp)(Q:VK):Prop
 |mk (L:Addr) (k0 k1 k2 k3 k4 k5 k6 k7 k8:Nat) (_:vs=[.ref L]) (_:H L=some (.lst [.int k0,.int k1,.int k2,.int k3,.int k4,.int k5,.int k6,.int k7,.int k8])) (_:∀(M t0 t1 t2 t3:Addr)(H':Hp),Av H H'->H' M=some (.lst [.ref t0,.ref t1,.ref t2,.ref t3])->H' t0=some (.tup [.int k0,.int k1,.int k3,.int k4])->H' t1=some (.tup [.int k1,.int k2,.int k4,.int k5])->H' t2=some (.tup [.int k3,.int k4,.int k6,.int k7])->H' t3=some (.tup [.int k4,.int k5,.int k7,.int k8])->Q (.ref M) H'):To vs H Q
def Js:Sp:=λvs H Q _=>To vs H Q
theorem VD{f:Addr}{fd:FuncData}(F:Fun K "fours_of" "fours_of" Jk f fd)(T:Top K mg a):AR P w K mg base CX0 1 f fd Fc Js:=by
 refine F.ok Qe (λvs H Q E h=>?_) (λcdv A outer s H vs Q E hr h=>?_)
 ·apply AE;intro G_ hG_;obtain⟨L,k0,k1,k2,k3,k4,k5,k6,k7,k8,rfl,_⟩:=h;apply hG_;clear hG_ G_;rfl
 ·apply AE;intro G_ hG_;obtain⟨L,k0,k1,k2,k3,k4,k5,k6,k7,k8,rfl,hL,k⟩:=h;apply hG_;clear hG_ G_;refine⟨_,(Ag (Au (Bn (Bx (Aa (Al Ar (pv 0) Ae (λ_ _=>rfl)) (Aa (Al Ar (pv 0) Ae (λ_ _=>rfl)) (Aa (Al Ar (pv 0) Ae (λ_ _=>rfl)) (Aa (Al Ar (pv 0) Ae (λ_ _=>rfl)) Ab)))) (Bx (Aa (Al Ar (pv 0) Ae (λ_ _=>rfl)) (Aa (Al Ar (pv 0) Ae (λ_ _=>rfl)) (Aa (Al Ar (pv 0) Ae (λ_ _=>rfl)) (Aa (Al Ar (pv 0) Ae (λ_ _=>rfl)) Ab)))) (Bx (Aa (Al Ar (pv 0) Ae (λ_ _=>rfl)) (Aa (Al Ar (pv 0) Ae (λ_ _=>rfl)) (Aa (Al Ar (pv 0) Ae (λ_ _=>rfl)) (Aa (Al Ar (pv 0) Ae (λ_ _=>rfl)) Ab)))) (Bx (Aa (Al Ar (pv 0) Ae (λ_ _=>rfl)) (Aa (Al Ar (pv 0) Ae (λ_ _=>rfl)) (Aa (Al Ar (pv 0) Ae (λ_ _=>rfl)) (Aa (Al Ar (pv 0) Ae (λ_ _=>rfl)) Ab)))) Ab))))))),?_⟩
  try dsimp only[cxK]
  refine xwi rfl rfl rfl (SqL.of hL) (Am (j:=0) rfl) (xwi rfl rfl rfl (SqL.of hL) (Am (j:=1) rfl) (xwi rfl rfl rfl (SqL.of hL) (Am (j:=3) rfl) (xwi rfl rfl rfl (SqL.of hL) (Am (j:=4) rfl) ⟨(by show 4<=sizeLine;decide),λt0 ht0=>?_⟩)));have s0:=Ai (o:=.tup [.int (k0:Int),.int (k1:Int),.int (k3:Int),.int (k4:Int)]) ht0;have h0:upd H t0 (.tup [.int (k0:Int),.int (k1:Int),.int (k3:Int),.int (k4:Int)]) t0=some (.tup [.int (k0:Int),.int (k1:Int),.int (k3:Int),.int (k4:Int)]):=Af;generalize hX0:upd H t0 (.tup [.int (k0:Int),.int (k1:Int),.int (k3:Int),.int (k4:Int)])=X0 at s0 h0;have hL0:=s0 _ _ hL
  first|rw[hX0]|(show ∃_,_;rw[hX0])|skip
  refine xwi rfl rfl rfl (SqL.of hL0) (Am (j:=1) rfl) (xwi rfl rfl rfl (SqL.of hL0) (Am (j:=2) rfl) (xwi rfl rfl rfl (SqL.of hL0) (Am (j:=4) rfl) (xwi rfl rfl rfl (SqL.of hL0) (Am (j:=5) rfl) ⟨(by show 4<=sizeLine;decide),λt1 ht1=>?_⟩)));have s1:=Ai (o:=.tup [.int (k1:Int),.int (k2:Int),.int (k4:Int),.int (k5:Int)]) ht1;have h1:upd X0 t1 (.tup [.int (k1:Int),.int (k2:Int),.int (k4:Int),.int (k5:Int)]) t1=some (.tup [.int (k1:Int),.int (k2:Int),.int (k4:Int),.int (k5:Int)]):=Af;generalize hX1:upd X0 t1 (.tup [.int (k1:Int),.int (k2:Int),.int (k4:Int),.int (k5:Int)])=X1 at s1 h1;have hL1:=s1 _ _ hL0
  first|rw[hX1]|(show ∃_,_;rw[hX1])|skip
  refine xwi rfl rfl rfl (SqL.of hL1) (Am (j:=3) rfl) (xwi rfl rfl rfl (SqL.of hL1) (Am (j:=4) rfl) (xwi rfl rfl rfl (SqL.of hL1) (Am (j:=6) rfl) (xwi rfl rfl rfl (SqL.of hL1) (Am (j:=7) rfl) ⟨(by show 4<=sizeLine;decide),λt2 ht2=>?_⟩)));have s2:=Ai (o:=.tup [.int (k3:Int),.int (k4:Int),.int (k6:Int),.int (k7:Int)]) ht2;have h2:upd X1 t2 (.tup [.int (k3:Int),.int (k4:Int),.int (k6:Int),.int (k7:Int)]) t2=some (.tup [.int (k3:Int),.int (k4:Int),.int (k6:Int),.int (k7:Int)]):=Af;generalize hX2:upd X1 t2 (.tup [.int (k3:Int),.int (k4:Int),.int (k6:Int),.int (k7:Int)])=X2 at s2 h2;have hL2:=s2 _ _ hL1
  first|rw[hX2]|(show ∃_,_;rw[hX2])|skip
  refine xwi rfl rfl rfl (SqL.of hL2) (Am (j:=4) rfl) (xwi rfl rfl rfl (SqL.of hL2) (Am (j:=5) rfl) (xwi rfl rfl rfl (SqL.of hL2) (Am (j:=7) rfl) (xwi rfl rfl rfl (SqL.of hL2) (Am (j:=8) rfl) ⟨(by show 4<=sizeLine;decide),λt3 ht3=>?_⟩)));have s3:=Ai (o:=.tup [.int (k4:Int),.int (k5:Int),.int (k7:Int),.int (k8:Int)]) ht3;have h3:upd X2 t3 (.tup [.int (k4:Int),.int (k5:Int),.int (k7:Int),.int (k8:Int)]) t3=some (.tup [.int (k4:Int),.int (k5:Int),.int (k7:Int),.int (k8:Int)]):=Af;generalize hX3:upd X2 t3 (.tup [.int (k4:Int),.int (k5:Int),.int (k7:Int),.int (k8:Int)])=X3 at s3 h3;have hL3:=s3 _ _ hL2
  first|rw[hX3]|(show ∃_,_;rw[hX3])|skip
  refine⟨(by show 4<=sizeLine;decide),λM hM=>?_⟩;have s4:=Ai (o:=.lst [.ref t0,.ref t1,.ref t2,.ref t3]) hM;exact k M t0 t1 t2 t3 _ ((((s0.trans s1).trans s2).trans s3).trans s4) Af (s4 _ _ (s3 _ _ (s2 _ _ (s1 _ _ h0)))) (s4 _ _ (s3 _ _ (s2 _ _ h1))) (s4 _ _ (s3 _ _ h2)) (s4 _ _ h3)
inductive SpMet(a:Ad)(vs:List V)(H:Hp)(Q:VK):Prop
 |mk (g:GA) (G:Gv) (t:Addr) (f0 f1 f2 f3 l:Nat) (_:vs=[.ref g.p,.ref t]) (_:AD a H g G) (_:GOk G) (_:H t=some (.tup [.int f0,.int f1,.int f2,.int f3])) (_:Ap G f0 ((l+1:Nat):Int)/\Ap G f1 ((l+1:Nat):Int)/\Ap G f2 ((l+1:Nat):Int)/\Ap G f3 ((l+1:Nat):Int)) (_:l<=47) (_:G.length<9000000) (_:∀(k:Nat)(G':Gv)(H':Hp),Fr g H H'->AD a H' g G'->AQ G G' 1->G'[k]?=some ⟨[((qO G f0 3:Nat):Int),((qO G f1 2:Nat):Int),((qO G f2 1:Nat):Int),((qO G f3 0:Nat):Int)],(l:Int)+1⟩->Q (.int k) H'):SpMet a vs H Q
def Sn(a:Ad):Sp:=λvs H Q _=>SpMet a vs H Q
theorem ok_met{f:Addr}{fd:FuncData}(F:Fun K "met_in_the_middle" "met_in_the_middle" Db f fd)(T:Top K mg a)(a6:BJ P w K mg base CX0 2 a.c_Grove "linked" BB (FM a)):AR P w K mg base CX0 3 f fd Ch (Sn a):=by
 refine F.ok Er (λvs H Q E h=>?_) (λcdv A outer s H vs Q E hr h=>?_)
 ·apply AE;intro G_ hG_;obtain⟨g,G,t,f0,f1,f2,f3,l,rfl,_⟩:=h;apply hG_;clear hG_ G_;rfl
 ·apply AE;intro G_ hG_;obtain⟨g,G,t,f0,f1,f2,f3,l,rfl,hg,ok,ht,⟨l0,l1,l2,l3⟩,h47,few,k⟩:=h;obtain⟨ts,h3,h4⟩:=hg.pt;obtain⟨x00,x01,x02,x03,e0,m00,m01,m02,m03⟩:=ok.four l0;obtain⟨u0,eu0,hu0⟩:=PairedM.get h4 e0;obtain⟨y00,y01,y02,y03⟩:=DH e0;obtain⟨x10,x11,x12,x13,e1,m10,m11,m12,m13⟩:=ok.four l1;obtain⟨u1,eu1,hu1⟩:=PairedM.get h4 e1;obtain⟨y10,y11,y12,y13⟩:=DH e1;obtain⟨x20,x21,x22,x23,e2,m20,m21,m22,m23⟩:=ok.four l2;obtain⟨u2,eu2,hu2⟩:=PairedM.get h4 e2;obtain⟨y20,y21,y22,y23⟩:=DH e2;obtain⟨x30,x31,x32,x33,e3,m30,m31,m32,m33⟩:=ok.four l3;obtain⟨u3,eu3,hu3⟩:=PairedM.get h4 e3;obtain⟨y30,y31,y32,y33⟩:=DH e3;apply hG_;clear hG_ G_;rw[y03,y12,y21,y30]at k;refine⟨_,(Ac (Ax (i:=2) Er.nd rfl (Or.inl rfl) (AJ (pv 0) rfl)) (Ag (Au (Ay (pv 0) a6 (rm hr) Aq (Bx (Aa (Al An (Al Ar (pv 2) (Al An (pv 1) Ae (λ_ _=>rfl)) (λ_ _=>rfl)) Ae (λ_ _=>rfl)) (Aa (Al An (Al Ar (pv 2) (Al An (pv 1) Ae (λ_ _=>rfl)) (λ_ _=>rfl)) Ae (λ_ _=>rfl)) (Aa (Al An (Al Ar (pv 2) (Al An (pv 1) Ae (λ_ _=>rfl)) (λ_ _=>rfl)) Ae (λ_ _=>rfl)) (Aa (Al An (Al Ar (pv 2) (Al An (pv 1) Ae (λ_ _=>rfl)) (λ_ _=>rfl)) Ae (λ_ _=>rfl)) Ab)))) Ab))))),?_⟩
  try dsimp only[cxK]
  refine xwf rfl rfl hg.hp T.cl_Grove T.na_Grove_parts (Eh g) ?_;refine xwn rfl rfl hg.hp (Ec g) rfl (xwi rfl rfl rfl (SqT.of ht) (Am (j:=0) rfl) (xq4 rfl rfl (SqL.of h3) (Am (by rw[B9,eu0];rfl)) (xq4 rfl rfl (SqT.of hu0) (Am (j:=3) rfl) (xwj rfl rfl rfl rfl (SqT.of ht) (Am (j:=1) rfl) (xq4 rfl rfl (SqL.of h3) (Am (by rw[B9,eu1];rfl)) (xq4 rfl rfl (SqT.of hu1) (Am (j:=2) rfl) (xwj rfl rfl rfl rfl (SqT.of ht) (Am (j:=2) rfl) (xq4 rfl rfl (SqL.of h3) (Am (by rw[B9,eu2];rfl)) (xq4 rfl rfl (SqT.of hu2) (Am (j:=1) rfl) (xwj rfl rfl rfl rfl (SqT.of ht) (Am (j:=3) rfl) (xq4 rfl rfl (SqL.of h3) (Am (by rw[B9,eu3];rfl)) (xq4 rfl rfl (SqT.of hu3) (Am (j:=0) rfl) ⟨(by show 4<=sizeLine;decide),λu hu=>?_⟩))))))))))));have s1:=Ai (o:=.tup [.int (x03:Int),.int (x12:Int),.int (x21:Int),.int (x30:Int)]) hu;exact⟨g,G,u,x03,x12,x21,x30,(l:Int),rfl,hg.same s1,ok,Af,⟨m03,m12,m21,m30⟩,by lia,few,λn G' H' fr hg' go e=>k n G' H' ((Av.fr s1).trans fr) hg' go e⟩
end
def cst:Nat->Nat
 |0=>5
 |l+1=>13*cst l+11
theorem QL:∀l,5<=cst l
 |0=>C8 5
 |l+1=>by
  show 5<=13*cst l+11;lia
theorem Ap.one{G:Gv}{n:Nat}{i j:Int}(h:Ap G n i)(k:Ap G n j):i=j:=by
 obtain⟨q,e1,e2⟩:=h;obtain⟨p,f1,f2⟩:=k;rw[e1]at f1;cases f1;exact e2.symm.trans f2
theorem JR.view{r:AA}{G:Gv}{c:Nat->Nat->Int}{e n m l X Y:Nat}(h:JR r G e n m)(lv:Ap G n ((l+2:Nat):Int))(v:Vw G c (l+2) n X Y):Ap G m ((l+1:Nat):Int)/\e<=l/\Vw G (BH r (2^e) c) (l+1) m (X+2^l) (Y+2^l):=by
 apply AE;intro G_ hG_;obtain⟨l',h1,h2,h3,h4⟩:=h;apply hG_;clear hG_ G_;have e':l'=l:=by
  have:=h1.one lv;lia
 subst e';exact⟨h3,h2,v.jump h2 h4⟩
theorem Vw.jr{r:AA}{G:Gv}{e n m l:Nat}(lv:Ap G n ((l+1+2:Nat):Int))(he:e<=l+1)(lm:Ap G m ((l+1+1:Nat):Int))(v:Vw G (BH r (2^e) (AW G (l+1+2) n)) (l+1+1) m (2^(l+1)) (2^(l+1))):JR r G e n m:=⟨l+1,lv,he,lm,v⟩
theorem VL{G G':Gv}{c:Nat->Nat->Int}{l f0 f1 f2 f3 z X Y i:Nat}(ok:GOk G)(go:AQ G G' i)(l0:Ap G f0 ((l+1:Nat):Int))(l1:Ap G f1 ((l+1:Nat):Int))(l2:Ap G f2 ((l+1:Nat):Int))(l3:Ap G f3 ((l+1:Nat):Int))(v0:Vw G c (l+1) f0 X Y)(v1:Vw G c (l+1) f1 (X+2^(l+1)) Y)(v2:Vw G c (l+1) f2 X (Y+2^(l+1)))(v3:Vw G c (l+1) f3 (X+2^(l+1)) (Y+2^(l+1)))(e:G'[z]?=some ⟨[((qO G f0 3:Nat):Int),((qO G f1 2:Nat):Int),((qO G f2 1:Nat):Int),((qO G f3 0:Nat):Int)],(l:Int)+1⟩):Vw G' c (l+1) z (X+2^l) (Y+2^l):=by
 have p1:2^(l+1)=2^l*2:=L6 ..;apply AE;intro G_ hG_;obtain⟨w0,w1,w2,w3⟩:=DH e;apply hG_;clear hG_ G_;have u0:=(v0.q (i:=1) (j:=1) A3 A3).goes ok go (DI ok l0 A3);have u1:=(v1.q (i:=0) (j:=1) A3 A3).goes ok go (DI ok l1 A3);have u2:=(v2.q (i:=1) (j:=0) A3 A3).goes ok go (DI ok l2 A3);have u3:=(v3.q (i:=0) (j:=0) A3 A3).goes ok go (DI ok l3 A3);refine Vw.of ?_ ?_ ?_ ?_
 ·rw[w0];exact u0.at' A1 A1
 ·rw[w1];exact u1.at' A1 A1
 ·rw[w2];exact u2.at' A1 A1
 ·rw[w3];exact u3.at' A1 A1
theorem EM{G G':Gv}{c:Nat->Nat->Int}{l f0 f1 f2 f3 z X Y i:Nat}{L:Int}(ok:GOk G)(go:AQ G G' i)(l0:Ap G f0 (l:Int))(l1:Ap G f1 (l:Int))(l2:Ap G f2 (l:Int))(l3:Ap G f3 (l:Int))(v0:Vw G c l f0 X Y)(v1:Vw G c l f1 (X+2^l) Y)(v2:Vw G c l f2 X (Y+2^l))(v3:Vw G c l f3 (X+2^l) (Y+2^l))(e:G'[z]?=some ⟨[(f0:Int),(f1:Int),(f2:Int),(f3:Int)],L⟩):Vw G' c (l+1) z X Y:=by
 apply AE;intro G_ hG_;obtain⟨w0,w1,w2,w3⟩:=DH e;apply hG_;clear hG_ G_;refine Vw.of ?_ ?_ ?_ ?_
 ·rw[w0];exact v0.goes ok go l0
 ·rw[w1];exact v1.goes ok go l1
 ·rw[w2];exact v2.goes ok go l2
 ·rw[w3];exact v3.goes ok go l3
theorem Pb:∀xs:List Nat,xs.length=9->∃a b c d e f g h i,xs=[a,b,c,d,e,f,g,h,i]
 |[a,b,c,d,e,f,g,h,i],_=>⟨a,b,c,d,e,f,g,h,i,rfl⟩
theorem IG:∀xs:List Nat,xs.length=4->∃a b c d,xs=[a,b,c,d]
 |[a,b,c,d],_=>⟨a,b,c,d,rfl⟩
def toV(k:Nat):V:=.int (k:Int)
def Nine(G:Gv)(c:Nat->Nat->Int)(l X:Nat)(ys:List Nat):Prop:=∀i j,i<3->j<3->∃y,ys[i+3*j]?=some y/\Ap G y (l:Int)/\Vw G c l y (2^l*i+X) (2^l*j+X)
theorem Lk {r:AA} {G3 G5:Gv} {c:Nat->Nat->Int} {l e x:Nat} {ks ys:List Nat} (ok:GOk G3) (go:AQ G3 G5 x) (h:∀i j,i<3->j<3->∃k,ks[i+3*j]?=some k/\Ap G3 k ((l+1+1:Nat):Int)/\Vw G3 c (l+1+1) k (2^(l+1)*i) (2^(l+1)*j)) (pr:Paired (λk y=>JR r G5 e k y) ks ys):Nine G5 (BH r (2^e) c) (l+1) (2^l) ys:=λi j hi hj=>by
 apply AE;intro G_ hG_;obtain⟨k,h1,h2,h3⟩:=h i j hi hj;obtain⟨y,h4,h5⟩:=Paired.get pr h1;obtain⟨q1,_,q3⟩:=h5.view (go.lev h2) (h3.goes ok go h2);apply hG_;clear hG_ G_;exact⟨y,h4,q1,q3⟩
theorem MW{G:Gv}{c:Nat->Nat->Int}{l X:Nat}{H:Hp}{y0 y1 y2 y3 y4 y5 y6 y7 y8:Nat}{t0 t1 t2 t3:Addr}(nj:Nine G c l X [y0,y1,y2,y3,y4,y5,y6,y7,y8])(h0:H t0=some (.tup [.int y0,.int y1,.int y3,.int y4]))(h1:H t1=some (.tup [.int y1,.int y2,.int y4,.int y5]))(h2:H t2=some (.tup [.int y3,.int y4,.int y6,.int y7]))(h3:H t3=some (.tup [.int y4,.int y5,.int y7,.int y8]))(t:Nat)(tt:Addr)(et:[t0,t1,t2,t3][t]?=some tt) :
  ∃f0 f1 f2 f3:Nat,H tt=some (.tup [.int f0,.int f1,.int f2,.int f3])/\(Ap G f0 (l:Int)/\Ap G f1 (l:Int)/\Ap G f2 (l:Int)/\Ap G f3 (l:Int))/\Vw G c l f0 (2^l*(t%2)+X) (2^l*(t/2)+X)/\Vw G c l f1 (2^l*(t%2)+X+2^l) (2^l*(t/2)+X)/\Vw G c l f2 (2^l*(t%2)+X) (2^l*(t/2)+X+2^l)/\Vw G c l f3 (2^l*(t%2)+X+2^l) (2^l*(t/2)+X+2^l):=by
 have t4:t<4:=(B7.mp et).1;have mx:=O2 (2^l) (t%2);have my:=O2 (2^l) (t/2);obtain⟨f0,e0,l0,v0⟩:=nj (t%2) (t/2) A1 A1;obtain⟨f1,e1,l1,v1⟩:=nj (t%2+1) (t/2) A1 A1;obtain⟨f2,e2,l2,v2⟩:=nj (t%2) (t/2+1) A1 A1;obtain⟨f3,e3,l3,v3⟩:=nj (t%2+1) (t/2+1) A1 A1;refine⟨f0,f1,f2,f3,?_,⟨l0,l1,l2,l3⟩,v0,v1.at' A1 rfl,v2.at' rfl A1,v3.at' A1 A1⟩
 match t,t4,et with
 |0,_,et=>cases e0;cases e1;cases e2;cases e3;cases et;exact h0
 |1,_,et=>cases e0;cases e1;cases e2;cases e3;cases et;exact h1
 |2,_,et=>cases e0;cases e1;cases e2;cases e3;cases et;exact h2
 |3,_,et=>cases e0;cases e1;cases e2;cases e3;cases et;exact h3
theorem IV{α:Type}{P:Nat->α->Prop}{zs:List α}{z:α}{i:Nat}(lz:zs.length=i)(h:∀t z',zs[t]?=some z'->P t z')(hz:P i z):∀t z',(zs++[z])[t]?=some z'->P t z':=λt z' e=>by
 by_cases ti:t<i
 ·rw[F6 A1]at e;exact h t z' e
 ·have:t=i:=by
   have:=(B7.mp e).1;rw[B8,lz]at this;have:t<i+1:=this;lia
  subst this;rw[E3 A1,lz,N7]at e;cases e;exact hz
section
variable{P:Program}{w:World}{K:PySem.W.Frag}{mg:Str->Option Value}{base:Heap}{a:Ad}
inductive Ww(a:Ad)(L:Nat)(vs:List V)(H:Hp)(Q:VK):Prop
 |mk (p dx mem pr:Addr) (g:GA) (G:Gv) (N M:Nat) (r:AA) (m:MA) (n l e:Nat) (_:vs=[.ref p,.int n,.int e]) (_:JW a H g G N M p dx mem pr r m) (_:Ap G n ((l+2:Nat):Int)) (_:l<L) (_:e<=l) (_:N+cst l<900000) (_:M+cst l<900000) (_:G.length+cst l<7000000) (_:∀(k:Nat)(G':Gv)(H':Hp),FrJ g m H H'->JW a H' g G' (N+cst l) (M+cst l) p dx mem pr r m->AQ G G' (cst l)->JR r G' e n k->Q (.int k) H'):Ww a L vs H Q
def Ev(a:Ad)(L:Nat):Sp:=λvs H Q _=>Ww a L vs H Q
inductive WG(a:Ad)(L:Nat)(vs:List V)(H:Hp)(Q:VK):Prop
 |mk (p dx mem pr:Addr) (g:GA) (G:Gv) (N M:Nat) (r:AA) (m:MA) (n l e:Nat) (_:vs=[.ref p,.int n,.int e]) (_:JW a H g G N M p dx mem pr r m) (_:Ap G n ((l+2:Nat):Int)) (_:l<L) (_:e<=l) (_:N+cst l<900000) (_:M+cst l<900000) (_:G.length+cst l<7000000) (_:∀(k:Nat)(G':Gv)(H':Hp),FrJ g m H H'->JW a H' g G' (N+(cst l-1)) (M+(cst l-1)) p dx mem pr r m->AQ G G' (cst l-1)->JR r G' e n k->Q (.int k) H'):WG a L vs H Q
def Rl(a:Ad)(L:Nat):Sp:=λvs H Q _=>WG a L vs H Q
inductive WF(a:Ad)(L:Nat)(vs:List V)(H:Hp)(Q:VK):Prop
 |mk (p dx mem pr:Addr) (g:GA) (G:Gv) (N M:Nat) (r:AA) (m:MA) (n l:Nat) (_:vs=[.ref p,.int n,.int ((l+1:Nat):Int)]) (_:JW a H g G N M p dx mem pr r m) (_:Ap G n ((l+1+2:Nat):Int)) (_:l<L) (_:N+9*cst l<900000) (_:M+9*cst l<900000) (_:G.length+9*cst l+5<7000000) (_:∀(A:Addr)(f0 f1 f2 f3:Nat)(G':Gv)(H':Hp),FrJ g m H H'->JW a H' g G' (N+9*cst l) (M+9*cst l) p dx mem pr r m->AQ G G' (9*cst l+9)->H' A=some (.lst [toV f0,toV f1,toV f2,toV f3])->(Ap G' f0 ((l+2:Nat):Int)/\Ap G' f1 ((l+2:Nat):Int)/\Ap G' f2 ((l+2:Nat):Int)/\Ap G' f3 ((l+2:Nat):Int))->(Vw G' (BH r (2^l) (AW G (l+1+2) n)) (l+2) f0 (2^l) (2^l)/\Vw G' (BH r (2^l) (AW G (l+1+2) n)) (l+2) f1 (2^l+2^(l+1)) (2^l)/\Vw G' (BH r (2^l) (AW G (l+1+2) n)) (l+2) f2 (2^l) (2^l+2^(l+1))/\Vw G' (BH r (2^l) (AW G (l+1+2) n)) (l+2) f3 (2^l+2^(l+1)) (2^l+2^(l+1)))->Q (.ref A) H'):WF a L vs H Q
def Mv(a:Ad)(L:Nat):Sp:=λvs H Q _=>WF a L vs H Q
theorem SO{L d:Nat}{f:Addr}{fd:FuncData}(F:Fun K "four_halfway" "Jumps.four_halfway" Bu f fd)(T:Top K mg a)(d3:3<=d)(aC:Cal P w K mg base CX0 3 "nine_parts" CS (JV a))(aQ:Cal P w K mg base CX0 1 "fours_of" Fc Js)(a6:BJ P w K mg base CX0 2 a.c_Grove "linked" BB (FM a))(a9:BJ P w K mg base CX0 d a.c_Jumps "reckoned" Bf (Ev a L)):AR P w K mg base CX0 (d+1) f fd Bw (Mv a L):=by
 refine F.ok DR (λvs H Q E h=>?_) (λcdv A outer s H vs Q E hr h=>?_)
 ·apply AE;intro G_ hG_;obtain⟨p,dx,mem,pr,g,G,N,M,r,m,n,l,rfl,_⟩:=h;apply hG_;clear hG_ G_;rfl
 ·apply AE;intro G_ hG_;obtain⟨p,dx,mem,pr,g,G,N,M,r,m,n,l,rfl,hj,hl,hL,fewN,fewM,few,k⟩:=h;apply hG_;clear hG_ G_;have c5:=QL l;refine⟨_,(Ac (Do (i:=3) rfl DR.nd rfl rfl (Bk.of (So:=Ak Bu) (No:=CM) (N:=["part","self","e"]) (k:=1) (cs:=[0,2]) rfl rfl A0) (Bc (Az aC (rm hr) rfl Aq (Aa (AJ (pv 0) rfl) (Aa (pv 1) Ab)))) (λ_ _ _=>(AV (i:=0) A0 rfl rfl)) (λ_ _ _=>Bp) (λ_ _ _=>(Ay (pv 1) a9 (rm hr) Aq (Aa (pv 0) (Ck Cd (pv 2) Ae Ab))))) (Ag (Au (BL rfl (Bk.of (So:=Ak Bu) (No:=CM) (N:=["four","self"]) (k:=1) (cs:=[0]) rfl rfl A0) (Bc (Az aQ (rm hr) rfl Aq (Aa (pv 3) Ab))) (λ_ _ _=>(AV (i:=0) A0 rfl rfl)) (λ_ _ _=>Bp) (λ_ _ _=>(Ay (OX (K:=K) rfl (pv 1) rfl) a6 (rm hr) Aq (Aa (pv 0) Ab))))))),?_⟩
  try dsimp only[cxK]
  obtain⟨q9,eq9,el9⟩:=id hl;have l46:l<=45:=by have:=(hj.ok.lev eq9).2;lia
  refine xwf rfl rfl hj.hp T.cl_Jumps T.na_Jumps_grove (DQ _ _ _ _ _) (xq1 rfl ⟨g,G,n,l+1,rfl,hj.gr,hj.ok,hl,by lia,by lia,λA9 ks G3 H3 fr3 hg3 go3 hA3 l9 nine=>?_⟩);have hj3:=hj.fr fr3 hg3 go3;have gf3:=go3.few;have lv9:∀(t k:Nat),ks[t]?=some k->Ap G3 k ((l+2:Nat):Int):=λt k e=>by
   have ht:=(B7.mp e).1;obtain⟨k',e1,e2,_⟩:=nine (t%3) (t/3) A1 A1;rw[show t%3+3*(t/3)=t by lia,e]at e1;cases e1;exact e2
  refine⟨A9,rfl,⟨_,SqL.of hA3⟩,?_⟩;refine BP (xs:=ks.map λ(k:Nat)=>V.int (k:Int)) (λi acc H5=>∃(G5:Gv)(ys:List Nat),acc=ys.map toV/\ys.length=i/\FrJ g m H3 H5/\JW a H5 g G5 (N+i*cst l) (M+i*cst l) p dx mem pr r m/\AQ G3 G5 (i*cst l)/\Paired (λk y=>JR r G5 l k y) (ks.take i) ys) ⟨G3,[],rfl,rfl,λb o e _ _ _ _ _=>e,(by rw[Q0];exact hj3),(by rw[Q0];exact AQ.refl hj3.ok),.nil⟩ (λi acc H5 _ z=>by obtain⟨_,_,_,_,fr,_⟩:=z;exact SqL.of ((fr.kps hj3.gr hj3.bs.long hj3.me) _ _ hA3 (.lst (by rw[B6];lia)))) ?_ ?_
  ·rintro i v acc H5 ev z5_;apply AE;intro G_ hG_;obtain⟨G5,ys,rfl,ly,fr5,hj5,go5,pr5⟩:=z5_;apply hG_;clear hG_ G_;rw[B9]at ev;obtain⟨k5,ek,rfl⟩:=D5.mp ev;have i9:i<9:=by have:=(B7.mp ek).1;lia
   have ic:i*cst l+cst l<=9*cst l:=by
    have:=N8 (cst l) (show i+1<=9 by lia);rw[M6]at this;exact this
   have gf5:=go5.few;refine⟨⟨[some (.int (k5:Int))],rfl,rfl⟩,by rw[B6,ly];exact M7 i9 A3,Eu (xwn rfl rfl hj5.hp (Iu _ _ _ _ _) rfl (xwb rfl rfl rfl ⟨p,dx,mem,pr,g,G5,_,_,r,m,k5,l,l,(show [V.ref p,V.int (k5:Int),V.int (((l+1:Nat):Int)-1)]=[V.ref p,V.int (k5:Int),V.int (l:Int)] by rw[show((l+1:Nat):Int)-1=(l:Int) by lia]),hj5,go5.lev (lv9 i k5 ek),hL,C8 l,by lia,by lia,by lia,λy G6 H6 fr6 hj6 go6 jr6=>⟨G6,ys++[y],by rw[C0];rfl,by rw[B8,ly];rfl,fr5.trans fr6,(by rw[M6,<-O3,<-O3];exact hj6),(by rw[M6];exact go5.trans go6),?_⟩⟩))⟩;rw[F4,ek,J0];exact K4 (Paired.imp (λk y z=>z.goes hj5.ok go6) pr5) jr6
  rintro acc H5 z2_ A5 hA5;apply AE;intro G_ hG_;obtain⟨G5,ys,rfl,ly,fr5,hj5,go5,pr5⟩:=z2_;apply hG_;clear hG_ G_;rw[B6,l9]at ly hj5 go5;rw[B6,F7]at pr5;have nj:=Lk hj3.ok go5 nine pr5;apply AE;intro G_ hG_;obtain⟨y0,y1,y2,y3,y4,y5,y6,y7,y8,rfl⟩:=Pb ys ly;apply hG_;clear hG_ G_;have gf5:=go5.few;generalize cF:upd H5 A5 _=H6;obtain⟨s5,hA5'⟩:=alc hA5 cF;have hj6:=hj5.same s5;have f06:FrJ g m H H6:=(Fr.j fr3).trans (fr5.trans (Av.j s5));refine xq1 rfl ⟨A5,y0,y1,y2,y3,y4,y5,y6,y7,y8,rfl,hA5',λMM t0 t1 t2 t3 H7 s7 hM ht0 ht1 ht2 ht3=>?_⟩;have hj7:=hj6.same s7;refine⟨MM,rfl,⟨_,SqL.of hM⟩,?_⟩;have p1:2^(l+1)=2^l*2:=L6 ..;have four:=MW nj ht0 ht1 ht2 ht3;have okG5:=hj7.ok;refine BP (xs:=[t0,t1,t2,t3].map V.ref) (λi acc H8=>∃(G8:Gv)(zs:List Nat),acc=zs.map toV/\zs.length=i/\Fr g H7 H8/\JW a H8 g G8 (N+9*cst l) (M+9*cst l) p dx mem pr r m/\AQ G5 G8 i/\∀(t z:Nat),zs[t]?=some z->Ap G8 z ((l+2:Nat):Int)/\Vw G8 (BH r (2^l) (AW G (l+1+2) n)) (l+1+1) z (2^(l+1)*(t%2)+2^l) (2^(l+1)*(t/2)+2^l)) ⟨G5,[],rfl,rfl,Fr.refl g H7,hj7,AQ.refl okG5,λt z e=>(nomatch e)⟩ (λi acc H8 _ z=>by obtain⟨_,_,_,_,fr,_⟩:=z;exact SqL.of ((fr.kps hj7.gr hj7.bs.long) _ _ hM (.lst (by show 4<=50;decide)))) ?_ ?_
  ·rintro i v acc H8 ev z5_;apply AE;intro G_ hG_;obtain⟨G8,zs,rfl,lz,fr8,hj8,go8,vz⟩:=z5_;apply hG_;clear hG_ G_;rw[B9]at ev;obtain⟨tt,et,rfl⟩:=D5.mp ev;have i4:i<4:=(B7.mp et).1;apply AE;intro G_ hG_;obtain⟨f0,f1,f2,f3,htt,⟨m0,m1,m2,m3⟩,w0,w1,w2,w3⟩:=four i tt et;apply hG_;clear hG_ G_;have gf8:=go8.few;refine⟨⟨[some (.ref tt)],rfl,rfl⟩,by rw[B6,lz];exact M7 i4 A3,Eu (xwf rfl rfl hj8.hp T.cl_Jumps T.na_Jumps_grove (DQ _ _ _ _ _) (xq3 rfl hj8.gr.hp (Ec g) (xq1 rfl ⟨g,G8,tt,f0,f1,f2,f3,((l+1:Nat):Int),rfl,hj8.gr,hj8.ok,(fr8.kps hj7.gr hj7.bs.long) _ _ htt (.inl .tup),⟨go8.lev m0,go8.lev m1,go8.lev m2,go8.lev m3⟩,by lia,by lia,λz G9 H9 fr9 hg9 go9 e9=>⟨G9,zs++[z],by rw[C0];rfl,by rw[B8,lz];rfl,fr8.trans fr9,hj8.fr fr9 hg9 go9,go8.trans go9,?_⟩⟩)))⟩;refine IV lz (λt z' e=>?_) ?_
   ·obtain⟨q1,q2⟩:=vz t z' e;exact⟨go9.lev q1,q2.goes hj8.ok go9 q1⟩
   ·exact⟨⟨_,e9,by show((l+1:Nat):Int)+1=((l+2:Nat):Int);lia⟩,EM okG5 (go8.trans go9) m0 m1 m2 m3 w0 w1 w2 w3 e9⟩
  rintro acc H8 z2_ A8 hA8;apply AE;intro G_ hG_;obtain⟨G8,zs,rfl,lz,fr8,hj8,go8,vz⟩:=z2_;apply hG_;clear hG_ G_;apply AE;intro G_ hG_;obtain⟨z0,z1,z2,z3,rfl⟩:=IG zs lz;apply hG_;clear hG_ G_;have s8:Av H8 (upd H8 A8 (.lst ([z0,z1,z2,z3].map toV))):=Ai hA8;have go4:AQ G5 G8 4:=go8;obtain⟨q0,x0⟩:=vz 0 z0 rfl;obtain⟨q1,x1⟩:=vz 1 z1 rfl;obtain⟨q2,x2⟩:=vz 2 z2 rfl;obtain⟨q3,x3⟩:=vz 3 z3 rfl;refine k A8 z0 z1 z2 z3 G8 _ (f06.trans ((Av.j s7).trans ((Fr.j fr8).trans (Av.j s8)))) (hj8.same s8) (((go3.trans go5).trans go4).mono A1) Af ⟨q0,q1,q2,q3⟩ ⟨x0.at' A1 A1,x1.at' A1 A1,x2.at' A1 A1,x3.at' A1 A1⟩
theorem ok_freG{L d:Nat}{f:Addr}{fd:FuncData}(F:Fun K "fresh" "Jumps.fresh" Cc f fd)(T:Top K mg a)(d7:7<=d)(aD:BJ P w K mg base CX0 7 a.c_Jumps "middle_after" BX (OK a))(a6:BJ P w K mg base CX0 2 a.c_Grove "linked" BB (FM a))(aC:Cal P w K mg base CX0 3 "nine_parts" CS (JV a))(aQ:Cal P w K mg base CX0 1 "fours_of" Fc Js)(aE:Cal P w K mg base CX0 3 "met_in_the_middle" Ch (Sn a))(a9:BJ P w K mg base CX0 d a.c_Jumps "reckoned" Bf (Ev a L))(aO:BJ P w K mg base CX0 (d+1) a.c_Jumps "four_halfway" Bw (Mv a L)):AR P w K mg base CX0 (d+2) f fd Df (Rl a (L+1)):=by
 refine F.ok DC (λvs H Q E h=>?_) (λcdv A outer s H vs Q E hr h=>?_)
 ·apply AE;intro G_ hG_;obtain⟨p,dx,mem,pr,g,G,N,M,r,m,n,l,e,rfl,_⟩:=h;apply hG_;clear hG_ G_;rfl
 ·apply AE;intro G_ hG_;obtain⟨p,dx,mem,pr,g,G,N,M,r,m,n,l,e,rfl,hj,hl,hL,he,fewN,fewM,few,k⟩:=h;obtain⟨q,eq,el⟩:=id hl;apply hG_;clear hG_ G_;have l48:=(hj.ok.lev eq).2;have l46:l<=46:=by lia
  refine⟨_,(Ac (Ax (i:=3) DC.nd rfl (Or.inr rfl) (AJ (pv 0) rfl)) (Ac (Ax (i:=4) DC.nd rfl (Or.inl rfl) (Al Ar (AJ (pv 3) rfl) (pv 1) (λ_ _=>rfl))) (Ac (AU (AI Ds (pv 1) (Al Ar (AJ (pv 3) rfl) (pv 4) (λ_ _=>rfl)) (AM _)) (Ag (Au (Al Ar (AJ (pv 3) rfl) (AK Cd (pv 4) Ae) (λ_ _=>rfl)))) AF) (Ac (AU (AI Ds (pv 4) (CQ rfl T.k_LEAST_JUMPED) (AM _)) (Ag (Au (Ay (pv 0) aD (rm hr) Aq (Aa (pv 1) Ab)))) AF) (Ac (AU (AI JE (pv 2) (AK Cd (pv 4) (CQ rfl T.k_LEAST_JUMPED)) (AM _)) (Ac (Do (i:=5) rfl DC.nd rfl rfl (Bk.of (So:=Ak Cc) (No:=Ep) (N:=["part","self","e"]) (k:=1) (cs:=[0,2]) rfl rfl A0) (Bc (Az aC (rm hr) rfl Aq (Aa (pv 3) (Aa (pv 1) Ab)))) (λ_ _ _=>(AV (i:=0) A0 rfl rfl)) (λ_ _ _=>Bp) (λ_ _ _=>(Ay (pv 1) a9 (rm hr) Aq (Aa (pv 0) (Aa (pv 2) Ab))))) (Ag (Au (Ay (pv 3) a6 (rm hr) Aq (Aa (Bv CB rfl T.b_tuple K9 (Aa (BL rfl (Bk.of (So:=Ak Cc) (No:=Ep) (N:=["four","grove"]) (k:=1) (cs:=[3]) rfl rfl A0) (Bc (Az aQ (rm hr) rfl Aq (Aa (pv 5) Ab))) (λ_ _ _=>(AV (i:=0) A0 rfl rfl)) (λ_ _ _=>Bp) (λ_ _ _=>(Az aE (rm hr) rfl Aq (Aa (pv 1) (Aa (pv 0) Ab))))) Ab)) Ab))))) AF) (Ag (Au (Ay (pv 3) a6 (rm hr) Aq (Aa (Bv CB rfl T.b_tuple K9 (Aa (BL rfl (Bk.of (So:=Ak Cc) (No:=Ep) (N:=["four","self","e"]) (k:=1) (cs:=[0,2]) rfl rfl A0) (Bc (Ay (pv 0) aO (rm hr) Aq (Aa (pv 1) (Aa (pv 2) Ab)))) (λ_ _ _=>(AV (i:=0) A0 rfl rfl)) (λ_ _ _=>Bp) (λ_ _ _=>(Ay (pv 1) a9 (rm hr) Aq (Aa (pv 0) (Ck Cd (pv 2) Ae Ab))))) Ab)) Ab))))))))),?_⟩
  try dsimp only[cxK]
  refine xwf rfl rfl hj.hp T.cl_Jumps T.na_Jumps_grove (DQ _ _ _ _ _) ?_;refine xq1 rfl ⟨g.p,_,g.dx,_,_,rfl,hj.gr.hp,T.cl_Grove,T.na_Grove_levels,Gc g,_,rfl,g.lv,_,(n:Int),.int ((l+2:Nat):Int),rfl,rfl,SqL.of hj.gr.lv,Am (by rw[B9,eq,<-el];rfl),?_⟩;refine xq1 rfl (xq1 rfl ⟨g.p,_,g.dx,_,_,rfl,hj.gr.hp,T.cl_Grove,T.na_Grove_bares,Pw g,_,rfl,g.br,_,((l+2:Nat):Int),.int (bareN (l+2):Int),rfl,rfl,SqL.of hj.br,Am (bareJ A1),rfl,_,rfl,?_⟩);have c5:=QL l;refine Nk (λhc=>?_) (λhc=>?_)
  ·have ei:n=bareN (l+2):=by
    have:=K1 hc;injection this with this
    exact A1c this
   refine xwf rfl rfl hj.gr.hp T.cl_Grove T.na_Grove_bares (Pw g) (xwb rfl rfl rfl (xq4 rfl rfl (SqL.of hj.br) (by rw[show((l+2:Nat):Int)-1=((l+1:Nat):Int) by lia];exact Am (bareJ A1)) ?_));refine k (bareN (l+1)) G H (λb o e _ _ _ _ _=>e) (hj.mono A1 A1) ((AQ.refl hj.ok).mono A1) ?_;rw[ei];exact JR.bare hj.ok hj.bs hj.rest A1 he
  refine xq1 rfl ⟨rfl,(xq1 rfl ?_)⟩;cases l with
  |zero =>
   refine(show ∀{b:Bool}{A B:Prop},b=true->A->(if b=true then A else B)from λh x=>by rw[h];exact CN x) (Z1 rfl) ?_;have e0:e=0:=by lia
   subst e0;exact xwn rfl rfl hj.hp (noJ_mid _ _ _ _ _) rfl ⟨p,dx,mem,pr,g,G,N,M,r,m,n,rfl,hj,hl,by lia,by lia,λk' G' H' fr hj' go jr=>k k' G' H' fr (hj'.mono A1 (by show M+4<=M+(5-1);lia)) (go.mono (by show 1<=5-1;decide)) jr⟩
  |succ l =>
   refine(show ∀{b:Bool}{A B:Prop},b=false->B->(if b=true then A else B)from λh x=>by rw[h];exact Bq x) (Z2 (by intro z;injection z with z;have z:((l+1+2:Nat):Int)=2:=z;lia)) ?_;have cs:cst (l+1)=13*cst l+11:=rfl;have c5:=QL l;have hL:l<L:=by lia
   have p1:2^(l+1)=2^l*2:=L6 ..;refine xw2 rfl rfl (xq2 rfl rfl (xq2 rfl rfl (xq1 rfl ?_)));refine Nk (λhc=>?_) (λhc=>?_)
   ·have el':e<=l:=by
     have hc:=K1 hc;have hc:(e:Int)<((l+1+2:Nat):Int)-2:=hc;lia
    obtain⟨q9,eq9,el9⟩:=id hl;have l46:l<=45:=by have:=(hj.ok.lev eq9).2;lia
    refine xw2 rfl rfl ⟨g,G,n,l+1,rfl,hj.gr,hj.ok,hl,by lia,by lia,λA9 ks G3 H3 fr3 hg3 go3 hA3 l9 nine=>?_⟩;have hj3:=hj.fr fr3 hg3 go3;have gf3:=go3.few;have lv9:∀(t k:Nat),ks[t]?=some k->Ap G3 k ((l+2:Nat):Int):=λt k e=>by
     have ht:=(B7.mp e).1;obtain⟨k',e1,e2,_⟩:=nine (t%3) (t/3) A1 A1;rw[show t%3+3*(t/3)=t by lia,e]at e1;cases e1;exact e2
    refine⟨A9,rfl,⟨_,SqL.of hA3⟩,?_⟩;refine BP (xs:=ks.map λ(k:Nat)=>V.int (k:Int)) (λi acc H5=>∃(G5:Gv)(ys:List Nat),acc=ys.map toV/\ys.length=i/\FrJ g m H3 H5/\JW a H5 g G5 (N+i*cst l) (M+i*cst l) p dx mem pr r m/\AQ G3 G5 (i*cst l)/\Paired (λk y=>JR r G5 e k y) (ks.take i) ys) ⟨G3,[],rfl,rfl,λb o e _ _ _ _ _=>e,(by rw[Q0];exact hj3),(by rw[Q0];exact AQ.refl hj3.ok),.nil⟩ (λi acc H5 _ z=>by obtain⟨_,_,_,_,fr,_⟩:=z;exact SqL.of ((fr.kps hj3.gr hj3.bs.long hj3.me) _ _ hA3 (.lst (by rw[B6];lia)))) ?_ ?_
    ·rintro i v acc H5 ev z5_;apply AE;intro G_ hG_;obtain⟨G5,ys,rfl,ly,fr5,hj5,go5,pr5⟩:=z5_;apply hG_;clear hG_ G_;rw[B9]at ev;obtain⟨k5,ek,rfl⟩:=D5.mp ev;have i9:i<9:=by have:=(B7.mp ek).1;lia
     have ic:i*cst l+cst l<=9*cst l:=by
      have:=N8 (cst l) (show i+1<=9 by lia);rw[M6]at this;exact this
     have gf5:=go5.few;refine⟨⟨[some (.int (k5:Int))],rfl,rfl⟩,by rw[B6,ly];exact M7 i9 A3,Eu (xwn rfl rfl hj5.hp (Iu _ _ _ _ _) rfl (xq1 rfl ⟨p,dx,mem,pr,g,G5,_,_,r,m,k5,l,e,rfl,hj5,go5.lev (lv9 i k5 ek),hL,el',by lia,by lia,by lia,λy G6 H6 fr6 hj6 go6 jr6=>⟨G6,ys++[y],by rw[C0];rfl,by rw[B8,ly];rfl,fr5.trans fr6,(by rw[M6,<-O3,<-O3];exact hj6),(by rw[M6];exact go5.trans go6),?_⟩⟩))⟩;rw[F4,ek,J0];exact K4 (Paired.imp (λk y z=>z.goes hj5.ok go6) pr5) jr6
    rintro acc H5 z2_ A5 hA5;apply AE;intro G_ hG_;obtain⟨G5,ys,rfl,ly,fr5,hj5,go5,pr5⟩:=z2_;apply hG_;clear hG_ G_;rw[B6,l9]at ly hj5 go5;rw[B6,F7]at pr5;have nj:=Lk hj3.ok go5 nine pr5;apply AE;intro G_ hG_;obtain⟨y0,y1,y2,y3,y4,y5,y6,y7,y8,rfl⟩:=Pb ys ly;apply hG_;clear hG_ G_;have gf5:=go5.few;generalize cF:upd H5 A5 _=H6;obtain⟨s5,hA5'⟩:=alc hA5 cF;have hj6:=hj5.same s5;have f06:FrJ g m H H6:=(Fr.j fr3).trans (fr5.trans (Av.j s5));refine xwm rfl rfl hj6.gr.hp (Ec g) ?_;refine xq1 rfl ⟨A5,y0,y1,y2,y3,y4,y5,y6,y7,y8,rfl,hA5',λMM t0 t1 t2 t3 H7 s7 hM ht0 ht1 ht2 ht3=>?_⟩;have hj7:=hj6.same s7;refine⟨MM,rfl,⟨_,SqL.of hM⟩,?_⟩;have four:=MW nj ht0 ht1 ht2 ht3;have okG5:=hj7.ok;refine BP (xs:=[t0,t1,t2,t3].map V.ref) (λi acc H8=>∃(G8:Gv)(zs:List Nat),acc=zs.map toV/\zs.length=i/\Fr g H7 H8/\JW a H8 g G8 (N+9*cst l) (M+9*cst l) p dx mem pr r m/\AQ G5 G8 i/\∀(t z:Nat),zs[t]?=some z->Ap G8 z ((l+1:Nat):Int)/\Vw G8 (BH r (2^e) (AW G (l+1+2) n)) (l+1) z (2^(l+1)*(t%2)+2^(l+1)) (2^(l+1)*(t/2)+2^(l+1))) ⟨G5,[],rfl,rfl,Fr.refl g H7,hj7,AQ.refl okG5,λt z e=>(nomatch e)⟩ (λi acc H8 _ z=>by obtain⟨_,_,_,_,fr,_⟩:=z;exact SqL.of ((fr.kps hj7.gr hj7.bs.long) _ _ hM (.lst (by show 4<=50;decide)))) ?_ ?_
    ·rintro i v acc H8 ev z5_;apply AE;intro G_ hG_;obtain⟨G8,zs,rfl,lz,fr8,hj8,go8,vz⟩:=z5_;apply hG_;clear hG_ G_;rw[B9]at ev;obtain⟨tt,et,rfl⟩:=D5.mp ev;have i4:i<4:=(B7.mp et).1;apply AE;intro G_ hG_;obtain⟨f0,f1,f2,f3,htt,⟨m0,m1,m2,m3⟩,w0,w1,w2,w3⟩:=four i tt et;apply hG_;clear hG_ G_;have gf8:=go8.few;have qg:∀{f:Nat}(j:Nat),Ap G5 f ((l+1:Nat):Int)->qO G8 f j=qO G5 f j:=λ{f} j h=>by
      obtain⟨q,e,_⟩:=h;unfold qO;rw[go8.get e,e]
     refine⟨⟨[some (.ref tt)],rfl,rfl⟩,by rw[B6,lz];exact M7 i4 A3,Eu (xw2 rfl rfl ⟨g,G8,tt,f0,f1,f2,f3,l,rfl,hj8.gr,hj8.ok,(fr8.kps hj7.gr hj7.bs.long) _ _ htt (.inl .tup),⟨go8.lev m0,go8.lev m1,go8.lev m2,go8.lev m3⟩,by lia,by lia,λz G9 H9 fr9 hg9 go9 e9=>⟨G9,zs++[z],by rw[C0];rfl,by rw[B8,lz];rfl,fr8.trans fr9,hj8.fr fr9 hg9 go9,go8.trans go9,?_⟩⟩)⟩;rw[qg 3 m0,qg 2 m1,qg 1 m2,qg 0 m3]at e9;refine IV lz (λt z' e=>?_) ?_
     ·obtain⟨q1,q2⟩:=vz t z' e;exact⟨go9.lev q1,q2.goes hj8.ok go9 q1⟩
     ·exact⟨⟨_,e9,by show(l:Int)+1=((l+1:Nat):Int);lia⟩,(VL okG5 (go8.trans go9) m0 m1 m2 m3 w0 w1 w2 w3 e9).at' A1 A1⟩
    rintro acc H8 z2_ A8 hA8;apply AE;intro G_ hG_;obtain⟨G8,zs,rfl,lz,fr8,hj8,go8,vz⟩:=z2_;apply hG_;clear hG_ G_;apply AE;intro G_ hG_;obtain⟨z0,z1,z2,z3,rfl⟩:=IG zs lz;apply hG_;clear hG_ G_;have go4:AQ G5 G8 4:=go8;have go08:=(go3.trans go5).trans go4;have f08:FrJ g m H H8:=f06.trans ((Av.j s7).trans (Fr.j fr8));generalize cS:upd H8 A8 _=H9;obtain⟨s8,hA8'⟩:=alc hA8 cS;refine⟨A8,(xq1 rfl (.inl ⟨SqL.of hA8',λu hu=>?_⟩))⟩;have hj9:=hj8.same s8;obtain⟨q0,x0⟩:=vz 0 z0 rfl;obtain⟨q1,x1⟩:=vz 1 z1 rfl;obtain⟨q2,x2⟩:=vz 2 z2 rfl;obtain⟨q3,x3⟩:=vz 3 z3 rfl;have gf08:=go08.few;refine lnk (⟨.refl _ _,λe=>e,hj9.gr,.refl hj9.ok⟩:Ln a g H9 G8 0 H9 G8) hu ⟨q0,q1,q2,q3⟩ A1 A1 λz G11 H11 l11 go11 e11=>?_;refine k z G11 H11 (f08.trans ((Av.j s8).trans (Fr.j l11.fr))) ((hj9.fr l11.fr l11.gr go11).mono A1 A1) ((go08.trans go11).mono A1) ?_;have goz:=go08.trans go11;refine Vw.jr (goz.lev hl) he ⟨_,e11,by show((l+1:Nat):Int)+1=((l+1+1:Nat):Int);lia⟩ ?_;rw[BM hj.ok goz hl];exact EM hj9.ok go11 q0 q1 q2 q3 (x0.at' A1 A1) (x1.at' A1 A1) (x2.at' A1 A1) (x3.at' A1 A1) e11
   ·have el':e=l+1:=by
     have hc:¬(e:Int)<((l+1+2:Nat):Int)-2:=λz=>hc (Z1 z);lia
    subst el';refine xwm rfl rfl hj.gr.hp (Ec g) ?_;refine xwn rfl rfl hj.hp (Qq _ _ _ _ _) rfl (xq1 rfl ⟨p,dx,mem,pr,g,G,N,M,r,m,n,l,rfl,hj,hl,hL,by lia,by lia,by lia,λA7 f0 f1 f2 f3 G5 H7 f07 hj7 go5 hA7 lvs vws=>?_⟩);apply AE;intro G_ hG_;obtain⟨m0,m1,m2,m3⟩:=lvs;obtain⟨w0,w1,w2,w3⟩:=vws;apply hG_;clear hG_ G_;have gf5:=go5.few;refine⟨A7,rfl,⟨_,SqL.of hA7⟩,?_⟩;have okG5:=hj7.ok;have four:∀(t f:Nat),[f0,f1,f2,f3][t]?=some f->Ap G5 f ((l+2:Nat):Int)/\Vw G5 (BH r (2^l) (AW G (l+1+2) n)) (l+2) f (2^(l+1)*(t%2)+2^l) (2^(l+1)*(t/2)+2^l):=λt f et=>by
     match t,et with
     |0,et=>cases et;exact⟨m0,w0.at' A1 A1⟩
     |1,et=>cases et;exact⟨m1,w1.at' A1 A1⟩
     |2,et=>cases et;exact⟨m2,w2.at' A1 A1⟩
     |3,et=>cases et;exact⟨m3,w3.at' A1 A1⟩
     |j+4,et=>cases et
    have dbl:BH r (2^l) (BH r (2^l) (AW G (l+1+2) n))=BH r (2^(l+1)) (AW G (l+1+2) n):=by
     rw[<-Mr,p1,Nat.mul_two]
    refine BP (xs:=[f0,f1,f2,f3].map toV) (λi acc H8=>∃(G8:Gv)(zs:List Nat),acc=zs.map toV/\zs.length=i/\FrJ g m H7 H8/\JW a H8 g G8 (N+9*cst l+i*cst l) (M+9*cst l+i*cst l) p dx mem pr r m/\AQ G5 G8 (i*cst l)/\∀(t z:Nat),zs[t]?=some z->Ap G8 z ((l+1:Nat):Int)/\Vw G8 (BH r (2^(l+1)) (AW G (l+1+2) n)) (l+1) z (2^(l+1)*(t%2)+2^(l+1)) (2^(l+1)*(t/2)+2^(l+1))) ⟨G5,[],rfl,rfl,λb o e _ _ _ _ _=>e,(by rw[Q0];exact hj7),(by rw[Q0];exact AQ.refl okG5),λt z e=>(nomatch e)⟩ (λi acc H8 _ z=>by obtain⟨_,_,_,_,fr,_⟩:=z;exact SqL.of ((fr.kps hj7.gr hj7.bs.long hj7.me) _ _ hA7 (.lst (by show 4<=50;decide)))) ?_ ?_
    ·rintro i v acc H8 ev z5_;apply AE;intro G_ hG_;obtain⟨G8,zs,rfl,lz,fr8,hj8,go8,vz⟩:=z5_;apply hG_;clear hG_ G_;rw[B9]at ev;obtain⟨ff,et,rfl⟩:=D5.mp ev;have i4:i<4:=(B7.mp et).1;obtain⟨mf,wf⟩:=four i ff et;have gf8:=go8.few;have ic:i*cst l+cst l<=4*cst l:=by
      have:=N8 (cst l) (show i+1<=4 by lia);rw[M6]at this;exact this
     refine⟨⟨[some (toV ff)],rfl,rfl⟩,by rw[B6,lz];exact M7 i4 A3,Eu (xwn rfl rfl hj8.hp (Iu _ _ _ _ _) rfl (xwb rfl rfl rfl ⟨p,dx,mem,pr,g,G8,_,_,r,m,ff,l,l,(show [V.ref p,V.int (ff:Int),V.int (((l+1:Nat):Int)-1)]=[V.ref p,V.int (ff:Int),V.int (l:Int)] by rw[show((l+1:Nat):Int)-1=(l:Int) by lia]),hj8,go8.lev mf,hL,C8 l,by lia,by lia,by lia,λz G9 H9 fr9 hj9 go9 jr9=>⟨G9,zs++[z],by rw[C0];rfl,by rw[B8,lz];rfl,fr8.trans fr9,(by rw[show(i+1)*cst l=i*cst l+cst l from M6 ..,<-O3,<-O3];exact hj9),(by rw[M6];exact go8.trans go9),?_⟩⟩))⟩;refine IV lz (λt z' e=>?_) ?_
     ·obtain⟨q1,q2⟩:=vz t z' e;exact⟨go9.lev q1,q2.goes hj8.ok go9 q1⟩
     ·obtain⟨r1,_,r3⟩:=jr9.view ((go8.trans go9).lev mf) (wf.goes okG5 (go8.trans go9) mf);rw[dbl]at r3;exact⟨r1,r3.at' A1 A1⟩
    rintro acc H8 z2_ A8 hA8;apply AE;intro G_ hG_;obtain⟨G8,zs,rfl,lz,fr8,hj8,go8,vz⟩:=z2_;apply hG_;clear hG_ G_;apply AE;intro G_ hG_;obtain⟨z0,z1,z2,z3,rfl⟩:=IG zs lz;apply hG_;clear hG_ G_;have go4:AQ G5 G8 (4*cst l):=go8;have go08:=go5.trans go4;have f08:FrJ g m H H8:=f07.trans fr8;have hj8:JW a H8 g G8 (N+9*cst l+4*cst l) (M+9*cst l+4*cst l) p dx mem pr r m:=hj8;generalize cS:upd H8 A8 _=H9;obtain⟨s8,hA8'⟩:=alc hA8 cS;refine⟨A8,(xq1 rfl (.inl ⟨SqL.of hA8',λu hu=>?_⟩))⟩;have hj9:=hj8.same s8;obtain⟨q0,x0⟩:=vz 0 z0 rfl;obtain⟨q1,x1⟩:=vz 1 z1 rfl;obtain⟨q2,x2⟩:=vz 2 z2 rfl;obtain⟨q3,x3⟩:=vz 3 z3 rfl;have gf08:=go08.few;refine lnk (⟨.refl _ _,λe=>e,hj9.gr,.refl hj9.ok⟩:Ln a g H9 G8 0 H9 G8) hu ⟨q0,q1,q2,q3⟩ A1 A1 λz G11 H11 l11 go11 e11=>?_;refine k z G11 H11 (f08.trans ((Av.j s8).trans (Fr.j l11.fr))) ((hj9.fr l11.fr l11.gr go11).mono A1 A1) ((go08.trans go11).mono A1) ?_;have goz:=go08.trans go11;refine Vw.jr (goz.lev hl) he ⟨_,e11,by show((l+1:Nat):Int)+1=((l+1+1:Nat):Int);lia⟩ ?_;rw[BM hj.ok goz hl];exact EM hj9.ok go11 q0 q1 q2 q3 (x0.at' A1 A1) (x1.at' A1 A1) (x2.at' A1 A1) (x3.at' A1 A1) e11
theorem ok_recS{L d:Nat}{f:Addr}{fd:FuncData}(F:Fun K "reckoned" "Jumps.reckoned" CP f fd)(T:Top K mg a)(cK:BJ P w K mg base CX0 d a.c_Jumps "fresh" Df (Rl a L)):AR P w K mg base CX0 (d+1) f fd Bf (Ev a L):=by
 refine F.ok DB (λvs H Q E h=>?_) (λcdv A outer s H vs Q E hr h=>?_)
 ·apply AE;intro G_ hG_;obtain⟨p,dx,mem,pr,g,G,N,M,r,m,n,l,e,rfl,_⟩:=h;apply hG_;clear hG_ G_;rfl
 ·apply AE;intro G_ hG_;obtain⟨p,dx,mem,pr,g,G,N,M,r,m,n,l,e,rfl,hj,hl,hL,he,fewN,fewM,few,k⟩:=h;apply hG_;clear hG_ G_;have c5:=QL l;obtain⟨q,eq,el⟩:=id hl;have l48:=(hj.ok.lev eq).2;have e47:e<m.ds.length:=by rw[hj.me.len];lia
  obtain⟨d,ed⟩:∃d,m.ds[e]?=some d:=⟨m.ds[e]'e47,C6 _⟩
  apply AE;intro G_ hG_;obtain⟨kv,hd,dl,dk,dv⟩:=hj.me.sq e d ed;apply hG_;clear hG_ G_;refine⟨_,(Ac (Ax (i:=3) DB.nd rfl (Or.inl rfl) (MP (DS hr) (Al Ar (AJ (pv 0) rfl) (pv 2) (λ_ _=>rfl)) (pv 1) ⟨rfl,rfl,rfl,rfl⟩)) (Ac (AU (AI MT (pv 3) Ik (AM _)) (Ac (Ax (i:=3) DB.nd rfl (Or.inl rfl) (Ay (pv 0) cK (rm hr) Aq (Aa (pv 1) (Aa (pv 2) Ab)))) (Ag (FF (DS hr) (Al Ar (AJ (pv 0) rfl) (pv 2) (λ_ _=>rfl)) (pv 1) (pv 3) rfl))) AF) (Ag (Au (pv 3))))),?_⟩
  try dsimp only[cxK]
  have ed':atI (m.ds.map V.ref) (e:Int)=some (.ref d):=Am (by rw[B9,ed];rfl);refine xwf rfl rfl hj.hp T.cl_Jumps T.na_Jumps_known_squares (VX _ _ _ _ _) (xwi rfl rfl rfl (SqL.of hj.me.l) ed' ⟨d,rfl,.inl ⟨_,.inl hd⟩,(xq1 rfl ⟨_,Fx.k (k:=Sum.inl (n:Int)) hd,?_⟩)⟩);apply Nh (fun σ H1=>∃(x:Nat)(G':Gv),σ=[some (.ref p),some (.int (n:Int)),some (.int (e:Int)),some (.int (x:Int))]/\FrJ g m H H1/\JW a H1 g G' (N+cst l) (M+cst l) p dx mem pr r m/\AQ G G' (cst l)/\JR r G' e n x)
  ·intro rest;refine xq1 rfl ⟨rfl,(xq1 rfl ?_)⟩;cases ev:BK kv (Sum.inl (n:Int))with
   |some v =>
    obtain⟨x,rfl,jr⟩:=dv n v ev;exact Bq (rest _ _ ⟨x,G,rfl,λb o e _ _ _ _ _=>e,hj.mono A1 A1,(AQ.refl hj.ok).mono A1,jr⟩)
   |none =>
    refine CN ?_;refine xwn rfl rfl hj.hp (TW _ _ _ _ _) rfl (xq1 rfl ⟨p,dx,mem,pr,g,G,N,M,r,m,n,l,e,rfl,hj,hl,hL,he,fewN,fewM,few,λx G' H' fr hj' go jr=>?_⟩);apply AE;intro G_ hG_;obtain⟨kv',hd',dl',dk',dv'⟩:=hj'.me.sq e d ed;apply hG_;clear hG_ G_;refine xw2 rfl rfl (xq5 hj'.hp T.cl_Jumps T.na_Jumps_known_squares (VX _ _ _ _ _) (xwi rfl rfl rfl (SqL.of hj'.me.l) ed' (xq1 rfl ⟨d,(xq1 rfl ⟨JS.k (k:=Sum.inl (n:Int)) hd' (E5 (show kv'.length<=1000000 by lia) A3),?_⟩)⟩)));exact rest _ _ ⟨x,G',rfl,λb o e n1 n2 n3 n4 n5=>by rw[Ao (λz=>n5 (by rw[z];exact D7 ed))];exact fr _ _ e n1 n2 n3 n4 n5,(hj'.putS ed hd' jr).mono A1 A1,go.mono A1,jr⟩
  rintro σ H1 z2_;apply AE;intro G_ hG_;obtain⟨x,G',rfl,fr,hj',go,jr⟩:=z2_;apply hG_;clear hG_ G_;exact xq1 rfl (k x G' H1 fr hj' go jr)
theorem OZ{f fh ff:Addr}{fd fdh fdf:FuncData}(F:Fun K "reckoned" "Jumps.reckoned" CP f fd)(Fh:Fun K "four_halfway" "Jumps.four_halfway" Bu fh fdh)(Ff:Fun K "fresh" "Jumps.fresh" Cc ff fdf)(T:Top K mg a)(Me:PH K a.c_Jumps "reckoned" f)(Bi:Dv K fd Bf [])(Meh:PH K a.c_Jumps "four_halfway" fh)(Bih:Dv K fdh Bw [])(Mef:PH K a.c_Jumps "fresh" ff)(Bif:Dv K fdf Df [])(aD:BJ P w K mg base CX0 7 a.c_Jumps "middle_after" BX (OK a))(a6:BJ P w K mg base CX0 2 a.c_Grove "linked" BB (FM a))(aC:Cal P w K mg base CX0 3 "nine_parts" CS (JV a))(aQ:Cal P w K mg base CX0 1 "fours_of" Fc Js)(aE:Cal P w K mg base CX0 3 "met_in_the_middle" Ch (Sn a)):∀L,AR P w K mg base CX0 (10+3*L) f fd Bf (Ev a L)
 |0=>(AR.no (k:=10)).imp λvs H Q E h=>by
  apply AE;intro G_ hG_;obtain⟨p,dx,mem,pr,g,G,N,M,r,m,n,l,e,_,_,_,hL,_⟩:=h;apply hG_;clear hG_ G_;exact absurd hL (S6 l)
 |L+1=>by
  have ih:=OZ F Fh Ff T Me Bi Meh Bih Mef Bif aD a6 aC aQ aE L;have M1:BJ P w K mg base CX0 (10+3*L) a.c_Jumps "reckoned" Bf (Ev a L):=⟨⟨_,_,ih,Me,Bi⟩,T.cl_Jumps⟩
  have h2:=SO Fh T A1 aC aQ a6 M1;have M2:BJ P w K mg base CX0 (10+3*L+1) a.c_Jumps "four_halfway" Bw (Mv a L):=⟨⟨_,_,h2,Meh,Bih⟩,T.cl_Jumps⟩
  have h3:=ok_freG Ff T A1 aD a6 aC aQ aE M1 M2;have M3:BJ P w K mg base CX0 (10+3*L+2) a.c_Jumps "fresh" Df (Rl a (L+1)):=⟨⟨_,_,h3,Mef,Bif⟩,T.cl_Jumps⟩
  exact ok_recS F T M3
theorem TN{L d:Nat}{f:Addr}{fd:FuncData}(F:Fun K "after" "Jumps.after" FR f fd)(T:Top K mg a)(d4:4<=d)(aJ:BJ P w K mg base CX0 4 a.c_Jumps "check_jump" Ct (spCj a))(a9:BJ P w K mg base CX0 d a.c_Jumps "reckoned" Bf (Ev a L)):AR P w K mg base CX0 (d+1) f fd FY (Ev a L):=by
 refine F.ok MF (λvs H Q E h=>?_) (λcdv A outer s H vs Q E hr h=>?_)
 ·apply AE;intro G_ hG_;obtain⟨p,dx,mem,pr,g,G,N,M,r,m,n,l,e,rfl,_⟩:=h;apply hG_;clear hG_ G_;rfl
 ·apply AE;intro G_ hG_;obtain⟨p,dx,mem,pr,g,G,N,M,r,m,n,l,e,rfl,hj,hl,hL,he,fewN,fewM,few,k⟩:=h;obtain⟨q,eq,el⟩:=id hl;apply hG_;clear hG_ G_;refine⟨_,(Ac (AZ (Ay (pv 0) aJ (rm hr) Aq (Aa (pv 1) (Aa (pv 2) Ab)))) (Ag (Au (Ay (pv 0) a9 (rm hr) Aq (Aa (pv 1) (Aa (pv 2) Ab)))))),?_⟩
  try dsimp only[cxK]
  refine xwn rfl rfl hj.hp (Oe _ _ _ _ _) rfl (xq1 rfl ⟨p,dx,g.p,mem,pr,m.l,m.kc,g,G,n,e,q,rfl,hj.hp,hj.gr,eq,by rw[el];lia,?_⟩);exact xwn rfl rfl hj.hp (Iu _ _ _ _ _) rfl (xq1 rfl ⟨p,dx,mem,pr,g,G,N,M,r,m,n,l,e,rfl,hj,hl,hL,he,fewN,fewM,few,k⟩)
end
section
variable{α:Type}{v:α->V}{f g:Nat->α}{W:Nat}
def Dc(v:α->V)(f:Nat->α)(W:Nat):List V:=(List.range W).map λx=>v (f x)
theorem BT:(Dc v f W).length=W:=by unfold Dc;rw[B6,O0]
theorem Ob:Dc v f (W+1)=Dc v f W++[v (f W)]:=by unfold Dc;rw[Q5,C0];rfl
theorem Gh{x:Nat}(h:x<W):(Dc v f W)[x]?=some (v (f x)):=by unfold Dc;rw[B9,O1 h];rfl
theorem SH{x:Nat}(h:W<=x):(Dc v f W)[x]?=none:=L7 (by rw[BT];exact h)
theorem IN{x:Nat}(h:x<W):atI (Dc v f W) (x:Int)=some (v (f x)):=Am (Gh h)
theorem SF(row:List α)(d:α):row.map v=Dc v (λx=>row.getD x d) row.length:=by
 refine R4 λj=>?_;by_cases h:j<row.length
 ·rw[Gh h,B9,D3,C6 h];rfl
 ·rw[SH A1,L7 (by rw[B6];lia)]
theorem Qj{i k:Nat}(h:i+k<=W):Nt (Dc v f W) (some (i:Int)) (some ((i+k:Nat):Int))=Dc v (λx=>f (x+i)) k:=by
 unfold Nt;rw[HT.SB,HT.SB,BT,Nat.min_eq_left A1,Nat.min_eq_left A1,N9];refine R4 λj=>?_;rw[List.getElem?_take];by_cases hj:j<k
 ·rw[Z6 hj,T6,Gh A1,Gh hj,V5]
 ·rw[Z3 hj,SH A1]
end
inductive Sd{α:Type}(v:α->V)(H:Hp)(q:Addr)(Wx Wy:Nat)(f:Nat->Nat->α):Prop
 |mk (ts:List Addr) (_:H q=some (.lst (ts.map V.ref))) (_:ts.length=Wy) (_:∀(y:Nat) t,ts[y]?=some t->H t=some (.lst (Dc v (λx=>f x y) Wx))):Sd v H q Wx Wy f
section
variable{α:Type}{v:α->V}{H H':Hp}{q:Addr}{Wx Wy:Nat}{f g:Nat->Nat->α}
end
section
variable{P:Program}{w:World}{K:PySem.W.Frag}{mg:Str->Option Value}{base:Heap}{a:Ad}
inductive SpGb(K:PySem.W.Frag)(vs:List V)(H:Hp)(Q:VK):Prop
 |mk (l fw:Addr) (ns:List Int) (W:Nat) (_:vs=[.ref l,.int (W:Int),.ref fw]) (_:SqL K H l (ns.map V.int)) (_:W<=16) (_:PJ H fw) (_:∀(q:Addr)(f:Nat->Nat->Int)(H':Hp),Av H H'->Sd V.int H' q W W f->(∀x y,CC (f x y))->Q (.ref q) H'):SpGb K vs H Q
def spGb(K:PySem.W.Frag):Sp:=λvs H Q _=>SpGb K vs H Q
theorem ok_gb{f:Addr}{fd:FuncData}(F:Fun K "_law_grid_by" "_law_grid_by" ES f fd)(T:Top K mg a)(aN:Cal P w K mg base CX0 1 "_law_at" IP (spAt K))(aF:Cal P w K mg base CX0 1 "_law_stir" FG OH):AR P w K mg base CX0 2 f fd Fe (spGb K):=by
 refine F.ok BC (λvs H Q E h=>?_) (λcdv A outer s H vs Q E hr h=>?_)
 ·obtain⟨l,fw,ns,W,rfl,_⟩:=h;rfl
 ·obtain⟨l,fw,ns,W,rfl,hS,w16,hf,k⟩:=h;refine⟨_,(Ac (Ax (i:=3) BC.nd rfl (Or.inl rfl) (Bn Ab)) (Ac (BE X6 rfl (BR rfl T.b_range (Aa (pv 1) Ab)) (AL (i:=4) BC.nd rfl (Or.inl rfl)) (Ac (Ax (i:=5) BC.nd rfl (Or.inl rfl) (Az aN (rm hr) rfl Aq (Aa (pv 0) (Ck Bo Ae (pv 4) Ab)))) (Ac (Ax (i:=6) BC.nd rfl (Or.inl rfl) (Bn Ab)) (Ac (BE X6 rfl (BR rfl T.b_range (Aa (pv 1) Ab)) (AL (i:=7) BC.nd rfl (Or.inl rfl)) (Ac (Ax (i:=8) BC.nd rfl (Or.inl rfl) Ae) (Ac (AU (AI JE (AK BU (Az aF (rm hr) rfl Aq (Aa (pv 5) (Ck Bo Ae (pv 7) Ab))) Ae) Ae (AM _)) (Ag (Ax (i:=8) BC.nd rfl (Or.inl rfl) (Al Ar (pv 2) (AK BU (Az aF (rm hr) rfl Aq (Aa (pv 5) (Aa (pv 7) Ab))) Ae) (λ_ _=>rfl)))) AF) (Ag (AZ (Ce Z8 Z9 X4 Ba (pv 6) (Aa (pv 8) Ab))))))) (Ag (AZ (Ce Z8 Z9 X4 Ba (pv 3) (Aa (pv 6) Ab)))))))) (Ag (Au (pv 3))))),?_⟩
  try dsimp only[cxK]
  refine lts ?_;intro s_1 E_1;obtain⟨xs,hx,hget⟩:=hf.get;refine⟨(by show 0<=sizeLine;decide),λGL hGL=>?_⟩;generalize bH:upd H GL _=H1;obtain⟨s1,hG1⟩:=alc hGL bH;refine xq1 rfl ⟨(W:Int),rfl,by lia,by lia,?_⟩;rw[L8];refine CV (n:=W) (λi σ Hx=>∃(ts:List Addr)(rows:List (List Int))(u5 u6 u7 u8 u9:Option V),σ=[some (.ref l),some (.int (W:Int)),some (.ref fw),some (.ref GL),u5,u6,u7,u8,u9]/\Av H Hx/\Hx GL=some (.lst (ts.map V.ref))/\Paired (λt row=>t≠GL/\Hx t=some (.lst (row.map V.int))/\row.length=W/\∀x∈row,CC x) ts rows/\ts.length=i) ⟨[],[],none,none,none,none,none,rfl,s1,hG1,.nil,rfl⟩ ?_ ?_
  ·rintro i σ Hx hi ⟨ts,rows,u5,u6,u7,u8,u9,rfl,sx,hGx,prx,lx⟩;refine xq1 rfl (xq1 rfl (xq2 rfl rfl ⟨l,ns,_,rfl,sx.seq hS,by lia,?_⟩));refine⟨(by show 0<=sizeLine;decide),λR hR=>?_⟩;refine xq1 rfl ⟨(W:Int),rfl,by lia,by lia,?_⟩;rw[L8];have nRG:R≠GL:=λz=>by rw[z,hGx]at hR;cases hR
   refine CV (n:=W) (λj σ H2=>∃(ys:List Int)(u8 u9:Option V),σ=[some (.ref l),some (.int (W:Int)),some (.ref fw),some (.ref GL),some (.int (0+(i:Int))),some (.int (atN ns (10+(0+(i:Int))))),some (.ref R),u8,u9]/\H2=upd Hx R (.lst (ys.map V.int))/\ys.length=j/\∀x∈ys,CC x) ⟨[],(xq2 rfl rfl ⟨rfl,λx hx=>nomatch hx⟩)⟩ ?_ ?_
   ·rintro j σ H2 hj ⟨ys,u8,u9,rfl,rfl,ln,oks⟩;refine ltg ?_;intro s_3;have sm:Av Hx (upd Hx R (.lst (ys.map V.int))):=Ai hR;have hR2:upd Hx R (.lst (ys.map V.int)) R=some (.lst (ys.map V.int)):=Af;have lt:(ys.map V.int).length<sizeLine:=by rw[B6,ln];exact F5 hj (D4 w16 A3)
    apply Nh (fun σ H'=>upd Hx R (.lst (ys.map V.int))=H'/\∃d:Int,CC d/\σ=[some (.ref l),some (.int (W:Int)),some (.ref fw),some (.ref GL),some (.int (0+(i:Int))),some (.int (atN ns (10+(0+(i:Int))))),some (.ref R),some (.int (0+(j:Int))),some (.int d)])
    ·intro rest;refine xw2 rfl rfl (xq2 rfl rfl ⟨_,_,rfl,by show 0<=50+(0+(j:Int));lia,by show 50+(0+(j:Int))<=1000;lia,λv1 hv1=>?_⟩);refine xq2 rfl rfl ⟨(by show(0:Int)<3;decide),(xq2 rfl rfl (xq1 rfl ?_))⟩;refine Nk (λ_=>?_) (λ_=>rest _ _ ⟨rfl,0,⟨by decide,by decide⟩,rfl⟩);refine xw3 rfl rfl rfl ⟨_,_,rfl,by lia,by lia,λv2 hv2=>?_⟩;obtain⟨d,dok,ed⟩:=hget v2 hv2;exact xq2 rfl rfl ⟨B3,fw,xs,(xq2 rfl rfl ⟨SqL.of (sm _ _ (sx _ _ hx)),ed,rest _ _ ⟨rfl,d,dok,rfl⟩⟩)⟩
    rintro σ H' ⟨rfl,d,dok,rfl⟩;refine xq1 rfl ⟨.inl ⟨rfl,_,SqL.of hR2⟩,(xq1 rfl ⟨R,(xq2 rfl rfl ⟨hR2,lt,ys++[d],_,_,rfl,by rw[Fz,C0];rfl,by rw[B8,ln];rfl,λx hx=>?_⟩)⟩)⟩;rcases D1.mp hx with z|z
    ·exact oks x z
    ·rw[C7.mp z];exact dok
   ·rintro σ H2 ⟨ys,u8,u9,rfl,rfl,ln,oks⟩;generalize e_sm:upd Hx R _=H3;obtain⟨sm,hR2⟩:=alc hR e_sm;have hG3:=sm _ _ hGx;refine xq1 rfl ⟨.inl ⟨rfl,_,SqL.of hG3⟩,(xq1 rfl ⟨GL,(xq2 rfl rfl ⟨hG3,by rw[B6];exact E5 (show ts.length<=16 by lia) A3,?_⟩)⟩)⟩;have up:∀{b:Addr}{o:HO},H3 b=some o->b≠GL->upd H3 GL (.lst (ts.map V.ref++[.ref R])) b=some o:=λ{b o} e n=>by rw[Ao n];exact e
    refine⟨ts++[R],rows++[ys],_,_,_,_,_,rfl,λb o e=>up (sm _ _ (sx _ _ e)) (Ah e hGL),by rw[Af,C0];rfl,K4 (Paired.imp (λt row z=>⟨z.1,up (sm _ _ z.2.1) z.1,z.2.2⟩) prx) ⟨nRG,up hR2 nRG,ln,oks⟩,by rw[B8,lx];rfl⟩
  ·rintro σ Hx ⟨ts,rows,u5,u6,u7,u8,u9,rfl,sx,hGx,prx,lx⟩;refine xq1 rfl (k GL (λx y=>(rows.getD y []).getD x 0) Hx sx ⟨ts,hGx,lx,λy t et=>?_⟩ λx y=>?_)
   ·obtain⟨row,er,_,h2,h3,_⟩:=Paired.get prx et;rw[h2,SF row 0,h3,D3,er];rfl
   ·show CC ((rows.getD y []).getD x 0);rw[D3 (l:=rows)];cases er:rows[y]? with
    |none =>
     show CC (([]:List Int).getD x 0);rw[List.getD_nil];exact⟨by decide,by decide⟩
    |some row =>
     obtain⟨t,et,_,_,_,h4⟩:=PairedM.get prx er;show CC (row.getD x 0);rw[D3];cases ex:row[x]? with
     |none=>exact⟨by decide,by decide⟩
     |some d=>exact h4 d (D7 ex)
end
theorem rng2:∀v:Nat,v<=8->Builtin.Range.small 0 ((2*v:Nat):Int) 2=true/\Builtin.Range.rangeSize 0 ((2*v:Nat):Int) 2=(v:Int):=by decide +kernel
def KN(G:Gv)(f:Nat->Nat->Int)(k W:Nat)(F:Nat->Nat->Nat):Prop:=∀x y,x<W->y<W->Ap G (F x y) (k:Int)/\Vw G f k (F x y) (2^k*x) (2^k*y)
section
variable{P:Program}{w:World}{K:PySem.W.Frag}{mg:Str->Option Value}{base:Heap}{a:Ad}
inductive Wv(vs:List V)(H:Hp)(Q:VK):Prop
 |mk (i:Int) (_:vs=[.int i,.int i]) (_:Q (.bl true) H):Wv vs H Q
def OI:Sp:=λvs H Q _=>Wv vs H Q
theorem ok_same{f:Addr}{fd:FuncData}(F:Fun K "_law_same" "_law_same" Ij f fd)(T:Top K mg a):AR P w K mg base CX0 1 f fd FH OI:=by
 refine F.ok OR (λvs H Q E h=>?_) (λcdv A outer s H vs Q E hr h=>?_)
 ·obtain⟨i,rfl,_⟩:=h;rfl
 ·obtain⟨i,rfl,k⟩:=h;refine⟨_,(Ag (Au (Lg (AO Dh rfl T.b_isinstance K0 (Aa (pv 0) (Aa (En (v:=.ty "int") rfl T.b_int A0d rfl) Ab))) (Lg (Vq (AO Dh rfl T.b_isinstance K0 (Aa (pv 0) (Aa (En (v:=.ty "bool") rfl T.b_bool A3f rfl) Ab)))) (Le (EG Ds (pv 0) (pv 1) (AM _))))))),?_⟩
  try dsimp only[cxK]
  refine xq1 rfl ⟨_,_,_,.type "int",true,rfl,rfl,.of (.int i),(SX K).1,true,rfl,CN (xq1 rfl ⟨_,_,_,.type "int",false,rfl,rfl,.of (.int i),(SX K).2,false,rfl,true,rfl,CN (xw2 rfl rfl ⟨rfl,?_⟩)⟩)⟩;rw[Z1 rfl];exact k
inductive WC(a:Ad)(vs:List V)(H:Hp)(Q:VK):Prop
 |mk (g:GA) (G:Gv) (q:Addr) (l:Nat) (f:Nat->Nat->Int) (_:vs=[.ref g.p,.ref q]) (_:AD a H g G) (_:GOk G) (_:56<=G.length) (_:Sd V.int H q (2^l) (2^l) f) (_:∀x y,CC (f x y)) (_:l<=4) (_:G.length<1000000) (_:∀(n:Nat)(G':Gv)(H':Hp),Fr g H H'->AD a H' g G'->AQ G G' 256->Ap G' n (l:Int)->Vw G' f l n 0 0->Q (.int n) H'):WC a vs H Q
def Rk(a:Ad):Sp:=λvs H Q _=>WC a vs H Q
theorem ok_knit{f:Addr}{fd:FuncData}(F:Fun K "_law_knit" "_law_knit" FC f fd)(T:Top K mg a)(aZ:BJ P w K mg base CX0 3 a.c_Grove "leaf" EI (OL a))(aI:BJ P w K mg base CX0 4 a.c_Grove "joined" CL (Mu a)):AR P w K mg base CX0 5 f fd Ip (Rk a):=by
 refine F.ok Co (λvs H Q E h=>?_) (λcdv A outer s H vs Q E hr h=>?_)
 ·apply AE;intro G_ hG_;obtain⟨g,G,q,l,f,rfl,_⟩:=h;apply hG_;clear hG_ G_;rfl
 ·apply AE;intro G_ hG_;obtain⟨g,G,q,l,f,rfl,hg,ok,l56,⟨ts,hq,lt,hts⟩,sts,l4,few,k⟩:=h;apply hG_;clear hG_ G_;have p4:∀i,i<=l->2^i<=2^4:=λi hi=>S0 A3 A1;have pl:=p4 l (C8 l);have cast:∀x y,f x y=(((f x y).toNat:Nat):Int)/\(f x y).toNat<8:=λx y=>by
   obtain⟨h1,h2⟩:=sts x y;exact⟨by lia,by lia⟩
  refine⟨_,(Ac (Do (i:=2) rfl Co.nd rfl rfl (Bk.of (So:=Ak FC) (No:=LM) (N:=["_law_row","_law_grove"]) (k:=1) (cs:=[0]) rfl rfl A0) (Bc (pv 1)) (λ_ _ _=>(AV (i:=0) A0 rfl rfl)) (λ_ _ _=>Bp) (λ_ _ _=>(BL rfl (Bk.of (So:={kind:=PySem.ScopeKind.function,names:=[(".0",PySem.NameKind.local),("_law_row",PySem.NameKind.local),("_law_grove",PySem.NameKind.cell)],isGenerator:=false,isCoroutine:=false}) (No:=["_law_row","_law_grove"]) (N:=["_law_state","_law_grove"]) (k:=1) (cs:=[1]) rfl rfl A0) (Vn (K:=K) rfl (pv 0)) (λ_ _ _=>(AV (i:=0) A0 rfl rfl)) (λ_ _ _=>Bp) (λ_ _ _=>(Ay (pv 1) aZ (rm hr) Aq (Aa (pv 0) Ab)))))) (Ac (Vj X6 (AI Vx (AO Bh rfl T.b_len K2 (Aa (pv 2) Ab)) Ae (AM _)) (Ac (Ax (i:=3) Co.nd rfl (Or.inl rfl) (Bn Ab)) (Ac (BE X6 rfl (Oc rfl T.b_range (AH (Aa (AO Bh rfl T.b_len K2 (Aa (pv 2) Ab)) (AH Ab)))) (AL (i:=4) Co.nd rfl (Or.inl rfl)) (Ac (Ax (i:=5) Co.nd rfl (Or.inl rfl) (Bn Ab)) (Ac (BE X6 rfl (Oc rfl T.b_range (AH (Aa (AO Bh rfl T.b_len K2 (Aa (pv 2) Ab)) (AH Ab)))) (AL (i:=6) Co.nd rfl (Or.inl rfl)) (Ag (AZ (Ce Z8 Z9 X4 Ba (pv 5) (Aa (Ay (pv 0) aI (rm hr) Aq (Aa (Al Ar (Al Ar (pv 2) (pv 4) (λ_ _=>rfl)) (pv 6) (λ_ _=>rfl)) (Aa (Al Ar (Al Ar (pv 2) (pv 4) (λ_ _=>rfl)) (AK Bo (pv 6) Ae) (λ_ _=>rfl)) (Aa (Al Ar (Al Ar (pv 2) (AK Bo (pv 4) Ae) (λ_ _=>rfl)) (pv 6) (λ_ _=>rfl)) (Aa (Al Ar (Al Ar (pv 2) (AK Bo (pv 4) Ae) (λ_ _=>rfl)) (AK Bo (pv 6) Ae) (λ_ _=>rfl)) Ab))))) Ab))))) (Ag (AZ (Ce Z8 Z9 X4 Ba (pv 3) (Aa (pv 5) Ab))))))) (Ag (Ax (i:=2) Co.nd rfl (Or.inl rfl) (pv 3)))))) (Ag (Au (Al Ar (Al Ar (pv 2) Ae (λ_ _=>rfl)) Ae (λ_ _=>rfl)))))),?_⟩
  try dsimp only[cxK]
  refine AS ?_;intro r_k0 s_k0 k0 hk0 E_k0;refine xq1 rfl ⟨q,rfl,⟨_,SqL.of hq⟩,?_⟩;refine BP (xs:=ts.map V.ref) (λi acc H5=>∃bs:List Addr,acc=bs.map V.ref/\bs.length=i/\Av H H5/\∀(y:Nat) t,bs[y]?=some t->H5 t=some (.lst (Dc toV (λx=>(f x y).toNat) (2^l)))) ⟨[],rfl,rfl,Av.refl H,λy t e=>(nomatch e)⟩ (λi acc H5 _ ⟨_,_,_,s5,_⟩=>SqL.of (s5 _ _ hq)) ?_ ?_
  ·rintro i v acc H5 ev z5_;apply AE;intro G_ hG_;obtain⟨bs,rfl,lb,s5,hbs⟩:=z5_;apply hG_;clear hG_ G_;rw[B9]at ev;obtain⟨t,et,rfl⟩:=D5.mp ev;have i2:i<2^l:=by have:=(B7.mp et).1;lia
   have ht:=s5 _ _ (hts i t et);have hg5:=hg.same s5;refine⟨⟨[some (.ref t)],rfl,rfl⟩,by rw[B6,lb];exact F5 i2 (D4 pl A3),Eu (xq1 rfl ⟨t,rfl,⟨_,SqL.of ht⟩,?_⟩)⟩;refine BP (xs:=Dc V.int (λx=>f x i) (2^l)) (λc acc H6=>H5=H6/\acc=Dc toV (λx=>(f x i).toNat) c) ⟨rfl,rfl⟩ (λc acc H6 _ z=>z.1▸SqL.of ht) ?_ ?_
   ·rintro c v acc H6 ev ⟨rfl,rfl⟩;have c2:c<2^l:=by have:=(B7.mp ev).1;rw[BT]at this;exact this
    rw[Gh c2]at ev;cases ev;refine⟨⟨[some (.int (f c i))],rfl,rfl⟩,by rw[BT];exact F5 c2 (D4 pl A3),Eu (xq1 rfl (xq3 rfl hg5.hp (SR g) (xq1 rfl ⟨g.p,_,rfl,(sts c i).1,(sts c i).2,rfl,?_⟩)))⟩;rw[Ob];show _=_++[V.int (((f c i).toNat:Nat):Int)]
    rw[<-(cast c i).1]
   ·rintro acc H6 ⟨rfl,rfl⟩ C hC;rw[BT];exact⟨bs++[C],by rw[C0];rfl,by rw[B8,lb];rfl,s5.trans (Ai hC),IV lb (λy u eu=>Ai hC _ _ (hbs y u eu)) Af⟩
  rintro acc H5 z2_ R0 hR0;apply AE;intro G_ hG_;obtain⟨bs,rfl,lb,s5,hbs⟩:=z2_;apply hG_;clear hG_ G_;rw[B6,lt]at lb;show k0 _ _;generalize cL:upd H5 R0 _=H6;obtain⟨s6,h6⟩:=alc hR0 cL;have s06:=s5.trans s6;have g0:Sd toV H6 R0 (2^(l-0)) (2^(l-0)) (λx y=>(f x y).toNat):=⟨bs,h6,lb,λy t et=>s6 _ _ (hbs y t et)⟩
  have kn0:KN G f 0 (2^(l-0)) (λx y=>(f x y).toNat):=λx y _ _=>⟨⟨_,ok.leaf _ (cast x y).2,rfl⟩,λu v hu hv=>by
   have eu:u=0:=Nat.lt_one_iff.mp hu;have ev:v=0:=Nat.lt_one_iff.mp hv;subst eu;subst ev;rw[show 0+2^0*x=x by lia,show 0+2^0*y=y by lia];exact(cast x y).1.symm⟩
  refine hk0 ?_;refine AS ?_;intro r_k1 s_k1 k1 hk1 E_k1;refine⟨λm σ Hx=>∃(c:Nat)(R:Addr)(F:Nat->Nat->Nat)(Gk:Gv)(u3 u4 u5 u6:Option V),m+c=l/\σ=[some (.ref g.p),some (.ref q),some (.ref R),u3,u4,u5,u6]/\Fr g H Hx/\AD a Hx g Gk/\AQ G Gk (64*c)/\Sd toV Hx R (2^(l-c)) (2^(l-c)) F/\KN Gk f c (2^(l-c)) F,⟨l,0,R0,_,G,none,none,none,none,rfl,rfl,Av.fr s06,hg.same s06,AQ.refl ok,g0,kn0⟩,?_⟩;rintro m σ Hx z3_;apply AE;intro G_ hG_;obtain⟨c,R,F,Gk,u3,u4,u5,u6,hmc,rfl,fr,hgk,go,⟨us,hR,lu,hus⟩,kn⟩:=z3_;apply hG_;clear hG_ G_;have gk56:56<=Gk.length:=by
   obtain⟨r,e⟩:=go.pre;rw[e,B8];lia
  have gkf:=go.few;refine xq1 rfl ⟨R,(xq1 rfl ⟨.inl (SqL.of hR),(xq2 rfl rfl (xq1 rfl ?_))⟩)⟩;rw[B6,lu];refine Nk (λhc=>?_) (λhc=>?_)
  ·have hc:((2^(l-c):Nat):Int) > 1:=K1 hc;have cl:c<l:=by
    refine Nat.lt_of_not_le λz=>?_;rw[show l-c=0 by lia]at hc;exact absurd hc A3
   obtain⟨d,hd⟩:∃d,l-c=d+1:=⟨l-c-1,by lia⟩
   have hd':l-(c+1)=d:=by lia
   rw[hd]at lu hus kn;obtain⟨v,hv⟩:∃v,2^d=v:=⟨_,rfl⟩
   have v8:v<=8:=by
    rw[<-hv];exact S0 (show 0<2 by decide) (show d<=3 by lia)
   have hw:2^(d+1)=2*v:=by rw[L6,hv,Y4]
   rw[hw]at lu hus kn;refine⟨fun σ' H'=>∃(R:Addr)(F:Nat->Nat->Nat)(Gk:Gv)(u3 u4 u5 u6:Option V),σ'=[some (.ref g.p),some (.ref q),some (.ref R),u3,u4,u5,u6]/\Fr g H H'/\AD a H' g Gk/\AQ G Gk (64*(c+1))/\Sd toV H' R v v F/\KN Gk f (c+1) v F,fun σ' H' z=>⟨m-1,by lia,?_⟩,?_⟩
   ·apply AE;intro G_ hG_;obtain⟨R,F,Gk,u3,u4,u5,u6,z1,z2,z3,z4,z5,z6⟩:=z;apply hG_;clear hG_ G_;rw[<-hv,<-hd']at z5 z6;exact⟨c+1,R,F,Gk,u3,u4,u5,u6,by lia,z1,z2,z3,z4,z5,z6⟩
   obtain⟨r1,r2⟩:=rng2 v v8;have p1:2^(c+1)=2^c*2:=L6 ..;refine AS ?_;intro r_k2 s_k2 k2 hk2 E_k2;refine⟨(by show 0<=sizeLine;decide),λAB hAB=>?_⟩;show k2 _ _;generalize e_7:upd Hx AB _=H7;obtain⟨s7,h7⟩:=alc hAB e_7;have aA:AB≠g.lv/\AB≠g.pt/\AB≠g.nm:=by
    obtain⟨tt,h3,_⟩:=hgk.pt;exact⟨Z7 (Ah hgk.lv hAB),Z7 (Ah h3 hAB),Z7 (Ah hgk.nm hAB)⟩
   refine hk2 ?_;refine AS ?_;intro r_k3 s_k3 k3 hk3 E_k3;refine xq1 rfl ⟨R,(xq1 rfl ⟨.inl (SqL.of (s7 _ _ hR)),0,((2*v:Nat):Int),2,v,by rw[B6,lu],by decide,by lia,by decide,r1,r2,?_⟩)⟩;refine Nn (n:=v) (λj σ Hy=>∃(as:List Addr)(rws:List (List Nat))(Gy:Gv)(u4 u5 u6:Option V),σ=[some (.ref g.p),some (.ref q),some (.ref R),some (.ref AB),u4,u5,u6]/\Fr g Hx Hy/\AD a Hy g Gy/\AQ Gk Gy (8*j)/\Hy AB=some (.lst (as.map V.ref))/\as.length=j/\Paired (λt row=>t≠AB/\Hy t=some (.lst (row.map toV))/\row.length=v) as rws/\∀(y:Nat) row,rws[y]?=some row->∀(x z:Nat),row[x]?=some z->Ap Gy z ((c+1:Nat):Int)/\Vw Gy f (c+1) z (2^(c+1)*x) (2^(c+1)*y)) ⟨[],[],Gk,_,_,_,rfl,Av.fr s7,hgk.same s7,AQ.refl go.ok,h7,rfl,.nil,λy row e=>(nomatch e)⟩ ?_ ?_
   ·rintro j σ Hy hj z4_;apply AE;intro G_ hG_;obtain⟨as,rws,Gy,u4,u5,u6,rfl,fry,hgy,goy,hAy,la,pra,vwa⟩:=z4_;apply hG_;clear hG_ G_;have gyf:=goy.few;have ky:=fry.kps hgk gk56;have gy56:56<=Gy.length:=by
     obtain⟨r,e⟩:=goy.pre;rw[e,B8];lia
    refine AS ?_;intro r_k4 s_k4 k4 hk4 E_k4;refine⟨(by show 0<=sizeLine;decide),λMD hMD=>?_⟩;show k4 _ _;generalize e_8:upd Hy MD _=H8;obtain⟨s8,h8⟩:=alc hMD e_8;have aM:MD≠g.lv/\MD≠g.pt/\MD≠g.nm:=by
     obtain⟨tt,h3,_⟩:=hgy.pt;exact⟨Z7 (Ah hgy.lv hMD),Z7 (Ah h3 hMD),Z7 (Ah hgy.nm hMD)⟩
    have nMA:MD≠AB:=λz=>by rw[z,hAy]at hMD;cases hMD
    refine hk4 ?_;refine AS ?_;intro r_k5 s_k5 k5 hk5 E_k5;have hRy:=ky _ _ hR (.lst (by rw[B6];lia));refine xq1 rfl ⟨R,(xq1 rfl ⟨.inl (SqL.of (s8 _ _ hRy)),0,((2*v:Nat):Int),2,v,by rw[B6,lu],by decide,by lia,by decide,r1,r2,?_⟩)⟩;obtain⟨t0,et0⟩:∃t,us[2*j]?=some t:=⟨us[2*j]'A1,C6 _⟩
    obtain⟨t1,et1⟩:∃t,us[2*j+1]?=some t:=⟨us[2*j+1]'A1,C6 _⟩
    have a0:atI (us.map V.ref) (0+(j:Int)*2)=some (.ref t0):=by rw[show 0+(j:Int)*2=((2*j:Nat):Int) by lia];exact Am (by rw[B9,et0];rfl)
    have a1:atI (us.map V.ref) (0+(j:Int)*2+1)=some (.ref t1):=by rw[show 0+(j:Int)*2+1=((2*j+1:Nat):Int) by lia];exact Am (by rw[B9,et1];rfl)
    have y0:=ky _ _ (hus _ t0 et0) (.lst (by rw[BT];lia));have y1:=ky _ _ (hus _ t1 et1) (.lst (by rw[BT];lia));refine Nn (n:=v) (λi σ Hz=>∃(zs:List Nat)(Gz:Gv)(u6:Option V),σ=[some (.ref g.p),some (.ref q),some (.ref R),some (.ref AB),some (.int (0+(j:Int)*2)),some (.ref MD),u6]/\Fr g Hy Hz/\AD a Hz g Gz/\AQ Gy Gz i/\Hz MD=some (.lst (zs.map toV))/\zs.length=i/\∀(x z:Nat),zs[x]?=some z->Ap Gz z ((c+1:Nat):Int)/\Vw Gz f (c+1) z (2^(c+1)*x) (2^(c+1)*j)) ⟨[],Gy,(xq1 rfl ⟨Av.fr s8,hgy.same s8,AQ.refl goy.ok,h8,rfl,λx z e=>(nomatch e)⟩)⟩ ?_ ?_
    ·rintro i σ Hz hi z4_;apply AE;intro G_ hG_;obtain⟨zs,Gz,u6,rfl,frz,hgz,goz,hMz,lz,vwz⟩:=z4_;apply hG_;clear hG_ G_;have gzf:=goz.few;have kz:=frz.kps hgy gy56;have hRz:=kz _ _ hRy (.lst (by rw[B6];lia));have z0:=kz _ _ y0 (.lst (by rw[BT];lia));have z1:=kz _ _ y1 (.lst (by rw[BT];lia));have b0:∀(y:Nat),atI (Dc toV (λx=>F x y) (2*v)) (0+(i:Int)*2)=some (toV (F (2*i) y)):=λy=>by rw[show 0+(i:Int)*2=((2*i:Nat):Int) by lia];exact IN A1
     have b1:∀(y:Nat),atI (Dc toV (λx=>F x y) (2*v)) (0+(i:Int)*2+1)=some (toV (F (2*i+1) y)):=λy=>by rw[show 0+(i:Int)*2+1=((2*i+1:Nat):Int) by lia];exact IN A1
     refine xq1 rfl ⟨.inl ⟨rfl,_,SqL.of hMz⟩,(xwn rfl rfl hgz.hp (Lj g) rfl (xwi rfl rfl rfl (SqL.of hRz) a0 (xwi rfl rfl rfl (SqL.of z0) (b0 _) ?_)))⟩;refine xwj rfl rfl rfl rfl (SqL.of hRz) a0 (xwb rfl rfl rfl (xq4 rfl rfl (SqL.of z0) (b1 _) ?_));refine xw2 rfl rfl (xq2 rfl rfl (xq4 rfl rfl (SqL.of hRz) a1 (xwi rfl rfl rfl (SqL.of z1) (b0 _) ?_)));refine xw2 rfl rfl (xq2 rfl rfl (xq4 rfl rfl (SqL.of hRz) a1 (xwb rfl rfl rfl (xq4 rfl rfl (SqL.of z1) (b1 _) ?_))));have gkz:=goy.trans goz;obtain⟨m0,w0⟩:=kn (2*i) (2*j) A1 A1;obtain⟨m1,w1⟩:=kn (2*i+1) (2*j) A1 A1;obtain⟨m2,w2⟩:=kn (2*i) (2*j+1) A1 A1;obtain⟨m3,w3⟩:=kn (2*i+1) (2*j+1) A1 A1;refine⟨g,Gz,_,_,_,_,(c:Int),rfl,hgz,goz.ok,⟨gkz.lev m0,gkz.lev m1,gkz.lev m2,gkz.lev m3⟩,by lia,by lia,λz G9 H9 fr9 hg9 go9 e9=>?_⟩;have hM9:H9 MD=_:=fr9 _ _ hMz aM.1 aM.2.1 aM.2.2;refine⟨MD,(xq2 rfl rfl ⟨hM9,by rw[B6,lz];exact F5 hi (D4 v8 A3),?_⟩)⟩;refine⟨zs++[z],G9,(xq1 rfl ⟨λb o e n1 n2 n3=>?_,hg9.put hM9 aM.1 aM.2.1,goz.trans go9,by rw[Af,C0];rfl,by rw[B8,lz];rfl,IV lz (λx z' e=>?_) ?_⟩)⟩
     ·rw[Ao (Ah e hMD)];exact fr9 _ _ (frz _ _ e n1 n2 n3) n1 n2 n3
     ·obtain⟨q1,q2⟩:=vwz x z' e;exact⟨go9.lev q1,q2.goes goz.ok go9 q1⟩
     ·have gk9:=gkz.trans go9;have hp:∀t:Nat,2^c*(t+1)=2^c*t+2^c:=λt=>O2 _ _;have ei:2^c*(2*i)=2^(c+1)*i:=by rw[p1,U2]
      have ej:2^c*(2*j)=2^(c+1)*j:=by rw[p1,U2]
      exact⟨⟨_,e9,by show(c:Int)+1=((c+1:Nat):Int);lia⟩,EM go.ok gk9 m0 m1 m2 m3 (w0.at' ei ej) (w1.at' (by rw[hp,ei]) ej) (w2.at' ei (by rw[hp,ej])) (w3.at' (by rw[hp,ei]) (by rw[hp,ej])) e9⟩
    ·rintro σ Hz z2_;apply AE;intro G_ hG_;obtain⟨zs,Gz,u6,rfl,frz,hgz,goz,hMz,lz,vwz⟩:=z2_;apply hG_;clear hG_ G_;refine hk5 ?_;have hAz:Hz AB=_:=frz _ _ hAy aA.1 aA.2.1 aA.2.2;refine xq1 rfl ⟨.inl ⟨rfl,_,SqL.of hAz⟩,(xq1 rfl ⟨AB,(xq2 rfl rfl ⟨hAz,by rw[B6];exact E5 (show as.length<=8 by lia) A3,?_⟩)⟩)⟩;have up:∀{b:Addr}{o:HO},Hz b=some o->b≠AB->upd Hz AB (.lst (as.map V.ref++[.ref MD])) b=some o:=λ{b o} e n=>by rw[Ao n];exact e
     have kz:=frz.kps hgy gy56;refine⟨as++[MD],rws++[zs],Gz,_,_,_,rfl,λb o e n1 n2 n3=>up (frz _ _ (fry _ _ e n1 n2 n3) n1 n2 n3) (Ah e hAB),hgz.put hAz aA.1 aA.2.1,(goy.trans goz).mono A1,by rw[Af,C0];rfl,by rw[B8,la];rfl,K4 (Paired.imp (λt row z=>⟨z.1,up (kz _ _ z.2.1 (.lst (by rw[B6];lia))) z.1,z.2.2⟩) pra) ⟨nMA,up hMz nMA,lz⟩,IV ((X5 pra).symm.trans la) (λy row ey x z ex=>?_) vwz⟩;obtain⟨q1,q2⟩:=vwa y row ey x z ex;exact⟨goz.lev q1,q2.goes goy.ok goz q1⟩
   ·rintro σ Hy z2_;apply AE;intro G_ hG_;obtain⟨as,rws,Gy,u4,u5,u6,rfl,fry,hgy,goy,hAy,la,pra,vwa⟩:=z2_;apply hG_;clear hG_ G_;have lr:=X5 pra;refine hk3 ?_;refine xq1 rfl ⟨AB,λx y=>(rws.getD y []).getD x 0,Gy,_,_,_,_,rfl,fr.trans fry,hgy,(go.trans goy).mono A1,⟨as,hAy,la,λy t et=>?_⟩,λx y hx hy=>?_⟩
    ·apply AE;intro G_ hG_;obtain⟨row,er,_,h2,h3⟩:=Paired.get pra et;apply hG_;clear hG_ G_;rw[h2,SF row 0,h3,D3,er];rfl
    ·have hy':y<rws.length:=by lia
     apply AE;intro G_ hG_;obtain⟨t,et,_,_,h3⟩:=PairedM.get pra (C6 hy');apply hG_;clear hG_ G_;have e1:(rws.getD y []).getD x 0=rws[y][x]'A1:=by
      rw[D3 (l:=rws),C6 hy'];show rws[y].getD x 0=_;rw[D3,C6 A1];rfl
     show Ap Gy ((rws.getD y []).getD x 0) _/\Vw Gy f (c+1) ((rws.getD y []).getD x 0) _ _;rw[e1];exact vwa y _ (C6 hy') x _ (C6 A1)
  ·have cl:c=l:=by
    refine Nat.le_antisymm A1 (U6 λz=>?_);obtain⟨d,hd⟩:∃d,l-c=d+1:=⟨l-c-1,by lia⟩
    have:0<2^d:=Nat.pow_pos A3;refine hc (Z1 ?_);rw[hd,L6];lia
   subst cl;refine hk1 ?_;rw[N7]at lu hus kn;obtain⟨t,et⟩:∃t,us[0]?=some t:=⟨us[0]'(by rw[lu];decide),C6 _⟩
   obtain⟨m0,w0⟩:=kn 0 0 A3 A3;exact xwi rfl rfl rfl (SqL.of hR) (Am (j:=0) (by rw[B9,et];rfl)) (xq4 rfl rfl (SqL.of (hus 0 t et)) (IN (x:=0) A3) (k _ Gk Hx fr hgk (go.mono A1) m0 (w0.at' (V4 _) (V4 _))))
end
end J
namespace J
open PySem L2
theorem Py{G:Gv}(ok:GOk G):∀(l:Nat){n m:Nat},Ap G n (l:Int)->Ap G m (l:Int)->(∀x y,x<2^l->y<2^l->AW G l n x y=AW G l m x y)->n=m
 |0,n,m,_,_,h=>A1c (h 0 0 A3 A3)
 |l+1,n,m,hn,hm,h=>by
  have part:∀i j,i<2->j<2->qO G n (i+2*j)=qO G m (i+2*j):=λi j hi hj=>by
   refine Py ok l (DI ok hn A1) (DI ok hm A1) λx y hx hy=>?_;rw[<-Nz G l n hx hy hi hj,<-Nz G l m hx hy hi hj];have bi:2^l*i<=2^l*1:=S9 _ A1;have bj:2^l*j<=2^l*1:=S9 _ A1;exact h _ _ (by rw[L6];lia) (by rw[L6];lia)
  obtain⟨x,y,z,w,e,_⟩:=ok.four hn;obtain⟨x',y',z',w',e',_⟩:=ok.four hm;obtain⟨a0,a1,a2,a3⟩:=DH e;obtain⟨b0,b1,b2,b3⟩:=DH e';have p0:=part 0 0 A3 A3;have p1:=part 1 0 A3 A3;have p2:=part 0 1 A3 A3;have p3:=part 1 1 A3 A3;have p0:x=x':=a0.symm.trans (p0.trans b0);have p1:y=y':=a1.symm.trans (p1.trans b1);have p2:z=z':=a2.symm.trans (p2.trans b2);have p3:w=w':=a3.symm.trans (p3.trans b3);refine ok.one e e' ?_;rw[p0,p1,p2,p3]
theorem Vw.one{G:Gv}(ok:GOk G){c:Nat->Nat->Int}{l n m X Y:Nat}(ln:Ap G n (l:Int))(lm:Ap G m (l:Int))(h:Vw G c l n X Y)(k:Vw G c l m X Y):n=m:=Py ok l ln lm λx y hx hy=>(h x y hx hy).trans (k x y hx hy).symm
theorem JR.one{r:AA}{G:Gv}{e n k k':Nat}(ok:GOk G)(h:JR r G e n k)(h':JR r G e n k'):k=k':=by
 obtain⟨l,h1,_,h3,h4⟩:=h;obtain⟨l',g1,_,g3,g4⟩:=h';have el:l'=l:=by
  have:=g1.one h1;lia
 subst el;exact Py ok _ h3 g3 λx y hx hy=>(h4 x y hx hy).trans (g4 x y hx hy).symm
def GV(G:Gv)(c:Nat->Nat->Int)(W k B S:Nat)(ks:List Nat):Prop:=ks.length=W*W/\∀i j,i<W->j<W->∃y,ks[i+W*j]?=some y/\Ap G y (k:Int)/\Vw G c k y (B+S*i) (B+S*j)
theorem GV.one{G:Gv}(ok:GOk G){c:Nat->Nat->Int}{W k B S:Nat}{ks ms:List Nat}(hW:0<W)(h:GV G c W k B S ks)(h':GV G c W k B S ms):ks=ms:=by
 refine R4 λt=>?_;by_cases ht:t<W*W
 ·have hj:t/W<W:=Nat.div_lt_of_lt_mul ht;have hi:t%W<W:=Nat.mod_lt _ hW;obtain⟨y,e1,l1,v1⟩:=h.2 _ _ hi hj;obtain⟨y',e2,l2,v2⟩:=h'.2 _ _ hi hj;rw[Nat.mod_add_div]at e1 e2;rw[e1,e2,Vw.one ok l1 l2 v1 v2]
 ·rw[L7 (by rw[h.1];lia),L7 (by rw[h'.1];lia)]
theorem GV.goes{G G':Gv}{x:Nat}(ok:GOk G)(go:AQ G G' x){c:Nat->Nat->Int}{W k B S:Nat}{ks:List Nat}(h:GV G c W k B S ks):GV G' c W k B S ks:=⟨h.1,λi j hi hj=>by
 obtain⟨y,e,l,v⟩:=h.2 i j hi hj;exact⟨y,e,go.lev l,v.goes ok go l⟩⟩
def IJ(G:Gv)(n l:Nat)(ks:List Nat):Prop:=GV G (AW G (l+1+2) n) 3 (l+2) 0 (2^(l+1)) ks
def NF(r:AA)(G:Gv)(n l:Nat)(fs:List Nat):Prop:=GV G (BH r (2^l) (AW G (l+1+2) n)) 2 (l+2) (2^l) (2^(l+1)) fs
theorem GV.mem{G:Gv}{c:Nat->Nat->Int}{W k B S:Nat}{ks:List Nat}(hW:0<W)(h:GV G c W k B S ks){y:Nat}(hy:y∈ks):Ap G y (k:Int):=by
 obtain⟨t,ht⟩:=E8 hy;have lt:t<W*W:=by rw[<-h.1];exact(B7.mp ht).1
 obtain⟨z,e,l,_⟩:=h.2 (t%W) (t/W) (Nat.mod_lt _ hW) (Nat.div_lt_of_lt_mul lt);rw[Nat.mod_add_div,ht]at e;cases e;exact l
inductive Dep(r:AA)(G:Gv):Nat->Nat->List (Nat×Nat)->Prop
 |z {n:Nat} (h:Ap G n ((0+2:Nat):Int)):Dep r G n 0 []
 |lo {n l e:Nat} {ks:List Nat} (h:Ap G n ((l+1+2:Nat):Int)) (he:e<=l) (hk:IJ G n l ks):Dep r G n e (ks.map λk=>(k,e))
 |up {n l:Nat} {ks fs:List Nat} (h:Ap G n ((l+1+2:Nat):Int)) (hk:IJ G n l ks) (hf:NF r G n l fs):Dep r G n (l+1) ((ks++fs).map λk=>(k,l))
theorem Dep.one{r:AA}{G:Gv}(ok:GOk G){n e:Nat}{ds es:List (Nat×Nat)}(h:Dep r G n e ds)(h':Dep r G n e es):ds=es:=by
 cases h with
 |z a =>
  cases h' with
  |z _=>rfl
  |lo b _ _ =>
   have:=a.one b;lia
 |lo a he hk =>
  cases h' with
  |z b =>
   have:=a.one b;lia
  |lo b he' hk' =>
   rename_i l _ l' _;have e':l'=l:=by
    have:=a.one b;lia
   subst e';rw[GV.one ok A3 hk hk']
  |up b _ _ =>
   have:=a.one b;lia
 |up a hk hf =>
  cases h' with
  |lo b he' _ =>
   have:=a.one b;lia
  |up b hk' hf' =>
   rw[GV.one ok A3 hk hk',GV.one ok A3 hf hf']
theorem Dep.goes{r:AA}{G G':Gv}{x:Nat}(ok:GOk G)(go:AQ G G' x){n e:Nat}{ds:List (Nat×Nat)}(h:Dep r G n e ds):Dep r G' n e ds:=by
 cases h with
 |z a=>exact .z (go.lev a)
 |lo a he hk=>exact .lo (go.lev a) he (by unfold IJ;rw[BM ok go a];exact hk.goes ok go)
 |up a hk hf=>exact .up (go.lev a) (by unfold IJ;rw[BM ok go a];exact hk.goes ok go) (by unfold NF;rw[BM ok go a];exact hf.goes ok go)
theorem Dep.lev{r:AA}{G:Gv}{n e l:Nat}{ds:List (Nat×Nat)}(h:Dep r G n e ds)(hl:Ap G n ((l+2:Nat):Int)){d:Nat×Nat}(hd:d∈ds):∃l',l=l'+1/\Ap G d.1 ((l'+2:Nat):Int)/\d.2<=l':=by
 cases h with
 |z a=>cases hd
 |lo a he hk =>
  rename_i l' _;obtain⟨k,hk',rfl⟩:=E4.mp hd;have:=a.one hl;exact⟨l',by lia,GV.mem A3 hk hk',he⟩
 |up a hk hf =>
  rename_i l' _ _;obtain⟨k,hk',rfl⟩:=E4.mp hd;have:=a.one hl;refine⟨l',by lia,?_,C8 _⟩;rcases D1.mp hk' with z|z
  ·exact GV.mem A3 hk z
  ·exact GV.mem A3 hf z
theorem Dep.len{r:AA}{G:Gv}{n e:Nat}{ds:List (Nat×Nat)}(h:Dep r G n e ds):ds.length<=13:=by
 cases h with
 |z a=>exact J1 _
 |lo a he hk=>rw[B6,hk.1];decide
 |up a hk hf=>rw[B6,B8,hk.1,hf.1];decide
structure T3 where
 n:Nat
 e:Nat
 m:Nat
def T3.key(q:T3):Nat×Nat:=(q.n,q.e)
structure Rsn(r:AA)(G:Gv)(t0 new:List T3)(D:List (Nat×Nat)):Prop where
 ok:∀q∈new,JR r G q.e q.n q.m
 dep:∀(i:Nat)(q:T3),new[i]?=some q->∃ds,Dep r G q.n q.e ds/\∀d∈ds,d∈(t0++new.take i).map T3.key
 use:∀(i:Nat)(q:T3),new[i]?=some q->(∃(j:Nat)(q':T3)(ds:List (Nat×Nat)),i<j/\new[j]?=some q'/\Dep r G q'.n q'.e ds/\q.key∈ds)\/q.key∈D
 nd:(new.map T3.key).Nodup
theorem Rsn.nil(r:AA)(G:Gv)(t0:List T3)(D:List (Nat×Nat)):Rsn r G t0 [] D:=⟨λq hq=>(nomatch hq),λi q e=>(by cases e),λi q e=>(by cases e),P2⟩
theorem Rsn.goes{r:AA}{G G':Gv}{x:Nat}(ok:GOk G)(go:AQ G G' x){t0 new:List T3}{D:List (Nat×Nat)}(h:Rsn r G t0 new D):Rsn r G' t0 new D:=by
 refine⟨λq hq=>(h.ok q hq).goes ok go,λi q e=>?_,λi q e=>?_,h.nd⟩
 ·obtain⟨ds,h1,h2⟩:=h.dep i q e;exact⟨ds,h1.goes ok go,h2⟩
 ·rcases h.use i q e with ⟨j,q',ds,h1,h2,h3,h4⟩|z
  ·exact .inl ⟨j,q',ds,h1,h2,h3.goes ok go,h4⟩
  ·exact .inr z
theorem Rsn.more{r:AA}{G:Gv}{t0 new:List T3}{D D':List (Nat×Nat)}(h:Rsn r G t0 new D)(s:∀d∈D,d∈D'):Rsn r G t0 new D':=⟨h.ok,h.dep,λi q e=>(h.use i q e).imp id (s _),h.nd⟩
theorem Rsn.app{r:AA}{G:Gv}{t0 new new2:List T3}{D D2:List (Nat×Nat)}(h:Rsn r G t0 new D)(k:Rsn r G (t0++new) new2 D2)(dj:∀q∈new2,q.key∉new.map T3.key):Rsn r G t0 (new++new2) (D++D2):=by
 have at':∀i q,(new++new2)[i]?=some q->(i<new.length/\new[i]?=some q)\/(new.length<=i/\new2[i-new.length]?=some q):=λi q e=>by
  by_cases hi:i<new.length
  ·rw[F6 hi]at e;exact .inl ⟨hi,e⟩
  ·rw[E3 A1]at e;exact .inr ⟨by lia,e⟩
 refine⟨λq hq=>?_,λi q e=>?_,λi q e=>?_,?_⟩
 ·rcases D1.mp hq with z|z
  ·exact h.ok q z
  ·exact k.ok q z
 ·rcases at' i q e with ⟨hi,e⟩|⟨hi,e⟩
  ·rw[List.take_append_of_le_length A1];exact h.dep i q e
  ·obtain⟨ds,h1,h2⟩:=k.dep _ q e;refine⟨ds,h1,λd hd=>?_⟩;rw[List.take_append,List.take_of_length_le hi,<-L5];exact h2 d hd
 ·rcases at' i q e with ⟨hi,e⟩|⟨hi,e⟩
  ·rcases h.use i q e with ⟨j,q',ds,h1,h2,h3,h4⟩|z
   ·exact .inl ⟨j,q',ds,h1,by rw[F6 (B7.mp h2).1];exact h2,h3,h4⟩
   ·exact .inr (D1.mpr (.inl z))
  ·rcases k.use _ q e with ⟨j,q',ds,h1,h2,h3,h4⟩|z
   ·exact .inl ⟨new.length+j,q',ds,by lia,by rw[E3 A1,N9];exact h2,h3,h4⟩
   ·exact .inr (D1.mpr (.inr z))
 ·rw[C0,N1];refine⟨h.nd,k.nd,λa ha b hb z=>?_⟩;obtain⟨q,hq,rfl⟩:=E4.mp hb;exact dj q hq (z▸ha)
theorem Rsn.fin{r:AA}{G:Gv}{t0 new:List T3}{n e m:Nat}{ds:List (Nat×Nat)}(h:Rsn r G t0 new ds)(hd:Dep r G n e ds)(jr:JR r G e n m)(all:∀d∈ds,d∈(t0++new).map T3.key)(nk:(n,e)∉new.map T3.key):Rsn r G t0 (new++[⟨n,e,m⟩]) [(n,e)]:=by
 have one:Rsn r G (t0++new) [⟨n,e,m⟩] [(n,e)]:=by
  refine⟨λq hq=>?_,λi q ei=>?_,λi q ei=>?_,by simp⟩
  ·rw[C7.mp hq];exact jr
  ·match i,ei with
   |0,ei =>
    cases ei;exact⟨ds,hd,λd hd=>by rw[List.take_zero,P3];exact all d hd⟩
  ·match i,ei with
   |0,ei =>
    cases ei;exact .inr (C7.mpr rfl)
 have a:=h.app one λq hq=>by
  rw[C7.mp hq];exact nk
 refine⟨a.ok,a.dep,λi q ei=>?_,a.nd⟩;rcases a.use i q ei with z|z
 ·exact .inl z
 ·rcases D1.mp z with y|y
  ·have hi:i<new.length+1:=by
    have:=(B7.mp ei).1;rw[B8]at this;exact this
   by_cases hl:i<new.length
   ·exact .inl ⟨new.length,⟨n,e,m⟩,ds,hl,by rw[E3 (C8 _),N7];rfl,hd,y⟩
   ·have:i=new.length:=by lia
    subst this;rw[E3 (C8 _),N7]at ei;cases ei;exact .inr (C7.mpr rfl)
  ·exact .inr y
theorem Rsn.sub{r:AA}{G:Gv}(ok:GOk G){R S:List T3}{d:Nat×Nat}(h:Rsn r G [] R [d])(k:Rsn r G [] S [d])(hd:d∈S.map T3.key):∀(f i:Nat)(q:T3),R.length-i<=f->R[i]?=some q->q∈S
 |0,i,q,hf,e=>by
  have:=(B7.mp e).1;lia
 |f+1,i,q,hf,e=>by
  have back:q.key∈S.map T3.key->q∈S:=λz=>by
   obtain⟨p,hp,ep⟩:=E4.mp z;have j1:=h.ok q (D7 e);have j2:=k.ok p hp;have en:p.n=q.n:=X8 Prod.fst ep;have ee:p.e=q.e:=X8 Prod.snd ep;rw[en,ee]at j2;have em:=JR.one ok j1 j2;cases p;cases q;cases en;cases ee;cases em;exact hp
  rcases h.use i q e with ⟨j,q',ds,h1,h2,h3,h4⟩|z
  ·have s:=Rsn.sub ok h k hd f j q' (by have:=(B7.mp e).1;lia) h2;obtain⟨t,ht⟩:=E8 s;obtain⟨es,g1,g2⟩:=k.dep t q' ht;rw[Dep.one ok h3 g1]at h4;have g3:=g2 _ h4;rw[S7]at g3;obtain⟨p,hp,ep⟩:=E4.mp g3;exact back (E4.mpr ⟨p,W3 hp,ep⟩)
  ·rw[C7]at z;exact back (z▸hd)
theorem GO{α β:Type}(f:α->β):∀{l:List α},(l.map f).Nodup->l.Nodup
 |[],_=>P2
 |a::l,h=>by
  rw[F0,M8]at h;rw[M8];exact⟨λz=>h.1 (E4.mpr ⟨a,z,rfl⟩),GO f h.2⟩
theorem Rsn.perm{r:AA}{G:Gv}(ok:GOk G){R S:List T3}{d:Nat×Nat}(h:Rsn r G [] R [d])(k:Rsn r G [] S [d])(hR:d∈R.map T3.key)(hS:d∈S.map T3.key):R.Perm S:=by
 refine(List.perm_ext_iff_of_nodup (GO _ h.nd) (GO _ k.nd)).mpr λq=>⟨λz=>?_,λz=>?_⟩
 ·obtain⟨i,hi⟩:=E8 z;exact Rsn.sub ok h k hS _ i q (C8 _) hi
 ·obtain⟨i,hi⟩:=E8 z;exact Rsn.sub ok k h hR _ i q (C8 _) hi
theorem Rsn.used{r:AA}{G:Gv}(ok:GOk G){R:List T3}{d:Nat×Nat}{m:Nat}(h:Rsn r G [] (R++[⟨d.1,d.2,m⟩]) [d]){us:List (Nat×Nat)}(nd:us.Nodup)(mem:∀k,k∈us ↔ ∃q∈R++[⟨d.1,d.2,m⟩],∃ds,Dep r G q.n q.e ds/\k∈ds):us.length=R.length:=by
 have ndR:(R.map T3.key).Nodup/\d∉R.map T3.key:=by
  have:=h.nd;rw[C0,N1]at this;exact⟨this.1,λz=>this.2.2 d z d (C7.mpr rfl) rfl⟩
 have lenA:(R++[(⟨d.1,d.2,m⟩:T3)]).length=R.length+1:=by rw[B8];rfl
 have pm:us.Perm (R.map T3.key):=by
  refine(List.perm_ext_iff_of_nodup nd ndR.1).mpr λk=>?_;rw[mem k];constructor
  ·rintro⟨q,hq,ds,hd,hk⟩;obtain⟨i,hi⟩:=E8 hq;obtain⟨es,g1,g2⟩:=h.dep i q hi;rw[Dep.one ok hd g1]at hk;have g3:=g2 _ hk;have hi':=(B7.mp hi).1;rw[S7,List.take_append_of_le_length A1]at g3;obtain⟨p,hp,ep⟩:=E4.mp g3;exact E4.mpr ⟨p,W3 hp,ep⟩
  ·intro hk;obtain⟨q,hq,rfl⟩:=E4.mp hk;obtain⟨i,hi⟩:=E8 hq;rcases h.use i q (by rw[F6 (B7.mp hi).1];exact hi)with ⟨j,q',ds,_,h2,h3,h4⟩|z
   ·exact⟨q',D7 h2,ds,h3,h4⟩
   ·rw[C7]at z;exact absurd (z▸hk) ndR.2
 rw[pm.length_eq,B6]
seal L2.PA L2.PE L2.PS L2.PSs L2.PT L2.PW
def rc:Nat->Nat
 |0=>0
 |l+1=>9*cst l+14
def FL(H:Hp)(t:Addr)(d:Nat×Nat):Prop:=H t=some (.tup [toV d.1,toV d.2])
theorem Fr.ex_{a:Ad}{g:GA}{G':Gv}{H H':Hp}(f:Fr g H H')(hg:AD a H' g G'){x:Addr}{o:HO}(e:H x=some o):∃o',H' x=some o':=by
 by_cases z1:x=g.lv
 ·exact⟨_,z1▸hg.lv⟩
 by_cases z2:x=g.pt
 ·obtain⟨ts,h,_⟩:=hg.pt;exact⟨_,z2▸h⟩
 by_cases z3:x=g.nm
 ·exact⟨_,z3▸hg.nm⟩
 exact⟨_,f _ _ e z1 z2 z3⟩
theorem FrJ.ex_{a:Ad}{g:GA}{G':Gv}{N M:Nat}{p dx mem pr:Addr}{r:AA}{m:MA}{H H':Hp}(f:FrJ g m H H')(hj:JW a H' g G' N M p dx mem pr r m){x:Addr}{o:HO}(e:H x=some o):∃o',H' x=some o':=by
 by_cases z1:x=g.lv
 ·exact⟨_,z1▸hj.gr.lv⟩
 by_cases z2:x=g.pt
 ·obtain⟨ts,h,_⟩:=hj.gr.pt;exact⟨_,z2▸h⟩
 by_cases z3:x=g.nm
 ·exact⟨_,z3▸hj.gr.nm⟩
 by_cases z4:x=m.kc
 ·obtain⟨kc,h,_⟩:=hj.me.ce;exact⟨_,z4▸h⟩
 by_cases z5:x∈m.ds
 ·obtain⟨j,hj'⟩:=E8 z5;obtain⟨kv,h,_⟩:=hj.me.sq j x hj';exact⟨_,h⟩
 exact⟨_,f _ _ e z1 z2 z3 z4 z5⟩
section
variable{P:Program}{w:World}{K:PySem.W.Frag}{mg:Str->Option Value}{base:Heap}{a:Ad}
inductive SpRo(a:Ad)(L:Nat)(vs:List V)(H:Hp)(Q:VK):Prop
 |mk (p dx mem pr:Addr) (g:GA) (G:Gv) (N M:Nat) (r:AA) (m:MA) (n l e:Nat) (_:vs=[.ref p,.int n,.int e]) (_:JW a H g G N M p dx mem pr r m) (_:Ap G n ((l+2:Nat):Int)) (_:l<=L) (_:e<=l) (_:N+rc l<900000) (_:M+rc l<900000) (_:G.length+rc l<6900000) (_:∀(A:Addr)(ts:List Addr)(ds:List (Nat×Nat))(G':Gv)(H':Hp),FrJ g m H H'->(∀x o,H x=some o->x≠A)->JW a H' g G' (N+rc l) (M+rc l) p dx mem pr r m->AQ G G' (rc l)->H' A=some (.lst (ts.map V.ref))->Paired (FL H') ts ds->Dep r G' n e ds->Q (.ref A) H'):SpRo a L vs H Q
def spRo(a:Ad)(L:Nat):Sp:=λvs H Q _=>SpRo a L vs H Q
theorem ok_ro{L d:Nat}{f:Addr}{fd:FuncData}(F:Fun K "rests_on" "Jumps.rests_on" Cj f fd)(T:Top K mg a)(d3:3<=d)(aC:Cal P w K mg base CX0 3 "nine_parts" CS (JV a))(aO:BJ P w K mg base CX0 d a.c_Jumps "four_halfway" Bw (Mv a L)):AR P w K mg base CX0 (d+1) f fd Eb (spRo a L):=by
 refine F.ok DA (λvs H Q E h=>?_) (λcdv A outer s H vs Q E hr h=>?_)
 ·obtain⟨p,dx,mem,pr,g,G,N,M,r,m,n,l,e,rfl,_⟩:=h;rfl
 ·obtain⟨p,dx,mem,pr,g,G,N,M,r,m,n,l,e,rfl,hj,hl,hL,hel,fewN,fewM,few,k⟩:=h;refine⟨_,(Ac (Ax (i:=3) DA.nd rfl (Or.inl rfl) (Al Ar (AJ (AJ (pv 0) rfl) rfl) (pv 1) (λ_ _=>rfl))) (Ac (AU (AI Ds (pv 3) (CQ rfl T.k_LEAST_JUMPED) (AM _)) (Ag (Au (Bn Ab))) AF) (Ac (Ax (i:=4) DA.nd rfl (Or.inl rfl) (Az aC (rm hr) rfl Aq (Aa (AJ (pv 0) rfl) (Aa (pv 1) Ab)))) (Ac (AU (AI JE (pv 2) (AK Cd (pv 3) (CQ rfl T.k_LEAST_JUMPED)) (AM _)) (Ag (Au (BL rfl (Bk.of (So:=Ak Cj) (No:=Ef) (N:=["part","e"]) (k:=1) (cs:=[2]) rfl rfl A0) (Bc (pv 4)) (λ_ _ _=>(AV (i:=0) A0 rfl rfl)) (λ_ _ _=>Bp) (λ_ _ _=>(Dd (Aa (pv 0) (Aa (pv 1) Ab))))))) AF) (Ag (Au (BL rfl (Bk.of (So:=Ak Cj) (No:=Ef) (N:=["part","e"]) (k:=1) (cs:=[2]) rfl rfl A0) (Bc (AK Li (pv 4) (Ay (pv 0) aO (rm hr) Aq (Aa (pv 1) (Aa (pv 2) Ab))))) (λ_ _ _=>(AV (i:=0) A0 rfl rfl)) (λ_ _ _=>Bp) (λ_ _ _=>(Dd (Aa (pv 0) (Ck Cd (pv 1) Ae Ab))))))))))),?_⟩
  try dsimp only[cxK]
  refine lts ?_;intro s_1 E_1;obtain⟨qn,en,eln⟩:=id hl;have l46:l<=46:=by have:=(hj.ok.lev en).2;lia
  refine xwf rfl rfl hj.hp T.cl_Jumps T.na_Jumps_grove (DQ _ _ _ _ _) (xq5 hj.gr.hp T.cl_Grove T.na_Grove_levels (Gc g) (xwi rfl rfl rfl (SqL.of hj.gr.lv) (Am (by rw[B9,en];rfl)) ?_));show tSeq _ _ _ [some (.ref p),some (.int n),some (.int e),some (.int qn.lev),none] H;rw[eln];refine xq1 rfl ⟨rfl,(xq1 rfl ?_)⟩
  match l,hl,hL,hel,fewN,fewM,few,k,l46,eln with
  |0,hl,hL,hel,fewN,fewM,few,k,l46,eln =>
   have e0:e=0:=by lia
   subst e0;refine CN ⟨(by show 0<=sizeLine;decide),λA hA=>?_⟩;exact k A [] [] G _ (Av.j (Ai hA)) (λx o e=>Ah e hA) (hj.same (Ai hA)) (AQ.refl hj.ok) Af .nil (.z hl)
  |l+1,hl,hL,hel,fewN,fewM,few,k,l46,eln =>
   have c5:=QL l;have rcl:rc (l+1)=9*cst l+14:=rfl;rw[rcl]at fewN fewM few k;rw[Z2 (by intro z;injection z with z;lia)];refine Bq ?_;refine xwf rfl rfl hj.hp T.cl_Jumps T.na_Jumps_grove (DQ _ _ _ _ _) (xq1 rfl ⟨g,G,n,l+1,rfl,hj.gr,hj.ok,hl,by lia,by lia,λA9 ks G3 H3 fr3 hg3 go3 hA3 l9 nine=>?_⟩);have hj3:=hj.fr fr3 hg3 go3;have gf3:=go3.few;have np:IJ G3 n l ks:=⟨l9,λi j hi hj'=>by
    obtain⟨y,e1,e2,e3⟩:=nine i j hi hj';refine⟨y,e1,e2,?_⟩;rw[BM hj.ok go3 hl,L9,L9];exact e3⟩
   refine xw2 rfl rfl (xq2 rfl rfl (xq2 rfl rfl (xq1 rfl ?_)));have sub2:(((l+1+2:Nat):Int)-2)=((l+1:Nat):Int):=by lia
   by_cases he:e<=l
   ·have ht:decide ((e:Int)<((l+1+2:Nat):Int)-2)=true:=Z1 A1;rw[ht];refine CN (xq1 rfl ⟨A9,rfl,⟨_,SqL.of hA3⟩,?_⟩);refine BP (xs:=ks.map λ(k:Nat)=>V.int (k:Int)) (λi acc H5=>∃ts:List Addr,acc=ts.map V.ref/\ts.length=i/\Av H3 H5/\Paired (FL H5) ts ((ks.take i).map λk=>(k,e))) ⟨[],rfl,rfl,Av.refl H3,.nil⟩ (λi acc H5 _ z=>by obtain⟨_,_,_,sm,_⟩:=z;exact SqL.of (sm _ _ hA3)) ?_ ?_
    ·rintro i v acc H5 ev ⟨ts,rfl,lt,sm,pr5⟩;refine ltg ?_;intro s_2;rw[B9]at ev;obtain⟨k5,ek,rfl⟩:=D5.mp ev;have i9:i<9:=by have:=(B7.mp ek).1;lia
     refine⟨⟨[some (.int (k5:Int))],rfl,rfl⟩,by rw[B6,lt];exact M7 i9 A3,Eu (xw2 rfl rfl ⟨(by show 2<=sizeLine;decide),λt ht=>⟨ts++[t],by rw[C0];rfl,by rw[B8,lt];rfl,sm.trans (Ai ht),?_⟩⟩)⟩;rw[F4,ek,J0,C0];exact K4 (Paired.imp (λt d z=>Ai ht _ _ z) pr5) Af
    ·rintro acc H5 ⟨ts,rfl,lt,sm,pr5⟩ A5 hA5;rw[B6,F7]at pr5;have s5:=sm.trans (Ai (o:=.lst (ts.map V.ref)) hA5);exact k A5 ts _ G3 _ ((Fr.j fr3).trans (Av.j s5)) (λx o e=>by
      obtain⟨o',e'⟩:=fr3.ex_ hg3 e;exact Ah (sm _ _ e') hA5) ((hj3.same s5).mono A1 A1) (go3.mono A1) Af (Paired.imp (λt d z=>Ai hA5 _ _ z) pr5) (.lo (go3.lev hl) he np)
   ·have e1:e=l+1:=by lia
    subst e1;have ht:decide (((l+1:Nat):Int)<((l+1+2:Nat):Int)-2)=false:=Z2 A1;rw[ht];refine Bq (xw2 rfl rfl (xq3 rfl hj3.hp (Qq _ _ _ _ _) (xw2 rfl rfl ⟨p,dx,mem,pr,g,G3,N,M,r,m,n,l,rfl,hj3,go3.lev hl,by lia,by lia,by lia,by lia,λA4 f0 f1 f2 f3 G4 H4 fr4 hj4 go4 hA4 ⟨lv0,lv1,lv2,lv3⟩ ⟨v0,v1,v2,v3⟩=>?_⟩)));have gf4:=go4.few;have hA34:=(fr4.kps hj3.gr hj3.bs.long hj3.me) _ _ hA3 (.lst (by rw[B6];lia));have np4:IJ G4 n l ks:=by
     unfold IJ;rw[BM hj3.ok go4 (go3.lev hl)];exact np.goes hj3.ok go4
    have fh:NF r G4 n l [f0,f1,f2,f3]:=by
     unfold NF;rw[BM hj3.ok go4 (go3.lev hl)];refine⟨rfl,λi j hi hj'=>?_⟩
     match i,j,hi,hj' with
     |0,0,_,_=>exact⟨f0,rfl,lv0,by rw[V4,T1];exact v0⟩
     |1,0,_,_=>exact⟨f1,rfl,lv1,by rw[V4,Nat.mul_one,T1];exact v1⟩
     |0,1,_,_=>exact⟨f2,rfl,lv2,by rw[V4,Nat.mul_one,T1];exact v2⟩
     |1,1,_,_=>exact⟨f3,rfl,lv3,by rw[Nat.mul_one];exact v3⟩
    refine⟨A9,A4,(xq2 rfl rfl ⟨hA34,hA4,(by rw[B6,l9];show 9+4<=sizeLine;decide),λAC hAC=>?_⟩)⟩;have eC:(ks.map λ(k:Nat)=>V.int (k:Int))++[toV f0,toV f1,toV f2,toV f3]=(ks++[f0,f1,f2,f3]).map λ(k:Nat)=>V.int (k:Int):=by rw[C0];rfl
    rw[eC];generalize cF:upd H4 AC _=H5;obtain⟨s5,hC5⟩:=alc hAC cF;have l13:(ks++[f0,f1,f2,f3]).length=13:=by rw[B8,l9];rfl
    have fin:∀zs:List Nat,zs=ks++[f0,f1,f2,f3]->Dep r G4 n (l+1) (zs.map λk=>(k,l)):=λzs ez=>ez▸.up ((go3.trans go4).lev hl) np4 fh;generalize ks++[f0,f1,f2,f3]=zs at hC5 l13 fin⊢;have fin:=fin zs rfl;refine⟨AC,rfl,⟨_,SqL.of hC5⟩,?_⟩;refine BP (xs:=zs.map λ(k:Nat)=>V.int (k:Int)) (λi acc H6=>∃ts:List Addr,acc=ts.map V.ref/\ts.length=i/\Av H5 H6/\Paired (FL H6) ts ((zs.take i).map λk=>(k,l))) ⟨[],rfl,rfl,Av.refl H5,.nil⟩ (λi acc H6 _ z=>by obtain⟨_,_,_,sm,_⟩:=z;exact SqL.of (sm _ _ hC5)) ?_ ?_
    ·rintro i v acc H6 ev ⟨ts,rfl,lt,sm,pr5⟩;refine ltg ?_;intro s_4;rw[B9]at ev;obtain⟨k5,ek,rfl⟩:=D5.mp ev;have i9:i<13:=by have:=(B7.mp ek).1;lia
     refine⟨⟨[some (.int (k5:Int))],rfl,rfl⟩,by rw[B6,lt];exact M7 i9 A3,Eu (xw2 rfl rfl (xq2 rfl rfl ⟨(by show 2<=sizeLine;decide),λt ht=>?_⟩))⟩;have es:((l+1:Nat):Int)-1=(l:Int):=by lia
     have hP:FL (upd H6 t (.tup [.int (k5:Int),.int (((l+1:Nat):Int)-1)])) t (k5,l):=by
      unfold FL;rw[Af,es];rfl
     have s6:Av H6 (upd H6 t (.tup [.int (k5:Int),.int (((l+1:Nat):Int)-1)])):=Ai ht;refine⟨ts++[t],by rw[C0];rfl,by rw[B8,lt];rfl,sm.trans s6,?_⟩;rw[F4,ek,J0,C0];exact K4 (Paired.imp (λt d z=>s6 _ _ z) pr5) hP
    ·rintro acc H6 ⟨ts,rfl,lt,sm,pr5⟩ A5 hA5;rw[B6,F7]at pr5;have s6:=(s5.trans sm).trans (Ai (o:=.lst (ts.map V.ref)) hA5);exact k A5 ts _ G4 _ ((Fr.j fr3).trans (fr4.trans (Av.j s6))) (λx o e=>by
      obtain⟨o',e'⟩:=fr3.ex_ hg3 e;obtain⟨o2,e2⟩:=fr4.ex_ hj4 e';exact Ah (sm _ _ (s5 _ _ e2)) hA5) ((hj4.same s6).mono A1 A1) ((go3.trans go4).mono A1) Af (Paired.imp (λt d z=>Ai hA5 _ _ z) pr5) fin
end
def pk(d:Nat×Nat):List Key:=kOf [(d.1:Int),(d.2:Int)]
theorem Rr{d d':Nat×Nat}(h:pk d=pk d'):d=d':=by
 have:=Mm h;injection this with h1 h2
 injection h2 with h2 _
 exact Prod.ext (A1c h1) (A1c h2)
section
variable{α:Type}(key:α->Nat×Nat)(val:α->V)
def kvG(l:List α):List (List Key×V):=l.map λx=>(pk (key x),val x)
theorem JJ:∀{l:List α}{d:Nat×Nat},d∉l.map key->BK (kvG key val l) (pk d)=none
 |[],_,_=>rfl
 |x::l,d,h=>by
  rw[F0,D6,A3e]at h;show BK ((pk (key x),val x)::kvG key val l) (pk d)=none;rw[Br λz=>h.1 (Rr z).symm,JJ h.2]
theorem QB:∀{l:List α}{x:α},(l.map key).Nodup->x∈l->BK (kvG key val l) (pk (key x))=some (val x)
 |y::l,x,nd,h=>by
  rw[F0,M8]at nd;show BK ((pk (key y),val y)::kvG key val l) (pk (key x))=some (val x);rcases D6.mp h with rfl|h
  ·rw[BI rfl]
  ·rw[Br λz=>nd.1 (E4.mpr ⟨x,h,(Rr z).symm⟩),QB nd.2 h]
theorem SW{l:List α}{x:α}(h:key x∉l.map key):EX (kvG key val l) (pk (key x)) (val x)=kvG key val (l++[x]):=by
 rw[Jz _ (JJ key val h)];unfold kvG;rw[C0];rfl
end
def kvS(ks:List (Nat×Nat)):List (List Key×V):=kvG id (λ_=>.bl true) ks
def insK(ks:List (Nat×Nat))(d:Nat×Nat):List (Nat×Nat):=if d∈ks then ks else ks++[d]
theorem Po(ks:List (Nat×Nat)):(kvS ks).length=ks.length:=B6 _
theorem kvS_get(ks:List (Nat×Nat))(d:Nat×Nat):(BK (kvS ks) (pk d)).isSome=decide (d∈ks):=by
 by_cases h:d∈ks
 ·have:∀(l:List (Nat×Nat)),d∈l->(BK (kvS l) (pk d)).isSome=true:=λl=>by
   induction l with
   |nil=>intro z;cases z
   |cons x l ih =>
    intro z;show(BK ((pk x,V.bl true)::kvS l) (pk d)).isSome=true;by_cases e:x=d
    ·rw[BI (by rw[e])];rfl
    ·rw[Br λy=>e (Rr y)];rcases D6.mp z with rfl|z
     ·exact absurd rfl e
     ·exact ih z
  rw[this ks h,Z1 h]
 ·rw[show BK (kvS ks) (pk d)=none from JJ id _ (by rw[List.map_id];exact h),Z2 h];rfl
theorem SV(ks:List (Nat×Nat))(d:Nat×Nat):EX (kvS ks) (pk d) (.bl true)=kvS (insK ks d):=by
 unfold insK;by_cases h:d∈ks
 ·rw[Z6 h];unfold EX;have hany:((kvS ks).any λkv=>decide (kv.1=pk d))=true:=V2.mpr ⟨(pk d,.bl true),E4.mpr ⟨d,h,rfl⟩,Z1 rfl⟩;rw[Z6 hany];have:∀kv∈kvS ks,(if kv.1=pk d then(kv.1,V.bl true)else kv)=id kv:=λkv hk=>by
   obtain⟨x,_,rfl⟩:=E4.mp hk;split<;>rfl
  rw[List.map_congr_left this,List.map_id]
 ·rw[Z3 h];exact SW id _ (by rw[List.map_id];exact h)
theorem Qx{ks:List (Nat×Nat)}{d x:Nat×Nat}:x∈insK ks d↔x∈ks\/x=d:=by
 unfold insK;split
 ·rename_i h;exact⟨.inl,λz=>z.elim id λy=>y▸h⟩
 ·rw[D1,C7]
theorem Qz(ks:List (Nat×Nat))(d:Nat×Nat):(insK ks d).length<=ks.length+1:=by
 unfold insK;split
 ·exact S1 _
 ·rw[B8];exact C8 _
def Cf(H:Hp)(t:Addr)(q:T3):Prop:=H t=some (.tup [toV q.n,toV q.e,toV q.m])
def gC:Nat->Nat
 |0=>1
 |l+1=>13*gC l+1
def gD:Nat->Nat
 |0=>rc 0+cst 0
 |l+1=>rc (l+1)+13*gD l+cst (l+1)
def gCp:Nat->Nat
 |0=>0
 |l+1=>gC l
def gDp:Nat->Nat
 |0=>0
 |l+1=>gD l
theorem gC_eq(l:Nat):gC l=13*gCp l+1:=by cases l<;>rfl
theorem gD_eq(l:Nat):gD l=rc l+13*gDp l+cst l:=by cases l<;>rfl
structure ApS(g:GA)(m:MA)(S T:Addr):Prop where
 s1:S≠g.nm
 s2:S≠m.kc
 t1:T≠g.lv
 t2:T≠g.pt
 t3:T≠g.br
 t4:T≠m.l
def FrS(g:GA)(m:MA)(S T:Addr)(H H':Hp):Prop:=∀b o,H b=some o->b≠g.lv->b≠g.pt->b≠g.nm->b≠m.kc->b∉m.ds->b≠S->b≠T->H' b=some o
theorem FrJ.s{g:GA}{m:MA}{S T:Addr}{H H':Hp}(f:FrJ g m H H'):FrS g m S T H H':=λb o e n1 n2 n3 n4 n5 _ _=>f b o e n1 n2 n3 n4 n5
theorem FrS.trans{g:GA}{m:MA}{S T:Addr}{H1 H2 H3:Hp}(h:FrS g m S T H1 H2)(k:FrS g m S T H2 H3):FrS g m S T H1 H3:=λb o e n1 n2 n3 n4 n5 n6 n7=>k _ _ (h _ _ e n1 n2 n3 n4 n5 n6 n7) n1 n2 n3 n4 n5 n6 n7
theorem FrS.upS{g:GA}{m:MA}{S T:Addr}{H:Hp}{o:HO}:FrS g m S T H (upd H S o):=λb u e _ _ _ _ _ n _=>by rw[Ao n];exact e
theorem FrS.upT{g:GA}{m:MA}{S T:Addr}{H:Hp}{o:HO}:FrS g m S T H (upd H T o):=λb u e _ _ _ _ _ _ n=>by rw[Ao n];exact e
theorem FrS.kp{a:Ad}{H H':Hp}{g:GA}{G:Gv}{N M:Nat}{p dx mem pr S T:Addr}{r:AA}{m:MA}(f:FrS g m S T H H')(hj:JW a H g G N M p dx mem pr r m){b:Addr}{o:HO}(e:H b=some o)(s:Sv o)(n1:b≠S)(n2:b≠T):H' b=some o:=by
 obtain⟨ts,h3,h4⟩:=hj.gr.pt;obtain⟨kc,c1,_⟩:=hj.me.ce;have lt:ts.length=G.length:=X5 h4;have l56:=hj.bs.long;refine f _ _ e (s.nl e hj.gr.lv (by rw[B6];lia)) (s.nl e h3 (by rw[B6];lia)) (s.nt e hj.gr.nm) (s.nt e c1) (λz=>?_) n1 n2;obtain⟨j,hj'⟩:=E8 z;obtain⟨kv,e2,_⟩:=hj.me.sq j b hj';exact s.nk e e2 rfl
theorem FrJ.atS{H H':Hp}{g:GA}{G:Gv}{N M:Nat}{r:AA}{m:MA}{S T:Addr}{kv:List (List Key×V)}(f:FrJ g m H H')(hm:CY H g G N M r m)(ap:ApS g m S T){a:Ad}(hg:AD a H g G)(e:H S=some (.dT kv)):H' S=some (.dT kv):=by
 obtain⟨ts,h3,_⟩:=hg.pt;refine f _ _ e (As e hg.lv A2) (As e h3 A2) ap.s1 ap.s2 λz=>?_;obtain⟨j,hj'⟩:=E8 z;obtain⟨kv',e2,_⟩:=hm.sq j S hj';rw[e]at e2;cases e2
theorem FrJ.atT{H H':Hp}{g:GA}{G:Gv}{N M:Nat}{r:AA}{m:MA}{S T:Addr}{xs:List V}(f:FrJ g m H H')(hm:CY H g G N M r m)(ap:ApS g m S T){a:Ad}(hg:AD a H g G)(e:H T=some (.lst xs)):H' T=some (.lst xs):=by
 obtain⟨kc,c1,_⟩:=hm.ce;refine f _ _ e ap.t1 ap.t2 (As e hg.nm A2) (As e c1 A2) λz=>?_;obtain⟨j,hj'⟩:=E8 z;obtain⟨kv',e2,_⟩:=hm.sq j T hj';rw[e]at e2;cases e2
theorem JW.putT{a:Ad}{H:Hp}{g:GA}{G:Gv}{N M:Nat}{p dx mem pr x:Addr}{r:AA}{m:MA}{xs:List (List Key×V)}{o:HO}(h:JW a H g G N M p dx mem pr r m)(hx:H x=some (.dT xs))(n1:x≠g.nm)(n2:x≠m.kc):JW a (upd H x o) g G N M p dx mem pr r m:=by
 have other:∀{b v},H b=some v->(∀l,v≠.dT l)->upd H x o b=some v:=λ{b v} e n=>by rw[Ao (As e hx (n _))];exact e
 obtain⟨ts,h3,h4⟩:=h.gr.pt;refine⟨⟨other h.gr.hp A6,other h.gr.lv A6,⟨ts,other h3 A6,PairedM.imp (λt q z=>other z A6) h4⟩,by rw[Ao (Z7 n1)];exact h.gr.nm,h.gr.ne⟩,h.ok,h.bs,other h.br A6,h.nbr,other h.hp A6,h.ru.kp λb o e n=>other e λl z=>(by rw[z]at n;cases n),h.rok,h.rest,h.me.kp h.ok (AQ.refl h.ok) λb o e w=>?_⟩;rcases w with z|z|z|z
 ·have e2:=h.me.tp;rw[<-z,e]at e2;cases e2;exact other e A6
 ·have e2:=h.me.l;rw[<-z,e]at e2;cases e2;exact other e A6
 ·obtain⟨j,hj⟩:=E8 z;obtain⟨kv,e2,_⟩:=h.me.sq j b hj;rw[e]at e2;cases e2;exact other e A6
 ·rw[z]at e⊢;rw[Ao (Z7 n2)];exact e
section
variable{P:Program}{w:World}{K:PySem.W.Frag}{mg:Str->Option Value}{base:Heap}{a:Ad}
structure GrR(a:Ad)(g:GA)(G:Gv)(N M D C:Nat)(p dx mem pr:Addr)(r:AA)(m:MA)(S T:Addr)(ks:List (Nat×Nat))(ts:List Addr)(rows:List T3)(Dn:List (Nat×Nat))(H:Hp)(G':Gv)(H':Hp)(new:List T3)(ts':List Addr)(ks':List (Nat×Nat)):Prop where
 fr:FrS g m S T H H'
 j:JW a H' g G' (N+D) (M+D) p dx mem pr r m
 go:AQ G G' D
 hS:H' S=some (.dT (kvS ks'))
 hT:H' T=some (.lst ((ts++ts').map V.ref))
 pr:Paired (Cf H') ts' new
 rsn:Rsn r G' rows new Dn
 nw:∀q∈new,q.key∉ks
 len:new.length<=C
 lk:ks'.length<=ks.length+C
theorem Jm{α β:Type}{F:α->β->Prop}:∀{l m:List α}{l' m':List β},Paired F l l'->Paired F m m'->Paired F (l++m) (l'++m')
 |[],_,_,_,.nil,k=>k
 |_::_,_,_,_,.cons h t,k=>.cons h (Jm t k)
theorem Cf.frS{H H':Hp}{g:GA}{G:Gv}{N M:Nat}{p dx mem pr S T:Addr}{r:AA}{m:MA}{kv:List (List Key×V)}{xs:List V}(f:FrS g m S T H H')(hj:JW a H g G N M p dx mem pr r m)(hS:H S=some (.dT kv))(hT:H T=some (.lst xs)){t:Addr}{ys:List V}(h:H t=some (.tup ys)):H' t=some (.tup ys):=f.kp hj h (.inl .tup) (As h hS A2) (As h hT A2)
section
variable{g:GA}{G G1 G2:Gv}{N M D C D2 C2:Nat}{p dx mem pr S T:Addr}{r:AA}{m:MA}{ks ks1 ks2:List (Nat×Nat)}{ts ts1 ts2:List Addr}{rows new new2:List T3}{Dn Dn2:List (Nat×Nat)}{H H1 H2:Hp}
theorem GrR.then(R:GrR a g G N M D C p dx mem pr r m S T ks ts rows Dn H G1 H1 new ts1 ks1)(mem1:∀d,d∈ks1↔d∈ks\/d∈new.map T3.key)(R2:GrR a g G1 (N+D) (M+D) D2 C2 p dx mem pr r m S T ks1 (ts++ts1) (rows++new) Dn2 H1 G2 H2 new2 ts2 ks2):GrR a g G N M (D+D2) (C+C2) p dx mem pr r m S T ks ts rows (Dn++Dn2) H G2 H2 (new++new2) (ts1++ts2) ks2:=by
 refine⟨R.fr.trans R2.fr,by rw[<-O3,<-O3];exact R2.j,R.go.trans R2.go,R2.hS,by rw[<-L5];exact R2.hT,Jm (Paired.imp (λt q z=>Cf.frS R2.fr R.j R.hS R.hT z) R.pr) R2.pr,(R.rsn.goes R.j.ok R2.go).app R2.rsn λq hq z=>R2.nw q hq ((mem1 _).mpr (.inr z)),λq hq=>?_,?_,?_⟩
 ·rcases D1.mp hq with z|z
  ·exact R.nw q z
  ·exact λy=>R2.nw q z ((mem1 _).mpr (.inl y))
 ·rw[B8];exact Nat.add_le_add R.len R2.len
 ·have:=R.lk;have:=R2.lk;lia
theorem GrR.more(R:GrR a g G N M D C p dx mem pr r m S T ks ts rows Dn H G1 H1 new ts1 ks1){D' C':Nat}(hD:D<=D')(hC:C<=C')(hn:∀d∈Dn,d∈Dn2):GrR a g G N M D' C' p dx mem pr r m S T ks ts rows Dn2 H G1 H1 new ts1 ks1 :=
 ⟨R.fr,R.j.mono A1 A1,R.go.mono hD,R.hS,R.hT,R.pr,R.rsn.more hn,R.nw,D4 R.len hC,D4 R.lk A1⟩
end
inductive SpGr(a:Ad)(L:Nat)(vs:List V)(H:Hp)(Q:VK):Prop
 |mk (p dx mem pr:Addr) (g:GA) (G:Gv) (N M:Nat) (r:AA) (m:MA) (n l e:Nat) (S T:Addr) (ks:List (Nat×Nat)) (ts:List Addr) (rows:List T3) (_:vs=[.ref p,.int n,.int e,.ref S,.ref T]) (_:JW a H g G N M p dx mem pr r m) (_:Ap G n ((l+2:Nat):Int)) (_:l<L) (_:e<=l) (_:ApS g m S T) (_:H S=some (.dT (kvS ks))) (_:H T=some (.lst (ts.map V.ref))) (_:Paired (Cf H) ts rows) (_:(n,e)∉ks) (_:∀d∈ks,d∈rows.map T3.key\/∃l',Ap G d.1 ((l'+2:Nat):Int)/\l<=l') (_:∀q∈rows,q.key∈ks) (_:N+gD l<900000) (_:M+gD l<900000) (_:G.length+gD l<6900000) (_:ks.length+gC l<=2000) (_:rows.length+gC l<=2000)
   (_:∀(G':Gv)(H':Hp)(init:List T3)(mm:Nat)(ts':List Addr)(ks':List (Nat×Nat)),GrR a g G N M (gD l) (gC l) p dx mem pr r m S T ks ts rows [(n,e)] H G' H' (init++[⟨n,e,mm⟩]) ts' ks'->(∀d,d∈ks'↔d∈ks\/d∈(init++[(⟨n,e,mm⟩:T3)]).map T3.key)->Q .non H'):SpGr a L vs H Q
def spGr(a:Ad)(L:Nat):Sp:=λvs H Q _=>SpGr a L vs H Q
theorem TV(gp mem pr l kc:Addr):(jf5 gp mem pr l kc).lookup ("rests_on" : Str)=none:=Eg _ _ _ _ _ A0 A0 A0 A0 A0
theorem MV(gp mem pr l kc:Addr):(jf5 gp mem pr l kc).lookup ("gather_reasons" : Str)=none:=Eg _ _ _ _ _ A0 A0 A0 A0 A0
theorem ok_gr{d dr dd L0:Nat}{f:Addr}{fd:FuncData}(F:Fun K "gather_reasons" "Jumps.gather_reasons" Cp f fd)(T:Top K mg a)(Me:PH K a.c_Jumps "gather_reasons" f)(Bi:Dv K fd BA [])(hd:dr<=dd)(hd1:d<=dd)(aY:BJ P w K mg base CX0 d a.c_Jumps "rests_on" Eb (spRo a L0))(a9:BJ P w K mg base CX0 dr a.c_Jumps "reckoned" Bf (Ev a (L0+1))):∀L,L<=L0+1->AR P w K mg base CX0 (dd+1+L) f fd BA (spGr a L)
 |0,_=>(AR.no (k:=dd+1)).imp λvs H Q E h=>by
  apply AE;intro G_ hG_;obtain⟨p,dx,mem,pr,g,G,N,M,r,m,n,l,e,S,T,ks,ts,rows,_,_,_,hL,_⟩:=h;apply hG_;clear hG_ G_;exact absurd hL (S6 l)
 |L+1,hL0=>by
  have aH:BJ P w K mg base CX0 (dd+1+L) a.c_Jumps "gather_reasons" BA (spGr a L):=⟨⟨f,fd,ok_gr F T Me Bi hd hd1 aY a9 L A1,Me,Bi⟩,T.cl_Jumps⟩
  refine F.ok (k:=dd+1+L) Dr (λvs H Q E h=>?_) (λcdv A outer s H vs Q E hr h=>?_)
  ·apply AE;intro G_ hG_;obtain⟨p,dx,mem,pr,g,G,N,M,r,m,n,l,e,S,T,ks,ts,rows,rfl,_⟩:=h;apply hG_;clear hG_ G_;rfl
  ·apply AE;intro G_ hG_;obtain⟨p,dx,mem,pr,g,G,N,M,r,m,n,l,e,S,Tt,ks,ts,rows,rfl,hj,hl,hL,hel,ap,hS,hT,prt,nk,low,sub,fewN,fewM,few,lks,lrw,k⟩:=h;apply hG_;clear hG_ G_;have eC:=gC_eq l;have eD:=gD_eq l;refine⟨_,(Ac (FF (DS hr) (pv 3) (Dd (Aa (pv 1) (Aa (pv 2) Ab))) CH rfl) (Ac (BE X6 rfl (Bc (Ay (pv 0) aY (rm hr) Aq (Aa (pv 1) (Aa (pv 2) Ab)))) (AL (i:=5) Dr.nd rfl (Or.inl rfl)) (Ag (AU (OW (Lh (DS hr) (pv 5) (pv 3))) (Ag (AZ (Ay (pv 0) aH (rm hr) Aq (Aa (Al An (pv 5) Ae (λ_ _=>rfl)) (Aa (Al An (pv 5) Ae (λ_ _=>rfl)) (Aa (pv 3) (Aa (pv 4) Ab))))))) AF))) (Ag (AZ (Ce Z8 Z9 X4 Ba (pv 4) (Bx (Aa (pv 1) (Aa (pv 2) (Aa (Ay (pv 0) a9 (rm hr) Aq (Aa (pv 1) (Aa (pv 2) Ab))) Ab))) Ab)))))),?_⟩
   try dsimp only[cxK]
   refine AS ?_;intro r_k1 s_k1 k1 hk1 E_k1;refine xw3 rfl rfl rfl ⟨(by show 2<=sizeLine;decide),λt ht=>⟨S,(xq1 rfl ⟨JS.t (k:=pk (n,e)) (Ai ht _ _ hS) Af (by rw[Po];exact E5 (show ks.length<=2000 by lia) A3),?_⟩)⟩⟩;rw[SV];have s1:Av H (upd H t (.tup [.int (n:Int),.int (e:Int)])):=Ai ht;show k1 _ (upd (upd H t (.tup [.int (n:Int),.int (e:Int)])) S (.dT (kvS (insK ks (n,e)))));generalize upd H t (.tup [.int (n:Int),.int (e:Int)])=H1 at s1⊢;have hS1:=s1 _ _ hS;have hT1:=s1 _ _ hT;have j1:JW a (upd H1 S (.dT (kvS (insK ks (n,e))))) g G N M p dx mem pr r m:=(hj.same s1).putT hS1 ap.s1 ap.s2;have fr1:FrS g m S Tt H (upd H1 S (.dT (kvS (insK ks (n,e))))):=(FrJ.s (Av.j s1)).trans FrS.upS;have hS2:upd H1 S (.dT (kvS (insK ks (n,e)))) S=some (.dT (kvS (insK ks (n,e)))):=Af;have hT2:upd H1 S (.dT (kvS (insK ks (n,e)))) Tt=some (.lst (ts.map V.ref)):=by rw[Ao (As hT1 hS1 A2)];exact hT1
   have pr2:Paired (Cf (upd H1 S (.dT (kvS (insK ks (n,e)))))) ts rows:=Paired.imp (λt q z=>Cf.frS fr1 hj hS hT z) prt;have lk1:(insK ks (n,e)).length<=ks.length+1:=Qz _ _;have mk1:∀x,x∈insK ks (n,e)↔x∈ks\/x=(n,e):=λx=>Qx;generalize insK ks (n,e)=ks1 at j1 fr1 hS2 hT2 pr2 lk1 mk1⊢;generalize upd H1 S (.dT (kvS ks1))=H2 at j1 fr1 hS2 hT2 pr2⊢;clear s1 hS1 hT1;refine hk1 ?_;refine AS ?_;intro r_k2 s_k2 k2 hk2 E_k2;refine xwn rfl rfl j1.hp (TV _ _ _ _ _) rfl (xq1 rfl ⟨p,dx,mem,pr,g,G,N,M,r,m,n,l,e,rfl,j1,hl,by lia,hel,by lia,by lia,by lia,λA9 t9 ds G3 H3 fr3 new9 j3 go3 hA3 pr3 dep3=>?_⟩);have gf3:=go3.few;have hS3:=fr3.atS j1.me ap j1.gr hS2;have hT3:=fr3.atT j1.me ap j1.gr hT2;have nA:A9≠Tt:=Z7 (new9 _ _ hT2);have nAS:A9≠S:=Z7 (new9 _ _ hS2);have l9:t9.length=ds.length:=X5 pr3;have l13:=dep3.len;have prr3:Paired (Cf H3) ts rows:=Paired.imp (λt q z=>Cf.frS (fr3.s (S:=S) (T:=Tt)) j1 hS2 hT2 z) pr2;refine⟨A9,rfl,⟨_,SqL.of hA3⟩,?_⟩;refine Cw (xs:=t9.map V.ref) (λi σ Hy=>∃(G5:Gv)(new:List T3)(ts':List Addr)(ks5:List (Nat×Nat))(u5:Option V),σ=[some (.ref p),some (.int n),some (.int e),some (.ref S),some (.ref Tt),u5]/\GrR a g G3 (N+rc l) (M+rc l) (i*gDp l) (i*gCp l) p dx mem pr r m S Tt ks1 ts rows (ds.take i) H3 G5 Hy new ts' ks5/\(∀d,d∈ks5↔d∈ks1\/d∈new.map T3.key)/\∀d∈ds.take i,d∈(rows++new).map T3.key) ⟨G3,[],[],ks1,none,rfl,⟨λb o e _ _ _ _ _ _ _=>e,by rw[Q0];exact j3,by rw[Q0];exact AQ.refl j3.ok,hS3,by rw[P3];exact hT3,.nil,Rsn.nil _ _ _ _,λq hq=>(nomatch hq),J1 _,R9 _ _⟩,λd=>⟨.inl,λz=>z.elim id λy=>(nomatch y)⟩,λd hd=>(nomatch hd)⟩ (λi σ Hy _ z=>by obtain⟨_,_,_,_,_,_,R,_⟩:=z;exact SqL.of (R.fr.kp j3 hA3 (.lst (by rw[B6];lia)) nAS nA)) ?_ ?_
   ·rintro i v σ Hy ev z5_;apply AE;intro G_ hG_;obtain⟨G5,new,ts',ks5,u5,rfl,R,mem5,all5⟩:=z5_;apply hG_;clear hG_ G_;rw[B9]at ev;obtain⟨t5,et,rfl⟩:=D5.mp ev;obtain⟨d5,ed,hk5⟩:=Paired.get pr3 et;have hk5:Hy t5=some (.tup [toV d5.1,toV d5.2]):=Cf.frS R.fr j3 hS3 hT3 hk5;have hi:i<ds.length:=(B7.mp ed).1;apply AE;intro G_ hG_;obtain⟨l',el,lv5,he5⟩:=dep3.lev (go3.lev hl) (D7 ed);apply hG_;clear hG_ G_;subst el;have lv5:=R.go.lev lv5;have tk:ds.take (i+1)=ds.take i++[d5]:=by rw[F4,ed,J0]
    have i13:(i+1)*gD l'<=13*gD l':=N8 _ A1;have c13:(i+1)*gC l'<=13*gC l':=N8 _ A1;have gp:gDp (l'+1)=gD l':=rfl;have cp:gCp (l'+1)=gC l':=rfl;rw[gp]at R eD;rw[cp]at R eC;rw[M6]at i13 c13;have gfR:=R.go.few;have lenR:=R.len;have lkR:=R.lk;refine xw2 rfl rfl ⟨S,(xq1 rfl ⟨Fx.t (k:=pk d5) R.hS hk5,?_⟩)⟩;rw[kvS_get];have bD:(i+1)*gDp (l'+1)=i*gD l'+gD l':=M6 _ _;have bC:(i+1)*gCp (l'+1)=i*gC l'+gC l':=M6 _ _;by_cases hin:d5∈ks5
    ·rw[Z1 hin];refine⟨false,rfl,Bq ⟨G5,new,ts',ks5,(xq1 rfl ⟨R.more (by rw[bD];lia) (by rw[bC];lia) λd hd=>by rw[tk];exact D1.mpr (.inl hd),mem5,λd hd=>?_⟩)⟩⟩;rw[tk]at hd;rcases D1.mp hd with z|z
     ·exact all5 d z
     ·rw[C7.mp z,C0];rcases(mem5 _).mp hin with y|y
      ·rcases(mk1 _).mp y with y|y
       ·rcases low _ y with y|⟨l2,y,le2⟩
        ·exact D1.mpr (.inl y)
        ·have:=lv5.one ((go3.trans R.go).lev y);lia
       ·rw[y]at lv5;have:=lv5.one ((go3.trans R.go).lev hl);lia
      ·exact D1.mpr (.inr y)
    ·rw[Z2 hin];refine⟨true,rfl,CN ?_⟩;refine xwn rfl rfl R.j.hp (MV _ _ _ _ _) rfl (xq4 rfl rfl (SqT.of hk5) (Am (j:=0) rfl) (xwi rfl rfl rfl (SqT.of hk5) (Am (j:=1) rfl) (xw2 rfl rfl ?_)));refine⟨p,dx,mem,pr,g,G5,_,_,r,m,d5.1,l',d5.2,S,Tt,ks5,ts++ts',rows++new,rfl,R.j,lv5,by lia,he5,ap,R.hS,R.hT,Jm (Paired.imp (λt q z=>Cf.frS R.fr j3 hS3 hT3 z) prr3) R.pr,hin,λd hd=>?_,λq hq=>?_,by lia,by lia,by lia,by lia,by rw[B8];lia,λG6 H6 init mm ts6 ks6 R6 mem6=>?_⟩
     ·rcases(mem5 _).mp hd with y|y
      ·rcases(mk1 _).mp y with y|y
       ·rcases low _ y with y|⟨l2,y,le2⟩
        ·exact .inl (by rw[C0];exact D1.mpr (.inl y))
        ·exact .inr ⟨l2,(go3.trans R.go).lev y,by lia⟩
       ·rw[y];exact .inr ⟨l'+1,(go3.trans R.go).lev hl,by lia⟩
      ·exact .inl (by rw[C0];exact D1.mpr (.inr y))
     ·rcases D1.mp hq with y|y
      ·exact(mem5 _).mpr (.inl ((mk1 _).mpr (.inl (sub q y))))
      ·exact(mem5 _).mpr (.inr (E4.mpr ⟨q,y,rfl⟩))
     ·refine⟨G6,new++(init++[⟨d5.1,d5.2,mm⟩]),ts'++ts6,ks6,(xq1 rfl ⟨?_,λd=>?_,λd hd=>?_⟩)⟩
      ·rw[bD,bC,tk];exact R.then mem5 R6
      ·rw[mem6,mem5,show(new++(init++[(⟨d5.1,d5.2,mm⟩:T3)])).map T3.key=new.map T3.key++(init++[(⟨d5.1,d5.2,mm⟩:T3)]).map T3.key from C0,D1,or_assoc]
      ·rw[tk]at hd;rw[<-L5,C0];rcases D1.mp hd with z|z
       ·exact D1.mpr (.inl (all5 d z))
       ·rw[C7.mp z];exact D1.mpr (.inr (E4.mpr ⟨⟨d5.1,d5.2,mm⟩,D1.mpr (.inr (C7.mpr rfl)),rfl⟩))
   ·rintro σ Hy z2_;apply AE;intro G_ hG_;obtain⟨G5,new,ts',ks5,u5,rfl,R,mem5,all5⟩:=z2_;apply hG_;clear hG_ G_;rw[B6,l9,F7]at R all5;have nD:ds.length*gDp l<=13*gDp l:=N8 _ l13;have nC:ds.length*gCp l<=13*gCp l:=N8 _ l13;have gfR:=R.go.few;have lenR:=R.len;have lkR:=R.lk;refine hk2 ?_;refine xq1 rfl ⟨.inl ⟨rfl,_,SqL.of R.hT⟩,(xw3 rfl rfl rfl (xq3 rfl R.j.hp (Iu _ _ _ _ _) (xw2 rfl rfl ⟨p,dx,mem,pr,g,G5,_,_,r,m,n,l,e,rfl,R.j,(go3.trans R.go).lev hl,by lia,hel,by lia,by lia,by lia,λmm G6 H6 fr6 j6 go6 jr6=>?_⟩)))⟩;have hS6:=fr6.atS R.j.me ap R.j.gr R.hS;have hT6:=fr6.atT R.j.me ap R.j.gr R.hT;have lT:(ts++ts').length<sizeLine:=by
     have l1:ts.length=rows.length:=X5 prt;have l2:ts'.length=new.length:=X5 R.pr;rw[B8];exact E5 (show ts.length+ts'.length<=2000 by lia) A3
    refine⟨(by show 3<=sizeLine;decide),λt7 ht7=>?_⟩;generalize cX:upd H6 t7 _=H7;obtain⟨s7,ht8⟩:=alc ht7 cX;have hT7:=s7 _ _ hT6;refine⟨Tt,(xq2 rfl rfl ⟨hT7,by rw[B6];exact lT,?_⟩)⟩;have fr8:FrS g m S Tt Hy (upd H7 Tt (.lst ((ts++ts').map V.ref++[.ref t7]))):=((fr6.s).trans (FrJ.s (Av.j s7))).trans FrS.upT;have j8:JW a (upd H7 Tt (.lst ((ts++ts').map V.ref++[.ref t7]))) g G6 _ _ p dx mem pr r m:=(j6.same s7).putL hT7 ap.t1 ap.t2 ap.t3 ap.t4;have ks1n:(n,e)∈ks1:=(mk1 _).mpr (.inr rfl);have row8:Cf (upd H7 Tt (.lst ((ts++ts').map V.ref++[.ref t7]))) t7 ⟨n,e,mm⟩:=by
     unfold Cf;rw[Ao (As ht8 hT7 A2)];exact ht8
    refine k G6 _ new mm (ts'++[t7]) ks5 ⟨?_,?_,?_,?_,?_,?_,?_,λq hq=>?_,?_,?_⟩ λd=>?_
    ·exact((fr1.trans fr3.s).trans R.fr).trans fr8
    ·exact j8.mono A1 A1
    ·exact((go3.trans R.go).trans go6).mono A1
    ·rw[Ao (As (s7 _ _ hS6) hT7 A2)];exact s7 _ _ hS6
    ·rw[Af,<-L5,C0 (l₁:=ts++ts')];rfl
    ·exact K4 (Paired.imp (λt q z=>Cf.frS fr8 R.j R.hS R.hT z) R.pr) row8
    ·exact(R.rsn.goes R.j.ok go6).fin (dep3.goes j3.ok (R.go.trans go6)) jr6 all5 λz=>by
      obtain⟨q,hq,ez⟩:=E4.mp z;exact R.nw q hq (by rw[ez];exact ks1n)
    ·rcases D1.mp hq with z|z
     ·exact λy=>R.nw q z ((mk1 _).mpr (.inl y))
     ·rw[C7.mp z];exact nk
    ·rw[B8];show new.length+1<=_;lia
    ·lia
    ·rw[mem5,mk1,C0,D1];show(d∈ks\/d=(n,e))\/d∈new.map T3.key↔d∈ks\/d∈new.map T3.key\/d∈[(n,e)];rw[C7];exact⟨λz=>z.elim (λy=>y.elim .inl λx=>.inr (.inr x)) λy=>.inr (.inl y),λz=>z.elim (λy=>.inl (.inl y)) λy=>y.elim .inr λx=>.inl (.inr x)⟩
end
section
variable{P:Program}{w:World}{K:PySem.W.Frag}{mg:Str->Option Value}{base:Heap}{a:Ad}
inductive SpRs(a:Ad)(L:Nat)(vs:List V)(H:Hp)(Q:VK):Prop
 |mk (p dx mem pr:Addr) (g:GA) (G:Gv) (N M:Nat) (r:AA) (m:MA) (n l e:Nat) (_:vs=[.ref p,.int n,.int e]) (_:JW a H g G N M p dx mem pr r m) (_:Ap G n ((l+2:Nat):Int)) (_:l<L) (_:e<=l) (_:N+gD l<900000) (_:M+gD l<900000) (_:G.length+gD l<6900000) (_:gC l<=1000)
   (_:∀(T:Addr)(ts:List Addr)(init:List T3)(mm:Nat)(G':Gv)(H':Hp),FrJ g m H H'->(∀x o,H x=some o->x≠T)->JW a H' g G' (N+gD l) (M+gD l) p dx mem pr r m->AQ G G' (gD l)->H' T=some (.lst (ts.map V.ref))->Paired (Cf H') ts (init++[⟨n,e,mm⟩])->Rsn r G' [] (init++[⟨n,e,mm⟩]) [(n,e)]->init.length+1<=gC l->Q (.ref T) H'):SpRs a L vs H Q
def spRs(a:Ad)(L:Nat):Sp:=λvs H Q _=>SpRs a L vs H Q
theorem ok_rsn{d L:Nat}{f:Addr}{fd:FuncData}(F:Fun K "reasons" "Jumps.reasons" Ey f fd)(T:Top K mg a)(d4:4<=d)(aJ:BJ P w K mg base CX0 4 a.c_Jumps "check_jump" Ct (spCj a))(aH:BJ P w K mg base CX0 d a.c_Jumps "gather_reasons" BA (spGr a L)):AR P w K mg base CX0 (d+1) f fd EA (spRs a L):=by
 refine F.ok Gg (λvs H Q E h=>?_) (λcdv A outer s H vs Q E hr h=>?_)
 ·apply AE;intro G_ hG_;obtain⟨p,dx,mem,pr,g,G,N,M,r,m,n,l,e,rfl,_⟩:=h;apply hG_;clear hG_ G_;rfl
 ·apply AE;intro G_ hG_;obtain⟨p,dx,mem,pr,g,G,N,M,r,m,n,l,e,rfl,hj,hl,hL,hel,fewN,fewM,few,fewC,k⟩:=h;apply hG_;clear hG_ G_;refine⟨_,(Ac (AZ (Ay (pv 0) aJ (rm hr) Aq (Aa (pv 1) (Aa (pv 2) Ab)))) (Ac (Ax (i:=3) Gg.nd rfl (Or.inl rfl) (Bn Ab)) (Ac (AZ (Ay (pv 0) aH (rm hr) Aq (Aa (pv 1) (Aa (pv 2) (Aa Il (Aa (pv 3) Ab)))))) (Ag (Au (pv 3)))))),?_⟩
  try dsimp only[cxK]
  obtain⟨q,eq,elv⟩:=id hl;refine AS ?_;intro r_k1 s_k1 k1 hk1 E_k1;refine xwn rfl rfl hj.hp (Oe _ _ _ _ _) rfl (xq1 rfl ⟨p,dx,mem,mem,pr,m.l,m.kc,g,G,n,e,q,rfl,hj.hp,hj.gr,eq,by rw[elv];lia,?_⟩);refine hk1 ?_;refine AS ?_;intro r_k2 s_k2 k2 hk2 E_k2;refine⟨(by show 0<=sizeLine;decide),λTt hTt=>?_⟩;refine hk2 ?_;refine AS ?_;intro r_k3 s_k3 k3 hk3 E_k3;generalize bH:upd H Tt _=H1;obtain⟨s1,hT1⟩:=alc hTt bH;have j1:=hj.same s1;refine xwn rfl rfl j1.hp (MV _ _ _ _ _) rfl (xq1 rfl (λS hS=>(xq1 rfl ?_)));generalize cC:upd H1 S _=H2;obtain⟨s2,hS2⟩:=alc hS cC;have nS:H S=none:=Av.noneN s1 hS;have j2:=j1.same s2;have ap:ApS g m S Tt:=by
   obtain⟨kc,c1,_⟩:=hj.me.ce;obtain⟨ts,h3,_⟩:=hj.gr.pt;exact⟨Z7 (Ah hj.gr.nm nS),Z7 (Ah c1 nS),Z7 (Ah hj.gr.lv hTt),Z7 (Ah h3 hTt),Z7 (Ah hj.br hTt),Z7 (Ah hj.me.l hTt)⟩
  refine⟨p,dx,mem,pr,g,G,N,M,r,m,n,l,e,S,Tt,[],[],[],rfl,j2,hl,hL,hel,ap,hS2,s2 _ _ hT1,.nil,(λz=>nomatch z),λd hd=>(nomatch hd),λq hq=>(nomatch hq),fewN,fewM,few,by show 0+gC l<=2000;lia,by show 0+gC l<=2000;lia,λG' H' init mm ts' ks' R mem'=>?_⟩;refine hk3 ?_;refine xq1 rfl (k Tt ts' init mm G' H' (λb o e n1 n2 n3 n4 n5=>R.fr _ _ (s2 _ _ (s1 _ _ e)) n1 n2 n3 n4 n5 (Ah e nS) (Ah e hTt)) (λx o e=>Ah e hTt) R.j R.go (by have:=R.hT;rw[S7]at this;exact this) R.pr R.rsn ?_);have:=R.len;rw[B8]at this;exact this
theorem kit_tt(K:PySem.W.Frag):kitOne K (.type "tuple") (.type "tuple")=some true:=by kernel_rfl
inductive SpTh(vs:List V)(H:Hp)(Q:VK):Prop
 |mk (t:Addr) (x y z:Nat) (_:vs=[.ref t]) (_:H t=some (.tup [toV x,toV y,toV z])) (_:Q (.bl true) H):SpTh vs H Q
def spTh:Sp:=λvs H Q _=>SpTh vs H Q
theorem ok_th{f:Addr}{fd:FuncData}(F:Fun K "_law_three" "_law_three" Gs f fd)(T:Top K mg a):AR P w K mg base CX0 1 f fd GI spTh:=by
 refine F.ok Jb (λvs H Q E h=>?_) (λcdv A outer s H vs Q E hr h=>?_)
 ·apply AE;intro G_ hG_;obtain⟨t,x,y,z,rfl,_⟩:=h;apply hG_;clear hG_ G_;rfl
 ·apply AE;intro G_ hG_;obtain⟨t,x,y,z,rfl,ht,k⟩:=h;apply hG_;clear hG_ G_;refine⟨_,(Ac (AU (PW.pt (Jd (CK (CD (AO Dh rfl T.b_isinstance K0 (Aa (pv 0) (Aa (En (v:=.ty "tuple") rfl T.b_tuple K9 rfl) Ab))))) (GE (AI Ia (AO Bh rfl T.b_len K2 (Aa (pv 0) Ab)) Ae (AM _))))) (Ag (Au CH)) AF) (Ac (BE X6 rfl (Ld (pv 0)) (AL (i:=1) Jb.nd rfl (Or.inl rfl)) (Ag (AU (PW.pt (Jd (CK (CD (AO Dh rfl T.b_isinstance K0 (Aa (pv 1) (Aa (En (v:=.ty "int") rfl T.b_int A0d rfl) Ab))))) (GE (CD (AO Dh rfl T.b_isinstance K0 (Aa (pv 1) (Aa (En (v:=.ty "bool") rfl T.b_bool A3f rfl) Ab))))))) (Ag (Au CH)) AF))) (Ag (Au CH)))),?_⟩
  try dsimp only[cxK]
  refine AS ?_;intro r_k1 s_k1 k1 hk1 E_k1;refine xq1 rfl ⟨_,_,_,.type "tuple",true,rfl,rfl,.of (.tup ht),kit_tt K,true,rfl,Bq ?_⟩;refine xq1 rfl ⟨t,(xq1 rfl ⟨.inr (SqT.of ht),rfl,(xq1 rfl (Bq ?_))⟩)⟩;refine hk1 ?_;refine AS ?_;intro r_k2 s_k2 k2 hk2 E_k2;refine xq1 rfl ⟨t,rfl,⟨_,SqT.of ht⟩,?_⟩;refine Td (xs:=[toV x,toV y,toV z]) (λi σ Hy=>H=Hy/\∃u:Option V,σ=[some (.ref t),u]) ⟨rfl,none,rfl⟩ (λi σ Hy _ q=>q.1▸SqT.of ht) ?_ ?_
  ·rintro i v σ Hy ev ⟨rfl,u,rfl⟩;obtain⟨n,rfl⟩:∃n:Int,v=.int n:=by
    have:=D7 ev;simp only[D6,F8,K8]at this;rcases this with rfl|rfl|rfl<;>exact⟨_,rfl⟩
   refine xq1 rfl ⟨_,_,_,.type "int",true,rfl,rfl,.of (.int n),(VU K).1,true,rfl,Bq ?_⟩;exact xq1 rfl ⟨_,_,_,.type "int",false,rfl,rfl,.of (.int n),(VU K).2,false,rfl,Bq ⟨rfl,_,rfl⟩⟩
  ·rintro σ Hy ⟨rfl,u,rfl⟩;refine hk2 ?_;exact k
inductive SpFo(vs:List V)(H:Hp)(Q:VK):Prop
 |mk (L:Addr) (k0 k1 k2 k3 k4 k5 k6 k7 k8:Nat) (_:vs=[.ref L]) (_:H L=some (.lst ([k0,k1,k2,k3,k4,k5,k6,k7,k8].map toV))) (_:∀(A t0 t1 t2 t3:Addr)(H':Hp),Av H H'->H' A=some (.lst [.ref t0,.ref t1,.ref t2,.ref t3])->H' t0=some (.tup [toV k0,toV k1,toV k3,toV k4])->H' t1=some (.tup [toV k1,toV k2,toV k4,toV k5])->H' t2=some (.tup [toV k3,toV k4,toV k6,toV k7])->H' t3=some (.tup [toV k4,toV k5,toV k7,toV k8])->Q (.ref A) H'):SpFo vs H Q
def spFo:Sp:=λvs H Q _=>SpFo vs H Q
theorem ok_fo{f:Addr}{fd:FuncData}(F:Fun K "_law_fours" "_law_fours" EF f fd)(T:Top K mg a):AR P w K mg base CX0 1 f fd GK spFo:=by
 refine F.ok NJ (λvs H Q E h=>?_) (λcdv A outer s H vs Q E hr h=>?_)
 ·apply AE;intro G_ hG_;obtain⟨L,k0,k1,k2,k3,k4,k5,k6,k7,k8,rfl,_⟩:=h;apply hG_;clear hG_ G_;rfl
 ·apply AE;intro G_ hG_;obtain⟨L,k0,k1,k2,k3,k4,k5,k6,k7,k8,rfl,hL,k⟩:=h;apply hG_;clear hG_ G_;refine⟨_,(Ag (Au (BL rfl (Bk.of (So:=Ak EF) (No:=JH) (N:=["_law_k","_law_nine"]) (k:=1) (cs:=[0]) rfl rfl A0) (Ld (Dd (AH (AH (AH (AH Ab)))))) (λ_ _ _=>(AV (i:=0) A0 rfl rfl)) (λ_ _ _=>Bp) (λ_ _ _=>(Dd (Aa (Al (IE (K:=K) rfl) (pv 1) (pv 0) (λ_ _=>rfl)) (Aa (Al (IE (K:=K) rfl) (pv 1) (AK Bo (pv 0) Ae) (λ_ _=>rfl)) (Aa (Al (IE (K:=K) rfl) (pv 1) (AK Bo (pv 0) Ae) (λ_ _=>rfl)) (Aa (Al (IE (K:=K) rfl) (pv 1) (AK Bo (pv 0) Ae) (λ_ _=>rfl)) Ab))))))))),?_⟩
  try dsimp only[cxK]
  refine⟨(by show 4<=sizeLine;decide),λtt htt=>⟨tt,rfl,⟨_,SqT.of Af⟩,?_⟩⟩;generalize bH:upd H tt _=H1;obtain⟨s1,ht1⟩:=alc htt bH;have hL1:=s1 _ _ hL;refine Mp (xs:=[.int 0,.int 1,.int 3,.int 4]) (λi acc H5=>∃ts:List Addr,acc=ts.map V.ref/\ts.length=i/\Av H1 H5/\Paired (λt q=>H5 t=some (.tup (q.map toV))) ts ([[k0,k1,k3,k4],[k1,k2,k4,k5],[k3,k4,k6,k7],[k4,k5,k7,k8]].take i)) ⟨[],rfl,rfl,Av.refl H1,.nil⟩ (λi acc H5 _ z=>by obtain⟨_,_,_,sm,_⟩:=z;exact SqT.of (sm _ _ ht1)) ?_ ?_
  ·rintro i v acc H5 ev z5_;apply AE;intro G_ hG_;obtain⟨ts,rfl,lt,sm,pr5⟩:=z5_;apply hG_;clear hG_ G_;have hL5:=sm _ _ hL1;have y1_:∃(c:Int)(x y z u:Nat),v=.int c/\[[k0,k1,k3,k4],[k1,k2,k4,k5],[k3,k4,k6,k7],[k4,k5,k7,k8]][i]?=some [x,y,z,u]/\atI ([k0,k1,k2,k3,k4,k5,k6,k7,k8].map toV) c=some (toV x)/\atI ([k0,k1,k2,k3,k4,k5,k6,k7,k8].map toV) (c+1)=some (toV y)/\atI ([k0,k1,k2,k3,k4,k5,k6,k7,k8].map toV) (c+3)=some (toV z)/\atI ([k0,k1,k2,k3,k4,k5,k6,k7,k8].map toV) (c+4)=some (toV u):=by
    match i,ev with
    |0,ev=>exact⟨0,k0,k1,k3,k4,by cases ev;rfl,rfl,rfl,rfl,rfl,rfl⟩
    |1,ev=>exact⟨1,k1,k2,k4,k5,by cases ev;rfl,rfl,rfl,rfl,rfl,rfl⟩
    |2,ev=>exact⟨3,k3,k4,k6,k7,by cases ev;rfl,rfl,rfl,rfl,rfl,rfl⟩
    |3,ev=>exact⟨4,k4,k5,k7,k8,by cases ev;rfl,rfl,rfl,rfl,rfl,rfl⟩
   apply AE;intro G_ hG_;obtain⟨c,x,y,z,u,rfl,ei,e0,e1,e3,e4⟩:=y1_;apply hG_;clear hG_ G_;refine⟨⟨[some (.int c)],rfl,rfl⟩,by rw[B6,lt];exact F5 (B7.mp ei).1 (by show 4<=sizeLine;decide),Eu (xwj rfl rfl rfl rfl (SqL.of hL5) e0 (xw2 rfl rfl (xq2 rfl rfl (xq4 rfl rfl (SqL.of hL5) e1 (xw2 rfl rfl (xq2 rfl rfl (xq4 rfl rfl (SqL.of hL5) e3 (xw2 rfl rfl (xq2 rfl rfl (xq4 rfl rfl (SqL.of hL5) e4 ⟨(by show 4<=sizeLine;decide),λt ht=>⟨ts++[t],by rw[C0];rfl,by rw[B8,lt];rfl,sm.trans (Ai ht),?_⟩⟩))))))))))⟩;rw[F4,ei,J0];exact K4 (Paired.imp (λt d z=>Ai ht _ _ z) pr5) Af
  ·rintro acc H5 z2_ A hA;apply AE;intro G_ hG_;obtain⟨ts,rfl,lt,sm,pr5⟩:=z2_;apply hG_;clear hG_ G_;have y2_:∃t0 t1 t2 t3,ts=[t0,t1,t2,t3]:=by
    match ts,lt with
    |[t0,t1,t2,t3],_=>exact⟨t0,t1,t2,t3,rfl⟩
   apply AE;intro G_ hG_;obtain⟨t0,t1,t2,t3,rfl⟩:=y2_;apply hG_;clear hG_ G_;have s5:Av H5 (upd H5 A (.lst ([t0,t1,t2,t3].map V.ref))):=Ai hA;cases pr5 with
   |cons h0 p =>
    cases p with
    |cons h1 p =>
     cases p with
     |cons h2 p =>
      cases p with
      |cons h3 p=>exact k A t0 t1 t2 t3 _ ((s1.trans sm).trans s5) Af (s5 _ _ h0) (s5 _ _ h1) (s5 _ _ h2) (s5 _ _ h3)
end
def kvT(rows:List T3):List (List Key×V):=kvG T3.key (λq=>toV q.m) rows
theorem nd_insK{ks:List (Nat×Nat)}(h:ks.Nodup)(d:Nat×Nat):(insK ks d).Nodup:=by
 unfold insK;split
 ·exact h
 ·rename_i n;rw[N1];exact⟨h,by simp,λa ha b hb z=>n (by rw[<-C7.mp hb,<-z];exact ha)⟩
def FrU(U:Addr)(H H':Hp):Prop:=∀b o,H b=some o->b≠U->H' b=some o
section
variable{P:Program}{w:World}{K:PySem.W.Frag}{mg:Str->Option Value}{base:Heap}{a:Ad}
inductive SpRe(vs:List V)(H:Hp)(Q:VK):Prop
 |mk (D U W:Addr) (rows:List T3) (us:List (Nat×Nat)) (tw:List Addr) (qs:List T3) (_:vs=[.ref D,.ref U,.ref W]) (_:H D=some (.dT (kvT rows))) (_:(rows.map T3.key).Nodup) (_:H U=some (.dT (kvS us))) (_:D≠U) (_:H W=some (.lst (tw.map V.ref))) (_:Paired (FL H) tw (qs.map T3.key)) (_:∀q∈qs,q∈rows) (_:qs.length<=20) (_:us.length+20<=5000)
   (_:∀(F:Addr)(us':List (Nat×Nat))(H':Hp),FrU U H H'->(∀x o,H x=some o->x≠F)->H' U=some (.dT (kvS us'))->H' F=some (.lst (qs.map λq=>toV q.m))->(∀d,d∈us'↔d∈us\/d∈qs.map T3.key)->(us.Nodup->us'.Nodup)->us'.length<=us.length+qs.length->Q (.ref F) H'):SpRe vs H Q
def spRe:Sp:=λvs H Q _=>SpRe vs H Q
theorem ok_re{f:Addr}{fd:FuncData}(F:Fun K "_law_rested" "_law_rested" FP f fd)(T:Top K mg a):AR P w K mg base CX0 1 f fd FW spRe:=by
 refine F.ok EN (λvs H Q E h=>?_) (λcdv A outer s H vs Q E hr h=>?_)
 ·apply AE;intro G_ hG_;obtain⟨D,U,W,rows,us,tw,qs,rfl,_⟩:=h;apply hG_;clear hG_ G_;rfl
 ·apply AE;intro G_ hG_;obtain⟨D,U,W,rows,us,tw,qs,rfl,hD,nd,hU,nDU,hW,prw,sub,l20,lus,k⟩:=h;apply hG_;clear hG_ G_;refine⟨_,(Ac (Ax (i:=3) EN.nd rfl (Or.inl rfl) (Bn Ab)) (Ac (BE X6 rfl (Bc (pv 2)) (AL (i:=4) EN.nd rfl (Or.inl rfl)) (Ac (AU (OW (Lh (DS hr) (pv 4) (pv 0))) (Ag (Au (Bn Ab))) AF) (Ac (FF (DS hr) (pv 1) (pv 4) CH rfl) (Ag (AZ (Ce Z8 Z9 X4 Ba (pv 3) (Aa (OY (DS hr) (pv 0) (pv 4) (λ_ _=>rfl)) Ab))))))) (Ag (Au (pv 3))))),?_⟩
  try dsimp only[cxK]
  refine AS ?_;intro r_k1 s_k1 k1 hk1 E_k1;refine⟨(by show 0<=sizeLine;decide),λFl hF=>?_⟩;generalize bH:upd H Fl _=H1;obtain⟨s1,hF1⟩:=alc hF bH;refine hk1 ?_;refine AS ?_;intro r_k2 s_k2 k2 hk2 E_k2;have lq:tw.length=qs.length:=by rw[X5 prw,B6]
  have nF:∀{x o},H x=some o->x≠Fl:=λ{x o} e=>Ah e hF;refine xq1 rfl ⟨W,rfl,⟨_,SqL.of (s1 _ _ hW)⟩,?_⟩;refine Cw (xs:=tw.map V.ref) (λi σ Hy=>∃(us5:List (Nat×Nat))(u4:Option V),σ=[some (.ref D),some (.ref U),some (.ref W),some (.ref Fl),u4]/\(∀b o,H b=some o->b≠U->Hy b=some o)/\Hy U=some (.dT (kvS us5))/\Hy Fl=some (.lst ((qs.take i).map λq=>toV q.m))/\(∀d,d∈us5↔d∈us\/d∈(qs.take i).map T3.key)/\(us.Nodup->us5.Nodup)/\us5.length<=us.length+i) ⟨us,none,rfl,λb o e _=>s1 _ _ e,s1 _ _ hU,hF1,λd=>⟨.inl,λz=>z.elim id λy=>(nomatch y)⟩,id,C8 _⟩ (λi σ Hy _ z=>by obtain⟨_,_,_,kp,_⟩:=z;exact SqL.of (kp _ _ hW (As hW hU A2))) ?_ ?_
  ·rintro i v σ Hy ev z5_;apply AE;intro G_ hG_;obtain⟨us5,u4,rfl,kp,hU5,hF5,mem5,nd5,len5⟩:=z5_;apply hG_;clear hG_ G_;rw[B9]at ev;obtain⟨t5,et,rfl⟩:=D5.mp ev;obtain⟨d5,ed,hk⟩:=Paired.get prw et;rw[B9]at ed;obtain⟨q5,eq,rfl⟩:=D5.mp ed;have hk5:=kp _ _ hk (As hk hU A2);have hD5:=kp _ _ hD nDU;have hi:i<qs.length:=(B7.mp eq).1;have val:BK (kvT rows) (pk q5.key)=some (toV q5.m):=QB T3.key _ nd (sub q5 (D7 eq));have tk:qs.take (i+1)=qs.take i++[q5]:=by rw[F4,eq,J0]
   refine AS ?_;intro r_k3 s_k3 k3 hk3 E_k3;refine xw2 rfl rfl ⟨D,(xq1 rfl ⟨Fx.t (k:=pk q5.key) hD5 hk5,?_⟩)⟩;rw[val];refine⟨false,rfl,Bq ?_⟩;refine hk3 ?_;refine AS ?_;intro r_k4 s_k4 k4 hk4 E_k4;refine xw2 rfl rfl ⟨U,(xq1 rfl ⟨JS.t (k:=pk q5.key) hU5 hk5 (by rw[Po];exact E5 (show us5.length<=5000 by lia) A3),?_⟩)⟩;rw[SV];have li:=Qz us5 q5.key;have hU6:upd Hy U (.dT (kvS (insK us5 q5.key))) U=some (.dT (kvS (insK us5 q5.key))):=Af;have kp6:∀b o,Hy b=some o->b≠U->upd Hy U (.dT (kvS (insK us5 q5.key))) b=some o:=λb o e n=>by rw[Ao n];exact e
   show k4 _ (upd Hy U (.dT (kvS (insK us5 q5.key))));generalize upd Hy U (.dT (kvS (insK us5 q5.key)))=H6 at hU6 kp6⊢;have hF6:=kp6 _ _ hF5 (As hF5 hU5 A2);have hD6:=kp6 _ _ hD5 nDU;have hk6:=kp6 _ _ hk5 (As hk5 hU5 A2);refine hk4 ?_;refine xq1 rfl ⟨.inl ⟨rfl,_,SqL.of hF6⟩,(xw2 rfl rfl ⟨D,toV q5.m,rfl,val▸Fx.t (k:=pk q5.key) hD6 hk6,Fl,(xq2 rfl rfl ⟨hF6,by rw[B6,J7];exact E5 (show min i qs.length<=20 by lia) A3,?_⟩)⟩)⟩;have nFU:Fl≠U:=As hF5 hU5 A2;refine⟨insK us5 q5.key,(xq1 rfl ⟨λb o e n=>?_,?_,?_,λd=>?_,λz=>nd_insK (nd5 z) _,by lia⟩)⟩
   ·rw[Ao (nF e)];exact kp6 _ _ (kp _ _ e n) n
   ·rw[Ao (Z7 nFU)];exact hU6
   ·rw[Af,tk,C0];rfl
   ·rw[Qx,mem5,tk,C0,D1,or_assoc];show _↔_\/_\/d∈[q5.key];rw[C7]
  ·rintro σ Hy z2_;apply AE;intro G_ hG_;obtain⟨us5,u4,rfl,kp,hU5,hF5,mem5,nd5,len5⟩:=z2_;apply hG_;clear hG_ G_;rw[B6,lq]at len5;rw[B6,lq,F7]at hF5 mem5;refine hk2 ?_;exact xq1 rfl (k Fl us5 Hy kp (λx o e=>nF e) hU5 hF5 mem5 nd5 len5)
def sxt(G:Gv)(n x y:Nat):Nat:=qO G (qO G n (x/2+2*(y/2))) (x%2+2*(y%2))
theorem UQ{G:Gv}(ok:GOk G){n l:Nat}(h:Ap G n ((l+2:Nat):Int)):KN G (AW G (l+2) n) l 4 (sxt G n):=λx y hx hy=>by
 have v0:Vw G (AW G (l+2) n) (l+2) n 0 0:=λu v _ _=>rfl;have v1:=v0.q (i:=x/2) (j:=y/2) A1 A1;have v2:=v1.q (i:=x%2) (j:=y%2) A1 A1;have l1:=DI ok (l:=l+1) h (k:=x/2+2*(y/2)) A1;refine⟨DI ok l1 A1,v2.at' ?_ ?_⟩
 ·rw[L6];have:x/2*2+x%2=x:=by lia
  calc 0+2^l*2*(x/2)+2^l*(x%2)=2^l*(x/2*2+x%2):=by rw[L9,Nat.mul_add,U2,Y4 2 (x/2)]
   _=2^l*x:=by rw[this]
 ·rw[L6];have:y/2*2+y%2=y:=by lia
  calc 0+2^l*2*(y/2)+2^l*(y%2)=2^l*(y/2*2+y%2):=by rw[L9,Nat.mul_add,U2,Y4 2 (y/2)]
   _=2^l*y:=by rw[this]
theorem GOk.fourq{G:Gv}(ok:GOk G){n l:Nat}(h:Ap G n ((l+1:Nat):Int)):G[n]?=some ⟨[(qO G n 0:Int),(qO G n 1:Int),(qO G n 2:Int),(qO G n 3:Int)],((l+1:Nat):Int)⟩:=by
 apply AE;intro G_ hG_;obtain⟨x,y,z,w,e,_⟩:=ok.four h;obtain⟨a0,a1,a2,a3⟩:=DH e;apply hG_;clear hG_ G_;rw[a0,a1,a2,a3];exact e
theorem sxt_row{G:Gv}{n i:Nat}(h:i<2):[toV (qO G (qO G n (2*i)) 0),toV (qO G (qO G n (2*i)) 1),toV (qO G (qO G n (2*i+1)) 0),toV (qO G (qO G n (2*i+1)) 1)]=Dc toV (λx=>sxt G n x (2*i)) 4/\[toV (qO G (qO G n (2*i)) 2),toV (qO G (qO G n (2*i)) 3),toV (qO G (qO G n (2*i+1)) 2),toV (qO G (qO G n (2*i+1)) 3)]=Dc toV (λx=>sxt G n x (2*i+1)) 4:=by
 match i,h with
 |0,_=>exact⟨rfl,rfl⟩
 |1,_=>exact⟨rfl,rfl⟩
theorem Vd{α:Type}{ts:List α}{x y t:α}{k j:Nat}(l:ts.length=k)(e:(ts++[x]++[y])[j]?=some t):(j<k/\ts[j]?=some t)\/(j=k/\t=x)\/(j=k+1/\t=y):=by
 rw[L5]at e;by_cases h:j<k
 ·rw[F6 A1]at e;exact .inl ⟨h,e⟩
 ·rw[E3 A1,l]at e;have:j-k<2:=(B7.mp e).1;have:j=k\/j=k+1:=by lia
  rcases this with rfl|rfl
  ·rw[N7]at e;cases e;exact .inr (.inl ⟨rfl,rfl⟩)
  ·rw[N9]at e;cases e;exact .inr (.inr ⟨rfl,rfl⟩)
inductive SpLi(a:Ad)(vs:List V)(H:Hp)(Q:VK):Prop
 |mk (g:GA) (G:Gv) (n l:Nat) (_:vs=[.ref g.p,.int n]) (_:AD a H g G) (_:GOk G) (_:Ap G n ((l+2:Nat):Int)) (_:∀(L:Addr)(H':Hp),Av H H'->Sd toV H' L 4 4 (sxt G n)->Q (.ref L) H'):SpLi a vs H Q
def spLi(a:Ad):Sp:=λvs H Q _=>SpLi a vs H Q
theorem ok_li{f:Addr}{fd:FuncData}(F:Fun K "_law_lines" "_law_lines" Gw f fd)(T:Top K mg a)(aB:BJ P w K mg base CX0 4 a.c_Grove "quarters" Cl (PZ a)):AR P w K mg base CX0 5 f fd EH (spLi a):=by
 refine F.ok CA (λvs H Q E h=>?_) (λcdv A outer s H vs Q E hr h=>?_)
 ·apply AE;intro G_ hG_;obtain⟨g,G,n,l,rfl,_⟩:=h;apply hG_;clear hG_ G_;rfl
 ·apply AE;intro G_ hG_;obtain⟨g,G,n,l,rfl,hg,ok,hl,k⟩:=h;apply hG_;clear hG_ G_;refine⟨_,(Ac (Ax (i:=2) CA.nd rfl (Or.inl rfl) (Bn Ab)) (Ac (BE X6 rfl (Bc (Bn (Bx (AH (AH Ab)) (Bx (AH (AH Ab)) Ab)))) (EY rfl (AY (AL (i:=3) CA.nd rfl (Or.inl rfl)) (AY (AL (i:=4) CA.nd rfl (Or.inl rfl)) DK))) (Ac (Ax (i:=5) CA.nd rfl (Or.inl rfl) (Ay (pv 0) aB (rm hr) Aq (Aa (Al An (Ay (pv 0) aB (rm hr) Aq (Aa (pv 1) Ab)) (pv 3) (λ_ _=>rfl)) Ab))) (Ac (Ax (i:=6) CA.nd rfl (Or.inl rfl) (Ay (pv 0) aB (rm hr) Aq (Aa (Al An (Ay (pv 0) aB (rm hr) Aq (Aa (pv 1) Ab)) (pv 4) (λ_ _=>rfl)) Ab))) (Ac (AZ (Ce Z8 Z9 X4 Ba (pv 2) (MR (Aa (Al An (pv 5) Ae (λ_ _=>rfl)) (Aa (Al An (pv 5) Ae (λ_ _=>rfl)) (Aa (Al An (pv 6) Ae (λ_ _=>rfl)) (Aa (Al An (pv 6) Ae (λ_ _=>rfl)) Ab)))) Ab))) (Ag (AZ (Ce Z8 Z9 X4 Ba (pv 2) (MR (Aa (Al An (pv 5) Ae (λ_ _=>rfl)) (Aa (Al An (pv 5) Ae (λ_ _=>rfl)) (Aa (Al An (pv 6) Ae (λ_ _=>rfl)) (Aa (Al An (pv 6) Ae (λ_ _=>rfl)) Ab)))) Ab)))))))) (Ag (Au (pv 2))))),?_⟩
  try dsimp only[cxK]
  refine AS ?_;intro r_k1 s_k1 k1 hk1 E_k1;refine⟨(by show 0<=sizeLine;decide),λLn hLn=>?_⟩;generalize bH:upd H Ln _=H1;obtain⟨s1,hL1⟩:=alc hLn bH;refine hk1 ?_;refine AS ?_;intro r_k2 s_k2 k2 hk2 E_k2;refine⟨(by show 2<=sizeLine;decide),λt1 ht1=>?_⟩;refine⟨(by show 2<=sizeLine;decide),λt2 ht2=>⟨(by show 2<=sizeLine;decide),λL0 hL0=>⟨L0,rfl,⟨_,SqL.of Af⟩,?_⟩⟩⟩;have s2:Av H1 (upd H1 t1 (.tup [.int 0,.int 1])):=Ai ht1;have h1:upd H1 t1 (.tup [.int 0,.int 1]) t1=some (.tup [.int 0,.int 1]):=Af;generalize upd H1 t1 (.tup [.int 0,.int 1])=H2 at s2 h1 ht2 hL0⊢;have s3:Av H2 (upd H2 t2 (.tup [.int 2,.int 3])):=Ai ht2;have h2:upd H2 t2 (.tup [.int 2,.int 3]) t2=some (.tup [.int 2,.int 3]):=Af;generalize upd H2 t2 (.tup [.int 2,.int 3])=H3 at s3 h2 hL0⊢;generalize cY:upd H3 L0 _=H4;obtain⟨s4,hL4⟩:=alc hL0 cY;have hLn3:=s3 _ _ (s2 _ _ hL1);have nLL:L0≠Ln:=Z7 (Ah hLn3 hL0);have h14:=s4 _ _ (s3 _ _ h1);have h24:=s4 _ _ h2;have hLn4:=s4 _ _ hLn3;have sH4:Av H H4:=((s1.trans s2).trans s3).trans s4;have hg4:=hg.same sH4;have nl1:∀{k:Nat},k<4->Ap G (qO G n k) ((l+1:Nat):Int):=λ{k} hk=>DI ok (l:=l+1) hl hk;have en:=ok.fourq (l:=l+1) hl;clear s1 s2 s3 s4 h1 h2 hLn3 ht1 ht2 hL0;refine Cw (xs:=[.ref t1,.ref t2]) (λi σ Hy=>∃(ts:List Addr)(u3 u4 u5 u6:Option V),σ=[some (.ref g.p),some (.int n),some (.ref Ln),u3,u4,u5,u6]/\(∀b o,H4 b=some o->b≠Ln->Hy b=some o)/\Hy Ln=some (.lst (ts.map V.ref))/\ts.length=2*i/\∀(y:Nat) t,ts[y]?=some t->t≠Ln/\Hy t=some (.lst (Dc toV (λx=>sxt G n x y) 4))) ⟨[],none,none,none,none,rfl,λb o e _=>e,hLn4,rfl,λy t e=>(nomatch e)⟩ (λi σ Hy _ z=>by obtain⟨_,_,_,_,_,_,kp,_⟩:=z;exact SqL.of (kp _ _ hL4 nLL)) ?_ ?_
  ·rintro i v σ Hy ev z5_;apply AE;intro G_ hG_;obtain⟨ts,u3,u4,u5,u6,rfl,kp,hLy,lt,rowsy⟩:=z5_;apply hG_;clear hG_ G_;have i2:i<2:=(B7.mp ev).1;obtain⟨tt,rfl,htt⟩:∃tt,v=.ref tt/\Hy tt=some (.tup [.int ((2*i:Nat):Int),.int ((2*i+1:Nat):Int)]):=by
    match i,i2,ev with
    |0,_,ev=>cases ev;exact⟨t1,rfl,kp _ _ h14 (As h14 hLn4 A2)⟩
    |1,_,ev=>cases ev;exact⟨t2,rfl,kp _ _ h24 (As h24 hLn4 A2)⟩
   have hgy:AD a Hy g G:=by
    have nn:∀{b o},H b=some o->b≠Ln:=λ{b o} e=>Ah e hLn;obtain⟨tg,g3,g4⟩:=hg.pt;have kk:∀{b o},H b=some o->Hy b=some o:=λ{b o} e=>kp _ _ (sH4 _ _ e) (nn e);exact⟨kk hg.hp,kk hg.lv,⟨tg,kk g3,PairedM.imp (λt q z=>kk z) g4⟩,kk hg.nm,hg.ne⟩
   have atq:∀{j:Nat},j<4->atI ([(qO G n 0:Int),(qO G n 1:Int),(qO G n 2:Int),(qO G n 3:Int)].map V.int) (j:Int)=some (toV (qO G n j)):=λ{j} hj=>by
    match j,hj with
    |0,_=>rfl
    |1,_=>rfl
    |2,_=>rfl
    |3,_=>rfl
   refine JK htt ?_;refine AS ?_;intro r_k3 s_k3 k3 hk3 E_k3;refine xq1 rfl (xq3 rfl hgy.hp (Cm g) (xq1 rfl (xq3 rfl hgy.hp (Cm g) (xq1 rfl ⟨g,G,n,_,rfl,hgy,en,by show((l+1+1:Nat):Int)≠0;lia,λtq htq=>(xq1 rfl (xq4 rfl rfl (SqT.of htq) (atq A1) ⟨g,G,qO G n (2*i),_,rfl,hgy,ok.fourq (nl1 A1),by show((l+1:Nat):Int)≠0;lia,λta hta=>?_⟩))⟩))));refine hk3 ?_;refine AS ?_;intro r_k4 s_k4 k4 hk4 E_k4;refine xq1 rfl (xq3 rfl hgy.hp (Cm g) (xq1 rfl (xq3 rfl hgy.hp (Cm g) (xq1 rfl ⟨g,G,n,_,rfl,hgy,en,by show((l+1+1:Nat):Int)≠0;lia,λtq htq=>(xq1 rfl (xq4 rfl rfl (SqT.of htq) (atq A1) ⟨g,G,qO G n (2*i+1),_,rfl,hgy,ok.fourq (nl1 A1),by show((l+1:Nat):Int)≠0;lia,λtb htb=>?_⟩))⟩))));refine hk4 ?_;refine AS ?_;intro r_k5 s_k5 k5 hk5 E_k5;refine xq1 rfl ⟨.inl ⟨rfl,_,SqL.of hLy⟩,(xwi rfl rfl rfl (SqT.of hta) (Am (j:=0) rfl) (xwi rfl rfl rfl (SqT.of hta) (Am (j:=1) rfl) (xwi rfl rfl rfl (SqT.of htb) (Am (j:=0) rfl) (xwi rfl rfl rfl (SqT.of htb) (Am (j:=1) rfl) ⟨(by show 4<=sizeLine;decide),λR1 hR1=>?_⟩))))⟩;obtain⟨row1,row2⟩:=sxt_row (G:=G) (n:=n) i2;have up1:∀{b o},Hy b=some o->upd Hy R1 (.lst [V.int (qO G (qO G n (2*i)) 0:Int),V.int (qO G (qO G n (2*i)) 1:Int),V.int (qO G (qO G n (2*i+1)) 0:Int),V.int (qO G (qO G n (2*i+1)) 1:Int)]) b=some o:=λ{b o} e=>Ai hR1 _ _ e;have hR1':upd Hy R1 (.lst [V.int (qO G (qO G n (2*i)) 0:Int),V.int (qO G (qO G n (2*i)) 1:Int),V.int (qO G (qO G n (2*i+1)) 0:Int),V.int (qO G (qO G n (2*i+1)) 1:Int)]) R1=some (.lst (Dc toV (λx=>sxt G n x (2*i)) 4)):=by rw[Af];exact X8 (λz=>some (HO.lst z)) row1
   show ∃_,_;generalize upd Hy R1 (.lst [V.int (qO G (qO G n (2*i)) 0:Int),V.int (qO G (qO G n (2*i)) 1:Int),V.int (qO G (qO G n (2*i+1)) 0:Int),V.int (qO G (qO G n (2*i+1)) 1:Int)])=H6 at up1 hR1'⊢;have nR1:R1≠Ln:=λz=>by rw[z,hLy]at hR1;cases hR1
   refine⟨Ln,(xq2 rfl rfl ⟨up1 hLy,by rw[B6,lt];exact E5 (show 2*i<=4 by lia) A3,?_⟩)⟩;have up2:∀{b o},H6 b=some o->b≠Ln->upd H6 Ln (.lst (ts.map V.ref++[.ref R1])) b=some o:=λ{b o} e nb=>by rw[Ao nb];exact e
   have hL7:upd H6 Ln (.lst (ts.map V.ref++[.ref R1])) Ln=some (.lst ((ts++[R1]).map V.ref)):=by rw[Af,C0];rfl
   show k5 _ (upd H6 Ln (.lst (ts.map V.ref++[.ref R1])));generalize upd H6 Ln (.lst (ts.map V.ref++[.ref R1]))=H7 at up2 hL7⊢;have hta7:=up2 (up1 hta) (As hta hLy A2);have htb7:=up2 (up1 htb) (As htb hLy A2);have hR7:=up2 hR1' nR1;refine hk5 ?_;refine xq1 rfl ⟨.inl ⟨rfl,_,SqL.of hL7⟩,(xwi rfl rfl rfl (SqT.of hta7) (Am (j:=2) rfl) (xwi rfl rfl rfl (SqT.of hta7) (Am (j:=3) rfl) (xwi rfl rfl rfl (SqT.of htb7) (Am (j:=2) rfl) (xwi rfl rfl rfl (SqT.of htb7) (Am (j:=3) rfl) ⟨(by show 4<=sizeLine;decide),λR2 hR2=>?_⟩))))⟩;have nR2:R2≠Ln:=λz=>by rw[z,hL7]at hR2;cases hR2
   have up3:∀{b o},H7 b=some o->upd H7 R2 (.lst [V.int (qO G (qO G n (2*i)) 2:Int),V.int (qO G (qO G n (2*i)) 3:Int),V.int (qO G (qO G n (2*i+1)) 2:Int),V.int (qO G (qO G n (2*i+1)) 3:Int)]) b=some o:=λ{b o} e=>Ai hR2 _ _ e;have hR2':upd H7 R2 (.lst [V.int (qO G (qO G n (2*i)) 2:Int),V.int (qO G (qO G n (2*i)) 3:Int),V.int (qO G (qO G n (2*i+1)) 2:Int),V.int (qO G (qO G n (2*i+1)) 3:Int)]) R2=some (.lst (Dc toV (λx=>sxt G n x (2*i+1)) 4)):=by rw[Af];exact X8 (λz=>some (HO.lst z)) row2
   refine⟨Ln,(xq2 rfl rfl ⟨up3 hL7,by rw[B6,B8,lt];exact E5 (show 2*i+1<=4 by lia) A3,?_⟩)⟩;show ∃_,_;generalize upd H7 R2 (.lst [V.int (qO G (qO G n (2*i)) 2:Int),V.int (qO G (qO G n (2*i)) 3:Int),V.int (qO G (qO G n (2*i+1)) 2:Int),V.int (qO G (qO G n (2*i+1)) 3:Int)])=H8 at up3 hR2'⊢;have all:∀{b o},Hy b=some o->b≠Ln->upd H8 Ln (.lst ((ts++[R1]).map V.ref++[.ref R2])) b=some o:=λ{b o} e nb=>by rw[Ao nb];exact up3 (up2 (up1 e) nb)
   refine⟨ts++[R1]++[R2],_,_,_,_,rfl,λb o e nb=>all (kp _ _ e nb) nb,by rw[Af,C0 (l₁:=ts++[R1])];rfl,by rw[B8,B8,lt];rfl,λy t e=>?_⟩;rcases Vd lt e with ⟨_,e⟩|⟨rfl,rfl⟩|⟨rfl,rfl⟩
   ·obtain⟨h1,h2⟩:=rowsy y t e;exact⟨h1,all h2 h1⟩
   ·exact⟨nR1,by rw[Ao nR1];exact up3 hR7⟩
   ·exact⟨nR2,by rw[Ao nR2];exact hR2'⟩
  ·rintro σ Hy z2_;apply AE;intro G_ hG_;obtain⟨ts,u3,u4,u5,u6,rfl,kp,hLy,lt,rowsy⟩:=z2_;apply hG_;clear hG_ G_;refine hk2 ?_;refine xq1 rfl (k Ln Hy (λb o e=>kp _ _ (sH4 _ _ e) (Ah e hLn)) ⟨ts,hLy,lt,λy t e=>(rowsy y t e).2⟩)
end
theorem AQ.le{G G':Gv}{n:Nat}(h:AQ G G' n):G.length<=G'.length:=by
 obtain⟨r,e⟩:=h.pre;rw[e,B8];exact R9 _ _
theorem cut2{α:Type}{v:α->V}{f:Nat->α}{W x:Nat}(h:x+2<=W):Nt (Dc v f W) (some (0+(x:Int))) (some (0+(x:Int)+2))=[v (f x),v (f (x+1))]:=by
 rw[V7,show(x:Int)+2=((x+2:Nat):Int) by lia,Qj h];show [v (f (0+x)),v (f (1+x))]=_;rw[L9,V5 1 x]
section
variable{P:Program}{w:World}{K:PySem.W.Frag}{mg:Str->Option Value}{base:Heap}{a:Ad}
inductive SpPa(a:Ad)(vs:List V)(H:Hp)(Q:VK):Prop
 |mk (g:GA) (G:Gv) (n l:Nat) (_:vs=[.ref g.p,.int n]) (_:AD a H g G) (_:GOk G) (_:56<=G.length) (_:Ap G n ((l+1+2:Nat):Int)) (_:G.length<7000000) (_:∀(L:Addr)(ks:List Nat)(G':Gv)(H':Hp),Fr g H H'->(∀x o,H x=some o->x≠L)->AD a H' g G'->AQ G G' 9->H' L=some (.lst (ks.map toV))->IJ G' n l ks->Q (.ref L) H'):SpPa a vs H Q
def spPa(a:Ad):Sp:=λvs H Q _=>SpPa a vs H Q
theorem ok_pa{f:Addr}{fd:FuncData}(F:Fun K "_law_parts" "_law_parts" Gu f fd)(T:Top K mg a)(b6:Cal P w K mg base CX0 5 "_law_lines" EH (spLi a))(aI:BJ P w K mg base CX0 4 a.c_Grove "joined" CL (Mu a)):AR P w K mg base CX0 6 f fd GJ (spPa a):=by
 refine F.ok Cz (λvs H Q E h=>?_) (λcdv A outer s H vs Q E hr h=>?_)
 ·apply AE;intro G_ hG_;obtain⟨g,G,n,l,rfl,_⟩:=h;apply hG_;clear hG_ G_;rfl
 ·apply AE;intro G_ hG_;obtain⟨g,G,n,l,rfl,hg,ok,l56,hl,few,k⟩:=h;apply hG_;clear hG_ G_;refine⟨_,(Ac (Ax (i:=2) Cz.nd rfl (Or.inl rfl) (Az b6 (rm hr) rfl Aq (Aa (pv 0) (Aa (pv 1) Ab)))) (Ac (Ax (i:=3) Cz.nd rfl (Or.inl rfl) (Bn Ab)) (Ac (BE X6 rfl (BR rfl T.b_range (AH Ab)) (AL (i:=4) Cz.nd rfl (Or.inl rfl)) (Ag (BE X6 rfl (BR rfl T.b_range (AH Ab)) (AL (i:=5) Cz.nd rfl (Or.inl rfl)) (Ac (Ax (i:=6) Cz.nd rfl (Or.inl rfl) (AK Li (Gi IL (Al Ar (pv 2) (pv 4) (λ_ _=>rfl)) (DJ (pv 5)) (DJ (AK Bo (pv 5) Ae))) (Gi IL (Al Ar (pv 2) (AK Bo (pv 4) Ae) (λ_ _=>rfl)) (DJ (pv 5)) (DJ (AK Bo (pv 5) Ae))))) (Ag (AZ (Ce Z8 Z9 X4 Ba (pv 3) (Aa (Ay (pv 0) aI (rm hr) Aq (Aa (Al Ar (pv 6) Ae (λ_ _=>rfl)) (Aa (Al Ar (pv 6) Ae (λ_ _=>rfl)) (Aa (Al Ar (pv 6) Ae (λ_ _=>rfl)) (Aa (Al Ar (pv 6) Ae (λ_ _=>rfl)) Ab))))) Ab)))))))) (Ag (Au (pv 3)))))),?_⟩
  try dsimp only[cxK]
  have l45:l<=45:=by
   obtain⟨q,e,el⟩:=id hl;have:=(ok.lev e).2;lia
  refine AS ?_;intro r_k1 s_k1 k1 hk1 E_k1;refine xw2 rfl rfl ⟨g,G,n,l+1,rfl,hg,ok,hl,λLN H1 s1 ⟨tl,hLN,ltl,htl⟩=>?_⟩;refine hk1 ?_;have kn:=UQ ok (l:=l+1) hl;refine AS ?_;intro r_k2 s_k2 k2 hk2 E_k2;refine⟨(by show 0<=sizeLine;decide),λPL hPL=>?_⟩;generalize cC:upd H1 PL _=H2;obtain⟨s2,hP2⟩:=alc hPL cC;have nP0:∀{x o},H x=some o->x≠PL:=λ{x o} e=>Ah (s1 _ _ e) hPL;have nPL:LN≠PL:=Ah hLN hPL;have nPg:PL≠g.lv/\PL≠g.pt:=by
   obtain⟨tg,g3,_⟩:=(hg.same s1).pt;exact⟨Z7 (Ah (hg.same s1).lv hPL),Z7 (Ah g3 hPL)⟩
  have nPt:∀{y t:Nat},tl[y]?=some t->t≠PL:=λ{y t} e=>Ah (htl y t e) hPL;have hg2:=(hg.same s1).same s2;have hLN2:=s2 _ _ hLN;have htl2:∀(y:Nat) t,tl[y]?=some t->H2 t=some (.lst (Dc toV (λx=>sxt G n x y) 4)):=λy t e=>s2 _ _ (htl y t e);have sH2:=s1.trans s2;clear hLN htl s1 s2;refine hk2 ?_;refine AS ?_;intro r_k3 s_k3 k3 hk3 E_k3;refine⟨3,rfl,by decide,by decide,?_⟩;let Inv (c:Nat) (ks:List Nat) (G5:Gv) (H5:Hp):Prop:=(∀b o,H2 b=some o->b≠g.lv->b≠g.pt->b≠g.nm->b≠PL->H5 b=some o)/\AD a H5 g G5/\AQ G G5 c/\H5 PL=some (.lst (ks.map toV))/\ks.length=c/\∀(t y:Nat),ks[t]?=some y->Ap G5 y ((l+2:Nat):Int)/\Vw G5 (AW G (l+1+2) n) (l+2) y (2^(l+1)*(t%3)) (2^(l+1)*(t/3));refine CV (n:=3) (λj σ H5=>∃(G5:Gv)(ks:List Nat)(u4 u5 u6:Option V),σ=[some (.ref g.p),some (.int n),some (.ref LN),some (.ref PL),u4,u5,u6]/\Inv (3*j) ks G5 H5) ⟨G,[],none,none,none,rfl,λb o e _ _ _ _=>e,hg2,AQ.refl ok,hP2,rfl,λt y e=>(nomatch e)⟩ ?_ ?_
  ·rintro j σ H5 hj z4_;apply AE;intro G_ hG_;obtain⟨G5,ks,u4,u5,u6,rfl,inv⟩:=z4_;apply hG_;clear hG_ G_;refine⟨3,rfl,by decide,by decide,?_⟩;refine CV (n:=3) (λi σ H6=>∃(G6:Gv)(ks:List Nat)(u5 u6:Option V),σ=[some (.ref g.p),some (.int n),some (.ref LN),some (.ref PL),some (.int (0+(j:Int))),u5,u6]/\Inv (3*j+i) ks G6 H6) ⟨G5,ks,_,_,rfl,inv⟩ ?_ ?_
   ·rintro i σ H6 hi z4_;apply AE;intro G_ hG_;obtain⟨G6,ks,u5,u6,rfl,kp,hg6,go6,hP6,lk,all⟩:=z4_;apply hG_;clear hG_ G_;obtain⟨t0,e0⟩:∃t,tl[j]?=some t:=⟨tl[j]'A1,C6 _⟩
    obtain⟨t1,e1⟩:∃t,tl[j+1]?=some t:=⟨tl[j+1]'A1,C6 _⟩
    have a0:atI (tl.map V.ref) (0+(j:Int))=some (.ref t0):=by rw[V7];exact Am (by rw[B9,e0];rfl)
    have a1:atI (tl.map V.ref) (0+(j:Int)+1)=some (.ref t1):=by rw[show 0+(j:Int)+1=((j+1:Nat):Int) by lia];exact Am (by rw[B9,e1];rfl)
    have l56':∀{b:Addr}{xs:List V},H2 b=some (.lst xs)->xs.length<=50->b≠PL->H6 b=some (.lst xs):=λ{b xs} e lx nb=>by
     obtain⟨tg,g3,g4⟩:=hg2.pt;have lt':tg.length=G.length:=X5 g4;exact kp _ _ e ((Sv.lst lx).nl e hg2.lv (by rw[B6];lia)) ((Sv.lst lx).nl e g3 (by rw[B6];lia)) ((Sv.lst lx).nt e hg2.nm) nb
    have hLN6:=l56' hLN2 (by rw[B6];lia) nPL;have ht0:=l56' (htl2 j t0 e0) (by rw[BT];decide) (nPt e0);have ht1:=l56' (htl2 (j+1) t1 e1) (by rw[BT];decide) (nPt e1);refine AS ?_;intro r_k4 s_k4 k4 hk4 E_k4;refine xwj rfl rfl rfl rfl (SqL.of hLN6) a0 (xw3 rfl rfl rfl (xq2 rfl rfl (xq1 rfl ⟨t0,(xq1 rfl ⟨SqL.of ht0,λC1 hC1=>?_⟩)⟩)));rw[cut2 A1];generalize bH:upd H6 C1 _=H7;obtain⟨s1,h1⟩:=alc hC1 bH;refine xw2 rfl rfl (xq2 rfl rfl (xq4 rfl rfl (SqL.of (s1 _ _ hLN6)) a1 (xw3 rfl rfl rfl (xq2 rfl rfl (xq1 rfl ⟨t1,(xq1 rfl ⟨SqL.of (s1 _ _ ht1),λC2 hC2=>?_⟩)⟩)))));rw[cut2 A1];generalize cC:upd H7 C2 _=H8;obtain⟨s2,h2⟩:=alc hC2 cC;refine⟨C1,C2,(xq2 rfl rfl ⟨s2 _ _ h1,h2,(by show 4<=sizeLine;decide),λC3 hC3=>?_⟩)⟩;show k4 _ (upd H8 C3 (.lst ([toV (sxt G n i j),toV (sxt G n (i+1) j)]++[toV (sxt G n i (j+1)),toV (sxt G n (i+1) (j+1))])));generalize cM:upd H8 C3 _=H9;obtain⟨s3,h3⟩:=alc (o:=(.lst [toV (sxt G n i j),toV (sxt G n (i+1) j),toV (sxt G n i (j+1)),toV (sxt G n (i+1) (j+1))])) hC3 cM;have s69:=(s1.trans s2).trans s3;have hg9:=hg6.same s69;have hP9:=s69 _ _ hP6;clear h1 h2 s1 s2 s3;refine hk4 ?_;obtain⟨lv00,v00⟩:=kn i j A1 A1;obtain⟨lv10,v10⟩:=kn (i+1) j A1 A1;obtain⟨lv01,v01⟩:=kn i (j+1) A1 A1;obtain⟨lv11,v11⟩:=kn (i+1) (j+1) A1 A1;have gf6:=go6.few;refine xq1 rfl ⟨.inl ⟨rfl,_,SqL.of hP9⟩,(xwn rfl rfl hg9.hp (Lj g) rfl (xq4 rfl rfl (SqL.of h3) (Am (j:=0) rfl) (xwi rfl rfl rfl (SqL.of h3) (Am (j:=1) rfl) (xwi rfl rfl rfl (SqL.of h3) (Am (j:=2) rfl) (xwi rfl rfl rfl (SqL.of h3) (Am (j:=3) rfl) ?_)))))⟩;refine⟨g,G6,_,_,_,_,((l+1:Nat):Int),rfl,hg9,go6.ok,⟨go6.lev lv00,go6.lev lv10,go6.lev lv01,go6.lev lv11⟩,by lia,by lia,λy G7 H10 fr hg10 go7 e7=>?_⟩;have hP10:H10 PL=some (.lst (ks.map toV)):=fr.kps hg9 (D4 l56 go6.le) _ _ hP9 (.lst (by rw[B6,lk];lia));refine⟨PL,(xq2 rfl rfl ⟨hP10,by rw[B6,lk];exact E5 (show 3*j+i<=9 by lia) A3,?_⟩)⟩;have vk:=EM go6.ok go7 (go6.lev lv00) (go6.lev lv10) (go6.lev lv01) (go6.lev lv11) (v00.goes ok go6 lv00) ((v10.goes ok go6 lv10).at' (by rw[O2]) rfl) ((v01.goes ok go6 lv01).at' rfl (by rw[O2])) ((v11.goes ok go6 lv11).at' (by rw[O2]) (by rw[O2])) e7;refine⟨G7,ks++[y],_,_,rfl,λb o e n1 n2 n3 n4=>?_,?_,(go6.trans go7).mono (C8 _),by rw[Af,C0];rfl,by rw[B8,lk];rfl,λt z e=>?_⟩
    ·rw[Ao n4];exact fr _ _ (s69 _ _ (kp _ _ e n1 n2 n3 n4)) n1 n2 n3
    ·exact hg10.put hP10 nPg.1 nPg.2
    ·by_cases ht:t<ks.length
     ·rw[F6 ht]at e;obtain⟨b1,b2⟩:=all t z e;exact⟨go7.lev b1,b2.goes go6.ok go7 b1⟩
     ·have:t-ks.length<1:=by
       rw[E3 A1]at e;exact(B7.mp e).1
      obtain rfl:t=3*j+i:=by lia
      rw[E3 A1,lk,N7]at e;cases e;refine⟨⟨_,e7,by show((l+1:Nat):Int)+1=((l+2:Nat):Int);lia⟩,vk.at' ?_ ?_⟩
      ·rw[show(3*j+i)%3=i by lia]
      ·rw[show(3*j+i)/3=j by lia]
   ·rintro σ H6 z2_;apply AE;intro G_ hG_;obtain⟨G6,ks,u5,u6,rfl,inv⟩:=z2_;apply hG_;clear hG_ G_;exact⟨G6,ks,_,_,_,rfl,inv⟩
  ·rintro σ H5 z2_;apply AE;intro G_ hG_;obtain⟨G5,ks,u4,u5,u6,rfl,kp,hg5,go5,hP5,lk,all⟩:=z2_;apply hG_;clear hG_ G_;refine hk3 ?_;refine xq1 rfl (k PL ks G5 H5 (λb o e n1 n2 n3=>kp _ _ (sH2 _ _ e) n1 n2 n3 (nP0 e)) (λx o e=>nP0 e) hg5 go5 hP5 ⟨lk,λi j hi hj=>?_⟩);have ht:i+3*j<ks.length:=by rw[lk];lia
   refine⟨ks[i+3*j],C6 ht,?_⟩;obtain⟨h1,h2⟩:=all _ _ (C6 ht);refine⟨h1,?_⟩;rw[BM ok go5 hl];refine h2.at' ?_ ?_
   ·rw[L9,show(i+3*j)%3=i by lia]
   ·rw[L9,show(i+3*j)/3=j by lia]
end
theorem cut3{α:Type}{v:α->V}{f:Nat->α}{W x:Nat}(h:x+3<=W):Nt (Dc v f W) (some (((x+1:Nat):Int)-1)) (some (((x+1:Nat):Int)+2))=[v (f x),v (f (x+1)),v (f (x+2))]:=by
 rw[show((x+1:Nat):Int)-1=(x:Int) by lia,show((x+1:Nat):Int)+2=((x+3:Nat):Int) by lia,Qj h];show [v (f (0+x)),v (f (1+x)),v (f (2+x))]=_;rw[L9,V5 1 x,V5 2 x]
theorem sxt_cel{G:Gv}(ok:GOk G){n:Nat}(h:Ap G n ((0+2:Nat):Int)){x y:Nat}(hx:x<4)(hy:y<4):((sxt G n x y:Nat):Int)=AW G 2 n x y/\Ap G (sxt G n x y) 0:=by
 obtain⟨h1,h2⟩:=UQ ok (l:=0) h x y hx hy;have:=h2 0 0 A3 A3;rw[show 0+2^0*x=x by lia,show 0+2^0*y=y by lia]at this;exact⟨this,h1⟩
theorem VW{r:AA}{G:Gv}{n m:Nat}(h:JR r G 0 n m)(hl:Ap G n ((0+2:Nat):Int)){X Y:Nat}(hX:X<2)(hY:Y<2):((qO G m (X+2*Y):Nat):Int)=Dw r (AW G 2 n (X+1) (Y+1)) [AW G 2 n X Y,AW G 2 n (X+1) Y,AW G 2 n (X+2) Y,AW G 2 n X (Y+1),AW G 2 n (X+2) (Y+1),AW G 2 n X (Y+2),AW G 2 n (X+1) (Y+2),AW G 2 n (X+2) (Y+2)]/\Ap G m ((0+1:Nat):Int):=by
 apply AE;intro G_ hG_;obtain⟨l,h1,_,h3,h4⟩:=h;apply hG_;clear hG_ G_;have:l=0:=by
  have:=h1.one hl;lia
 subst this;refine⟨?_,h3⟩;have e:=h4 X Y hX hY;have e1:AW G (0+1) m X Y=((qO G m (X+2*Y):Nat):Int):=by
  show((qO G m (X/2^0%2+2*(Y/2^0%2)):Nat):Int)=_;rw[show X/2^0%2=X by lia,show Y/2^0%2=Y by lia]
 rw[<-e1,e];rfl
section
variable{P:Program}{w:World}{K:PySem.W.Frag}{mg:Str->Option Value}{base:Heap}{a:Ad}
inductive SpBr(a:Ad)(vs:List V)(H:Hp)(Q:VK):Prop
 |mk (g:GA) (G:Gv) (cq:Addr) (rl:List LC4) (n m:Nat) (_:vs=[.ref g.p,.ref cq,.int n,.int m]) (_:AD a H g G) (_:GOk G) (_:Ap G n ((0+2:Nat):Int)) (_:FK H cq rl) (_:Mb rl) (_:JR (rl.map LC4.a) G 0 n m) (_:∀H',Av H H'->Q (.bl true) H'):SpBr a vs H Q
def spBr(a:Ad):Sp:=λvs H Q _=>SpBr a vs H Q
theorem ok_br{f:Addr}{fd:FuncData}(F:Fun K "_law_by_rule" "_law_by_rule" DD f fd)(T:Top K mg a)(b6:Cal P w K mg base CX0 5 "_law_lines" EH (spLi a))(aL:BJ P w K mg base CX0 4 a.c_Grove "state_of" CT (Sm a))(aB:BJ P w K mg base CX0 4 a.c_Grove "quarters" Cl (PZ a))(aS:Cal P w K mg base CX0 2 "_law_becomes" DO SA)(aX:Cal P w K mg base CX0 1 "_law_same" FH OI):AR P w K mg base CX0 6 f fd Fj (spBr a):=by
 refine F.ok AX (λvs H Q E h=>?_) (λcdv A outer s H vs Q E hr h=>?_)
 ·apply AE;intro G_ hG_;obtain⟨g,G,cq,rl,n,m,rfl,_⟩:=h;apply hG_;clear hG_ G_;rfl
 ·apply AE;intro G_ hG_;obtain⟨g,G,cq,rl,n,m,rfl,hg,ok,hl,hq,rok,jr,k⟩:=h;apply hG_;clear hG_ G_;refine⟨_,(Ac (Ax (i:=4) AX.nd rfl (Or.inl rfl) (Bn Ab)) (Ac (BE X6 rfl (Bc (Az b6 (rm hr) rfl Aq (Aa (pv 0) (Aa (pv 2) Ab)))) (AL (i:=5) AX.nd rfl (Or.inl rfl)) (Ag (AZ (Ce Z8 Z9 X4 Ba (pv 4) (Aa (BL rfl (Bk.of (So:=Ak DD) (No:=Iv) (N:=["_law_one","_law_grove"]) (k:=1) (cs:=[0]) rfl rfl A0) (Bc (pv 5)) (λ_ _ _=>(AV (i:=0) A0 rfl rfl)) (λ_ _ _=>Bp) (λ_ _ _=>(Ay (pv 1) aL (rm hr) Aq (Aa (pv 0) Ab)))) Ab))))) (Ac (Ax (i:=6) AX.nd rfl (Or.inl rfl) (Ay (pv 0) aB (rm hr) Aq (Aa (pv 3) Ab))) (Ac (BE X6 rfl (BR rfl T.b_range (AH Ab)) (AL (i:=7) AX.nd rfl (Or.inl rfl)) (Ac (Ax (i:=8) AX.nd rfl (Or.inl rfl) (AK Bo Ae (AK BU (pv 7) Ae))) (Ac (Ax (i:=9) AX.nd rfl (Or.inl rfl) (AK Bo Ae (AK IQ (pv 7) Ae))) (Ac (Ax (i:=10) AX.nd rfl (Or.inl rfl) (Al Ar (pv 4) (pv 9) (λ_ _=>rfl))) (Ac (Ax (i:=11) AX.nd rfl (Or.inl rfl) (AK Li (Gi IL (Al Ar (pv 4) (AK Cd (pv 9) Ae) (λ_ _=>rfl)) (DJ (AK Cd (pv 8) Ae)) (DJ (AK Bo (pv 8) Ae))) (Bn (Aa (Al Ar (pv 10) (AK Cd (pv 8) Ae) (λ_ _=>rfl)) (Aa (Al Ar (pv 10) (AK Bo (pv 8) Ae) (λ_ _=>rfl)) Ab))))) (Ac (Ax (i:=11) AX.nd rfl (Or.inl rfl) (AK Li (pv 11) (Gi IL (Al Ar (pv 4) (AK Bo (pv 9) Ae) (λ_ _=>rfl)) (DJ (AK Cd (pv 8) Ae)) (DJ (AK Bo (pv 8) Ae))))) (Ac (Ax (i:=12) AX.nd rfl (Or.inl rfl) (Az aS (rm hr) rfl Aq (Aa (pv 1) (Aa (Al Ar (pv 10) (pv 8) (λ_ _=>rfl)) (Aa (pv 11) Ab))))) (Ag (AU (CK (CD (Az aX (rm hr) rfl Aq (Aa (Ay (pv 0) aL (rm hr) Aq (Aa (Al An (pv 6) (pv 7) (λ_ _=>rfl)) Ab)) (Aa (pv 12) Ab))))) (Ag (Au CH)) AF))))))))) (Ag (Au CH)))))),?_⟩
  try dsimp only[cxK]
  refine AS ?_;intro r_k1 s_k1 k1 hk1 E_k1;refine⟨(by show 0<=sizeLine;decide),λLH hLH=>?_⟩;generalize bH:upd H LH _=H1;obtain⟨s1,hL1⟩:=alc hLH bH;refine hk1 ?_;refine AS ?_;intro r_k2 s_k2 k2 hk2 E_k2;refine xw2 rfl rfl ⟨g,G,n,0,rfl,hg.same s1,ok,hl,λLN H2 s2 ⟨tl,hLN,ltl,htl⟩=>⟨LN,rfl,⟨_,SqL.of hLN⟩,?_⟩⟩;have s02:=s1.trans s2;have hL2:=s2 _ _ hL1;have nLN:LN≠LH:=λz=>by
   rw[z,hL2]at hLN;injection hLN with e
   injection e with e
   have:=X8 List.length e;rw[B6,ltl]at this;cases this
  have nTL:∀{y t:Nat},tl[y]?=some t->t≠LH:=λ{y t} e z=>by
   have e2:=htl y t e;rw[z,hL2]at e2;injection e2 with e2
   injection e2 with e2
   have:=X8 List.length e2;rw[BT]at this;cases this
  refine Cw (xs:=tl.map V.ref) (λi σ Hy=>∃(ts:List Addr)(u5 u6 u7 u8 u9 u10 u11 u12:Option V),σ=[some (.ref g.p),some (.ref cq),some (.int n),some (.int m),some (.ref LH),u5,u6,u7,u8,u9,u10,u11,u12]/\(∀b o,H2 b=some o->b≠LH->Hy b=some o)/\Hy LH=some (.lst (ts.map V.ref))/\ts.length=i/\∀(y:Nat) t,ts[y]?=some t->t≠LH/\Hy t=some (.lst (Dc V.int (λx=>AW G 2 n x y) 4))) ⟨[],_,_,_,_,_,_,_,_,rfl,λb o e _=>e,hL2,rfl,λy t e=>(nomatch e)⟩ (λi σ Hy _ z=>by obtain⟨_,_,_,_,_,_,_,_,_,_,kp,_⟩:=z;exact SqL.of (kp _ _ hLN nLN)) ?_ ?_
  ·rintro i v σ Hy ev z5_;apply AE;intro G_ hG_;obtain⟨ts,u5,u6,u7,u8,u9,u10,u11,u12,rfl,kp,hLy,lt,rowsy⟩:=z5_;apply hG_;clear hG_ G_;rw[B9]at ev;obtain⟨t,et,rfl⟩:=D5.mp ev;have i4:i<4:=by have:=(B7.mp et).1;lia
   have hty:=kp _ _ (htl i t et) (nTL et);have hgy:AD a Hy g G:=by
    obtain⟨tg,g3,g4⟩:=hg.pt;have kk:∀{b o},H b=some o->Hy b=some o:=λ{b o} e=>kp _ _ (s02 _ _ e) (Ah e hLH);exact⟨kk hg.hp,kk hg.lv,⟨tg,kk g3,PairedM.imp (λt q z=>kk z) g4⟩,kk hg.nm,hg.ne⟩
   refine xq1 rfl ⟨.inl ⟨rfl,_,SqL.of hLy⟩,(xq1 rfl ⟨t,rfl,⟨_,SqL.of hty⟩,?_⟩)⟩;refine BP (xs:=Dc toV (λx=>sxt G n x i) 4) (λj acc H5=>Hy=H5/\acc=Dc V.int (λx=>AW G 2 n x i) j) ⟨rfl,rfl⟩ (λj acc H5 _ z=>z.1▸SqL.of hty) ?_ ?_
   ·rintro j v acc H5 ev ⟨rfl,rfl⟩;have j4:j<4:=by have:=(B7.mp ev).1;rw[BT]at this;exact this
    rw[Gh j4]at ev;cases ev;apply AE;intro G_ hG_;obtain⟨c1,q,c2,c3⟩:=sxt_cel ok hl j4 i4;apply hG_;clear hG_ G_;refine⟨⟨[some (toV (sxt G n j i))],rfl,rfl⟩,by rw[BT];exact M7 j4 A3,Eu (xwn rfl rfl hgy.hp (Jp g) rfl ⟨g,G,sxt G n j i,q,rfl,hgy,c2,c3,rfl,?_⟩)⟩;rw[Ob,<-c1]
   ·rintro acc H5 ⟨rfl,rfl⟩ R hR;rw[BT];generalize cF:upd Hy R _=H5;obtain⟨s5,h5⟩:=alc hR cF;have nR:R≠LH:=λz=>by rw[z,hLy]at hR;cases hR
    refine⟨LH,(xq2 rfl rfl ⟨s5 _ _ hLy,by rw[B6,lt];exact M7 i4 A3,?_⟩)⟩;have all:∀{b o},H5 b=some o->b≠LH->upd H5 LH (.lst (ts.map V.ref++[.ref R])) b=some o:=λ{b o} e nb=>by rw[Ao nb];exact e
    refine⟨ts++[R],_,_,_,_,_,_,_,_,rfl,λb o e nb=>all (s5 _ _ (kp _ _ e nb)) nb,by rw[Af,C0];rfl,by rw[B8,lt];rfl,λy t' e=>?_⟩;by_cases hy:y<ts.length
    ·rw[F6 hy]at e;obtain⟨b1,b2⟩:=rowsy y t' e;exact⟨b1,all (s5 _ _ b2) b1⟩
    ·have:y-ts.length<1:=by
      rw[E3 A1]at e;exact(B7.mp e).1
     obtain rfl:y=i:=by lia
     rw[E3 A1,lt,N7]at e;cases e;exact⟨nR,all h5 nR⟩
  ·rintro σ Hy z2_;apply AE;intro G_ hG_;obtain⟨ts,u5,u6,u7,u8,u9,u10,u11,u12,rfl,kp,hLy,lt,rowsy⟩:=z2_;apply hG_;clear hG_ G_;rw[B6,ltl]at lt;have sy:Av H Hy:=λb o e=>kp _ _ (s02 _ _ e) (Ah e hLH);have rowsy:∀(y:Nat) t,ts[y]?=some t->Hy t=some (.lst (Dc V.int (λx=>AW G 2 n x y) 4)):=λy t e=>(rowsy y t e).2;have lm:Ap G m ((0+1:Nat):Int):=(VW jr hl (X:=0) (Y:=0) A3 A3).2;clear kp s02 hLN htl nTL nLN hL2 s2 hL1 s1 hLH;refine hk2 ?_;refine AS ?_;intro r_k3 s_k3 k3 hk3 E_k3;refine xq1 rfl ⟨g.p,g.dx,_,rfl,(hg.same sy).hp,Cm g,_,rfl,g,G,m,_,rfl,hg.same sy,ok.fourq (l:=0) lm,by show((0+1:Nat):Int)≠0;decide,λtf htf=>?_⟩;refine hk3 ?_;refine AS ?_;intro r_k4 s_k4 k4 hk4 E_k4;refine⟨4,rfl,by decide,by decide,?_⟩;refine CV (n:=4) (λi σ Hz=>∃(u7 u8 u9 u10 u11 u12:Option V),σ=[some (.ref g.p),some (.ref cq),some (.int n),some (.int m),some (.ref LH),u5,some (.ref tf),u7,u8,u9,u10,u11,u12]/\Av Hy Hz) ⟨_,_,_,_,_,_,rfl,Av.refl Hy⟩ ?_ ?_
   ·rintro i σ Hz hi z4_;apply AE;intro G_ hG_;obtain⟨u7,u8,u9,u10,u11,u12,rfl,sz⟩:=z4_;apply hG_;clear hG_ G_;have y1_:∃X Y:Nat,X<2/\Y<2/\i=X+2*Y:=⟨i%2,i/2,by lia,by lia,by lia⟩
    apply AE;intro G_ hG_;obtain⟨X,Y,hX,hY,ei⟩:=y1_;apply hG_;clear hG_ G_;have ex:1+(0+(i:Int))%2=((X+1:Nat):Int):=by lia
    have ey:1+(0+(i:Int))/2=((Y+1:Nat):Int):=by lia
    obtain⟨due,lvm⟩:=VW jr hl hX hY;obtain⟨t0,e0⟩:∃t,ts[Y]?=some t:=⟨ts[Y]'A1,C6 _⟩
    obtain⟨t1,e1⟩:∃t,ts[Y+1]?=some t:=⟨ts[Y+1]'A1,C6 _⟩
    obtain⟨t2,e2⟩:∃t,ts[Y+2]?=some t:=⟨ts[Y+2]'A1,C6 _⟩
    have a0:atI (ts.map V.ref) (((Y+1:Nat):Int)-1)=some (.ref t0):=by rw[show((Y+1:Nat):Int)-1=(Y:Int) by lia];exact Am (by rw[B9,e0];rfl)
    have a1:atI (ts.map V.ref) ((Y+1:Nat):Int)=some (.ref t1):=Am (by rw[B9,e1];rfl);have a2:atI (ts.map V.ref) (((Y+1:Nat):Int)+1)=some (.ref t2):=by rw[show((Y+1:Nat):Int)+1=((Y+2:Nat):Int) by lia];exact Am (by rw[B9,e2];rfl)
    have b0:atI (Dc V.int (λx=>AW G 2 n x (Y+1)) 4) (((X+1:Nat):Int)-1)=some (.int (AW G 2 n X (Y+1))):=by rw[show((X+1:Nat):Int)-1=(X:Int) by lia];exact IN A1
    have b1:atI (Dc V.int (λx=>AW G 2 n x (Y+1)) 4) ((X+1:Nat):Int)=some (.int (AW G 2 n (X+1) (Y+1))):=IN A1;have b2:atI (Dc V.int (λx=>AW G 2 n x (Y+1)) 4) (((X+1:Nat):Int)+1)=some (.int (AW G 2 n (X+2) (Y+1))):=by rw[show((X+1:Nat):Int)+1=((X+2:Nat):Int) by lia];exact IN A1
    refine AS ?_;intro r_k5 s_k5 k5 hk5 E_k5;refine xwb rfl rfl rfl ⟨(by show(0:Int)<2;decide),(xq2 rfl rfl ?_)⟩;show k5 [some (.ref g.p),some (.ref cq),some (.int n),some (.int m),some (.ref LH),u5,some (.ref tf),some (.int (0+(i:Int))),some (.int (1+(0+(i:Int))%2)),u9,u10,u11,u12] Hz;rw[ex];refine hk5 ?_;refine AS ?_;intro r_k6 s_k6 k6 hk6 E_k6;refine xwb rfl rfl rfl ⟨⟨by decide,by decide⟩,(xq2 rfl rfl ?_)⟩;show k6 [some (.ref g.p),some (.ref cq),some (.int n),some (.int m),some (.ref LH),u5,some (.ref tf),some (.int (0+(i:Int))),some (.int ((X+1:Nat):Int)),some (.int (1+(0+(i:Int))/2)),u10,u11,u12] Hz;rw[ey];refine hk6 ?_;refine AS ?_;intro r_k7 s_k7 k7 hk7 E_k7;refine xwj rfl rfl rfl rfl (SqL.of (sz _ _ hLy)) a1 ?_;refine hk7 ?_;refine AS ?_;intro r_k8 s_k8 k8 hk8 E_k8;refine xw2 rfl rfl (xq2 rfl rfl (xq4 rfl rfl (SqL.of (sz _ _ hLy)) a0 (xwb rfl rfl rfl (xw2 rfl rfl (xq2 rfl rfl (xq1 rfl ⟨t0,(xq1 rfl ⟨SqL.of (sz _ _ (rowsy _ _ e0)),λC1 hC1=>?_⟩)⟩))))));rw[cut3 A1];generalize bH:upd Hz C1 _=H1;obtain⟨s1,h1⟩:=alc hC1 bH;have z1:=sz.trans s1;refine xw2 rfl rfl (xq2 rfl rfl (xq4 rfl rfl (SqL.of (z1 _ _ (rowsy _ _ e1))) b0 (xw2 rfl rfl (xq2 rfl rfl (xq4 rfl rfl (SqL.of (z1 _ _ (rowsy _ _ e1))) b2 ⟨(by show 2<=sizeLine;decide),λC2 hC2=>?_⟩)))));generalize cC:upd H1 C2 _=H3;obtain⟨s2,h2⟩:=alc hC2 cC;refine⟨C1,C2,(xq2 rfl rfl ⟨s2 _ _ h1,h2,(by show 5<=sizeLine;decide),λC3 hC3=>?_⟩)⟩;show k8 _ (upd H3 C3 (.lst ([.int (AW G 2 n X Y),.int (AW G 2 n (X+1) Y),.int (AW G 2 n (X+2) Y)]++[.int (AW G 2 n X (Y+1)),.int (AW G 2 n (X+2) (Y+1))])));generalize cM:upd H3 C3 _=H4;obtain⟨s3,h3⟩:=alc (o:=(.lst [.int (AW G 2 n X Y),.int (AW G 2 n (X+1) Y),.int (AW G 2 n (X+2) Y),.int (AW G 2 n X (Y+1)),.int (AW G 2 n (X+2) (Y+1))])) hC3 cM;have z4:=(z1.trans s2).trans s3;clear h1 h2 s1 s2 s3 z1;refine hk8 ?_;refine AS ?_;intro r_k9 s_k9 k9 hk9 E_k9;refine xw3 rfl rfl rfl (xq2 rfl rfl (xq4 rfl rfl (SqL.of (z4 _ _ hLy)) a2 (xwb rfl rfl rfl (xw2 rfl rfl (xq2 rfl rfl (xq1 rfl ⟨t2,(xq1 rfl ⟨SqL.of (z4 _ _ (rowsy _ _ e2)),λC4 hC4=>?_⟩)⟩))))));rw[cut3 A1];generalize cF:upd H4 C4 _=H5;obtain⟨s5,h5⟩:=alc hC4 cF;refine⟨C3,C4,(xq2 rfl rfl ⟨s5 _ _ h3,h5,(by show 8<=sizeLine;decide),λC5 hC5=>?_⟩)⟩;show k9 _ (upd H5 C5 (.lst ([.int (AW G 2 n X Y),.int (AW G 2 n (X+1) Y),.int (AW G 2 n (X+2) Y),.int (AW G 2 n X (Y+1)),.int (AW G 2 n (X+2) (Y+1))]++[.int (AW G 2 n X (Y+2)),.int (AW G 2 n (X+1) (Y+2)),.int (AW G 2 n (X+2) (Y+2))])));generalize cL:upd H5 C5 _=H6;obtain⟨s6,h6⟩:=alc (o:=(.lst ([AW G 2 n X Y,AW G 2 n (X+1) Y,AW G 2 n (X+2) Y,AW G 2 n X (Y+1),AW G 2 n (X+2) (Y+1),AW G 2 n X (Y+2),AW G 2 n (X+1) (Y+2),AW G 2 n (X+2) (Y+2)].map V.int))) hC5 cL;have z6:=(z4.trans s5).trans s6;clear h3 h5 s5 s6 z4;refine hk9 ?_;refine AS ?_;intro r_k10 s_k10 k10 hk10 E_k10;refine xw3 rfl rfl rfl (xq4 rfl rfl (SqL.of (z6 _ _ (rowsy _ _ e1))) b1 (xq1 rfl ⟨cq,C5,rl,_,_,rfl,hq.same (sy.trans z6),rok,h6,rfl,λH7 s7=>?_⟩));have z7:=z6.trans s7;have hg7:=hg.same (sy.trans z7);refine hk10 ?_;rw[<-due,<-ei];have qi:atI ([(qO G m 0:Int),(qO G m 1:Int),(qO G m 2:Int),(qO G m 3:Int)].map V.int) (0+(i:Int))=some (.int (qO G m i:Int)):=by
     rw[V7]
     match i,hi with
     |0,_=>rfl
     |1,_=>rfl
     |2,_=>rfl
     |3,_=>rfl
    obtain⟨qq,f1,f2⟩:=DI ok (l:=0) lvm hi;refine xq1 rfl (xq3 rfl hg7.hp (Jp g) (xq1 rfl (xq1 rfl (xq4 rfl rfl (SqT.of (z7 _ _ htf)) qi ⟨g,G,qO G m i,qq,rfl,hg7,f1,f2,_,rfl,_,rfl,true,rfl,Bq ⟨_,_,_,_,_,_,rfl,z7⟩⟩))))
   ·rintro σ Hz z2_;apply AE;intro G_ hG_;obtain⟨u7,u8,u9,u10,u11,u12,rfl,sz⟩:=z2_;apply hG_;clear hG_ G_;refine hk4 ?_;exact k Hz (sy.trans sz)
end
end J
namespace J
open PySem L2
theorem RL{r:AA}{G:Gv}(ok:GOk G){e n m l:Nat}(h:JR r G e n m)(hl:Ap G n ((l+1+2:Nat):Int)):Ap G m ((l+1+1:Nat):Int)/\∀i j,i<2->j<2->Ap G (qO G m (i+2*j)) ((l+1:Nat):Int)/\Vw G (BH r (2^e) (AW G (l+1+2) n)) (l+1) (qO G m (i+2*j)) (2^(l+1)+2^(l+1)*i) (2^(l+1)+2^(l+1)*j):=by
 obtain⟨lm,_,v⟩:=h.view (l:=l+1) hl (c:=AW G (l+1+2) n) (X:=0) (Y:=0) λx y _ _=>rfl;refine⟨lm,λi j hi hj=>⟨DI ok lm A1,?_⟩⟩;exact(v.q hi hj).at' (by rw[L9]) (by rw[L9])
theorem up_eq{r:AA}{G:Gv}(ok:GOk G){n m l f v i j:Nat}(h:JR r G (l+1) n m)(hl:Ap G n ((l+1+2:Nat):Int))(hi:i<2)(hj:j<2)(lf:Ap G f ((l+2:Nat):Int))(vf:Vw G (BH r (2^l) (AW G (l+1+2) n)) (l+2) f (2^l+2^(l+1)*i) (2^l+2^(l+1)*j))(hv:JR r G l f v):v=qO G m (i+2*j):=by
 obtain⟨lq,vq⟩:=(RL ok h hl).2 i j hi hj;obtain⟨lv,_,vv⟩:=hv.view lf vf;have e2:2^(l+1)=2^l+2^l:=by rw[L6];lia
 rw[<-Mr,<-e2]at vv;exact Vw.one ok lv lq (vv.at' A1 A1) vq
theorem nine_q{G:Gv}(ok:GOk G){c:Nat->Nat->Int}{l i j y p q:Nat}(ly:Ap G y ((l+1:Nat):Int))(vy:Vw G c (l+1) y (2^(l+1)*i+2^l) (2^(l+1)*j+2^l))(hp:p<2)(hq:q<2):Ap G (qO G y (p+2*q)) (l:Int)/\Vw G c l (qO G y (p+2*q)) (2^(l+1)*i+2^l+2^l*p) (2^(l+1)*j+2^l+2^l*q):=⟨DI ok ly A1,vy.q hp hq⟩
theorem lo_four{r:AA}{G:Gv}(ok:GOk G){e n m l:Nat}{ys:List Nat}(h:JR r G e n m)(hl:Ap G n ((l+1+2:Nat):Int))(nn:Nine G (BH r (2^e) (AW G (l+1+2) n)) (l+1) (2^l) ys){i j:Nat}(hi:i<2)(hj:j<2):∃a b c d,ys[i+3*j]?=some a/\ys[i+1+3*j]?=some b/\ys[i+3*(j+1)]?=some c/\ys[i+1+3*(j+1)]?=some d/\(Ap G a ((l+1:Nat):Int)/\Ap G b ((l+1:Nat):Int)/\Ap G c ((l+1:Nat):Int)/\Ap G d ((l+1:Nat):Int))/\qO G a 3=qO G (qO G m (i+2*j)) 0/\qO G b 2=qO G (qO G m (i+2*j)) 1/\qO G c 1=qO G (qO G m (i+2*j)) 2/\qO G d 0=qO G (qO G m (i+2*j)) 3:=by
 obtain⟨lq,vq⟩:=(RL ok h hl).2 i j hi hj;obtain⟨a,ea,la,va⟩:=nn i j A1 A1;obtain⟨b,eb,lb,vb⟩:=nn (i+1) j A1 A1;obtain⟨c,ec,lc,vc⟩:=nn i (j+1) A1 A1;obtain⟨d,ed,ld,vd⟩:=nn (i+1) (j+1) A1 A1;have e2:2^(l+1)=2^l+2^l:=by rw[L6];lia
 have one:∀{y p q s t i' j':Nat},Ap G y ((l+1:Nat):Int)->Vw G (BH r (2^e) (AW G (l+1+2) n)) (l+1) y (2^(l+1)*i'+2^l) (2^(l+1)*j'+2^l)->p<2->q<2->s<2->t<2->i'=i+s->j'=j+t->p+s=1->q+t=1->qO G y (p+2*q)=qO G (qO G m (i+2*j)) (s+2*t):=λ{y p q s t i' j'} ly vy hp hq hs ht ei ej ep eq=>by
  obtain⟨l1,v1⟩:=nine_q ok ly vy hp hq;refine Vw.one ok l1 (DI ok lq A1) v1 ((vq.q hs ht).at' ?_ ?_)
  ·subst ei;rw[e2,Nat.mul_add,show p=1-s by lia]
   match s,hs with
   |0,_=>lia
   |1,_=>lia
  ·subst ej;rw[e2,Nat.mul_add,show q=1-t by lia]
   match t,ht with
   |0,_=>lia
   |1,_=>lia
 exact⟨a,b,c,d,ea,eb,ec,ed,⟨la,lb,lc,ld⟩,one (p:=1) (q:=1) (s:=0) (t:=0) la va A3 A3 A3 A3 rfl rfl rfl rfl,one (p:=0) (q:=1) (s:=1) (t:=0) lb vb A3 A3 A3 A3 rfl rfl rfl rfl,one (p:=1) (q:=0) (s:=0) (t:=1) lc vc A3 A3 A3 A3 rfl rfl rfl rfl,one (p:=0) (q:=0) (s:=1) (t:=1) ld vd A3 A3 A3 A3 rfl rfl rfl rfl⟩
theorem up_four{G G':Gv}(ok:GOk G){x:Nat}(go:AQ G G' x){c:Nat->Nat->Int}{l:Nat}{ys:List Nat}(nn:Nine G c (l+1) (2^l) ys){i j a b p d f:Nat}{L:Int}(hi:i<2)(hj:j<2)(ea:ys[i+3*j]?=some a)(eb:ys[i+1+3*j]?=some b)(ep:ys[i+3*(j+1)]?=some p)(ed:ys[i+1+3*(j+1)]?=some d)(e:G'[f]?=some ⟨[(a:Int),(b:Int),(p:Int),(d:Int)],L⟩):Vw G' c (l+2) f (2^l+2^(l+1)*i) (2^l+2^(l+1)*j):=by
 obtain⟨a',ea',la,va⟩:=nn i j A1 A1;obtain⟨b',eb',lb,vb⟩:=nn (i+1) j A1 A1;obtain⟨c',ec',lc,vc⟩:=nn i (j+1) A1 A1;obtain⟨d',ed',ld,vd⟩:=nn (i+1) (j+1) A1 A1;rw[ea]at ea';rw[eb]at eb';rw[ep]at ec';rw[ed]at ed';cases ea';cases eb';cases ec';cases ed';exact EM ok go la lb lc ld (va.at' A1 A1) (vb.at' (by rw[O2];lia) A1) (vc.at' A1 (by rw[O2];lia)) (vd.at' (by rw[O2];lia) (by rw[O2];lia)) e
theorem MK{rows:List T3}:∀{ws:List (Nat×Nat)},(∀d∈ws,d∈rows.map T3.key)->∃qs:List T3,qs.map T3.key=ws/\∀q∈qs,q∈rows
 |[],_=>⟨[],rfl,λq hq=>(nomatch hq)⟩
 |d::ws,h=>by
  obtain⟨q,hq,e⟩:=E4.mp (h d (D8 ..));obtain⟨qs,e2,h2⟩:=MK (ws:=ws) λx hx=>h x (E1 _ hx);refine⟨q::qs,by rw[F0,e,e2],λx hx=>?_⟩;rcases D6.mp hx with rfl|hx
  ·exact hq
  ·exact h2 x hx
theorem Pp{r:AA}{G:Gv}{e:Nat}:∀{ks:List Nat}{qs:List T3},qs.map T3.key=ks.map (λk=>(k,e))->(∀q∈qs,JR r G q.e q.n q.m)->Paired (λk y=>JR r G e k y) ks (qs.map T3.m)
 |[],[],_,_=>.nil
 |[],_::_,h,_=>by cases h
 |_::_,[],h,_=>by cases h
 |k::ks,q::qs,h,j=>by
  rw[F0,F0]at h;injection h with h1 h2
  have hq:=j q (D8 ..);have en:q.n=k:=X8 Prod.fst h1;have ee:q.e=e:=X8 Prod.snd h1;rw[en,ee]at hq;exact .cons hq (Pp h2 λx hx=>j x (E1 _ hx))
seal L2.PA L2.PE L2.PS L2.PSs L2.PT L2.PW
def FrD(g:GA)(U:Addr)(H H':Hp):Prop:=∀b o,H b=some o->b≠g.lv->b≠g.pt->b≠g.nm->b≠U->H' b=some o
theorem Fr.d{g:GA}{U:Addr}{H H':Hp}(f:Fr g H H'):FrD g U H H':=λb o e n1 n2 n3 _=>f b o e n1 n2 n3
theorem FrU.d{g:GA}{U:Addr}{H H':Hp}(f:FrU U H H'):FrD g U H H':=λb o e _ _ _ n=>f b o e n
theorem FrD.trans{g:GA}{U:Addr}{H1 H2 H3:Hp}(h:FrD g U H1 H2)(k:FrD g U H2 H3):FrD g U H1 H3:=λb o e n1 n2 n3 n4=>k _ _ (h _ _ e n1 n2 n3 n4) n1 n2 n3 n4
theorem FrU.gr{a:Ad}{g:GA}{G:Gv}{U:Addr}{H H':Hp}{kv:List (List Key×V)}(f:FrU U H H')(hU:H U=some (.dT kv))(n:U≠g.nm)(hg:AD a H g G):AD a H' g G:=by
 have other:∀{b v},H b=some v->(∀l,v≠.dT l)->H' b=some v:=λ{b v} e m=>f _ _ e (As e hU (m _));obtain⟨ts,h3,h4⟩:=hg.pt;exact⟨other hg.hp A6,other hg.lv A6,⟨ts,other h3 A6,PairedM.imp (λt q z=>other z A6) h4⟩,f _ _ hg.nm (Z7 n),hg.ne⟩
theorem Dep.up_inv{r:AA}{G:Gv}{n l:Nat}{ds:List (Nat×Nat)}(h:Dep r G n (l+1) ds)(hl:Ap G n ((l+1+2:Nat):Int)):∃ks fs,IJ G n l ks/\NF r G n l fs/\ds=(ks++fs).map λk=>(k,l):=by
 cases h with
 |lo b he hk =>
  have:=b.one hl;lia
 |up b hk hf=>exact⟨_,_,hk,hf,rfl⟩
theorem SJ{G G':Gv}{x n k:Nat}{q:Sq}(go:AQ G G' x)(e:G[n]?=some q):qO G' n k=qO G n k:=by
 unfold qO;rw[go.get e,e]
theorem Tc{y0 y1 y2 y3 y4 y5 y6 y7 y8:Nat}{H:Hp}{t0 t1 t2 t3:Addr}(h0:H t0=some (.tup [toV y0,toV y1,toV y3,toV y4]))(h1:H t1=some (.tup [toV y1,toV y2,toV y4,toV y5]))(h2:H t2=some (.tup [toV y3,toV y4,toV y6,toV y7]))(h3:H t3=some (.tup [toV y4,toV y5,toV y7,toV y8])){k:Nat}{v:V}(e:[V.ref t0,V.ref t1,V.ref t2,V.ref t3][k]?=some v):∃(i j a b p d:Nat)(tk:Addr),i<2/\j<2/\k=i+2*j/\v=.ref tk/\H tk=some (.tup [toV a,toV b,toV p,toV d])/\[y0,y1,y2,y3,y4,y5,y6,y7,y8][i+3*j]?=some a/\[y0,y1,y2,y3,y4,y5,y6,y7,y8][i+1+3*j]?=some b/\[y0,y1,y2,y3,y4,y5,y6,y7,y8][i+3*(j+1)]?=some p/\[y0,y1,y2,y3,y4,y5,y6,y7,y8][i+1+3*(j+1)]?=some d:=by
 match k,e with
 |0,e=>cases e;exact⟨0,0,y0,y1,y3,y4,t0,by decide,by decide,rfl,rfl,h0,rfl,rfl,rfl,rfl⟩
 |1,e=>cases e;exact⟨1,0,y1,y2,y4,y5,t1,by decide,by decide,rfl,rfl,h1,rfl,rfl,rfl,rfl⟩
 |2,e=>cases e;exact⟨0,1,y3,y4,y6,y7,t2,by decide,by decide,rfl,rfl,h2,rfl,rfl,rfl,rfl⟩
 |3,e=>cases e;exact⟨1,1,y4,y5,y7,y8,t3,by decide,by decide,rfl,rfl,h3,rfl,rfl,rfl,rfl⟩
section
variable{P:Program}{w:World}{K:PySem.W.Frag}{mg:Str->Option Value}{base:Heap}{a:Ad}
inductive SpRr(a:Ad)(vs:List V)(H:Hp)(Q:VK):Prop
 |mk (g:GA) (G:Gv) (cq D U t:Addr) (rl:List LC4) (rows:List T3) (us:List (Nat×Nat)) (n e m:Nat) (ds:List (Nat×Nat)) (_:vs=[.ref g.p,.ref cq,.ref D,.ref U,.ref t]) (_:AD a H g G) (_:GOk G) (_:56<=G.length) (_:G.length<6900000) (_:FK H cq rl) (_:Mb rl) (_:H D=some (.dT (kvT rows))) (_:(rows.map T3.key).Nodup) (_:H U=some (.dT (kvS us))) (_:D≠U) (_:D≠g.nm) (_:U≠g.nm) (_:H t=some (.tup [toV n,toV e,toV m])) (_:JR (rl.map LC4.a) G e n m) (_:Dep (rl.map LC4.a) G n e ds) (_:∀d∈ds,d∈rows.map T3.key) (_:∀q∈rows,JR (rl.map LC4.a) G q.e q.n q.m) (_:us.length+60<=5000)
   (_:∀(us':List (Nat×Nat))(G':Gv)(H':Hp),FrD g U H H'->AD a H' g G'->AQ G G' 20->H' U=some (.dT (kvS us'))->(∀d,d∈us'↔d∈us\/d∈ds)->(us.Nodup->us'.Nodup)->us'.length<=us.length+20->Q (.bl true) H'):SpRr a vs H Q
def spRr(a:Ad):Sp:=λvs H Q _=>SpRr a vs H Q
theorem ok_rr2{f:Addr}{fd:FuncData}(F:Fun K "_law_row_right" "_law_row_right" Ci f fd)(T:Top K mg a)(a7:BJ P w K mg base CX0 3 a.c_Grove "level_of" BF (Mt a))(bM:Cal P w K mg base CX0 6 "_law_by_rule" Fj (spBr a))(aB:BJ P w K mg base CX0 4 a.c_Grove "quarters" Cl (PZ a))(bW:Cal P w K mg base CX0 6 "_law_parts" GJ (spPa a))(bE:Cal P w K mg base CX0 1 "_law_rested" FW spRe)(bF:Cal P w K mg base CX0 1 "_law_fours" GK spFo)(aI:BJ P w K mg base CX0 4 a.c_Grove "joined" CL (Mu a)):AR P w K mg base CX0 7 f fd DZ (spRr a):=by
 refine F.ok AG (λvs H Q E h=>?_) (λcdv A outer s H vs Q E hr h=>?_)
 ·apply AE;intro G_ hG_;obtain⟨g,G,cq,D,U,t,rl,rows,us,n,e,m,ds,rfl,_⟩:=h;apply hG_;clear hG_ G_;rfl
 ·apply AE;intro G_ hG_;obtain⟨g,G,cq,D,U,t,rl,rows,us,n,e,m,ds,rfl,hg,ok,l56,few,hq,rok,hD,nd,hU,nDU,nDn,nUn,ht,jr,dep,sub,jrs,lus,k⟩:=h;apply hG_;clear hG_ G_;refine⟨_,(Ac (Vk (pv 4) (EY rfl (AY (AL (i:=5) AG.nd rfl (Or.inl rfl)) (AY (AL (i:=6) AG.nd rfl (Or.inr rfl)) (AY (AL (i:=7) AG.nd rfl (Or.inl rfl)) DK))))) (Ac (Ax (i:=8) AG.nd rfl (Or.inl rfl) (Ay (pv 0) a7 (rm hr) Aq (Aa (pv 5) Ab))) (Ac (AU (PW.pt (Jd (AI JE (pv 8) Ae (AM _)) (Jd (CK (MN MS MS Ae (pv 6) (AK Cd (pv 8) Ae))) (GE (AI Ia (Ay (pv 0) a7 (rm hr) Aq (Aa (pv 7) Ab)) (AK Cd (pv 8) Ae) (AM _)))))) (Ag (Au CH)) AF) (Ac (AU (AI Ds (pv 8) Ae (AM _)) (Ag (Au (Az bM (rm hr) rfl Aq (Aa (pv 0) (Aa (pv 1) (Aa (pv 5) (Aa (pv 7) Ab))))))) AF) (Ac (Ax (i:=9) AG.nd rfl (Or.inl rfl) (Ay (pv 0) aB (rm hr) Aq (Aa (pv 7) Ab))) (Ac (Ax (i:=10) AG.nd rfl (Or.inr rfl) (Bv UA rfl T.b_int A0d (Aa (EG Ds (pv 6) (AK Cd (pv 8) Ae) (AM _)) Ab))) (Ac (Do (i:=11) rfl AG.nd rfl rfl (Bk.of (So:=Ak Ci) (No:=Ee) (N:=["_law_part","_law_e","_law_twice"]) (k:=1) (cs:=[6,10]) rfl rfl A0) (Bc (Az bW (rm hr) rfl Aq (Aa (pv 0) (Aa (pv 5) Ab)))) (λ_ _ _=>(AV (i:=0) A0 rfl rfl)) (λ_ _ _=>Bp) (λ_ _ _=>(Dd (Aa (pv 0) (Ck Cd (pv 1) (pv 2) Ab))))) (Ac (Ax (i:=12) AG.nd rfl (Or.inl rfl) (Az bE (rm hr) rfl Aq (Aa (pv 2) (Aa (pv 3) (Aa (pv 11) Ab))))) (Ac (AU (AI Ia (AO Bh rfl T.b_len K2 (Aa (pv 12) Ab)) Ae (AM _)) (Ag (Au CH)) AF) (Ac (AU (AI Ds (pv 10) Ae (AM _)) (Ac (Ax (i:=11) AG.nd rfl (Or.inl rfl) (Bn Ab)) (Ac (BE X6 rfl (Bc (Az bF (rm hr) rfl Aq (Aa (pv 12) Ab))) (EY rfl (AY (AL (i:=13) AG.nd rfl (Or.inl rfl)) (AY (AL (i:=14) AG.nd rfl (Or.inl rfl)) (AY (AL (i:=15) AG.nd rfl (Or.inl rfl)) (AY (AL (i:=16) AG.nd rfl (Or.inl rfl)) DK))))) (Ag (AZ (Ce Z8 Z9 X4 Ba (pv 11) (Bx (Aa (Ay (pv 0) aI (rm hr) Aq (Aa (pv 13) (Aa (pv 14) (Aa (pv 15) (Aa (pv 16) Ab))))) (Ck Cd (pv 6) Ae Ab)) Ab))))) (Ag (Au (EG (Rv hr.units) (Az bE (rm hr) rfl Aq (Aa (pv 2) (Aa (pv 3) (Aa (pv 11) Ab)))) (Bv GT rfl T.b_list A2b (Aa (pv 9) Ab)) (AM _)))))) AF) (Ac (BE X6 rfl (SM false rfl T.b_enumerate (Aa (Az bF (rm hr) rfl Aq (Aa (pv 12) Ab)) Ab)) (EY rfl (AY (AL (i:=17) AG.nd rfl (Or.inl rfl)) (AY (AL (i:=18) AG.nd rfl (Or.inr rfl)) DK))) (Ac (Do (i:=19) rfl AG.nd rfl rfl (Bk.of (So:=Ak Ci) (No:=Ee) (N:=["_law_j","_law_grove","_law_some"]) (k:=1) (cs:=[0,18]) rfl rfl A0) (BR rfl T.b_range (AH Ab)) (λ_ _ _=>(AV (i:=0) A0 rfl rfl)) (λ_ _ _=>Bp) (λ_ _ _=>(Al (SZ (K:=K) rfl) (Ay (pv 1) aB (rm hr) Aq (Aa (Al (SZ (K:=K) rfl) (pv 2) (pv 0) (λ_ _=>rfl)) Ab)) (AK Cd Ae (pv 0)) (λ_ _=>rfl)))) (Ag (AU (AI (Rt hr.units) (Bv GT rfl T.b_list A2b (Aa (Ay (pv 0) aB (rm hr) Aq (Aa (Al An (pv 9) (pv 17) (λ_ _=>rfl)) Ab)) Ab)) (pv 19) (AM _)) (Ag (Au CH)) AF)))) (Ag (Au CH))))))))))))),?_⟩
  try dsimp only[cxK]
  apply AE;intro G_ hG_;obtain⟨l,hln,hel,hlm,_⟩:=id jr;obtain⟨qn,en,eln⟩:=id hln;obtain⟨qm,em,elm⟩:=id hlm;apply hG_;clear hG_ G_;refine AS ?_;intro r_k1 s_k1 k1 hk1 E_k1;refine xq1 rfl ⟨t,(xq1 rfl ⟨SqT.of ht,rfl,_,_,rfl,_,_,rfl,(xq2 rfl rfl ?_)⟩)⟩;show k1 [some (.ref g.p),some (.ref cq),some (.ref D),some (.ref U),some (.ref t),some (toV n),some (toV e),some (toV m),none,none,none,none,none,none,none,none,none,none,none,none] H;refine hk1 ?_;refine AS ?_;intro r_k2 s_k2 k2 hk2 E_k2;refine xwn rfl rfl hg.hp (Ed g) rfl ⟨g,G,n,qn,rfl,hg,en,?_⟩;rw[eln];refine hk2 ?_;refine AS ?_;intro r_k3 s_k3 k3 hk3 E_k3;refine xwb rfl rfl rfl (xq1 rfl ?_);rw[Z2 (show ¬((l+2:Nat):Int)<2 by lia)];refine Bq ?_;refine xq1 rfl ⟨0,(e:Int),rfl,rfl,true,X8 V.bl (Z1 (show(0:Int)<=(e:Int) by lia)),CN (xwb rfl rfl rfl (xq2 rfl rfl ⟨true,X8 V.bl (Z1 (show(e:Int)<=((l+2:Nat):Int)-2 by lia)),Bq ?_⟩))⟩;refine xwn rfl rfl hg.hp (Ed g) rfl ⟨g,G,m,qm,rfl,hg,em,?_⟩;rw[elm];refine xwb rfl rfl rfl ⟨rfl,false,?_,Bq ?_⟩
  ·exact X8 (λb=>V.bl (!b)) (Z1 (X8 V.int (show((l+1:Nat):Int)=((l+2:Nat):Int)-1 by lia)))
  show k3 [some (.ref g.p),some (.ref cq),some (.ref D),some (.ref U),some (.ref t),some (toV n),some (toV e),some (toV m),some (.int ((l+2:Nat):Int)),none,none,none,none,none,none,none,none,none,none,none] H;refine hk3 ?_;refine seqc (λk4 hk4=>?_);refine xq1 rfl ⟨rfl,(xq1 rfl ?_)⟩
  match l,hln,hel,hlm,eln,elm with
  |0,hln,hel,hlm,eln,elm =>
   have e0:e=0:=by lia
   subst e0;refine CN (xw3 rfl rfl rfl (xq1 rfl ⟨g,G,cq,rl,n,m,rfl,hg,ok,hln,hq,rok,jr,λH' s'=>?_⟩));have ed:ds=[]:=Dep.one ok dep (.z hln);subst ed;exact k us G H' (λb o e _ _ _ _=>s' _ _ e) (hg.same s') ((AQ.refl ok).mono A3) (s' _ _ hU) (λd=>⟨.inl,λz=>z.elim id λy=>(nomatch y)⟩) id (R9 _ _)
  |l+1,hln,hel,hlm,eln,elm =>
   rw[Z2 (by intro z;injection z with z;lia)];refine Bq ?_;show k4 _ _;subst hk4;refine AS ?_;intro r_k5 s_k5 k5 hk5 E_k5;refine xq1 rfl (xq3 rfl hg.hp (Cm g) (xq1 rfl ⟨g,G,m,_,rfl,hg,ok.fourq (l:=l+1) hlm,by show((l+1+1:Nat):Int)≠0;lia,λtf htf=>?_⟩));refine hk5 ?_;refine AS ?_;intro r_k6 s_k6 k6 hk6 E_k6;refine xw2 rfl rfl (xq2 rfl rfl ⟨rfl,.inr (xq1 rfl ?_)⟩);have y1_:∃tw e':Nat,(if decide (V.int (e:Int)=V.int (((l+1+2:Nat):Int)-2))=true then(1:Int)else 0)=(tw:Int)/\(e:Int)-(tw:Int)=(e':Int)/\((tw=0/\e<=l/\e'=e)\/(tw=1/\e=l+1/\e'=l)):=by
    by_cases he:e<=l
    ·exact⟨0,e,by rw[Z2 (by intro z;injection z with z;lia)];rfl,by lia,.inl ⟨rfl,he,rfl⟩⟩
    ·exact⟨1,l,by rw[Z1 (by rw[show(e:Int)=((l+1+2:Nat):Int)-2 by lia])];rfl,by lia,.inr ⟨rfl,by lia,rfl⟩⟩
   apply AE;intro G_ hG_;obtain⟨tw,e',etw,ee',hcase⟩:=y1_;apply hG_;clear hG_ G_;show k6 [some (.ref g.p),some (.ref cq),some (.ref D),some (.ref U),some (.ref t),some (toV n),some (toV e),some (toV m),some (.int ((l+1+2:Nat):Int)),some (.ref tf),some (.int (if decide (V.int (e:Int)=V.int (((l+1+2:Nat):Int)-2))=true then(1:Int)else 0)),none,none,none,none,none,none,none,none,none] H;rw[etw];refine hk6 ?_;clear etw;refine AS ?_;intro r_k7 s_k7 k7 hk7 E_k7;refine xw2 rfl rfl ⟨g,G,n,l,rfl,hg,ok,l56,hln,by lia,λLP ks G1 H1 fr1 nw1 hg1 go1 hLP np=>⟨LP,rfl,⟨_,SqL.of hLP⟩,?_⟩⟩;have lks:ks.length=9:=np.1;refine BP (xs:=ks.map toV) (λi acc H5=>∃ts:List Addr,acc=ts.map V.ref/\ts.length=i/\Av H1 H5/\Paired (FL H5) ts ((ks.take i).map λk=>(k,e'))) ⟨[],rfl,rfl,Av.refl H1,.nil⟩ (λi acc H5 _ z=>by obtain⟨_,_,_,sm,_⟩:=z;exact SqL.of (sm _ _ hLP)) ?_ ?_
   ·rintro i v acc H5 ev z5_;apply AE;intro G_ hG_;obtain⟨ts,rfl,lt,sm,pr5⟩:=z5_;apply hG_;clear hG_ G_;rw[B9]at ev;obtain⟨k5,ek,rfl⟩:=D5.mp ev;have i9:i<9:=by have:=(B7.mp ek).1;lia
    refine⟨⟨[some (toV k5)],rfl,rfl⟩,by rw[B6,lt];exact M7 i9 A3,Eu (xw3 rfl rfl rfl (xq2 rfl rfl ⟨(by show 2<=sizeLine;decide),λt' ht'=>?_⟩))⟩;have hP:FL (upd H5 t' (.tup [toV k5,.int ((e:Int)-(tw:Int))])) t' (k5,e'):=by
     unfold FL;rw[Af,ee'];rfl
    have s6:Av H5 (upd H5 t' (.tup [toV k5,.int ((e:Int)-(tw:Int))])):=Ai ht';refine⟨ts++[t'],by rw[C0];rfl,by rw[B8,lt];rfl,sm.trans s6,?_⟩;rw[F4,ek,J0,C0];exact K4 (Paired.imp (λt d z=>s6 _ _ z) pr5) hP
   ·rintro acc H5 z2_ WL hWL;apply AE;intro G_ hG_;obtain⟨tws,rfl,lt,sm,pr5⟩:=z2_;apply hG_;clear hG_ G_;rw[B6,F7]at pr5;show k7 _ (upd H5 WL (.lst (tws.map V.ref)));generalize cL:upd H5 WL _=H6;obtain⟨s6,hW6⟩:=alc hWL cL;have s16:=sm.trans s6;have pr6:=Paired.imp (λt d (z:FL H5 t d)=>(s6 _ _ z:FL H6 t d)) pr5;obtain⟨tg,g3,_⟩:=hg.pt;have keep:∀{b o},H b=some o->(∀l,o≠.lst l)->b≠g.nm->H6 b=some o:=λ{b o} e n1 n2=>s16 _ _ (fr1 _ _ e (As e hg.lv (n1 _)) (As e g3 (n1 _)) n2);have hD6:=keep hD A6 nDn;have hU6:=keep hU A6 nUn;have htf6:=keep htf A6 (As htf hg.nm A2);have fr06:Fr g H H6:=fr1.trans (Av.fr s16);have hg6:=hg1.same s16;have jr1:=jr.goes ok go1;have dep1:=dep.goes ok go1;have hln1:=go1.lev hln;have jrs1:∀q∈rows,JR (rl.map LC4.a) G1 q.e q.n q.m:=λq hq=>(jrs q hq).goes ok go1;have l561:=D4 l56 go1.le;have gf1:=go1.few;clear pr5 sm s6 s16 fr1 nw1 hg1 hLP hWL hD hU htf;refine hk7 ?_;have wsub:∀d∈ks.map (λk=>(k,e')),d∈ds:=by
     rcases hcase with ⟨_,he,rfl⟩|⟨_,rfl,rfl⟩
     ·rw[Dep.one go1.ok dep1 (.lo hln1 he np)];exact λd hd=>hd
     ·apply AE;intro G_ hG_;obtain⟨ks',fs,hk,hf,rfl⟩:=dep1.up_inv hln1;apply hG_;clear hG_ G_;rw[GV.one go1.ok A3 np hk,C0];exact λd hd=>D1.mpr (.inl hd)
    obtain⟨qs,eqs,hqs⟩:=MK λd hd=>sub d (wsub d hd);have lqs:qs.length=9:=by
     have:=X8 List.length eqs;rw[B6,B6,lks]at this;exact this
    refine AS ?_;intro r_k8 s_k8 k8 hk8 E_k8;refine xw3 rfl rfl rfl ⟨D,U,WL,rows,us,tws,qs,rfl,hD6,nd,hU6,nDU,hW6,by rw[eqs];exact pr6,hqs,by lia,by lia,λFn us7 H7 frU7 nwF hU7 hF7 mem7 nd7 len7=>?_⟩;have hg7:=frU7.gr hU6 nUn hg6;have hD7:=frU7 _ _ hD6 nDU;have htf7:=frU7 _ _ htf6 (As htf6 hU6 A2);have fr07:FrD g U H H7:=fr06.d.trans frU7.d;have jq:=Pp eqs λq hq=>jrs1 q (hqs q hq);have nn:=Lk (r:=rl.map LC4.a) (c:=AW G1 (l+1+2) n) (e:=e') go1.ok (AQ.refl go1.ok) (λi j hi hj=>by
     apply AE;intro G_ hG_;obtain⟨y,e1,e2,e3⟩:=np.2 i j hi hj;apply hG_;clear hG_ G_;exact⟨y,e1,e2,e3.at' (L9 _) (L9 _)⟩) jq
    have ly:(qs.map T3.m).length=9:=by rw[B6,lqs]
    have eF:(qs.map λq=>toV q.m)=(qs.map T3.m).map toV:=by rw[N3];rfl
    rw[eF]at hF7;rw[eqs]at mem7;rw[lqs]at len7;clear eF pr6 hW6 hU6 hD6 htf6 hg6 fr06 frU7 lt;generalize qs.map T3.m=ys at hF7 ly nn jq;refine hk8 ?_;refine AS ?_;intro r_k9 s_k9 k9 hk9 E_k9;refine xq1 rfl ⟨Fn,(xq1 rfl ⟨.inl (SqL.of hF7),rfl,(xq1 rfl ?_)⟩)⟩;rw[B6,ly];refine Bq ?_;refine hk9 ?_;apply AE;intro G_ hG_;obtain⟨y0,y1,y2,y3,y4,y5,y6,y7,y8,rfl⟩:=Pb ys ly;apply hG_;clear hG_ G_;refine AS ?_;intro r_k10 s_k10 k10 hk10 E_k10;refine xq1 rfl ⟨rfl,(xq1 rfl ?_)⟩;rcases hcase with ⟨rfl,he,rfl⟩|⟨rfl,rfl,rfl⟩
    ·refine Bq ?_;refine hk10 ?_;refine AS ?_;intro r_k11 s_k11 k11 hk11 E_k11;refine xq1 rfl ⟨Fn,y0,y1,y2,y3,y4,y5,y6,y7,y8,rfl,hF7,λA4 t0 t1 t2 t3 H9 s9 hA4 h0 h1 h2 h3=>⟨A4,rfl,⟨_,SqL.of hA4⟩,?_⟩⟩;have eds:ds=ks.map λk=>(k,e'):=Dep.one go1.ok dep1 (.lo hln1 he np);refine QG (b:=false) (xs:=[.ref t0,.ref t1,.ref t2,.ref t3]) (λx σ Hy=>Av H9 Hy/\∃u17 u18 u19:Option V,σ=[some (.ref g.p),some (.ref cq),some (.ref D),some (.ref U),some (.ref t),some (toV n),some (toV e'),some (toV m),some (.int ((l+1+2:Nat):Int)),some (.ref tf),some (.int (0:Nat)),some (.ref WL),some (.ref Fn),none,none,none,none,u17,u18,u19]) ⟨Av.refl H9,none,none,none,rfl⟩ (λx σ Hy _ z=>SqL.of (z.1 _ _ hA4)) ?_ ?_
     ·rintro x v σ Hy TT ev z6_ nT;apply AE;intro G_ hG_;obtain⟨sy,u17,u18,u19,rfl⟩:=z6_;apply hG_;clear hG_ G_;apply AE;intro G_ hG_;obtain⟨i,j,ya,yb,yp,yd,tk,hi,hj,ex,rfl,htk,ea,eb,ep,ed⟩:=Tc h0 h1 h2 h3 ev;apply hG_;clear hG_ G_;generalize e_sT:upd Hy TT _=HT;obtain⟨sT,hT⟩:=alc nT e_sT;refine JK hT ?_;have s9T:=sy.trans sT;have htkT:=s9T _ _ htk;have hgT:=hg7.same (s9.trans s9T);have htfT:=s9T _ _ (s9 _ _ htf7);apply AE;intro G_ hG_;obtain⟨a',b',c',d',xa,xb,xc,xd,⟨la,lb,lc,ld⟩,q0,q1,q2,q3⟩:=lo_four go1.ok jr1 hln1 nn hi hj;apply hG_;clear hG_ G_;rw[ea]at xa;rw[eb]at xb;rw[ep]at xc;rw[ed]at xd;cases xa;cases xb;cases xc;cases xd;have qm1:∀z,qO G1 m z=qO G m z:=λz=>SJ go1 em;have lq1:Ap G1 (qO G m x) ((l+1:Nat):Int):=by
       rw[<-qm1,ex];exact((RL go1.ok jr1 hln1).2 i j hi hj).1
      rw[qm1,<-ex]at q0 q1 q2 q3;refine AS ?_;intro r_k12 s_k12 k12 hk12 E_k12;refine⟨4,rfl,by decide,by decide,?_⟩;refine Gj (n:=4) (λz acc H5=>HT=H5/\acc=([qO G1 ya 3,qO G1 yb 2,qO G1 yp 1,qO G1 yd 0].take z).map toV) ⟨rfl,rfl⟩ ?_ ?_
      ·rintro z acc H5 hz ⟨rfl,rfl⟩;have y2_:∃yy,Ap G1 yy ((l+1:Nat):Int)/\atI [toV ya,toV yb,toV yp,toV yd] (0+(z:Int))=some (toV yy)/\atI ([(qO G1 yy 0:Int),(qO G1 yy 1:Int),(qO G1 yy 2:Int),(qO G1 yy 3:Int)].map V.int) (3-(0+(z:Int)))=some (toV (qO G1 yy (3-z)))/\[qO G1 ya 3,qO G1 yb 2,qO G1 yp 1,qO G1 yd 0].take (z+1)=[qO G1 ya 3,qO G1 yb 2,qO G1 yp 1,qO G1 yd 0].take z++[qO G1 yy (3-z)]:=by
        match z,hz with
        |0,_=>exact⟨ya,la,rfl,rfl,rfl⟩
        |1,_=>exact⟨yb,lb,rfl,rfl,rfl⟩
        |2,_=>exact⟨yp,lc,rfl,rfl,rfl⟩
        |3,_=>exact⟨yd,ld,rfl,rfl,rfl⟩
       apply AE;intro G_ hG_;obtain⟨yy,lyy,at1,at2,tk'⟩:=y2_;apply hG_;clear hG_ G_;refine⟨⟨[some (.int (0+(z:Int)))],rfl,rfl⟩,by rw[B6,J7];exact E5 (Nat.min_le_left _ _) (M7 hz A3),Eu (xq1 rfl (xq3 rfl hgT.hp (Cm g) (xq1 rfl (xq1 rfl (xq4 rfl rfl (SqT.of htkT) at1 ⟨g,G1,yy,_,rfl,hgT,go1.ok.fourq lyy,by show((l+1:Nat):Int)≠0;lia,λtq htq=>(xq1 rfl (xq2 rfl rfl (xq4 rfl rfl (SqT.of htq) at2 ⟨rfl,?_⟩)))⟩)))))⟩;rw[tk',C0];rfl
      ·rintro acc H5 ⟨rfl,rfl⟩ DL hDL;show k12 _ (upd HT DL (.lst (([qO G1 ya 3,qO G1 yb 2,qO G1 yp 1,qO G1 yd 0].take 4).map toV)));generalize e_s13:upd HT DL _=H13;obtain⟨s13,h13⟩:=alc (o:=(.lst ([(qO G1 ya 3:Int),(qO G1 yb 2:Int),(qO G1 yp 1:Int),(qO G1 yd 0:Int)].map V.int))) hDL e_s13;have hg13:=hgT.same s13;refine hk12 ?_;have x4:x<4:=by lia
       have atx:atI ([(qO G m 0:Int),(qO G m 1:Int),(qO G m 2:Int),(qO G m 3:Int)].map V.int) (x:Int)=some (toV (qO G m x)):=by
        match x,x4 with
        |0,_=>rfl
        |1,_=>rfl
        |2,_=>rfl
        |3,_=>rfl
       refine xq1 rfl (xq3 rfl hg13.hp (Cm g) (xq1 rfl (xq1 rfl (xq4 rfl rfl (SqT.of (s13 _ _ htfT)) atx ⟨g,G1,qO G m x,_,rfl,hg13,go1.ok.fourq lq1,by show((l+1:Nat):Int)≠0;lia,λtq htq=>⟨tq,_,rfl,.inr (SqT.of htq),λLq hLq=>?_⟩⟩))));refine xq1 rfl ⟨Lq,DL,_,_,rfl,rfl,SqL.of Af,SqL.of (Ai hLq _ _ h13),false,?_,Bq ⟨(s9T.trans s13).trans (Ai hLq),_,_,_,rfl⟩⟩;rw[q0,q1,q2,q3,Z1 rfl];rfl
     ·rintro σ Hy z2_;apply AE;intro G_ hG_;obtain⟨sy,u17,u18,u19,rfl⟩:=z2_;apply hG_;clear hG_ G_;refine hk11 ?_;refine k us7 G1 Hy (fr07.trans (Fr.d (Av.fr (s9.trans sy)))) (hg7.same (s9.trans sy)) (go1.mono A3) (sy _ _ (s9 _ _ hU7)) (λd=>?_) nd7 A1;rw[mem7,eds]
    ·refine CN ?_;clear hk10;refine AS ?_;intro r_k11 s_k11 k11 hk11 E_k11;refine⟨(by show 0<=sizeLine;decide),λW2 hW2=>?_⟩;generalize cS:upd H7 W2 _=H8;obtain⟨s8,hW8⟩:=alc hW2 cS;refine hk11 ?_;refine AS ?_;intro r_k12 s_k12 k12 hk12 E_k12;refine xq1 rfl ⟨Fn,y0,y1,y2,y3,y4,y5,y6,y7,y8,rfl,s8 _ _ hF7,λA4 t0 t1 t2 t3 H9 s9 hA4 h0 h1 h2 h3=>⟨A4,rfl,⟨_,SqL.of hA4⟩,?_⟩⟩;have hW9:=s9 _ _ hW8;have s79:=s8.trans s9;have hg9:=hg7.same s79;have nA4:A4≠W2:=λz=>by
      rw[z,hW9]at hA4;cases hA4
     have nW:∀{b o},H7 b=some o->b≠W2:=λ{b o} e=>Ah e hW2;have nWg:W2≠g.lv/\W2≠g.pt:=by
      obtain⟨tg,g3,_⟩:=hg7.pt;exact⟨Z7 (nW hg7.lv),Z7 (nW g3)⟩
     refine Cw (xs:=[.ref t0,.ref t1,.ref t2,.ref t3]) (λx σ Hy=>∃(G5:Gv)(fs:List Nat)(ts5:List Addr)(u13 u14 u15 u16:Option V),σ=[some (.ref g.p),some (.ref cq),some (.ref D),some (.ref U),some (.ref t),some (toV n),some (toV (e'+1)),some (toV m),some (.int ((e'+1+2:Nat):Int)),some (.ref tf),some (.int (1:Nat)),some (.ref W2),some (.ref Fn),u13,u14,u15,u16,none,none,none]/\(∀b o,H9 b=some o->b≠g.lv->b≠g.pt->b≠g.nm->b≠W2->Hy b=some o)/\AD a Hy g G5/\AQ G1 G5 x/\Hy W2=some (.lst (ts5.map V.ref))/\Paired (FL Hy) ts5 (fs.map λk=>(k,e'))/\fs.length=x/\∀(tt y:Nat),fs[tt]?=some y->Ap G5 y ((e'+2:Nat):Int)/\Vw G5 (BH (rl.map LC4.a) (2^e') (AW G1 (e'+1+2) n)) (e'+2) y (2^e'+2^(e'+1)*(tt%2)) (2^e'+2^(e'+1)*(tt/2))) ⟨G1,[],[],none,none,none,none,rfl,λb o e _ _ _ _=>e,hg9,AQ.refl go1.ok,hW9,.nil,rfl,λtt y e=>(nomatch e)⟩ (λx σ Hy _ z=>by
      apply AE;intro G_ hG_;obtain⟨_,_,_,_,_,_,_,_,kp,_⟩:=z;obtain⟨tg,g3,g4⟩:=hg9.pt;apply hG_;clear hG_ G_;have lt':tg.length=G1.length:=X5 g4;have sv:Sv (.lst [V.ref t0,.ref t1,.ref t2,.ref t3]):=.lst (by show 4<=50;decide);exact SqL.of (kp _ _ hA4 (sv.nl hA4 hg9.lv (by rw[B6];lia)) (sv.nl hA4 g3 (by rw[B6];lia)) (sv.nt hA4 hg9.nm) nA4)) ?_ ?_
     ·rintro x v σ Hy ev z5_;apply AE;intro G_ hG_;obtain⟨G5,fs,ts5,u13,u14,u15,u16,rfl,kp,hgy,go5,hWy,pr5,lf,all⟩:=z5_;apply hG_;clear hG_ G_;apply AE;intro G_ hG_;obtain⟨i,j,ya,yb,yp,yd,tk,hi,hj,ex,rfl,htk,ea,eb,ep,ed⟩:=Tc h0 h1 h2 h3 ev;obtain⟨tg,g3,_⟩:=hg9.pt;apply hG_;clear hG_ G_;have htk:=kp _ _ htk (As htk hg9.lv A2) (As htk g3 A2) (As htk hg9.nm A2) (As htk hW9 A2);obtain⟨za,xa,la,_⟩:=nn i j A1 A1;obtain⟨zb,xb,lb,_⟩:=nn (i+1) j A1 A1;obtain⟨zp,xp,lp,_⟩:=nn i (j+1) A1 A1;obtain⟨zd,xd,ld,_⟩:=nn (i+1) (j+1) A1 A1;rw[ea]at xa;rw[eb]at xb;rw[ep]at xp;rw[ed]at xd;cases xa;cases xb;cases xp;cases xd;have x4:x<4:=by lia
      have gf5:=go5.few;have e45:e'<=45:=by have:=(go1.ok.lev (Classical.choose_spec hln1).1).2;have:=(Classical.choose_spec hln1).2;lia
      have lts:ts5.length=x:=by rw[X5 pr5,B6,lf]
      refine⟨tk,(xq1 rfl ⟨SqT.of htk,rfl,_,_,rfl,_,_,rfl,_,_,rfl,(xq2 rfl rfl ?_)⟩)⟩;refine xq1 rfl ⟨.inl ⟨rfl,_,SqL.of hWy⟩,(xwn rfl rfl hgy.hp (Lj g) rfl (xw3 rfl rfl rfl ⟨g,G5,ya,yb,yp,yd,((e'+1:Nat):Int),rfl,hgy,go5.ok,⟨go5.lev la,go5.lev lb,go5.lev lp,go5.lev ld⟩,by lia,by lia,λy G6 H10 fr hg10 go6 e6=>(xwb rfl rfl rfl ⟨(by show 2<=sizeLine;decide),λt' ht'=>?_⟩)⟩))⟩;have s10:Av H10 (upd H10 t' (.tup [.int (y:Int),.int (((e'+1:Nat):Int)-1)])):=Ai ht';have hP:FL (upd H10 t' (.tup [.int (y:Int),.int (((e'+1:Nat):Int)-1)])) t' (y,e'):=by
       unfold FL;rw[Af,show((e'+1:Nat):Int)-1=(e':Int) by lia];rfl
      show ∃_,_;generalize upd H10 t' (.tup [.int (y:Int),.int (((e'+1:Nat):Int)-1)])=H11 at s10 hP⊢;have hW11:=s10 _ _ (fr.kps hgy (D4 l561 go5.le) _ _ hWy (.lst (by rw[B6];lia)));refine⟨W2,(xq2 rfl rfl ⟨hW11,by rw[B6,lts];exact M7 x4 A3,?_⟩)⟩;have vk:=up_four go1.ok (go5.trans go6) nn hi hj ea eb ep ed e6;obtain⟨th,g3',_⟩:=hgy.pt;have tup11:∀{b ys},Hy b=some (.tup ys)->upd H11 W2 (.lst (ts5.map V.ref++[.ref t'])) b=some (.tup ys):=λ{b ys} e=>by
       rw[Ao (As e hWy A2)];exact s10 _ _ (fr _ _ e (As e hgy.lv A2) (As e g3' A2) (As e hgy.nm A2))
      refine⟨G6,fs++[y],ts5++[t'],_,_,_,_,rfl,λb o e n1 n2 n3 n4=>?_,?_,go5.trans go6,by rw[Af,C0];rfl,?_,by rw[B8,lf];rfl,λtt z e=>?_⟩
      ·rw[Ao n4];exact s10 _ _ (fr _ _ (kp _ _ e n1 n2 n3 n4) n1 n2 n3)
      ·exact(hg10.same s10).put hW11 nWg.1 nWg.2
      ·rw[C0];refine K4 (Paired.imp (λt d z=>tup11 z) pr5) ?_;show upd H11 W2 (.lst (ts5.map V.ref++[.ref t'])) t'=some (.tup [toV y,toV e']);rw[Ao (As hP hW11 A2)];exact hP
      ·by_cases htt:tt<fs.length
       ·rw[F6 htt]at e;obtain⟨b1,b2⟩:=all tt z e;exact⟨go6.lev b1,b2.goes go5.ok go6 b1⟩
       ·have:tt-fs.length<1:=by
         rw[E3 A1]at e;exact(B7.mp e).1
        obtain rfl:tt=i+2*j:=by lia
        rw[E3 A1,lf,ex,N7]at e;cases e;refine⟨⟨_,e6,by show((e'+1:Nat):Int)+1=((e'+2:Nat):Int);lia⟩,vk.at' ?_ ?_⟩
        ·rw[show(i+2*j)%2=i by lia]
        ·rw[show(i+2*j)/2=j by lia]
     ·rintro σ Hy z2_;apply AE;intro G_ hG_;obtain⟨G5,fs,ts5,u13,u14,u15,u16,rfl,kp,hgy,go5,hWy,pr5,lf,all⟩:=z2_;apply hG_;clear hG_ G_;refine hk12 ?_;have lf:fs.length=4:=lf;have go5:AQ G1 G5 4:=go5;have fh5:NF (rl.map LC4.a) G5 n e' fs:=by
       unfold NF;rw[BM go1.ok go5 hln1];refine⟨lf,λi j hi hj=>?_⟩;have ht':i+2*j<fs.length:=by lia
       obtain⟨b1,b2⟩:=all _ _ (C6 ht');exact⟨_,C6 ht',b1,b2.at' (by rw[show(i+2*j)%2=i by lia]) (by rw[show(i+2*j)/2=j by lia])⟩
      have dep5:=dep1.goes go1.ok go5;have hln5:=go5.lev hln1;apply AE;intro G_ hG_;obtain⟨ks',fs',hk',hf',eds⟩:=dep5.up_inv hln5;apply hG_;clear hG_ G_;have np5:IJ G5 n e' ks:=by
       unfold IJ;rw[BM go1.ok go5 hln1];exact np.goes go1.ok go5
      rw[<-GV.one go5.ok A3 np5 hk',<-GV.one go5.ok A3 fh5 hf',C0]at eds;obtain⟨qs2,eq2,hq2⟩:=MK (rows:=rows) (ws:=fs.map λk=>(k,e')) λd hd=>sub d (by rw[eds];exact D1.mpr (.inr hd));have lq2:qs2.length=4:=by
       have:=X8 List.length eq2;rw[B6,B6,lf]at this;exact this
      obtain⟨tg,g3,_⟩:=hg9.pt;have keep9:∀{b o},H7 b=some o->(∀l,o≠.lst l)->b≠g.nm->Hy b=some o:=λ{b o} e n1 n2=>kp _ _ (s79 _ _ e) (As (s79 _ _ e) hg9.lv (n1 _)) (As (s79 _ _ e) g3 (n1 _)) n2 (nW e);have hDy:=keep9 hD7 A6 nDn;have hUy:=keep9 hU7 A6 nUn;have htfy:=keep9 htf7 A6 (As htf7 hg7.nm A2);have jq2:=Pp eq2 λq hq=>(jrs1 q (hq2 q hq)).goes go1.ok go5;have jr5:=jr1.goes go1.ok go5;refine xw3 rfl rfl rfl ⟨D,U,W2,rows,us7,ts5,qs2,rfl,hDy,nd,hUy,nDU,hWy,by rw[eq2];exact pr5,hq2,by lia,by lia,λF2 us8 H11 frU8 nwF2 hU11 hF11 mem8 nd8 len8=>?_⟩;have hg11:=frU8.gr hUy nUn hgy;have htf11:=frU8 _ _ htfy (As htfy hUy A2);have eF:(qs2.map λq=>toV q.m)=((qs2.map T3.m).map λk=>((k:Nat):Int)).map V.int:=by rw[N3,N3];rfl
      rw[eF]at hF11;have lv4:(qs2.map T3.m).length=4:=by rw[B6,lq2]
      have val:(qs2.map T3.m).map (λk=>((k:Nat):Int))=[(qO G m 0:Int),(qO G m 1:Int),(qO G m 2:Int),(qO G m 3:Int)]:=by
       have qe:∀x,qO G5 m x=qO G m x:=λx=>SJ (go1.trans go5) em;generalize qs2.map T3.m=vs at jq2 lv4;apply AE;intro G_ hG_;obtain⟨v0,v1,v2,v3,rfl⟩:=IG vs lv4;obtain⟨f0,f1,f2,f3,rfl⟩:=IG fs lf;apply hG_;clear hG_ G_;have one:∀{i j f v:Nat},i<2->j<2->[f0,f1,f2,f3][i+2*j]?=some f->JR (rl.map LC4.a) G5 e' f v->v=qO G m (i+2*j):=λ{i j f v} hi hj ef jv=>by
        apply AE;intro G_ hG_;obtain⟨y,ey,ly',vy⟩:=fh5.2 i j hi hj;apply hG_;clear hG_ G_;rw[ef]at ey;cases ey;rw[<-qe];exact up_eq go5.ok jr5 hln5 hi hj ly' vy jv
       cases jq2 with
       |cons j0 p =>
        cases p with
        |cons j1 p =>
         cases p with
         |cons j2 p =>
          cases p with
          |cons j3 p =>
           rw[one (i:=0) (j:=0) A3 A3 rfl j0,one (i:=1) (j:=0) A3 A3 rfl j1,one (i:=0) (j:=1) A3 A3 rfl j2,one (i:=1) (j:=1) A3 A3 rfl j3];rfl
      refine xq1 rfl ⟨tf,(xq1 rfl ⟨.inr (SqT.of htf11),λLf hLf=>?_⟩)⟩;show ∃_,_;generalize e_s12:upd H11 Lf _=H12;obtain⟨s12,h12⟩:=alc hLf e_s12;refine⟨F2,Lf,(xq2 rfl rfl ⟨SqL.of (s12 _ _ hF11),SqL.of h12,?_⟩)⟩;rw[Z1 val];have frE:FrD g U H7 Hy:=λb o e n1 n2 n3 _=>kp _ _ (s79 _ _ e) n1 n2 n3 (nW e);refine k us8 G5 H12 (fr07.trans (frE.trans (frU8.d.trans (Fr.d (Av.fr s12))))) (hg11.same s12) ((go1.trans go5).mono A3) (s12 _ _ hU11) (λd=>?_) (λz=>nd8 (nd7 z)) A1;rw[mem8,mem7,eq2,eds,D1,or_assoc]
end
theorem kit_ll(K:PySem.W.Frag):kitOne K (.type "list") (.type "list")=some true:=by kernel_rfl
theorem Rf{α β:Type}{F:α->β->Prop}:∀{us:List α}{acc:List β}{l:β},Paired F us (acc++[l])->∃vs t,us=vs++[t]/\Paired F vs acc/\F t l
 |_,[],_,.cons h .nil=>⟨[],_,rfl,.nil,h⟩
 |_,_::_,_,.cons h t=>by
  apply AE;intro G_ hG_;obtain⟨vs,t',rfl,p,q⟩:=Rf t;apply hG_;clear hG_ G_;exact⟨_::vs,t',rfl,.cons h p,q⟩
section
variable{P:Program}{w:World}{K:PySem.W.Frag}{mg:Str->Option Value}{base:Heap}{a:Ad}
inductive SpWa(a:Ad)(vs:List V)(H:Hp)(Q:VK):Prop
 |mk (g:GA) (G:Gv) (cq R:Addr) (rl:List LC4) (n e mm:Nat) (ts:List Addr) (init:List T3) (_:vs=[.ref g.p,.ref cq,.ref R,.int n,.int e]) (_:AD a H g G) (_:GOk G) (_:56<=G.length) (_:G.length+4000<6900000) (_:FK H cq rl) (_:Mb rl) (_:H R=some (.lst (ts.map V.ref))) (_:R≠g.lv/\R≠g.pt) (_:Paired (Cf H) ts (init++[⟨n,e,mm⟩])) (_:Rsn (rl.map LC4.a) G [] (init++[⟨n,e,mm⟩]) [(n,e)]) (_:init.length+1<=200)
   (_:∀(G':Gv)(H':Hp),Fr g H H'->AD a H' g G'->AQ G G' 4000->Q (.bl true) H'):SpWa a vs H Q
def spWa(a:Ad):Sp:=λvs H Q _=>SpWa a vs H Q
theorem ok_wa{f:Addr}{fd:FuncData}(F:Fun K "_law_walked" "_law_walked" FO f fd)(T:Top K mg a)(bV:Cal P w K mg base CX0 1 "_law_three" GI spTh)(b9:Cal P w K mg base CX0 7 "_law_row_right" DZ (spRr a)):AR P w K mg base CX0 8 f fd FV (spWa a):=by
 refine F.ok Dz (λvs H Q E h=>?_) (λcdv A outer s H vs Q E hr h=>?_)
 ·apply AE;intro G_ hG_;obtain⟨g,G,cq,R,rl,n,e,mm,ts,init,rfl,_⟩:=h;apply hG_;clear hG_ G_;rfl
 ·apply AE;intro G_ hG_;obtain⟨g,G,cq,R,rl,n,e,mm,ts,init,rfl,hg,ok,l56,few,hq,rok,hR,nR,prs,rsn,len,k⟩:=h;apply hG_;clear hG_ G_;refine⟨_,(Ac (AU (PW.pt (Jd (CK (CD (AO Dh rfl T.b_isinstance K0 (Aa (pv 2) (Aa (En (v:=.ty "list") rfl T.b_list A2b rfl) Ab))))) (GE (AI Ds (AO Bh rfl T.b_len K2 (Aa (pv 2) Ab)) Ae (AM _))))) (Ag (Au CH)) AF) (Ac (Ax (i:=5) Dz.nd rfl (Or.inl rfl) Il) (Ac (Ax (i:=6) Dz.nd rfl (Or.inl rfl) Il) (Ac (BE X6 rfl (Bc (pv 2)) (AL (i:=7) Dz.nd rfl (Or.inl rfl)) (Ac (AU (PW.pt (Jd (CK (CD (Az bV (rm hr) rfl Aq (Aa (pv 7) Ab)))) (GE (OW (pc_din (DS hr) (Dd (Aa (Al An (pv 7) Ae (λ_ _=>rfl)) (Aa (Al An (pv 7) Ae (λ_ _=>rfl)) Ab))) (pv 5)))))) (Ag (Au CH)) AF) (Ac (AU (CK (CD (Az b9 (rm hr) rfl Aq (Aa (pv 0) (Aa (pv 1) (Aa (pv 5) (Aa (pv 6) (Aa (pv 7) Ab)))))))) (Ag (Au CH)) AF) (Ag (FF (DS hr) (pv 5) (Dd (Aa (Al An (pv 7) Ae (λ_ _=>rfl)) (Aa (Al An (pv 7) Ae (λ_ _=>rfl)) Ab))) (Al An (pv 7) Ae (λ_ _=>rfl)) rfl))))) (Ag (Au (Lg (EG (TM hr.units) (Dd (Aa (Al An (Al Ar (pv 2) (MO Jh Ae) (λ_ _=>rfl)) Ae (λ_ _=>rfl)) (Aa (Al An (Al Ar (pv 2) (MO Jh Ae) (λ_ _=>rfl)) Ae (λ_ _=>rfl)) Ab))) (Dd (Aa (pv 3) (Aa (pv 4) Ab))) (AM _)) (Le (EG Ds (AO Uz rfl T.b_len K2 (Aa (pv 6) Ab)) (AK Cd (AO Bh rfl T.b_len K2 (Aa (pv 2) Ab)) Ae) (AM _)))))))))),?_⟩
  try dsimp only[cxK]
  have lts:ts.length=init.length+1:=by rw[X5 prs,B8];rfl
  refine AS ?_;intro r_k1 s_k1 k1 hk1 E_k1;refine xq1 rfl ⟨_,_,_,.type "list",true,rfl,rfl,.of (.lst hR),kit_ll K,true,rfl,Bq ?_⟩;refine xq1 rfl ⟨R,(xq1 rfl ⟨.inl (SqL.of hR),rfl,false,?_,Bq ?_⟩)⟩
  ·exact X8 V.bl (Z2 (by intro z;injection z with z;rw[B6,lts]at z;lia))
  refine hk1 ?_;refine AS ?_;intro r_k2 s_k2 k2 hk2 E_k2;intro TD hTD;show k2 _ (upd H TD (.dT []));generalize bH:upd H TD _=H1;obtain⟨s1,hT1⟩:=alc hTD bH;refine hk2 ?_;refine AS ?_;intro r_k3 s_k3 k3 hk3 E_k3;intro UD hUD;show k3 _ (upd H1 UD (.dT []));generalize cC:upd H1 UD _=H2;obtain⟨s2,hU2⟩:=alc hUD cC;refine hk3 ?_;have nTU:TD≠UD:=Ah hT1 hUD;have hT2:=s2 _ _ hT1;have s02:=s1.trans s2;have nU0:H UD=none:=Av.noneN s1 hUD;have nTn:TD≠g.nm:=Z7 (Ah hg.nm hTD);have nUn:UD≠g.nm:=Z7 (Ah hg.nm nU0);clear s1 s2 hT1;refine AS ?_;intro r_k4 s_k4 k4 hk4 E_k4;refine xq1 rfl ⟨R,rfl,⟨_,SqL.of (s02 _ _ hR)⟩,?_⟩;have frt:∀{Hy:Hp}{t:Addr}{ys:List V},Fr g H Hy->H t=some (.tup ys)->Hy t=some (.tup ys):=λ{Hy t ys} f h=>by
   obtain⟨tg,g3,_⟩:=hg.pt;exact f _ _ h (As h hg.lv A2) (As h g3 A2) (As h hg.nm A2)
  refine Cw (xs:=ts.map V.ref) (λi σ Hy=>∃(G5:Gv)(us:List (Nat×Nat))(u7:Option V),σ=[some (.ref g.p),some (.ref cq),some (.ref R),some (.int n),some (.int e),some (.ref TD),some (.ref UD),u7]/\Fr g H Hy/\AD a Hy g G5/\AQ G G5 (20*i)/\Hy TD=some (.dT (kvT ((init++[(⟨n,e,mm⟩:T3)]).take i)))/\Hy UD=some (.dT (kvS us))/\us.Nodup/\us.length<=20*i/\∀d,d∈us ↔ ∃q∈(init++[(⟨n,e,mm⟩:T3)]).take i,∃ds,Dep (rl.map LC4.a) G q.n q.e ds/\d∈ds) ⟨G,[],none,rfl,Av.fr s02,hg.same s02,AQ.refl ok,hT2,hU2,P2,C8 _,λd=>⟨λz=>(nomatch z),λ⟨q,hq,_⟩=>(nomatch hq)⟩⟩ (λi σ Hy _ z=>by obtain⟨_,_,_,_,fr,_⟩:=z;exact SqL.of (fr _ _ hR nR.1 nR.2 (As hR hg.nm A2))) ?_ ?_
  ·rintro i v σ Hy ev z5_;apply AE;intro G_ hG_;obtain⟨G5,us,u7,rfl,fr,hgy,go5,hTy,hUy,ndu,lu,memu⟩:=z5_;apply hG_;clear hG_ G_;rw[B9]at ev;obtain⟨t,et,rfl⟩:=D5.mp ev;obtain⟨q,eq,ht⟩:=Paired.get prs et;have hi:i<init.length+1:=by have:=(B7.mp et).1;lia
   have hty:Hy t=some (.tup [toV q.n,toV q.e,toV q.m]):=frt fr ht;have gf5:=go5.few;have tk:(init++[(⟨n,e,mm⟩:T3)]).take (i+1)=(init++[(⟨n,e,mm⟩:T3)]).take i++[q]:=by rw[F4,eq,J0]
   have nkey:q.key∉((init++[(⟨n,e,mm⟩:T3)]).take i).map T3.key:=by
    have nd:=rsn.nd;rw[<-O8 (i+1) (init++[(⟨n,e,mm⟩:T3)]),tk,C0,C0]at nd;have nd2:=(N1.mp (N1.mp nd).1).2.2;exact λz=>nd2 _ z _ (C7.mpr rfl) rfl
   have ndt:(((init++[(⟨n,e,mm⟩:T3)]).take i).map T3.key).Nodup:=by
    have nd:=rsn.nd;rw[<-O8 i (init++[(⟨n,e,mm⟩:T3)]),C0]at nd;exact(N1.mp nd).1
   obtain⟨ds,dep,dsub⟩:=rsn.dep i q eq;rw[S7]at dsub;have mem':∀p∈(init++[(⟨n,e,mm⟩:T3)]).take i,JR (rl.map LC4.a) G5 p.e p.n p.m:=λp hp=>(rsn.ok p (W3 hp)).goes ok go5;have jq:=(rsn.ok q (D7 eq)).goes ok go5;generalize (init++[(⟨n,e,mm⟩:T3)]).take i=rows at hTy memu tk nkey ndt dsub mem';refine AS ?_;intro r_k5 s_k5 k5 hk5 E_k5;refine xq1 rfl ⟨t,q.n,q.e,q.m,rfl,hty,true,rfl,Bq ?_⟩;refine xwi rfl rfl rfl (SqT.of hty) (Am (j:=0) rfl) (xwi rfl rfl rfl (SqT.of hty) (Am (j:=1) rfl) ⟨(by show 2<=sizeLine;decide),λtq htq=>(xq1 rfl ⟨TD,(xq1 rfl ⟨Fx.t (k:=pk q.key) (Ai htq _ _ hTy) Af,?_⟩)⟩)⟩);rw[show BK (kvT rows) (pk q.key)=none from JJ T3.key _ nkey];have s6:Av Hy (upd Hy tq (.tup [toV q.n,toV q.e])):=Ai htq;refine⟨false,rfl,Bq ?_⟩;show k5 _ (upd Hy tq (.tup [toV q.n,toV q.e]));generalize upd Hy tq (.tup [toV q.n,toV q.e])=H6 at s6⊢;refine hk5 ?_;refine AS ?_;intro r_k6 s_k6 k6 hk6 E_k6;refine xw3 rfl rfl rfl (xw2 rfl rfl ⟨g,G5,cq,TD,UD,t,rl,rows,us,q.n,q.e,q.m,ds,rfl,hgy.same s6,go5.ok,D4 l56 go5.le,by lia,(hq.kps (fr.kps hg l56) rok).same s6,rok,s6 _ _ hTy,ndt,s6 _ _ hUy,nTU,nTn,nUn,s6 _ _ hty,jq,dep.goes ok go5,dsub,mem',by lia,λus' G7 H7 fr7 hg7 go7 hU7 mem7 nd7 len7=>⟨true,rfl,Bq ?_⟩⟩);refine hk6 ?_;obtain⟨tg,g3,_⟩:=hgy.pt;have hT7:H7 TD=some (.dT (kvT rows)):=fr7 _ _ (s6 _ _ hTy) (As hTy hgy.lv A2) (As hTy g3 A2) nTn nTU;have ht7:H7 t=some (.tup [toV q.n,toV q.e,toV q.m]):=fr7 _ _ (s6 _ _ hty) (As hty hgy.lv A2) (As hty g3 A2) (As hty hgy.nm A2) (As hty hUy A2);have lr:rows.length<5000:=by
    have:=X8 List.length tk;rw[J7,B8,B8]at this;simp only[M5]at this;lia
   refine xwi rfl rfl rfl (SqT.of ht7) (Am (j:=2) rfl) (xwj rfl rfl rfl rfl (SqT.of ht7) (Am (j:=0) rfl) (xwi rfl rfl rfl (SqT.of ht7) (Am (j:=1) rfl) ⟨(by show 2<=sizeLine;decide),λtp htp=>⟨TD,(xq1 rfl ⟨JS.t (k:=pk q.key) (Ai htp _ _ hT7) Af (by rw[show(kvT rows).length=rows.length from B6 _];exact M7 lr A3),?_⟩)⟩⟩));rw[show EX (kvT rows) (pk q.key) (toV q.m)=kvT (rows++[q])from SW T3.key (λq=>toV q.m) nkey];have s8:Av H7 (upd H7 tp (.tup [toV q.n,toV q.e])):=Ai htp;show ∃_,_;generalize upd H7 tp (.tup [toV q.n,toV q.e])=H8 at s8⊢;have up:∀{b o},H8 b=some o->b≠TD->upd H8 TD (.dT (kvT (rows++[q]))) b=some o:=λ{b o} e n=>by rw[Ao n];exact e
   have hT8:=s8 _ _ hT7;refine⟨G7,us',(xq1 rfl ⟨λb o e n1 n2 n3=>?_,?_,?_,?_,?_,nd7 ndu,by lia,λd=>?_⟩)⟩
   ·exact up (s8 _ _ (fr7 _ _ (s6 _ _ (fr _ _ e n1 n2 n3)) n1 n2 n3 (Ah e nU0))) (Ah e hTD)
   ·have hg8:=hg7.same s8;obtain⟨th,g4,g5⟩:=hg8.pt;exact⟨up hg8.hp (As hg8.hp hT8 A2),up hg8.lv (As hg8.lv hT8 A2),⟨th,up g4 (As g4 hT8 A2),PairedM.imp (λt q z=>up z (As z hT8 A2)) g5⟩,up hg8.nm (Z7 nTn),hg8.ne⟩
   ·exact(go5.trans go7).mono A1
   ·rw[Af,tk]
   ·exact up (s8 _ _ hU7) (Z7 nTU)
   ·rw[mem7,memu,tk];constructor
    ·rintro(⟨p,hp,es,h1,h2⟩|z)
     ·exact⟨p,D1.mpr (.inl hp),es,h1,h2⟩
     ·exact⟨q,D1.mpr (.inr (C7.mpr rfl)),ds,dep,z⟩
    ·rintro z0_;apply AE;intro G_ hG_;obtain⟨p,hp,es,h1,h2⟩:=z0_;apply hG_;clear hG_ G_;rcases D1.mp hp with z|z
     ·exact .inl ⟨p,z,es,h1,h2⟩
     ·rw[C7.mp z]at h1;exact .inr (Dep.one ok h1 dep▸h2)
  ·rintro σ Hy z2_;apply AE;intro G_ hG_;obtain⟨G5,us,u7,rfl,fr,hgy,go5,hTy,hUy,ndu,lu,memu⟩:=z2_;apply hG_;clear hG_ G_;refine hk4 ?_;have e1:(ts.map V.ref).length=(init++[(⟨n,e,mm⟩:T3)]).length:=by rw[B6,lts,B8];rfl
   rw[e1,F7]at memu;rw[B6,lts]at go5;have hRy:=fr _ _ hR nR.1 nR.2 (As hR hg.nm A2);have y1_:∃ti tl,ts=ti++[tl]/\Paired (Cf H) ti init/\Cf H tl ⟨n,e,mm⟩:=Rf prs;apply AE;intro G_ hG_;obtain⟨ti,tl,rfl,hpi,hpl⟩:=y1_;apply hG_;clear hG_ G_;have htl:Hy tl=some (.tup [toV n,toV e,toV mm]):=frt fr hpl;have ul:us.length=init.length:=Rsn.used ok (d:=(n,e)) rsn ndu memu;have hRy':Hy R=some (.lst (ti.map V.ref++[.ref tl])):=by rw[hRy,C0];rfl
   have al:atI (ti.map V.ref++[V.ref tl]) (-1)=some (.ref tl):=ND (by rw[W4];rfl);refine xwj rfl rfl rfl rfl (SqL.of hRy') al (xq4 rfl rfl (SqT.of htl) (Am (j:=0) rfl) (xwj rfl rfl rfl rfl (SqL.of hRy') al (xq4 rfl rfl (SqT.of htl) (Am (j:=1) rfl) ⟨(by show 2<=sizeLine;decide),λta hta=>?_⟩)));refine xw2 rfl rfl ⟨(by show 2<=sizeLine;decide),λtb htb=>?_⟩;have sa:Av Hy (upd Hy ta (.tup [toV n,toV e])):=Ai hta;have ha:upd Hy ta (.tup [toV n,toV e]) ta=some (.tup ([(n:Int),(e:Int)].map V.int)):=Af;generalize upd Hy ta (.tup [toV n,toV e])=Ha at sa ha htb⊢;generalize e_sb:upd Ha tb _=Hb;obtain⟨sb,hb⟩:=alc (o:=(.tup ([(n:Int),(e:Int)].map V.int))) htb e_sb;have syb:=sa.trans sb;refine⟨ta,tb,[(n:Int),(e:Int)],[(n:Int),(e:Int)],rfl,rfl,SqT.of (sb _ _ ha),SqT.of hb,true,X8 V.bl (Z1 rfl),CN ?_⟩;refine xq1 rfl ⟨UD,(xq1 rfl ⟨.inl (syb _ _ hUy),(xq1 rfl ⟨R,(xq1 rfl ⟨.inl (SqL.of (syb _ _ hRy)),(xq2 rfl rfl ⟨rfl,?_⟩)⟩)⟩)⟩)⟩;rw[Po,ul,B6,lts,Z1 (X8 V.int (show(init.length:Int)=((init.length+1:Nat):Int)-1 by lia))];exact k G5 Hb (fr.trans (Av.fr syb)) (hgy.same syb) (go5.mono A1)
end
end J
namespace J
open PySem L2
theorem CY.putL{H:Hp}{g:GA}{G:Gv}{N M:Nat}{r:AA}{m:MA}{x:Addr}{xs:List V}{o:HO}(h:CY H g G N M r m)(ok:GOk G)(hx:H x=some (.lst xs))(n:x≠m.l):CY (upd H x o) g G N M r m:=by
 have other:∀{b v},H b=some v->(∀l,v≠.lst l)->upd H x o b=some v:=λ{b v} e n=>by rw[Ao (As e hx (n _))];exact e
 refine h.kp ok (AQ.refl ok) λb o e w=>?_;rcases w with z|z|z|z
 ·have e2:=h.tp;rw[<-z,e]at e2;cases e2;exact other e A6
 ·rw[z]at e⊢;rw[Ao (Z7 n)];exact e
 ·obtain⟨j,hj⟩:=E8 z;obtain⟨kv,e2,_⟩:=h.sq j b hj;rw[e]at e2;cases e2;exact other e A6
 ·obtain⟨kc,e2,_⟩:=h.ce;rw[z]at e⊢;rw[e]at e2;cases e2;exact other e A6
section
variable{a:Ad}{H H':Hp}{g:GA}{G G':Gv}{N M N' M' i C:Nat}{b:JB}{ms:List (Str×MA)}
theorem Fw.c(h:Fw a H g G N M b ms)(f:FrJ g b.m H H')(j':JW a H' g G' (N+C) (M+C) b.p b.dx b.mem b.pr b.r b.m)(go:AQ G G' i):Fw a H' g G' (N+C) (M+C) b ms:=by
 have j:JW a H g G N M b.p b.dx b.mem b.pr b.r b.m:=h.j;obtain⟨_,_,_,_,nm⟩:=h.me.all _ h.cur;refine⟨j',⟨f.mem j.gr j.me h.me.hm nm,λe he=>?_,h.me.dj⟩,h.cur⟩;obtain⟨r,e1,e2,e3,e4⟩:=h.me.all e he;rcases h.me.dj e he _ h.cur with z|z
 ·rw[z];exact⟨b.r,rfl,j.rok,j'.me,nm⟩
 ·exact⟨r,e1,e2,(e3.frJ j.me j.gr j.ok z f go).mono A1 A1,e4⟩
theorem Fw.fr(h:Fw a H g G N M b ms)(f:Fr g H H')(hg':AD a H' g G')(go:AQ G G' i):Fw a H' g G' N M b ms:=by
 have j:JW a H g G N M b.p b.dx b.mem b.pr b.r b.m:=h.j;obtain⟨_,_,_,_,nm⟩:=h.me.all _ h.cur;refine⟨j.fr f hg' go,⟨f.j.mem j.gr j.me h.me.hm nm,λe he=>?_,h.me.dj⟩,h.cur⟩;obtain⟨r,e1,e2,e3,e4⟩:=h.me.all e he;exact⟨r,e1,e2,e3.fr j.gr j.ok f go,e4⟩
theorem Fw.mono(h:Fw a H g G N M b ms)(e1:N<=N')(e2:M<=M'):Fw a H g G N' M' b ms:=by
 refine⟨JW.mono h.j e1 e2,⟨h.me.hm,λe he=>?_,h.me.dj⟩,h.cur⟩;obtain⟨r,f1,f2,f3,f4⟩:=h.me.all e he;exact⟨r,f1,f2,f3.mono e1 e2,f4⟩
theorem Fw.putL{x:Addr}{xs:List V}{o:HO}(h:Fw a H g G N M b ms)(hx:H x=some (.lst xs))(n1:x≠g.lv)(n2:x≠g.pt)(n3:x≠g.br)(n4:∀e∈ms,x≠e.2.l):Fw a (upd H x o) g G N M b ms:=by
 have j:JW a H g G N M b.p b.dx b.mem b.pr b.r b.m:=h.j;refine⟨j.putL hx n1 n2 n3 (n4 _ h.cur),⟨by rw[Ao (As h.me.hm hx A2)];exact h.me.hm,λe he=>?_,h.me.dj⟩,h.cur⟩;obtain⟨r,f1,f2,f3,f4⟩:=h.me.all e he;exact⟨r,f1,f2,f3.putL j.ok hx (n4 e he),f4⟩
theorem Fw.new(h:Fw a H g G N M b ms){x:Addr}(n:∀y o,H y=some o->y≠x):x≠g.lv/\x≠g.pt/\x≠g.br/\∀e∈ms,x≠e.2.l:=by
 have j:JW a H g G N M b.p b.dx b.mem b.pr b.r b.m:=h.j;obtain⟨ts,h3,_⟩:=j.gr.pt;refine⟨Z7 (n _ _ j.gr.lv),Z7 (n _ _ h3),Z7 (n _ _ j.br),λe he=>?_⟩;obtain⟨r,_,_,f3,_⟩:=h.me.all e he;exact Z7 (n _ _ f3.l)
end
theorem FrJ.atL{a:Ad}{H H':Hp}{g:GA}{G:Gv}{N M:Nat}{r:AA}{m:MA}{x:Addr}{xs:List V}(f:FrJ g m H H')(hm:CY H g G N M r m)(hg:AD a H g G)(e:H x=some (.lst xs))(n1:x≠g.lv)(n2:x≠g.pt):H' x=some (.lst xs):=by
 obtain⟨kc,c1,_⟩:=hm.ce;refine f _ _ e n1 n2 (As e hg.nm A2) (As e c1 A2) λz=>?_;obtain⟨j,hj'⟩:=E8 z;obtain⟨kv',e2,_⟩:=hm.sq j x hj';rw[e]at e2;cases e2
theorem Qi:∀{l m:List (List Int)},l.Pairwise (λp q=>CU q p=false)->m.Pairwise (λp q=>CU q p=false)->l.Perm m->l=m
 |[],m,_,_,h=>(List.nil_perm.mp h).symm
 |a::l,[],_,_,h=>absurd h.length_eq B1
 |a::l,b::m,h1,h2,h=>by
  rw[T5]at h1 h2;have e:a=b:=by
   have ha:a∈b::m:=h.mem_iff.mp (D8 ..);have hb:b∈a::l:=h.mem_iff.mpr (D8 ..);rcases D6.mp ha with z|z
   ·exact z
   ·rcases D6.mp hb with y|y
    ·exact y.symm
    ·exact Qy (h2.1 a z) (h1.1 b y)
  subst e;rw[Qi h1.2 h2.2 h.cons_inv]
theorem LD.rows{out:List (Addr×List Int)}(h:LD out):(out.map (·.2)).Pairwise (λp q=>CU q p=false):=Y7.mpr h
def r3(q:T3):List Int:=[(q.n:Int),(q.e:Int),(q.m:Int)]
theorem Nj{H:Hp}:∀{ts:List Addr}{rows:List T3},Paired (Cf H) ts rows->∃items:List (Addr×List Int),(items.map λq=>V.ref q.1)=ts.map V.ref/\items.map (·.2)=rows.map r3/\∀q∈items,H q.1=some (.tup (q.2.map V.int))/\q.2≠[]
 |[],[],.nil=>⟨[],rfl,rfl,λq hq=>(nomatch hq)⟩
 |t::ts,q::rows,.cons h p=>by
  obtain⟨items,e1,e2,e3⟩:=Nj p;refine⟨(t,r3 q)::items,by rw[F0,F0,e1],by rw[F0,F0,e2],λx hx=>?_⟩;rcases D6.mp hx with rfl|hx
  ·exact⟨h,λz=>(nomatch z)⟩
  ·exact e3 x hx
theorem gD_le:∀l,l<=2->gD l<=4297/\gC l<=183/\cst l<=999:=by decide
seal L2.PA L2.PE L2.PS L2.PSs L2.PT L2.PW
section
variable{P:Program}{w:World}{K:PySem.W.Frag}{mg:Str->Option Value}{base:Heap}{a:Ad}
theorem lev_at:∀n:Nat,n<11->∃lv:Nat,lv<=2/\atI [V.int 3,V.int 3,V.int 2,V.int 3,V.int 3,V.int 4,V.int 3,V.int 3,V.int 2,V.int 3,V.int 3] (n:Int)=some (.int ((lv+2:Nat):Int))
 |0,_=>⟨1,by decide,rfl⟩
 |1,_=>⟨1,by decide,rfl⟩
 |2,_=>⟨0,by decide,rfl⟩
 |3,_=>⟨1,by decide,rfl⟩
 |4,_=>⟨1,by decide,rfl⟩
 |5,_=>⟨2,by decide,rfl⟩
 |6,_=>⟨1,by decide,rfl⟩
 |7,_=>⟨1,by decide,rfl⟩
 |8,_=>⟨0,by decide,rfl⟩
 |9,_=>⟨1,by decide,rfl⟩
 |10,_=>⟨1,by decide,rfl⟩
 |n+11,h=>absurd h A1
theorem ok_law{f:Addr}{fd:FuncData}(F:Fun K "law" "law" Qf f fd)(T:Top K mg a)(cO:PK P w K mg base CX0 2 "Grove" a.c_Grove GN (OO a))(aN:Cal P w K mg base CX0 1 "_law_at" IP (spAt K))(aW:Cal P w K mg base CX0 3 "_law_clauses_by" DN Vb)(bO:Cal P w K mg base CX0 2 "_law_text" Io UU)(bN:Cal P w K mg base CX0 8 "read_rule" Im (spRR a))(cN:PK P w K mg base CX0 3 "Jumps" a.c_Jumps GM (ON a))(bL:Cal P w K mg base CX0 2 "_law_grid_by" Fe (spGb K))(bX:Cal P w K mg base CX0 5 "_law_knit" Ip (Rk a))(bB:BJ P w K mg base CX0 20 a.c_Jumps "after" FY (Ev a 3))(a7:BJ P w K mg base CX0 3 a.c_Grove "level_of" BF (Mt a))(aR:BJ P w K mg base CX0 2 a.c_Jumps "change" DP (Su a))(b7:BJ P w K mg base CX0 24 a.c_Jumps "reasons" EA (spRs a 3))(bS:Cal P w K mg base CX0 8 "_law_walked" FV (spWa a))(aX:Cal P w K mg base CX0 1 "_law_same" FH OI):AR P w K mg base CX0 30 f fd ["_law_script"] (Sr K):=by
 refine F.ok (ps:=["_law_script"]) Da (λvs H Q E h=>?_) (λcdv A outer s H vs Q E hr h=>?_)
 ·apply AE;intro G_ hG_;obtain⟨l,ns,rfl,_⟩:=h;apply hG_;clear hG_ G_;rfl
 ·apply AE;intro G_ hG_;obtain⟨l,ns,rfl,hS,hlen,kQ⟩:=h;apply hG_;clear hG_ G_;refine⟨_,(Ac (Ax (i:=1) Da.nd rfl (Or.inl rfl) (Vt cO (rm hr) rfl Aq)) (Ac (Ax (i:=2) Da.nd rfl (Or.inl rfl) (Bn (AH (Ck Bo Ae (AK BU (Az aN (rm hr) rfl Aq (Aa (pv 0) (AH Ab))) Ae) (Ck Bo Ae (AK BU (Az aN (rm hr) rfl Aq (Aa (pv 0) (AH Ab))) Ae) (Ck BU (Az aN (rm hr) rfl Aq (Aa (pv 0) (AH Ab))) Ae Ab)))))) (Ac (Ax (i:=3) Da.nd rfl (Or.inl rfl) (Az aW (rm hr) rfl Aq (Aa (BL rfl (Bk.of (So:=Ak Qf) (No:=VH) (N:=["_law_k","_law_script"]) (k:=1) (cs:=[0]) rfl rfl A0) (BR rfl T.b_range (Ck BU (Az aN (rm hr) rfl Aq (Aa (pv 0) (AH Ab))) Ae Ab)) (λ_ _ _=>(AV (i:=0) A0 rfl rfl)) (λ_ _ _=>Bp) (λ_ _ _=>(Az aN (rm hr) rfl Aq (Aa (pv 1) (Ck Bo Ae (pv 0) Ab))))) (Aa (pv 2) Ab)))) (Ac (Ax (i:=4) Da.nd rfl (Or.inl rfl) (AK BU (AK IQ (Az aN (rm hr) rfl Aq (Aa (pv 0) (AH Ab))) Ae) Ae)) (Ac (Ax (i:=5) Da.nd rfl (Or.inl rfl) (Az aW (rm hr) rfl Aq (Aa (BL rfl (Bk.of (So:=Ak Qf) (No:=VH) (N:=["_law_k","_law_script"]) (k:=1) (cs:=[0]) rfl rfl A0) (BR rfl T.b_range (Aa (pv 4) Ab)) (λ_ _ _=>(AV (i:=0) A0 rfl rfl)) (λ_ _ _=>Bp) (λ_ _ _=>(AK IQ (Az aN (rm hr) rfl Aq (Aa (pv 1) (Ck Bo Ae (pv 0) Ab))) Ae))) (Aa (pv 2) Ab)))) (Ac (Ax (i:=6) Da.nd rfl (Or.inl rfl) (Az bN (rm hr) rfl Aq (Aa (Az bO (rm hr) rfl Aq (Aa (pv 3) Ab)) Ab))) (Ac (Ax (i:=7) Da.nd rfl (Or.inl rfl) (Az bN (rm hr) rfl Aq (Aa (Az bO (rm hr) rfl Aq (Aa (pv 5) Ab)) Ab))) (Ac (Ax (i:=8) Da.nd rfl (Or.inl rfl) (Al An (Dd (AH (AH (AH (AH (AH (AH (AH (AH (AH (AH (AH Ab)))))))))))) (AK BU (Az aN (rm hr) rfl Aq (Aa (pv 0) (AH Ab))) Ae) (λ_ _=>rfl))) (Ac (Ax (i:=9) Da.nd rfl (Or.inl rfl) (AK BU (AK IQ (Az aN (rm hr) rfl Aq (Aa (pv 0) (AH Ab))) Ae) (AK Cd (pv 8) Ae))) (Ac (Ax (i:=10) Da.nd rfl (Or.inl rfl) (Az bX (rm hr) rfl Aq (Aa (pv 1) (Aa (Az bL (rm hr) rfl Aq (Aa (pv 0) (Ck op_shl Ae (pv 8) (Aa (pv 2) Ab)))) Ab)))) (Ac (Ax (i:=11) Da.nd rfl (Or.inl rfl) (JC cN (rm hr) rfl Aq (Aa (pv 1) (Aa (pv 6) Ab)))) (Ac (AU (PW.pt (Rq (AI Ds (AK BU (AK IQ (Az aN (rm hr) rfl Aq (Aa (pv 0) (AH Ab))) Ae) Ae) Ae (AM _)) (OV (CK (CD (Az aX (rm hr) rfl Aq (Aa (Ay (pv 1) a7 (rm hr) Aq (Aa (Ay (pv 11) bB (rm hr) Aq (Aa (pv 10) (Aa (pv 9) Ab))) Ab)) (Ck Cd (pv 8) Ae Ab)))))))) (Ag (Au CH)) AF) (Ac (BE X6 rfl (Bc (Bn (Bx (Aa (pv 6) (Aa (pv 3) Ab)) (Bx (Aa (pv 7) (Aa (pv 5) Ab)) (Bx (Aa (pv 6) (Aa (pv 3) Ab)) Ab))))) (EY rfl (AY (AL (i:=12) Da.nd rfl (Or.inl rfl)) (AY (AL (i:=13) Da.nd rfl (Or.inl rfl)) DK))) (Ac (AU (AI op_notN (Ay (pv 11) aR (rm hr) Aq (Aa (pv 12) Ab)) Ik (AM _)) (Ag (Au CH)) AF) (Ac (Ax (i:=14) Da.nd rfl (Or.inl rfl) (Ay (pv 11) b7 (rm hr) Aq (Aa (pv 10) (Aa (pv 9) Ab)))) (Ac (AU (CK (CD (Az bS (rm hr) rfl Aq (Aa (pv 1) (Aa (pv 13) (Aa (pv 14) (Aa (pv 10) (Aa (pv 9) Ab)))))))) (Ag (Au CH)) AF) (Ac (Ax (i:=15) Da.nd rfl (Or.inl rfl) (Bv GT rfl T.b_list A2b (Aa (pv 14) Ab))) (Ac (AZ (pe_bm0 Z8 PySem.F.slot_list_reverse PySem.F.type_list_reverse RD (pv 14))) (Ac (AZ (Ce Z8 Z9 X4 Ba (pv 14) (Bx (AH (AH (AH Ab))) Ab))) (Ac (AU (CK (CD (Az aX (rm hr) rfl Aq (Aa (Ay (pv 11) bB (rm hr) Aq (Aa (pv 10) (Aa (pv 9) Ab))) (Aa (Al An (Al Ar (pv 15) (MO Jh Ae) (λ_ _=>rfl)) Ae (λ_ _=>rfl)) Ab))))) (Ag (Au CH)) AF) (Ag (AU (AI (Qm hr.units) (AO JP rfl T.b_sorted PyProof.Rows.boot_sorted (Aa (Ay (pv 11) b7 (rm hr) Aq (Aa (pv 10) (Aa (pv 9) Ab))) Ab)) (AO JP rfl T.b_sorted PyProof.Rows.boot_sorted (Aa (pv 15) Ab)) (AM _)) (Ag (Au CH)) AF)))))))))) (Ag (Au CH))))))))))))))),?_⟩
  try dsimp only[cxK]
  refine AS ?_;intro r_k0 s_k0 k0 hk0 E_k0;intro x dx nx ndx nex;refine⟨x,dx,rfl,Af,λg H1 gp N=>⟨rfl,?_⟩⟩;have s1:Av H H1:=λb o e=>N.kp b o (by rw[Ao (Ah e nx),Ao (Ah e ndx)];exact e) (gp▸Ah e nx);subst gp;have hg1:=N.at';have hbr1:=N.br;have nb:=And.intro N.n1 N.n2;have apl:∀o,H l=some o->l≠g.lv/\l≠g.pt/\l≠g.nm:=λo e=>by
   have e2:upd (upd H dx (.own g.p)) g.p (.ins a.c_Grove dx []) l=some o:=by rw[Ao (Ah e nx),Ao (Ah e ndx)];exact e
   exact⟨Ah e2 N.fresh.1,Ah e2 N.fresh.2.1,Ah e2 N.fresh.2.2.1⟩
  clear N;have hS1:=s1.seq hS;refine hk0 ?_;refine AS ?_;intro r_k1 s_k1 k1 hk1 E_k1;refine xq1 rfl ⟨l,ns,0,rfl,hS1,by decide,(xq2 rfl rfl ⟨(by show(0:Int)<7;decide),(xq2 rfl rfl (xq1 rfl ⟨l,ns,1,rfl,hS1,by decide,(xq2 rfl rfl ⟨(by show(0:Int)<7;decide),(xq2 rfl rfl (xq1 rfl ⟨l,ns,2,rfl,hS1,by decide,(xq2 rfl rfl ⟨(by show(0:Int)<8;decide),(by show 4<=sizeLine;decide),λfw hfw=>?_⟩)⟩))⟩)⟩))⟩)⟩;have s2:Av H1 (upd H1 fw (.lst [.int 0,.int (1+atN ns 0%7),.int (1+atN ns 1%7),.int (atN ns 2%8)])):=Ai hfw;have hf2:PJ (upd H1 fw (.lst [.int 0,.int (1+atN ns 0%7),.int (1+atN ns 1%7),.int (atN ns 2%8)])) fw:=⟨_,_,_,_,Af,⟨by decide,by decide⟩,⟨by lia,by lia⟩,⟨by lia,by lia⟩,⟨by lia,by lia⟩⟩
  show k1 _ (upd H1 fw (.lst [.int 0,.int (1+atN ns 0%7),.int (1+atN ns 1%7),.int (atN ns 2%8)]));generalize upd H1 fw (.lst [.int 0,.int (1+atN ns 0%7),.int (1+atN ns 1%7),.int (atN ns 2%8)])=H2 at s2 hf2⊢;refine hk1 ?_;have hSa1:SqL K H2 l (ns.map V.int):=s2.seq hS1;obtain⟨m1,hm1⟩:∃m:Nat,atN ns 3%5=(m:Int):=⟨(atN ns 3%5).toNat,by lia⟩
  have ml1:m1<5:=by lia
  refine AS ?_;intro r_k2 s_k2 k2 hk2 E_k2;refine xq1 rfl ⟨l,ns,3,rfl,hSa1,by decide,(xq2 rfl rfl ⟨(by show(0:Int)<5;decide),(m1:Int),X8 (λz=>[V.int z]) hm1,by lia,by lia,?_⟩)⟩;rw[L8];refine Gj (n:=m1) (λi acc Hx=>H2=Hx/\∃ys:List Int,acc=ys.map V.int/\ys.length=i) ⟨rfl,[],rfl,rfl⟩ ?_ ?_
  ·rintro i acc Hx hi z4_;apply AE;intro G_ hG_;obtain⟨rfl,ys,rfl,ln⟩:=z4_;apply hG_;clear hG_ G_;refine⟨⟨[some (.int (0+(i:Int)))],rfl,rfl⟩,?_,Eu (xq1 rfl (xq1 rfl (xq2 rfl rfl ⟨l,ns,_,rfl,hSa1,by lia,rfl,ys++[_],by rw[C0];rfl,by rw[B8,ln];rfl⟩)))⟩;rw[B6,ln];exact F5 hi (D4 (M0 ml1) A3)
  rintro acc Hx z2_ CL1 hCL1;apply AE;intro G_ hG_;obtain⟨rfl,ys1,rfl,ln1⟩:=z2_;apply hG_;clear hG_ G_;refine xq1 rfl ⟨CL1,fw,ys1,rfl,Af,by lia,hf2.same (Ai hCL1),λq1 r1 H3 s3 hq1 ok1 z1=>?_⟩;have s3:Av H2 H3:=(show Av H2 _ from Ai hCL1).trans s3;have hf3:=hf2.same s3;have hSa2:SqL K H3 l (ns.map V.int):=s3.seq hSa1;refine hk2 ?_;refine AS ?_;intro r_k3 s_k3 k3 hk3 E_k3;refine xq1 rfl ⟨l,ns,3,rfl,hSa2,by decide,(xq2 rfl rfl ⟨⟨by decide,by decide⟩,(xq2 rfl rfl ⟨(by show(0:Int)<5;decide),?_⟩)⟩)⟩;refine hk3 ?_;obtain⟨m2,hm2⟩:∃m:Nat,atN ns 3/5%5=(m:Int):=⟨(atN ns 3/5%5).toNat,by lia⟩
  have ml2:m2<5:=by lia
  refine AS ?_;intro r_k4 s_k4 k4 hk4 E_k4;refine xq1 rfl ⟨(m2:Int),X8 (λz=>[V.int z]) hm2,by lia,by lia,?_⟩;rw[L8];refine Gj (n:=m2) (λi acc Hx=>H3=Hx/\∃ys:List Int,acc=ys.map V.int/\ys.length=i) ⟨rfl,[],rfl,rfl⟩ ?_ ?_
  ·rintro i acc Hx hi z4_;apply AE;intro G_ hG_;obtain⟨rfl,ys,rfl,ln⟩:=z4_;apply hG_;clear hG_ G_;refine⟨⟨[some (.int (0+(i:Int)))],rfl,rfl⟩,?_,Eu (xq1 rfl (xq1 rfl (xq2 rfl rfl ⟨l,ns,_,rfl,hSa2,by lia,_,_,rfl,rfl,⟨by decide,by decide⟩,rfl,ys++[_],by rw[C0];rfl,by rw[B8,ln];rfl⟩)))⟩;rw[B6,ln];exact F5 hi (D4 (M0 ml2) A3)
  rintro acc Hx z2_ CL2 hCL2;apply AE;intro G_ hG_;obtain⟨rfl,ys2,rfl,ln2⟩:=z2_;apply hG_;clear hG_ G_;refine xq1 rfl ⟨CL2,fw,ys2,rfl,Af,by lia,hf3.same (Ai hCL2),λq2 r2 H4 s4 hq2 ok2 z2=>?_⟩;have s4:Av H3 H4:=(show Av H3 _ from Ai hCL2).trans s4;have hf4:=hf3.same s4;have hq14:=hq1.same s4;have s14:=(s2.trans s3).trans s4;refine hk4 ?_;refine AS ?_;intro r_k5 s_k5 k5 hk5 E_k5;refine xq1 rfl ⟨q1,r1,rfl,hq14,ok1,λH5 s5=>⟨r1.map LC4.a,rfl,ok1.t,z1,λpr1 H6 s6 hR1=>?_⟩⟩;have s46:=s5.trans s6;refine hk5 ?_;refine AS ?_;intro r_k6 s_k6 k6 hk6 E_k6;refine xq1 rfl ⟨q2,r2,rfl,hq2.same s46,ok2,λH7 s7=>⟨r2.map LC4.a,rfl,ok2.t,z2,λpr2 Ha sa hR2=>?_⟩⟩;have s6a:=s7.trans sa;have s1a:Av H1 Ha:=(s14.trans s46).trans s6a;have s0a:=s1.trans s1a;have hga:=hg1.same s1a;have hbra:=s1a _ _ hbr1;have bs0:Bs G0:=Pu;have hR1a:=hR1.same s6a;have hq1a:=(hq14.same s46).same s6a;have hq2a:=(hq2.same s46).same s6a;have hfa:=(hf4.same s46).same s6a;have hSa:=s0a.seq hS;clear s1 s2 s3 s4 s5 s6 s7 sa s14 s46 s6a s1a hf2 hf3 hf4 hq1 hq14 hq2 hR1 hg1 hbr1 hSa1 hSa2 hS1 hCL1 hCL2 hfw hm1 hm2;refine hk6 ?_;refine AS ?_;intro r_k7 s_k7 k7 hk7 E_k7;obtain⟨i4,hi4⟩:∃m:Nat,atN ns 4%11=(m:Int):=⟨(atN ns 4%11).toNat,by lia⟩
  obtain⟨lv,lv2,elv⟩:=lev_at i4 A1;rw[<-hi4]at elv;refine⟨(by show 11<=sizeLine;decide),λtt htt=>?_⟩;generalize e_st:upd Ha tt _=Hb;obtain⟨st,htt'⟩:=alc htt e_st;refine xq1 rfl ⟨l,ns,4,rfl,st.seq hSa,by decide,(xq2 rfl rfl ⟨(by show(0:Int)<11;decide),(xq4 rfl rfl (SqT.of htt') elv ?_)⟩)⟩;refine hk7 ?_;refine AS ?_;intro r_k8 s_k8 k8 hk8 E_k8;refine xq1 rfl ⟨l,ns,4,rfl,st.seq hSa,by decide,(xq2 rfl rfl ⟨⟨by decide,by decide⟩,(xwb rfl rfl rfl (xq2 rfl rfl ⟨?_,?_⟩))⟩)⟩
  ·show(0:Int)<((lv+2:Nat):Int)-1;lia
  obtain⟨e,he⟩:∃e:Nat,atN ns 4/11%(((lv+2:Nat):Int)-1)=(e:Int):=⟨(atN ns 4/11%(((lv+2:Nat):Int)-1)).toNat,by have:=W1 (atN ns 4/11) (show((lv+2:Nat):Int)-1≠0 by lia);lia⟩
  have elv2:e<=lv:=by
   have:=W7 (atN ns 4/11) (show 0<((lv+2:Nat):Int)-1 by lia);lia
  show k8 [some (.ref l),some (.ref g.p),some (.ref fw),some (.ref q1),some (.int (atN ns 3/5%5)),some (.ref q2),some (.ref pr1),some (.ref pr2),some (.int ((lv+2:Nat):Int)),some (.int (atN ns 4/11%(((lv+2:Nat):Int)-1))),none,none,none,none,none,none] Hb;rw[he];refine hk8 ?_;clear he elv hi4 htt htt';refine AS ?_;intro r_k9 s_k9 k9 hk9 E_k9;have w16:2^(lv+2)<=16:=S0 (show 0<2 by decide) (show lv+2<=4 by lia);have sh:(1:Int)*2^(((lv+2:Nat):Int)).toNat=((2^(lv+2):Nat):Int):=by rw[Int.one_mul,L8,Vl]
  have sSb:=st.seq hSa;refine xw3 rfl rfl rfl (xq2 rfl rfl ⟨⟨by lia,by lia,by decide⟩,(xq1 rfl ⟨l,fw,ns,2^(lv+2),(show [V.ref l,V.int (1*2^(((lv+2:Nat):Int)).toNat),V.ref fw]=[V.ref l,V.int ((2^(lv+2):Nat):Int),V.ref fw] by rw[sh]),sSb,w16,hfa.same st,λGQ ff Hd sd gr sts=>?_⟩)⟩);have sad:=st.trans sd;have hgd:=hga.same sad;refine⟨g,G0,GQ,lv+2,ff,rfl,hgd,g0_ok,bs0.long,gr,sts,by lia,by rw[RT];decide,λn G1 He fre hge goe len vwn=>?_⟩;have kde:=fre.kps hgd bs0.long;have gfe:=goe.few;rw[RT]at gfe;have hbre:=kde _ _ (sad _ _ hbra) (.lst A0);have hR1e:=(hR1a.same sad).kps kde;have hR2e:=(hR2.same sad).kps kde;have hq1e:=(hq1a.same sad).kps kde ok1;have hq2e:=(hq2a.same sad).kps kde ok2;have bse:=bs0.goes goe;have hSe:SqL K He l (ns.map V.int):=by
   have kk:∀o,H l=some o->He l=some o:=λo e=>fre _ _ (sad _ _ (s0a _ _ e)) (apl o e).1 (apl o e).2.1 (apl o e).2.2;rcases hS with (h|⟨o,h⟩)|h
   ·exact .inl (.inl (kk _ h))
   ·exact .inl (.inr ⟨o,kk _ h⟩)
   ·exact .inr h
  clear gr hfa hga hbra hR1a hR2 hq1a hq2a sh w16 sd st sad hgd vwn;refine hk9 ?_;refine AS ?_;intro r_k10 s_k10 k10 hk10 E_k10;refine xw2 rfl rfl ?_;intro p1 dx1 np1 ndx1 nex1;have nq1:upd He dx1 (.own p1) p1=none:=by rw[Ao (Z7 nex1)];exact np1
  have sj1:Av He (upd (upd He dx1 (.own p1)) p1 (.ins a.c_Jumps dx1 [])):=(show Av He _ from Ai ndx1).trans (Ai nq1);refine⟨p1,dx1,g.p,pr1,BS (r1.map LC4.a),r1.map LC4.a,rfl,Af,hR1e.same sj1,λH8 mem1 m1' fr1 nm1 hp1 hmm1 fre1 htp1 hl1 hkc1 hds1 len1 nd1 nmd1=>⟨rfl,?_⟩⟩;have se8:Av He H8:=λb o e=>fr1 b o (sj1 b o e) (Ah e np1);have mn1:∀{y:Addr},upd (upd He dx1 (.own p1)) p1 (.ins a.c_Jumps dx1 []) y=none->He y=none:=λ{y} e=>Av.noneN sj1 e;have hw1:CY H8 g G1 0 0 (r1.map LC4.a) m1':=CY.new hge (mn1 fre1.2.1) (mn1 fre1.2.2.1) htp1 hl1 hkc1 hds1 len1 nd1;have hg8:=hge.same se8;have hR18:=hR1e.same se8;have hR28:=hR2e.same se8;have hq18:=hq1e.same se8;have hq28:=hq2e.same se8;have jw1:JW a H8 g G1 0 0 p1 dx1 mem1 pr1 (r1.map LC4.a) m1':=⟨hg8,goe.ok,bse,se8 _ _ hbre,nb,hp1,hR18,ok1.t,z1,hw1⟩
  have oj8:Fw a H8 g G1 0 0 ⟨p1,dx1,mem1,pr1,r1,m1'⟩ [(BS (r1.map LC4.a),m1')]:=⟨jw1,⟨hmm1,λe he=>by rw[C7.mp he];exact⟨r1.map LC4.a,rfl,ok1.t,hw1,λz=>nmd1 _ z rfl⟩,λe he e' he'=>.inl (by rw[C7.mp he,C7.mp he'])⟩,C7.mpr rfl⟩
  clear jw1 hw1 mn1 fr1 sj1 nq1 np1 ndx1 nex1 hge hbre hR1e hR2e hq1e hq2e kde hp1 hmm1 fre1 htp1 hl1 hkc1 hds1 nd1 nmd1 hg8 fre;have hS8:=se8.seq hSe;obtain⟨gd,gc,cs⟩:=gD_le lv lv2;refine hk10 ?_;refine AS ?_;intro r_k11 s_k11 k11 hk11 E_k11;have hln:Ap G1 n ((lv+2:Nat):Int):=len;have okG1:GOk G1:=goe.ok;apply Nh (T:=k11) (fun σ Hx=>∃(G:Gv),σ=[some (.ref l),some (.ref g.p),some (.ref fw),some (.ref q1),some (.int (atN ns 3/5%5)),some (.ref q2),some (.ref pr1),some (.ref pr2),some (.int ((lv+2:Nat):Int)),some (.int (e:Int)),some (.int (n:Int)),some (.ref p1),none,none,none,none]/\Fw a Hx g G 1000 1000 ⟨p1,dx1,mem1,pr1,r1,m1'⟩ [(BS (r1.map LC4.a),m1')]/\KpS H8 Hx/\AQ G1 G 1000)
  ·intro rest;refine xq1 rfl ⟨l,ns,4,rfl,hS8,by decide,(xq2 rfl rfl ⟨⟨by decide,by decide⟩,(xq2 rfl rfl ⟨(by show(0:Int)<2;decide),rfl,(xq1 rfl ?_)⟩)⟩)⟩;refine Nk (λ_=>?_) (λ_=>Bq (rest _ _ ⟨G1,rfl,oj8.mono A3 A3,KpS.refl H8,(AQ.refl okG1).mono A3⟩));have j8:JW a H8 g G1 0 0 p1 dx1 mem1 pr1 (r1.map LC4.a) m1':=oj8.j;refine xwn rfl rfl j8.gr.hp (Ed g) rfl (xq3 rfl j8.hp (Of _ _ _ _ _) (xw2 rfl rfl ⟨p1,dx1,mem1,pr1,g,G1,0,0,r1.map LC4.a,m1',n,lv,e,rfl,j8,hln,by lia,elv2,by lia,by lia,by lia,λkk G2 H9 fr9 j9 go9 jr9=>?_⟩));apply AE;intro G_ hG_;obtain⟨l',h1,_,h3,_⟩:=id jr9;apply hG_;clear hG_ G_;have el':l'=lv:=by
    have:=h1.one (go9.lev hln);lia
   subst el';obtain⟨qk,ek,elk⟩:=h3;refine⟨g,G2,kk,qk,rfl,j9.gr,ek,?_⟩;rw[elk];refine xwb rfl rfl rfl ⟨((l'+1:Nat):Int),X8 (λz=>[V.int ((l'+1:Nat):Int),V.int z]) (show((l'+2:Nat):Int)-1=((l'+1:Nat):Int) by lia),true,rfl,Bq ?_⟩;exact rest _ _ ⟨G2,rfl,(oj8.c fr9 j9 go9).mono A1 A1,fr9.kps j8.gr j8.bs.long j8.me,go9.mono A1⟩
  rintro σ Hx z2_;apply AE;intro G_ hG_;obtain⟨G,rfl,oj,kx,go⟩:=z2_;apply hG_;clear hG_ G_;have gf:=go.few;have okG:GOk G:=go.ok;refine hk11 ?_;refine AS ?_;intro r_k12 s_k12 k12 hk12 E_k12;refine xw2 rfl rfl ⟨(by show 2<=sizeLine;decide),λt1 ht1=>?_⟩;show ∃_,_;generalize e_sa1:upd Hx t1 _=Ha1;obtain⟨sa1,ha1⟩:=alc ht1 e_sa1;refine xw2 rfl rfl ⟨(by show 2<=sizeLine;decide),λt2 ht2=>?_⟩;show ∃_,_;generalize e_sa2:upd Ha1 t2 _=Ha2;obtain⟨sa2,ha2⟩:=alc ht2 e_sa2;refine xw2 rfl rfl ⟨(by show 2<=sizeLine;decide),λt3 ht3=>?_⟩;show _/\_;generalize e_sa3:upd Ha2 t3 _=Ha3;obtain⟨sa3,ha3⟩:=alc ht3 e_sa3;refine⟨(by show 3<=sizeLine;decide),λLL hLL=>?_⟩;generalize e_sa4:upd Ha3 LL _=Ha4;obtain⟨sa4,ha4⟩:=alc hLL e_sa4;have sx4:=((sa1.trans sa2).trans sa3).trans sa4;have h14:=sa4 _ _ (sa3 _ _ (sa2 _ _ ha1));have h24:=sa4 _ _ (sa3 _ _ ha2);have h34:=sa4 _ _ ha3;have k84:KpS H8 Ha4:=kx.trans (Av.kps sx4);have oj4:=oj.same sx4;clear sa1 sa2 sa3 sa4 ha1 ha2 ha3 oj kx;refine⟨LL,rfl,⟨_,SqL.of ha4⟩,?_⟩;refine Cw (xs:=[.ref t1,.ref t2,.ref t3]) (λi σ Hz=>∃(G:Gv)(bj:JB)(ms:List (Str×MA))(u12 u13 u14 u15:Option V),σ=[some (.ref l),some (.ref g.p),some (.ref fw),some (.ref q1),some (.int (atN ns 3/5%5)),some (.ref q2),some (.ref pr1),some (.ref pr2),some (.int ((lv+2:Nat):Int)),some (.int (e:Int)),some (.int (n:Int)),some (.ref p1),u12,u13,u14,u15]/\Fw a Hz g G (1000+10000*i) (1000+10000*i) bj ms/\bj.p=p1/\KpS H8 Hz/\AQ G1 G (1000+20000*i)/\ms.length<=1+i/\Hz LL=some (.lst [.ref t1,.ref t2,.ref t3])/\Hz t1=some (.tup [.ref pr1,.ref q1])/\Hz t2=some (.tup [.ref pr2,.ref q2])/\Hz t3=some (.tup [.ref pr1,.ref q1])) ⟨G,_,_,none,none,none,none,rfl,oj4,rfl,k84,go,C8 _,ha4,h14,h24,h34⟩ (λi σ Hz _ z=>by obtain⟨_,_,_,_,_,_,_,_,_,_,_,_,_,z,_⟩:=z;exact SqL.of z) ?_ ?_
  ·rintro i v σ Hz ev z5_;apply AE;intro G_ hG_;obtain⟨G,bj,ms,u12,u13,u14,u15,rfl,oj,bp,kz,goz,lms,hLz,hz1,hz2,hz3⟩:=z5_;apply hG_;clear hG_ G_;have i3:i<3:=(B7.mp ev).1;have y1_:∃(t prn qn:Addr)(rn:List LC4),v=.ref t/\Hz t=some (.tup [.ref prn,.ref qn])/\FK H8 qn rn/\BV a H8 prn (BS (rn.map LC4.a)) (rn.map LC4.a)/\Mb rn/\Dw (rn.map LC4.a) 0 Dk=0:=by
    match i,i3,ev with
    |0,_,ev =>
     cases ev;exact⟨t1,pr1,q1,r1,rfl,hz1,hq18,hR18,ok1,z1⟩
    |1,_,ev =>
     cases ev;exact⟨t2,pr2,q2,r2,rfl,hz2,hq28,hR28,ok2,z2⟩
    |2,_,ev =>
     cases ev;exact⟨t3,pr1,q1,r1,rfl,hz3,hq18,hR18,ok1,z1⟩
   apply AE;intro G_ hG_;obtain⟨t,prn,qn,rn,hv,htn,hqn,hRn,okn,zn⟩:=y1_;apply hG_;clear hG_ G_;subst hv;refine JK htn ?_;have gfz:=goz.few;have jb:JW a Hz g G (1000+10000*i) (1000+10000*i) bj.p bj.dx bj.mem bj.pr bj.r bj.m:=oj.j;have hp1:=jb.hp;rw[bp]at hp1;refine AS ?_;intro r_k13 s_k13 k13 hk13 E_k13;refine xwn rfl rfl hp1 (Ry _ _ _ _ _) rfl ⟨p1,bj.dx,bj.mem,prn,_,BS (rn.map LC4.a),rn.map LC4.a,ms,rfl,hp1,jf5_mem _ _ _ _ _,by rw[Pq];show 5<=10;decide,oj.me.hm,by lia,λe he=>?_,hRn.kps kz,λHc m' ms' frc hpc hmc chg=>?_⟩
   ·apply AE;intro G_ hG_;obtain⟨_,_,_,hw,_⟩:=oj.me.all e he;apply hG_;clear hG_ G_;exact hw.tp
   refine⟨rfl,(xq1 rfl (QC rfl ?_))⟩;have kc:=Ti hp1 oj.me.hm frc;rw[<-bp]at frc hpc;obtain⟨ojc,lmc⟩:=oj.chg okn zn (hRn.kps kz) frc hpc hmc chg;have k8c:=kz.trans kc;have hLc:=kc _ _ hLz (.lst (by show 3<=50;decide));have hc1:=kc _ _ hz1 (.inl .tup);have hc2:=kc _ _ hz2 (.inl .tup);have hc3:=kc _ _ hz3 (.inl .tup);have jc:JW a Hc g G (1000+10000*i) (1000+10000*i) bj.p bj.dx bj.mem prn (rn.map LC4.a) m':=ojc.j;clear oj jb hp1 chg hmc hpc frc htn hLz hz1 hz2 hz3 kz kc;refine hk13 ?_;have hlnG:=goz.lev hln;refine AS ?_;intro r_k14 s_k14 k14 hk14 E_k14;have jcp:=jc.hp;rw[bp]at jcp;refine xwn rfl rfl jcp (Eg _ _ _ _ _ A0 A0 A0 A0 A0) rfl (xq1 rfl ⟨p1,bj.dx,bj.mem,prn,g,G,_,_,rn.map LC4.a,m',n,lv,e,rfl,bp▸jc,hlnG,by lia,elv2,by lia,by lia,by lia,by lia,λTr ts init mm G2 Hr frr newr jr2 go2 hTr prs rsn lin=>?_⟩);have ojr:=ojc.c (b:=⟨bj.p,bj.dx,bj.mem,prn,rn,m'⟩) frr (bp▸jr2) go2;apply AE;intro G_ hG_;obtain⟨nT1,nT2,nT3,nT4⟩:=ojc.new newr;apply hG_;clear hG_ G_;have kcr:=frr.kps jc.gr jc.bs.long jc.me;have gf2:=go2.few;have l56r:56<=G2.length:=jr2.bs.long;refine hk14 ?_;refine AS ?_;intro r_k15 s_k15 k15 hk15 E_k15;refine xw3 rfl rfl rfl (xw2 rfl rfl ⟨g,G2,qn,Tr,rn,n,e,mm,ts,init,rfl,jr2.gr,jr2.ok,l56r,by lia,hqn.kps (k8c.trans kcr) okn,okn,hTr,⟨nT1,nT2⟩,prs,rsn,by lia,λG3 Hw frw hgw gow=>⟨true,rfl,Bq ?_⟩⟩);have ojw:=ojr.fr frw hgw gow;have krw:=frw.kps jr2.gr l56r;have gf3:=gow.few;have hTw:Hw Tr=some (.lst (ts.map V.ref)):=frw _ _ hTr nT1 nT2 (As hTr jr2.gr.nm A2);have prw:=Paired.imp (λt q (z:Cf Hr t q)=>(krw _ _ z (.inl .tup):Cf Hw t q)) prs;have kcw:=kcr.trans krw;clear prs krw kcr frr frw jr2 ojr jc hTr hgw;refine hk15 ?_;refine AS ?_;intro r_k16 s_k16 k16 hk16 E_k16;refine xq1 rfl ⟨Tr,(xq1 rfl ⟨.inl (SqL.of hTw),λKL hKL=>?_⟩)⟩;show k16 _ (upd Hw KL (.lst (ts.map V.ref)));generalize e_sk:upd Hw KL _=Hk;obtain⟨sk,hK1⟩:=alc hKL e_sk;have ojk:=ojw.same sk;apply AE;intro G_ hG_;obtain⟨nK1,nK2,_,_⟩:=ojw.new (x:=KL) λy o e=>Ah e hKL;apply hG_;clear hG_ G_;have nKT:KL≠Tr:=λz=>by rw[z,hTw]at hKL;cases hKL
   have hTk:=sk _ _ hTw;have prk:=Paired.imp (λt q (z:Cf Hw t q)=>(sk _ _ z:Cf Hk t q)) prw;have kck:=kcw.trans (Av.kps sk);clear prw kcw ojw hTw sk;refine hk16 ?_;have lts:ts.length=init.length+1:=by rw[X5 prk,B8];rfl
   refine AS ?_;intro r_k17 s_k17 k17 hk17 E_k17;refine xq1 rfl ⟨.inl ⟨rfl,_,SqL.of hTk⟩,Tr,(xq1 rfl ⟨rfl,hTk,?_⟩)⟩;have ojv:=ojk.putL (o:=.lst (ts.map V.ref).reverse) hTk nT1 nT2 nT3 nT4;have up1:∀{b o},Hk b=some o->b≠Tr->upd Hk Tr (.lst (ts.map V.ref).reverse) b=some o:=λ{b o} e n=>by rw[Ao n];exact e
   have hTv:upd Hk Tr (.lst (ts.map V.ref).reverse) Tr=some (.lst (ts.map V.ref).reverse):=Af;show k17 _ (upd Hk Tr (.lst (ts.map V.ref).reverse));generalize upd Hk Tr (.lst (ts.map V.ref).reverse)=Hv at ojv up1 hTv⊢;refine hk17 ?_;refine AS ?_;intro r_k18 s_k18 k18 hk18 E_k18;refine xq1 rfl ⟨.inl ⟨rfl,_,SqL.of hTv⟩,(by show 3<=sizeLine;decide),λt0 ht0=>?_⟩;have s0:Av Hv (upd Hv t0 (.tup [.int 0,.int 0,.int 0])):=Ai ht0;generalize upd Hv t0 (.tup [.int 0,.int 0,.int 0])=Hu at s0⊢;have oju:=ojv.same s0;have hTu:=s0 _ _ hTv;refine⟨Tr,(xq2 rfl rfl ⟨hTu,by rw[List.length_reverse,B6,lts];exact E5 (show init.length+1<=200 by lia) A3,?_⟩)⟩;have ojt:=oju.putL (o:=.lst ((ts.map V.ref).reverse++[.ref t0])) hTu nT1 nT2 nT3 nT4;have upk:∀{b o},Hk b=some o->b≠Tr->upd Hu Tr (.lst ((ts.map V.ref).reverse++[.ref t0])) b=some o:=λ{b o} e n=>by rw[Ao n];exact s0 _ _ (up1 e n)
   show k18 _ (upd Hu Tr (.lst ((ts.map V.ref).reverse++[.ref t0])));generalize upd Hu Tr (.lst ((ts.map V.ref).reverse++[.ref t0]))=Ht at ojt upk⊢;have hKt:=upk hK1 nKT;have prt:=Paired.imp (λt q (z:Cf Hk t q)=>(upk z (As z hTk A2):Cf Ht t q)) prk;have kct:KpS Hc Ht:=λb o e sv=>upk (kck b o e sv) (newr b o e);clear ojv oju s0 hTu hTv up1 upk hTk prk kck ojk ht0 hK1;refine hk18 ?_;have jt:JW a Ht g G3 (1000+10000*i+gD lv) (1000+10000*i+gD lv) bj.p bj.dx bj.mem prn (rn.map LC4.a) m':=ojt.j;have jtp:=jt.hp;rw[bp]at jtp;apply AE;intro G_ hG_;obtain⟨ti,tl,ets,_,htl⟩:=Rf prt;apply hG_;clear hG_ G_;have al:atI (ts.map V.ref) (-1)=some (.ref tl):=ND (by rw[ets,C0,W4];rfl);refine AS ?_;intro r_k19 s_k19 k19 hk19 E_k19;refine xwn rfl rfl jtp (Of _ _ _ _ _) rfl (xq1 rfl ⟨p1,bj.dx,bj.mem,prn,g,G3,_,_,rn.map LC4.a,m',n,lv,e,rfl,bp▸jt,(go2.trans gow).lev hlnG,by lia,elv2,by lia,by lia,by lia,λkk G4 H9 fr9 j9 go9 jr9=>?_⟩);have oj9:=ojt.c (b:=⟨bj.p,bj.dx,bj.mem,prn,rn,m'⟩) fr9 (bp▸j9) go9;have k9:=fr9.kps jt.gr jt.bs.long jt.me;have gf4:=go9.few;have hK9:=fr9.atL jt.me jt.gr hKt nK1 nK2;have pr9:=Paired.imp (λt q (z:Cf Ht t q)=>(k9 _ _ z (.inl .tup):Cf H9 t q)) prt;have htl9:H9 tl=some (.tup [toV n,toV e,toV mm]):=k9 _ _ htl (.inl .tup);have ekk:kk=mm:=JR.one go9.ok jr9 ((rsn.ok ⟨n,e,mm⟩ (D1.mpr (.inr (C7.mpr rfl)))).goes go2.ok (gow.trans go9));have k89:=(k8c.trans kct).trans k9;have kc9:=kct.trans k9;refine xwj rfl rfl rfl rfl (SqL.of hK9) al (xq4 rfl rfl (SqT.of htl9) (Am (j:=2) rfl) ⟨(mm:Int),by rw[ekk];rfl,true,rfl,Bq ?_⟩);clear ojt jt jtp fr9 k9 hKt prt htl htl9 ekk al ets jr9 kct;refine hk19 ?_;have j9':JW a H9 g G4 (1000+10000*i+gD lv+cst lv) (1000+10000*i+gD lv+cst lv) bj.p bj.dx bj.mem prn (rn.map LC4.a) m':=oj9.j;have j9p:=j9'.hp;rw[bp]at j9p;refine xwn rfl rfl j9p (Eg _ _ _ _ _ A0 A0 A0 A0 A0) rfl (xq1 rfl ⟨p1,bj.dx,bj.mem,prn,g,G4,_,_,rn.map LC4.a,m',n,lv,e,rfl,bp▸j9',((go2.trans gow).trans go9).lev hlnG,by lia,elv2,by lia,by lia,by lia,by lia,λT2 ts2 init2 mm2 G5 Hr2 frr2 newr2 jr5 go5 hT2 prs2 rsn2 lin2=>?_⟩);have oj5:=oj9.c (b:=⟨bj.p,bj.dx,bj.mem,prn,rn,m'⟩) frr2 (bp▸jr5) go5;have k5:=frr2.kps j9'.gr j9'.bs.long j9'.me;have hK5:=frr2.atL j9'.me j9'.gr hK9 nK1 nK2;have pr5:=Paired.imp (λt q (z:Cf H9 t q)=>(k5 _ _ z (.inl .tup):Cf Hr2 t q)) pr9;have gf5:=go5.few;have kc5:=kc9.trans k5;have k85:=k89.trans k5;have lts2:ts2.length=init2.length+1:=by rw[X5 prs2,B8];rfl
   apply AE;intro G_ hG_;obtain⟨it2,e21,e22,e23⟩:=Nj prs2;obtain⟨it1,e11,e12,e13⟩:=Nj pr5;apply hG_;clear hG_ G_;have li2:it2.length=ts2.length:=by
    have:=X8 List.length e21;rw[B6,B6]at this;exact this
   have li1:it1.length=ts.length:=by
    have:=X8 List.length e11;rw[B6,B6]at this;exact this
   have pm:(init2++[(⟨n,e,mm2⟩:T3)]).Perm (init++[(⟨n,e,mm⟩:T3)]):=Rsn.perm go5.ok (d:=(n,e)) rsn2 (rsn.goes go2.ok ((gow.trans go9).trans go5)) (E4.mpr ⟨⟨n,e,mm2⟩,D1.mpr (.inr (C7.mpr rfl)),rfl⟩) (E4.mpr ⟨⟨n,e,mm⟩,D1.mpr (.inr (C7.mpr rfl)),rfl⟩);refine⟨T2,it2,rfl,by rw[e21];exact SqL.of hT2,by lia,e23,λL2' out2 hL2 pm2 up2=>?_⟩;show ∃_,_;generalize cL:upd Hr2 L2' _=H6';obtain⟨s6,h6⟩:=alc hL2 cL;refine xq1 rfl ⟨KL,it1,rfl,by rw[e11];exact SqL.of (s6 _ _ hK5),by lia,λq hq=>⟨s6 _ _ (e13 q hq).1,(e13 q hq).2⟩,λL1' out1 hL1 pm1 up1=>?_⟩;generalize cX:upd H6' L1' _=H7';obtain⟨s7,h7⟩:=alc hL1 cX;have s57:=s6.trans s7;have eqo:out2.map (·.2)=out1.map (·.2):=by
    refine Qi (LD.rows up2) (LD.rows up1) ?_;have p2:=pm2.map (·.2);have p1':=pm1.map (·.2);rw[e22]at p2;rw[e12]at p1';exact(p2.trans (pm.map r3)).trans p1'.symm
   refine⟨⟨L2',L1',out2,out1,rfl,rfl,SqL.of (s7 _ _ h6),SqL.of h7,λq hq=>s57 _ _ (e23 q (pm2.mem_iff.mp hq)).1,λq hq=>s57 _ _ (e13 q (pm1.mem_iff.mp hq)).1,eqo⟩,false,rfl,Bq ?_⟩;have kc7:=kc5.trans (Av.kps s57);refine⟨G5,⟨bj.p,bj.dx,bj.mem,prn,rn,m'⟩,ms',_,_,_,_,rfl,(oj5.same s57).mono A1 A1,bp,k85.trans (Av.kps s57),((((goz.trans go2).trans gow).trans go9).trans go5).mono A1,by lia,kc7 _ _ hLc (.lst (by show 3<=50;decide)),kc7 _ _ hc1 (.inl .tup),kc7 _ _ hc2 (.inl .tup),kc7 _ _ hc3 (.inl .tup)⟩
  ·rintro σ Hz z2_;apply AE;intro G_ hG_;obtain⟨G,bj,ms,u12,u13,u14,u15,rfl,_⟩:=z2_;apply hG_;clear hG_ G_;refine hk12 ?_;exact kQ Hz
end
end J
namespace J
open PySem L2
theorem ar1{α:Type}:∀us:List α,us.length=1->∃a0,us=[a0]
 |[a0],_=>⟨a0,rfl⟩
theorem ar2{α:Type}:∀us:List α,us.length=2->∃a0 a1,us=[a0,a1]
 |[a0,a1],_=>⟨a0,a1,rfl⟩
theorem ar3{α:Type}:∀us:List α,us.length=3->∃a0 a1 a2,us=[a0,a1,a2]
 |[a0,a1,a2],_=>⟨a0,a1,a2,rfl⟩
theorem ar4{α:Type}:∀us:List α,us.length=4->∃a0 a1 a2 a3,us=[a0,a1,a2,a3]
 |[a0,a1,a2,a3],_=>⟨a0,a1,a2,a3,rfl⟩
theorem ar5{α:Type}:∀us:List α,us.length=5->∃a0 a1 a2 a3 a4,us=[a0,a1,a2,a3,a4]
 |[a0,a1,a2,a3,a4],_=>⟨a0,a1,a2,a3,a4,rfl⟩
structure Fg(K:PySem.W.Frag)(x:Str)(st:Stmt)(f:Addr)(fd:FuncData):Prop where
 at_:PySem.W.nsIn K mainGlobals x=some (some (.ref f))
 fn:Fun K x x st f fd
structure Fm(K:PySem.W.Frag)(C:Addr)(m q:Str)(st:Stmt)(f:Addr)(fd:FuncData):Prop where
 me:PH K C m f
 fn:Fun K m q st f fd
structure Fi(K:PySem.W.Frag)(C:Addr)(q:Str)(st:Stmt)(f:Addr)(fd:FuncData):Prop where
 mk_:Mk K C f
 fn:Fun K "__init__" q st f fd
theorem bnd{K:PySem.W.Frag}{x q:Str}{st:Stmt}{f:Addr}{fd:FuncData}{ps:List Str}(F:Fun K x q st f fd)(h:∀(kV doc pm:Value)(an:Option Addr)(cdv ct:Value)(us:List Value),us.length=ps.length->bindArgs (PySem.W.fnOf x q (JM st) (IS st) (Ak st) .none kV doc pm an cdv ct) ⟨us,[]⟩=pure (ps.zip us):=by intro _ _ _ _ _ _ us hl;first|(obtain⟨x0,rfl⟩:=ar1 us hl;exact rfl)|(obtain⟨x0,x1,rfl⟩:=ar2 us hl;exact rfl)|(obtain⟨x0,x1,x2,rfl⟩:=ar3 us hl;exact rfl)|(obtain⟨x0,x1,x2,x3,rfl⟩:=ar4 us hl;exact rfl)|(obtain⟨x0,x1,x2,x3,x4,rfl⟩:=ar5 us hl;exact rfl)):Dv K fd ps []:=F.binds h
theorem fin{l:PySem.W.OpenLaw}{w:World}{K:PySem.W.Frag}{h:Heap}{mg:Str->Option Value}{fa:Addr}(X:K.In h)(G:h.Ns mainGlobals mg)(hfa:mg "law" = some (.ref fa))
  {c_Amounts:Addr} {c_Places:Addr} {c_Clause:Addr} {c_Grove:Addr} {c_Rule:Addr} {c_Jumps:Addr} {f0:Addr} {d0:FuncData} {f1:Addr} {d1:FuncData} {f2:Addr} {d2:FuncData} {f3:Addr} {d3:FuncData} {f4:Addr} {d4:FuncData} {f5:Addr} {d5:FuncData} {f6:Addr} {d6:FuncData} {f7:Addr} {d7:FuncData} {f8:Addr} {d8:FuncData} {f9:Addr} {d9:FuncData} {f10:Addr} {d10:FuncData} {f11:Addr} {d11:FuncData} {f12:Addr} {d12:FuncData} {f13:Addr} {d13:FuncData} {f14:Addr} {d14:FuncData} {f15:Addr} {d15:FuncData} {f16:Addr} {d16:FuncData} {f17:Addr} {d17:FuncData} {f18:Addr} {d18:FuncData} {f19:Addr} {d19:FuncData} {f20:Addr} {d20:FuncData} {f21:Addr} {d21:FuncData} {f22:Addr} {d22:FuncData} {f23:Addr} {d23:FuncData} {f24:Addr} {d24:FuncData} {f25:Addr} {d25:FuncData} {f26:Addr} {d26:FuncData} {f27:Addr} {d27:FuncData} {f28:Addr} {d28:FuncData} {f29:Addr} {d29:FuncData} {f30:Addr} {d30:FuncData} {f31:Addr} {d31:FuncData} {f32:Addr} {d32:FuncData} {f33:Addr} {d33:FuncData} {f34:Addr} {d34:FuncData} {f35:Addr} {d35:FuncData} {f36:Addr} {d36:FuncData} {f37:Addr} {d37:FuncData} {f39:Addr} {d39:FuncData} {f41:Addr} {d41:FuncData} {f43:Addr} {d43:FuncData} {f45:Addr} {d45:FuncData} {f46:Addr} {d46:FuncData} {f47:Addr} {d47:FuncData} {f48:Addr} {d48:FuncData} {f49:Addr} {d49:FuncData} {f50:Addr} {d50:FuncData} {f51:Addr} {d51:FuncData} {f52:Addr} {d52:FuncData} {f55:Addr} {d55:FuncData} {f56:Addr} {d56:FuncData} {f57:Addr} {d57:FuncData} {f58:Addr} {d58:FuncData} {f59:Addr} {d59:FuncData} {f60:Addr} {d60:FuncData} {f61:Addr} {d61:FuncData} {f62:Addr} {d62:FuncData} {f63:Addr} {d63:FuncData} {f64:Addr} {d64:FuncData} {f65:Addr} {d65:FuncData} {f38:Addr} {d38:FuncData} {f40:Addr} {d40:FuncData} {f42:Addr} {d42:FuncData} {f44:Addr} {d44:FuncData} {f53:Addr} {d53:FuncData} {f54:Addr} {d54:FuncData} {t_STATES:Tok} {t_NEIGHBOURS:Tok} {t_STATE_FIGURES:Tok} {x_STATE_FIGURES:Str} {t_AMOUNT_FIGURES:Tok} {x_AMOUNT_FIGURES:Str} {t_ANY_SIGN:Tok} {x_ANY_SIGN:Str} {t_TOP_LEVEL:Tok} {t_CLAUSE_MARK:Tok} {x_CLAUSE_MARK:Str} {t_LEAST_JUMPED:Tok}
  (cP:PySem.W.nsIn K mainGlobals "Amounts" = some (some (.ref c_Amounts)))
  (cQ:PySem.W.nsIn K mainGlobals "Places" = some (some (.ref c_Places)))
  (cR:PySem.W.nsIn K mainGlobals "Clause" = some (some (.ref c_Clause)))
  (cV:PySem.W.nsIn K mainGlobals "Grove" = some (some (.ref c_Grove)))
  (cW:PySem.W.nsIn K mainGlobals "Rule" = some (some (.ref c_Rule)))
  (cU:PySem.W.nsIn K mainGlobals "Jumps" = some (some (.ref c_Jumps)))
  (q_Amounts:Cls K c_Amounts)
  (q_Places:Cls K c_Places)
  (q_Clause:Cls K c_Clause)
  (q_Grove:Cls K c_Grove)
  (q_Rule:Cls K c_Rule)
  (q_Jumps:Cls K c_Jumps)
  (na_Amounts_state:findIn K (.ref c_Amounts) "state" = some none)
  (na_Amounts_numbers:findIn K (.ref c_Amounts) "numbers" = some none)
  (na_Places_wanted:findIn K (.ref c_Places) "wanted" = some none)
  (na_Clause_cell:findIn K (.ref c_Clause) "cell" = some none)
  (na_Clause_conditions:findIn K (.ref c_Clause) "conditions" = some none)
  (na_Clause_makes:findIn K (.ref c_Clause) "makes" = some none)
  (na_Grove_levels:findIn K (.ref c_Grove) "levels" = some none)
  (na_Grove_parts:findIn K (.ref c_Grove) "parts" = some none)
  (na_Grove_numbers:findIn K (.ref c_Grove) "numbers" = some none)
  (na_Grove_bares:findIn K (.ref c_Grove) "bares" = some none)
  (na_Grove_amounts:findIn K (.ref c_Grove) "amounts" = some none)
  (na_Grove_boxes:findIn K (.ref c_Grove) "boxes" = some none)
  (na_Rule_text:findIn K (.ref c_Rule) "text" = some none)
  (na_Rule_clauses:findIn K (.ref c_Rule) "clauses" = some none)
  (na_Jumps_grove:findIn K (.ref c_Jumps) "grove" = some none)
  (na_Jumps_memories:findIn K (.ref c_Jumps) "memories" = some none)
  (na_Jumps_rule:findIn K (.ref c_Jumps) "rule" = some none)
  (na_Jumps_known_squares:findIn K (.ref c_Jumps) "known_squares" = some none)
  (na_Jumps_known_cells:findIn K (.ref c_Jumps) "known_cells" = some none)
  (g0:Fg K "is_whole" Ji f0 d0)
  (g1:Fg K "is_state" Jj f1 d1)
  (g2:Fg K "takes" OT f2 d2)
  (g3:Fg K "read_clause" El f3 d3)
  (g4:Fg K "read_state" Gq f4 d4)
  (g5:Fg K "read_wanted" FN f5 d5)
  (g6:Fg K "read_condition" DT f6 d6)
  (g7:Fg K "read_amounts" EQ f7 d7)
  (g8:Fg K "read_numbers" EO f8 d8)
  (g9:Fg K "read_places" Ek f9 d9)
  (g10:Fg K "clause_texts" ER f10 d10)
  (g11:Fg K "read_rule" Ih f11 d11)
  (g12:Fg K "deciding" Jl f12 d12)
  (g13:Fg K "becomes" JZ f13 d13)
  (g14:Fg K "shown_rule" Gp f14 d14)
  (g15:Fg K "nine_parts" Gr f15 d15)
  (g16:Fg K "fours_of" Jk f16 d16)
  (g17:Fg K "met_in_the_middle" Db f17 d17)
  (g18:Fg K "_law_at" La f18 d18)
  (g19:Fg K "_law_same" Ij f19 d19)
  (g20:Fg K "_law_stir" Ii f20 d20)
  (g21:Fg K "_law_clause_by" DU f21 d21)
  (g22:Fg K "_law_fits" FD f22 d22)
  (g23:Fg K "_law_becomes" ET f23 d23)
  (g24:Fg K "_law_words" EE f24 d24)
  (g25:Fg K "_law_text" FB f25 d25)
  (g26:Fg K "_law_clauses_by" CG f26 d26)
  (g27:Fg K "_law_grid_by" ES f27 d27)
  (g28:Fg K "_law_knit" FC f28 d28)
  (g29:Fg K "_law_fours" EF f29 d29)
  (g30:Fg K "_law_lines" Gw f30 d30)
  (g31:Fg K "_law_parts" Gu f31 d31)
  (g32:Fg K "_law_by_rule" DD f32 d32)
  (g33:Fg K "_law_rested" FP f33 d33)
  (g34:Fg K "_law_row_right" Ci f34 d34)
  (g35:Fg K "_law_three" Gs f35 d35)
  (g36:Fg K "_law_walked" FO f36 d36)
  (g37:Fg K "law" Qf f37 d37)
  (g39:Fm K c_Amounts "holds" "Amounts.holds" Ez f39 d39)
  (g41:Fm K c_Places "holds" "Places.holds" DE f41 d41)
  (g43:Fm K c_Clause "fits" "Clause.fits" Em f43 d43)
  (g45:Fm K c_Grove "kept" "Grove.kept" GC f45 d45)
  (g46:Fm K c_Grove "linked" "Grove.linked" EU f46 d46)
  (g47:Fm K c_Grove "check_square" "Grove.check_square" CJ f47 d47)
  (g48:Fm K c_Grove "leaf" "Grove.leaf" GB f48 d48)
  (g49:Fm K c_Grove "joined" "Grove.joined" DG f49 d49)
  (g50:Fm K c_Grove "level_of" "Grove.level_of" DX f50 d50)
  (g51:Fm K c_Grove "quarters" "Grove.quarters" DW f51 d51)
  (g52:Fm K c_Grove "state_of" "Grove.state_of" DV f52 d52)
  (g55:Fm K c_Jumps "change" "Jumps.change" DF f55 d55)
  (g56:Fm K c_Jumps "after" "Jumps.after" FR f56 d56)
  (g57:Fm K c_Jumps "check_jump" "Jumps.check_jump" Dm f57 d57)
  (g58:Fm K c_Jumps "reckoned" "Jumps.reckoned" CP f58 d58)
  (g59:Fm K c_Jumps "fresh" "Jumps.fresh" Cc f59 d59)
  (g60:Fm K c_Jumps "four_halfway" "Jumps.four_halfway" Bu f60 d60)
  (g61:Fm K c_Jumps "middle_after" "Jumps.middle_after" CI f61 d61)
  (g62:Fm K c_Jumps "cell_after" "Jumps.cell_after" Cr f62 d62)
  (g63:Fm K c_Jumps "reasons" "Jumps.reasons" Ey f63 d63)
  (g64:Fm K c_Jumps "gather_reasons" "Jumps.gather_reasons" Cp f64 d64)
  (g65:Fm K c_Jumps "rests_on" "Jumps.rests_on" Cj f65 d65)
  (g38:Fi K c_Amounts "Amounts.__init__" EV f38 d38)
  (g40:Fi K c_Places "Places.__init__" FQ f40 d40)
  (g42:Fi K c_Clause "Clause.__init__" FS f42 d42)
  (g44:Fi K c_Grove "Grove.__init__" GD f44 d44)
  (g53:Fi K c_Rule "Rule.__init__" FE f53 d53)
  (g54:Fi K c_Jumps "Jumps.__init__" Gx f54 d54)
  (z_all:PySem.W.nsIn K mainGlobals "all" = some none)
  (z_any:PySem.W.nsIn K mainGlobals "any" = some none)
  (z_bool:PySem.W.nsIn K mainGlobals "bool" = some none)
  (z_enumerate:PySem.W.nsIn K mainGlobals "enumerate" = some none)
  (z_int:PySem.W.nsIn K mainGlobals "int" = some none)
  (z_isinstance:PySem.W.nsIn K mainGlobals "isinstance" = some none)
  (z_len:PySem.W.nsIn K mainGlobals "len" = some none)
  (z_list:PySem.W.nsIn K mainGlobals "list" = some none)
  (z_min:PySem.W.nsIn K mainGlobals "min" = some none)
  (z_range:PySem.W.nsIn K mainGlobals "range" = some none)
  (z_sorted:PySem.W.nsIn K mainGlobals "sorted" = some none)
  (z_str:PySem.W.nsIn K mainGlobals "str" = some none)
  (z_tuple:PySem.W.nsIn K mainGlobals "tuple" = some none)
  (z_zip:PySem.W.nsIn K mainGlobals "zip" = some none)
  (g_STATES:PySem.W.nsIn K mainGlobals "STATES" = some (some (.int 8 t_STATES)))
  (g_NEIGHBOURS:PySem.W.nsIn K mainGlobals "NEIGHBOURS" = some (some (.int 8 t_NEIGHBOURS)))
  (g_STATE_FIGURES:PySem.W.nsIn K mainGlobals "STATE_FIGURES" = some (some (.str x_STATE_FIGURES t_STATE_FIGURES)))
  (gx_STATE_FIGURES:x_STATE_FIGURES=Str.ofString "01234567")
  (g_AMOUNT_FIGURES:PySem.W.nsIn K mainGlobals "AMOUNT_FIGURES" = some (some (.str x_AMOUNT_FIGURES t_AMOUNT_FIGURES)))
  (gx_AMOUNT_FIGURES:x_AMOUNT_FIGURES=Str.ofString "012345678")
  (g_ANY_SIGN:PySem.W.nsIn K mainGlobals "ANY_SIGN" = some (some (.str x_ANY_SIGN t_ANY_SIGN)))
  (gx_ANY_SIGN:x_ANY_SIGN=Str.ofString "*")
  (g_TOP_LEVEL:PySem.W.nsIn K mainGlobals "TOP_LEVEL" = some (some (.int 48 t_TOP_LEVEL)))
  (g_CLAUSE_MARK:PySem.W.nsIn K mainGlobals "CLAUSE_MARK" = some (some (.str x_CLAUSE_MARK t_CLAUSE_MARK)))
  (gx_CLAUSE_MARK:x_CLAUSE_MARK=Str.ofString "; ")
  (g_LEAST_JUMPED:PySem.W.nsIn K mainGlobals "LEAST_JUMPED" = some (some (.int 2 t_LEAST_JUMPED)))
  : ∃fd:FuncData,(∀(s:Shared)(v:Value),BindsTo s fd ⟨[v],[]⟩ [("_law_script",v)])/\∀base:Heap,K.In base->base.Ns mainGlobals mg->AR l.prog w K mg base CX0 30 fa fd ["_law_script"] (Sr K):=by
 have e:=hfa.symm.trans (K3 X G g37.at_);cases e;have no:∀{x:Str},PySem.W.nsIn K mainGlobals x=some none->mg x=none:=λz=>PySem.W.mg_none_of X G z;subst gx_CLAUSE_MARK;subst gx_ANY_SIGN;subst gx_AMOUNT_FIGURES;subst gx_STATE_FIGURES;have T:Top K mg (⟨c_Amounts,c_Places,c_Clause,c_Grove,c_Rule,c_Jumps⟩:Ad):=⟨no z_all,no z_any,no z_bool,no z_enumerate,no z_int,no z_isinstance,no z_len,no z_list,no z_min,no z_range,no z_sorted,no z_str,no z_tuple,no z_zip,⟨t_STATES,K3 X G g_STATES⟩,⟨t_NEIGHBOURS,K3 X G g_NEIGHBOURS⟩,⟨t_STATE_FIGURES,K3 X G g_STATE_FIGURES⟩,⟨t_AMOUNT_FIGURES,K3 X G g_AMOUNT_FIGURES⟩,⟨t_ANY_SIGN,K3 X G g_ANY_SIGN⟩,⟨t_TOP_LEVEL,K3 X G g_TOP_LEVEL⟩,⟨t_CLAUSE_MARK,K3 X G g_CLAUSE_MARK⟩,⟨t_LEAST_JUMPED,K3 X G g_LEAST_JUMPED⟩,K3 X G cP,q_Amounts,na_Amounts_state,na_Amounts_numbers,K3 X G cQ,q_Places,na_Places_wanted,K3 X G cR,q_Clause,na_Clause_cell,na_Clause_conditions,na_Clause_makes,K3 X G cV,q_Grove,na_Grove_levels,na_Grove_parts,na_Grove_numbers,na_Grove_bares,na_Grove_amounts,na_Grove_boxes,K3 X G cW,q_Rule,na_Rule_text,na_Rule_clauses,K3 X G cU,q_Jumps,na_Jumps_grove,na_Jumps_memories,na_Jumps_rule,na_Jumps_known_squares,na_Jumps_known_cells⟩
 refine⟨d37,λs v=>(by obtain⟨_,_,_,_,_,_,_,_,_,rfl,_⟩:=g37.fn.ex;exact .of_eq rfl),λbase _ _=>?_⟩;have cal:∀{CX:CXT}{k:Nat}{x:Str}{st:Stmt}{f:Addr}{fd:FuncData}{ps:List Str}{sp:Sp},Fg K x st f fd->AR l.prog w K mg base CX k f fd ps sp->Dv K fd ps []->Cal l.prog w K mg base CX k x ps sp:=λF o b=>⟨_,_,o,K3 X G F.at_,F.fn.kp,b⟩
 have calm:∀{CX:CXT}{k:Nat}{C:Addr}{x q:Str}{st:Stmt}{f:Addr}{fd:FuncData}{ps:List Str}{sp:Sp},Fm K C x q st f fd->Cls K C->AR l.prog w K mg base CX k f fd ps sp->Dv K fd ps []->BJ l.prog w K mg base CX k C x ps sp:=λF c o b=>⟨⟨_,_,o,F.me,b⟩,c⟩
 have calc':∀{CX:CXT}{k:Nat}{C:Addr}{x q:Str}{st:Stmt}{f:Addr}{fd:FuncData}{ps:List Str}{sp:Sp},Fi K C q st f fd->mg x=some (.ref C)->AR l.prog w K mg base CX k f fd ps sp->Dv K fd ps []->PK l.prog w K mg base CX k x C ps sp:=λF m o b=>⟨_,_,o,F.mk_,m,b⟩
 have aU:=cal (k:=1) (sp:=UY) g0 (ok_iw g0.fn T) (bnd g0.fn);have cA:=cal (k:=2) (sp:=spIS) g1 (ok_is g1.fn T aU) (bnd g1.fn);have aT:=calm (k:=1) (sp:=(OM _)) g45 q_Grove (ok_kept g45.fn T) (bnd g45.fn);have cO:=calc' (k:=2) (sp:=(OO _)) g44 T.m_Grove (VC g44.fn T aT) (bnd g44.fn)
 have a6:=calm (k:=2) (sp:=(FM _)) g46 q_Grove (ok_link g46.fn T aT) (bnd g46.fn);have aG:=calm (k:=2) (sp:=(Ss _)) g47 q_Grove (ok_chk g47.fn T aU) (bnd g47.fn);have aZ:=calm (k:=3) (sp:=(OL _)) g48 q_Grove (ok_leaf g48.fn T cA) (bnd g48.fn);have a7:=calm (k:=3) (sp:=(Mt _)) g50 q_Grove (ok_lev g50.fn T aG) (bnd g50.fn);have aB:=calm (k:=4) (sp:=(PZ _)) g51 q_Grove (ok_qua g51.fn T a7) (bnd g51.fn);have aL:=calm (k:=4) (sp:=(Sm _)) g52 q_Grove (ok_sta g52.fn T a7) (bnd g52.fn);have aI:=calm (k:=4) (sp:=(Mu _)) g49 q_Grove (ok_join g49.fn T aG a6) (bnd g49.fn);have bZ:=cal (k:=1) (sp:=Mc) g2 (Vz g2.fn) (bnd g2.fn);have cD:=calc' (k:=1) (sp:=(Mx _)) g38 T.m_Amounts (TU g38.fn T) (bnd g38.fn)
 have cH:=calc' (k:=1) (sp:=(Ms _)) g40 T.m_Places (TQ g40.fn T) (bnd g40.fn)
 have cJ:=calc' (k:=1) (sp:=(Mw _)) g42 T.m_Clause (TR g42.fn T) (bnd g42.fn)
 have cE:=calm (k:=1) (sp:=(JX _)) g39 q_Amounts (Rx g39.fn T) (bnd g39.fn);have cG:=calm (k:=2) (sp:=(JU _)) g41 q_Places (Rw g41.fn T bZ) (bnd g41.fn);have bP:=calm (k:=3) (sp:=(Rm _)) g43 q_Clause (ok_Fits g43.fn T bZ cE cG) (bnd g43.fn);have cB:=cal (k:=4) (sp:=(Va _)) g12 (ok_dec g12.fn T bP) (bnd g12.fn);have bG:=cal (k:=5) (sp:=(Sz _)) g13 (ok_bec g13.fn T cB) (bnd g13.fn);have aP:=cal (k:=1) (sp:=UV) g4 (ok_rs g4.fn T) (bnd g4.fn);have aV:=cal (k:=2) (sp:=spRW) g5 (ok_rw g5.fn T aP) (bnd g5.fn);have bI:=cal (k:=1) (sp:=spRN) g8 (ok_rn g8.fn T) (bnd g8.fn);have bJ:=cal (k:=3) (sp:=(UX _)) g7 (ok_ram g7.fn T aP bI cD) (bnd g7.fn);have bQ:=cal (k:=3) (sp:=(UW _)) g9 (ok_rpl g9.fn T aV cH) (bnd g9.fn);have b8:=cal (k:=4) (sp:=(OJ _)) g6 (VA g6.fn T bJ bQ) (bnd g6.fn);have bR:=cal (k:=5) (sp:=(spRC _)) g3 (ok_rc g3.fn T aP aV b8 cJ) (bnd g3.fn);have bK:=cal (k:=1) (sp:=spCT) g10 (ok_ct g10.fn T) (bnd g10.fn);have cT:=calc' (k:=6) (sp:=(spRI _)) g53 T.m_Rule (ok_ri g53.fn T bK bR) (bnd g53.fn)
 have bN:=cal (k:=8) (sp:=(spRR _)) g11 (ok_rr g11.fn T cT bG) (bnd g11.fn);have bT:=cal (k:=1) (sp:=(Rj _)) g14 (ok_show g14.fn T) (bnd g14.fn);have aR:=calm (k:=2) (sp:=(Su _)) g55 q_Jumps (ok_chg g55.fn T bT) (bnd g55.fn);have cN:=calc' (k:=3) (sp:=(ON _)) g54 T.m_Jumps (VB g54.fn T aR) (bnd g54.fn)
 have aK:=calm (k:=6) (sp:=(Sw _)) g62 q_Jumps (ok_cel g62.fn T aL aZ bG) (bnd g62.fn);have aD:=calm (k:=7) (sp:=(OK _)) g61 q_Jumps (ok_mid2 g61.fn T a6 aK) (bnd g61.fn);have aC:=cal (k:=3) (sp:=(JV _)) g15 (ok_nine g15.fn T a6) (bnd g15.fn);have aQ:=cal (k:=1) (sp:=Js) g16 (VD g16.fn T) (bnd g16.fn);have aE:=cal (k:=3) (sp:=(Sn _)) g17 (ok_met g17.fn T a6) (bnd g17.fn);have a9:=calm (k:=16) (sp:=(Ev _ 2)) g58 q_Jumps (OZ g58.fn g60.fn g59.fn T g58.me (bnd g58.fn) g60.me (bnd g60.fn) g59.me (bnd g59.fn) aD a6 aC aQ aE 2) (bnd g58.fn);have aO:=calm (k:=17) (sp:=(Mv _ 2)) g60 q_Jumps (SO g60.fn T A3 aC aQ a6 a9) (bnd g60.fn);have aY:=calm (k:=18) (sp:=(spRo _ 2)) g65 q_Jumps (ok_ro g65.fn T A3 aC aO) (bnd g65.fn);have a9:=calm (k:=19) (sp:=(Ev _ 3)) g58 q_Jumps (OZ g58.fn g60.fn g59.fn T g58.me (bnd g58.fn) g60.me (bnd g60.fn) g59.me (bnd g59.fn) aD a6 aC aQ aE 3) (bnd g58.fn);have aH:=calm (k:=23) (sp:=(spGr _ 3)) g64 q_Jumps (ok_gr g64.fn T g64.me (bnd g64.fn) (dd:=19) A3 A3 aY a9 3 A3) (bnd g64.fn);have aJ:=calm (k:=4) (sp:=(spCj _)) g57 q_Jumps (ok_cj g57.fn T a7 aU) (bnd g57.fn);have bB:=calm (k:=20) (sp:=(Ev _ 3)) g56 q_Jumps (TN g56.fn T A3 aJ a9) (bnd g56.fn);have b7:=calm (k:=24) (sp:=(spRs _ 3)) g63 q_Jumps (ok_rsn g63.fn T A3 aJ aH) (bnd g63.fn);have aN:=cal (k:=1) (sp:=(spAt K)) g18 (ok_at g18.fn T) (bnd g18.fn);have aX:=cal (k:=1) (sp:=OI) g19 (ok_same g19.fn T) (bnd g19.fn);have aF:=cal (k:=1) (sp:=OH) g20 (ok_stir g20.fn T) (bnd g20.fn);have bA:=cal (k:=2) (sp:=Vc) g21 (ok_cb4 g21.fn T aF) (bnd g21.fn);have bY:=cal (k:=1) (sp:=UZ) g22 (ok_fi4 g22.fn T) (bnd g22.fn);have aS:=cal (k:=2) (sp:=SA) g23 (ok_be4 g23.fn T bY) (bnd g23.fn);have bU:=cal (k:=1) (sp:=UT) g24 (ok_ws4 g24.fn T) (bnd g24.fn);have bO:=cal (k:=2) (sp:=UU) g25 (ok_tx4 g25.fn T bU) (bnd g25.fn);have aW:=cal (k:=3) (sp:=Vb) g26 (ok_cs4 g26.fn T bA aS) (bnd g26.fn);have bL:=cal (k:=2) (sp:=(spGb K)) g27 (ok_gb g27.fn T aN aF) (bnd g27.fn);have bX:=cal (k:=5) (sp:=(Rk _)) g28 (ok_knit g28.fn T aZ aI) (bnd g28.fn);have bF:=cal (k:=1) (sp:=spFo) g29 (ok_fo g29.fn T) (bnd g29.fn);have b6:=cal (k:=5) (sp:=(spLi _)) g30 (ok_li g30.fn T aB) (bnd g30.fn);have bW:=cal (k:=6) (sp:=(spPa _)) g31 (ok_pa g31.fn T b6 aI) (bnd g31.fn);have bM:=cal (k:=6) (sp:=(spBr _)) g32 (ok_br g32.fn T b6 aL aB aS aX) (bnd g32.fn);have bE:=cal (k:=1) (sp:=spRe) g33 (ok_re g33.fn T) (bnd g33.fn);have bV:=cal (k:=1) (sp:=spTh) g35 (ok_th g35.fn T) (bnd g35.fn);have b9:=cal (k:=7) (sp:=(spRr _)) g34 (ok_rr2 g34.fn T a7 bM aB bW bE bF aI) (bnd g34.fn);have bS:=cal (k:=8) (sp:=(spWa _)) g36 (ok_wa g36.fn T bV b9) (bnd g36.fn);exact ok_law g37.fn T cO aN aW bO bN cN bL bX bB a7 aR b7 bS aX
theorem walk{l:PySem.W.OpenLaw}{q:Program}{loose:List Str}{XP:(Str->Option Value)->Heap->Prop}{YP:World->Heap->Prop}{d:DefRec}{K:Params->PySem.W.Frag}(hn:l.most=some 63)(hdf:d.params.defaults=[])
  (hY:∀(w:World)(h:Heap),YP w h->(K w.params).In h)
  (F:∀(w:World)(mg:Str->Option Value)(fa:Addr)(h:Heap),(K w.params).In h->h.Ns mainGlobals mg->mg d.name=some (.ref fa) ->
   ∃fd:FuncData,(∀(s:Shared)(u:Value),BindsTo s fd ⟨[u],[]⟩ [("_law_script",u)])/\∀base:Heap,(K w.params).In base->base.Ns mainGlobals mg->AR l.prog w (K w.params) mg base CX0 30 fa fd ["_law_script"] (Sr (K w.params))) :
  PySem.W.WalkO q loose XP YP l.row.toRowW d [] (λf vs=>PySem.call f vs) :=
 L2.Sf (n:=63) (k:=30) (x:="_law_script") (CX:=λ_=>CX0) (sp:=λw=>Sr (K w.params)) hn A3 hdf ⟨rfl,by decide,by decide⟩ hY F (λ_ _ a ns hl _ hS=>⟨a,ns,rfl,hS,hl,λ_=>rfl⟩) λ_ _ _ _ _ z=>z
end J
structure PySem.W.Fast:Prop where(tw6597220763031842541 tw908408622267478842 tw15831714076271165378 tw120995192706715989 tw2373199594056432364 tw13112518584507214623 tw16168840700413724351 tw847016909536298369 tw882612557564517526 tw376449904462845928 tw17275387103674483668 tw4126281279348946633 tw11133136353235111078 tw2405599918744578414 tw7307059333672487011 tw5356719761053000987 tw11580273871214670908 tw8699675765253292029 tw8449006423704369745 tw170439578917179993 tw18261814013997127888 tw5599602739344535697 tw2786026006465877302 tw4492654015474316605 tw4654844016054439930 tw5207621248466772498 tw15758230501547674801 tw11327325618985425265 tw10765942754685088764 tw9321874503936423311 tw9467629693670187191 tw18142277024490595296 tw4928103570101949866 tw11470458810912424571 tw10270143750284893789 tw18234006052445538741 tw7956702757694783676 tw16467910654924099793 tw16509617102866888968 tw5344623545680852969 tw825090919778585787 tw15723891631774372919 tw12546607385370916179 tw1400908467449059145 tw12014985953137822594 tw6557180189804405002 tw14817413124365704119 tw6705514568475957243 tw9643099867329016024 tw6705754302411278277 tw11481927240668715048 tw3835297657406311888 tw6855678480940124014 tw11972393910539329473 tw802628546954215042 tw5886099310547771879 tw13594476474202894645 tw4437838126003343278 tw17131992956516850515 tw11895621074850505780 tw16850834214791132440 tw7776318554613333930 tw6245193910460333393 tw441242014628493186 tw16795789674575105709 tw8718070847224785792 tw5349070490977270046 tw10402619412368825543 tw3312776286835670224 tw9033442380120150600 tw8651587735962458740 tw4249897542877758726 tw18287124959814054351 tw8393166892442376896 tw12515999284419422544 tw11979097686542721115 tw10830494619541751928 tw4654522877361737053 tw16459768491780649734 tw16943622576202636700 tw1019789421632445601 tw11853993370686943993 tw86503295206870976 tw7858823956079287080 tw4512027443658596308 tw10087558935421670876 tw10406677598398847428 tw11099783688832534490 tw4936582902758503682 tw16213633346782500966 tw9547043534341683447 tw420274663714673258 tw1738472603172357766 tw8381726521942945164 tw3829641835044311866 tw761645326653471459 tw475647316094115957 tw17225889130261878831 tw16643009652915512323 tw13680422832626566948 tw17366020491422878786 tw4144709332807413438 tw16233953479326141613 tw17268660908374118538 tw17726296479826887697 tw14475916932115196299 tw17434833284787669711 tw3380999790489259229 tw13097282720685599242 tw12428216429139114441 tw13078447080980394455 tw15450743981395256367 tw9856392408472199259 tw2774734284066796492 tw9871377361312531483 tw16506766408025389283 tw2306160567595397353 tw3698699201829366378 tw18087326645596327371 tw1866003937807494094 tw16659029624056993298 tw9660741460840995241 tw8949199925939997027 tw7833559475361929024 tw14510667473210264760 tw4174223987183477325 tw17926372701382875363 tw16731373953003441376 tw5509344076715547091 tw14129158200935717839 tw6359620328810214081 tw15290406095106603134 tw1102873133577787303 tw11784711059556423913 tw11535605218705291150 tw3917593809582229664 tw5991329559052536848 tw2521293771418013961 tw5289400914552057842 tw15743279622371719830 tw1538126303204288491 tw13188640951938481885 tw15472942894506840595 tw7529721311984482596 tw18398395357081216190 tw11740000547179234319 tw8135840322194078363 tw12487438492338688266 tw5807076982392582578 tw5841872698017135726 tw3261803008869789163 tw17512261849583100762 tw2640320707252935668 tw7276088996063253692 tw10754571302976410414 tw16095220421610438881 tw9282813635805591279 tw17112138957970366629 tw9417849929412698199 tw127143476330828305 tw6420160141692874560 tw16808368295906568303 tw1871310221798952144 tw919039927568130760 tw6835231473361371134 tw12124611770957656199 tw9157883975279314287 tw15816696684287180365 tw16275458296985287269 tw1512511349360173582 tw4301326271820460772 tw3096052625539028391 tw15322171885708250867 tw139779610507787551 tw5013816224107739167 tw15901040336451948426 tw12770160722121775201 tw18312231046556678606 tw16232560799905217416 tw13049878898187793117 tw8804834612668336182 tw8202732376461387868 tw2372797892797683155 tw783671897078634258 tw4909489395357220867 tw1613919231541993329 tw14522015361660094246 tw5918198267133072748 tw446764177615048868 tw9348092202828929100 tw16324954786316182556 tw9685126386389133522 tw16088914368111857908 tw12550334347718245709 tw14370323230835120021 tw10664280065548100288 tw7691403364175948442 tw385137453054398627 tw14834564695884483259 tw15392556904711647673 tw11663704580460849820 tw7249222855003896656 tw1779664317136951126 tw11762705390392140409 tw8751468066651945163 tw14841788680594780752 tw17924574470716029358 tw17508892841083366240 tw9397032886740230389 tw7201470060421031263 tw7991484417859553920 tw9146204745448090005 tw4936665387254196241 tw15646380440956311937 tw5112914290333101124 tw5662725734817292492 tw5926090273356997493 tw5091027754409338929 tw11530120366851151488 tw2831843510821183998 tw16470136492454480396 tw2122506900414536227 tw7536911460064965503 tw17662295835859034041 tw4469002220956411247 tw12193134803324563050 tw3928450475121881903 tw5370555561480867539 tw15947661563236386591 tw7524819575180371062 tw6639579104679461265 tw7145902143739980701 tw15183530459779184575 tw1489503094229389086 tw954752888769770094 tw13365618379595511233 tw16860272150716599975 tw771297604689298044 tw15364570799027938112 tw2871393797402912641 tw5295625623286221721 tw6928598744494900705 tw18018761758357728055 tw16379641066265657570 tw2098735984273297639 tw5923472644477698763 tw5829193089218609894 tw4607163290041724940 tw18056392177132500016 tw15592725800913839673 tw11566400993236085666 tw5881941460546569654 tw9903209827832654161 tw5691588397309945999 tw11656329810208074360 tw17789774961710652302 tw2202917296120290499 tw9024618219328119700 tw15775104993870780270 tw6933191163245320472 tw4610723443940813621 tw1167644802504961006 tw13418474419588767988 tw1114323404003338255 tw14210628540906361812 tw16522654285547041976 tw2631291739687777310 tw10722640616110516327 tw431215998351653723 tw11593627241597310949 tw2935194564907970494 tw15336134171309818378 tw9788317631765366776 tw2645216666209744286 tw10962386293384911593 tw4848094412994493585 tw15970872939322974420 tw8032382854884171370 tw4727824117728063266 tw753655364214313608 tw15250902572689003203 tw14659281233000159898 tw17376027804148798012 tw7323321352435723838 tw6470098158209882266 tw10899948835670889895 tw10919374304545099211 tw6994372351296134164 tw5244221364682411361 tw1461673790317841833 tw18286603060051992199 tw9680430968245201635 tw3834364037458155650 tw5117235440843267589 tw2814023776173508580 tw16981790961552478632 tw425398639323051161 tw8866013288762444934 tw5399853095313204753 tw2041293467806263286 tw13060570202407644075 tw10765887285217084172 tw969183227352037844 tw17249055106125721607 tw1753137452508283920 tw14504498345111486441 tw18413768694217138617 tw5984100799189276461 tw1310815167032728900 tw17313303438486019780 tw11655040029859304088 tw15044958099896110376 tw11585316724407562121 tw5553718587736099132 tw17906618815372882304 tw6235855707235810968 tw2267509271574343237 tw11257185013038672081 tw15925165945480539447 tw15203626516786904227 tw15087706011451432542 tw7294166013024613934 tw15842353355272333833 tw16110347262425296628 tw8053448863301541684 tw952097984006460479 tw10452823436484543083 tw4673544365726130693 tw10889066294391725881 tw1023659958777895472 tw13558206552903726938 tw17231979534004239174 tw1344195542290820703 tw688246246419368901 tw3944145640338112993 tw17056867492876792834 tw16600768554089754888 tw18394805066454804830 tw3979747199323704764 tw10032313958565000733 tw6188201161658887759 tw8155339759971755268 tw16589630635071789955 tw5835616413713093466 tw17201049596706170577 tw87045687193719046 tw17660095532804788049 tw8516170101929199166 tw11834324924533750085 tw7846917413888061806 tw5585746861047122597 tw1744072931944482555 tw9167450053166224920 tw11078357379520501352 tw9640454928036628552 tw12197986903708885062 tw4463100994337001620 tw13818902236993892608 tw3823553350995322141 tw11270698034985808381 tw11283581400700539165 tw7921700571753882453 tw15568034586802253095 tw6019266556125162616 tw16379116042881428126 tw8015147941181370588 tw11568523591227537944 tw894741159441280282 tw10317545237507331097 tw17634360166110788576 tw1528773327831433771 tw2943427315942502249 tw7339144836825113415 tw11934990414892250615 tw10878580019182952297 tw6345175576871460473 tw15243656802328092232 tw4008779632599253428 tw2766076400286013828 tw14153065124661539803 tw9469570777131160629 tw15944068736562301744 tw2820947932422717197 tw3754258068190251465 tw11765023058232058375 tw6048444344155721654 tw17823067366199327983 tw12199318070974332322 tw7752705001371702975 tw15124727729918347391 tw2705771120133890401 tw4413523326877924536 tw1211702646922264660 tw2154351522523870965 tw13626831985601797408 tw13353343825742608839 tw3895990512094245881 tw8446593558885157450 tw9042419251587200746 tw2785623034412394014 tw11146508373822030674 tw1419563690001119473 tw9964392856236930683 tw10259909678825327430 tw11746055409688004023 tw16493043903527521663 tw11820550159482615370 tw13446447763462471809 tw6627167718403271552 tw13174565534141535332 tw9062486040942931773 tw1540641525704669626 tw1126493203319079887 tw2090808054732355678 tw1351237400893174181 tw3023369098358908061 tw15896584827635390141 tw8565833617081104246 tw12543684539276740265 tw4010708069600254441 tw9996461446497569958 tw7534170613020172028 tw14771327457987926615 tw6557896594654738866 tw6218160650825076452 tw6095477210649401603 tw14755700681817094340 tw5925837012743135777 tw5365705664863715520 tw9600261110230679602 tw2125484470315166523 tw3942745373021115674 tw5280268246057209303 tw6520500538394904987 tw13535276365331917031 tw11231144425553889055 tw10360266262539541614 tw11814975806122370147 tw15453260296090213081 tw7688290495755630600 tw7531330874262594225 tw6575999348746860539 tw6613074443400060455 tw14617558508070137512 tw8676841367861407643 tw16424769228972381809 tw7114371800914669578 tw13922822010075702227 tw6819952070032260030 tw13656292861939763922 tw2302297449850523150 tw17095129598678819980 tw14276033149315058747 tw15156473492142291535 tw16274603760236487890 tw4635030492822162765 tw1779270477936545524:True)
open PySem PySem.W PyProof.Rows
set_option maxRecDepth 100000 in
set_option maxHeartbeats 0 in
theorem PySem.Challenge.cw_jumpfield_k53_reasons_walked_holds : PySem.Challenge.rw_jumpfield_k53_reasons_walked.Holds := by
 w_on; o_law; k_head; (case hw=>w_witness2)
 k_fill
 refine J.walk (l:=PySem.Challenge.rw_jumpfield_k53_reasons_walked) rfl rfl (fun w h Y=>PySem.W.kIn_of Y) ?F
 case F =>
  intro w mg fa h KX G hmg;refine' J.fin KX G hmg ?h0 ?h1 ?h2 ?h3 ?h4 ?h5 ?h6 ?h7 ?h8 ?h9 ?h10 ?h11 ?h12 ?h13 ?h14 ?h15 ?h16 ?h17 ?h18 ?h19 ?h20 ?h21 ?h22 ?h23 ?h24 ?h25 ?h26 ?h27 ?h28 ?h29 ?h30 ?h31 ?h32 ?h33 ?h34 ?h35 ?h36 ?h37 ?h38 ?h39 ?h40 ?h41 ?h42 ?h43 ?h44 ?h45 ?h46 ?h47 ?h48 ?h49 ?h50 ?h51 ?h52 ?h53 ?h54 ?h55 ?h56 ?h57 ?h58 ?h59 ?h60 ?h61 ?h62 ?h63 ?h64 ?h65 ?h66 ?h67 ?h68 ?h69 ?h70 ?h71 ?h72 ?h73 ?h74 ?h75 ?h76 ?h77 ?h78 ?h79 ?h80 ?h81 ?h82 ?h83 ?h84 ?h85 ?h86 ?h87 ?h88 ?h89 ?h90 ?h91 ?h92 ?h93 ?h94 ?h95 ?h96 ?h97 ?h98 ?h99 ?h100 ?h101 ?h102 ?h103 ?h104 ?h105 ?h106 ?h107 ?h108 ?h109 ?h110 ?h111 ?h112 ?h113 ?h114 ?h115 ?h116 ?h117 ?h118 ?h119 ?h120 ?h121 ?h122
  (case h0 | h1 | h2 | h3 | h4 | h5=>k_is)
  (case h6 | h7 | h8 | h9 | h10 | h11=>(refine' ⟨?_,?_,?_,?_⟩<;>k_is))
  (case h12 | h13 | h14 | h15 | h16 | h17 | h18 | h19 | h20 | h21 | h22 | h23 | h24 | h25 | h26 | h27 | h28 | h29 | h30=>k_is)
  (case h31 | h32 | h33 | h34 | h35 | h36 | h37 | h38 | h39 | h40 | h41 | h42 | h43 | h44 | h45 | h46 | h47 | h48 | h49 | h50 | h51 | h52 | h53 | h54 | h55 | h56 | h57 | h58 | h59 | h60 | h61 | h62 | h63 | h64 | h65 | h66 | h67 | h68=>(apply J.Fg.mk; k_is; apply L2.RU<;>k_is))
  (case h69 | h70 | h71 | h72 | h73 | h74 | h75 | h76 | h77 | h78 | h79 | h80 | h81 | h82 | h83 | h84 | h85 | h86 | h87 | h88 | h89 | h90=>(apply J.Fm.mk; (apply L2.PH.mk<;>k_is); apply L2.RU<;>k_is))
  (case h91 | h92 | h93 | h94 | h95 | h96=>(apply J.Fi.mk; (apply L2.Mk.mk<;>k_is); apply L2.RU<;>k_is))
  (case h97 | h98 | h99 | h100 | h101 | h102 | h103 | h104 | h105 | h106 | h107 | h108 | h109 | h110 | h111 | h112 | h113=>k_is)
  (case h114=>decide +kernel)
  (case h115=>k_is)
  (case h116=>decide +kernel)
  (case h117=>k_is)
  (case h118=>decide +kernel)
  (case h119 | h120=>k_is)
  (case h121=>decide +kernel)
  (case h122=>k_is)
