import PyProof.Rows.All
import Wide.All
import OpenK.AllK
import Wide.FinOn
import Lean
import PyProof.EqAt
import PyProof.EqKinds
import PyProof.TupleCall
import PyProof.Rows.CatFin
import PyProof.StrLawsIn
import KE.IntTextLaws
import KE.IntTextText
import PyProof.SumAny
import PyProof.SeqI3
import PyProof.WalkInts
import PyProof.NeKinds
import KE.KDictLaws
import PyProof.DictIter
import PyProof.DictWalks
import PyProof.Rows.DictUnroll
import PyProof.StrLawsTight
import PyProof.StrLawsChain
import PyProof.Rows.StrLawsPart
import PyProof.Rows.StrFirst
import PyProof.Rows.ReprOcc
import PyProof.Rows.StrItems
import KE.KSortTup
import PyProof.Rows.FStr
import PySem.Challenge.RW_jumpfield_k75_again_at_the_edge
set_option Elab.async false
set_option linter.all false
set_option maxRecDepth 100000
set_option maxHeartbeats 8000000
theorem A0{p:Prop}(h:p:=by lia):p:=h
theorem A1{p:Prop}(h:p:=by decide +kernel):p:=h
theorem A3{p:Prop}(h:p:=by decide):p:=h
theorem A4{p:Prop}(h:p:=by intro z; cases z):p:=h
theorem A6{p:Prop}(h:p:=by simp):p:=h
theorem B0{p:Prop}(h:p:=by intro _ z; cases z):p:=h
theorem B1{p:Prop}(h:p:=by show 0 < 1000; decide):p:=h
theorem B2{p:Prop}(h:p:=by show (0:Int) < 2; decide):p:=h
theorem B3{p:Prop}(h:p:=by show 1 < 1000; decide):p:=h
theorem B4{p:Prop}(h:p:=by omega):p:=h
abbrev B5:=@List.length_map
abbrev B6:=@List.getElem?_eq_some_iff
abbrev B7:=@List.mem_cons
abbrev B8:=@List.getElem?_map
abbrev B9:=@List.getElem?_eq_getElem
abbrev C0:=@PySem.Heap.get?_push_of_some
abbrev C1:=@Nat.le_refl
abbrev C3:=@List.mem_map
abbrev C4:=@List.length_append
abbrev C5:=@List.map_append
abbrev C6:=@List.not_mem_nil
abbrev C7:=@List.mem_cons_self
abbrev C8:=@List.mem_cons_of_mem
abbrev C9:=@PySem.Heap.lt_size
abbrev D0:=@Nat.le_trans
abbrev D3:=@Bool.false_ne_true
abbrev D4:=@List.size_toArray
abbrev D5:=@PySem.Heap.get?_push_size
abbrev D6:=@List.mem_singleton
abbrev D7:=@List.mem_of_getElem?
abbrev D8:=@Option.map_eq_some_iff
abbrev D9:=@Nat.mod_lt
abbrev F0:=@List.length_cons
abbrev F1:=@List.getD_eq_getElem?_getD
abbrev F2:=@Nat.lt_of_lt_of_le
abbrev F3:=@List.getElem?_append_right
abbrev F4:=@Nat.pow_succ
abbrev F5:=@Nat.ne_of_lt
abbrev F6:=@List.mem_append_right
abbrev F7:=@List.map_cons
abbrev F8:=@Nat.not_lt_zero
abbrev F9:=@List.mem_append
abbrev J1:=@List.getElem?_of_mem
abbrev J9:=@Int.natCast_pow
abbrev L5:=@Int.eq_ofNat_of_zero_le
abbrev L6:=@List.take_add_one
abbrev L7:=@Int.toNat_natCast
abbrev L8:=@List.length_take
abbrev L9:=@Nat.zero_le
abbrev M0:=@List.mem_range
abbrev M4:=@List.take_length
abbrev M6:=@List.length_range
abbrev M7:=@Int.natCast_add
abbrev M8:=@Nat.lt_of_le_of_lt
abbrev M9:=@List.getElem?_append_left
abbrev N3:=@Nat.mod_eq_of_lt
abbrev N4:=@Nat.div_add_mod
abbrev N5:=@List.nodup_cons
abbrev N6:=@Nat.zero_add
abbrev N7:=@Nat.mul_le_mul_left
abbrev N8:=@Nat.div_eq_of_lt
abbrev N9:=@Int.emod_lt_of_pos
abbrev O0:=@Nat.pow_le_pow_right
abbrev O1:=@List.all_eq_true
abbrev O2:=@PySem.Heap.get?_update_other
abbrev O3:=@List.length_replicate
abbrev O4:=@List.map_map
abbrev O5:=@Int.natCast_mul
abbrev O6:=@Bool.and_eq_true
abbrev O7:=@List.getElem?_range
abbrev O8:=@Int.toNat_of_nonneg
abbrev O9:=@Int.emod_nonneg
abbrev P0:=@Nat.le_of_not_lt
abbrev P1:=@Nat.add_mul_div_left
abbrev P2:=@List.idxOf_lt_length_of_mem
abbrev P3:=@Nat.lt_irrefl
abbrev P4:=@List.sum_cons
abbrev P5:=@List.lookup_cons
abbrev P6:=@List.nodup_nil
abbrev P7:=@PySem.Heap.size_push
abbrev P8:=@List.length_singleton
abbrev P9:=@Nat.add_mul_mod_self_left
abbrev Q0:=@List.range_succ
abbrev Q4:=@Bool.eq_iff_iff
abbrev Q5:=@List.mem_append_left
abbrev Q6:=@PySem.Heap.get?_none_of_le
abbrev Q7:=@List.replicate_succ
abbrev Q8:=@List.map_eq_nil_iff
abbrev Q9:=@List.any_eq_true
abbrev R3:=@Int.add_sub_cancel
abbrev R4:=@List.find?_cons
abbrev R5:=@List.getElem?_eq_none
abbrev R6:=@PySem.Heap.get?_update_self
abbrev R7:=@List.append_assoc
abbrev R8:=@List.nodup_iff_pairwise_ne
abbrev R9:=@Nat.succ_le_succ
abbrev S0:=@Nat.mul_comm
abbrev S1:=@List.getElem_mem
abbrev S2:=@Int.add_zero
abbrev S3:=@List.foldl_cons
abbrev S4:=@Option.toList_some
abbrev S6:=@Nat.add_comm
abbrev S7:=@List.nodup_append
abbrev S8:=@Bool.eq_false_iff
abbrev S9:=@List.mem_flatMap
abbrev T0:=@Int.natCast_ediv
abbrev T1:=@Nat.le_succ
abbrev T3:=@List.mem_filter
abbrev T5:=@List.length_pos_iff
abbrev T6:=@Nat.sub_self
abbrev T7:=@Nat.ne_of_gt
abbrev T8:=@Nat.lt_trans
abbrev T9:=@Array.getElem?_eq_some_iff
abbrev U0:=@Nat.pow_pos
abbrev U1:=@List.flatten_cons
abbrev U2:=@Nat.lt_succ_iff_lt_or_eq
abbrev U3:=@List.getElem?_take_of_lt
abbrev U4:=@List.any_cons
abbrev U5:=@Bool.and_true
abbrev U6:=@Nat.min_le_right
abbrev U7:=@Nat.lt_succ_self
abbrev U8:=@Nat.le_add_right
abbrev U9:=@List.mem_reverse
abbrev V0:=@List.getElem_map
abbrev V1:=@List.getElem?_replicate
abbrev V2:=@List.getElem?_cons_succ
abbrev V3:=@Nat.succ_mul
abbrev V4:=@List.getElem?_set_self
abbrev V5:=@Int.zero_add
abbrev V6:=@Int.pow_succ
abbrev V7:=@Option.map_some
abbrev V8:=@List.length_nil
abbrev V9:=@List.append_nil
abbrev W0:=@Nat.div_lt_iff_lt_mul
abbrev W1:=@Nat.pow_lt_pow_right
abbrev W2:=@Nat.mul_le_mul_right
abbrev W3:=@Nat.lt_one_iff
abbrev W4:=@Nat.add_mul
abbrev W5:=@List.mem_iff_getElem
abbrev W6:=@List.getElem_toArray
abbrev W7:=@List.getElem?_set_ne
abbrev W8:=@Int.mul_add
abbrev W9:=@List.getElem_of_mem
abbrev Y4:=@List.filterMap_cons
abbrev Y6:=@Int.mul_assoc
abbrev Y7:=@List.map_inj_right
abbrev Y8:=@List.contains_cons
abbrev Z0:=@List.findIdx?_eq_some_iff_getElem
abbrev Z1:=@Nat.lt_succ_of_lt
abbrev Z2:=@Nat.le_of_lt
abbrev Z3:=@List.map_nil
abbrev Z4:=@List.flatMap_cons
abbrev Z5:=@PySem.wpAny_bind
abbrev Z6:=@if_neg
abbrev Z7:=@decide_eq_true
abbrev Z8:=@decide_eq_false
abbrev Z9:=@if_pos
abbrev X4:=@Classical.byContradiction
abbrev X5:=@Option.some.inj
abbrev X6:=@Int.ofNat.inj
abbrev X7:=@Ne.symm
abbrev X8:=@of_decide_eq_true
abbrev X9:=@PySem.W.mg_of
abbrev K0:=@PySem.F.plainAttrs_list
abbrev K1:=@PySem.F.slot_list_append
abbrev K2:=@PySem.F.type_list_append
abbrev K3:=@PySem.wpAny_pure
abbrev K5:=@congrArg
abbrev K6:=@PyProof.Rows.boot_isinstance
abbrev K7:=@or_false
abbrev K8:=@PySem.PassesOwn.never
abbrev K9:=@PyProof.Rows.boot_tuple
abbrev A0a:=@PySem.Paired.length
abbrev A0b:=@PySem.W.kia_one
abbrev A0c:=@PySem.wpAny_truthy_bool
abbrev A0d:=@PySem.wpAny_field
abbrev A0e:=@PySem.boot_len
abbrev A0f:=@PySem.wpAny_mono
abbrev A0g:=@PySem.strLen_append
abbrev A0h:=@PySem.mem_of_lookup
abbrev A1a:=@PyProof.Rows.callWith_type1
abbrev A1b:=@PyProof.Rows.boot_int
abbrev A1c:=@PyProof.Rows.boot_str
abbrev A1d:=@PySem.Obj.data_mapFields
abbrev A1e:=@PySem.wpAny_seqItems
abbrev A1f:=@not_false_eq_true
abbrev A1g:=@PySem.wpAny_Call_Name_kw
abbrev A1h:=@PySem.wpAny_setField_rec
abbrev A2a:=@PySem.wpAny_passesOwn
abbrev A2b:=@PySem.call_meets
abbrev A2c:=@PySem.F.slot_tuple_iterator_next
abbrev A2d:=@PySem.F.plainAttrs_str
abbrev A2e:=@PySem.Paired.snoc
abbrev A2f:=@PyProof.Rows.boot_min
abbrev A2g:=@PyProof.Rows.boot_max
abbrev A2h:=@beq_self_eq_true
abbrev A3a:=@PySem.wpAny_pyIter_list
abbrev A3b:=@PySem.Obj.isFreed_of_fields
abbrev A3c:=@PySem.W.callWith_K
abbrev A3d:=@PySem.wpAny_execs_nil
abbrev A3e:=@PySem.wpAny_isSubtype_exc
abbrev A3f:=@not_or
abbrev A3g:=@PySem.wpAny_setField
abbrev A3h:=@PySem.tupleKind_room_in1
abbrev A4a:=@beq_iff_eq
abbrev A4b:=@PyProof.Rows.boot_bool
abbrev A4c:=@PySem.wpAny_newObj_type
abbrev A4d:=@PySem.wpAny_loadPart_at
abbrev A4e:=@PySem.wpAny_holding
abbrev A4f:=@PySem.F.slot_dict_get
abbrev A4g:=@Classical.choose_spec
abbrev A4h:=@PySem.wpAny_call_entry
abbrev A5a:=@if_true
abbrev A5b:=@PySem.W.plainGet_of
abbrev A5c:=@PySem.codeAny_mono
abbrev A5d:=@PySem.F.slot_zip_next
abbrev A5e:=@PySem.codeAny_handlers_test
abbrev A5f:=@PySem.Calls.evalArgs_plain
abbrev A5g:=@and_true
abbrev A5h:=@PySem.wpAny_updateSeq_pair
abbrev A6a:=@decide_eq_true_eq
abbrev A6b:=@PySem.wpAny_handleBy_cons
abbrev A6c:=@PySem.wpAny_attempt
abbrev A6d:=@PySem.wpAny_onRaise
abbrev A6e:=@PySem.F.args_str_split_2
open PySem.W (instObj methodObj lookIn plainGet hasDictIn findIn handedIn isFn plainOver takerIn any_some makesIn emptyDict keepIn specialIn takesIn mroIn kitOne kitx_list kitx_dict notCls excIn clsIn)
namespace L2
open PySem PySem.Spec PyProof.Rows
abbrev Key:=Sum Int Str
def Ql:Key->Value->Bool
 |.inl k,v=>Value.isInt k v
 |.inr x,v=>Value.isStrOf x v
def keyH(w:World):Key->Int
 |.inl k=>hashInt k
 |.inr x=>hashStr w x
theorem Cj:∀{k:Key}{v:Value},Ql k v=true->(∃i t,k=Sum.inl i/\v=Value.int i t)\/(∃x t,k=Sum.inr x/\v=Value.str x t)
 |.inl i,v,h=>by
  obtain⟨t,e⟩:=Value.isInt_shape (k:=i) (v:=v) h;exact .inl ⟨i,t,rfl,e⟩
 |.inr x,v,h=>by
  obtain⟨t,e⟩:=Value.isStrOf_shape (x:=x) (v:=v) h;exact .inr ⟨x,t,rfl,e⟩
theorem WA(i:Int)(t:Tok):Ql (.inl i) (.int i t)=true:=by simp[Ql,Value.isInt]
theorem Wz(x:Str)(t:Tok):Ql (.inr x) (.str x t)=true:=by simp[Ql,Value.isStrOf]
theorem key_ll(a b:Int):decide ((Sum.inl a:Key)=Sum.inl b)=(a==b):=by
 by_cases e:a=b
 ·subst e;simp
 ·have h:¬(Sum.inl a:Key)=Sum.inl b:=λq=>e (Sum.inl.inj q);rw[Z8 h];exact(beq_eq_false_iff_ne.mpr e).symm
theorem key_rr(a b:Str):decide ((Sum.inr a:Key)=Sum.inr b)=decide (a=b):=by
 by_cases e:a=b
 ·subst e;simp
 ·have h:¬(Sum.inr a:Key)=Sum.inr b:=λq=>e (Sum.inr.inj q);rw[Z8 h,Z8 e]
theorem key_lr(a:Int)(b:Str):decide ((Sum.inl a:Key)=Sum.inr b)=false:=Z8 (λq=>nomatch q)
theorem key_rl(a:Str)(b:Int):decide ((Sum.inr a:Key)=Sum.inl b)=false:=Z8 (λq=>nomatch q)
def CC(prog:Program)(w:World):PySem.KeyKind prog w Key where
 is:=Ql
 hash:=keyH w
 inj:=λv a b ha hb=>by
  rcases Cj ha with ⟨i,t,rfl,rfl⟩|⟨x,t,rfl,rfl⟩
  ·rcases Cj hb with ⟨j,u,rfl,e⟩|⟨y,u,rfl,e⟩
   ·injection e with e1 _;rw[e1]
   ·exact nomatch e
  ·rcases Cj hb with ⟨j,u,rfl,e⟩|⟨y,u,rfl,e⟩
   ·exact nomatch e
   ·injection e with e1 _;rw[e1]
 byValue:=λk v h=>by
  rcases Cj h with ⟨i,t,rfl,rfl⟩|⟨x,t,rfl,rfl⟩<;>rfl
 pyHash:=λhv h=>by
  rcases Cj hv with ⟨i,t,rfl,rfl⟩|⟨x,t,rfl,rfl⟩
  ·exact wpAny_pyHash_int h
  ·exact wpAny_pyHash_str h
 eqBool:=λhu hv h=>by
  rcases Cj hu with ⟨i,t,rfl,rfl⟩|⟨x,t,rfl,rfl⟩
  ·rcases Cj hv with ⟨j,u,rfl,rfl⟩|⟨y,u,rfl,rfl⟩
   ·rw[key_ll]at h;exact wpAny_eqBool_int h
   ·rw[key_lr]at h;exact SeqAt.EqAt.int_str i t y u _ _ _ _ h
  ·rcases Cj hv with ⟨j,u,rfl,rfl⟩|⟨y,u,rfl,rfl⟩
   ·rw[key_rl]at h;exact SeqAt.EqAt.str_int x t j u _ _ _ _ h
   ·rw[key_rr]at h;exact wpAny_eqBool_str h
 «strs»:=λk x t v h=>by
  rcases Cj h with ⟨i,u,rfl,e⟩|⟨y,u,rfl,e⟩
  ·exact nomatch e
  ·injection e with e1 _
   subst e1;cases v<;>rfl
theorem SR(prog:Program)(w:World)(i:Int)(t:Tok):(CC prog w).is (.inl i) (.int i t)=true:=WA i t
theorem SQ(prog:Program)(w:World)(x:Str)(t:Tok):(CC prog w).is (.inr x) (.str x t)=true:=Wz x t
inductive V where
 |non|bl (b:Bool)|int (i:Int)|str (x:Str)|byt (b:Array UInt8)|flt (b:UInt64)|ref (a:Addr)|ty (n:String)
 deriving DecidableEq
def Be:V->Value->Prop
 |.non,u=>u=Value.none
 |.bl b,u=>u=Value.bool b
 |.int i,u=>∃t,u=Value.int i t
 |.str x,u=>∃t,u=Value.str x t
 |.byt b,u=>∃t,u=Value.bytes b t
 |.flt b,u=>∃t,u=Value.float b t
 |.ref a,u=>u=Value.ref a
 |.ty n,u=>u=Value.type n
abbrev AO:List V->List Value->Prop:=Paired Be
theorem AO.length{xs:List V}{us:List Value}(r:AO xs us):xs.length=us.length:=A0a r
theorem AO.get:∀{xs:List V}{us:List Value}{i:Nat}{x:V},AO xs us->xs[i]?=some x->∃u,us[i]?=some u/\Be x u
 |_,_,_,_,.nil,e=>by simp at e
 |_,_,0,_,.cons r _,e=>by simp at e;subst e;exact⟨_,rfl,r⟩
 |_,_,i+1,x,.cons _ t,e=>by
  obtain⟨u,b,a⟩:=AO.get (i:=i) (x:=x) t (by simpa using e);exact⟨u,by simpa using b,a⟩
theorem AO.set{x:V}{u:Value}(r:Be x u):∀{xs:List V}{us:List Value}(i:Nat),AO xs us->AO (xs.set i x) (us.set i u)
 |_,_,_,.nil=>.nil
 |_,_,0,.cons _ t=>.cons r t
 |_,_,i+1,.cons q t=>.cons q (AO.set r i t)
theorem AO.append:∀{xs ys:List V}{us ws:List Value},AO xs us->AO ys ws->AO (xs++ys) (us++ws)
 |_,_,_,_,.nil,s=>s
 |_,_,_,_,.cons r t,s=>.cons r (AO.append t s)
theorem AO.take:∀{xs:List V}{us:List Value}(n:Nat),AO xs us->AO (xs.take n) (us.take n)
 |_,_,0,_=>.nil
 |_,_,_+1,.nil=>.nil
 |_,_,n+1,.cons r t=>.cons r (AO.take n t)
theorem AO.drop:∀{xs:List V}{us:List Value}(n:Nat),AO xs us->AO (xs.drop n) (us.drop n)
 |_,_,0,r=>r
 |_,_,_+1,.nil=>.nil
 |_,_,n+1,.cons _ t=>AO.drop n t
theorem AO.none_of:∀{xs:List V}{us:List Value}{i:Nat},AO xs us->xs[i]?=none->us[i]?=none:=λ{xs us i} r e=>by
 have b:=r.length;have a:xs.length<=i:=List.getElem?_eq_none_iff.mp e;exact List.getElem?_eq_none_iff.mpr A0
def Jj:Option V->Option Value->Prop
 |some v,some u=>Be v u
 |none,none=>True
 |_,_=>False
def KV{κ:Type}:List (κ×V)->List (κ×Value)->Prop:=Paired λ(p:κ×V)(q:κ×Value)=>p.1=q.1/\Be p.2 q.2
def kV:Key->V
 |.inl i=>.int i
 |.inr x=>.str x
inductive HO where
 |lst (xs:List V)
 |tup (xs:List V)
 |dK (kvs:List (Key×V))|dT (kvs:List (List Key×V))
 |set (S:Int->Bool) (n:Nat)
 |ins (C dx:Addr) (fs:List (Str×V))
 |own (x:Addr)
 |xd (fs:List (Str×V))
 |met (f x:Addr)
 |rng (lo hi:Int)
 |frz (o:Obj) (u:HO)
 |tbl (ps:Array Value)
 |ext (φ:Heap->Prop)
abbrev Hp:=Addr->Option HO
def upd(H:Hp)(a:Addr)(o:HO):Hp:=λb=>if b=a then some o else H b
theorem Af{H:Hp}{a:Addr}{o:HO}:upd H a o a=some o:=by unfold upd;rw[Z9 rfl]
theorem Ax{H:Hp}{a b:Addr}{o:HO}(h:b≠a):upd H a o b=H b:=by unfold upd;rw[Z6 h]
theorem Ih{H:Hp}{a:Addr}{o u:HO}:upd (upd H a o) a u=upd H a u:=by
 funext b;unfold upd;split<;>rfl
theorem AH{H:Hp}{a b:Addr}{o u:HO}(h:H a=some o)(h':H b=some u)(d:o≠u):a≠b:=by
 intro e;subst e;rw[h]at h';exact d (X5 h')
theorem Az{H:Hp}{a b:Addr}{o:HO}(h:H a=some o)(h':H b=none):a≠b:=by
 intro e;subst e;rw[h]at h';cases h'
section
variable(P:Program)(w:World)
def BW(H:Hp)(h:Heap)(a:Addr):HO->Prop
 |.lst xs=>xs.length<=sizeLine/\∃(its:List Value)(n:Nat),AO xs its/\h.get? a=some {cls:=.type "list",data:=.seq its.toArray n}
 |.tup xs=>xs.length<=sizeLine/\∃its:List Value,AO xs its/\IsTup h a its.toArray
 |.dK kvs=>kvs.length<=sizeLine/\(a==sysModules)=false/\∃vs,KV kvs vs/\h.DictOf (CC P w) a vs
 |.dT kvs=>kvs.length<=sizeLine/\(a==sysModules)=false/\∃xs:List (List Key×Addr×Value),
   Paired (λ(p:List Key×V)(q:List Key×Addr×Value)=>p.1=q.1/\H q.2.1=some (.tup (p.1.map kV))/\Be p.2 q.2.2) kvs xs /\
   ∃o es ep,h.get? a=some o/\o.ExactDict/\o.data=.dict es ep/\es.toList=xs.map (entryOfKey (tupleKind (CC P w)))/\(xs.map (·.1)).Nodup
 |.set S n=>h.SetOf (intKind P w) a S n
 |.ins C dx fs=>H dx=some (.own a)/\fs.length<=1000/\dx≠a/\h.get? a=some (instObj C dx) /\
   ∃mA,h.Ns1 dx mA/\(∀f,Jj (fs.lookup f) (mA f))/\PySem.Within mA (fs.map (·.1))
 |.own _=>∃o,h.get? a=some o
 |.xd fs=>∃mA,h.Ns1 a mA/\∀f,Jj (fs.lookup f) (mA f)
 |.rng lo hi=>∃t u v,h.get? a=some {cls:=.type "range",data:=.fields #[.int lo t,.int hi u,.int 1 v]}
 |.frz o u=>h.get? a=some o/\BW H h a u
 |.tbl ps=>h.get? a=some {cls:=.none,data:=.fields ps}
 |.met f x=>h.get? a=some (methodObj (.ref f) (.ref x))
 |.ext φ=>φ h/\(∃o,h.get? a=some o)/\∀h1 h2:Heap,φ h1->(∀o,h1.get? a=some o->h2.get? a=some o)->φ h2
def HOk(H:Hp)(h:Heap):Prop:=∀a o,H a=some o->BW P w H h a o
end
section
variable{P:Program}{w:World}{H H':Hp}{h h':Heap}{a:Addr}{o:HO}
theorem BW.lt(x:BW P w H h a o):a<h.objs.size:=by
 cases o with
 |lst xs=>obtain⟨_,_,_,_,e⟩:=x;exact C9 e
 |tup xs=>obtain⟨_,_,_,p⟩:=x;exact p.lt
 |dK b=>obtain⟨_,_,_,_,o,_,_,e,_⟩:=x;exact C9 e
 |dT b=>obtain⟨_,_,_,_,o,_,_,e,_⟩:=x;exact C9 e
 |set S n=>obtain⟨o,_,_,_,e,_⟩:=x;exact C9 e
 |ins C dx fs=>obtain⟨_,_,_,e,_⟩:=x;exact C9 e
 |own y=>obtain⟨_,e⟩:=x;exact C9 e
 |xd fs=>obtain⟨_,⟨_,_,_,e,_⟩,_⟩:=x;exact C9 e
 |rng lo c=>obtain⟨_,_,_,e⟩:=x;exact C9 e
 |frz d u=>obtain⟨e,_⟩:=x;exact C9 e
 |tbl g=>exact C9 (show h.get? a=some _ from x)
 |met f y=>exact C9 (show h.get? a=some _ from x)
 |ext φ=>obtain⟨_,⟨_,e⟩,_⟩:=x;exact C9 e
theorem Paired.mapP{α β:Type}{F G:α->β->Prop}:∀{d:List α}{c:List β},Paired F d c->(∀a b,F a b->G a b)->Paired G d c
 |_,_,.nil,_=>.nil
 |_,_,.cons r t,f=>.cons (f _ _ r) (Paired.mapP t f)
theorem BW.stay(x:BW P w H h a o)(k:∀b u,(b=a\/H b=some (.own a))->h.get? b=some u->h'.get? b=some u)
  (K:∀b,H b=some (.own a)->H' b=some (.own a)) (I:∀b xs,H b=some (.tup xs)->H' b=some (.tup xs)):BW P w H' h' a o:=by
 induction o with
 |lst xs=>obtain⟨z,l,n,r,e⟩:=x;exact⟨z,l,n,r,k _ _ (.inl rfl) e⟩
 |tup xs=>obtain⟨z,l,r,g,e,c⟩:=x;exact⟨z,l,r,g,k _ _ (.inl rfl) e,c⟩
 |dK m=>obtain⟨z,y,vs,r,g,i,j,e,c⟩:=x;exact⟨z,y,vs,r,g,i,j,k _ _ (.inl rfl) e,c⟩
 |dT m =>
  obtain⟨z,y,xs,r,g,i,j,e,c⟩:=x;exact⟨z,y,xs,Paired.mapP r λp q z=>⟨z.1,I _ _ z.2.1,z.2.2⟩,g,i,j,k _ _ (.inl rfl) e,c⟩
 |set S n=>obtain⟨g,i,j,t,e,c⟩:=x;exact⟨g,i,j,t,k _ _ (.inl rfl) e,c⟩
 |ins C dx fs =>
  obtain⟨d,z,ne,e,A,⟨s,i,j,G,c⟩,r⟩:=x;exact⟨K _ d,z,ne,k _ _ (.inl rfl) e,A,⟨s,i,j,k _ _ (.inr d) G,c⟩,r⟩
 |own y=>obtain⟨g,e⟩:=x;exact⟨g,k _ _ (.inl rfl) e⟩
 |xd fs=>obtain⟨A,⟨s,i,j,e,c⟩,r⟩:=x;exact⟨A,⟨s,i,j,k _ _ (.inl rfl) e,c⟩,r⟩
 |rng lo M=>obtain⟨t,u,v,e⟩:=x;exact⟨t,u,v,k _ _ (.inl rfl) e⟩
 |frz g u E=>obtain⟨e,q⟩:=x;exact⟨k _ _ (.inl rfl) e,E q⟩
 |tbl D =>
  have e:h.get? a=some {cls:=.none,data:=.fields D}:=x;show h'.get? a=some {cls:=.none,data:=.fields D};exact k a _ (.inl rfl) e
 |met f y =>
  have e:h.get? a=some (methodObj (.ref f) (.ref y)):=x;show h'.get? a=some (methodObj (.ref f) (.ref y));exact k a _ (.inl rfl) e
 |ext φ=>obtain⟨p,⟨o,e⟩,B⟩:=x;exact⟨B _ _ p λo q=>k _ _ (.inl rfl) q,⟨o,k _ _ (.inl rfl) e⟩,B⟩
theorem HOk.lt(x:HOk P w H h)(e:H a=some o):a<h.objs.size:=(x a o e).lt
theorem HOk.fresh(x:HOk P w H h)(e:h.objs.size<=a):H a=none:=by
 cases q:H a with
 |none=>rfl
 |some u=>exact absurd (F2 (x.lt q) e) (P3 _)
theorem HOk.kept(x:HOk P w H h)(k:∀b u,h.get? b=some u->h'.get? b=some u):HOk P w H h':=λa o e =>
 (x a o e).stay (λb u _ q=>k b u q) (λ_ q=>q) λ_ _ q=>q
theorem HOk.laid(x:HOk P w H h)(k:∀b u,h.get? b=some u->h'.get? b=some u)(hp:h.objs.size<=a)(new:BW P w (upd H a o) h' a o):HOk P w (upd H a o) h':=λb u e=>by
 have f:=x.fresh hp;by_cases d:b=a
 ·subst d;rw[Af]at e;cases e;exact new
 ·rw[Ax d]at e;exact(x b u e).stay (λc v _ q=>k c v q) (λc q=>by rw[Ax (Az q f)];exact q) λc xs q=>by rw[Ax (Az q f)];exact q
end
def Rd(H:Hp)(a:Addr)(u:HO):Prop:=H a=some u\/∃o,H a=some (.frz o u)
theorem Rd.ok{P:Program}{w:World}{H:Hp}{h:Heap}{a:Addr}{u:HO}(r:Rd H a u)(x:HOk P w H h):BW P w H h a u:=by
 rcases r with r|⟨o,r⟩
 ·exact x a u r
 ·obtain⟨_,q⟩:=x a _ r;exact q
def Mut:Option HO->Prop
 |some (.lst _)=>True
 |some (.dK _)=>True
 |some (.dT _)=>True
 |some (.set _ _)=>True
 |some (.ins _ _ _)=>True
 |some (.ext _)=>True
 |_=>False
section
variable{P:Program}{w:World}{H:Hp}{h h':Heap}{x e:Addr}{o':HO}
theorem HOk.write(ok:HOk P w H h)(j:Mut (H x))(n:e=x\/H e=some (.own x))(k:∀b u,b≠e->h.get? b=some u->h'.get? b=some u)(l:∃u,h'.get? e=some u)
  (new:BW P w (upd H x o') h' x o'):HOk P w (upd H x o') h':=λb u q=>by
 have d:∀c y,H c=some (.own y)->c≠x:=λc y r z=>by subst z;rw[r]at j;exact j
 have f:∀c xs,H c=some (.tup xs)->c≠x:=λc xs r z=>by subst z;rw[r]at j;exact j
 by_cases g:b=x
 ·subst g;rw[Af]at q;cases q;exact new
 ·rw[Ax g]at q;by_cases a:b=e
  ·have m:H b=some (.own x):=by
    rcases n with z|z
    ·exact absurd (a.trans z) g
    ·rw[a];exact z
   rw[q]at m;cases m;obtain⟨v,o⟩:=l;exact⟨v,by rw[a];exact o⟩
  ·refine(ok b u q).stay (λc v i r=>k c v ?_ r) (λc r=>by rw[Ax (d c b r)];exact r) λc xs r=>by rw[Ax (f c xs r)];exact r
   rcases i with rfl|i
   ·exact a
   ·rintro rfl;rcases n with z|z
    ·exact d c b i z
    ·rw[i]at z;cases z;exact g rfl
end
structure Un(fs ex:List Addr)(H H':Hp)(h h':Heap):Prop where
 keep:∀b o,h.get? b=some o->H b=none->b∉fs->b∉ex->h'.get? b=some o
 slot:∀b o,h.get? b=some o->H b=none->b∈fs->b∉ex->∃sl,h'.get? b=some {o with slots:=sl}
 free:∀b o,h.get? b=some o->H b=none->b∉ex->H' b=none
 there:∀b o,h.get? b=some o->b∉ex->∃o',h'.get? b=some o'
 tups:∀b xs,H b=some (.tup xs)->H' b=some (.tup xs)
 frzs:∀b o u,H b=some (.frz o u)->H' b=some (.frz o u)
 tbls:∀b ps,H b=some (.tbl ps)->∃more,H' b=some (.tbl (ps++more))
section
variable{fs fs' ex ex':List Addr}{H H1 H2:Hp}{h h1 h2 h':Heap}{a x e:Addr}{o:HO}
theorem Un.any(u:Un fs ex H H1 h h1){b:Addr}{c:Obj}(q:h.get? b=some c)(n:H b=none)(f:b∉ex):∃g,h1.get? b=some {c with slots:=g}:=by
 by_cases d:b∈fs
 ·exact u.slot b c q n d f
 ·exact⟨c.slots,u.keep b c q n d f⟩
theorem Un.kept(k:∀b u,h.get? b=some u->h'.get? b=some u):Un fs ex H H h h' :=
 ⟨λb c q _ _ _=>k b c q,λb c q _ _ _=>⟨c.slots,k b c q⟩,λ_ _ _ n _=>n,λb c q _=>⟨c,k b c q⟩,λ_ _ q=>q,λ_ _ _ q=>q,λ_ d q=>⟨#[],by rw[q];simp⟩⟩
theorem Un.refl:Un fs ex H H h h:=Un.kept λ_ _ q=>q
theorem Un.laid(k:∀b u,h.get? b=some u->h'.get? b=some u)(hp:h.objs.size<=a)(c:H a=none):Un fs ex H (upd H a o) h h' where
 keep:=λb u q _ _ _=>k b u q
 slot:=λb u q _ _ _=>⟨u.slots,k b u q⟩
 free:=λb u q n _=>by rw[Ax (F5 (F2 (C9 q) hp))];exact n
 there:=λb u q _=>⟨u,k b u q⟩
 tups:=λb xs q=>by rw[Ax (Az q c)];exact q
 frzs:=λb u xs q=>by rw[Ax (Az q c)];exact q
 tbls:=λb d q=>⟨#[],by rw[Ax (Az q c),q];simp⟩
theorem Un.write(d:Mut (H x))(l:e=x\/H e=some (.own x))(k:∀b u,b≠e->h.get? b=some u->h'.get? b=some u)(f:∃u,h'.get? e=some u):Un fs ex H (upd H x o) h h':=by
 have j:∀b,H b=none->b≠x:=λb n z=>by subst z;rw[n]at d;exact d
 have i:∀b,H b=none->b≠e:=λb n z=>by
  subst z;rcases l with r|r
  ·exact j b n r
  ·rw[n]at r;cases r
 have g:∀b u,H b=some u->¬Mut (some u)->b≠x:=λb u q nm z=>by subst z;rw[q]at d;exact nm d
 refine⟨λb u q n _ _=>k b u (i b n) q,λb u q n _ _=>⟨u.slots,k b u (i b n) q⟩,λb u q n _=>by rw[Ax (j b n)];exact n,λb u q _=>?_,
  λb xs q=>by rw[Ax (g b _ q λz=>z)];exact q,λb u xs q=>by rw[Ax (g b _ q λz=>z)];exact q,λb m q=>⟨#[],by rw[Ax (g b _ q λz=>z),q];simp⟩⟩
 by_cases c:b=e
 ·subst c;exact f
 ·exact⟨u,k b u c q⟩
end
def trk(h:Heap)(H:Hp):List Addr:=(List.range h.objs.size).filter λa=>(H a).isSome
def Rw(h:Heap)(H:Hp):Heap:=W.hideAll h (trk h H)
theorem WD(h:Heap)(H:Hp):(Rw h H).objs.size=h.objs.size:=W.hideAll_size _ _
theorem ZJ{h:Heap}{H:Hp}{b:Addr}{o:Obj}(e:h.get? b=some o)(n:H b=none):(Rw h H).get? b=some o :=
 W.hideAll_get _ e λa=>by
  have q:(H b).isSome=true:=(T3.mp a).2;rw[n]at q;simp at q
theorem of_hidT{h:Heap}{H:Hp}{b:Addr}{o:Obj}(e:(Rw h H).get? b=some o):h.get? b=some o/\H b=none:=by
 have a:h.get? b=some o:=W.of_hideAll (trk h H) e;refine⟨a,?_⟩;cases q:H b with
 |none=>rfl
 |some x =>
  have c:b∈trk h H:=T3.mpr ⟨M0.mpr (C9 a),by simp[q]⟩;have z:(Rw h H).get? b=none:=W.hideAll_none (trk h H) c;rw[z]at e;cases e
structure Mod(K:W.Frag)(mg:Str->Option Value)(base:Heap):Prop where
 kin:K.In base
 glob:base.Ns mainGlobals mg
 blt:∃mb,base.Ns builtinsNs mb/\∀x:Str,x≠"__name__" -> mb x=bootBuiltins x
 nolimit:base.NoLimit
structure Cx where
 prog:Program
 w:World
 K:W.Frag
 mg:Str->Option Value
 base:Heap
 A:Around
 N:List Str
 s₀:Shared
 H₀:Hp
 env:Env
 outer:List Env
 stack:List Env
 ex:List Addr
 fn:Str->Bool
 calm:Bool
 pn:List (Addr×Obj)
 xe:Value->Shared->Prop
def frs(l:List Env):List Addr:=l.filterMap (·.frame)
abbrev Cx.fs(X:Cx):List Addr:=frs X.outer
def Vis(sc:Scope)(x:Str):Prop:=sc.names.lookup x=some .local\/sc.names.lookup x=some .cell\/sc.names.lookup x=some .free
def Loc(sc:Scope)(x:Str):Prop:=sc.names.lookup x=some .local\/sc.names.lookup x=some .cell
def Look(env:Env)(h:Heap)(m:Str->Option Value)(x:Str)(u:Value):Prop :=
 (env.kindOf x=some .local/\m x=some u)\/((env.kindOf x=some .cell\/env.kindOf x=some .free)/\∃c,env.cells.lookup x=some c/\h.IsCell c (some u))
structure Cx.Ok(X:Cx):Prop where
 mod:Mod X.K X.mg X.base
 kind:X.env.scope.kind=.function
 glob:X.env.globals=mainGlobals
 blt:X.env.builtins=builtinsNs
 above:X.s₀.heap.objs.size<=X.env.locals
 inj:∀x y c,X.env.cells.lookup x=some c->X.env.cells.lookup y=some c->x=y
 has:∀x,(X.env.kindOf x=some .cell\/X.env.kindOf x=some .free)->∃c,X.env.cells.lookup x=some c
 cab:∀x c,X.fn x=true->X.env.cells.lookup x=some c->X.s₀.heap.objs.size<=c
 hd:X.calm=true->X.A.handled=none
 frames:X.A.frames=some X.stack
 stk:X.stack=X.outer\/(X.stack=X.env::X.outer/\X.env.frame=some X.env.locals)
 exf:∀b∈X.ex,b≠X.env.locals/\∀x c,X.env.cells.lookup x=some c->c≠b
 bs:∀b o,X.base.get? b=some o->X.s₀.heap.get? b=some o/\X.H₀ b=none
 bsz:X.base.objs.size<=X.s₀.heap.objs.size
 noex:∀b o,X.base.get? b=some o->b∉X.ex
 exfs:∀b∈X.ex,b∉X.fs
 funs:X.s₀.heap.FunFrames X.base X.outer
 frf:∀b∈X.fs,X.H₀ b=none
structure Inv(X:Cx)(pins:List (Addr×Obj))(σ:List (Option V))(H:Hp)(s:Shared):Prop where
 ok:X.Ok
 os:s.os=X.s₀.os
 bare:AllBare s.gens
 base:Un X.fs X.ex X.H₀ H X.s₀.heap s.heap
 loc:∃m,s.heap.Ns X.env.locals m/\∀(i:Nat)(x:Str)(v:V),X.N[i]?=some x->σ[i]?=some (some v)->Vis X.env.scope x->∃u,Be v u/\Look X.env s.heap m x u
 cell:∀x c,X.env.cells.lookup x=some c->∃v,s.heap.IsCell c v
 free:H X.env.locals=none
 freeC:∀x c,X.env.cells.lookup x=some c->H c=none
 pin:∀p∈X.pn++pins,s.heap.get? p.1=some p.2/\H p.1=none/\p.1≠X.env.locals/\p.1∉X.fs/\∀v,p.2.data≠.cell v
 hok:HOk X.prog X.w H s.heap
 len:σ.length=X.N.length
section
variable{X:Cx}{pins:List (Addr×Obj)}{σ:List (Option V)}{H H':Hp}{s:Shared}{h':Heap}
theorem Cx.Ok.nofr(ok:X.Ok){b:Addr}{o:Obj}(e:X.base.get? b=some o):b∉X.fs:=λa=>by
 have:=(ok.funs.mem a).1;rw[e]at this;cases this
theorem Inv.bs(I:Inv X pins σ H s):∀b o,X.base.get? b=some o->s.heap.get? b=some o/\H b=none:=λb o e =>
 ⟨I.base.keep b o (I.ok.bs b o e).1 (I.ok.bs b o e).2 (I.ok.nofr e) (I.ok.noex b o e),I.base.free b o (I.ok.bs b o e).1 (I.ok.bs b o e).2 (I.ok.noex b o e)⟩
theorem Inv.bk(I:Inv X pins σ H s):∀b o,X.base.get? b=some o->s.heap.get? b=some o:=λb o e=>(I.bs b o e).1
theorem Inv.mod(I:Inv X pins σ H s):Mod X.K X.mg X.base:=I.ok.mod
theorem Inv.kIn(I:Inv X pins σ H s):X.K.In s.heap:=I.ok.mod.kin.keeps I.bk
theorem Inv.lt(I:Inv X pins σ H s):X.env.locals<s.heap.objs.size:=let ⟨_,hn,_⟩:=I.loc;hn.lt
theorem Inv.sz(I:Inv X pins σ H s):X.s₀.heap.objs.size<=s.heap.objs.size:=D0 I.ok.above (Z2 I.lt)
theorem Inv.nofs(I:Inv X pins σ H s){a:Addr}(h:s.heap.objs.size<=a):a∉X.fs:=λc=>by
 obtain⟨_,o,b,_⟩:=I.ok.funs.mem c;exact absurd (F2 (C9 b) (D0 I.sz h)) (P3 _)
theorem Inv.cne(I:Inv X pins σ H s):∀x c,X.env.cells.lookup x=some c->c≠X.env.locals:=λx c e z=>by
 obtain⟨v,o,f,d⟩:=I.cell x c e;obtain⟨m,⟨o',g,h,a,b,_⟩,_⟩:=I.loc;rw[z,a]at f;cases f;rw[b]at d;cases d
theorem Inv.funs (I:Inv X pins σ H s):s.heap.FunFrames X.base X.outer:=by
 have all:∀(l:List Env),(∀b∈frs l,b∈X.fs)->X.s₀.heap.FunFrames X.base l->s.heap.FunFrames X.base l:=by
  intro l;induction l with
  |nil=>intro _ _;trivial
  |cons k r g =>
   intro f i;obtain⟨m,⟨L,o,d,p,n,j⟩,h⟩:=i;have c:L∈X.fs:=f L (by unfold frs;rw[Y4,d];exact C7);obtain⟨q,e⟩:=I.base.slot L o n (I.ok.frf L c) c λz=>I.ok.exfs L z c;exact⟨m,⟨L,_,d,p,e,j⟩,g (λb a=>f b (by unfold frs;rw[Y4,d];exact C8 _ a)) h⟩
 exact all X.outer (λ_ a=>a) I.ok.funs
theorem Inv.stack(I:Inv X pins σ H s):s.heap.FunFrames X.base X.stack:=by
 rcases I.ok.stk with e|⟨e,a⟩
 ·rw[e];exact I.funs
 ·rw[e];obtain⟨m,b,_⟩:=I.loc;refine .cons (by rw[I.ok.kind];decide) a b ?_ I.funs;exact Q6 (D0 I.ok.bsz I.ok.above)
theorem Inv.stkSub(I:Inv X pins σ H s):∀b∈frs X.stack,b∈X.env.locals::X.fs:=λb a=>by
 rcases I.ok.stk with e|⟨e,c⟩
 ·rw[e]at a;exact C8 _ a
 ·rw[e]at a;unfold frs at a;rw[Y4,c]at a;exact a
theorem Inv.stkFree(I:Inv X pins σ H s):∀b∈frs X.stack,H b=none:=λb a=>by
 rcases B7.mp (I.stkSub b a)with e|a
 ·rw[e];exact I.free
 ·obtain⟨_,o,c,_⟩:=I.ok.funs.mem a;exact I.base.free b o c (I.ok.frf b a) λz=>I.ok.exfs b z a
theorem Inv.step{g':Array GenState}{t':Nat}{d':Drawn}{ch:List Addr}(I:Inv X pins σ H s)
  (j:∀b∈ch,(b∈X.ex\/X.s₀.heap.objs.size<=b)/\b≠X.env.locals/\(∀x c,X.env.cells.lookup x=some c->c≠b)/\∀p∈X.pn++pins,p.1≠b)
  (keep:∀b o,b≠X.env.locals->b∉X.fs->b∉ch->s.heap.get? b=some o->H b=none->h'.get? b=some o)
  (g:∀b o,b≠X.env.locals->b∈X.fs->b∉ch->s.heap.get? b=some o->H b=none->∃S,h'.get? b=some {o with slots:=S}) (a:∀b o,b∉ch->s.heap.get? b=some o->H b=none->H' b=none)
  (there:∀b o,b∉ch->s.heap.get? b=some o->∃o',h'.get? b=some o')
  (C:∀b xs,H b=some (.tup xs)->H' b=some (.tup xs)) (D:∀b o u,H b=some (.frz o u)->H' b=some (.frz o u)) (B:∀b O,H b=some (.tbl O)->∃M,H' b=some (.tbl (O++M)))
  (ns:∀m,s.heap.Ns X.env.locals m->h'.Ns X.env.locals m) (Q:HOk X.prog X.w H' h') (hg:AllBare g') :
  Inv X pins σ H' {s with heap:=h',gens:=g',drawn:=d',toks:=t'}:=by
 have K:∀b o,X.s₀.heap.get? b=some o->b≠X.env.locals:=λb o e=>F5 (F2 (C9 e) I.ok.above);have y:∀b o,X.s₀.heap.get? b=some o->b∉X.ex->b∉ch:=λb o e f E=>by
  rcases(j b E).1 with z|z
  ·exact f z
  ·exact absurd (F2 (C9 e) z) (P3 _)
 have h:∀x c,X.env.cells.lookup x=some c->∀v,s.heap.IsCell c v->h'.IsCell c v:=λx c e v ⟨o,G,P⟩=>by
  have t:c∉ch:=λz=>(j c z).2.2.1 x c e rfl;by_cases T:c∈X.fs
  ·obtain⟨S,q⟩:=g c o (I.cne x c e) T t G (I.freeC x c e);exact⟨_,q,P⟩
  ·exact⟨o,keep c o (I.cne x c e) T t G (I.freeC x c e),P⟩
 refine⟨I.ok,I.os,hg,⟨λb o e n E f=>?_,λb o e n E f=>?_,λb o e n f=>?_,λb o e f=>?_,λb xs e=>C b xs (I.base.tups b xs e),λb o xs e=>D b o xs (I.base.frzs b o xs e),λb O e=>?_⟩,?_,λx c e=>?_,?_,λx c e=>?_,λp hp=>?_,Q,I.len⟩
 ·exact keep b o (K b o e) E (y b o e f) (I.base.keep b o e n E f) (I.base.free b o e n f)
 ·obtain⟨S,A⟩:=I.base.slot b o e n E f;obtain⟨R,N⟩:=g b _ (K b o e) E (y b o e f) A (I.base.free b o e n f);exact⟨R,N⟩
 ·obtain⟨o',A⟩:=I.base.there b o e f;exact a b o' (y b o e f) A (I.base.free b o e n f)
 ·obtain⟨o',A⟩:=I.base.there b o e f;exact there b o' (y b o e f) A
 ·obtain⟨Y,A⟩:=I.base.tbls b O e;obtain⟨Z,N⟩:=B b _ A;exact⟨Y++Z,by rw[N,Array.append_assoc]⟩
 ·obtain⟨m,hn,hl⟩:=I.loc;refine⟨m,ns m hn,λi x v A N V=>?_⟩;obtain⟨u,r,l⟩:=hl i x v A N V;refine⟨u,r,?_⟩;rcases l with l|⟨k,c,e,z⟩
  ·exact .inl l
  ·exact .inr ⟨k,c,e,h x c e _ z⟩
 ·obtain⟨v,z⟩:=I.cell x c e;exact⟨v,h x c e v z⟩
 ·obtain⟨m,⟨o,_,_,G,_⟩,_⟩:=I.loc;exact a _ o (λz=>(j _ z).2.1 rfl) G I.free
 ·obtain⟨v,o,G,P⟩:=I.cell x c e;exact a c o (λz=>(j c z).2.2.1 x c e rfl) G (I.freeC x c e)
 ·obtain⟨e,n,ne,U,d⟩:=I.pin p hp;have t:p.1∉ch:=λz=>(j p.1 z).2.2.2 p hp rfl;exact⟨keep p.1 p.2 ne U t e n,a p.1 p.2 t e n,ne,U,d⟩
theorem Inv.un{t':Nat}(I:Inv X pins σ H s)(u:Un X.fs [] H H' s.heap h')(g:HOk X.prog X.w H' h'):Inv X pins σ H' {s with heap:=h',toks:=t'}:=by
 obtain⟨m,⟨o,l,t,h,r⟩,_⟩:=id I.loc;obtain⟨q,k⟩:=u.any h I.free A6;exact I.step (g':=s.gens) (d':=s.drawn) (ch:=[]) (λ_ z=>nomatch z) (λb o _ c _ e n=>u.keep b o e n c A6) (λb o _ c _ e n=>u.slot b o e n c A6) (λb o _ e n=>u.free b o e n A6) (λb o _ e=>u.there b o e A6) u.tups u.frzs u.tbls (λp i=>by
  obtain⟨o',f,d,a,j⟩:=i;rw[h]at a;cases a;exact⟨_,f,d,k,j⟩) g I.bare
theorem Inv.call{g':Array GenState}{t':Nat}{d':Drawn}{ch:List Addr}(I:Inv X pins σ H s)(u:Un (frs X.stack) ch H H' s.heap h')(i:HOk X.prog X.w H' h')(v:AllBare g')
  (d:∀b∈ch,(b∈X.ex\/X.s₀.heap.objs.size<=b)/\b≠X.env.locals/\(∀x c,X.env.cells.lookup x=some c->c≠b)/\∀p∈X.pn++pins,p.1≠b) :
  Inv X pins σ H' {s with heap:=h',gens:=g',drawn:=d',toks:=t'}:=by
 obtain⟨m,⟨o,y,C,k,r⟩,_⟩:=id I.loc;obtain⟨B,j⟩:=u.any k I.free λz=>(d _ z).2.1 rfl;exact I.step (ch:=ch) d (λb o j l a e n=>u.keep b o e n (λz=>(B7.mp (I.stkSub b z)).elim j l) a) (λb o _ _ a e n=>u.any e n a) (λb o a e n=>u.free b o e n a) (λb o a e=>u.there b o e a) u.tups u.frzs u.tbls (λA q=>by
  obtain⟨o',h,g,f,t⟩:=q;rw[k]at f;cases f;exact⟨_,h,g,j,t⟩) i v
theorem Inv.turned{t':Nat}{it:Addr}(I:Inv X pins σ H s)(k:∀b o,b≠it->s.heap.get? b=some o->h'.get? b=some o)(A:H it=none)(f:it≠X.env.locals)
  (j:it∈X.ex\/X.s₀.heap.objs.size<=it) (l:∀x c,X.env.cells.lookup x=some c->c≠it) (t:∀p∈X.pn++pins,p.1≠it):Inv X pins σ H {s with heap:=h',toks:=t'}:=by
 have d:∀b u,H b=some u->b≠it:=λb u e z=>by rw[z,A]at e;cases e
 refine I.step (g':=s.gens) (d':=s.drawn) (ch:=[it]) (λb g=>?_) (λb o _ _ a e _=>k b o (λz=>a (by simp[z])) e) (λb o _ _ a e _=>⟨o.slots,k b o (λz=>a (by simp[z])) e⟩) (λ_ _ _ _ n=>n)
  (λb o a e=>⟨o,k b o (λz=>a (by simp[z])) e⟩) (λ_ _ e=>e) (λ_ _ _ e=>e) (λb B e=>⟨#[],by rw[e];simp⟩) (λm h=>?_) (λb u e=>?_) I.bare
 ·have e:b=it:=by simpa using g
  subst e;exact⟨j,f,l,t⟩
 ·obtain⟨o,i,w,y,r⟩:=h;exact⟨o,i,w,k _ o (X7 f) y,r⟩
 ·refine(I.hok b u e).stay (λc v a q=>k c v ?_ q) (λ_ q=>q) λ_ _ q=>q;rcases a with z|z
  ·rw[z];exact d b u e
  ·exact d c _ z
theorem Inv.tok(I:Inv X pins σ H s)(t:Nat):Inv X pins σ H {s with toks:=t}:=I.un (h':=s.heap) (t':=t) Un.refl I.hok
theorem Inv.kept{t':Nat}(I:Inv X pins σ H s)(k:∀b u,s.heap.get? b=some u->h'.get? b=some u):Inv X pins σ H {s with heap:=h',toks:=t'}:=I.un (Un.kept k) (I.hok.kept k)
theorem Inv.laid{a:Addr}{o:HO}{t':Nat}(I:Inv X pins σ H s)(k:∀b u,s.heap.get? b=some u->h'.get? b=some u)(hp:s.heap.objs.size<=a)(new:BW X.prog X.w (upd H a o) h' a o) :
  Inv X pins σ (upd H a o) {s with heap:=h',toks:=t'}:=I.un (Un.laid k hp (I.hok.fresh hp)) (I.hok.laid k hp new)
theorem Inv.write{x e:Addr}{o:HO}{t':Nat}(I:Inv X pins σ H s)(c:Mut (H x))(d:e=x\/H e=some (.own x))(k:∀b u,b≠e->s.heap.get? b=some u->h'.get? b=some u)(a:∃u,h'.get? e=some u)
  (new:BW X.prog X.w (upd H x o) h' x o):Inv X pins σ (upd H x o) {s with heap:=h',toks:=t'}:=I.un (Un.write c d k a) (I.hok.write c d k a new)
theorem Inv.weak{σ':List (Option V)}(I:Inv X pins σ H s)(b:σ'.length=σ.length)(w:∀(i:Nat) v,σ'[i]?=some (some v)->σ[i]?=some (some v)):Inv X pins σ' H s :=
 ⟨I.ok,I.os,I.bare,I.base,let ⟨m,hn,hl'⟩:=I.loc;⟨m,hn,λi x v d c a=>hl' i x v d (w i v c) a⟩,I.cell,I.free,I.freeC,I.pin,I.hok,b.trans I.len⟩
theorem Inv.pins_of{a:List (Addr×Obj)}(I:Inv X pins σ H s)(h:∀p∈a,s.heap.get? p.1=some p.2/\H p.1=none/\p.1≠X.env.locals/\p.1∉X.fs/\∀v,p.2.data≠.cell v):Inv X a σ H s :=
 ⟨I.ok,I.os,I.bare,I.base,I.loc,I.cell,I.free,I.freeC,λp hp=>(F9.mp hp).elim (λz=>I.pin p (Q5 _ z)) (h p),I.hok,I.len⟩
theorem OP{N:List Str}(e:N.Nodup){i j:Nat}{x:Str}(a:N[i]?=some x)(b:N[j]?=some x):i=j:=by
 obtain⟨f,d⟩:=B6.mp a;obtain⟨g,c⟩:=B6.mp b;exact(List.getElem_inj e).mp (d.trans c.symm)
theorem PZ{M:Model}{A:Around}{E:Value->Shared->Prop}{i:Nat}{x:Str}{v:V}{u:Value}{Q:Unit->Shared->Prop}(I:Inv X pins σ H s)(hN:X.N.Nodup)(U:X.N[i]?=some x)(B:Loc X.env.scope x)(r:Be v u)
  (h:∀s',Inv X pins (σ.set i (some v)) H s'->(∃a,Heap.SameBut a s.heap s'.heap/\(a=X.env.locals\/X.env.cells.lookup x=some a))->Q () s') (hf:X.fn x=true\/X.env.scope.names.lookup x=some .local:=by first|exact .inl rfl|exact .inr rfl|assumption):wpAny M A (storeName X.env x u) Q E s:=by
 obtain⟨m,hn,hl⟩:=id I.loc;have T:(X.env.scope.kind==.class || (X.env.scope.kind==.module && X.env.locals != X.env.globals))=false:=by rw[I.ok.kind];rfl
 have K:i<σ.length:=by rw[I.len];exact(B6.mp U).1
 have cne:=I.cne;have g:∀{a:Addr}{h':Heap},(∃o,s.heap.get? a=some o/\H a=none)->Heap.SameBut a s.heap h'->HOk X.prog X.w H h':=λ{a h'} ha f b ob e=>by
  obtain⟨_,_,C⟩:=ha;refine(I.hok b ob e).stay (λc w' t q=>(f.2 c ?_).trans q) (λ_ q=>q) λ_ _ q=>q;rintro rfl;rcases t with rfl|t
  ·rw[C]at e;cases e
  ·rw[C]at t;cases t
 rcases B with G|G
 ·refine wpAny_storeName_local G hn (λh' ac f=>?_) T;obtain⟨oL,_,_,ab,_⟩:=id hn;refine h _ ⟨I.ok,I.os,I.bare,⟨λb o e n R B=>?_,λb o e n R B=>?_,I.base.free,λb o e B=>?_,I.base.tups,I.base.frzs,I.base.tbls⟩,⟨_,ac,λj y v' l D e3=>?_⟩,λy c e=>?_,I.free,I.freeC,λp hp=>?_,g ⟨oL,ab,I.free⟩ f,by simpa using I.len⟩ ⟨_,f,.inl rfl⟩
  ·exact(f.2 b (F5 (F2 (C9 e) I.ok.above))).trans (I.base.keep b o e n R B)
  ·obtain⟨sl,l⟩:=I.base.slot b o e n R B;exact⟨sl,(f.2 b (F5 (F2 (C9 e) I.ok.above))).trans l⟩
  ·obtain⟨o',l⟩:=I.base.there b o e B;exact⟨o',(f.2 b (F5 (F2 (C9 e) I.ok.above))).trans l⟩
  ·by_cases P:j=i
   ·subst P;rw[U]at l;cases l;rw[V4 K]at D;cases D;exact⟨u,r,.inl ⟨G,by simp⟩⟩
   ·rw[W7 (X7 P)]at D;obtain⟨u',r',q⟩:=hl j y v' l D e3;refine⟨u',r',?_⟩;rcases q with ⟨k,e⟩|⟨k,c,e,z⟩
    ·refine .inl ⟨k,?_⟩;have:y≠x:=λe=>P (OP hN l (e▸U));simp[this,e]
    ·exact .inr ⟨k,c,e,z.sameBut f (cne y c e)⟩
  ·obtain⟨w',z⟩:=I.cell y c e;exact⟨w',z.sameBut f (cne y c e)⟩
  ·obtain⟨e,n,ne,nf,d⟩:=I.pin p hp;exact⟨(f.2 p.1 ne).trans e,n,ne,nf,d⟩
 ·have O:X.fn x=true:=by
   rcases hf with z|z
   ·exact z
   ·rw[z]at G;cases G
  obtain⟨c,t⟩:=I.ok.has x (.inl G);obtain⟨w',z⟩:=I.cell x c t;refine wpAny_storeName_cell I.ok.kind G t z (λh' aa f=>?_);obtain⟨oc,Y,Z⟩:=id z;refine h {s with heap:=h'} ⟨I.ok,I.os,I.bare,⟨λb o e n R B=>?_,λb o e n R B=>?_,I.base.free,λb o e B=>?_,I.base.tups,I.base.frzs,I.base.tbls⟩,⟨m,hn.sameBut f (X7 (cne x c t)),λj y v' l D e3=>?_⟩,λy c' e=>?_,I.free,I.freeC,λp hp=>?_,g ⟨oc,Y,I.freeC x c t⟩ f,by simpa using I.len⟩ ⟨c,f,.inr t⟩
  ·exact(f.2 b (F5 (F2 (C9 e) (I.ok.cab x c O t)))).trans (I.base.keep b o e n R B)
  ·obtain⟨sl,l⟩:=I.base.slot b o e n R B;exact⟨sl,(f.2 b (F5 (F2 (C9 e) (I.ok.cab x c O t)))).trans l⟩
  ·obtain⟨o',l⟩:=I.base.there b o e B;exact⟨o',(f.2 b (F5 (F2 (C9 e) (I.ok.cab x c O t)))).trans l⟩
  ·by_cases P:j=i
   ·subst P;rw[U]at l;cases l;rw[V4 K]at D;cases D;exact⟨u,r,.inr ⟨.inl G,c,t,aa⟩⟩
   ·rw[W7 (X7 P)]at D;obtain⟨u',r',q⟩:=hl j y v' l D e3;refine⟨u',r',?_⟩;rcases q with q|⟨k,c',e,z'⟩
    ·exact .inl q
    ·refine .inr ⟨k,c',e,z'.sameBut f ?_⟩;rintro rfl;exact P (OP hN l (I.ok.inj _ _ _ e t▸U))
  ·by_cases S:c'=c
   ·subst S;exact⟨_,aa⟩
   ·obtain⟨w2,z2⟩:=I.cell y c' e;exact⟨w2,z2.sameBut f S⟩
  ·obtain⟨e,n,ne,nf,d⟩:=I.pin p hp;refine⟨(f.2 p.1 ?_).trans e,n,ne,nf,d⟩;intro q;rw[q,Y]at e;have q':oc=p.2:=X5 e;exact d w' (by rw[<-q'];exact Z)
theorem Oo{M:Model}{A:Around}{E:Value->Shared->Prop}{i:Nat}{x:Str}{v:V}{u:Value}{Q:Unit->Shared->Prop}(I:Inv X pins σ H s)(a:X.N.Nodup)(b:X.N[i]?=some x)(d:Loc X.env.scope x)(r:Be v u)
  (h:∀s',Inv X pins (σ.set i (some v)) H s'->Q () s') (e:X.fn x=true\/X.env.scope.names.lookup x=some .local:=by first|exact .inl rfl|exact .inr rfl|assumption):wpAny M A (storeName X.env x u) Q E s :=
 PZ I a b d r (λs' c _=>h s' c) e
theorem Inv.call'{s':Shared}{ch:List Addr}(I:Inv X pins σ H s)(f:s'.os=s.os)(u:Un (frs X.stack) ch H H' s.heap s'.heap)(d:HOk X.prog X.w H' s'.heap)(g:AllBare s'.gens)
  (a:∀b∈ch,(b∈X.ex\/X.s₀.heap.objs.size<=b)/\b≠X.env.locals/\(∀x c,X.env.cells.lookup x=some c->c≠b)/\∀p∈X.pn++pins,p.1≠b):Inv X pins σ H' s':=by
 obtain⟨h',g',d',t',o'⟩:=s';have e:o'=s.os:=f;subst e;exact I.call (g':=g') (t':=t') (d':=d') u d g a
end
abbrev XK:=Value->Option Addr->Hp->Prop
abbrev St:=List (Option V)
abbrev VK:=V->Hp->Prop
abbrev TE:=St->Hp->VK->Prop
abbrev TT:=St->Hp->(Bool->Hp->Prop)->Prop
abbrev TA:=St->Hp->(List V->Hp->Prop)->Prop
structure MI where
 nx:St->Hp->Prop
 rt:VK
 bk:St->Hp->Prop:=λ_ _=>False
 ct:St->Hp->Prop:=λ_ _=>False
abbrev TS:=MI->St->Hp->Prop
def EP(X:Cx)(pins:List (Addr×Obj))(σ:St)(Q:VK)(u:Value)(s':Shared):Prop:=∃v H',Inv X pins σ H' s'/\Be v u/\Q v H'
def TP(X:Cx)(pins:List (Addr×Obj))(σ:St)(Q:Bool->Hp->Prop)(b:Bool)(s':Shared):Prop:=∃H',Inv X pins σ H' s'/\Q b H'
def AP(X:Cx)(pins:List (Addr×Obj))(σ:St)(Q:List V->Hp->Prop)(us:List Value)(s':Shared):Prop:=∃vs H',Inv X pins σ H' s'/\AO vs us/\Q vs H'
def SP(X:Cx)(pins:List (Addr×Obj))(D:MI)(f:Flow)(s':Shared):Prop :=
 match f with
 |.next=>∃σ' H',Inv X pins σ' H' s'/\D.nx σ' H'
 |.brk=>∃σ' H',Inv X pins σ' H' s'/\D.bk σ' H'
 |.cont=>∃σ' H',Inv X pins σ' H' s'/\D.ct σ' H'
 |.ret u=>∃v σ' H',Inv X pins σ' H' s'/\Be v u/\D.rt v H'
def PE(X:Cx)(e:Expr)(t:TE):Prop :=
 ∀(pins:List (Addr×Obj))(s:Shared)(σ:St)(H:Hp)(Q:VK),Inv X pins σ H s->t σ H Q->wpAny (model X.prog X.w) X.A (eval e X.env) (EP X pins σ Q) X.xe s
def PT(X:Cx)(e:Expr)(t:TT):Prop :=
 ∀(pins:List (Addr×Obj))(s:Shared)(σ:St)(H:Hp)(Q:Bool->Hp->Prop),Inv X pins σ H s->t σ H Q->wpAny (model X.prog X.w) X.A (isTrue e X.env (eval e X.env)) (TP X pins σ Q) X.xe s
def PW(X:Cx)(e:Expr)(t:TT):Prop :=
 ∀(whole:Sem Value)(pins:List (Addr×Obj))(s:Shared)(σ:St)(H:Hp)(Q:Bool->Hp->Prop),Inv X pins σ H s->t σ H Q->wpAny (model X.prog X.w) X.A (isTrue e X.env whole) (TP X pins σ Q) X.xe s
theorem PW.pt{X:Cx}{e:Expr}{t:TT}(h:PW X e t):PT X e t:=h _
def PA(X:Cx)(es:List Expr)(t:TA):Prop :=
 ∀(pos:Pos)(pins:List (Addr×Obj))(s:Shared)(σ:St)(H:Hp)(Q:List V->Hp->Prop),Inv X pins σ H s->t σ H Q->wpAny (model X.prog X.w) X.A (spliced (backTo pos (starEach es X.env))) (AP X pins σ Q) X.xe s
def PS(X:Cx)(st:Stmt)(t:TS):Prop :=
 ∀(pins:List (Addr×Obj))(s:Shared)(σ:St)(H:Hp)(D:MI),Inv X pins σ H s->t D σ H->wpAny (model X.prog X.w) X.A (exec st X.env) (SP X pins D) X.xe s
def PSs(X:Cx)(st:List Stmt)(t:TS):Prop :=
 ∀(pins:List (Addr×Obj))(s:Shared)(σ:St)(H:Hp)(D:MI),Inv X pins σ H s->t D σ H->wpAny (model X.prog X.w) X.A (execs st X.env) (SP X pins D) X.xe s
theorem thn{α:Type}{t:Sem α}{Q b:α->Shared->Prop}{M:Model}{A:Around}{E:Value->Shared->Prop}{s:Shared}(h:wpAny M A t Q E s)(c:∀a s,Q a s->b a s):wpAny M A t b E s:=A0f h c λ_ _ x=>x
section
variable{X:Cx}
def Gp(i:Nat):TE:=fun σ H Q=>∃v,σ[i]?=some (some v)/\Q v H
def tC(v:V):TE:=λ_ H Q=>Q v H
theorem pe_var{i:Nat}{x:Str}{g:Pos}(p:X.N[i]?=some x)(n:Vis X.env.scope x)(f:(x==("__debug__" : Str))=false:=by decide)(d:(x==("__classdict__" : Str))=false:=by decide):PE X (.Name x g) (Gp i):=by
 intro pins s σ H Q I h;obtain⟨v,e,h⟩:=h;obtain⟨m,q,o⟩:=I.loc;obtain⟨u,r,l⟩:=o i x v p e n;have fin:EP X pins σ Q u s:=⟨v,H,I,r,h⟩
 rcases l with ⟨b,k⟩|⟨b,c,j,a⟩
 ·exact wpAny_Name (wpAny_loadName_local I.ok.kind b q k fin) f
 ·rcases b with b|b
  ·exact wpAny_Name (wpAny_loadName_cell I.ok.kind b j a fin) f
  ·exact wpAny_Name (wpAny_loadName_free I.ok.kind b j a fin d) f
theorem Ac{i j pos}:PE X (.Constant (.int i) j pos) (tC (.int i)):=λ_ _ _ H _ I h=>wpAny_Constant_int ⟨.int i,H,I.tok _,⟨_,rfl⟩,h⟩
theorem Jf{b j pos}:PE X (.Constant (.bool b) j pos) (tC (.bl b)):=λ_ _ _ H _ I h=>Constant_bool ⟨.bl b,H,I,rfl,h⟩
theorem Bz{j pos}:PE X (.Constant .none j pos) (tC .non):=λ_ _ _ H _ I h=>Constant_none ⟨.non,H,I,rfl,h⟩
theorem IF{x j pos}:PE X (.Constant (.str x) j pos) (tC (.str x)):=λ_ _ _ H _ I h=>Calls.Constant_str ⟨.str x,H,I.tok _,⟨_,rfl⟩,h⟩
def Gl(X:Cx)(x:Str):Prop:=X.env.kindOf x=some .globalImplicit
theorem Fu{E:Value->Shared->Prop}{pins:List (Addr×Obj)}{s:Shared}{σ:St}{H:Hp}{x:Str}{u:Value}{a:Pos}{Q:Value->Shared->Prop}(I:Inv X pins σ H s)(d:Gl X x)(c:X.mg x=some u)(h:Q u s)
  (b:(x==("__debug__" : Str))=false:=by decide):wpAny (model X.prog X.w) X.A (eval (.Name x a) X.env) Q E s :=
 Calls.Name_function_global I.ok.kind d (Calls.loadGlobal_global (by rw[I.ok.glob];exact I.mod.glob.keeps I.bk) c h) b
theorem LV{E:Value->Shared->Prop}{pins:List (Addr×Obj)}{s:Shared}{σ:St}{H:Hp}{x:Str}{u:Value}{a:Pos}{Q:Value->Shared->Prop}(I:Inv X pins σ H s)(g:Gl X x)(b:X.mg x=none)(d:bootBuiltins x=some u)(h:Q u s)
  (i:x≠"__name__" := by decide) (e:(x==("__debug__" : Str))=false:=by decide):wpAny (model X.prog X.w) X.A (eval (.Name x a) X.env) Q E s:=by
 obtain⟨j,c,f⟩:=I.mod.blt;exact Calls.Name_function_global I.ok.kind g (Calls.loadGlobal_builtin (by rw[I.ok.glob];exact I.mod.glob.keeps I.bk) b (by rw[I.ok.blt];exact c.keeps I.bk) ((f x i).trans d) h) e
theorem QZ{x:Str}{v:V}{u:Value}{a:Pos}(d:Gl X x)(c:X.mg x=some u)(r:Be v u)(b:(x==("__debug__" : Str))=false:=by decide):PE X (.Name x a) (tC v) :=
 λ_ _ _ H _ I h=>Fu I d c ⟨v,H,I,r,h⟩ b
theorem Fp{x:Str}{v:V}{u:Value}{a:Pos}(e:Gl X x)(b:X.mg x=none)(c:bootBuiltins x=some u)(r:Be v u)(f:x≠"__name__" := by decide)(d:(x==("__debug__" : Str))=false:=by decide):PE X (.Name x a) (tC v) :=
 λ_ _ _ H _ I h=>LV I e b c ⟨v,H,I,r,h⟩ f d
variable{a b:Expr}{ta tb:TE}{pos:Pos}
def PC(X:Cx)(op:CmpOp)(a b:Expr)(t:TE):Prop :=
 ∀(pins:List (Addr×Obj))(s:Shared)(σ:St)(H:Hp)(Q:VK),Inv X pins σ H s->t σ H Q ->
  wpAny (model X.prog X.w) X.A (eval a X.env) (λv s₁=>wpAny (model X.prog X.w) X.A (eval b X.env) (λu s₂=>wpAny (model X.prog X.w) X.A (compareOp op v u) (EP X pins σ Q) X.xe s₂) X.xe s₁) X.xe s
def tB(t:TE):TT:=fun σ H Q=>t σ H λx H1=>∃c,x=.bl c/\Q c H1
theorem pt_cmp{f:CmpOp}{t:TE}(h:PC X f a b t)(e:behindInMarks f b=false:=by first|exact nobehind _ A3 A3|rfl):PT X (.Compare a [f] [b] pos) (tB t):=by
 intro pins s σ H Q I k;refine wpAny_isTrue_Compare1 (thn (h pins s σ H _ I k) λv o e=>thn e λu n m=>thn m λc p ⟨x,l,g,j,i⟩=>?_) e;obtain⟨d,rfl,q⟩:=i;cases j;exact A0c ⟨l,g,q⟩
theorem CM{e:Expr}{t:TE}(h:PE X e t)(l:∀c,isTrue e X.env c=(do let v <-c;standAt e.pos;holding [v] (truthy v)):=by intro _;rfl):PT X e (tB t):=by
 intro pins s σ H Q I j;refine isTrue_plain (thn (h pins s σ H _ I j) λv m ⟨x,k,f,i,g⟩=>?_) (l _);obtain⟨d,rfl,q⟩:=g;cases i;exact A0c ⟨k,f,q⟩
variable{tA tB':TT}{rest:List Expr}
def tAnd(t u:TT):TT:=fun σ H Q=>t σ H λc H1=>if c=true then u σ H1 Q else Q false H1
def tOr(t u:TT):TT:=fun σ H Q=>t σ H λc H1=>if c=true then Q true H1 else u σ H1 Q
def tNot(t:TT):TT:=fun σ H Q=>t σ H λc H1=>Q (!c) H1
theorem Gk(d:PT X a tA):PW X (.BoolOp .And [a] pos) tA:=by
 intro g pins s σ H Q I h;refine isTrue_and (thn (d pins s σ H Q I h) λc f e=>?_);cases c with
 |true=>exact isTrue_and_nil e
 |false=>exact e
theorem IE(d:PT X a tA):PW X (.BoolOp .Or [a] pos) tA:=by
 intro g pins s σ H Q I h;refine isTrue_or (thn (d pins s σ H Q I h) λc f e=>?_);cases c with
 |false=>exact isTrue_or_nil e
 |true=>exact e
theorem Js(j:PT X a tA)(k:PW X (.BoolOp .And (b::rest) pos) tB'):PW X (.BoolOp .And (a::b::rest) pos) (tAnd tA tB'):=by
 intro i pins s σ H Q I h;refine isTrue_and (thn (j pins s σ H _ I h) λc g ⟨f,d,e⟩=>?_);cases c with
 |true=>exact k i pins g σ f Q d e
 |false=>exact⟨f,d,e⟩
theorem Mn(j:PT X a tA)(k:PW X (.BoolOp .Or (b::rest) pos) tB'):PW X (.BoolOp .Or (a::b::rest) pos) (tOr tA tB'):=by
 intro i pins s σ H Q I h;refine isTrue_or (thn (j pins s σ H _ I h) λc g ⟨f,d,e⟩=>?_);cases c with
 |true=>exact⟨f,d,e⟩
 |false=>exact k i pins g σ f Q d e
theorem Da(d:PT X a tA):PT X (.UnaryOp .Not a pos) (tNot tA):=by
 intro pins s σ H Q I h;exact isTrue_not (d pins s σ H (λc e=>Q (!c) e) I h)
def tAndV(ta tb:TE):TE:=fun σ H Q=>ta σ H λx H1=>∃c,x=.bl c/\if c=true then tb σ H1 Q else Q (.bl false) H1
def tOrV(ta tb:TE):TE:=fun σ H Q=>ta σ H λx H1=>∃c,x=.bl c/\if c=true then Q (.bl true) H1 else tb σ H1 Q
def tNotV(ta:TE):TE:=fun σ H Q=>ta σ H λx H1=>∃c,x=.bl c/\Q (.bl (!c)) H1
theorem IG{op}{t:TE}(h:PE X a t):PE X (.BoolOp op [a] pos) t:=λpins s σ H Q I c=>BoolOp_one (h pins s σ H Q I c)
theorem IH(j:PE X a ta)(i:PE X (.BoolOp .And (b::rest) pos) tb):PE X (.BoolOp .And (a::b::rest) pos) (tAndV ta tb):=by
 intro pins s σ H Q I h;refine BoolOp_and (thn (j pins s σ H _ I h) λv g ⟨x,f,e,k,d⟩=>?_);obtain⟨c,rfl,d⟩:=d;cases k;refine A0c ?_;cases c with
 |true=>exact i pins g σ f Q e d
 |false=>exact⟨.bl false,f,e,rfl,d⟩
theorem pe_or(j:PE X a ta)(i:PE X (.BoolOp .Or (b::rest) pos) tb):PE X (.BoolOp .Or (a::b::rest) pos) (tOrV ta tb):=by
 intro pins s σ H Q I h;refine BoolOp_or (thn (j pins s σ H _ I h) λv g ⟨x,f,e,k,d⟩=>?_);obtain⟨c,rfl,d⟩:=d;cases k;refine A0c ?_;cases c with
 |false=>exact i pins g σ f Q e d
 |true=>exact⟨.bl true,f,e,rfl,d⟩
theorem QY(f:PE X a ta):PE X (.UnaryOp .Not a pos) (tNotV ta):=by
 intro pins s σ H Q I h;refine UnaryOp_ (thn (f pins s σ H _ I h) λv j ⟨x,i,e,g,d⟩=>?_);obtain⟨c,rfl,d⟩:=d;cases g;exact not_of (A0c ⟨.bl (!c),i,e,rfl,d⟩)
def tIf(t:TT)(ta tb:TE):TE:=fun σ H Q=>t σ H λc H1=>if c=true then ta σ H1 Q else tb σ H1 Q
theorem SA{c:Expr}(l:PT X c tA)(k:PE X a ta)(j:PE X b tb):PE X (.IfExp c a b pos) (tIf tA ta tb):=by
 intro pins s σ H Q I h;refine wpAny_IfExp (thn (l pins s σ H _ I h) λd e ⟨i,f,g⟩=>?_);cases d with
 |true=>exact k pins e σ i Q f g
 |false=>exact j pins e σ i Q f g
end
def SqL(K:W.Frag)(H:Hp)(a:Addr)(xs:List V):Prop :=
 Rd H a (.lst xs) \/
  ∃(o:Obj)(its:Array Value)(n:Nat),K.lookup a=some o/\o.cls=.type "list" /\ o.dict=none/\o.data=.seq its n/\its.size<=sizeLine/\AO xs its.toList
def SqT(K:W.Frag)(H:Hp)(a:Addr)(xs:List V):Prop :=
 Rd H a (.tup xs) \/
  ∃(o:Obj)(its:Array Value)(n:Nat),K.lookup a=some o/\o.cls=.type "tuple" /\ o.data=.seq its n/\its.size<=sizeLine/\AO xs its.toList
def absV:Value->Option V
 |.none=>some .non
 |.bool b=>some (.bl b)
 |.int i _=>some (.int i)
 |.str x _=>some (.str x)
 |.bytes b _=>some (.byt b)
 |.float b _=>some (.flt b)
 |.ref a=>some (.ref a)
 |.type n=>some (.ty n)
 |_=>none
theorem Be.abs{x:V}{u:Value}(r:Be x u):absV u=some x:=by
 cases x with
 |non=>cases r;rfl
 |bl _=>cases r;rfl
 |int _=>obtain⟨t,rfl⟩:=r;rfl
 |str _=>obtain⟨t,rfl⟩:=r;rfl
 |byt _=>obtain⟨t,rfl⟩:=r;rfl
 |flt _=>obtain⟨t,rfl⟩:=r;rfl
 |ref _=>cases r;rfl
 |ty _=>cases r;rfl
theorem Be.inj{x y:V}{u:Value}(r:Be x u)(q:Be y u):x=y:=X5 (r.abs.symm.trans q.abs)
theorem AO.inj:∀{xs ys:List V}{us:List Value},AO xs us->AO ys us->xs=ys
 |_,_,_,.nil,.nil=>rfl
 |_,_,_,.cons r t,.cons r' t'=>by rw[r.inj r',AO.inj t t']
section
variable{X:Cx}{pins:List (Addr×Obj)}{σ:St}{H:Hp}{s:Shared}{a:Addr}{xs ys:List V}
theorem SqL.of{K:W.Frag}(h:H a=some (.lst xs)):SqL K H a xs:=.inl (.inl h)
theorem SqT.of{K:W.Frag}(h:H a=some (.tup xs)):SqT K H a xs:=.inl (.inl h)
theorem Inv.list(I:Inv X pins σ H s)(h:SqL X.K H a xs):∃b:List Value,AO xs b/\PlainL s.heap a b.toArray/\xs.length<=sizeLine:=by
 rcases h with h|⟨o,b,n,f,c,d,g,i,r⟩
 ·obtain⟨z,b,n,r,e⟩:=h.ok I.hok;exact⟨b,r,⟨_,n,e,rfl,rfl,rfl⟩,z⟩
 ·refine⟨b.toList,r,⟨o,n,I.kIn a o f,c,d,by simpa using g⟩,?_⟩;have e:=r.length;simp only[Array.length_toList]at e;lia
theorem Inv.tuple(I:Inv X pins σ H s)(h:SqT X.K H a xs):∃b:List Value,AO xs b/\IsTup s.heap a b.toArray/\xs.length<=sizeLine:=by
 rcases h with h|⟨o,b,n,d,c,f,g,r⟩
 ·obtain⟨z,b,r,p⟩:=h.ok I.hok;exact⟨b,r,p,z⟩
 ·refine⟨b.toList,r,⟨o,I.kIn a o d,c,n,by simpa using f⟩,?_⟩;have e:=r.length;simp only[Array.length_toList]at e;lia
theorem Inv.list_inj(I:Inv X pins σ H s)(h:SqL X.K H a xs)(h':SqL X.K H a ys):xs=ys:=by
 obtain⟨b,r,⟨o,n,e,_,_,d⟩,_⟩:=I.list h;obtain⟨its',f,⟨o',g,c,_,_,d'⟩,_⟩:=I.list h';rw[e]at c;cases c;rw[d]at d';injection d' with d1 _
 have:b=its':=by simpa using K5 Array.toList d1
 subst this;exact r.inj f
theorem Inv.tuple_inj(I:Inv X pins σ H s)(h:SqT X.K H a xs)(h':SqT X.K H a ys):xs=ys:=by
 obtain⟨b,r,⟨o,e,_,n,d⟩,_⟩:=I.tuple h;obtain⟨its',f,⟨o',c,_,g,d'⟩,_⟩:=I.tuple h';rw[e]at c;cases c;rw[d]at d';injection d' with d1 _
 have:b=its':=by simpa using K5 Array.toList d1
 subst this;exact r.inj f
end
abbrev Cx.wish(X:Cx)(E:Value->Shared->Prop):Cx:={X with xe:=E}
abbrev Cx.nox(X:Cx):Cx:=X.wish λ_ _=>False
theorem Cx.Ok.wish{X:Cx}(ok:X.Ok)(E:Value->Shared->Prop):(X.wish E).Ok :=
 ⟨ok.mod,ok.kind,ok.glob,ok.blt,ok.above,ok.inj,ok.has,ok.cab,ok.hd,ok.frames,ok.stk,ok.exf,ok.bs,ok.bsz,ok.noex,ok.exfs,ok.funs,ok.frf⟩
theorem Cx.Ok.unwish{X:Cx}{E:Value->Shared->Prop}(ok:(X.wish E).Ok):X.Ok :=
 ⟨ok.mod,ok.kind,ok.glob,ok.blt,ok.above,ok.inj,ok.has,ok.cab,ok.hd,ok.frames,ok.stk,ok.exf,ok.bs,ok.bsz,ok.noex,ok.exfs,ok.funs,ok.frf⟩
section
variable{X:Cx}{pins:List (Addr×Obj)}{σ:St}{H:Hp}{s:Shared}{E:Value->Shared->Prop}
theorem Inv.wish(I:Inv X pins σ H s)(E:Value->Shared->Prop):Inv (X.wish E) pins σ H s:=⟨I.ok.wish E,I.os,I.bare,I.base,I.loc,I.cell,I.free,I.freeC,I.pin,I.hok,I.len⟩
theorem Inv.unwish(I:Inv (X.wish E) pins σ H s):Inv X pins σ H s:=⟨I.ok.unwish,I.os,I.bare,I.base,I.loc,I.cell,I.free,I.freeC,I.pin,I.hok,I.len⟩
theorem SP.unwish{D:MI}{f:Flow}{s':Shared}(h:SP (X.wish E) pins D f s'):SP X pins D f s':=by
 cases f with
 |next=>obtain⟨σ',a,I,q⟩:=h;exact⟨σ',a,I.unwish,q⟩
 |brk=>obtain⟨σ',a,I,q⟩:=h;exact⟨σ',a,I.unwish,q⟩
 |cont=>obtain⟨σ',a,I,q⟩:=h;exact⟨σ',a,I.unwish,q⟩
 |ret u=>obtain⟨v,σ',a,I,r,q⟩:=h;exact⟨v,σ',a,I.unwish,r,q⟩
theorem PSs.nox{a:List Stmt}{t:TS}(h:PSs X.nox a t):PSs X a t:=λpins s σ H D I b =>
 A0f (h pins s σ H D (I.wish _) b) (λ_ _ q=>q.unwish) λ_ _ z=>False.elim z
end
section
variable{X:Cx}{st:Stmt}{rest:List Stmt}{t u:TS}{e:Expr}{te:TE}{pos:Pos}
def tNext:TS:=λD σ H=>D.nx σ H
def tSeq(t u:TS):TS:=λD σ H=>t {D with nx:=u D} σ H
theorem AB:PSs X [] tNext:=λ_ _ σ H _ I h=>A3d ⟨σ,H,I,h⟩
theorem Ab(b:PS X st t)(c:PSs X rest u):PSs X (st::rest) (tSeq t u):=by
 intro pins s σ H D I h;refine wpAny_execs_cons (thn (b pins s σ H {D with nx:=u D} I h) λf a q=>?_);cases f with
 |next =>
  obtain⟨σ',g,d,q⟩:=q;exact c pins a σ' g D d q
 |ret v=>exact q
 |brk=>exact q
 |cont=>exact q
theorem Ah(a:PS X st t):PSs X [st] t:=by
 intro pins s σ H D I h;refine wpAny_execs_cons (thn (a pins s σ H D I h) λf b q=>?_);cases f with
 |next=>exact A3d q
 |ret v=>exact q
 |brk=>exact q
 |cont=>exact q
theorem Inv.quiet{pins:List (Addr×Obj)}{σ:St}{H:Hp}{s:Shared}(I:Inv X pins σ H s):interactive X.env=false:=by simp[interactive,I.ok.kind]
def tDrop(te:TE):TS:=λD σ H=>te σ H λ_ H1=>D.nx σ H1
theorem BP(f:PE X e te)(d:swapsWith e none pos.line X.env=pure false:=by rfl):PS X (.Expr e pos) (tDrop te):=by
 intro pins s σ H D I h;exact wpAny_Expr_any (thn (f pins s σ H _ I h) λv g ⟨x,c,a,i,b⟩=>⟨σ,c,a,b⟩) I.quiet d
def tRet(te:TE):TS:=λD σ H=>te σ H D.rt
theorem As(f:PE X e te):PS X (.Return (some e) pos) (tRet te):=by
 intro pins s σ H D I h;exact wpAny_Return_some (thn (f pins s σ H _ I h) λv g ⟨x,d,a,c,b⟩=>⟨x,σ,d,a,c,b⟩)
def tIfS(c:TT)(t u:TS):TS:=λD σ H=>c σ H λb H1=>if b=true then t D σ H1 else u D σ H1
theorem AM{c:Expr}{a b:List Stmt}{tc:TT}(m:PT X c tc)(l:PSs X a t)(k:PSs X b u):PS X (.If c a b pos) (tIfS tc t u):=by
 intro pins s σ H D I h;refine wpAny_If (thn (m pins s σ H _ I h) λd f ⟨j,g,i⟩=>?_);cases d with
 |true=>exact l pins f σ j D g i
 |false=>exact k pins f σ j D g i
def tNever:TS:=λ_ _ _=>False
theorem Bw:PS X st tNever:=λ_ _ _ _ _ _ h=>h.elim
end
abbrev TG:=V->St->Hp->(St->Hp->Prop)->Prop
abbrev TGs:=List V->St->Hp->(St->Hp->Prop)->Prop
def PG(X:Cx)(target:Expr)(t:TG):Prop :=
 ∀(pins:List (Addr×Obj))(s:Shared)(σ:St)(H:Hp)(v:V)(u:Value)(Q:St->Hp->Prop),Inv X pins σ H s->Be v u->t v σ H Q ->
  wpAny (model X.prog X.w) X.A (assign target X.env u) (λ_ s'=>∃σ' H',Inv X pins σ' H' s'/\Q σ' H') X.xe s
def PGs(X:Cx)(ts:List Expr)(t:TGs):Prop :=
 ∀(pins:List (Addr×Obj))(s:Shared)(σ:St)(H:Hp)(vs:List V)(us:List Value)(Q:St->Hp->Prop),Inv X pins σ H s->AO vs us->t vs σ H Q ->
  wpAny (model X.prog X.w) X.A (assignInOrder ((assignEach ts X.env).map (·.2)) us) (λ_ s'=>∃σ' H',Inv X pins σ' H' s'/\Q σ' H') X.xe s
abbrev TSet:=V->V->V->Hp->(Hp->Prop)->Prop
def PSet(X:Cx)(t:TSet):Prop :=
 ∀(pins:List (Addr×Obj))(s:Shared)(σ:St)(H:Hp)(o i v:V)(ov iv u:Value)(Q:Hp->Prop),Inv X pins σ H s->Be o ov->Be i iv->Be v u->t o i v H Q ->
  wpAny (model X.prog X.w) X.A (setItem ov iv u) (λ_ s'=>∃H',Inv X pins σ H' s'/\Q H') X.xe s
section
variable{X:Cx}{pos:Pos}
def ND(i:Nat):TG:=λv σ H Q=>Q (σ.set i (some v)) H
theorem BQ{i:Nat}{x:Str}(a:X.N.Nodup)(b:X.N[i]?=some x)(d:Loc X.env.scope x)(e:X.fn x=true\/X.env.scope.names.lookup x=some .local:=by first|exact .inl rfl|exact .inr rfl|assumption):PG X (.Name x pos) (ND i):=by
 intro pins s σ H v u Q I r h;exact wpAny_assign_Name (Oo I a b d r (λs' c=>⟨_,H,c,h⟩) e)
def gNil:TGs:=λvs σ H Q=>vs=[]/\Q σ H
def SY(t:TG)(u:TGs):TGs:=λvs σ H Q=>∃v r,vs=v::r/\t v σ H fun σ' H'=>u r σ' H' Q
theorem Mo:PGs X [] gNil:=by
 intro pins s σ H vs us Q I r h;obtain⟨e,h⟩:=h;subst e;cases r;exact assignInOrder_nil ⟨σ,H,I,h⟩
theorem Dq{e:Expr}{a:List Expr}{t:TG}{u:TGs}(g:PG X e t)(l:PGs X a u)
  (m:(assignEach (e::a) X.env).map (·.2)=assign e X.env::(assignEach a X.env).map (·.2):=by rfl):PGs X (e::a) (SY t u):=by
 intro pins s σ H vs us Q I r h;obtain⟨v,n,i,h⟩:=h;subst i;cases r with
 |cons r j =>
  rw[m];refine assignInOrder_cons (thn (g pins s σ H _ _ _ I r h) λ_ c ⟨b,k,d,f⟩=>?_);exact l pins c b k _ _ Q d j f
def gTup(K:W.Frag)(n:Nat)(t:TGs):TG:=λv σ H Q=>∃a xs,v=.ref a/\SqT K H a xs/\xs.length=n/\t xs σ H Q
theorem OL{c:List Expr}{k:Nat}{t:TGs}{n:Nat}(j:X.calm=true)(h:PGs X c t)
  (y:(assignEach c X.env).length=n:=by rfl) (f:(assignEach c X.env).findIdx? (·.1)=none:=by rfl):PG X (.Tuple c k pos) (gTup X.K n t):=by
 intro pins s σ H v u Q I r d;obtain⟨a,xs,l,w,m,d⟩:=d;subst l;cases r;obtain⟨p,g,q,z⟩:=I.tuple w;refine assign_Tuple_tuple (I.ok.hd j) q (by simp[y,<-m,g.length]) f λh' x=>?_;have i:Inv X pins σ H {s with heap:=h'}:=I.kept (t':=s.toks) λb o e=>x b o (F5 (C9 e)) e;exact h pins _ σ H xs _ Q i (by simpa using g) d
def gSub(to ti:TE)(t:TSet):TG:=λv σ H Q=>to σ H λo H1=>ti σ H1 λi H2=>t o i v H2 λH3=>Q σ H3
theorem YM{o i:Expr}{to c:TE}{t:TSet}(g:PE X o to)(q:PE X i c)(l:PSet X t)
  (z:∀v,assign (.Subscript o i pos) X.env v=(do
   let a <-holding [v] (eval o X.env);let b <-holding [v,a] (eval i X.env)
   standAt pos
   holding [v,a,b] (setItem a b v)
   release [v,a,b] []):=by intro _;rfl):PG X (.Subscript o i pos) (gSub to c t):=by
 intro pins s σ H v u Q I r h;rw[z];refine Z5 (A4e (thn (g pins s σ H _ I h) λa k ⟨x,f,n,d,A⟩=>?_));refine Z5 (A4e (thn (q pins k σ f _ n A) λb j ⟨y,e,p,D,w⟩=>?_));refine Z5 (wpAny_standAt (Z5 (A4e (thn (l pins j σ e x y v a b u _ p d D r w) λ_ E ⟨m,C,B⟩=>?_))));exact wpAny_release ⟨σ,m,C,B⟩
def tAsg(te:TE)(g:TG):TS:=λD σ H=>te σ H λx H1=>g x σ H1 D.nx
theorem YI{a e:Expr}{b:TE}{g:TG}(o:PE X e b)(m:PG X a g)(n:swapsWithSole [a] e pos.line X.env=pure false:=by rfl)(k:swappedStores [a] e X.env=pure none:=by rfl)
  (j:(assignEach [a] X.env).map (·.2)=[assign a X.env]:=by rfl):PS X (.Assign [a] e pos) (tAsg b g):=by
 intro pins s σ H D I h;refine wpAny_Assign_stores (thn (o pins s σ H _ I h) λv c ⟨x,l,d,i,f⟩=>?_) n k;rw[j];exact thn (m pins c σ l x v _ d i f) λ_ p q=>q
theorem Ao{i:Nat}{x:Str}{e:Expr}{b:TE}{a:Pos}(j:X.N.Nodup)(n:X.N[i]?=some x)(o:Loc X.env.scope x)(p:PE X e b)(d:swapsWith e (some (.Name x a)) pos.line X.env=pure false:=by rfl)(k:X.fn x=true\/X.env.scope.names.lookup x=some .local:=by first|exact .inl rfl|exact .inr rfl|assumption) :
  PS X (.Assign [.Name x a] e pos) (tAsg b (ND i)):=by
 intro pins s σ H D I h;refine wpAny_Assign_Name (thn (p pins s σ H _ I h) λv r ⟨y,l,c,g,f⟩=>?_) d;exact Oo c j n o g (λq m=>⟨_,l,m,f⟩) k
end
section
variable{X:Cx}{pos:Pos}
def tWhile(c:TT)(tb:TS):TS:=λD σ H=>∃W:Nat->St->Hp->Prop,(∃m,W m σ H)/\∀m σ H,W m σ H ->
 c σ H λb H1=>if b=true then ∃N:St->Hp->Prop,(∀σ' H',N σ' H'->∃m',m'<m/\W m' σ' H')/\tb {D with nx:=N,ct:=N,bk:=D.nx} σ H1 else D.nx σ H1
theorem Jt{c:Expr}{e:List Stmt}{tc:TT}{x:TS}(hp:PassesOwn (model X.prog X.w) X.A X.env X.xe)(O:PT X c tc)(M:PSs X e x):PS X (.While c e [] pos) (tWhile tc x):=by
 intro pins s σ H D I h;obtain⟨W,⟨E,P⟩,i⟩:=h;refine wpAny_While (codeAny_whileLoop (λn s'=>∃σ' z,Inv X pins σ' z s'/\W n σ' z) ?_ E ⟨σ,H,I,P⟩);rintro n C ⟨d,t,G,K⟩;refine A2a hp (thn (O pins C d t _ G (i n d t K)) λb B ⟨r,y,j⟩=>?_);cases b with
 |true =>
  obtain⟨N,u,j⟩:=j;rw[Z9 rfl];refine A2a hp (thn (M pins B d r _ y j) λf Q k=>?_);cases f with
  |next =>
   obtain⟨a,g,q,m⟩:=k;obtain⟨p,o,l⟩:=u a g m;exact⟨p,o,a,g,q,l⟩
  |cont =>
   obtain⟨a,g,q,m⟩:=k;obtain⟨p,o,l⟩:=u a g m;exact⟨p,o,a,g,q,l⟩
  |brk=>exact k
  |ret v=>exact k
 |false =>
  rw[Z6 D3];exact A3d ⟨d,r,y,j⟩
end
structure It where
 go:Nat->Hp->Prop
 yld:Nat->Hp->V->Hp->Prop
 stop:Nat->Hp->Prop
def Id(X:Cx)(pins:List (Addr×Obj))(H:Hp)(b:Addr):Prop :=
 H b=none/\b≠X.env.locals/\b∉X.fs/\(b∈X.ex\/X.s₀.heap.objs.size<=b)/\(∀x c,X.env.cells.lookup x=some c->c≠b)/\∀p∈X.pn++pins,p.1≠b
theorem Inv.fpOk{X:Cx}{pins:List (Addr×Obj)}{σ:St}{H d:Hp}{s:Shared}{b:Addr}(I:Inv X pins σ H s)(a:s.heap.objs.size<=b)(f:d b=none):Id X pins d b:=by
 refine⟨f,T7 (F2 I.lt a),I.nofs a,.inr (D0 I.sz a),λx c e z=>?_,λp hp z=>?_⟩
 ·obtain⟨v,q⟩:=I.cell x c e;exact absurd (F2 q.lt (by rw[z];exact a)) (P3 _)
 ·exact absurd (F2 (C9 (I.pin p hp).1) (by rw[z];exact a)) (P3 _)
structure RM(P:Program)(w:World)(K:W.Frag)(tg:Expr)(J:It)(fp:List Addr)(it:Addr)(tn:Nat->Heap->Prop):Prop where
 mem:it∈fp
 obj:∀i h,tn i h->∀b∈fp,∃o,h.get? b=some o/\∀v,o.data≠.cell v
 keep:∀i h h',tn i h->(∀b∈fp,∀o,h.get? b=some o->h'.get? b=some o)->tn i h'
 item:∀(X:Cx),X.prog=P->X.w=w->X.K=K->X.calm=true->∀(i:Nat)(pins:List (Addr×Obj))(s:Shared)(σ:St)(H:Hp)(E:Value->Shared->Prop),Inv X pins σ H s->(∀b∈fp,Id X pins H b)->tn i s.heap->J.go i H ->
  wpAny (model P w) X.A (pyNext (.ref it)) (λr s1=>∃u,r=some u /\
   wpAny (model P w) X.A (letOwnedTupleGo tg (.ref it) u) (λ_ s2=>∃x H',Inv X pins σ H' s2/\Be x u/\J.yld i H x H'/\tn (i+1) s2.heap/\∀b∈fp,H' b=none) E s1) E s
 done:∀(X:Cx),X.prog=P->X.w=w->X.K=K->X.calm=true->∀(i:Nat)(pins:List (Addr×Obj))(s:Shared)(σ:St)(H:Hp)(E:Value->Shared->Prop),Inv X pins σ H s->(∀b∈fp,Id X pins H b)->tn i s.heap->J.stop i H ->
  wpAny (model P w) X.A (pyNext (.ref it)) (λr s1=>r=none/\Inv X pins σ H s1) E s
 self:∀(A:Around)(i:Nat)(s:Shared)(Q:Value->Shared->Prop)(E:Value->Shared->Prop),tn i s.heap->Q (.ref it) s->wpAny (model P w) A (pyIter (.ref it)) Q E s
abbrev TI:=St->Hp->(It->Hp->Prop)->Prop
def PIE(X:Cx)(pins:List (Addr×Obj))(σ:St)(tg:Expr)(R:It->Hp->Prop)(itv:Value)(s2:Shared):Prop :=
 ∃(it:Addr)(fp:List Addr)(tn:Nat->Heap->Prop)(J:It)(H':Hp),itv=.ref it/\Inv X pins σ H' s2/\RM X.prog X.w X.K tg J fp it tn/\tn 0 s2.heap/\(∀b∈fp,Id X pins H' b)/\R J H'
def PI(X:Cx)(tg iter:Expr)(wi:TI):Prop :=
 ∀(pins:List (Addr×Obj))(s:Shared)(σ:St)(H:Hp)(R:It->Hp->Prop),Inv X pins σ H s->wi σ H R ->
  wpAny (model X.prog X.w) X.A (eval iter X.env) (λv s1=>wpAny (model X.prog X.w) X.A (pyIter v) (PIE X pins σ tg R) X.xe s1) X.xe s
theorem Vv{M:Model}{A:Around}{E:Value->Shared->Prop}{s:Shared}{b:Expr}{it:Addr}{u:Value}{o:Obj}{n:String}{vs:Array Value}{Q:Unit->Shared->Prop}(e:s.heap.get? it=some o)(c:o.cls=.type n)(d:o.data=.fields vs)
    (f:["enumerate","zip","dict_itemiterator","dict_reverseitemiterator","odict_iterator","itertools.zip_longest","itertools.pairwise"].contains n=false) (a:Q () s):wpAny M A (letOwnedTupleGo b (.ref it) u) Q E s:=by
  unfold letOwnedTupleGo;cases b<;>first
    |exact K3 a
    | (cases u<;>first
        |exact K3 a
        | (refine Z5 (wpAny_load e ?_)
           rw[c,d];show wpAny M A (if(["enumerate","zip","dict_itemiterator","dict_reverseitemiterator","odict_iterator","itertools.zip_longest","itertools.pairwise"].contains n && vs[0]?==some (rawInt _))=true then _ else _) Q E s;rw[Z6 (by intro h;rw[f,Bool.false_and]at h;cases h)];exact K3 a))
def Itl(K:W.Frag)(a:Addr):It :=
 ⟨λi H=>∃xs x,SqL K H a xs/\xs[i]?=some x,λi H x H'=>H'=H/\∀xs,SqL K H a xs->xs[i]?=some x,λi H=>∃xs,SqL K H a xs/\xs.length<=i⟩
def Itt(K:W.Frag)(a:Addr):It :=
 ⟨λi H=>∃xs x,SqT K H a xs/\xs[i]?=some x,λi H x H'=>H'=H/\∀xs,SqT K H a xs->xs[i]?=some x,λi H=>∃xs,SqT K H a xs/\xs.length<=i⟩
def Itr(lo:Int)(n:Nat):It:=⟨λi _=>i<n,λi H x H'=>H'=H/\x=.int (lo+i),λi _=>n<=i⟩
theorem VY{P:Program}{w:World}{K:W.Frag}{Z:Expr}(a it:Addr):RM P w K Z (Itl K a) [it] it (λi h=>h.IsListIter it a i) where
 mem:=by simp
 obj:=λi h f b g=>by
  have e:b=it:=by simpa using g
  subst e;obtain⟨o,e,c,d⟩:=f;exact⟨o,e,λv z=>by rw[d]at z;cases z⟩
 keep:=λi h h' f k=>f.at λo e=>k it A6 o e
 item:=by
  intro X B q t N i pins s σ H E I m f D;subst B q t;obtain⟨xs,x,l,r⟩:=D;obtain⟨A,M,p,Q⟩:=I.list l;obtain⟨u,S,V⟩:=M.get r;obtain⟨G,y,Y,n,f4,C⟩:=m it A6;refine wpAny_pyNext_list_item f p.isList (x:=u) (by simpa using S) λh' j O=>?_;have U:Inv X pins σ H {s with heap:=h'}:=I.turned (t':=s.toks) (λb o g e=>(O.2 b g).trans e) G y n f4 C;obtain⟨o,e,c,d⟩:=id j;exact⟨u,rfl,Vv (s:={s with heap:=h'}) e c d A3 ⟨x,H,U,V,⟨rfl,λys T=>by rw[I.list_inj T l];exact r⟩,j,λb g=>(m b g).1⟩⟩
 done:=by
  intro X B q t N i pins s σ H E I m f D;subst B q t;obtain⟨xs,l,r⟩:=D;obtain⟨A,M,p,Q⟩:=I.list l;obtain⟨G,y,Y,n,f4,C⟩:=m it A6;have hl:=M.length;exact wpAny_pyNext_list_end (I.ok.hd N) f p.isList (by simp;lia) λh' R=>⟨rfl,I.turned (t':=s.toks) (λb o g e=>R b o g e) G y n f4 C⟩
 self:=λ_ _ _ _ _ f h=>wpAny_pyIter_listiter f h
theorem Tr{P:Program}{w:World}{K:W.Frag}{Z:Expr}(a it:Addr):RM P w K Z (Itt K a) [it] it (λi h=>h.IsTupleIter it a i) where
 mem:=by simp
 obj:=λi h f b g=>by
  have e:b=it:=by simpa using g
  subst e;obtain⟨o,e,c,d⟩:=f;exact⟨o,e,λv z=>by rw[d]at z;cases z⟩
 keep:=λi h h' f k=>f.at λo e=>k it A6 o e
 item:=by
  intro X B r y N i pins s σ H E I n f D;subst B r y;obtain⟨xs,x,m,t⟩:=D;obtain⟨j,M,p,Q⟩:=I.tuple m;obtain⟨u,S,V⟩:=M.get t;obtain⟨G,A,Y,q,f4,C⟩:=n it A6;refine wpAny_pyNext_tuple_item f (show s.heap.IsTuple a j.toArray from p) (x:=u) (by simpa using S) λh' l O=>?_;have U:Inv X pins σ H {s with heap:=h'}:=I.turned (t':=s.toks) (λb o g e=>(O.2 b g).trans e) G A q f4 C;obtain⟨o,e,c,d⟩:=id l;exact⟨u,rfl,Vv (s:={s with heap:=h'}) e c d A3 ⟨x,H,U,V,⟨rfl,λys T=>by rw[I.tuple_inj T m];exact t⟩,l,λb g=>(n b g).1⟩⟩
 done:=by
  intro X B r y N i pins s σ H E I n f D;subst B r y;obtain⟨xs,m,t⟩:=D;obtain⟨j,M,p,Q⟩:=I.tuple m;obtain⟨G,A,Y,q,f4,C⟩:=n it A6;have hl:=M.length;exact wpAny_pyNext_tuple_end (I.ok.hd N) f (show s.heap.IsTuple a j.toArray from p) (by simp;lia) λh' R=>⟨rfl,I.turned (t':=s.toks) (λb o g e=>R b o g e) G A q f4 C⟩
 self:=λ_ _ _ _ _ f h=>wpAny_pyIter_tupleiter f h
theorem Ts{P:Program}{w:World}{K:W.Frag}{G:Expr}(it:Addr)(lo:Int)(n:Nat):RM P w K G (Itr lo n) [it] it (λi h=>IsRangeIter h it (lo+(i:Nat)*1) ((n:Int)-(i:Nat)) 1) where
 mem:=by simp
 obj:=λi h a b c=>by
  have e:b=it:=by simpa using c
  subst e;exact⟨_,a,λv z=>by
   have M:Data.fields _=Data.cell v:=z;cases M⟩
 keep:=λi h h' a k=>k it A6 _ a
 item:=by
  intro X q j l p i pins s σ H E I f a u;subst q j l;obtain⟨x,m,D,g,f4,r⟩:=f it A6;have W:=Walks.range (prog:=X.prog) (w:=X.w) (I.ok.hd p) it lo 1 n;refine W.item i s _ _ u a λv h' tk A d y=>?_;obtain⟨t,rfl⟩:=A;have C:Inv X pins σ H {s with heap:=h',toks:=tk}:=I.turned (λb o c e=>y b o (by simpa using c) e) x m g f4 r;refine⟨_,rfl,Vv (s:={s with heap:=h',toks:=tk}) (n:="range_iterator") d rfl rfl A3 ⟨.int (lo+i),H,C,⟨t,?_⟩,⟨rfl,rfl⟩,d,λb c=>(f b c).1⟩⟩;rw[Int.mul_one]
 done:=by
  intro X q j l p i pins s σ H E I f a u;subst q j l;obtain⟨x,m,D,g,f4,r⟩:=f it A6;exact wpAny_pyNext_range_end (I.ok.hd p) a (by have:n<=i:=u;lia) λh' B=>⟨rfl,I.turned (t':=s.toks) (λb o c e=>B b o c e) x m g f4 r⟩
 self:=λ_ _ _ _ _ a h=>wpAny_pyIter_rangeiter a h
section
variable{X:Cx}{tg:Expr}
def iList(K:W.Frag)(tl:TE):TI:=fun σ H R=>tl σ H λx H1=>∃a,x=.ref a/\(∃xs,SqL K H1 a xs)/\R (Itl K a) H1
def iTup(K:W.Frag)(tl:TE):TI:=fun σ H R=>tl σ H λx H1=>∃a,x=.ref a/\(∃xs,SqT K H1 a xs)/\R (Itt K a) H1
theorem CO{l:Expr}{f:TE}(k:PE X l f):PI X tg l (iList X.K f):=by
 intro pins s σ H R I h;refine thn (k pins s σ H _ I h) λv c ⟨x,n,d,j,i⟩=>?_;obtain⟨a,e,⟨xs,r⟩,q⟩:=i;subst e;cases j;obtain⟨m,t,p,u⟩:=d.list r;refine A3a p.isList ?_;refine⟨c.heap.objs.size,[c.heap.objs.size],_,_,n,rfl,d.kept (t':=c.toks) λb o e=>C0 _ e,VY a _,⟨_,D5 _ rfl,rfl,rfl⟩,λb g=>?_,q⟩;have e:b=c.heap.objs.size:=by simpa using g
 subst e;exact d.fpOk (C1 _) (d.hok.fresh (C1 _))
theorem TH{l:Expr}{g:TE}(m:PE X l g):PI X tg l (iTup X.K g):=by
 intro pins s σ H R I h;refine thn (m pins s σ H _ I h) λv c ⟨x,n,d,k,j⟩=>?_;obtain⟨a,e,⟨xs,r⟩,q⟩:=j;subst e;cases k;obtain⟨f,t,p,u⟩:=d.tuple r;refine wpAny_pyIter_tuple (show c.heap.IsTuple a f.toArray from p) ?_;refine⟨c.heap.objs.size,[c.heap.objs.size],_,_,n,rfl,d.kept (t':=c.toks) λb o e=>C0 _ e,Tr a _,⟨_,D5 _ rfl,rfl,rfl⟩,λb i=>?_,q⟩;have e:b=c.heap.objs.size:=by simpa using i
 subst e;exact d.fpOk (C1 _) (d.hok.fresh (C1 _))
theorem Su{pins:List (Addr×Obj)}{σ:St}{H:Hp}{s:Shared}{R:It->Hp->Prop}{E:Value->Shared->Prop}{lo a:Int}{t u v:Tok}{tk:Nat}(I:Inv X pins σ H s)(g:-(2^62)<=lo)(i:lo<2^62)(j:-(2^62)<=a)(k:a<2^62)
  (q:R (Itr lo (a-lo).toNat) H):wpAny (model X.prog X.w) X.A (pyIter (.ref s.heap.objs.size)) (PIE X pins σ tg R) E {s with heap:=s.heap.push {cls:=.type "range",data:=.fields #[.int lo t,.int a u,.int 1 v]},toks:=tk}:=by
 refine wpAny_pyIter_range (IsRange.new ..) (small_one g i j k) ?_;have c:Inv X pins σ H {s with heap:=s.heap.push {cls:=.type "range",data:=.fields #[.int lo t,.int a u,.int 1 v]},toks:=tk}:=I.kept λb o e=>C0 _ e;refine⟨(s.heap.push {cls:=.type "range",data:=.fields #[.int lo t,.int a u,.int 1 v]}).objs.size,[(s.heap.push {cls:=.type "range",data:=.fields #[.int lo t,.int a u,.int 1 v]}).objs.size],_,_,H,rfl,
  c.kept (t':=tk) λb o e=>C0 _ e,Ts _ lo (a-lo).toNat,?_,λb d=>?_,q⟩
 ·have h:lo+((0:Nat):Int)*1=lo:=by simp
  have f:(((a-lo).toNat:Nat):Int)-((0:Nat):Int)=Builtin.Range.rangeSize lo a 1:=by rw[rangeSize_one];split<;>lia
  show IsRangeIter _ _ (lo+((0:Nat):Int)*1) ((((a-lo).toNat:Nat):Int)-((0:Nat):Int)) 1;rw[h,f];exact D5 _ rfl
 ·have e:b=(s.heap.push {cls:=.type "range",data:=.fields #[.int lo t,.int a u,.int 1 v]}).objs.size:=by simpa using d
  subst e;exact c.fpOk (C1 _) (c.hok.fresh (C1 _))
def iRng1(ta:TA):TI:=fun σ H R=>ta σ H λvs H1=>∃j:Int,vs=[.int j]/\-(2^62)<=j/\j<2^62/\R (Itr 0 j.toNat) H1
def iRng2(ta:TA):TI:=fun σ H R=>ta σ H λvs H1=>∃i j:Int,vs=[.int i,.int j]/\(-(2^62)<=i/\i<2^62/\-(2^62)<=j/\j<2^62)/\R (Itr i (j-i).toNat) H1
theorem Ex{a:Expr}{d:TA}{p b:Pos}(o:Gl X "range")(k:X.mg "range" = none)(g:PA X [a] d)(l:starEach [a] X.env=[(false,eval a X.env)]:=by rfl):PI X tg (.Call (.Name "range" p) [a] [] b) (iRng1 d):=by
 intro pins s σ H R I h;refine Call_ (LV I o k boot_range (A1a (thn (g b pins s σ H _ I h) λus u ⟨vs,v,f,i,c⟩=>?_) l rfl));obtain⟨j,e,c,n,q⟩:=c;subst e;cases i with
 |cons r m =>
  cases m;obtain⟨t,rfl⟩:=r;exact call_range_1 (Su f A0 A0 c n (by simpa using q))
theorem MW{a b:Expr}{k:TA}{p c:Pos}(z:Gl X "range")(o:X.mg "range" = none)(m:PA X [a,b] k)(y:starEach [a,b] X.env=[(false,eval a X.env),(false,eval b X.env)]:=by rfl)(d:starEach [b] X.env=[(false,eval b X.env)]:=by rfl) :
  PI X tg (.Call (.Name "range" p) [a,b] [] c) (iRng2 k):=by
 intro pins s σ H R I h;refine Call_ (LV I z o boot_range (A1a (thn (m c pins s σ H _ I h) λus A ⟨vs,B,l,n,f⟩=>?_) (by rw[y,d]) (by rw[d];rfl)));obtain⟨i,j,e,⟨f,x,u,w⟩,q⟩:=f;subst e;cases n with
 |cons r g =>
  cases g with
  |cons v g =>
   cases g;obtain⟨t,rfl⟩:=r;obtain⟨t',rfl⟩:=v;exact call_range_2 (Su l f x u w q)
def tFor(wi:TI)(g:TG)(tb:TS):TS:=λD σ H=>wi σ H λJ H1=>∃W:Nat->Nat->St->Hp->Prop,(∃m,W 0 m σ H1)/\∀i m σ H,W i m σ H ->
 (J.stop i H/\D.nx σ H)\/(J.go i H/\∃N:St->Hp->Prop,(∀σ' H',N σ' H'->∃m',m'<m/\W (i+1) m' σ' H')/\∀x H',J.yld i H x H'->g x σ H' fun σ2 H2=>tb {D with nx:=N,ct:=N,bk:=D.nx} σ2 H2)
def MV(fp:List Addr)(h:Heap):List (Addr×Obj):=fp.filterMap λb=>(h.get? b).map λo=>(b,o)
theorem IR{fp:List Addr}{h:Heap}{b:Addr}{o:Obj}(a:b∈fp)(e:h.get? b=some o):(b,o)∈MV fp h:=List.mem_filterMap.mpr ⟨b,a,by rw[e];rfl⟩
theorem Qd{fp:List Addr}{h:Heap}{p:Addr×Obj}(hp:p∈MV fp h):p.1∈fp/\h.get? p.1=some p.2:=by
 obtain⟨b,a,e⟩:=List.mem_filterMap.mp hp;cases q:h.get? b with
 |none=>rw[q]at e;cases e
 |some o =>
  rw[q]at e;have c:(b,o)=p:=X5 e;subst c;exact⟨a,q⟩
theorem Inv.pinned{pins:List (Addr×Obj)}{σ:St}{H:Hp}{s:Shared}{fp:List Addr}(I:Inv X pins σ H s)(j:∀b∈fp,Id X pins H b)(i:∀b∈fp,∃o,s.heap.get? b=some o/\∀v,o.data≠.cell v):Inv X (pins++MV fp s.heap) σ H s :=
 I.pins_of λp hp=>(F9.mp hp).elim (λz=>I.pin p (F6 _ z)) λz=>by
  obtain⟨a,e⟩:=Qd z;obtain⟨g,h,f,_⟩:=j p.1 a;obtain⟨o,c,d⟩:=i p.1 a;rw[e]at c;cases c;exact⟨e,g,h,f,d⟩
theorem Inv.unpinned{pins pl:List (Addr×Obj)}{σ:St}{H:Hp}{s:Shared}(I:Inv X (pins++pl) σ H s):Inv X pins σ H s:=I.pins_of λp hp=>I.pin p (F6 _ (Q5 _ hp))
theorem DA{q:Expr}{B:List Stmt}{wi:TI}{g:TG}{tb:TS}{R:Pos}(hp:PassesOwn (model X.prog X.w) X.A X.env X.xe)(hc:X.calm=true)(hi:PI X tg q wi)(hg:PG X tg g)(k:PSs X B tb)
  (hs:∀x,foldedSetIterable q X.env x=pure x:=by intro _;rfl):PS X (.For tg q B [] R) (tFor wi g tb):=by
 intro pins s σ H D I h;refine wpAny_For (thn (hi pins s σ H _ I h) λv s1 h1=>thn h1 λaa s2 h2=>?_) hs;obtain⟨it,fp,tn,J,H2,e,I2,T,Y,f2,W,⟨m0,w0⟩,O⟩:=h2;subst e;have p:∀{y:Hp},(∀b∈fp,y b=none)->∀b∈fp,Id X pins y b:=λhn b k=>⟨hn b k,(f2 b k).2⟩
 refine codeAny_forLoop_any (λn s'=>∃i σ' y,Inv X pins σ' y s'/\tn i s'.heap/\(∀b∈fp,y b=none)/\W i n σ' y) ?_ m0 ⟨0,σ,H2,I2,Y,λb k=>(f2 b k).1,w0⟩;rintro n s3 ⟨i,j,P,I3,M,G,w3⟩;rcases O i n j P w3 with ⟨K,qn⟩|⟨go,N,hN,step⟩
 ·refine A2a hp (thn (T.done X rfl rfl rfl hc i pins s3 j P X.xe I3 (p G) M K) λr s4 ⟨U,I4⟩=>?_);subst U;exact A3d ⟨j,P,I4,qn⟩
 ·refine A2a hp (thn (T.item X rfl rfl rfl hc i pins s3 j P X.xe I3 (p G) M go) λr s4 ⟨u,U,h4⟩=>?_);subst U;refine A2a hp (thn h4 λ_ s5 ⟨x,H5,I5,r5,y5,C,V⟩=>?_);have S:=I5.pinned (p V) (T.obj _ _ C);refine A2a hp (thn (hg _ s5 j H5 x u _ S r5 (step x H5 y5)) λ_ s6 ⟨Z,H6,I6,q6⟩=>?_);refine A2a hp (thn (k _ s6 Z H6 _ I6 q6) λf Q z=>?_);have c:∀{a:St}{l:Hp},Inv X (pins++MV fp s5.heap) a l Q->N a l->∃m,m<n/\∃i σ' y,Inv X pins σ' y Q/\tn i Q.heap/\(∀b∈fp,y b=none)/\W i m σ' y:=λ{a l} t E=>by
   obtain⟨m',hm,w7⟩:=hN a l E;refine⟨m',hm,i+1,a,l,t.unpinned,T.keep _ _ _ C λb k o e=>(t.pin (b,o) (F6 _ (F6 _ (IR k e)))).1,λb k=>?_,w7⟩;obtain⟨o,e,d⟩:=T.obj _ _ C b k;exact(t.pin (b,o) (F6 _ (F6 _ (IR k e)))).2.1
  cases f with
  |next=>obtain⟨a,l,t,E⟩:=z;exact c t E
  |cont=>obtain⟨a,l,t,E⟩:=z;exact c t E
  |brk=>obtain⟨a,l,t,z⟩:=z;exact⟨a,l,t.unpinned,z⟩
  |ret v=>obtain⟨x7,a,l,t,r7,z⟩:=z;exact⟨x7,a,l,t.unpinned,r7,z⟩
end
theorem ZT{K:W.Frag}{a:Addr}{xs:List V}{g:TG}{j:TS}{D:MI}{σ:St}{H:Hp}(b:Nat->St->Hp->Prop)(o:b 0 σ H)(n:∀i σ H,i<=xs.length->b i σ H->SqL K H a xs)
  (t:∀i x σ H,xs[i]?=some x->b i σ H->g x σ H fun c h=>j {D with nx:=b (i+1),ct:=b (i+1),bk:=D.nx} c h) (r:∀σ H,b xs.length σ H->D.nx σ H) :
  ∃W:Nat->Nat->St->Hp->Prop,(∃m,W 0 m σ H)/\∀i m σ H,W i m σ H ->
   ((Itl K a).stop i H/\D.nx σ H)\/((Itl K a).go i H/\∃N:St->Hp->Prop,(∀σ' d,N σ' d->∃k,k<m/\W (i+1) k σ' d)/\∀x d,(Itl K a).yld i H x d->g x σ d fun c h=>j {D with nx:=N,ct:=N,bk:=D.nx} c h):=by
 refine⟨λi m σ H=>m=xs.length-i/\i<=xs.length/\b i σ H,⟨xs.length,by simp,L9 _,o⟩,?_⟩;rintro i m σ H ⟨rfl,s,p⟩;have q:=n i σ H s p;by_cases f:i<xs.length
 ·refine .inr ⟨⟨xs,xs[i],q,by simp[f]⟩,b (i+1),fun σ' d l=>⟨xs.length-(i+1),by lia,rfl,f,l⟩,λx d y=>?_⟩;obtain⟨e,y⟩:=y;subst e;exact t i x σ _ (y xs q) p
 ·have e:i=xs.length:=by lia
  subst e;exact .inl ⟨⟨xs,q,C1 _⟩,r σ H p⟩
theorem DN{lo:Int}{n:Nat}{g:TG}{h:TS}{D:MI}{σ:St}{H:Hp}(b:Nat->St->Hp->Prop)(l:b 0 σ H)
  (q:∀i σ H,i<n->b i σ H->g (.int (lo+i)) σ H fun c f=>h {D with nx:=b (i+1),ct:=b (i+1),bk:=D.nx} c f) (o:∀σ H,b n σ H->D.nx σ H) :
  ∃W:Nat->Nat->St->Hp->Prop,(∃m,W 0 m σ H)/\∀i m σ H,W i m σ H ->
   ((Itr lo n).stop i H/\D.nx σ H)\/((Itr lo n).go i H/\∃N:St->Hp->Prop,(∀σ' d,N σ' d->∃j,j<m/\W (i+1) j σ' d)/\∀x d,(Itr lo n).yld i H x d->g x σ d fun c f=>h {D with nx:=N,ct:=N,bk:=D.nx} c f):=by
 refine⟨λi m σ H=>m=n-i/\i<=n/\b i σ H,⟨n,by simp,L9 _,l⟩,?_⟩;rintro i m σ H ⟨rfl,r,p⟩;by_cases a:i<n
 ·refine .inr ⟨a,b (i+1),fun σ' d k=>⟨n-(i+1),by lia,rfl,a,k⟩,λx d y=>?_⟩;obtain⟨e,y⟩:=y;subst e y;exact q i σ _ a p
 ·have e:i=n:=by lia
  subst e;exact .inl ⟨C1 _,o σ H p⟩
abbrev R2:=V->V->Hp->VK->Prop
def OpR(X:Cx)(f:Value->Value->Sem Value)(r:R2):Prop :=
 ∀(pins:List (Addr×Obj))(s:Shared)(σ:St)(H:Hp)(x y:V)(v u:Value)(Q:VK),Inv X pins σ H s->Be x v->Be y u->r x y H Q ->
  wpAny (model X.prog X.w) X.A (f v u) (EP X pins σ Q) X.xe s
def UnR(X:Cx)(f:Value->Sem Value)(r:V->Hp->VK->Prop):Prop :=
 ∀(pins:List (Addr×Obj))(s:Shared)(σ:St)(H:Hp)(x:V)(v:Value)(Q:VK),Inv X pins σ H s->Be x v->r x H Q ->
  wpAny (model X.prog X.w) X.A (f v) (EP X pins σ Q) X.xe s
def Ge(X:Cx)(f:Value)(r:List V->Hp->VK->Prop):Prop :=
 ∀(pins:List (Addr×Obj))(s:Shared)(σ:St)(H:Hp)(xs:List V)(us:List Value)(Q:VK),Inv X pins σ H s->AO xs us->r xs H Q ->
  wpAny (model X.prog X.w) X.A (call f us) (EP X pins σ Q) X.xe s
def tOp(r:R2)(ta tb:TE):TE:=fun σ H Q=>ta σ H λx H1=>tb σ H1 λy H2=>r x y H2 Q
def tUn(r:V->Hp->VK->Prop)(ta:TE):TE:=fun σ H Q=>ta σ H λx H1=>r x H1 Q
def rI(C:Int->Int->Prop)(g:Int->Int->V):R2:=λx y H Q=>∃i j,x=.int i/\y=.int j/\C i j/\Q (g i j) H
def rI0(g:Int->Int->V):R2:=λx y H Q=>∃i j,x=.int i/\y=.int j/\Q (g i j) H
def rU(g:Int->V):V->Hp->VK->Prop:=λx H Q=>∃i,x=.int i/\Q (g i) H
section
variable{X:Cx}{a b c:Expr}{ta tb tc:TE}{pos:Pos}
theorem binT(n:PE X a ta)(m:PE X b tb){pins:List (Addr×Obj)}{s:Shared}{σ:St}{H:Hp}{R:V->V->Hp->Prop}(I:Inv X pins σ H s)
  (h:ta σ H λx j=>tb σ j λy d=>R x y d) {Q:Value->Shared->Prop} {f:Value->Value->Sem Value}
  (z:∀v u i x y d,Inv X pins σ d i->Be x v->Be y u->R x y d->wpAny (model X.prog X.w) X.A (f v u) Q X.xe i) :
  wpAny (model X.prog X.w) X.A (eval a X.env) (λv g=>wpAny (model X.prog X.w) X.A (eval b X.env) (λu e=>wpAny (model X.prog X.w) X.A (f v u) Q X.xe e) X.xe g) X.xe s:=by
 refine thn (n pins s σ H _ I h) λv k ⟨x,j,l,o,p⟩=>?_;refine thn (m pins k σ j _ l p) λu i ⟨y,d,q,t,r⟩=>?_;exact z v u i x y d q o t r
theorem AE{d:Operator}{r:R2}(m:OpR X (binaryOp d) r)(f:PE X a ta)(g:PE X b tb):PE X (.BinOp a d b pos) (tOp r ta tb):=by
 intro pins s σ H Q I h;exact wpAny_BinOp (binT f g I h λv u e x y k l j i q=>m pins e σ k x y v u Q l j i q)
theorem Db{d:UnaryOp}{r:V->Hp->VK->Prop}(l:UnR X (unaryOp d) r)(g:PE X a ta):PE X (.UnaryOp d a pos) (tUn r ta):=by
 intro pins s σ H Q I h;exact UnaryOp_ (thn (g pins s σ H _ I h) λv e ⟨x,k,f,j,i⟩=>l pins e σ k x v Q f j i)
theorem opI{f:Value->Value->Sem Value}{C:Int->Int->Prop}{g:Int->Int->Int}
  (d:∀(i j:Int)(t u:Tok)(s:Shared)(Q:Value->Shared->Prop)(E:Value->Shared->Prop),C i j->Q (.int (g i j) s.toks) {s with toks:=s.toks+1}->wpAny (model X.prog X.w) X.A (f (.int i t) (.int j u)) Q E s) :
  OpR X f (rI C λi j=>.int (g i j)):=by
 intro pins s σ H x y v u Q I l e h;obtain⟨i,j,rfl,rfl,k,q⟩:=h;obtain⟨t,rfl⟩:=l;obtain⟨t',rfl⟩:=e;exact d i j t t' s _ _ k ⟨.int (g i j),H,I.tok _,⟨_,rfl⟩,q⟩
theorem opI0{f:Value->Value->Sem Value}{g:Int->Int->Int}
  (d:∀(i j:Int)(t u:Tok)(s:Shared)(Q:Value->Shared->Prop)(E:Value->Shared->Prop),Q (.int (g i j) s.toks) {s with toks:=s.toks+1}->wpAny (model X.prog X.w) X.A (f (.int i t) (.int j u)) Q E s) :
  OpR X f (rI0 λi j=>.int (g i j)):=by
 intro pins s σ H x y v u Q I k e h;obtain⟨i,j,rfl,rfl,q⟩:=h;obtain⟨t,rfl⟩:=k;obtain⟨t',rfl⟩:=e;exact d i j t t' s _ _ ⟨.int (g i j),H,I.tok _,⟨_,rfl⟩,q⟩
theorem opB0{f:Value->Value->Sem Value}{g:Int->Int->Bool}
  (d:∀(i j:Int)(t u:Tok)(s:Shared)(Q:Value->Shared->Prop)(E:Value->Shared->Prop),Q (.bool (g i j)) s->wpAny (model X.prog X.w) X.A (f (.int i t) (.int j u)) Q E s) :
  OpR X f (rI0 λi j=>.bl (g i j)):=by
 intro pins s σ H x y v u Q I k e h;obtain⟨i,j,rfl,rfl,q⟩:=h;obtain⟨t,rfl⟩:=k;obtain⟨t',rfl⟩:=e;exact d i j t t' s _ _ ⟨.bl (g i j),H,I,rfl,q⟩
def CDiv(i j:Int):Prop:=0<j/\j<1073741824
def CPow(i j:Int):Prop:=0<=j/\j<=1000000/\i.natAbs<2^64
def CMul(i j:Int):Prop:=(-(2^64)<i/\i<2^64)\/(-(2^64)<j/\j<2^64)
theorem CMul.ok{i j:Int}(h:CMul i j):IntMulOk i j:=by
 rcases h with ⟨e,d⟩|⟨e,d⟩
 ·exact .of_left (intBits_le_64 e d)
 ·exact .of_right (intBits_le_64 e d)
theorem Bb:OpR X (binaryOp .Add) (rI0 λi j=>.int (i+j)):=opI0 λ_ _ _ _ _ _ _ q=>add_int q
theorem AS:OpR X (binaryOp .Sub) (rI0 λi j=>.int (i-j)):=opI0 λ_ _ _ _ _ _ _ q=>sub_int q
theorem EB:OpR X (binaryOp .Mult) (rI CMul λi j=>.int (i*j)):=opI λ_ _ _ _ _ _ _ d q=>mul_int q d.ok
theorem CP:OpR X (binaryOp .FloorDiv) (rI CDiv λi j=>.int (i/j)):=opI λi j _ _ _ _ _ d q=>by
 have f:(0:Int)<j:=d.1;have e:j<1073741824:=d.2;exact floordiv_int A0 (by rw[Int.fdiv_eq_ediv_of_nonneg i A0];exact q) (.inl (PyProof.noPylong_small A0))
theorem BH:OpR X (binaryOp .Mod) (rI (λ_ j=>0<j) λi j=>.int (i%j)):=opI λi j _ _ _ _ _ d q=>by
 have e:(0:Int)<j:=d;exact mod_int' A0 (by rw[Int.fmod_eq_emod_of_nonneg i A0];exact q)
theorem LP:OpR X (binaryOp .Pow) (rI CPow λi j=>.int (i^j.toNat)):=opI λ_ _ _ _ _ _ _ d q=>pow_int_small d.1 d.2.1 d.2.2 q
theorem MY:OpR X (binaryOp .LShift) (rI CPow λi j=>.int (i*2^j.toNat)):=opI λ_ _ _ _ _ _ _ d q=>lshift_int_small d.1 d.2.1 d.2.2 q
theorem unI{f:Value->Sem Value}{g:Int->Int}
  (d:∀(i:Int)(t:Tok)(s:Shared)(Q:Value->Shared->Prop)(E:Value->Shared->Prop),Q (.int (g i) s.toks) {s with toks:=s.toks+1}->wpAny (model X.prog X.w) X.A (f (.int i t)) Q E s) :
  UnR X f (rU λi=>.int (g i)):=by
 intro pins s σ H x v Q I e h;obtain⟨i,rfl,q⟩:=h;obtain⟨t,rfl⟩:=e;exact d i t s _ _ ⟨.int (g i),H,I.tok _,⟨_,rfl⟩,q⟩
theorem Cc:UnR X (unaryOp .USub) (rU λi=>.int (-i)):=unI λ_ _ _ _ _ q=>neg_int q
end
def scal:V->V->Bool
 |.non,.non=>true|.non,.int _=>true|.int _,.non=>true|.non,.bl _=>true|.bl _,.non=>true|.non,.str _=>true|.str _,.non=>true
 |.int _,.int _=>true|.bl _,.bl _=>true|.str _,.str _=>true|.byt _,.byt _=>true
 |.int _,.str _=>true|.str _,.int _=>true|.bl _,.str _=>true|.str _,.bl _=>true
 |_,_=>false
def rEq:R2:=λx y H Q=>scal x y=true/\Q (.bl (decide (x=y))) H
def rNe:R2:=λx y H Q=>scal x y=true/\Q (.bl (!decide (x=y))) H
theorem Og{i j:Int}:decide (V.int i=V.int j)=(i==j):=by
 rw[Q4];simp
theorem dec_bl{i j:Bool}:decide (V.bl i=V.bl j)=(i==j):=by
 rw[Q4];simp
theorem VD{i j:Str}:decide (V.str i=V.str j)=(i==j):=by
 rw[Q4];simp
theorem VE{i j:Array UInt8}:decide (V.byt i=V.byt j)=(i.toList==j.toList):=by
 rw[Q4];cases i;cases j;simp
section
variable{X:Cx}{a b c:Expr}{ta tb tc:TE}{pos:Pos}
theorem Bg{pins:List (Addr×Obj)}{σ:St}{H:Hp}{s:Shared}{Q:VK}{k d:Bool}(I:Inv X pins σ H s)(q:Q (.bl k) H)(e:k=d):EP X pins σ Q (.bool d) s:=by
 subst e;exact⟨.bl k,H,I,rfl,q⟩
theorem CQ:OpR X (compareOp .Eq) rEq:=by
 intro pins s σ H x y v u Q I f d h;obtain⟨e,q⟩:=h;cases x with
 |non =>
  cases f;cases y with
  |non=>cases d;exact PySem.EqNone.eq_none_none (Bg I q A6)
  |bl j=>cases d;exact PySem.EqNone.eq_none_bool (Bg I q A6)
  |int j=>obtain⟨t',rfl⟩:=d;exact PySem.EqNone.eq_none_int (Bg I q A6)
  |str j=>obtain⟨t',rfl⟩:=d;exact PySem.EqNone.eq_none_str (Bg I q A6)
  |_=>exact absurd (show false=true from e) D3
 |bl i =>
  cases f;cases y with
  |non=>cases d;exact PySem.EqNone.eq_bool_none (Bg I q A6)
  |bl j=>cases d;exact eq_bool (Bg I q dec_bl)
  |str j=>obtain⟨t',rfl⟩:=d;exact PySem.EqMixed.eq_bool_str (Bg I q A6)
  |_=>exact absurd (show false=true from e) D3
 |int i =>
  obtain⟨t,rfl⟩:=f;cases y with
  |non=>cases d;exact PySem.EqNone.eq_int_none (Bg I q A6)
  |int j=>obtain⟨t',rfl⟩:=d;exact eq_int (Bg I q Og)
  |str j=>obtain⟨t',rfl⟩:=d;exact PySem.EqMixed.eq_int_str (Bg I q A6)
  |_=>exact absurd (show false=true from e) D3
 |str i =>
  obtain⟨t,rfl⟩:=f;cases y with
  |non=>cases d;exact PySem.EqNone.eq_str_none (Bg I q A6)
  |bl j=>cases d;exact PySem.EqMixed.eq_str_bool (Bg I q A6)
  |int j=>obtain⟨t',rfl⟩:=d;exact PySem.EqMixed.eq_str_int (Bg I q A6)
  |str j=>obtain⟨t',rfl⟩:=d;exact eq_str (Bg I q VD)
  |_=>exact absurd (show false=true from e) D3
 |byt i =>
  obtain⟨t,rfl⟩:=f;cases y with
  |byt j=>obtain⟨t',rfl⟩:=d;exact W.eq_bytes (Bg I q VE)
  |_=>exact absurd (show false=true from e) D3
 |_=>cases y<;>exact absurd (show false=true from e) D3
theorem OO:OpR X (compareOp .NotEq) rNe:=by
 intro pins s σ H x y v u Q I f d h;obtain⟨e,q⟩:=h;cases x with
 |non =>
  cases f;cases y with
  |non=>cases d;exact PySem.EqNone.ne_none_none (Bg I q A6)
  |bl j=>cases d;exact PySem.EqNone.ne_none_bool (Bg I q A6)
  |int j=>obtain⟨t',rfl⟩:=d;exact PySem.EqNone.ne_none_int (Bg I q A6)
  |str j=>obtain⟨t',rfl⟩:=d;exact PySem.EqNone.ne_none_str (Bg I q A6)
  |_=>exact absurd (show false=true from e) D3
 |bl i =>
  cases f;cases y with
  |non=>cases d;exact PySem.EqNone.ne_bool_none (Bg I q A6)
  |bl j=>cases d;exact ne_bool (Bg I q (K5 not dec_bl))
  |str j=>obtain⟨t',rfl⟩:=d;exact PySem.EqMixed.ne_bool_str (Bg I q A6)
  |_=>exact absurd (show false=true from e) D3
 |int i =>
  obtain⟨t,rfl⟩:=f;cases y with
  |non=>cases d;exact PySem.EqNone.ne_int_none (Bg I q A6)
  |int j=>obtain⟨t',rfl⟩:=d;exact ne_int (Bg I q (K5 not Og))
  |str j=>obtain⟨t',rfl⟩:=d;exact PySem.EqMixed.ne_int_str (Bg I q A6)
  |_=>exact absurd (show false=true from e) D3
 |str i =>
  obtain⟨t,rfl⟩:=f;cases y with
  |non=>cases d;exact PySem.EqNone.ne_str_none (Bg I q A6)
  |bl j=>cases d;exact PySem.EqMixed.ne_str_bool (Bg I q A6)
  |int j=>obtain⟨t',rfl⟩:=d;exact PySem.EqMixed.ne_str_int (Bg I q A6)
  |str j=>obtain⟨t',rfl⟩:=d;exact ne_str (Bg I q (K5 not VD))
  |_=>exact absurd (show false=true from e) D3
 |byt i =>
  obtain⟨t,rfl⟩:=f;cases y with
  |byt j=>obtain⟨t',rfl⟩:=d;exact W.ne_bytes (Bg I q (K5 not VE))
  |_=>exact absurd (show false=true from e) D3
 |_=>cases y<;>exact absurd (show false=true from e) D3
theorem Fe:OpR X (compareOp .Lt) (rI0 λi j=>.bl (decide (i<j))):=opB0 λ_ _ _ _ _ _ _ q=>lt_int q
theorem Lo:OpR X (compareOp .LtE) (rI0 λi j=>.bl (decide (i<=j))):=opB0 λ_ _ _ _ _ _ _ q=>le_int q
theorem Nz:OpR X (compareOp .Gt) (rI0 λi j=>.bl (decide (j<i))):=opB0 λ_ _ _ _ _ _ _ q=>gt_int q
theorem op_ge:OpR X (compareOp .GtE) (rI0 λi j=>.bl (decide (j<=i))):=opB0 λ_ _ _ _ _ _ _ q=>ge_int q
theorem Wf:OpR X (compareOp .In) (λx y H Q=>∃i j,x=.str i/\y=.str j/\Q (.bl (!(Builtin.Str.occurrences j i 0 j.length 1).isEmpty)) H):=by
 intro pins s σ H x y v u Q I e d h;obtain⟨i,j,rfl,rfl,q⟩:=h;obtain⟨t,rfl⟩:=e;obtain⟨t',rfl⟩:=d;exact in_str (Bg I q rfl)
theorem FZ:OpR X (compareOp .Is) (λx y H Q=>y=.non/\Q (.bl (decide (x=.non))) H):=by
 intro pins s σ H x y v u Q I d e h;obtain⟨rfl,q⟩:=h;cases e;refine is_none_gen (Bg I q ?_);cases x<;>first
  | (cases d;rfl)
  | (obtain⟨t,rfl⟩:=d;rfl)
theorem Ms:OpR X (compareOp .IsNot) (λx y H Q=>y=.non/\Q (.bl (!decide (x=.non))) H):=by
 intro pins s σ H x y v u Q I d e h;obtain⟨rfl,q⟩:=h;cases e;refine isnot_none_gen (Bg I q ?_);cases x<;>first
  | (cases d;rfl)
  | (obtain⟨t,rfl⟩:=d;rfl)
theorem Mr:OpR X (compareOp .NotIn) (λx y H Q=>∃i j,x=.str i/\y=.str j/\Q (.bl (!(!(Builtin.Str.occurrences j i 0 j.length 1).isEmpty))) H):=by
 intro pins s σ H x y v u Q I e d h;obtain⟨i,j,rfl,rfl,q⟩:=h;obtain⟨t,rfl⟩:=e;obtain⟨t',rfl⟩:=d;exact notIn_str (Bg I q rfl)
theorem AD(b:Expr){d:CmpOp}(h:d≠.In:=by decide)(e:d≠.NotIn:=by decide):behindInMarks d b=false:=by
 have g:(d==CmpOp.In)=false:=by cases d<;>first|rfl|exact absurd rfl h
 have f:(d==CmpOp.NotIn)=false:=by cases d<;>first|rfl|exact absurd rfl e
 cases b<;>simp[behindInMarks,g,f]
theorem Fo{d:CmpOp}{r:R2}(n:OpR X (compareOp d) r)(f:PE X a ta)(g:PE X b tb)(j:behindInMarks d b=false):PE X (.Compare a [d] [b] pos) (tOp r ta tb):=by
 intro pins s σ H Q I h;exact wpAny_Compare1 (binT f g I h λv u e x y l m k i q=>n pins e σ l x y v u Q m k i q) j
def Yc(t:TE):TT:=fun σ H Q=>t σ H λx H'=>∃k,x=.bl k/\Q k H'
theorem Ay{d:CmpOp}{r:R2}(j:OpR X (compareOp d) r)(B:PE X a ta)(t:PE X b tb)(n:behindInMarks d b=false):PT X (.Compare a [d] [b] pos) (Yc (tOp r ta tb)):=by
 intro pins s σ H Q I h;refine wpAny_isTrue_Compare1 (thn (B pins s σ H _ I h) λv m ⟨x,i,q,f,C⟩=>thn (t pins m σ i _ q C) λu l ⟨y,g,w,G,A⟩ =>
  thn (j pins l σ g x y v u _ w f G A) λc K ⟨z,o,E,p,k,e,D⟩=>?_) n
 subst e;cases p;exact A0c ⟨o,E,D⟩
def Ye(r r':R2)(ta tb tc:TE):TE:=fun σ H Q=>ta σ H λx H1=>tb σ H1 λy H2=>r x y H2 λz H3=>∃k,z=.bl k /\
 (if k=true then tc σ H3 λw' H4=>r' y w' H4 Q else Q (.bl false) H3)
theorem YO{g f:CmpOp}{r l:R2}(B:OpR X (compareOp g) r)(i:OpR X (compareOp f) l)(V:PE X a ta)(P:PE X b tb)(R:PE X c tc)
  (G:lastMarks [g,f] [b,c]=false:=by with_unfolding_all rfl):PE X (.Compare a [g,f] [b,c] pos) (Ye r l ta tb tc):=by
 intro pins s σ H Q I h;refine Compare_chain (thn (V pins s σ H _ I h) λv E ⟨x,A,N,p,Y⟩=>chain_link (thn (P pins E σ A _ N Y) λu D ⟨y,t,T,o,U⟩ =>
  thn (B pins D σ t x y v u _ T p o U) λd O ⟨z,j,n,M,k,e,m⟩=>?_)) G
 subst e;cases M;refine A0c ?_;cases k with
 |false=>exact ite_ff ⟨.bl false,j,n,rfl,m⟩
 |true=>exact ite_tt (chain_last (thn (R pins O σ j _ n m) λZ w ⟨z',C,S,K,q⟩=>i pins w σ C y z' u Z Q S o K q))
theorem Sx{g f:CmpOp}{r l:R2}(D:OpR X (compareOp g) r)(i:OpR X (compareOp f) l)(ha:PE X a ta)(V:PE X b tb)(Y:PE X c tc)
  (M:lastMarks [g,f] [b,c]=false:=by with_unfolding_all rfl):PT X (.Compare a [g,f] [b,c] pos) (Yc (Ye r l ta tb tc)):=by
 intro pins s σ H Q I h;refine isTrue_chain (thn (ha pins s σ H _ I h) λv K ⟨x,w,S,p,q1⟩=>test_link (thn (V pins K σ w _ S q1) λu G ⟨y,t,I2,o,q2⟩ =>
  thn (D pins G σ t x y v u _ I2 p o q2) λd T ⟨z,j,n,R,k,e,m⟩=>?_)) M
 subst e;cases R;refine A0c ?_;cases k with
 |false =>
  obtain⟨k',C,q'⟩:=m;cases C;exact ite_ff ⟨j,n,q'⟩
 |true =>
  refine ite_tt (test_last (thn (Y pins T σ j _ n m) λw' A ⟨z',E,Z,N,q⟩=>thn (i pins A σ E y z' u w' _ Z o N q) λd' s5 ⟨z2,O,U,B,k2,e2,P⟩=>?_));subst e2;cases B;exact A0c ⟨O,U,P⟩
theorem OY:(sizeLine:Nat)<2^63:=by rw[sizeLine_eq];decide
theorem DE:OpR X (binaryOp .Add) (λx y H Q=>∃i j,x=.str i/\y=.str j/\i.length+j.length<=sizeLine/\Q (.str (i++j)) H):=by
 intro pins s σ H x y v u Q I f e h;obtain⟨i,j,rfl,rfl,d,q⟩:=h;obtain⟨t,rfl⟩:=f;obtain⟨t',rfl⟩:=e;exact add_str (λt' tk=>⟨.str (i++j),H,I.tok _,⟨_,rfl⟩,q⟩) d
theorem RS{x:V}{us:List Value}(r:AO [x] us):∃u,us=[u]/\Be x u:=by
 cases r with
 |cons e d=>cases d;exact⟨_,rfl,e⟩
theorem vals2{x y:V}{us:List Value}(r:AO [x,y] us):∃u d,us=[u,d]/\Be x u/\Be y d:=by
 cases r with
 |cons f h =>
  cases h with
  |cons e g=>cases g;exact⟨_,_,rfl,f,e⟩
theorem WM(e:X.calm=true):Ge X (.builtin "max") (λxs H Q=>∃i j,xs=[.int i,.int j]/\Q (.int (if j > i then j else i)) H):=by
 intro pins s σ H xs us Q I r h;obtain⟨i,j,rfl,q⟩:=h;obtain⟨u,f,rfl,⟨t,rfl⟩,⟨t',rfl⟩⟩:=vals2 r;refine max_two_ints (I.ok.hd e) λh' tk k=>⟨_,H,I.kept k,?_,q⟩
 by_cases d:j > i
 ·rw[Z9 d,Z9 d];exact⟨_,rfl⟩
 ·rw[Z6 d,Z6 d];exact⟨_,rfl⟩
theorem Qw(e:X.calm=true):Ge X (.builtin "min") (λxs H Q=>∃i j,xs=[.int i,.int j]/\Q (.int (if j<i then j else i)) H):=by
 intro pins s σ H xs us Q I r h;obtain⟨i,j,rfl,q⟩:=h;obtain⟨u,f,rfl,⟨t,rfl⟩,⟨t',rfl⟩⟩:=vals2 r;refine min_two_ints (I.ok.hd e) λh' tk k=>⟨_,H,I.kept k,?_,q⟩
 by_cases d:j<i
 ·rw[Z9 d,Z9 d];exact⟨_,rfl⟩
 ·rw[Z6 d,Z6 d];exact⟨_,rfl⟩
theorem Fz:Ge X (.type "str") (λxs H Q=>∃i,xs=[.int i]/\i.natAbs.log2<1920/\Q (.str (toString i)) H):=by
 intro pins s σ H xs us Q I r h;obtain⟨i,rfl,d,q⟩:=h;obtain⟨u,rfl,t,rfl⟩:=RS r;exact PySem.P.str_of_int d ⟨.str _,H,I.tok _,⟨_,rfl⟩,q⟩
end
structure UA(h:Heap)(x dx C:Addr)(mA:Str->Option Value):Prop where
 obj:h.get? x=some (instObj C dx)
 ns:h.Ns1 dx mA
 ne:dx≠x
theorem Ww{h:Heap}{dx:Addr}{f:Str->Option Value}(n:h.Ns1 dx f):∃c,h.get? dx=some c/\∀name,lookIn name c=some (f name):=by
 obtain⟨o,d,p,m,j,l,_,i⟩:=n;refine⟨o,m,λname=>?_⟩;have e:=i name;unfold nsFind findBy at e;rw[<-Array.find?_toList]at e;unfold lookIn;rw[j];dsimp only;split
 ·rename_i y q;rw[q]at e;exact K5 some e
 ·rename_i q;rw[q]at e;have a:d.toList.any (·.refKey)=false:=by
   rw[List.any_eq_false];intro y g;obtain⟨z,t,b⟩:=l y (Array.mem_toList_iff.mp g);simp[DictEntry.refKey,b]
  have k:¬d.toList.any (·.refKey)=true:=by rw[a];exact D3
  rw[Z6 k];exact K5 some e
theorem UA.look{h:Heap}{x dx C:Addr}{b:Str->Option Value}(I:UA h x dx C b):∃a,W.InstAt h x (instObj C dx) C (some a)/\∀name,lookIn name a=some (b name) :=
 let ⟨a,ho,hl⟩:=Ww I.ns
 ⟨a,⟨I.obj,rfl,rfl,ho⟩,hl⟩
section
variable{prog:Program}{w:World}{A:Around}{E:Value->Shared->Prop}{s:Shared}{K:W.Frag}{x dx C f:Addr}{mA:Str->Option Value}{name:Str}{v:Value}
theorem get_map{a:Bool}{Q:Value->Shared->Prop}(X:K.In s.heap)(I:UA s.heap x dx C mA)(i:plainGet K C name=true)(g:hasDictIn K C=true)
  (c:findIn K (.ref C) name=some none) (d:mA name=some v) (b:handedIn v=true) (h:Q v {s with toks:=s.toks+1}) :
  wpAny (model prog w) A (getAttr (.ref x) name a) Q E s:=by
 obtain⟨j,J,e⟩:=I.look;exact W.get_value X J (A5b i).1 (W.findObj_own g c rfl (by rw[e,d])) b h
theorem ZO{pl:Sem Bool}{Q:Value×List Value->Shared->Prop}(X:K.In s.heap)(I:UA s.heap x dx C mA)(a:plainGet K C name=true)
  (g:findIn K (.ref C) name=some (some (.ref f))) (e:isFn K (.ref f)=true) (b:mA name=none) (h:Q (.ref f,[.ref x]) s) :
  wpAny (model prog w) A (getMethod (.ref x) name pl) Q E s:=by
 obtain⟨c,J,d⟩:=I.look;exact W.method_fn X J (A5b a).1 (A5b a).2 g (beq_iff_eq.mp e) (by show(lookIn name c).map (·.isSome)=some false;rw[d,b];rfl) h
theorem set_map{ns:List Str}{Q:Unit->Shared->Prop}(X:K.In s.heap)(I:UA s.heap x dx C mA)
  (k:findIn K (.ref C) "__setattr__" = some (some (.builtin "object.__setattr__"))) (hp:plainOver K C=true) (p:takerIn K C name=some none) (o:hasDictIn K C=true)
  (n:PySem.Within mA ns) (hsz:ns.length<=sizeLine)
  (h:∀h',UA h' x dx C (λy=>if y=name then some v else mA y)->Heap.SameBut dx s.heap h'->Q () {s with heap:=h',toks:=s.toks+2}) :
  wpAny (model prog w) A (setAttr (.ref x) name v) Q E s:=by
 obtain⟨z,J,B⟩:=I.look;refine W.set_plain X J k (W.osa_open (s:={s with toks:=s.toks+1}) (r:=none) X J hp p λb=>?_)
 obtain⟨D,l,j⟩:=any_some o;have t:s.heap.get? x=some ⟨.ref C,some dx,.plain,#[]⟩:=I.obj;refine Z5 (K3 (Z5 (Z5 (wpAny_loadPart t (Z5 (W.Looks.here (s:={s with toks:=s.toks+1}) (W.looks_clsIn X l) ?_))))))
 rw[j];refine K3 (a:=some dx) (Z5 (K3 (Z5 ?_)));refine wpAny_nsSet1 (s:={s with toks:=s.toks+1}) I.ns λh' c d=>?_;obtain⟨u,q,m,g,i,e⟩:=c.count (PySem.Within.cons name v n);refine Z5 (wpAny_lookBehind g (by rw[i];exact pastItsLine_dict (D0 e (by rw[F0];lia))) ?_);exact K3 (h _ ⟨(d.2 _ (X7 I.ne)).trans I.obj,c,I.ne⟩ d)
theorem Zu{R:Result->Shared->Prop}{vs:List Value}{b:List (Str×Value)}(X:K.In s.heap)(c:makesIn K C=true)
  (e:findIn K (.ref C) "__init__" = some (some (.ref f))) (i:W.typeIn K (.ref f)=some (.type "function"))
  (h:codeAny (model prog w) (A.under (.builtin "type.__call__" ⟨.ref C::vs,b⟩)) (.call (.ref f) ⟨.ref (s.heap.objs.size+1)::vs,b⟩) (W.InitBack (s.heap.objs.size+1) R)
   {s with heap:=(s.heap.push emptyDict).push (instObj C s.heap.objs.size)}) :
  codeAny (model prog w) A (.call (.ref C) ⟨vs,b⟩) R s:=by
 obtain⟨j,g,d,t,k⟩:=s;exact W.make_core (W.makes_of X c) (W.looks_findIn X e) (λa=>W.bind_fn X a i) (.inl rfl) h
end
def AY(f:Str)(v:V):List (Str×V)->List (Str×V)
 |[]=>[(f,v)]
 | (g,x)::r=>if g=f then(g,v)::r else(g,x)::AY f v r
theorem Am(f g:Str)(v:V):∀fs:List (Str×V),(AY f v fs).lookup g=if g=f then some v else fs.lookup g
 |[]=>by
  show List.lookup g [(f,v)]=_;by_cases h:g=f
  ·have a:(g==f)=true:=beq_iff_eq.mpr h;simp only[List.lookup,a,Z9 h]
  ·have a:(g==f)=false:=beq_eq_false_iff_ne.mpr h;simp only[List.lookup,a,Z6 h]
 | (k,x)::r=>by
  have c:=Am f g v r;rw[show AY f v ((k,x)::r)=(if k=f then(k,v)::r else(k,x)::AY f v r)from rfl];by_cases b:k=f
  ·rw[Z9 b];by_cases h:g=k
   ·have a:(g==k)=true:=beq_iff_eq.mpr h;simp only[List.lookup,a,Z9 (h.trans b)]
   ·have a:(g==k)=false:=beq_eq_false_iff_ne.mpr h;simp only[List.lookup,a,Z6 (λe:g=f=>h (e.trans b.symm))]
  ·rw[Z6 b];by_cases h:g=k
   ·have a:(g==k)=true:=beq_iff_eq.mpr h;simp only[List.lookup,a,Z6 (λe:g=f=>b (h.symm.trans e))]
   ·have a:(g==k)=false:=beq_eq_false_iff_ne.mpr h;simp only[List.lookup,a];exact c
theorem Ni(f:Str)(v:V):∀fs:List (Str×V),f∈(AY f v fs).map (·.1)/\∀g,g∈fs.map (·.1)->g∈(AY f v fs).map (·.1)
 |[]=>⟨by simp[AY],λg h=>by simp at h⟩
 | (k,x)::r=>by
  obtain⟨c,b⟩:=Ni f v r;rw[show AY f v ((k,x)::r)=(if k=f then(k,v)::r else(k,x)::AY f v r)from rfl];by_cases a:k=f
  ·rw[Z9 a];subst a;exact⟨by simp,λg h=>by simpa using h⟩
  ·rw[Z6 a];refine⟨?_,λg h=>?_⟩
   ·rw[F7];exact C8 _ c
   ·rw[F7]at h⊢;rcases B7.mp h with e|e
    ·exact B7.mpr (.inl e)
    ·exact C8 _ (b g e)
theorem BE(f:Str)(v:V):∀fs:List (Str×V),(AY f v fs).length<=fs.length+1
 |[]=>by simp[AY]
 | (k,x)::r=>by
  have b:=BE f v r;rw[show AY f v ((k,x)::r)=(if k=f then(k,v)::r else(k,x)::AY f v r)from rfl];by_cases a:k=f
  ·rw[Z9 a,F0,F0];lia
  ·rw[Z6 a,F0,F0];lia
theorem Jj.some_of{v:V}{o:Option Value}(r:Jj (some v) o):∃u,o=some u/\Be v u:=by
 cases o with
 |none=>exact(show False from r).elim
 |some u=>exact⟨u,rfl,r⟩
theorem Jj.none_of{o:Option Value}(r:Jj none o):o=none:=by
 cases o with
 |none=>rfl
 |some u=>exact(show False from r).elim
theorem WE{v:V}{u:Value}(r:Be v u):handedIn u=true:=by
 cases v with
 |non=>cases(show u=Value.none from r);rfl
 |bl b=>cases(show u=Value.bool b from r);rfl
 |int i=>obtain⟨t,e⟩:=(show ∃t,u=Value.int i t from r);cases e;rfl
 |str x=>obtain⟨t,e⟩:=(show ∃t,u=Value.str x t from r);cases e;rfl
 |byt b=>obtain⟨t,e⟩:=(show ∃t,u=Value.bytes b t from r);cases e;rfl
 |flt b=>obtain⟨t,e⟩:=(show ∃t,u=Value.float b t from r);cases e;rfl
 |ref a=>cases(show u=Value.ref a from r);rfl
 |ty n=>cases(show u=Value.type n from r);rfl
section
variable{P:Program}{w:World}{H H':Hp}{h h':Heap}{a C dx:Addr}{fs fs':List (Str×V)}
theorem Od(c:HOk P w H h)(e:H a=some (.ins C dx fs)):∃b,UA h a dx C b/\(∀f,Jj (fs.lookup f) (b f))/\PySem.Within b (fs.map (·.1))/\fs.length<=1000/\H dx=some (.own a):=by
 obtain⟨d,z,ne,g,b,n,r,q⟩:=(show BW P w H h a (.ins C dx fs)from c a _ e)
 exact⟨b,⟨g,n,ne⟩,r,q,z,d⟩
end
structure Cls(K:W.Frag)(C:Addr):Prop where
 pg:plainGet K C Str.empty=true
 hd:hasDictIn K C=true
 po:plainOver K C=true
 sa:findIn K (.ref C) "__setattr__" = some (some (.builtin "object.__setattr__"))
theorem Cls.get{K:W.Frag}{C:Addr}(c:Cls K C)(f:Str):plainGet K C f=true:=c.pg
def BI(K:W.Frag)(C:Addr)(f:Str):Prop:=findIn K (.ref C) f=some none
theorem BI.taker{K:W.Frag}{C:Addr}{f:Str}(n:BI K C f):takerIn K C f=some none:=by
 unfold takerIn;rw[show findIn K (.ref C) f=some none from n];rfl
structure PQ(K:W.Frag)(C:Addr)(m:Str)(f:Addr):Prop where
 at_:findIn K (.ref C) m=some (some (.ref f))
 fn:isFn K (.ref f)=true
 kp:keepIn K (.ref f)=true
section
variable{X:Cx}{pins:List (Addr×Obj)}{σ:St}{H:Hp}{s:Shared}{a C dx:Addr}{fs:List (Str×V)}{f:Str}{v:V}{A:Around}{E:Value->Shared->Prop}
theorem Um{b:Bool}{Q:Value->Shared->Prop}(I:Inv X pins σ H s)(e:H a=some (.ins C dx fs))(c:Cls X.K C)(n:BI X.K C f)(l:fs.lookup f=some v)
  (h:∀u s',Inv X pins σ H s'->Be v u->Q u s'):wpAny (model X.prog X.w) A (getAttr (.ref a) f b) Q E s:=by
 obtain⟨i,O,r,_,_,_⟩:=Od I.hok e;obtain⟨u,g,d⟩:=Jj.some_of (v:=v) (o:=i f) (by rw[<-l];exact r f);exact get_map I.kIn O (c.get f) c.hd n g (WE d) (h u _ (I.tok _) d)
theorem Ul{m:Str}{g:Addr}{pl:Sem Bool}{Q:Value×List Value->Shared->Prop}(I:Inv X pins σ H s)(e:H a=some (.ins C dx fs))(c:Cls X.K C)(k:PQ X.K C m g)(l:fs.lookup m=none)
  (h:Q (.ref g,[.ref a]) s):wpAny (model X.prog X.w) A (getMethod (.ref a) m pl) Q E s:=by
 obtain⟨b,O,r,_,_,_⟩:=Od I.hok e;have d:b m=none:=Jj.none_of (by rw[<-l];exact r m);exact ZO I.kIn O (c.get m) k.at_ k.fn d h
theorem Tz{y:V}{u:Value}{Q:Unit->Shared->Prop}(I:Inv X pins σ H s)(e:H a=some (.ins C dx fs))(c:Cls X.K C)(n:BI X.K C f)(G:fs.length<1000)(p:Be y u)
  (h:∀s',Inv X pins σ (upd H a (.ins C dx (AY f y fs))) s'->Q () s'):wpAny (model X.prog X.w) A (setAttr (.ref a) f u) Q E s:=by
 obtain⟨k,O,r,i,_,l⟩:=Od I.hok e;have D:(fs.map (·.1)).length<=sizeLine:=by rw[B5,sizeLine_eq];lia
 refine set_map I.kIn O c.sa c.po n.taker c.hd i D λh' d t=>h _ ?_;have j:∃o,h'.get? dx=some o:=let ⟨o,_,_,e',_⟩:=d.ns;⟨o,e'⟩;refine I.write (x:=a) (e:=dx) (by rw[e];exact True.intro) (.inr l) (λb q m z=>(t.2 b m).trans z) j ?_;refine⟨by rw[Ax O.ne];exact l,?_,O.ne,d.obj,_,d.ns,λg=>?_,λg B=>?_⟩
 ·have:=BE f y fs;lia
 ·show Jj ((AY f y fs).lookup g) (if g=f then some u else k g);rw[Am];by_cases q:g=f
  ·rw[Z9 q,Z9 q];exact p
  ·rw[Z6 q,Z6 q];exact r g
 ·by_cases q:g=f
  ·rw[q];exact(Ni f y fs).1
  ·refine(Ni f y fs).2 g (i g λz=>B ?_);show(if g=f then some u else k g)=none;rw[Z6 q];exact z
theorem Inv.made(I:Inv X pins σ H s):Inv X pins σ (upd (upd H s.heap.objs.size (.own (s.heap.objs.size+1))) (s.heap.objs.size+1) (.ins C s.heap.objs.size []))
  {s with heap:=(s.heap.push emptyDict).push (instObj C s.heap.objs.size)}:=by
 have c:(s.heap.push emptyDict).get? s.heap.objs.size=some emptyDict:=D5 s.heap rfl;have i:((s.heap.push emptyDict).push (instObj C s.heap.objs.size)).get? (s.heap.objs.size+1)=some (instObj C s.heap.objs.size):=by
  have:=D5 (s.heap.push emptyDict) (o:=instObj C s.heap.objs.size) rfl
  rwa [P7]at this
 have g:(s.heap.push emptyDict).Ns s.heap.objs.size (λ_=>none):=⟨emptyDict,#[],_,c,rfl,(λe j=>absurd j A6),λ_=>rfl⟩
 have h:=I.laid (a:=s.heap.objs.size) (o:=.own (s.heap.objs.size+1)) (h':=s.heap.push emptyDict) (t':=s.toks) (λb u q=>C0 _ q) (C1 _) ⟨_,c⟩;refine h.laid (a:=s.heap.objs.size+1) (o:=.ins C s.heap.objs.size []) (t':=s.toks) (λb u q=>C0 _ q) (Nat.le_of_eq (P7 _ _)) ?_;have ne:s.heap.objs.size≠s.heap.objs.size+1:=F5 (U7 _);refine⟨by rw[Ax ne,Af],L9 _,ne,i,λ_=>none,(Heap.Ns1.of_empty g).at λo q=>C0 _ q,λ_=>True.intro,λy d=>absurd rfl d⟩
theorem attr_of{prog:Program}{w:World}{b:Env}{e:Expr}{f:Str}{d:Pos}{s:Shared}{Q:Value->Shared->Prop}(g:attributeBase e f b (eval e b)=eval e b)
  (h:wpAny (model prog w) A (eval e b) (λo c=>wpAny (model prog w) A (getAttr o f true) Q E c) E s):wpAny (model prog w) A (eval (.Attribute e f d) b) Q E s :=
 Attribute_any_ h (by rw[arm_eval_Attribute,g])
end
def tFld(K:W.Frag)(ta:TE)(f:Str):TE:=fun σ H Q=>ta σ H λx H1=>∃a C dx fs v,x=.ref a/\H1 a=some (.ins C dx fs)/\Cls K C/\BI K C f/\fs.lookup f=some v/\Q v H1
def sFld(K:W.Frag)(ta tv:TE)(f:Str):TS:=λD σ H=>tv σ H λy H1=>ta σ H1 λx H2=>∃a C dx fs,x=.ref a/\H2 a=some (.ins C dx fs)/\Cls K C/\BI K C f/\fs.length<1000 /\
 D.nx σ (upd H2 a (.ins C dx (AY f y fs)))
section
variable{X:Cx}{o e value:Expr}{f:Str}{pos pos' tpos:Pos}{ta tv:TE}
theorem AC(r:PE X e ta)(d:attributeBase e f X.env (eval e X.env)=eval e X.env):PE X (.Attribute e f pos) (tFld X.K ta f):=by
 intro pins s σ H Q I h;refine attr_of d (thn (r pins s σ H _ I h) λu w ⟨x,k,b,i,a,C,dx,fs,v,j,p,c,n,l,q⟩=>?_);subst j;obtain rfl:u=Value.ref a:=i;exact Um b p c n l λy t m g=>⟨v,k,m,g,q⟩
theorem Cz(m:PE X o ta)(k:PE X value tv)(z:swapsWith value (some (.Attribute o f pos')) pos.line X.env=pure false):PS X (.Assign [.Attribute o f pos'] value pos) (sFld X.K ta tv f):=by
 intro pins s σ H D I h;refine plainObj_wpAny_Assign_Attribute (thn (k pins s σ H _ I h) λu b ⟨y,r,d,i,q⟩=>thn (m pins b σ r _ d q) λg B ⟨x,G,t,j,a,C,dx,fs,p,v,c,n,l,w⟩=>?_) z;subst p;obtain rfl:g=Value.ref a:=j;exact Tz t v c n l i λE A=>⟨σ,_,A,w⟩
end
section
variable{X:Cx}{pins:List (Addr×Obj)}{σ:St}{H:Hp}{s:Shared}{A:Around}{E:Value->Shared->Prop}{Q:Value->Shared->Prop}{c:Value}{b:Bool}
inductive Nq(K:W.Frag)(H:Hp):V->Value->Prop where
 |non:Nq K H .non (.type "NoneType")
 |bl (x:Bool):Nq K H (.bl x) (.type "bool")
 |int (i:Int):Nq K H (.int i) (.type "int")
 |str (x:Str):Nq K H (.str x) (.type "str")
 |flt (x:UInt64):Nq K H (.flt x) (.type "float")
 |lst {a:Addr} {xs:List V} (e:H a=some (.lst xs)):Nq K H (.ref a) (.type "list")
 |frz {a:Addr} {o:Obj} {xs:List V} (e:H a=some (.frz o (.lst xs))):Nq K H (.ref a) (.type "list")
 |tup {a:Addr} {xs:List V} (e:H a=some (.tup xs)):Nq K H (.ref a) (.type "tuple")
 |dK {a:Addr} {kvs:List (Key×V)} (e:H a=some (.dK kvs)):Nq K H (.ref a) (.type "dict")
 |dT {a:Addr} {kvs:List (List Key×V)} (e:H a=some (.dT kvs)):Nq K H (.ref a) (.type "dict")
 |ins {a C dx:Addr} {fs:List (Str×V)} (e:H a=some (.ins C dx fs)) (cl:Cls K C) (ha:findIn K (.ref C) "__class__" = some (some (.builtin "object.__class__")))
   (hn:specialIn K (.builtin "object.__class__") "__get__" = some (some (.builtin "getset_descriptor.__get__"))) (htk:takesIn K (.builtin "object.__class__")=some true)
   (hm:mroIn K C (.type "object")=some true):Nq K H (.ref a) (.ref C)
theorem WB{x:V}{u t:Value}(I:Inv X pins σ H s)(d:Be x u)(B:Nq X.K H x t)(e:kitOne X.K t c=some b)(h:∀tk,Q (.bool b) {s with toks:=tk}) :
  wpAny (model X.prog X.w) A (call (.builtin "isinstance") [u,c]) Q E s:=by
 cases B with
 |non=>cases(show u=Value.none from d);exact A0b W.kitx_none I.kIn True.intro e (λz=>nomatch z) h
 |bl y=>cases(show u=Value.bool y from d);exact A0b W.kitx_bool I.kIn True.intro e (λz=>nomatch z) h
 |int i=>obtain⟨t,q⟩:=(show ∃t,u=Value.int i t from d);cases q;exact A0b W.kitx_int I.kIn True.intro e (λz=>nomatch z) h
 |str y=>obtain⟨t,q⟩:=(show ∃t,u=Value.str y t from d);cases q;exact A0b W.kitx_str I.kIn True.intro e (λz=>nomatch z) h
 |flt y=>obtain⟨t,q⟩:=(show ∃t,u=Value.float y t from d);cases q;exact A0b W.kitx_float I.kIn True.intro e (λz=>nomatch z) h
 |@lst a xs f =>
  cases(show u=Value.ref a from d);obtain⟨_,_,n,_,g⟩:=(show BW X.prog X.w H s.heap a (.lst xs)from I.hok a _ f)
  exact A0b kitx_list I.kIn ⟨_,g,rfl⟩ e (λz=>nomatch z) h
 |@frz a D xs f =>
  cases(show u=Value.ref a from d);obtain⟨_,_,_,n,_,g⟩:=(show BW X.prog X.w H s.heap a (.frz D (.lst xs))from I.hok a _ f)
  exact A0b kitx_list I.kIn ⟨_,g,rfl⟩ e (λz=>nomatch z) h
 |@tup a xs f =>
  cases(show u=Value.ref a from d);obtain⟨_,_,_,p⟩:=(show BW X.prog X.w H s.heap a (.tup xs)from I.hok a _ f)
  obtain⟨o,g,k,_⟩:=p;exact A0b W.kitx_tuple I.kIn ⟨o,g,k⟩ e (λz=>nomatch z) h
 |@dK a j f =>
  cases(show u=Value.ref a from d);obtain⟨_,_,vs,_,p⟩:=(show BW X.prog X.w H s.heap a (.dK j)from I.hok a _ f)
  obtain⟨o,v,G,g,k,_⟩:=p;exact A0b kitx_dict I.kIn ⟨o,g,k.1⟩ e (λz=>nomatch z) h
 |@dT a j f =>
  cases(show u=Value.ref a from d);obtain⟨_,_,xs,_,o,v,G,g,k,_⟩:=(show BW X.prog X.w H s.heap a (.dT j)from I.hok a _ f)
  exact A0b kitx_dict I.kIn ⟨o,g,k.1⟩ e (λz=>nomatch z) h
 |@ins a C dx fs f cl m M l r =>
  cases(show u=Value.ref a from d);obtain⟨P,O,_⟩:=Od I.hok f;obtain⟨N,J,_⟩:=O.look;exact A0b (W.kitx_own (cl.get _) cl.hd m M l r) I.kIn J e (λz=>nomatch z) h
end
structure Df(k:Nat)(A:Around):Prop where
 hd:A.handled=none
 dp:A.depth+3*k+5<recursionLimit
 un:A.units+16*k+200<cLine
theorem Df.mono{j k:Nat}{A:Around}(r:Df k A)(h:j<=k):Df j A:=⟨r.hd,by have:=r.dp;lia,by have:=r.un;lia⟩
theorem Df.deeper{k:Nat}{A:Around}(r:Df (k+1) A)(a:Env):Df k (A.deeper a) :=
 ⟨r.hd,by have:=r.dp;show A.depth+1+3*k+5<_;lia,by have:=r.un;show A.units+3+16*k+200<_;lia⟩
theorem Ug{A:Around}{C:Addr}{us:List Value}{a:List (Str×Value)}:(A.under (.builtin "type.__call__" ⟨.ref C::us,a⟩)).depth=A.depth+1:=by
 first|rfl|simp[Around.under,Code.weight,Code.isCreation,Code.isGuard,Code.isCaller,Code.frames,Code.isFrame,guardIds]
theorem Uf{A:Around}{C:Addr}{us:List Value}{a:List (Str×Value)}:(A.under (.builtin "type.__call__" ⟨.ref C::us,a⟩)).units=A.units+1:=by
 first|rfl|simp[Around.under,Code.cUnits,Code.frames,Code.isFrame]
theorem Df.make{k:Nat}{A:Around}(r:Df (k+1) A)(C:Addr)(us:List Value)(a:List (Str×Value)):Df k (A.under (.builtin "type.__call__" ⟨.ref C::us,a⟩)) :=
 ⟨r.hd,by have:=r.dp;rw[Ug];lia,by have:=r.un;rw[Uf];lia⟩
theorem Df.depth{k:Nat}{A:Around}(r:Df k A):A.depth<recursionLimit:=by have:=r.dp;lia
theorem Df.units{k:Nat}{A:Around}(r:Df k A):A.units+64<cLine:=by have:=r.un;lia
def QI:TA:=λ_ H Q=>Q [] H
def CU(ta:TE)(tr:TA):TA:=fun σ H Q=>ta σ H λx H1=>tr σ H1 λxs H2=>Q (x::xs) H2
section
variable{X:Cx}{e:Expr}{es:List Expr}{te:TE}{t:TA}{pos:Pos}
theorem Ae:PA X [] QI:=λ_ _ _ _ H Q I h=>Calls.spliced_nil ⟨[],H,I,.nil,h⟩
theorem Aa(c:PE X e te)(g:PA X es t)(m:starEach (e::es) X.env=(false,eval e X.env)::starEach es X.env:=by rfl):PA X (e::es) (CU te t):=by
 intro pos pins s σ H Q I h;rw[m];show wpAny _ _ (spliced ((false,eval e X.env)::backTo pos (starEach es X.env))) _ _ s;refine Calls.spliced_cons (thn (c pins s σ H _ I h) λu a ⟨x,j,b,f,d⟩=>?_);exact thn (g pos pins a σ j _ b d) λus o ⟨xs,i,k,n,l⟩=>⟨x::xs,i,k,.cons f n,l⟩
def Yb(t:TA):TE:=fun σ H Q=>t σ H λxs H1=>xs.length<=sizeLine/\∀p,H1 p=none->Q (.ref p) (upd H1 p (.tup xs))
def tLst(t:TA):TE:=fun σ H Q=>t σ H λxs H1=>xs.length<=sizeLine/\∀p,H1 p=none->Q (.ref p) (upd H1 p (.lst xs))
theorem Bk{x1}(h:PA X es t):PE X (.Tuple es x1 pos) (Yb t):=by
 intro pins s σ H Q I f;refine wpAny_Tuple_spliced (thn (h pos pins s σ H _ I f) λus a ⟨xs,d,c,r,z,q⟩=>⟨by rw[<-r.length];exact z,?_⟩);have g:d a.heap.objs.size=none:=c.hok.fresh (C1 _);refine⟨.ref a.heap.objs.size,upd d a.heap.objs.size (.tup xs),c.laid (t':=a.toks) (λb u e=>C0 _ e) (C1 _) ?_,rfl,q _ g⟩;exact⟨z,us,r,⟨_,D5 _ rfl,rfl,_,rfl⟩⟩
theorem CA(h:PA X es t):PE X (.List es pos) (tLst t):=by
 intro pins s σ H Q I f;refine wpAny_List_spliced (thn (h pos pins s σ H _ I f) λus a ⟨xs,d,c,r,z,q⟩=>⟨by rw[<-r.length];exact z,?_⟩);have g:d a.heap.objs.size=none:=c.hok.fresh (C1 _);refine⟨.ref a.heap.objs.size,upd d a.heap.objs.size (.lst xs),c.laid (t':=a.toks) (λb u e=>C0 _ e) (C1 _) ?_,rfl,q _ g⟩;exact⟨z,us,0,r,D5 _ rfl⟩
end
abbrev Sp:=List V->Hp->VK->XK->Prop
abbrev CXT:=List Env->Hp->Shared->XK->Value->Shared->Prop
structure UC(P:Program)(w:World)(K:W.Frag)(mg:Str->Option Value)(base:Heap)(A:Around)(outer:List Env)(s:Shared)(H:Hp):Prop where
 frames:A.frames=some outer
 mod:Mod K mg base
 bs:∀b o,base.get? b=some o->s.heap.get? b=some o/\H b=none
 bsz:base.objs.size<=s.heap.objs.size
 funs:s.heap.FunFrames base outer
 frf:∀b∈frs outer,H b=none
 hok:HOk P w H s.heap
 bare:AllBare s.gens
def CE(outer:List Env)(P:Program)(w:World)(H:Hp)(s:Shared)(Q:VK)(u:Value)(s':Shared):Prop :=
 ∃v H',s'.os=s.os/\AllBare s'.gens/\Un (frs outer) [] H H' s.heap s'.heap/\HOk P w H' s'.heap/\Be v u/\Q v H'
def CR(CX:CXT)(outer:List Env)(P:Program)(w:World)(H:Hp)(s:Shared)(Q:VK)(E:XK)(r:Result)(s':Shared):Prop :=
 match r with
 |.ok (.ret u)=>CE outer P w H s Q u s'
 |.ok _=>False
 |.error e=>CX outer H s E e s'
structure AL(P:Program)(w:World)(K:W.Frag)(mg:Str->Option Value)(base:Heap)(CX:CXT)(k:Nat)(f:Addr)(fd:FuncData)(ps:List Str)(sp:Sp):Prop where
 len:∀vs H Q E,sp vs H Q E->vs.length=ps.length
 run:∀(A:Around)(outer:List Env)(s:Shared)(H:Hp)(args:Args)(us:List Value)(vs:List V)(Q:VK)(E:XK),Df k A->UC P w K mg base A outer s H->BindsTo s fd args (ps.zip us)->AO vs us->sp vs H Q E ->
  codeAny (model P w) A (.call (.ref f) args) (CR CX outer P w H s Q E) s
theorem AL.imp{P:Program}{w:World}{K:W.Frag}{mg:Str->Option Value}{a:Heap}{CX:CXT}{k:Nat}{f:Addr}{e:FuncData}{g:List Str}{sp d:Sp}(F:AL P w K mg a CX k f e g sp)
  (h:∀vs H Q E,d vs H Q E->sp vs H Q E):AL P w K mg a CX k f e g d :=
 ⟨λvs H Q E q=>F.len vs H Q E (h _ _ _ _ q),λA b s H c us vs Q E j n i l m=>F.run A b s H c us vs Q E j n i l (h _ _ _ _ m)⟩
theorem UC.make{P:Program}{w:World}{K:W.Frag}{mg:Str->Option Value}{b:Heap}{A:Around}{a:List Env}{s:Shared}{H:Hp}(e:UC P w K mg b A a s H)(C:Addr)(us:List Value)(c:List (Str×Value)) :
  UC P w K mg b (A.under (.builtin "type.__call__" ⟨.ref C::us,c⟩)) a s H:=⟨by first|exact e.frames|(simpa[Around.under,Code.envs,Code.isFrame,pushEnvs] using e.frames),e.mod,e.bs,e.bsz,e.funs,e.frf,e.hok,e.bare⟩
section
variable{X:Cx}{pins:List (Addr×Obj)}{σ:St}{H:Hp}{s s':Shared}
theorem Inv.env0(I:Inv X pins σ H s):UC X.prog X.w X.K X.mg X.base X.A X.stack s H :=
 ⟨I.ok.frames,I.ok.mod,I.bs,D0 I.ok.bsz I.sz,I.stack,I.stkFree,I.hok,I.bare⟩
theorem Inv.after{Q:VK}{u:Value}(I:Inv X pins σ H s)(h:CE X.stack X.prog X.w H s Q u s'):EP X pins σ Q u s':=by
 obtain⟨v,i,e,bare,un,c,r,q⟩:=h;obtain⟨f,g,d,t,a⟩:=s';obtain rfl:a=s.os:=e;exact⟨v,i,I.call (h':=f) (g':=g) (d':=d) (t':=t) (ch:=[]) un c bare (λb z=>absurd z A6),r,q⟩
end
def tCall(sp:Sp)(dvs:List V)(E:XK)(t:TA):TE:=fun σ H Q=>t σ H λvs H1=>sp (vs++dvs) H1 Q E
def UK(C:Addr)(m:Str)(sp:Sp)(dvs:List V)(E:XK)(ta:TE)(t:TA):TE:=fun σ H Q=>ta σ H λx H1=>∃a dx fs,x=.ref a/\H1 a=some (.ins C dx fs)/\fs.lookup m=none /\
 t σ H1 λvs H2=>sp (x::(vs++dvs)) H2 Q E
def UL(C:Addr)(sp:Sp)(dvs:List V)(E:XK)(t:TA):TE:=fun σ H Q=>t σ H λvs H1=>∀x dx,H1 x=none->H1 dx=none->dx≠x ->
 sp (.ref x::(vs++dvs)) (upd (upd H1 dx (.own x)) x (.ins C dx [])) (λv H2=>v=.non/\Q (.ref x) H2) E
def Cv(K:W.Frag)(fd:FuncData)(ps:List Str)(ds:List Value):Prop :=
 ∀(s:Shared)(us:List Value),K.In s.heap->(us++ds).length=ps.length->BindsTo s fd ⟨us,[]⟩ (ps.zip (us++ds))
theorem Cv.all{K:W.Frag}{c:FuncData}{a:List Str}(h:∀us:List Value,us.length=a.length->bindArgs c ⟨us,[]⟩=pure (a.zip us)):Cv K c a []:=λs us _ b=>by
 rw[V9]at b⊢;exact .of_eq (h us b)
def Fa(CX:CXT)(X:Cx)(E:XK):Prop:=∀(pins:List (Addr×Obj))(σ:St)(H:Hp)(s:Shared)(e:Value)(s':Shared),Inv X pins σ H s->CX X.stack H s E e s'->X.xe e s'
section
variable{X:Cx}{CX:CXT}{k:Nat}{f C:Addr}{fd:FuncData}{ps:List Str}{sp:Sp}{dvs:List V}{ds:List Value}{E:XK}{x m:Str}{p pos apos:Pos}{e o:Expr}{es:List Expr}{ta:TE}{t:TA}
theorem YG{pins:List (Addr×Obj)}{σ:St}{H:Hp}{s:Shared}{Q:VK}{us:List Value}{vs:List V}(F:AL X.prog X.w X.K X.mg X.base CX k f fd ps sp)(d:Df k X.A)(c:Cv X.K fd ps ds)(i:AO dvs ds)(l:Fa CX X E)
  (I:Inv X pins σ H s) (r:AO vs us) (h:sp (vs++dvs) H Q E):wpAny (model X.prog X.w) X.A (call (.ref f) us) (EP X pins σ Q) X.xe s:=by
 have b:AO (vs++dvs) (us++ds):=r.append i;have g:(us++ds).length=ps.length:=by rw[<-b.length];exact F.len _ _ _ _ h
 refine wpAny_call (A5c (F.run X.A X.stack s H ⟨us,[]⟩ (us++ds) (vs++dvs) Q E d I.env0 (c s us I.kIn g) b h) λr s' a=>?_);cases r with
 |error e=>exact l pins σ H s e s' I a
 |ok j =>
  cases j with
  |ret u=>exact I.after a
  |next=>exact False.elim a
  |brk=>exact False.elim a
  |cont=>exact False.elim a
theorem pe_call(F:AL X.prog X.w X.K X.mg X.base CX k f fd ps sp)(j:Df k X.A)(u:Gl X x)(i:X.mg x=some (.ref f))(n:keepIn X.K (.ref f)=true)(d:Cv X.K fd ps ds)(l:AO dvs ds)(v:Fa CX X E)
  (g:PA X (e::es) t) (b:(x==("__debug__" : Str))=false:=by decide) (y:starEach (e::es) X.env=(false,eval e X.env)::starEach es X.env:=by rfl) (a:(backTo pos (starEach es X.env)).any (·.1)=false:=by rfl) :
  PE X (.Call (.Name x p) (e::es) [] pos) (tCall sp dvs E t):=by
 intro pins s σ H Q I h;refine A1g (Fu I u i ?_ b);refine A3c (h₀:=X.base) I.ok.mod.kin n (thn (g pos pins s σ H _ I h) λus z ⟨vs,B,c,r,q⟩=>⟨c.kIn,?_⟩) y a;exact YG F j d l v c r q
theorem pe_meth{pl:Sem Bool}(O:PE X o ta)(c:Cls X.K C)(g:PQ X.K C m f)(F:AL X.prog X.w X.K X.mg X.base CX k f fd ps sp)(R:Df k X.A)(M:Cv X.K fd ps ds)(D:AO dvs ds)(y:Fa CX X E)(P:PA X (e::es) t)
  (d:starEach (e::es) X.env=(false,eval e X.env)::starEach es X.env:=by rfl) (b:(backTo pos (starEach es X.env)).any (·.1)=false:=by rfl)
  (T:eval (.Call (.Attribute o m apos) (e::es) [] pos) X.env=(do
   let j <-eval o X.env
   standAt apos.atName
   let (f,first) <-holding [j] (getMethod j m pl)
   callWith pos f first (backTo pos (starEach (e::es) X.env)) (backToKw pos (keywordEach [] X.env))):=by rfl) :
  PE X (.Call (.Attribute o m apos) (e::es) [] pos) (UK C m sp dvs E ta t):=by
 intro pins s σ H Q I h;refine W.methodCall_KW (pl:=pl) (thn (O pins s σ H _ I h) λu z ⟨x,v,i,B,a,dx,fs,S,G,l,q⟩=>?_) T;subst S;obtain rfl:u=Value.ref a:=B;refine Ul i G c g l ?_;refine A3c (first:=[.ref a]) (h₀:=X.base) I.ok.mod.kin g.kp (thn (P pos pins z σ v _ i q) λus V ⟨vs,U,n,r,N⟩=>⟨n.kIn,?_⟩) d b;exact YG (us:=.ref a::us) (vs:=.ref a::vs) F R M D y n (.cons rfl r) N
structure Mk(K:W.Frag)(C f:Addr):Prop where
 makes:makesIn K C=true
 init:findIn K (.ref C) "__init__" = some (some (.ref f))
 fn:isFn K (.ref f)=true
 kp:keepIn K (.ref C)=true
theorem Sm{pins:List (Addr×Obj)}{σ:St}{H:Hp}{s:Shared}{Q:VK}{us:List Value}{vs:List V}(M:Mk X.K C f)(F:AL X.prog X.w X.K X.mg X.base CX k f fd ps sp)(i:Df (k+1) X.A)(g:Cv X.K fd ps ds)(n:AO dvs ds)
  (B:Fa CX X E) (I:Inv X pins σ H s) (r:AO vs us)
  (h:∀x dx,H x=none->H dx=none->dx≠x->sp (.ref x::(vs++dvs)) (upd (upd H dx (.own x)) x (.ins C dx [])) (λv q=>v=.non/\Q (.ref x) q) E) :
  wpAny (model X.prog X.w) X.A (call (.ref C) us) (EP X pins σ Q) X.xe s:=by
 have d:=h (s.heap.objs.size+1) s.heap.objs.size (I.hok.fresh (T1 _)) (I.hok.fresh (C1 _)) (F5 (U7 _));have b:=Inv.made (C:=C) I;have c:AO (V.ref (s.heap.objs.size+1)::(vs++dvs)) (Value.ref (s.heap.objs.size+1)::(us++ds)):=.cons rfl (r.append n);have l:(Value.ref (s.heap.objs.size+1)::us++ds).length=ps.length:=by
  have e:=c.length;rw[F.len _ _ _ _ d]at e;exact e.symm
 refine wpAny_call (Zu (f:=f) I.kIn M.makes M.init (beq_iff_eq.mp M.fn) (A5c (F.run _ X.stack _ _ ⟨Value.ref (s.heap.objs.size+1)::us,[]⟩ (Value.ref (s.heap.objs.size+1)::(us++ds)) _ _ E (i.make C us [])
  (b.env0.make C us []) (g _ (Value.ref (s.heap.objs.size+1)::us) b.kIn l) c d) λr s' a=>?_))
 cases r with
 |error e=>exact B pins σ _ _ e s' b a
 |ok y =>
  cases y with
  |ret u =>
   obtain⟨v,N,D,G,z,j⟩:=b.after a;subst z;exact⟨G,⟨V.ref (s.heap.objs.size+1),N,D,rfl,j⟩⟩
  |next=>exact False.elim a
  |brk=>exact False.elim a
  |cont=>exact False.elim a
theorem pe_make(M:Mk X.K C f)(F:AL X.prog X.w X.K X.mg X.base CX k f fd ps sp)(j:Df (k+1) X.A)(n:Gl X x)(i:X.mg x=some (.ref C))(d:Cv X.K fd ps ds)(l:AO dvs ds)(u:Fa CX X E)
  (g:PA X (e::es) t) (b:(x==("__debug__" : Str))=false:=by decide) (v:starEach (e::es) X.env=(false,eval e X.env)::starEach es X.env:=by rfl) (a:(backTo pos (starEach es X.env)).any (·.1)=false:=by rfl) :
  PE X (.Call (.Name x p) (e::es) [] pos) (UL C sp dvs E t):=by
 intro pins s σ H Q I h;refine A1g (Fu I n i ?_ b);refine A3c (h₀:=X.base) I.ok.mod.kin M.kp (thn (g pos pins s σ H _ I h) λus y ⟨vs,z,c,r,q⟩=>⟨c.kIn,?_⟩) v a;exact Sm M F j d l u c r q
theorem YN(M:Mk X.K C f)(F:AL X.prog X.w X.K X.mg X.base CX k f fd ps sp)(c:Df (k+1) X.A)(i:Gl X x)(d:X.mg x=some (.ref C))(b:Cv X.K fd ps ds)(g:AO dvs ds)(j:Fa CX X E)
  (a:(x==("__debug__" : Str))=false:=by decide):PE X (.Call (.Name x p) [] [] pos) (UL C sp dvs E QI):=by
 intro pins s σ H Q I h;refine A1g (Fu I i d ?_ a);exact W.callWith_K0 I.kIn M.kp (Sm (us:=[]) M F c b g j I .nil h)
end
section
variable{X:Cx}{CX:CXT}{k:Nat}{f C:Addr}{fd:FuncData}{ps ks:List Str}{sp:Sp}{E:XK}{x m:Str}{p pos apos kpos:Pos}{e o:Expr}{es:List Expr}{kws:List Keyword}{te ta:TE}{t tk:TA}{nm:Option Str}
variable{g:List Value->List Value->List Value}{gV:List V->List V->List V}
end
structure Au(N P:List Str)(sc:Scope):Prop where
 kind:sc.kind=.function
 co:sc.isCoroutine=false
 gen:sc.isGenerator=false
 nd:N.Nodup
 pre:N.take P.length=P
 par:∀x∈P,sc.names.lookup x=some .local\/sc.names.lookup x=some .cell
 nofree:∀y∈sc.names,y.2≠.free
theorem Qy{a:Str->Option NameKind}{x:Str}:∀{binds:List (Str×Value)}{m:Str->Option Value},(∀v,(x,v)∉binds)->bindL a binds m x=m x
 |[],_,_=>rfl
 | (n,v)::r,m,h=>by
  unfold bindL;rw[Qy λw b=>h w (C8 _ b)];split
  ·have:x≠n:=by rintro rfl;exact h v C7
   simp[this]
  ·rfl
theorem QA{a:Str->Option NameKind}{x:Str}:∀{binds:List (Str×Value)}{m:Str->Option Value},(∀v,(x,v)∉binds)->bindC a binds m x=m x
 |[],_,_=>rfl
 | (n,v)::r,m,h=>by
  unfold bindC;rw[QA λw b=>h w (C8 _ b)];split
  ·rfl
  ·have:x≠n:=by rintro rfl;exact h v C7
   simp[this]
theorem Qz{a:Str->Option NameKind}{x:Str}{v:Value}:∀{P:List Str}{vs:List Value}{i:Nat}{m:Str->Option Value},P.Nodup->P[i]?=some x->vs[i]?=some v->a x=some .local ->
  bindL a (P.zip vs) m x=some v
 |[],_,_,_,_,h,_,_=>by simp at h
 |_::_,[],_,_,_,_,h,_=>by simp at h
 |p::P,w::vs,0,m,nd,h1,h2,hk=>by
  simp at h1 h2;subst h1;subst h2;show bindL a ((p,w)::P.zip vs) m p=_;unfold bindL;rw[Qy λv b=>(N5.mp nd).1 (List.of_mem_zip b).1,Z9 hk];simp
 |p::P,w::vs,i+1,m,nd,h1,h2,hk=>by
  show bindL a ((p,w)::P.zip vs) m x=_;unfold bindL;exact Qz (i:=i) (N5.mp nd).2 (by simpa using h1) (by simpa using h2) hk
theorem QB{a:Str->Option NameKind}{x:Str}{v:Value}:∀{P:List Str}{vs:List Value}{i:Nat}{m:Str->Option Value},P.Nodup->P[i]?=some x->vs[i]?=some v->a x≠some .local ->
  bindC a (P.zip vs) m x=some v
 |[],_,_,_,_,h,_,_=>by simp at h
 |_::_,[],_,_,_,_,h,_=>by simp at h
 |p::P,w::vs,0,m,nd,h1,h2,hk=>by
  simp at h1 h2;subst h1;subst h2;show bindC a ((p,w)::P.zip vs) m p=_;unfold bindC;rw[QA λv b=>(N5.mp nd).1 (List.of_mem_zip b).1,Z6 hk];simp
 |p::P,w::vs,i+1,m,nd,h1,h2,hk=>by
  show bindC a ((p,w)::P.zip vs) m x=_;unfold bindC;exact QB (i:=i) (N5.mp nd).2 (by simpa using h1) (by simpa using h2) hk
def LZ(N:List Str)(vs:List V):St:=vs.map some++List.replicate (N.length-vs.length) none
def MG(CX:CXT)(P:Program)(w:World)(K:W.Frag)(mg:Str->Option Value)(base:Heap)(N:List Str)(qual:Str)(scope:Scope)(f:Addr)(cd:Value)(A:Around)(outer:List Env)(s:Shared)(H:Hp)(E:XK):Cx where
 prog:=P
 w:=w
 K:=K
 mg:=mg
 base:=base
 A:=A.deeper (envOfC qual scope s.heap.objs.size f cd)
 N:=N
 s₀:=s
 H₀:=H
 env:=envOfC qual scope s.heap.objs.size f cd
 outer:=outer
 stack:=envOfC qual scope s.heap.objs.size f cd::outer
 ex:=[]
 calm:=true
 fn:=λ_=>true
 pn:=[]
 xe:=λe s'=>wpAny (model P w) (A.deeper (envOfC qual scope s.heap.objs.size f cd)) (leaving (envOfC qual scope s.heap.objs.size f cd) e) (λ_ s''=>CX outer H s E e s'') (λe' s''=>CX outer H s E e' s'') s'
theorem Th{a:Scope}{n:Nat}{x:Str}(h:a.names.lookup x=some .cell):∃c,(cellsFrom n a.names []).lookup x=some c:=by
 have q:=W.cellsFrom_some a.names n [] (.inl h);exact Option.isSome_iff_exists.mp q
theorem WC{CX:CXT}{P:Program}{w:World}{K:W.Frag}{mg:Str->Option Value}{m:Heap}{N C:List Str}{j:Str}{d:Scope}{f:Addr}{M:Value}{A:Around}{g:List Env}{s O:Shared}{H:Hp}{E:XK}{us:List Value}{vs:List V}
  (S:Au N C d) (U:A.handled=none) (o:UC P w K mg m A g s H) (Z:vs.length=C.length) (r:AO vs us)
  (x:InCallC s s.heap.objs.size (bindL (envOfC j d s.heap.objs.size f M).kindOf (C.zip us) λ_=>none) (cellsFrom (s.heap.objs.size+1) d.names []) (bindC (envOfC j d s.heap.objs.size f M).kindOf (C.zip us) λ_=>none) O) :
  Inv (MG CX P w K mg m N j d f M A g s H E) [] (LZ N vs) H O:=by
 have T:C.length<=N.length:=by have:=K5 List.length S.pre;rw[L8]at this;lia
 obtain⟨G,tk,rfl,Q⟩:=x.done;have B:∀b:Addr,b∉(MG CX P w K mg m N j d f M A g s H E).ex:=λb z=>absurd (show b∈([]:List Addr)from z) A6;refine⟨⟨o.mod,S.kind,rfl,rfl,C1 _,λy z c G l=>?_,λy t=>?_,λy c _ h=>?_,λ_=>U,Around.frames_deeper o.frames,.inr ⟨rfl,rfl⟩,λb z=>absurd z (B b),o.bs,o.bsz,λb _ _=>B b,λb z=>absurd z (B b),o.funs,o.frf⟩,
  rfl,o.bare,Un.kept Q,⟨_,x.toInCall.ns,λi y v G l h3=>?_⟩,λy c h=>⟨_,x.cell y c h⟩,o.hok.fresh (C1 _),λy c h=>?_,λp hp=>absurd (show p∈([]:List (Addr×Obj))from hp) A6,o.hok.kept Q,?_⟩
 ·exact name_of_addr x.apart (A0h G) (A0h l)
 ·have t:d.names.lookup y=some .cell\/d.names.lookup y=some .free:=t;rcases t with t|t
  ·exact Th t
  ·exact absurd rfl (S.nofree _ (A0h t))
 ·exact Z2 (x.above y c (A0h h))
 ·have I:i<vs.length:=by
   unfold LZ at l;by_cases I:i<vs.length
   ·exact I
   ·rw[F3 (by simpa using I)]at l;rw[V1]at l;split at l<;>cases l
  have X:vs[i]?=some v:=by
   unfold LZ at l;rw[M9 (by simpa using I),B8]at l;cases e:vs[i]? with
   |none=>rw[e]at l;cases l
   |some a=>rw[e]at l;cases l;rfl
  obtain⟨u,R,Y⟩:=r.get X;have hp:C[i]?=some y:=by
   rw[<-S.pre,U3 A0];exact G
  have D:C.Nodup:=by rw[<-S.pre];exact S.nd.sublist (List.take_sublist _ _)
  refine⟨u,Y,?_⟩;rcases S.par y (D7 hp)with k|k
  ·exact .inl ⟨k,Qz D hp R k⟩
  ·obtain⟨c,e⟩:=Th (n:=s.heap.objs.size+1) k;refine .inr ⟨.inl k,c,e,?_⟩;have q:=x.cell y c e;rw[QB D hp R (by show d.names.lookup y≠_;rw[k];decide)]at q;exact q
 ·exact o.hok.fresh (Z2 (x.above y c (A0h h)))
 ·unfold LZ;show _=N.length;rw[C4,B5,O3];lia
theorem fn_of{CX:CXT}{P:Program}{w:World}{K:W.Frag}{mg:Str->Option Value}{g:Heap}{k:Nat}{f:Addr}{name d:Str}{i:Arguments}{j:List Stmt}{a:Scope}{X kV B Y h ct oc:Value}{an od:Option Addr}
  {M:Array (Option Value)} {N G:List Str} {sp:Sp} (lk:K.lookup f=some ⟨oc,od,.func (W.fnOf name d i j a X kV B Y an h ct),M⟩) (R:W.codeIn K h d=true) (S:Au N G a)
  (len:∀vs H Q E,sp vs H Q E->vs.length=G.length)
  (p:∀(A:Around)(c:List Env)(s:Shared)(H:Hp)(vs:List V)(Q:VK)(E:XK),Df k (A.deeper (envOfC d a s.heap.objs.size f h))->sp vs H Q E ->
   ∃t,PSs (MG CX P w K mg g N d a f h A c s H E) j t/\t {nx:=λ_ l=>Q .non l,rt:=Q} (LZ N vs) H) :
  AL P w K mg g CX (k+1) f (W.fnOf name d i j a X kV B Y an h ct) G sp:=by
 refine⟨len,λA c s H Z us vs Q E U C hb r D=>?_⟩;have hl:=len _ _ _ _ D;have KX:K.In s.heap:=C.mod.kin.keeps λb o e=>(C.bs b o e).1;have T:s.heap.NoLimit:=C.mod.nolimit.keeps λb o e=>(C.bs b o e).1;have m:∀y∈G.zip us,a.names.lookup y.1=some .local\/(a.names.lookup y.1=some .cell/\((cellsFrom (s.heap.objs.size+1) a.names []).lookup y.1).isSome=true):=λ⟨n,v⟩ hy=>by
  rcases S.par n (List.of_mem_zip hy).1 with q|q
  ·exact .inl q
  ·exact .inr ⟨q,W.cellsFrom_some _ _ _ (.inl q)⟩
 refine codeAny_call_function U.depth (KX _ _ lk) rfl S.co S.gen rfl (W.codeRec_of KX R) (hb _ _ _ _ ?_);refine wpAny_newFunctionEnv_cells S.kind m λaa he s1 x=>?_;subst he;refine⟨T.keeps x.toInCall.keep,codeAny_func ?_⟩;obtain⟨t,ht,hq⟩:=p A c s H vs Q E (U.deeper _) D;have I:Inv (MG CX P w K mg g N d a f h A c s H E) [] (LZ N vs) H s1:=WC S U.hd C hl r x;refine A0f (ht [] s1 (LZ N vs) H _ I hq) (λfl s' z=>?_) λe s' z=>z;have fin:∀{σ':St}{l:Hp}{v:V}{u:Value},Inv (MG CX P w K mg g N d a f h A c s H E) [] σ' l s'->Be v u->Q v l->CE c P w H s Q u s' :=
  λ{σ' l v u} J O q=>⟨v,l,J.os,J.bare,J.base,J.hok,O,q⟩
 cases fl with
 |ret u =>
  obtain⟨v,σ',l,J,O,q⟩:=z;exact fin J O q
 |next =>
  obtain⟨σ',l,J,q⟩:=z;exact fin (v:=V.non) (u:=Value.none) J rfl q
 |brk =>
  obtain⟨_,_,_,q⟩:=z;exact False.elim q
 |cont =>
  obtain⟨_,_,_,q⟩:=z;exact False.elim q
section
variable{X:Cx}{x:Str}{p pos:Pos}{e:Expr}{es:List Expr}{t:TA}{id T:String}{r:List V->Hp->VK->Prop}
def tCB(r:List V->Hp->VK->Prop)(t:TA):TE:=fun σ H Q=>t σ H λvs H1=>r vs H1 Q
theorem AQ(i:Ge X (.builtin id) r)(n:Gl X x)(k:X.mg x=none)(l:bootBuiltins x=some (.builtin id))(f:PA X (e::es) t)(q:x≠"__name__" := by decide)(b:(x==("__debug__" : Str))=false:=by decide)
  (o:starEach (e::es) X.env=(false,eval e X.env)::starEach es X.env:=by rfl) (a:(backTo pos (starEach es X.env)).any (·.1)=false:=by rfl):PE X (.Call (.Name x p) (e::es) [] pos) (tCB r t):=by
 intro pins s σ H Q I h;refine A1g (LV I n k l ?_ q b);exact PyProof.Rows.callWith_builtin1 (thn (f pos pins s σ H _ I h) λus c ⟨vs,m,d,j,g⟩=>i pins c σ m vs us Q d j g) o a
theorem Bp(i:Ge X (.type T) r)(n:Gl X x)(k:X.mg x=none)(l:bootBuiltins x=some (.type T))(f:PA X (e::es) t)(q:x≠"__name__" := by decide)(b:(x==("__debug__" : Str))=false:=by decide)
  (o:starEach (e::es) X.env=(false,eval e X.env)::starEach es X.env:=by rfl) (a:(backTo pos (starEach es X.env)).any (·.1)=false:=by rfl):PE X (.Call (.Name x p) (e::es) [] pos) (tCB r t):=by
 intro pins s σ H Q I h;refine A1g (LV I n k l ?_ q b);exact A1a (thn (f pos pins s σ H _ I h) λus c ⟨vs,m,d,j,g⟩=>i pins c σ m vs us Q d j g) o a
end
end L2
namespace HT
open PySem PyProof.Rows
section
open PySem.SeqAt
open PySem.AutoSeq1 (wpAny_loadPart')
open PySem.MeetsSeq PySem.MeetsSeq2 PySem.MeetsSeq3
end
section
variable{prog:Program}{w:World}{A:Around}{E:Value->Shared->Prop}{s:Shared}
def sIx(n d:Nat):Option Int->Nat
 |none=>d
 |some v=>if v<0 then(v+(n:Int)).toNat else min v.toNat n
end
end HT
namespace L2
open PySem PySem.Spec PyProof.Rows
abbrev TO:=St->Hp->(Option Int->Hp->Prop)->Prop
def PO(X:Cx)(e:Option Expr)(t:TO):Prop :=
 ∀(pins:List (Addr×Obj))(s:Shared)(σ:St)(H:Hp)(Q:Option Int->Hp->Prop),Inv X pins σ H s->t σ H Q ->
  wpAny (model X.prog X.w) X.A (evalPart e X.env) (λu s'=>∃o H',Inv X pins σ H' s'/\IsPart u o/\Q o H') X.xe s
def tNoPart:TO:=λ_ H Q=>Q none H
def tPart(t:TE):TO:=fun σ H Q=>t σ H λx H1=>∃i,x=.int i/\Q (some i) H1
section
variable{X:Cx}{e:Expr}{te:TE}{lo hi:Option Expr}{tl th:TO}{pos p2:Pos}
theorem po_none:PO X none tNoPart:=by
 intro pins s σ H Q I h;rw[evalPart_none];exact K3 ⟨none,H,I,.none,h⟩
theorem QX(h:PE X e te):PO X (some e) (tPart te):=by
 intro pins s σ H Q I d;rw[evalPart_some];refine thn (h pins s σ H _ I d) λu g ⟨x,f,a,c,b⟩=>?_;obtain⟨i,rfl,q⟩:=b;obtain⟨t,rfl⟩:=c;exact⟨some i,f,a,.int i t,q⟩
def SlR(X:Cx)(r:V->Option Int->Option Int->Hp->VK->Prop):Prop :=
 ∀(pins:List (Addr×Obj))(s:Shared)(σ:St)(H:Hp)(x:V)(v vl vu:Value)(lo hi:Option Int)(sl:Addr)(Q:VK),Inv X pins σ H s->Be x v->s.heap.IsSliceOf sl vl vu .none->IsPart vl lo->IsPart vu hi->r x lo hi H Q ->
  ∃T id,typeLookup (.type T) "__getitem__" = pure (some (.builtin id))/\s.TypeIs v T/\wpAny (model X.prog X.w) X.A (getItem v (.ref sl)) (EP X pins σ Q) X.xe s
def tSl(r:V->Option Int->Option Int->Hp->VK->Prop)(te:TE)(tl th:TO):TE:=fun σ H Q=>te σ H λx H1=>tl σ H1 λl H2=>th σ H2 λu H3=>r x l u H3 Q
theorem Sz{r:V->Option Int->Option Int->Hp->VK->Prop}(K:SlR X r)(E:PE X e te)(z:PO X lo tl)(o:PO X hi th):PE X (.Subscript e (.Slice lo hi none p2) pos) (tSl r te tl th):=by
 intro pins s σ H Q I h;refine Subscript_ (thn (E pins s σ H _ I h) λv n ⟨x,k,p,i,G⟩=>?_);refine wpAny_Slice (thn (z pins n σ k _ p G) λc m ⟨l,j,B,pl,C⟩=>thn (o pins m σ j _ B C) λd a ⟨u,f,O,t,M⟩=>?_);rw[evalPart_none];refine K3 ?_;have y:Inv X pins σ f {a with heap:=a.heap.push {cls:=.type "slice",data:=.fields #[c,d,.none]} }:=O.kept (t':=a.toks) λb P q=>C0 _ q;obtain⟨T,id,g,N,D⟩:=K pins {a with heap:=a.heap.push {cls:=.type "slice",data:=.fields #[c,d,.none]} } σ f x v c d l u a.heap.objs.size Q y i (Heap.IsSliceOf.new ..) pl t M;show wpAny (model X.prog X.w) X.A (subscriptTail e (.Slice lo hi none p2) v (.ref a.heap.objs.size)) (EP X pins σ Q) X.xe {a with heap:=a.heap.push {cls:=.type "slice",data:=.fields #[c,d,.none]} };exact tail_any (ops:=[.ref a.heap.objs.size,v]) N g D (by with_unfolding_all rfl)
def Ut(xs:List V)(lo hi:Option Int):List V:=(xs.drop (HT.sIx xs.length 0 lo)).take (HT.sIx xs.length xs.length hi-HT.sIx xs.length 0 lo)
theorem Tc(xs:List V)(lo hi:Option Int):(Ut xs lo hi).length<=xs.length:=by
 unfold Ut;rw[L8,List.length_drop];lia
end
def ixN(n:Nat)(i:Int):Option Nat:=if 0<=i then(if i<n then some i.toNat else none)else if -(n:Int)<=i then some (i+n).toNat else none
def atI{α:Type}(xs:List α)(i:Int):Option α:=(ixN xs.length i).bind λj=>xs[j]?
theorem Vs{n:Nat}{i:Int}{j:Nat}(h:ixN n i=some j):seqIndex? i n=some j/\j<n/\-(n:Int)<=i/\i<n:=by
 unfold ixN at h;by_cases b:0<=i
 ·rw[Z9 b]at h;by_cases a:i<n
  ·rw[Z9 a]at h;have e:i.toNat=j:=X5 h;exact⟨by rw[seqIndex_of b a,e],by lia,by lia,a⟩
  ·rw[Z6 a]at h;cases h
 ·rw[Z6 b]at h;by_cases a:-(n:Int)<=i
  ·rw[Z9 a]at h;have e:(i+n).toNat=j:=X5 h;exact⟨by rw[seqIndex_neg A0 a,e],by lia,a,by lia⟩
  ·rw[Z6 a]at h;cases h
theorem VI{α:Type}{xs:List α}{i:Int}{v:α}(h:atI xs i=some v):∃j,seqIndex? i xs.length=some j/\xs[j]?=some v/\j<xs.length/\-(xs.length:Int)<=i/\i<xs.length:=by
 unfold atI at h;cases e:ixN xs.length i with
 |none=>rw[e]at h;cases h
 |some j =>
  rw[e]at h;obtain⟨c,a,b,d⟩:=Vs e;exact⟨j,c,h,a,b,d⟩
theorem Ai{α:Type}{xs:List α}{j:Nat}{v:α}(h:xs[j]?=some v):atI xs (j:Int)=some v:=by
 have a:j<xs.length:=(B6.mp h).1;have e:ixN xs.length (j:Int)=some j:=by
  unfold ixN;rw[Z9 A0,Z9 A0];simp
 unfold atI;rw[e];exact h
def PlainIx(b:Expr):Prop:=∀o i,subscripted b false o i=operate [o,i] (getItem o i)
def IxR(X:Cx)(r:R2):Prop :=
 ∀(value slice:Expr)(pins:List (Addr×Obj))(s:Shared)(σ:St)(H:Hp)(x y:V)(v u:Value)(Q:VK),Inv X pins σ H s->Be x v->Be y u->r x y H Q ->
  subscripted slice false v u=operate [v,u] (getItem v u)->wpAny (model X.prog X.w) X.A (subscriptTail value slice v u) (EP X pins σ Q) X.xe s
def MtR(X:Cx)(id:String)(r:V->List V->Hp->VK->Prop):Prop :=
 ∀(pins:List (Addr×Obj))(s:Shared)(σ:St)(H:Hp)(x:V)(xs:List V)(v:Value)(us:List Value)(Q:VK),Inv X pins σ H s->Be x v->AO xs us->r x xs H Q ->
  wpAny (model X.prog X.w) X.A (call (.builtin id) (v::us)) (EP X pins σ Q) X.xe s
section
variable{X:Cx}{a b:Expr}{ta tb:TE}{pos:Pos}
theorem Aj{r:R2}(g:IxR X r)(d:PE X a ta)(e:PE X b tb)(l:PlainIx b):PE X (.Subscript a b pos) (tOp r ta tb):=by
 intro pins s σ H Q I h;exact Subscript_ (binT d e I h λv u c x y j k i f q=>g a b pins c σ j x y v u Q k i f q (l _ _))
def rIxL(K:W.Frag):R2:=λx y H Q=>∃p xs i v,x=.ref p/\y=.int i/\SqL K H p xs/\atI xs i=some v/\Q v H
def Lj(K:W.Frag):R2:=λx y H Q=>∃p xs i v,x=.ref p/\y=.int i/\SqT K H p xs/\atI xs i=some v/\Q v H
theorem Av:IxR X (rIxL X.K):=by
 intro k f pins s σ H x y v u Q I B D h m;obtain⟨p,xs,i,z,rfl,rfl,A,G,q⟩:=h;cases B;obtain⟨t,rfl⟩:=D;obtain⟨g,r,pl,N⟩:=I.list A;obtain⟨j,c,M,O,C,o⟩:=VI G;obtain⟨w,l,d⟩:=r.get M;have E:=r.length;have P:=OY;have fin:EP X pins σ Q w s:=⟨z,H,I,d,q⟩
 by_cases n:0<=i
 ·have e:i.toNat=j:=by
   rw[seqIndex_of n o]at c;exact X5 c
  exact item_listR pl.isList n A0 (by rw[e];simpa using l) fin m
 ·have e:(i+(g.toArray.size:Int)).toNat=j:=by
   rw[seqIndex_neg A0 C]at c;rw[D4,<-E];exact X5 c
  exact subscriptTail_builtinR (x:=w) pl.isList.typeIs slot_list_getitem.lookup
   (wpAny_getItem_list_neg (Q:=λr s'=>r=w/\EP X pins σ Q r s') pl.isList A0 (by rw[D4]<;>lia) A0 (by rw[e];simpa using l) ⟨rfl,fin⟩) m
theorem Ak:IxR X (Lj X.K):=by
 intro e d pins s σ H x y v u Q I g f h B;obtain⟨p,xs,i,z,rfl,rfl,A,C,q⟩:=h;cases g;obtain⟨t,rfl⟩:=f;obtain⟨m,r,pl,M⟩:=I.tuple A;obtain⟨j,k,n,G,N,D⟩:=VI C;obtain⟨w,o,c⟩:=r.get n;have l:=r.length;have E:=OY;have fin:EP X pins σ Q w s:=⟨z,H,I,c,q⟩
 exact subscriptTail_builtinR (x:=w) pl.typeIs slot_tuple_getitem.lookup
  (getItem_tuple (j:=j) (Q:=λr s'=>r=w/\EP X pins σ Q r s') pl A0 A0 (by rw[D4,<-l];exact k) (by simpa using o) ⟨rfl,fin⟩) B
theorem Ue(c:List Value)(n j:Nat)(u:Value):Obj.mapSeq (·.setIfInBounds j u) {cls:=.type "list",data:=.seq c.toArray n}={cls:=.type "list",data:=.seq (c.set j u).toArray n}:=by
 simp[Obj.mapSeq]
theorem Inv.lst{pins:List (Addr×Obj)}{σ:St}{H:Hp}{s:Shared}{p:Addr}{xs:List V}(I:Inv X pins σ H s)(h:H p=some (.lst xs)) :
  ∃(c:List Value)(n:Nat),AO xs c/\s.heap.get? p=some {cls:=.type "list",data:=.seq c.toArray n}/\xs.length<=sizeLine:=by
 obtain⟨z,c,n,r,e⟩:=I.hok p _ h;exact⟨c,n,r,e,z⟩
theorem Inv.lstUpd{pins:List (Addr×Obj)}{σ:St}{H:Hp}{s:Shared}{p:Addr}{xs ys:List V}{c its':List Value}{n d:Nat}{f:Obj->Obj}(I:Inv X pins σ H s)(h:H p=some (.lst xs))
  (j:s.heap.get? p=some {cls:=.type "list",data:=.seq c.toArray n}) (g:f {cls:=.type "list",data:=.seq c.toArray n}={cls:=.type "list",data:=.seq its'.toArray d}) (r:AO ys its') (k:ys.length<=sizeLine) (t:Nat) :
  Inv X pins σ (upd H p (.lst ys)) {s with heap:=s.heap.update p f,toks:=t}:=by
 have e:(s.heap.update p f).get? p=some {cls:=.type "list",data:=.seq its'.toArray d}:=by
  rw[R6 f j (by rw[g]<;>rfl),g]
 refine I.write (x:=p) (e:=p) (by rw[h];trivial) (.inl rfl) (λb u i q=>(O2 _ _ (X7 i)).trans q) ⟨_,e⟩ ?_;exact⟨k,its',d,r,e⟩
def rSetL:V->V->V->Hp->(Hp->Prop)->Prop:=λo i v H Q=>∃p xs k j,o=.ref p/\i=.int k/\H p=some (.lst xs)/\ixN xs.length k=some j/\Q (upd H p (.lst (xs.set j v)))
theorem Si:PSet X rSetL:=by
 intro pins s σ H o i v D G u Q I y z A h;obtain⟨p,xs,k,j,rfl,rfl,hp,C,q⟩:=h;cases y;obtain⟨t,rfl⟩:=z;obtain⟨c,n,r,g,B⟩:=I.lst hp;obtain⟨d,K,m,x⟩:=Vs C;have e:=r.length;have E:=OY;have w:Inv X pins σ (upd H p (.lst (xs.set j v))) {s with heap:=s.heap.update p (Obj.mapSeq (·.setIfInBounds j u))} :=
  I.lstUpd hp g (Ue c n j u) (r.set A j) (by rw[List.length_set];exact B) s.toks
 by_cases l:0<=k
 ·have f:k.toNat=j:=by
   rw[seqIndex_of l x]at d;exact X5 d
  exact W.ki_setAt g l A0 (by rw[D4,<-e];exact x) (by rw[f];exact⟨_,w,q⟩)
 ·have f:(k+(c.toArray.size:Int)).toNat=j:=by
   rw[seqIndex_neg A0 m]at d;rw[D4,<-e];exact X5 d
  exact W.ki_setBack g A0 (by rw[D4,<-e];exact m) A0 (by rw[f];exact⟨_,w,q⟩)
theorem QT(lo c:Option Int)(n:Nat):(sliceBounds lo c none n).1=((HT.sIx n 0 lo:Nat):Int)/\(sliceBounds lo c none n).2.1=((HT.sIx n n c:Nat):Int)/\(sliceBounds lo c none n).2.2=1:=by
 refine⟨?_,?_,rfl⟩
 ·cases lo with
  |none=>simp[sliceBounds,HT.sIx]
  |some i =>
   simp only[sliceBounds,HT.sIx,Option.getD_none,show(1:Int) > 0 by decide,A5a];by_cases h:i<0
   ·simp only[h,A5a]<;>lia
   ·simp only[h,if_false]<;>lia
 ·cases c with
  |none=>simp[sliceBounds,HT.sIx]
  |some i =>
   simp only[sliceBounds,HT.sIx,Option.getD_none,show(1:Int) > 0 by decide,A5a];by_cases h:i<0
   ·simp only[h,A5a]<;>lia
   ·simp only[h,if_false]<;>lia
theorem Pq(c:List Value)(lo d:Option Int):slicePick c.toArray lo d none=((c.drop (HT.sIx c.length 0 lo)).take (HT.sIx c.length c.length d-HT.sIx c.length 0 lo)).toArray:=by
 obtain⟨e,f,g⟩:=QT lo d c.toArray.size;unfold slicePick;rw[e,f,g];simp only[sliceRange_one,pick_run,D4]<;>rfl
def rSlL(K:W.Frag):V->Option Int->Option Int->Hp->VK->Prop:=λx lo hi H Q=>∃a xs,x=.ref a/\SqL K H a xs/\∀p,H p=none->Q (.ref p) (upd H p (.lst (Ut xs lo hi)))
theorem UY:SlR X (rSlL X.K):=by
 intro pins s σ H x v p t lo d n Q I i f pl g h;obtain⟨a,xs,rfl,k,q⟩:=h;cases i;obtain⟨j,r,e,l⟩:=I.list k;have c:=r.length;refine⟨"list",_,slot_list_getitem.lookup,e.isList.typeIs,?_⟩;refine wpAny_getItem_list_slice e.isList f pl g .none A6 ?_ (by rw[D4]<;>lia);rw[Pq,<-c];refine⟨.ref s.heap.objs.size,_,I.laid (t':=s.toks) (o:=.lst (Ut xs lo d)) (λb m q=>C0 _ q) (C1 _) ?_,rfl,q _ (I.hok.fresh (C1 _))⟩;exact⟨D0 (Tc xs lo d) l,_,0,(r.drop (HT.sIx xs.length 0 lo)).take (HT.sIx xs.length xs.length d-HT.sIx xs.length 0 lo),D5 _ rfl⟩
def Gc:V->Bool
 |.non=>true
 |.bl _=>true
 |.int _=>true
 |.str _=>true
 |_=>false
def eqV:V->V->Bool
 |.non,.non=>true
 |.bl a,.bl b=>a==b
 |.bl a,.int b=>(if a then 1 else 0)==b
 |.int a,.bl b=>a==(if b then 1 else 0)
 |.int a,.int b=>a==b
 |.str a,.str b=>a==b
 |_,_=>false
theorem eqAt_V{A:Around}{s:Shared}{y x:V}{u v:Value}(d:Be y u)(c:Be x v)(e:Gc y=true)(fx:Gc x=true):SeqAt.EqAt A s u v (eqV y x):=by
 cases y with
 |non =>
  cases d;cases x with
  |non=>cases c;exact SeqAt.EqAt.same _
  |bl b=>cases c;exact SeqAt.EqAt.none_bool b
  |int b=>obtain⟨t,rfl⟩:=c;exact SeqAt.EqAt.none_int b t
  |str b=>obtain⟨t,rfl⟩:=c;exact SeqAt.EqAt.none_str b t
  |_=>exact absurd (show false=true from fx) D3
 |bl a =>
  cases d;cases x with
  |non=>cases c;exact SeqAt.EqAt.bool_none a
  |bl b=>cases c;exact SeqAt.EqAt.bool_bool a b
  |int b=>obtain⟨t,rfl⟩:=c;exact SeqAt.EqAt.bool_int a b t
  |str b=>obtain⟨t,rfl⟩:=c;exact SeqAt.EqAt.bool_str a b t
  |_=>exact absurd (show false=true from fx) D3
 |int a =>
  obtain⟨t',rfl⟩:=d;cases x with
  |non=>cases c;exact SeqAt.EqAt.int_none a t'
  |bl b=>cases c;exact SeqAt.EqAt.int_bool a t' b
  |int b=>obtain⟨t,rfl⟩:=c;exact SeqAt.EqAt.int_int a t' b t
  |str b=>obtain⟨t,rfl⟩:=c;exact SeqAt.EqAt.int_str a t' b t
  |_=>exact absurd (show false=true from fx) D3
 |str a =>
  obtain⟨t',rfl⟩:=d;cases x with
  |non=>cases c;exact SeqAt.EqAt.str_none a t'
  |bl b=>cases c;exact SeqAt.EqAt.str_bool a t' b
  |int b=>obtain⟨t,rfl⟩:=c;exact SeqAt.EqAt.str_int a t' b t
  |str b=>obtain⟨t,rfl⟩:=c;exact SeqAt.EqAt.str_str a t' b t
  |_=>exact absurd (show false=true from fx) D3
 |_=>exact absurd (show false=true from e) D3
def eqU(x:V)(u:Value):Bool:=match u with
 |.none=>eqV .non x
 |.bool b=>eqV (.bl b) x
 |.int i _=>eqV (.int i) x
 |.str z _=>eqV (.str z) x
 |_=>false
theorem Us{x y:V}{u:Value}(r:Be y u)(f:Gc y=true):eqU x u=eqV y x:=by
 cases y with
 |non=>cases r;rfl
 |bl b=>cases r;rfl
 |int i=>obtain⟨t,rfl⟩:=r;rfl
 |str z=>obtain⟨t,rfl⟩:=r;rfl
 |_=>exact absurd (show false=true from f) D3
theorem RJ{x:V}:∀{xs:List V}{us:List Value},AO xs us->xs.all Gc=true->us.any (eqU x)=xs.any λy=>eqV y x
 |_,_,.nil,_=>rfl
 |y::xs,u::us,.cons r t,f=>by
  rw[List.all_cons,O6]at f;rw[U4,U4,Us r f.1,RJ t f.2]
theorem Mx{A:Around}{s:Shared}{x:V}{v:Value}(d:Be x v)(fx:Gc x=true):∀{xs:List V}{us:List Value},AO xs us->xs.all Gc=true->∀u∈us,SeqAt.EqAt A s u v (eqU x u)
 |_,_,.nil,_=>λu c=>by cases c
 |y::xs,u::us,.cons r t,f=>λe c=>by
  rw[List.all_cons,O6]at f;rcases B7.mp c with rfl|c
  ·rw[Us r f.1];exact eqAt_V r d f.1 fx
  ·exact Mx d fx t f.2 e c
def inV(x:V)(xs:List V):Bool:=xs.any λy=>eqV y x
def rIn(K:W.Frag)(neg:Bool):R2:=λx y H Q=>∃p xs,y=.ref p/\(SqL K H p xs\/SqT K H p xs)/\Gc x=true/\xs.all Gc=true/\Q (.bl (if neg then !inV x xs else inV x xs)) H
theorem Wg:OpR X (compareOp .In) (rIn X.K false):=by
 intro pins s σ H x y v u Q I f g h;obtain⟨p,xs,rfl,d,fx,fs,q⟩:=h;cases g;rcases d with d|d
 ·obtain⟨c,r,pl,i⟩:=I.list d;refine SeqAt.in_listAt (eqU x) pl.isList (λw e=>Mx f fx r fs w (by simpa using e)) ⟨.bl _,H,I,rfl,?_⟩;rw[show c.toArray.any (eqU x)=c.any (eqU x) by simp,RJ r fs];exact q
 ·obtain⟨c,r,pl,i⟩:=I.tuple d;refine SeqAt.in_tupleAt (eqU x) pl (λw e=>Mx f fx r fs w (by simpa using e)) ⟨.bl _,H,I,rfl,?_⟩;rw[show c.toArray.any (eqU x)=c.any (eqU x) by simp,RJ r fs];exact q
theorem Ck:Ge X (.builtin "len") (λxs H Q=>∃p ys,xs=[.ref p]/\(SqL X.K H p ys\/SqT X.K H p ys)/\Q (.int ys.length) H):=by
 intro pins s σ H xs us Q I r h;obtain⟨p,ys,rfl,d,q⟩:=h;obtain⟨u,rfl,g⟩:=RS r;cases g;have j:=OY;rcases d with d|d
 ·obtain⟨f,e,pl,i⟩:=I.list d;have c:=e.length;exact Calls.call_len_list pl.isList (by simp only[D4]<;>lia) ⟨.int ys.length,H,I.tok _,⟨s.toks+1,by rw[D4,c]⟩,q⟩
 ·obtain⟨f,e,pl,i⟩:=I.tuple d;have c:=e.length;exact len_tuple pl (by simp only[D4]<;>lia) ⟨.int ys.length,H,I.tok _,⟨s.toks+1,by rw[D4,c]⟩,q⟩
theorem IZ:Ge X (.builtin "len") (λxs H Q=>∃z,xs=[.str z]/\z.length<=sizeLine/\Q (.int z.length) H):=by
 intro pins s σ H xs us Q I r h;obtain⟨z,rfl,c,q⟩:=h;obtain⟨u,rfl,t,rfl⟩:=RS r;have d:=OY;exact len_str A0 ⟨.int z.length,H,I.tok _,⟨_,rfl⟩,q⟩
theorem RE:Ge X (.type "list") (λxs H Q=>∃p ys,xs=[.ref p]/\(SqL X.K H p ys\/SqT X.K H p ys)/\∀l,H l=none->Q (.ref l) (upd H l (.lst ys))):=by
 intro pins s σ H xs us Q I r h;obtain⟨p,ys,rfl,i,q⟩:=h;obtain⟨u,rfl,v⟩:=RS r;cases v;have fin:∀(c:List Value),AO ys c->ys.length<=sizeLine->∀(h':Heap)(f:Nat),(∀b o',s.heap.get? b=some o'->h'.get? b=some o') ->
   h'.get? s.heap.objs.size=some {cls:=.type "list",dict:=none,data:=.seq c.toArray f,slots:=#[]}->EP X pins σ Q (.ref s.heap.objs.size) {s with heap:=h'}:=λc d j h' f kp e =>
  ⟨.ref s.heap.objs.size,_,I.laid (t':=s.toks) kp (C1 _) (show BW X.prog X.w _ h' _ (.lst ys)from⟨j,c,f,d,e⟩),rfl,q _ (I.hok.fresh (C1 _))⟩
 rcases i with i|i
 ·obtain⟨c,d,pl,j⟩:=I.list i;have g:=d.length;obtain⟨o,t,k,n,m⟩:=pl.isList;exact call_list_seq p (.inl rfl) t k m (λh' f kp e=>fin c d j h' f kp e) (by simp only[D4]<;>lia)
 ·obtain⟨c,d,pl,j⟩:=I.tuple i;have g:=d.length;obtain⟨o,t,k,n,m⟩:=pl;exact call_list_seq p (.inr rfl) t k m (λh' f kp e=>fin c d j h' f kp e) (by simp only[D4]<;>lia)
theorem BJ:Ge X (.type "tuple") (λxs H Q=>∃p ys,xs=[.ref p]/\((SqL X.K H p ys/\∀l,H l=none->Q (.ref l) (upd H l (.tup ys)))\/(SqT X.K H p ys/\Q (.ref p) H))):=by
 intro pins s σ H xs us Q I r h;obtain⟨p,ys,rfl,h⟩:=h;obtain⟨u,rfl,k⟩:=RS r;cases k;rcases h with ⟨f,q⟩|⟨f,q⟩
 ·obtain⟨c,d,pl,j⟩:=I.list f;have i:=d.length;refine call_tuple_list pl.isList (λh' kp=>?_) (by simp only[D4]<;>lia);have g:Inv X pins σ H {s with heap:=h'}:=I.kept (t':=s.toks) kp
  have m:Inv X pins σ (upd H h'.objs.size (.tup ys)) {s with heap:=h'.push {cls:=.type "tuple",data:=.seq c.toArray} } :=
   g.laid (t':=s.toks) (λb o e=>C0 _ e) (C1 _) (show BW X.prog X.w _ _ _ (.tup ys)from⟨j,c,d,IsTup.new _ _⟩)
  exact⟨.ref h'.objs.size,_,m,rfl,q _ (g.hok.fresh (C1 _))⟩
 ·obtain⟨c,d,pl,j⟩:=I.tuple f;exact call_tuple_same pl ⟨.ref p,H,I,rfl,q⟩
def tyV(K:W.Frag)(T:String)(x:V)(H:Hp):Prop:=match x with
 |.str _=>T="str"
 |.int _=>T="int"
 |.ref p=>(T="list" /\ ∃xs,SqL K H p xs)\/(T="tuple" /\ ∃o,K.lookup p=some o/\o.cls=.type "tuple" /\ o.dict=none) \/
   (T="dict" /\ ((∃kvs,H p=some (.dK kvs))\/∃kvs,H p=some (.dT kvs)))\/(T="set" /\ ∃S n,H p=some (.set S n))
 |_=>False
theorem tyV_is{pins:List (Addr×Obj)}{σ:St}{H:Hp}{s:Shared}{T:String}{x:V}{v:Value}(I:Inv X pins σ H s)(r:Be x v)(g:tyV X.K T x H) :
  s.TypeIs v T/\∀a,v=.ref a->∃l,s.heap.get? a=some l/\l.dict=none:=by
 cases x with
 |str z =>
  obtain⟨t,rfl⟩:=r;cases(show T="str" from g);exact⟨typeIs_str s z t,λ_ e=>nomatch e⟩
 |int i =>
  obtain⟨t,rfl⟩:=r;cases(show T="int" from g);exact⟨typeIs_int s i t,λ_ e=>nomatch e⟩
 |ref p =>
  cases r;rcases g with ⟨rfl,xs,u⟩|⟨rfl,o,d,m,k⟩|⟨rfl,d⟩|⟨rfl,S,n,d⟩
  ·obtain⟨q,_,pl,_⟩:=I.list u;refine⟨pl.isList.typeIs,λa e=>?_⟩;cases e;obtain⟨o,n,e,c,k,_⟩:=pl;exact⟨o,e,k⟩
  ·refine⟨⟨o,I.kIn p o d,m⟩,λa e=>?_⟩;cases e;exact⟨o,I.kIn _ o d,k⟩
  ·have z:∃o,s.heap.get? p=some o/\o.ExactDict:=by
    rcases d with ⟨h,d⟩|⟨h,d⟩
    ·obtain⟨_,_,_,_,o,_,_,e,f,_⟩:=I.hok p _ d;exact⟨o,e,f⟩
    ·obtain⟨_,_,_,_,o,_,_,e,f,_⟩:=I.hok p _ d;exact⟨o,e,f⟩
   obtain⟨o,e,f⟩:=z;refine⟨⟨o,e,f.1⟩,λa j=>?_⟩;cases j;exact⟨o,e,f.2.1⟩
  ·obtain⟨o,_,_,_,e,f,_⟩:=I.hok p _ d;refine⟨⟨o,e,f.1⟩,λa j=>?_⟩;cases j;exact⟨o,e,f.2.1⟩
 |_=>exact False.elim g
def tBM(K:W.Frag)(T:String)(r:V->List V->Hp->VK->Prop)(to:TE)(t:TA):TE:=fun σ H Q=>to σ H λx H1=>tyV K T x H1/\t σ H1 λxs H2=>r x xs H2 Q
variable{o e:Expr}{es:List Expr}{to:TE}{t:TA}{name:Str}{apos cpos:Pos}{T id:String}{r:V->List V->Hp->VK->Prop}
theorem DK(O:PlainAttrs T)(g:Slot T name id)(j:typeOf (.builtin id)=pure (.type "method_descriptor"))(y:MtR X id r)(q:PE X o to)(E:PA X (e::es) t)
  (d:attributeBase o name X.env (eval o X.env)=eval o X.env:=by rfl)
  (i:((backTo cpos (starEach (e::es) X.env)).all (λx=>!x.1) && (backToKw cpos (keywordEach [] X.env)).all (λx=>x.1.isSome)
   && decide ((e::es).length+([]:List Keyword).length+(if([]:List Keyword).isEmpty then 0 else 1)<30))=true:=by rfl)
  (f:(apos.endLine==cpos.line)=true:=by rfl) (B:starEach (e::es) X.env=(false,eval e X.env)::starEach es X.env:=by rfl) (c:(backTo cpos (starEach es X.env)).any (·.1)=false:=by rfl) :
  PE X (.Call (.Attribute o name apos) (e::es) [] cpos) (tBM X.K T r to t):=by
 intro pins s σ H Q I h;refine wpAny_Call_method_late d i f rfl (thn (q pins s σ H _ I h) λv w ⟨x,p,m,k,A,M⟩=>?_);obtain⟨z,N⟩:=tyV_is m k A;refine⟨T,id,O,g,j,z,N,?_⟩;have l:=E cpos pins w σ p _ m M;rw[B]at l⊢;refine Calls.callWith_builtin (by show(false || (backTo cpos (starEach es X.env)).any (·.1))=false;rw[c]<;>rfl) (A5f ?_);exact thn l λus u ⟨vs,n,C,G,D⟩=>y pins u σ n x vs v us Q C k G D
end
def MtM(X:Cx)(id:String)(r:V->List V->Hp->VK->Prop):Prop :=
 ∀(pins:List (Addr×Obj))(s:Shared)(σ:St)(H:Hp)(x:V)(xs:List V)(v:Value)(us:List Value)(Q:VK),Inv X pins σ H s->Be x v->AO xs us->r x xs H Q ->
  wpAny (model X.prog X.w) X.A (call (.builtin id) (v::us)) (EP X pins σ Q) X.xe s
theorem AO.one:∀{x:V}{us:List Value},AO [x] us->∃u,us=[u]/\Be x u
 |_,_,.cons r .nil=>⟨_,rfl,r⟩
theorem AO.two:∀{x y:V}{us:List Value},AO [x,y] us->∃u v,us=[u,v]/\Be x u/\Be y v:=by
 intro x y us h;cases h with
 |cons r t=>cases t with
  |cons q t=>cases t;exact⟨_,_,rfl,r,q⟩
theorem AO.rep{xs:List V}{us:List Value}(h:AO xs us):∀k:Nat,AO (List.replicate k xs).flatten (List.replicate k us).flatten
 |0=>.nil
 |k+1=>by
  rw[Q7,Q7,U1,U1];exact AO.append h (AO.rep h k)
theorem Qn(a:List Value):∀(k:Nat)(b:List Value),
  List.foldl (λc f=>c++f) b.toArray (List.replicate k a.toArray)=(b++(List.replicate k a).flatten).toArray
 |0,b=>by simp
 |k+1,b=>by
  have e:b.toArray++a.toArray=(b++a).toArray:=by simp
  have d:(b++a)++(List.replicate k a).flatten=b++(List.replicate (k+1) a).flatten:=by
   rw[Q7,U1,R7]
  rw[<-d,<-Qn a k (b++a),<-e,Q7,S3]
section
variable{X:Cx}{pins:List (Addr×Obj)}{σ:St}{H:Hp}{s:Shared}{l b:Addr}{xs ys zs:List V}
theorem Inv.lset{a its':List Value}{n:Nat}{f:Array Value->Array Value}{t':Nat}(I:Inv X pins σ H s)(g:H l=some (.lst xs))
  (e:s.heap.get? l=some {cls:=.type "list",data:=.seq a.toArray n}) (j:f a.toArray=its'.toArray) (d:AO ys its') (i:ys.length<=sizeLine) :
  Inv X pins σ (upd H l (.lst ys)) {s with heap:=s.heap.update l (Obj.mapSeq f),toks:=t'}:=by
 have q:=PySem.IsL.update e f;rw[j]at q;refine I.write (x:=l) (e:=l) (by rw[g];exact trivial) (.inl rfl) (λk u c h=>(O2 s.heap (Obj.mapSeq f) (X7 c)).trans h) ⟨_,q⟩ ?_;exact⟨i,its',_,d,q⟩
theorem Inv.lnew{a:List Value}{t':Nat}(I:Inv X pins σ H s)(d:AO ys a)(c:ys.length<=sizeLine) :
  Inv X pins σ (upd H s.heap.objs.size (.lst ys)) {s with heap:=s.heap.push {cls:=.type "list",data:=.seq a.toArray},toks:=t'} :=
 I.laid (λ_ _ q=>C0 _ q) (C1 _) ⟨c,a,0,d,D5 _ rfl⟩
theorem Inv.fresh(I:Inv X pins σ H s):H s.heap.objs.size=none:=I.hok.fresh (C1 _)
theorem Inv.lstM(I:Inv X pins σ H s)(c:H l=some (.lst xs)):xs.length<=sizeLine/\∃(a:List Value)(n:Nat),AO xs a/\xs.length=a.length/\s.heap.get? l=some {cls:=.type "list",data:=.seq a.toArray n}:=by
 obtain⟨z,a,n,r,e⟩:=I.hok l _ c;exact⟨z,a,n,r,r.length,e⟩
theorem Zi{n:Nat}(h:n<=sizeLine):Builtin.List.listTooLong n=false:=by
 unfold Builtin.List.listTooLong;exact Z8 A0
end
section
variable{X:Cx}
def Vd:V->List V->Hp->VK->Prop:=λx vs H Q=>∃l xs y,x=.ref l/\vs=[y]/\H l=some (.lst xs)/\xs.length<sizeLine/\Q .non (upd H l (.lst (xs++[y])))
theorem BS:MtM X "list.append" Vd:=by
 intro pins s σ H x vs v us Q I d f h;obtain⟨l,xs,y,rfl,rfl,b,i,q⟩:=h;cases d;obtain⟨u,rfl,c⟩:=f.one;obtain⟨z,a,n,r,g,e⟩:=I.lstM b;refine A2b F.slot_list_append ⟨_,e,rfl⟩ F.entry_list_append (F.args_list_append_2 _ _) (PySem.list_append l a.toArray n u (by rw[D4];lia)) ⟨e,?_⟩;refine⟨.non,_,I.lset (its':=a++[u]) b e A6 (r.append (.cons c .nil)) ?_,rfl,q⟩;rw[C4,P8];lia
def rRep:R2:=λx y H Q=>∃l k xs,x=.ref l/\y=.int k/\H l=some (.lst xs)/\-(2^63)<=k/\k<2^63/\xs.length*k.toNat<=sizeLine /\
 ∀p,H p=none->Q (.ref p) (upd H p (.lst (List.replicate k.toNat xs).flatten))
theorem len_rep{α:Type}(xs:List α)(k:Nat):(List.replicate k xs).flatten.length=k*xs.length:=by
 induction k with
 |zero=>simp
 |succ k a=>rw[Q7,U1,C4,a,V3,S6]
theorem op_rep:OpR X (binaryOp .Mult) rRep:=by
 intro pins s σ H x y v u Q I B A h;obtain⟨l,k,xs,rfl,rfl,G,C,E,p,q⟩:=h;cases B;obtain⟨t,rfl⟩:=A;obtain⟨z,b,n,r,D,e⟩:=I.lstM G;have d:b.toArray.size*k.toNat<=sizeLine:=by rw[D4,<-D];exact p
 have f:¬b.toArray.size*k.toNat > (2^63-1)/8:=by
  have:(sizeLine:Nat)<=(2^63-1)/8:=by decide
  lia
 have i:¬(!Builtin.List.listFitsIndex k)=true:=by
  rw[fitsIndex_both C E];exact D3
 have c:¬Builtin.List.listTooLong (b.toArray.size*k.toNat)=true:=by
  rw[Zi d];exact D3
 have g:List.foldl (λj o=>j++o) #[] (List.replicate (if b.toArray.isEmpty=true then 0 else k.toNat) b.toArray)=(List.replicate k.toNat b).flatten.toArray:=by
  have w:∀m:Nat,List.foldl (λj o=>j++o) #[] (List.replicate m b.toArray)=(List.replicate m b).flatten.toArray:=λm=>by
   have:=Qn b m [];rw[List.nil_append]at this;exact this
  rw[w];cases b with
  |nil=>simp
  |cons a K=>rw[Z6 A6]
 refine wpAny_binaryOp_repeat_ref (T:="list") (U:="int") A3 ⟨_,e,rfl⟩ (λs'=>typeIs_int s' k t) noFill_list_mul F.fills_int_mul F.slot_int_rmul repeat_list F.slot_int_index.lookup
  (A2b F.slot_int_rmul (typeIs_int s k t) F.entry_int_rmul (F.args_int_rmul_2 _ _) (int___rmul___int_list k t l b.toArray n)
   ⟨e,rfl,⟨_,e,rfl⟩,A2b F.slot_list_mul ⟨_,e,rfl⟩ F.entry_list_mul (F.args_list_mul_2 _ _) (AutoListH.list___mul___list_int_3 l b.toArray n k t i f c) ⟨e,?_⟩⟩)
 rw[g];exact⟨.ref _,_,I.lnew (t':=s.toks) (r.rep k.toNat) (by rw[len_rep,S0];exact p),rfl,q _ I.fresh⟩
end
section
variable{prog:Program}{w:World}{A:Around}{E:Value->Shared->Prop}{s:Shared}
end
section
variable{X:Cx}
end
end L2
namespace Att
open PySem PySem.W PySem.Calls PyProof.Rows
theorem NN{P:Params}{h:Heap}:∀(ns:List Int)(vs:List Value),WellAll P h vs (ns.map WData.int)->IntsAre vs ns:=by
 intro ns;induction ns with
 |nil =>
  intro vs w;rw[Z3]at w;cases w;exact .nil
 |cons n ns c =>
  intro vs w;rw[F7]at w;cases w with
  |cons a b =>
   cases a;exact .cons _ _ (c _ b)
theorem Wb{l:OpenLaw}{n:Nat}(x:l.most=some n){P:Params}{h:Heap}{args:List WData}{b:List Value}
  (c:l.row.toRowW.claim.pre args=true) (j:WellAll P h b args) :
  ∃a vs ns,b=[Value.ref a]/\args=[WData.list (ns.map WData.int)]/\h.get? a=some {cls:=.type "list",data:=.seq vs.toArray}/\IntsAre vs ns/\ns.length<=n:=by
 have k:WShape.hasAll [] args [.list .int]=true:=(pre_splitW c).1;have m:l.pre.holds [] {args:=args}=true:=(pre_splitW c).2;obtain⟨d,r,rfl,p,t⟩:=hasAllW_cons k;obtain rfl:=hasAllW_nil t;obtain⟨xs,rfl,u⟩:=hasW_list p;obtain⟨ns,rfl⟩:=items_int u;have f:ns.length<=n:=by
  unfold OpenLaw.pre at m;have i:(WTm.not (.lt (.lit (.int (n:Int))) (.len (.arg 0)))).holds [] {args:=[.list (ns.map .int)]}=true:=by
   have i:=(holds_andW m).1;rw[x]at i;exact i
  have g:=condW_of i (w_not (w_lt w_lit (w_len_list (w_arg rfl))));rw[B5]at g;refine P0 λq=>?_;have s:(n:Int)<((ns.length:Nat):Int):=by lia
  first
   | (rw[Z7 s]at g;exact absurd g A3)
   | (simp at g;lia)
 cases j with
 |cons o v =>
  cases v;cases o with
  |list w e=>exact⟨_,_,ns,rfl,rfl,w,NN ns _ e,f⟩
theorem Wd(l:OpenLaw)(args:List WData):l.row.toRowW.claim.post args (.bool true) args=true :=
 postW_of (r:=l.row.toRowW) (X:=(true==true))
  (show WShape.has [] (.bool true) .bool=true by first|rfl|decide|simp[WShape.has,WShape.arms,WShape.armsAll])
  (show(WTm.eq .res (.lit (.bool true))).value [] {args:=args,res:=some (.bool true),after:=args}=some (.bool (true==true))from w_eq_bool (w_res rfl) w_lit) rfl
theorem Tk{l:OpenLaw}{n:Nat}{q:Program}{e:List Str}{A:(Str->Option Value)->Heap->Prop}{D:World->Heap->Prop}{d:DefRec}
  (U:l.most=some n) (s:d.params.defaults=[])
  (call:∀(w:World)(c b:Shared)(mg y:Str->Option Value)(k:Addr)(o:Obj)(t p g:Value)(a:Addr)(vs:List Value)(ns:List Int),
   Ground q e [] A w c mg y b.heap->D w b.heap ->
   b.heap.get? k=some o->o.data=.func (docDef d.name d.params d.body d.scope t p g)->b.heap.CodeRec p d.name->mg d.name=some (.ref k) ->
   b.heap.get? a=some {cls:=.type "list",data:=.seq vs.toArray}->IntsAre vs ns->ns.length<=n->b.gens=#[] ->
   codeAny (model l.prog w) callerA (.call (.ref k) ⟨[.ref a],[]⟩) (λr s'=>r=.ok (.ret (.bool true))/\OldK b.heap s'.heap/\s'.os=b.os/\AllBare s'.gens) b) :
  WalkO q e A D l.row.toRowW d [] (λf vs=>PySem.call f vs):=by
 intro w c b mg y G Y k o t p g H kV K N v B x R z E as i C Q u S;obtain rfl:H=.none:=Dflts.none B s;obtain rfl:kV=.none:=Dflts.noKw B;obtain⟨a,vs,ns,rfl,rfl,m,h,j⟩:=Wb U i u;refine enter_call (A5c (call w c b mg y k o t p g a vs ns G Y K (fd_plain N) v x m h j R) λr s' I=>?_);obtain⟨rfl,T,P,O⟩:=I;exact⟨.inl ⟨.bool true,.bool true,[],rfl,λ_=>rfl,.bool true,Wd l _,λ_=>⟨List.Pairwise.nil,λ_ M=>(nomatch M)⟩⟩,T,P,O⟩
section
variable{prog:Program}{w:World}{A:Around}{E:Value->Shared->Prop}{s:Shared}{K:Frag}
end
end Att
namespace L2
open PySem PySem.Spec PyProof.Rows
theorem PU:∀{vs:List Value}{ns:List Int},IntsAre vs ns->AO (ns.map V.int) vs
 |_,_,.nil=>.nil
 |_,_,.cons n t h=>.cons ⟨t,rfl⟩ (PU h)
def Only(H:Hp):Prop:=∀b,H b=none\/∃o xs,H b=some (.frz o (.lst xs))
theorem Zy{P:Program}{w:World}{K:W.Frag}{mg U:Str->Option Value}{CX:CXT}{k:Nat}{T a:Addr}{fd:FuncData}{x:Str}{sp:Sp}{c:Shared}{vs:List Value}{ns:List Int}
  (Z:K.In c.heap) (D:c.heap.Ns mainGlobals mg) (g:c.heap.Ns builtinsNs U) (R:∀x:Str,x≠"__name__" -> U x=bootBuiltins x) (B:c.heap.NoLimit) (hg:c.gens=#[])
  (N:c.heap.get? a=some {cls:=.type "list",data:=.seq vs.toArray}) (hi:IntsAre vs ns) (hl:ns.length<=sizeLine) (hr:Df k callerA)
  (F:∀i:Heap,K.In i->i.Ns mainGlobals mg->AL P w K mg i CX k T fd [x] sp) (p:∀(s:Shared)(u:Value),BindsTo s fd ⟨[u],[]⟩ [(x,u)])
  (X:∀H:Hp,Only H->SqL K H a (ns.map V.int)->sp [.ref a] H (λv _=>v=.bl true) λ_ _ _=>False)
  (O:∀H e s',CX [] H c (λ_ _ _=>False) e s'->False) :
  codeAny (model P w) callerA (.call (.ref T) ⟨[.ref a],[]⟩) (λr s'=>r=.ok (.ret (.bool true))/\OldK c.heap s'.heap/\s'.os=c.os/\AllBare s'.gens) c:=by
 have rv:=PU hi;have G:=hi.length;have l:∀H:Hp,Only H->SqL K H a (ns.map V.int)->HOk P w H c.heap->(∀b,H b≠none->b=a)->(H a≠none->K.lookup a=none) ->
   codeAny (model P w) callerA (.call (.ref T) ⟨[.ref a],[]⟩) (λr s'=>r=.ok (.ret (.bool true))/\OldK c.heap s'.heap/\s'.os=c.os/\AllBare s'.gens) c:=by
  intro H hO hS C hA hK;have f:∀{b:Addr}{o:Obj},c.heap.get? b=some o->H b=none->(Rw c.heap H).get? b=some o:=λe n=>ZJ e n;have Y:∀{b:Addr}{o:Obj}{y:Array DictEntry}{A:Nat},c.heap.get? b=some o->o.data=.dict y A->H b=none:=λ{b o y A} e d=>by
   cases q:H b with
   |none=>rfl
   |some u =>
    have Q:b=a:=hA b (by rw[q];simp);subst Q;rw[N]at e;cases e;have d':Data.seq vs.toArray _=Data.dict y A:=d;cases d'
  have j:∀{b:Addr}{m:Str->Option Value},c.heap.Ns b m->(Rw c.heap H).Ns b m:=λ{b m} ⟨o,y,A,e,d,r⟩=>⟨o,y,A,f e (Y e d),d,r⟩
  have E:K.In (Rw c.heap H):=λb o e=>f (Z b o e) (by
   cases q:H b with
   |none=>rfl
   |some u =>
    have Q:b=a:=hA b (by rw[q];simp);subst Q;rw[hK (by rw[q];simp)]at e;cases e)
  have hM:Mod K mg (Rw c.heap H):=⟨E,j D,⟨U,j g,R⟩,let ⟨mc,h1,h2⟩:=B;⟨mc,j h1,h2⟩⟩
  have e0:UC P w K mg (Rw c.heap H) callerA [] c H:=⟨rfl,hM,λb o e=>of_hidT e,Nat.le_of_eq (WD _ _),trivial,λb g=>absurd (show b∈([]:List Addr)from g) A6,C,.of_eq hg⟩
  refine A5c ((F _ E (j D)).run callerA [] c H ⟨[.ref a],[]⟩ [.ref a] [.ref a] _ _ hr e0 (p c (.ref a)) (.cons rfl .nil) (X H hO hS)) λr s' h=>?_;cases r with
  |error e=>exact(O H e s' h).elim
  |ok fl =>
   cases fl with
   |next=>exact False.elim h
   |brk=>exact False.elim h
   |cont=>exact False.elim h
   |ret u =>
    obtain⟨v,H',I,bare,un,t,r',q⟩:=h;have q':v=.bl true:=q;subst q';obtain rfl:u=Value.bool true:=r';refine⟨rfl,OldK.of_keep λb o e=>?_,I,bare⟩;cases q:H b with
    |none=>exact un.keep b o e q (by intro z;exact absurd (show b∈([]:List Addr)from z) A6) A6
    |some u =>
     rcases hO b with z|⟨ob,xs,z⟩
     ·rw[q]at z;cases z
     ·have z2:=un.frzs b ob _ z;obtain⟨e1,_⟩:=C b _ z;obtain⟨e2,_⟩:=t b _ z2;rw[e]at e1;cases e1;exact e2
 cases S:K.lookup a with
 |some o =>
  have e:=Z a o S;rw[N]at e;cases e;refine l (λ_=>none) (λ_=>.inl rfl) (.inr ⟨_,vs.toArray,_,S,rfl,rfl,rfl,by rw[D4,G];exact hl,by simpa using rv⟩) (λb u z=>by have M:(none:Option HO)=some u:=z;cases M) (λb z=>absurd rfl z) λz=>absurd rfl z
 |none =>
  refine l (λb=>if b=a then some (.frz {cls:=.type "list",data:=.seq vs.toArray} (.lst (ns.map V.int)))else none) (λb=>?_) (.inl (.inr ⟨{cls:=.type "list",data:=.seq vs.toArray},Z9 rfl⟩)) (λb u z=>?_) (λb z=>?_) λ_=>S
  ·by_cases g:b=a
   ·exact .inr ⟨_,_,Z9 g⟩
   ·exact .inl (Z6 g)
  ·by_cases g:b=a
   ·have M:=(Z9 g).symm.trans z;cases M;subst g;exact⟨N,by rw[B5];exact hl,vs,_,rv,N⟩
   ·have M:=(Z6 g).symm.trans z;cases M
  ·by_cases g:b=a
   ·exact g
   ·exact absurd (Z6 g) z
theorem UF{l:W.OpenLaw}{n k:Nat}{q:Program}{m:List Str}{S:(Str->Option Value)->Heap->Prop}{M:World->Heap->Prop}{d:DefRec}{K:Params->W.Frag}{CX:World->CXT}{sp:World->Sp}{x:Str}
  (hn:l.most=some n) (C:n<=sizeLine) (z:d.params.defaults=[]) (Z:Df k callerA)
  (R:∀(w:World)(h:Heap),M w h->(K w.params).In h)
  (F:∀(w:World)(mg:Str->Option Value)(t:Addr)(h:Heap),(K w.params).In h->h.Ns mainGlobals mg->mg d.name=some (.ref t) ->
   ∃B:FuncData,(∀(s:Shared)(u:Value),BindsTo s B ⟨[u],[]⟩ [(x,u)]) /\
    ∀c:Heap,(K w.params).In c->c.Ns mainGlobals mg->AL l.prog w (K w.params) mg c (CX w) k t B [x] (sp w))
  (D:∀(w:World)(H:Hp)(a:Addr)(ns:List Int),ns.length<=n->Only H->SqL (K w.params) H a (ns.map V.int)->sp w [.ref a] H (λv _=>v=.bl true) λ_ _ _=>False)
  (y:∀(w:World)(H:Hp)(s:Shared)(e:Value)(s':Shared),CX w [] H s (λ_ _ _=>False) e s'->False) :
  W.WalkO q m S M l.row.toRowW d [] (λf vs=>PySem.call f vs):=by
 refine Att.Tk hn z λw I p mg mb t o pm cd N a vs ns G Y ho hd Q A r j i X=>?_;have E:=R w _ Y;obtain⟨B,U,P⟩:=F w mg t _ E G.T.g A;exact Zy E G.T.g G.T.b G.T.builtins G.T.nolimit X r j (D0 i C) Z P U (λH hO O=>D w H a ns i hO O) λH e s'=>y w H p e s'
end L2
/- THE LAST THEOREM (shape;LID,My.* are yours):
 My.Adr: a structure of the addresses that your layer names (classes,functions);My.Txt K t: a structure (Prop) of the equations over K;
 My.txt_mk:{K} {implicit addresses ..} (e1:nsIn K mainGlobals "law" = some (some (.ref f))) (e2:K.lookup f=some ⟨oc,od,.func (fnOf "law" "law" params body scope dV kV doc pm an cdv ct),sl⟩) (e3:codeIn K cdv "law" = true) ..:∃t,My.Txt K t
set_option maxRecDepth 100000 in
set_option maxHeartbeats 0 in
theorem PySem.Challenge.cw_LID_holds:PySem.Challenge.rw_LID.Holds:=by
 w_on;o_law;k_head;(case hw=>w_witness2)
 k_fill
 refine L2.UF (l:=PySem.Challenge.rw_LID) (n:=63) (k:=40) (x:="script") (CX:=λw=>..) (sp:=λ_=>My.sp_law) rfl A3 rfl ⟨rfl,by decide,by decide⟩ (λw h Y=>PySem.W.kIn_of Y) ?F ?S ?C
 case F =>
  intro w mg fa h KX G hmg;have T:∃t,My.Txt (L2.KOf KX) t:=by
   dsimp only[L2.KOf]                          
   (case e1=>PySem.W.k_is)                    
   (case e2=>PySem.W.k_is)
   ..
  obtain⟨t,T⟩:=T;have e0:=hmg.symm.trans (X9 KX G T.law);cases e0                                       
 case S=>exact λw H a ns hl hO hS=>..
 case C=>exact ..
(the tactic k_is has no namespace: write k_is) -/
namespace L2
open PySem PySem.Spec PyProof.Rows
def Bc(s:Stmt)(j:Nat):Stmt:=match s with
 |.ClassDef _ _ _ body _ _ _ _ _ _ _=>body.getD j (.Pass ⟨0,0,0,0⟩)
 |_=>.Pass ⟨0,0,0,0⟩
def MF(s:Stmt):Arguments:=match s with
 |.FunctionDef _ a _ _ _ _ _ _ _ _=>a
 |_=>{posonlyargs:=[],args:=[],vararg:=none,kwonlyargs:=[],kw_defaults:=[],kwarg:=none,defaults:=[]}
def IW(s:Stmt):List Stmt:=match s with
 |.FunctionDef _ _ b _ _ _ _ _ _ _=>b
 |_=>[]
def Al(s:Stmt):Scope:=match s with
 |.FunctionDef _ _ _ _ _ _ sc _ _ _=>sc
 |_=>{kind:=.function,names:=[],isGenerator:=false,isCoroutine:=false}
abbrev CX0:CXT:=λ_ _ _ _ _ _=>False
abbrev E0:XK:=λ_ _ _=>False
theorem Aq{X:Cx}:Fa CX0 X E0:=λ_ _ _ _ _ _ _ h=>h.elim
structure Fun(K:W.Frag)(x qual:Str)(st:Stmt)(f:Addr)(fd:FuncData):Prop where
 ex:∃(oc:Value)(od:Option Addr)(kV doc pm:Value)(an:Option Addr)(cdv ct:Value)(osl:Array (Option Value)),
  fd=W.fnOf x qual (MF st) (IW st) (Al st) .none kV doc pm an cdv ct/\K.lookup f=some ⟨oc,od,.func fd,osl⟩/\W.codeIn K cdv qual=true
 kp:keepIn K (.ref f)=true
section
variable{P:Program}{w:World}{K:W.Frag}{mg:Str->Option Value}{base:Heap}
theorem Fun.ok{x b:Str}{e:Stmt}{f:Addr}{l:FuncData}{N j:List Str}{k:Nat}{sp:Sp}(F:Fun K x b e f l)(S:Au N j (Al e))(len:∀vs H Q E,sp vs H Q E->vs.length=j.length)
  (d:∀(c:Value)(A:Around)(a:List Env)(s:Shared)(H:Hp)(vs:List V)(Q:VK)(E:XK),Df k (A.deeper (envOfC b (Al e) s.heap.objs.size f c))->sp vs H Q E ->
   ∃t,PSs (MG CX0 P w K mg base N b (Al e) f c A a s H E).nox (IW e) t/\t {nx:=λ_ p=>Q .non p,rt:=Q} (LZ N vs) H):AL P w K mg base CX0 (k+1) f l j sp:=by
 obtain⟨u,y,kV,m,v,B,c,z,n,rfl,o,g⟩:=F.ex;refine fn_of o g S len λA a s H vs Q E r i=>?_;obtain⟨t,h,q⟩:=d c A a s H vs Q E r i;exact⟨t,h.nox,q⟩
theorem Fun.binds{x a:Str}{d:Stmt}{f:Addr}{k:FuncData}{j:List Str}(F:Fun K x a d f k)
  (h:∀(kV b i:Value)(e:Option Addr)(c g:Value)(us:List Value),us.length=j.length->bindArgs (W.fnOf x a (MF d) (IW d) (Al d) .none kV b i e c g) ⟨us,[]⟩=pure (j.zip us)):Cv K k j []:=by
 obtain⟨o,n,kV,b,i,e,c,g,m,rfl,p,l⟩:=F.ex;exact .all (h kV b i e c g)
theorem Uo {x a:Str} {d:Stmt} {f:Addr} {n:Value} {m j:Option Addr} {g:Array (Option Value)} {kV e i b h:Value} (l:K.lookup f=some ⟨n,m,.func (W.fnOf x a (MF d) (IW d) (Al d) .none kV e i j b h),g⟩)
  (c:W.codeIn K b a=true) (k:keepIn K (.ref f)=true):Fun K x a d f (W.fnOf x a (MF d) (IW d) (Al d) .none kV e i j b h):=⟨⟨n,m,kV,e,i,j,b,h,g,rfl,l,c⟩,k⟩
end
theorem Ek{A:Around}{k:Nat}(a:Df k A):A.units+1<cLine:=M8 (Nat.add_le_add_left (by decide:1<=64) _) a.units
section
variable{X:Cx}
theorem pv(i:Nat){x:Str}{b:Pos}(d:X.N[i]?=some x:=by rfl)(c:Vis X.env.scope x:=by first|exact Or.inl rfl|exact Or.inr (Or.inl rfl)|exact Or.inr (Or.inr rfl))(e:(x==("__debug__" : Str))=false:=by decide)
  (a:(x==("__classdict__" : Str))=false:=by decide):PE X (.Name x b) (Gp i):=pe_var d c e a
end
theorem Ba{A B:Prop}(h:B):if false=true then A else B:=by
 rw[Z6 D3];exact h
theorem BL{A B:Prop}(h:A):if true=true then A else B:=by
 rw[Z9 rfl];exact h
theorem Fw{c A B:Prop}[Decidable c](b:c->A)(a:¬c->B):if c then A else B:=by
 by_cases h:c
 ·rw[Z9 h];exact b h
 ·rw[Z6 h];exact a h
theorem Vt{c A B:Prop}[Decidable c](a:c)(h:B):if(!decide c)=true then A else B:=by
 rw[Z7 a];exact Ba h
def AA(H H':Hp):Prop:=∀b o,H b=some o->H' b=some o
theorem AA.refl(H:Hp):AA H H:=λ_ _ h=>h
theorem AA.trans{H e d:Hp}(a:AA H e)(b:AA e d):AA H d:=λc o h=>b c o (a c o h)
theorem AA.seq{K:W.Frag}{H b:Hp}{a:Addr}{xs:List V}(e:AA H b)(h:SqL K H a xs):SqL K b a xs:=by
 rcases h with (h|⟨o,h⟩)|h
 ·exact .inl (.inl (e _ _ h))
 ·exact .inl (.inr ⟨o,e _ _ h⟩)
 ·exact .inr h
structure EE(hid fs:List Addr)(h h':Heap):Prop where
 keep:∀b o,h.get? b=some o->b∉hid->h'.get? b=some o
 slot:∀b o,b∈fs->h.get? b=some o->∃sl,h'.get? b=some {o with slots:=sl}
 sub:∀b,b∈fs->b∈hid
def Lu(a T:Addr)(cls fl:Value)(h:Heap):Prop :=
 ∃(oe:Obj)(vs:Array Value)(oT:Obj)(ts:Array Value),h.get? a=some oe/\oe.cls=cls/\oe.data=.fields vs/\vs[1]?=some (.ref T)/\vs[2]?=some .none/\T≠a/\h.get? T=some oT/\oT.data=.fields ts/\ts[3]?=some fl
def FlyNew(a:Addr)(cls:Value)(h:Heap):Prop:=∃(oe:Obj)(vs:Array Value),h.get? a=some oe/\oe.cls=cls/\oe.data=.fields vs/\vs[1]?=some .none/\vs[2]?=some .none
def Lw(a D:Addr)(h:Heap):Prop:=∃o,h.get? a=some o/\o.cls=.ref D/\∃vs,o.data=.fields vs/\vs[2]?=some .none
theorem Lu.exc{a T D:Addr}{e:Value}{h:Heap}(x:Lu a T (.ref D) e h):Lw a D h:=by
 obtain⟨f,vs,_,_,d,c,b,_,g,_⟩:=x;exact⟨f,d,c,vs,b,g⟩
theorem Lw.not{a D:Addr}{h:Heap}(x:Lw a D h):∃o,h.get? a=some o/\o.cls=.ref D/\notCls o=true:=by
 obtain⟨o,e,c,vs,d,_⟩:=x;exact⟨o,e,c,by unfold notCls;rw[d]⟩
section
variable{M:Model}{A:Around}{E:Value->Shared->Prop}{s:Shared}{b0:Heap}{env:Env}{outer:List Env}{L a T:Addr}{cls fl:Value}{Q:Unit->Shared->Prop}
theorem Qp{i:Obj}{vs:Array Value}{c:Value}{n:Bool}(j:A.frames=some (env::outer))(t:s.heap.FunFrames b0 (env::outer))(G:env.frame=some L)(C:s.heap.get? a=some i)(h:i.data=.fields vs)(u:vs[2]?=some .none)
  (k:∀h' p,Lu a p i.cls (rawInt L) h'->s.heap.get? p=none->EE (a::frs (env::outer)) (frs (env::outer)) s.heap h'->Q () {s with heap:=h'}) :
  wpAny M A (do let x <-frameOf env;let pl <-entryPlaceOf L n;let b <-EntryCells.newEntry c x .none (rawInt L) .none pl;setField (.ref a) 1 b) Q E s:=by
 refine Z5 (wpAny_frameOf_fun j t G λg d=>Z5 (wpAny_entryPlaceOf λpl hp=>?_));unfold EntryCells.newEntry newFields;refine Z5 (A4c ?_ (hp.sizeOk5 _ _ _ _ _));have r:a∉frs (env::outer):=λz=>by
  obtain⟨_,o,B,n⟩:=t.mem z;rw[C]at B;cases B;exact n vs h
 have l:g.get? a=some i:=(d.2.1 a r).trans C;have sz:1<vs.size:=by
  have:=(T9.mp u).1;omega
 have w:g.objs.size≠a:=T7 (C9 l);have gn:∀b o,s.heap.get? b=some o->∃o',g.get? b=some o':=λb o q=>by
  by_cases z:b∈frs (env::outer)
  ·obtain⟨v,e⟩:=d.2.2 b o q;exact⟨_,e⟩
  ·exact⟨o,(d.2.1 b z).trans q⟩
 refine A3g (C0 _ l) h sz (k _ g.objs.size ⟨_,_,_,_,R6 _ (C0 _ l) (A3b (A1d h _)),Obj.cls_mapFields _ _,A1d h _,?_,?_,w,(O2 _ _ w.symm).trans (D5 _ rfl),rfl,?_⟩ ?_ ?_)
 ·simp[sz]
 ·rw[Array.getElem?_setIfInBounds_ne A3];exact u
 ·first|(simp;done)|(rcases hp with rfl|⟨_,_,_,_,_,_,_,rfl⟩<;>simp)
 ·cases q:s.heap.get? g.objs.size with
  |none=>rfl
  |some o =>
   obtain⟨o',D⟩:=gn _ _ q;exact absurd (C9 D) (P3 _)
 ·have kp:∀(x:Obj)(f:Obj->Obj) b o,g.get? b=some o->b≠a->((g.push x).update a f).get? b=some o:=λx f b o q z=>(O2 _ _ (X7 z)).trans (C0 _ q);refine⟨λb o q z=>kp _ _ b o ((d.2.1 b λm=>z (.tail _ m)).trans q) λy=>z (y▸.head _),λb o m q=>?_,λb m=>.tail _ m⟩;obtain⟨v,e⟩:=d.2.2 b o q;exact⟨v,kp _ _ b _ e λy=>r (y▸m)⟩
theorem SD(g:A.frames=some (env::outer))(t:s.heap.FunFrames b0 (env::outer))(v:env.frame=some L)(C:FlyNew a cls s.heap\/Lu a T cls .none s.heap)
  (k:∀h' c,Lu a c cls (rawInt L) h'->s.heap.get? c=none->EE (a::T::frs (env::outer)) (frs (env::outer)) s.heap h'->Q () {s with heap:=h'}):wpAny M A (noteFrame (.ref a) env) Q E s:=by
 unfold noteFrame;simp only[v];rcases C with ⟨B,vs,i,rfl,e,u,r⟩|⟨B,vs,K,H,i,rfl,e,u,r,I,l,p,x⟩
 ·refine Z5 (A0d i e u ?_);rw[Z6 A3];refine Qp g t v i e r λh' c f n h=>k h' c f n ⟨λb o q z=>h.keep b o q λm=>z ?_,h.slot,λb m=>.tail _ (.tail _ m)⟩;rcases B7.mp m with y|y
  ·exact y▸.head _
  ·exact .tail _ (.tail _ y)
 ·refine Z5 (A0d i e u ?_);rw[Z9 (show(Value.ref T != Value.none)=true from by simp)];refine Z5 (A0d l p x ?_);rw[Z6 (by simp[rawInt])];refine Z5 (A3g l p (T9.mp x).1 ?_);have j:∀b,b≠T->(s.heap.update T (Obj.mapFields (·.setIfInBounds 3 Value.none))).get? b=s.heap.get? b:=λb z=>O2 _ _ (X7 z);have w:∀b o,s.heap.get? b=some o->(∀vs,o.data≠.fields vs)->b≠T:=λb o q d z=>by
   rw[z,l]at q;cases q;exact d H p
  have G:∀b,b∈frs (env::outer)->b≠T:=λb m=>by
   obtain⟨_,o,D,d⟩:=t.mem m;exact w b o D d
  refine Qp (s:={s with heap:=s.heap.update T (Obj.mapFields (·.setIfInBounds 3 Value.none))}) g (t.of_keeps λb o q d=>⟨o,(j b (w b o q d)).trans q,rfl⟩) v ((j a (X7 I)).trans i) e r λh' c f n h=>k h' c f ?_ ⟨λb o q z=>?_,λb o m q=>h.slot b o m ((j b (G b m)).trans q),λb m=>.tail _ (.tail _ m)⟩
  ·by_cases z:c=T
   ·rw[z,R6 _ l (A3b (A1d p _))]at n;cases n
   ·rw[<-j c z];exact n
  ·refine h.keep b o ((j b λy=>z (y▸.tail _ (.head _))).trans q) λm=>z ?_;rcases B7.mp m with y|y
   ·exact y▸.head _
   ·exact .tail _ (.tail _ y)
theorem IU {fr:Option Addr} (m:Lu a T cls fl s.heap) (k:∀h',Lu a T cls (fr.elim .none λf=>rawInt f) h'->(∀b o,s.heap.get? b=some o->b≠T->h'.get? b=some o)->Q () {s with heap:=h'}):wpAny M A (setFlight (.ref a) fr) Q E s:=by
 obtain⟨j,vs,r,p,e,rfl,d,h,l,i,g,c,n⟩:=m;unfold setFlight;refine Z5 (A0d e d h ?_);rw[Z9 (show(Value.ref T != Value.none)=true from by simp)];have z:=(T9.mp n).1;refine A3g g c z (k _ ⟨j,vs,_,_,(O2 _ _ i).trans e,rfl,d,h,l,i,R6 _ g (A3b (A1d c _)),A1d c _,by simp[z]⟩ λb o q y=>(O2 _ _ (X7 y)).trans q)
theorem Qj(d:A.frames=some (env::outer))(j:s.heap.FunFrames b0 (env::outer))(t:env.frame=some L)(r:FlyNew a cls s.heap\/Lu a T cls .none s.heap)
  (k:∀h' c,Lu a c cls .none h'->s.heap.get? c=none->EE (a::T::frs (env::outer)) (frs (env::outer)) s.heap h'->Q () {s with heap:=h'}):wpAny M A (leaving env (.ref a)) Q E s:=by
 unfold leaving;refine Z5 (SD d j t r λi c f n g=>IU (s:={s with heap:=i}) f λl h kp=>k l c h n ⟨λb o q z=>kp b o (g.keep b o q z) λy=>?_,λb o m q=>?_,g.sub⟩)
 ·rw[y,n]at q;cases q
 ·obtain⟨p,e⟩:=g.slot b o m q;exact⟨p,kp b _ e λy=>by rw[y,n]at q;cases q⟩
end
theorem BW.be{P:Program}{w:World}{H:Hp}{h:Heap}{a:Addr}{o:HO}(x:BW P w H h a o):∃u,h.get? a=some u:=by
 cases o with
 |lst xs=>obtain⟨_,_,_,_,e⟩:=x;exact⟨_,e⟩
 |tup xs=>obtain⟨_,_,_,u,e,_⟩:=x;exact⟨u,e⟩
 |dK b=>obtain⟨_,_,_,_,u,_,_,e,_⟩:=x;exact⟨u,e⟩
 |dT b=>obtain⟨_,_,_,_,u,_,_,e,_⟩:=x;exact⟨u,e⟩
 |set S n=>obtain⟨u,_,_,_,e,_⟩:=x;exact⟨u,e⟩
 |ins C dx fs=>obtain⟨_,_,_,e,_⟩:=x;exact⟨_,e⟩
 |own y=>exact x
 |xd fs=>obtain⟨_,⟨u,_,_,e,_⟩,_⟩:=x;exact⟨u,e⟩
 |rng lo c=>obtain⟨_,_,_,e⟩:=x;exact⟨_,e⟩
 |frz d u=>exact⟨_,x.1⟩
 |tbl g=>exact⟨_,x⟩
 |met f y=>exact⟨_,x⟩
 |ext φ=>exact x.2.1
theorem Pc{P:Program}{w:World}{H:Hp}{h h':Heap}{d fs:List Addr}(e:HOk P w H h)(n:EE d fs h h')(a:∀b,b∈d->H b=none):HOk P w H h':=λb u q =>
 (e b u q).stay (λc v f r=>n.keep c v r λm=>by
  have z:=a c m;rcases f with rfl|f
  ·rw[q]at z;cases z
  ·rw[f]at z;cases z) (λ_ z=>z) λ_ _ z=>z
theorem QG{l a fs:List Addr}{p H:Hp}{g h h':Heap}(u:Un l [] p H g h)(n:EE a fs h h')(c:∀b,b∈a->b∈fs\/g.get? b=none)(k:∀b,b∈fs->b∈l\/g.get? b=none):Un l [] p H g h' where
 keep:=λb o q m i f=>n.keep b o (u.keep b o q m i f) λz=>by
  rcases c b z with y|y
  ·rcases k b y with y|y
   ·exact i y
   ·rw[q]at y;cases y
  ·rw[q]at y;cases y
 slot:=λb o q m i f=>by
  obtain⟨r,e⟩:=u.slot b o q m i f;by_cases z:b∈a
  ·rcases c b z with y|y
   ·obtain⟨d,j⟩:=n.slot b _ y e;exact⟨d,j⟩
   ·rw[q]at y;cases y
  ·exact⟨r,n.keep b _ e z⟩
 free:=u.free
 there:=λb o q f=>by
  obtain⟨o',e⟩:=u.there b o q f;by_cases z:b∈a
  ·rcases c b z with y|y
   ·obtain⟨d,j⟩:=n.slot b _ y e;exact⟨_,j⟩
   ·rw[q]at y;cases y
  ·exact⟨_,n.keep b _ e z⟩
 tups:=u.tups
 frzs:=u.frzs
 tbls:=u.tbls
abbrev FlyT(a T:Addr)(cls:Value)(h:Heap):Prop:=Lu a T cls .none h
def CXE(P:Program)(w:World):CXT:=λouter H s E e s' =>
 ∃(a T:Addr)(cls:Value)(H':Hp),e=.ref a/\s'.os=s.os/\AllBare s'.gens/\Un (frs outer) [] H H' s.heap s'.heap/\HOk P w H' s'.heap /\
  FlyT a T cls s'.heap/\s.heap.get? a=none/\s.heap.get? T=none/\H' a=none/\H' T=none/\E cls none H'
section
variable{P:Program}{w:World}{K:W.Frag}{mg:Str->Option Value}{base:Heap}{N:List Str}{qual:Str}{scope:Scope}{f:Addr}{cd:Value}{A:Around}{outer:List Env}{s:Shared}{H:Hp}{E:XK}
def Raises(X:Cx)(E:XK):Prop:=∀(pins:List (Addr×Obj))(σ:St)(H:Hp)(s:Shared)(e:Addr)(cls:Value)(args:List Value)(h':Heap),Inv X pins σ H s->Heap.MadeExcOf s.heap h' e cls args->E cls none H->X.xe (.ref e) {s with heap:=h'}
theorem Inv.gk{X:Cx}{pins:List (Addr×Obj)}{σ:St}{H:Hp}{s:Shared}(I:Inv X pins σ H s)(a:X.ex=[]):∀b o,X.s₀.heap.get? b=some o->∃o',s.heap.get? b=some o':=λb o q=>I.base.there b o q (by rw[a];simp)
theorem Inv.gn{X:Cx}{pins:List (Addr×Obj)}{σ:St}{H:Hp}{s:Shared}(I:Inv X pins σ H s)(c:X.ex=[]){b:Addr}(q:s.heap.get? b=none):X.s₀.heap.get? b=none:=by
 cases e:X.s₀.heap.get? b with
 |none=>rfl
 |some o =>
  obtain⟨o',a⟩:=I.gk c b o e;rw[q]at a;cases a
theorem Inv.ownNew{X:Cx}{pins:List (Addr×Obj)}{σ:St}{H:Hp}{s:Shared}(I:Inv X pins σ H s):X.s₀.heap.get? X.env.locals=none:=Q6 I.ok.above
theorem Inv.frsOut{X:Cx}{pins:List (Addr×Obj)}{σ:St}{H:Hp}{s:Shared}(I:Inv X pins σ H s):∀b,b∈frs X.stack->b∈frs X.outer\/X.s₀.heap.get? b=none:=λb a=>by
 rcases B7.mp (I.stkSub b a)with z|z
 ·right;rw[z];exact I.ownNew
 ·exact .inl z
theorem JT:Raises (MG (CXE P w) P w K mg base N qual scope f cd A outer s H E) E:=by
 intro pins σ l a e k p h' I c D;obtain⟨t,C,_⟩:=c.there;refine Qj (s:={a with heap:=h'}) (T:=e) I.ok.frames (I.stack.of_keeps λb o q d=>⟨o,c.keeps b o q,rfl⟩) rfl (.inl ⟨_,_,C,rfl,rfl,rfl,rfl⟩) λM T G n x=>?_;have B:∀b o,a.heap.get? b=some o->b≠e:=λb o q z=>by
  rw[z,c.new]at q;cases q
 have O:∀b o,a.heap.get? b=some o->b≠T:=λb o q z=>by
  have:=c.keeps b o q;rw[z,show h'.get? T=none from n]at this;cases this
 have j:∀b o,a.heap.get? b=some o->b≠e/\b≠T:=λb o q=>⟨B b o q,O b o q⟩
 have g:EE (frs (MG (CXE P w) P w K mg base N qual scope f cd A outer s H E).stack) (frs (MG (CXE P w) P w K mg base N qual scope f cd A outer s H E).stack) a.heap M:=⟨λb o q z=>x.keep b o (c.keeps b o q) λm=>by
   rcases B7.mp m with y|y
   ·exact(j b o q).1 y
   ·rcases B7.mp y with y|y
    ·exact(j b o q).1 y
    ·exact z y,λb o m q=>x.slot b o m (c.keeps b o q),λ_ z=>z⟩
 have r:∀b,(∀o,a.heap.get? b≠some o)->s.heap.get? b=none/\l b=none:=λb z=>⟨I.gn rfl (by
  cases q:a.heap.get? b with
  |none=>rfl
  |some o=>exact absurd q (z o)),by
  cases q:l b with
  |none=>rfl
  |some u =>
   obtain⟨v,y⟩:=(I.hok b u q).be;exact absurd y (z v)⟩
 have i:=r e λo q=>(j e o q).1 rfl;have h:=r T λo q=>(j T o q).2 rfl;exact⟨e,T,k,l,rfl,I.os,I.bare,QG I.base g (λb z=>.inl z) I.frsOut,Pc I.hok g I.stkFree,G,i.1,h.1,i.2,h.2,D⟩
theorem Vh:Fa (CXE P w) (MG (CXE P w) P w K mg base N qual scope f cd A outer s H E) E:=by
 intro pins σ G M e s' I h;obtain⟨a,T,j,d,rfl,p,bare,un,c,t,x,B,o,r,D⟩:=h;have J:Inv (MG (CXE P w) P w K mg base N qual scope f cd A outer s H E) pins σ d s':=I.call' (ch:=[]) p un c bare (λb z=>absurd z A6);refine Qj J.ok.frames J.stack rfl (.inr t) λO i fl2 n l=>?_;have m:=I.gn rfl x;have C:=I.gn rfl B;have g:∀b,b∈a::T::frs (MG (CXE P w) P w K mg base N qual scope f cd A outer s H E).stack->b∈frs (MG (CXE P w) P w K mg base N qual scope f cd A outer s H E).stack\/(s.heap.get? b=none/\d b=none):=λb z=>by
  rcases B7.mp z with rfl|z
  ·exact .inr ⟨m,o⟩
  ·rcases B7.mp z with rfl|z
   ·exact .inr ⟨C,r⟩
   ·exact .inl z
 have k:d i=none:=by
  cases q:d i with
  |none=>rfl
  |some u =>
   obtain⟨v,y⟩:=(J.hok i u q).be;rw[n]at y;cases y
 refine⟨a,i,j,d,rfl,J.os,J.bare,QG J.base l (λb z=>(g b z).imp id (·.1)) J.frsOut,Pc J.hok l (λb z=>?_),fl2,m,J.gn rfl n,o,k,D⟩;rcases g b z with y|y
 ·exact J.stkFree b y
 ·exact y.2
theorem Fun.okE{x:Str}{c:Stmt}{h:FuncData}{e:List Str}{k:Nat}{sp:Sp}(F:Fun K x qual c f h)(S:Au N e (Al c))(len:∀vs H Q E,sp vs H Q E->vs.length=e.length)
  (b:∀(a:Value)(A:Around)(outer:List Env)(s:Shared)(H:Hp)(vs:List V)(Q:VK)(E:XK),Df k (A.deeper (envOfC qual (Al c) s.heap.objs.size f a))->sp vs H Q E ->
   ∃t,PSs (MG (CXE P w) P w K mg base N qual (Al c) f a A outer s H E) (IW c) t/\t {nx:=λ_ n=>Q .non n,rt:=Q} (LZ N vs) H):AL P w K mg base (CXE P w) (k+1) f h e sp:=by
 obtain⟨q,o,kV,j,u,p,a,r,l,rfl,m,d⟩:=F.ex;exact fn_of m d S len λA outer s H vs Q E i g=>b a A outer s H vs Q E i g
end
def vmro:List Value:=[.type "ValueError",.type "Exception",.type "BaseException",.type "object"]
abbrev JN(K:W.Frag)(C:Addr):Prop:=excIn K C vmro "ValueError.__new__" = true
theorem MD{K:W.Frag}{h:Heap}{C:Addr}{b:List Value}{newId:String}(X:K.In h)(q:excIn K C b newId=true) :
  ∃(bm:List Value)(N:Addr)(nm c:Str)(bs:List Value)(f:Bool)(sn:List Str)(sub:List Value)(ab:Bool)(col:Option Bool)(dd:Option Addr)(k0 k1 k2 k3 k5:Option Value)(mN:Str->Option Value),
   h.get? C=some (excClassObj nm c C N bs bm f sn sub ab col dd k0 k1 k2 k3 k5 newId)/\h.Ns N mN/\mN "__init__" = none/\OwnTail h b bm/\∀v,mroIn K C v=some ((Value.ref C::bm).contains v):=by
 unfold excIn at q;split at q
 case h_2=>cases q
 rename_i dd d t o;split at q
 case h_2=>cases q
 rename_i i bm k0 k1 k2 k3 n k5 e k;simp only[O6,A4a,Bool.not_eq_true']at q;obtain⟨⟨⟨⟨⟨p,u⟩,j⟩,r⟩,g⟩,m⟩:=q;subst p u;have a:∀v,mroIn K i v=some ((Value.ref i::bm).contains v):=λv=>by
  unfold mroIn clsIn;rw[o];show(if d.mro.isEmpty=true then none else some (d.mro.contains v))=_;rw[e];rfl
 obtain⟨nm,bs,w,ns,c,f,sn,sub,ab,col,s⟩:=d;dsimp only at e j g m;subst e;subst j;obtain⟨l⟩:=t;dsimp only at k;subst k;exact⟨bm,ns,nm,c,bs,f,sn,sub,ab,col,dd,k0,k1,k2,k3,k5,_,X _ _ o,.of_isNs (W.isNs_of_in X g),W.nsMap_none_of_in X g m,W.tail_of_in X r,a⟩
section
variable{X:Cx}{C:Addr}{x:Str}{np cpos pos:Pos}{e:Expr}{es:List Expr}{t:TA}{E:XK}
def tRaise(C:Addr)(E:XK)(t:TA):TS:=λ_ σ H=>t σ H λvs H1=>vs.length<=100/\E (.ref C) none H1
theorem GX(v:Raises X E)(y:X.calm=true)(G:Gl X x)(w:X.mg x=some (.ref C))(Q:JN X.K C)(O:PA X (e::es) t)
  (d:(x==("__debug__" : Str))=false:=by decide) (n:starEach (e::es) X.env=(false,eval e X.env)::starEach es X.env:=by rfl) (c:(backTo cpos (starEach es X.env)).any (·.1)=false:=by rfl) :
  PS X (.Raise (some (.Call (.Name x np) (e::es) [] cpos)) none pos) (tRaise C E t):=by
 intro pins s σ H D I h;obtain⟨bm,N,nm,M,bs,j,sn,sub,ab,col,dd,k0,k1,k2,k3,k5,mN,R,A,B,g,S⟩:=MD I.mod.kin Q;have a:bm.contains (.type "BaseException")=true:=g.hasType A3;refine wpAny_Raise_call_subU (C:=C) (nm:=nm) (q:=M) (N:=N) (bs:=bs) (bm:=bm) (hdct:=j) (sn:=sn) (sub:=sub) (ab:=ab) (col:=col) (dd:=dd) (k0:=k0) (k1:=k1) (k2:=k2) (k3:=k3) (k5:=k5) (newId:="ValueError.__new__") (mN:=mN)
  PySem.F.excBase_ValueError A3 PySem.F.excBase_ValueError a (I.ok.hd y) (by rw[n];show(false || (backTo cpos (starEach es X.env)).any (·.1))=false;rw[c];rfl) B (Fu I G w ⟨rfl,?_⟩ d)
 have l:=O cpos pins s σ H _ I h;rw[n]at l⊢;refine A5f (thn l λus i ⟨vs,r,m,p,z,P⟩=>?_);have k:∀b o,X.base.get? b=some o->i.heap.get? b=some o:=m.bk;refine⟨rfl,?_,k _ _ R,A.keeps k,g.keeps k,λh' u f=>v pins σ r i u _ _ h' m f P⟩;show us.length<=sizeLine;rw[<-p.length];exact D0 z A3
end
def Ol(CX:CXT)(X:Cx)(E:XK)(S:St->Prop):Prop:=∀(pins:List (Addr×Obj))(σ:St)(H:Hp)(s:Shared)(e:Value)(s':Shared),S σ->Inv X pins σ H s->CX X.stack H s E e s'->X.xe e s'
def Yf(S:St->Prop)(sp:Sp)(dvs:List V)(E:XK)(t:TA):TE:=fun σ H Q=>S σ/\t σ H λvs H1=>sp (vs++dvs) H1 Q E
section
variable{X:Cx}{CX:CXT}{k:Nat}{f:Addr}{fd:FuncData}{ps:List Str}{sp:Sp}{dvs:List V}{ds:List Value}{E:XK}{x:Str}{p pos:Pos}{e:Expr}{es:List Expr}{t:TA}{S:St->Prop}
theorem run_fnS{pins:List (Addr×Obj)}{σ:St}{H:Hp}{s:Shared}{Q:VK}{us:List Value}{vs:List V}(F:AL X.prog X.w X.K X.mg X.base CX k f fd ps sp)(d:Df k X.A)(c:Cv X.K fd ps ds)(i:AO dvs ds)(l:Ol CX X E S)
  (j:S σ) (I:Inv X pins σ H s) (r:AO vs us) (h:sp (vs++dvs) H Q E):wpAny (model X.prog X.w) X.A (call (.ref f) us) (EP X pins σ Q) X.xe s:=by
 have b:AO (vs++dvs) (us++ds):=r.append i;have g:(us++ds).length=ps.length:=b.length.symm.trans (F.len _ _ _ _ h);refine wpAny_call (A5c (F.run X.A X.stack s H ⟨us,[]⟩ (us++ds) (vs++dvs) Q E d I.env0 (c s us I.kIn g) b h) ?_);intro r s' a;rcases r with e|(_|_|_|_)
 ·exact l pins σ H s e s' j I a
 all_goals first
  |exact I.after a
  |exact a.elim
theorem YQ(F:AL X.prog X.w X.K X.mg X.base CX k f fd ps sp)(j:Df k X.A)(o:Gl X x)(i:X.mg x=some (.ref f))(n:keepIn X.K (.ref f)=true)(d:Cv X.K fd ps ds)(l:AO dvs ds)(u:Ol CX X E S)
  (g:PA X (e::es) t) (b:(x==("__debug__" : Str))=false:=by decide) (v:starEach (e::es) X.env=(false,eval e X.env)::starEach es X.env:=by rfl) (a:(backTo pos (starEach es X.env)).any (·.1)=false:=by rfl) :
  PE X (.Call (.Name x p) (e::es) [] pos) (Yf S sp dvs E t):=by
 intro pins s σ H Q I h;obtain⟨m,h⟩:=h;refine A1g (Fu I o i ?_ b);refine A3c (h₀:=X.base) I.ok.mod.kin n ?_ v a;exact thn (g pos pins s σ H _ I h) λus y ⟨vs,z,c,r,q⟩=>⟨c.kIn,run_fnS F j d l u m c r q⟩
end
theorem Inv.re{X:Cx}{pins a b:List (Addr×Obj)}{σ:St}{H:Hp}{s:Shared}{c:Around}{e:Bool}{d:Value->Shared->Prop}(I:Inv X pins σ H s)(f:e=true->c.handled=none)(g:c.frames=X.A.frames)
  (hp:∀p,p∈b++a->p∈X.pn++pins):Inv {X with A:=c,calm:=e,xe:=d,pn:=b} a σ H s :=
 ⟨⟨I.ok.mod,I.ok.kind,I.ok.glob,I.ok.blt,I.ok.above,I.ok.inj,I.ok.has,I.ok.cab,f,g.trans I.ok.frames,I.ok.stk,I.ok.exf,I.ok.bs,I.ok.bsz,I.ok.noex,I.ok.exfs,I.ok.funs,I.ok.frf⟩,
  I.os,I.bare,I.base,I.loc,I.cell,I.free,I.freeC,λp z=>I.pin p (hp p z),I.hok,I.len⟩
theorem Inv.un_re{X:Cx}{pins a b:List (Addr×Obj)}{σ:St}{H:Hp}{s:Shared}{d:Around}{g:Bool}{c:Value->Shared->Prop}(I:Inv {X with A:=d,calm:=g,xe:=c,pn:=b} a σ H s)(e:X.calm=true->X.A.handled=none)
  (f:X.A.frames=d.frames) (hp:∀p,p∈X.pn++pins->p∈b++a):Inv X pins σ H s :=
 ⟨⟨I.ok.mod,I.ok.kind,I.ok.glob,I.ok.blt,I.ok.above,I.ok.inj,I.ok.has,I.ok.cab,e,f.trans I.ok.frames,I.ok.stk,I.ok.exf,I.ok.bs,I.ok.bsz,I.ok.noex,I.ok.exfs,I.ok.funs,I.ok.frf⟩,
  I.os,I.bare,I.base,I.loc,I.cell,I.free,I.freeC,λp z=>I.pin p (hp p z),I.hok,I.len⟩
theorem SP.map{X Y:Cx}{p q:List (Addr×Obj)}{D:MI}{f:Flow}{s:Shared}(k:∀σ H,Inv X p σ H s->Inv Y q σ H s)(h:SP X p D f s):SP Y q D f s:=by
 cases f with
 |next=>obtain⟨σ',a,I,z⟩:=h;exact⟨σ',a,k _ _ I,z⟩
 |brk=>obtain⟨σ',a,I,z⟩:=h;exact⟨σ',a,k _ _ I,z⟩
 |cont=>obtain⟨σ',a,I,z⟩:=h;exact⟨σ',a,k _ _ I,z⟩
 |ret u=>obtain⟨v,σ',a,I,r,z⟩:=h;exact⟨v,σ',a,k _ _ I,r,z⟩
def NC(a D:Addr):HO:=.ext (Lw a D)
theorem ZI{P:Program}{w:World}{H:Hp}{h:Heap}{a D:Addr}(e:Lw a D h):BW P w H h a (NC a D):=by
 obtain⟨o,e,r⟩:=e;exact⟨⟨o,e,r⟩,⟨o,e⟩,λf g ⟨d,c,b⟩ k=>⟨d,k _ c,b⟩⟩
theorem Inv.track{X:Cx}{pins:List (Addr×Obj)}{σ:St}{H:Hp}{s:Shared}{a:Addr}{o:HO}(I:Inv X pins σ H s)(d:H a=none)(g:X.s₀.heap.get? a=none)(k:X.base.get? a=none)(i:X.env.locals≠a)(f:∀x c,X.env.cells.lookup x=some c->c≠a)
  (hp:∀p,p∈X.pn++pins->p.1≠a) (j:∀b,b∈X.fs->b≠a) (new:BW X.prog X.w (upd H a o) s.heap a o):Inv X pins σ (upd H a o) s:=by
 have ne:∀b u,H b=some u->b≠a:=λb u q z=>by rw[z,d]at q;cases q
 refine⟨I.ok,I.os,I.bare,⟨I.base.keep,I.base.slot,λb u q n x=>?_,I.base.there,λb xs q=>?_,λb u v q=>?_,λb h q=>?_⟩,I.loc,I.cell,?_,λx c q=>?_,λp z=>?_,λb u q=>?_,I.len⟩
 ·rw[Ax (λz=>by rw[z,g]at q;cases q)];exact I.base.free b u q n x
 ·have z:=I.base.tups b xs q;rw[Ax (ne _ _ z)];exact z
 ·have z:=I.base.frzs b u v q;rw[Ax (ne _ _ z)];exact z
 ·obtain⟨m,z⟩:=I.base.tbls b h q;exact⟨m,by rw[Ax (ne _ _ z)];exact z⟩
 ·rw[Ax i];exact I.free
 ·rw[Ax (f x c q)];exact I.freeC x c q
 ·obtain⟨e,n,r⟩:=I.pin p z;exact⟨e,by rw[Ax (hp p z)];exact n,r⟩
 ·by_cases z:b=a
  ·subst z;rw[Af]at q;cases q;exact new
  ·rw[Ax z]at q;exact(I.hok b u q).stay (λc v _ r=>r) (λc r=>by rw[Ax (ne _ _ r)];exact r) λc xs r=>by rw[Ax (ne _ _ r)];exact r
theorem Inv.gone{X:Cx}{pins:List (Addr×Obj)}{σ:St}{H:Hp}{s:Shared}{h':Heap}{n:Str}{i:Nat}{v:Option Value}{m:Str->Option Value}{tk:Nat}(I:Inv X pins σ H s)(K:X.N.Nodup)(D:X.N[i]?=some n)(Q:X.env.scope.names.lookup n=some .local)
  (w:∀(i:Nat)(x:Str)(v:V),X.N[i]?=some x->σ[i]?=some (some v)->Vis X.env.scope x->∃u,Be v u/\Look X.env s.heap m x u) (A:h'.Ns X.env.locals (λx=>if x=n then v else m x)) (d:Heap.SameBut X.env.locals s.heap h'):Inv X pins (σ.set i none) H {s with heap:=h',toks:=tk}:=by
 have a:∀b o,X.s₀.heap.get? b=some o->b≠X.env.locals:=λb o e=>F5 (F2 (C9 e) I.ok.above);refine⟨I.ok,I.os,I.bare,⟨λb o e z h f=>?_,λb o e z h f=>?_,I.base.free,λb o e f=>?_,I.base.tups,I.base.frzs,I.base.tbls⟩,⟨_,A,λj y G C g E=>?_⟩,λy c e=>?_,I.free,I.freeC,λp hp=>?_,λb u q=>?_,by simpa using I.len⟩
 ·exact(d.2 b (a b o e)).trans (I.base.keep b o e z h f)
 ·obtain⟨O,q⟩:=I.base.slot b o e z h f;exact⟨O,(d.2 b (a b o e)).trans q⟩
 ·obtain⟨o',q⟩:=I.base.there b o e f;exact⟨o',(d.2 b (a b o e)).trans q⟩
 ·by_cases B:j=i
  ·subst B;rw[V4 (by rw[I.len];exact(B6.mp D).1)]at g;cases g
  ·rw[W7 (X7 B)]at g;obtain⟨u,r,l⟩:=w j y G C g E;refine⟨u,r,?_⟩;have M:y≠n:=λz=>B (OP K C (z▸D));rcases l with ⟨k,q⟩|⟨k,c,q,z⟩
   ·exact .inl ⟨k,by simp[M,q]⟩
   ·exact .inr ⟨k,c,q,z.sameBut d (I.cne y c q)⟩
 ·obtain⟨P,z⟩:=I.cell y c e;exact⟨P,z.sameBut d (I.cne y c e)⟩
 ·obtain⟨e,z,ne,r⟩:=I.pin p hp;exact⟨(d.2 p.1 ne).trans e,z,ne,r⟩
 ·have ne:∀c v,H c=some v->c≠X.env.locals:=λc v q z=>by rw[z,I.free]at q;cases q
  refine(I.hok b u q).stay (λc v t r=>(d.2 c ?_).trans r) (λ_ z=>z) λ_ _ z=>z;rcases t with rfl|t
  ·exact ne _ _ q
  ·exact ne _ _ t
theorem Qo{K:W.Frag}{M:Model}{A:Around}{E:Value->Shared->Prop}{s:Shared}{e C D:Addr}{o:Obj}{Q:Bool->Shared->Prop}(X:K.In s.heap)(hC:JN K C)(V:JN K D)(O:mroIn K D (.ref C)=some true)
  (q:s.heap.get? e=some o) (a:o.cls=.ref D) (p:Q true s):wpAny M A (excMatches (.ref e) (.ref C)) Q E s:=by
 obtain⟨h,g,d,t,os⟩:=s;obtain⟨bm,N,nm,qn,bs,hd,sn,sub,ab,col,dd,k0,k1,k2,k3,k5,mN,u,hN,hi,v,w⟩:=MD X V;have c:bm.contains (.type "BaseException")=true:=v.hasType A3;by_cases z:D=C
 ·subst z;exact wpAny_excMatches_sub_self u q a c p
 ·obtain⟨j,N',ad,y,x,H,T,r,G,n,R,Y,U,ac,S,P,I,i,B,Z,m,aa⟩:=MD X hC;have k:(Value.ref C::j).contains (.type "BaseException")=true:=by rw[Y8,m.hasType (X:="BaseException") (b:=true) A3,Bool.or_true]
  have l:(Value.ref D::bm).contains (.ref C)=true:=X5 ((w (.ref C)).symm.trans O);have f:=tc_notTuple;unfold excMatches
  repeat (first
   | (with_reducible refine A4d q ?_;rw[a])
   |with_reducible refine A4d i ?_
   | (with_reducible refine A3e i ?_;rw[k])
   | (with_reducible refine A3e u ?_;rw[l])
   |wp_step)
  exact p
section
variable{X:Cx}{C:Addr}{x n:Str}{np hpos pos:Pos}{i:Nat}{b₀:Stmt}{suite body:List Stmt}{S:St->Prop}{tb:XK->TS}{th:TS}
abbrev WZ(X:Cx)(pins:List (Addr×Obj))(D:MI)(hs:List ExceptHandler):Value->Shared->Prop:=λe s₁ =>
 wpAny (model X.prog X.w) X.A (noteFrame e X.env) (λ_ s₂=>wpAny (model X.prog X.w) X.A (setFlight e none) (λ_ s₃=>wpAny (model X.prog X.w) X.A (handleBy e X.env hs) (SP X pins D) X.xe s₃) X.xe s₂) X.xe s₁
end
section
variable{P:Program}{w:World}{K:W.Frag}{mg:Str->Option Value}{base:Heap}
end
section
variable{X:Cx}{k:Nat}{f:Addr}{fd:FuncData}{ps:List Str}{sp:Sp}{x:Str}{p pos:Pos}{e:Expr}{es:List Expr}{t:TA}
end
section
variable{X:Cx}{tg:Expr}
def Its(x:Str):It:=⟨λi _=>i<x.cps.size,λi H v H'=>H'=H/\∃c,x.cps[i]?=some c/\v=.str ⟨#[c]⟩,λi _=>i=x.cps.size⟩
theorem RV{P:Program}{w:World}{K:W.Frag}(it:Addr)(x:Str)(t:Tok)(T:String)(Y:["enumerate","zip","dict_itemiterator","dict_reverseitemiterator","odict_iterator","itertools.zip_longest","itertools.pairwise"].contains T=false)
  (W:∀A:Around,A.handled=none->Walks P w A it [it] [it] x.cps.size (SignAt x) (λi h=>h.IsStrIter it T x t i))
  (a:∀(A:Around)(i:Nat)(s:Shared)(Q:Value->Shared->Prop)(E:Value->Shared->Prop),s.heap.IsStrIter it T x t i->Q (.ref it) s->wpAny (model P w) A (pyIter (.ref it)) Q E s):RM P w K tg (Its x) [it] it (λi h=>h.IsStrIter it T x t i) where
 mem:=by simp
 obj:=λi h j b f=>by
  have e:b=it:=by simpa using f
  subst e;obtain⟨o,e,c,d⟩:=j;exact⟨o,e,λv z=>by rw[d]at z;cases z⟩
 keep:=λi h h' ⟨o,e,r⟩ k=>⟨o,k it A6 o e,r⟩
 item:=by
  intro X C n q B i pins s σ H E I l j G;subst C n q;obtain⟨M,y,V,m,f4,D⟩:=l it A6;refine(W X.A (I.ok.hd B)).item i s _ _ G j λv h' tk R g p=>?_;obtain⟨c,u,N,rfl⟩:=R;have U:Inv X pins σ H {s with heap:=h',toks:=tk}:=I.turned (λb o f e=>p b o (by simpa using f) e) M y m f4 D;obtain⟨o,e,O,S⟩:=id g;exact⟨_,rfl,Vv (s:={s with heap:=h',toks:=tk}) e O S Y ⟨.str ⟨#[c]⟩,H,U,⟨u,rfl⟩,⟨rfl,c,N,rfl⟩,g,λb f=>(l b f).1⟩⟩
 done:=by
  intro X C n q B i pins s σ H E I l j G;subst C n q;obtain⟨M,y,V,m,f4,D⟩:=l it A6;have z:i=x.cps.size:=G;subst z;exact(W X.A (I.ok.hd B)).done s _ _ j λh' tk p=>⟨rfl,I.turned (λb o f e=>p b o (by simpa using f) e) M y m f4 D⟩
 self:=a
def iStr(tl:TE):TI:=fun σ H R=>tl σ H λv H1=>∃x,v=.str x/\R (Its x) H1
theorem YK{l:Expr}{j:TE}(p:PE X l j):PI X tg l (iStr j):=by
 intro pins s σ H R I h;refine thn (p pins s σ H _ I h) λv a ⟨y,f,c,m,n⟩=>?_;obtain⟨x,rfl,q⟩:=n;obtain⟨t,rfl⟩:=m;have fp:∀b,b∈[a.heap.objs.size]->Id X pins f b:=λb k=>by
  have e:b=a.heap.objs.size:=by simpa using k
  subst e;exact c.fpOk (C1 _) (c.hok.fresh (C1 _))
 cases i:x.cps.all (· < 128)with
 |true =>
  refine wpAny_pyIter_ascii i ?_;refine⟨a.heap.objs.size,[a.heap.objs.size],_,_,f,rfl,c.kept (t':=a.toks) λb o e=>C0 _ e,RV _ x t "str_ascii_iterator" A3 (λA g=>Walks.strAscii g _ x t) (λ_ _ _ _ _ d h=>wpAny_pyIter_striter_ascii d h),⟨_,D5 _ rfl,rfl,rfl⟩,fp,q⟩
 |false =>
  refine wpAny_pyIter_wide i ?_;refine⟨a.heap.objs.size,[a.heap.objs.size],_,_,f,rfl,c.kept (t':=a.toks) λb o e=>C0 _ e,RV _ x t "str_iterator" A3 (λA g=>Walks.strWide g _ x t) (λ_ _ _ _ _ d h=>wpAny_pyIter_striter_wide d h),⟨_,D5 _ rfl,rfl,rfl⟩,fp,q⟩
theorem for_str{x:Str}{g:TG}{j:TS}{D:MI}{σ:St}{H:Hp}(a:Nat->St->Hp->Prop)(o:a 0 σ H)
  (r:∀i c σ H,x.cps[i]?=some c->a i σ H->g (.str ⟨#[c]⟩) σ H fun b h=>j {D with nx:=a (i+1),ct:=a (i+1),bk:=D.nx} b h) (q:∀σ H,a x.cps.size σ H->D.nx σ H) :
  ∃W:Nat->Nat->St->Hp->Prop,(∃m,W 0 m σ H)/\∀i m σ H,W i m σ H ->
   ((Its x).stop i H/\D.nx σ H)\/((Its x).go i H/\∃N:St->Hp->Prop,(∀σ' d,N σ' d->∃k,k<m/\W (i+1) k σ' d)/\∀v d,(Its x).yld i H v d->g v σ d fun b h=>j {D with nx:=N,ct:=N,bk:=D.nx} b h):=by
 refine⟨λi m σ H=>m=x.cps.size-i/\i<=x.cps.size/\a i σ H,⟨x.cps.size,by simp,L9 _,o⟩,?_⟩;rintro i m σ H ⟨rfl,s,p⟩;by_cases f:i<x.cps.size
 ·refine .inr ⟨f,a (i+1),fun σ' d l=>⟨x.cps.size-(i+1),by lia,rfl,f,l⟩,λv d y=>?_⟩;obtain⟨e,c,n,rfl⟩:=y;subst e;exact r i c σ _ n p
 ·have e:i=x.cps.size:=by lia
  subst e;exact .inl ⟨rfl,q σ H p⟩
theorem GT:Ge X (.type "int") (λxs H Q=>∃x n,xs=[.str x]/\PySem.intText? x=some n/\x.length<=640/\Q (.int n) H):=by
 intro pins s σ H xs us Q I r h;obtain⟨x,n,rfl,d,a,q⟩:=h;cases r with
 |cons c b =>
  cases b;obtain⟨t,rfl⟩:=c;exact W.KIN.call_text d a ⟨.int n,H,I.tok _,⟨_,rfl⟩,q⟩
theorem Tj(M:X.calm=true):Ge X (.builtin "all") (λxs H Q=>∃(p:Addr)(bs:List Bool),xs=[.ref p]/\SqL X.K H p (bs.map V.bl)/\Q (.bl (bs.all id)) H):=by
 intro pins s σ H xs us Q I r h;obtain⟨p,bs,rfl,B,q⟩:=h;cases r with
 |cons w R =>
  cases R;cases(show _=Value.ref p from w);obtain⟨a,l,pl,S⟩:=I.list B;have k:p≠s.heap.objs.size:=F5 (by obtain⟨o,n,e,_⟩:=pl;exact C9 e);refine call_all_walk (A3a pl.isList ?_);have d:∀(i:Nat) v,a[i]?=some v->∃b,bs[i]?=some b/\v=.bool b:=λi v e=>by
   cases g:bs[i]? with
   |none =>
    have:a[i]?=none:=l.none_of (by rw[B8,g];rfl);rw[e]at this;cases this
   |some b =>
    obtain⟨u,m,G⟩:=l.get (i:=i) (x:=V.bl b) (by rw[B8,g];rfl);rw[e]at m;cases m;exact⟨b,rfl,G⟩
  refine⟨s.heap.objs.size,_,_,_,_,_,λi=>bs.getD i true,rfl,Walks.list (A:=X.A.in1) (I.ok.hd M) s.heap.objs.size p k a.toArray,⟨⟨_,D5 _ rfl,rfl,rfl⟩,?_⟩,?_,?_⟩
  ·exact pl.isList.at λo e=>C0 _ e
  ·intro i v C D T N f;obtain⟨b,g,rfl⟩:=d i v (by simpa using N);have P:bs.getD i true=b:=by rw[F1,g];rfl
   have f:D (bs.getD i true) C:=f;rw[P]at f;exact A0c f
  ·intro h' tk y;have O:Inv X pins σ H {s with heap:=h',toks:=tk}:=I.kept λb o e=>y b o (by intro z;exact F5 (C9 e) (by simpa using z)) (C0 _ e);have len:a.toArray.size=bs.length:=by rw[D4,<-l.length,B5]
   have t:(List.range a.toArray.size).all (λi=>bs.getD i true)=bs.all id:=by
    rw[len,Q4,O1,O1];constructor
    ·intro z b E;obtain⟨i,j,e⟩:=W5.mp E;have:=z i (M0.mpr j);rw[F1,B9 j,e]at this;exact this
    ·intro z i j;have c:=M0.mp j;rw[F1,B9 c];exact z _ (S1 c)
   rw[t];exact⟨.bl _,H,O,rfl,q⟩
end
section
variable{X:Cx}{iter:Expr}{ti:TE}{x G:Str}{px px1 px2 cpos pos:Pos}{scope:Scope}{g:Str}
end
structure UB(K:W.Frag)(D:Addr):Prop where
 hd:hasDictIn K D=true
 ga:findIn K (.ref D) "__getattribute__" = some (some (.builtin "BaseException.__getattribute__"))
 gt:findIn K (.ref D) "__getattr__" = some none
 cl:findIn K (.ref D) "__class__" = some (some (.builtin "object.__class__"))
 sp:specialIn K (.builtin "object.__class__") "__get__" = some (some (.builtin "getset_descriptor.__get__"))
 tk:takesIn K (.builtin "object.__class__")=some true
 mo:mroIn K D (.type "object")=some true
 mb:mroIn K D (.type "BaseException")=some true
section
variable{K:W.Frag}{prog:Program}{w:World}{A:Around}{E:Value->Shared->Prop}{s:Shared}{a D:Addr}{o:Obj}
open PySem.W Builtin Builtin.ObjectAttr Builtin.Getset_descriptor
theorem ZY{M:Model}{h:Heap}(X:K.In h)(f:UB K D):Looks M h (find (.ref a) (.ref D) "__class__") (.bind (.builtin "getset_descriptor.__get__") (.builtin "object.__class__")) :=
 (looks_findIn X f.cl).andThen ((looks_specialIn X f.sp).andThen ((show Looks M h (dataDescriptor? (some (.builtin "object.__class__")) (some (.builtin "getset_descriptor.__get__"))) (some (.builtin "getset_descriptor.__get__",.builtin "object.__class__"))from(looks_takesIn X f.tk).andThen .now).andThen (Looks.tag .now)))
theorem exc_get{R:Result->Shared->Prop}{c:Value}(X:K.In s.heap)(f:UB K D)(i:s.heap.get? a=some o)(b:o.cls=.ref D)(e:R (.ok (.ret (.ref D))) s) :
  codeAny (model prog w) A (.call (.builtin "getset_descriptor.__get__") ⟨[.builtin "object.__class__",.ref a,c],[]⟩) R s:=by
 obtain⟨h,g,d,t,k⟩:=s;have l:Looks (model prog w) h (typeOf (.ref a)) (.ref D):=b▸(Looks.ld i).andThen .now;have j:=looks_mroIn (M:=model prog w) X f.mo;refine codeAny_call_builtin KF.slot_gs.plain KF.entry_gs (KF.slot_gs.check _ _ _ _ _ _ _ _ KF.type_class (KF.args_gs _ _ _) ?_);unfold Builtin.«getset_descriptor.__get__» descrGet;rw[dga_obj];refine Z5 (K3 ?_);unfold descrGetter descrCheckInstance descrNameAndClass isInstance;simp only[KF.owner_class]
 repeat lk
 refine⟨Code.quiet_builtin _ A1,codeAny_builtin KF.entry_class ?_⟩;unfold Builtin.«object.__class__» shownTypeOf
 repeat lk
 exact e
theorem WH{Q:Option Value->Shared->Prop}(X:K.In s.heap)(f:UB K D)(j:s.heap.get? a=some o)(e:o.cls=.ref D)(q:Q (some (.ref D)) {s with toks:=s.toks+1}) :
  wpAny (model prog w) A (getAttr? (.ref a) "__class__") Q E s:=by
 obtain⟨h,g,d,t,p⟩:=s;have i:Looks (model prog w) h (typeOf (.ref a)) (.ref D):=e▸(Looks.ld j).andThen .now;have l:=looks_findIn (M:=model prog w) X f.ga;have L2:=looks_findIn (M:=model prog w) X f.gt;have k:=ZY (M:=model prog w) (a:=a) X f;have m:Looks (model prog w) h (isInstance (.ref a) (.type "BaseException")) true:=i.andThen (looks_mroIn X f.mb);unfold getAttr? getAttrBy? getAttrBy;refine Z5 (wpAny_mkText (Z5 (A6c (A4e (Z5 (i.at (Z5 (l.at ?_))))))));dsimp only;have r:(Value.builtin "BaseException.__getattribute__" == Value.builtin "object.__getattribute__")=false:=by decide +kernel
 rw[Z6 (by rw[r,Bool.and_false];exact D3)];unfold getAttrByItsOwn hookBefore;rw[Z9 (by rfl)];refine Z5 (L2.at ?_);refine Z5 (A6c (A4e ?_));unfold callGetattribute;rw[Z6 A3];unfold boundAndCalled;refine Z5 (wpAny_of_eq (PySem.F.excAttr_ValueError.ga.bind (.ref a)) ?_);dsimp only;refine wpAny_call (codeAny_call_builtin PySem.F.excAttr_ValueError.ga.plain PySem.F.entry_bexc_ga ?_);have n:builtinKind "BaseException.__getattribute__" = some .slot:=by decide +kernel
 have c:splitId "BaseException.__getattribute__" = some ("BaseException","__getattribute__"):=by decide +kernel
 have b:=PySem.F.args_bexc_ga (.ref a) (.str "__class__" t);simp only[checkBuiltinCall,n,c];refine Z5 (m.at ?_);rw[Z6 A3];refine wpAny_of_eq (a:=()) b ?_;unfold Builtin.«object.__getattribute__»;dsimp only at k
 repeat ((fail_if_success (with_reducible show wpAny _ _ (call _ _) _ _ _));lk)
 refine wpAny_call (exc_get (s:=⟨h,g,d,t+1,p⟩) X f j e ?_);dsimp only
 repeat lk
 exact q
end
inductive TyX(K:W.Frag)(H:Hp):V->Value->Prop where
 |of {x:V} {t:Value} (h:Nq K H x t):TyX K H x t
 |exc {a D:Addr} (e:H a=some (NC a D)) (f:UB K D):TyX K H (.ref a) (.ref D)
theorem Zz{K:W.Frag}{a D:Addr}(f:UB K D):W.KitX K (.ref a) (.ref D) (λh=>∃o,h.get? a=some o/\o.cls=.ref D/\notCls o=true) where
 ty:=λM h X ⟨o,e,c,_⟩=>c▸(W.Looks.ld e).andThen .now
 it:=λM h X _=>by
  obtain⟨r,b,_⟩:=any_some f.hd;unfold clsIn at b;split at b
  ·rename_i p d' i d j;intro v u s s' k q;unfold isType loadHead;exact Z5 (wpAny_loadPart (k _ _ (X _ _ j)) (K3 q))
  ·cases b
 ne:=λh m dd l n t X g=>by
  obtain⟨r,b,_⟩:=any_some f.hd;refine S8.mpr λq=>?_;have e:D=m:=Value.ref.inj (beq_iff_eq.mp q);subst e;unfold clsIn at b;split at b
  ·rename_i p d' i d j;have z:=(X _ _ j).symm.trans g;cases z
  ·cases b
 ca:=λX ⟨o,e,c,_⟩ k=>WH X f e c k
def clsV:V->Option Value
 |.ty n=>some (.type n)
 |.ref C=>some (.ref C)
 |_=>none
theorem Ds{X:Cx}:Ge X (.builtin "isinstance") (λxs H Q=>∃x c d t b,xs=[x,c]/\clsV c=some d/\TyX X.K H x t/\kitOne X.K t d=some b/\Q (.bl b) H):=by
 intro pins s σ H xs us Q I r h;obtain⟨x,c,d,t,b,rfl,g,ty,j,q⟩:=h;cases r with
 |@cons _ u _ _ i o =>
  cases o with
  |@cons _ v _ _ k l =>
   cases l;have m:v=d:=by
    cases c with
    |ty n=>cases g;exact k
    |ref C=>cases g;exact k
    |_=>cases g
   subst m;cases ty with
   |of ty=>exact WB I i ty j λtk=>⟨.bl b,H,I.tok tk,rfl,q⟩
   |@exc a D e f =>
    cases(show u=Value.ref a from i);obtain⟨p,_,_⟩:=(show BW X.prog X.w H s.heap a (NC a D)from I.hok a _ e)
    exact A0b (Zz f) I.kIn (Lw.not p) j (λz=>nomatch z) λtk=>⟨.bl b,H,I.tok tk,rfl,q⟩
def rIsi(K:W.Frag):List V->Hp->VK->Prop:=λxs H Q=>∃x c cv t b,xs=[x,c]/\clsV c=some cv/\TyX K H x t/\kitOne K t cv=some b/\Q (.bl b) H
theorem Qx{X:Cx}(K:W.Frag)(h:X.K=K):Ge X (.builtin "isinstance") (rIsi K):=by
 subst h;exact Ds
section
variable{X:Cx}{c:Expr}{a b:List Stmt}{tc:TT}{t u:TS}{pos:Pos}
end
def GS(env:Env)(a:List (Str×Addr))(x:Str×NameKind):List (Str×Addr):=if(x.2==NameKind.free)=true then(x.1,(env.cells.lookup x.1).getD 0)::a else a
def Uv(env:Env)(l:List (Str×NameKind)):List (Str×Addr):=l.foldl (GS env) []
theorem Uq{α β:Type}{l:List α}{f:α->β->Sem (ForInStep β)}{g:β->α->β}(h:∀x∈l,∀b,f x b=pure (.yield (g b x))):∀b,forIn l b f=pure (l.foldl g b):=by
 induction l with
 |nil=>intro b;rfl
 |cons x l c =>
  intro b;rw[List.forIn_cons,h x C7,pure_bind];exact c (λy a=>h y (C8 _ a)) _
theorem Pi{b:Scope}{d:Env}(h:∀y∈b.names,y.2=.free->∃c,d.cells.lookup y.1=some c):closureFor b d=pure (Uv d b.names):=by
 simp only[closureFor];rw[Uq (g:=GS d) (λx l c=>by
  obtain⟨n,k⟩:=x;by_cases i:k=.free
  ·subst i;obtain⟨a,f⟩:=h _ l rfl;have e:cellOf d n=pure a:=by unfold cellOf;rw[show d.cells.lookup n=some a from f]
   simp only[GS,A2h,A5a,e,show d.cells.lookup n=some a from f,Option.getD_some];rfl
  ·have j:(k==NameKind.free)=false:=by simpa using i
   simp only[GS,j,Bool.false_eq_true,if_false])]
 rfl
theorem Qu(b:Env){y:Str}{c:Addr}:∀(l:List (Str×NameKind))(a:List (Str×Addr)),(l.foldl (GS b) a).lookup y=some c->a.lookup y=some c\/((y,NameKind.free)∈l/\c=(b.cells.lookup y).getD 0)
 |[],a,h=>.inl h
 | (n,k)::r,a,h=>by
  rw[S3]at h;rcases Qu b r _ h with z|⟨z,e⟩
  ·unfold GS at z;split at z
   ·rename_i i;have d:k=.free:=by simpa using i
    rw[P5]at z;split at z
    ·rename_i g;have f:y=n:=by simpa using g
     subst f d;exact .inr ⟨C7,(X5 z).symm⟩
    ·exact .inl z
   ·exact .inl z
  ·exact .inr ⟨C8 _ z,e⟩
theorem Tg(b:Env){y:Str}:∀(l:List (Str×NameKind))(a:List (Str×Addr)),(∃c,a.lookup y=some c)->∃c,(l.foldl (GS b) a).lookup y=some c
 |[],_,h=>h
 | (n,k)::r,a,h=>by
  rw[S3];refine Tg b r _ ?_;unfold GS;split
  ·rw[P5];split
   ·exact⟨_,rfl⟩
   ·exact h
  ·exact h
theorem Uu(b:Env){y:Str}:∀(l:List (Str×NameKind))(a:List (Str×Addr)),(y,NameKind.free)∈l->∃c,(l.foldl (GS b) a).lookup y=some c
 |[],_,h=>by simp at h
 | (n,k)::r,a,h=>by
  rw[S3];rcases B7.mp h with e|h
  ·cases e;refine Tg b r _ ⟨(b.cells.lookup y).getD 0,?_⟩;unfold GS;simp only[A2h,A5a,P5]
  ·exact Uu b r _ h
theorem OJ{a:Env}{y:Str}:∀{b:List (Str×NameKind)},(∀z∈b,z.2≠.cell) ->
  ((b.map λ(n,k)=>if(k==NameKind.free && a.scope.kind==.function && a.kindOf n==some .cell)then(n,NameKind.cell)else(n,k)).lookup y=some .cell \/
   (b.map λ(n,k)=>if(k==NameKind.free && a.scope.kind==.function && a.kindOf n==some .cell)then(n,NameKind.cell)else(n,k)).lookup y=some .free)->(y,NameKind.free)∈b
 |[],_,h=>by simp at h
 | (n,k)::r,hc,h=>by
  have e:=@OJ a y r (λz g=>hc z (C8 _ g));have h':List.lookup y ((if(k==NameKind.free && a.scope.kind==.function && a.kindOf n==some .cell)=true then(n,NameKind.cell)else(n,k))::(r.map λ(n,k)=>if(k==NameKind.free && a.scope.kind==.function && a.kindOf n==some .cell)then(n,NameKind.cell)else(n,k)))=some .cell \/
   List.lookup y ((if(k==NameKind.free && a.scope.kind==.function && a.kindOf n==some .cell)=true then(n,NameKind.cell)else(n,k))::(r.map λ(n,k)=>if(k==NameKind.free && a.scope.kind==.function && a.kindOf n==some .cell)then(n,NameKind.cell)else(n,k)))=some .free:=h
  clear h;by_cases d:(k==NameKind.free && a.scope.kind==.function && a.kindOf n==some .cell)=true
  ·rw[Z9 d]at h';have f:k=.free:=by
    simp only[O6,A4a]at d;exact d.1.1
   simp only[P5]at h';cases c:y==n with
   |true =>
    have:y=n:=by simpa using c
    subst this f;exact C7
   |false =>
    rw[c]at h';exact C8 _ (e h')
  ·rw[Z6 d]at h';simp only[P5]at h';cases c:y==n with
   |true =>
    rw[c]at h';have:y=n:=by simpa using c
    subst this;rcases h' with z|z
    ·exact absurd (X5 z) (hc (y,k) C7)
    ·cases X5 z;exact C7
   |false =>
    rw[c]at h';exact C8 _ (e h')
theorem Mm{a:Env}{y:Str}:∀{b:List (Str×NameKind)},b.lookup y=some .free ->
  ((b.map λ(n,k)=>if(k==NameKind.free && a.scope.kind==.function && a.kindOf n==some .cell)then(n,NameKind.cell)else(n,k)).lookup y=some .cell \/
   (b.map λ(n,k)=>if(k==NameKind.free && a.scope.kind==.function && a.kindOf n==some .cell)then(n,NameKind.cell)else(n,k)).lookup y=some .free)
 |[],h=>by simp at h
 | (n,k)::r,h=>by
  have d:=@Mm a y r;show List.lookup y ((if(k==NameKind.free && a.scope.kind==.function && a.kindOf n==some .cell)=true then(n,NameKind.cell)else(n,k))::(r.map λ(n,k)=>if(k==NameKind.free && a.scope.kind==.function && a.kindOf n==some .cell)then(n,NameKind.cell)else(n,k)))=some .cell \/
   List.lookup y ((if(k==NameKind.free && a.scope.kind==.function && a.kindOf n==some .cell)=true then(n,NameKind.cell)else(n,k))::(r.map λ(n,k)=>if(k==NameKind.free && a.scope.kind==.function && a.kindOf n==some .cell)then(n,NameKind.cell)else(n,k)))=some .free
  rw[P5]at h;by_cases e:(k==NameKind.free && a.scope.kind==.function && a.kindOf n==some .cell)=true
  ·rw[Z9 e];simp only[P5];cases c:y==n with
   |true=>exact .inl rfl
   |false=>rw[c]at h;exact d h
  ·rw[Z6 e];simp only[P5];cases c:y==n with
   |true=>rw[c]at h;exact .inr h
   |false=>rw[c]at h;exact d h
section
variable{prog:Program}{w:World}{A:Around}{R:Result->Shared->Prop}{s:Shared}
abbrev UJ(ifs:List Expr)(env:Env):Sem Bool:=forIn ifs true λc r=>if r=true then do let ok <-isTrue c env (eval c env);pure (ForInStep.yield ok)else pure (ForInStep.yield r)
theorem Td{p a o:Expr}{t:List Expr}{d:Scope}{u:Pos}{it q:Value}{b:Env}(I:Nat->Shared->Prop)
  (y:∀n s,I n s->wpAny (model prog w) A (pyNext it) (λr e=>match r with
   |none=>R (.ok .next) e
   |some v=>wpAny (model prog w) A (letOwnedTupleGo a it v) (λ_ l=>wpAny (model prog w) A (assign a b v) (λ_ k =>
     wpAny (model prog w) A (UJ t b) (λok c =>
      if ok=true then wpAny (model prog w) A (eval p b) (λx g =>
       wpAny (model prog w) A (call (.builtin "list.append") [q,x]) (λ_ f=>∃m,m<n/\I m f) (λ_ _=>False) g) (λ_ _=>False) c
      else ∃m,m<n/\I m c) (λ_ _=>False) k) (λ_ _=>False) l) (λ_ _=>False) e) (λ_ _=>False) s)
  (n:Nat) (h:I n s):codeAny (model prog w) A (.compLoop (.ListComp p [⟨a,o,t,0⟩] d u) 0 it q b) R s:=by
 refine codeAny_loop rfl I (λn s D=>?_) n h;show wpAny _ A ((compTurn (.ListComp p [⟨a,o,t,0⟩] d u) 0 it q b).onRaise (λx=>do noteFrame x b;theTreesLotGoes x)) _ _ s;refine wpAny_noted ?_;rw[compTurn_list];refine Z5 (wpAny_standAt (Z5 (A0f (y n s D) (λr e j=>?_) λ_ _ h'=>h'.elim)));cases r with
 |none=>exact K3 j
 |some v =>
  refine Z5 (A0f j (λ_ l h₀=>?_) λ_ _ h'=>h'.elim);refine Z5 (A0f h₀ (λ_ k z=>Z5 (A0f z (λok c i=>?_) λ_ _ h'=>h'.elim)) λ_ _ h'=>h'.elim);cases ok with
  |false=>exact K3 ⟨rfl,i⟩
  |true =>
   exact Z5 (Z5 (A0f i (λx g B=>Z5 (A0f B (λ_ f C=>K3 (K3 ⟨rfl,C⟩)) λ_ _ h'=>h'.elim)) λ_ _ h'=>h'.elim))
end
def NP(cs:List Nat)(σ:St):St:=cs.map λj=>(σ[j]?).getD none
def cxC(X:Cx)(scope:Scope)(N:List Str)(s:Shared)(H:Hp)(ex:List Addr):Cx :=
 {X with N:=N,s₀:=s,H₀:=H,env:=compEnvC scope (Uv X.env scope.names) s.heap.objs.size X.env,outer:=X.stack,stack:=X.stack,ex:=ex,fn:=λ_=>false,pn:=[],xe:=λ_ _=>False}
def PTs(X:Cx)(ifs:List Expr)(t:TT):Prop :=
 ∀(pins:List (Addr×Obj))(s:Shared)(σ:St)(H:Hp)(Q:Bool->Hp->Prop),Inv X pins σ H s->t σ H Q->wpAny (model X.prog X.w) X.A (UJ ifs X.env) (TP X pins σ Q) X.xe s
def tYes:TT:=λ_ H Q=>Q true H
theorem BX{X:Cx}:PTs X [] tYes:=λ_ _ _ H _ I h=>wpAny_tests_nil ⟨H,I,h⟩
structure BM(X:Cx)(scope:Scope)(N:List Str)(k:Nat)(cs:List Nat):Prop where
 cell:∀y∈scope.names,y.2≠.cell
 kind:scope.kind=.function
 names:∀y∈scope.names,y.2=.local->scope.names.lookup y.1=some .local
 free:∀y∈scope.names,y.2=.free->X.env.scope.names.lookup y.1=some .cell\/X.env.scope.names.lookup y.1=some .free
 len:N.length=k+cs.length
 cap:∀j,j<cs.length->∃x,N[k+j]?=some x/\X.N[cs.getD j 0]?=some x/\scope.names.lookup x=some .free
def Gq(k:Nat)(cs:List Nat)(g:TG)(tc:TT)(te:TE)(J:It)(σ:St)(H1:Hp)(fin:List V->Hp->Prop):Prop :=
 ∃W:Nat->Nat->List V->Hp->Prop,(∃m,W 0 m [] H1)/\∀i m acc H,W i m acc H ->
  (J.stop i H/\fin acc H)\/(J.go i H/\∃Nx:List V->Hp->Prop,(∀acc' H',Nx acc' H'->∃m',m'<m/\W (i+1) m' acc' H')/\∀x H',J.yld i H x H'->g x (List.replicate k none++NP cs σ) H' fun σ2 H2=>(∃ts:St,ts.length=k/\σ2=ts++NP cs σ)/\acc.length<sizeLine /\
   tc σ2 H2 λb H3=>if b=true then te σ2 H3 λv H4=>Nx (acc++[v]) H4 else Nx acc H3)
def tComp(k:Nat)(cs:List Nat)(wi:TI)(g:TG)(tc:TT)(te:TE):TE:=fun σ H Q=>wi σ H λJ H1=>Gq k cs g tc te J σ H1 λacc H2=>∀p,H2 p=none->Q (.ref p) (upd H2 p (.lst acc))
section
variable{X:Cx}{tg iter elt:Expr}{ifs:List Expr}{scope:Scope}{pos:Pos}{wi:TI}{g:TG}{tc:TT}{te:TE}{N:List Str}{k:Nat}{cs:List Nat}
theorem Inv.block{pins:List (Addr×Obj)}{σ:St}{H:Hp}{s s':Shared}{Q:List Addr}(S:BM X scope N k cs)(I:Inv X pins σ H s)
  (f:∀b∈Q,Id X pins H b/\∃o,s.heap.get? b=some o) (K:s'.os=s.os) (hg:AllBare s'.gens) (C:∀b o,s.heap.get? b=some o->s'.heap.get? b=some o) (hn:∃m,s'.heap.Ns s.heap.objs.size m) :
  Inv (cxC X scope N s H Q) [] (List.replicate k none++NP cs σ) H s':=by
 have t:∀{x c},(Uv X.env scope.names).lookup x=some c->X.env.cells.lookup x=some c:=λ{x c} h=>by
  rcases Qu X.env _ _ h with z|⟨z,e⟩
  ·simp at z
  ·obtain⟨a,ha⟩:=I.ok.has x (S.free _ z rfl);rw[e,ha];rfl
 have M:∀b,b∈Q->b≠s.heap.objs.size:=λb n z=>by
  obtain⟨_,o,A⟩:=f b n;exact absurd (C9 A) (by rw[z];exact P3 _)
 refine⟨⟨I.ok.mod,S.kind,I.ok.glob,I.ok.blt,C1 _,λx y c G d=>I.ok.inj x y c (t G) (t d),λx Z=>?_,λx c h _=>(nomatch h),I.ok.hd,I.ok.frames,.inl rfl,λb n=>⟨M b n,λx c h=>?_⟩,I.bs,?_,λb o e n=>?_,λb n hf=>?_,I.stack,I.stkFree⟩,
  K,hg,Un.kept C,?_,λx c h=>?_,I.hok.fresh (C1 _),λx c h=>I.freeC x c (t h),λp hp=>absurd (show p∈([]:List (Addr×Obj))from hp) A6,I.hok.kept C,?_⟩
 ·exact Uu X.env _ _ (OJ S.cell Z)
 ·exact(f b n).1.2.2.2.2.1 x c (t h)
 ·exact D0 I.ok.bsz I.sz
 ·rcases(f b n).1.2.2.2.1 with z|z
  ·exact I.ok.noex b o e z
  ·exact absurd (F2 (C9 e) (D0 I.ok.bsz z)) (P3 _)
 ·rcases B7.mp (I.stkSub b hf)with z|z
  ·exact(f b n).1.2.1 z
  ·exact(f b n).1.2.2.1 z
 ·obtain⟨m,hm⟩:=hn;obtain⟨mo,aa,O⟩:=I.loc;refine⟨m,hm,λi x v G d h3=>?_⟩;have hi:k<=i:=by
   by_cases z:i<k
   ·rw[M9 (by simpa using z),V1,Z9 z]at d;cases d
   ·lia
  obtain⟨j,rfl⟩:∃j,i=k+j:=⟨i-k,by lia⟩
  rw[F3 A6,O3,Nat.add_sub_cancel_left]at d;unfold NP at d;rw[B8]at d;have E:j<cs.length:=by
   by_cases z:j<cs.length
   ·exact z
   ·rw[R5 A0]at d;cases d
  obtain⟨x',V,Y,D⟩:=S.cap j E;rw[show N[k+j]?=some x from G]at V;cases V;rw[B9 E]at d;have r:(σ[cs[j]]?).getD none=some v:=X5 d;rw[F1,B9 E]at Y;have h4:σ[cs[j]]?=some (some v):=by
   cases q:σ[cs[j]]? with
   |none=>rw[q]at r;cases r
   |some w=>rw[q]at r;rw[show w=some v from r]
  have U:=S.free (x,.free) (A0h D) rfl;obtain⟨u,ru,l⟩:=O _ x v Y h4 (.inr U);refine⟨u,ru,?_⟩;rcases l with ⟨z,_⟩|⟨_,c,P,z⟩
  ·have z':X.env.scope.names.lookup x=some .local:=z;rcases U with q|q<;>· rw[z']at q;cases q
  ·obtain⟨c',R⟩:=Uu X.env _ [] (A0h D);have T:=t R;rw[P]at T;cases T;obtain⟨o,A,B⟩:=z;exact .inr ⟨Mm D,c,R,o,C _ _ A,B⟩
 ·obtain⟨v,o,A,B⟩:=I.cell x c (t h);exact⟨v,o,C _ _ A,B⟩
 ·show(List.replicate k none++NP cs σ).length=N.length;rw[C4,O3,S.len];unfold NP;rw[B5]
end
structure TurnQ(C:Cx->Prop)(P:Program)(w:World)(K:W.Frag)(tg:Expr)(J:It)(fp:List Addr)(it:Addr)(tn:Nat->Heap->Prop):Prop where
 obj:∀i h,tn i h->∀b∈fp,∃o,h.get? b=some o/\∀v,o.data≠.cell v
 keep:∀i h h',tn i h->(∀b∈fp,∀o,h.get? b=some o->h'.get? b=some o)->tn i h'
 item:∀(X:Cx),C X->X.prog=P->X.w=w->X.K=K->∀(i:Nat)(pins:List (Addr×Obj))(s:Shared)(σ:St)(H:Hp)(E:Value->Shared->Prop),Inv X pins σ H s->(∀b∈fp,Id X pins H b)->tn i s.heap->J.go i H ->
  wpAny (model P w) X.A (pyNext (.ref it)) (λr s1=>∃u,r=some u/\wpAny (model P w) X.A (letOwnedTupleGo tg (.ref it) u) (λ_ s2=>∃x H',Inv X pins σ H' s2/\Be x u/\J.yld i H x H'/\tn (i+1) s2.heap/\∀b∈fp,H' b=none) E s1) E s
 done:∀(X:Cx),C X->X.prog=P->X.w=w->X.K=K->∀(i:Nat)(pins:List (Addr×Obj))(s:Shared)(σ:St)(H:Hp)(E:Value->Shared->Prop),Inv X pins σ H s->(∀b∈fp,Id X pins H b)->tn i s.heap->J.stop i H ->
  wpAny (model P w) X.A (pyNext (.ref it)) (λr s1=>r=none/\Inv X pins σ H s1) E s
 self:∀(A:Around)(i:Nat)(s:Shared)(Q:Value->Shared->Prop)(E:Value->Shared->Prop),tn i s.heap->Q (.ref it) s->wpAny (model P w) A (pyIter (.ref it)) Q E s
theorem RM.q{P:Program}{w:World}{K:W.Frag}{b:Expr}{J:It}{fp:List Addr}{it:Addr}{a:Nat->Heap->Prop}(T:RM P w K b J fp it a):TurnQ (λX=>X.calm=true) P w K b J fp it a :=
 ⟨T.obj,T.keep,λX c p w k=>T.item X p w k c,λX c p w k=>T.done X p w k c,T.self⟩
section
variable{X:Cx}{tg iter elt:Expr}{ifs:List Expr}{scope:Scope}{pos:Pos}{wi:TI}{g:TG}{tc:TT}{te:TE}{N:List Str}{k:Nat}{cs:List Nat}{fin:List V->Hp->Prop}
theorem WL{pins:List (Addr×Obj)}{σ:St}{C:Hp}{sD s1:Shared}{it D:Addr}{fp:List Addr}{tn:Nat->Heap->Prop}{J:It}{n0:Nat}{RR:Result->Shared->Prop}{Cq:Cx->Prop}(hc:∀s H U,Cq (cxC X scope N s H U))(S:BM X scope N k cs)
  (hg:∀s H U,PG (cxC X scope N s H U) tg g) (ht:∀s H U,PTs (cxC X scope N s H U) ifs tc) (he:∀s H U,PE (cxC X scope N s H U) elt te)
  (ID:Inv X pins σ C sD) (hD:sD.heap.get? D=some {cls:=.type "list",data:=.seq ([]:List Value).toArray n0}) (af:X.s₀.heap.objs.size<=D) (fD:Id X pins C D) (ae:D∉fp)
  (T:TurnQ Cq X.prog X.w X.K tg J fp it tn) (st:tn 0 sD.heap) (f2:∀b∈fp,Id X pins C b) (a:Gq k cs g tc te J σ C fin)
  (av:s1.os=sD.os) (au:AllBare s1.gens) (hk:∀b o,sD.heap.get? b=some o->s1.heap.get? b=some o) (hn:∃m,s1.heap.Ns sD.heap.objs.size m)
  (aq:∀(t:Hp)(f:List V)(P:Shared),fin f t->t D=none->Inv X pins σ (upd t D (.lst f)) P->(∃m,P.heap.Ns sD.heap.objs.size m)->Id X pins (upd t D (.lst f)) sD.heap.objs.size->RR (.ok .next) P) :
  codeAny (model X.prog X.w) X.A (.compLoop (.ListComp elt [⟨tg,iter,ifs,0⟩] scope pos) 0 (.ref it) (.ref D) (compEnvC scope (Uv X.env scope.names) sD.heap.objs.size X.env)) RR s1:=by
 obtain⟨W,⟨m0,w0⟩,ad⟩:=a;have Q:∀b,b∈D::fp->∃o,sD.heap.get? b=some o:=λb a=>by
  rcases B7.mp a with rfl|z
  ·exact⟨_,hD⟩
  ·obtain⟨o,e,_⟩:=T.obj _ _ st b z;exact⟨o,e⟩
 have l:∀b∈D::fp,Id X pins C b/\∃o,sD.heap.get? b=some o:=λb a=>⟨by
  rcases B7.mp a with rfl|z
  ·exact fD
  ·exact f2 b z,Q b a⟩
 have M:∀b,b∈D::fp->b≠sD.heap.objs.size:=λb a z=>by
  obtain⟨o,e⟩:=Q b a;exact absurd (C9 e) (by rw[z];exact P3 _)
 have ag:∀b,b∈D::fp->b∉frs X.stack:=λb a hf=>by
  rcases B7.mp (ID.stkSub b hf)with z|z
  ·exact(l b a).1.2.1 z
  ·exact(l b a).1.2.2.1 z
 have I0:=ID.block S l av au hk hn;have am:=I0.ok;have G:∀b,b∈D::fp->∀x c,(Uv X.env scope.names).lookup x=some c->c≠b:=λb a x c h=>(am.exf b a).2 x c h;have E:∀{t:Hp}{pl:List (Addr×Obj)},(∀b∈fp,t b=none)->(∀p∈pl,p.1=D)->∀b∈fp,Id (cxC X scope N sD C (D::fp)) pl t b:=λhn hp b a =>
  ⟨hn b a,M b (.tail _ a),ag b (.tail _ a),.inl (.tail _ a),G b (.tail _ a),λp as z=>ae (by
   have:=hp p as;rw[<-this,z];exact a)⟩
 refine Td (λn s'=>∃(i:Nat)(f:List V)(d:List Value)(I:Nat)(t:Hp),Inv (cxC X scope N sD C (D::fp)) [] (List.replicate k none++NP cs σ) t s'/\tn i s'.heap/\(∀b∈fp,t b=none)/\t D=none/\f.length<=sizeLine/\AO f d /\
  s'.heap.get? D=some {cls:=.type "list",data:=.seq d.toArray I}/\W i n f t) ?_ m0
  ⟨0,[],[],n0,C,I0,T.keep _ _ _ st (λb _ o e=>hk b o e),λb a=>(f2 b a).1,fD.1,L9 _,.nil,hk _ _ hD,w0⟩
 rintro n s3 ⟨i,f,d,I,Y,I3,al,ak,aa,ah,v3,e3,w3⟩;have ab:Inv (cxC X scope N sD C (D::fp)) [(D,{cls:=.type "list",data:=.seq d.toArray I})] (List.replicate k none++NP cs σ) Y s3:=I3.pins_of λp hp=>by
  rw[D6]at hp;subst hp;exact⟨e3,aa,M D (.head _),ag D (.head _),λv z=>by cases z⟩
 have one:∀p∈[((D,{cls:=.type "list",data:=.seq d.toArray I}):Addr×Obj)],p.1=D:=λp hp=>by
  rw[D6]at hp;subst hp;rfl
 rcases ad i n f Y w3 with ⟨ac,qf⟩|⟨go,Nx,ai,step⟩
 ·refine thn (T.done (cxC X scope N sD C (D::fp)) (hc _ _ _) rfl rfl rfl i _ s3 _ Y _ ab (E ak one) al ac) λr P ⟨hr,Z⟩=>?_;subst hr;have IX:Inv X pins σ Y P:=ID.call' (ch:=D::fp) Z.os Z.base Z.hok Z.bare λb a=>⟨(l b a).1.2.2.2.1,(l b a).1.2.1,(l b a).1.2.2.2.2.1,(l b a).1.2.2.2.2.2⟩
  have p4:=(Z.pin (D,{cls:=.type "list",data:=.seq d.toArray I}) (by show _∈[]++[_];simp)).1;have IY:Inv X pins σ (upd Y D (.lst f)) P:=by
   refine IX.track aa (Q6 af) (Q6 (D0 ID.ok.bsz af)) (X7 fD.2.1) fD.2.2.2.2.1 fD.2.2.2.2.2 (λb a z=>fD.2.2.1 (z▸a)) ?_;exact⟨ah,d,I,v3,p4⟩
  refine aq Y f P qf aa IY ?_ (ID.fpOk (C1 _) ?_)
  ·obtain⟨m,hm,_⟩:=Z.loc;exact⟨m,hm⟩
  ·rw[Ax (X7 (M D (.head _)))];exact Z.free
 ·refine thn (T.item (cxC X scope N sD C (D::fp)) (hc _ _ _) rfl rfl rfl i _ s3 _ Y (λ_ _=>False) ab (E ak one) al go) λr P ⟨u,hr,h4⟩=>?_;subst hr;refine thn h4 λ_ s5 ⟨x,H5,I5,r5,y5,R,aw⟩=>?_;have ao:=I5.pinned (E aw one) (T.obj _ _ R);refine thn (hg sD C (D::fp) _ s5 _ H5 x u _ ao r5 (step x H5 y5)) λ_ s6 ⟨O,H6,I6,⟨ts,tl,aj⟩,ay,q6⟩=>?_;refine thn (ht sD C (D::fp) _ s6 O H6 _ I6 q6) λb s7 ⟨H7,I7,q7⟩=>?_;have weak:∀{pl:List (Addr×Obj)}{t:Hp}{s':Shared},Inv (cxC X scope N sD C (D::fp)) pl O t s'->Inv (cxC X scope N sD C (D::fp)) [] (List.replicate k none++NP cs σ) t s':=λ{pl t s'} J=>by
   refine(J.weak (σ':=List.replicate k none++NP cs σ) ?_ λj v e=>?_).pins_of λp hp=>absurd hp A6
   ·rw[aj,C4,C4,O3,tl]
   ·by_cases z:j<k
    ·rw[M9 (by simpa using z),V1,Z9 z]at e;cases e
    ·rw[F3 (by rw[O3];lia),O3]at e;rw[aj,F3 A0,tl];exact e
  have B:∀{pl:List (Addr×Obj)}{σ':St}{t:Hp}{s':Shared},Inv (cxC X scope N sD C (D::fp)) (pl++MV fp s5.heap) σ' t s'->tn (i+1) s'.heap/\∀b∈fp,t b=none:=λ{pl σ' t s'} J =>
   ⟨T.keep _ _ _ R λb a o e=>(J.pin (b,o) (F6 _ (F6 _ (IR a e)))).1,λb a=>by
    obtain⟨o,e,_⟩:=T.obj _ _ R b a;exact(J.pin (b,o) (F6 _ (F6 _ (IR a e)))).2.1⟩
  cases b with
  |false =>
   have an:Nx f H7:=by simpa using q7
   obtain⟨m',hm,w7⟩:=ai _ _ an;rw[Z6 D3];have p7:=I7.pin (D,{cls:=.type "list",data:=.seq d.toArray I}) (F6 _ (Q5 _ (D6.mpr rfl)));exact⟨m',hm,i+1,f,d,I,H7,weak I7,(B I7).1,(B I7).2,p7.2.1,ah,v3,p7.1,w7⟩
  |true =>
   rw[Z9 rfl]at q7;rw[Z9 rfl];refine thn (he sD C (D::fp) _ s7 O H7 _ I7 q7) λy s8 ⟨v,H8,I8,r8,q8⟩=>?_;obtain⟨m',hm,w8⟩:=ai _ _ q8;have p8:=I8.pin (D,{cls:=.type "list",data:=.seq d.toArray I}) (F6 _ (Q5 _ (D6.mpr rfl)));have ax:=v3.length;refine A2b F.slot_list_append ⟨_,p8.1,rfl⟩ F.entry_list_append (F.args_list_append_2 _ _) (PySem.list_append D d.toArray I y (by rw[D4];lia)) ⟨p8.1,?_⟩;have q:=PySem.IsL.update p8.1 (·.push y);have eq:d.toArray.push y=(d++[y]).toArray:=by simp
   dsimp only at q;rw[eq]at q;have ar:Inv (cxC X scope N sD C (D::fp)) ([]++MV fp s5.heap) O H8 s8:=I8.pins_of λp hp=>I8.pin p (F6 _ (F6 _ hp));have I9:=ar.turned (t':=s8.toks) (it:=D) (h':=s8.heap.update D (Obj.mapSeq (·.push y))) (λb o a e=>(O2 s8.heap (Obj.mapSeq (·.push y)) (X7 a)).trans e) p8.2.1 (M D (.head _)) (.inl (.head _)) (G D (.head _))
    (λp hp z=>ae (by
     have:=(Qd (fp:=fp) (h:=s5.heap) (p:=p) (by simpa[cxC] using hp)).1;rw[z]at this;exact this))
   refine⟨m',hm,i+1,f++[v],d++[y],_,H8,weak I9,(B I9).1,(B I9).2,p8.2.1,?_,v3.append (.cons r8 .nil),q,w8⟩;rw[C4,P8];lia
theorem Ph{pins:List (Addr×Obj)}{σ:St}{x:Hp}{a:Shared}{it:Addr}{fp:List Addr}{G:Nat->Heap->Prop}{J:It}{RR:Value->Addr->Result->Shared->Prop}{E:Value->Shared->Prop}{Cq:Cx->Prop}(R:∀s H p,Cq (cxC X scope N s H p))(S:BM X scope N k cs)
  (U:∀s H p,PG (cxC X scope N s H p) tg g) (ht:∀s H p,PTs (cxC X scope N s H p) ifs tc) (Z:∀s H p,PE (cxC X scope N s H p) elt te)
  (v:Inv X pins σ x a) (T:TurnQ Cq X.prog X.w X.K tg J fp it G) (O:G 0 a.heap) (f2:∀b∈fp,Id X pins x b) (Q:Gq k cs g tc te J σ x fin)
  (B:∀(D C:Addr)(q:Hp)(d:List V)(r:Shared),fin d q->q D=none->Inv X pins σ (upd q D (.lst d)) r->(∃m,r.heap.Ns C m)->Id X pins (upd q D (.lst d)) C->RR (.ref D) C (.ok .next) r) :
  wpAny (model X.prog X.w) X.A (newList []) (λd c=>wpAny (model X.prog X.w) X.A (newFunctionEnv scope X.env.globals (Uv X.env scope.names) [] X.env.qual none .none (some X.env)) (λn t =>
   codeAny (model X.prog X.w) X.A (.compStart (.ListComp elt [⟨tg,iter,ifs,0⟩] scope pos) 0 (.ref it) d {n with scope:=relabel scope X.env}) (RR d n.locals) t) E c) E a:=by
 refine A4c (wpAny_newFunctionEnv S.cell (by intro y P;simp at P) (λj h f=>?_) S.kind);dsimp only at h f⊢;have i:∀b o,a.heap.get? b=some o->(a.heap.push {cls:=.type "list",dict:=none,data:=.seq ([]:List Value).toArray}).get? b=some o:=λb o e=>C0 _ e;have ID:Inv X pins σ x {a with heap:=a.heap.push {cls:=.type "list",dict:=none,data:=.seq ([]:List Value).toArray} }:=v.kept (t':=a.toks) i;have Y:(a.heap.push {cls:=.type "list",dict:=none,data:=.seq ([]:List Value).toArray}).get? a.heap.objs.size=some {cls:=.type "list",data:=.seq ([]:List Value).toArray}:=D5 _ rfl;have I:a.heap.objs.size∉fp:=λz=>by
  obtain⟨o,e,_⟩:=T.obj _ _ O _ z;exact absurd (C9 e) (P3 _)
 have u:G 0 (a.heap.push {cls:=.type "list",dict:=none,data:=.seq ([]:List Value).toArray}):=T.keep _ _ _ O λb _ o e=>i b o e;have M:∀b o,(a.heap.push {cls:=.type "list",dict:=none,data:=.seq ([]:List Value).toArray}).get? b=some o->j.get? b=some o:=λb o e=>f.extBut b o (F5 (C9 e)) (C0 _ e);have l:∀c:Shared,c={a with heap:=j,toks:=a.toks+([]:List (Str×Value)).length} ->
   codeAny (model X.prog X.w) X.A (.compLoop (.ListComp elt [⟨tg,iter,ifs,0⟩] scope pos) 0 (.ref it) (.ref a.heap.objs.size) (compEnvC scope (Uv X.env scope.names) (a.heap.push {cls:=.type "list",dict:=none,data:=.seq ([]:List Value).toArray}).objs.size X.env))
    (RR (.ref a.heap.objs.size) (a.heap.push {cls:=.type "list",dict:=none,data:=.seq ([]:List Value).toArray}).objs.size) c:=by
  rintro c rfl;exact WL (sD:={a with heap:=a.heap.push {cls:=.type "list",dict:=none,data:=.seq ([]:List Value).toArray} }) R S U ht Z ID Y v.sz (v.fpOk (C1 _) v.fresh) I T u f2 Q rfl v.bare M ⟨_,h⟩ λq d r=>B _ _ q d r
 exact codeAny_compStart_list (l _ rfl) (T.self _ 0 _ _ _ (T.keep _ _ _ u λb _ o e=>M b o e) (l _ rfl))
theorem Di(G:X.calm=true)(S:BM X scope N k cs)(M:PI X tg iter wi)(O:∀s H d,PG (cxC X scope N s H d) tg g)(Y:∀s H d,PTs (cxC X scope N s H d) ifs tc)(R:∀s H d,PE (cxC X scope N s H d) elt te)
  (z:∀x,foldedSetIterable iter X.env x=pure x:=by intro _;rfl):PE X (.ListComp elt [⟨tg,iter,ifs,0⟩] scope pos) (tComp k cs wi g tc te):=by
 intro pins s σ H Q I h;rw[eval_ListComp];refine wpAny_comprehension_free (use:=none) rfl z (Pi λy E Z=>I.ok.has _ (S.free y E Z)) S.kind S.names (thn (M pins s σ H _ I h) λv s1 r=>thn r λn s2 V=>?_);obtain⟨it,fp,tn,J,H2,rfl,K,T,i,U,f⟩:=V;refine Ph (RR:=λa C=>compPost (model X.prog X.w) X.A X.xe none (EP X pins σ Q) a C) (Cq:=λX=>X.calm=true) (λ_ _ _=>G) S O Y R K T.q i U f λD C P a j u t B hn c=>?_;obtain⟨m,p⟩:=hn;refine⟨m,p,λh' l=>⟨.ref D,upd P D (.lst a),?_,rfl,u D t⟩⟩;exact B.turned (t':=j.toks) (it:=C) (λb o f e=>(l.2 b f).trans e) c.1 c.2.1 c.2.2.2.1 c.2.2.2.2.1 c.2.2.2.2.2
def Yd(i k:Nat)(cs:List Nat)(wi:TI)(g:TG)(tc:TT)(te:TE):TS:=λD σ H=>wi σ H λJ H1=>Gq k cs g tc te J σ H1 λacc H2=>∀p,H2 p=none->D.nx (σ.set i (some (.ref p))) (upd H2 p (.lst acc))
theorem Ew{i:Nat}{y:Str}{j c:Pos}(hc:X.calm=true)(hN:X.N.Nodup)(B:X.N[i]?=some y)(n:X.env.scope.names.lookup y=some .local)(S:BM X scope N k cs)(hi:PI X tg iter wi)
  (hg:∀s H l,PG (cxC X scope N s H l) tg g) (ht:∀s H l,PTs (cxC X scope N s H l) ifs tc) (he:∀s H l,PE (cxC X scope N s H l) elt te)
  (p:swapsWith (.ListComp elt [⟨tg,iter,ifs,0⟩] scope pos) (some (.Name y j)) c.line X.env=pure true:=by rfl) (Z:∀x,foldedSetIterable iter X.env x=pure x:=by intro _;rfl) :
  PS X (.Assign [.Name y j] (.ListComp elt [⟨tg,iter,ifs,0⟩] scope pos) c) (Yd i k cs wi g tc te):=by
 intro pins s σ H D I h;rw[exec_Assign_Name_used _ _ _ _ p];refine Z5 (wpAny_standAt (Z5 ?_));show wpAny _ X.A (do let _ <-comprehension (.ListComp elt [⟨tg,iter,ifs,0⟩] scope pos) scope X.env _ (newList []) false (eval iter X.env) (some (assign (.Name y j) X.env))) _ _ s;refine Z5 (A0f (wpAny_comprehension_free (use:=some (assign (.Name y j) X.env)) (Q:=λ_ s'=>SP X pins D .next s') rfl Z (Pi λy n hf=>I.ok.has _ (S.free y n hf)) S.kind S.names
  (thn (hi pins s σ H _ I h) λv s1 U=>thn U λP s2 h2=>?_)) (λ_ s' O=>K3 (K3 O)) λ_ _ e=>e)
 obtain⟨it,fp,tn,J,H2,rfl,I2,T,G,f2,t⟩:=h2;refine Ph (RR:=λf C=>compPost (model X.prog X.w) X.A X.xe (some (assign (.Name y j) X.env)) (λ_ s'=>SP X pins D .next s') f C) (Cq:=λX=>X.calm=true) (λ_ _ _=>hc) S hg ht he I2 T.q G f2 t λL C H' f s4 Y V J4 hn d=>?_;obtain⟨m,R⟩:=hn;show wpAny _ X.A (assign (.Name y j) X.env (.ref L)) _ _ _;refine wpAny_assign_Name (PZ J4 hN B (.inl n) (v:=.ref L) rfl (λK J5 E=>?_) (.inr n));obtain⟨a,M,ha⟩:=E;have u:C≠a:=by
  rcases ha with z|z
  ·rw[z];exact d.2.1
  ·exact λq=>d.2.2.2.2.1 y a z q.symm
 refine⟨m,R.sameBut M u,λh' r=>⟨σ.set i (some (.ref L)),upd H' L (.lst f),?_,Y L V⟩⟩;exact J5.turned (t':=K.toks) (it:=C) (λb o t e=>(r.2 b t).trans e) d.1 d.2.1 d.2.2.2.1 d.2.2.2.2.1 d.2.2.2.2.2
end
section
variable{K:W.Frag}{k:Nat}{cs:List Nat}{g:TG}{tc:TT}{te:TE}{σ:St}{H:Hp}{fin:List V->Hp->Prop}
abbrev Bt(k:Nat)(cs:List Nat)(g:TG)(tc:TT)(te:TE)(σ:St)(x:V)(acc:List V)(H:Hp)(Nx:List V->Hp->Prop):Prop :=
 g x (List.replicate k none++NP cs σ) H fun σ2 H2=>(∃ts:St,ts.length=k/\σ2=ts++NP cs σ)/\acc.length<sizeLine/\tc σ2 H2 λb H3=>if b=true then te σ2 H3 λv H4=>Nx (acc++[v]) H4 else Nx acc H3
theorem Dt{a:Addr}{xs:List V}(c:Nat->List V->Hp->Prop)(l:c 0 [] H)(j:∀i b H,i<=xs.length->c i b H->SqL K H a xs)
  (r:∀i x b H,xs[i]?=some x->c i b H->Bt k cs g tc te σ x b H (c (i+1))) (n:∀b H,c xs.length b H->fin b H):Gq k cs g tc te (Itl K a) σ H fin:=by
 refine⟨λi m b H=>m=xs.length-i/\i<=xs.length/\c i b H,⟨xs.length,by simp,L9 _,l⟩,?_⟩;rintro i m b H ⟨rfl,o,p⟩;have q:=j i b H o p;by_cases d:i<xs.length
 ·refine .inr ⟨⟨xs,xs[i],q,by simp[d]⟩,c (i+1),λf s h=>⟨xs.length-(i+1),by lia,rfl,d,h⟩,λx s y=>?_⟩;obtain⟨e,y⟩:=y;subst e;exact r i x b _ (y xs q) p
 ·have e:i=xs.length:=by lia
  subst e;exact .inl ⟨⟨xs,q,C1 _⟩,n b H p⟩
theorem RF{a:Addr}{xs:List V}(c:Nat->List V->Hp->Prop)(l:c 0 [] H)(j:∀i b H,i<=xs.length->c i b H->SqT K H a xs)
  (r:∀i x b H,xs[i]?=some x->c i b H->Bt k cs g tc te σ x b H (c (i+1))) (n:∀b H,c xs.length b H->fin b H):Gq k cs g tc te (Itt K a) σ H fin:=by
 refine⟨λi m b H=>m=xs.length-i/\i<=xs.length/\c i b H,⟨xs.length,by simp,L9 _,l⟩,?_⟩;rintro i m b H ⟨rfl,o,p⟩;have q:=j i b H o p;by_cases d:i<xs.length
 ·refine .inr ⟨⟨xs,xs[i],q,by simp[d]⟩,c (i+1),λf s h=>⟨xs.length-(i+1),by lia,rfl,d,h⟩,λx s y=>?_⟩;obtain⟨e,y⟩:=y;subst e;exact r i x b _ (y xs q) p
 ·have e:i=xs.length:=by lia
  subst e;exact .inl ⟨⟨xs,q,C1 _⟩,n b H p⟩
theorem WN{lo:Int}{n:Nat}(c:Nat->List V->Hp->Prop)(h:c 0 [] H)(l:∀i a H,i<n->c i a H->Bt k cs g tc te σ (.int (lo+i)) a H (c (i+1)))(j:∀a H,c n a H->fin a H):Gq k cs g tc te (Itr lo n) σ H fin:=by
 refine⟨λi m a H=>m=n-i/\i<=n/\c i a H,⟨n,by simp,L9 _,h⟩,?_⟩;rintro i m a H ⟨rfl,q,p⟩;by_cases b:i<n
 ·refine .inr ⟨b,c (i+1),λd o f=>⟨n-(i+1),by lia,rfl,b,f⟩,λx o y=>?_⟩;obtain⟨e,y⟩:=y;subst e y;exact l i a _ b p
 ·have e:i=n:=by lia
  subst e;exact .inl ⟨C1 _,j a H p⟩
end
section
variable{prog:Program}{w:World}{A:Around}{E:Value->Shared->Prop}{s:Shared}
theorem Mv{I t:Addr}{k:Nat}{vs:Array Value}{v:Value}{Q:Value->Shared->Prop}(c:s.heap.IsTupleIter I t k)(d:s.heap.IsTuple t vs)(e:vs[k]?=some v)
  (q:∀g,g.IsTupleIter I t (k+1)->Heap.SameBut I s.heap g->Q v {s with heap:=g}):wpAny (model prog w) A (Builtin.SmallTypes.nextOf (.ref I)) Q E s:=by
 obtain⟨l,b,h,a⟩:=id c;obtain⟨m,i,_,j,f⟩:=d;unfold Builtin.SmallTypes.nextOf;refine Z5 (wpAny_callSpecial?_slot (name:=Str.ofString "__next__") c.typeIs A2c (A4h A2c c.typeIs F.entry_tuple_iterator_next ?_ (F.args_tuple_iterator_next_1 _)));show wpAny _ _ (field (.ref I) 0 >>= _) _ _ s;refine Z5 (A0d b a (x:=.ref t) rfl ?_);show wpAny _ _ (if(Value.ref t==Value.none)=true then _ else _) _ _ s;rw[Z6 (λz:(Value.ref t==Value.none)=true=>D3 z)];show wpAny _ _ (field (.ref I) 1 >>= _) _ _ s;refine Z5 (A0d b a (x:=.int k 0) rfl ?_);show wpAny _ _ (seqItems? (.ref t) >>= _) _ _ s;refine Z5 (A1e i f ?_);simp only[L7,e];refine Z5 (A3g b a A6 (K3 ⟨v,rfl,K3 (q _ ?_ (Heap.SameBut.update ..))⟩));exact⟨_,R6 _ b (A3b (A1d a _)),(Obj.cls_mapFields ..).trans h,by rw[A1d a];simp[rawInt]⟩
theorem MZ{I t:Addr}{k:Nat}{vs:Array Value}{Q:Value->Shared->Prop}(f:A.handled=none)(b:s.heap.IsTupleIter I t k)(h:s.heap.IsTuple t vs)(i:vs[k]?=none)
  (q:∀g e,Heap.ExtBut I s.heap g->(∃o,g.get? e=some o/\o.cls=.type "StopIteration")->E (.ref e) {s with heap:=g}):wpAny (model prog w) A (Builtin.SmallTypes.nextOf (.ref I)) Q E s:=by
 obtain⟨r,c,p,d⟩:=id b;obtain⟨u,l,_,n,j⟩:=h;unfold Builtin.SmallTypes.nextOf;refine Z5 (wpAny_callSpecial?_slot (name:=Str.ofString "__next__") b.typeIs A2c (A4h A2c b.typeIs F.entry_tuple_iterator_next ?_ (F.args_tuple_iterator_next_1 _)));show wpAny _ _ (field (.ref I) 0 >>= _) _ _ s;refine Z5 (A0d c d (x:=.ref t) rfl ?_);show wpAny _ _ (if(Value.ref t==Value.none)=true then _ else _) _ _ s;rw[Z6 (λz:(Value.ref t==Value.none)=true=>D3 z)];show wpAny _ _ (field (.ref I) 1 >>= _) _ _ s;refine Z5 (A0d c d (x:=.int k 0) rfl ?_);show wpAny _ _ (seqItems? (.ref t) >>= _) _ _ s;refine Z5 (A1e l j ?_);simp only[L7,i];refine Z5 (wpAny_rule (Z5 (A3g c d A6 ?_)));show wpAny _ _ (newExc (.type "StopIteration") [] >>= _) _ _ _;refine Z5 ?_;simp only[newExc,newTuple];refine Z5 (A4c ?_ (by size_fits));refine Z5 (m:=firstArgMember _ _) (wpAny_of_eq (a:=Value.none) (by first|rfl|(simp only[firstArgMember];rfl)) (A4c ?_ (by size_fits)));simp only[raiseNew];refine Z5 (wpAny_handled ?_)
 first|rw[show A.in1.handled=none from f]|rw[f]
 refine Z5 (K3 (wpAny_throw (q _ _ (((Heap.SameBut.update ..).extBut.push _).push _) ⟨_,D5 _ rfl,rfl⟩)))
def Cu:Bool->Heap->Addr->Addr->Nat->Prop
 |true,h,I,l,k=>h.IsTupleIter I l k
 |false,h,I,l,k=>h.IsListIter I l k
def DP:Bool->Heap->Addr->Array Value->Prop
 |true,h,l,vs=>h.IsTuple l vs
 |false,h,l,vs=>h.IsList l vs
def SqX(K:W.Frag):Bool->Hp->Addr->List V->Prop
 |true,H,a,xs=>SqT K H a xs
 |false,H,a,xs=>SqL K H a xs
theorem Cu.move{b:Bool}{h g:Heap}{I l:Addr}{k:Nat}(x:Cu b h I l k)(e:∀o,h.get? I=some o->g.get? I=some o):Cu b g I l k:=by
 cases b with
 |true=>obtain⟨o,a,r⟩:=x;exact⟨o,e _ a,r⟩
 |false=>obtain⟨o,a,r⟩:=x;exact⟨o,e _ a,r⟩
theorem Cu.there{b:Bool}{h:Heap}{I l:Addr}{k:Nat}(x:Cu b h I l k):∃o,h.get? I=some o/\∀v,o.data≠.cell v:=by
 cases b with
 |true=>obtain⟨o,a,_,d⟩:=x;exact⟨o,a,λv z=>by rw[d]at z;cases z⟩
 |false=>obtain⟨o,a,_,d⟩:=x;exact⟨o,a,λv z=>by rw[d]at z;cases z⟩
theorem DP.move{b:Bool}{h g:Heap}{l:Addr}{vs:Array Value}(x:DP b h l vs)(e:∀o,h.get? l=some o->g.get? l=some o):DP b g l vs:=by
 cases b with
 |true=>obtain⟨o,a,r⟩:=x;exact⟨o,e _ a,r⟩
 |false=>obtain⟨o,a,r⟩:=x;exact⟨o,e _ a,r⟩
theorem Dx{b:Bool}{I l:Addr}{k:Nat}{vs:Array Value}{v:Value}{Q:Value->Shared->Prop}(a:Cu b s.heap I l k)(c:DP b s.heap l vs)(d:vs[k]?=some v)
  (q:∀g,Cu b g I l (k+1)->Heap.SameBut I s.heap g->Q v {s with heap:=g}):wpAny (model prog w) A (Builtin.SmallTypes.nextOf (.ref I)) Q E s:=by
 cases b with
 |true=>exact Mv a c d q
 |false=>exact wpAny_nextOf_list_item a c d q
theorem Ga{b:Bool}{I l:Addr}{k:Nat}{vs:Array Value}{Q:Value->Shared->Prop}(f:A.handled=none)(a:Cu b s.heap I l k)(c:DP b s.heap l vs)(d:vs[k]?=none)
  (q:∀g e,Heap.ExtBut I s.heap g->(∃o,g.get? e=some o/\o.cls=.type "StopIteration")->E (.ref e) {s with heap:=g}):wpAny (model prog w) A (Builtin.SmallTypes.nextOf (.ref I)) Q E s:=by
 cases b with
 |true=>exact MZ f a c d q
 |false=>exact wpAny_nextOf_list_end f a c d q
theorem FO{b:Bool}{l:Addr}{vs:Array Value}{Q:Value->Shared->Prop}(a:DP b s.heap l vs)
  (q:∀g,Cu b g s.heap.objs.size l 0->g.objs.size=s.heap.objs.size+1->(∀c o,s.heap.get? c=some o->g.get? c=some o)->Q (.ref s.heap.objs.size) {s with heap:=g}):wpAny (model prog w) A (pyIter (.ref l)) Q E s:=by
 cases b with
 |true=>exact wpAny_pyIter_tuple a (q _ ⟨_,D5 _ rfl,rfl,rfl⟩ (P7 ..) λc o e=>C0 _ e)
 |false=>exact A3a a (q _ ⟨_,D5 _ rfl,rfl,rfl⟩ (P7 ..) λc o e=>C0 _ e)
structure VW(z U O i j l m:Addr):Prop where
 nd:[z,U,O,i,j].Nodup
 l:l∉[z,O,i,j]
 m:m∉[z,O,i,j]
theorem WS{b c:Bool}{z U O i j l m:Addr}{k:Nat}{xs ys:Array Value}{x y p q:Value}{Q:Value->Shared->Prop}(D:VW z U O i j l m)(N:IsZip s.heap z U O .none)(hU:IsPair s.heap U (.ref i) (.ref j))(hO:IsPair s.heap O p q)
  (hi:Cu b s.heap i l k) (hj:Cu c s.heap j m k) (hl:DP b s.heap l xs) (hm:DP c s.heap m ys) (hx:xs[k]?=some x) (hy:ys[k]?=some y)
  (fin:∀g,IsZip g z U O (rawInt s.heap.objs.size)->IsPair g O x y->Cu b g i l (k+1)->Cu c g j m (k+1)->IsPair g s.heap.objs.size x y->g.objs.size=s.heap.objs.size+1 ->
   (∀a o,a∉[z,O,i,j]->s.heap.get? a=some o->g.get? a=some o)->Q (.ref s.heap.objs.size) {s with heap:=g}) :
  wpAny (model prog w) A (Builtin.«zip.__next__» ⟨[.ref z],[]⟩) (λr s'=>∃v,r=.done (.ret v)/\Q v s') E s:=by
 obtain⟨nd,nl,nm⟩:=D;simp only[N5,B7,C6,K7,A3f,P6,A5g,A1f]at nd nl nm;obtain⟨⟨zU,X,zi,zj⟩,⟨UO,Ui,Uj⟩,⟨Oi,Oj⟩,ij⟩:=nd;obtain⟨lz,lO,li,lj⟩:=nl;obtain⟨mz,mO,mi,mj⟩:=nm;show wpAny _ _ (field (.ref z) 2 >>= _) _ _ _;refine Z5 (A0d N rfl (x:=.bool false) rfl ?_);show wpAny _ _ (field (.ref z) 3 >>= _) _ _ _;refine Z5 (A0d N rfl (x:=.ref U) rfl (Z5 (A1e hU rfl ?_)));show wpAny _ _ (Builtin.SmallTypes.ownedTupleIsFree (.ref z) >>= _) _ _ _;refine Z5 ?_;unfold Builtin.SmallTypes.ownedTupleIsFree;refine Z5 (A0d N rfl (x:=.none) rfl (K3 ?_));simp only[A5a];refine Z5 (wpAny_rule (Z5 (A0d N rfl (x:=.ref O) rfl (Z5 (A1h N A6 λh1 B t=>?_)))));replace B:IsZip h1 z U O .ellipsis:=B;refine Z5 ?_;simp only[List.zipIdx_cons,List.zipIdx_nil,List.forIn_cons,List.forIn_nil];refine Z5 (Z5 (A6d ?_));show wpAny _ _ (Builtin.SmallTypes.nextOf (.ref i) >>= _) _ _ _;refine Z5 (Dx (hi.move λo e=>t.extBut _ _ (X7 zi) e) (hl.move λo e=>t.extBut _ _ lz e) hx λh2 ac G=>K3 ?_);have T:IsPair h2 O p q:=G.extBut _ _ Oi (t.extBut _ _ (X7 X) hO);refine Z5 (A1e T rfl (Z5 (A5h T λh3 u H=>?_)));replace u:IsPair h3 O x q:=u;refine Z5 (wpAny_letGo (K3 (Z5 (Z5 (A6d ?_)))));show wpAny _ _ (Builtin.SmallTypes.nextOf (.ref j) >>= _) _ _ _;refine Z5 (Dx (hj.move λo e=>H.extBut _ _ (X7 Oj) (G.extBut _ _ (X7 ij) (t.extBut _ _ (X7 zj) e))) (hm.move λo e=>H.extBut _ _ mO (G.extBut _ _ mi (t.extBut _ _ mz e))) hy λh4 aa M=>K3 ?_);have R:IsPair h4 O x q:=M.extBut _ _ Oj u;refine Z5 (A1e R rfl (Z5 (A5h R λd n I=>?_)));replace n:IsPair d O x y:=n;refine Z5 (wpAny_letGo (K3 (K3 (Z5 (A1e n rfl (Z5 (wpAny_newTuple ?_)))))));have sz:d.objs.size=s.heap.objs.size:=by rw[I.1,M.1,H.1,G.1,t.1]
 have K:IsZip d z U O .ellipsis:=I.extBut _ _ X (M.extBut _ _ zj (H.extBut _ _ X (G.extBut _ _ zi B)));have kp:∀a o,a∉[z,O,i,j]->s.heap.get? a=some o->d.get? a=some o:=λa o f e=>by
  simp only[B7,C6,K7,A3f]at f;exact I.extBut _ _ f.2.1 (M.extBut _ _ f.2.2.2 (H.extBut _ _ f.2.1 (G.extBut _ _ f.2.2.1 (t.extBut _ _ f.1 e))))
 have ab:Cu b d i l (k+1):=ac.move λo e=>I.extBut _ _ (X7 Oi) (M.extBut _ _ ij (H.extBut _ _ (X7 Oi) e));have ae:Cu c d j m (k+1):=aa.move λo e=>I.extBut _ _ (X7 Oj) e;have S:z<d.objs.size:=C9 K;show wpAny _ _ (Builtin.SmallTypes.ownedTupleHandOut (.ref z) (.ref d.objs.size) >>= _) _ _ _;refine Z5 ?_;unfold Builtin.SmallTypes.ownedTupleHandOut;have ad:IsZip (d.push {cls:=.type "tuple",data:=.seq #[x,y]}) z U O .ellipsis:=C0 _ K;refine Z5 (A1h ad A6 λh7 C Z=>?_);replace C:IsZip h7 z U O (rawInt d.objs.size):=C;refine A1h C A6 λP h s8=>?_;replace h:IsZip P z U O (rawInt d.objs.size):=h;have Y:∀a o,a≠z->d.get? a=some o->P.get? a=some o:=λa o na e=>s8.extBut _ _ na (Z.extBut _ _ na (C0 _ e));have hT:IsPair P d.objs.size x y:=s8.extBut _ _ (T7 S) (Z.extBut _ _ (T7 S) (D5 _ rfl));have V:P.objs.size=d.objs.size+1:=by rw[s8.1,Z.1,P7]
 rw[sz]at h hT V;refine K3 ⟨_,rfl,?_⟩;show Q (.ref d.objs.size) _;rw[sz];refine fin P h (Y _ _ (X7 X) n) (ab.move λo e=>Y _ o (X7 zi) e) (ae.move λo e=>Y _ o (X7 zj) e) hT V λa o f e=>Y a o ?_ (kp a o f e);simp only[B7,C6,K7,A3f]at f;exact f.1
theorem WR{b c:Bool}{z U O i j l m:Addr}{k:Nat}{xs ys:Array Value}{p q:Value}{Q:Fin->Shared->Prop}(Z:A.handled=none)(D:VW z U O i j l m)(B:IsZip s.heap z U O .none)(hU:IsPair s.heap U (.ref i) (.ref j))(hO:IsPair s.heap O p q)
  (hi:Cu b s.heap i l k) (hj:Cu c s.heap j m k) (hl:DP b s.heap l xs) (hm:DP c s.heap m ys) (I:xs[k]?=none\/ys[k]?=none)
  (fin:∀g e,(∀a o,a∉[z,O,i,j]->s.heap.get? a=some o->g.get? a=some o)->(∃o,g.get? e=some o/\o.cls=.type "StopIteration")->E (.ref e) {s with heap:=g}) :
  wpAny (model prog w) A (Builtin.«zip.__next__» ⟨[.ref z],[]⟩) Q E s:=by
 obtain⟨V,nl,nm⟩:=D;simp only[N5,B7,C6,K7,A3f,P6,A5g,A1f]at V nl nm;obtain⟨⟨zU,zO,K,Y⟩,⟨UO,Ui,Uj⟩,⟨Oi,Oj⟩,ij⟩:=V;obtain⟨lz,lO,li,lj⟩:=nl;obtain⟨mz,mO,mi,mj⟩:=nm;show wpAny _ _ (field (.ref z) 2 >>= _) _ _ _;refine Z5 (A0d B rfl (x:=.bool false) rfl ?_);show wpAny _ _ (field (.ref z) 3 >>= _) _ _ _;refine Z5 (A0d B rfl (x:=.ref U) rfl (Z5 (A1e hU rfl ?_)));show wpAny _ _ (Builtin.SmallTypes.ownedTupleIsFree (.ref z) >>= _) _ _ _;refine Z5 ?_;unfold Builtin.SmallTypes.ownedTupleIsFree;refine Z5 (A0d B rfl (x:=.none) rfl (K3 ?_));simp only[A5a];refine Z5 (wpAny_rule (Z5 (A0d B rfl (x:=.ref O) rfl (Z5 (A1h B A6 λh1 u r=>?_)))));replace u:IsZip h1 z U O .ellipsis:=u;refine Z5 ?_;simp only[List.zipIdx_cons,List.zipIdx_nil,List.forIn_cons,List.forIn_nil];refine Z5 (Z5 (A6d ?_));show wpAny _ _ (Builtin.SmallTypes.nextOf (.ref i) >>= _) _ _ _;have d:∀{a:Addr},a∉[z,O,i,j]->a≠z/\a≠O/\a≠i/\a≠j:=λn=>by simpa only[B7,C6,K7,A3f] using n
 cases N:xs[k]? with
 |none =>
  refine Z5 (Ga Z (hi.move λo e=>r.extBut _ _ (X7 K) e) (hl.move λo e=>r.extBut _ _ lz e) N λS e v R=>?_);obtain⟨M,f,h⟩:=R;have C:IsZip S z U O .ellipsis:=v _ _ K u;have P:e≠z:=λt=>by subst t;rw[C]at f;cases f;simp at h
  exact A1h C A6 λh3 _ y=>fin h3 e (λa o n t=>y.extBut _ _ (d n).1 (v _ _ (d n).2.2.1 (r.extBut _ _ (d n).1 t))) ⟨M,y.extBut _ _ P f,h⟩
 |some x =>
  have hy:ys[k]?=none:=by
   rcases I with t|t
   ·rw[N]at t;cases t
   ·exact t
  refine Z5 (Dx (hi.move λo e=>r.extBut _ _ (X7 K) e) (hl.move λo e=>r.extBut _ _ lz e) N λS ab v=>K3 ?_);have G:IsPair S O p q:=v.extBut _ _ Oi (r.extBut _ _ (X7 zO) hO);refine Z5 (A1e G rfl (Z5 (A5h G λh3 aa y=>?_)));refine Z5 (wpAny_letGo (K3 (Z5 (Z5 (A6d ?_)))));show wpAny _ _ (Builtin.SmallTypes.nextOf (.ref j) >>= _) _ _ _;refine Z5 (Ga Z (hj.move λo e=>y.extBut _ _ (X7 Oj) (v.extBut _ _ (X7 ij) (r.extBut _ _ (X7 Y) e))) (hm.move λo e=>y.extBut _ _ mO (v.extBut _ _ mi (r.extBut _ _ mz e))) hy λh4 e X R=>?_);obtain⟨M,f,h⟩:=R;have H:IsZip h4 z U O .ellipsis:=X _ _ Y (y.extBut _ _ zO (v.extBut _ _ K u));have P:e≠z:=λt=>by subst t;rw[H]at f;cases f;simp at h
  exact A1h H A6 λh5 _ T=>fin h5 e (λa o n t=>T.extBut _ _ (d n).1 (X _ _ (d n).2.2.2 (y.extBut _ _ (d n).2.1 (v.extBut _ _ (d n).2.2.1 (r.extBut _ _ (d n).1 t))))) ⟨M,T.extBut _ _ P f,h⟩
theorem WT(b:Heap)(n:Nat)(f:b.objs.size=n+2)(i j:Value):∃c,c=((b.push {cls:=.type "tuple",data:=.seq #[i,j]}).push {cls:=.type "tuple",data:=.seq #[.none,.none]}).push
   {cls:=.type "zip",data:=.fields #[.none,.bool false,.bool false,.ref b.objs.size,.ref (b.push {cls:=.type "tuple",data:=.seq #[i,j]}).objs.size]} /\
  IsZip c (n+4) (n+2) (n+3) .none/\IsPair c (n+2) i j/\IsPair c (n+3) .none .none/\(∀a o,b.get? a=some o->c.get? a=some o) /\
  ((b.push {cls:=.type "tuple",data:=.seq #[i,j]}).push {cls:=.type "tuple",data:=.seq #[.none,.none]}).objs.size=n+4:=by
 have d:(b.push {cls:=.type "tuple",data:=.seq #[i,j]}).objs.size=n+3:=by rw[P7,f]
 have g:((b.push {cls:=.type "tuple",data:=.seq #[i,j]}).push {cls:=.type "tuple",data:=.seq #[.none,.none]}).objs.size=n+4:=by rw[P7,d]
 refine⟨_,rfl,?_,?_,?_,λa o e=>C0 _ (C0 _ (C0 _ e)),g⟩
 ·have q:=D5 ((b.push {cls:=.type "tuple",data:=.seq #[i,j]}).push {cls:=.type "tuple",data:=.seq #[.none,.none]}) (o:={cls:=.type "zip",data:=.fields #[.none,.bool false,.bool false,.ref b.objs.size,.ref (b.push {cls:=.type "tuple",data:=.seq #[i,j]}).objs.size]}) rfl;rw[g]at q;show _=some _;rw[q,f,d]
 ·have q:=C0 {cls:=.type "zip",data:=.fields #[.none,.bool false,.bool false,.ref b.objs.size,.ref (b.push {cls:=.type "tuple",data:=.seq #[i,j]}).objs.size]} (C0 {cls:=.type "tuple",data:=.seq #[.none,.none]} (D5 b (o:={cls:=.type "tuple",data:=.seq #[i,j]}) rfl));rw[<-f];exact q
 ·have q:=C0 {cls:=.type "zip",data:=.fields #[.none,.bool false,.bool false,.ref b.objs.size,.ref (b.push {cls:=.type "tuple",data:=.seq #[i,j]}).objs.size]} (D5 (b.push {cls:=.type "tuple",data:=.seq #[i,j]}) (o:={cls:=.type "tuple",data:=.seq #[.none,.none]}) rfl);rw[<-d];exact q
theorem Wv{b c:Bool}(l m:Addr)(xs ys:Array Value):Meets (Builtin.«zip.__new__» ⟨[.type "zip",.ref l,.ref m],[]⟩) (λ_ R s=>DP b s.heap l xs/\DP c s.heap m ys /\
   ∀g,IsZip g (s.heap.objs.size+4) (s.heap.objs.size+2) (s.heap.objs.size+3) .none->IsPair g (s.heap.objs.size+2) (.ref s.heap.objs.size) (.ref (s.heap.objs.size+1))->IsPair g (s.heap.objs.size+3) .none .none ->
    Cu b g s.heap.objs.size l 0->Cu c g (s.heap.objs.size+1) m 0->(∀a o,s.heap.get? a=some o->g.get? a=some o)->R (.ok (.ret (.ref (s.heap.objs.size+4)))) {s with heap:=g}) :=
 .of_wp λprog w A R s h=>by
  obtain⟨hp,g,d,tk,M⟩:=s;obtain⟨z,v,h⟩:=h;have t:=sub_zip
  wp_walk using FO z
  intro i x B k1;have n:DP c (Shared.heap ⟨i,g,d,tk,M⟩) m ys:=v.move λo e=>k1 _ o e
  wp_walk using FO n
  intro j C I k2
  wp_walk
  refine⟨_,rfl,?_⟩;have p:i.objs.size=hp.objs.size+1:=B;have H:j.objs.size=hp.objs.size+2:=by rw[show j.objs.size=i.objs.size+1 from I,p]
  obtain⟨r,y,K,D,G,k5,u⟩:=WT j hp.objs.size H (.ref hp.objs.size) (.ref i.objs.size);have q:IsPair r (hp.objs.size+2) (.ref hp.objs.size) (.ref (hp.objs.size+1)):=by rw[<-p];exact D
  have k:Cu c j (hp.objs.size+1) m 0:=by rw[<-p];exact C
  have f:=h r K q G ((x.move λo e=>k2 _ o e).move λo e=>k5 _ o e) (k.move λo e=>k5 _ o e) λa o e=>k5 _ _ (k2 _ _ (k1 _ _ e));dsimp only at f;rw[y,<-u]at f;exact f
theorem Inv.turnedL{X:Cx}{pins:List (Addr×Obj)}{σ:St}{H:Hp}{s:Shared}{g:Heap}{tk:Nat}{ch:List Addr}(I:Inv X pins σ H s)(k:∀b o,b∉ch->s.heap.get? b=some o->g.get? b=some o)(a:∀b∈ch,Id X pins H b):Inv X pins σ H {s with heap:=g,toks:=tk}:=by
 have f:∀b u,H b=some u->b∉ch:=λb u e z=>by rw[(a b z).1]at e;cases e
 refine I.step (g':=s.gens) (d':=s.drawn) (ch:=ch) (λb h=>⟨(a b h).2.2.2.1,(a b h).2.1,(a b h).2.2.2.2.1,(a b h).2.2.2.2.2⟩) (λb o _ _ d e _=>k b o d e) (λb o _ _ d e _=>⟨o.slots,k b o d e⟩) (λ_ _ _ _ n=>n)
  (λb o d e=>⟨o,k b o d e⟩) (λ_ _ e=>e) (λ_ _ _ e=>e) (λb t e=>⟨#[],by rw[e];simp⟩) (λm i=>?_) (λb u e=>?_) I.bare
 ·obtain⟨o,j,l,p,r⟩:=i;exact⟨o,j,l,k _ o (λz=>(a _ z).2.1 rfl) p,r⟩
 ·refine(I.hok b u e).stay (λc v d q=>k c v ?_ q) (λ_ q=>q) λ_ _ q=>q;rcases d with z|z
  ·rw[z];exact f b u e
  ·exact f c _ z
theorem Inv.pair{X:Cx}{pins:List (Addr×Obj)}{σ:St}{H:Hp}{s:Shared}{g:Heap}{tk n:Nat}{ch:List Addr}{x y:V}{u v:Value}(I:Inv X pins σ H s)(k:∀b o,b∉ch->s.heap.get? b=some o->g.get? b=some o)(a:∀b∈ch,Id X pins H b)
  (h:Be x u) (d:Be y v) (e:g.get? s.heap.objs.size=some {cls:=.type "tuple",data:=.seq #[u,v] n}):H s.heap.objs.size=none/\Inv X pins σ (upd H s.heap.objs.size (.tup [x,y])) {s with heap:=g,toks:=tk}:=by
 have f:=I.fpOk (C1 _) I.fresh;refine⟨f.1,(I.turnedL (tk:=tk) k a).track f.1 (Q6 I.sz) (Q6 (D0 I.ok.bsz I.sz)) (X7 f.2.1) f.2.2.2.2.1 f.2.2.2.2.2 (λb c z=>f.2.2.1 (z▸c)) ?_⟩;exact⟨by show 2<=sizeLine;decide,[u,v],.cons h (.cons d .nil),_,e,rfl,n,rfl⟩
theorem Inv.sq{X:Cx}{pins:List (Addr×Obj)}{σ:St}{H:Hp}{s:Shared}{b:Bool}{a:Addr}{xs:List V}(I:Inv X pins σ H s)(h:SqX X.K b H a xs):∃c:List Value,AO xs c/\DP b s.heap a c.toArray:=by
 cases b with
 |true =>
  obtain⟨c,r,p,_⟩:=I.tuple h;exact⟨c,r,p⟩
 |false =>
  obtain⟨c,r,p,_⟩:=I.list h;exact⟨c,r,p.isList⟩
theorem Inv.sq_inj{X:Cx}{pins:List (Addr×Obj)}{σ:St}{H:Hp}{s:Shared}{b:Bool}{a:Addr}{xs ys:List V}(I:Inv X pins σ H s)(h:SqX X.K b H a xs)(h':SqX X.K b H a ys):xs=ys:=by
 cases b with
 |true=>exact I.tuple_inj h h'
 |false=>exact I.list_inj h h'
def Itz(K:W.Frag)(b c:Bool)(l m:Addr):It :=
 ⟨λi H=>∃xs ys x y,SqX K b H l xs/\SqX K c H m ys/\xs[i]?=some x/\ys[i]?=some y,
  λi H v H'=>∃(T:Addr)(x y:V),v=.ref T/\H T=none/\H'=upd H T (.tup [x,y])/\(∀xs,SqX K b H l xs->xs[i]?=some x)/\∀ys,SqX K c H m ys->ys[i]?=some y,
  λi H=>∃xs ys,SqX K b H l xs/\SqX K c H m ys/\(xs.length<=i\/ys.length<=i)⟩
def ZipTn(b c:Bool)(z U O i j l m:Addr)(k:Nat)(h:Heap):Prop:=IsZip h z U O .none/\IsPair h U (.ref i) (.ref j)/\(∃p q,IsPair h O p q)/\Cu b h i l k/\Cu c h j m k
theorem WY{P:Program}{w:World}{K:W.Frag}{es:List Expr}{n:Nat}{Q:Pos}{b c:Bool}{z U O i j l m:Addr}(D:VW z U O i j l m):RM P w K (.Tuple es n Q) (Itz K b c l m) [z,U,O,i,j] z (ZipTn b c z U O i j l m) where
 mem:=by simp
 obj:=λk h r a d=>by
  obtain⟨f,B,⟨p,q,M⟩,G,C⟩:=r;simp only[B7,C6,K7]at d;rcases d with rfl|rfl|rfl|rfl|rfl
  ·exact⟨_,f,λv t=>by cases t⟩
  ·exact⟨_,B,λv t=>by cases t⟩
  ·exact⟨_,M,λv t=>by cases t⟩
  ·exact G.there
  ·exact C.there
 keep:=λk h h' r kp=>by
  obtain⟨f,B,⟨p,q,M⟩,G,C⟩:=r;exact⟨kp z A6 _ f,kp U A6 _ B,⟨p,q,kp O A6 _ M⟩,G.move λo e=>kp i A6 o e,C.move λo e=>kp j A6 o e⟩
 item:=by
  intro X hP hw hK hc k pins s σ H E I hf r hg;subst hP hw hK;obtain⟨f,B,⟨p,q,M⟩,G,C⟩:=r;obtain⟨xs,ys,x,y,Z,Y,hx,hy⟩:=hg;obtain⟨us,ru,ou⟩:=I.sq Z;obtain⟨vs,rv,ov⟩:=I.sq Y;obtain⟨u,hu,aa⟩:=ru.get hx;obtain⟨v,hv,ad⟩:=rv.get hy;have N:s.TypeIs (.ref z) "zip" := ⟨_,f,rfl⟩
  unfold pyNext;refine Z5 (A6c (wpAny_callSpecial?_slot (name:=Str.ofString "__next__") N A5d (A4h A5d N F.entry_zip_next (WS D f B M G C ou ov (by simpa using hu) (by simpa using hv) λg gZ gO gi gj gT gs gk=>K3 ⟨_,rfl,?_⟩) (F.args_zip_next_1 _))));refine wpAny_letOwnedTupleGo_zip (s:={s with heap:=g}) gZ λg2 ab R=>?_;obtain⟨nd,nl,nm⟩:=D;simp only[N5,B7,C6,K7,A3f,P6,A5g,A1f]at nd;obtain⟨⟨zU,zO,zi,zj⟩,⟨UO,Ui,Uj⟩,⟨Oi,Oj⟩,ij⟩:=nd;have S:z<s.heap.objs.size:=C9 f;have kk:∀a o,a∉[z,O,i,j]->s.heap.get? a=some o->g2.get? a=some o:=λa o d e=>(R.2 a (λt=>d (by simp[t]))).trans (gk a o d e);have ae:∀a∈[z,O,i,j],Id X pins H a:=λa d=>hf a (by
   simp only[B7,C6,K7]at d⊢;rcases d with t|t|t|t<;>simp[t])
  obtain⟨nT,J⟩:=I.pair (tk:=s.toks) kk ae aa ad ((R.2 _ (T7 S)).trans gT);refine⟨.ref s.heap.objs.size,_,J,rfl,⟨_,x,y,rfl,nT,rfl,λaf q'=>by rw[I.sq_inj q' Z];exact hx,λag q'=>by rw[I.sq_inj q' Y];exact hy⟩,⟨ab,kk U _ ?_ B,⟨u,v,(R.2 O (X7 zO)).trans gO⟩,gi.move λo e=>(R.2 i (X7 zi)).trans e,gj.move λo e=>(R.2 j (X7 zj)).trans e⟩,λa d=>?_⟩
  ·simp only[B7,C6,K7,A3f];exact⟨X7 zU,UO,Ui,Uj⟩
  ·have e:=(hf a d).1;have lt:a≠s.heap.objs.size:=by
    simp only[B7,C6,K7]at d;rcases d with t|t|t|t|t<;>subst t
    ·exact F5 S
    ·exact F5 (C9 B)
    ·exact F5 (C9 M)
    ·obtain⟨o,e,_⟩:=G.there;exact F5 (C9 e)
    ·obtain⟨o,e,_⟩:=C.there;exact F5 (C9 e)
   rw[Ax lt];exact e
 done:=by
  intro X hP hw hK hc k pins s σ H E I hf r hg;subst hP hw hK;obtain⟨f,B,⟨p,q,M⟩,G,C⟩:=r;obtain⟨xs,ys,Z,Y,V⟩:=hg;obtain⟨us,ru,ou⟩:=I.sq Z;obtain⟨vs,rv,ov⟩:=I.sq Y;have lu:=ru.length;have lv:=rv.length;have N:s.TypeIs (.ref z) "zip" := ⟨_,f,rfl⟩
  have he:us.toArray[k]?=none\/vs.toArray[k]?=none:=V.imp (λt=>by simp;lia) (λt=>by simp;lia);unfold pyNext;refine Z5 (A6c (wpAny_callSpecial?_slot (name:=Str.ofString "__next__") N A5d (A4h A5d N F.entry_zip_next (WR (I.ok.hd hc) D f B M G C ou ov he λg e gk ge=>?_) (F.args_zip_next_1 _))));obtain⟨o,ho,ac⟩:=ge;refine Z5 (wpAny_isInstance (T:="StopIteration") (b:=true) ⟨o,ho,ac⟩ isSubtype_stop (K3 ⟨rfl,?_⟩));exact I.turnedL (tk:=s.toks) gk λa d=>hf a (by
   simp only[B7,C6,K7]at d⊢;rcases d with t|t|t|t<;>simp[t])
 self:=λ_ _ _ _ _ r h=>wpAny_pyIter_zip r.1 h
end
theorem DP.obj{b:Bool}{h:Heap}{l:Addr}{vs:Array Value}(x:DP b h l vs):∃o,h.get? l=some o:=by
 cases b with
 |true=>obtain⟨o,e,_⟩:=x;exact⟨o,e⟩
 |false=>obtain⟨o,e,_⟩:=x;exact⟨o,e⟩
theorem WI(b:Heap)(n:Nat)(d:b.objs.size=n+1):∃c,c=b.push {cls:=.type "enumerate",data:=.fields #[.none,.bool false,.ref n,rawInt 0,.none,.none]}/\IsEnum c (n+1) n 0 .none/\∀a o,b.get? a=some o->c.get? a=some o:=by
 refine⟨_,rfl,?_,λa o e=>C0 _ e⟩;have q:=D5 b (o:={cls:=.type "enumerate",data:=.fields #[.none,.bool false,.ref n,rawInt 0,.none,.none]}) rfl;rw[d]at q;exact q
set_option maxHeartbeats 1000000 in
theorem Ud{b:Bool}(l:Addr)(xs:Array Value):Meets (Builtin.«enumerate.__new__» ⟨[.type "enumerate",.ref l],[]⟩) (λ_ R s=>DP b s.heap l xs /\
   ∀g,IsEnum g (s.heap.objs.size+1) s.heap.objs.size 0 .none->Cu b g s.heap.objs.size l 0->(∀a o,s.heap.get? a=some o->g.get? a=some o)->R (.ok (.ret (.ref (s.heap.objs.size+1)))) {s with heap:=g}) :=
 .of_wp λprog w A R s h=>by
  obtain⟨hp,g,d,tk,x⟩:=s;obtain⟨n,h⟩:=h;obtain⟨z,i⟩:=n.obj;have p:=sub_enumerate;have fin:∀f,Cu b f hp.objs.size l 0->f.objs.size=hp.objs.size+1->(∀c o,hp.get? c=some o->f.get? c=some o)->∃v,Fin.done (Flow.ret (.ref f.objs.size))=Fin.done (Flow.ret v)/\R (.ok (.ret v)) ⟨f.push {cls:=.type "enumerate",data:=.fields #[.none,.bool false,.ref hp.objs.size,rawInt 0,.none,.none]},g,d,tk,x⟩:=λf m j k1=>by
   obtain⟨u,q,r,k2⟩:=WI f hp.objs.size j;refine⟨_,rfl,?_⟩;have k:=h u r (m.move λo e=>k2 _ o e) λa o e=>k2 _ _ (k1 _ _ e);dsimp only at k;rw[q,<-j]at k;exact k
  wp_walk using AutoSeq1.wpAny_loadPart' i
  refine wpAny_stack_any λy=>K3 ?_;split
  ·rename_i t _ _ _ _ _;cases(t==Value.type "enumerate")
   ·wp_walk using AutoSeq1.wpAny_loadPart' i,FO n
    intro f m j k1
    wp_walk
    exact fin f m j k1
   ·wp_walk using AutoSeq1.wpAny_loadPart' i,FO n
    intro f m j k1
    wp_walk
    exact fin f m j k1
  ·wp_walk using AutoSeq1.wpAny_loadPart' i,FO n
   intro f m j k1
   wp_walk
   exact fin f m j k1
theorem Qr{prog:Program}{w:World}{A:Around}{b:Bool}(n:A.handled=none)(I l:Addr)(ne:l≠I)(vs:Array Value) :
  Draws prog w A I [I,l] vs.size (λk v=>vs[k]?=some v) (λk h=>Cu b h I l k/\DP b h l vs) where
 live:=λ_ _ a=>let ⟨o,ho,_⟩:=a.1.there;⟨o,ho⟩
 frame:=λ_ _ _ a c=>⟨a.1.move λo e=>c I A6 o e,a.2.move λo e=>c l A6 o e⟩
 item:=λk s Q E d a m=>Dx a.1 a.2 (v:=vs[k]) (by simp[d]) λg j f=>m _ g s.toks (by simp[d]) ⟨j,a.2.move λo e=>(f.2 l ne).trans e⟩ f
 done:=λs Q E a i=>Ga n a.1 a.2 A6 i
def Ite(K:W.Frag)(b:Bool)(l:Addr):It :=
 ⟨λi H=>∃xs x,SqX K b H l xs/\xs[i]?=some x,
  λi H v H'=>∃(T:Addr)(x:V),v=.ref T/\H T=none/\H'=upd H T (.tup [.int i,x])/\∀xs,SqX K b H l xs->xs[i]?=some x,
  λi H=>∃xs,SqX K b H l xs/\xs.length=i⟩
theorem VZ{P:Program}{w:World}{K:W.Frag}{es:List Expr}{n:Nat}{p:Pos}{b:Bool}{e I l:Addr}(G:e≠I)(le:l≠e)(Z:l≠I) :
  RM P w K (.Tuple es n p) (Ite K b l) [e,I] e (λk h=>(∃c,IsEnum h e I k c)/\Cu b h I l k) where
 mem:=by simp
 obj:=λk h j a d=>by
  obtain⟨⟨c,f⟩,m⟩:=j;simp only[B7,C6,K7]at d;rcases d with rfl|rfl
  ·exact⟨_,f,λv t=>by cases t⟩
  ·exact m.there
 keep:=λk h h' j kp=>by
  obtain⟨⟨c,f⟩,m⟩:=j;exact⟨⟨c,kp e A6 _ f⟩,m.move λo t=>kp I A6 o t⟩
 item:=by
  intro X V D R U k pins s σ H E J B j Y;subst V D R;obtain⟨⟨c,f⟩,m⟩:=j;obtain⟨xs,x,y,O⟩:=Y;obtain⟨us,r,S⟩:=J.sq y;have lu:=r.length;have hk:k<xs.length:=(B6.mp O).1;refine wpAny_pyNext_enum_itemD (Qr (b:=b) (A:=X.A.in1) (J.ok.hd U) I l Z us.toArray) f ⟨m,S⟩ (by simp;lia) G (by simp[G,X7 le]) λu g tk hu gE gS gT gs gk=>⟨_,rfl,?_⟩
  obtain⟨u',N,C⟩:=r.get O;have eu:u=u':=by
   have:us[k]?=some u:=by simpa using hu
   rw[N]at this;exact(X5 this).symm
  subst eu;refine wpAny_letOwnedTupleGo_enum (s:={s with heap:=g,toks:=tk+1}) gE λg2 T M=>?_;have q:e<s.heap.objs.size:=C9 f;have kk:∀a o,a∉[e,I]->s.heap.get? a=some o->g2.get? a=some o:=λa o d t=>(M.2 a (λz=>d (by simp[z]))).trans (gk a o (λz=>d (by simp[z])) (λz=>d (by simp[z])) t);obtain⟨nT,J2⟩:=J.pair (tk:=tk+1) (x:=.int k) (u:=.int k tk) kk B ⟨tk,rfl⟩ C ((M.2 _ (T7 q)).trans gT);refine⟨.ref s.heap.objs.size,_,J2,rfl,⟨_,x,rfl,nT,rfl,λab q'=>by rw[J.sq_inj q' y];exact O⟩,⟨⟨_,by simpa using T⟩,gS.1.move λo t=>(M.2 I (X7 G)).trans t⟩,λa d=>?_⟩;have t:=(B a d).1;have lt:a≠s.heap.objs.size:=by
   simp only[B7,C6,K7]at d;rcases d with z|z<;>subst z
   ·exact F5 q
   ·obtain⟨o,t,_⟩:=m.there;exact F5 (C9 t)
  rw[Ax lt];exact t
 done:=by
  intro X V D R U k pins s σ H E J B j Y;subst V D R;obtain⟨⟨c,f⟩,m⟩:=j;obtain⟨xs,y,aa⟩:=Y;obtain⟨us,r,S⟩:=J.sq y;have lu:=r.length;have ek:k=us.toArray.size:=by simp;lia
  refine wpAny_pyNext_enum_endD (Qr (b:=b) (A:=X.A.in1) (J.ok.hd U) I l Z us.toArray) f ⟨ek▸m,S⟩ λg gk=>⟨rfl,?_⟩
  exact J.turnedL (tk:=s.toks) (ch:=[e,I]) (λa o d t=>gk a o (λz=>d (by simp[z])) t) B
 self:=λA i s Q E j h=>by
  obtain⟨⟨c,f⟩,_⟩:=j;exact wpAny_pyIter_enum f h
section
variable{X:Cx}{es:List Expr}{n:Nat}{tpos p pos:Pos}{e1 e2:Expr}{t:TA}
def iZip(b c:Bool)(K:W.Frag)(t:TA):TI:=fun σ H R=>t σ H λvs H1=>∃(l m:Addr),vs=[.ref l,.ref m]/\(∃xs,SqX K b H1 l xs)/\(∃ys,SqX K c H1 m ys)/\R (Itz K b c l m) H1
theorem DP.lt{b:Bool}{h:Heap}{l:Addr}{vs:Array Value}(x:DP b h l vs):l<h.objs.size:=by
 cases b with
 |true=>obtain⟨o,e,_⟩:=x;exact C9 e
 |false=>obtain⟨o,e,_⟩:=x;exact C9 e
theorem apart5(n l m:Nat)(a:l<n)(b:m<n):VW (n+4) (n+2) (n+3) n (n+1) l m:=by
 refine⟨(show([n+4,n+2,n+3,n,n+1]:List Nat).Nodup from ?_),(show l∉([n+4,n+3,n,n+1]:List Nat)from ?_),(show m∉([n+4,n+3,n,n+1]:List Nat)from ?_)⟩
 ·simp only[N5,B7,C6,K7,A3f,P6,A5g,A1f];lia
 ·simp only[B7,C6,K7,A3f];lia
 ·simp only[B7,C6,K7,A3f];lia
theorem pi_zip(b c:Bool)(O:Gl X "zip")(A:X.mg "zip" = none)(i:PA X [e1,e2] t)(D:starEach [e1,e2] X.env=[(false,eval e1 X.env),(false,eval e2 X.env)]:=by rfl)(e:starEach [e2] X.env=[(false,eval e2 X.env)]:=by rfl) :
  PI X (.Tuple es n tpos) (.Call (.Name "zip" p) [e1,e2] [] pos) (iZip b c X.K t):=by
 intro pins s σ H R I h;refine Call_ (LV I O A PyProof.Rows.boot_zip (A1a (thn (i pos pins s σ H _ I h) λus d ⟨vs,x,f,w,Q⟩=>?_) (by rw[D,e]) (by rw[e];rfl)));obtain⟨l,m,rfl,⟨xs,U⟩,⟨ys,G⟩,q⟩:=Q;obtain⟨u,v,rfl,N,T⟩:=w.two;cases(show u=Value.ref l from N);cases(show v=Value.ref m from T);obtain⟨y,_,k⟩:=f.sq U;obtain⟨P,_,o⟩:=f.sq G;refine callType_new F.called_zip A3 (F.typeCall_zip_2 _ _) (F.newCall_zip_2 _ _) (λobj=>F.args_object_init_3 obj _ _) F.entry_zip_new (Wv (b:=b) (c:=c) l m y.toArray P.toArray) ⟨k,o,λg j E S C r gk=>?_⟩;refine⟨⟨_,j,rfl⟩,wpAny_pyIter_zip (s:={d with heap:=g}) j ?_⟩;have z:=k.lt;have B:=o.lt;have M:=apart5 d.heap.objs.size l m z B;refine⟨d.heap.objs.size+4,_,_,_,x,rfl,f.kept (t':=d.toks) gk,WY M,⟨j,E,⟨_,_,S⟩,C,r⟩,λa i=>?_,q⟩;have le:d.heap.objs.size<=a:=by
  simp only[B7,C6,K7]at i;rcases i with t|t|t|t|t<;>rw[t]<;>first|exact C1 _|exact U8 _ _
 exact f.fpOk le (f.hok.fresh le)
def iEnum(b:Bool)(K:W.Frag)(t:TA):TI:=fun σ H R=>t σ H λvs H1=>∃(l:Addr),vs=[.ref l]/\(∃xs,SqX K b H1 l xs)/\R (Ite K b l) H1
theorem NY(b:Bool)(z:Gl X "enumerate")(r:X.mg "enumerate" = none)(f:PA X [e1] t)(A:starEach [e1] X.env=[(false,eval e1 X.env)]:=by rfl) :
  PI X (.Tuple es n tpos) (.Call (.Name "enumerate" p) [e1] [] pos) (iEnum b X.K t):=by
 intro pins s σ H R I h;refine Call_ (LV I z r PyProof.Rows.boot_enumerate (A1a (thn (f pos pins s σ H _ I h) λus c ⟨vs,x,d,o,w⟩=>?_) A rfl));obtain⟨l,rfl,⟨xs,B⟩,q⟩:=w;obtain⟨u,rfl,v⟩:=o.one;cases(show u=Value.ref l from v);obtain⟨m,_,k⟩:=d.sq B;refine callType_new F.called_enumerate A3 (F.typeCall_enumerate_1 _) (F.newCall_enumerate_1 _) (λobj=>F.args_object_init_2 obj _) F.entry_enumerate_new (Ud (b:=b) l m.toArray) ⟨k,λg i y gk=>?_⟩;refine⟨⟨_,i,rfl⟩,wpAny_pyIter_enum (s:={c with heap:=g}) i ?_⟩;have j:=k.lt;refine⟨c.heap.objs.size+1,_,_,_,x,rfl,d.kept (t':=c.toks) gk,VZ (e:=c.heap.objs.size+1) (I:=c.heap.objs.size) (l:=l) (Nat.succ_ne_self _) (F5 (Z1 j)) (F5 j),⟨⟨_,i⟩,y⟩,λa f=>?_,q⟩;have le:c.heap.objs.size<=a:=by
  simp only[B7,C6,K7]at f;rcases f with t|t<;>rw[t]<;>first|exact C1 _|exact U8 _ _
 exact d.fpOk le (d.hok.fresh le)
end
section
variable{K:W.Frag}{b c:Bool}{l m:Addr}{xs ys:List V}{σ:St}{H:Hp}
theorem SX{K:W.Frag}{i j:Nat}{T:Addr}{x y:V}{σ:St}{H:Hp}{Q:St->Hp->Prop}(h:H T=some (.tup [x,y]))(q:Q ((σ.set i (some x)).set j (some y)) H):gTup K 2 (SY (ND i) (SY (ND j) gNil)) (.ref T) σ H Q :=
 ⟨T,_,rfl,SqT.of h,rfl,x,_,rfl,y,_,rfl,rfl,q⟩
theorem MC{g:TG}{k:TS}{D:MI}(a:Nat->St->Hp->Prop)(s:a 0 σ H)(r:∀i σ H,i<=xs.length->a i σ H->SqX K b H l xs)
  (w:∀i x σ H T,xs[i]?=some x->a i σ H->H T=none->g (.ref T) σ (upd H T (.tup [.int i,x])) fun d j=>k {D with nx:=a (i+1),ct:=a (i+1),bk:=D.nx} d j) (t:∀σ H,a xs.length σ H->D.nx σ H) :
  ∃W:Nat->Nat->St->Hp->Prop,(∃m,W 0 m σ H)/\∀i m σ H,W i m σ H ->
   ((Ite K b l).stop i H/\D.nx σ H)\/((Ite K b l).go i H/\∃N:St->Hp->Prop,(∀σ' f,N σ' f->∃n,n<m/\W (i+1) n σ' f)/\∀x f,(Ite K b l).yld i H x f->g x σ f fun d j=>k {D with nx:=N,ct:=N,bk:=D.nx} d j):=by
 refine⟨λi m σ H=>m=xs.length-i/\i<=xs.length/\a i σ H,⟨xs.length,by simp,L9 _,s⟩,?_⟩;rintro i m σ H ⟨rfl,u,p⟩;have q:=r i σ H u p;by_cases h:i<xs.length
 ·refine .inr ⟨⟨xs,xs[i],q,by simp[h]⟩,a (i+1),fun σ' f o=>⟨xs.length-(i+1),by lia,rfl,h,o⟩,λx f y=>?_⟩;obtain⟨T,z,rfl,v,rfl,A⟩:=y;exact w i z σ _ T (A xs q) p v
 ·have e:i=xs.length:=by lia
  subst e;exact .inl ⟨⟨xs,q,rfl⟩,t σ H p⟩
variable{k:Nat}{cs:List Nat}{g:TG}{tc:TT}{te:TE}{fin:List V->Hp->Prop}
theorem blk_zip(d:Nat->List V->Hp->Prop)(D:d 0 [] H)(B:∀i a H,d i a H->SqX K b H l xs/\SqX K c H m ys)
  (A:∀i x y a H T,xs[i]?=some x->ys[i]?=some y->d i a H->H T=none->Bt k cs g tc te σ (.ref T) a (upd H T (.tup [x,y])) (d (i+1))) (v:∀a H,d (min xs.length ys.length) a H->fin a H):Gq k cs g tc te (Itz K b c l m) σ H fin:=by
 refine⟨λi n a H=>n=min xs.length ys.length-i/\i<=min xs.length ys.length/\d i a H,⟨min xs.length ys.length,by simp,L9 _,D⟩,?_⟩;rintro i n a H ⟨rfl,G,p⟩;obtain⟨h,f⟩:=B i a H p;by_cases j:i<min xs.length ys.length
 ·have s:i<xs.length:=by lia
  have r:i<ys.length:=by lia
  refine .inr ⟨⟨xs,ys,xs[i],ys[i],h,f,by simp[s],by simp[r]⟩,d (i+1),λq C u=>⟨min xs.length ys.length-(i+1),by lia,rfl,j,u⟩,λx C y=>?_⟩;obtain⟨T,z,E,rfl,w,rfl,t,o⟩:=y;exact A i z E a _ T (t xs h) (o ys f) p w
 ·have e:i=min xs.length ys.length:=by lia
  subst e;exact .inl ⟨⟨xs,ys,h,f,by lia⟩,v a H p⟩
theorem blk_str{x:Str}(d:Nat->List V->Hp->Prop)(o:d 0 [] H)(r:∀i ch a H,x.cps.toList[i]?=some ch->d i a H->Bt k cs g tc te σ (.str ⟨#[ch]⟩) a H (d (i+1)))(q:∀a H,d x.cps.toList.length a H->fin a H):Gq k cs g tc te (Its x) σ H fin:=by
 have t:x.cps.toList.length=x.cps.size:=by simp
 refine⟨λi m a H=>m=x.cps.size-i/\i<=x.cps.size/\d i a H,⟨x.cps.size,by simp,L9 _,o⟩,?_⟩;rintro i m a H ⟨rfl,u,p⟩;by_cases f:i<x.cps.size
 ·refine .inr ⟨f,d (i+1),λj s n=>⟨x.cps.size-(i+1),by lia,rfl,f,n⟩,λv s y=>?_⟩;obtain⟨e,ch,h,rfl⟩:=y;subst e;exact r i ch a _ (by simpa using h) p
 ·have e:i=x.cps.size:=by lia
  subst e;exact .inl ⟨rfl,q a H (by rw[t];exact p)⟩
end
theorem PE.or{X:Cx}{e:Expr}{t u:TE}(h:PE X e t)(h':PE X e u):PE X e (fun σ H Q=>t σ H Q\/u σ H Q):=by
 intro pins s σ H Q I q;rcases q with q|q
 ·exact h pins s σ H Q I q
 ·exact h' pins s σ H Q I q
theorem rm{a b:Nat}{A:Around}(h:Df b A)(c:a<=b:=by first|decide|lia):Df a A:=h.mono c
structure Cal(P:Program)(w:World)(K:W.Frag)(mg:Str->Option Value)(base:Heap)(CX:CXT)(k:Nat)(x:Str)(ps:List Str)(sp:Sp):Prop where
 ex:∃(f:Addr)(fd:FuncData),AL P w K mg base CX k f fd ps sp/\mg x=some (.ref f)/\keepIn K (.ref f)=true/\Cv K fd ps []
structure Cb(P:Program)(w:World)(K:W.Frag)(mg:Str->Option Value)(base:Heap)(CX:CXT)(k:Nat)(C:Addr)(m:Str)(ps:List Str)(sp:Sp):Prop where
 ex:∃(f:Addr)(fd:FuncData),AL P w K mg base CX k f fd ps sp/\PQ K C m f/\Cv K fd ps []
 cl:Cls K C
structure RQ(P:Program)(w:World)(K:W.Frag)(mg:Str->Option Value)(base:Heap)(CX:CXT)(k:Nat)(x:Str)(C:Addr)(ps:List Str)(sp:Sp):Prop where
 ex:∃(f:Addr)(fd:FuncData),AL P w K mg base CX k f fd ps sp/\Mk K C f/\mg x=some (.ref C)/\Cv K fd ps []
section
variable{X:Cx}{CX:CXT}{k:Nat}{C:Addr}{ps:List Str}{sp:Sp}{E:XK}{x m:Str}{p pos apos:Pos}{e o:Expr}{es:List Expr}{ta:TE}{t:TA}
theorem Aw(c:Cal X.prog X.w X.K X.mg X.base CX k x ps sp)(i:Df k X.A)(l:Gl X x)(n:Fa CX X E)(d:PA X (e::es) t)(b:(x==("__debug__" : Str))=false:=by decide)
  (q:starEach (e::es) X.env=(false,eval e X.env)::starEach es X.env:=by rfl) (a:(backTo pos (starEach es X.env)).any (·.1)=false:=by rfl):PE X (.Call (.Name x p) (e::es) [] pos) (tCall sp [] E t):=by
 obtain⟨f,r,F,h,j,g⟩:=c.ex;exact pe_call F i l h j g .nil n d b q a
theorem AI{pl:Sem Bool}(q:PE X o ta)(c:Cb X.prog X.w X.K X.mg X.base CX k C m ps sp)(j:Df k X.A)(n:Fa CX X E)(g:PA X (e::es) t)
  (b:starEach (e::es) X.env=(false,eval e X.env)::starEach es X.env:=by rfl) (a:(backTo pos (starEach es X.env)).any (·.1)=false:=by rfl)
  (l:eval (.Call (.Attribute o m apos) (e::es) [] pos) X.env=(do
   let d <-eval o X.env;standAt apos.atName;let (f,first) <-holding [d] (getMethod d m pl);callWith pos f first (backTo pos (starEach (e::es) X.env)) (backToKw pos (keywordEach [] X.env))):=by rfl):PE X (.Call (.Attribute o m apos) (e::es) [] pos) (UK C m sp [] E ta t):=by
 obtain⟨f,r,F,i,h⟩:=c.ex;exact pe_meth q c.cl i F j h .nil n g b a l
theorem Mq(c:RQ X.prog X.w X.K X.mg X.base CX k x C ps sp)(i:Df (k+1) X.A)(j:Gl X x)(l:Fa CX X E)(d:PA X (e::es) t)(b:(x==("__debug__" : Str))=false:=by decide)
  (n:starEach (e::es) X.env=(false,eval e X.env)::starEach es X.env:=by rfl) (a:(backTo pos (starEach es X.env)).any (·.1)=false:=by rfl):PE X (.Call (.Name x p) (e::es) [] pos) (UL C sp [] E t):=by
 obtain⟨f,q,F,M,h,g⟩:=c.ex;exact pe_make M F i j h g .nil l d b n a
theorem YR(c:RQ X.prog X.w X.K X.mg X.base CX k x C ps sp)(g:Df (k+1) X.A)(h:Gl X x)(i:Fa CX X E)(a:(x==("__debug__" : Str))=false:=by decide):PE X (.Call (.Name x p) [] [] pos) (UL C sp [] E QI):=by
 obtain⟨f,j,F,M,d,b⟩:=c.ex;exact YN M F g h d b .nil i a
theorem BY{i:Int}(c:Gl X x)(a:∃tk,X.mg x=some (.int i tk))(b:(x==("__debug__" : Str))=false:=by decide):PE X (.Name x pos) (tC (.int i)):=by
 obtain⟨tk,a⟩:=a;exact QZ c a ⟨tk,rfl⟩ b
theorem NZ{z:Str}(c:Gl X x)(a:∃tk,X.mg x=some (.str z tk))(b:(x==("__debug__" : Str))=false:=by decide):PE X (.Name x pos) (tC (.str z)):=by
 obtain⟨tk,a⟩:=a;exact QZ c a ⟨tk,rfl⟩ b
theorem Ve{a:Addr}(d:Gl X x)(c:X.mg x=some (.ref a))(b:(x==("__debug__" : Str))=false:=by decide):PE X (.Name x pos) (tC (.ref a)):=QZ d c rfl b
end
def cOk(So:Scope)(No:List Str)(scope:Scope)(N:List Str)(k:Nat)(cs:List Nat):Bool :=
 scope.names.all (λy=>y.2 != .cell) && (scope.kind==.function && (scope.names.all (λy=>y.2 != .local || scope.names.lookup y.1==some .local) && (scope.names.all (λy=>y.2 != .free || (So.names.lookup y.1==some .cell || So.names.lookup y.1==some .free)) &&
  (N.length==k+cs.length && (List.range cs.length).all λj=>match N[k+j]?,No[cs.getD j 0]? with
   |some x,some y=>x==y && scope.names.lookup x==some .free
   |_,_=>false))))
theorem BM.of{X:Cx}{So:Scope}{No:List Str}{a:Scope}{N:List Str}{k:Nat}{cs:List Nat}(o:X.env.scope=So)(l:X.N=No)(h:cOk So No a N k cs=true):BM X a N k cs:=by
 subst o l;unfold cOk at h;simp only[O6,O1,bne_iff_ne,ne_eq,Bool.or_eq_true,A4a,M0]at h;obtain⟨d,p,q,s,f,i⟩:=h;refine⟨d,p,λy b e=>?_,λy b e=>?_,f,λj r=>?_⟩
 ·rcases q y b with z|z
  ·exact absurd e z
  ·exact z
 ·rcases s y b with z|z
  ·exact absurd e z
  ·exact z
 ·have z:=i j r;split at z
  ·rename_i x y g c;simp only[O6,A4a]at z;obtain⟨m,n⟩:=z;subst m;exact⟨x,g,c,n⟩
  ·cases z
theorem Ii{σ:St}{H:Hp}{A B:Hp->Prop}(h:A H):tYes σ H λb a=>if b=true then A a else B a:=by
 show if true=true then A H else B H;exact BL h
theorem RK{d:TE}{σ:St}{H:Hp}{Q:VK}{a b2:Bool}(e:a=true->∀b:VK,b (.bl b2) H->d σ H b)(q:Q (.bl (a && b2)) H):∃c,V.bl a=.bl c/\if c=true then d σ H Q else Q (.bl false) H:=by
 cases a with
 |true=>exact⟨true,rfl,BL (e rfl Q q)⟩
 |false=>exact⟨false,rfl,Ba q⟩
theorem Ya{u:TT}{σ:St}{H:Hp}{Q:Bool->Hp->Prop}{a b2:Bool}(c:a=true->∀b:Bool->Hp->Prop,b b2 H->u σ H b)(q:Q (a && b2) H):if a=true then u σ H Q else Q false H:=by
 cases a with
 |true=>exact BL (c rfl Q q)
 |false=>exact Ba q
section
variable{X:Cx}{scope:Scope}{N:List Str}{s:Shared}{H:Hp}{ex:List Addr}{x y:Str}{px py pos:Pos}{k:Nat}
theorem Bo{i:Nat}(b:N.Nodup)(c:N[i]?=some x)(a:(relabel scope X.env).names.lookup x=some .local):PG (cxC X scope N s H ex) (.Name x pos) (ND i):=BQ (X:=cxC X scope N s H ex) b c (.inl a) (.inr a)
theorem YL{i j:Nat}(c:X.calm=true)(a:N.Nodup)(e:N[i]?=some x)(f:N[j]?=some y)(d:(relabel scope X.env).names.lookup x=some .local)(b:(relabel scope X.env).names.lookup y=some .local) :
  PG (cxC X scope N s H ex) (.Tuple [.Name x px,.Name y py] k pos) (gTup X.K 2 (SY (ND i) (SY (ND j) gNil))) :=
 OL (X:=cxC X scope N s H ex) c (Dq (Bo a e d) (Dq (Bo a f b) Mo))
end
theorem AO.strs:∀(l:List Str)(k:Nat),AO (l.map V.str) (strsFrom k l)
 |[],_=>.nil
 |x::r,k=>.cons ⟨k,rfl⟩ (AO.strs r (k+1))
section
variable{X:Cx}
theorem SN:MtR X "str.split" (λx xs H Q=>∃a b,x=.str a/\xs=[.str b]/\(b.length==0)=false/\a.length<=100000/\∀p,H p=none->Q (.ref p) (upd H p (.lst ((Txt.split a b).map V.str)))):=by
 intro pins s σ H x xs v us Q I l r h;obtain⟨a,b,rfl,rfl,j,k,q⟩:=h;obtain⟨t,rfl⟩:=l;obtain⟨u,rfl,n⟩:=r.one;obtain⟨i,rfl⟩:=n;have big:a.length+2<=sizeLine:=D0 (Nat.add_le_add_right k 2) A3;have fin:∀(c:List Value)(tk:Nat),AO ((Txt.split a b).map V.str) c->EP X pins σ Q (.ref s.heap.objs.size) {s with heap:=s.heap.push {cls:=.type "list",data:=.seq c.toArray},toks:=tk}:=λc tk m =>
  ⟨.ref _,_,I.lnew (t':=tk) m (by rw[B5];exact D0 (split_le a b) big),rfl,q _ I.fresh⟩
 by_cases d:(decide (a.length<b.length) || decide (Builtin.Str.strKind a<Builtin.Str.strKind b))=true
 ·refine A2b F.slot_str_split (typeIs_str _ _ _) F.entry_str_split (A6e _ _) (meets_str_split_cannot_occur a b t i d) ?_;refine fin _ s.toks ?_;unfold Txt.split;rw[Z9 d];exact .cons ⟨t,rfl⟩ .nil
 ·have f:=S8.mpr d;by_cases g:(Builtin.Str.occurrences a b 0 a.length (a.length+1)).isEmpty=true
  ·refine A2b F.slot_str_split (typeIs_str _ _ _) F.entry_str_split (A6e _ _) (meets_str_split_not_found a b t i f j g) ?_;refine fin _ s.toks ?_;unfold Txt.split;rw[Z6 d,Z9 g];exact .cons ⟨t,rfl⟩ .nil
  ·have e:Txt.split a b=Builtin.Str.partsBetween a (Builtin.Str.occurrences a b 0 a.length (a.length+1)) b.length:=by
    unfold Txt.split;rw[Z6 d,Z6 g]
   refine A2b F.slot_str_split (typeIs_str _ _ _) F.entry_str_split (A6e _ _) (meets_str_split_sep a b t i f j (S8.mpr g) A0 (by rw[<-e];exact D0 (split_le a b) big)) ?_;refine fin _ _ ?_;rw[e];exact AO.strs _ _
theorem Rr:MtR X "str.partition" (λx xs H Q=>∃a b,x=.str a/\xs=[.str b]/\(b.length==0)=false/\a.length<=100000/\∀p,H p=none->Q (.ref p) (upd H p (.tup [.str (Txt.partition a b).1,.str (Txt.partition a b).2.1,.str (Txt.partition a b).2.2]))):=by
 intro pins s σ H x xs v us Q I j r h;obtain⟨a,b,rfl,rfl,f,d,q⟩:=h;obtain⟨t,rfl⟩:=j;obtain⟨u,rfl,m⟩:=r.one;obtain⟨k,rfl⟩:=m;have fin:∀(c:List Value)(tk:Nat),AO [.str (Txt.partition a b).1,.str (Txt.partition a b).2.1,.str (Txt.partition a b).2.2] c->EP X pins σ Q (.ref s.heap.objs.size) {s with heap:=s.heap.push {cls:=.type "tuple",data:=.seq c.toArray},toks:=tk}:=λc tk g =>
  ⟨.ref _,_,I.laid (t':=tk) (o:=.tup [.str (Txt.partition a b).1,.str (Txt.partition a b).2.1,.str (Txt.partition a b).2.2]) (λ_ _ e=>C0 _ e) (C1 _) ⟨by show 3<=sizeLine;decide,c,g,_,D5 _ rfl,rfl,_,rfl⟩,rfl,q _ I.fresh⟩
 refine A2b F.slot_str_partition (typeIs_str _ _ _) F.entry_str_partition (F.args_str_partition_2 _ _) (meets_str_partition a b t k f (D0 d A3)) ?_;show EP X pins σ Q _ _;cases e:Builtin.Str.occurrences a b 0 a.length 1 with
 |nil =>
  refine fin _ _ ?_;unfold Txt.partition;rw[e];exact .cons ⟨_,rfl⟩ (.cons ⟨_,rfl⟩ (.cons ⟨_,rfl⟩ .nil))
 |cons i l =>
  refine fin _ _ ?_;unfold Txt.partition;rw[e];exact .cons ⟨_,rfl⟩ (.cons ⟨_,rfl⟩ (.cons ⟨_,rfl⟩ .nil))
theorem AO.tstrs:∀{l:List Str}{a:List Value},AO (l.map V.str) a->∃b:List (Str×Tok),a=strValues b/\b.map (·.1)=l
 |[],_,.nil=>⟨[],rfl,rfl⟩
 |x::r,_,.cons ⟨t,e⟩ rr=>by
  obtain⟨b,c,d⟩:=AO.tstrs rr;subst e c;exact⟨(x,t)::b,rfl,by rw[F7,d]⟩
theorem mt_join:MtR X "str.join" (λx xs H Q=>∃(a:Str)(p:Addr)(l:List Str),x=.str a/\xs=[.ref p]/\SqL X.K H p (l.map V.str)/\JoinOk a l=true/\Q (.str (Str.join a l)) H):=by
 intro pins s σ H x xs v us Q I c r h;obtain⟨a,p,l,rfl,rfl,d,b,q⟩:=h;obtain⟨t,rfl⟩:=c;obtain⟨u,rfl,i⟩:=r.one;cases(show u=Value.ref p from i);obtain⟨f,g,pl,_⟩:=I.list d;obtain⟨j,rfl,e⟩:=AO.tstrs g;refine SC.join (texts:=l) pl.isList e b λt' k=>⟨.str _,H,I.tok k,⟨t',rfl⟩,?_⟩
 have:Txt.join a l=Str.join a l:=StrLaws.glued_eq_join a l;rw[this];exact q
theorem Te(n:Int):∀{ns:List Int}{a:List Value},AO (ns.map V.int) a->a.countP (λy=>match y with|.int i _=>i==n|_=>false)=ns.countP (· == n)
 |[],_,.nil=>rfl
 |x::r,_,.cons ⟨t,e⟩ rr=>by
  subst e;rw[List.countP_cons,List.countP_cons,Te n rr]
theorem WW{ns:List Int}{a:List Value}(h:AO (ns.map V.int) a){y:Value}(b:y∈a):∃i t,y=.int i t:=by
 induction ns generalizing a with
 |nil=>cases h;simp at b
 |cons n r d =>
  cases h with
  |cons q c =>
   obtain⟨t,e⟩:=q;rcases B7.mp b with z|z
   ·exact⟨n,t,z.trans e⟩
   ·exact d c z
theorem Zq:MtR X "list.count" (λx xs H Q=>∃(l:Addr)(ns:List Int)(n:Int),x=.ref l/\xs=[.int n]/\H l=some (.lst (ns.map V.int))/\Q (.int (ns.countP (· == n):Nat)) H):=by
 intro pins s σ H x xs v us Q I d r h;obtain⟨l,ns,n,rfl,rfl,f,q⟩:=h;cases d;obtain⟨u,rfl,g⟩:=r.one;obtain⟨tk,rfl⟩:=g;obtain⟨z,a,k,b,j,e⟩:=I.lstM f;refine A2b F.slot_list_count ⟨_,e,rfl⟩ F.entry_list_count (F.args_list_count_2 _ _) (MeetsSeq.list_count l a.toArray k (.int n tk) (λy=>match y with|.int i _=>i==n|_=>false) (λy c=>?_)) ⟨e,?_⟩
 ·obtain⟨i,t,rfl⟩:=WW b (by simpa using c);exact PySem.MeetsSeq.EqGives.int i n t tk
 ·refine⟨.int _,H,I.tok _,⟨_,rfl⟩,?_⟩;have:(List.countP (λy=>match y with|Value.int i _=>i==n|_=>false) a.toArray.toList)=ns.countP (· == n):=Te n (by simpa using b);rw[this];exact q
end
end L2
namespace L2
open PySem
section
variable{X:Cx}{es es':List Expr}{t t':TA}{pos:Pos}
theorem AR{i:Int}{j}(a:PA X es t):PA X (.Constant (.int i) j pos::es) (CU (tC (.int i)) t):=Aa Ac a
theorem CN{z:Str}{j}(a:PA X es t):PA X (.Constant (.str z) j pos::es) (CU (tC (.str z)) t):=Aa IF a
theorem AT{x1}(h:PA X es' t')(a:PA X es t):PA X (.Tuple es' x1 pos::es) (CU (Yb t') t):=Aa (Bk h) a
theorem AV{c:Operator}{r:R2}{a b:Expr}{e d:TE}(i:OpR X (binaryOp c) r)(f:PE X a e)(g:PE X b d)(h:PA X es t):PA X (.BinOp a c b pos::es) (CU (tOp r e d) t):=Aa (AE i f g) h
theorem IT{K:W.Frag}(h:X.K=K):IxR X (Lj K):=h▸Ak
theorem SW{K:W.Frag}(h:X.K=K):IxR X (rIxL K):=h▸Av
end
theorem Bh{P:Prop}(h:∀G:Prop,(P->G)->G):P:=h P id
theorem xq1{α:Sort _}{a:α}{P Q:α->Prop}(h:P a)(k:Q a):∃x,P x/\Q x:=⟨a,h,k⟩
theorem xq2{α β:Sort _}{a:α}{b:β}{P Q R:α->β->Prop}(h:P a b)(h':Q a b)(k:R a b):∃x y,P x y/\Q x y/\R x y:=⟨a,b,h,h',k⟩
theorem xq3{α β γ:Sort _}{a:α}{b:β}{c:γ}{P Q R S:α->β->γ->Prop}(h:P a b c)(h':Q a b c)(d:R a b c)(k:S a b c):∃x y z,P x y z/\Q x y z/\R x y z/\S x y z:=⟨a,b,c,h,h',d,k⟩
theorem xq4{α β γ δ:Sort _}{a:α}{b:β}{c:γ}{d:δ}{P Q R S T:α->β->γ->δ->Prop}(h:P a b c d)(h':Q a b c d)(e:R a b c d)(f:S a b c d)(k:T a b c d):∃x y z w,P x y z w/\Q x y z w/\R x y z w/\S x y z w/\T x y z w:=⟨a,b,c,d,h,h',e,f,k⟩
theorem xq5{K:W.Frag}{f:Str}{H:Hp}{a C dx:Addr}{fs:List (Str×V)}{v:V}{Q:V->Prop}(h:H a=some (.ins C dx fs))(c:Cls K C)(d:BI K C f)(e:fs.lookup f=some v)(k:Q v):∃b C dx fs w,V.ref a=.ref b/\H b=some (.ins C dx fs)/\Cls K C/\BI K C f/\fs.lookup f=some w/\Q w:=⟨a,C,dx,fs,v,rfl,h,c,d,e,k⟩
theorem xw2{α β:Sort _}{a:α}{b:β}{P:α->Prop}{Q:α->β->Prop}{K:α->β->Prop}(f:P a)(e:Q a b)(k:K a b):∃c,P c/\∃d,Q c d/\K c d:=⟨a,f,b,e,k⟩
theorem xw3{α β γ:Sort _}{a:α}{b:β}{c:γ}{P:α->Prop}{Q:α->β->Prop}{R:α->β->γ->Prop}{K:α->β->γ->Prop}(g:P a)(h:Q a b)(i:R a b c)(k:K a b c):∃d,P d/\∃e,Q d e/\∃f,R d e f/\K d e f:=⟨a,g,b,h,c,i,k⟩
theorem xwb{α β γ:Sort _}{a:α}{b:β}{c:γ}{P:α->Prop}{Q:α->β->γ->Prop}{R:α->β->γ->Prop}{K:α->β->γ->Prop}(g:P a)(h:Q a b c)(i:R a b c)(k:K a b c):∃d,P d/\∃e f,Q d e f/\R d e f/\K d e f:=⟨a,g,b,c,h,i,k⟩
theorem xwm{α β γ δ:Sort _}{a:α}{b:β}{c:γ}{d:δ}{P:α->Prop}{Q:α->β->γ->δ->Prop}{R:α->β->γ->δ->Prop}{S:α->β->γ->δ->Prop}{K:α->β->γ->δ->Prop}(i:P a)(j:Q a b c d)(l:R a b c d)(m:S a b c d)(k:K a b c d):∃e,P e/\∃f g h,Q e f g h/\R e f g h/\S e f g h/\K e f g h:=⟨a,i,b,c,d,j,l,m,k⟩
theorem xwi{α β γ δ ε:Sort _}{a:α}{b:β}{c:γ}{d:δ}{e:ε}{P:α->Prop}{Q:α->β->γ->δ->ε->Prop}{R:α->β->γ->δ->ε->Prop}{S:α->β->γ->δ->ε->Prop}{T:α->β->γ->δ->ε->Prop}{K:α->β->γ->δ->ε->Prop}(l:P a)(n:Q a b c d e)(o:R a b c d e)(p:S a b c d e)(m:T a b c d e)(k:K a b c d e):∃f,P f/\∃g i j h,Q f g i j h/\R f g i j h/\S f g i j h/\T f g i j h/\K f g i j h:=⟨a,l,b,c,d,e,n,o,p,m,k⟩
theorem xwf{α β γ δ ε ζ:Sort _}{a:α}{b:β}{c:γ}{d:δ}{e:ε}{f:ζ}{P:α->Prop}{Q:α->β->γ->δ->ε->ζ->Prop}{R:α->β->γ->δ->ε->ζ->Prop}{S:α->β->γ->δ->ε->ζ->Prop}{T:α->β->γ->δ->ε->ζ->Prop}{U:α->β->γ->δ->ε->ζ->Prop}{K:α->β->γ->δ->ε->ζ->Prop}(n:P a)(q:Q a b c d e f)(r:R a b c d e f)(s:S a b c d e f)(o:T a b c d e f)(p:U a b c d e f)(k:K a b c d e f):∃g,P g/\∃h l m i j,Q g h l m i j/\R g h l m i j/\S g h l m i j/\T g h l m i j/\U g h l m i j/\K g h l m i j:=⟨a,n,b,c,d,e,f,q,r,s,o,p,k⟩
theorem xwn{α β γ δ ε:Sort _}{a:α}{b:β}{c:γ}{d:δ}{e:ε}{P:α->Prop}{Q:α->β->γ->δ->Prop}{R:α->β->γ->δ->Prop}{S:α->β->γ->δ->Prop}{T:α->β->γ->δ->ε->Prop}{K:α->β->γ->δ->ε->Prop}(l:P a)(n:Q a b c d)(o:R a b c d)(p:S a b c d)(m:T a b c d e)(k:K a b c d e):∃f,P f/\∃g h i,Q f g h i/\R f g h i/\S f g h i/\∃j,T f g h i j/\K f g h i j:=⟨a,l,b,c,d,n,o,p,e,m,k⟩
theorem xwj{α β γ δ ε ζ:Sort _}{a:α}{b:β}{c:γ}{d:δ}{e:ε}{f:ζ}{P:α->Prop}{Q:α->β->Prop}{R:α->β->γ->δ->ε->ζ->Prop}{S:α->β->γ->δ->ε->ζ->Prop}{T:α->β->γ->δ->ε->ζ->Prop}{U:α->β->γ->δ->ε->ζ->Prop}{K:α->β->γ->δ->ε->ζ->Prop}(n:P a)(q:Q a b)(r:R a b c d e f)(s:S a b c d e f)(o:T a b c d e f)(p:U a b c d e f)(k:K a b c d e f):∃g,P g/\∃h,Q g h/\∃l m i j,R g h l m i j/\S g h l m i j/\T g h l m i j/\U g h l m i j/\K g h l m i j:=⟨a,n,b,q,c,d,e,f,r,s,o,p,k⟩
theorem AZ{A B:TS}{D:MI}{σ:St}{H:Hp}(h:let r:=B D;let s:=σ;∀k:St->Hp->Prop,(∀{σ H},r σ H->k σ H)->let E:MI:={D with nx:=k};A E s H):tSeq A B D σ H:=h _ λz=>z
end L2
namespace Nu
open PySem PySem.NumText PyProof.Rows
theorem ext{a b:Str}(h:a.cps.toList=b.cps.toList):a=b:=by
 obtain⟨⟨l⟩⟩:=a;obtain⟨⟨r⟩⟩:=b;cases h;rfl
theorem len(x:Str):x.length=x.cps.toList.length:=by simp[Str.length]
end Nu
namespace L2
open PySem PySem.Spec PyProof.Rows
section
variable{κ:Type}[DecidableEq κ]
def Bu(kvs:List (κ×V))(k:κ):Option V:=(kvs.find? λkv=>decide (kv.1=k)).map (·.2)
def DQ(kvs:List (κ×V))(k:κ)(v:V):List (κ×V) :=
 if(kvs.any λkv=>decide (kv.1=k))=true then kvs.map (λkv=>if kv.1=k then(kv.1,v)else kv)else kvs++[(k,v)]
theorem BU{p:κ×V}{r:List (κ×V)}{k:κ}(e:p.1=k):Bu (p::r) k=some p.2:=by simp[Bu,R4,e]
theorem BF{p:κ×V}{r:List (κ×V)}{k:κ}(e:¬p.1=k):Bu (p::r) k=Bu r k:=by simp[Bu,R4,e]
theorem GW(k:κ):∀a:List (κ×V),(a.any λb=>decide (b.1=k))=(Bu a k).isSome
 |[]=>rfl
 |p::r=>by
  rw[U4];by_cases e:p.1=k
  ·simp only[BU e,Z7 e,Bool.true_or,Option.isSome_some]
  ·rw[BF e,Z8 e,Bool.false_or];exact GW k r
theorem RU(k j:κ)(y:V):∀a:List (κ×V),Bu (a.map λb=>if b.1=k then(b.1,y)else b) j=(Bu a j).map λx=>if j=k then y else x
 |[]=>rfl
 |p::r=>by
  have c:=RU k j y r;rw[F7];by_cases h:p.1=k
  ·rw[Z9 h];by_cases e:p.1=j
   ·rw[BU (p:=(p.1,y)) e,BU e,V7,Z9 (e.symm.trans h)]
   ·rw[BF (p:=(p.1,y)) e,BF e,c]
  ·rw[Z6 h];by_cases e:p.1=j
   ·rw[BU (p:=p) e,BU e,V7,Z6 (λz=>h (e.trans z))]
   ·rw[BF (p:=p) e,BF e,c]
theorem PV(k j:κ)(y:V):∀a:List (κ×V),Bu a k=none->Bu (a++[(k,y)]) j=if j=k then some y else Bu a j
 |[],_=>by
  by_cases e:k=j
  ·rw[Z9 e.symm];exact BU (p:=(k,y)) e
  ·rw[Z6 (λz=>e z.symm)];exact BF (p:=(k,y)) e
 |p::r,hn=>by
  rw[List.cons_append];have b:¬p.1=k:=λz=>by rw[BU z]at hn;cases hn
  rw[BF b]at hn;have c:=PV k j y r hn;by_cases e:p.1=j
  ·rw[BU e,BU e,Z6 (λz=>b (e.trans z))]
  ·rw[BF e,BF e,c]
theorem EN(b:List (κ×V))(k j:κ)(y:V):Bu (DQ b k y) j=if j=k then some y else Bu b j:=by
 unfold DQ;by_cases a:(b.any λc=>decide (c.1=k))=true
 ·rw[Z9 a,RU];rw[GW]at a;by_cases e:j=k
  ·obtain⟨x,d⟩:=Option.isSome_iff_exists.mp a;rw[Z9 e,e,d,V7,Z9 rfl]
  ·rw[Z6 e];cases Bu b j with
   |none=>rfl
   |some x=>rw[V7,Z6 e]
 ·rw[Z6 a];refine PV k j y b ?_;rw[GW]at a;cases q:Bu b k with
  |none=>rfl
  |some x=>rw[q]at a;exact(a rfl).elim
theorem Gn(a:List (κ×V))(k:κ)(v:V):(DQ a k v).length<=a.length+1:=by
 unfold DQ;split
 ·rw[B5];lia
 ·rw[C4,F0,V8];lia
theorem FP{a:List (κ×V)}{k:κ}(v:V)(h:Bu a k=none):DQ a k v=a++[(k,v)]:=by
 unfold DQ;rw[GW,h];exact Z6 A3
theorem Jj.isSome_eq{o:Option V}{u:Option Value}(r:Jj o u):o.isSome=u.isSome:=by
 cases o with
 |none=>cases u with
  |none=>rfl
  |some _=>exact(show False from r).elim
 |some _=>cases u with
  |none=>exact(show False from r).elim
  |some _=>rfl
theorem Jj.getD{o:Option V}{u:Option Value}{d:V}{d':Value}(r:Jj o u)(a:Be d d'):Be (o.getD d) (u.getD d'):=by
 cases o with
 |none=>cases u with
  |none=>exact a
  |some _=>exact(show False from r).elim
 |some _=>cases u with
  |none=>exact(show False from r).elim
  |some _=>exact r
theorem KV.val{a:List (κ×V)}{vs:List (κ×Value)}(r:KV a vs)(k:κ):Jj (Bu a k) (valueAt vs k):=by
 unfold KV at r;induction r with
 |nil=>exact True.intro
 |@cons p q j c h t g =>
  obtain⟨f,i⟩:=h;by_cases e:p.1=k
  ·have d:q.1=k:=f.symm.trans e;have b:valueAt (q::c) k=some q.2:=by simp[valueAt,R4,d]
   rw[BU e,b];exact i
  ·have d:¬q.1=k:=λz=>e (f.trans z);have b:valueAt (q::c) k=valueAt c k:=by simp[valueAt,R4,d]
   rw[BF e,b];exact g
theorem KV.any{a:List (κ×V)}{vs:List (κ×Value)}(r:KV a vs)(k:κ):(a.any λb=>decide (b.1=k))=vs.any λb=>decide (b.1=k):=by
 unfold KV at r;induction r with
 |nil=>rfl
 |cons h t c=>rw[U4,U4,c,h.1]
theorem KV.repl{b:List (κ×V)}{vs:List (κ×Value)}(r:KV b vs)(k:κ){y:V}{u:Value}(f:Be y u) :
  KV (b.map λa=>if a.1=k then(a.1,y)else a) (vs.map λa=>if a.1=k then(a.1,u)else a):=by
 unfold KV at r⊢;induction r with
 |nil=>exact .nil
 |@cons p q j i h t d =>
  rw[F7,F7];refine .cons ?_ d;obtain⟨c,g⟩:=h;by_cases e:p.1=k
  ·rw[Z9 e,Z9 (c.symm.trans e)];exact⟨c,f⟩
  ·rw[Z6 e,Z6 (λz=>e (c.trans z))];exact⟨c,g⟩
theorem KV.put{a:List (κ×V)}{vs:List (κ×Value)}(r:KV a vs)(k:κ){y:V}{u:Value}(b:Be y u):KV (DQ a k y) (stored vs k u):=by
 unfold DQ stored;rw[r.any k];by_cases e:(vs.any λc=>decide (c.1=k))=true
 ·rw[Z9 e,Z9 e];exact r.repl k b
 ·rw[Z6 e,Z6 e];exact A2e r ⟨rfl,b⟩
theorem KV.length{a:List (κ×V)}{vs:List (κ×Value)}(r:KV a vs):a.length=vs.length:=A0a r
end
theorem SV{P:Program}{w:World}{k:Key}{u:Value}(r:Be (kV k) u):(CC P w).is k u=true:=by
 cases k with
 |inl i=>obtain⟨t,e⟩:=(show ∃t,u=Value.int i t from r);subst e;exact SR P w i t
 |inr x=>obtain⟨t,e⟩:=(show ∃t,u=Value.str x t from r);subst e;exact SQ P w x t
theorem Qm{P:Program}{w:World}:∀{a:List Key}{us:List Value},AO (a.map kV) us->ItemsAre (CC P w) a us
 |[],_,r=>by rw[Z3]at r;cases r;exact .nil
 |k::a,_,r=>by
  rw[F7]at r;cases r with
  |cons h t=>exact .cons (SV h) (Qm t)
abbrev KT(H:Hp):List (List Key×V)->List (List Key×Addr×Value)->Prop:=Paired λp q=>p.1=q.1/\H q.2.1=some (.tup (p.1.map kV))/\Be p.2 q.2.2
theorem KT.val{H:Hp}{a:List (List Key×V)}{xs:List (List Key×Addr×Value)}(r:KT H a xs)(k:List Key):Jj (Bu a k) ((atKey xs k).map (·.2)):=by
 induction r with
 |nil=>exact True.intro
 |@cons p q j c h t g =>
  obtain⟨f,_,i⟩:=h;by_cases e:p.1=k
  ·have d:q.1=k:=f.symm.trans e;have b:atKey (q::c) k=some q.2:=by simp[atKey,R4,d]
   rw[BU e,b];exact i
  ·have d:¬q.1=k:=λz=>e (f.trans z);have b:atKey (q::c) k=atKey c k:=by simp[atKey,R4,d]
   rw[BF e,b];exact g
theorem KT.repl{H:Hp}{a:List (List Key×V)}{xs:List (List Key×Addr×Value)}(r:KT H a xs)(k:List Key){y:V}{u:Value}(g:Be y u) :
  KT H (a.map λc=>if c.1=k then(c.1,y)else c) (xs.map (putAt k u)):=by
 induction r with
 |nil=>exact .nil
 |@cons p q l j h t f =>
  rw[F7,F7];refine .cons ?_ f;obtain⟨b,d,i⟩:=h;unfold putAt;by_cases e:p.1=k
  ·rw[Z9 e,Z9 (b.symm.trans e)];exact⟨b,d,g⟩
  ·rw[Z6 e,Z6 (λz=>e (b.trans z))];exact⟨b,d,i⟩
theorem KT.put{H:Hp}{a:List (List Key×V)}{xs:List (List Key×Addr×Value)}(r:KT H a xs)(k:List Key){b:Addr}{y:V}{u:Value}(d:H b=some (.tup (k.map kV)))(c:Be y u) :
  KT H (DQ a k y) (storedH xs k b u):=by
 have e:(a.any λf=>decide (f.1=k))=(atKey xs k).isSome:=by
  rw[GW,(r.val k).isSome_eq,Option.isSome_map]
 unfold DQ storedH;rw[e];by_cases q:(atKey xs k).isSome=true
 ·rw[Z9 q,Z9 q];exact r.repl k c
 ·rw[Z6 q,Z6 q];exact A2e r ⟨rfl,d,c⟩
theorem KT.keeps{H c:Hp}{a:List (List Key×V)}{xs:List (List Key×Addr×Value)}(r:KT H a xs)(d:∀b ys,H b=some (.tup ys)->c b=some (.tup ys)):KT c a xs :=
 Paired.mapP r λ_ _ z=>⟨z.1,d _ _ z.2.1,z.2.2⟩
section
variable{P:Program}{w:World}{H:Hp}{h:Heap}{a:Addr}
theorem rd_of{u:HO}(ok:HOk P w H h)(e:Rd H a u):BW P w H h a u:=e.ok ok
theorem Qs{b:List (Key×V)}(ok:HOk P w H h)(e:Rd H a (.dK b)):b.length<=sizeLine/\(a==sysModules)=false/\∃vs,KV b vs/\h.DictOf (CC P w) a vs :=
 show BW P w H h a (.dK b)from rd_of ok e
theorem dk_of{b:List (Key×V)}(ok:HOk P w H h)(e:H a=some (.dK b)):b.length<=sizeLine/\(a==sysModules)=false/\∃vs,KV b vs/\h.DictOf (CC P w) a vs:=Qs ok (.inl e)
theorem Pb{c:List Key}(ok:HOk P w H h)(e:H a=some (.tup (c.map kV))):(tupleKind (CC P w)).is h c a:=by
 obtain⟨_,b,r,o,d,f,n,g⟩:=(show BW P w H h a (.tup (c.map kV))from ok a _ e)
 exact⟨o,b.toArray,n,d,f,g,by simpa using Qm r⟩
theorem Qq{b:List (List Key×V)}(ok:HOk P w H h)(e:Rd H a (.dT b)):b.length<=sizeLine/\(a==sysModules)=false /\
  ∃xs,KT H b xs/\h.DictOfH (tupleKind (CC P w)) a xs:=by
 obtain⟨z,y,xs,r,o,j,s,g,k,n,u,i⟩:=(show BW P w H h a (.dT b)from rd_of ok e)
 refine⟨z,y,xs,r,o,j,s,g,k,n,u,λx c=>?_,i⟩;have all:∀{l:List (List Key×V)}{m:List (List Key×Addr×Value)},KT H l m->∀x∈m,(tupleKind (CC P w)).is h x.1 x.2.1:=by
  intro l m q;induction q with
  |nil=>intro x c;exact nomatch c
  |@cons p q A v d t f =>
   intro x c;rcases B7.mp c with e|c
   ·subst e;exact Pb ok (by rw[<-d.1];exact d.2.1)
   ·exact f x c
 exact all r x c
theorem dt_of{b:List (List Key×V)}(ok:HOk P w H h)(e:H a=some (.dT b)):b.length<=sizeLine/\(a==sysModules)=false /\
  ∃xs,KT H b xs/\h.DictOfH (tupleKind (CC P w)) a xs:=Qq ok (.inl e)
end
def Ie(H:Hp)(a:Addr)(y:V)(r:Option V):Prop :=
 (∃kvs k,Rd H a (.dK kvs)/\y=kV k/\r=Bu kvs k)\/∃kvs k b,Rd H a (.dT kvs)/\y=.ref b/\H b=some (.tup (k.map kV))/\r=Bu kvs k
def MJ(H:Hp)(a:Addr)(y v:V)(H':Hp):Prop :=
 (∃kvs k,H a=some (.dK kvs)/\y=kV k/\kvs.length<sizeLine/\H'=upd H a (.dK (DQ kvs k v))) \/
 ∃kvs k b,H a=some (.dT kvs)/\y=.ref b/\H b=some (.tup (k.map kV))/\kvs.length<sizeLine/\H'=upd H a (.dT (DQ kvs k v))
theorem Ie.k{H:Hp}{a:Addr}{b:List (Key×V)}{k:Key}(e:H a=some (.dK b)):Ie H a (kV k) (Bu b k):=.inl ⟨b,k,.inl e,rfl,rfl⟩
theorem Ie.t{H:Hp}{a b:Addr}{c:List (List Key×V)}{k:List Key}(e:H a=some (.dT c))(d:H b=some (.tup (k.map kV))):Ie H a (.ref b) (Bu c k):=.inr ⟨c,k,b,.inl e,rfl,d,rfl⟩
theorem MJ.k{H:Hp}{a:Addr}{b:List (Key×V)}{k:Key}{v:V}(e:H a=some (.dK b))(c:b.length<sizeLine):MJ H a (kV k) v (upd H a (.dK (DQ b k v))):=.inl ⟨b,k,e,rfl,c,rfl⟩
theorem MJ.t{H:Hp}{a b:Addr}{c:List (List Key×V)}{k:List Key}{v:V}(e:H a=some (.dT c))(f:H b=some (.tup (k.map kV)))(d:c.length<sizeLine) :
  MJ H a (.ref b) v (upd H a (.dT (DQ c k v))):=.inr ⟨c,k,b,e,rfl,f,d,rfl⟩
section
variable{X:Cx}{pins:List (Addr×Obj)}{σ:St}{H:Hp}{s:Shared}{a:Addr}{y v:V}{u r:Value}{o:Option V}{A:Around}{E:Value->Shared->Prop}
theorem Inv.big(I:Inv X pins σ H s):sysModules<s.heap.objs.size:=by
 have h:mainGlobals<s.heap.objs.size:=(I.mod.glob.keeps I.bk).lt;exact T8 A3 h
theorem WK{Q:Value->Shared->Prop}(B:A.units+1<cLine)(I:Inv X pins σ H s)(g:Ie H a y (some v))(q:Be y u)(h:∀f s',Inv X pins σ H s'->Be v f->Q f s') :
  wpAny (model X.prog X.w) A (getItem (.ref a) u) Q E s:=by
 rcases g with ⟨i,k,e,n,l⟩|⟨i,k,b,e,n,x,l⟩
 ·subst n;obtain⟨z,t,vs,d,dd⟩:=Qs I.hok e;obtain⟨f,m,c⟩:=Jj.some_of (v:=v) (o:=valueAt vs k) (by rw[l];exact d.val k);exact wpAny_getItem_of (SV q) dd.mapOf m (h f _ (I.tok _) c)
 ·subst n;cases(show u=Value.ref b from q);obtain⟨z,t,xs,d,dd⟩:=Qq I.hok e;obtain⟨f,m,c⟩:=Jj.some_of (v:=v) (o:=(atKey xs k).map (·.2)) (by rw[l];exact d.val k);obtain⟨p,hp,j⟩:=D8.mp m;refine wpAny_getItem_heap (A3h B) (Pb I.hok x) dd hp ?_;rw[j];exact h f _ (I.tok _) c
theorem d_notIn{Q:Value->Shared->Prop}(n:A.units+1<cLine)(I:Inv X pins σ H s)(g:Ie H a y o)(j:Be y u)(h:∀s',Inv X pins σ H s'->Q (.bool (!o.isSome)) s') :
  wpAny (model X.prog X.w) A (compareOp .NotIn u (.ref a)) Q E s:=by
 rcases g with ⟨d,k,e,i,l⟩|⟨d,k,b,e,i,m,l⟩
 ·subst i;obtain⟨z,f,vs,c,dd⟩:=Qs I.hok e;refine wpAny_notIn_of (SV j) f dd.mapOf ?_;rw[<-(c.val k).isSome_eq,<-l];exact h _ (I.tok _)
 ·subst i;cases(show u=Value.ref b from j);obtain⟨z,f,xs,c,dd⟩:=Qq I.hok e;refine wpAny_notIn_heap (A3h n) (Pb I.hok m) f dd ?_;have q:=(c.val k).isSome_eq;rw[Option.isSome_map]at q;rw[<-q,<-l];exact h _ (I.tok _)
theorem VF{h':Heap}{t':Nat}{c:HO}(I:Inv X pins σ H s)(f:Mut (H a))(g:Heap.SameBut a s.heap h')(h:∃q,h'.get? a=some q)(new:BW X.prog X.w (upd H a c) h' a c) :
  Inv X pins σ (upd H a c) {s with heap:=h',toks:=t'} :=
 I.write (x:=a) (e:=a) f (.inl rfl) (λb q d z=>(g.2 b d).trans z) h new
theorem dk_new{P:Program}{w:World}{d:Hp}{h':Heap}{b:List (Key×V)}{vs:List (Key×Value)}(z:b.length<=sizeLine)(e:(a==sysModules)=false)(c:KV b vs)(dd:h'.DictOf (CC P w) a vs) :
  BW P w d h' a (.dK b):=⟨z,e,vs,c,dd⟩
theorem WJ{G:Hp}{Q:Unit->Shared->Prop}(R:A.units+1<cLine)(I:Inv X pins σ H s)(g:MJ H a y v G)(D:Be y u)(M:Be v r)(h:∀s',Inv X pins σ G s'->Q () s') :
  wpAny (model X.prog X.w) A (setItem (.ref a) u r) Q E s:=by
 rcases g with ⟨d,k,e,B,l,x⟩|⟨d,k,b,e,B,C,l,x⟩
 ·subst B x;obtain⟨z,n,vs,f,dd⟩:=dk_of I.hok e;have m:vs.length<=sizeLine:=by rw[<-f.length];exact z
  have t:(DQ d k v).length<=sizeLine:=by have:=Gn d k v;lia
  refine wpAny_setItem_pairs (hsz:=m) (SV D) dd λh' i p=>h _ ?_;have U:∃q,h'.get? a=some q:=let ⟨q,_,_,j,_⟩:=i;⟨q,j⟩;exact VF I (by rw[e];exact True.intro) p U (dk_new t n (f.put k M) i)
 ·subst B x;cases(show u=Value.ref b from D);obtain⟨z,n,xs,f,dd⟩:=dt_of I.hok e;have m:xs.length<=sizeLine:=by rw[<-A0a f];exact z
  have t:(DQ d k v).length<=sizeLine:=by have:=Gn d k v;lia
  refine wpAny_setItem_heap (hsz:=m) (A3h R) (Pb I.hok C) dd λh' i p=>h _ ?_;obtain⟨q,O,P,j,V,T,S,_,N⟩:=i;refine VF I (by rw[e];exact True.intro) p ⟨q,j⟩ ⟨t,n,_,(f.put k C M).keeps λc ys K=>?_,q,O,P,j,V,T,S,N⟩;rw[Ax (AH K e (λz=>nomatch z))];exact K
end
section
variable{X:Cx}{pins:List (Addr×Obj)}{σ:St}{H:Hp}{s:Shared}{a:Addr}{kvs:List (Key×V)}{k:Key}{u:Value}{A:Around}{E:Value->Shared->Prop}
end
def NoSl(i:Expr):Prop:=∀ov iv,subscripted i false ov iv=operate [ov,iv] (getItem ov iv)
theorem subD_of{prog:Program}{w:World}{A:Around}{E:Value->Shared->Prop}{s:Shared}{g:Env}{b a:Expr}{l:Pos}{T id:String}{Q:Value->Shared->Prop}
  (n:typeLookup (.type T) "__getitem__" = pure (some (.builtin id))) (p:NoSl a)
  (h:wpAny (model prog w) A (eval b g) (λo f=>wpAny (model prog w) A (eval a g) (λi c=>c.TypeIs o T/\wpAny (model prog w) A (getItem o i) Q E c) E f) E s) :
  wpAny (model prog w) A (eval (.Subscript b a l) g) Q E s:=by
 refine Subscript_ (A0f h (λo f k=>A0f k (λi c d=>?_) λ_ _ x=>x) λ_ _ x=>x);obtain⟨m,d⟩:=d;unfold subscriptTail;refine Z5 ?_;rw[getitemInPython_of_ne m.not_modules];refine Z5 (wpAny_specialOf m n ?_);have fin:wpAny (model prog w) A (subscripted a false o i) (λr e=>wpAny (model prog w) A (letTemporaryGo b o r >>= λ_=>pure r) Q E e) E c:=by
  rw[p o i];exact wpAny_operating (A0f d (λr e j=>Z5 (wpAny_letTemporaryGo (K3 j))) λ_ _ x=>x)
 first
  |exact K3 (Z5 fin)
  |exact Z5 (K3 (Z5 fin))
  |exact Z5 fin
theorem Tb{X:Cx}{pins:List (Addr×Obj)}{σ:St}{H:Hp}{s:Shared}{a:Addr}{y:V}{o:Option V}(I:Inv X pins σ H s)(g:Ie H a y o):s.TypeIs (.ref a) "dict" := by
 rcases g with ⟨c,k,e,_,_⟩|⟨c,k,b,e,_,_,_⟩
 ·obtain⟨_,_,vs,_,dd⟩:=Qs I.hok e;exact dd.typeIs
 ·obtain⟨_,_,xs,_,dd⟩:=Qq I.hok e;exact dd.typeIs
def tDGet(td ty:TE):TE:=fun σ H Q=>td σ H λx H1=>ty σ H1 λy H2=>∃a v,x=.ref a/\Ie H2 a y (some v)/\Q v H2
def tDNotIn(ty td:TE):TE:=fun σ H Q=>ty σ H λy H1=>td σ H1 λx H2=>∃a o,x=.ref a/\Ie H2 a y o/\Q (.bl (!o.isSome)) H2
def sDPut(td ty tv:TE):TS:=λD σ H=>tv σ H λv H1=>td σ H1 λx H2=>ty σ H2 λy H3=>∃a H4,x=.ref a/\MJ H3 a y v H4/\D.nx σ H4
section
variable{X:Cx}{o i e value:Expr}{pos pos' tpos:Pos}{td ty tv:TE}
theorem Vg(n:X.A.units+1<cLine)(j:PE X o td)(r:PE X i ty)(m:NoSl i):PE X (.Subscript o i pos) (tDGet td ty):=by
 intro pins s σ H Q I h;refine subD_of PySem.F.slot_dict_getitem.lookup m (thn (j pins s σ H _ I h) λu k ⟨x,f,p,l,w⟩=>thn (r pins k σ f _ p w) λE C ⟨y,d,c,q,a,v,z,g,t⟩=>?_);subst z;obtain rfl:u=Value.ref a:=l;exact⟨Tb c g,WK n c g q λG D B b=>⟨v,d,B,b,t⟩⟩
theorem We(w:X.A.units+1<cLine)(q:PE X i ty)(v:PE X o td):PC X .NotIn i o (tDNotIn ty td):=by
 intro pins s σ H Q I h;refine thn (q pins s σ H _ I h) λC b ⟨y,n,d,f,j⟩=>thn (v pins b σ n _ d j) λu z ⟨x,m,p,k,a,c,l,g,r⟩=>?_;subst l;obtain rfl:u=Value.ref a:=k;exact d_notIn w p g f λB t=>⟨.bl (!c.isSome),m,t,rfl,r⟩
theorem Fn(p:X.A.units+1<cLine)(d:PE X o td)(B:PE X i ty)(m:PE X value tv)(n:swapsWith value (some (.Subscript o i pos')) pos.line X.env=pure false) :
  PS X (.Assign [.Subscript o i pos'] value pos) (sDPut td ty tv):=by
 intro pins s σ H D I h;refine wpAny_Assign_Subscript (thn (m pins s σ H _ I h) λr k ⟨v,c,q,N,E⟩=>thn (d pins k σ c _ q E) λu j ⟨x,b,z,l,C⟩=>thn (B pins j σ b _ z C) λR Q ⟨y,P,M,t,a,f,K,g,G⟩=>?_) n;subst K;obtain rfl:u=Value.ref a:=l;exact WJ p M g t N λO w=>⟨σ,f,w,G⟩
end
theorem dk_empty{P:Program}{w:World}{H:Hp}(h:Heap)(a:sysModules<h.objs.size):BW P w H (h.push {cls:=.type "dict",data:=.dict #[]}) h.objs.size (.dK []) :=
 ⟨L9 _,beq_eq_false_iff_ne.mpr (X7 (F5 a)),[],.nil,Heap.DictOf.new h⟩
theorem dt_empty{P:Program}{w:World}{H:Hp}(h:Heap)(a:sysModules<h.objs.size):BW P w H (h.push {cls:=.type "dict",data:=.dict #[]}) h.objs.size (.dT []) :=
 ⟨L9 _,beq_eq_false_iff_ne.mpr (X7 (F5 a)),[],.nil,_,#[],0,D5 _ rfl,⟨rfl,rfl,rfl⟩,rfl,rfl,P6⟩
def tDNewK:TE:=λ_ H Q=>∀p,H p=none->Q (.ref p) (upd H p (.dK []))
def tDNewT:TE:=λ_ H Q=>∀p,H p=none->Q (.ref p) (upd H p (.dT []))
section
variable{X:Cx}{pos:Pos}
theorem GY:PE X (.Dict [] [] pos) tDNewK:=λpins s σ H Q I h =>
 wpAny_Dict_empty ⟨.ref s.heap.objs.size,_,I.laid (a:=s.heap.objs.size) (o:=.dK []) (t':=s.toks) (λ_ _ q=>C0 _ q) (C1 _) (dk_empty s.heap I.big),rfl,h _ (I.hok.fresh (C1 _))⟩
theorem OM:PE X (.Dict [] [] pos) tDNewT:=λpins s σ H Q I h =>
 wpAny_Dict_empty ⟨.ref s.heap.objs.size,_,I.laid (a:=s.heap.objs.size) (o:=.dT []) (t':=s.toks) (λ_ _ q=>C0 _ q) (C1 _) (dt_empty s.heap I.big),rfl,h _ (I.hok.fresh (C1 _))⟩
end
structure M1(X:Cx)(o:Expr)(m:Str)(apos:Pos)(e:Expr)(cpos:Pos):Prop where
 base:attributeBase o m X.env (eval o X.env)=eval o X.env
 few:((backTo cpos (starEach [e] X.env)).all (λx=>!x.1) && (backToKw cpos (keywordEach [] X.env)).all (λx=>x.1.isSome)
  && decide (([e]:List Expr).length+([]:List Keyword).length+(if([]:List Keyword).isEmpty then 0 else 1)<30))=true
 line:(apos.endLine==cpos.line)=true
 trees:backTo cpos (starEach [e] X.env)=[(false,eval e X.env)]
def IsD(H:Hp)(a:Addr):Prop:=(∃kvs,Rd H a (.dK kvs))\/∃kvs,Rd H a (.dT kvs)
theorem isD_at{X:Cx}{pins:List (Addr×Obj)}{σ:St}{H:Hp}{s:Shared}{a:Addr}(I:Inv X pins σ H s)(d:IsD H a) :
  s.TypeIs (.ref a) "dict" /\ (∀b,Value.ref a=.ref b->∃c,s.heap.get? b=some c/\c.dict=none)/\(a==sysModules)=false:=by
 rcases d with ⟨f,e⟩|⟨f,e⟩
 ·obtain⟨_,h,vs,_,dd⟩:=Qs I.hok e;refine⟨dd.typeIs,λb q=>?_,h⟩;cases q;obtain⟨c,_,_,g,i,_⟩:=dd;exact⟨c,g,i.2.1⟩
 ·obtain⟨_,h,xs,_,dd⟩:=Qq I.hok e;refine⟨dd.typeIs,λb q=>?_,h⟩;cases q;obtain⟨c,_,_,g,i,_⟩:=dd;exact⟨c,g,i.2.1⟩
section
variable{X:Cx}{pins:List (Addr×Obj)}{σ:St}{H:Hp}{s:Shared}{a:Addr}{y d:V}{u r:Value}{o:Option V}{A:Around}{E:Value->Shared->Prop}
theorem d_get1{Q:Value->Shared->Prop}(q:A.units+1<cLine)(I:Inv X pins σ H s)(g:Ie H a y o)(m:Be y u)(h:∀n s',Inv X pins σ H s'->Be (o.getD .non) n->Q n s') :
  wpAny (model X.prog X.w) A (call (.builtin "dict.get") [.ref a,u]) Q E s:=by
 rcases g with ⟨f,k,e,j,l⟩|⟨f,k,b,e,j,p,l⟩
 ·subst j;obtain⟨z,i,vs,c,dd⟩:=Qs I.hok e;refine call_meetsIn A4f dd.typeIs PySem.F.entry_dict_get (PySem.F.args_dict_get_2 _ _) (meets_dict_get (CC X.prog X.w) a (SV m) i) ⟨_,dd.mapOf,h _ _ (I.tok _) ?_⟩;rw[l];exact(c.val k).getD rfl
 ·subst j;cases(show u=Value.ref b from m);obtain⟨z,i,xs,c,dd⟩:=Qq I.hok e;refine call_meetsIn A4f dd.typeIs PySem.F.entry_dict_get (PySem.F.args_dict_get_2 _ _) (meetsH_dict_get (tupleKind (CC X.prog X.w)) a b i) ⟨A3h q,k,xs,Pb I.hok p,dd,h _ _ (I.tok _) ?_⟩;rw[l];exact(c.val k).getD rfl
end
def tDGet1(td ty:TE):TE:=fun σ H Q=>td σ H λx H1=>∃a,x=.ref a/\IsD H1 a/\ty σ H1 λy H2=>∃o,Ie H2 a y o/\Q (o.getD .non) H2
section
variable{X:Cx}{o e f:Expr}{apos cpos:Pos}{td ty tx:TE}
theorem FQ(q:X.A.units+1<cLine)(l:PE X o td)(z:PE X e ty)(m:M1 X o "get" apos e cpos):PE X (.Call (.Attribute o "get" apos) [e] [] cpos) (tDGet1 td ty):=by
 intro pins s σ H Q I h;refine wpAny_Call_method m.base m.few m.line PySem.F.plainAttrs_dict A4f PySem.F.type_dict_get (thn (l pins s σ H _ I h) λu n ⟨x,j,c,p,a,C,d,B⟩=>?_);subst C;obtain rfl:u=Value.ref a:=p;obtain⟨k,w,_⟩:=isD_at c d;refine⟨k,w,?_⟩;rw[m.trees];refine Calls.callWith_builtin rfl (A5f (Calls.spliced_cons (thn (z pins n σ j _ c B) λM E ⟨y,i,t,r,G,g,v⟩=>Calls.spliced_nil ?_)));exact d_get1 q t g r λN K D b=>⟨_,i,D,b,v⟩
end
section
variable{X:Cx}{pins:List (Addr×Obj)}{σ:St}{H:Hp}{s:Shared}{a:Addr}{kvs:List (Key×V)}{A:Around}{E:Value->Shared->Prop}
end
section
variable{X:Cx}{pins:List (Addr×Obj)}{σ:St}{H:Hp}{s:Shared}{a:Addr}{y:V}{u:Value}{A:Around}{E:Value->Shared->Prop}
end
section
variable{X:Cx}
end
section
variable{κ:Type}[DecidableEq κ]
theorem WX{a:List (κ×V)}{k:κ}(h:Bu a k=none):¬k∈a.map (·.1):=by
 intro m;obtain⟨p,hp,e⟩:=C3.mp m;have q:(a.any λb=>decide (b.1=k))=true:=Q9.mpr ⟨p,hp,Z7 e⟩;rw[GW,h]at q;exact absurd q A6
theorem Vn:∀{l:List κ}{k:κ},l.Nodup->¬k∈l->(l++[k]).Nodup
 |[],k,_,_=>by simp
 |a::r,k,h,hk=>by
  obtain⟨c,b⟩:=N5.mp h;show(a::(r++[k])).Nodup;refine N5.mpr ⟨λm=>?_,Vn b λm=>hk (B7.mpr (Or.inr m))⟩;rcases F9.mp m with q|q
  ·exact c q
  ·exact hk (B7.mpr (Or.inl (D6.mp q).symm))
theorem nd_putK{a:List (κ×V)}{k:κ}(v:V)(b:(a.map (·.1)).Nodup)(h:Bu a k=none):((DQ a k v).map (·.1)).Nodup:=by
 rw[FP v h,C5];exact Vn b (WX h)
end
section
variable{X:Cx}
theorem Ra{K:W.Frag}{e:Expr}{f:Str}{b:TE}{a:Pos}(d:X.K=K)(g:PE X e b)(c:attributeBase e f X.env (eval e X.env)=eval e X.env):PE X (.Attribute e f a) (tFld K b f):=d▸AC g c
end
section
variable{X:Cx}
theorem Ia{ns:List Int}{a:List Value}(d:AO (ns.map V.int) a):∀(i:Nat) v,a.toArray[i]?=some v->∃t,v=.int (ns.getD i 0) t:=λi v e=>by
 have e:a[i]?=some v:=by simpa using e
 cases c:ns[i]? with
 |none =>
  have:a[i]?=none:=d.none_of (by rw[B8,c];rfl);rw[e]at this;cases this
 |some b =>
  obtain⟨u,f,g⟩:=d.get (i:=i) (x:=V.int b) (by rw[B8,c];rfl);rw[e]at f;cases f;rw[F1,c];obtain⟨t,rfl⟩:=g;exact⟨t,rfl⟩
theorem Qv(N:X.calm=true):Ge X (.builtin "min") (λxs H Q=>∃(p:Addr)(ns:List Int),xs=[.ref p]/\SqL X.K H p (ns.map V.int)/\ns≠[]/\∀m∈ns,(∀x∈ns,m<=x)->Q (.int m) H):=by
 intro pins s σ H xs us Q I r h;obtain⟨p,ns,rfl,D,ne,q⟩:=h;cases r with
 |cons y P =>
  cases P;cases(show _=Value.ref p from y);obtain⟨a,l,pl,R⟩:=I.list D;have d:p<s.heap.objs.size:=by obtain⟨o,n,e,_⟩:=pl;exact C9 e
  have k:p≠s.heap.objs.size:=F5 d;have len:a.toArray.size=ns.length:=by rw[D4,<-l.length,B5]
  have g:0<ns.length:=T5.mpr ne;refine call_min_walk (A3a pl.isList ?_);refine⟨s.heap.objs.size,_,_,_,_,_,_,rfl,(Walks.list (A:=X.A.in1) (I.ok.hd N) s.heap.objs.size p k a.toArray),⟨⟨_,D5 _ rfl,rfl,rfl⟩,?_⟩,?_,by rw[len];exact g,CmpOf.ints_lt (λi=>ns.getD i 0) (Ia l),?_⟩
  ·exact pl.isList.at λo e=>C0 _ e
  ·intro b f;show b<(s.heap.push _).objs.size;rw[P7];rcases B7.mp f with rfl|f
   ·exact U7 _
   ·rcases B7.mp f with rfl|f
    ·exact Z1 d
    ·cases f
  ·intro v h' tk w B;have O:Inv X pins σ H {s with heap:=h',toks:=tk}:=I.kept λb o e=>B b o (by intro z;exact F5 (C9 e) (by simpa using z)) (C0 _ e);obtain⟨t,rfl⟩:=Ia l _ _ w;obtain⟨u,b2⟩:=argBest_lt (λi=>ns.getD i 0) (a.toArray.size-1);generalize argBest (λi j=>decide (ns.getD i 0<ns.getD j 0)) (a.toArray.size-1)=z at u b2 w⊢;rw[len]at u b2;have c:z<ns.length:=by lia
   have M:ns.getD z 0=ns[z]:=by rw[F1,B9 c];rfl
   refine⟨.int _,H,O,⟨t,rfl⟩,q _ (by rw[M];exact S1 c) λx E=>?_⟩;obtain⟨j,G,e⟩:=W5.mp E;have:=b2 j A0;have C:ns.getD j 0=x:=by rw[F1,B9 G,<-e];rfl
   rw[<-C];exact this
theorem Nl(N:X.calm=true):Ge X (.builtin "max") (λxs H Q=>∃(p:Addr)(ns:List Int),xs=[.ref p]/\SqL X.K H p (ns.map V.int)/\ns≠[]/\∀m∈ns,(∀x∈ns,x<=m)->Q (.int m) H):=by
 intro pins s σ H xs us Q I r h;obtain⟨p,ns,rfl,D,ne,q⟩:=h;cases r with
 |cons y P =>
  cases P;cases(show _=Value.ref p from y);obtain⟨a,l,pl,R⟩:=I.list D;have d:p<s.heap.objs.size:=by obtain⟨o,n,e,_⟩:=pl;exact C9 e
  have k:p≠s.heap.objs.size:=F5 d;have len:a.toArray.size=ns.length:=by rw[D4,<-l.length,B5]
  have g:0<ns.length:=T5.mpr ne;refine call_max_walk (A3a pl.isList ?_);refine⟨s.heap.objs.size,_,_,_,_,_,_,rfl,(Walks.list (A:=X.A.in1) (I.ok.hd N) s.heap.objs.size p k a.toArray),⟨⟨_,D5 _ rfl,rfl,rfl⟩,?_⟩,?_,by rw[len];exact g,CmpOf.ints_gt (λi=>ns.getD i 0) (Ia l),?_⟩
  ·exact pl.isList.at λo e=>C0 _ e
  ·intro b f;show b<(s.heap.push _).objs.size;rw[P7];rcases B7.mp f with rfl|f
   ·exact U7 _
   ·rcases B7.mp f with rfl|f
    ·exact Z1 d
    ·cases f
  ·intro v h' tk w B;have O:Inv X pins σ H {s with heap:=h',toks:=tk}:=I.kept λb o e=>B b o (by intro z;exact F5 (C9 e) (by simpa using z)) (C0 _ e);obtain⟨t,rfl⟩:=Ia l _ _ w;obtain⟨u,b2⟩:=argBest_gt (λi=>ns.getD i 0) (a.toArray.size-1);generalize argBest (λi j=>decide (ns.getD i 0 > ns.getD j 0)) (a.toArray.size-1)=z at u b2 w⊢;rw[len]at u b2;have c:z<ns.length:=by lia
   have M:ns.getD z 0=ns[z]:=by rw[F1,B9 c];rfl
   refine⟨.int _,H,O,⟨t,rfl⟩,q _ (by rw[M];exact S1 c) λx E=>?_⟩;obtain⟨j,G,e⟩:=W5.mp E;have:=b2 j A0;have C:ns.getD j 0=x:=by rw[F1,B9 G,<-e];rfl
   rw[<-C];exact this
end
theorem all_same(ns a:List Int):((List.range (min ns.length a.length)).all (λj=>ns.getD j 0==a.getD j 0) && ns.length==a.length)=decide (ns=a):=by
 rw[Q4,O6,O1,A4a,decide_eq_true_iff];constructor
 ·rintro⟨b,c⟩;refine List.ext_getElem c λi d e=>?_;have:=b i (M0.mpr A0);rw[A4a,F1,F1,B9 d,B9 e]at this;exact this
 ·rintro rfl;exact⟨λx _=>beq_iff_eq.mpr rfl,rfl⟩
section
variable{X:Cx}
theorem Wa{H:Hp}{ns:List Int}{b:List Value}(i:AO (ns.map V.int) b){A:Around}{s:Shared}{d:List Int}{a:List Value}(c:AO (d.map V.int) a)(j:Nat)(g:j<b.toArray.size)(h:j<a.toArray.size):PySem.SeqAt.EqAt A s b.toArray[j] a.toArray[j] (ns.getD j 0==d.getD j 0):=by
 obtain⟨t,e⟩:=Ia i j _ (Array.getElem?_eq_getElem g);obtain⟨u,f⟩:=Ia c j _ (Array.getElem?_eq_getElem h);rw[e,f];exact PySem.SeqAt.EqAt.int_int _ t _ u
theorem Wh(n:X.A.units+64<cLine):OpR X (compareOp .Eq) (λx y H Q=>∃(a b:Addr)(ns c:List Int),x=.ref a/\y=.ref b/\SqT X.K H a (ns.map V.int)/\SqT X.K H b (c.map V.int)/\Q (.bl (decide (ns=c))) H):=by
 intro pins s σ H x y v u Q I i f h;obtain⟨a,b,ns,c,rfl,rfl,g,l,q⟩:=h;cases i;cases f;obtain⟨xs,d,k,_⟩:=I.tuple g;obtain⟨ys,e,m,_⟩:=I.tuple l;refine PySem.SeqAt.eq_tupleAt k m A0 (λj k1 k2=>Wa (H:=H) d e j k1 k2) ?_;rw[D4,D4,<-d.length,<-e.length,B5,B5,all_same];exact⟨.bl _,H,I,rfl,q⟩
end
section
variable{prog:Program}{w:World}{κ:Type}[DecidableEq κ]{knd:HeapKind prog w κ}{A:Around}{E:Value->Shared->Prop}{s:Shared}
end
section
variable{X:Cx}{pins:List (Addr×Obj)}{σ:St}{H:Hp}{s:Shared}{a:Addr}{y v:V}{u r:Value}{o:Option V}{A:Around}{E:Value->Shared->Prop}
end
section
variable{X:Cx}{o e f:Expr}{apos cpos:Pos}{td ty tx:TE}
end
section
variable{prog:Program}{w:World}{A:Around}{E:Value->Shared->Prop}{s:Shared}{d it:Addr}{o:Obj}{es:Array DictEntry}{ep i:Nat}
end
end L2
namespace L2
open PySem PySem.W PySem.Spec PyProof.Rows
section
variable{X:Cx}{CX:CXT}{k:Nat}{ps:List Str}{sp:Sp}{E:XK}{x:Str}{p pos:Pos}{e:Expr}{es:List Expr}{t:TA}{S:St->Prop}
theorem pe_calS(c:Cal X.prog X.w X.K X.mg X.base CX k x ps sp)(g:Df k X.A)(l:Gl X x)(m:Ol CX X E S)(d:PA X (e::es) t)(b:(x==("__debug__" : Str))=false:=by decide)
  (n:starEach (e::es) X.env=(false,eval e X.env)::starEach es X.env:=by rfl) (a:(backTo pos (starEach es X.env)).any (·.1)=false:=by rfl):PE X (.Call (.Name x p) (e::es) [] pos) (Yf S sp [] E t):=by
 obtain⟨f,q,h,i,j,o⟩:=c;exact YQ h g l i j o .nil m d b n a
end
section
variable{X:Cx}
end
end L2
namespace Tx
open PySem PySem.Builtin PySem.Builtin.Str PyProof.Rows
theorem CS(a b:Str):(a++b).cps.toList=a.cps.toList++b.cps.toList:=cps_toList_append a b
def jl(sep:List Nat):List (List Nat)->List Nat
 |[]=>[]
 |[x]=>x
 |x::y::r=>x++sep++jl sep (y::r)
theorem Ib(a:Str):∀b:List Str,(Str.join a b).cps.toList=jl a.cps.toList (b.map λt=>t.cps.toList)
 |[]=>rfl
 |[x]=>rfl
 |x::y::r=>by
  have e:Str.join a (x::y::r)=x++a++Str.join a (y::r):=rfl;rw[e,CS,CS,Ib a (y::r)];rfl
theorem RH{c:Nat}:∀{x y A B:List Nat},c∉x->c∉y->x++c::A=y++c::B->x=y/\A=B
 |[],[],A,B,_,_,h=>⟨rfl,by simpa using h⟩
 |[],y::ys,A,B,_,hy,h=>by
  simp at h;exact absurd (by rw[h.1];exact C7) hy
 |x::xs,[],A,B,hx,_,h=>by
  simp at h;exact absurd (by rw[<-h.1];exact C7) hx
 |x::xs,y::ys,A,B,hx,hy,h=>by
  simp at h;obtain⟨e,h⟩:=h;obtain⟨b,a⟩:=RH (x:=xs) (y:=ys) (λz=>hx (C8 _ z)) (λz=>hy (C8 _ z)) h;exact⟨by rw[e,b],a⟩
theorem Uk(c:Nat)(s:List Nat):∀(as bs:List (List Nat)),as≠[]->bs≠[]->(∀t∈as,c∉t)->(∀t∈bs,c∉t)->jl (c::s) as=jl (c::s) bs->as=bs
 |[],_,h,_,_,_,_=>absurd rfl h
 |_,[],_,h,_,_,_=>absurd rfl h
 |[x],[y],_,_,_,_,e=>by
  have a:x=y:=e;rw[a]
 |[x],y::z::r,_,_,ha,_,e=>by
  have a:x=y++c::s++jl (c::s) (z::r):=e;exact absurd (by rw[a];simp) (ha x C7)
 |x::z::r,[y],_,_,_,hb,e=>by
  have a:x++c::s++jl (c::s) (z::r)=y:=e;exact absurd (by rw[<-a];simp) (hb y C7)
 |x::x2::r,y::y2::r',_,_,ha,hb,e=>by
  have a:x++c::(s++jl (c::s) (x2::r))=y++c::(s++jl (c::s) (y2::r')):=by
   have:x++c::s++jl (c::s) (x2::r)=y++c::s++jl (c::s) (y2::r'):=e
   simpa using this
  obtain⟨g,f⟩:=RH (ha x C7) (hb y C7) a;have d:=List.append_cancel_left f;rw[g,Uk c s (x2::r) (y2::r') A6 A6 (λt b=>ha t (C8 _ b)) (λt b=>hb t (C8 _ b)) d]
theorem Qi {as bs:List Str} (h:as.map (λt=>t.cps.toList)=bs.map λt=>t.cps.toList):as=bs:=by
 induction as generalizing bs with
 |nil=>cases bs with|nil=>rfl|cons=>simp at h
 |cons a r c =>
  cases bs with
  |nil=>simp at h
  |cons b q =>
   simp at h;rw[Nu.ext (a:=a) (b:=b) (by simpa using h.1),c (by simpa using h.2)]
theorem Sd(c:Nat)(a:List Str)(d:a≠[])(e:∀t∈a,c∉t.cps.toList):Txt.split (Str.join ⟨#[c]⟩ a) ⟨#[c]⟩=a:=by
 refine Qi (Uk c [] _ _ ?_ ?_ ?_ ?_ ?_)
 ·intro h;have:=split_pos (Str.join ⟨#[c]⟩ a) ⟨#[c]⟩;have f:(Txt.split (Str.join ⟨#[c]⟩ a) ⟨#[c]⟩).length=0:=by simpa using K5 List.length h
  lia
 ·simpa using d
 ·intro t b;obtain⟨p,hp,rfl⟩:=C3.mp b;exact StrLaws.split_free _ c p hp
 ·intro t b;obtain⟨p,hp,rfl⟩:=C3.mp b;exact e p hp
 ·have h:=K5 (λz:Str=>z.cps.toList) (StrLaws.join_split (Str.join ⟨#[c]⟩ a) ⟨#[c]⟩);rw[Ib,Ib]at h;exact h
theorem Ed(c:Nat)(a b:Str)(h:c∉a.cps.toList):Txt.partition (a++⟨#[c]⟩++b) ⟨#[c]⟩=(a,⟨#[c]⟩,b):=by
 have d:c∈(a++⟨#[c]⟩++b).cps.toList:=by rw[CS,CS];simp
 have t:=StrLaws.partition_sum (a++⟨#[c]⟩++b) ⟨#[c]⟩;have q:=partition_head (a++⟨#[c]⟩++b) ⟨#[c]⟩;have m:=StrLaws.found_one (a++⟨#[c]⟩++b) c;rw[Z7 d]at m;have f:(Txt.partition (a++⟨#[c]⟩++b) ⟨#[c]⟩).2.1=⟨#[c]⟩:=by
  unfold Txt.partition;cases e:occurrences (a++⟨#[c]⟩++b) ⟨#[c]⟩ 0 (a++⟨#[c]⟩++b).length 1 with
  |nil=>rw[e]at m;simp at m
  |cons i l=>rfl
 have g:c∉(Txt.partition (a++⟨#[c]⟩++b) ⟨#[c]⟩).1.cps.toList:=by
  rcases q with ⟨_,no⟩|⟨i,e,v,no⟩
  ·obtain⟨j,u⟩:=J1 d;exact absurd ((StrLaws.subAt_one _ c j).mpr u) (no j)
  ·rw[e];exact StrLaws.part_free _ c 0 i (by have:i+1<=_:=v.1;lia) λk _ r=>no k r
 have e:(Txt.partition (a++⟨#[c]⟩++b) ⟨#[c]⟩).1.cps.toList++(Txt.partition (a++⟨#[c]⟩++b) ⟨#[c]⟩).2.1.cps.toList++(Txt.partition (a++⟨#[c]⟩++b) ⟨#[c]⟩).2.2.cps.toList=a.cps.toList++[c]++b.cps.toList:=by
  have n:=K5 (λz:Str=>z.cps.toList) t;rw[CS,CS,CS,CS]at n;exact n
 rw[f]at e;have s:(Txt.partition (a++⟨#[c]⟩++b) ⟨#[c]⟩).1.cps.toList++c::(Txt.partition (a++⟨#[c]⟩++b) ⟨#[c]⟩).2.2.cps.toList=a.cps.toList++c::b.cps.toList:=by simpa using e
 obtain⟨p,o⟩:=RH g h s;exact Prod.ext (Nu.ext p) (Prod.ext f (Nu.ext o))
theorem JI{n:Int}(a:0<=n)(b:n<=9):(Str.ofString (toString n))=(⟨#[48+n.toNat]⟩:Str):=by
 obtain⟨m,rfl⟩:=L5 a;exact(show ∀m:Nat,m<10->(Str.ofString (toString (m:Int)))=(⟨#[48+(m:Int).toNat]⟩:Str) by decide +kernel) m A0
end Tx
namespace Tx
open PySem PySem.Builtin PySem.Builtin.Str PyProof.Rows
theorem VA(c:Str)(m:Nat):∀(l:List Str)(b:Nat),(∀t∈l,t.length<=m)->l.foldl (λa t=>a+t.length+c.length) b<=b+l.length*(m+c.length)
 |[],b,_=>by simp
 |t::r,b,h=>by
  have e:=h t C7;have f:=VA c m r (b+t.length+c.length) λz d=>h z (C8 _ d);rw[S3,F0,V3];lia
theorem join_ok{b:Str}{l:List Str}(m:Nat)(h:∀t∈l,t.length<=m)(d:l.length*(m+b.length)<=100000):JoinOk b l=true:=by
 unfold JoinOk;have c:=VA b m l 0 h;have e:l.toArray.foldl (λa t=>a+t.length+b.length) 0=l.foldl (λa t=>a+t.length+b.length) 0:=by simp
 rw[e];have:tooLong (l.foldl (λa t=>a+t.length+b.length) 0)=false:=by
  unfold tooLong;refine Z8 ?_;have:(100000:Nat)<=sizeLine:=by decide
  lia
 rw[this];rfl
end Tx
namespace Tx
open PySem PySem.Builtin PySem.Builtin.Str PyProof.Rows
theorem at_two(x:Str)(c d k:Nat)(e:x.cps.toList[k]?=some c)(a:x.cps.toList[k+1]?=some d):StrLaws.At x ⟨#[c,d]⟩ x.length k:=by
 have l:k+1<x.cps.toList.length:=(B6.mp a).1;refine⟨?_,?_⟩
 ·show k+2<=x.length;rw[Nu.len];lia
 ·rw[StrLaws.subAt_eq];show((x.cps.toList.drop k).take 2==[c,d])=true;have b:x.cps.toList.drop k=c::d::x.cps.toList.drop (k+2):=by
   rw[List.drop_eq_getElem_cons A0,(B6.mp e).2,List.drop_eq_getElem_cons l,(B6.mp a).2]
  rw[b];simp
def Led(c d:Nat)(l:List Nat):Prop:=∀k:Nat,l[k]?=some c->l[k+1]?=some d
theorem ON{x:Str}{c d a b:Nat}(i:Led c d x.cps.toList)(m:b<=x.length)(l:∀k,a<=k->k<b->¬StrLaws.At x ⟨#[c,d]⟩ x.length k):c∉(strSub x a b).cps.toList:=by
 intro g;rw[StrLaws.strSub_toList]at g;obtain⟨j,e⟩:=J1 g;have f:j<b-a:=by
  have h:j<((x.cps.toList.drop a).take (b-a)).length:=(B6.mp e).1;rw[L8]at h;lia
 rw[U3 f,List.getElem?_drop]at e;exact l (a+j) A0 A0 (at_two x c d (a+j) e (i _ e))
theorem Ny{x:Str}{c d:Nat}(j:Led c d x.cps.toList):∀(b:List Nat)(a f:Nat),StrLaws.ChainG x ⟨#[c,d]⟩ x.length a b f->(∀k,f<=k->¬StrLaws.At x ⟨#[c,d]⟩ x.length k)->∀p∈StrLaws.partsFrom x 2 a b,c∉p.cps.toList
 |[],a,f,h,hn,p,hp=>by
  have e:f=a:=h;subst e;rw[D6.mp hp];exact ON j (C1 _) λk l _=>hn k l
 |g::r,a,f,h,hn,p,hp=>by
  rcases B7.mp hp with rfl|i
  ·exact ON j (by have:g+2<=_:=h.2.1.1;lia) h.2.2.1
  ·exact Ny j r _ f h.2.2.2 hn p i
theorem kind_le(x:Str):¬Builtin.Str.strKind x<Builtin.Str.strKind (⟨#[59,32]⟩:Str):=by
 have e:Builtin.Str.strKind (⟨#[59,32]⟩:Str)=1:=by simp[Builtin.Str.strKind]
 rw[e];unfold Builtin.Str.strKind;split
 ·decide
 ·split<;>decide
theorem Se{x:Str}(g:Led 59 32 x.cps.toList):∀p∈Txt.split x ⟨#[59,32]⟩,59∉p.cps.toList:=by
 obtain⟨f,d,l⟩:=StrLaws.occ_tight x ⟨#[59,32]⟩ A3;have a:59∈x.cps.toList->∃k,StrLaws.At x ⟨#[59,32]⟩ x.length k:=λb=>by
  obtain⟨j,i⟩:=J1 b;exact⟨j,at_two x 59 32 j i (g j i)⟩
 unfold Txt.split;split
 ·rename_i e;intro p hp;rw[D6.mp hp];intro b;obtain⟨k,c⟩:=a b;have o:k+2<=x.length:=c.1;rw[Bool.or_eq_true,A6a,A6a]at e;rcases e with h|h
  ·have q:x.length<2:=h;lia
  ·exact kind_le x h
 ·split
  ·rename_i m;intro p hp;rw[D6.mp hp];intro b;obtain⟨k,c⟩:=a b;rw[List.isEmpty_iff.mp m]at d;have n:f=0:=d;exact l k A0 c
  ·rw[StrLaws.partsBetween_eq];exact Ny g _ 0 f d l
theorem Zx{c d:Nat}(a:c≠d):∀b:List (List Nat),(∀t∈b,c∉t)->Led c d (jl [c,d] b)
 |[],_=>λk h=>by simp[jl]at h
 |[x],hf=>λk h=>absurd (D7 (show x[k]?=some c from h)) (hf x C7)
 |x::y::r,hf=>λk h=>by
  have f:=Zx a (y::r) λt j=>hf t (C8 _ j);have e:jl [c,d] (x::y::r)=x++(c::d::jl [c,d] (y::r)):=by
   show x++[c,d]++jl [c,d] (y::r)=_;simp
  rw[e]at h⊢;by_cases i:k<x.length
  ·rw[M9 i]at h;exact absurd (D7 h) (hf x C7)
  ·rw[F3 A0]at h;rw[F3 A0];obtain⟨m,g⟩:∃m,k-x.length=m:=⟨_,rfl⟩
   rw[show k+1-x.length=m+1 by lia];rw[g]at h;cases m with
   |zero=>rfl
   |succ m =>
    cases m with
    |zero =>
     have:some d=some c:=h;exact absurd (X5 this).symm a
    |succ m =>
     rw[V2,V2]at h⊢;exact f m h
theorem Sb(a:List Str)(d:a≠[])(e:∀t∈a,59∉t.cps.toList):Txt.split (Str.join ⟨#[59,32]⟩ a) ⟨#[59,32]⟩=a:=by
 have c:Led 59 32 (Str.join ⟨#[59,32]⟩ a).cps.toList:=by
  rw[Ib];refine Zx A3 _ λt b=>?_;obtain⟨p,hp,rfl⟩:=C3.mp b;exact e p hp
 refine Qi (Uk 59 [32] _ _ ?_ ?_ ?_ ?_ ?_)
 ·intro h;have:=split_pos (Str.join ⟨#[59,32]⟩ a) ⟨#[59,32]⟩;have f:(Txt.split (Str.join ⟨#[59,32]⟩ a) ⟨#[59,32]⟩).length=0:=by simpa using K5 List.length h
  lia
 ·simpa using d
 ·intro t b;obtain⟨p,hp,rfl⟩:=C3.mp b;exact Se c p hp
 ·intro t b;obtain⟨p,hp,rfl⟩:=C3.mp b;exact e p hp
 ·have h:=K5 (λz:Str=>z.cps.toList) (StrLaws.join_split (Str.join ⟨#[59,32]⟩ a) ⟨#[59,32]⟩);rw[Ib,Ib]at h;exact h
end Tx
namespace L2
open PySem PySem.Spec PyProof.Rows
section
variable{X:Cx}
def CDivB(i j:Int):Prop:=0<j/\j<2^64
theorem Mt:OpR X (binaryOp .FloorDiv) (rI CDivB λi j=>.int (i/j)):=opI λi j _ _ _ _ _ a q=>by
 have d:(0:Int)<j:=a.1;have c:j<2^64:=a.2;refine floordiv_int A0 (by rw[Int.fdiv_eq_ediv_of_nonneg i A0];exact q) (.inl (PyProof.noPylong_of_log2 ?_));have b:j.natAbs<2^64:=by lia
 exact F2 ((Nat.log2_lt A0).mpr b) A3
end
end L2
namespace L2
open PySem PySem.W PyProof.Rows
section
variable{rk:Nat->Int}{n:Nat}
end
end L2
namespace L2
open PySem PySem.W PySem.Spec PyProof.Rows
section
variable{prog:Program}{w:World}{A:Around}{E:Value->Shared->Prop}
end
section
variable{X:Cx}
end
section
variable{X:Cx}
end
section
variable(P:Program)(w:World)
end
section
variable{P:Program}{w:World}{sh:List Bool}{h h':Heap}
variable{A:Around}{E:Value->Shared->Prop}{s:Shared}
end
section
variable{P:Program}{w:World}{sh:List Bool}{H H':Hp}{h h':Heap}{a b:Addr}{k:NK}{kvs:List (NK×V)}
end
section
variable{X:Cx}{sh:List Bool}
variable{o e:Expr}{apos cpos:Pos}{td ty:TE}
variable{i value:Expr}{pos pos':Pos}{tv:TE}
end
section
variable{X:Cx}
end
section
variable{X:Cx}
end
section
variable{K:W.Frag}{b:Bool}{l:Addr}{xs:List V}{σ:St}{H:Hp}{k:Nat}{cs:List Nat}{g:TG}{tc:TT}{te:TE}{fin:List V->Hp->Prop}
end
section
variable{X:Cx}
end
end L2
namespace L2
open PySem PyProof.Rows
def TF(z:Str)(k:Nat):Str:=⟨List.foldl (λx y=>x++y) #[] (List.replicate k z.cps)⟩
theorem repS1(z:Str):TF z 1=z:=by
 unfold TF;show(⟨#[]++z.cps⟩:Str)=z;rw[Array.empty_append]
theorem YH(a:Array Nat)(k:Nat):∀b:Array Nat,(List.foldl (λx y=>x++y) b (List.replicate k a)).size=b.size+k*a.size:=by
 induction k with
 |zero=>intro b;simp
 |succ k c =>
  intro b;rw[Q7,S3,c,Array.size_append,V3];lia
theorem Ss{z:Str}(h:z.length=1)(k:Nat):(TF z k).length=k:=by
 have h:z.cps.size=1:=h;show(List.foldl (λx y=>x++y) #[] (List.replicate k z.cps)).size=k;rw[YH,h];show 0+k*1=k;lia
section
variable{X:Cx}
def rMulN:R2:=λx y H Q=>∃(z:Str)(k:Nat),x=.str z/\y=.int (k:Int)/\z.length=1/\k<=100/\Q (.str (TF z k)) H
theorem Vi:OpR X (binaryOp .Mult) rMulN:=by
 intro pins s σ H x y v u Q I d c h;obtain⟨z,k,rfl,rfl,a,f,q⟩:=h;obtain⟨t,rfl⟩:=d;obtain⟨t',rfl⟩:=c;refine PySem.P.mul_str (by rw[Bool.or_eq_false_iff];exact⟨Z8 A0,Z8 A0⟩) (λb _=>?_) (λ_ _=>?_) ?_
 ·rw[a];have:(1:Int)<=(2^63-1)/(k:Int):=(Int.le_ediv_iff_mul_le A0).mpr A0;lia
 ·rw[a,Nat.one_mul,L7];unfold Builtin.Str.tooLong;have:k<=100:=f;have:(100:Nat)<=sizeLine:=by decide
  exact Z8 (by simp;lia)
 ·by_cases e:k=0
  ·subst e;rw[Z9 A3];exact⟨by decide,.str _,H,I.tok _,⟨_,rfl⟩,q⟩
  ·rw[Z6 A0];by_cases b:k=1
   ·subst b;rw[Z9 A6];rw[repS1]at q;exact⟨.str _,H,I,⟨_,rfl⟩,q⟩
   ·rw[Z6 (by rw[a];simp;lia),L7];have g:=Ss a k;have i:(100:Nat)<=sizeLine:=by decide
    have le:(TF z k).length<=sizeLine:=by lia
    exact⟨le,.str _,H,I.tok _,⟨_,rfl⟩,q⟩
end
theorem Ur{K:W.Frag}{M:Model}{A:Around}{E:Value->Shared->Prop}{s:Shared}{e C D:Addr}{p:Obj}{Q:Bool->Shared->Prop}(X:K.In s.heap)(hC:JN K C)(T:JN K D)(q:mroIn K D (.ref C)=some false)
  (U:s.heap.get? e=some p) (a:p.cls=.ref D) (B:Q false s):wpAny M A (excMatches (.ref e) (.ref C)) Q E s:=by
 obtain⟨h,g,d,t,os⟩:=s;obtain⟨bm,N,nm,qn,bs,hd,sn,sub,ab,col,dd,k0,k1,k2,k3,k5,mN,hO,hN,hi,u,n⟩:=MD X T;have m:bm.contains (.type "BaseException")=true:=u.hasType A3;by_cases z:D=C
 ·subst z;have:(Value.ref D::bm).contains (.ref D)=false:=X5 ((n (.ref D)).symm.trans q);rw[Y8]at this;simp at this
 ·obtain⟨i,N',ac,w,v,G,R,r,y,o,O,V,S,aa,P,I,H,c,x,Y,l,Z⟩:=MD X hC;have j:(Value.ref C::i).contains (.type "BaseException")=true:=by rw[Y8,l.hasType (X:="BaseException") (b:=true) A3,Bool.or_true]
  have k:(Value.ref D::bm).contains (.ref C)=false:=X5 ((n (.ref C)).symm.trans q);have f:=tc_notTuple;unfold excMatches
  repeat (first
   | (with_reducible refine A4d U ?_;rw[a])
   |with_reducible refine A4d c ?_
   | (with_reducible refine A3e c ?_;rw[j])
   | (with_reducible refine A3e hO ?_;rw[k])
   |wp_step)
  exact B
section
variable{X:Cx}{C C2:Addr}{x n x2:Str}{np hpos pos np2 hpos2:Pos}{i:Nat}{b₀ b2:Stmt}{suite body suite2:List Stmt}{S:St->Prop}{tb:XK->TS}{th th2:TS}
theorem land2{pins V:List (Addr×Obj)}{σ:St}{H1:Hp}{s1 s':Shared}{e:Value}{E1:XK}{Q:Flow->Shared->Prop}{nm P:Option Str}{aq:Value->Shared->Prop}
  (u:X.stack=X.env::X.outer) (ah:X.env.frame=some X.env.locals) (av:X.ex=[]) (hg:Gl X x) (hm:X.mg x=some (.ref C)) (hC:JN X.K C) (ar:Gl X x2) (au:X.mg x2=some (.ref C2)) (as:JN X.K C2) (an:X.calm=true)
  (al:∀U d h,E1 U d h->∃D,U=.ref D/\JN X.K D/\(mroIn X.K D (.ref C)=some true\/(mroIn X.K D (.ref C)=some false/\mroIn X.K D (.ref C2)=some true)))
  (J0:Inv {X with xe:=aq,pn:=X.pn++pins} V σ H1 s1) (ao:CXE X.prog X.w X.stack H1 s1 E1 e s')
  (go:∀(a D:Addr)(h:Hp)(E:Shared),e=.ref a->mroIn X.K D (.ref C)=some true->E1 (.ref D) none h->h a=none->Lw a D E.heap->X.s₀.heap.get? a=none->X.base.get? a=none->X.env.locals≠a->(∀x c,X.env.cells.lookup x=some c->c≠a) ->
   (∀p,p∈X.pn++pins->p.1≠a)->(∀b,b∈X.fs->b≠a)->Inv X pins σ h E ->
   (∀(N:Unit->Shared->Prop)(E':Value->Shared->Prop),(∀O,Inv X pins σ h O->Lw a D O.heap->N () O)->wpAny (model X.prog X.w) (X.A.mark (some (.ref a))) (setFlight (.ref a) none) N E' E) ->
   codeAny (model X.prog X.w) (X.A.mark (some (.ref a))) (.handlers (.ref a) [.ExceptHandler none nm (b₀::suite) hpos] X.env) (λr g=>match r with
     |.ok f=>(match nm with
      |none=>Q f g
      |some n=>wpAny (model X.prog X.w) X.A (do bindName X.env n .none;unbindBehindTheSuite X.env n hpos) (λ_ j=>Q f j) X.xe g)
     |.error x=>cameBackBy (model X.prog X.w) X.A X.env X.xe x g) E)
  (am:∀(a D:Addr)(h:Hp)(E:Shared),e=.ref a->mroIn X.K D (.ref C)=some false->E1 (.ref D) none h->h a=none->Lw a D E.heap->X.s₀.heap.get? a=none->X.base.get? a=none->X.env.locals≠a->(∀x c,X.env.cells.lookup x=some c->c≠a) ->
   (∀p,p∈X.pn++pins->p.1≠a)->(∀b,b∈X.fs->b≠a)->Inv X pins σ h E ->
   (∀(N:Unit->Shared->Prop)(E':Value->Shared->Prop),(∀O,Inv X pins σ h O->Lw a D O.heap->N () O)->wpAny (model X.prog X.w) (X.A.mark (some (.ref a))) (setFlight (.ref a) none) N E' E) ->
   codeAny (model X.prog X.w) (X.A.mark (some (.ref a))) (.handlers (.ref a) [.ExceptHandler none P (b2::suite2) hpos2] X.env) (λr g=>match r with
     |.ok f=>(match (generalizing:=false) P with
      |none=>Q f g
      |some n=>wpAny (model X.prog X.w) X.A (do bindName X.env n .none;unbindBehindTheSuite X.env n hpos2) (λ_ j=>Q f j) X.xe g)
     |.error x=>cameBackBy (model X.prog X.w) X.A X.env X.xe x g) E)
  (ag:(x==("__debug__" : Str))=false:=by decide) (af:(x2==("__debug__" : Str))=false:=by decide) :
  wpAny (model X.prog X.w) X.A (noteFrame e X.env) (λ_ g=>wpAny (model X.prog X.w) X.A (setFlight e none) (λ_ j=>wpAny (model X.prog X.w) X.A (handleBy e X.env [.ExceptHandler (some (.Name x np)) nm (b₀::suite) hpos,.ExceptHandler (some (.Name x2 np2)) P (b2::suite2) hpos2]) Q X.xe j) X.xe g) X.xe s':=by
 obtain⟨a,T,U,h,rfl,os,bare,un,ae,fl,H,nT,ha,hT,hE⟩:=ao;obtain⟨D,rfl,hD,k⟩:=al _ _ _ hE;have I:∀p,p∈X.pn++pins->p.1≠a:=λp hp z=>by
  have q:=(J0.pin p (Q5 _ hp)).1;rw[z,H]at q;cases q
 have t:Inv X pins σ H1 s1:=J0.un_re J0.ok.hd rfl (λp hp=>Q5 _ hp);have J:Inv X pins σ h s':=t.call' (ch:=[]) os un ae bare (λb z=>absurd z A6);have fr:=J.stack;have sub:∀b,b∈frs X.stack->b∈a::T::frs X.stack:=λb z=>.tail _ (.tail _ z);have ai:X.A.frames=some (X.env::X.outer):=J.ok.frames.trans (by rw[u]);have ad:∀b,b∈a::T::frs X.stack->h b=none:=λb z=>by
  rcases B7.mp z with rfl|z
  ·exact ha
  ·rcases B7.mp z with rfl|z
   ·exact hT
   ·exact J.stkFree b z
 have g0:∀{b},s1.heap.get? b=none->X.s₀.heap.get? b=none:=λq=>t.gn av q;have ax:∀b,b∈a::T::frs X.stack->b∈frs X.stack\/X.s₀.heap.get? b=none:=λb z=>by
  rcases B7.mp z with rfl|z
  ·exact .inr (g0 H)
  ·rcases B7.mp z with rfl|z
   ·exact .inr (g0 nT)
   ·exact .inl z
 have ab:∀b,b∈a::T::frs X.stack->b∈frs X.stack\/s1.heap.get? b=none:=λb z=>by
  rcases B7.mp z with rfl|z
  ·exact .inr H
  ·rcases B7.mp z with rfl|z
   ·exact .inr nT
   ·exact .inl z
 have B:∀Y,EE (a::T::frs X.stack) (frs X.stack) s'.heap Y->Inv X pins σ h {s' with heap:=Y}:=λY nr =>
  t.call' (s':={s' with heap:=Y}) (ch:=[]) os (QG un nr ab λb z=>.inl z) (Pc ae nr ad) bare (λb z=>absurd z A6)
 have ac:=fr;rw[u]at ac;have ak:frs X.stack=frs (X.env::X.outer):=by rw[u]
 refine SD ai ac ah (.inr fl) λh4 T4 aj n4 G=>?_;rw[<-ak]at G;have kn:∀{Y},(∀b o,h4.get? b=some o->b≠T4->Y.get? b=some o)->EE (a::T::frs X.stack) (frs X.stack) s'.heap Y:=λkp=>by
  have ne:∀b o,s'.heap.get? b=some o->b≠T4:=λb o q y=>by
   rw[y,n4]at q;cases q
  refine⟨λb o q z=>kp b o (G.keep b o q z) (ne b o q),λb o m q=>?_,G.sub⟩;obtain⟨sl,e⟩:=G.slot b o m q;exact⟨sl,kp b _ e (ne b o q)⟩
 refine IU (s:={s' with heap:=h4}) aj λh5 l aa=>?_;have J5:=B h5 (kn aa);obtain⟨aw,_,_,_,q5,c5,_⟩:=id l;have M5:Inv {X with A:=X.A.mark (some (.ref a)),calm:=false,xe:=λ_ _=>False,pn:=X.pn} pins σ h {s' with heap:=h5}:=J5.re (λz=>nomatch z) rfl (λ_ z=>z);have nL:∀{b o},s1.heap.get? b=some o->b≠a:=λq z=>by rw[z,H]at q;cases q
 rcases k with k|⟨hN,k⟩
 ·refine A6b (A5e (Fu (X:={X with A:=X.A.mark (some (.ref a)),calm:=false,xe:=λ_ _=>False,pn:=X.pn}) M5 hg hm ?_ ag)) (by intro q;cases q);refine Qo M5.kIn hC hD k q5 c5 ?_;refine go a D h {s' with heap:=h5} rfl k hE ha l.exc (g0 H) ?_ ?_ ?_ I ?_ J5 ?_
  ·cases q:X.base.get? a with
   |none=>rfl
   |some o =>
    have:=t.bk a o q;rw[H]at this;cases this
  ·obtain⟨m,⟨o,_,_,q,_⟩,_⟩:=t.loc;exact nL q
  ·intro y c q;obtain⟨v,o,M,_⟩:=t.cell y c q;exact nL M
  ·intro b hb;obtain⟨_,o,M,_⟩:=t.funs.mem hb;exact nL M
  ·intro N E' hk;refine IU (s:={s' with heap:=h5}) l λh6 R Z=>hk _ (B h6 (kn λb o q y=>Z b o (aa b o q y) y)) R.exc
 ·refine A6b (A5e (Fu (X:={X with A:=X.A.mark (some (.ref a)),calm:=false,xe:=λ_ _=>False,pn:=X.pn}) M5 hg hm ?_ ag)) (by intro q;cases q);refine Ur M5.kIn hC hD hN q5 c5 ?_;refine A6b (A5e (Fu (X:={X with A:=X.A.mark (some (.ref a)),calm:=false,xe:=λ_ _=>False,pn:=X.pn}) M5 ar au ?_ af)) (by intro q;cases q);refine Qo M5.kIn as hD k q5 c5 ?_;refine am a D h {s' with heap:=h5} rfl hN hE ha l.exc (g0 H) ?_ ?_ ?_ I ?_ J5 ?_
  ·cases q:X.base.get? a with
   |none=>rfl
   |some o =>
    have:=t.bk a o q;rw[H]at this;cases this
  ·obtain⟨m,⟨o,_,_,q,_⟩,_⟩:=t.loc;exact nL q
  ·intro y c q;obtain⟨v,o,M,_⟩:=t.cell y c q;exact nL M
  ·intro b hb;obtain⟨_,o,M,_⟩:=t.funs.mem hb;exact nL M
  ·intro N E' hk;refine IU (s:={s' with heap:=h5}) l λh6 R Z=>hk _ (B h6 (kn λb o q y=>Z b o (aa b o q y) y)) R.exc
end
section
variable{X:Cx}{scope:Scope}{N:List Str}{sD:Shared}{H2:Hp}{ex:List Addr}{XE:Value->Shared->Prop}
end
section
variable{prog:Program}{w:World}{A:Around}{R:Result->Shared->Prop}{s:Shared}
end
section
variable{X:Cx}{tg iter elt:Expr}{ifs:List Expr}{scope:Scope}{pos:Pos}{wi:TI}{g:TG}{tc:TT}{te:TE}{N:List Str}{k:Nat}{cs:List Nat}{fin:List V->Hp->Prop}
end
section
variable{P:Program}{w:World}{K:W.Frag}{mg:Str->Option Value}{base:Heap}{N0:List Str}{qual:Str}{sc:Scope}{f:Addr}{cd:Value}{A:Around}{outer:List Env}{s:Shared}{H:Hp}{E:XK}
variable{scope:Scope}{N:List Str}{Q:Value->Shared->Prop}{acc:Value}
end
section
variable{X:Cx}{K:W.Frag}
theorem ZZ:∀{x:V},Gc x=true->eqV x x=true
 |.non,_=>rfl
 |.bl b,_=>by simp[eqV]
 |.int b,_=>by simp[eqV]
 |.str b,_=>by simp[eqV]
 |.byt _,h=>by cases h
 |.flt _,h=>by cases h
 |.ref _,h=>by cases h
 |.ty _,h=>by cases h
theorem OF{xs:List V}{us ws:List Value}{A:Around}{s:Shared}(r:AO xs us)(h:AO xs ws)(f:xs.all Gc=true)(j:Nat)(e:j<us.toArray.size)(m:j<ws.toArray.size):PySem.SeqAt.EqAt A s us.toArray[j] ws.toArray[j] true:=by
 have a:j<xs.length:=by rw[r.length];simpa using e
 obtain⟨u,g,b⟩:=r.get (B9 a);obtain⟨i,d,k⟩:=h.get (B9 a);have c:us.toArray[j]=u:=by
  have:us[j]?=some us.toArray[j]:=by simp
  rw[g]at this;exact(X5 this).symm
 have l:ws.toArray[j]=i:=by
  have:ws[j]?=some ws.toArray[j]:=by simp
  rw[d]at this;exact(X5 this).symm
 rw[c,l];have fx:=O1.mp f _ (S1 a);have:=Mx (A:=A) (s:=s) k fx (xs:=[xs[j]]) (us:=[u]) (.cons b .nil) (by simp[fx]) u A6;rw[Us b fx,ZZ fx]at this;exact this
end
end L2
namespace L2
open PySem PySem.W PySem.Spec PyProof.Rows
theorem Om:∀{a:List Addr}{us:List Value},AO (a.map V.ref) us->us=a.map Value.ref
 |[],us,h=>by cases h;rfl
 |p::a,us,h=>by
  cases h with
  |cons r t =>
   rw[Om t];cases r;rfl
def eLL(rows:List (Addr×List Int))(row:List Int):Value->Bool
 |.ref p=>rows.any λq=>decide (q.1=p) && decide (q.2=row)
 |_=>false
theorem On:∀{xs:List Int}{us:List Value},AO (xs.map V.int) us->us.length=xs.length/\∀(j:Nat)(x:Int)(u:Value),xs[j]?=some x->us[j]?=some u->∃t,u=Value.int x t
 |[],us,h=>by
  cases h;exact⟨rfl,λj x u e=>by simp at e⟩
 |x::xs,us,h=>by
  cases h with
  |@cons _ _ v us r t =>
   obtain⟨l,c⟩:=On t;refine⟨by rw[F0,F0,l],λj y u a b=>?_⟩;cases j with
   |zero =>
    cases a;cases b;exact r
   |succ j=>exact c j y u a b
section
variable{X:Cx}
theorem Ta{pins:List (Addr×Obj)}{σ:St}{H:Hp}{s:Shared}{A:Around}{p r:Addr}{xs ys:List Int}(I:Inv X pins σ H s)(hp:H p=some (.lst (xs.map V.int)))(c:H r=some (.lst (ys.map V.int)))(l:xs.length=ys.length)(x:A.units<cLine):PySem.SeqAt.EqAt A s (.ref p) (.ref r) (decide (xs=ys)):=by
 by_cases z:p=r
 ·subst z;rw[hp]at c;have:xs=ys:=by
   injection c with c
   injection c with c
   exact Y7 (λa b e=>by injection e) |>.mp c
  subst this;rw[Z7 rfl];exact PySem.SeqAt.EqAt.same _
 ·obtain⟨d,u,K,_⟩:=I.list (SqL.of hp);obtain⟨f,D,y,_⟩:=I.list (SqL.of c);obtain⟨k,C⟩:=On u;obtain⟨N,E⟩:=On D;have:=PySem.SeqAt.RcAt.lists (A:=A) (e:=λj=>decide (xs[j]?=ys[j]?)) K.isList y.isList (by simp;lia) x λj w M=>by
   have m:j<xs.length:=by simpa[k] using w
   have n:j<ys.length:=by lia
   have h:j<d.length:=by lia
   have i:j<f.length:=by lia
   obtain⟨t,G⟩:=C j _ _ (B9 m) (B9 h);obtain⟨t',g⟩:=E j _ _ (B9 n) (B9 i);have:=PySem.SeqAt.EqAt.int_int (A:=A.in1) (s:=s) xs[j] t ys[j] t';rw[B9 m,B9 n];have o:decide (some xs[j]=some ys[j])=(xs[j]==ys[j]):=by
    by_cases q:xs[j]=ys[j]
    ·rw[q];simp
    ·simp[q]
   rw[o];simp only[W6,G,g];exact this
  have B:(List.range d.toArray.size).all (λj=>decide (xs[j]?=ys[j]?))=decide (xs=ys):=by
   by_cases q:xs=ys
   ·subst q;rw[Z7 rfl,O1];exact λj _=>Z7 rfl
   ·rw[Z8 q,S8];intro all;rw[O1]at all;refine q (List.ext_getElem? λj=>?_);by_cases v:j<xs.length
    ·exact X8 (all j (M0.mpr (by simpa[k] using v)))
    ·rw[R5 A0,R5 A0]
  rw[B]at this;exact PySem.SeqAt.EqAt.of_refs z this
theorem Nm{c:List (Addr×List Int)}{d:List Int}{H:Hp}(h:∀q∈c,H q.1=some (.lst (q.2.map V.int))){q:Addr×List Int}(i:q∈c):eLL c d (.ref q.1)=decide (q.2=d):=by
 show(c.any λg=>decide (g.1=q.1) && decide (g.2=d))=_;by_cases z:q.2=d
 ·rw[Z7 z,Q9];exact⟨q,i,by rw[Z7 rfl,Z7 z];rfl⟩
 ·rw[Z8 z,S8];intro all;obtain⟨g,m,e⟩:=Q9.mp all;rw[O6]at e;have k:=X8 e.1;have j:=X8 e.2;have f:=h g m;rw[k,h q i]at f;injection f with f
  injection f with f
  exact z ((Y7 (λa b e=>by injection e) |>.mp f).trans j)
def InLL(H:Hp)(r p:Addr)(row:List Int)(rows:List (Addr×List Int)):Prop:=H r=some (.lst (row.map V.int))/\H p=some (.lst ((rows.map (·.1)).map V.ref))/\∀q∈rows,H q.1=some (.lst (q.2.map V.int))/\q.2.length=row.length
theorem op_inLL(B:X.A.units+64<cLine):OpR X (compareOp .In) (λx y H Q=>∃(r p:Addr)(c:List Int)(b:List (Addr×List Int)),x=.ref r/\y=.ref p/\InLL H r p c b/\Q (.bl (b.any λq=>decide (q.2=c))) H):=by
 intro pins s σ H x y v u Q I n l h;obtain⟨r,p,c,b,rfl,rfl,⟨m,hp,j⟩,q⟩:=h;cases n;cases l;obtain⟨t,w,pl,C⟩:=I.list (SqL.of hp);have o:=Om w;subst o;refine SeqAt.in_listAt (eLL b c) pl.isList (λz f=>?_) ⟨.bl _,H,I,rfl,?_⟩
 ·have f:z∈(b.map (·.1)).map Value.ref:=by simpa using f
  obtain⟨a,k,rfl⟩:=C3.mp f;obtain⟨g,d,rfl⟩:=C3.mp k;rw[Nm (λq i=>(j q i).1) d];exact Ta I (j g d).1 m (j g d).2 (by show X.A.units+1<_;lia)
 ·have e:(((b.map (·.1)).map Value.ref).toArray.any (eLL b c))=b.any λq=>decide (q.2=c):=by
   rw[show((b.map (·.1)).map Value.ref).toArray.any (eLL b c)=((b.map (·.1)).map Value.ref).any (eLL b c) by simp,O4,List.any_map];rw[Q4,Q9,Q9];constructor
   ·rintro⟨g,d,e⟩;exact⟨g,d,by rw[<-Nm (λq i=>(j q i).1) d];exact e⟩
   ·rintro⟨g,d,e⟩;exact⟨g,d,by show eLL b c (.ref g.1)=true;rw[Nm (λq i=>(j q i).1) d];exact e⟩
  rw[e];exact q
theorem Uc(T:X.A.units+64<cLine):MtR X "list.index" (λx xs H Q=>∃(r p:Addr)(c:List Int)(b:List (Addr×List Int))(j:Nat)(q:Addr×List Int),x=.ref p/\xs=[.ref r]/\InLL H r p c b/\b.length<1000/\b[j]?=some q/\q.2=c/\(∀m q,m<j->b[m]?=some q->q.2≠c)/\Q (.int (j:Nat)) H):=by
 intro pins s σ H x xs v us Q I D G h;obtain⟨r,p,c,b,j,q,rfl,rfl,⟨O,hp,g⟩,M,w,B,C,k⟩:=h;cases D;obtain⟨u,rfl,l⟩:=G.one;cases l;obtain⟨z,K,n,S,U,e⟩:=I.lstM hp;have P:=Om S;subst P;have jl:j<b.length:=(B6.mp w).1;have o:=(B6.mp w).2;refine A2b F.slot_list_index ⟨_,e,rfl⟩ F.entry_list_index (F.args_list_index_2 _ _) (PySem.SeqAt.list_indexAt p _ n none #[] (.ref r) (eLL b c) j (by simpa using jl) A0 ?_ ?_) ⟨e,?_,?_⟩
 ·simp only[W6,V0];rw[Nm (λq f=>(g q f).1) (S1 jl),o];exact Z7 B
 ·intro m E R;have i:m<b.length:=by simpa using E
  simp only[W6,V0];rw[Nm (λq f=>(g q f).1) (S1 i)];exact Z8 (C m _ R (B9 i))
 ·intro z d;have d:z∈(b.map (·.1)).map Value.ref:=by simpa using d
  obtain⟨a,N,rfl⟩:=C3.mp d;obtain⟨y,t,rfl⟩:=C3.mp N;rw[Nm (λq f=>(g q f).1) t];exact Ta I (g y t).1 O (g y t).2 (by show _+1<_;lia)
 ·exact⟨.int _,H,I.tok _,⟨_,rfl⟩,k⟩
end
section
variable{X:Cx}{C C2:Addr}{x n x2:Str}{np hpos pos np2 hpos2:Pos}{i:Nat}{b₀ b2:Stmt}{suite body suite2:List Stmt}{S:St->Prop}{tb:XK->TS}{th th2:TS}
def tTryAsN(K:W.Frag)(C C2:Addr)(i:Nat)(S:St->Prop)(tb:XK->TS)(th th2:TS):TS:=λD σ H =>
 tb (λcls _ H'=>∃D',cls=.ref D'/\JN K D'/\((mroIn K D' (.ref C)=some true/\∀σ' a,S σ'->H' a=none->th {nx:=fun σ2 H2=>D.nx (σ2.set i none) H2,rt:=D.rt,bk:=fun σ2 H2=>D.bk (σ2.set i none) H2,ct:=fun σ2 H2=>D.ct (σ2.set i none) H2} (σ'.set i (some (.ref a))) (upd H' a (NC a D')))\/((mroIn K D' (.ref C)=some false/\mroIn K D' (.ref C2)=some true)/\∀σ',S σ'->th2 D σ' H'))) D σ H
theorem Wc(R:X.stack=X.env::X.outer)(aa:X.env.frame=some X.env.locals)(al:X.ex=[])(B:X.calm=true)(hg:Gl X x)(hm:X.mg x=some (.ref C))(hC:JN X.K C)(af:Gl X x2)(ah:X.mg x2=some (.ref C2))(ag:JN X.K C2)(hN:X.N.Nodup)(hi:X.N[i]?=some n)(Y:X.env.scope.names.lookup n=some .local)
  (hb:∀(xe:Value->Shared->Prop)(pn:List (Addr×Obj))(E1:XK),Ol (CXE X.prog X.w) {X with xe:=xe,pn:=pn} E1 S->PSs {X with xe:=xe,pn:=pn} body (tb E1))
  (ab:∀(a:Addr),PSs {X with A:=X.A.mark (some (.ref a)),calm:=false,xe:=λ_ _=>False,pn:=X.pn} (b₀::suite) th) (M:∀(a:Addr),PSs {X with A:=X.A.mark (some (.ref a)),calm:=false,xe:=λ_ _=>False,pn:=X.pn} (b2::suite2) th2) (ai:(x==("__debug__" : Str))=false:=by decide) (T:(x2==("__debug__" : Str))=false:=by decide) :
  PS X (.Try body [.ExceptHandler (some (.Name x np)) (some n) (b₀::suite) hpos,.ExceptHandler (some (.Name x2 np2)) none (b2::suite2) hpos2] [] [] pos) (tTryAsN X.K C C2 i S tb th th2):=by
 intro pins s σ H D I h;refine wpAny_Try_except ?_;have I1:Inv {X with xe:=WZ X pins D [.ExceptHandler (some (.Name x np)) (some n) (b₀::suite) hpos,.ExceptHandler (some (.Name x2 np2)) none (b2::suite2) hpos2],pn:=X.pn++pins} [] σ H s :=
  I.re I.ok.hd rfl (λp z=>by simpa using z)
 refine A0f (hb (WZ X pins D [.ExceptHandler (some (.Name x np)) (some n) (b₀::suite) hpos,.ExceptHandler (some (.Name x2 np2)) none (b2::suite2) hpos2]) (X.pn++pins) _ ?pass [] s σ H D I1 h) (λf V q=>?_) (λe V q=>q)
 case pass =>
  intro aj σ' H1 V e s' hS J ae;refine land2 (pins:=pins) R aa al hg hm hC af ah ag B (λam d P ⟨O,z,a,b⟩=>⟨O,z,a,b.imp (·.1) (·.1)⟩) J ae (λa O P s2 _ hM hE ha ho g0 gb nL nC nP nF J5 l=>?_) (λa O P s2 _ hM hE ha ho g0 gb nL nC nP nF J5 l=>?_) ai T
  ·obtain⟨D2,z,_,k⟩:=hE;cases z;have k:=(k.resolve_right (λq=>by rw[hM]at q;cases q.1.1)).2;refine codeAny_handlers_suite_as (l _ _ λs3 G L3=>?_);have J4:=G.track (o:=NC a O) ha g0 gb nL nC nP nF (ZI L3);refine Oo J4 hN hi (.inl Y) (v:=.ref a) rfl (λU K4=>?_) (.inr Y);have J6:Inv {X with A:=X.A.mark (some (.ref a)),calm:=false,xe:=λ_ _=>False,pn:=X.pn} pins (σ'.set i (some (.ref a))) (upd P a (NC a O)) U:=K4.re (λz=>nomatch z) rfl (λ_ z=>z)
   refine A0f (ab a pins U _ _ _ J6 (k σ' a hS ha)) (λf Z q=>?_) (λ_ _ z=>z.elim);have gone:∀{c:St}{j:Hp},Inv {X with A:=X.A.mark (some (.ref a)),calm:=false,xe:=λ_ _=>False,pn:=X.pn} pins c j Z->∀{Q:Unit->Shared->Prop},(∀E,Inv X pins (c.set i none) j E->Q () E) ->
     wpAny (model X.prog X.w) X.A (do bindName X.env n .none;unbindBehindTheSuite X.env n hpos) Q X.xe Z:=λ{c j} y Q hq=>by
    have t:Inv X pins c j Z:=y.un_re G.ok.hd rfl (λ_ z=>z);obtain⟨m,hn,ac⟩:=id t.loc;exact wpAny_nameGoes_keeps Y hn (by rw[t.ok.kind];rfl) λh' v ak sb=>hq _ (t.gone hN hi Y ac ak sb)
   cases f with
   |next=>obtain⟨c,j,y,q⟩:=q;exact gone y λE t=>⟨_,j,t,q⟩
   |brk=>obtain⟨c,j,y,q⟩:=q;exact gone y λE t=>⟨_,j,t,q⟩
   |cont=>obtain⟨c,j,y,q⟩:=q;exact gone y λE t=>⟨_,j,t,q⟩
   |ret u=>obtain⟨v,c,j,y,r,q⟩:=q;exact gone y λE t=>⟨v,_,j,t,r,q⟩
  ·obtain⟨D2,z,_,k⟩:=hE;cases z;have k:=(k.resolve_left (λq=>by rw[hM]at q;cases q.1)).2;refine codeAny_handlers_suite (l _ _ λs3 G L3=>?_);have J6:Inv {X with A:=X.A.mark (some (.ref a)),calm:=false,xe:=λ_ _=>False,pn:=X.pn} pins σ' P s3:=G.re (λz=>nomatch z) rfl (λ_ z=>z)
   refine A0f (M a pins s3 σ' P D J6 (k σ' hS)) (λf U q=>?_) (λ_ _ z=>z.elim);exact q.map fun ad H4 (J4:Inv {X with A:=X.A.mark (some (.ref a)),calm:=false,xe:=λ_ _=>False,pn:=X.pn} pins ad H4 U)=>J4.un_re G.ok.hd rfl (λ_ z=>z)
 have g:∀σ H,Inv {X with xe:=WZ X pins D [.ExceptHandler (some (.Name x np)) (some n) (b₀::suite) hpos,.ExceptHandler (some (.Name x2 np2)) none (b2::suite2) hpos2],pn:=X.pn++pins} [] σ H V->Inv X pins σ H V :=
  fun σ H J=>J.un_re J.ok.hd rfl (λp z=>by simpa using z)
 cases f with
 |next=>exact A3d (q.map g)
 |brk=>exact q.map g
 |cont=>exact q.map g
 |ret u=>exact q.map g
end
section
variable{X:Cx}
def SamV(K:W.Frag)(H:Hp)(x y:V):Prop:=(x=y/\Gc x=true)\/∃(p q:Addr)(zs:List V),x=.ref p/\y=.ref q/\SqT K H p zs/\SqT K H q zs/\zs.all Gc=true
def UE(K:W.Frag)(H:Hp)(x y:V):Prop:=∃(a b:Addr)(xs ys:List V),x=.ref a/\y=.ref b/\SqT K H a xs/\SqT K H b ys/\xs.length=ys.length/\∀(j:Nat)(x y:V),xs[j]?=some x->ys[j]?=some y->SamV K H x y
theorem OE{pins:List (Addr×Obj)}{σ:St}{H:Hp}{s:Shared}{A:Around}(I:Inv X pins σ H s)(C:A.units<cLine){xs ys:List V}{us ws:List Value}(r:AO xs us)(i:AO ys ws)(f:∀(j:Nat)(x y:V),xs[j]?=some x->ys[j]?=some y->SamV X.K H x y)(j:Nat)(n:j<us.toArray.size)(B:j<ws.toArray.size):PySem.SeqAt.EqAt A s us.toArray[j] ws.toArray[j] true:=by
 have h:j<xs.length:=by rw[r.length];simpa using n
 have a:j<ys.length:=by rw[i.length];simpa using B
 obtain⟨u,o,c⟩:=r.get (B9 h);obtain⟨d,m,b⟩:=i.get (B9 a);have l:us.toArray[j]=u:=by
  have:us[j]?=some us.toArray[j]:=by simp
  rw[o]at this;exact(X5 this).symm
 have w:ws.toArray[j]=d:=by
  have:ws[j]?=some ws.toArray[j]:=by simp
  rw[m]at this;exact(X5 this).symm
 rw[l,w];rcases f j _ _ (B9 h) (B9 a)with ⟨e,fx⟩|⟨p,q,zs,ex,ey,t1,t2,fl⟩
 ·rw[<-e]at b;exact OF (xs:=[xs[j]]) (us:=[u]) (ws:=[d]) (.cons c .nil) (.cons b .nil) (by simp[fx]) 0 A6 A6
 ·rw[ex]at c;rw[ey]at b;cases(show u=Value.ref p from c);cases(show d=Value.ref q from b);by_cases z:p=q
  ·subst z;exact PySem.SeqAt.EqAt.same _
  ·obtain⟨vs,k,v,_⟩:=I.tuple t1;obtain⟨t,g,D,_⟩:=I.tuple t2;have:=PySem.SeqAt.RcAt.tuples (A:=A) (e:=λ_=>true) v D C (λj k1 k2=>OF k g fl j k1 k2);rw[D4,D4,<-k.length,<-g.length]at this;simp only[A2h,U5]at this;rw[O1.mpr λ_ _=>rfl]at this;exact PySem.SeqAt.EqAt.of_refs z this
theorem TL(t:X.A.units+64<cLine):OpR X (compareOp .Eq) (λx y H Q=>UE X.K H x y/\Q (.bl true) H):=by
 intro pins s σ H x y v u Q I g f h;obtain⟨⟨a,b,r,o,rfl,rfl,i,n,k,m⟩,q⟩:=h;cases g;cases f;obtain⟨xs,c,l,_⟩:=I.tuple i;obtain⟨ys,d,p,_⟩:=I.tuple n;refine PySem.SeqAt.eq_tupleAt (e:=λ_=>true) l p A0 (λj k1 k2=>OE I (by show X.A.units+1<_;lia) c d m j k1 k2) ?_;rw[D4,D4,<-c.length,<-d.length,k];simp only[A2h,U5];rw[O1.mpr λ_ _=>rfl];exact⟨.bl _,H,I,rfl,q⟩
theorem LQ(t:X.A.units+64<cLine):OpR X (compareOp .NotEq) (λx y H Q=>UE X.K H x y/\Q (.bl false) H):=by
 intro pins s σ H x y v u Q I g f h;obtain⟨⟨a,b,r,o,rfl,rfl,i,n,k,m⟩,q⟩:=h;cases g;cases f;obtain⟨xs,c,l,_⟩:=I.tuple i;obtain⟨ys,d,p,_⟩:=I.tuple n;refine PySem.SeqAt.RcNeAt.tuples (e:=λ_=>true) l p A0 (λj k1 k2=>OE I (by show X.A.units+1<_;lia) c d m j k1 k2) _ _ _ _ ?_;rw[D4,D4,<-c.length,<-d.length,k];simp only[A2h,U5];rw[O1.mpr λ_ _=>rfl];exact⟨.bl _,H,I,rfl,q⟩
end
end L2
namespace J
open PySem L2
theorem asI{N P:List Str}{c:Scope}(a:c.kind=.function:=by rfl)(b:c.isCoroutine=false:=by rfl)(d:c.isGenerator=false:=by rfl)(e:N.Nodup:=by decide +kernel)(f:N.take P.length=P:=by rfl)(g:∀x∈P,c.names.lookup x=some .local∨c.names.lookup x=some .cell:=by decide +kernel)(h:∀y∈c.names,y.2≠.free:=by decide +kernel):Au N P c:=⟨a,b,d,e,f,g,h⟩
def top(i:Nat):Stmt:=PySem.Challenge.pw_jumpfield_k75_again_at_the_edge.main.body.getD i (.Pass ⟨0,0,0,0⟩)
abbrev Ir:Stmt:=top 11
abbrev TX:List Str:=["thing"]
theorem Nt:Au TX TX (Al Ir):=asI
abbrev LD:Stmt:=top 18
theorem Sk:Au TX TX (Al LD):=asI
abbrev QW:Stmt:=top 19
abbrev dF:List Str:=["wanted","state"]
theorem YD:Au dF dF (Al QW):=asI
abbrev EI:Stmt:=top 23
abbrev Lq:List Str:=["text","words","cell","conditions"]
abbrev GI:List Str:=["text"]
theorem DU:Au Lq GI (Al EI):=asI
abbrev Ip:Stmt:=top 24
abbrev Rg:List Str:=["word"]
theorem Ps:Au Rg Rg (Al Ip):=asI
abbrev Gy:Stmt:=top 25
theorem Ow:Au Rg Rg (Al Gy):=asI
abbrev Es:Stmt:=top 26
theorem Mg:Au Rg Rg (Al Es):=asI
abbrev FI:Stmt:=top 27
abbrev OT:List Str:=["word","parts"]
theorem Jc:Au OT Rg (Al FI):=asI
abbrev FH:Stmt:=top 28
abbrev OS:List Str:=["signs","numbers","sign"]
abbrev FS:List Str:=["signs"]
theorem EV:Au OS FS (Al FH):=asI
abbrev EH:Stmt:=top 29
theorem Ox:Au Rg Rg (Al EH):=asI
abbrev Gx:Stmt:=top 32
abbrev PB:List Str:=["box","dx","dy"]
theorem Ov:Au PB PB (Al Gx):=asI
abbrev CW:Stmt:=top 33
abbrev ES:List Str:=["boxes","left","top","right","bottom"]
abbrev Gm:List Str:=["boxes"]
theorem DV:Au ES Gm (Al CW):=asI
abbrev Gz:Stmt:=top 38
abbrev PF:List Str:=["box","limit"]
theorem Oy:Au PF PF (Al Gz):=asI
abbrev LB:Stmt:=top 39
abbrev TV:List Str:=["grove","field"]
theorem Sj:Au TV TV (Al LB):=asI
abbrev Iv:Stmt:=top 40
abbrev Rj:List Str:=["grove"]
theorem Pt:Au Rj Rj (Al Iv):=asI
abbrev MQ:Stmt:=top 41
abbrev Wp:List Str:=["grove","square","level","parts","bare"]
abbrev JU:List Str:=["grove","square"]
theorem Ik:Au Wp JU (Al MQ):=asI
abbrev MR:Stmt:=top 42
abbrev Wq:List Str:=["grove","square","kept"]
theorem Ly:Au Wq JU (Al MR):=asI
abbrev Gi:Stmt:=top 43
abbrev NA:List Str:=["grove","square","inner"]
theorem Mh:Au NA JU (Al Gi):=asI
abbrev Et:Stmt:=top 44
abbrev Nc:List Str:=["grove","square","bare","place","quarter","part_place","part"]
theorem BN:Au Nc JU (Al Et):=asI
abbrev FG:Stmt:=top 45
abbrev OR:List Str:=["grove","field","box","wide"]
abbrev Ee:List Str:=["grove","field","box"]
theorem EU:Au OR Ee (Al FG):=asI
abbrev Im:Stmt:=top 46
abbrev Re:List Str:=["grove","field","level","wide"]
abbrev II:List Str:=["grove","field","level"]
theorem Gs:Au Re II (Al Im):=asI
abbrev MS:Stmt:=top 47
abbrev Ws:List Str:=["grove","field","x","y","state","place","wide","half"]
abbrev MX:List Str:=["grove","field","x","y","state"]
theorem Il:Au Ws MX (Al MS):=asI
abbrev LA:Stmt:=top 48
abbrev TU:List Str:=["grove","square","x","y","state","level","half","parts","place"]
abbrev FR:List Str:=["grove","square","x","y","state"]
theorem DI:Au TU FR (Al LA):=asI
abbrev LG:Stmt:=top 49
abbrev Ua:List Str:=["grove","cells","field","cell"]
abbrev LM:List Str:=["grove","cells"]
theorem Gh:Au Ua LM (Al LG):=asI
abbrev OG:Stmt:=top 51
abbrev Zo:List Str:=["grove","field","box","reach"]
theorem MO:Au Zo TV (Al OG):=asI
abbrev TD:Stmt:=top 53
abbrev dH:List Str:=["jumps","field","n","tuples"]
abbrev TK:List Str:=["jumps","field","n"]
theorem UZ:Au dH TK (Al TD):=asI
abbrev TC:Stmt:=top 54
abbrev dG:List Str:=["jumps","field","n","grove","told","here","rest","e","square","result"]
theorem DT:Au dG TK (Al TC):=asI
abbrev Iu:Stmt:=top 55
abbrev Ri:List Str:=["grove","field","n","box"]
abbrev IL:List Str:=["grove","field","n"]
theorem Gu:Au Ri IL (Al Iu):=asI
abbrev Jo:Stmt:=top 56
abbrev SI:List Str:=["grove","field","e","reach","level"]
abbrev Jw:List Str:=["grove","field","e"]
theorem Fk:Au SI Jw (Al Jo):=asI
abbrev LC:Stmt:=top 58
abbrev TW:List Str:=["grove","field","dx","dy","box","target","wide","size","bare","four"]
abbrev LL:List Str:=["grove","field","dx","dy"]
theorem CV:Au TW LL (Al LC):=asI
abbrev JQ:Stmt:=top 59
abbrev Wr:List Str:=["grove","four","right","down","known","bare","seen","square"]
abbrev FB:List Str:=["grove","four","right","down","known"]
theorem Ep:Au Wr FB (Al JQ):=asI
abbrev Er:Stmt:=top 60
abbrev Na:List Str:=["four","right","down","bare"]
theorem Md:Au Na Na (Al Er):=asI
abbrev Du:Stmt:=top 61
abbrev NJ:List Str:=["grove","four","right","down","known","half","rows","made","place","column","row","inner"]
theorem Bm:Au NJ FB (Al Du):=asI
abbrev Dy:Stmt:=top 62
abbrev LS:List Str:=["grove","four","a","b","c","d"]
abbrev CB:List Str:=["grove","four"]
theorem BV:Au LS CB (Al Dy):=asI
abbrev Lz:Stmt:=top 64
abbrev TR:List Str:=["grove","field","box","shape"]
theorem Jk:Au TR TV (Al Lz):=asI
abbrev GB:Stmt:=top 65
abbrev PH:List Str:=["jumps","field","most","seen","here","count","found","earlier"]
abbrev GJ:List Str:=["jumps","field","most"]
theorem AU:Au PH GJ (Al GB):=asI
abbrev FJ:Stmt:=top 69
theorem NF:Au GI GI (Al FJ):=asI
abbrev Jn:Stmt:=top 70
abbrev SH:List Str:=["text","rule"]
theorem Mf:Au SH GI (Al Jn):=asI
abbrev LH:Stmt:=top 71
abbrev Ub:List Str:=["rule","cell","around","number","clause"]
abbrev LN:List Str:=["rule","cell","around"]
theorem Jl:Au Ub LN (Al LH):=asI
abbrev MT:Stmt:=top 72
abbrev Wt:List Str:=["rule","cell","around","number"]
theorem Oz:Au Wt LN (Al MT):=asI
abbrev Io:Stmt:=top 73
abbrev Rf:List Str:=["rule"]
theorem Pr:Au Rf Rf (Al Io):=asI
abbrev Iq:Stmt:=top 76
abbrev Rh:List Str:=["grove","square","parts","a","b","c","d"]
theorem CG:Au Rh JU (Al Iq):=asI
abbrev LE:Stmt:=top 77
abbrev TZ:List Str:=["nine"]
theorem Sl:Au TZ TZ (Al LE):=asI
abbrev Do:Stmt:=top 78
abbrev Lk:List Str:=["grove","four","parts"]
theorem EO:Au Lk CB (Al Do):=asI
abbrev Ea:Stmt:=top 82
abbrev Mw:List Str:=["_law_made","_law_way","_law_parts","_law_state","_law_word"]
abbrev Eh:List Str:=["_law_made","_law_way"]
theorem Cw:Au Mw Eh (Al Ea):=asI
abbrev MU:Stmt:=top 83
abbrev Wu:List Str:=["_law_script","_law_k"]
theorem TB:Au Wu Wu (Al MU):=asI
abbrev GC:Stmt:=top 84
abbrev PJ:List Str:=["_law_way","_law_some"]
abbrev GK:List Str:=["_law_way"]
theorem Jm:Au PJ GK (Al GC):=asI
abbrev Iw:Stmt:=top 85
abbrev Rk:List Str:=["_law_script","_law_m","_law_made","_law_state"]
abbrev IM:List Str:=["_law_script","_law_m"]
theorem Gw:Au Rk IM (Al Iw):=asI
abbrev Ix:Stmt:=top 86
abbrev Rl:List Str:=["_law_cell"]
theorem Pu:Au Rl Rl (Al Ix):=asI
abbrev Jp:Stmt:=top 87
abbrev SJ:List Str:=["_law_side","_law_far","_law_along_here","_law_ends"]
abbrev Jy:List Str:=["_law_side","_law_far","_law_along_here"]
theorem Mi:Au SJ Jy (Al Jp):=asI
abbrev EW:Stmt:=top 88
abbrev NL:List Str:=["_law_script","_law_side","_law_far","_law_along_here","_law_one","_law_cells","_law_other"]
abbrev EY:List Str:=["_law_script"]
theorem BG:Au NL EY (Al EW):=asI
abbrev GD:Stmt:=top 89
abbrev PK:List Str:=["_law_cells","_law_row","_law_k","_law_step","_law_at_here","_law_x","_law_y"]
abbrev GL:List Str:=["_law_cells","_law_row","_law_k","_law_step"]
theorem DW:Au PK GL (Al GD):=asI
abbrev FK:Stmt:=top 90
abbrev LT:List Str:=["_law_made","_law_way","_law_cells","_law_most","_law_step","_law_row","_law_seen","_law_k","_law_wait","_law_steps"]
abbrev LO:List Str:=["_law_made","_law_way","_law_cells","_law_most"]
theorem Cs:Au LT LO (Al FK):=asI
abbrev Jq:Stmt:=top 91
abbrev SK:List Str:=["_law_jumps","_law_field","_law_most","_law_found","e"]
abbrev Jz:List Str:=["_law_jumps","_law_field","_law_most"]
theorem Fl:Au SK Jz (Al Jq):=asI
abbrev YF:Stmt:=top 92
abbrev n_law:List Str:=["_law_script","_law_made","_law_way","_law_cells","_law_most","_law_grove","_law_jumps","_law_field","_law_due_here","_law_fewer"]
theorem FF:Au n_law EY (Al YF):=asI
abbrev FM:Stmt:=Bc (top 20) 0
abbrev OW:List Str:=["self","state","numbers"]
theorem NH:Au OW OW (Al FM):=asI
abbrev EX:Stmt:=Bc (top 20) 1
abbrev NM:List Str:=["self","around"]
theorem MP:Au NM NM (Al EX):=asI
abbrev GE:Stmt:=Bc (top 21) 0
abbrev PL:List Str:=["self","wanted"]
theorem OA:Au PL PL (Al GE):=asI
abbrev Eb:Stmt:=Bc (top 21) 1
theorem NG:Au NM NM (Al Eb):=asI
abbrev GG:Stmt:=Bc (top 22) 0
abbrev PP:List Str:=["self","cell","conditions","makes"]
theorem OC:Au PP PP (Al GG):=asI
abbrev EK:Stmt:=Bc (top 22) 1
abbrev Lr:List Str:=["self","cell","around"]
theorem OD:Au Lr Lr (Al EK):=asI
abbrev IC:Stmt:=Bc (top 34) 0
abbrev Rq:List Str:=["self","state","level","bare"]
abbrev IQ:List Str:=["self"]
theorem EG:Au Rq IQ (Al IC):=asI
abbrev IB:Stmt:=Bc (top 34) 1
abbrev Rp:List Str:=["self","parts","level","number"]
abbrev Ft:List Str:=["self","parts","level"]
theorem Ll:Au Rp Ft (Al IB):=asI
abbrev FL:Stmt:=Bc (top 34) 2
abbrev OV:List Str:=["self","parts","number"]
abbrev AW:List Str:=["self","parts"]
theorem Je:Au OV AW (Al FL):=asI
abbrev CZ:Stmt:=Bc (top 34) 3
abbrev JF:List Str:=["self","square"]
theorem Jh:Au JF JF (Al CZ):=asI
abbrev IA:Stmt:=Bc (top 34) 4
abbrev Ro:List Str:=["self","state"]
theorem Py:Au Ro Ro (Al IA):=asI
abbrev Ev:Stmt:=Bc (top 34) 7
theorem Ml:Au JF JF (Al Ev):=asI
abbrev Eu:Stmt:=Bc (top 34) 9
theorem Mj:Au JF JF (Al Eu):=asI
abbrev OH:Stmt:=Bc (top 34) 10
abbrev NI:Stmt:=Bc (top 34) 11
abbrev Iz:Stmt:=Bc (top 34) 12
theorem Px:Au JF JF (Al Iz):=asI
abbrev EJ:Stmt:=Bc (top 34) 13
abbrev PN:List Str:=["self","square","box"]
theorem DZ:Au PN JF (Al EJ):=asI
abbrev Dh:Stmt:=Bc (top 34) 14
abbrev Ng:List Str:=["self","square","level","half","boxes","place","quarter","box"]
theorem Bv:Au Ng JF (Al Dh):=asI
abbrev Gj:Stmt:=Bc (top 68) 0
abbrev NB:List Str:=["self","text"]
theorem QV:Au NB NB (Al Gj):=asI
abbrev Iy:Stmt:=Bc (top 79) 0
abbrev Rm:List Str:=["self","grove","rule"]
theorem Pw:Au Rm Rm (Al Iy):=asI
abbrev Ec:Stmt:=Bc (top 79) 1
abbrev JE:List Str:=["self","rule","text"]
abbrev FX:List Str:=["self","rule"]
theorem Jd:Au JE FX (Al Ec):=asI
abbrev GF:Stmt:=Bc (top 79) 2
abbrev PM:List Str:=["self","square","e"]
theorem OB:Au PM PM (Al GF):=asI
abbrev Dz:Stmt:=Bc (top 79) 3
abbrev LU:List Str:=["self","square","e","level"]
theorem Fc:Au LU PM (Al Dz):=asI
abbrev Dg:Stmt:=Bc (top 79) 4
abbrev Nd:List Str:=["self","square","e","result"]
theorem DX:Au Nd PM (Al Dg):=asI
abbrev Cm:Stmt:=Bc (top 79) 5
abbrev EM:List Str:=["self","square","e","grove","level","nine"]
theorem DY:Au EM PM (Al Cm):=asI
abbrev Bn:Stmt:=Bc (top 79) 6
abbrev Dd:List Str:=["self","square","e","nine"]
theorem Em:Au Dd PM (Al Bn):=asI
abbrev CY:Stmt:=Bc (top 79) 7
abbrev JD:List Str:=["self","square","parts","a","b","c","d"]
theorem Bj:Au JD JF (Al CY):=asI
abbrev Cy:Stmt:=Bc (top 79) 8
abbrev Gb:List Str:=["self","leaves","leaf","states"]
abbrev DD:List Str:=["self","leaves"]
theorem Co:Au Gb DD (Al Cy):=asI
structure Ad where
 c_Amounts:Addr
 c_Places:Addr
 c_Clause:Addr
 c_Grove:Addr
 c_Rule:Addr
 c_Jumps:Addr
 x_FieldError:Addr
 x_NoRule:Addr
 x_Restless:Addr
 x_NoSquare:Addr
 x_NoLevel:Addr
 x_NoState:Addr
 x_TooFar:Addr
 x_NoSteps:Addr
structure Top(K:W.Frag)(mg:Str->Option Value)(a:Ad):Prop where
 b_all:mg "all" = none
 b_bool:mg "bool" = none
 b_enumerate:mg "enumerate" = none
 b_int:mg "int" = none
 b_isinstance:mg "isinstance" = none
 b_len:mg "len" = none
 b_list:mg "list" = none
 b_max:mg "max" = none
 b_min:mg "min" = none
 b_range:mg "range" = none
 b_str:mg "str" = none
 b_sum:mg "sum" = none
 b_tuple:mg "tuple" = none
 b_zip:mg "zip" = none
 k_STATES:∃t,mg "STATES" = some (.int 8 t)
 k_NEIGHBOURS:∃t,mg "NEIGHBOURS" = some (.int 8 t)
 k_STATE_FIGURES:∃t,mg "STATE_FIGURES" = some (.str (Str.ofString "01234567") t)
 k_AMOUNT_FIGURES:∃t,mg "AMOUNT_FIGURES" = some (.str (Str.ofString "012345678") t)
 k_ANY_SIGN:∃t,mg "ANY_SIGN" = some (.str (Str.ofString "*") t)
 k_TOP_LEVEL:∃t,mg "TOP_LEVEL" = some (.int 48 t)
 k_LIMIT:∃t,mg "LIMIT" = some (.int 1099511627776 t)
 k_LEAST_LEVEL:∃t,mg "LEAST_LEVEL" = some (.int 1 t)
 k_CLAUSE_MARK:∃t,mg "CLAUSE_MARK" = some (.str (Str.ofString "; ") t)
 k_LEAST_JUMPED:∃t,mg "LEAST_JUMPED" = some (.int 2 t)
 m_Amounts:mg "Amounts" = some (.ref a.c_Amounts)
 cl_Amounts:Cls K a.c_Amounts
 na_Amounts_state:BI K a.c_Amounts "state"
 na_Amounts_numbers:BI K a.c_Amounts "numbers"
 m_Places:mg "Places" = some (.ref a.c_Places)
 cl_Places:Cls K a.c_Places
 na_Places_wanted:BI K a.c_Places "wanted"
 m_Clause:mg "Clause" = some (.ref a.c_Clause)
 cl_Clause:Cls K a.c_Clause
 na_Clause_cell:BI K a.c_Clause "cell"
 na_Clause_conditions:BI K a.c_Clause "conditions"
 na_Clause_makes:BI K a.c_Clause "makes"
 m_Grove:mg "Grove" = some (.ref a.c_Grove)
 cl_Grove:Cls K a.c_Grove
 na_Grove_levels:BI K a.c_Grove "levels"
 na_Grove_parts:BI K a.c_Grove "parts"
 na_Grove_numbers:BI K a.c_Grove "numbers"
 na_Grove_bares:BI K a.c_Grove "bares"
 na_Grove_amounts:BI K a.c_Grove "amounts"
 na_Grove_boxes:BI K a.c_Grove "boxes"
 m_Rule:mg "Rule" = some (.ref a.c_Rule)
 cl_Rule:Cls K a.c_Rule
 na_Rule_text:BI K a.c_Rule "text"
 na_Rule_clauses:BI K a.c_Rule "clauses"
 m_Jumps:mg "Jumps" = some (.ref a.c_Jumps)
 cl_Jumps:Cls K a.c_Jumps
 na_Jumps_grove:BI K a.c_Jumps "grove"
 na_Jumps_memories:BI K a.c_Jumps "memories"
 na_Jumps_rule:BI K a.c_Jumps "rule"
 na_Jumps_known_squares:BI K a.c_Jumps "known_squares"
 na_Jumps_known_cells:BI K a.c_Jumps "known_cells"
 b_ValueError:mg "ValueError" = none
 mx_FieldError:mg "FieldError" = some (.ref a.x_FieldError)
 mx_NoRule:mg "NoRule" = some (.ref a.x_NoRule)
 mx_Restless:mg "Restless" = some (.ref a.x_Restless)
 mx_NoSquare:mg "NoSquare" = some (.ref a.x_NoSquare)
 mx_NoLevel:mg "NoLevel" = some (.ref a.x_NoLevel)
 mx_NoState:mg "NoState" = some (.ref a.x_NoState)
 mx_TooFar:mg "TooFar" = some (.ref a.x_TooFar)
 mx_NoSteps:mg "NoSteps" = some (.ref a.x_NoSteps)
 ec_TooFar:JN K a.x_TooFar
 ec_NoSteps:JN K a.x_NoSteps
 ec_FieldError:JN K a.x_FieldError
 ef_TooFar:UB K a.x_TooFar
 mr_TooFar:mroIn K a.x_TooFar (.ref a.x_FieldError)=some true
 kv_TooFar:kitOne K (.ref a.x_TooFar) (.type "ValueError")=some true
 ki_TooFar_NoRule:kitOne K (.ref a.x_TooFar) (.ref a.x_NoRule)=some false
 ki_TooFar_Restless:kitOne K (.ref a.x_TooFar) (.ref a.x_Restless)=some false
 ki_TooFar_NoSquare:kitOne K (.ref a.x_TooFar) (.ref a.x_NoSquare)=some false
 ki_TooFar_NoLevel:kitOne K (.ref a.x_TooFar) (.ref a.x_NoLevel)=some false
 ki_TooFar_NoState:kitOne K (.ref a.x_TooFar) (.ref a.x_NoState)=some false
 ki_TooFar_TooFar:kitOne K (.ref a.x_TooFar) (.ref a.x_TooFar)=some true
 ki_TooFar_NoSteps:kitOne K (.ref a.x_TooFar) (.ref a.x_NoSteps)=some false
 kf_TooFar:kitOne K (.ref a.x_TooFar) (.ref a.x_FieldError)=some true
 ef_NoSteps:UB K a.x_NoSteps
 mr_NoSteps:mroIn K a.x_NoSteps (.ref a.x_FieldError)=some true
 kv_NoSteps:kitOne K (.ref a.x_NoSteps) (.type "ValueError")=some true
 ki_NoSteps_NoRule:kitOne K (.ref a.x_NoSteps) (.ref a.x_NoRule)=some false
 ki_NoSteps_Restless:kitOne K (.ref a.x_NoSteps) (.ref a.x_Restless)=some false
 ki_NoSteps_NoSquare:kitOne K (.ref a.x_NoSteps) (.ref a.x_NoSquare)=some false
 ki_NoSteps_NoLevel:kitOne K (.ref a.x_NoSteps) (.ref a.x_NoLevel)=some false
 ki_NoSteps_NoState:kitOne K (.ref a.x_NoSteps) (.ref a.x_NoState)=some false
 ki_NoSteps_TooFar:kitOne K (.ref a.x_NoSteps) (.ref a.x_TooFar)=some false
 ki_NoSteps_NoSteps:kitOne K (.ref a.x_NoSteps) (.ref a.x_NoSteps)=some true
 kf_NoSteps:kitOne K (.ref a.x_NoSteps) (.ref a.x_FieldError)=some true
 mm_TooFar_TooFar:mroIn K a.x_TooFar (.ref a.x_TooFar)=some true
 mm_NoSteps_TooFar:mroIn K a.x_NoSteps (.ref a.x_TooFar)=some false
 mm_NoSteps_NoSteps:mroIn K a.x_NoSteps (.ref a.x_NoSteps)=some true
seal L2.PA L2.PE L2.PS L2.PSs L2.PT L2.PW
inductive BC where
 |am (s:Int) (ns:List Int)
 |pl (ws:List (Option Int))
structure Bd where
 cell:Option Int
 conds:List BC
 makes:Int
abbrev AF:=List Bd
def GQ:Option Int->V
 |none=>.non
 |some i=>.int i
def CL(w:Option Int)(s:Int):Bool:=match w with
 |none=>true
 |some i=>decide (i=s)
def BC.holds(ar:List Int):BC->Bool
 |.am s ns=>ns.any λn=>decide (n=((ar.countP (· == s):Nat):Int))
 |.pl ws=>(ws.zip ar).all λp=>CL p.1 p.2
def Bd.fits(cell:Int)(ar:List Int)(c:Bd):Bool:=CL c.cell cell && c.conds.all (BC.holds ar)
def NO(r:AF)(cell:Int)(ar:List Int):Option Nat:=r.findIdx? (Bd.fits cell ar)
def Dn(r:AF)(cell:Int)(ar:List Int):Int:=match r.find? (Bd.fits cell ar)with
 |none=>cell
 |some c=>c.makes
def fl1(f:Str)(a:V):List (Str×V):=AY f a []
def fl2(f g:Str)(a b:V):List (Str×V):=AY g b (AY f a [])
def fl3(f g h:Str)(a b c:V):List (Str×V):=AY h c (AY g b (AY f a []))
theorem fl1_1{f:Str}{a:V}:(fl1 f a).lookup f=some a:=by unfold fl1;rw[Am,Z9 rfl]
theorem RA{f m:Str}{a:V}(h:¬m=f):(fl1 f a).lookup m=none:=by unfold fl1;rw[Am,Z6 h];rfl
theorem ZX{f g:Str}{a b:V}(h:¬f=g):(fl2 f g a b).lookup f=some a:=by unfold fl2;rw[Am,Z6 h,Am,Z9 rfl]
theorem ZW{f g:Str}{a b:V}:(fl2 f g a b).lookup g=some b:=by unfold fl2;rw[Am,Z9 rfl]
theorem fl2_no{f g m:Str}{a b:V}(d:¬m=f)(c:¬m=g):(fl2 f g a b).lookup m=none:=by unfold fl2;rw[Am,Z6 c,Am,Z6 d];rfl
theorem fl3_1{f g h:Str}{a b c:V}(e:¬f=g)(d:¬f=h):(fl3 f g h a b c).lookup f=some a:=by unfold fl3;rw[Am,Z6 d,Am,Z6 e,Am,Z9 rfl]
theorem fl3_2{f g h:Str}{a b c:V}(d:¬g=h):(fl3 f g h a b c).lookup g=some b:=by unfold fl3;rw[Am,Z6 d,Am,Z9 rfl]
theorem fl3_3{f g h:Str}{a b c:V}:(fl3 f g h a b c).lookup h=some c:=by unfold fl3;rw[Am,Z9 rfl]
theorem fl3_no{f g h m:Str}{a b c:V}(i:¬m=f)(d:¬m=g)(e:¬m=h):(fl3 f g h a b c).lookup m=none:=by unfold fl3;rw[Am,Z6 e,Am,Z6 d,Am,Z6 i];rfl
theorem Sw(f:Str)(v:V):∀l:List (Str×V),(AY f v l).length<=l.length+1
 |[]=>C1 _
 | (g,w)::r=>by
  unfold AY;split
  ·exact T1 _
  ·rw[F0,F0];exact R9 (Sw f v r)
theorem AJ{H:Hp}{p:Addr}{o:HO}(h:H p=none):AA H (upd H p o):=λb u e=>by
 rw[Ax (Az e h)];exact e
theorem alc{H a:Hp}{p:Addr}{o:HO}(h:H p=none)(e:upd H p o=a):AA H a/\a p=some o:=e▸⟨AJ h,Af⟩
inductive Dp(a:Ad)(H:Hp):Addr->BC->Prop where
 |am {p t dx:Addr} {s:Int} {ns:List Int} (h:H p=some (.ins a.c_Amounts dx (fl2 "state" "numbers" (.int s) (.ref t)))) (ht:H t=some (.tup (ns.map V.int))):Dp a H p (.am s ns)
 |pl {p t dx:Addr} {ws:List (Option Int)} (h:H p=some (.ins a.c_Places dx (fl1 "wanted" (.ref t)))) (ht:H t=some (.tup (ws.map GQ))):Dp a H p (.pl ws)
structure Ce(a:Ad)(H:Hp)(p:Addr)(c:Bd):Prop where
 ex:∃(dx t:Addr)(cs:List Addr),H p=some (.ins a.c_Clause dx (fl3 "cell" "conditions" "makes" (GQ c.cell) (.ref t) (.int c.makes)))/\H t=some (.tup (cs.map V.ref))/\Paired (Dp a H) cs c.conds
structure CD(a:Ad)(H:Hp)(p:Addr)(x:Str)(r:AF):Prop where
 ex:∃(dx t:Addr)(cs:List Addr),H p=some (.ins a.c_Rule dx (fl2 "text" "clauses" (.str x) (.ref t)))/\H t=some (.tup (cs.map V.ref))/\Paired (Ce a H) cs r
theorem Paired.imp{α β:Type}{F G:α->β->Prop}(h:∀x y,F x y->G x y):∀{l:List α}{m:List β},Paired F l m->Paired G l m
 |_,_,.nil=>.nil
 |_,_,.cons r t=>.cons (h _ _ r) (Paired.imp h t)
theorem Paired.get{α β:Type}{F:α->β->Prop}:∀{l:List α}{m:List β}{i:Nat}{x:α},Paired F l m->l[i]?=some x->∃y,m[i]?=some y/\F x y
 |_,_,_,_,.nil,e=>by simp at e
 |_,_,0,_,.cons r _,e=>by simp at e;subst e;exact⟨_,rfl,r⟩
 |_,_,i+1,x,.cons _ t,e=>by
  obtain⟨y,b,a⟩:=Paired.get (i:=i) (x:=x) t (by simpa using e);exact⟨y,by simpa using b,a⟩
theorem Dp.same{a:Ad}{H d:Hp}{p:Addr}{c:BC}(s:AA H d)(h:Dp a H p c):Dp a d p c:=by
 cases h with
 |am h b=>exact .am (s _ _ h) (s _ _ b)
 |pl h b=>exact .pl (s _ _ h) (s _ _ b)
theorem Ce.same{a:Ad}{H b:Hp}{p:Addr}{c:Bd}(s:AA H b)(h:Ce a H p c):Ce a b p c:=by
 obtain⟨dx,t,cs,f,d,e⟩:=h.ex;exact⟨dx,t,cs,s _ _ f,s _ _ d,Paired.imp (λ_ _ z=>z.same s) e⟩
theorem CD.same{a:Ad}{H b:Hp}{p:Addr}{x:Str}{r:AF}(s:AA H b)(h:CD a H p x r):CD a b p x r:=by
 obtain⟨dx,t,cs,e,c,d⟩:=h.ex;exact⟨dx,t,cs,s _ _ e,s _ _ c,Paired.imp (λ_ _ z=>z.same s) d⟩
theorem in_ints(n:Int)(ns:List Int):inV (.int n) (ns.map V.int)=ns.any λm=>decide (m=n):=by
 unfold inV;rw[List.any_map];congr 1
theorem WG(ns:List Int):(ns.map V.int).all Gc=true:=by
 rw[List.all_map];exact O1.mpr λ_ _=>rfl
theorem Og(i j:Int):decide (V.int i=V.int j)=decide (i=j):=by
 by_cases h:i=j
 ·rw[Z7 h,Z7 (by rw[h])]
 ·rw[Z8 h,Z8 λz=>h (by injection z)]
section
variable{P:Program}{w:World}{K:W.Frag}{mg:Str->Option Value}{base:Heap}{a:Ad}
inductive VJ(vs:List V)(H:Hp)(Q:VK):Prop
 |mk (x:Option Int) (s:Int) (_:vs=[GQ x,.int s]) (_:Q (.bl (CL x s)) H):VJ vs H Q
def NR:Sp:=λvs H Q _=>VJ vs H Q
theorem YT(F:Fun K "takes" "takes" QW f fd):AL P w K mg base CX0 1 f fd dF NR:=by
  refine F.ok YD (λ_ _ _ _ h=>by rcases h;subst_vars;rfl) λc A b s H vs Q E d h=>?_
  obtain⟨x,s,rfl,k⟩:=h;refine⟨_,(Ah (As (pe_or (Fo FZ (pv 0) Bz (AD _)) (IG (Fo CQ (pv 0) (pv 1) (AD _)))))),?_⟩
  try dsimp only[cxK]
  refine xq1 rfl ⟨rfl,(xq1 rfl ?_)⟩;cases x with
  |none=>exact BL k
  |some i =>
   have e:decide (GQ (some i)=V.int s)=CL (some i) s:=Og i s;rw[<-e]at k;exact Ba (xw2 rfl rfl ⟨rfl,k⟩)
inductive Tp(a:Ad)(vs:List V)(H:Hp)(Q:VK):Prop
 |mk (p t dx:Addr) (s:Int) (_:vs=[.ref p,.int s,.ref t]) (_:H p=some (.ins a.c_Amounts dx [])) (_:Q .non (upd H p (.ins a.c_Amounts dx (fl2 "state" "numbers" (.int s) (.ref t))))):Tp a vs H Q
def Ot(a:Ad):Sp:=λvs H Q _=>Tp a vs H Q
theorem Wl(F:Fun K "__init__" "Amounts.__init__" FM f fd)(T:Top K mg a):AL P w K mg base CX0 1 f fd OW (Ot a):=by
  refine F.ok NH (λ_ _ _ _ h=>by rcases h;subst_vars;rfl) λc A b s H vs Q E d h=>?_
  obtain⟨p,t,dx,s,rfl,hp,k⟩:=h;refine⟨_,(Ab (Cz (pv 0) (pv 1) rfl) (Ah (Cz (pv 0) (pv 2) rfl))),?_⟩
  try dsimp only[cxK]
  refine xw2 rfl rfl ⟨p,_,dx,[],rfl,hp,T.cl_Amounts,T.na_Amounts_state,B1,(xw2 rfl rfl ⟨p,_,dx,(xq1 rfl ⟨Af,T.cl_Amounts,T.na_Amounts_numbers,B3,?_⟩)⟩)⟩;rw[Ih];exact k
inductive Tn(a:Ad)(vs:List V)(H:Hp)(Q:VK):Prop
 |mk (p t dx:Addr) (_:vs=[.ref p,.ref t]) (_:H p=some (.ins a.c_Places dx [])) (_:Q .non (upd H p (.ins a.c_Places dx (fl1 "wanted" (.ref t))))):Tn a vs H Q
def Op(a:Ad):Sp:=λvs H Q _=>Tn a vs H Q
theorem Wj(F:Fun K "__init__" "Places.__init__" GE f fd)(T:Top K mg a):AL P w K mg base CX0 1 f fd PL (Op a):=by
  refine F.ok OA (λ_ _ _ _ h=>by rcases h;subst_vars;rfl) λc A b s H vs Q E d h=>?_
  obtain⟨p,t,dx,rfl,hp,k⟩:=h;refine⟨_,(Ah (Cz (pv 0) (pv 1) rfl)),?_⟩
  try dsimp only[cxK]
  exact xw2 rfl rfl ⟨p,_,dx,[],rfl,hp,T.cl_Places,T.na_Places_wanted,B1,k⟩
inductive To(a:Ad)(vs:List V)(H:Hp)(Q:VK):Prop
 |mk (p t dx:Addr) (c:Option Int) (m:Int) (_:vs=[.ref p,GQ c,.ref t,.int m]) (_:H p=some (.ins a.c_Clause dx [])) (_:Q .non (upd H p (.ins a.c_Clause dx (fl3 "cell" "conditions" "makes" (GQ c) (.ref t) (.int m))))):To a vs H Q
def Os(a:Ad):Sp:=λvs H Q _=>To a vs H Q
theorem Wk(F:Fun K "__init__" "Clause.__init__" GG f fd)(T:Top K mg a):AL P w K mg base CX0 1 f fd PP (Os a):=by
  refine F.ok OC (λ_ _ _ _ h=>by rcases h;subst_vars;rfl) λd A b s H vs Q E e h=>?_
  obtain⟨p,t,dx,c,m,rfl,hp,k⟩:=h;refine⟨_,(Ab (Cz (pv 0) (pv 1) rfl) (Ab (Cz (pv 0) (pv 2) rfl) (Ah (Cz (pv 0) (pv 3) rfl)))),?_⟩
  try dsimp only[cxK]
  refine⟨_,rfl,_,rfl,p,_,dx,[],rfl,hp,T.cl_Clause,T.na_Clause_cell,B1,_,rfl,_,rfl,p,_,dx,_,rfl,Af,T.cl_Clause,T.na_Clause_conditions,B3,_,rfl,_,rfl,p,_,dx,_,rfl,Af,T.cl_Clause,T.na_Clause_makes,
   M8 (Sw _ _ _) (by show 2<1000;decide),?_⟩
  rw[Ih,Ih];exact k
def MN(a:Ad):Sp:=λvs H Q E=>(∃(p l t dx:Addr)(s:Int)(ns ar:List Int),vs=[.ref p,.ref l]/\H p=some (.ins a.c_Amounts dx (fl2 "state" "numbers" (.int s) (.ref t)))/\H t=some (.tup (ns.map V.int))/\H l=some (.lst (ar.map V.int))/\Q (.bl (BC.holds ar (.am s ns))) H)
theorem TN(F:Fun K "holds" "Amounts.holds" EX f fd)(T:Top K mg a):AL P w K mg base CX0 1 f fd NM (MN a):=by
 refine F.ok MP (λvs H Q E h=>?_) (λg A b s H vs Q E i h=>?_)
 ·obtain⟨p,l,t,dx,s,ns,c,rfl,_⟩:=h;rfl
 ·obtain⟨p,l,t,dx,s,ns,c,rfl,hp,e,d,k⟩:=h;refine⟨_,(Ah (As (Fo Wg (DK K0 PySem.F.slot_list_count PySem.F.type_list_count Zq (pv 1) (Aa (AC (pv 0) rfl) Ae)) (AC (pv 0) rfl) rfl))),?_⟩
  try dsimp only[cxK]
  refine xq1 rfl ⟨.inl ⟨rfl,_,SqL.of d⟩,(xwf rfl rfl hp T.cl_Amounts T.na_Amounts_state (ZX A1) ⟨l,c,s,rfl,rfl,d,(xwf rfl rfl hp T.cl_Amounts T.na_Amounts_numbers ZW ⟨t,(xq1 rfl ⟨.inr (SqT.of e),rfl,WG ns,?_⟩)⟩)⟩)⟩;show Q (.bl (inV _ _)) H;rw[in_ints];exact k
inductive QE(a:Ad)(vs:List V)(H:Hp)(Q:VK):Prop
 |mk (p l t dx:Addr) (ws:List (Option Int)) (ar:List Int) (_:vs=[.ref p,.ref l]) (_:H p=some (.ins a.c_Places dx (fl1 "wanted" (.ref t)))) (_:H t=some (.tup (ws.map GQ))) (_:H l=some (.lst (ar.map V.int))) (_:ws.length<=100) (_:∀H',AA H H'->Q (.bl (BC.holds ar (.pl ws))) H'):QE a vs H Q
def ML(a:Ad):Sp:=λvs H Q _=>QE a vs H Q
theorem TM(F:Fun K "holds" "Places.holds" Eb f fd)(T:Top K mg a)(S:Cal P w K mg base CX0 1 "takes" dF NR):AL P w K mg base CX0 2 f fd NM (ML a):=by
  refine F.ok NG (λ_ _ _ _ h=>by rcases h;subst_vars;rfl) λU A n s H vs Q E O h=>?_
  obtain⟨p,l,t,dx,ws,b,rfl,hp,B,v,D,k⟩:=h;refine⟨_,(Ah (As (AQ (Tj rfl) rfl T.b_all PyProof.Rows.boot_all (Aa (Di rfl (BM.of (So:=Al Eb) (No:=NM) (N:=["one","state"]) (k:=2) (cs:=[]) rfl rfl A1) (pi_zip true false rfl T.b_zip (Aa (AC (pv 0) rfl) (Aa (pv 1) Ae))) (λ_ _ _=>(YL (i:=0) (j:=1) rfl A1 rfl rfl rfl rfl)) (λ_ _ _=>BX) (λ_ _ _=>(Aw S (rm O) rfl Aq (Aa (pv 0) (Aa (pv 1) Ae))))) Ae)))),?_⟩
  try dsimp only[cxK]
  refine xwf rfl rfl hp T.cl_Places T.na_Places_wanted fl1_1 (xq1 rfl ⟨t,l,rfl,⟨_,SqT.of B⟩,⟨_,SqL.of v⟩,?_⟩);refine blk_zip (xs:=ws.map GQ) (ys:=b.map V.int) (λi c d=>AA H d/\c=(((ws.zip b).take i).map λp=>V.bl (CL p.1 p.2))) ⟨AA.refl H,rfl⟩ (λi c d z=>⟨SqT.of (z.1 _ _ B),SqL.of (z.1 _ _ v)⟩) ?_ ?_
  ·rintro i x y c d X r u ⟨g,rfl⟩ M;rw[B8]at r u;obtain⟨o,R,rfl⟩:=D8.mp r;obtain⟨m,I,rfl⟩:=D8.mp u;have G:(ws.zip b)[i]?=some (o,m):=by rw[List.getElem?_zip_eq_some];exact⟨R,I⟩
   refine SX Af ⟨⟨[some (GQ o),some (.int m)],rfl,rfl⟩,?_,?_⟩
   ·have:((((ws.zip b).take i).map λp=>V.bl (CL p.1 p.2))).length<=ws.length:=by
     rw[B5,L8,List.length_zip];omega
    exact M8 (D0 this D) A3
   ·refine Ii ?_;refine xw2 rfl rfl ⟨o,m,rfl,g.trans (AJ M),?_⟩;rw[L6,G,C5];rfl
  ·rintro c d ⟨g,rfl⟩ q C;have len:min (ws.map GQ).length (b.map V.int).length=(ws.zip b).length:=by rw[B5,B5,List.length_zip]
   rw[len,M4];refine⟨q,(ws.zip b).map (λp=>CL p.1 p.2),rfl,SqL.of (by rw[Af,O4];rfl),?_⟩;have e:((ws.zip b).map (λp=>CL p.1 p.2)).all id=BC.holds b (.pl ws):=by rw[List.all_map];rfl
   rw[e];exact k _ (g.trans (AJ C))
inductive SpFits(a:Ad)(vs:List V)(H:Hp)(Q:VK):Prop
 |mk (p l:Addr) (c:Bd) (cell:Int) (ar:List Int) (_:vs=[.ref p,.int cell,.ref l]) (_:Ce a H p c) (_:c.conds.length<=100) (_:(∀d∈c.conds,∀ws,d=BC.pl ws->ws.length<=100)) (_:H l=some (.lst (ar.map V.int))) (_:∀H',AA H H'->Q (.bl (c.fits cell ar)) H'):SpFits a vs H Q
def Tw(a:Ad):Sp:=λvs H Q _=>SpFits a vs H Q
theorem ok_Fits(F:Fun K "fits" "Clause.fits" EK f fd)(T:Top K mg a)(cF:Cal P w K mg base CX0 1 "takes" dF NR)(v:Cb P w K mg base CX0 1 a.c_Amounts "holds" NM (MN a))(y:Cb P w K mg base CX0 2 a.c_Places "holds" NM (ML a)) :
  AL P w K mg base CX0 3 f fd Lr (Tw a):=by
  refine F.ok OD (λ_ _ _ _ h=>by rcases h;subst_vars;rfl) λaa A D s H vs Q E M h=>?_
  obtain⟨p,l,c,cell,g,rfl,hC,hn,G,X,k⟩:=h;obtain⟨dx,t,cs,hp,Z,o⟩:=hC.ex;refine⟨_,(Ah (As (IH (Aw cF (rm M) rfl Aq (Aa (AC (pv 0) rfl) (Aa (pv 1) Ae))) (IG (AQ (Tj rfl) rfl T.b_all PyProof.Rows.boot_all (Aa (Di rfl (BM.of (So:=Al EK) (No:=Lr) (N:=["condition","around"]) (k:=1) (cs:=[2]) rfl rfl A1) (TH (AC (pv 0) rfl)) (λ_ _ _=>(Bo (i:=0) A1 rfl rfl)) (λ_ _ _=>BX) (λ_ _ _=>(PE.or (AI (pv 0) v (rm M) Aq (Aa (pv 1) Ae)) (AI (pv 0) y (rm M) Aq (Aa (pv 1) Ae))))) Ae)))))),?_⟩
  try dsimp only[cxK]
  refine xwf rfl rfl hp T.cl_Clause T.na_Clause_cell (fl3_1 A1 A1) (xq1 rfl ⟨c.cell,cell,rfl,CL c.cell cell,rfl,?_⟩);cases Y:CL c.cell cell with
  |false =>
   refine Ba ?_;have:=k H (AA.refl H);unfold Bd.fits at this;rw[Y]at this;exact this
  |true =>
   refine BL ?_;have ln:cs.length=c.conds.length:=A0a o;refine xwf rfl rfl hp T.cl_Clause T.na_Clause_conditions (fl3_2 A1) ⟨t,rfl,⟨_,SqT.of Z⟩,?_⟩;refine RF (xs:=cs.map V.ref) (λi j m=>AA H m/\j=((c.conds.take i).map λd=>V.bl (BC.holds g d))) ⟨AA.refl H,rfl⟩ (λi j m _ z=>SqT.of (z.1 _ _ Z)) ?_ ?_
   ·rintro i x j m R ⟨n,rfl⟩;rw[B8]at R;obtain⟨q,eq,rfl⟩:=D8.mp R;obtain⟨d,S,hd⟩:=Paired.get o eq;have C:=hd.same n;refine⟨⟨[some (.ref q)],rfl,rfl⟩,?_,?_⟩
    ·have:((c.conds.take i).map λd=>V.bl (BC.holds g d)).length<=c.conds.length:=by
      rw[B5,L8];omega
     exact M8 (D0 this hn) A3
    ·refine Ii ?_;have U:∀r,AA m r->AA H r/\((c.conds.take i).map λd=>V.bl (BC.holds g d))++[V.bl (BC.holds g d)]=((c.conds.take (i+1)).map λd=>V.bl (BC.holds g d)):=λr B=>⟨n.trans B,by
      rw[L6,S,C5];rfl⟩
     have md:d∈c.conds:=D7 S;cases C with
     |@am I b s ns u O=>exact .inl ⟨_,rfl,q,b,_,rfl,u,fl2_no A1 A1,_,rfl,q,l,I,b,s,ns,g,rfl,u,O,n _ _ X,U m (AA.refl m)⟩
     |@pl I b ws u O=>exact .inr ⟨_,rfl,q,b,_,rfl,u,RA A1,_,rfl,q,l,I,b,ws,g,rfl,u,O,n _ _ X,G _ md ws rfl,λr B=>U r B⟩
   ·rintro j m ⟨n,rfl⟩ q nq;rw[B5,ln,M4];refine⟨q,c.conds.map (BC.holds g),rfl,SqL.of (by rw[Af,O4];rfl),?_⟩;have e:(c.conds.map (BC.holds g)).all id=c.fits cell g:=by
     unfold Bd.fits;rw[Y,List.all_map];rfl
    rw[e];exact k _ (n.trans (AJ nq))
def ROk(r:AF):Prop:=r.length<=5000/\∀c∈r,c.conds.length<=100/\∀d∈c.conds,∀ws,d=BC.pl ws->ws.length<=100
def decV(o:Option Nat):V:=match o with
 |none=>.non
 |some n=>.int n
inductive SpDec(a:Ad)(vs:List V)(H:Hp)(Q:VK):Prop
 |mk (p l:Addr) (z:Str) (r:AF) (cell:Int) (ar:List Int) (_:vs=[.ref p,.int cell,.ref l]) (_:CD a H p z r) (_:ROk r) (_:H l=some (.lst (ar.map V.int))) (_:∀H',AA H H'->Q (decV (NO r cell ar)) H'):SpDec a vs H Q
def Yy(a:Ad):Sp:=λvs H Q _=>SpDec a vs H Q
theorem ok_dec(F:Fun K "deciding" "deciding" LH f fd)(T:Top K mg a)(bM:Cb P w K mg base CX0 3 a.c_Clause "fits" Lr (Tw a)):AL P w K mg base CX0 4 f fd LN (Yy a):=by
  refine F.ok Jl (λ_ _ _ _ h=>by rcases h;subst_vars;rfl) λab A I s H vs Q E hr h=>?_
  obtain⟨p,l,z,r,cell,y,rfl,hR,X,hl,k⟩:=h;obtain⟨dx,t,cs,hp,U,n⟩:=hR.ex;have ln:cs.length=r.length:=A0a n;refine⟨_,(Ab (DA K8 rfl (NY true rfl T.b_enumerate (Aa (AC (pv 0) rfl) Ae)) (OL rfl (Dq (BQ (i:=3) Jl.nd rfl (Or.inl rfl)) (Dq (BQ (i:=4) Jl.nd rfl (Or.inl rfl)) Mo))) (Ah (AM (CM (AI (pv 4) bM (rm hr) Aq (Aa (pv 1) (Aa (pv 2) Ae)))) (Ah (As (pv 3))) AB))) (Ah (As Bz))),?_⟩
  try dsimp only[cxK]
  refine xwf rfl rfl hp T.cl_Rule T.na_Rule_clauses ZW ⟨t,rfl,⟨_,SqT.of U⟩,?_⟩;refine MC (b:=true) (xs:=cs.map V.ref) (λi σ g=>AA H g/\(∃u v,σ=[some (.ref p),some (.int cell),some (.ref l),u,v])/\∀c∈r.take i,c.fits cell y=false) ⟨AA.refl H,⟨none,none,rfl⟩,λc G=>by simp at G⟩ (λi σ g _ q=>SqT.of (q.1 _ _ U)) ?_ ?_
  ·rintro i x σ g T' N ⟨D,⟨u,v,rfl⟩,no⟩ nT;rw[B8]at N;obtain⟨q,eq,rfl⟩:=D8.mp N;obtain⟨c,C,G⟩:=Paired.get n eq;have B:=D.trans (AJ (o:=.tup [.int i,.ref q]) nT);have m:=G.same B;obtain⟨aa,t2,Z,h1,_⟩:=m.ex;refine SX Af ?_;have S:=D7 C;refine xwn rfl rfl h1 (fl3_no A1 A1 A1) rfl (xq1 rfl ⟨q,l,c,cell,y,rfl,m,(X.2 c S).1,(X.2 c S).2,B _ _ hl,λY M=>(xq1 rfl ?_)⟩);cases O:c.fits cell y with
   |true =>
    refine BL ?_;refine xq1 rfl ?_;have e:NO r cell y=some i:=by
     unfold NO;rw[Z0];have hi:i<r.length:=(B6.mp C).1;refine⟨hi,?_,λj hj=>?_⟩
     ·rw[(B6.mp C).2];exact O
     ·have:=no r[j] (List.mem_take_iff_getElem.mpr ⟨j,by omega,rfl⟩);rw[this];exact D3
    have:=k Y (B.trans M);rw[e]at this;exact this
   |false =>
    refine Ba ⟨B.trans M,⟨_,_,rfl⟩,λd R=>?_⟩;rw[L6,C]at R;rcases F9.mp R with z|z
    ·exact no d z
    ·have:d=c:=by simpa using z
     rw[this];exact O
  ·rintro σ g ⟨D,⟨u,v,rfl⟩,no⟩;rw[B5,ln,M4]at no;have e:NO r cell y=none:=by
    unfold NO;rw[List.findIdx?_eq_none_iff];exact no
   have:=k g D;rw[e]at this;exact this
inductive SpBec(a:Ad)(vs:List V)(H:Hp)(Q:VK):Prop
 |mk (p l:Addr) (z:Str) (r:AF) (cell:Int) (ar:List Int) (_:vs=[.ref p,.int cell,.ref l]) (_:CD a H p z r) (_:ROk r) (_:H l=some (.lst (ar.map V.int))) (_:∀H',AA H H'->Q (.int (Dn r cell ar)) H'):SpBec a vs H Q
def UX(a:Ad):Sp:=λvs H Q _=>SpBec a vs H Q
theorem Pl{r:AF}{cell:Int}{b:List Int}(h:NO r cell b=none):Dn r cell b=cell:=by
 unfold NO at h;rw[List.findIdx?_eq_none_iff]at h;unfold Dn;rw[List.find?_eq_none.mpr λc d=>by rw[h c d];exact D3]
theorem Pk{r:AF}{cell:Int}{b:List Int}{i:Nat}(h:NO r cell b=some i):∃c,r[i]?=some c/\Dn r cell b=c.makes:=by
 unfold NO at h;rw[Z0]at h;obtain⟨d,e,f⟩:=h;refine⟨r[i],B9 d,?_⟩;unfold Dn;have:r.find? (Bd.fits cell b)=some r[i]:=by
  rw[List.find?_eq_some_iff_getElem];exact⟨e,i,d,rfl,λj g=>by simpa using f j g⟩
 rw[this]
theorem ok_bec(F:Fun K "becomes" "becomes" MT f fd)(T:Top K mg a)(C:Cal P w K mg base CX0 4 "deciding" LN (Yy a)):AL P w K mg base CX0 5 f fd LN (UX a):=by
  refine F.ok Oz (λ_ _ _ _ h=>by rcases h;subst_vars;rfl) λO A j s H vs Q E I h=>?_
  obtain⟨p,l,z,r,cell,n,rfl,o,R,G,k⟩:=h;refine⟨_,(Ab (Ao (i:=3) Oz.nd rfl (Or.inl rfl) (Aw C (rm I) rfl Aq (Aa (pv 0) (Aa (pv 1) (Aa (pv 2) Ae))))) (Ab (AM (Ay FZ (pv 3) Bz (AD _)) (Ah (As (pv 1))) AB) (Ah (As (AC (Aj Ak (AC (pv 0) rfl) (pv 3) (λ_ _=>rfl)) rfl))))),?_⟩
  try dsimp only[cxK]
  refine xw3 rfl rfl rfl ⟨p,l,z,r,cell,n,rfl,o,R,G,λm d=>?_⟩;refine xq1 rfl ⟨rfl,(xq1 rfl ?_)⟩;cases e:NO r cell n with
  |none =>
   refine BL (xq1 rfl ?_);have:=k m d;rw[Pl e]at this;exact this
  |some i =>
   obtain⟨c,u,B⟩:=Pk e;obtain⟨dx,t,cs,hp,N,b⟩:=o.ex;obtain⟨q,eq⟩:∃q,cs[i]?=some q:=by
    have M:cs.length=r.length:=A0a b;have:i<cs.length:=by rw[M];exact(B6.mp u).1
    exact⟨_,B9 this⟩
   obtain⟨S,g,D⟩:=Paired.get b eq;rw[u]at g;cases g;obtain⟨y,U,v,x,_⟩:=(D.same d).ex;refine Ba (xwf rfl rfl (d _ _ hp) T.cl_Rule T.na_Rule_clauses ZW (xwi rfl rfl rfl (SqT.of (d _ _ N)) (Ai (by rw[B8,eq];rfl)) (xq5 x T.cl_Clause T.na_Clause_makes fl3_3 ?_)));have:=k m d;rw[B]at this;exact this
end
def sgD(d:Int):Str:=⟨#[48+d.toNat]⟩
def wC:Option Int->Nat
 |none=>42
 |some d=>48+d.toNat
def wS(x:Option Int):Str:=⟨#[wC x]⟩
def Eo(ns:List Int):Str:=⟨(ns.map λn=>48+n.toNat).toArray⟩
def Cf:BC->Str
 |.am s ns=>sgD s++⟨#[61]⟩++Eo ns
 |.pl ws=>⟨(ws.map wC).toArray⟩
def Br(c:Bd):Str:=Str.join ⟨#[32]⟩ (wS c.cell::(c.conds.map Cf++[sgD c.makes]))
def Qh:Str:=⟨#[59,32]⟩
def DJ(r:AF):Str:=Str.join Qh (r.map Br)
def Lx(d:Int):Prop:=0<=d/\d<8
def wOk:Option Int->Prop
 |none=>True
 |some d=>Lx d
def BC.ok:BC->Prop
 |.am s ns=>Lx s/\ns≠[]/\(∀n∈ns,0<=n/\n<=8)/\ns.Pairwise (· < ·)
 |.pl ws=>ws.length=8/\∀w∈ws,wOk w
structure Bd.ok(c:Bd):Prop where
 cell:wOk c.cell
 makes:Lx c.makes
 few:c.conds.length<=50
 conds:∀d∈c.conds,d.ok
theorem eight{d:Int}(h:Lx d):d=0\/d=1\/d=2\/d=3\/d=4\/d=5\/d=6\/d=7:=by
 obtain⟨m,rfl⟩:=L5 h.1;have a:=h.2;exact(show ∀m:Nat,m<8->((m:Int)=0\/(m:Int)=1\/(m:Int)=2\/(m:Int)=3\/(m:Int)=4\/(m:Int)=5\/(m:Int)=6\/(m:Int)=7) by decide) m B4
abbrev figs8:Str:=Str.ofString "01234567"
abbrev figs9:Str:=Str.ofString "012345678"
theorem Yg{d:Int}(h:Lx d):PySem.intText? (sgD d)=some d/\(!(Builtin.Str.occurrences figs8 (sgD d) 0 figs8.length 1).isEmpty)=true:=by
 rcases eight h with rfl|rfl|rfl|rfl|rfl|rfl|rfl|rfl<;>exact⟨by decide +kernel,by decide +kernel⟩
theorem nine{d:Int}(a:0<=d)(b:d<=8):d=0\/d=1\/d=2\/d=3\/d=4\/d=5\/d=6\/d=7\/d=8:=by
 obtain⟨m,rfl⟩:=L5 a;exact(show ∀m:Nat,m<9->((m:Int)=0\/(m:Int)=1\/(m:Int)=2\/(m:Int)=3\/(m:Int)=4\/(m:Int)=5\/(m:Int)=6\/(m:Int)=7\/(m:Int)=8) by decide) m B4
theorem am_facts{d:Int}(a:0<=d)(b:d<=8):PySem.intText? (⟨#[48+d.toNat]⟩:Str)=some d/\(!(Builtin.Str.occurrences figs9 (⟨#[48+d.toNat]⟩:Str) 0 figs9.length 1).isEmpty)=true:=by
 rcases nine a b with rfl|rfl|rfl|rfl|rfl|rfl|rfl|rfl|rfl<;>exact⟨by decide +kernel,by decide +kernel⟩
theorem star_no{d:Int}(h:Lx d):decide (V.str (wS (some d))=V.str (Str.ofString "*"))=false:=by
 rcases eight h with rfl|rfl|rfl|rfl|rfl|rfl|rfl|rfl<;>decide +kernel
theorem PR{x:Option Int}(h:wOk x):wC x≠61/\wC x≠32/\wC x≠59:=by
 cases x with
 |none=>exact⟨by decide,by decide,by decide⟩
 |some d =>
  have:=h.1;have:=h.2;show 48+d.toNat≠61/\48+d.toNat≠32/\48+d.toNat≠59;refine⟨?_,?_,?_⟩<;>omega
theorem Qt{d:BC}(h:d.ok):32∉(Cf d).cps.toList/\59∉(Cf d).cps.toList:=by
 cases d with
 |am s ns =>
  obtain⟨⟨g,f⟩,_,c,_⟩:=h;have e:(Cf (.am s ns)).cps.toList=(48+s.toNat)::61::ns.map λn=>48+n.toNat:=by
   show(sgD s++⟨#[61]⟩++Eo ns).cps.toList=_;rw[Tx.CS,Tx.CS];rfl
  rw[e];constructor
  ·intro z;rcases B7.mp z with z|z
   ·omega
   ·rcases B7.mp z with z|z
    ·omega
    ·obtain⟨n,a,e⟩:=C3.mp z;have:=c n a;omega
  ·intro z;rcases B7.mp z with z|z
   ·omega
   ·rcases B7.mp z with z|z
    ·omega
    ·obtain⟨n,a,e⟩:=C3.mp z;have:=c n a;omega
 |pl ws =>
  have e:(Cf (.pl ws)).cps.toList=ws.map wC:=rfl;rw[e];constructor
  ·intro z;obtain⟨x,b,e⟩:=C3.mp z;exact(PR (h.2 x b)).2.1 e
  ·intro z;obtain⟨x,b,e⟩:=C3.mp z;exact(PR (h.2 x b)).2.2 e
theorem RG:∀(ns:List Int)(lo:Int),lo<=9->(∀n∈ns,lo<=n/\n<=8)->ns.Pairwise (· < ·)->(ns.length:Int)<=9-lo
 |[],lo,h,_,_=>by show(0:Int)<=9-lo;omega
 |n::r,lo,_,hn,hp=>by
  have c:=hn n C7;have b:=RG r (n+1) B4 (λm a=>⟨by have:=(List.pairwise_cons.mp hp).1 m a;omega,(hn m (C8 _ a)).2⟩) (List.pairwise_cons.mp hp).2;rw[F0];omega
theorem Pg{d:BC}(h:d.ok):(Cf d).length<=11:=by
 cases d with
 |am s ns =>
  obtain⟨_,_,a,hp⟩:=h;have b:=RG ns 0 A3 a hp;rw[Nu.len];show(sgD s++⟨#[61]⟩++Eo ns).cps.toList.length<=11;rw[Tx.CS,Tx.CS,C4,C4];show 1+1+(ns.map λn=>48+n.toNat).length<=11;rw[B5];omega
 |pl ws =>
  rw[Nu.len];show(ws.map wC).length<=11;rw[B5,h.1];decide
section
variable{P:Program}{w:World}{K:W.Frag}{mg:Str->Option Value}{base:Heap}{a:Ad}
theorem UP(K:W.Frag):kitOne K (.type "str") (.type "str")=some true:=by kernel_rfl
inductive SpRS(vs:List V)(H:Hp)(Q:VK):Prop
 |mk (d:Int) (_:vs=[.str (sgD d)]) (_:Lx d) (_:Q (.int d) H):SpRS vs H Q
def Ym:Sp:=λvs H Q _=>SpRS vs H Q
theorem ok_rs(F:Fun K "read_state" "read_state" Ip f fd)(T:Top K mg a):AL P w K mg base CX0 1 f fd Rg Ym:=by
  refine F.ok Ps (λ_ _ _ _ h=>by rcases h;subst_vars;rfl) λi A b s H vs Q E j h=>?_
  obtain⟨d,rfl,g,k⟩:=h;obtain⟨e,c⟩:=Yg g;refine⟨_,(Ab (AM (PW.pt (Mn (Ay OO (AQ IZ rfl T.b_len A0e (Aa (pv 0) Ae)) Ac (AD _)) (IE (Ay Mr (pv 0) (NZ rfl T.k_STATE_FIGURES) rfl)))) (Ah Bw) AB) (Ah (As (Bp GT rfl T.b_int A1b (Aa (pv 0) Ae))))),?_⟩
  try dsimp only[cxK]
  refine xw2 rfl rfl ⟨(by show 1<=sizeLine;decide),rfl,(xq1 rfl ?_)⟩;refine Vt rfl (xwb rfl rfl rfl (xq1 rfl ?_));rw[c];exact Ba (xq1 rfl ⟨_,d,rfl,e,(by show 1<=640;decide),k⟩)
inductive SpRW(vs:List V)(H:Hp)(Q:VK):Prop
 |mk (x:Option Int) (_:vs=[.str (wS x)]) (_:wOk x) (_:Q (GQ x) H):SpRW vs H Q
def spRW:Sp:=λvs H Q _=>SpRW vs H Q
theorem ok_rw(F:Fun K "read_wanted" "read_wanted" Gy f fd)(T:Top K mg a)(g:Cal P w K mg base CX0 1 "read_state" Rg Ym):AL P w K mg base CX0 2 f fd Rg spRW:=by
  refine F.ok Ow (λ_ _ _ _ h=>by rcases h;subst_vars;rfl) λi A b s H vs Q E e h=>?_
  obtain⟨x,rfl,c,k⟩:=h;refine⟨_,(Ab (AM (Ay CQ (pv 0) (NZ rfl T.k_ANY_SIGN) (AD _)) (Ah (As Bz)) AB) (Ah (As (Aw g (rm e) rfl Aq (Aa (pv 0) Ae))))),?_⟩
  try dsimp only[cxK]
  refine xq1 rfl ⟨rfl,(xq1 rfl ?_)⟩;cases x with
  |none=>exact BL k
  |some d =>
   rw[star_no c];exact Ba (xq1 rfl ⟨d,rfl,c,k⟩)
inductive SpRN(vs:List V)(H:Hp)(Q:VK):Prop
 |mk (ns:List Int) (_:vs=[.str (Eo ns)]) (_:ns≠[]) (_:ns.length<=100) (_:(∀n∈ns,0<=n/\n<=8)) (_:ns.Pairwise (· < ·)) (_:∀(t:Addr)(H':Hp),AA H H'->H' t=some (.tup (ns.map V.int))->Q (.ref t) H'):SpRN vs H Q
def spRN:Sp:=λvs H Q _=>SpRN vs H Q
theorem ok_rn(F:Fun K "read_numbers" "read_numbers" FH f fd)(T:Top K mg a):AL P w K mg base CX0 1 f fd FS spRN:=by
  refine F.ok EV (λ_ _ _ _ h=>by rcases h;subst_vars;rfl) λZ A q s H vs Q E hr h=>?_
  obtain⟨ns,rfl,p,B,I,hp,k⟩:=h;have M:(Eo ns).length=ns.length:=by rw[Nu.len];show(ns.map _).length=_;rw[B5]
  have G:(Eo ns).cps.toList=ns.map λn=>48+n.toNat:=rfl;have N:0<ns.length:=T5.mpr p;refine⟨_,(Ab (AM (Ay CQ (AQ IZ rfl T.b_len A0e (Aa (pv 0) Ae)) Ac (AD _)) (Ah Bw) AB) (Ab (Ao (i:=1) EV.nd rfl (Or.inl rfl) (CA Ae)) (Ab (DA K8 rfl (YK (pv 0)) (BQ (i:=2) EV.nd rfl (Or.inl rfl)) (Ab (AM (Ay Mr (pv 2) (NZ rfl T.k_AMOUNT_FIGURES) rfl) (Ah Bw) AB) (Ab (AM (PW.pt (Js (Ay Nz (AQ Ck rfl T.b_len A0e (Aa (pv 1) Ae)) Ac (AD _)) (Gk (Ay Lo (Bp GT rfl T.b_int A1b (Aa (pv 2) Ae)) (Aj Av (pv 1) (Db Cc Ac) (λ_ _=>rfl)) (AD _))))) (Ah Bw) AB) (Ah (BP (DK K0 K1 K2 BS (pv 1) (Aa (Bp GT rfl T.b_int A1b (Aa (pv 2) Ae)) Ae))))))) (Ah (As (Bp BJ rfl T.b_tuple K9 (Aa (pv 1) Ae))))))),?_⟩
  try dsimp only[cxK]
  refine xw2 rfl rfl ⟨(by rw[M];exact D0 B A3),rfl,(xq1 rfl ?_)⟩;have S:decide (V.int ((Eo ns).length:Int)=V.int 0)=false:=Z8 λz=>by
   injection z with z
   omega
  rw[S];refine Ba ⟨(by show 0<=sizeLine;decide),λl o=>?_⟩;refine xw2 rfl rfl ?_;refine for_str (λi σ c=>∃v,σ=[some (.str (Eo ns)),some (.ref l),v]/\c=upd H l (.lst ((ns.take i).map V.int))) ⟨none,rfl,rfl⟩ ?_ ?_
  ·rintro i ch σ c r ⟨v,rfl,rfl⟩;have b:(ns.map λn=>48+n.toNat)[i]?=some ch:=by rw[<-G];simpa using r
   rw[B8]at b;obtain⟨n,d,rfl⟩:=D8.mp b;have D:=D7 d;obtain⟨y,U⟩:=am_facts (I n D).1 (I n D).2;have C:i<ns.length:=(B6.mp d).1;have j:(ns.take i).length=i:=by rw[L8];omega
   refine xwb rfl rfl rfl (xq1 rfl ?_);rw[U];refine Ba (xq1 rfl ⟨l,(xq1 rfl ⟨.inl (SqL.of Af),(xq2 rfl rfl (xq1 rfl ?_))⟩)⟩);have nx:∃v,([some (V.str (Eo ns)),some (.ref l),some (.str ⟨#[48+n.toNat]⟩)]:St)=[some (.str (Eo ns)),some (.ref l),v]/\upd (upd H l (.lst ((ns.take i).map V.int))) l (.lst ((ns.take i).map V.int++[V.int n]))=upd H l (.lst ((ns.take (i+1)).map V.int)):=by
    refine xq1 rfl ?_;rw[Ih,L6,d,C5];rfl
   have app:tDrop (tBM K "list" Vd (Gp 1) (CU (tCB (λxs H Q=>∃x n,xs=[.str x]/\PySem.intText? x=some n/\x.length<=640/\Q (.int n) H) (CU (Gp 2) QI)) QI))
     {nx:=fun σ c=>∃v,σ=[some (.str (Eo ns)),some (.ref l),v]/\c=upd H l (.lst ((ns.take (i+1)).map V.int)),rt:=Q,bk:=λ_ _=>False,ct:=fun σ c=>∃v,σ=[some (.str (Eo ns)),some (.ref l),v]/\c=upd H l (.lst ((ns.take (i+1)).map V.int))}
     [some (.str (Eo ns)),some (.ref l),some (.str ⟨#[48+n.toNat]⟩)] (upd H l (.lst ((ns.take i).map V.int))) :=
    ⟨_,rfl,.inl ⟨rfl,_,SqL.of Af⟩,_,rfl,_,n,rfl,y,(by show 1<=640;decide),l,_,_,rfl,rfl,Af,(by rw[B5,j];exact F2 C (D0 B A3)),nx⟩
   by_cases Y:i=0
   ·subst Y;exact Ba app
   ·have ip:0<i:=by omega
    have g:decide ((0:Int)<(((ns.take i).map V.int).length:Int))=true:=Z7 (by rw[B5,j];omega);rw[g];have u:i-1<ns.length:=by omega
    have O:ns[i-1]<n:=by
     have:=List.pairwise_iff_getElem.mp hp (i-1) i u C B4;rw[(B6.mp d).2]at this;exact this
    have m:atI ((ns.take i).map V.int) (-1)=some (V.int ns[i-1]):=by
     have:((ns.take i).map V.int)[i-1]?=some (V.int ns[i-1]):=by
      rw[B8,U3 B4,B9 u];rfl
     have R:((ns.take i).map V.int).length=i:=by rw[B5,j]
     unfold atI ixN;rw[R,Z6 A3,Z9 B4];show((ns.take i).map V.int)[((-1:Int)+(i:Nat)).toNat]?=_;rw[show((-1:Int)+(i:Nat)).toNat=i-1 by omega];exact this
    refine BL (xq1 rfl ⟨_,n,rfl,y,(by show 1<=640;decide),(xw2 rfl rfl ⟨l,_,(xq2 rfl rfl ⟨SqL.of Af,m,(xq2 rfl rfl (xq1 rfl ?_))⟩)⟩)⟩);rw[Z8 (by omega:¬n<=ns[i-1])];exact Ba app
  ·rintro σ c ⟨v,rfl,rfl⟩;have e:(Eo ns).cps.size=ns.length:=by
    have:(Eo ns).cps.toList.length=ns.length:=by rw[G,B5]
    simpa using this
   rw[e,M4];refine xq1 rfl ⟨l,(xq1 rfl (.inl ⟨SqL.of Af,λt X=>?_⟩))⟩;exact k t _ ((AJ o).trans (AJ X)) Af
end
section
variable{P:Program}{w:World}{K:W.Frag}{mg:Str->Option Value}{base:Heap}{a:Ad}
theorem eq_in(x:Str):(!(Builtin.Str.occurrences x (Str.ofString "=") 0 x.length 1).isEmpty)=decide (61∈x.cps.toList):=by
 have:Str.ofString "=" = (⟨#[61]⟩:Str):=by decide +kernel
 rw[this];exact StrLaws.found_one x 61
inductive VN(a:Ad)(vs:List V)(H:Hp)(Q:VK):Prop
 |mk (d:BC) (_:vs=[.str (Cf d)]) (_:d.ok) (_:∀(p:Addr)(H':Hp),AA H H'->Dp a H' p d->Q (.ref p) H'):VN a vs H Q
def QL(a:Ad):Sp:=λvs H Q _=>VN a vs H Q
inductive SpRAm(a:Ad)(vs:List V)(H:Hp)(Q:VK):Prop
 |mk (s:Int) (ns:List Int) (_:vs=[.str (Cf (.am s ns))]) (_:(BC.am s ns).ok) (_:∀(p:Addr)(H':Hp),AA H H'->Dp a H' p (.am s ns)->Q (.ref p) H'):SpRAm a vs H Q
def Yo(a:Ad):Sp:=λvs H Q _=>SpRAm a vs H Q
theorem ok_ram(F:Fun K "read_amounts" "read_amounts" FI f fd)(T:Top K mg a)(N:Cal P w K mg base CX0 1 "read_state" Rg Ym)(I:Cal P w K mg base CX0 1 "read_numbers" FS spRN)
  (C:RQ P w K mg base CX0 1 "Amounts" a.c_Amounts OW (Ot a)):AL P w K mg base CX0 3 f fd Rg (Yo a):=by
  refine F.ok Jc (λ_ _ _ _ h=>by rcases h;subst_vars;rfl) λO A n s H vs Q E o h=>?_
  obtain⟨d,ns,rfl,p,k⟩:=h;have q:=Pg p;obtain⟨u,j,B,hp⟩:=p;have R:=RG ns 0 A3 B hp;have g:Str.ofString "=" = (⟨#[61]⟩:Str):=by decide +kernel
  have G:Txt.partition (Cf (.am d ns)) (Str.ofString "=")=(sgD d,⟨#[61]⟩,Eo ns):=by
   rw[g];refine Tx.Ed 61 (sgD d) (Eo ns) ?_;intro z;have:61=48+d.toNat:=by simpa[sgD] using z
   have:=u.2;omega
  refine⟨_,(Ab (Ao (i:=1) Jc.nd rfl (Or.inl rfl) (DK A2d PySem.F.slot_str_partition PySem.F.type_str_partition Rr (pv 0) (CN Ae))) (Ah (As (Mq C (rm o) rfl Aq (Aa (Aw N (rm o) rfl Aq (Aa (Aj Ak (pv 1) Ac (λ_ _=>rfl)) Ae)) (Aa (Aw I (rm o) rfl Aq (Aa (Aj Ak (pv 1) Ac (λ_ _=>rfl)) Ae)) Ae)))))),?_⟩
  try dsimp only[cxK]
  refine xq1 rfl ⟨rfl,(xq2 rfl rfl ⟨A1,B4,λt M=>?_⟩)⟩;rw[G];refine xq1 rfl ⟨t,_,0,(xq1 rfl ⟨rfl,SqT.of Af,rfl,d,rfl,u,(xq1 rfl ⟨t,_,2,(xq1 rfl ⟨rfl,SqT.of Af,rfl,ns,rfl,j,by omega,B,hp,λy b D l=>?_⟩)⟩)⟩)⟩;intro x dx r c e;have S:AA b (upd (upd b dx (.own x)) x (.ins a.c_Amounts dx [])):=(AJ c).trans (AJ (by rw[Ax (X7 e)];exact r));refine⟨x,y,dx,d,rfl,Af,rfl,?_⟩;have m:(upd b dx (.own x)) x=none:=by rw[Ax (X7 e)];exact r
  rw[Ih];have v:AA b (upd (upd b dx (.own x)) x (.ins a.c_Amounts dx (fl2 "state" "numbers" (.int d) (.ref y)))):=(AJ c).trans (AJ m);exact k x _ (((AJ M).trans D).trans v) (.am Af (v _ _ l))
inductive SpRPl(a:Ad)(vs:List V)(H:Hp)(Q:VK):Prop
 |mk (ws:List (Option Int)) (_:vs=[.str (Cf (.pl ws))]) (_:(BC.pl ws).ok) (_:∀(p:Addr)(H':Hp),AA H H'->Dp a H' p (.pl ws)->Q (.ref p) H'):SpRPl a vs H Q
def Yn(a:Ad):Sp:=λvs H Q _=>SpRPl a vs H Q
theorem ok_rpl(F:Fun K "read_places" "read_places" EH f fd)(T:Top K mg a)(D:Cal P w K mg base CX0 2 "read_wanted" Rg spRW)
  (M:RQ P w K mg base CX0 1 "Places" a.c_Places PL (Op a)):AL P w K mg base CX0 3 f fd Rg (Yn a):=by
  refine F.ok Ox (λ_ _ _ _ h=>by rcases h;subst_vars;rfl) λR A m s H vs Q E u h=>?_
  obtain⟨ws,rfl,n,k⟩:=h;have d:=Pg n;obtain⟨p,B⟩:=n;have C:(Cf (.pl ws)).length=8:=by rw[Nu.len];show(ws.map wC).length=8;rw[B5,p]
  have y:(Cf (.pl ws)).cps.toList=ws.map wC:=rfl;refine⟨_,(Ab (AM (Ay OO (AQ IZ rfl T.b_len A0e (Aa (pv 0) Ae)) (BY rfl T.k_NEIGHBOURS) (AD _)) (Ah Bw) AB) (Ah (As (Mq M (rm u) rfl Aq (Aa (Bp BJ rfl T.b_tuple K9 (Aa (Di rfl (BM.of (So:=Al EH) (No:=Rg) (N:=["sign"]) (k:=1) (cs:=[]) rfl rfl A1) (YK (pv 0)) (λ_ _ _=>(Bo (i:=0) A1 rfl rfl)) (λ_ _ _=>BX) (λ_ _ _=>(Aw D (rm u) rfl Aq (Aa (pv 0) Ae)))) Ae)) Ae))))),?_⟩
  try dsimp only[cxK]
  refine xw2 rfl rfl ⟨D0 d A3,rfl,(xq1 rfl ?_)⟩;rw[C];refine Vt rfl (xw2 rfl rfl ?_);refine blk_str (λi c b=>b=H/\c=(ws.take i).map GQ) ⟨rfl,rfl⟩ ?_ ?_
  ·rintro i ch c b e ⟨rfl,rfl⟩;rw[y,B8]at e;obtain⟨x,v,rfl⟩:=D8.mp e;refine⟨⟨[some (.str ⟨#[wC x]⟩)],rfl,rfl⟩,?_,?_⟩
   ·rw[B5,L8];exact M8 (U6 _ _) (by rw[p];decide)
   ·refine Ii (xq1 rfl ⟨x,rfl,B x (D7 v),rfl,?_⟩);rw[L6,v,C5];rfl
  ·rintro c b ⟨rfl,rfl⟩ q z;rw[y,B5,M4];refine⟨q,(xq1 rfl (.inl ⟨SqL.of Af,λt O=>?_⟩))⟩;intro x dx I g l;have j:∀o,(upd (upd (upd b q (.lst (ws.map GQ))) t (.tup (ws.map GQ))) dx o) x=none:=λo=>by rw[Ax (X7 l)];exact I
   refine⟨x,t,dx,rfl,Af,rfl,?_⟩;rw[Ih];have G:AA b (upd (upd b q (.lst (ws.map GQ))) t (.tup (ws.map GQ))):=(AJ z).trans (AJ O);have r:AA (upd (upd b q (.lst (ws.map GQ))) t (.tup (ws.map GQ))) (upd (upd (upd (upd b q (.lst (ws.map GQ))) t (.tup (ws.map GQ))) dx (.own x)) x (.ins a.c_Places dx (fl1 "wanted" (.ref t)))):=(AJ g).trans (AJ (j _));exact k x _ (G.trans r) (.pl Af (r _ _ Af))
theorem YY(F:Fun K "read_condition" "read_condition" Es f fd)(T:Top K mg a)(j:Cal P w K mg base CX0 3 "read_amounts" Rg (Yo a))(i:Cal P w K mg base CX0 3 "read_places" Rg (Yn a)) :
  AL P w K mg base CX0 4 f fd Rg (QL a):=by
  refine F.ok Mg (λ_ _ _ _ h=>by rcases h;subst_vars;rfl) λn A b s H vs Q E g h=>?_
  obtain⟨d,rfl,c,k⟩:=h;refine⟨_,(Ab (AM (Ay Wf IF (pv 0) rfl) (Ah (As (Aw j (rm g) rfl Aq (Aa (pv 0) Ae)))) AB) (Ah (As (Aw i (rm g) rfl Aq (Aa (pv 0) Ae))))),?_⟩
  try dsimp only[cxK]
  refine xwb rfl rfl rfl (xq1 rfl ?_);rw[eq_in];cases d with
  |am s ns =>
   have m:61∈(Cf (.am s ns)).cps.toList:=by
    show 61∈(sgD s++⟨#[61]⟩++Eo ns).cps.toList;rw[Tx.CS,Tx.CS];simp
   rw[Z7 m];exact BL (xq1 rfl ⟨s,ns,rfl,c,k⟩)
  |pl ws =>
   have m:¬61∈(Cf (.pl ws)).cps.toList:=λz=>by
    obtain⟨x,l,e⟩:=C3.mp (show 61∈ws.map wC from z);exact(PR (c.2 x l)).1 e
   rw[Z8 m];exact Ba (xq1 rfl ⟨ws,rfl,c,k⟩)
inductive SpRC(a:Ad)(vs:List V)(H:Hp)(Q:VK):Prop
 |mk (c:Bd) (_:vs=[.str (Br c)]) (_:c.ok) (_:∀(p:Addr)(H':Hp),AA H H'->Ce a H' p c->Q (.ref p) H'):SpRC a vs H Q
def spRC(a:Ad):Sp:=λvs H Q _=>SpRC a vs H Q
theorem LX{c:Bd}(h:c.ok):(Br c).length<=1000:=by
 have j:=StrLaws.join_length_le ⟨#[32]⟩ (wS c.cell::(c.conds.map Cf++[sgD c.makes]));have b:∀l:List BC,(∀d∈l,d.ok)->((l.map Cf).map (·.length)).sum<=11*l.length:=by
  intro l;induction l with
  |nil=>intro _;exact L9 _
  |cons d r g =>
   intro f;have p:=Pg (f d C7);have s:=g λe n=>f e (C8 _ n);simp only[F7,P4,F0];omega
 have q:=b c.conds h.conds;have k:=h.few;simp only[F7,C5,Z3,P4,List.sum_append,List.sum_nil,F0,C4,V8,B5]at j;have i:(wS c.cell).length=1:=rfl;have o:(sgD c.makes).length=1:=rfl;have m:(⟨#[32]⟩:Str).length=1:=rfl;rw[i,o,m]at j;unfold Br;omega
theorem Lf(x:Option Int)(h:wOk x):32∉(wS x).cps.toList/\59∉(wS x).cps.toList:=by
 have:=PR h;constructor
 ·intro z;have:32=wC x:=by simpa[wS] using z
  exact(PR h).2.1 this.symm
 ·intro z;have:59=wC x:=by simpa[wS] using z
  exact(PR h).2.2 this.symm
theorem RC{c:Bd}(h:c.ok):Txt.split (Br c) (Str.ofString " ")=wS c.cell::(c.conds.map Cf++[sgD c.makes]):=by
 have e:Str.ofString " " = (⟨#[32]⟩:Str):=by decide +kernel
 rw[e];refine Tx.Sd 32 _ A6 λt b=>?_;rcases B7.mp b with rfl|b
 ·exact(Lf _ h.cell).1
 ·rcases F9.mp b with b|b
  ·obtain⟨d,f,rfl⟩:=C3.mp b;exact(Qt (h.conds d f)).1
  ·rw[D6.mp b];exact(Lf (some c.makes) h.makes).1
theorem cut_mid(x z:V)(ys:List V):Ut (x::(ys++[z])) (some 1) (some (-1))=ys:=by
 have n:(x::(ys++[z])).length=ys.length+2:=by simp
 unfold Ut;rw[n];have c:HT.sIx (ys.length+2) 0 (some 1)=1:=by
  show(if(1:Int)<0 then((1:Int)+((ys.length+2:Nat):Int)).toNat else min (1:Int).toNat (ys.length+2))=1;rw[Z6 A3];show min 1 (ys.length+2)=1;omega
 have b:HT.sIx (ys.length+2) (ys.length+2) (some (-1))=ys.length+1:=by
  show(if(-1:Int)<0 then((-1:Int)+((ys.length+2:Nat):Int)).toNat else min (-1:Int).toNat (ys.length+2))=ys.length+1;rw[Z9 A3];omega
 rw[c,b];show(ys++[z]).take (ys.length+1-1)=ys;rw[Nat.add_sub_cancel,List.take_left' rfl]
theorem at_last(x:V)(ys:List V)(z:V):atI (x::(ys++[z])) (-1)=some z:=by
 have n:(x::(ys++[z])).length=ys.length+2:=by simp
 unfold atI ixN;rw[n,Z6 A3,Z9 B4];show(x::(ys++[z]))[((-1:Int)+((ys.length+2:Nat):Int)).toNat]?=some z;rw[show((-1:Int)+((ys.length+2:Nat):Int)).toNat=ys.length+1 by omega,V2,F3 (C1 _),T6];rfl
theorem ok_rc(F:Fun K "read_clause" "read_clause" EI f fd)(T:Top K mg a)(aM:Cal P w K mg base CX0 1 "read_state" Rg Ym)(aU:Cal P w K mg base CX0 2 "read_wanted" Rg spRW)
  (b9:Cal P w K mg base CX0 4 "read_condition" Rg (QL a)) (cR:RQ P w K mg base CX0 1 "Clause" a.c_Clause PP (Os a)):AL P w K mg base CX0 5 f fd GI (spRC a):=by
  refine F.ok DU (λ_ _ _ _ h=>by rcases h;subst_vars;rfl) λaf A ac s H vs Q E I h=>?_
  obtain⟨c,rfl,u,k⟩:=h;have ae:=LX u;have Z:=u.few;refine⟨_,(Ab (AM (Da (CM (AQ Ds rfl T.b_isinstance K6 (Aa (pv 0) (Aa (Fp (v:=.ty "str") rfl T.b_str A1c rfl) Ae))))) (Ah Bw) AB) (Ab (Ao (i:=1) DU.nd rfl (Or.inl rfl) (DK A2d PySem.F.slot_str_split PySem.F.type_str_split SN (pv 0) (CN Ae))) (Ab (AM (Ay Fe (AQ Ck rfl T.b_len A0e (Aa (pv 1) Ae)) Ac (AD _)) (Ah Bw) AB) (Ab (Ao (i:=2) DU.nd rfl (Or.inl rfl) (Aw aU (rm I) rfl Aq (Aa (Aj Av (pv 1) Ac (λ_ _=>rfl)) Ae))) (Ab (Ao (i:=3) DU.nd rfl (Or.inl rfl) (Bp BJ rfl T.b_tuple K9 (Aa (Di rfl (BM.of (So:=Al EI) (No:=Lq) (N:=["word"]) (k:=1) (cs:=[]) rfl rfl A1) (CO (Sz UY (pv 1) (QX Ac) (QX (Db Cc Ac)))) (λ_ _ _=>(Bo (i:=0) A1 rfl rfl)) (λ_ _ _=>BX) (λ_ _ _=>(Aw b9 (rm I) rfl Aq (Aa (pv 0) Ae)))) Ae))) (Ah (As (Mq cR (rm I) rfl Aq (Aa (pv 2) (Aa (pv 3) (Aa (Aw aM (rm I) rfl Aq (Aa (Aj Av (pv 1) (Db Cc Ac) (λ_ _=>rfl)) Ae)) Ae))))))))))),?_⟩
  try dsimp only[cxK]
  refine xq1 rfl ⟨_,_,_,.type "str",true,rfl,rfl,.of (.str _),UP K,true,rfl,?_⟩;refine Ba (xq1 rfl ⟨rfl,(xq2 rfl rfl ⟨A1,B4,λl hl=>?_⟩)⟩);rw[RC u];have eW:((wS c.cell::(c.conds.map Cf++[sgD c.makes])).map V.str)=V.str (wS c.cell)::((c.conds.map λd=>V.str (Cf d))++[V.str (sgD c.makes)]):=by
   rw[F7,C5,O4];rfl
  rw[eW];have hL:∀o,upd H l o l=some o:=λo=>Af;refine xq1 rfl ⟨l,(xq1 rfl ⟨.inl (SqL.of Af),(xq2 rfl rfl (xq1 rfl ?_))⟩)⟩;rw[Z8 (by simp;omega:¬((((V.str (wS c.cell)::((c.conds.map λd=>V.str (Cf d))++[V.str (sgD c.makes)])).length:Nat):Int)<2))];refine Ba (xwi rfl rfl rfl (SqL.of Af) (Ai (j:=0) rfl) ⟨c.cell,rfl,u.cell,?_⟩);refine xw3 rfl rfl rfl (xq1 rfl ⟨l,(xq1 rfl ⟨SqL.of Af,λq U=>⟨q,rfl,⟨_,SqL.of Af⟩,?_⟩⟩)⟩);rw[cut_mid];have s0:AA H (upd (upd H l (.lst (V.str (wS c.cell)::((c.conds.map λd=>V.str (Cf d))++[V.str (sgD c.makes)])))) q (.lst (c.conds.map λd=>V.str (Cf d)))):=(AJ hl).trans (AJ U);have O:l≠q:=λz=>by rw[<-z,Af]at U;cases U
  generalize n:upd (upd H l (.lst (V.str (wS c.cell)::((c.conds.map λd=>V.str (Cf d))++[V.str (sgD c.makes)])))) q (.lst (c.conds.map λd=>V.str (Cf d)))=D;rw[n]at s0;have M:D q=some (.lst (c.conds.map λd=>V.str (Cf d))):=by rw[<-n];exact Af
  have S:D l=some (.lst (V.str (wS c.cell)::((c.conds.map λd=>V.str (Cf d))++[V.str (sgD c.makes)]))):=by rw[<-n,Ax O];exact Af
  refine Dt (xs:=c.conds.map λd=>V.str (Cf d)) (λi e g=>∃b:List Addr,e=b.map V.ref/\AA D g/\Paired (Dp a g) b (c.conds.take i)) ⟨[],rfl,AA.refl D,.nil⟩ (λi e g _ ⟨b,_,C,_⟩=>SqL.of (C _ _ M)) ?_ ?_
  ·rintro i x e g hx ⟨b,rfl,C,G⟩;rw[B8]at hx;obtain⟨d,ed,rfl⟩:=D8.mp hx;refine⟨⟨[some (.str (Cf d))],rfl,rfl⟩,?_,?_⟩
   ·have e1:=A0a G;rw[L8]at e1;rw[B5,e1];exact M8 (U6 _ _) (M8 Z A3)
   ·refine Ii (xq1 rfl ⟨d,rfl,u.conds d (D7 ed),λp y B hp=>⟨b++[p],by rw[C5];rfl,C.trans B,?_⟩⟩);rw[L6,ed];exact A2e (Paired.imp (λ_ _ z=>z.same B) G) hp
  ·rintro e g ⟨b,rfl,C,G⟩ r nr;rw[B5,M4]at G;refine⟨r,(xq1 rfl (.inl ⟨SqL.of Af,λt ht=>?_⟩))⟩;have B:AA D (upd (upd g r (.lst (b.map V.ref))) t (.tup (b.map V.ref))):=(C.trans (AJ nr)).trans (AJ ht);generalize m:upd (upd g r (.lst (b.map V.ref))) t (.tup (b.map V.ref))=y;have ad:y t=some (.tup (b.map V.ref)):=by rw[<-m];exact Af
   have Y:AA g y:=by rw[<-m];exact(AJ nr).trans (AJ ht)
   rw[m]at B;refine xw3 rfl rfl rfl (xq1 rfl ⟨l,_,(xq2 rfl rfl ⟨SqL.of (B _ _ S),at_last _ _ _,c.makes,rfl,u.makes,?_⟩)⟩);intro x dx nx X ab;have aa:∀o,(upd y dx o) x=none:=λo=>by rw[Ax (X7 ab)];exact nx
   refine⟨x,t,dx,c.cell,c.makes,rfl,Af,rfl,?_⟩;rw[Ih];have R:AA y (upd (upd y dx (.own x)) x (.ins a.c_Clause dx (fl3 "cell" "conditions" "makes" (GQ c.cell) (.ref t) (.int c.makes)))):=(AJ X).trans (AJ (aa _));exact k x _ ((s0.trans B).trans R) ⟨dx,t,b,Af,R _ _ ad,Paired.imp (λ_ _ z=>(z.same Y).same R) G⟩
theorem Tf{c:Bd}(h:c.ok):59∉(Br c).cps.toList:=by
 intro z;unfold Br at z;rw[PyProof.Rows.mem_join]at z;rcases z with ⟨t,b,z⟩|⟨_,z⟩
 ·rcases B7.mp b with rfl|b
  ·exact(Lf _ h.cell).2 z
  ·rcases F9.mp b with b|b
   ·obtain⟨d,e,rfl⟩:=C3.mp b;exact(Qt (h.conds d e)).2 z
   ·rw[D6.mp b]at z;exact(Lf (some c.makes) h.makes).2 z
 ·have:59=32:=by simpa using z
  omega
end
structure MH(r:AF):Prop where
 few:r.length<=50
 ok:∀c∈r,c.ok
theorem MH.rok{r:AF}(h:MH r):ROk r:=⟨D0 h.few A3,λc a=>⟨D0 (h.ok c a).few A3,λd b ws e=>by
 subst e;rw[((h.ok c a).conds _ b).1];decide⟩⟩
theorem Sn{r:AF}(h:MH r):(DJ r).length<=60000:=by
 have j:=StrLaws.join_length_le Qh (r.map Br);have b:∀l:List Bd,(∀c∈l,c.ok)->((l.map Br).map (·.length)).sum<=1000*l.length:=by
  intro l;induction l with
  |nil=>intro _;exact L9 _
  |cons d r f =>
   intro a;have m:=LX (a d C7);have o:=f λe k=>a e (C8 _ k);simp only[F7,P4,F0];omega
 have n:=b r h.ok;have g:=h.few;have i:Qh.length=2:=rfl;rw[i,B5]at j;unfold DJ;omega
theorem rule_ne{r:AF}(h:r≠[]):decide (V.str (DJ r)=V.str (Str.ofString ""))=false:=by
 refine Z8 λz=>?_;injection z with z
 obtain⟨c,a⟩:=List.exists_mem_of_ne_nil r h;have d:=PySem.join_mem_le Qh (r.map Br) (Br c) (C3.mpr ⟨c,a,rfl⟩);have f:=PySem.join_mem_le ⟨#[32]⟩ (wS c.cell::(c.conds.map Cf++[sgD c.makes])) (wS c.cell) C7;have g:(wS c.cell).length=1:=rfl;have b:(DJ r).length=0:=by rw[z];decide +kernel
 unfold DJ at b;have e:(Br c).length=(Str.join ⟨#[32]⟩ (wS c.cell::(c.conds.map Cf++[sgD c.makes]))).length:=rfl;omega
theorem Dp.put{a:Ad}{H:Hp}{p q:Addr}{o u:HO}{c:BC}(h:Dp a H q c)(hp:H p=some u)(n:∀C d fs,u=HO.ins C d fs->fs.lookup ("state" : Str)=none/\fs.lookup ("wanted" : Str)=none/\fs.lookup ("makes" : Str)=none)(nt:∀xs,u≠.tup xs):Dp a (upd H p o) q c:=by
 have f:∀{b v},H b=some v->v≠u->upd H p o b=some v:=λ{b v} e d=>by rw[Ax (AH e hp d)];exact e
 cases h with
 |am h g =>
  refine .am (f h λz=>?_) (f g λz=>nt _ z.symm);have:=(n _ _ _ z.symm).1;rw[ZX A1]at this;cases this
 |pl h g =>
  refine .pl (f h λz=>?_) (f g λz=>nt _ z.symm);have:=(n _ _ _ z.symm).2.1;rw[fl1_1]at this;cases this
theorem Ce.put{a:Ad}{H:Hp}{p q:Addr}{o u:HO}{c:Bd}(h:Ce a H q c)(hp:H p=some u)(n:∀C d fs,u=HO.ins C d fs->fs.lookup ("state" : Str)=none/\fs.lookup ("wanted" : Str)=none/\fs.lookup ("makes" : Str)=none)(nt:∀xs,u≠.tup xs):Ce a (upd H p o) q c:=by
 have f:∀{b v},H b=some v->v≠u->upd H p o b=some v:=λ{b v} e d=>by rw[Ax (AH e hp d)];exact e
 obtain⟨dx,t,cs,j,g,i⟩:=h.ex;refine⟨dx,t,cs,f j λz=>?_,f g λz=>nt _ z.symm,Paired.imp (λ_ _ z=>z.put hp n nt) i⟩;have:=(n _ _ _ z.symm).2.2;rw[fl3_3]at this;cases this
section
variable{P:Program}{w:World}{K:W.Frag}{mg:Str->Option Value}{base:Heap}{a:Ad}
inductive SpCT(vs:List V)(H:Hp)(Q:VK):Prop
 |mk (r:AF) (_:vs=[.str (DJ r)]) (_:MH r) (_:∀(l:Addr)(H':Hp),AA H H'->H' l=some (.lst (r.map λc=>V.str (Br c)))->Q (.ref l) H'):SpCT vs H Q
def spCT:Sp:=λvs H Q _=>SpCT vs H Q
theorem ok_ct(F:Fun K "clause_texts" "clause_texts" FJ f fd)(T:Top K mg a):AL P w K mg base CX0 1 f fd GI spCT:=by
  refine F.ok NF (λ_ _ _ _ h=>by rcases h;subst_vars;rfl) λp A g s H vs Q E q h=>?_
  obtain⟨r,rfl,j,k⟩:=h;have i:=Sn j;refine⟨_,(Ab (AM (Ay CQ (pv 0) IF (AD _)) (Ah (As (CA Ae))) AB) (Ah (As (DK A2d PySem.F.slot_str_split PySem.F.type_str_split SN (pv 0) (Aa (NZ rfl T.k_CLAUSE_MARK) Ae))))),?_⟩
  try dsimp only[cxK]
  refine xq1 rfl ⟨rfl,(xq1 rfl ?_)⟩;by_cases b:r=[]
  ·subst b;refine BL ⟨(by show 0<=sizeLine;decide),λl d=>?_⟩;exact k l _ (AJ d) Af
  ·rw[rule_ne b];refine Ba (xq1 rfl ⟨rfl,(xq2 rfl rfl ⟨A1,B4,λl d=>?_⟩)⟩);have n:Str.ofString "; " = (⟨#[59,32]⟩:Str):=by decide +kernel
   have e:Txt.split (DJ r) (Str.ofString "; ")=r.map Br:=by
    rw[n];refine Tx.Sb _ (by simpa using b) λt o=>?_;obtain⟨c,m,rfl⟩:=C3.mp o;exact Tf (j.ok c m)
   rw[e,O4];exact k l _ (AJ d) Af
inductive SpRI(a:Ad)(vs:List V)(H:Hp)(Q:VK):Prop
 |mk (p dx:Addr) (r:AF) (_:vs=[.ref p,.str (DJ r)]) (_:H p=some (.ins a.c_Rule dx [])) (_:MH r) (_:∀H',(∀b o,H b=some o->b≠p->H' b=some o)->CD a H' p (DJ r) r->Q .non H'):SpRI a vs H Q
def spRI(a:Ad):Sp:=λvs H Q _=>SpRI a vs H Q
theorem ok_ri(F:Fun K "__init__" "Rule.__init__" Gj f fd)(T:Top K mg a)(bJ:Cal P w K mg base CX0 1 "clause_texts" GI spCT)(bO:Cal P w K mg base CX0 5 "read_clause" GI (spRC a)) :
  AL P w K mg base CX0 6 f fd NB (spRI a):=by
  refine F.ok QV (λ_ _ _ _ h=>by rcases h;subst_vars;rfl) λab A Z s H vs Q E hr h=>?_
  obtain⟨p,dx,r,rfl,hp,S,k⟩:=h;have aa:=Sn S;have X:=S.few;refine⟨_,(Ab (Cz (pv 0) (pv 1) rfl) (Ah (Cz (pv 0) (Bp BJ rfl T.b_tuple K9 (Aa (Di rfl (BM.of (So:=Al Gj) (No:=NB) (N:=["part"]) (k:=1) (cs:=[]) rfl rfl A1) (CO (Aw bJ (rm hr) rfl Aq (Aa (pv 1) Ae))) (λ_ _ _=>(Bo (i:=0) A1 rfl rfl)) (λ_ _ _=>BX) (λ_ _ _=>(Aw bO (rm hr) rfl Aq (Aa (pv 0) Ae)))) Ae)) rfl))),?_⟩
  try dsimp only[cxK]
  refine xw2 rfl rfl ⟨p,_,dx,[],rfl,hp,T.cl_Rule,T.na_Rule_text,B1,?_⟩;generalize R:upd H p (.ins a.c_Rule dx (AY "text" (.str (DJ r)) []))=U;have B:U p=some (.ins a.c_Rule dx (AY "text" (.str (DJ r)) [])):=by rw[<-R];exact Af
  have k1:∀b o,H b=some o->b≠p->U b=some o:=λb o e n=>by rw[<-R,Ax n];exact e
  refine xq1 rfl ⟨r,rfl,S,λl H2 s2 hl=>⟨l,rfl,⟨_,SqL.of hl⟩,?_⟩⟩;refine Dt (xs:=r.map λc=>V.str (Br c)) (λi m v=>∃g:List Addr,m=g.map V.ref/\AA H2 v/\Paired (Ce a v) g (r.take i)) ⟨[],rfl,AA.refl H2,.nil⟩ (λi m v _ ⟨g,_,D,_⟩=>SqL.of (D _ _ hl)) ?_ ?_
  ·rintro i x m v hx ⟨g,rfl,D,M⟩;rw[B8]at hx;obtain⟨c,ec,rfl⟩:=D8.mp hx;refine⟨⟨[some (.str (Br c))],rfl,rfl⟩,?_,?_⟩
   ·have e1:=A0a M;rw[L8]at e1;rw[B5,e1];exact M8 (U6 _ _) (M8 X A3)
   ·refine Ii (xq1 rfl ⟨c,rfl,S.ok c (D7 ec),λq u s4 hq=>⟨g++[q],by rw[C5];rfl,D.trans s4,?_⟩⟩);rw[L6,ec];exact A2e (Paired.imp (λ_ _ z=>z.same s4) M) hq
  ·rintro m v ⟨g,rfl,D,M⟩ q nq;rw[B5,M4]at M;refine⟨q,(xq1 rfl (.inl ⟨SqL.of Af,λt ht=>?_⟩))⟩;generalize G:upd (upd v q (.lst (g.map V.ref))) t (.tup (g.map V.ref))=u;have I:AA v u:=by rw[<-G];exact(AJ nq).trans (AJ ht)
   have y:u t=some (.tup (g.map V.ref)):=by rw[<-G];exact Af
   have j:AA U u:=(s2.trans D).trans I;have Y:t≠p:=λz=>by rw[z,j _ _ B]at y;cases y
   refine xq1 rfl ⟨p,_,dx,(xq1 rfl ⟨j _ _ B,T.cl_Rule,T.na_Rule_clauses,B3,?_⟩)⟩;have up:∀b o,u b=some o->b≠p->upd u p (.ins a.c_Rule dx (fl2 "text" "clauses" (.str (DJ r)) (.ref t))) b=some o:=λb o e n=>by rw[Ax n];exact e
   have cl:∀O c,Ce a u O c->Ce a (upd u p (.ins a.c_Rule dx (fl2 "text" "clauses" (.str (DJ r)) (.ref t)))) O c:=λO c hc=>by
    exact hc.put (j _ _ B) (λC d fs e=>by
     cases e;exact⟨RA A1,RA A1,RA A1⟩) (λxs z=>by cases z)
   exact k _ (λb o e n=>up _ _ (j _ _ (k1 b o e n)) n) ⟨dx,t,g,Af,up _ _ y Y,Paired.imp (λO c z=>cl O c (z.same I)) M⟩
def CT:List Int:=[0,0,0,0,0,0,0,0]
inductive SpRR(a:Ad)(vs:List V)(H:Hp)(Q:VK):Prop
 |mk (r:AF) (_:vs=[.str (DJ r)]) (_:MH r) (_:Dn r 0 CT=0) (_:∀(p:Addr)(H':Hp),AA H H'->CD a H' p (DJ r) r->Q (.ref p) H'):SpRR a vs H Q
def spRR(a:Ad):Sp:=λvs H Q _=>SpRR a vs H Q
theorem ok_rr(F:Fun K "read_rule" "read_rule" Jn f fd)(T:Top K mg a)(G:RQ P w K mg base CX0 6 "Rule" a.c_Rule NB (spRI a))(N:Cal P w K mg base CX0 5 "becomes" LN (UX a)) :
  AL P w K mg base CX0 8 f fd GI (spRR a):=by
  refine F.ok Mf (λ_ _ _ _ h=>by rcases h;subst_vars;rfl) λO A g s H vs Q E u h=>?_
  obtain⟨r,rfl,n,C,k⟩:=h;refine⟨_,(Ab (AM (Da (CM (AQ Ds rfl T.b_isinstance K6 (Aa (pv 0) (Aa (Fp (v:=.ty "str") rfl T.b_str A1c rfl) Ae))))) (Ah Bw) AB) (Ab (Ao (i:=1) Mf.nd rfl (Or.inl rfl) (Mq G (rm u) rfl Aq (Aa (pv 0) Ae))) (Ab (AM (Ay OO (Aw N (rm u) rfl Aq (Aa (pv 1) (AR (AV op_rep (CA (AR Ae)) (BY rfl T.k_NEIGHBOURS) Ae)))) Ac (AD _)) (Ah Bw) AB) (Ah (As (pv 1)))))),?_⟩
  try dsimp only[cxK]
  refine xq1 rfl ⟨_,_,_,.type "str",true,rfl,rfl,.of (.str _),UP K,true,rfl,?_⟩;refine Ba (xq1 rfl ?_);intro x dx q d M;refine⟨x,dx,r,rfl,Af,n,λz kp y=>⟨rfl,?_⟩⟩;have D:AA H z:=λb o e=>kp b o (by rw[Ax (Az e q),Ax (Az e d)];exact e) (Az e q);refine xq1 rfl ⟨(by show 1<=sizeLine;decide),λl t=>?_⟩;refine⟨l,8,(xq1 rfl ⟨rfl,Af,A3,A3,A3,λm p=>?_⟩)⟩;have I:=(D.trans (AJ (o:=.lst [.int 0]) t)).trans (AJ (o:=.lst (CT.map V.int)) p);have c:=(AJ (o:=.lst [.int 0]) t).trans (AJ (o:=.lst (CT.map V.int)) p);refine⟨x,m,_,r,0,CT,rfl,y.same c,n.rok,Af,λB j=>?_⟩;refine⟨rfl,(xq1 rfl ?_)⟩;rw[C];refine Vt rfl (xq1 rfl ?_);exact k x B (I.trans j) ((y.same c).same j)
end
end J
namespace J
open PySem L2
structure Sq where
 parts:List Int
 lev:Int
abbrev Gv:=List Sq
structure GA where
 p:Addr
 dx:Addr
 lv:Addr
 pt:Addr
 nm:Addr
 br:Addr
 am:Addr
 bx:Addr
def fl6(g:GA):List (Str×V):=AY "boxes" (.ref g.bx) (AY "amounts" (.ref g.am) (AY "bares" (.ref g.br) (AY "numbers" (.ref g.nm) (AY "parts" (.ref g.pt) (AY "levels" (.ref g.lv) [])))))
theorem ED(g:GA):(fl6 g).lookup ("levels" : Str)=some (V.ref g.lv):=by
 unfold fl6;rw[Am,Z6 A1,Am,Z6 A1,Am,Z6 A1,Am,Z6 A1,Am,Z6 A1,Am,Z9 rfl]
theorem Cd(g:GA):(fl6 g).lookup ("parts" : Str)=some (V.ref g.pt):=by
 unfold fl6;rw[Am,Z6 A1,Am,Z6 A1,Am,Z6 A1,Am,Z6 A1,Am,Z9 rfl]
theorem ZU(g:GA):(fl6 g).lookup ("numbers" : Str)=some (V.ref g.nm):=by
 unfold fl6;rw[Am,Z6 A1,Am,Z6 A1,Am,Z6 A1,Am,Z9 rfl]
theorem GR(g:GA):(fl6 g).lookup ("bares" : Str)=some (V.ref g.br):=by
 unfold fl6;rw[Am,Z6 A1,Am,Z6 A1,Am,Z9 rfl]
theorem fl6_am(g:GA):(fl6 g).lookup ("amounts" : Str)=some (V.ref g.am):=by
 unfold fl6;rw[Am,Z6 A1,Am,Z9 rfl]
theorem ZV(g:GA):(fl6 g).lookup ("boxes" : Str)=some (V.ref g.bx):=by
 unfold fl6;rw[Am,Z9 rfl]
theorem IV(g:GA){m:Str}(a:¬m=("boxes" : Str))(d:¬m=("amounts" : Str))(e:¬m=("bares" : Str))(f:¬m=("numbers" : Str))(c:¬m=("parts" : Str))(b:¬m=("levels" : Str)):(fl6 g).lookup m=none:=by
 unfold fl6;rw[Am,Z6 a,Am,Z6 d,Am,Z6 e,Am,Z6 f,Am,Z6 c,Am,Z6 b];rfl
theorem Rc(g:GA):(fl6 g).lookup ("kept" : Str)=none:=IV g A1 A1 A1 A1 A1 A1
theorem BR(g:GA):(fl6 g).lookup ("linked" : Str)=none:=IV g A1 A1 A1 A1 A1 A1
theorem SF(g:GA):(fl6 g).lookup ("check_square" : Str)=none:=IV g A1 A1 A1 A1 A1 A1
theorem Vk(g:GA):(fl6 g).lookup ("leaf" : Str)=none:=IV g A1 A1 A1 A1 A1 A1
theorem DF(g:GA):(fl6 g).lookup ("level_of" : Str)=none:=IV g A1 A1 A1 A1 A1 A1
theorem TQ(g:GA):(fl6 g).lookup ("state_of" : Str)=none:=IV g A1 A1 A1 A1 A1 A1
def kOf(ps:List Int):List Key:=ps.map Sum.inl
theorem ZD(a:List Int):(kOf a).map kV=a.map V.int:=by unfold kOf;rw[O4];rfl
theorem Oc:∀{b a:List Int},kOf b=kOf a->b=a
 |[],[],_=>rfl
 |[],_::_,h=>by cases h
 |_::_,[],h=>by cases h
 |x::r,y::t,h=>by
  have h:Sum.inl x::kOf r=(Sum.inl y:Key)::kOf t:=h;injection h with h1 h2
  injection h1 with h1
  rw[h1,Oc h2]
def JG:Nat->Gv->List (List Key×V)
 |_,[]=>[]
 |n,q::r=>(kOf q.parts,.int (n:Int))::JG (n+1) r
theorem SU:∀(G:Gv)(n:Nat),(JG n G).length=G.length
 |[],_=>rfl
 |q::r,n=>by show(JG (n+1) r).length+1=r.length+1;rw[SU r]
theorem Qk(q:Sq):∀(G:Gv)(n:Nat),JG n (G++[q])=JG n G++[(kOf q.parts,.int ((n+G.length:Nat):Int))]
 |[],_=>rfl
 |p::r,n=>by
  show(kOf p.parts,V.int (n:Int))::JG (n+1) (r++[q])=_;rw[Qk q r (n+1)];show _=(kOf p.parts,V.int (n:Int))::(JG (n+1) r++[(kOf q.parts,V.int ((n+(r.length+1):Nat):Int))]);rw[show n+1+r.length=n+(r.length+1) by lia]
theorem Ru(a:List Int):∀(G:Gv)(n:Nat),(∃(i:Nat)(q:Sq),G[i]?=some q/\q.parts=a/\Bu (JG n G) (kOf a)=some (.int ((n+i:Nat):Int)))\/(Bu (JG n G) (kOf a)=none/\∀q∈G,q.parts≠a)
 |[],n=>.inr ⟨rfl,λq b=>by simp at b⟩
 |p::r,n=>by
  by_cases e:p.parts=a
  ·exact .inl ⟨0,p,rfl,e,BU (by rw[e])⟩
  ·have ne:¬(kOf p.parts,V.int (n:Int)).1=kOf a:=λz=>e (Oc z);rcases Ru a r (n+1)with ⟨i,q,h1,h2,h3⟩|⟨h1,h2⟩
   ·refine .inl ⟨i+1,q,h1,h2,?_⟩;show Bu ((kOf p.parts,V.int (n:Int))::JG (n+1) r) (kOf a)=_;rw[BF ne,h3,show n+1+i=n+(i+1) by lia]
   ·refine .inr ⟨?_,λq b=>?_⟩
    ·show Bu ((kOf p.parts,V.int (n:Int))::JG (n+1) r) (kOf a)=_;rw[BF ne,h1]
    ·rcases B7.mp b with rfl|b
     ·exact e
     ·exact h2 q b
def TupAt(H:Hp)(t:Addr)(q:Sq):Prop:=H t=some (.tup (q.parts.map V.int))
structure AN(a:Ad)(H:Hp)(g:GA)(G:Gv):Prop where
 hp:H g.p=some (.ins a.c_Grove g.dx (fl6 g))
 lv:H g.lv=some (.lst (G.map λq=>.int q.lev))
 pt:∃ts:List Addr,H g.pt=some (.lst (ts.map V.ref))/\Paired (TupAt H) ts G
 nm:H g.nm=some (.dT (JG 0 G))
 ne:g.lv≠g.pt
def Fr(g:GA)(H H':Hp):Prop:=∀b o,H b=some o->b≠g.lv->b≠g.pt->b≠g.nm->H' b=some o
theorem Fr.refl(g:GA)(H:Hp):Fr g H H:=λ_ _ e _ _ _=>e
theorem Fr.trans{g:GA}{d c j:Hp}(h:Fr g d c)(k:Fr g c j):Fr g d j:=λb o e i f a=>k b o (h b o e i f a) i f a
theorem AA.fr{g:GA}{c a:Hp}(h:AA c a):Fr g c a:=λb o e _ _ _=>h b o e
theorem PairedM.imp{α β:Type}{F G:α->β->Prop}(h:∀x y,F x y->G x y):∀{l:List α}{m:List β},Paired F l m->Paired G l m
 |_,_,.nil=>.nil
 |_,_,.cons r t=>.cons (h _ _ r) (PairedM.imp h t)
theorem PairedM.get{α β:Type}{F:α->β->Prop}:∀{l:List α}{m:List β}{i:Nat}{y:β},Paired F l m->m[i]?=some y->∃x,l[i]?=some x/\F x y
 |_,_,_,_,.nil,e=>by simp at e
 |_,_,0,_,.cons r _,e=>by simp at e;subst e;exact⟨_,rfl,r⟩
 |_,_,i+1,y,.cons _ t,e=>by
  obtain⟨x,b,a⟩:=PairedM.get (i:=i) (y:=y) t (by simpa using e);exact⟨x,by simpa using b,a⟩
theorem Ar{H:Hp}{p:Addr}{o:HO}(h:H p=none):AA H (upd H p o):=λb u e=>by
 rw[Ax (Az e h)];exact e
theorem AN.same{a:Ad}{H b:Hp}{g:GA}{G:Gv}(s:AA H b)(h:AN a H g G):AN a b g G:=by
 obtain⟨c,f,⟨j,i,k⟩,e,d⟩:=h;exact⟨s _ _ c,s _ _ f,⟨j,s _ _ i,PairedM.imp (λt q z=>s _ _ z) k⟩,s _ _ e,d⟩
theorem AN.put{a:Ad}{H:Hp}{g:GA}{G:Gv}{l:Addr}{xs:List V}{o:HO}(j:H l=some (.lst xs))(s:l≠g.lv)(u:l≠g.pt)(h:AN a H g G):AN a (upd H l o) g G:=by
 obtain⟨d,k,⟨r,m,p⟩,f,i⟩:=h;have c:∀{b v},H b=some v->v≠.lst xs->upd H l o b=some v:=λ{b v} e n=>by rw[Ax (AH e j n)];exact e
 exact⟨c d A4,by rw[Ax (X7 s)];exact k,⟨r,by rw[Ax (X7 u)];exact m,PairedM.imp (λt q z=>c z A4) p⟩,c f A4,i⟩
def An(G:Gv)(x:Nat)(l:Int):Prop:=∃q,G[x]?=some q/\q.lev=l
structure GOk(G:Gv):Prop where
 leaf:∀s:Nat,s<8->G[s]?=some ⟨[(s:Int)],0⟩
 node:∀(i:Nat) q,G[i]?=some q->8<=i->∃x y z w:Nat,q.parts=[(x:Int),(y:Int),(z:Int),(w:Int)]/\(An G x (q.lev-1)/\An G y (q.lev-1)/\An G z (q.lev-1)/\An G w (q.lev-1))/\1<=q.lev/\q.lev<=48
 nd:(G.map Sq.parts).Nodup
theorem An.lt{G:Gv}{x:Nat}{l:Int}(h:An G x l):x<G.length:=by
 obtain⟨q,h,_⟩:=h;exact(B6.mp h).1
theorem JX{G r:Gv}{x:Nat}{q:Sq}(h:G[x]?=some q):(G++r)[x]?=some q:=by
 rw[M9 (B6.mp h).1];exact h
theorem An.app{G r:Gv}{x:Nat}{l:Int}(h:An G x l):An (G++r) x l:=by
 obtain⟨q,h,e⟩:=h;exact⟨q,JX h,e⟩
theorem GOk.lev{G:Gv}(h:GOk G){i:Nat}{q:Sq}(e:G[i]?=some q):0<=q.lev/\q.lev<=48:=by
 by_cases b:i<8
 ·rw[h.leaf i b]at e;cases e;exact⟨Int.le_refl 0,by show(0:Int)<=48;decide⟩
 ·obtain⟨x,y,z,w,_,_,c,a⟩:=h.node i q e A0;exact⟨by lia,a⟩
theorem GOk.snoc{G:Gv}(h:GOk G){x y z w:Nat}{l:Int}(g:An G x l)(r:An G y l)(j:An G z l)(c:An G w l)(B:l<=47)(new:∀q∈G,q.parts≠[(x:Int),(y:Int),(z:Int),(w:Int)]):GOk (G++[⟨[(x:Int),(y:Int),(z:Int),(w:Int)],l+1⟩]) where
 leaf:=λs o=>JX (h.leaf s o)
 node:=λi q e u=>by
  by_cases t:i<G.length
  ·rw[M9 t]at e;obtain⟨x,y,z,w,n,⟨E,v,C,k⟩,A⟩:=h.node i q e u;exact⟨x,y,z,w,n,⟨E.app,v.app,C.app,k.app⟩,A⟩
  ·rw[F3 A0]at e;have:i-G.length=0:=by
    by_cases z:i-G.length=0
    ·exact z
    ·rw[R5 (by rw[P8];lia)]at e;cases e
   rw[this]at e;cases e;obtain⟨D,b,H⟩:=g;have:=(h.lev b).1;have d:l+1-1=l:=by lia
   refine⟨x,y,z,w,rfl,?_,?_,?_⟩
   ·show An _ x (l+1-1)/\An _ y (l+1-1)/\An _ z (l+1-1)/\An _ w (l+1-1);rw[d];exact⟨An.app ⟨D,b,H⟩,r.app,j.app,c.app⟩
   ·show 1<=l+1;lia
   ·show l+1<=48;lia
 nd:=by
  rw[C5,S7];refine⟨h.nd,by simp,λp hp m a=>?_⟩;obtain⟨q,f,rfl⟩:=C3.mp hp;rw[show m=[(x:Int),(y:Int),(z:Int),(w:Int)] by simpa using a];exact new q f
theorem GOk.one{G:Gv}(h:GOk G){i j:Nat}{p q:Sq}(a:G[i]?=some p)(b:G[j]?=some q)(e:p.parts=q.parts):i=j:=by
 have f:=(B6.mp a).1;have d:=(B6.mp b).1;have c:(G.map Sq.parts)[i]'(by rw[B5];exact f)=(G.map Sq.parts)[j]'(by rw[B5];exact d):=by
  rw[V0,V0,(B6.mp a).2,(B6.mp b).2,e]
 exact(List.getElem_inj h.nd).mp c
seal L2.PA L2.PE L2.PS L2.PSs L2.PT L2.PW
theorem DL{n:Nat}(h:n<10000000):n<sizeLine:=F2 h A3
theorem kit_w(K:W.Frag):kitOne K (.type "int") (.type "int")=some true/\kitOne K (.type "int") (.type "bool")=some false:=⟨by kernel_rfl,by kernel_rfl⟩
section
variable{P:Program}{w:World}{K:W.Frag}{mg:Str->Option Value}{base:Heap}{a:Ad}
inductive SpIW(vs:List V)(H:Hp)(Q:VK):Prop
 |mk (i:Int) (_:vs=[.int i]) (_:Q (.bl true) H):SpIW vs H Q
def Yu:Sp:=λvs H Q _=>SpIW vs H Q
theorem ok_iw(F:Fun K "is_whole" "is_whole" Ir f fd)(T:Top K mg a):AL P w K mg base CX0 1 f fd TX Yu:=by
  refine F.ok Nt (λ_ _ _ _ h=>by rcases h;subst_vars;rfl) λc A b s H vs Q E d h=>?_
  obtain⟨i,rfl,k⟩:=h;exact⟨_,(Ah (As (IH (AQ Ds rfl T.b_isinstance K6 (Aa (pv 0) (Aa (Fp (v:=.ty "int") rfl T.b_int A1b rfl) Ae))) (IG (QY (AQ Ds rfl T.b_isinstance K6 (Aa (pv 0) (Aa (Fp (v:=.ty "bool") rfl T.b_bool A4b rfl) Ae)))))))),(xq1 rfl ⟨_,_,_,.type "int",true,rfl,rfl,.of (.int i),(kit_w K).1,true,rfl,BL (xq1 rfl ⟨_,_,_,.type "int",false,rfl,rfl,.of (.int i),(kit_w K).2,false,rfl,k⟩)⟩)⟩
inductive SpIS(vs:List V)(H:Hp)(Q:VK):Prop
 |mk (i:Int) (_:vs=[.int i]) (_:0<=i) (_:i<8) (_:Q (.bl true) H):SpIS vs H Q
def spIS:Sp:=λvs H Q _=>SpIS vs H Q
theorem ok_is(F:Fun K "is_state" "is_state" LD f fd)(T:Top K mg a)(g:Cal P w K mg base CX0 1 "is_whole" TX Yu):AL P w K mg base CX0 2 f fd TX spIS:=by
  refine F.ok Sk (λ_ _ _ _ h=>by rcases h;subst_vars;rfl) λj A b s H vs Q E c h=>?_
  obtain⟨i,rfl,e,d,k⟩:=h;refine⟨_,(Ah (As (IH (Aw g (rm c) rfl Aq (Aa (pv 0) Ae)) (IG (YO Lo Fe Ac (pv 0) (BY rfl T.k_STATES)))))),?_⟩
  try dsimp only[cxK]
  refine xq1 rfl ⟨i,rfl,true,rfl,BL (xwb rfl rfl rfl (xq1 rfl ?_))⟩;rw[Z7 e];refine BL (xq2 rfl rfl ?_);show Q (.bl (decide (i<8))) H;rw[Z7 d];exact k
inductive SpKept(a:Ad)(vs:List V)(H:Hp)(Q:VK):Prop
 |mk (g:GA) (G:Gv) (t:Addr) (ps:List Int) (l:Int) (_:vs=[.ref g.p,.ref t,.int l]) (_:AN a H g G) (_:H t=some (.tup (ps.map V.int))) (_:(∀q∈G,q.parts≠ps)) (_:G.length<9000000) (_:∀H',Fr g H H'->AN a H' g (G++[⟨ps,l⟩])->Q (.int (G.length:Int)) H'):SpKept a vs H Q
def QP(a:Ad):Sp:=λvs H Q _=>SpKept a vs H Q
theorem ok_kept(F:Fun K "kept" "Grove.kept" IB f fd)(T:Top K mg a):AL P w K mg base CX0 1 f fd Ft (QP a):=by
  refine F.ok Ll (λ_ _ _ _ h=>by rcases h;subst_vars;rfl) λaa A Y s H vs Q E hr h=>?_
  obtain⟨g,G,t,j,l,rfl,hg,ht,new,few,k⟩:=h;obtain⟨d,u,⟨R,S,h4⟩,v,U⟩:=hg;have lt:R.length=G.length:=A0a h4;refine⟨_,(Ab (Ao (i:=3) Ll.nd rfl (Or.inl rfl) (AQ Ck rfl T.b_len A0e (Aa (AC (pv 0) rfl) Ae))) (Ab (Fn (Ek hr) (AC (pv 0) rfl) (pv 1) (pv 3) rfl) (Ab (BP (DK K0 K1 K2 BS (AC (pv 0) rfl) (Aa (pv 2) Ae))) (Ab (BP (DK K0 K1 K2 BS (AC (pv 0) rfl) (Aa (pv 1) Ae))) (Ah (As (pv 3))))))),?_⟩
  try dsimp only[cxK]
  refine xwf rfl rfl d T.cl_Grove T.na_Grove_levels (ED g) ⟨g.lv,(xq1 rfl ⟨.inl (SqL.of u),?_⟩)⟩;rw[B5];have r:g.p≠g.nm:=AH d v A4;have m:g.lv≠g.nm:=AH u v A4;have M:g.pt≠g.nm:=AH S v A4;have y:g.p≠g.lv:=AH d u A4;have X:g.p≠g.pt:=AH d S A4;have vn:Bu (JG 0 G) (kOf j)=none:=by
   rcases Ru j G 0 with ⟨i,q,e1,e2,_⟩|⟨e,_⟩
   ·exact absurd e2 (new q (D7 e1))
   ·exact e
  refine xw2 rfl rfl (xq5 d T.cl_Grove T.na_Grove_numbers (ZU g) (xq1 rfl ⟨g.nm,(xq1 rfl ⟨MJ.t (k:=kOf j) v (by rw[ZD];exact ht) (by rw[SU];exact DL A0),?_⟩)⟩));rw[FP _ vn];have e5:JG 0 G++[(kOf j,V.int (G.length:Int))]=JG 0 (G++[⟨j,l⟩]):=by rw[Qk,N6]
  rw[e5];generalize D:upd H g.nm (.dT (JG 0 (G++[⟨j,l⟩])))=O;have k1:∀b o,H b=some o->b≠g.nm->O b=some o:=λb o e n=>by rw[<-D,Ax n];exact e
  have n1:O g.nm=some (.dT (JG 0 (G++[⟨j,l⟩]))):=by rw[<-D];exact Af
  refine xwf rfl rfl (k1 _ _ d r) T.cl_Grove T.na_Grove_levels (ED g) ⟨.inl ⟨rfl,_,SqL.of (k1 _ _ u m)⟩,(xq1 rfl ⟨g.lv,(xq2 rfl rfl ⟨k1 _ _ u m,by rw[B5];exact DL A0,?_⟩)⟩)⟩;generalize C:upd O g.lv (.lst ((G.map λq=>V.int q.lev)++[.int l]))=N;have k2:∀b o,O b=some o->b≠g.lv->N b=some o:=λb o e n=>by rw[<-C,Ax n];exact e
  have n2:N g.lv=some (.lst ((G++[(⟨j,l⟩:Sq)]).map λq=>V.int q.lev)):=by rw[<-C,Af,C5];rfl
  have I:=k2 _ _ (k1 _ _ S M) (X7 U);refine xwf rfl rfl (k2 _ _ (k1 _ _ d r) y) T.cl_Grove T.na_Grove_parts (Cd g) ⟨.inl ⟨rfl,_,SqL.of I⟩,(xq1 rfl ⟨g.pt,(xq2 rfl rfl ⟨I,by rw[B5,lt];exact DL A0,?_⟩)⟩)⟩;generalize x:upd N g.pt (.lst (R.map V.ref++[.ref t]))=B;have k3:∀b o,N b=some o->b≠g.pt->B b=some o:=λb o e n=>by rw[<-x,Ax n];exact e
  have n3:B g.pt=some (.lst ((R++[t]).map V.ref)):=by rw[<-x,Af,C5];rfl
  have fr:Fr g H B:=λb o e m1 m2 m3=>k3 _ _ (k2 _ _ (k1 _ _ e m3) m1) m2;have Z:∀(c:Addr)(xs:List V),H c=some (.tup xs)->B c=some (.tup xs):=λc xs e=>fr _ _ e (AH e u A4) (AH e S A4) (AH e v A4);refine xq1 rfl (k B fr ⟨fr _ _ d y X r,k3 _ _ n2 U,⟨R++[t],n3,A2e (PairedM.imp (λc q z=>Z c _ z) h4) (Z t _ ht)⟩,k3 _ _ (k2 _ _ n1 (X7 m)) (X7 M),U⟩)
structure AG(G G':Gv)(n:Nat):Prop where
 ok:GOk G'
 pre:∃r,G'=G++r
 few:G'.length<=G.length+n
theorem AG.refl{G:Gv}(h:GOk G):AG G G 0:=⟨h,⟨[],by simp⟩,C1 _⟩
theorem AG.trans{G d b:Gv}{n m:Nat}(h:AG G d n)(c:AG d b m):AG G b (n+m):=by
 obtain⟨r,e⟩:=h.pre;obtain⟨t,f⟩:=c.pre;have i:=h.few;have g:=c.few;exact⟨c.ok,⟨r++t,by rw[f,e,R7]⟩,by lia⟩
theorem AG.get{G b:Gv}{n x:Nat}{q:Sq}(h:AG G b n)(e:G[x]?=some q):b[x]?=some q:=by
 obtain⟨r,c⟩:=h.pre;rw[c];exact JX e
theorem AG.lev{G b:Gv}{n x:Nat}{l:Int}(h:AG G b n)(e:An G x l):An b x l:=by
 obtain⟨q,e,z⟩:=e;exact⟨q,h.get e,z⟩
inductive Ux(a:Ad)(vs:List V)(H:Hp)(Q:VK):Prop
 |mk (g:GA) (G:Gv) (t:Addr) (x y z w:Nat) (l:Int) (_:vs=[.ref g.p,.ref t]) (_:AN a H g G) (_:GOk G) (_:H t=some (.tup [.int x,.int y,.int z,.int w])) (_:(An G x l/\An G y l/\An G z l/\An G w l)) (_:l<=47) (_:G.length<9000000) (_:∀(n:Nat)(G':Gv)(H':Hp),Fr g H H'->AN a H' g G'->AG G G' 1->G'[n]?=some ⟨[(x:Int),(y:Int),(z:Int),(w:Int)],l+1⟩->Q (.int n) H'):Ux a vs H Q
def DS(a:Ad):Sp:=λvs H Q _=>Ux a vs H Q
theorem ok_link(F:Fun K "linked" "Grove.linked" FL f fd)(T:Top K mg a)(Z:Cb P w K mg base CX0 1 a.c_Grove "kept" Ft (QP a)):AL P w K mg base CX0 2 f fd AW (DS a):=by
  refine F.ok Je (λ_ _ _ _ h=>by rcases h;subst_vars;rfl) λaa A p s H vs Q E M h=>?_
  obtain⟨g,G,t,x,y,z,w,l,rfl,I,ok,u,⟨m,Y,V,S⟩,r,few,k⟩:=h;have d:=I;obtain⟨n,h2,⟨ts,h3,h4⟩,B,h6⟩:=I;refine⟨_,(Ab (Ao (i:=2) Je.nd rfl (Or.inl rfl) (FQ (Ek M) (AC (pv 0) rfl) (pv 1) ⟨rfl,rfl,rfl,rfl⟩)) (Ab (AM (Ay FZ (pv 2) Bz (AD _)) (Ah (As (AI (pv 0) Z (rm M) Aq (Aa (pv 1) (AV Bb (Aj Av (AC (pv 0) rfl) (Aj Ak (pv 1) Ac (λ_ _=>rfl)) (λ_ _=>rfl)) Ac Ae))))) AB) (Ah (As (pv 2))))),?_⟩
  try dsimp only[cxK]
  refine xwf rfl rfl n T.cl_Grove T.na_Grove_numbers (ZU g) ⟨g.nm,rfl,.inr ⟨_,.inl B⟩,(xq1 rfl ⟨_,Ie.t (k:=kOf [(x:Int),(y:Int),(z:Int),(w:Int)]) B (by rw[ZD];exact u),?_⟩)⟩;rcases Ru [(x:Int),(y:Int),(z:Int),(w:Int)] G 0 with ⟨i,q,c,b,O⟩|⟨e,new⟩
  ·rw[O];refine xq1 rfl ⟨rfl,(xq1 rfl (Ba (xq1 rfl ?_)))⟩;rw[N6];refine k i G H (Fr.refl g H) d ⟨ok,⟨[],by simp⟩,by lia⟩ ?_;have X:8<=i:=by
    refine P0 λN=>?_;rw[ok.leaf i N]at c;cases c;cases b
   obtain⟨R,y',N,w',p1,⟨D,_⟩,_⟩:=ok.node i q c X;have v:R=x:=by
    rw[p1]at b;injection b with b _
    exact X6 b
   rw[v]at D;obtain⟨qa,a1,a2⟩:=D;obtain⟨qb,C,b2⟩:=m;rw[a1]at C;cases C;have U:q.lev=l+1:=by lia
   rw[c];cases q with
   |mk pp ll=>cases b;cases U;rfl
  ·rw[e];refine xq1 rfl ⟨rfl,(xq1 rfl (BL ?_))⟩;obtain⟨q,c,b⟩:=id m;refine xwn rfl rfl n (Rc g) rfl (xwf rfl rfl n T.cl_Grove T.na_Grove_levels (ED g) (xwi rfl rfl rfl (SqT.of u) (Ai (j:=0) rfl) (xq4 rfl rfl (SqL.of h2) (Ai (by rw[B8,c];rfl)) (xq2 rfl rfl ?_))));refine⟨g,G,t,[(x:Int),(y:Int),(z:Int),(w:Int)],l+1,by rw[<-b];rfl,d,u,new,few,λH' fr o=>?_⟩;refine k G.length _ H' fr o ⟨ok.snoc m Y V S r new,⟨_,rfl⟩,by rw[C4];exact C1 _⟩ ?_;rw[F3 (C1 _),T6];rfl
inductive SpChk(a:Ad)(vs:List V)(H:Hp)(Q:VK):Prop
 |mk (g:GA) (G:Gv) (i:Nat) (_:vs=[.ref g.p,.int i]) (_:AN a H g G) (_:i<G.length) (_:Q .non H):SpChk a vs H Q
def UV(a:Ad):Sp:=λvs H Q _=>SpChk a vs H Q
theorem ok_chk(F:Fun K "check_square" "Grove.check_square" CZ f fd)(T:Top K mg a)(e:Cal P w K mg base CX0 1 "is_whole" TX Yu):AL P w K mg base CX0 2 f fd JF (UV a):=by
  refine F.ok Jh (λ_ _ _ _ h=>by rcases h;subst_vars;rfl) λj A b s H vs Q E d h=>?_
  obtain⟨g,G,i,rfl,c,l,k⟩:=h;refine⟨_,(Ah (AM (PW.pt (Mn (Da (CM (Aw e (rm d) rfl Aq (Aa (pv 1) Ae)))) (IE (Da (Sx Lo Fe Ac (pv 1) (AQ Ck rfl T.b_len A0e (Aa (AC (pv 0) rfl) Ae))))))) (Ah Bw) AB)),?_⟩
  try dsimp only[cxK]
  refine⟨_,rfl,_,rfl,true,rfl,Ba ⟨_,rfl,_,_,rfl,rfl,_,rfl,?_⟩⟩;rw[Z7 (by lia:(0:Int)<=(i:Int))];refine BL (xwf rfl rfl c.hp T.cl_Grove T.na_Grove_levels (ED g) ⟨g.lv,(xq1 rfl ⟨.inl (SqL.of c.lv),(xq2 rfl rfl (xq1 rfl ?_))⟩)⟩);rw[B5,Z7 (by lia:(i:Int)<(G.length:Int))];exact Ba k
inductive SpLeaf(a:Ad)(vs:List V)(H:Hp)(Q:VK):Prop
 |mk (p:Addr) (i:Int) (_:vs=[.ref p,.int i]) (_:0<=i) (_:i<8) (_:Q (.int i) H):SpLeaf a vs H Q
def QO(a:Ad):Sp:=λvs H Q _=>SpLeaf a vs H Q
theorem ok_leaf(F:Fun K "leaf" "Grove.leaf" IA f fd)(T:Top K mg a)(j:Cal P w K mg base CX0 2 "is_state" TX spIS):AL P w K mg base CX0 3 f fd Ro (QO a):=by
  refine F.ok Py (λ_ _ _ _ h=>by rcases h;subst_vars;rfl) λl A b s H vs Q E c h=>?_
  obtain⟨g,i,rfl,e,d,k⟩:=h;exact⟨_,(Ab (AM (Da (CM (Aw j (rm c) rfl Aq (Aa (pv 1) Ae)))) (Ah Bw) AB) (Ah (As (pv 1)))),(xq1 rfl ⟨i,rfl,e,d,true,rfl,Ba (xq1 rfl k)⟩)⟩
inductive SpLev(a:Ad)(vs:List V)(H:Hp)(Q:VK):Prop
 |mk (g:GA) (G:Gv) (i:Nat) (q:Sq) (_:vs=[.ref g.p,.int i]) (_:AN a H g G) (_:G[i]?=some q) (_:Q (.int q.lev) H):SpLev a vs H Q
def Ma(a:Ad):Sp:=λvs H Q _=>SpLev a vs H Q
theorem ok_lev(F:Fun K "level_of" "Grove.level_of" Ev f fd)(T:Top K mg a)(j:Cb P w K mg base CX0 2 a.c_Grove "check_square" JF (UV a)):AL P w K mg base CX0 3 f fd JF (Ma a):=by
  refine F.ok Ml (λ_ _ _ _ h=>by rcases h;subst_vars;rfl) λl A c s H vs Q E e h=>?_
  obtain⟨g,G,i,q,rfl,b,d,k⟩:=h;refine⟨_,(Ab (BP (AI (pv 0) j (rm e) Aq (Aa (pv 1) Ae))) (Ah (As (Aj Av (AC (pv 0) rfl) (pv 1) (λ_ _=>rfl))))),?_⟩
  try dsimp only[cxK]
  refine xwn rfl rfl b.hp (SF g) rfl ⟨g,G,i,rfl,b,(B6.mp d).1,?_⟩;exact xwf rfl rfl b.hp T.cl_Grove T.na_Grove_levels (ED g) (xwi rfl rfl rfl (SqL.of b.lv) (Ai (by rw[B8,d];rfl)) k)
inductive SpSta(a:Ad)(vs:List V)(H:Hp)(Q:VK):Prop
 |mk (g:GA) (G:Gv) (i:Nat) (q:Sq) (_:vs=[.ref g.p,.int i]) (_:AN a H g G) (_:G[i]?=some q) (_:q.lev=0) (_:Q (.int i) H):SpSta a vs H Q
def Yh(a:Ad):Sp:=λvs H Q _=>SpSta a vs H Q
theorem ok_sta(F:Fun K "state_of" "Grove.state_of" Eu f fd)(T:Top K mg a)(d:Cb P w K mg base CX0 3 a.c_Grove "level_of" JF (Ma a)):AL P w K mg base CX0 4 f fd JF (Yh a):=by
  refine F.ok Mj (λ_ _ _ _ h=>by rcases h;subst_vars;rfl) λm A b s H vs Q E e h=>?_
  obtain⟨g,G,i,q,rfl,c,l,j,k⟩:=h;refine⟨_,(Ab (AM (Ay OO (AI (pv 0) d (rm e) Aq (Aa (pv 1) Ae)) Ac (AD _)) (Ah Bw) AB) (Ah (As (pv 1)))),?_⟩
  try dsimp only[cxK]
  refine xwn rfl rfl c.hp (DF g) rfl ⟨g,G,i,q,rfl,c,l,rfl,(xq1 rfl ?_)⟩;rw[j];exact Vt rfl (xq1 rfl k)
end
end J
namespace J
open PySem L2
section
variable{P:Program}{w:World}{K:W.Frag}{mg:Str->Option Value}{base:Heap}{a:Ad}
end
def bareN:Nat->Nat
 |0=>0
 |j+1=>8+j
def DM(n:Nat):Gv:=(List.range n).map λ(s:Nat)=>(⟨[(s:Int)],0⟩:Sq)
def Gd(n:Nat):Gv:=(List.range n).map λ(j:Nat)=>(⟨[(bareN j:Int),(bareN j:Int),(bareN j:Int),(bareN j:Int)],(j:Int)+1⟩:Sq)
def G0:Gv:=DM 8++Gd 48
theorem Uh(n:Nat):DM (n+1)=DM n++[⟨[(n:Int)],0⟩]:=by unfold DM;rw[Q0,C5];rfl
theorem Pm(n:Nat):Gd (n+1)=Gd n++[⟨[(bareN n:Int),(bareN n:Int),(bareN n:Int),(bareN n:Int)],(n:Int)+1⟩]:=by unfold Gd;rw[Q0,C5];rfl
theorem FC(n:Nat):(DM n).length=n:=by unfold DM;rw[B5,M6]
theorem QD(n:Nat):(Gd n).length=n:=by unfold Gd;rw[B5,M6]
theorem WO{i j:Nat}(h:bareN i=bareN j):i=j:=by
 cases i<;>cases j
 ·rfl
 ·have:0=8+_:=h;lia
 ·have:8+_=0:=h;lia
 ·have:8+_=8+_:=h;lia
theorem Wy(n:Nat):∀q∈DM n,q.parts≠[(n:Int)]:=λq a z=>by
 obtain⟨s,b,rfl⟩:=C3.mp a;have:=M0.mp b;injection z with z _
 have:s=n:=X6 z;lia
theorem QC(n:Nat):∀q∈DM 8++Gd n,q.parts≠[(bareN n:Int),(bareN n:Int),(bareN n:Int),(bareN n:Int)]:=λq a z=>by
 rcases F9.mp a with a|a
 ·obtain⟨s,b,rfl⟩:=C3.mp a;cases z
 ·obtain⟨s,b,rfl⟩:=C3.mp a;have:=M0.mp b;injection z with z _
  have:=WO (X6 z);lia
theorem Rx:G0.length=56:=by unfold G0;rw[C4,FC,QD]
theorem MB(j:Nat)(h:j<48):G0[8+j]?=some ⟨[(bareN j:Int),(bareN j:Int),(bareN j:Int),(bareN j:Int)],(j:Int)+1⟩:=by
 unfold G0;rw[F3 (by rw[FC];lia),FC,show 8+j-8=j by lia];unfold Gd;rw[B8,O7 h];rfl
theorem Ry(s:Nat)(h:s<8):G0[s]?=some ⟨[(s:Int)],0⟩:=by
 unfold G0;rw[M9 (by rw[FC];exact h)];unfold DM;rw[B8,O7 h];rfl
theorem ZQ(j:Nat)(h:j<=48):An G0 (bareN j) (j:Int):=by
 cases j with
 |zero=>exact⟨_,Ry 0 A3,rfl⟩
 |succ j=>exact⟨_,MB j A0,rfl⟩
theorem g0_nd:∀n,((DM 8++Gd n).map Sq.parts).Nodup
 |0=>by decide
 |n+1=>by
  rw[Pm,<-R7,C5,S7];refine⟨g0_nd n,by simp,λp hp b a=>?_⟩;obtain⟨q,c,rfl⟩:=C3.mp hp;rw[show b=[(bareN n:Int),(bareN n:Int),(bareN n:Int),(bareN n:Int)] by simpa using a];exact QC n q c
theorem g0_ok:GOk G0 where
 leaf:=Ry
 node:=λi q e b=>by
  have a:i<56:=by rw[<-Rx];exact(B6.mp e).1
  obtain⟨j,rfl⟩:∃j,i=8+j:=⟨i-8,by lia⟩
  rw[MB j A0]at e;cases e;have:=ZQ j A0;refine⟨bareN j,bareN j,bareN j,bareN j,rfl,?_,?_,?_⟩
  ·show An G0 _ ((j:Int)+1-1)/\An G0 _ ((j:Int)+1-1)/\An G0 _ ((j:Int)+1-1)/\An G0 _ ((j:Int)+1-1);rw[show(j:Int)+1-1=(j:Int) by lia];exact⟨this,this,this,this⟩
  ·show 1<=(j:Int)+1;lia
  ·show(j:Int)+1<=48;lia
 nd:=g0_nd 48
def amK(n:Nat):List (Key×V):=(List.range n).map λ(s:Nat)=>(Sum.inl (s:Int),V.int (if(1:Int)<(s:Int)then 1 else(s:Int)))
theorem Tl(n:Nat):amK (n+1)=amK n++[(Sum.inl (n:Int),V.int (if(1:Int)<(n:Int)then 1 else(n:Int)))]:=by unfold amK;rw[Q0,C5];rfl
theorem amK_len(n:Nat):(amK n).length=n:=by unfold amK;rw[B5,M6]
theorem QF{κ:Type}[DecidableEq κ]{k:κ}:∀{l m:List (κ×V)},Bu l k=none->Bu (l++m) k=Bu m k
 |[],_,_=>rfl
 |p::r,m,h=>by
  by_cases e:p.1=k
  ·rw[BU e]at h;cases h
  ·rw[BF e]at h;show Bu (p::(r++m)) k=_;rw[BF e];exact QF h
theorem Tm(n:Nat):∀m,n<=m->Bu (amK n) (Sum.inl (m:Int))=none:=by
 induction n with
 |zero=>intro m _;rfl
 |succ n a =>
  intro m b;rw[Tl,QF (a m A0),BF (by intro z;injection z with z;have:=X6 z;lia)];rfl
def De(n:Nat):List Int:=(List.range (n+1)).map λj=>((bareN j:Nat):Int)
theorem Pn(n:Nat):De (n+1)=De n++[((bareN (n+1):Nat):Int)]:=by unfold De;rw[Q0,C5];rfl
theorem Uw(n:Nat):(De n).getLast?=some ((bareN n:Nat):Int):=by
 cases n with
 |zero=>rfl
 |succ n=>rw[Pn,List.getLast?_append];rfl
theorem at_lastV{xs:List V}{x:V}(h:xs.getLast?=some x):atI xs (-1)=some x:=by
 obtain⟨ys,rfl⟩:=List.getLast?_eq_some_iff.mp h;unfold atI ixN;rw[Z6 A3,Z9 (by rw[C4,P8];lia)];show(ys++[x])[((-1:Int)+((ys++[x]).length:Nat)).toNat]?=some x;rw[C4,P8,show((-1:Int)+((ys.length+1:Nat):Int)).toNat=ys.length by lia,F3 (C1 _),T6];rfl
seal L2.PA L2.PE L2.PS L2.PSs L2.PT L2.PW
structure Tq(a:Ad)(H H':Hp)(g:GA)(G:Gv)(B:List Int)(am:List (Key×V)):Prop where
 kp:∀b o,H b=some o->b≠g.p->H' b=some o
 at':AN a H' g G
 br:H' g.br=some (.lst (B.map V.int))
 am:H' g.am=some (.dK am)
 bx:H' g.bx=some (.dK [])
 fresh:H g.lv=none/\H g.pt=none/\H g.nm=none/\H g.br=none/\H g.am=none/\H g.bx=none
 n1:g.br≠g.lv
 n2:g.br≠g.pt
 n3:g.am≠g.bx
section
variable{P:Program}{w:World}{K:W.Frag}{mg:Str->Option Value}{base:Heap}{a:Ad}
inductive VR(a:Ad)(vs:List V)(H:Hp)(Q:VK):Prop
 |mk (p dx:Addr) (_:vs=[.ref p]) (_:H p=some (.ins a.c_Grove dx [])) (_:∀(g:GA)(H':Hp),g.p=p->Tq a H H' g G0 (De 48) (amK 8)->Q .non H'):VR a vs H Q
def QS(a:Ad):Sp:=λvs H Q _=>VR a vs H Q
theorem Zd(F:Fun K "__init__" "Grove.__init__" IC f fd)(T:Top K mg a)(aS:Cb P w K mg base CX0 1 a.c_Grove "kept" Ft (QP a)):AL P w K mg base CX0 2 f fd IQ (QS a):=by
  refine F.ok EG (λ_ _ _ _ h=>by rcases h;subst_vars;rfl) λaw A av s H vs Q E hr h=>?_
  obtain⟨p,dx,rfl,hp,k⟩:=h;refine⟨_,(Ab (Cz (pv 0) (CA Ae) rfl) (Ab (Cz (pv 0) (CA Ae) rfl) (Ab (Cz (pv 0) OM rfl) (Ab (Cz (pv 0) (CA (AR Ae)) rfl) (Ab (Cz (pv 0) GY rfl) (Ab (Cz (pv 0) GY rfl) (Ab (DA K8 rfl (Ex rfl T.b_range (Aa (BY rfl T.k_STATES) Ae)) (BQ (i:=1) EG.nd rfl (Or.inl rfl)) (Ab (BP (AI (pv 0) aS (rm hr) Aq (AT (Aa (pv 1) Ae) (AR Ae)))) (Ah (Fn (Ek hr) (AC (pv 0) rfl) (pv 1) (AQ (Qw rfl) rfl T.b_min A2f (Aa (pv 1) (AR Ae))) rfl)))) (Ah (DA K8 rfl (MW rfl T.b_range (AR (AV Bb (BY rfl T.k_TOP_LEVEL) Ac Ae))) (BQ (i:=2) EG.nd rfl (Or.inl rfl)) (Ab (Ao (i:=3) EG.nd rfl (Or.inl rfl) (Aj Av (AC (pv 0) rfl) (Db Cc Ac) (λ_ _=>rfl))) (Ah (BP (DK K0 K1 K2 BS (AC (pv 0) rfl) (Aa (AI (pv 0) aS (rm hr) Aq (AT (Aa (pv 3) (Aa (pv 3) (Aa (pv 3) (Aa (pv 3) Ae)))) (Aa (pv 2) Ae))) Ae)))))))))))))),?_⟩
  try dsimp only[cxK]
  have stp:∀{u:Hp}{x:Addr}{o:HO}{fs fs':List (Str×V)},u p=some (.ins a.c_Grove dx fs)->u x=none->(∀b v,u b=some v->b≠p->upd (upd u x o) p (.ins a.c_Grove dx fs') b=some v)/\upd (upd u x o) p (.ins a.c_Grove dx fs') x=some o/\upd (upd u x o) p (.ins a.c_Grove dx fs') p=some (.ins a.c_Grove dx fs')/\upd u x o p=some (.ins a.c_Grove dx fs):=λ{u x o fs fs'} e1 e2=>by
   have n:x≠p:=λz=>by rw[z,e1]at e2;cases e2
   exact⟨λb v e nb=>by rw[Ax nb,Ax (Az e e2)];exact e,by rw[Ax n];exact Af,Af,by rw[Ax (X7 n)];exact e1⟩
  refine AZ ?_;intro G I k_ m O;refine⟨(by show 0<=sizeLine;decide),λD ab=>?_⟩;obtain⟨k1,x1,p1,q1⟩:=stp (o:=.lst []) (fs':=AY "levels" (.ref D) []) hp ab;refine xq1 rfl ⟨p,_,dx,[],rfl,q1,T.cl_Grove,T.na_Grove_levels,B1,?_⟩;show k_ _ _;generalize upd (upd H D _) p _=H1 at k1 x1 p1⊢;refine m ?_;refine AZ ?_;intro G I k_ m O;refine⟨(by show 0<=sizeLine;decide),λpt aa=>?_⟩;obtain⟨k2,x2,p2,q2⟩:=stp (o:=.lst []) (fs':=AY "parts" (.ref pt) (AY "levels" (.ref D) [])) p1 aa;refine xq1 rfl ⟨p,_,dx,(xq1 rfl ⟨q2,T.cl_Grove,T.na_Grove_parts,B3,?_⟩)⟩;show k_ _ _;generalize upd (upd H1 pt _) p _=H2 at k2 x2 p2⊢;refine m ?_;refine AZ ?_;intro G I k_ m O;intro nm ac;obtain⟨k3,x3,p3,q3⟩:=stp (o:=.dT []) (fs':=AY "numbers" (.ref nm) (AY "parts" (.ref pt) (AY "levels" (.ref D) []))) p2 ac;refine xq1 rfl ⟨p,_,dx,(xq1 rfl ⟨q3,T.cl_Grove,T.na_Grove_numbers,(by show 2<1000;decide),?_⟩)⟩;show k_ _ _;generalize upd (upd H2 nm _) p _=H3 at k3 x3 p3⊢;refine m ?_;refine AZ ?_;intro G I k_ m O;refine⟨(by show 1<=sizeLine;decide),λU l=>?_⟩;obtain⟨k4,x4,p4,q4⟩:=stp (o:=.lst [.int 0]) (fs':=AY "bares" (.ref U) (AY "numbers" (.ref nm) (AY "parts" (.ref pt) (AY "levels" (.ref D) [])))) p3 l;refine xq1 rfl ⟨p,_,dx,(xq1 rfl ⟨q4,T.cl_Grove,T.na_Grove_bares,(by show 3<1000;decide),?_⟩)⟩;show k_ _ _;generalize upd (upd H3 U _) p _=H4 at k4 x4 p4⊢;refine m ?_;refine AZ ?_;intro G I k_ m O;intro Y M;obtain⟨k5,x5,p5,q5⟩:=stp (o:=.dK []) (fs':=AY "amounts" (.ref Y) (AY "bares" (.ref U) (AY "numbers" (.ref nm) (AY "parts" (.ref pt) (AY "levels" (.ref D) []))))) p4 M;refine xq1 rfl ⟨p,_,dx,(xq1 rfl ⟨q5,T.cl_Grove,T.na_Grove_amounts,(by show 4<1000;decide),?_⟩)⟩;show k_ _ _;generalize upd (upd H4 Y _) p _=H5 at k5 x5 p5⊢;refine m ?_;refine AZ ?_;intro G I k_ m O;intro bx C;obtain⟨k6,x6,p6,q6⟩:=stp (o:=.dK []) (fs':=fl6 ⟨p,dx,D,pt,nm,U,Y,bx⟩) p5 C;refine xq1 rfl ⟨p,_,dx,(xq1 rfl ⟨q6,T.cl_Grove,T.na_Grove_boxes,(by show 5<1000;decide),?_⟩)⟩;show k_ _ (upd (upd H5 bx (.dK [])) p (.ins a.c_Grove dx (fl6 ⟨p,dx,D,pt,nm,U,Y,bx⟩)));generalize upd (upd H5 bx _) p _=H6 at k6 x6 p6⊢;refine m ?_;have ak:∀b v,H1 b=some v->b≠p->H6 b=some v:=λb v e n=>k6 _ _ (k5 _ _ (k4 _ _ (k3 _ _ (k2 _ _ e n) n) n) n) n;have an:∀b v,H2 b=some v->b≠p->H6 b=some v:=λb v e n=>k6 _ _ (k5 _ _ (k4 _ _ (k3 _ _ e n) n) n) n;have al:∀b v,H3 b=some v->b≠p->H6 b=some v:=λb v e n=>k6 _ _ (k5 _ _ (k4 _ _ e n) n) n;have aq:∀b v,H4 b=some v->b≠p->H6 b=some v:=λb v e n=>k6 _ _ (k5 _ _ e n) n;have np:∀{u:Hp}{x:Addr}{fs:List (Str×V)},u p=some (.ins a.c_Grove dx fs)->u x=none->x≠p:=λ{u x fs} e1 e2 z=>by rw[z,e1]at e2;cases e2
  have no:∀{u Hm:Hp}{x y:Addr}{v:HO},u x=some v->u y=none->x≠y:=λ{u Hm x y v} e1 e2=>Az e1 e2;have ad:=np hp ab;have ae:=np p1 aa;have ah:=np p2 ac;have ag:=np p3 l;have ai:=np p4 M;have aj:=np p5 C;have y1:=ak _ _ x1 ad;have y2:=an _ _ x2 ae;have y3:=al _ _ x3 ah;have y4:=aq _ _ x4 ag;have y5:=k6 _ _ x5 ai;have B:∀{u:Hp}{x:Addr},(∀b v,H b=some v->b≠p->u b=some v)->x≠p->u x=none->H x=none:=λ{u x} kp n e=>by
   cases h:H x with
   |none=>rfl
   |some v=>rw[kp _ _ h n]at e;cases e
  have c2:∀b v,H b=some v->b≠p->H2 b=some v:=λb v e n=>k2 _ _ (k1 _ _ e n) n;have c3:∀b v,H b=some v->b≠p->H3 b=some v:=λb v e n=>k3 _ _ (c2 _ _ e n) n;have c4:∀b v,H b=some v->b≠p->H4 b=some v:=λb v e n=>k4 _ _ (c3 _ _ e n) n;have c5:∀b v,H b=some v->b≠p->H5 b=some v:=λb v e n=>k5 _ _ (c4 _ _ e n) n;have c6:∀b v,H b=some v->b≠p->H6 b=some v:=λb v e n=>k6 _ _ (c5 _ _ e n) n;have d1:D≠pt:=Az x1 aa;have d2:U≠D:=X7 (Az (k3 _ _ (k2 _ _ x1 ad) ad) l);have d3:U≠pt:=X7 (Az (k3 _ _ x2 ae) l);have d4:Y≠bx:=Az x5 C;have N0:Tq a H H6 ⟨p,dx,D,pt,nm,U,Y,bx⟩ (DM 0) (De 0) (amK 0):=⟨c6,⟨p6,y1,⟨[],y2,.nil⟩,y3,d1⟩,y4,y5,x6,⟨ab,B k1 ae aa,B c2 ah ac,B c3 ag l,B c4 ai M,B c5 aj C⟩,d2,d3,d4⟩
  have k':=k ⟨p,dx,D,pt,nm,U,Y,bx⟩;have gp:(⟨p,dx,D,pt,nm,U,Y,bx⟩:GA).p=p:=rfl;generalize (⟨p,dx,D,pt,nm,U,Y,bx⟩:GA)=g at N0 k' gp;subst gp;clear k p6 q6 q5 q4 q3 q2 q1 y1 y2 y3 y4 y5 x6 c6 c5 c4 c3 c2 ak an al aq k1 k2 k3 k4 k5 k6 x1 x2 x3 x4 x5 p1 p2 p3 p4 p5 d1 d2 d3 d4 ad ae ah ag ai aj C M l ac aa ab B no np stp;refine⟨8,rfl,by decide,by decide,?_⟩;refine DN (n:=8) (λi σ H7=>∃u1:Option V,σ=[some (.ref g.p),u1,none,none]/\Tq a H H7 g (DM i) (De 0) (amK i)) ⟨none,rfl,N0⟩ ?_ ?_
  ·rintro i σ H7 hi ⟨u1,rfl,N⟩;obtain⟨kp,at',l,M,C,fresh,n1,n2,n3⟩:=N;have cl:(i:Int)=0+(i:Int):=(V5 _).symm;refine xq1 rfl ⟨g.p,g.dx,(xq1 rfl ⟨at'.hp,Rc g,(xq1 rfl ⟨(by show 1<=sizeLine;decide),λt ht=>?_⟩)⟩)⟩;have s1:=Ar (o:=.tup [.int (0+(i:Int))]) ht;refine⟨g,DM i,t,[0+(i:Int)],0,rfl,at'.same s1,Af,by rw[<-cl];exact Wy i,by rw[FC];lia,λX fr r=>?_⟩;rw[<-cl,<-Uh]at r;have S:Fr g H7 X:=(AA.fr s1).trans fr;obtain⟨ts,h3,h4⟩:=at'.pt;have kd:∀(b:Addr)(R:List (Key×V)),H7 b=some (.dK R)->X b=some (.dK R):=λb R e=>S _ _ e (AH e at'.lv A4) (AH e h3 A4) (AH e at'.nm A4);have af:=kd _ _ M;refine xq1 rfl ⟨_,_,rfl,(xwf rfl rfl r.hp T.cl_Grove T.na_Grove_amounts (fl6_am g) (xq1 rfl ⟨g.am,(xq1 rfl ⟨MJ.k (k:=Sum.inl (0+(i:Int))) af (by rw[amK_len];exact DL A0),?_⟩)⟩))⟩;rw[<-cl,FP _ (Tm i i (C1 _)),<-Tl];have d:∀{b:Addr}{v:HO},X b=some v->b≠g.am->upd X g.am (.dK (amK (i+1))) b=some v:=λ{b v} e n=>by rw[Ax n];exact e
   have na:∀{b:Addr}{v:HO},X b=some v->v≠.dK (amK i)->b≠g.am:=λ{b v} e n=>AH e af n;obtain⟨as,ao,au⟩:=r.pt;refine xq1 rfl ⟨?_,⟨d r.hp (na r.hp A4),d r.lv (na r.lv A4),⟨as,d ao (na ao A4),PairedM.imp (λc q z=>d z (na z A4)) au⟩,d r.nm (na r.nm A4),r.ne⟩,?_,Af,?_,fresh,n1,n2,n3⟩
   ·intro b v e nb;have e8:X b=some v:=S _ _ (kp _ _ e nb) (Az e fresh.1) (Az e fresh.2.1) (Az e fresh.2.2.1);exact d e8 (Az e fresh.2.2.2.2.1)
   ·have e8:X g.br=_:=S _ _ l n1 n2 (AH l at'.nm A4);exact d e8 (na e8 A4)
   ·exact d (kd _ _ C) (X7 n3)
  ·rintro σ H7 ⟨u1,rfl,N⟩;refine xq2 rfl rfl ⟨1,49,rfl,⟨by decide,by decide,by decide,by decide⟩,?_⟩;have N0:Tq a H H7 g (DM 8++Gd 0) (De 0) (amK 8):=by rw[show DM 8++Gd 0=DM 8 from V9 _];exact N
   clear N;refine DN (lo:=1) (n:=48) (λj σ X=>∃u2 u3:Option V,σ=[some (.ref g.p),u1,u2,u3]/\Tq a H X g (DM 8++Gd j) (De j) (amK 8)) ⟨none,none,rfl,N0⟩ ?_ ?_
   ·rintro j σ X hj ⟨u2,u3,rfl,N⟩;obtain⟨kp,at',l,M,C,fresh,n1,n2,n3⟩:=N;refine xwf rfl rfl at'.hp T.cl_Grove T.na_Grove_bares (GR g) (xwi rfl rfl rfl (SqL.of l) (at_lastV (by rw[List.getLast?_map,Uw];rfl)) ?_);refine xwf rfl rfl at'.hp T.cl_Grove T.na_Grove_bares (GR g) ⟨.inl ⟨rfl,_,SqL.of l⟩,(xq1 rfl ⟨g.p,g.dx,(xq1 rfl ⟨at'.hp,Rc g,(xw3 rfl rfl rfl (xq1 rfl ⟨(by show 4<=sizeLine;decide),λt ht=>(xq1 rfl ?_)⟩))⟩)⟩)⟩;have s1:=Ar (o:=.tup [.int (bareN j:Int),.int (bareN j:Int),.int (bareN j:Int),.int (bareN j:Int)]) ht;have ln:(DM 8++Gd j).length=8+j:=by rw[C4,FC,QD]
    refine⟨g,DM 8++Gd j,t,[(bareN j:Int),(bareN j:Int),(bareN j:Int),(bareN j:Int)],1+(j:Int),rfl,at'.same s1,Af,QC j,by rw[ln];lia,λH9 fr ar=>?_⟩;rw[show(1:Int)+(j:Int)=(j:Int)+1 by lia,R7,<-Pm]at ar;have S:Fr g X H9:=(AA.fr s1).trans fr;obtain⟨ts,h3,h4⟩:=at'.pt;have kd:∀(b:Addr)(R:List (Key×V)),X b=some (.dK R)->H9 b=some (.dK R):=λb R e=>S _ _ e (AH e at'.lv A4) (AH e h3 A4) (AH e at'.nm A4);have Z:H9 g.br=_:=S _ _ l n1 n2 (AH l at'.nm A4);refine⟨g.br,(xq2 rfl rfl ⟨Z,by rw[B5];unfold De;rw[B5,M6];exact DL A0,?_⟩)⟩;have eb:(De j).map V.int++[V.int ((DM 8++Gd j).length:Int)]=(De (j+1)).map V.int:=by rw[Pn,C5,ln];rfl
    rw[eb];have d:∀{b:Addr}{v:HO},H9 b=some v->v≠.lst ((De j).map V.int)->upd H9 g.br (.lst ((De (j+1)).map V.int)) b=some v:=λ{b v} e n=>by rw[Ax (AH e Z n)];exact e
    refine⟨_,_,rfl,?_,ar.put Z n1 n2,Af,d (kd _ _ M) A4,d (kd _ _ C) A4,fresh,n1,n2,n3⟩;intro b v e nb;rw[Ax (Az e fresh.2.2.2.1)];exact S _ _ (kp _ _ e nb) (Az e fresh.1) (Az e fresh.2.1) (Az e fresh.2.2.1)
   ·rintro σ X ⟨u2,u3,rfl,N⟩;exact k' X rfl N
end
end J
namespace J
open PySem L2
theorem An.uniq{G:Gv}{i:Nat}{l m:Int}(h:An G i l)(b:An G i m):l=m:=by
 obtain⟨q,e,z⟩:=h;obtain⟨p,a,c⟩:=b;rw[e]at a;cases a;exact z.symm.trans c
structure GU(G:Gv)(n i:Nat)(q:Sq)(x y z w:Nat):Prop where
 g:G[i]?=some q
 ps:q.parts=[(x:Int),(y:Int),(z:Int),(w:Int)]
 lev:q.lev=(n:Int)+1
 hx:An G x n
 hy:An G y n
 hz:An G z n
 hw:An G w n
theorem BB{G:Gv}(ok:GOk G){n i:Nat}(h:An G i ((n+1:Nat):Int)):∃q x y z w,GU G n i q x y z w:=by
 obtain⟨q,e,g⟩:=h;have j:8<=i:=by
  refine P0 λk=>?_;rw[ok.leaf i k]at e;cases e;have:(0:Int)=((n+1:Nat):Int):=g;lia
 obtain⟨x,y,z,w,l,⟨c,a,d,b⟩,_,_⟩:=ok.node i q e j;have f:q.lev-1=(n:Int):=by lia
 rw[f]at c a d b;exact⟨q,x,y,z,w,e,l,by lia,c,a,d,b⟩
theorem GU.app{G a:Gv}{k n i:Nat}{q:Sq}{x y z w:Nat}(go:AG G a k)(h:GU G n i q x y z w):GU a n i q x y z w:=⟨go.get h.g,h.ps,h.lev,go.lev h.hx,go.lev h.hy,go.lev h.hz,go.lev h.hw⟩
def DH(G:Gv):Nat->Nat->Int
 |0,i=>if i=0 then 0 else 1
 |n+1,i=>match G[i]? with
  |some q=>(q.parts.map λp=>DH G n p.toNat).sum
  |none=>0
theorem Ld{G:Gv}{n i:Nat}{q:Sq}{x y z w:Nat}(h:GU G n i q x y z w):DH G (n+1) i=([x,y,z,w].map λk=>DH G n k).sum:=by
 rw[show DH G (n+1) i=(match G[i]? with|some q=>(q.parts.map λ(p:Int)=>DH G n p.toNat).sum|none=>0)from rfl,h.g];show(q.parts.map λ(p:Int)=>DH G n p.toNat).sum=_;rw[h.ps];rfl
theorem JJ{G b:Gv}{k:Nat}(ok:GOk G)(go:AG G b k):∀(n i:Nat),An G i (n:Int)->DH b n i=DH G n i
 |0,i,_=>rfl
 |n+1,i,h=>by
  obtain⟨q,x,y,z,w,a⟩:=BB ok h;rw[Ld a,Ld (a.app go)];show DH b n x+(DH b n y+(DH b n z+(DH b n w+0)))=_;rw[JJ ok go n x a.hx,JJ ok go n y a.hy,JJ ok go n z a.hz,JJ ok go n w a.hw];rfl
theorem Fy(G:Gv):∀(n i:Nat),0<=DH G n i
 |0,i=>by
  show 0<=if i=0 then(0:Int)else 1;split<;>lia
 |n+1,i=>by
  unfold DH;split
  ·rename_i q _;have:∀l:List Int,0<=(l.map λp=>DH G n p.toNat).sum:=by
    intro l;induction l with
    |nil=>exact Int.le_refl 0
    |cons p r a=>rw[F7,P4];have:=Fy G n p.toNat;lia
   exact this _
  ·exact Int.le_refl 0
theorem La:∀(n:Nat)(l:List Nat),l.Nodup->(∀x∈l,x<n)->l.length<=n
 |0,l,_,h=>by
  cases l with
  |nil=>exact C1 0
  |cons x r=>exact absurd (h x C7) (F8 _)
 |n+1,l,nd,h=>by
  by_cases b:n∈l
  ·have:=La n (l.erase n) (nd.erase n) λx a=>by
    have c:=(nd.mem_erase_iff).mp a;have:=h x c.2;have:=c.1;lia
   rw[List.length_erase_of_mem b]at this;lia
  ·have:=La n l nd λx a=>by
    have:=h x a;have:x≠n:=λz=>b (z▸a);lia
   lia
structure GV(G:Gv)(ks:List (Key×V)):Prop where
 nd:(ks.map Prod.fst).Nodup
 lt:∀k∈ks.map Prod.fst,∃i:Nat,i<G.length/\k=Sum.inl (i:Int)
theorem GV.len{G:Gv}{c:List (Key×V)}(h:GV G c):c.length<=G.length:=by
 let f:Key->Nat:=λk=>match k with|.inl i=>i.toNat|.inr _=>0
 have:=La G.length ((c.map Prod.fst).map f) (by
  rw[R8,List.pairwise_map];refine List.Pairwise.imp_of_mem (λ{a b} e g d z=>d ?_) (R8.mp h.nd);obtain⟨i,_,rfl⟩:=h.lt a e;obtain⟨j,_,rfl⟩:=h.lt b g;have:(i:Int).toNat=(j:Int).toNat:=z;rw[L7,L7]at this;rw[this]) (λx n=>by
  obtain⟨k,m,rfl⟩:=C3.mp n;obtain⟨i,l,rfl⟩:=h.lt k m;show(i:Int).toNat<_;rw[L7];exact l)
 rw[B5,B5]at this;exact this
theorem GV.app{G a:Gv}{b:List (Key×V)}(le:G.length<=a.length)(h:GV G b):GV a b:=⟨h.nd,λk c=>by
 obtain⟨i,d,e⟩:=h.lt k c;exact⟨i,by lia,e⟩⟩
theorem GV.put{G:Gv}{c:List (Key×V)}(h:GV G c){i:Nat}(m:i<G.length)(v:V):GV G (DQ c (Sum.inl (i:Int)) v):=by
 unfold DQ;by_cases a:(c.any λb=>decide (b.1=Sum.inl (i:Int)))=true
 ·rw[Z9 a];have e:(c.map λb=>if b.1=Sum.inl (i:Int)then(b.1,v)else b).map Prod.fst=c.map Prod.fst:=by
   rw[O4];refine List.map_congr_left λb _=>?_;show(if b.1=Sum.inl (i:Int)then(b.1,v)else b).1=b.1;split<;>rfl
  exact⟨by rw[e];exact h.nd,by rw[e];exact h.lt⟩
 ·rw[Z6 a];refine⟨?_,λk d=>?_⟩
  ·rw[C5,S7];refine⟨h.nd,by simp,λk d g f z=>a ?_⟩;have:g=Sum.inl (i:Int):=by simpa using f
   subst this;subst z;obtain⟨b,j,l⟩:=C3.mp d;exact Q9.mpr ⟨b,j,Z7 l⟩
  ·rw[C5]at d;rcases F9.mp d with z|z
   ·exact h.lt k z
   ·exact⟨i,m,by simpa using z⟩
structure AmOk(G:Gv)(ks:List (Key×V)):Prop where
 keys:GV G ks
 leaf:∀s:Nat,s<8->∃v,Bu ks (Sum.inl (s:Int))=some v
 val:∀(i:Nat) v,Bu ks (Sum.inl (i:Int))=some v->∃l:Nat,An G i l/\v=.int (DH G l i)
theorem AmOk.app{G b:Gv}{k:Nat}{a:List (Key×V)}(ok:GOk G)(go:AG G b k)(h:AmOk G a):AmOk b a:=⟨h.keys.app (by obtain⟨r,e⟩:=go.pre;rw[e,C4];lia),h.leaf,λi v e=>by
 obtain⟨l,c,d⟩:=h.val i v e;exact⟨l,go.lev c,by rw[JJ ok go l i c];exact d⟩⟩
theorem am0:AmOk G0 (amK 8) where
 keys:=⟨by decide +kernel,λk c=>by
  obtain⟨p,hp,rfl⟩:=C3.mp c;obtain⟨s,a,rfl⟩:=C3.mp hp;have:=M0.mp a;exact⟨s,by rw[Rx];lia,rfl⟩⟩
 leaf:=λs a=>by
  match s,a with
  |0,_=>exact⟨_,rfl⟩
  |1,_=>exact⟨_,rfl⟩
  |2,_=>exact⟨_,rfl⟩
  |3,_=>exact⟨_,rfl⟩
  |4,_=>exact⟨_,rfl⟩
  |5,_=>exact⟨_,rfl⟩
  |6,_=>exact⟨_,rfl⟩
  |7,_=>exact⟨_,rfl⟩
 val:=λi v e=>by
  have b:i<8:=by
   refine Nat.lt_of_not_le λz=>?_;rw[Tm 8 i z]at e;cases e
  refine⟨0,⟨_,Ry i b,rfl⟩,?_⟩
  match i,b with
  |0,_=>cases e;rfl
  |1,_=>cases e;rfl
  |2,_=>cases e;rfl
  |3,_=>cases e;rfl
  |4,_=>cases e;rfl
  |5,_=>cases e;rfl
  |6,_=>cases e;rfl
  |7,_=>cases e;rfl
structure Bx where
 l:Int
 t:Int
 w:Int
 h:Int
def Bx.ns(b:Bx):List Int:=[b.l,b.t,b.w,b.h]
def shB(half:Int)(k:Nat)(b:Bx):Bx:=⟨b.l+half*((k:Int)%2),b.t+half*((k:Int)/2),b.w,b.h⟩
def DR(half:Int):Nat->List (Option Bx)->List Bx
 |_,[]=>[]
 |k,none::r=>DR half (k+1) r
 |k,some b::r=>shB half k b::DR half (k+1) r
def mnL(l:List Int):Int:=l.min?.getD 0
def mxL(l:List Int):Int:=l.max?.getD 0
def OZ(bs:List Bx):Bx:=⟨mnL (bs.map (·.l)),mnL (bs.map (·.t)),mxL (bs.map λb=>b.l+b.w)-mnL (bs.map (·.l)),mxL (bs.map λb=>b.t+b.h)-mnL (bs.map (·.t))⟩
def Pz(half:Int)(obs:List (Option Bx)):Option Bx:=match DR half 0 obs with
 |[]=>none
 |b::r=>some (OZ (b::r))
def BZ(G:Gv):Nat->Nat->Option Bx
 |0,i=>if i=0 then none else some ⟨0,0,1,1⟩
 |n+1,i=>match G[i]? with
  |some q=>Pz (2^n) (q.parts.map λ(p:Int)=>BZ G n p.toNat)
  |none=>none
theorem Zr{l:List Int}{m:Int}(h:m∈l)(a:∀x∈l,m<=x):m=mnL l:=by
 unfold mnL;rw[List.min?_eq_some_iff.mpr ⟨h,a⟩];rfl
theorem Zp{l:List Int}{m:Int}(h:m∈l)(a:∀x∈l,x<=m):m=mxL l:=by
 unfold mxL;rw[List.max?_eq_some_iff.mpr ⟨h,a⟩];rfl
theorem FD{G:Gv}{n i:Nat}{q:Sq}{x y z w:Nat}(h:GU G n i q x y z w):BZ G (n+1) i=Pz (2^n) [BZ G n x,BZ G n y,BZ G n z,BZ G n w]:=by
 rw[show BZ G (n+1) i=(match G[i]? with|some q=>Pz (2^n) (q.parts.map λ(p:Int)=>BZ G n p.toNat)|none=>none)from rfl,h.g];show Pz (2^n) (q.parts.map λ(p:Int)=>BZ G n p.toNat)=_;rw[h.ps];rfl
theorem Ic{G b:Gv}{k:Nat}(ok:GOk G)(go:AG G b k):∀(n i:Nat),An G i (n:Int)->BZ b n i=BZ G n i
 |0,i,_=>rfl
 |n+1,i,h=>by
  obtain⟨q,x,y,z,w,a⟩:=BB ok h;rw[FD a,FD (a.app go),Ic ok go n x a.hx,Ic ok go n y a.hy,Ic ok go n z a.hz,Ic ok go n w a.hw]
theorem Qc{half:Int}:∀{a:List (Option Bx)},Pz half a=none ↔ ∀o∈a,o=none:=by
 intro a;have g:∀(a:List (Option Bx))(k:Nat),DR half k a=[] ↔ ∀o∈a,o=none:=by
  intro a;induction a with
  |nil=>intro k;exact⟨λ_ o c=>by simp at c,λ_=>rfl⟩
  |cons o r d =>
   intro k;cases o with
   |none =>
    rw[show DR half k (none::r)=DR half (k+1) r from rfl,d (k+1)];exact⟨λh o c=>by rcases B7.mp c with z|z;exact z;exact h o z,λh o c=>h o (C8 _ c)⟩
   |some b=>exact⟨λh=>(by cases h),λh=>(by cases h (some b) C7)⟩
 rw[<-g a 0];unfold Pz;constructor
 ·intro h;split at h
  ·assumption
  ·cases h
 ·intro h;rw[h]
theorem Lh{G:Gv}(ok:GOk G):∀(n i:Nat),An G i (n:Int)->(BZ G n i=none↔DH G n i=0)
 |0,i,_=>by
  show(if i=0 then none else some (⟨0,0,1,1⟩:Bx))=none↔(if i=0 then(0:Int)else 1)=0;split
  ·exact⟨λ_=>rfl,λ_=>rfl⟩
  ·exact⟨λh=>(by cases h),λh=>A0⟩
 |n+1,i,h=>by
  obtain⟨q,x,y,z,w,a⟩:=BB ok h;rw[FD a,Ld a,Qc];show _↔DH G n x+(DH G n y+(DH G n z+(DH G n w+0)))=0;have c:=Lh ok n x a.hx;have e:=Lh ok n y a.hy;have b:=Lh ok n z a.hz;have d:=Lh ok n w a.hw;have g:=Fy G n x;have j:=Fy G n y;have k:=Fy G n z;have nw:=Fy G n w;constructor
  ·intro h;rw[c.mp (h _ A6),e.mp (h _ A6),b.mp (h _ A6),d.mp (h _ A6)];rfl
  ·intro h o f;simp only[B7,C6,K7]at f;rcases f with rfl|rfl|rfl|rfl
   ·exact c.mpr A0
   ·exact e.mpr A0
   ·exact b.mpr A0
   ·exact d.mpr A0
theorem ZP{G r:Gv}(e:G=G0++r)(j:Nat)(h:j<48):G[8+j]?=some ⟨[(bareN j:Int),(bareN j:Int),(bareN j:Int),(bareN j:Int)],(j:Int)+1⟩:=by
 rw[e];exact JX (MB j h)
theorem JL{G:Gv}(ok:GOk G){r:Gv}(e:G=G0++r):∀(n i:Nat),n<=48->An G i (n:Int)->(BZ G n i=none↔i=bareN n)
 |0,i,_,_=>by
  show(if i=0 then none else some (⟨0,0,1,1⟩:Bx))=none↔i=0;split
  ·rename_i z;exact⟨λ_=>z,λ_=>rfl⟩
  ·rename_i z;exact⟨λh=>(by cases h),λh=>absurd h z⟩
 |n+1,i,hn,h=>by
  obtain⟨q,x,y,z,w,a⟩:=BB ok h;rw[FD a,Qc];have j:=JL ok e n x A0 a.hx;have k:=JL ok e n y A0 a.hy;have d:=JL ok e n z A0 a.hz;have l:=JL ok e n w A0 a.hw;have c:=ZP e n A0;constructor
  ·intro h;have m:=j.mp (h _ A6);have b:=k.mp (h _ A6);have t:=d.mp (h _ A6);have f:=l.mp (h _ A6);show i=8+n;refine ok.one a.g c ?_;rw[a.ps,m,b,t,f]
  ·intro h;have h:i=8+n:=h;have g:=a.g;rw[h,c]at g;cases g;have p:=a.ps;have p:[(bareN n:Int),(bareN n:Int),(bareN n:Int),(bareN n:Int)]=[(x:Int),(y:Int),(z:Int),(w:Int)]:=p;injection p with p1 p
   injection p with p2 p
   injection p with p3 p
   injection p with p4 p
   intro o s;simp only[B7,C6,K7]at s;rcases s with rfl|rfl|rfl|rfl
   ·exact j.mpr (X6 p1).symm
   ·exact k.mpr (X6 p2).symm
   ·exact d.mpr (X6 p3).symm
   ·exact l.mpr (X6 p4).symm
structure BxOk(G:Gv)(H:Hp)(ks:List (Key×V)):Prop where
 keys:GV G ks
 val:∀(i:Nat) v,Bu ks (Sum.inl (i:Int))=some v->∃(l:Nat)(b:Bx)(t:Addr),An G i l/\BZ G l i=some b/\v=.ref t/\H t=some (.tup (b.ns.map V.int))
structure AX(a:Ad)(H:Hp)(g:GA)(G:Gv):Prop where
 at':AN a H g G
 ok:GOk G
 g0:∃r,G=G0++r
 br:H g.br=some (.lst ((De 48).map V.int))
 am:∃ks,H g.am=some (.dK ks)/\AmOk G ks
 bx:∃ks,H g.bx=some (.dK ks)/\BxOk G H ks
 n1:g.br≠g.lv
 n2:g.br≠g.pt
 n3:g.am≠g.bx
theorem AX.new{a:Ad}{H b:Hp}{g:GA}(h:Tq a H b g G0 (De 48) (amK 8)):AX a b g G0:=⟨h.at',g0_ok,⟨[],by simp⟩,h.br,⟨_,h.am,am0⟩,⟨_,h.bx,⟨by simp,λk c=>by simp at c⟩,λi v e=>by cases e⟩,h.n1,h.n2,h.n3⟩
theorem AX.ne_am{a:Ad}{H:Hp}{g:GA}{G:Gv}(h:AX a H g G){b:Addr}{o:HO}(e:H b=some o)(n:∀c,o≠.dK c):b≠g.am/\b≠g.bx:=by
 obtain⟨c,i,_⟩:=h.am;obtain⟨f,d,_⟩:=h.bx;exact⟨AH e i (n _),AH e d (n _)⟩
theorem AX.same{a:Ad}{H f:Hp}{g:GA}{G:Gv}(s:AA H f)(h:AX a H g G):AX a f g G:=by
 obtain⟨at',ok,k,w,⟨q,o,r⟩,⟨c,u,d⟩,y,z,m⟩:=h;refine⟨at'.same s,ok,k,s _ _ w,⟨q,s _ _ o,r⟩,⟨c,s _ _ u,d.keys,λi v e=>?_⟩,y,z,m⟩;obtain⟨l,b,t,p,n,j,x⟩:=d.val i v e;exact⟨l,b,t,p,n,j,s _ _ x⟩
theorem AG.le{G a:Gv}{k:Nat}(go:AG G a k):G.length<=a.length:=by
 obtain⟨r,e⟩:=go.pre;rw[e,C4];lia
theorem AX.fr{a:Ad}{H c:Hp}{g:GA}{G k:Gv}{m:Nat}(h:AX a H g G)(f:Fr g H c)(d:AN a c g k)(go:AG G k m):AX a c g k:=by
 obtain⟨at',ok,⟨r,A⟩,w,⟨y,C,N⟩,⟨j,D,p⟩,n,u,B⟩:=h;obtain⟨us,hp,_⟩:=at'.pt;have keep:∀{b:Addr}{o:HO},H b=some o->(∀l,o≠.lst l)->(∀l,o≠.dT l)->c b=some o:=λ{b o} e s M=>f _ _ e (AH e at'.lv (s _)) (AH e hp (s _)) (AH e at'.nm (M _));obtain⟨t,K⟩:=go.pre;refine⟨d,go.ok,⟨r++t,by rw[K,A,R7]⟩,f _ _ w n u (AH w at'.nm A4),⟨y,keep C (by intro l z;cases z) (by intro l z;cases z),N.app ok go⟩,⟨j,keep D (by intro l z;cases z) (by intro l z;cases z),p.keys.app go.le,λi v e=>?_⟩,n,u,B⟩;obtain⟨l,b,t,q,I,x,E⟩:=p.val i v e;exact⟨l,b,t,go.lev q,by rw[Ic ok go l i q];exact I,x,keep E (by intro l z;cases z) (by intro l z;cases z)⟩
theorem AX.put{a:Ad}{H:Hp}{g:GA}{G:Gv}{l:Addr}{xs:List V}{o:HO}(h:AX a H g G)(k:H l=some (.lst xs))(q:l≠g.lv)(s:l≠g.pt)(A:l≠g.br):AX a (upd H l o) g G:=by
 obtain⟨at',ok,E,f,⟨p,u,D⟩,⟨d,y,j⟩,w,B,r⟩:=h;have c:∀{b v},H b=some v->v≠.lst xs->upd H l o b=some v:=λ{b v} e n=>by rw[Ax (AH e k n)];exact e
 refine⟨at'.put k q s,ok,E,by rw[Ax (X7 A)];exact f,⟨p,c u A4,D⟩,⟨d,c y A4,j.keys,λi v e=>?_⟩,w,B,r⟩;obtain⟨l,b,t,x,C,m,z⟩:=j.val i v e;exact⟨l,b,t,x,C,m,c z A4⟩
def FrQ(g:GA)(H H':Hp):Prop:=∀b o,H b=some o->b≠g.am->b≠g.bx->H' b=some o
theorem FrQ.refl(g:GA)(H:Hp):FrQ g H H:=λ_ _ e _ _=>e
theorem FrQ.trans{g:GA}{c a i:Hp}(h:FrQ g c a)(j:FrQ g a i):FrQ g c i:=λb o e f d=>j b o (h b o e f d) f d
theorem AA.frq{g:GA}{c a:Hp}(h:AA c a):FrQ g c a:=λb o e _ _=>h b o e
theorem AN.dict{a:Ad}{H:Hp}{g:GA}{G:Gv}{d:Addr}{f:List (Key×V)}{o:HO}(l:H d=some (.dK f))(h:AN a H g G):AN a (upd H d o) g G:=by
 obtain⟨i,m,⟨r,p,s⟩,j,k⟩:=h;have c:∀{b v},H b=some v->v≠.dK f->upd H d o b=some v:=λ{b v} e n=>by rw[Ax (AH e l n)];exact e
 exact⟨c i A4,c m A4,⟨r,c p A4,PairedM.imp (λt q z=>c z A4) s⟩,c j A4,k⟩
theorem AX.bx_put{a:Ad}{H:Hp}{g:GA}{G:Gv}{k ks2:List (Key×V)}(h:AX a H g G)(e:H g.bx=some (.dK k))(m:BxOk G H ks2):AX a (upd H g.bx (.dK ks2)) g G/\FrQ g H (upd H g.bx (.dK ks2)):=by
 obtain⟨at',ok,q,y,⟨f,w,x⟩,⟨_,_,_⟩,A,B,j⟩:=h;have c:∀{b v},H b=some v->v≠.dK k->upd H g.bx (.dK ks2) b=some v:=λ{b v} d n=>by rw[Ax (AH d e n)];exact d
 refine⟨⟨at'.dict e,ok,q,c y A4,⟨f,by rw[Ax j];exact w,x⟩,⟨_,Af,m.keys,λi v e=>?_⟩,A,B,j⟩,λb o d _ u=>by rw[Ax u];exact d⟩;obtain⟨l,b,t,s,r,p,z⟩:=m.val i v e;exact⟨l,b,t,s,r,p,c z A4⟩
theorem SG(g:GA):(fl6 g).lookup ("boxed" : Str)=none:=IV g A1 A1 A1 A1 A1 A1
theorem SE(g:GA):(fl6 g).lookup ("measured" : Str)=none:=IV g A1 A1 A1 A1 A1 A1
theorem no_span(g:GA):(fl6 g).lookup ("span" : Str)=none:=IV g A1 A1 A1 A1 A1 A1
seal L2.PA L2.PE L2.PS L2.PSs L2.PT L2.PW
theorem GU.mem{G:Gv}{n i:Nat}{q:Sq}{x y z w:Nat}(h:GU G n i q x y z w){j:Nat}{v:V}(e:(q.parts.map V.int)[j]?=some v):∃k:Nat,v=.int k/\An G k n/\q.parts[j]?=some (k:Int):=by
 rw[B8]at e;obtain⟨p,hp,rfl⟩:=D8.mp e;have a:=D7 hp;rw[h.ps]at a;simp only[B7,C6,K7]at a;rcases a with rfl|rfl|rfl|rfl
 ·exact⟨x,rfl,h.hx,hp⟩
 ·exact⟨y,rfl,h.hy,hp⟩
 ·exact⟨z,rfl,h.hz,hp⟩
 ·exact⟨w,rfl,h.hw,hp⟩
section
variable{P:Program}{w:World}{K:W.Frag}{mg:Str->Option Value}{base:Heap}{a:Ad}
end
theorem Pd(half:Int):∀(l r:List (Option Bx))(k:Nat),DR half k (l++r)=DR half k l++DR half (k+l.length) r
 |[],r,k=>rfl
 |none::l,r,k=>by
  show DR half (k+1) (l++r)=DR half (k+1) l++DR half (k+(l.length+1)) r;rw[Pd half l r (k+1),show k+1+l.length=k+(l.length+1) by lia]
 |some b::l,r,k=>by
  show shB half k b::DR half (k+1) (l++r)=shB half k b::(DR half (k+1) l++DR half (k+(l.length+1)) r);rw[Pd half l r (k+1),show k+1+l.length=k+(l.length+1) by lia]
theorem Mz(half:Int):∀(l:List (Option Bx))(k:Nat),(DR half k l).length<=l.length
 |[],k=>C1 _
 |none::l,k=>D0 (Mz half l (k+1)) (T1 _)
 |some b::l,k=>R9 (Mz half l (k+1))
theorem PairedM.getL{α β:Type}{F:α->β->Prop}:∀{l:List α}{m:List β}{i:Nat}{x:α},Paired F l m->l[i]?=some x->∃y,m[i]?=some y/\F x y
 |_,_,_,_,.nil,e=>by simp at e
 |_,_,0,_,.cons r _,e=>by simp at e;subst e;exact⟨_,rfl,r⟩
 |_,_,i+1,x,.cons _ t,e=>by
  obtain⟨y,b,a⟩:=PairedM.getL (i:=i) (x:=x) t (by simpa using e);exact⟨y,by simpa using b,a⟩
def Nr(H:Hp)(t:Addr)(b:Bx):Prop:=H t=some (.tup (b.ns.map V.int))
theorem Oh{β:Type}{K:W.Frag}{k:Nat}{cs:List Nat}{g:TG}{tc:TT}{h:TE}{σ:St}{H:Hp}{fin:List V->Hp->Prop}{D:Addr->β->Prop}{L:Addr}{c:List Addr}{bs:List β}(col:β->Int)(q:H L=some (.lst (c.map V.ref)))(f:Paired D c bs)(few:c.length<1000)
  (p:∀t b a N,D t b->a.length<sizeLine->N (a++[.int (col b)]) H->Bt k cs g tc h σ (.ref t) a H N) (n:fin ((bs.map col).map V.int) H):Gq k cs g tc h (Itl K L) σ H fin:=by
 have m:c.length=bs.length:=A0a f;refine Dt (xs:=c.map V.ref) (λj a e=>H=e/\a=((bs.take j).map col).map V.int) ⟨rfl,rfl⟩ (λj a e _ z=>z.1▸SqL.of q) ?_ ?_
 ·rintro j v a e i ⟨rfl,rfl⟩;rw[B8]at i;obtain⟨t,l,rfl⟩:=D8.mp i;obtain⟨b,o,d⟩:=PairedM.getL f l;refine p t b _ _ d (by rw[B5,B5,L8];exact DL A0) ⟨rfl,?_⟩;rw[L6,o,C5,C5];rfl
 ·rintro a e ⟨rfl,rfl⟩;rw[B5,m,M4];exact n
section
variable{P:Program}{w:World}{K:W.Frag}{mg:Str->Option Value}{base:Heap}{a:Ad}
inductive VL(vs:List V)(H:Hp)(Q:VK):Prop
 |mk (t:Addr) (b:Bx) (dx dy:Int) (_:vs=[.ref t,.int dx,.int dy]) (_:Nr H t b) (_:∀t',H t'=none->Q (.ref t') (upd H t' (.tup [.int (b.l+dx),.int (b.t+dy),.int b.w,.int b.h]))):VL vs H Q
def JO:Sp:=λvs H Q _=>VL vs H Q
theorem YU(F:Fun K "shifted_box" "shifted_box" Gx f fd)(T:Top K mg a):AL P w K mg base CX0 1 f fd PB JO:=by
  refine F.ok Ov (λ_ _ _ _ h=>by rcases h;subst_vars;rfl) λe A d s H vs Q E g h=>?_
  obtain⟨t,b,dx,dy,rfl,c,k⟩:=h;have c:H t=some (.tup [.int b.l,.int b.t,.int b.w,.int b.h]):=c;refine⟨_,(Ah (As (Bk (AV Bb (Aj Ak (pv 0) Ac (λ_ _=>rfl)) (pv 1) (AV Bb (Aj Ak (pv 0) Ac (λ_ _=>rfl)) (pv 2) (Aa (Aj Ak (pv 0) Ac (λ_ _=>rfl)) (Aa (Aj Ak (pv 0) Ac (λ_ _=>rfl)) Ae))))))),?_⟩
  try dsimp only[cxK]
  refine xwi rfl rfl rfl (SqT.of c) (Ai (j:=0) rfl) (xwb rfl rfl rfl (xwi rfl rfl rfl (SqT.of c) (Ai (j:=1) rfl) (xwb rfl rfl rfl (xwi rfl rfl rfl (SqT.of c) (Ai (j:=2) rfl) (xwi rfl rfl rfl (SqT.of c) (Ai (j:=3) rfl) ⟨(by show 4<=sizeLine;decide),λt' n=>k t' n⟩)))))
inductive VP(vs:List V)(H:Hp)(Q:VK):Prop
 |mk (L:Addr) (ts:List Addr) (bs:List Bx) (_:vs=[.ref L]) (_:H L=some (.lst (ts.map V.ref))) (_:Paired (Nr H) ts bs) (_:bs≠[]) (_:ts.length<1000) (_:∀t' H',AA H H'->Nr H' t' (OZ bs)->Q (.ref t') H'):VP vs H Q
def NS:Sp:=λvs H Q _=>VP vs H Q
theorem Za(F:Fun K "least_box" "least_box" CW f fd)(T:Top K mg a):AL P w K mg base CX0 1 f fd Gm NS:=by
  refine F.ok DV (λ_ _ _ _ h=>by rcases h;subst_vars;rfl) λaa A S s H vs Q E hr h=>?_
  obtain⟨L,I,bs,rfl,q,y,ne,few,k⟩:=h;have c:∀col:Bx->Int,bs.map col≠[]:=λcol z=>ne (Q8.mp z);refine⟨_,(Ab (Ao (i:=1) DV.nd rfl (Or.inl rfl) (AQ (Qv rfl) rfl T.b_min A2f (Aa (Di rfl (BM.of (So:=Al CW) (No:=ES) (N:=["box"]) (k:=1) (cs:=[]) rfl rfl A1) (CO (pv 0)) (λ_ _ _=>(Bo (i:=0) A1 rfl rfl)) (λ_ _ _=>BX) (λ_ _ _=>(Aj (IT (K:=K) rfl) (pv 0) Ac (λ_ _=>rfl)))) Ae))) (Ab (Ao (i:=2) DV.nd rfl (Or.inl rfl) (AQ (Qv rfl) rfl T.b_min A2f (Aa (Di rfl (BM.of (So:=Al CW) (No:=ES) (N:=["box"]) (k:=1) (cs:=[]) rfl rfl A1) (CO (pv 0)) (λ_ _ _=>(Bo (i:=0) A1 rfl rfl)) (λ_ _ _=>BX) (λ_ _ _=>(Aj (IT (K:=K) rfl) (pv 0) Ac (λ_ _=>rfl)))) Ae))) (Ab (Ao (i:=3) DV.nd rfl (Or.inl rfl) (AQ (Nl rfl) rfl T.b_max A2g (Aa (Di rfl (BM.of (So:=Al CW) (No:=ES) (N:=["box"]) (k:=1) (cs:=[]) rfl rfl A1) (CO (pv 0)) (λ_ _ _=>(Bo (i:=0) A1 rfl rfl)) (λ_ _ _=>BX) (λ_ _ _=>(AE Bb (Aj (IT (K:=K) rfl) (pv 0) Ac (λ_ _=>rfl)) (Aj (IT (K:=K) rfl) (pv 0) Ac (λ_ _=>rfl))))) Ae))) (Ab (Ao (i:=4) DV.nd rfl (Or.inl rfl) (AQ (Nl rfl) rfl T.b_max A2g (Aa (Di rfl (BM.of (So:=Al CW) (No:=ES) (N:=["box"]) (k:=1) (cs:=[]) rfl rfl A1) (CO (pv 0)) (λ_ _ _=>(Bo (i:=0) A1 rfl rfl)) (λ_ _ _=>BX) (λ_ _ _=>(AE Bb (Aj (IT (K:=K) rfl) (pv 0) Ac (λ_ _=>rfl)) (Aj (IT (K:=K) rfl) (pv 0) Ac (λ_ _=>rfl))))) Ae))) (Ah (As (Bk (Aa (pv 1) (Aa (pv 2) (AV AS (pv 3) (pv 1) (AV AS (pv 4) (pv 2) Ae))))))))))),?_⟩
  try dsimp only[cxK]
  refine xq1 rfl ⟨L,rfl,⟨_,SqL.of q⟩,Oh (·.l) q y few (λt b g N d m e=>⟨⟨[some (.ref t)],rfl,rfl⟩,m,Ii (xwi rfl rfl rfl (SqT.of d) (Ai (j:=0) rfl) e)⟩) λq1 h1=>?_⟩;refine⟨q1,(xq1 rfl ⟨SqL.of Af,c _,λm1 G C=>?_⟩)⟩;obtain rfl:=Zr G C;have v:=Ar (o:=.lst ((bs.map (·.l)).map V.int)) h1;generalize upd H q1 (.lst ((bs.map (·.l)).map V.int))=H1 at v⊢;have n:=v _ _ q;have Z:Paired (Nr H1) I bs:=PairedM.imp (λt b z=>v _ _ z) y;refine xq1 rfl ⟨L,rfl,⟨_,SqL.of n⟩,Oh (·.t) n Z few (λt b g N d m e=>⟨⟨[some (.ref t)],rfl,rfl⟩,m,Ii (xwi rfl rfl rfl (SqT.of d) (Ai (j:=1) rfl) e)⟩) λq2 h2=>?_⟩;refine⟨q2,(xq1 rfl ⟨SqL.of Af,c _,λm2 Y U=>?_⟩)⟩;obtain rfl:=Zr Y U;have u:=v.trans (Ar (o:=.lst ((bs.map (·.t)).map V.int)) h2);generalize upd H1 q2 (.lst ((bs.map (·.t)).map V.int))=H2 at u⊢;have r:=u _ _ q;have D:Paired (Nr H2) I bs:=PairedM.imp (λt b z=>u _ _ z) y;refine xq1 rfl ⟨L,rfl,⟨_,SqL.of r⟩,Oh (λb=>b.l+b.w) r D few (λt b g N d m e=>⟨⟨[some (.ref t)],rfl,rfl⟩,m,Ii (xwi rfl rfl rfl (SqT.of d) (Ai (j:=0) rfl) (xwi rfl rfl rfl (SqT.of d) (Ai (j:=2) rfl) (xq2 rfl rfl e)))⟩) λq3 h3=>?_⟩;refine⟨q3,(xq1 rfl ⟨SqL.of Af,c _,λm3 O X=>?_⟩)⟩;obtain rfl:=Zp O X;have x:=u.trans (Ar (o:=.lst ((bs.map λb=>b.l+b.w).map V.int)) h3);generalize upd H2 q3 (.lst ((bs.map λb=>b.l+b.w).map V.int))=H3 at x⊢;have p:=x _ _ q;have M:Paired (Nr H3) I bs:=PairedM.imp (λt b z=>x _ _ z) y;refine xq1 rfl ⟨L,rfl,⟨_,SqL.of p⟩,Oh (λb=>b.t+b.h) p M few (λt b g N d m e=>⟨⟨[some (.ref t)],rfl,rfl⟩,m,Ii (xwi rfl rfl rfl (SqT.of d) (Ai (j:=1) rfl) (xwi rfl rfl rfl (SqT.of d) (Ai (j:=3) rfl) (xq2 rfl rfl e)))⟩) λq4 h4=>?_⟩;refine⟨q4,(xq1 rfl ⟨SqL.of Af,c _,λm4 R B=>?_⟩)⟩;obtain rfl:=Zp R B;have s4:=x.trans (Ar (o:=.lst ((bs.map λb=>b.t+b.h).map V.int)) h4);generalize upd H3 q4 (.lst ((bs.map λb=>b.t+b.h).map V.int))=H4 at s4⊢;exact xw3 rfl rfl rfl (xwb rfl rfl rfl (xw2 rfl rfl (xq2 rfl rfl ⟨(by show 4<=sizeLine;decide),λt5 h5=>k t5 _ (s4.trans (Ar h5)) Af⟩)))
inductive SpBox(a:Ad)(n:Nat)(vs:List V)(H:Hp)(Q:VK):Prop
 |mk (g:GA) (G:Gv) (i l:Nat) (_:vs=[.ref g.p,.int i]) (_:AX a H g G) (_:An G i l) (_:l<n) (_:G.length<9000000) (_:(BZ G l i=none->∀H',FrQ g H H'->AX a H' g G->Q .non H')) (_:∀b,BZ G l i=some b->∀t H',FrQ g H H'->AX a H' g G->Nr H' t b->Q (.ref t) H'):SpBox a n vs H Q
def Sg(a:Ad)(n:Nat):Sp:=λvs H Q _=>SpBox a n vs H Q
inductive SpMea(a:Ad)(n:Nat)(vs:List V)(H:Hp)(Q:VK):Prop
 |mk (g:GA) (G:Gv) (i l:Nat) (b:Bx) (_:vs=[.ref g.p,.int i]) (_:AX a H g G) (_:An G i l) (_:l<n) (_:G.length<9000000) (_:BZ G l i=some b) (_:∀t H',FrQ g H H'->AX a H' g G->Nr H' t b->Q (.ref t) H'):SpMea a n vs H Q
def spMea(a:Ad)(n:Nat):Sp:=λvs H Q _=>SpMea a n vs H Q
theorem QH(m:Nat){l:Int}(e:l=(m:Int)+1):(1:Int)*2^(l-1).toNat=2^m:=by
 rw[e,Int.one_mul,show((m:Int)+1-1).toNat=m by lia]
theorem ok_mea{n d:Nat}(F:Fun K "measured" "Grove.measured" Dh f fd)(T:Top K mg a)(hd:1<=d)(aC:Cal P w K mg base CX0 1 "shifted_box" PB JO)(aZ:Cal P w K mg base CX0 1 "least_box" Gm NS)(aW:Cb P w K mg base CX0 d a.c_Grove "boxed" JF (Sg a n)):AL P w K mg base CX0 (d+1) f fd JF (spMea a (n+1)):=by
 refine F.ok Bv (λvs H Q E h=>?_) (λao A am s H vs Q E hr h=>?_)
 ·obtain⟨g,G,i,l,b,rfl,_⟩:=h;rfl
 ·obtain⟨g,G,i,l,b,rfl,N,hl,ln,few,eb,k⟩:=h;obtain⟨q0,e0,l0⟩:=id hl;refine⟨_,(Ab (Ao (i:=2) Bv.nd rfl (Or.inl rfl) (Aj Av (AC (pv 0) rfl) (pv 1) (λ_ _=>rfl))) (Ab (AM (Ay CQ (pv 2) Ac (AD _)) (Ah (As (Bk (AR (AR (AR (AR Ae))))))) AB) (Ab (Ao (i:=3) Bv.nd rfl (Or.inl rfl) (AE MY Ac (AE AS (pv 2) Ac))) (Ab (Ao (i:=4) Bv.nd rfl (Or.inl rfl) (CA Ae)) (Ab (DA K8 rfl (NY true rfl T.b_enumerate (Aa (Aj Av (AC (pv 0) rfl) (pv 1) (λ_ _=>rfl)) Ae)) (OL rfl (Dq (BQ (i:=5) Bv.nd rfl (Or.inl rfl)) (Dq (BQ (i:=6) Bv.nd rfl (Or.inl rfl)) Mo))) (Ab (Ao (i:=7) Bv.nd rfl (Or.inl rfl) (AI (pv 0) aW (rm hr) Aq (Aa (pv 6) Ae))) (Ah (AM (Ay Ms (pv 7) Bz (AD _)) (Ah (BP (DK K0 K1 K2 BS (pv 4) (Aa (Aw aC (rm hr) rfl Aq (Aa (pv 7) (AV EB (pv 3) (AE BH (pv 5) Ac) (AV EB (pv 3) (AE CP (pv 5) Ac) Ae)))) Ae)))) AB)))) (Ah (As (Aw aZ (rm hr) rfl Aq (Aa (pv 4) Ae))))))))),?_⟩
  try dsimp only[cxK]
  refine⟨_,rfl,g.p,_,g.dx,_,_,rfl,N.at'.hp,T.cl_Grove,T.na_Grove_levels,ED g,_,rfl,g.lv,_,(i:Int),.int q0.lev,rfl,rfl,SqL.of N.at'.lv,Ai (by rw[B8,e0];rfl),?_⟩;cases l with
  |zero =>
   rw[l0];refine xq1 rfl ⟨rfl,(xq1 rfl (BL ⟨(by show 4<=sizeLine;decide),λt Y=>?_⟩))⟩;have e:b=⟨0,0,1,1⟩:=by
    have eb:(if i=0 then none else some (⟨0,0,1,1⟩:Bx))=some b:=eb;split at eb
    ·cases eb
    ·cases eb;rfl
   subst e;have sm:=Ar (o:=.tup [.int 0,.int 0,.int 1,.int 1]) Y;exact k t _ (AA.frq sm) (N.same sm) Af
  |succ m =>
   have ak:q0.lev=(m:Int)+1:=by rw[l0];lia
   refine xq1 rfl ⟨rfl,(xq1 rfl ?_)⟩;rw[Z8 (by intro z;injection z with z;lia)];obtain⟨q,x,y,z,w,C⟩:=BB N.ok hl;obtain⟨ts,h3,h4⟩:=N.at'.pt;obtain⟨t,et,Y⟩:=PairedM.get h4 C.g;have Y:H t=some (.tup (q.parts.map V.int)):=Y;have nt:=N.ne_am Y (by intro l z;cases z);refine Ba (xwb rfl rfl rfl (xq2 rfl rfl ⟨⟨by lia,by have:=(N.ok.lev e0).2;lia,by decide⟩,?_⟩));rw[show(λ(i j:Int)=>V.int (i*2^j.toNat)) 1 (q0.lev-1)=V.int (2^m)from K5 V.int (QH m ak)];refine⟨(by show 0<=sizeLine;decide),λL hL=>?_⟩;have m1:L≠g.lv:=X7 (Az N.at'.lv hL);have m2:L≠g.pt:=X7 (Az h3 hL);have m3:L≠g.br:=X7 (Az N.br hL);have s1:=Ar (o:=.lst []) hL;have af:upd H L (.lst []) L=some (.lst []):=Af;generalize upd H L (.lst [])=H1 at s1 af⊢;have ae:=N.same s1;have al:=s1 _ _ h3;have ah:=s1 _ _ Y;generalize D:[BZ G m x,BZ G m y,BZ G m z,BZ G m w]=r;have B:r.length=4:=by rw[<-D];rfl
   have ag:BZ G (m+1) i=Pz (2^m) r:=by rw[FD C,D]
   have ac:∀(j k:Nat),q.parts[j]?=some (k:Int)->r[j]?=some (BZ G m k):=by
    intro j k e;rw[C.ps]at e;rw[<-D]
    match j,e with
    |0,e=>have e:some (x:Int)=some (k:Int):=e;rw[show x=k from X6 (X5 e)];rfl
    |1,e=>have e:some (y:Int)=some (k:Int):=e;rw[show y=k from X6 (X5 e)];rfl
    |2,e=>have e:some (z:Int)=some (k:Int):=e;rw[show z=k from X6 (X5 e)];rfl
    |3,e=>have e:some (w:Int)=some (k:Int):=e;rw[show w=k from X6 (X5 e)];rfl
    |j+4,e=>simp at e
   refine xwf rfl rfl ae.at'.hp T.cl_Grove T.na_Grove_parts (Cd g) (xwi rfl rfl rfl (SqL.of al) (Ai (by rw[B8,et];rfl)) ⟨t,rfl,⟨_,SqT.of ah⟩,?_⟩);refine MC (b:=true) (xs:=q.parts.map V.int) (λj σ S=>∃(us:List Addr)(u5 u6 u7:Option V),σ=[some (.ref g.p),some (.int i),some (.int q0.lev),some (.int (2^m)),some (.ref L),u5,u6,u7]/\FrQ g H S/\AX a S g G/\S L=some (.lst (us.map V.ref))/\Paired (Nr S) us (DR (2^m) 0 (r.take j))) ⟨[],none,none,none,rfl,AA.frq s1,ae,af,.nil⟩ (λj σ S _ ⟨_,_,_,_,_,fr,_⟩=>SqT.of (fr _ _ Y nt.1 nt.2)) ?_ ?_
   ·rintro j v σ S T' ev ⟨us,u5,u6,u7,rfl,fr,aa,Z,pr⟩ nT;obtain⟨k',rfl,hk,ek⟩:=C.mem ev;have eo:=ac j k' ek;have hj:j<4:=by rw[<-B];exact(B6.mp eo).1
    have lu:us.length<=4:=by
     rw[A0a pr];have:=Mz (2^m) (r.take j) 0;rw[L8]at this;lia
    have s2:=Ar (o:=.tup [.int j,.int k']) nT;refine SX Af ?_;generalize upd S T' (.tup [.int j,.int k'])=H3 at s2⊢;have R:=aa.same s2;have ge:DR (2^m) 0 (r.take (j+1))=DR (2^m) 0 (r.take j)++DR (2^m) j [BZ G m k']:=by
     rw[L6,eo,S4,Pd,L8,B,N6,Nat.min_eq_left A0]
    have nL:∀{I:Hp},FrQ g H3 I->I L=some (.lst (us.map V.ref)):=λ{I} f4=>by
     have:=s2 _ _ Z;have n:=R.ne_am this (by intro l z;cases z);exact f4 _ _ this n.1 n.2
    have nP:∀{I:Hp},FrQ g H3 I->Paired (Nr I) us (DR (2^m) 0 (r.take j)):=λ{I} f4=>PairedM.imp (λt b z=>by
     have:=s2 _ _ z;have n:=R.ne_am this (by intro l z;cases z);exact f4 _ _ this n.1 n.2) pr
    refine xq1 rfl ⟨g.p,g.dx,(xq1 rfl ⟨R.at'.hp,SG g,(xq1 rfl ⟨g,G,k',m,rfl,R,hk,by lia,few,λen I f4 U=>?_,λu ai t4 I f4 U an=>?_⟩)⟩)⟩
    ·refine xq1 rfl ⟨rfl,(xq1 rfl (Ba ⟨us,_,_,_,rfl,(fr.trans (AA.frq s2)).trans f4,U,nL f4,?_⟩))⟩;rw[ge,en];show Paired _ us (_++[]);rw[V9];exact nP f4
    ·refine xq1 rfl ⟨rfl,(xq1 rfl (BL ?_))⟩;refine xq1 rfl ⟨.inl ⟨rfl,_,SqL.of (nL f4)⟩,(xw3 rfl rfl rfl (xq2 rfl rfl ⟨B2,(xq2 rfl rfl ⟨.inr ⟨by lia,by lia⟩,(xw2 rfl rfl (xq2 rfl rfl ⟨⟨by decide,by decide⟩,(xq2 rfl rfl ⟨.inr ⟨by lia,by lia⟩,?_⟩)⟩))⟩)⟩))⟩;refine⟨t4,u,_,_,rfl,an,λt5 h5=>?_⟩;have s5:=Ar (o:=.tup [.int (u.l+2^m*((j:Int)%2)),.int (u.t+2^m*((j:Int)/2)),.int u.w,.int u.h]) h5;have ad:Nr (upd I t5 (.tup [.int (u.l+2^m*((j:Int)%2)),.int (u.t+2^m*((j:Int)/2)),.int u.w,.int u.h])) t5 (shB (2^m) j u):=Af;generalize upd I t5 (.tup [.int (u.l+2^m*((j:Int)%2)),.int (u.t+2^m*((j:Int)/2)),.int u.w,.int u.h])=H5 at s5 ad⊢;have X:=s5 _ _ (nL f4);have aj:=U.same s5;refine⟨L,(xq2 rfl rfl ⟨X,by rw[B5];exact DL A0,?_⟩)⟩;have M:∀{c:Addr}{l:List V},H5 c=some (.tup l)->upd H5 L (.lst (us.map V.ref++[.ref t5])) c=some (.tup l):=λ{c l} e=>by rw[Ax (AH e X A4)];exact e
     refine⟨us++[t5],_,_,_,rfl,?_,aj.put X m1 m2 m3,by rw[Af,C5];rfl,?_⟩
     ·intro c o e n1 n2;have e5:=s5 _ _ (((fr.trans (AA.frq s2)).trans f4) _ _ e n1 n2);rw[Ax (Az e hL)];exact e5
     ·rw[ge,ai];exact A2e (PairedM.imp (λc b z=>M (s5 _ _ z)) (nP f4)) (M ad)
   ·rintro σ S ⟨us,u5,u6,u7,rfl,fr,aa,Z,pr⟩;rw[B5,show q.parts.length=r.length by rw[C.ps,B];rfl,M4]at pr;have O:Pz (2^m) r=some b:=by rw[<-ag];exact eb
    have lu:us.length<=4:=by
     rw[A0a pr];have:=Mz (2^m) r 0;lia
    have e3:DR (2^m) 0 r≠[]/\OZ (DR (2^m) 0 r)=b:=by
     unfold Pz at O;split at O
     ·cases O
     ·rename_i b1 r1 eg;rw[eg];exact⟨A4,X5 O⟩
    refine xq1 rfl ⟨L,us,_,rfl,Z,pr,e3.1,by lia,λt' H' s' ab=>?_⟩;rw[e3.2]at ab;exact k t' H' (fr.trans (AA.frq s')) (aa.same s') ab
theorem bareL_at{l:Nat}(h:l<=48):((De 48).map V.int)[l]?=some (.int (bareN l:Int)):=by
 unfold De;rw[B8,B8,O7 A0];rfl
theorem ok_boxS{n d:Nat}(F:Fun K "boxed" "Grove.boxed" EJ f fd)(T:Top K mg a)(cK:Cb P w K mg base CX0 d a.c_Grove "measured" JF (spMea a n)):AL P w K mg base CX0 (d+1) f fd JF (Sg a n):=by
  refine F.ok DZ (λ_ _ _ _ h=>by rcases h;subst_vars;rfl) λaa A R s H vs Q E U h=>?_
  obtain⟨g,G,i,l,rfl,c,x,ln,few,k1,k2⟩:=h;obtain⟨q0,Y,l0⟩:=id x;have I:l<=48:=by have:=(c.ok.lev Y).2;lia
  obtain⟨ks,y,C⟩:=c.bx;have lk:=C.keys.len;obtain⟨r,eg⟩:=c.g0;have X:=JL c.ok eg l i I x;refine⟨_,(Ab (AM (Ay CQ (pv 1) (Aj Av (AC (pv 0) rfl) (Aj Av (AC (pv 0) rfl) (pv 1) (λ_ _=>rfl)) (λ_ _=>rfl)) (AD _)) (Ah (As Bz)) AB) (Ab (Ao (i:=2) DZ.nd rfl (Or.inl rfl) (FQ (Ek U) (AC (pv 0) rfl) (pv 1) ⟨rfl,rfl,rfl,rfl⟩)) (Ab (AM (Ay FZ (pv 2) Bz (AD _)) (Ab (Ao (i:=2) DZ.nd rfl (Or.inl rfl) (AI (pv 0) cK (rm U) Aq (Aa (pv 1) Ae))) (Ah (Fn (Ek U) (AC (pv 0) rfl) (pv 1) (pv 2) rfl))) AB) (Ah (As (pv 2)))))),?_⟩
  try dsimp only[cxK]
  refine xw2 rfl rfl (xq5 c.at'.hp T.cl_Grove T.na_Grove_bares (GR g) (xwf rfl rfl c.at'.hp T.cl_Grove T.na_Grove_levels (ED g) (xwi rfl rfl rfl (SqL.of c.at'.lv) (Ai (by rw[B8,Y];rfl)) (xq4 rfl rfl (SqL.of c.br) (by rw[l0];exact Ai (bareL_at I)) ⟨rfl,(xq1 rfl ?_)⟩))));refine Fw (λO=>?_) (λO=>?_)
  ·have ei:i=bareN l:=by
    have:=X8 O;injection this with this
    exact X6 this
   exact k1 (X.mpr ei) H (FrQ.refl g H) c
  ·have ne:¬i=bareN l:=λz=>O (by rw[z];exact Z7 rfl);obtain⟨b,B⟩:∃b,BZ G l i=some b:=by
    cases e:BZ G l i with
    |none=>exact absurd (X.mp e) ne
    |some b=>exact⟨b,rfl⟩
   refine xwf rfl rfl c.at'.hp T.cl_Grove T.na_Grove_boxes (ZV g) ⟨g.bx,rfl,.inl ⟨_,.inl y⟩,(xq1 rfl ⟨_,Ie.k (k:=Sum.inl (i:Int)) y,?_⟩)⟩;cases e:Bu ks (Sum.inl (i:Int))with
   |some v =>
    obtain⟨l',b',t,S,D,rfl,ht⟩:=C.val i v e;have el:l'=l:=X6 (S.uniq x);subst el;rw[B]at D;cases D;exact xq1 rfl ⟨rfl,(xq1 rfl (Ba (xq1 rfl (k2 b B t H (FrQ.refl g H) c ht))))⟩
   |none =>
    refine xq1 rfl ⟨rfl,(xq1 rfl (BL (xq1 rfl ⟨g.p,g.dx,(xq1 rfl ⟨c.at'.hp,SE g,(xq1 rfl ⟨g,G,i,l,b,rfl,c,x,ln,few,B,λt H2 f2 o u=>?_⟩)⟩)⟩)))⟩;obtain⟨ks2,q,m⟩:=o.bx;have Z:=m.keys.len;obtain⟨N,V⟩:=o.bx_put q (ks2:=DQ ks2 (Sum.inl (i:Int)) (.ref t)) ⟨m.keys.put x.lt _,λj v M=>by
     rw[EN]at M;split at M
     ·rename_i z;injection z with z
      have:j=i:=X6 z;subst this;cases M;exact⟨l,b,t,x,B,rfl,u⟩
     ·exact m.val j v M⟩
    have nt:=o.ne_am u (by intro l z;cases z);exact xw2 rfl rfl (xq5 o.at'.hp T.cl_Grove T.na_Grove_boxes (ZV g) (xq1 rfl ⟨g.bx,(xq1 rfl ⟨MJ.k (k:=Sum.inl (i:Int)) q (DL A0),(xq1 rfl (k2 b B t _ (f2.trans V) N (V _ _ u nt.1 nt.2)))⟩)⟩))
theorem Zg{f:Addr}{j:FuncData}{o:Addr}{b:FuncData}(F:Fun K "boxed" "Grove.boxed" EJ f j)(u:Fun K "measured" "Grove.measured" Dh o b)(T:Top K mg a)(p:PQ K a.c_Grove "boxed" f)(q:Cv K j JF [])(c:PQ K a.c_Grove "measured" o)(e:Cv K b JF [])
  (t:Cal P w K mg base CX0 1 "shifted_box" PB JO) (r:Cal P w K mg base CX0 1 "least_box" Gm NS):∀n,AL P w K mg base CX0 (2*n+2) f j JF (Sg a n)
 |0=>by
  refine F.ok DZ (λvs H Q E h=>?_) (λv A k s H vs Q E x h=>?_)
  ·obtain⟨g,G,i,l,rfl,_,_,m,_⟩:=h;exact absurd m (F8 _)
  ·obtain⟨g,G,i,l,rfl,_,_,m,_⟩:=h;exact absurd m (F8 _)
 |n+1=>ok_boxS F T ⟨⟨o,b,ok_mea (d:=2*n+2) u T A0 t r ⟨⟨f,j,Zg F u T p q c e t r n,p,q⟩,T.cl_Grove⟩,c,e⟩,T.cl_Grove⟩
inductive SpSpan(a:Ad)(vs:List V)(H:Hp)(Q:VK):Prop
 |mk (g:GA) (G:Gv) (i l:Nat) (_:vs=[.ref g.p,.int i]) (_:AX a H g G) (_:An G i l) (_:G.length<9000000) (_:(BZ G l i=none->∀H',FrQ g H H'->AX a H' g G->Q .non H')) (_:∀b,BZ G l i=some b->∀t H',FrQ g H H'->AX a H' g G->Nr H' t b->Q (.ref t) H'):SpSpan a vs H Q
def Tt(a:Ad):Sp:=λvs H Q _=>SpSpan a vs H Q
theorem ok_span(F:Fun K "span" "Grove.span" Iz f fd)(T:Top K mg a)(m:Cb P w K mg base CX0 2 a.c_Grove "check_square" JF (UV a))(n:Cb P w K mg base CX0 100 a.c_Grove "boxed" JF (Sg a 49)):AL P w K mg base CX0 101 f fd JF (Tt a):=by
  refine F.ok Px (λ_ _ _ _ h=>by rcases h;subst_vars;rfl) λo A d s H vs Q E k h=>?_
  obtain⟨g,G,i,l,rfl,b,c,few,k0,k1⟩:=h;refine⟨_,(Ab (BP (AI (pv 0) m (rm k) Aq (Aa (pv 1) Ae))) (Ah (As (AI (pv 0) n (rm k) Aq (Aa (pv 1) Ae))))),?_⟩
  try dsimp only[cxK]
  have j:l<49:=by
   obtain⟨q,e,r⟩:=id c;have:=(b.ok.lev e).2;lia
  refine xq1 rfl ⟨g.p,g.dx,(xq1 rfl ⟨b.at'.hp,SF g,(xq1 rfl ⟨g,G,i,rfl,b.at',c.lt,?_⟩)⟩)⟩;exact xq1 rfl ⟨g.p,g.dx,(xq1 rfl ⟨b.at'.hp,SG g,(xq1 rfl ⟨g,G,i,l,rfl,b,c,j,few,k0,k1⟩)⟩)⟩
end
def atN(ns:List Int)(k:Int):Int:=ns.getD k.toNat 0
section
variable{P:Program}{w:World}{K:W.Frag}{mg:Str->Option Value}{base:Heap}{a:Ad}
inductive SpAt(K:W.Frag)(vs:List V)(H:Hp)(Q:VK):Prop
 |mk (l:Addr) (ns:List Int) (k:Int) (_:vs=[.ref l,.int k]) (_:SqL K H l (ns.map V.int)) (_:0<=k) (_:Q (.int (atN ns k)) H):SpAt K vs H Q
def YB(K:W.Frag):Sp:=λvs H Q _=>SpAt K vs H Q
theorem ok_at(F:Fun K "_law_at" "_law_at" MU f fd)(T:Top K mg a):AL P w K mg base CX0 1 f fd Wu (YB K):=by
  refine F.ok TB (λ_ _ _ _ h=>by rcases h;subst_vars;rfl) λj A d s H vs Q E m h=>?_
  obtain⟨l,ns,k,rfl,g,i,q⟩:=h;refine⟨_,(Ab (AM (Ay Fe (pv 1) (AQ Ck rfl T.b_len A0e (Aa (pv 0) Ae)) (AD _)) (Ah (As (Aj Av (pv 0) (pv 1) (λ_ _=>rfl)))) AB) (Ah (As Ac))),?_⟩
  try dsimp only[cxK]
  refine⟨_,rfl,_,rfl,l,_,rfl,.inl g,_,_,rfl,rfl,_,rfl,?_⟩;obtain⟨n,rfl⟩:=L5 i;refine Fw (λc=>?_) (λc=>?_)
  ·have b:n<ns.length:=by
    have:=X8 c;rw[B5]at this;lia
   refine⟨_,rfl,_,rfl,l,_,n,.int ns[n],rfl,rfl,g,Ai (by rw[B8,B9 b];rfl),?_⟩;have e:atN ns (n:Int)=ns[n]:=by
    unfold atN;rw[L7,F1,B9 b];rfl
   rw[e]at q;exact q
  ·have b:ns.length<=n:=by
    have:¬(n:Int)<((ns.map V.int).length:Int):=λz=>c (Z7 z);rw[B5]at this;lia
   have e:atN ns (n:Int)=0:=by
    unfold atN;rw[L7,F1,R5 b];rfl
   rw[e]at q;exact q
end
inductive SpLaw(K:W.Frag)(vs:List V)(H:Hp)(Q:VK):Prop
 |mk (a:Addr) (ns:List Int) (_:vs=[.ref a]) (_:SqL K H a (ns.map V.int)) (_:ns.length<=63) (_:∀H',Q (.bl true) H'):SpLaw K vs H Q
def UT(K:W.Frag):Sp:=λvs H Q _=>SpLaw K vs H Q
end J
namespace J
open PySem L2
def Ap(g:GA)(x:Addr):Prop:=x≠g.lv/\x≠g.pt/\x≠g.nm
theorem Ap.new{a:Ad}{H:Hp}{g:GA}{G:Gv}(h:AN a H g G){x:Addr}(n:H x=none):Ap g x:=by
 obtain⟨c,b,_⟩:=h.pt;exact⟨X7 (Az h.lv n),X7 (Az b n),X7 (Az h.nm n)⟩
theorem Fr.get{g:GA}{H a:Hp}{x:Addr}{o:HO}(f:Fr g H a)(p:Ap g x)(e:H x=some o):a x=some o:=f _ _ e p.1 p.2.1 p.2.2
theorem Fr.tup{a:Ad}{g:GA}{G:Gv}{H b:Hp}{x:Addr}{l:List V}(f:Fr g H b)(h:AN a H g G)(e:H x=some (.tup l)):b x=some (.tup l):=by
 obtain⟨us,c,_⟩:=h.pt;exact f _ _ e (AH e h.lv A4) (AH e c A4) (AH e h.nm A4)
theorem AG.mono{G a:Gv}{n m:Nat}(h:AG G a n)(e:n<=m):AG G a m:=⟨h.ok,h.pre,D0 h.few A0⟩
theorem NX(l:Nat):(0:Int)<2^l:=Int.pow_pos A3
theorem pow2_lt{l:Nat}(h:l<64):(2:Int)^l<2^64:=by
 have:(2:Nat)^l<2^64:=W1 A3 h
 exact_mod_cast this
section
variable{P:Program}{w:World}{K:W.Frag}{mg:Str->Option Value}{base:Heap}{a:Ad}
end
section
variable{P:Program}{w:World}{K:W.Frag}{mg:Str->Option Value}{base:Heap}{a:Ad}
end
theorem JP{d:Int}(a:0<=d)(b:d<=9):d.natAbs.log2<1920:=by
 obtain⟨m,rfl⟩:=L5 a;exact(show ∀m:Nat,m<10->(m:Int).natAbs.log2<1920 by decide +kernel) m B4
theorem IS{n:Nat}(h:n<=100000):n<=sizeLine:=D0 h A3
seal L2.PA L2.PE L2.PS L2.PSs L2.PT L2.PW
theorem AA.noneN{H a:Hp}(s:AA H a){x:Addr}(n:a x=none):H x=none:=by
 cases e:H x with
 |none=>rfl
 |some o=>rw[s _ _ e]at n;cases n
theorem Qg{T:St->Hp->Prop}{C:Prop}(P:St->Hp->Prop)(h:(∀σ H,P σ H->T σ H)->C)(k:∀σ H,P σ H->T σ H):C:=h k
structure MA where
 tp:Addr
 l:Addr
 kc:Addr
 ds:List Addr
def jf2(gp mem:Addr):List (Str×V):=AY "memories" (.ref mem) (AY "grove" (.ref gp) [])
def jf5(gp mem pr l kc:Addr):List (Str×V):=AY "known_cells" (.ref kc) (AY "known_squares" (.ref l) (AY "rule" (.ref pr) (jf2 gp mem)))
theorem jf2_mem(a mem:Addr):(jf2 a mem).lookup ("memories" : Str)=some (V.ref mem):=by
 unfold jf2;rw[Am,Z9 rfl]
theorem ZG(a mem:Addr){m:Str}(c:¬m=("memories" : Str))(b:¬m=("grove" : Str)):(jf2 a mem).lookup m=none:=by
 unfold jf2;rw[Am,Z6 c,Am,Z6 b];rfl
section
variable(gp mem pr l kc:Addr)
theorem ZF:(jf5 gp mem pr l kc).lookup ("known_cells" : Str)=some (V.ref kc):=by
 unfold jf5;rw[Am,Z9 rfl]
theorem ZE:(jf5 gp mem pr l kc).lookup ("known_squares" : Str)=some (V.ref l):=by
 unfold jf5;rw[Am,Z6 A1,Am,Z9 rfl]
theorem jf5_ru:(jf5 gp mem pr l kc).lookup ("rule" : Str)=some (V.ref pr):=by
 unfold jf5;rw[Am,Z6 A1,Am,Z6 A1,Am,Z9 rfl]
theorem DG:(jf5 gp mem pr l kc).lookup ("grove" : Str)=some (V.ref gp):=by
 unfold jf5 jf2;rw[Am,Z6 A1,Am,Z6 A1,Am,Z6 A1,Am,Z6 A1,Am,Z9 rfl]
theorem LW{m:Str}(a:¬m=("known_cells" : Str))(c:¬m=("known_squares" : Str))(d:¬m=("rule" : Str))(e:¬m=("memories" : Str))(b:¬m=("grove" : Str)):(jf5 gp mem pr l kc).lookup m=none:=by
 unfold jf5;rw[Am,Z6 a,Am,Z6 c,Am,Z6 d,ZG _ _ e b]
theorem Wo:(jf5 gp mem pr l kc).lookup ("after" : Str)=none:=LW _ _ _ _ _ A1 A1 A1 A1 A1
theorem Wn:(jf5 gp mem pr l kc).lookup ("check_jump" : Str)=none:=LW _ _ _ _ _ A1 A1 A1 A1 A1
theorem Mu:(jf5 gp mem pr l kc).lookup ("reckoned" : Str)=none:=LW _ _ _ _ _ A1 A1 A1 A1 A1
theorem Wm:(jf5 gp mem pr l kc).lookup ("fresh" : Str)=none:=LW _ _ _ _ _ A1 A1 A1 A1 A1
theorem Zj:(jf5 gp mem pr l kc).lookup ("four_halfway" : Str)=none:=LW _ _ _ _ _ A1 A1 A1 A1 A1
theorem noJ_mid:(jf5 gp mem pr l kc).lookup ("middle_after" : Str)=none:=LW _ _ _ _ _ A1 A1 A1 A1 A1
theorem Zk:(jf5 gp mem pr l kc).lookup ("cell_after" : Str)=none:=LW _ _ _ _ _ A1 A1 A1 A1 A1
end
inductive Nv:HO->Prop
 |tup {xs:List V}:Nv (.tup xs)
 |ins {C dx:Addr} {fs:List (Str×V)} (h1:1<=fs.length) (h2:fs.length<=3):Nv (.ins C dx fs)
theorem NW(f:Str)(v:V):∀fs:List (Str×V),1<=(AY f v fs).length
 |[]=>C1 1
 | (g,x)::r=>by
  unfold AY;split
  ·rw[F0];lia
  ·rw[F0];lia
theorem Dp.kp{a:Ad}{H e:Hp}{p:Addr}{c:BC}(k:∀b o,H b=some o->Nv o->e b=some o)(h:Dp a H p c):Dp a e p c:=by
 cases h with
 |am h d=>exact .am (k _ _ h (.ins (NW _ _ _) (D0 (BE _ _ _) (R9 (D0 (BE _ _ _) (by show 0+1<=2;decide)))))) (k _ _ d .tup)
 |pl h d=>exact .pl (k _ _ h (.ins (NW _ _ _) (D0 (BE _ _ _) (by show 0+1<=3;decide)))) (k _ _ d .tup)
theorem Ce.kp{a:Ad}{H d:Hp}{p:Addr}{c:Bd}(k:∀b o,H b=some o->Nv o->d b=some o)(h:Ce a H p c):Ce a d p c:=by
 obtain⟨dx,t,cs,g,e,f⟩:=h.ex;exact⟨dx,t,cs,k _ _ g (.ins (NW _ _ _) (D0 (BE _ _ _) (R9 (D0 (BE _ _ _) (R9 (D0 (BE _ _ _) (by show 0+1<=1;decide))))))),k _ _ e .tup,Paired.imp (λ_ _ z=>z.kp k) f⟩
theorem CD.kp{a:Ad}{H c:Hp}{p:Addr}{x:Str}{r:AF}(k:∀b o,H b=some o->Nv o->c b=some o)(h:CD a H p x r):CD a c p x r:=by
 obtain⟨dx,t,cs,f,d,e⟩:=h.ex;exact⟨dx,t,cs,k _ _ f (.ins (NW _ _ _) (D0 (BE _ _ _) (R9 (D0 (BE _ _ _) (by show 0+1<=2;decide))))),k _ _ d .tup,Paired.imp (λ_ _ z=>z.kp k) e⟩
def mK(ms:List (Str×MA)):List (Key×V):=ms.map λe=>(Sum.inr e.1,V.ref e.2.tp)
theorem Vo(t:Str):∀a:List (Str×MA),(∃m,(t,m)∈a/\Bu (mK a) (Sum.inr t)=some (.ref m.tp))\/(Bu (mK a) (Sum.inr t)=none/\∀e∈a,e.1≠t)
 |[]=>.inr ⟨rfl,λe f=>nomatch f⟩
 |e::r=>by
  by_cases h:e.1=t
  ·refine .inl ⟨e.2,?_,?_⟩
   ·rw[<-h];exact C7
   ·exact BU (p:=(Sum.inr e.1,V.ref e.2.tp)) (r:=mK r) (by rw[h])
  ·have n:Bu (mK (e::r)) (Sum.inr t)=Bu (mK r) (Sum.inr t):=BF (p:=(Sum.inr e.1,V.ref e.2.tp)) (r:=mK r) λz=>h (Sum.inr.inj z);rcases Vo t r with ⟨m,b,c⟩|⟨b,c⟩
   ·exact .inl ⟨m,C8 _ b,n.trans c⟩
   ·refine .inr ⟨n.trans b,λx d=>?_⟩;rcases B7.mp d with z|z
    ·rw[z];exact h
    ·exact c x z
inductive ChgR(H H':Hp)(t:Str)(ms ms':List (Str×MA))(m:MA):Prop
 |old (_:(t,m)∈ms) (_:ms'=ms):ChgR H H' t ms ms' m
 |new (_:ms'=ms++[(t,m)]) (_:∀e∈ms,e.1≠t) (_:H m.tp=none/\H m.l=none/\H m.kc=none/\∀d∈m.ds,H d=none) (_:H' m.tp=some (.tup [.ref m.l,.ref m.kc])) (_:H' m.l=some (.lst (m.ds.map V.ref))) (_:H' m.kc=some (.dT [])) (_:∀d∈m.ds,H' d=some (.dK [])) (_:m.ds.length=47) (_:m.ds.Nodup):ChgR H H' t ms ms' m
section
variable{P:Program}{w:World}{K:W.Frag}{mg:Str->Option Value}{base:Heap}{a:Ad}
inductive SpShow(a:Ad)(vs:List V)(H:Hp)(Q:VK):Prop
 |mk (p:Addr) (t:Str) (r:AF) (_:vs=[.ref p]) (_:CD a H p t r) (_:Q (.str t) H):SpShow a vs H Q
def Tu(a:Ad):Sp:=λvs H Q _=>SpShow a vs H Q
theorem ok_show(F:Fun K "shown_rule" "shown_rule" Io f fd)(T:Top K mg a):AL P w K mg base CX0 1 f fd Rf (Tu a):=by
  refine F.ok Pr (λ_ _ _ _ h=>by rcases h;subst_vars;rfl) λe A b s H vs Q E g h=>?_
  obtain⟨p,t,r,rfl,d,k⟩:=h;obtain⟨dx,i,cs,c,j,l⟩:=d.ex;refine⟨_,(Ah (As (AC (pv 0) rfl))),?_⟩
  try dsimp only[cxK]
  exact xwf rfl rfl c T.cl_Rule T.na_Rule_text (ZX A1) k
inductive SpChg(a:Ad)(vs:List V)(H:Hp)(Q:VK):Prop
 |mk (p dx mem pr:Addr) (fs:List (Str×V)) (t:Str) (r:AF) (ms:List (Str×MA)) (_:vs=[.ref p,.ref pr]) (_:H p=some (.ins a.c_Jumps dx fs)) (_:fs.lookup ("memories" : Str)=some (.ref mem)) (_:fs.length<=10) (_:H mem=some (.dK (mK ms))) (_:ms.length<=1000) (_:∀e∈ms,H e.2.tp=some (.tup [.ref e.2.l,.ref e.2.kc])) (_:CD a H pr t r) (_:∀(H':Hp)(m:MA)(ms':List (Str×MA)),(∀b o,H b=some o->b≠p->b≠mem->H' b=some o)->H' p=some (.ins a.c_Jumps dx (AY "known_cells" (.ref m.kc) (AY "known_squares" (.ref m.l) (AY "rule" (.ref pr) fs))))->H' mem=some (.dK (mK ms'))->ChgR H H' t ms ms' m->Q .non H'):SpChg a vs H Q
def Yz(a:Ad):Sp:=λvs H Q _=>SpChg a vs H Q
theorem ok_chg(F:Fun K "change" "Jumps.change" Ec f fd)(T:Top K mg a)(bV:Cal P w K mg base CX0 1 "shown_rule" Rf (Tu a)):AL P w K mg base CX0 2 f fd FX (Yz a):=by
  refine F.ok Jd (λ_ _ _ _ h=>by rcases h;subst_vars;rfl) λa0 A az s H vs Q E hr h=>?_
  obtain⟨p,dx,mem,C,fs,t,r,M,rfl,hp,G,a1,hm,few,ac,hR,k⟩:=h;refine⟨_,(Ab (Ao (i:=2) Jd.nd rfl (Or.inl rfl) (Aw bV (rm hr) rfl Aq (Aa (pv 1) Ae))) (Ab (AM (pt_cmp (We (Ek hr) (pv 2) (AC (pv 0) rfl))) (Ah (Fn (Ek hr) (AC (pv 0) rfl) (pv 2) (Bk (Aa (Di rfl (BM.of (So:=Al Ec) (No:=JE) (N:=["e"]) (k:=1) (cs:=[]) rfl rfl A1) (Ex rfl T.b_range (AV AS (BY rfl T.k_TOP_LEVEL) Ac Ae)) (λ_ _ _=>(Bo (i:=0) A1 rfl rfl)) (λ_ _ _=>BX) (λ_ _ _=>GY)) (Aa OM Ae))) rfl)) AB) (Ab (Cz (pv 0) (pv 1) rfl) (Ab (Cz (pv 0) (Aj Ak (Vg (Ek hr) (AC (pv 0) rfl) (pv 2) (λ_ _=>rfl)) Ac (λ_ _=>rfl)) rfl) (Ah (Cz (pv 0) (Aj Ak (Vg (Ek hr) (AC (pv 0) rfl) (pv 2) (λ_ _=>rfl)) Ac (λ_ _=>rfl)) rfl)))))),?_⟩
  try dsimp only[cxK]
  have S:p≠mem:=AH hp hm A4;refine xq1 rfl ⟨C,t,r,rfl,hR,?_⟩;apply Qg (fun σ H1=>σ=[some (.ref p),some (.ref C),some (.str t)]/\∃(m:MA)(I:List (Str×MA)),(∀b o,H b=some o->b≠mem->H1 b=some o)/\H1 mem=some (.dK (mK I))/\Bu (mK I) (Sum.inr t)=some (.ref m.tp)/\H1 m.tp=some (.tup [.ref m.l,.ref m.kc])/\ChgR H H1 t M I m/\m.tp≠p/\(H m.tp=none->m.l≠p/\m.kc≠p/\∀d∈m.ds,d≠p))
  ·intro U;refine xw2 rfl rfl (xq5 hp T.cl_Jumps T.na_Jumps_memories G ⟨mem,(xq1 rfl ⟨Ie.k (k:=Sum.inr t) hm,(xq1 rfl ?_)⟩)⟩);rcases Vo t M with ⟨m,m1,m2⟩|⟨no,nk⟩
   ·rw[m2];refine Ba (U _ _ ⟨rfl,m,M,λb o e _=>e,hm,m2,ac _ m1,.old m1 rfl,AH (ac _ m1) hp A4,λz=>?_⟩);rw[ac _ m1]at z;cases z
   ·rw[no];refine BL ?_;refine xq2 rfl rfl (xq1 rfl ⟨by decide,by decide,?_⟩);refine WN (n:=47) (λi ad Y=>AA H Y/\∃q:List Addr,ad=q.map V.ref/\q.length=i/\(∀d∈q,Y d=some (.dK []))/\(∀d∈q,H d=none)/\q.Nodup) ⟨AA.refl H,[],rfl,rfl,λd c=>(nomatch c),λd c=>(nomatch c),.nil⟩ ?_ ?_
    ·rintro i ad Y hi ⟨X,q,rfl,ln,c1,c2,nd⟩;refine⟨⟨[some (.int (0+(i:Int)))],rfl,rfl⟩,?_,Ii λd c=>⟨X.trans (AJ c),q++[d],by rw[C5];rfl,by rw[C4,ln];rfl,λx hx=>?_,λx hx=>?_,?_⟩⟩
     ·rw[B5,ln];exact F2 hi A3
     ·rcases F9.mp hx with z|z
      ·exact AJ c _ _ (c1 x z)
      ·rw[D6.mp z];exact Af
     ·rcases F9.mp hx with z|z
      ·exact c2 x z
      ·rw[D6.mp z];exact AA.noneN X c
     ·rw[S7];refine⟨nd,by simp,λx hx y hy z=>?_⟩;rw[D6.mp hy]at z;rw[<-z,c1 x hx]at c;cases c
    ·rintro ad Y ⟨X,q,rfl,ln,c1,c2,nd⟩ l hl;generalize al:upd Y l _=H3;obtain⟨s3,ay⟩:=alc hl al;intro B aj;generalize an:upd H3 B _=H4;obtain⟨s4,as⟩:=alc aj an;refine⟨(by show 2<=sizeLine;decide),λg am=>?_⟩;show ∃_,_;generalize dE:upd H4 g _=H5;obtain⟨s5,ai⟩:=alc am dE;have n1:H l=none:=AA.noneN X hl;have n2:H B=none:=AA.noneN (X.trans s3) aj;have n3:H g=none:=AA.noneN ((X.trans s3).trans s4) am;have aa:=((X.trans s3).trans s4).trans s5;have av:=aa _ _ hm;refine xwf rfl rfl (aa _ _ hp) T.cl_Jumps T.na_Jumps_memories G (xq1 rfl ⟨mem,(xq1 rfl ⟨MJ.k (k:=Sum.inr t) av ?_,?_⟩)⟩)
     ·unfold mK;rw[B5];exact M8 few A3
     ·rw[FP _ no];have e6:mK M++[(Sum.inr t,V.ref g)]=mK (M++[(t,⟨g,l,B,q⟩)]):=by unfold mK;rw[C5];rfl
      rw[e6];have k6:∀b o,H5 b=some o->b≠mem->upd H5 mem (.dK (mK (M++[(t,⟨g,l,B,q⟩)]))) b=some o:=λb o e n=>by rw[Ax n];exact e
      have ak:upd H5 mem (.dK (mK (M++[(t,⟨g,l,B,q⟩)]))) mem=some (.dK (mK (M++[(t,⟨g,l,B,q⟩)]))):=Af;generalize upd H5 mem (.dK (mK (M++[(t,⟨g,l,B,q⟩)])))=H6 at k6 ak⊢;have nm:∀{x:Addr},H x=none->x≠mem:=λz y=>by rw[y,hm]at z;cases z
      have np:∀{x:Addr},H x=none->x≠p:=λz y=>by rw[y,hp]at z;cases z
      refine U _ _ ⟨rfl,⟨g,l,B,q⟩,M++[(t,⟨g,l,B,q⟩)],λb o e n=>k6 _ _ (aa _ _ e) n,ak,?_,k6 _ _ ai (nm n3),.new rfl nk ⟨n3,n1,n2,c2⟩ (k6 _ _ ai (nm n3)) (k6 _ _ (s5 _ _ (s4 _ _ ay)) (nm n1)) (k6 _ _ (s5 _ _ as) (nm n2)) (λd c=>k6 _ _ (s5 _ _ (s4 _ _ (s3 _ _ (c1 d c)))) (nm (c2 d c))) ln nd,np n3,λ_=>⟨np n1,np n2,λd c=>np (c2 d c)⟩⟩;rw[<-e6];rw[QF no];exact BU rfl
  rintro σ H1 ⟨rfl,m,I,k1,ag,vv,ar,aq,Z,ae⟩;have ao:=k1 _ _ hp S;have lf:fs.length<1000:=by lia
  have put:∀{Hk:Hp}{fs':List (Str×V)}(u:List (Str×V)),Hk p=some (.ins a.c_Jumps dx fs')->(∀b o,Hk b=some o->b≠p->upd Hk p (.ins a.c_Jumps dx u) b=some o)/\upd Hk p (.ins a.c_Jumps dx u) p=some (.ins a.c_Jumps dx u):=λ{Hk fs'} u e=>⟨λb o e n=>by rw[Ax n];exact e,Af⟩
  refine xw2 rfl rfl ⟨p,_,dx,fs,rfl,ao,T.cl_Jumps,T.na_Jumps_rule,lf,?_⟩;obtain⟨k2,O⟩:=put (AY "rule" (.ref C) fs) ao;generalize upd H1 p (.ins a.c_Jumps dx (AY "rule" (.ref C) fs))=Y at k2 O⊢;have l2:=BE ("rule" : Str) (.ref C) fs;have D:(AY "rule" (.ref C) fs).lookup ("memories" : Str)=some (.ref mem):=by rw[Am,Z6 A1];exact G
  have ah:=k2 _ _ ag (X7 S);have af:=k2 _ _ ar Z;refine xwf rfl rfl O T.cl_Jumps T.na_Jumps_memories D (xq1 rfl ⟨mem,.ref m.tp,rfl,vv▸Ie.k (k:=Sum.inr t) ah,(xq4 rfl rfl (SqT.of af) (Ai (j:=0) rfl) (xq1 rfl ⟨p,_,dx,(xq1 rfl ⟨O,T.cl_Jumps,T.na_Jumps_known_squares,by lia,?_⟩)⟩))⟩);obtain⟨k3,R⟩:=put (AY "known_squares" (.ref m.l) (AY "rule" (.ref C) fs)) O;generalize upd Y p (.ins a.c_Jumps dx (AY "known_squares" (.ref m.l) (AY "rule" (.ref C) fs)))=H3 at k3 R⊢;have l3:=BE ("known_squares" : Str) (.ref m.l) (AY "rule" (.ref C) fs);have ab:(AY "known_squares" (.ref m.l) (AY "rule" (.ref C) fs)).lookup ("memories" : Str)=some (.ref mem):=by rw[Am,Z6 A1];exact D
  have au:=k3 _ _ ah (X7 S);have ax:=k3 _ _ af Z;refine xwf rfl rfl R T.cl_Jumps T.na_Jumps_memories ab (xq1 rfl ⟨mem,.ref m.tp,rfl,vv▸Ie.k (k:=Sum.inr t) au,(xq4 rfl rfl (SqT.of ax) (Ai (j:=1) rfl) (xq1 rfl ⟨p,_,dx,(xq1 rfl ⟨R,T.cl_Jumps,T.na_Jumps_known_cells,by lia,?_⟩)⟩))⟩);obtain⟨k4,aw⟩:=put (AY "known_cells" (.ref m.kc) (AY "known_squares" (.ref m.l) (AY "rule" (.ref C) fs))) R;have v:∀b o,H1 b=some o->b≠p->upd H3 p (.ins a.c_Jumps dx (AY "known_cells" (.ref m.kc) (AY "known_squares" (.ref m.l) (AY "rule" (.ref C) fs)))) b=some o:=λb o e n=>k4 _ _ (k3 _ _ (k2 _ _ e n) n) n;refine k _ m I (λb o e n1 n2=>v _ _ (k1 _ _ e n2) n1) aw (v _ _ ag (X7 S)) ?_;cases aq with
  |old h1 h2=>exact .old h1 h2
  |new h1 h2 h3 h4 h5 h6 h7 h8 h9 =>
   obtain⟨y1,y2,y3⟩:=ae h3.1;exact .new h1 h2 h3 (v _ _ h4 Z) (v _ _ h5 y1) (v _ _ h6 y2) (λd c=>v _ _ (h7 d c) (y3 d c)) h8 h9
inductive RO(a:Ad)(vs:List V)(H:Hp)(Q:VK):Prop
 |mk (p dx gp pr:Addr) (t:Str) (r:AF) (_:vs=[.ref p,.ref gp,.ref pr]) (_:H p=some (.ins a.c_Jumps dx [])) (_:CD a H pr t r) (_:∀(H':Hp)(mem:Addr)(m:MA),(∀b o,H b=some o->b≠p->H' b=some o)->H mem=none->H' p=some (.ins a.c_Jumps dx (jf5 gp mem pr m.l m.kc))->H' mem=some (.dK (mK [(t,m)]))->(H m.tp=none/\H m.l=none/\H m.kc=none/\∀d∈m.ds,H d=none)->H' m.tp=some (.tup [.ref m.l,.ref m.kc])->H' m.l=some (.lst (m.ds.map V.ref))->H' m.kc=some (.dT [])->(∀d∈m.ds,H' d=some (.dK []))->m.ds.length=47->m.ds.Nodup->(∀d∈m.ds,d≠mem)->Q .non H'):RO a vs H Q
def QQ(a:Ad):Sp:=λvs H Q _=>RO a vs H Q
theorem Zb(F:Fun K "__init__" "Jumps.__init__" Iy f fd)(T:Top K mg a)(bF:Cb P w K mg base CX0 2 a.c_Jumps "change" FX (Yz a)):AL P w K mg base CX0 3 f fd Rm (QQ a):=by
  refine F.ok Pw (λ_ _ _ _ h=>by rcases h;subst_vars;rfl) λab A R s H vs Q E hr h=>?_
  obtain⟨p,dx,g,X,t,r,rfl,hp,hR,k⟩:=h;refine⟨_,(Ab (Cz (pv 0) (pv 1) rfl) (Ab (Cz (pv 0) GY rfl) (Ah (BP (AI (pv 0) bF (rm hr) Aq (Aa (pv 2) Ae)))))),?_⟩
  try dsimp only[cxK]
  refine xw2 rfl rfl ⟨p,_,dx,[],rfl,hp,T.cl_Jumps,T.na_Jumps_grove,B1,?_⟩;have k1:∀b o,H b=some o->b≠p->upd H p (.ins a.c_Jumps dx (AY "grove" (.ref g) [])) b=some o:=λb o e n=>by rw[Ax n];exact e
  have l:upd H p (.ins a.c_Jumps dx (AY "grove" (.ref g) [])) p=some (.ins a.c_Jumps dx (AY "grove" (.ref g) [])):=Af;have C:∀b,upd H p (.ins a.c_Jumps dx (AY "grove" (.ref g) [])) b=none->H b=none:=λb e=>by
   by_cases z:b=p
   ·rw[z,l]at e;cases e
   ·rw[Ax z]at e;exact e
  generalize upd H p (.ins a.c_Jumps dx (AY "grove" (.ref g) []))=H1 at k1 l C⊢;intro mem c;generalize dL:upd H1 mem _=q;obtain⟨M,S⟩:=alc c dL;have G:mem≠p:=λz=>by rw[z,l]at c;cases c
  refine xq1 rfl ⟨p,_,dx,(xq1 rfl ⟨M _ _ l,T.cl_Jumps,T.na_Jumps_memories,B3,?_⟩)⟩;have k3:∀b o,q b=some o->b≠p->upd q p (.ins a.c_Jumps dx (jf2 g mem)) b=some o:=λb o e n=>by rw[Ax n];exact e
  have j:upd q p (.ins a.c_Jumps dx (jf2 g mem)) p=some (.ins a.c_Jumps dx (jf2 g mem)):=Af;have i:∀b,upd q p (.ins a.c_Jumps dx (jf2 g mem)) b=none->H b=none:=λb e=>by
   by_cases z:b=p
   ·rw[z,j]at e;cases e
   ·rw[Ax z]at e;exact C _ (AA.noneN M e)
  rw[show AY ("memories" : Str) (V.ref mem) (AY ("grove" : Str) (V.ref g) [])=jf2 g mem from rfl];generalize upd q p (.ins a.c_Jumps dx (jf2 g mem))=U at k3 j i⊢;have y:∀b o,H b=some o->b≠p->U b=some o:=λb o e n=>k3 _ _ (M _ _ (k1 _ _ e n)) n;have x:=k3 _ _ S G;have O:CD a U X t r:=by
   refine hR.kp λb o e n=>y _ _ e λz=>?_;rw[z,hp]at e;cases e;cases n with
   |ins u _=>cases u
  refine xwn rfl rfl j (ZG _ _ A1 A1) rfl ⟨p,dx,mem,X,jf2 g mem,t,r,[],rfl,j,jf2_mem _ _,by rw[show(jf2 g mem).length=2 from rfl];decide,x,L9 _,λe he=>(nomatch he),O,λH' m aa fr I v D=>?_⟩;cases D with
  |old u _=>cases u
  |new u h2 B h4 Z h6 h7 h8 Y =>
   rw[u]at v;refine k H' mem m (λb o e n=>fr _ _ (y _ _ e n) n ?_) (C _ c) I v ⟨i _ B.1,i _ B.2.1,i _ B.2.2.1,λd N=>i _ (B.2.2.2 d N)⟩ h4 Z h6 h7 h8 Y λd N z=>?_
   ·intro z;rw[z]at e;rw[C _ c]at e;cases e
   ·have:=B.2.2.2 d N;rw[z,x]at this;cases this
end
def qO(G:Gv)(n k:Nat):Nat:=match G[n]? with
 |some q=>(q.parts.getD k 0).toNat
 |none=>0
def cel(G:Gv):Nat->Nat->Nat->Nat->Nat
 |0,n,_,_=>n
 |l+1,n,x,y=>cel G l (qO G n ((x/2^l)%2+2*((y/2^l)%2))) x y
def stp(r:AF)(c:Nat->Nat->Int):Nat->Nat->Int:=λx y=>Dn r (c x y) [c (x-1) (y-1),c x (y-1),c (x+1) (y-1),c (x-1) y,c (x+1) y,c (x-1) (y+1),c x (y+1),c (x+1) (y+1)]
def Bl(r:AF):Nat->(Nat->Nat->Int)->Nat->Nat->Int
 |0,c=>c
 |n+1,c=>stp r (Bl r n c)
def Cr(G:Gv)(l n:Nat):Nat->Nat->Int:=λx y=>(cel G l n x y:Int)
def JR(r:AF)(G:Gv)(e n m:Nat):Prop:=∃l:Nat,An G n ((l+2:Nat):Int)/\e<=l/\An G m ((l+1:Nat):Int)/\∀x y,x<2^(l+1)->y<2^(l+1)->Cr G (l+1) m x y=Bl r (2^e) (Cr G (l+2) n) (x+2^l) (y+2^l)
theorem GOk.four{G:Gv}(ok:GOk G){n l:Nat}(h:An G n ((l+1:Nat):Int)):∃x y z w:Nat,G[n]?=some ⟨[(x:Int),(y:Int),(z:Int),(w:Int)],((l+1:Nat):Int)⟩/\An G x (l:Int)/\An G y (l:Int)/\An G z (l:Int)/\An G w (l:Int):=by
 obtain⟨q,e,d⟩:=h;have i:8<=n:=by
  refine P0 λz=>?_;rw[ok.leaf n z]at e;cases e;have:(0:Int)=((l+1:Nat):Int):=d;lia
 obtain⟨x,y,z,w,p,⟨a,b,c,f⟩,_⟩:=ok.node n q e i;have g:q.lev-1=(l:Int):=by lia
 rw[g]at a b c f;refine⟨x,y,z,w,?_,a,b,c,f⟩;rw[e];cases q with
 |mk j k=>cases p;cases d;rfl
theorem GOk.cell{G:Gv}(ok:GOk G){n:Nat}(h:An G n 0):n<8:=by
 obtain⟨q,e,a⟩:=h;refine Nat.lt_of_not_le λz=>?_;obtain⟨_,_,_,_,_,_,b,_⟩:=ok.node n q e z;lia
theorem En{G:Gv}{n x y z w:Nat}{l:Int}(e:G[n]?=some ⟨[(x:Int),(y:Int),(z:Int),(w:Int)],l⟩):qO G n 0=x/\qO G n 1=y/\qO G n 2=z/\qO G n 3=w:=by
 unfold qO;rw[e];exact⟨rfl,rfl,rfl,rfl⟩
theorem LJ{G:Gv}(ok:GOk G){n l:Nat}(h:An G n ((l+1:Nat):Int)){k:Nat}(g:k<4):An G (qO G n k) (l:Int):=by
 obtain⟨x,y,z,w,e,c,f,i,m⟩:=ok.four h;obtain⟨a,j,b,d⟩:=En e
 match k,g with
 |0,_=>rw[a];exact c
 |1,_=>rw[j];exact f
 |2,_=>rw[b];exact i
 |3,_=>rw[d];exact m
theorem Ti{G a:Gv}{i:Nat}(ok:GOk G)(go:AG G a i):∀(l n:Nat),An G n (l:Int)->∀x y,cel a l n x y=cel G l n x y
 |0,n,_,x,y=>rfl
 |l+1,n,h,x,y=>by
  have e:∀k,qO a n k=qO G n k:=λk=>by
   obtain⟨q,e,_⟩:=h;unfold qO;rw[go.get e,e]
  show cel a l (qO a n _) x y=cel G l (qO G n _) x y;rw[e];exact Ti ok go l _ (LJ ok h A0) x y
theorem CK{G a:Gv}{i:Nat}(ok:GOk G)(go:AG G a i){l n:Nat}(h:An G n (l:Int)):Cr a l n=Cr G l n:=by
 funext x y
 unfold Cr;rw[Ti ok go l n h]
theorem JR.goes{r:AF}{G c:Gv}{i e n m:Nat}(ok:GOk G)(go:AG G c i)(h:JR r G e n m):JR r c e n m:=by
 obtain⟨l,a,f,b,j⟩:=h;refine⟨l,go.lev a,f,go.lev b,λx y g d=>?_⟩;rw[CK ok go a,CK ok go b];exact j x y g d
def Bs(G:Gv):Prop:=∀j:Nat,j<48->G[8+j]?=some ⟨[(bareN j:Int),(bareN j:Int),(bareN j:Int),(bareN j:Int)],(j:Int)+1⟩
theorem Bs.goes{G a:Gv}{i:Nat}(h:Bs G)(go:AG G a i):Bs a:=λj b=>go.get (h j b)
theorem Bs.zero{G:Gv}(h:Bs G):∀(l:Nat),l<=48->∀x y,cel G l (bareN l) x y=0
 |0,_,x,y=>rfl
 |l+1,hl,x,y=>by
  obtain⟨a,f,b,c⟩:=En (h l A0);have e:∀k,k<4->qO G (8+l) k=bareN l:=λk d=>by
   match k,d with
   |0,_=>exact a
   |1,_=>exact f
   |2,_=>exact b
   |3,_=>exact c
  show cel G l (qO G (8+l) _) x y=0;rw[e _ A0];exact h.zero l A0 x y
theorem RY{r:AF}(h:Dn r 0 CT=0):∀k,Bl r k (λ_ _=>0)=λ_ _=>0
 |0=>rfl
 |k+1=>by
  show stp r (Bl r k _)=_;rw[RY h k]
  funext x y
  exact h
theorem Bs.lev{G:Gv}(ok:GOk G)(h:Bs G):∀l:Nat,l<=48->An G (bareN l) (l:Int)
 |0,_=>⟨_,ok.leaf 0 A3,rfl⟩
 |l+1,hl=>⟨_,h l A0,by show(l:Int)+1=((l+1:Nat):Int);lia⟩
theorem JR.bare{r:AF}{G:Gv}(ok:GOk G)(h:Bs G)(re:Dn r 0 CT=0){l e:Nat}(a:l+2<=48)(c:e<=l):JR r G e (bareN (l+2)) (bareN (l+1)):=by
 refine⟨l,h.lev ok _ a,c,h.lev ok _ A0,λx y _ _=>?_⟩;have z:∀k,k<=48->Cr G k (bareN k)=λ_ _=>0:=λk b=>by
  funext x y
  unfold Cr;rw[h.zero k b x y];rfl
 rw[z _ a,z _ A0,RY re]
theorem bec_st{r:AF}(h:MH r){cell:Int}(d:Lx cell)(a:List Int):Lx (Dn r cell a):=by
 cases e:NO r cell a with
 |none=>rw[Pl e];exact d
 |some i =>
  obtain⟨c,f,b⟩:=Pk e;rw[b];exact(h.ok c (D7 f)).makes
theorem eight_of:∀xs:List Int,xs.length=8->∃a b c d e f g h,xs=[a,b,c,d,e,f,g,h]
 |[a,b,c,d,e,f,g,h],_=>⟨a,b,c,d,e,f,g,h,rfl⟩
structure Jb(H:Hp)(g:GA)(G:Gv)(N M:Nat)(r:AF)(m:MA):Prop where
 tp:H m.tp=some (.tup [.ref m.l,.ref m.kc])
 l:H m.l=some (.lst (m.ds.map V.ref))
 ap:m.l≠g.lv/\m.l≠g.pt/\m.kc≠g.nm
 len:m.ds.length=47
 nd:m.ds.Nodup
 sq:∀(e:Nat) d,m.ds[e]?=some d->∃kv,H d=some (.dK kv)/\kv.length<=N/\(∀p∈kv,∃i,p.1=Sum.inl i)/\∀(n:Nat) v,Bu kv (Sum.inl (n:Int))=some v->∃k:Nat,v=.int (k:Int)/\JR r G e n k
 ce:∃kc,H m.kc=some (.dT kc)/\kc.length<=M/\∀(ks:List Int) v,Bu kc (kOf ks)=some v->∃c ar,ks=c::ar/\v=.int (Dn r c ar)
theorem Jb.mono{H:Hp}{g:GA}{G:Gv}{N M i f:Nat}{r:AF}{m:MA}(h:Jb H g G N M r m)(n:N<=i)(k:M<=f):Jb H g G i f r m:=by
 refine⟨h.tp,h.l,h.ap,h.len,h.nd,λe d p=>?_,?_⟩
 ·obtain⟨o,a,b,c,q⟩:=h.sq e d p;exact⟨o,a,D0 b n,c,q⟩
 ·obtain⟨j,a,b,c⟩:=h.ce;exact⟨j,a,D0 b k,c⟩
theorem Jb.kp{H q:Hp}{g:GA}{G p:Gv}{N M i:Nat}{r:AF}{m:MA}(h:Jb H g G N M r m)(ok:GOk G)(go:AG G p i)(k:∀b o,H b=some o->b=m.tp\/b=m.l\/b∈m.ds\/b=m.kc->q b=some o):Jb q g p N M r m:=by
 refine⟨k _ _ h.tp (.inl rfl),k _ _ h.l (.inr (.inl rfl)),h.ap,h.len,h.nd,λe d s=>?_,?_⟩
 ·obtain⟨y,a,c,f,z⟩:=h.sq e d s;refine⟨y,k _ _ a (.inr (.inr (.inl (D7 s)))),c,f,λn v u=>?_⟩;obtain⟨x,w,t⟩:=z n v u;exact⟨x,w,t.goes ok go⟩
 ·obtain⟨j,a,c,f⟩:=h.ce;exact⟨j,k _ _ a (.inr (.inr (.inr rfl))),c,f⟩
structure JW(a:Ad)(H:Hp)(g:GA)(G:Gv)(N M:Nat)(p dx mem pr:Addr)(r:AF)(m:MA):Prop where
 gr:AN a H g G
 ok:GOk G
 bs:Bs G
 br:H g.br=some (.lst ((De 48).map V.int))
 nbr:g.br≠g.lv/\g.br≠g.pt
 hp:H p=some (.ins a.c_Jumps dx (jf5 g.p mem pr m.l m.kc))
 ru:CD a H pr (DJ r) r
 rok:MH r
 rest:Dn r 0 CT=0
 me:Jb H g G N M r m
theorem JW.same{a:Ad}{H c:Hp}{g:GA}{G:Gv}{N M:Nat}{p dx mem d:Addr}{r:AF}{m:MA}(s:AA H c)(h:JW a H g G N M p dx mem d r m):JW a c g G N M p dx mem d r m :=
 ⟨h.gr.same s,h.ok,h.bs,s _ _ h.br,h.nbr,s _ _ h.hp,h.ru.same s,h.rok,h.rest,h.me.kp h.ok (AG.refl h.ok) λb o e _=>s _ _ e⟩
theorem JW.mono{a:Ad}{H:Hp}{g:GA}{G:Gv}{N M d b:Nat}{p dx mem c:Addr}{r:AF}{m:MA}(h:JW a H g G N M p dx mem c r m)(f:N<=d)(e:M<=b):JW a H g G d b p dx mem c r m :=
 ⟨h.gr,h.ok,h.bs,h.br,h.nbr,h.hp,h.ru,h.rok,h.rest,h.me.mono f e⟩
theorem Jb.fr{a:Ad}{H p:Hp}{g:GA}{G n:Gv}{N M i:Nat}{r:AF}{m:MA}(h:Jb H g G N M r m)(d:AN a H g G)(ok:GOk G)(f:Fr g H p)(go:AG G n i):Jb p g n N M r m:=by
 obtain⟨t,k,_⟩:=d.pt;refine h.kp ok go λb o e w=>?_;rcases w with z|z|z|z
 ·have c:=h.tp;rw[<-z,e]at c;cases c;exact f _ _ e (AH e d.lv A4) (AH e k A4) (AH e d.nm A4)
 ·have c:=h.l;rw[z]at e⊢;rw[e]at c;cases c;exact f _ _ e h.ap.1 h.ap.2.1 (AH e d.nm A4)
 ·obtain⟨j,q⟩:=J1 z;obtain⟨u,c,_⟩:=h.sq j b q;rw[e]at c;cases c;exact f _ _ e (AH e d.lv A4) (AH e k A4) (AH e d.nm A4)
 ·obtain⟨s,c,_⟩:=h.ce;rw[z]at e⊢;rw[e]at c;cases c;exact f _ _ e (AH e d.lv A4) (AH e k A4) h.ap.2.2
theorem CD.fr{a:Ad}{H d:Hp}{g:GA}{G:Gv}{p:Addr}{x:Str}{r:AF}(h:CD a H p x r)(c:AN a H g G)(f:Fr g H d):CD a d p x r:=by
 obtain⟨j,i,_⟩:=c.pt;exact h.kp λb o e n=>f _ _ e (AH e c.lv (by intro z;rw[z]at n;cases n)) (AH e i (by intro z;rw[z]at n;cases n)) (AH e c.nm (by intro z;rw[z]at n;cases n))
theorem JW.fr{a:Ad}{H d:Hp}{g:GA}{G c:Gv}{N M i:Nat}{p dx mem e:Addr}{r:AF}{m:MA}(h:JW a H g G N M p dx mem e r m)(f:Fr g H d)(b:AN a d g c)(go:AG G c i):JW a d g c N M p dx mem e r m:=by
 obtain⟨k,j,_⟩:=h.gr.pt;refine⟨b,go.ok,h.bs.goes go,f _ _ h.br h.nbr.1 h.nbr.2 (AH h.br h.gr.nm A4),h.nbr,f _ _ h.hp (AH h.hp h.gr.lv A4) (AH h.hp j A4) (AH h.hp h.gr.nm A4),h.ru.fr h.gr f,h.rok,h.rest,h.me.fr h.gr h.ok f go⟩
def FrJ(g:GA)(m:MA)(H H':Hp):Prop:=∀b o,H b=some o->b≠g.lv->b≠g.pt->b≠g.nm->b≠m.kc->b∉m.ds->H' b=some o
theorem FrJ.trans{g:GA}{m:MA}{f d n:Hp}(h:FrJ g m f d)(k:FrJ g m d n):FrJ g m f n:=λb o e l j a i c=>k _ _ (h _ _ e l j a i c) l j a i c
theorem Fr.j{g:GA}{m:MA}{c a:Hp}(h:Fr g c a):FrJ g m c a:=λb o e f i d _ _=>h _ _ e f i d
theorem AA.j{g:GA}{m:MA}{c a:Hp}(h:AA c a):FrJ g m c a:=λb o e _ _ _ _ _=>h _ _ e
theorem JW.putC{a:Ad}{H:Hp}{g:GA}{G:Gv}{N M:Nat}{p dx mem s:Addr}{r:AF}{m:MA}{i:List (List Key×V)}(h:JW a H g G N M p dx mem s r m)(len:i.length<=M+1)(j:∀(u:List Int) v,Bu i (kOf u)=some v->∃c k,u=c::k/\v=.int (Dn r c k)):JW a (upd H m.kc (.dT i)) g G N (M+1) p dx mem s r m:=by
 obtain⟨y,C,_⟩:=h.me.ce;have f:∀{b v},H b=some v->(∀w,v≠.dT w)->upd H m.kc (.dT i) b=some v:=λ{b v} e n=>by rw[Ax (AH e C (n _))];exact e
 obtain⟨K,D,P⟩:=h.gr.pt;refine⟨⟨f h.gr.hp B0,f h.gr.lv B0,⟨K,f D B0,PairedM.imp (λt q z=>f z B0) P⟩,by rw[Ax (X7 h.me.ap.2.2)];exact h.gr.nm,h.gr.ne⟩,h.ok,h.bs,f h.br B0,h.nbr,f h.hp B0,h.ru.kp λb o e n=>f e λw z=>(by rw[z]at n;cases n),h.rok,h.rest,⟨f h.me.tp B0,f h.me.l B0,h.me.ap,h.me.len,h.me.nd,λe d O=>?_,⟨i,Af,len,j⟩⟩⟩;obtain⟨E,x,I,A,B⟩:=h.me.sq e d O;exact⟨E,f x B0,I,A,B⟩
theorem JW.putS{a:Ad}{H:Hp}{g:GA}{G:Gv}{N M:Nat}{p dx mem K:Addr}{r:AF}{m:MA}{e:Nat}{d:Addr}{w:List (Key×V)}{n k:Nat}(h:JW a H g G N M p dx mem K r m)(E:m.ds[e]?=some d)(I:H d=some (.dK w))(jr:JR r G e n k):JW a (upd H d (.dK (DQ w (Sum.inl (n:Int)) (.int (k:Int))))) g G (N+1) M p dx mem K r m:=by
 have c:∀{b v},H b=some v->(∀C,v≠.dK C)->upd H d (.dK (DQ w (Sum.inl (n:Int)) (.int (k:Int)))) b=some v:=λ{b v} e n=>by rw[Ax (AH e I (n _))];exact e
 obtain⟨T,Y,X⟩:=h.gr.pt;obtain⟨R,c1,U,S⟩:=h.me.ce;refine⟨⟨c h.gr.hp B0,c h.gr.lv B0,⟨T,c Y B0,PairedM.imp (λt q z=>c z B0) X⟩,c h.gr.nm B0,h.gr.ne⟩,h.ok,h.bs,c h.br B0,h.nbr,c h.hp B0,h.ru.kp λb o e n=>c e λC z=>(by rw[z]at n;cases n),h.rok,h.rest,⟨c h.me.tp B0,c h.me.l B0,h.me.ap,h.me.len,h.me.nd,λD d' f=>?_,⟨R,c c1 B0,U,S⟩⟩⟩;obtain⟨A,x,Z,s,B⟩:=h.me.sq D d' f;by_cases z:D=e
 ·rw[z,E]at f;cases f;rw[I]at x;cases x;subst z;refine⟨_,Af,D0 (Gn _ _ _) A0,λq i=>?_,λQ v j=>?_⟩
  ·unfold DQ at i;split at i
   ·obtain⟨O,P,rfl⟩:=C3.mp i;split
    ·exact s O P
    ·exact s O P
   ·rcases F9.mp i with y|y
    ·exact s q y
    ·rw[D6.mp y];exact⟨_,rfl⟩
  ·rw[EN]at j;split at j
   ·rename_i y;have:Q=n:=by have:=Sum.inl.inj y;lia
    rw[this];cases j;exact⟨k,rfl,jr⟩
   ·exact B Q v j
 ·have u:d'≠d:=λy=>z (by
   rw[y]at f;exact(List.getElem?_inj (B6.mp f).1 h.me.nd).mp (f.trans E.symm))
  exact⟨A,by rw[Ax u];exact x,D0 Z A0,s,B⟩
section
variable{P:Program}{w:World}{K:W.Frag}{mg:Str->Option Value}{base:Heap}{a:Ad}
inductive SpCel(a:Ad)(vs:List V)(H:Hp)(Q:VK):Prop
 |mk (p dx mem pr t:Addr) (g:GA) (G:Gv) (N M:Nat) (r:AF) (m:MA) (c:Int) (ar:List Int) (_:vs=[.ref p,.ref t]) (_:JW a H g G N M p dx mem pr r m) (_:H t=some (.tup ((c::ar).map V.int))) (_:ar.length=8) (_:∀x∈c::ar,Lx x) (_:M<9000000) (_:∀H',(∀b o,H b=some o->b≠m.kc->H' b=some o)->JW a H' g G N (M+1) p dx mem pr r m->Q (.int (Dn r c ar)) H'):SpCel a vs H Q
def UW(a:Ad):Sp:=λvs H Q _=>SpCel a vs H Q
theorem ok_cel(F:Fun K "cell_after" "Jumps.cell_after" Cy f fd)(T:Top K mg a)(b8:Cb P w K mg base CX0 4 a.c_Grove "state_of" JF (Yh a))(aR:Cb P w K mg base CX0 3 a.c_Grove "leaf" Ro (QO a))(bE:Cal P w K mg base CX0 5 "becomes" LN (UX a)):AL P w K mg base CX0 6 f fd DD (UW a):=by
  refine F.ok Co (λ_ _ _ _ h=>by rcases h;subst_vars;rfl) λaf A ad s H vs Q E Z h=>?_
  obtain⟨p,dx,mem,pr,t,g,G,N,M,r,m,c,d,rfl,l,ht,h8,aa,few,k⟩:=h;obtain⟨kc,c1,c2,c3⟩:=l.me.ce;have O:H t=some (.tup ((kOf (c::d)).map kV)):=by rw[ZD];exact ht
  refine⟨_,(Ab (Ao (i:=2) Co.nd rfl (Or.inl rfl) (FQ (Ek Z) (AC (pv 0) rfl) (pv 1) ⟨rfl,rfl,rfl,rfl⟩)) (Ab (AM (Ay FZ (pv 2) Bz (AD _)) (Ab (Ew (i:=3) rfl Co.nd rfl rfl (BM.of (So:=Al Cy) (No:=Gb) (N:=["one","self"]) (k:=1) (cs:=[0]) rfl rfl A1) (TH (pv 1)) (λ_ _ _=>(Bo (i:=0) A1 rfl rfl)) (λ_ _ _=>BX) (λ_ _ _=>(AI (Ra (K:=K) rfl (pv 1) rfl) b8 (rm Z) Aq (Aa (pv 0) Ae)))) (Ab (Ao (i:=2) Co.nd rfl (Or.inl rfl) (AI (AC (pv 0) rfl) aR (rm Z) Aq (Aa (Aw bE (rm Z) rfl Aq (Aa (AC (pv 0) rfl) (Aa (Aj Av (pv 3) Ac (λ_ _=>rfl)) (Aa (Sz UY (pv 3) (QX Ac) po_none) Ae)))) Ae))) (Ah (Fn (Ek Z) (AC (pv 0) rfl) (pv 1) (pv 2) rfl)))) AB) (Ah (As (pv 2))))),?_⟩
  try dsimp only[cxK]
  refine xwf rfl rfl l.hp T.cl_Jumps T.na_Jumps_known_cells (ZF _ _ _ _ _) ⟨m.kc,rfl,.inr ⟨_,.inl c1⟩,(xq1 rfl ⟨_,Ie.t (k:=kOf (c::d)) c1 O,?_⟩)⟩;cases ev:Bu kc (kOf (c::d))with
  |some v =>
   obtain⟨c',ae,e1,e2⟩:=c3 _ v ev;cases e1;rw[e2];exact xq1 rfl ⟨rfl,(xq1 rfl (Ba (xq1 rfl (k H (λb o e _=>e) (l.mono (C1 _) (T1 _))))))⟩
  |none =>
   refine xq1 rfl ⟨rfl,(xq1 rfl (BL ?_))⟩;refine xq1 rfl ⟨t,rfl,⟨_,SqT.of ht⟩,?_⟩;refine RF (xs:=(c::d).map V.int) (λi q D=>H=D/\q=((c::d).take i).map V.int) ⟨rfl,rfl⟩ (λi q D _ z=>z.1▸SqT.of ht) ?_ ?_
   ·rintro i v q D Y ⟨rfl,rfl⟩;rw[B8]at Y;obtain⟨x,ex,rfl⟩:=D8.mp Y;obtain⟨x0,x8⟩:=aa x (D7 ex);obtain⟨n,rfl⟩:=L5 x0;refine⟨⟨[some (.int (n:Int))],rfl,rfl⟩,?_,Ii (xq1 rfl (xq5 l.hp T.cl_Jumps T.na_Jumps_grove (DG _ _ _ _ _) (xq3 rfl l.gr.hp (TQ g) (xq1 rfl ⟨g,G,n,_,rfl,l.gr,l.ok.leaf n A0,rfl,rfl,?_⟩))))⟩
    ·rw[B5,L8];exact M8 (U6 _ _) (by rw[F0,h8];decide)
    ·rw[L6,ex,S4,C5];rfl
   ·rintro q D ⟨rfl,rfl⟩ L hL;rw[B5,M4];generalize S:upd H L _=H1;obtain⟨s1,X⟩:=alc hL S;have u:=l.same s1;refine xwf rfl rfl u.hp T.cl_Jumps T.na_Jumps_grove (DG _ _ _ _ _) (xq3 rfl u.gr.hp (Vk g) (xwf rfl rfl u.hp T.cl_Jumps T.na_Jumps_rule (jf5_ru _ _ _ _ _) (xwi rfl rfl rfl (SqL.of X) (Ai (j:=0) rfl) ?_)));refine xq1 rfl ⟨1,rfl,L,(xq1 rfl ⟨SqL.of X,λSL ac=>?_⟩)⟩;have U:Ut ((c::d).map V.int) (some 1) none=d.map V.int:=by
     obtain⟨x1,x2,x3,x4,x5,x6,x7,x8,rfl⟩:=eight_of d h8;rfl
    rw[U];generalize dL:upd H1 SL _=D;obtain⟨s2,ab⟩:=alc ac dL;have C:=u.same s2;refine⟨pr,SL,_,r,c,d,rfl,C.ru,C.rok.rok,ab,λH3 s3=>?_⟩;have I:=C.same s3;have B:=(s1.trans s2).trans s3;have R:=bec_st l.rok (aa c C7) d;refine⟨g.p,_,rfl,R.1,R.2,?_⟩;refine xq1 rfl (xq1 rfl (xq5 I.hp T.cl_Jumps T.na_Jumps_known_cells (ZF _ _ _ _ _) (xq1 rfl ⟨m.kc,(xq1 rfl ⟨MJ.t (k:=kOf (c::d)) (B _ _ c1) (B _ _ O) (M8 (show kc.length<=9000000 by lia) A3),?_⟩)⟩)));refine xq1 rfl (k _ (λb o e n=>by rw[Ax n];exact B _ _ e) (I.putC (D0 (Gn _ _ _) A0) λks v hv=>?_));rw[EN]at hv;split at hv
    ·rename_i y;rw[Oc y];cases hv;exact⟨c,d,rfl,rfl⟩
    ·exact c3 ks v hv
end
def FrC(g:GA)(m:MA)(H H':Hp):Prop:=∀b o,H b=some o->b≠g.lv->b≠g.pt->b≠g.nm->b≠m.kc->H' b=some o
theorem FrC.trans{g:GA}{m:MA}{d c l:Hp}(h:FrC g m d c)(k:FrC g m c l):FrC g m d l:=λb o e j i a f=>k _ _ (h _ _ e j i a f) j i a f
theorem FrC.j{g:GA}{m:MA}{c a:Hp}(h:FrC g m c a):FrJ g m c a:=λb o e i k d f _=>h _ _ e i k d f
theorem Fr.c{g:GA}{m:MA}{d a:Hp}(h:Fr g d a):FrC g m d a:=λb o e i j f _=>h _ _ e i j f
def spNo:Sp:=λ_ _ _ _=>False
theorem AL.no{P:Program}{w:World}{K:W.Frag}{mg:Str->Option Value}{a:Heap}{CX:CXT}{k:Nat}{f:Addr}{b:FuncData}{c:List Str}:AL P w K mg a CX k f b c spNo :=
 ⟨λ_ _ _ _ h=>h.elim,λ_ _ _ _ _ _ _ _ _ _ _ _ _ h=>h.elim⟩
theorem bareJ{l:Nat}(h:l<=48):((De 48).map V.int)[l]?=some (.int (bareN l:Int)):=by
 unfold De;rw[B8,B8,O7 A0];rfl
section
variable{P:Program}{w:World}{K:W.Frag}{mg:Str->Option Value}{base:Heap}{a:Ad}
theorem tretl {b:TA} {D:MI} {σ:St} {H:Hp} (h:b σ H λxs c=>xs.length<=sizeLine/\∀p,c p=none->D.rt (.ref p) (upd c p (.lst xs))):tRet (tLst b) D σ H:=h
theorem Gg {c:TE} {b:TA} {σ:St} {H:Hp} {Q:List V->Hp->Prop} (h:c σ H λx e=>b σ e λxs d=>Q (x::xs) d):CU c b σ H Q:=h
theorem ixt{K:W.Frag}{σ:St}{i:Nat}{H:Hp}{t:Addr}{xs:List V}{j:Int}{v:V}{Q:VK}(r:σ[i]?=some (some (.ref t)))(h:H t=some (.tup xs))(e:atI xs j=some v)(k:Q v H):tOp (Lj K) (Gp i) (tC (V.int j)) σ H Q:=⟨_,r,t,xs,j,v,rfl,rfl,SqT.of h,e,k⟩
theorem ixp{K:W.Frag}{H:Hp}{p t:Addr}{b:List Addr}{n:Nat}{Q:VK}(h:H p=some (.lst (b.map V.ref)))(e:b[n]?=some t)(k:Q (.ref t) H):rIxL K (.ref p) (.int n) H Q:=⟨p,_,n,_,rfl,rfl,SqL.of h,Ai (by rw[B8,e];rfl),k⟩
structure Ln(a:Ad)(g:GA)(H0:Hp)(G0:Gv)(j:Nat)(H:Hp)(G:Gv):Prop where
 fr:Fr g H0 H
 kt:∀{b:Addr}{xs:List V},H0 b=some (.tup xs)->H b=some (.tup xs)
 gr:AN a H g G
 go:AG G0 G j
theorem lnk{a:Ad}{r H:Hp}{g:GA}{G0 G:Gv}{j:Nat}{u:Addr}{x y z w:Nat}{l:Int}{Q:VK}(s:Ln a g r G0 j H G)(B:H u=none)(c:An G0 x l/\An G0 y l/\An G0 z l/\An G0 w l)(o:l<=47)(few:G0.length+j<9000000)
  (k:∀(n:Nat)(d:Gv)(i:Hp),Ln a g r G0 (j+1) i d->AG G d 1->d[n]?=some ⟨[(x:Int),(y:Int),(z:Int),(w:Int)],l+1⟩->Q (.int n) i):Ux a [.ref g.p,.ref u] (upd H u (.tup [.int x,.int y,.int z,.int w])) Q:=by
 generalize q:upd H u _=D;obtain⟨m,t⟩:=alc B q;have f:=s.gr.same m;have C:=s.go.few;refine⟨g,G,u,x,y,z,w,l,rfl,f,s.go.ok,t,⟨s.go.lev c.1,s.go.lev c.2.1,s.go.lev c.2.2.1,s.go.lev c.2.2.2⟩,o,by lia,λn d i fr A go e=>k n d i ⟨s.fr.trans ((AA.fr m).trans fr),λ{b xs} e=>?_,A,s.go.trans go⟩ go e⟩;obtain⟨us,v,_⟩:=f.pt;have h:=m _ _ (s.kt e);exact fr _ _ h (AH h f.lv A4) (AH h v A4) (AH h f.nm A4)
theorem ttup {b:TA} {σ:St} {H:Hp} {Q:VK} (h:b σ H λxs c=>xs.length<=sizeLine/\∀p,c p=none->Q (.ref p) (upd c p (.tup xs))):Yb b σ H Q:=h
theorem al9{P:Int->Prop}{a b c d e f g h i:Int}(k:P a)(l:P b)(m:P c)(n:P d)(s:P e)(o:P f)(r:P g)(p:P h)(q:P i):∀x∈[a,b,c,d,e,f,g,h,i],P x:=by
 intro x j;simp only[B7,C6,K7]at j;rcases j with rfl|rfl|rfl|rfl|rfl|rfl|rfl|rfl|rfl<;>assumption
structure Lc(g:GA)(m:MA)(H0 H:Hp):Prop where
 fr:FrC g m H0 H
 kt:∀{b:Addr}{xs:List V},H0 b=some (.tup xs)->H b=some (.tup xs)
theorem celT{a:Ad}{q H:Hp}{g:GA}{G:Gv}{N M:Nat}{p dx mem j u:Addr}{r:AF}{m:MA}{c:Int}{d:List Int}{Q:VK}(v:JW a H g G N M p dx mem j r m)(t:Lc g m q H)(E:H u=none)(f:∀x∈c::d,Lx x)(A:d.length=8)(y:M<9000000)
  (h:∀(k:Nat)(Y:Hp),Dn r c d=k->k<8->Lc g m q Y->JW a Y g G N (M+1) p dx mem j r m->Q (.int k) Y):SpCel a [.ref p,.ref u] (upd H u (.tup ((c::d).map V.int))) Q:=by
 generalize n:upd H u _=X;obtain⟨s,z⟩:=alc E n;have i:=v.same s;refine⟨p,dx,mem,j,u,g,G,N,M,r,m,c,d,rfl,i,z,A,f,y,λY fr l=>?_⟩;obtain⟨B,O⟩:=bec_st v.rok (f c (.head ..)) d;obtain⟨k,e⟩:=L5 B;rw[e];refine h k Y e A0 ⟨t.fr.trans λb o e _ _ _ D=>fr _ _ (s _ _ e) D,λ{b xs} e=>?_⟩ l;obtain⟨I,C,_⟩:=i.me.ce;have e:=s _ _ (t.kt e);exact fr _ _ e (AH e C A4)
theorem cel9{K:W.Frag}{a:Ad}{b H:Hp}{g:GA}{G:Gv}{N M:Nat}{p dx mem pr:Addr}{r:AF}{m:MA}{σ:St}{Q:VK}{i1 i2 i3 i4 i5 i6 i7 I i9:Nat}{O t2 t3 X Z T t7 t8 t9:Addr}{h s f i q o n j l:List V}{j1 S j3 j4 R j6 U j8 j9 C A u y v t E B z:Int}(hj:JW a H g G N M p dx mem pr r m)(c:Lc g m b H)(h1:b O=some (.tup h))(h2:b t2=some (.tup s))(h3:b t3=some (.tup f))(h4:b X=some (.tup i))(h5:b Z=some (.tup q))(h6:b T=some (.tup o))(h7:b t7=some (.tup n))(h8:b t8=some (.tup j))(h9:b t9=some (.tup l))(D:∀x∈[C,A,u,y,v,t,E,B,z],Lx x)(hM:M<9000000)
  (k:∀(k:Nat)(Y:Hp),Dn r C [A,u,y,v,t,E,B,z]=k->k<8->Lc g m b Y->JW a Y g G N (M+1) p dx mem pr r m->Q (.int k) Y) (e:σ[0]?=some (some (.ref p))/\(σ[i1]?=some (some (.ref O))/\atI h j1=some (.int C))/\(σ[i2]?=some (some (.ref t2))/\atI s S=some (.int A))/\(σ[i3]?=some (some (.ref t3))/\atI f j3=some (.int u))/\(σ[i4]?=some (some (.ref X))/\atI i j4=some (.int y))/\(σ[i5]?=some (some (.ref Z))/\atI q R=some (.int v))/\(σ[i6]?=some (some (.ref T))/\atI o j6=some (.int t))/\(σ[i7]?=some (some (.ref t7))/\atI n U=some (.int E))/\(σ[I]?=some (some (.ref t8))/\atI j j8=some (.int B))/\(σ[i9]?=some (some (.ref t9))/\atI l j9=some (.int z)):=by exact⟨rfl,⟨rfl,rfl⟩,⟨rfl,rfl⟩,⟨rfl,rfl⟩,⟨rfl,rfl⟩,⟨rfl,rfl⟩,⟨rfl,rfl⟩,⟨rfl,rfl⟩,⟨rfl,rfl⟩,⟨rfl,rfl⟩⟩) :
  UK a.c_Jumps "cell_after" (UW a) [] E0 (Gp 0) (CU (Yb (CU (tOp (Lj K) (Gp i1) (tC (V.int j1))) (CU (tOp (Lj K) (Gp i2) (tC (V.int S))) (CU (tOp (Lj K) (Gp i3) (tC (V.int j3))) (CU (tOp (Lj K) (Gp i4) (tC (V.int j4))) (CU (tOp (Lj K) (Gp i5) (tC (V.int R))) (CU (tOp (Lj K) (Gp i6) (tC (V.int j6))) (CU (tOp (Lj K) (Gp i7) (tC (V.int U))) (CU (tOp (Lj K) (Gp I) (tC (V.int j8))) (CU (tOp (Lj K) (Gp i9) (tC (V.int j9))) QI)))))))))) QI) σ H Q:=by
 apply Bh;intro G_ d;obtain⟨r0,⟨r1,e1⟩,⟨r2,e2⟩,⟨r3,e3⟩,⟨r4,e4⟩,⟨r5,e5⟩,⟨r6,e6⟩,⟨r7,e7⟩,⟨r8,e8⟩,⟨r9,e9⟩⟩:=e;apply d;clear d G_;exact⟨_,r0,(xq3 rfl hj.hp (Zk _ _ _ _ _) (ixt r1 (c.kt h1) e1 (ixt r2 (c.kt h2) e2 (ixt r3 (c.kt h3) e3 (ixt r4 (c.kt h4) e4 (ixt r5 (c.kt h5) e5 (ixt r6 (c.kt h6) e6 (ixt r7 (c.kt h7) e7 (ixt r8 (c.kt h8) e8 (ixt r9 (c.kt h9) e9 ⟨(by show 9<=sizeLine;decide),λ_ hu=>celT hj c hu D rfl hM k⟩))))))))))⟩
inductive SpMid2(a:Ad)(vs:List V)(H:Hp)(Q:VK):Prop
 |mk (p dx mem pr:Addr) (g:GA) (G:Gv) (N M:Nat) (r:AF) (m:MA) (n:Nat) (_:vs=[.ref p,.int n]) (_:JW a H g G N M p dx mem pr r m) (_:An G n ((1+1:Nat):Int)) (_:M<8500000) (_:G.length<8000000) (_:∀(k:Nat)(G':Gv)(H':Hp),FrC g m H H'->JW a H' g G' N (M+4) p dx mem pr r m->AG G G' 1->JR r G' 0 n k->Q (.int k) H'):SpMid2 a vs H Q
def QN(a:Ad):Sp:=λvs H Q _=>SpMid2 a vs H Q
theorem ok_mid2(F:Fun K "middle_after" "Jumps.middle_after" CY f fd)(T:Top K mg a)(a8:Cb P w K mg base CX0 2 a.c_Grove "linked" AW (DS a))(aJ:Cb P w K mg base CX0 6 a.c_Jumps "cell_after" DD (UW a)):AL P w K mg base CX0 7 f fd JF (QN a):=by
 refine F.ok Bj (λvs H Q E h=>?_) (λbi A au s H vs Q E R h=>?_)
 ·apply Bh;intro G_ y;obtain⟨p,dx,mem,pr,g,G,N,M,r,m,n,rfl,_⟩:=h;apply y;clear y G_;rfl
 ·apply Bh;intro G_ y;obtain⟨p,dx,mem,pr,g,G,N,M,r,m,n,rfl,d,hl,bb,few,k⟩:=h;obtain⟨qa,qb,qc,qd,en,la,lb,lc,ld⟩:=d.ok.four hl;obtain⟨a0,a1,a2,a3,ea,am,V,Y,C⟩:=d.ok.four (l:=0) la;obtain⟨b0,b1,b2,b3,eb,X,ad,I,U⟩:=d.ok.four (l:=0) lb;obtain⟨c0,c1,c2,c3,ec,ab,D,al,S⟩:=d.ok.four (l:=0) lc;obtain⟨d0,d1,d2,d3,ed,z,ac,aa,ae⟩:=d.ok.four (l:=0) ld;obtain⟨ts,O,Z⟩:=d.gr.pt;obtain⟨t,et,ht⟩:=PairedM.get Z en;obtain⟨ta,as,q⟩:=PairedM.get Z ea;obtain⟨tb,ah,v⟩:=PairedM.get Z eb;obtain⟨tc,an,j⟩:=PairedM.get Z ec;obtain⟨td,ak,o⟩:=PairedM.get Z ed;apply y;clear y G_;refine⟨_,(Ab (Ao (i:=2) Bj.nd rfl (Or.inl rfl) (Aj Av (AC (AC (pv 0) rfl) rfl) (pv 1) (λ_ _=>rfl))) (Ab (Ao (i:=3) Bj.nd rfl (Or.inl rfl) (Aj Av (AC (AC (pv 0) rfl) rfl) (Aj Ak (pv 2) Ac (λ_ _=>rfl)) (λ_ _=>rfl))) (Ab (Ao (i:=4) Bj.nd rfl (Or.inl rfl) (Aj Av (AC (AC (pv 0) rfl) rfl) (Aj Ak (pv 2) Ac (λ_ _=>rfl)) (λ_ _=>rfl))) (Ab (Ao (i:=5) Bj.nd rfl (Or.inl rfl) (Aj Av (AC (AC (pv 0) rfl) rfl) (Aj Ak (pv 2) Ac (λ_ _=>rfl)) (λ_ _=>rfl))) (Ab (Ao (i:=6) Bj.nd rfl (Or.inl rfl) (Aj Av (AC (AC (pv 0) rfl) rfl) (Aj Ak (pv 2) Ac (λ_ _=>rfl)) (λ_ _=>rfl))) (Ah (As (AI (AC (pv 0) rfl) a8 (rm R) Aq (AT (Aa (AI (pv 0) aJ (rm R) Aq (AT (Aa (Aj Ak (pv 3) Ac (λ_ _=>rfl)) (Aa (Aj Ak (pv 3) Ac (λ_ _=>rfl)) (Aa (Aj Ak (pv 3) Ac (λ_ _=>rfl)) (Aa (Aj Ak (pv 4) Ac (λ_ _=>rfl)) (Aa (Aj Ak (pv 3) Ac (λ_ _=>rfl)) (Aa (Aj Ak (pv 4) Ac (λ_ _=>rfl)) (Aa (Aj Ak (pv 5) Ac (λ_ _=>rfl)) (Aa (Aj Ak (pv 5) Ac (λ_ _=>rfl)) (Aa (Aj Ak (pv 6) Ac (λ_ _=>rfl)) Ae))))))))) Ae)) (Aa (AI (pv 0) aJ (rm R) Aq (AT (Aa (Aj Ak (pv 4) Ac (λ_ _=>rfl)) (Aa (Aj Ak (pv 3) Ac (λ_ _=>rfl)) (Aa (Aj Ak (pv 4) Ac (λ_ _=>rfl)) (Aa (Aj Ak (pv 4) Ac (λ_ _=>rfl)) (Aa (Aj Ak (pv 3) Ac (λ_ _=>rfl)) (Aa (Aj Ak (pv 4) Ac (λ_ _=>rfl)) (Aa (Aj Ak (pv 5) Ac (λ_ _=>rfl)) (Aa (Aj Ak (pv 6) Ac (λ_ _=>rfl)) (Aa (Aj Ak (pv 6) Ac (λ_ _=>rfl)) Ae))))))))) Ae)) (Aa (AI (pv 0) aJ (rm R) Aq (AT (Aa (Aj Ak (pv 5) Ac (λ_ _=>rfl)) (Aa (Aj Ak (pv 3) Ac (λ_ _=>rfl)) (Aa (Aj Ak (pv 3) Ac (λ_ _=>rfl)) (Aa (Aj Ak (pv 4) Ac (λ_ _=>rfl)) (Aa (Aj Ak (pv 5) Ac (λ_ _=>rfl)) (Aa (Aj Ak (pv 6) Ac (λ_ _=>rfl)) (Aa (Aj Ak (pv 5) Ac (λ_ _=>rfl)) (Aa (Aj Ak (pv 5) Ac (λ_ _=>rfl)) (Aa (Aj Ak (pv 6) Ac (λ_ _=>rfl)) Ae))))))))) Ae)) (Aa (AI (pv 0) aJ (rm R) Aq (AT (Aa (Aj Ak (pv 6) Ac (λ_ _=>rfl)) (Aa (Aj Ak (pv 3) Ac (λ_ _=>rfl)) (Aa (Aj Ak (pv 4) Ac (λ_ _=>rfl)) (Aa (Aj Ak (pv 4) Ac (λ_ _=>rfl)) (Aa (Aj Ak (pv 5) Ac (λ_ _=>rfl)) (Aa (Aj Ak (pv 6) Ac (λ_ _=>rfl)) (Aa (Aj Ak (pv 5) Ac (λ_ _=>rfl)) (Aa (Aj Ak (pv 6) Ac (λ_ _=>rfl)) (Aa (Aj Ak (pv 6) Ac (λ_ _=>rfl)) Ae))))))))) Ae)) Ae)))) Ae))))))))),?_⟩
  try dsimp only[cxK]
  refine AZ ?_;intro bf ay k0 B a5;refine xwf rfl rfl d.hp T.cl_Jumps T.na_Jumps_grove (DG _ _ _ _ _) (xq5 d.gr.hp T.cl_Grove T.na_Grove_parts (Cd g) (xq1 rfl (ixp O et ?_)));refine B ?_;refine AZ ?_;intro a7 ba k1 B aw;refine xwf rfl rfl d.hp T.cl_Jumps T.na_Jumps_grove (DG _ _ _ _ _) (xq5 d.gr.hp T.cl_Grove T.na_Grove_parts (Cd g) (ixt rfl ht rfl (ixp O as ?_)));refine B ?_;refine AZ ?_;intro bh bg k2 B az;refine xwf rfl rfl d.hp T.cl_Jumps T.na_Jumps_grove (DG _ _ _ _ _) (xq5 d.gr.hp T.cl_Grove T.na_Grove_parts (Cd g) (ixt rfl ht rfl (ixp O ah ?_)));refine B ?_;refine AZ ?_;intro ax a4 k3 B a6;refine xwf rfl rfl d.hp T.cl_Jumps T.na_Jumps_grove (DG _ _ _ _ _) (xq5 d.gr.hp T.cl_Grove T.na_Grove_parts (Cd g) (ixt rfl ht rfl (ixp O an ?_)));refine B ?_;refine AZ ?_;intro a9 bc k4 B bd;refine xwf rfl rfl d.hp T.cl_Jumps T.na_Jumps_grove (DG _ _ _ _ _) (xq5 d.gr.hp T.cl_Grove T.na_Grove_parts (Cd g) (ixt rfl ht rfl (ixp O ak ?_)));refine B ?_;have b:∀{x:Nat},An G x ((0:Nat):Int)->Lx (x:Int):=λ{x} h=>by
   have:=d.ok.cell h;exact⟨by lia,by lia⟩
  have c_:Lc g m H H:=⟨λ_ _ e _ _ _ _=>e,λe=>e⟩
  refine xwf rfl rfl d.hp T.cl_Jumps T.na_Jumps_grove (DG _ _ _ _ _) (xq3 rfl d.gr.hp (BR g) ?_);refine Gg (ttup (Gg (cel9 d c_ q q q v q v j j o (al9 (b C) (b am) (b V) (b X) (b Y) (b I) (b ab) (b D) (b z)) A0 λk0 Y0 af ao x0 j0=>?_)));refine Gg (cel9 j0 x0 v q v v q v j o o (al9 (b I) (b V) (b X) (b ad) (b C) (b U) (b D) (b z) (b ac)) A0 λk1 Y1 av ar x1 j1=>?_);refine Gg (cel9 j1 x1 j q q v j o j j o (al9 (b D) (b Y) (b C) (b I) (b ab) (b z) (b al) (b S) (b aa)) A0 λk2 Y2 ag aq x2 j2=>?_);refine Gg (cel9 j2 x2 o q v v j o j o o (al9 (b z) (b C) (b I) (b U) (b D) (b ac) (b S) (b aa) (b ae)) A0 λk3 Y3 ai aj x3 j3=>?_);have lf:∀{k:Nat},k<8->An G k ((0:Nat):Int):=λ{k} h=>⟨_,d.ok.leaf k h,rfl⟩
  refine⟨(by show 4<=sizeLine;decide),λu hu=>lnk (⟨.refl _ _,λe=>e,j3.gr,.refl d.ok⟩:Ln a g Y3 G 0 Y3 G) hu ⟨lf ao,lf ar,lf aq,lf aj⟩ A3 A0 λx G' H' s go e=>?_⟩;refine k x G' H' (x3.fr.trans (Fr.c s.fr)) (j3.fr s.fr s.gr go) go ⟨0,go.lev hl,C1 0,⟨_,e,rfl⟩,?_⟩;apply Bh;intro G_ y;obtain⟨rfl,rfl,rfl,rfl⟩:=En (go.get ea);obtain⟨rfl,rfl,rfl,rfl⟩:=En (go.get eb);obtain⟨rfl,rfl,rfl,rfl⟩:=En (go.get ec);obtain⟨rfl,rfl,rfl,rfl⟩:=En (go.get ed);obtain⟨rfl,rfl,rfl,rfl⟩:=En (go.get en);obtain⟨rfl,rfl,rfl,rfl⟩:=En e;apply y;clear y G_;intro x' y' hx hy
  match x',hx,y',hy with
  |0,_,0,_=>exact af.symm
  |1,_,0,_=>exact av.symm
  |0,_,1,_=>exact ag.symm
  |1,_,1,_=>exact ai.symm
inductive SpCj(a:Ad)(vs:List V)(H:Hp)(Q:VK):Prop
 |mk (p dx gp mem pr l kc:Addr) (g:GA) (G:Gv) (n e:Nat) (q:Sq) (_:vs=[.ref p,.int n,.int e]) (_:H p=some (.ins a.c_Jumps dx (jf5 g.p mem pr l kc))) (_:AN a H g G) (_:G[n]?=some q) (_:2+(e:Int)<=q.lev) (_:Q .non H):SpCj a vs H Q
def spCj(a:Ad):Sp:=λvs H Q _=>SpCj a vs H Q
theorem ok_cj(F:Fun K "check_jump" "Jumps.check_jump" Dz f fd)(T:Top K mg a)(t:Cb P w K mg base CX0 3 a.c_Grove "level_of" JF (Ma a))(v:Cal P w K mg base CX0 1 "is_whole" TX Yu):AL P w K mg base CX0 4 f fd PM (spCj a):=by
 refine F.ok Fc (λvs H Q E h=>?_) (λx A c s H vs Q E j h=>?_)
 ·apply Bh;intro d b;obtain⟨p,dx,o,mem,u,l,r,g,G,n,e,q,rfl,_⟩:=h;apply b;clear b d;rfl
 ·apply Bh;intro d b;obtain⟨p,dx,o,mem,u,l,r,g,G,n,e,q,rfl,hp,m,eq,y,k⟩:=h;apply b;clear b d;refine⟨_,(Ab (Ao (i:=3) Fc.nd rfl (Or.inl rfl) (AI (AC (pv 0) rfl) t (rm j) Aq (Aa (pv 1) Ae))) (Ab (AM (Ay Fe (pv 3) (BY rfl T.k_LEAST_JUMPED) (AD _)) (Ah Bw) AB) (Ah (AM (PW.pt (Mn (Da (CM (Aw v (rm j) rfl Aq (Aa (pv 2) Ae)))) (IE (Da (Sx Lo Lo Ac (pv 2) (AE AS (pv 3) (BY rfl T.k_LEAST_JUMPED))))))) (Ah Bw) AB)))),?_⟩
  try dsimp only[cxK]
  refine xwf rfl rfl hp T.cl_Jumps T.na_Jumps_grove (DG _ _ _ _ _) (xq3 rfl m.hp (DF g) (xq1 rfl ⟨g,G,n,q,rfl,m,eq,?_⟩));refine xwb rfl rfl rfl (xq1 rfl ?_);rw[Z8 (by lia:¬q.lev<2)];refine Ba ?_;refine⟨_,rfl,_,rfl,true,rfl,Ba ⟨_,rfl,_,_,rfl,rfl,_,rfl,?_⟩⟩;rw[Z7 (by lia:(0:Int)<=(e:Int))];refine BL (xwb rfl rfl rfl (xq2 rfl rfl (xq1 rfl ?_)));rw[Z7 (by lia:(e:Int)<=q.lev-2)];exact Ba k
end
end J
namespace J
open PySem L2
theorem RD(G:Gv):∀(l n x y i j:Nat),cel G l n (x+2^l*i) (y+2^l*j)=cel G l n x y
 |0,n,x,y,i,j=>rfl
 |l+1,n,x,y,i,j=>by
  show cel G l (qO G n (((x+2^(l+1)*i)/2^l)%2+2*(((y+2^(l+1)*j)/2^l)%2))) (x+2^(l+1)*i) (y+2^(l+1)*j)=cel G l (qO G n ((x/2^l)%2+2*((y/2^l)%2))) x y;have p:0<2^l:=U0 A3;have e:∀i:Nat,2^(l+1)*i=2^l*(2*i):=λi=>by rw[F4,Nat.mul_assoc]
  rw[e i,e j,P1 _ _ p,P1 _ _ p,P9,P9];exact RD G l _ x y (2*i) (2*j)
theorem Pj(G:Gv)(l n:Nat){x y i j:Nat}(d:x<2^l)(a:y<2^l)(b:i<2)(c:j<2):Cr G (l+1) n (x+2^l*i) (y+2^l*j)=Cr G l (qO G n (i+2*j)) x y:=by
 unfold Cr;show((cel G l (qO G n (((x+2^l*i)/2^l)%2+2*(((y+2^l*j)/2^l)%2))) (x+2^l*i) (y+2^l*j):Nat):Int)=_;have p:0<2^l:=U0 A3;rw[P1 _ _ p,P1 _ _ p,N8 d,N8 a,N6,N6,N3 b,N3 c,RD]
theorem Sa(r:AF)(c:Nat->Nat->Int)(n:Nat):∀m,Bl r (m+n) c=Bl r m (Bl r n c)
 |0=>by rw[N6];rfl
 |m+1=>by
  rw[show m+1+n=(m+n)+1 by lia];show stp r (Bl r (m+n) c)=stp r (Bl r m (Bl r n c));rw[Sa r c n m]
theorem RZ(r:AF){c d:Nat->Nat->Int}{X Y:Nat}:∀(k x y:Nat),k<=x->k<=y->(∀u v,x-k<=u->u<=x+k->y-k<=v->v<=y+k->c u v=d (u+X) (v+Y))->Bl r k c x y=Bl r k d (x+X) (y+Y)
 |0,x,y,_,_,h=>h x y A0 A0 A0 A0
 |k+1,x,y,hx,hy,h=>by
  have e:∀u v,x-1<=u->u<=x+1->y-1<=v->v<=y+1->Bl r k c u v=Bl r k d (u+X) (v+Y):=λu v g l m o=>RZ r k u v A0 A0 λa b f n i j=>h a b A0 A0 A0 A0;show Dn r (Bl r k c x y) [Bl r k c (x-1) (y-1),Bl r k c x (y-1),Bl r k c (x+1) (y-1),Bl r k c (x-1) y,Bl r k c (x+1) y,Bl r k c (x-1) (y+1),Bl r k c x (y+1),Bl r k c (x+1) (y+1)]=Dn r (Bl r k d (x+X) (y+Y)) [Bl r k d (x+X-1) (y+Y-1),Bl r k d (x+X) (y+Y-1),Bl r k d (x+X+1) (y+Y-1),Bl r k d (x+X-1) (y+Y),Bl r k d (x+X+1) (y+Y),Bl r k d (x+X-1) (y+Y+1),Bl r k d (x+X) (y+Y+1),Bl r k d (x+X+1) (y+Y+1)];rw[e x y A0 A0 A0 A0,e (x-1) (y-1) A0 A0 A0 A0,e x (y-1) A0 A0 A0 A0,e (x+1) (y-1) A0 A0 A0 A0,e (x-1) y A0 A0 A0 A0,e (x+1) y A0 A0 A0 A0,e (x-1) (y+1) A0 A0 A0 A0,e x (y+1) A0 A0 A0 A0,e (x+1) (y+1) A0 A0 A0 A0];rw[show x-1+X=x+X-1 by lia,show y-1+Y=y+Y-1 by lia,show x+1+X=x+X+1 by lia,show y+1+Y=y+Y+1 by lia]
def Vw(G:Gv)(c:Nat->Nat->Int)(l m X Y:Nat):Prop:=∀x y,x<2^l->y<2^l->Cr G l m x y=c (x+X) (y+Y)
theorem Vw.q{G:Gv}{c:Nat->Nat->Int}{l m X Y i j:Nat}(h:Vw G c (l+1) m X Y)(b:i<2)(d:j<2):Vw G c l (qO G m (i+2*j)) (X+2^l*i) (Y+2^l*j):=λx y e a=>by
 rw[<-Pj G l m e a b d,h _ _ ?_ ?_]
 ·rw[show x+2^l*i+X=x+(X+2^l*i) by lia,show y+2^l*j+Y=y+(Y+2^l*j) by lia]
 ·rw[F4];have:2^l*i<=2^l*1:=N7 _ A0;lia
 ·rw[F4];have:2^l*j<=2^l*1:=N7 _ A0;lia
theorem Vw.of{G:Gv}{c:Nat->Nat->Int}{l m X Y:Nat}(f:Vw G c l (qO G m 0) X Y)(e:Vw G c l (qO G m 1) (X+2^l) Y)(g:Vw G c l (qO G m 2) X (Y+2^l))(h:Vw G c l (qO G m 3) (X+2^l) (Y+2^l)):Vw G c (l+1) m X Y:=λx y k d=>by
 rw[F4]at k d;by_cases b:x<2^l
 ·by_cases a:y<2^l
  ·have:=Pj G l m b a (i:=0) (j:=0) A3 A3;rw[show x+2^l*0=x by lia,show y+2^l*0=y by lia]at this;rw[this];exact f x y b a
  ·have:=Pj G l m b (y:=y-2^l) A0 (i:=0) (j:=1) A3 A3;rw[show x+2^l*0=x by lia,show y-2^l+2^l*1=y by lia]at this;rw[this,g x (y-2^l) b A0,show y-2^l+(Y+2^l)=y+Y by lia]
 ·by_cases a:y<2^l
  ·have:=Pj G l m (x:=x-2^l) A0 a (i:=1) (j:=0) A3 A3;rw[show y+2^l*0=y by lia,show x-2^l+2^l*1=x by lia]at this;rw[this,e (x-2^l) y A0 a,show x-2^l+(X+2^l)=x+X by lia]
  ·have:=Pj G l m (x:=x-2^l) (y:=y-2^l) A0 A0 (i:=1) (j:=1) A3 A3;rw[show x-2^l+2^l*1=x by lia,show y-2^l+2^l*1=y by lia]at this;rw[this,h (x-2^l) (y-2^l) A0 A0,show x-2^l+(X+2^l)=x+X by lia,show y-2^l+(Y+2^l)=y+Y by lia]
theorem Vw.jump{G:Gv}{r:AF}{c:Nat->Nat->Int}{l e m k X Y:Nat}(h:Vw G c (l+2) m X Y)(d:e<=l)(j:∀x y,x<2^(l+1)->y<2^(l+1)->Cr G (l+1) k x y=Bl r (2^e) (Cr G (l+2) m) (x+2^l) (y+2^l)):Vw G (Bl r (2^e) c) (l+1) k (X+2^l) (Y+2^l):=λx y b a=>by
 have p:2^e<=2^l:=O0 A3 d;have g:2^(l+1)=2^l*2:=F4 ..;have q:2^(l+2)=2^l*2*2:=by rw[F4,F4]
 rw[j x y b a,RZ r (X:=X) (Y:=Y) (2^e) (x+2^l) (y+2^l) A0 A0 λu v f i n o=>h u v A0 A0];rw[show x+2^l+X=x+(X+2^l) by lia,show y+2^l+Y=y+(Y+2^l) by lia]
seal L2.PA L2.PE L2.PS L2.PSs L2.PT L2.PW
theorem Vw.at'{G:Gv}{c:Nat->Nat->Int}{l m X Y X' Y':Nat}(h:Vw G c l m X Y)(a:X=X')(b:Y=Y'):Vw G c l m X' Y':=by
 subst a;subst b;exact h
theorem Vw.goes{G a:Gv}{c:Nat->Nat->Int}{l m X Y i:Nat}(h:Vw G c l m X Y)(ok:GOk G)(go:AG G a i)(d:An G m (l:Int)):Vw a c l m X Y:=λx y e b=>by
 rw[CK ok go d];exact h x y e b
section
variable{P:Program}{w:World}{K:W.Frag}{mg:Str->Option Value}{base:Heap}{a:Ad}
inductive SpNine(a:Ad)(vs:List V)(H:Hp)(Q:VK):Prop
 |mk (g:GA) (G:Gv) (n l:Nat) (_:vs=[.ref g.p,.int n]) (_:AN a H g G) (_:GOk G) (_:An G n ((l+1+1:Nat):Int)) (_:l<=46) (_:G.length<8000000) (_:∀(L:Addr)(ks:List Nat)(G':Gv)(H':Hp),Fr g H H'->AN a H' g G'->AG G G' 5->H' L=some (.lst (ks.map λ(k:Nat)=>V.int (k:Int)))->ks.length=9->(∀i j,i<3->j<3->∃k,ks[i+3*j]?=some k/\An G' k ((l+1:Nat):Int)/\Vw G' (Cr G (l+2) n) (l+1) k (2^l*i) (2^l*j))->Q (.ref L) H'):SpNine a vs H Q
def Oq(a:Ad):Sp:=λvs H Q _=>SpNine a vs H Q
theorem Zv{K:W.Frag}{a:Ad}{b H:Hp}{g:GA}{G0 G:Gv}{j:Nat}{σ:St}{v C D t:Nat}{o M A u:Addr}{f i d h:List V}{B N q E:Int}{x y z w:Nat}{l:Int}{Q:VK}(s:Ln a g b G0 j H G)(S:b o=some (.tup f))(h2:b M=some (.tup i))(h3:b A=some (.tup d))(Y:b u=some (.tup h))(T:An G0 x l/\An G0 y l/\An G0 z l/\An G0 w l)(few:l<=47/\G0.length+j<9000000)
  (k:∀(n:Nat)(m:Gv)(I:Hp),Ln a g b G0 (j+1) I m->AG G m 1->m[n]?=some ⟨[(x:Int),(y:Int),(z:Int),(w:Int)],l+1⟩->Q (.int n) I) (e:(σ[0]?=some (some (.ref g.p))/\σ[v]?=some (some (.ref o))/\σ[C]?=some (some (.ref M))/\σ[D]?=some (some (.ref A))/\σ[t]?=some (some (.ref u)))/\atI f B=some (.int x)/\atI i N=some (.int y)/\atI d q=some (.int z)/\atI h E=some (.int w):=by exact⟨⟨rfl,rfl,rfl,rfl,rfl⟩,rfl,rfl,rfl,rfl⟩):UK a.c_Grove "linked" (DS a) [] E0 (Gp 0) (CU (Yb (CU (tOp (Lj K) (Gp v) (tC (V.int B))) (CU (tOp (Lj K) (Gp C) (tC (V.int N))) (CU (tOp (Lj K) (Gp D) (tC (V.int q))) (CU (tOp (Lj K) (Gp t) (tC (V.int E))) QI))))) QI) σ H Q:=by
 apply Bh;intro G_ c;obtain⟨⟨r,R,r2,Z,U⟩,e1,e2,O,e4⟩:=e;apply c;clear c G_;exact⟨_,r,(xq3 rfl s.gr.hp (BR g) (ixt R (s.kt S) e1 (ixt r2 (s.kt h2) e2 (ixt Z (s.kt h3) O (ixt U (s.kt Y) e4 ⟨(by show 4<=sizeLine;decide),λ_ X=>lnk s X T few.1 few.2 k⟩)))))⟩
theorem vw4{G:Gv}{c:Nat->Nat->Int}{l m x y z w X Y:Nat}{h:Int}(e:G[m]?=some ⟨[(x:Int),(y:Int),(z:Int),(w:Int)],h⟩)(f:Vw G c l x (2^l*X) (2^l*Y))(d:Vw G c l y (2^l*(X+1)) (2^l*Y))(i:Vw G c l z (2^l*X) (2^l*(Y+1)))(j:Vw G c l w (2^l*(X+1)) (2^l*(Y+1))):Vw G c (l+1) m (2^l*X) (2^l*Y):=by
 apply Bh;intro g b;obtain⟨rfl,rfl,rfl,rfl⟩:=En e;apply b;clear b g;exact .of f d i j
theorem vwQ{G:Gv}{c:Nat->Nat->Int}{l m x y z w X Y:Nat}{f:Int}(e:G[m]?=some ⟨[(x:Int),(y:Int),(z:Int),(w:Int)],f⟩)(v:Vw G c (l+1) m (2^l*X) (2^l*Y)):Vw G c l x (2^l*X) (2^l*Y)/\Vw G c l y (2^l*(X+1)) (2^l*Y)/\Vw G c l z (2^l*X) (2^l*(Y+1))/\Vw G c l w (2^l*(X+1)) (2^l*(Y+1)):=by
 apply Bh;intro d b;obtain⟨rfl,rfl,rfl,rfl⟩:=En e;apply b;clear b d;exact⟨v.q (i:=0) (j:=0) A3 A3,(v.q (i:=1) (j:=0) A3 A3).at' A0 rfl,(v.q (i:=0) (j:=1) A3 A3).at' rfl A0,(v.q (i:=1) (j:=1) A3 A3).at' A0 A0⟩
theorem ok_nine(F:Fun K "nine_parts" "nine_parts" Iq f fd)(T:Top K mg a)(X:Cb P w K mg base CX0 2 a.c_Grove "linked" AW (DS a)):AL P w K mg base CX0 3 f fd JU (Oq a):=by
 refine F.ok CG (λvs H Q E h=>?_) (λbm A au s H vs Q E hr h=>?_)
 ·apply Bh;intro R b;obtain⟨g,G,n,l,rfl,_⟩:=h;apply b;clear b R;rfl
 ·apply Bh;intro R b;obtain⟨g,G,n,l,rfl,z,ok,hl,bv,few,k⟩:=h;obtain⟨qa,qb,qc,qd,en,la,lb,lc,ld⟩:=ok.four hl;obtain⟨a0,a1,a2,a3,ea,br,ae,aj,N⟩:=ok.four la;obtain⟨b0,b1,b2,b3,eb,ai,bl,U,ab⟩:=ok.four lb;obtain⟨c0,c1,c2,c3,ec,aq,O,bq,aa⟩:=ok.four lc;obtain⟨d0,d1,d2,d3,ed,I,av,an,bn⟩:=ok.four ld;obtain⟨ts,Z,h4⟩:=z.pt;obtain⟨t,et,v⟩:=PairedM.get h4 en;obtain⟨ta,ar,p⟩:=PairedM.get h4 ea;obtain⟨tb,af,q⟩:=PairedM.get h4 eb;obtain⟨tc,al,c⟩:=PairedM.get h4 ec;obtain⟨td,ag,d⟩:=PairedM.get h4 ed;apply b;clear b R;have s0:Ln a g H G 0 H G:=⟨.refl _ _,λe=>e,z,.refl ok⟩
  refine⟨_,(Ab (Ao (i:=2) CG.nd rfl (Or.inl rfl) (Aj Av (AC (pv 0) rfl) (pv 1) (λ_ _=>rfl))) (Ab (Ao (i:=3) CG.nd rfl (Or.inl rfl) (Aj Av (AC (pv 0) rfl) (Aj Ak (pv 2) Ac (λ_ _=>rfl)) (λ_ _=>rfl))) (Ab (Ao (i:=4) CG.nd rfl (Or.inl rfl) (Aj Av (AC (pv 0) rfl) (Aj Ak (pv 2) Ac (λ_ _=>rfl)) (λ_ _=>rfl))) (Ab (Ao (i:=5) CG.nd rfl (Or.inl rfl) (Aj Av (AC (pv 0) rfl) (Aj Ak (pv 2) Ac (λ_ _=>rfl)) (λ_ _=>rfl))) (Ab (Ao (i:=6) CG.nd rfl (Or.inl rfl) (Aj Av (AC (pv 0) rfl) (Aj Ak (pv 2) Ac (λ_ _=>rfl)) (λ_ _=>rfl))) (Ah (As (CA (Aa (Aj Ak (pv 2) Ac (λ_ _=>rfl)) (Aa (AI (pv 0) X (rm hr) Aq (AT (Aa (Aj Ak (pv 3) Ac (λ_ _=>rfl)) (Aa (Aj Ak (pv 4) Ac (λ_ _=>rfl)) (Aa (Aj Ak (pv 3) Ac (λ_ _=>rfl)) (Aa (Aj Ak (pv 4) Ac (λ_ _=>rfl)) Ae)))) Ae)) (Aa (Aj Ak (pv 2) Ac (λ_ _=>rfl)) (Aa (AI (pv 0) X (rm hr) Aq (AT (Aa (Aj Ak (pv 3) Ac (λ_ _=>rfl)) (Aa (Aj Ak (pv 3) Ac (λ_ _=>rfl)) (Aa (Aj Ak (pv 5) Ac (λ_ _=>rfl)) (Aa (Aj Ak (pv 5) Ac (λ_ _=>rfl)) Ae)))) Ae)) (Aa (AI (pv 0) X (rm hr) Aq (AT (Aa (Aj Ak (pv 3) Ac (λ_ _=>rfl)) (Aa (Aj Ak (pv 4) Ac (λ_ _=>rfl)) (Aa (Aj Ak (pv 5) Ac (λ_ _=>rfl)) (Aa (Aj Ak (pv 6) Ac (λ_ _=>rfl)) Ae)))) Ae)) (Aa (AI (pv 0) X (rm hr) Aq (AT (Aa (Aj Ak (pv 4) Ac (λ_ _=>rfl)) (Aa (Aj Ak (pv 4) Ac (λ_ _=>rfl)) (Aa (Aj Ak (pv 6) Ac (λ_ _=>rfl)) (Aa (Aj Ak (pv 6) Ac (λ_ _=>rfl)) Ae)))) Ae)) (Aa (Aj Ak (pv 2) Ac (λ_ _=>rfl)) (Aa (AI (pv 0) X (rm hr) Aq (AT (Aa (Aj Ak (pv 5) Ac (λ_ _=>rfl)) (Aa (Aj Ak (pv 6) Ac (λ_ _=>rfl)) (Aa (Aj Ak (pv 5) Ac (λ_ _=>rfl)) (Aa (Aj Ak (pv 6) Ac (λ_ _=>rfl)) Ae)))) Ae)) (Aa (Aj Ak (pv 2) Ac (λ_ _=>rfl)) Ae))))))))))))))))),?_⟩
  try dsimp only[cxK]
  refine AZ ?_;intro bg a4 k0 r a7;refine xwf rfl rfl z.hp T.cl_Grove T.na_Grove_parts (Cd g) (xq1 rfl (ixp Z et ?_));refine r ?_;refine AZ ?_;intro ba bc k1 r ay;refine xwf rfl rfl z.hp T.cl_Grove T.na_Grove_parts (Cd g) (ixt rfl v rfl (ixp Z ar ?_));refine r ?_;refine AZ ?_;intro bi bh k2 r a5;refine xwf rfl rfl z.hp T.cl_Grove T.na_Grove_parts (Cd g) (ixt rfl v rfl (ixp Z af ?_));refine r ?_;refine AZ ?_;intro az a6 k3 r a9;refine xwf rfl rfl z.hp T.cl_Grove T.na_Grove_parts (Cd g) (ixt rfl v rfl (ixp Z al ?_));refine r ?_;refine AZ ?_;intro bb bd k4 r bf;refine xwf rfl rfl z.hp T.cl_Grove T.na_Grove_parts (Cd g) (ixt rfl v rfl (ixp Z ag ?_));refine r ?_;refine tretl (Gg (ixt rfl (s0.kt v) rfl (Gg (Zv s0 p q p q ⟨ae,ai,N,U⟩ ⟨by lia,by lia⟩ λm1 G1 H1 s1 bu e1=>?_))));refine Gg (ixt rfl (s1.kt v) rfl (Gg (Zv s1 p p c c ⟨aj,N,aq,O⟩ ⟨by lia,by lia⟩ λm3 G3 H3 s3 am e3=>?_)));refine Gg (Zv s3 p q c d ⟨N,U,O,I⟩ ⟨by lia,by lia⟩ λm4 G4 H4 s4 Y e4=>?_);refine Gg (Zv s4 q q d d ⟨U,ab,I,av⟩ ⟨by lia,by lia⟩ λm5 G5 H5 s5 S e5=>?_);refine Gg (ixt rfl (s5.kt v) rfl (Gg (Zv s5 c d c d ⟨O,I,aa,an⟩ ⟨by lia,by lia⟩ λm7 G7 H7 s7 u e7=>?_)));refine Gg (ixt rfl (s7.kt v) rfl ⟨(by show 9<=sizeLine;decide),λL hL=>?_⟩);have m:=s7.go;have sL:=AJ (o:=.lst (([qa,m1,qb,m3,m4,m5,qc,m7,qd]:List Nat).map λ(k:Nat)=>V.int (k:Int))) hL;refine k L [qa,m1,qb,m3,m4,m5,qc,m7,qd] G7 _ (s7.fr.trans (AA.fr sL)) (s7.gr.same sL) m Af rfl ?_;have v0:Vw G (Cr G (l+2) n) (l+1+1) n (2^(l+1)*0) (2^(l+1)*0):=λx y _ _=>rfl;have p1:2^(l+1)=2^l*2:=F4 ..;apply Bh;intro R b;obtain⟨va,vb,vc,vd⟩:=vwQ (m.get en) (v0.goes ok m hl);apply b;clear b R;have va:=va.at' (X':=2^l*0) (Y':=2^l*0) A0 A0;have vb:=vb.at' (X':=2^l*2) (Y':=2^l*0) A0 A0;have vc:=vc.at' (X':=2^l*0) (Y':=2^l*2) A0 A0;have vd:=vd.at' (X':=2^l*2) (Y':=2^l*2) A0 A0;apply Bh;intro R b;obtain⟨bp,ah,ac,D⟩:=vwQ (m.get ea) va;obtain⟨ad,bj,C,as⟩:=vwQ (m.get eb) vb;obtain⟨ao,B,bt,ak⟩:=vwQ (m.get ec) vc;obtain⟨M,ax,aw,bo⟩:=vwQ (m.get ed) vd;apply b;clear b R;have g5:=u.get e5;have g4:=u.get (S.get e4);have g3:=u.get (S.get (Y.get e3));have g1:=u.get (S.get (Y.get (am.get e1)));intro i j hi hj
  match i,hi,j,hj with
  |0,_,0,_=>exact⟨qa,rfl,m.lev la,va⟩
  |1,_,0,_=>exact⟨m1,rfl,⟨_,g1,rfl⟩,vw4 g1 ah ad D C⟩
  |2,_,0,_=>exact⟨qb,rfl,m.lev lb,vb⟩
  |0,_,1,_=>exact⟨m3,rfl,⟨_,g3,rfl⟩,vw4 g3 ac D ao B⟩
  |1,_,1,_=>exact⟨m4,rfl,⟨_,g4,rfl⟩,vw4 g4 D C B M⟩
  |2,_,1,_=>exact⟨m5,rfl,⟨_,g5,rfl⟩,vw4 g5 C as M ax⟩
  |0,_,2,_=>exact⟨qc,rfl,m.lev lc,vc⟩
  |1,_,2,_=>exact⟨m7,rfl,⟨_,e7,rfl⟩,vw4 e7 B M ak aw⟩
  |2,_,2,_=>exact⟨qd,rfl,m.lev ld,vd⟩
inductive VS(vs:List V)(H:Hp)(Q:VK):Prop
 |mk (L:Addr) (k0 k1 k2 k3 k4 k5 k6 k7 k8:Nat) (_:vs=[.ref L]) (_:H L=some (.lst [.int k0,.int k1,.int k2,.int k3,.int k4,.int k5,.int k6,.int k7,.int k8])) (_:∀(M t0 t1 t2 t3:Addr)(H':Hp),AA H H'->H' M=some (.lst [.ref t0,.ref t1,.ref t2,.ref t3])->H' t0=some (.tup [.int k0,.int k1,.int k3,.int k4])->H' t1=some (.tup [.int k1,.int k2,.int k4,.int k5])->H' t2=some (.tup [.int k3,.int k4,.int k6,.int k7])->H' t3=some (.tup [.int k4,.int k5,.int k7,.int k8])->Q (.ref M) H'):VS vs H Q
def Mb:Sp:=λvs H Q _=>VS vs H Q
theorem Ze(F:Fun K "fours_of" "fours_of" LE f fd)(T:Top K mg a):AL P w K mg base CX0 1 f fd TZ Mb:=by
 refine F.ok Sl (λvs H Q E h=>?_) (λab A R s H vs Q E hr h=>?_)
 ·apply Bh;intro S c;obtain⟨L,k0,k1,k2,k3,b,k5,z,i,t,rfl,_⟩:=h;apply c;clear c S;rfl
 ·apply Bh;intro S c;obtain⟨L,k0,k1,k2,k3,b,k5,z,i,t,rfl,x,k⟩:=h;apply c;clear c S;refine⟨_,(Ah (As (CA (AT (Aa (Aj Av (pv 0) Ac (λ_ _=>rfl)) (Aa (Aj Av (pv 0) Ac (λ_ _=>rfl)) (Aa (Aj Av (pv 0) Ac (λ_ _=>rfl)) (Aa (Aj Av (pv 0) Ac (λ_ _=>rfl)) Ae)))) (AT (Aa (Aj Av (pv 0) Ac (λ_ _=>rfl)) (Aa (Aj Av (pv 0) Ac (λ_ _=>rfl)) (Aa (Aj Av (pv 0) Ac (λ_ _=>rfl)) (Aa (Aj Av (pv 0) Ac (λ_ _=>rfl)) Ae)))) (AT (Aa (Aj Av (pv 0) Ac (λ_ _=>rfl)) (Aa (Aj Av (pv 0) Ac (λ_ _=>rfl)) (Aa (Aj Av (pv 0) Ac (λ_ _=>rfl)) (Aa (Aj Av (pv 0) Ac (λ_ _=>rfl)) Ae)))) (AT (Aa (Aj Av (pv 0) Ac (λ_ _=>rfl)) (Aa (Aj Av (pv 0) Ac (λ_ _=>rfl)) (Aa (Aj Av (pv 0) Ac (λ_ _=>rfl)) (Aa (Aj Av (pv 0) Ac (λ_ _=>rfl)) Ae)))) Ae))))))),?_⟩
  try dsimp only[cxK]
  refine xwi rfl rfl rfl (SqL.of x) (Ai (j:=0) rfl) (xwi rfl rfl rfl (SqL.of x) (Ai (j:=1) rfl) (xwi rfl rfl rfl (SqL.of x) (Ai (j:=3) rfl) (xwi rfl rfl rfl (SqL.of x) (Ai (j:=4) rfl) ⟨(by show 4<=sizeLine;decide),λB G=>?_⟩)));have U:=AJ (o:=.tup [.int (k0:Int),.int (k1:Int),.int (k3:Int),.int (b:Int)]) G;have h0:upd H B (.tup [.int (k0:Int),.int (k1:Int),.int (k3:Int),.int (b:Int)]) B=some (.tup [.int (k0:Int),.int (k1:Int),.int (k3:Int),.int (b:Int)]):=Af;generalize n:upd H B (.tup [.int (k0:Int),.int (k1:Int),.int (k3:Int),.int (b:Int)])=X0 at U h0;have e:=U _ _ x
  first|rw[n]|(show ∃_,_;rw[n])|skip
  refine xwi rfl rfl rfl (SqL.of e) (Ai (j:=1) rfl) (xwi rfl rfl rfl (SqL.of e) (Ai (j:=2) rfl) (xwi rfl rfl rfl (SqL.of e) (Ai (j:=4) rfl) (xwi rfl rfl rfl (SqL.of e) (Ai (j:=5) rfl) ⟨(by show 4<=sizeLine;decide),λp I=>?_⟩)));have D:=AJ (o:=.tup [.int (k1:Int),.int (k2:Int),.int (b:Int),.int (k5:Int)]) I;have X:upd X0 p (.tup [.int (k1:Int),.int (k2:Int),.int (b:Int),.int (k5:Int)]) p=some (.tup [.int (k1:Int),.int (k2:Int),.int (b:Int),.int (k5:Int)]):=Af;generalize v:upd X0 p (.tup [.int (k1:Int),.int (k2:Int),.int (b:Int),.int (k5:Int)])=V at D X;have d:=D _ _ e
  first|rw[v]|(show ∃_,_;rw[v])|skip
  refine xwi rfl rfl rfl (SqL.of d) (Ai (j:=3) rfl) (xwi rfl rfl rfl (SqL.of d) (Ai (j:=4) rfl) (xwi rfl rfl rfl (SqL.of d) (Ai (j:=6) rfl) (xwi rfl rfl rfl (SqL.of d) (Ai (j:=7) rfl) ⟨(by show 4<=sizeLine;decide),λy N=>?_⟩)));have q:=AJ (o:=.tup [.int (k3:Int),.int (b:Int),.int (z:Int),.int (i:Int)]) N;have h2:upd V y (.tup [.int (k3:Int),.int (b:Int),.int (z:Int),.int (i:Int)]) y=some (.tup [.int (k3:Int),.int (b:Int),.int (z:Int),.int (i:Int)]):=Af;generalize C:upd V y (.tup [.int (k3:Int),.int (b:Int),.int (z:Int),.int (i:Int)])=Z at q h2;have g:=q _ _ d
  first|rw[C]|(show ∃_,_;rw[C])|skip
  refine xwi rfl rfl rfl (SqL.of g) (Ai (j:=4) rfl) (xwi rfl rfl rfl (SqL.of g) (Ai (j:=5) rfl) (xwi rfl rfl rfl (SqL.of g) (Ai (j:=7) rfl) (xwi rfl rfl rfl (SqL.of g) (Ai (j:=8) rfl) ⟨(by show 4<=sizeLine;decide),λr O=>?_⟩)));have l:=AJ (o:=.tup [.int (b:Int),.int (k5:Int),.int (i:Int),.int (t:Int)]) O;have Y:upd Z r (.tup [.int (b:Int),.int (k5:Int),.int (i:Int),.int (t:Int)]) r=some (.tup [.int (b:Int),.int (k5:Int),.int (i:Int),.int (t:Int)]):=Af;generalize u:upd Z r (.tup [.int (b:Int),.int (k5:Int),.int (i:Int),.int (t:Int)])=X3 at l Y;have aa:=l _ _ g
  first|rw[u]|(show ∃_,_;rw[u])|skip
  refine⟨(by show 4<=sizeLine;decide),λM hM=>?_⟩;have m:=AJ (o:=.lst [.ref B,.ref p,.ref y,.ref r]) hM;exact k M B p y r _ ((((U.trans D).trans q).trans l).trans m) Af (m _ _ (l _ _ (q _ _ (D _ _ h0)))) (m _ _ (l _ _ (q _ _ X))) (m _ _ (l _ _ h2)) (m _ _ Y)
inductive SpMet(a:Ad)(vs:List V)(H:Hp)(Q:VK):Prop
 |mk (g:GA) (G:Gv) (t:Addr) (f0 f1 f2 f3 l:Nat) (_:vs=[.ref g.p,.ref t]) (_:AN a H g G) (_:GOk G) (_:H t=some (.tup [.int f0,.int f1,.int f2,.int f3])) (_:An G f0 ((l+1:Nat):Int)/\An G f1 ((l+1:Nat):Int)/\An G f2 ((l+1:Nat):Int)/\An G f3 ((l+1:Nat):Int)) (_:l<=47) (_:G.length<9000000) (_:∀(k:Nat)(G':Gv)(H':Hp),Fr g H H'->AN a H' g G'->AG G G' 1->G'[k]?=some ⟨[((qO G f0 3:Nat):Int),((qO G f1 2:Nat):Int),((qO G f2 1:Nat):Int),((qO G f3 0:Nat):Int)],(l:Int)+1⟩->Q (.int k) H'):SpMet a vs H Q
def US(a:Ad):Sp:=λvs H Q _=>SpMet a vs H Q
theorem ok_met(F:Fun K "met_in_the_middle" "met_in_the_middle" Do f fd)(T:Top K mg a)(a8:Cb P w K mg base CX0 2 a.c_Grove "linked" AW (DS a)):AL P w K mg base CX0 3 f fd CB (US a):=by
 refine F.ok EO (λvs H Q E h=>?_) (λan A Y s H vs Q E hr h=>?_)
 ·apply Bh;intro Z b;obtain⟨g,G,t,f0,f1,f2,f3,l,rfl,_⟩:=h;apply b;clear b Z;rfl
 ·apply Bh;intro Z b;obtain⟨g,G,t,f0,f1,f2,f3,l,rfl,r,ok,v,⟨l0,l1,l2,l3⟩,a5,few,k⟩:=h;obtain⟨ts,q,x⟩:=r.pt;obtain⟨a3,bb,af,c,e0,al,bf,aq,y⟩:=ok.four l0;obtain⟨u0,M,ab⟩:=PairedM.get x e0;obtain⟨a6,bc,ad,X⟩:=En e0;obtain⟨ah,as,p,ax,e1,am,bi,B,bg⟩:=ok.four l1;obtain⟨u1,D,z⟩:=PairedM.get x e1;obtain⟨a9,a2,U,ba⟩:=En e1;obtain⟨a0,m,ak,ag,e2,ar,R,ao,a7⟩:=ok.four l2;obtain⟨u2,N,I⟩:=PairedM.get x e2;obtain⟨ay,aa,bh,ae⟩:=En e2;obtain⟨d,bd,aj,au,e3,S,a4,aw,az⟩:=ok.four l3;obtain⟨u3,V,O⟩:=PairedM.get x e3;obtain⟨ac,a1,av,ai⟩:=En e3;apply b;clear b Z;rw[X,U,aa,ac]at k;refine⟨_,(Ab (Ao (i:=2) EO.nd rfl (Or.inl rfl) (AC (pv 0) rfl)) (Ah (As (AI (pv 0) a8 (rm hr) Aq (AT (Aa (Aj Ak (Aj Av (pv 2) (Aj Ak (pv 1) Ac (λ_ _=>rfl)) (λ_ _=>rfl)) Ac (λ_ _=>rfl)) (Aa (Aj Ak (Aj Av (pv 2) (Aj Ak (pv 1) Ac (λ_ _=>rfl)) (λ_ _=>rfl)) Ac (λ_ _=>rfl)) (Aa (Aj Ak (Aj Av (pv 2) (Aj Ak (pv 1) Ac (λ_ _=>rfl)) (λ_ _=>rfl)) Ac (λ_ _=>rfl)) (Aa (Aj Ak (Aj Av (pv 2) (Aj Ak (pv 1) Ac (λ_ _=>rfl)) (λ_ _=>rfl)) Ac (λ_ _=>rfl)) Ae)))) Ae))))),?_⟩
  try dsimp only[cxK]
  refine xwf rfl rfl r.hp T.cl_Grove T.na_Grove_parts (Cd g) ?_;refine xwn rfl rfl r.hp (BR g) rfl (xwi rfl rfl rfl (SqT.of v) (Ai (j:=0) rfl) (xq4 rfl rfl (SqL.of q) (Ai (by rw[B8,M];rfl)) (xq4 rfl rfl (SqT.of ab) (Ai (j:=3) rfl) (xwj rfl rfl rfl rfl (SqT.of v) (Ai (j:=1) rfl) (xq4 rfl rfl (SqL.of q) (Ai (by rw[B8,D];rfl)) (xq4 rfl rfl (SqT.of z) (Ai (j:=2) rfl) (xwj rfl rfl rfl rfl (SqT.of v) (Ai (j:=2) rfl) (xq4 rfl rfl (SqL.of q) (Ai (by rw[B8,N];rfl)) (xq4 rfl rfl (SqT.of I) (Ai (j:=1) rfl) (xwj rfl rfl rfl rfl (SqT.of v) (Ai (j:=3) rfl) (xq4 rfl rfl (SqL.of q) (Ai (by rw[B8,V];rfl)) (xq4 rfl rfl (SqT.of O) (Ai (j:=0) rfl) ⟨(by show 4<=sizeLine;decide),λu hu=>?_⟩))))))))))));have s1:=AJ (o:=.tup [.int (c:Int),.int (p:Int),.int (m:Int),.int (d:Int)]) hu;exact⟨g,G,u,c,p,m,d,(l:Int),rfl,r.same s1,ok,Af,⟨y,B,R,S⟩,by lia,few,λn G' H' fr C go e=>k n G' H' ((AA.fr s1).trans fr) C go e⟩
end
end J
namespace J
open PySem L2
def Sv(o:HO):Prop:=Nv o\/∃xs:List V,o=.lst xs/\xs.length<=50
def KpS(H H':Hp):Prop:=∀b o,H b=some o->Sv o->H' b=some o
theorem Sv.lst{xs:List V}(h:xs.length<=50):Sv (.lst xs):=.inr ⟨xs,rfl,h⟩
theorem Bs.long{G:Gv}(h:Bs G):56<=G.length:=(B6.mp (h 47 A3)).1
theorem Sv.nl{b x:Addr}{H:Hp}{o:HO}{xs:List V}(s:Sv o)(e:H b=some o)(a:H x=some (.lst xs))(d:50<xs.length):b≠x:=λz=>by
 rw[z,a]at e;cases e;rcases s with s|⟨ys,c,f⟩
 ·cases s
 ·cases c;lia
theorem Sv.nt{b x:Addr}{H:Hp}{o:HO}{k:List (List Key×V)}(s:Sv o)(e:H b=some o)(a:H x=some (.dT k)):b≠x:=λz=>by
 rw[z,a]at e;cases e;rcases s with s|⟨ys,c,d⟩
 ·cases s
 ·cases c
theorem Sv.nk{b x:Addr}{H:Hp}{o:HO}{k:List (Key×V)}(s:Sv o)(e:H b=some o)(a:H x=some (.dK k)):b≠x:=λz=>by
 rw[z,a]at e;cases e;rcases s with s|⟨ys,c,d⟩
 ·cases s
 ·cases c
theorem Fr.kps{a:Ad}{H d:Hp}{g:GA}{G:Gv}(f:Fr g H d)(c:AN a H g G)(h:56<=G.length):KpS H d:=by
 intro b o e s;obtain⟨j,i,k⟩:=c.pt;have lt:j.length=G.length:=A0a k;exact f _ _ e (s.nl e c.lv (by rw[B5];lia)) (s.nl e i (by rw[B5];lia)) (s.nt e c.nm)
theorem FrJ.kps{a:Ad}{H h:Hp}{g:GA}{G:Gv}{N M:Nat}{r:AF}{m:MA}(f:FrJ g m H h)(c:AN a H g G)(k:56<=G.length)(d:Jb H g G N M r m):KpS H h:=by
 intro b o e s;obtain⟨l,n,t⟩:=c.pt;obtain⟨u,p,_⟩:=d.ce;have lt:l.length=G.length:=A0a t;refine f _ _ e (s.nl e c.lv (by rw[B5];lia)) (s.nl e n (by rw[B5];lia)) (s.nt e c.nm) (s.nt e p) λz=>?_;obtain⟨j,q⟩:=J1 z;obtain⟨v,i,_⟩:=d.sq j b q;exact s.nk e i rfl
theorem VG{G:Gv}(ok:GOk G):∀(l:Nat){n m:Nat},An G n (l:Int)->An G m (l:Int)->(∀x y,x<2^l->y<2^l->Cr G l n x y=Cr G l m x y)->n=m
 |0,n,m,_,_,h=>X6 (h 0 0 A3 A3)
 |l+1,n,m,hn,hm,h=>by
  have a:∀i j,i<2->j<2->qO G n (i+2*j)=qO G m (i+2*j):=λi j q o=>by
   refine VG ok l (LJ ok hn A0) (LJ ok hm A0) λx y k p=>?_;rw[<-Pj G l n k p q o,<-Pj G l m k p q o];have K:2^l*i<=2^l*1:=N7 _ A0;have I:2^l*j<=2^l*1:=N7 _ A0;exact h _ _ (by rw[F4];lia) (by rw[F4];lia)
  obtain⟨x,y,z,w,e,_⟩:=ok.four hn;obtain⟨r,D,H,E,g,_⟩:=ok.four hm;obtain⟨s,C,v,B⟩:=En e;obtain⟨A,t,b2,u⟩:=En g;have b:=a 0 0 A3 A3;have f:=a 1 0 A3 A3;have d:=a 0 1 A3 A3;have c:=a 1 1 A3 A3;have b:x=r:=s.symm.trans (b.trans A);have f:y=D:=C.symm.trans (f.trans t);have d:z=H:=v.symm.trans (d.trans b2);have c:w=E:=B.symm.trans (c.trans u);refine ok.one e g ?_;rw[b,f,d,c]
abbrev Sht:=Nat->Nat->Int
abbrev KTy:=Nat->Nat->Sht->Prop
def WQ(l:Nat)(φ ψ:Sht):Prop:=∀x y,x<2^(l+2)->y<2^(l+2)->φ x y=ψ x y
def s47(f:Nat->Nat):Nat:=((List.range 47).map f).sum
theorem UM(f:Nat->Nat)(e:Nat):∀l:List Nat,l.Nodup->(l.map λi=>if i=e then f i+1 else f i).sum=(l.map f).sum+if e∈l then 1 else 0
 |[],_=>by simp
 |a::l,h=>by
  rw[N5]at h;rw[F7,F7,P4,P4,UM f e l h.2];by_cases z:a=e
  ·subst z;rw[Z9 rfl,Z6 h.1,Z9 C7];lia
  ·rw[Z6 z];by_cases y:e∈l
   ·rw[Z9 y,Z9 (C8 _ y)];lia
   ·rw[Z6 y,Z6 (λq=>by rcases B7.mp q with rfl|q;exact z rfl;exact y q)];lia
theorem Vc(f:Nat->Nat){e:Nat}(h:e<47):s47 (λi=>if i=e then f i+1 else f i)=s47 f+1:=by
 unfold s47;rw[UM f e _ List.nodup_range,Z9 (M0.mpr h)]
theorem Vu{α β:Type}(R:α->β->Prop)(inj:∀x f y,R x y->R f y->x=f):∀(l:List β)(a:List α),a.Nodup->(∀k∈a,∃y∈l,R k y)->a.length<=l.length
 |[],a,_,h=>by
  cases a with
  |nil=>exact C1 _
  |cons k a=>obtain⟨y,i,_⟩:=h k C7;cases i
 |y::l,a,nd,h=>by
  classical
  have m:=Vu R inj l (a.filter λk=>decide (¬R k y)) (nd.sublist List.filter_sublist) λk c=>by
   rw[T3,decide_eq_true_iff]at c;obtain⟨z,e,g⟩:=h k c.1;rcases B7.mp e with rfl|e
   ·exact absurd g c.2
   ·exact⟨z,e,g⟩
  have few:∀a:List α,a.Nodup->a.length<=(a.filter λk=>decide (¬R k y)).length+1:=by
   intro a;induction a with
   |nil=>intro _;exact L9 _
   |cons k a d =>
    intro b;rw[N5]at b;by_cases z:R k y
    ·have:a.filter (λk=>decide (¬R k y))=a:=List.filter_eq_self.mpr λx j=>Z7 λq=>b.1 (by rw[inj k x y z q];exact j);rw[List.filter_cons_of_neg (by simp[z]),this,F0];exact C1 _
    ·rw[List.filter_cons_of_pos (by simp[z]),F0,F0];have:=d b.2;lia
  have:=few a nd;rw[F0];lia
structure JM(Κ:KTy)(N:Nat):Prop where
 ls:∃M:Nat->Nat,s47 M<=N/\∀e,∃Ls:List (Nat×Sht),Ls.length<=M e/\∀l φ,Κ l e φ->∃ψ,(l,ψ)∈Ls/\WQ l φ ψ
 ext:∀{l e φ ψ},Κ l e φ->WQ l φ ψ->Κ l e ψ
theorem UN(f:Nat->Nat):∀(l:List Nat){e:Nat},e∈l->f e<=(l.map f).sum
 |a::l,e,h=>by
  rw[F7,P4];rcases B7.mp h with rfl|h
  ·exact U8 _ _
  ·exact D0 (UN f l h) (Nat.le_add_left _ _)
theorem RX{f g:Nat->Nat}:∀{l:List Nat},(∀e∈l,f e<=g e)->(l.map f).sum<=(l.map g).sum
 |[],_=>C1 _
 |a::l,h=>by
  have:=RX (l:=l) λe b=>h e (C8 _ b);have:=h a C7;rw[F7,P4,F7,P4];lia
structure Cn(H:Hp)(G:Gv)(m:MA)(Κ:KTy)(b:Nat)(f:Nat->Nat):Prop where
 sq:∀(e:Nat) d,m.ds[e]?=some d->∃kv,H d=some (.dK kv)/\kv.length=f e/\(kv.map (·.1)).Nodup/\∀k∈kv.map (·.1),∃n l:Nat,k=Sum.inl (n:Int)/\An G n ((l+2:Nat):Int)/\Κ l e (Cr G (l+2) n)
 gl:G.length<=b+10*s47 f
 ce:∃kc,H m.kc=some (.dT kc)/\kc.length<=b+10*s47 f
theorem Cn.few'{H:Hp}{G:Gv}{m:MA}{Κ:KTy}{b:Nat}{f M:Nat->Nat}(h:Cn H G m Κ b f)(ok:GOk G)(fin:∀e,∃a:List (Nat×Sht),a.length<=M e/\∀l φ,Κ l e φ->∃ψ,(l,ψ)∈a/\WQ l φ ψ)(len:m.ds.length=47){e:Nat}(z:e<47):f e<=M e:=by
 have c:e<m.ds.length:=by rw[len];exact z
 obtain⟨r,_,A,w,u⟩:=h.sq e (m.ds[e]'c) (B9 _);obtain⟨a,v,B⟩:=fin e;refine D0 ?_ v;rw[<-A,<-B5 (f:=(·.1)) (as:=r)];refine Vu (λ(k:Key)(q:Nat×Sht)=>∃n:Nat,k=Sum.inl (n:Int)/\An G n ((q.1+2:Nat):Int)/\WQ q.1 (Cr G (q.1+2) n) q.2) ?_ a _ w λk t=>?_
 ·rintro x C ⟨l,ψ⟩ ⟨n,rfl,g,d⟩ ⟨D,rfl,o,b2⟩;rw[VG ok _ g o λx y i j=>(d x y i j).trans (b2 x y i j).symm]
 ·obtain⟨n,l,rfl,g,d⟩:=u k t;obtain⟨ψ,p,s⟩:=B l _ d;exact⟨_,p,n,rfl,g,s⟩
theorem Cn.sum{H:Hp}{G:Gv}{m:MA}{Κ:KTy}{b N:Nat}{f:Nat->Nat}(h:Cn H G m Κ b f)(ok:GOk G)(fin:JM Κ N)(len:m.ds.length=47):s47 f<=N:=by
 obtain⟨M,d,a⟩:=fin.ls;exact D0 (RX λe c=>h.few' ok a len (M0.mp c)) d
theorem Cn.few{H:Hp}{G:Gv}{m:MA}{Κ:KTy}{b N:Nat}{f:Nat->Nat}(h:Cn H G m Κ b f)(ok:GOk G)(fin:JM Κ N)(len:m.ds.length=47){e:Nat}(a:e<47):f e<=N:=D0 (UN f _ (M0.mpr a)) (h.sum ok fin len)
theorem Cn.mono{H:Hp}{G:Gv}{m:MA}{Κ:KTy}{b a:Nat}{f:Nat->Nat}(h:Cn H G m Κ b f)(e:b<=a):Cn H G m Κ a f:=by
 obtain⟨c,d,g⟩:=h.ce;have:=h.gl;exact⟨h.sq,by lia,c,d,by lia⟩
theorem Cn.kp{H p:Hp}{G s:Gv}{m:MA}{Κ:KTy}{b i:Nat}{f:Nat->Nat}(h:Cn H G m Κ b f)(ok:GOk G)(go:AG G s i)(k1:∀d∈m.ds,∀o,H d=some o->p d=some o)(k2:∀c,H m.kc=some (.dT c)->∃a,p m.kc=some (.dT a)/\a.length<=c.length+i):Cn p s m Κ (b+i) f:=by
 refine⟨λe d t=>?_,?_,?_⟩
 ·obtain⟨y,g,r,j,u⟩:=h.sq e d t;refine⟨y,k1 d (D7 t) _ g,r,j,λk x=>?_⟩;obtain⟨n,l,w,q,v⟩:=u k x;exact⟨n,l,w,go.lev q,by rw[CK ok go q];exact v⟩
 ·have:=h.gl;have:=go.few;lia
 ·obtain⟨c,g,r⟩:=h.ce;obtain⟨a,j,u⟩:=k2 c g;exact⟨a,j,by lia⟩
structure JZ(a:Ad)(H:Hp)(g:GA)(G:Gv)(Κ:KTy)(N b:Nat)(p dx mem pr:Addr)(r:AF)(m:MA):Prop where
 jw:JW a H g G N (b+10*N) p dx mem pr r m
 cn:∃f,Cn H G m Κ b f
section
variable{a:Ad}{H H':Hp}{g:GA}{G G':Gv}{Κ:KTy}{N b i:Nat}{p dx mem pr:Addr}{r:AF}{m:MA}
theorem JZ.sz(h:JZ a H g G Κ N b p dx mem pr r m)(fin:JM Κ N):G.length<=b+10*N:=by
 obtain⟨f,c⟩:=h.cn;have:=c.gl;have:=c.sum h.jw.ok fin h.jw.me.len;lia
theorem JZ.mono{d:Nat}(h:JZ a H g G Κ N b p dx mem pr r m)(e:b<=d):JZ a H g G Κ N d p dx mem pr r m:=by
 obtain⟨f,c⟩:=h.cn;exact⟨h.jw.mono (C1 _) A0,f,c.mono e⟩
theorem JZ.same(h:JZ a H g G Κ N b p dx mem pr r m)(s:AA H H'):JZ a H' g G Κ N b p dx mem pr r m:=by
 obtain⟨f,c⟩:=h.cn;exact⟨JW.same s h.jw,f,c.kp (i:=0) h.jw.ok (AG.refl h.jw.ok) (λd _ o e=>s _ _ e) λj e=>⟨j,s _ _ e,C1 _⟩⟩
theorem JZ.fr(h:JZ a H g G Κ N b p dx mem pr r m)(f:Fr g H H')(k:AN a H' g G')(go:AG G G' i):JZ a H' g G' Κ N (b+i) p dx mem pr r m:=by
 obtain⟨t,c⟩:=h.cn;obtain⟨w,n,_⟩:=h.jw.gr.pt;refine⟨(h.jw.fr f k go).mono (C1 _) A0,t,c.kp h.jw.ok go (λd s o e=>?_) λq e=>⟨q,?_,by lia⟩⟩
 ·obtain⟨j,u⟩:=J1 s;obtain⟨v,l,_⟩:=c.sq j d u;rw[e]at l;cases l;exact f _ _ e (AH e h.jw.gr.lv A4) (AH e n A4) (AH e h.jw.gr.nm A4)
 ·exact f _ _ e (AH e h.jw.gr.lv A4) (AH e n A4) h.jw.me.ap.2.2
def No(H:Hp)(m:MA)(e n:Nat):Prop:=∀d kv,m.ds[e]?=some d->H d=some (.dK kv)->Bu kv (Sum.inl (n:Int))=none
def Up(l:Nat)(G:Gv)(H H':Hp)(m:MA):Prop:=∀e n l':Nat,An G n ((l'+2:Nat):Int)->l<=l'->No H m e n->No H' m e n
theorem Up.refl(l:Nat)(G:Gv)(H:Hp)(m:MA):Up l G H H m:=λ_ _ _ _ _ h=>h
theorem Up.trans{l:Nat}{j f q:Hp}(h:Up l G j f m)(k:Up l G' f q m)(go:AG G G' i):Up l G j q m:=λe n c d o s=>k e n c (go.lev d) o (h e n c d o s)
theorem Up.mono{l c:Nat}(h:Up l G H H' m)(e:l<=c):Up c G H H' m:=λk n d f j o=>h k n d f (D0 e j) o
theorem Up.of(l:Nat){N M:Nat}(j:Jb H g G N M r m)(k:∀d∈m.ds,∀o,H d=some o->H' d=some o):Up l G H H' m:=λe n t _ _ h d u c q=>by
 obtain⟨s,f,_⟩:=j.sq e d c;have:=k d (D7 c) _ f;rw[q]at this;cases this;exact h d _ c f
theorem JZ.upS(l:Nat)(h:JZ a H g G Κ N b p dx mem pr r m)(s:AA H H'):Up l G H H' m:=Up.of l h.jw.me λd _ o e=>s _ _ e
theorem JZ.upF(l:Nat)(h:JZ a H g G Κ N b p dx mem pr r m)(f:Fr g H H'):Up l G H H' m:=Up.of l h.jw.me λd k o e=>by
 obtain⟨t,n,_⟩:=h.jw.gr.pt;obtain⟨j,q⟩:=J1 k;obtain⟨s,c,_⟩:=h.jw.me.sq j d q;rw[e]at c;cases c;exact f _ _ e (AH e h.jw.gr.lv A4) (AH e n A4) (AH e h.jw.gr.nm A4)
theorem JW.tc{M:Nat}{c:List (List Key×V)}(h:JW a H g G N M p dx mem pr r m)(d:H m.kc=some (.dT c)):JW a H g G N c.length p dx mem pr r m:=by
 obtain⟨f,e,_,j⟩:=h.me.ce;rw[d]at e;cases e;exact⟨h.gr,h.ok,h.bs,h.br,h.nbr,h.hp,h.ru,h.rok,h.rest,⟨h.me.tp,h.me.l,h.me.ap,h.me.len,h.me.nd,h.me.sq,_,d,C1 _,j⟩⟩
theorem JZ.mid{f:Nat->Nat}{s:List (List Key×V)}(h:JZ a H g G Κ N b p dx mem pr r m)(c:Cn H G m Κ b f)(t:H m.kc=some (.dT s))(fr:FrC g m H H')(k:JW a H' g G' N (s.length+4) p dx mem pr r m)(go:AG G G' 1):JZ a H' g G' Κ N (b+4) p dx mem pr r m/\∀l,Up l G H H' m:=by
 obtain⟨D,B,_⟩:=h.jw.gr.pt;have y:∀d∈m.ds,∀o,H d=some o->H' d=some o:=λd z o e=>by
  obtain⟨j,k⟩:=J1 z;obtain⟨I,v,_⟩:=h.jw.me.sq j d k;rw[e]at v;cases v;exact fr _ _ e (AH e h.jw.gr.lv A4) (AH e B A4) (AH e h.jw.gr.nm A4) (AH e t A4)
 obtain⟨q,x,C,A⟩:=k.me.ce;obtain⟨u,w,E,_⟩:=h.jw.me.ce;rw[t]at w;cases w;have n:=k.me;refine⟨⟨⟨k.gr,k.ok,k.bs,k.br,k.nbr,k.hp,k.ru,k.rok,k.rest,⟨n.tp,n.l,n.ap,n.len,n.nd,n.sq,q,x,by lia,A⟩⟩,f,c.kp (i:=4) h.jw.ok (go.mono A3) y λu e=>⟨q,x,by rw[t]at e;cases e;exact C⟩⟩,λl=>Up.of l h.jw.me y⟩
theorem JZ.put{e n k l:Nat}{d:Addr}{t:List (Key×V)}(h:JZ a H g G Κ N (b+10) p dx mem pr r m)(fin:JM Κ N)(B:m.ds[e]?=some d)(M:H d=some (.dK t))(no:Bu t (Sum.inl (n:Int))=none)(X:An G n ((l+2:Nat):Int))(hk:Κ l e (Cr G (l+2) n))(jr:JR r G e n k):JZ a (upd H d (.dK (DQ t (Sum.inl (n:Int)) (.int (k:Int))))) g G Κ N b p dx mem pr r m/\Up (l+1) G H (upd H d (.dK (DQ t (Sum.inl (n:Int)) (.int (k:Int))))) m:=by
 obtain⟨f,c⟩:=h.cn;have E:e<47:=by rw[<-h.jw.me.len];exact(B6.mp B).1
 have o:=h.jw.putS B M jr;obtain⟨aa,q1,q2,q3,q4⟩:=c.sq e d B;rw[M]at q1;cases q1;have U:=FP (.int (k:Int)) no;rw[U]at o⊢;have nn:(Sum.inl (n:Int):Key)∉t.map (·.1):=λz=>by
  obtain⟨q,hq,eq⟩:=C3.mp z;have:(t.find? λt=>decide (t.1=(Sum.inl (n:Int):Key)))=none:=by
   unfold Bu at no;cases y:t.find? λt=>decide (t.1=(Sum.inl (n:Int):Key))with
   |none=>rfl
   |some w=>rw[y]at no;cases no
  have:=List.find?_eq_none.mp this q hq;exact this (Z7 eq)
 obtain⟨kc,c1,c2⟩:=c.ce;have gl:=c.gl;have D:∀{d':Addr}{s:Nat},m.ds[s]?=some d'->s≠e->d'≠d:=λ{d' s} j z y=>z (by
  rw[y]at j;exact(List.getElem?_inj (B6.mp j).1 h.jw.me.nd).mp (j.trans B.symm))
 have v:Cn (upd H d (.dK (t++[(Sum.inl (n:Int),.int (k:Int))]))) G m Κ b (λi=>if i=e then f i+1 else f i):=by
  refine⟨λs d' j=>?_,by rw[Vc f E];lia,kc,?_,by rw[Vc f E];lia⟩
  ·by_cases z:s=e
   ·subst z;rw[B]at j;cases j;refine⟨_,Af,by rw[Z9 rfl,C4,q2];rfl,?_,λk' I=>?_⟩
    ·rw[C5,S7];refine⟨q3,by simp,λx hx y hy=>?_⟩;rw[D6.mp hy];exact λz=>nn ((show x=Sum.inl (n:Int)from z)▸hx)
    ·rw[C5]at I;rcases F9.mp I with y|y
     ·exact q4 k' y
     ·rw[D6.mp y];exact⟨n,l,rfl,X,hk⟩
   ·obtain⟨C,P,R,K,O⟩:=c.sq s d' j;exact⟨C,by rw[Ax (D j z)];exact P,by rw[Z6 z];exact R,K,O⟩
  ·rw[Ax (AH c1 M A4)];exact c1
 refine⟨⟨?_,_,v⟩,λs n' l' a1 a2 a3 d' C j A=>?_⟩
 ·have fw:∀{s:Nat},s<47->(if s=e then f s+1 else f s)<=N:=λ{s} he=>v.few h.jw.ok fin h.jw.me.len he;have sm:=v.sum h.jw.ok fin h.jw.me.len;obtain⟨Q,Z,d2⟩:=v.ce;have u:=o.me;obtain⟨ac,S,r2,r3⟩:=u.ce;rw[Z]at S;cases S;refine⟨o.gr,o.ok,o.bs,o.br,o.nbr,o.hp,o.ru,o.rok,o.rest,⟨u.tp,u.l,u.ap,u.len,u.nd,λs d' j=>?_,Q,Z,by lia,r3⟩⟩;obtain⟨kw,Y,u2,u3,u4⟩:=u.sq s d' j;obtain⟨ab,T,v2,_⟩:=v.sq s d' j;rw[Y]at T;cases T;exact⟨kw,Y,by rw[v2];exact fw (by rw[<-h.jw.me.len];exact(B6.mp j).1),u3,u4⟩
 ·by_cases z:s=e
  ·subst z;rw[B]at j;cases j;rw[Af]at A;cases A;rw[<-U,EN];have ne:n'≠n:=λy=>by
    subst y;have:((l'+2:Nat):Int)=((l+2:Nat):Int):=by
     obtain⟨q,P,R⟩:=a1;obtain⟨q',K,O⟩:=X;rw[P]at K;cases K;exact R.symm.trans O
    lia
   rw[Z6 (λy=>ne (by have:=Sum.inl.inj y;lia))];exact a3 d t B M
  ·rw[Ax (D j z)]at A;exact a3 d' C j A
end
seal L2.PA L2.PE L2.PS L2.PSs L2.PT L2.PW
structure ClK(r:AF)(Κ:KTy):Prop where
 nine1:∀{l e φ},Κ (l+1) e φ->e<=l->∀i j,i<3->j<3->Κ l e λx y=>φ (x+2^(l+1)*i) (y+2^(l+1)*j)
 nine2:∀{l φ},Κ (l+1) (l+1) φ->∀i j,i<3->j<3->Κ l l λx y=>φ (x+2^(l+1)*i) (y+2^(l+1)*j)
 four:∀{l φ},Κ (l+1) (l+1) φ->∀i j,i<2->j<2->Κ l l λx y=>Bl r (2^l) φ (x+(2^(l+1)*i+2^l)) (y+(2^(l+1)*j+2^l))
theorem An.one{G:Gv}{n:Nat}{i j:Int}(h:An G n i)(k:An G n j):i=j:=by
 obtain⟨q,d,c⟩:=h;obtain⟨p,a,b⟩:=k;rw[d]at a;cases a;exact c.symm.trans b
theorem JR.view{r:AF}{G:Gv}{c:Nat->Nat->Int}{e n m l X Y:Nat}(h:JR r G e n m)(i:An G n ((l+2:Nat):Int))(v:Vw G c (l+2) n X Y):An G m ((l+1:Nat):Int)/\e<=l/\Vw G (Bl r (2^e) c) (l+1) m (X+2^l) (Y+2^l):=by
 apply Bh;intro g a;obtain⟨f,d,b,j,o⟩:=h;apply a;clear a g;have k:f=l:=by
  have:=d.one i;lia
 subst k;exact⟨j,b,v.jump b o⟩
theorem Vw.jr{r:AF}{G:Gv}{e n m l:Nat}(a:An G n ((l+1+2:Nat):Int))(b:e<=l+1)(c:An G m ((l+1+1:Nat):Int))(v:Vw G (Bl r (2^e) (Cr G (l+1+2) n)) (l+1+1) m (2^(l+1)) (2^(l+1))):JR r G e n m:=⟨l+1,a,b,c,v⟩
theorem Zt{G h:Gv}{c:Nat->Nat->Int}{l g d f b z X Y i:Nat}(ok:GOk G)(go:AG G h i)(y:An G g ((l+1:Nat):Int))(p:An G d ((l+1:Nat):Int))(B:An G f ((l+1:Nat):Int))(t:An G b ((l+1:Nat):Int))(v0:Vw G c (l+1) g X Y)(n:Vw G c (l+1) d (X+2^(l+1)) Y)(x:Vw G c (l+1) f X (Y+2^(l+1)))(m:Vw G c (l+1) b (X+2^(l+1)) (Y+2^(l+1)))(e:h[z]?=some ⟨[((qO G g 3:Nat):Int),((qO G d 2:Nat):Int),((qO G f 1:Nat):Int),((qO G b 0:Nat):Int)],(l:Int)+1⟩):Vw h c (l+1) z (X+2^l) (Y+2^l):=by
 have C:2^(l+1)=2^l*2:=F4 ..;apply Bh;intro u a;obtain⟨v,r,w,k⟩:=En e;apply a;clear a u;have u0:=(v0.q (i:=1) (j:=1) A3 A3).goes ok go (LJ ok y A3);have s:=(n.q (i:=0) (j:=1) A3 A3).goes ok go (LJ ok p A3);have o:=(x.q (i:=1) (j:=0) A3 A3).goes ok go (LJ ok B A3);have A:=(m.q (i:=0) (j:=0) A3 A3).goes ok go (LJ ok t A3);refine Vw.of ?_ ?_ ?_ ?_
 ·rw[v];exact u0.at' A0 A0
 ·rw[r];exact s.at' A0 A0
 ·rw[w];exact o.at' A0 A0
 ·rw[k];exact A.at' A0 A0
theorem Nj{G h:Gv}{c:Nat->Nat->Int}{l f g d b z X Y i:Nat}{L:Int}(ok:GOk G)(go:AG G h i)(u:An G f (l:Int))(n:An G g (l:Int))(v:An G d (l:Int))(p:An G b (l:Int))(v0:Vw G c l f X Y)(s:Vw G c l g (X+2^l) Y)(o:Vw G c l d X (Y+2^l))(m:Vw G c l b (X+2^l) (Y+2^l))(e:h[z]?=some ⟨[(f:Int),(g:Int),(d:Int),(b:Int)],L⟩):Vw h c (l+1) z X Y:=by
 apply Bh;intro q a;obtain⟨r,k,t,j⟩:=En e;apply a;clear a q;refine Vw.of ?_ ?_ ?_ ?_
 ·rw[r];exact v0.goes ok go u
 ·rw[k];exact s.goes ok go n
 ·rw[t];exact o.goes ok go v
 ·rw[j];exact m.goes ok go p
theorem Vl:∀xs:List Nat,xs.length=9->∃a b c d e f g h i,xs=[a,b,c,d,e,f,g,h,i]
 |[a,b,c,d,e,f,g,h,i],_=>⟨a,b,c,d,e,f,g,h,i,rfl⟩
theorem Pe:∀xs:List Nat,xs.length=4->∃a b c d,xs=[a,b,c,d]
 |[a,b,c,d],_=>⟨a,b,c,d,rfl⟩
def toV(k:Nat):V:=.int (k:Int)
def Nine(G:Gv)(c:Nat->Nat->Int)(l X:Nat)(ys:List Nat):Prop:=∀i j,i<3->j<3->∃y,ys[i+3*j]?=some y/\An G y (l:Int)/\Vw G c l y (2^l*i+X) (2^l*j+X)
theorem Qe {r:AF} {b d:Gv} {c:Nat->Nat->Int} {l e x:Nat} {f ys:List Nat} (ok:GOk b) (go:AG b d x) (h:∀i j,i<3->j<3->∃k,f[i+3*j]?=some k/\An b k ((l+1+1:Nat):Int)/\Vw b c (l+1+1) k (2^(l+1)*i) (2^(l+1)*j)) (q:Paired (λk y=>JR r d e k y) f ys):Nine d (Bl r (2^e) c) (l+1) (2^l) ys:=λi j t v=>by
 apply Bh;intro s a;obtain⟨k,p,g,u⟩:=h i j t v;obtain⟨y,w,o⟩:=Paired.get q p;obtain⟨m,_,n⟩:=o.view (go.lev g) (u.goes ok go g);apply a;clear a s;exact⟨y,w,m,n⟩
theorem OQ{G:Gv}{c:Nat->Nat->Int}{l X:Nat}{H:Hp}{A n z p e o s q w:Nat}{y u x v:Addr}(m:Nine G c l X [A,n,z,p,e,o,s,q,w])(O:H y=some (.tup [.int A,.int n,.int p,.int e]))(D:H u=some (.tup [.int n,.int z,.int e,.int o]))(P:H x=some (.tup [.int p,.int e,.int s,.int q]))(M:H v=some (.tup [.int e,.int o,.int q,.int w]))(t:Nat)(r:Addr)(a:[y,u,x,v][t]?=some r) :
  ∃g d f b:Nat,H r=some (.tup [.int g,.int d,.int f,.int b])/\(An G g (l:Int)/\An G d (l:Int)/\An G f (l:Int)/\An G b (l:Int))/\Vw G c l g (2^l*(t%2)+X) (2^l*(t/2)+X)/\Vw G c l d (2^l*(t%2)+X+2^l) (2^l*(t/2)+X)/\Vw G c l f (2^l*(t%2)+X) (2^l*(t/2)+X+2^l)/\Vw G c l b (2^l*(t%2)+X+2^l) (2^l*(t/2)+X+2^l):=by
 have E:t<4:=(B6.mp a).1;have T:=Nat.mul_succ (2^l) (t%2);have S:=Nat.mul_succ (2^l) (t/2);obtain⟨g,j,Q,v0⟩:=m (t%2) (t/2) A0 A0;obtain⟨d,i,I,C⟩:=m (t%2+1) (t/2) A0 A0;obtain⟨f,k,R,N⟩:=m (t%2) (t/2+1) A0 A0;obtain⟨b,h,K,B⟩:=m (t%2+1) (t/2+1) A0 A0;refine⟨g,d,f,b,?_,⟨Q,I,R,K⟩,v0,C.at' A0 rfl,N.at' rfl A0,B.at' A0 A0⟩
 match t,E,a with
 |0,_,a=>cases j;cases i;cases k;cases h;cases a;exact O
 |1,_,a=>cases j;cases i;cases k;cases h;cases a;exact D
 |2,_,a=>cases j;cases i;cases k;cases h;cases a;exact P
 |3,_,a=>cases j;cases i;cases k;cases h;cases a;exact M
theorem RI{α:Type}{P:Nat->α->Prop}{b:List α}{z:α}{i:Nat}(c:b.length=i)(h:∀t a,b[t]?=some a->P t a)(d:P i z):∀t a,(b++[z])[t]?=some a->P t a:=λt a e=>by
 by_cases f:t<i
 ·rw[M9 A0]at e;exact h t a e
 ·have:t=i:=by
   have:=(B6.mp e).1;rw[C4,c]at this;have:t<i+1:=this;lia
  subst this;rw[F3 A0,c,T6]at e;cases e;exact d
section
variable{P:Program}{w:World}{K:W.Frag}{mg:Str->Option Value}{base:Heap}{a:Ad}
inductive SpRecA(a:Ad)(L:Nat)(vs:List V)(H:Hp)(Q:VK):Prop
 |mk (p dx mem pr:Addr) (g:GA) (G:Gv) (Κ:KTy) (N b:Nat) (r:AF) (m:MA) (n l e:Nat) (_:vs=[.ref p,.int n,.int e]) (_:JZ a H g G Κ N b p dx mem pr r m) (_:JM Κ N) (_:ClK r Κ) (_:An G n ((l+2:Nat):Int)) (_:l<L) (_:e<=l) (_:Κ l e (Cr G (l+2) n)) (_:b+10*N+10*(l+1)<8000000) (_:∀(k:Nat)(G':Gv)(H':Hp)(i:Nat),FrJ g m H H'->JZ a H' g G' Κ N b p dx mem pr r m->AG G G' i->JR r G' e n k->Up (l+1) G H H' m->Q (.int k) H'):SpRecA a L vs H Q
def Gr(a:Ad)(L:Nat):Sp:=λvs H Q _=>SpRecA a L vs H Q
inductive SpFreA(a:Ad)(L:Nat)(vs:List V)(H:Hp)(Q:VK):Prop
 |mk (p dx mem pr:Addr) (g:GA) (G:Gv) (Κ:KTy) (N b:Nat) (r:AF) (m:MA) (n l e:Nat) (_:vs=[.ref p,.int n,.int e]) (_:JZ a H g G Κ N b p dx mem pr r m) (_:JM Κ N) (_:ClK r Κ) (_:An G n ((l+2:Nat):Int)) (_:l<L) (_:e<=l) (_:Κ l e (Cr G (l+2) n)) (_:b+10*N+10*(l+1)<8000000) (_:∀(k:Nat)(G':Gv)(H':Hp)(i:Nat),FrJ g m H H'->JZ a H' g G' Κ N (b+10) p dx mem pr r m->AG G G' i->JR r G' e n k->Up l G H H' m->Q (.int k) H'):SpFreA a L vs H Q
def Tv(a:Ad)(L:Nat):Sp:=λvs H Q _=>SpFreA a L vs H Q
inductive VQ(a:Ad)(L:Nat)(vs:List V)(H:Hp)(Q:VK):Prop
 |mk (p dx mem pr:Addr) (g:GA) (G:Gv) (Κ:KTy) (N b:Nat) (r:AF) (m:MA) (n l:Nat) (_:vs=[.ref p,.int n,.int ((l+1:Nat):Int)]) (_:JZ a H g G Κ N b p dx mem pr r m) (_:JM Κ N) (_:ClK r Κ) (_:An G n ((l+1+2:Nat):Int)) (_:l<L) (_:Κ (l+1) (l+1) (Cr G (l+1+2) n)) (_:b+10*N+10*(l+2)<8000000) (_:∀(A:Addr)(f0 f1 f2 f3:Nat)(G':Gv)(H':Hp)(i:Nat),FrJ g m H H'->JZ a H' g G' Κ N (b+9) p dx mem pr r m->AG G G' i->Up (l+1) G H H' m->H' A=some (.lst [toV f0,toV f1,toV f2,toV f3])->(An G' f0 ((l+2:Nat):Int)/\An G' f1 ((l+2:Nat):Int)/\An G' f2 ((l+2:Nat):Int)/\An G' f3 ((l+2:Nat):Int))->(Vw G' (Bl r (2^l) (Cr G (l+1+2) n)) (l+2) f0 (2^l) (2^l)/\Vw G' (Bl r (2^l) (Cr G (l+1+2) n)) (l+2) f1 (2^l+2^(l+1)) (2^l)/\Vw G' (Bl r (2^l) (Cr G (l+1+2) n)) (l+2) f2 (2^l) (2^l+2^(l+1))/\Vw G' (Bl r (2^l) (Cr G (l+1+2) n)) (l+2) f3 (2^l+2^(l+1)) (2^l+2^(l+1)))->Q (.ref A) H'):VQ a L vs H Q
def QR(a:Ad)(L:Nat):Sp:=λvs H Q _=>VQ a L vs H Q
theorem Zc{L d:Nat}(F:Fun K "four_halfway" "Jumps.four_halfway" Bn f fd)(T:Top K mg a)(d3:3<=d)(aN:Cal P w K mg base CX0 3 "nine_parts" JU (Oq a))(aT:Cal P w K mg base CX0 1 "fours_of" TZ Mb)(a8:Cb P w K mg base CX0 2 a.c_Grove "linked" AW (DS a))(aE:Cb P w K mg base CX0 d a.c_Jumps "reckoned" PM (Gr a L)):AL P w K mg base CX0 (d+1) f fd PM (QR a L):=by
 refine F.ok Em (λvs H Q E h=>?_) (λbb A a7 s H vs Q E hr h=>?_)
 ·apply Bh;intro D c;obtain⟨p,dx,mem,pr,g,G,Κ,N,b,r,m,n,l,rfl,_⟩:=h;apply c;clear c D;rfl
 ·apply Bh;intro D c;obtain⟨p,dx,mem,pr,g,G,Κ,N,b,r,m,n,l,rfl,hz,fin,cl,hl,hL,a4,few,k⟩:=h;have hj:=hz.jw;have sz:=hz.sz fin;apply c;clear c D;refine⟨_,(Ab (Ew (i:=3) rfl Em.nd rfl rfl (BM.of (So:=Al Bn) (No:=Dd) (N:=["part","self","e"]) (k:=1) (cs:=[0,2]) rfl rfl A1) (CO (Aw aN (rm hr) rfl Aq (Aa (AC (pv 0) rfl) (Aa (pv 1) Ae)))) (λ_ _ _=>(Bo (i:=0) A1 rfl rfl)) (λ_ _ _=>BX) (λ_ _ _=>(AI (pv 1) aE (rm hr) Aq (Aa (pv 0) (AV AS (pv 2) Ac Ae))))) (Ah (As (Di rfl (BM.of (So:=Al Bn) (No:=Dd) (N:=["four","self"]) (k:=1) (cs:=[0]) rfl rfl A1) (CO (Aw aT (rm hr) rfl Aq (Aa (pv 3) Ae))) (λ_ _ _=>(Bo (i:=0) A1 rfl rfl)) (λ_ _ _=>BX) (λ_ _ _=>(AI (Ra (K:=K) rfl (pv 1) rfl) a8 (rm hr) Aq (Aa (pv 0) Ae))))))),?_⟩
  try dsimp only[cxK]
  obtain⟨q9,az,bc⟩:=id hl;have bf:l<=45:=by have:=(hj.ok.lev az).2;lia
  refine xwf rfl rfl hj.hp T.cl_Jumps T.na_Jumps_grove (DG _ _ _ _ _) (xq1 rfl ⟨g,G,n,l+1,rfl,hj.gr,hj.ok,hl,by lia,by lia,λA9 ks G3 H3 ag a9 O aj l9 nine=>?_⟩);have ac:=hz.fr ag a9 O;have I:=ac.jw;have bd:=ac.sz fin
  skip
  have al:∀(t k:Nat),ks[t]?=some k->An G3 k ((l+2:Nat):Int):=λt k e=>by
   have ht:=(B6.mp e).1;obtain⟨k',e1,e2,_⟩:=nine (t%3) (t/3) A0 A0;rw[show t%3+3*(t/3)=t by lia,e]at e1;cases e1;exact e2
  have a6:∀(t k:Nat),ks[t]?=some k->Κ l l (Cr G3 (l+2) k):=λt k e=>by
   have ht:=(B6.mp e).1;obtain⟨k',e1,_,v⟩:=nine (t%3) (t/3) A0 A0;rw[show t%3+3*(t/3)=t by lia,e]at e1;cases e1;exact fin.ext (cl.nine2 a4 (t%3) (t/3) A0 A0) λx y hx hy=>(v x y hx hy).symm
  refine⟨A9,rfl,⟨_,SqL.of aj⟩,?_⟩;refine Dt (xs:=ks.map λ(k:Nat)=>V.int (k:Int)) (λi B H5=>∃(G5:Gv)(ys:List Nat)(c5:Nat),B=ys.map toV/\ys.length=i/\FrJ g m H3 H5/\JZ a H5 g G5 Κ N (b+5) p dx mem pr r m/\AG G3 G5 c5/\Up (l+1) G3 H3 H5 m/\Paired (λk y=>JR r G5 l k y) (ks.take i) ys) ⟨G3,[],0,rfl,rfl,λb o e _ _ _ _ _=>e,ac,AG.refl I.ok,Up.refl _ _ _ _,.nil⟩ (λi B H5 _ z=>by obtain⟨_,_,_,_,_,fr,_⟩:=z;exact SqL.of ((fr.kps I.gr I.bs.long I.me) _ _ aj (.lst (by rw[B5];lia)))) ?_ ?_
  ·rintro i v B H5 ev ab;apply Bh;intro D c;obtain⟨G5,ys,c5,rfl,ly,ai,M,q,af,Z⟩:=ab;apply c;clear c D;rw[B8]at ev;obtain⟨k5,ek,rfl⟩:=D8.mp ev;have i9:i<9:=by have:=(B6.mp ek).1;lia
   have ah:=M.jw
   skip
   refine⟨⟨[some (.int (k5:Int))],rfl,rfl⟩,by rw[B5,ly];exact T8 i9 A3,Ii (xwn rfl rfl ah.hp (Mu _ _ _ _ _) rfl (xwb rfl rfl rfl ⟨p,dx,mem,pr,g,G5,Κ,N,b+5,r,m,k5,l,l,(show [V.ref p,V.int (k5:Int),V.int (((l+1:Nat):Int)-1)]=[V.ref p,V.int (k5:Int),V.int (l:Int)] by rw[show((l+1:Nat):Int)-1=(l:Int) by lia]),M,fin,cl,q.lev (al i k5 ek),hL,C1 l,(by rw[CK I.ok q (al i k5 ek)];exact a6 i k5 ek),by lia,λy G6 H6 c6 as U an a5 a0=>⟨G6,ys++[y],_,by rw[C5];rfl,by rw[C4,ly];rfl,ai.trans as,U,q.trans an,af.trans a0 q,?_⟩⟩))⟩;rw[L6,ek,S4];exact A2e (Paired.imp (λk y z=>z.goes ah.ok an) Z) a5
  rintro B H5 ad A5 ax;apply Bh;intro D c;obtain⟨G5,ys,c5,rfl,ly,ai,M,q,af,Z⟩:=ad;have ah:=M.jw;apply c;clear c D;rw[B5,l9]at ly;rw[B5,M4]at Z;have nj:=Qe I.ok q nine Z;apply Bh;intro D c;obtain⟨y0,y1,y2,y3,y4,y5,y6,y7,y8,rfl⟩:=Vl ys ly;apply c;clear c D
  skip
  generalize dE:upd H5 A5 _=H6;obtain⟨s5,am⟩:=alc ax dE;have U:=M.same s5;have ba:=U.jw;have a1:FrJ g m H H6:=(Fr.j ag).trans (ai.trans (AA.j s5));refine xq1 rfl ⟨A5,y0,y1,y2,y3,y4,y5,y6,y7,y8,rfl,am,λMM t0 t1 t2 t3 H7 s7 hM aq ar au a3=>?_⟩;have ae:=U.same s7;have S:=ae.jw;refine⟨MM,rfl,⟨_,SqL.of hM⟩,?_⟩;have p1:2^(l+1)=2^l*2:=F4 ..;have four:=OQ nj aq ar au a3;have aa:=S.ok;refine Dt (xs:=[t0,t1,t2,t3].map V.ref) (λi B H8=>∃(G8:Gv)(zs:List Nat),B=zs.map toV/\zs.length=i/\Fr g H7 H8/\JZ a H8 g G8 Κ N (b+5+i) p dx mem pr r m/\AG G5 G8 i/\∀(t z:Nat),zs[t]?=some z->An G8 z ((l+2:Nat):Int)/\Vw G8 (Bl r (2^l) (Cr G (l+1+2) n)) (l+1+1) z (2^(l+1)*(t%2)+2^l) (2^(l+1)*(t/2)+2^l)) ⟨G5,[],rfl,rfl,Fr.refl g H7,ae,AG.refl aa,λt z e=>(nomatch e)⟩ (λi B H8 _ z=>by obtain⟨_,_,_,_,fr,_⟩:=z;exact SqL.of ((fr.kps S.gr S.bs.long) _ _ hM (.lst (by show 4<=50;decide)))) ?_ ?_
  ·rintro i v B H8 ev ab;apply Bh;intro D c;obtain⟨G8,zs,rfl,lz,Y,C,u,vz⟩:=ab;have R:=C.jw;have a2:=C.sz fin;apply c;clear c D;rw[B8]at ev;obtain⟨tt,et,rfl⟩:=D8.mp ev;have i4:i<4:=(B6.mp et).1;apply Bh;intro D c;obtain⟨f0,f1,f2,f3,ao,⟨m0,m1,m2,m3⟩,w0,w1,w2,w3⟩:=four i tt et;apply c;clear c D
   skip
   refine⟨⟨[some (.ref tt)],rfl,rfl⟩,by rw[B5,lz];exact T8 i4 A3,Ii (xwf rfl rfl R.hp T.cl_Jumps T.na_Jumps_grove (DG _ _ _ _ _) (xq3 rfl R.gr.hp (BR g) (xq1 rfl ⟨g,G8,tt,f0,f1,f2,f3,((l+1:Nat):Int),rfl,R.gr,R.ok,(Y.kps S.gr S.bs.long) _ _ ao (.inl .tup),⟨u.lev m0,u.lev m1,u.lev m2,u.lev m3⟩,by lia,by lia,λz G9 H9 ak ay X e9=>⟨G9,zs++[z],by rw[C5];rfl,by rw[C4,lz];rfl,Y.trans ak,C.fr ak ay X,u.trans X,?_⟩⟩)))⟩;refine RI lz (λt z' e=>?_) ?_
   ·obtain⟨q1,q2⟩:=vz t z' e;exact⟨X.lev q1,q2.goes R.ok X q1⟩
   ·exact⟨⟨_,e9,by show((l+1:Nat):Int)+1=((l+2:Nat):Int);lia⟩,Nj aa (u.trans X) m0 m1 m2 m3 w0 w1 w2 w3 e9⟩
  rintro B H8 ad A8 aw;apply Bh;intro D c;obtain⟨G8,zs,rfl,lz,Y,C,u,vz⟩:=ad;have R:=C.jw;have a2:=C.sz fin;apply c;clear c D;apply Bh;intro D c;obtain⟨z0,z1,z2,z3,rfl⟩:=Pe zs lz;apply c;clear c D;have s8:AA H8 (upd H8 A8 (.lst ([z0,z1,z2,z3].map toV))):=AJ aw;have av:AG G5 G8 4:=u;obtain⟨q0,x0⟩:=vz 0 z0 rfl;obtain⟨q1,x1⟩:=vz 1 z1 rfl;obtain⟨q2,x2⟩:=vz 2 z2 rfl;obtain⟨q3,x3⟩:=vz 3 z3 rfl;refine k A8 z0 z1 z2 z3 G8 _ _ (a1.trans ((AA.j s7).trans ((Fr.j Y).trans (AA.j s8)))) (C.same s8) ((O.trans q).trans av) (((((hz.upF (l+1) ag).trans af O).trans (M.upS _ s5) (O.trans q)).trans (U.upS _ s7) (O.trans q)).trans ((ae.upF _ Y).trans (C.upS _ s8) u) (O.trans q)) Af ⟨q0,q1,q2,q3⟩ ⟨x0.at' A0 A0,x1.at' A0 A0,x2.at' A0 A0,x3.at' A0 A0⟩
theorem ok_freA{L d:Nat}(F:Fun K "fresh" "Jumps.fresh" Cm f fd)(T:Top K mg a)(d7:7<=d)(aF:Cb P w K mg base CX0 7 a.c_Jumps "middle_after" JF (QN a))(a8:Cb P w K mg base CX0 2 a.c_Grove "linked" AW (DS a))(aN:Cal P w K mg base CX0 3 "nine_parts" JU (Oq a))(aT:Cal P w K mg base CX0 1 "fours_of" TZ Mb)(aI:Cal P w K mg base CX0 3 "met_in_the_middle" CB (US a))(aE:Cb P w K mg base CX0 d a.c_Jumps "reckoned" PM (Gr a L))(cB:Cb P w K mg base CX0 (d+1) a.c_Jumps "four_halfway" PM (QR a L)):AL P w K mg base CX0 (d+2) f fd PM (Tv a (L+1)):=by
 refine F.ok DY (λvs H Q E h=>?_) (λb8 A b4 s H vs Q E hr h=>?_)
 ·apply Bh;intro R c;obtain⟨p,dx,mem,pr,g,G,Κ,N,b,r,m,n,l,e,rfl,_⟩:=h;apply c;clear c R;rfl
 ·apply Bh;intro R c;obtain⟨p,dx,mem,pr,g,G,Κ,N,b,r,m,n,l,e,rfl,hz,fin,cl,hl,hL,he,a0,few,k⟩:=h;have U:=hz.jw;have sz:=hz.sz fin;obtain⟨q,eq,el⟩:=id hl;apply c;clear c R;have b9:=(U.ok.lev eq).2;have b7:l<=46:=by lia
  refine⟨_,(Ab (Ao (i:=3) DY.nd rfl (Or.inr rfl) (AC (pv 0) rfl)) (Ab (Ao (i:=4) DY.nd rfl (Or.inl rfl) (Aj Av (AC (pv 3) rfl) (pv 1) (λ_ _=>rfl))) (Ab (AM (Ay CQ (pv 1) (Aj Av (AC (pv 3) rfl) (pv 4) (λ_ _=>rfl)) (AD _)) (Ah (As (Aj Av (AC (pv 3) rfl) (AE AS (pv 4) Ac) (λ_ _=>rfl)))) AB) (Ab (AM (Ay CQ (pv 4) (BY rfl T.k_LEAST_JUMPED) (AD _)) (Ah (As (AI (pv 0) aF (rm hr) Aq (Aa (pv 1) Ae)))) AB) (Ab (AM (Ay Fe (pv 2) (AE AS (pv 4) (BY rfl T.k_LEAST_JUMPED)) (AD _)) (Ab (Ew (i:=5) rfl DY.nd rfl rfl (BM.of (So:=Al Cm) (No:=EM) (N:=["part","self","e"]) (k:=1) (cs:=[0,2]) rfl rfl A1) (CO (Aw aN (rm hr) rfl Aq (Aa (pv 3) (Aa (pv 1) Ae)))) (λ_ _ _=>(Bo (i:=0) A1 rfl rfl)) (λ_ _ _=>BX) (λ_ _ _=>(AI (pv 1) aE (rm hr) Aq (Aa (pv 0) (Aa (pv 2) Ae))))) (Ah (As (AI (pv 3) a8 (rm hr) Aq (Aa (Bp BJ rfl T.b_tuple K9 (Aa (Di rfl (BM.of (So:=Al Cm) (No:=EM) (N:=["four","grove"]) (k:=1) (cs:=[3]) rfl rfl A1) (CO (Aw aT (rm hr) rfl Aq (Aa (pv 5) Ae))) (λ_ _ _=>(Bo (i:=0) A1 rfl rfl)) (λ_ _ _=>BX) (λ_ _ _=>(Aw aI (rm hr) rfl Aq (Aa (pv 1) (Aa (pv 0) Ae))))) Ae)) Ae))))) AB) (Ah (As (AI (pv 3) a8 (rm hr) Aq (Aa (Bp BJ rfl T.b_tuple K9 (Aa (Di rfl (BM.of (So:=Al Cm) (No:=EM) (N:=["four","self","e"]) (k:=1) (cs:=[0,2]) rfl rfl A1) (CO (AI (pv 0) cB (rm hr) Aq (Aa (pv 1) (Aa (pv 2) Ae)))) (λ_ _ _=>(Bo (i:=0) A1 rfl rfl)) (λ_ _ _=>BX) (λ_ _ _=>(AI (pv 1) aE (rm hr) Aq (Aa (pv 0) (AV AS (pv 2) Ac Ae))))) Ae)) Ae))))))))),?_⟩
  try dsimp only[cxK]
  refine xwf rfl rfl U.hp T.cl_Jumps T.na_Jumps_grove (DG _ _ _ _ _) ?_;refine xq1 rfl ⟨g.p,_,g.dx,_,_,rfl,U.gr.hp,T.cl_Grove,T.na_Grove_levels,ED g,_,rfl,g.lv,_,(n:Int),.int ((l+2:Nat):Int),rfl,rfl,SqL.of U.gr.lv,Ai (by rw[B8,eq,<-el];rfl),?_⟩;refine xq1 rfl (xq1 rfl ⟨g.p,_,g.dx,_,_,rfl,U.gr.hp,T.cl_Grove,T.na_Grove_bares,GR g,_,rfl,g.br,_,((l+2:Nat):Int),.int (bareN (l+2):Int),rfl,rfl,SqL.of U.br,Ai (bareJ A0),rfl,_,rfl,?_⟩);refine Fw (λhc=>?_) (λhc=>?_)
  ·have ei:n=bareN (l+2):=by
    have:=X8 hc;injection this with this
    exact X6 this
   refine xwf rfl rfl U.gr.hp T.cl_Grove T.na_Grove_bares (GR g) (xwb rfl rfl rfl (xq4 rfl rfl (SqL.of U.br) (by rw[show((l+2:Nat):Int)-1=((l+1:Nat):Int) by lia];exact Ai (bareJ A0)) ?_));refine k (bareN (l+1)) G H 0 (λb o e _ _ _ _ _=>e) (hz.mono A0) (AG.refl U.ok) ?_ (Up.refl _ _ _ _);rw[ei];exact JR.bare U.ok U.bs U.rest A0 he
  refine xq1 rfl ⟨rfl,(xq1 rfl ?_)⟩;cases l with
  |zero =>
   refine(show ∀{b:Bool}{A B:Prop},b=true->A->(if b=true then A else B)from λh x=>by rw[h];exact BL x) (Z7 rfl) ?_;have e0:e=0:=by lia
   subst e0;obtain⟨ff,cn⟩:=hz.cn;obtain⟨kc,c1,c2⟩:=cn.ce;have sm:=cn.sum U.ok fin U.me.len;refine xwn rfl rfl U.hp (noJ_mid _ _ _ _ _) rfl ⟨p,dx,mem,pr,g,G,N,kc.length,r,m,n,rfl,U.tc c1,hl,by lia,by lia,λk' G' H' fr b1 go jr=>?_⟩;obtain⟨z1,z2⟩:=hz.mid cn c1 fr b1 go;exact k k' G' H' 1 fr.j (z1.mono A0) go jr (z2 _)
  |succ l =>
   refine(show ∀{b:Bool}{A B:Prop},b=false->B->(if b=true then A else B)from λh x=>by rw[h];exact Ba x) (Z8 (by intro z;injection z with z;have z:((l+1+2:Nat):Int)=2:=z;lia)) ?_;have hL:l<L:=by lia
   have p1:2^(l+1)=2^l*2:=F4 ..;refine xw2 rfl rfl (xq2 rfl rfl (xq2 rfl rfl (xq1 rfl ?_)));refine Fw (λhc=>?_) (λhc=>?_)
   ·have au:e<=l:=by
     have hc:=X8 hc;have hc:(e:Int)<((l+1+2:Nat):Int)-2:=hc;lia
    obtain⟨q9,bq,ca⟩:=id hl;have b7:l<=45:=by have:=(U.ok.lev bq).2;lia
    refine xw2 rfl rfl ⟨g,G,n,l+1,rfl,U.gr,U.ok,hl,by lia,by lia,λA9 ks G3 H3 a2 b6 aj a7 l9 nine=>?_⟩;have aw:=hz.fr a2 b6 aj;have ah:=aw.jw;have cb:=aw.sz fin
    skip
    have a9:∀(t k:Nat),ks[t]?=some k->An G3 k ((l+2:Nat):Int):=λt k e=>by
     have ht:=(B6.mp e).1;obtain⟨k',e1,e2,_⟩:=nine (t%3) (t/3) A0 A0;rw[show t%3+3*(t/3)=t by lia,e]at e1;cases e1;exact e2
    have b3:∀(t k:Nat),ks[t]?=some k->Κ l e (Cr G3 (l+2) k):=λt k e=>by
     have ht:=(B6.mp e).1;obtain⟨k',e1,_,v⟩:=nine (t%3) (t/3) A0 A0;rw[show t%3+3*(t/3)=t by lia,e]at e1;cases e1;exact fin.ext (cl.nine1 a0 au (t%3) (t/3) A0 A0) λx y hx hy=>(v x y hx hy).symm
    refine⟨A9,rfl,⟨_,SqL.of a7⟩,?_⟩;refine Dt (xs:=ks.map λ(k:Nat)=>V.int (k:Int)) (λi M H5=>∃(G5:Gv)(ys:List Nat)(c5:Nat),M=ys.map toV/\ys.length=i/\FrJ g m H3 H5/\JZ a H5 g G5 Κ N (b+5) p dx mem pr r m/\AG G3 G5 c5/\Up (l+1) G3 H3 H5 m/\Paired (λk y=>JR r G5 e k y) (ks.take i) ys) ⟨G3,[],0,rfl,rfl,λb o e _ _ _ _ _=>e,aw,AG.refl ah.ok,Up.refl _ _ _ _,.nil⟩ (λi M H5 _ z=>by obtain⟨_,_,_,_,_,fr,_⟩:=z;exact SqL.of ((fr.kps ah.gr ah.bs.long ah.me) _ _ a7 (.lst (by rw[B5];lia)))) ?_ ?_
    ·rintro i v M H5 ev al;apply Bh;intro R c;obtain⟨G5,ys,c5,rfl,ly,a6,ai,O,az,ar⟩:=al;apply c;clear c R;rw[B8]at ev;obtain⟨k5,ek,rfl⟩:=D8.mp ev;have i9:i<9:=by have:=(B6.mp ek).1;lia
     have a5:=ai.jw
     skip
     refine⟨⟨[some (.int (k5:Int))],rfl,rfl⟩,by rw[B5,ly];exact T8 i9 A3,Ii (xwn rfl rfl a5.hp (Mu _ _ _ _ _) rfl (xq1 rfl ⟨p,dx,mem,pr,g,G5,Κ,N,b+5,r,m,k5,l,e,rfl,ai,fin,cl,O.lev (a9 i k5 ek),hL,au,(by rw[CK ah.ok O (a9 i k5 ek)];exact b3 i k5 ek),by lia,λy G6 H6 c6 bh am bb b0 bu=>⟨G6,ys++[y],_,by rw[C5];rfl,by rw[C4,ly];rfl,a6.trans bh,am,O.trans bb,az.trans bu O,?_⟩⟩))⟩;rw[L6,ek,S4];exact A2e (Paired.imp (λk y z=>z.goes a5.ok bb) ar) b0
    rintro M H5 an A5 bo;apply Bh;intro R c;obtain⟨G5,ys,c5,rfl,ly,a6,ai,O,az,ar⟩:=an;have a5:=ai.jw;apply c;clear c R;rw[B5,l9]at ly;rw[B5,M4]at ar;have nj:=Qe ah.ok O nine ar;apply Bh;intro R c;obtain⟨y0,y1,y2,y3,y4,y5,y6,y7,y8,rfl⟩:=Vl ys ly;apply c;clear c R
    skip
    generalize dE:upd H5 A5 _=H6;obtain⟨s5,ba⟩:=alc bo dE;have am:=ai.same s5;have bi:=am.jw;have bv:FrJ g m H H6:=(Fr.j a2).trans (a6.trans (AA.j s5));refine xwm rfl rfl bi.gr.hp (BR g) ?_;refine xq1 rfl ⟨A5,y0,y1,y2,y3,y4,y5,y6,y7,y8,rfl,ba,λMM t0 t1 t2 t3 H7 s7 hM bf bg bj bw=>?_⟩;have ag:=am.same s7;have Y:=ag.jw;refine⟨MM,rfl,⟨_,SqL.of hM⟩,?_⟩;have four:=OQ nj bf bg bj bw;have Z:=Y.ok;refine Dt (xs:=[t0,t1,t2,t3].map V.ref) (λi M H8=>∃(X:Gv)(zs:List Nat),M=zs.map toV/\zs.length=i/\Fr g H7 H8/\JZ a H8 g X Κ N (b+5+i) p dx mem pr r m/\AG G5 X i/\∀(t z:Nat),zs[t]?=some z->An X z ((l+1:Nat):Int)/\Vw X (Bl r (2^e) (Cr G (l+1+2) n)) (l+1) z (2^(l+1)*(t%2)+2^(l+1)) (2^(l+1)*(t/2)+2^(l+1))) ⟨G5,[],rfl,rfl,Fr.refl g H7,ag,AG.refl Z,λt z e=>(nomatch e)⟩ (λi M H8 _ z=>by obtain⟨_,_,_,_,fr,_⟩:=z;exact SqL.of ((fr.kps Y.gr Y.bs.long) _ _ hM (.lst (by show 4<=50;decide)))) ?_ ?_
    ·rintro i v M H8 ev al;apply Bh;intro R c;obtain⟨X,zs,rfl,lz,ae,C,D,vz⟩:=al;have ad:=C.jw;have av:=C.sz fin;apply c;clear c R;rw[B8]at ev;obtain⟨tt,et,rfl⟩:=D8.mp ev;have i4:i<4:=(B6.mp et).1;apply Bh;intro R c;obtain⟨f0,f1,f2,f3,bd,⟨m0,m1,m2,m3⟩,w0,w1,w2,w3⟩:=four i tt et;apply c;clear c R
     skip
     have qg:∀{f:Nat}(j:Nat),An G5 f ((l+1:Nat):Int)->qO X f j=qO G5 f j:=λ{f} j h=>by
      obtain⟨q,e,_⟩:=h;unfold qO;rw[D.get e,e]
     refine⟨⟨[some (.ref tt)],rfl,rfl⟩,by rw[B5,lz];exact T8 i4 A3,Ii (xw2 rfl rfl ⟨g,X,tt,f0,f1,f2,f3,l,rfl,ad.gr,ad.ok,(ae.kps Y.gr Y.bs.long) _ _ bd (.inl .tup),⟨D.lev m0,D.lev m1,D.lev m2,D.lev m3⟩,by lia,by lia,λz G9 H9 as bp S e9=>⟨G9,zs++[z],by rw[C5];rfl,by rw[C4,lz];rfl,ae.trans as,C.fr as bp S,D.trans S,?_⟩⟩)⟩;rw[qg 3 m0,qg 2 m1,qg 1 m2,qg 0 m3]at e9;refine RI lz (λt z' e=>?_) ?_
     ·obtain⟨q1,q2⟩:=vz t z' e;exact⟨S.lev q1,q2.goes ad.ok S q1⟩
     ·exact⟨⟨_,e9,by show(l:Int)+1=((l+1:Nat):Int);lia⟩,(Zt Z (D.trans S) m0 m1 m2 m3 w0 w1 w2 w3 e9).at' A0 A0⟩
    rintro M H8 an A8 ay;apply Bh;intro R c;obtain⟨X,zs,rfl,lz,ae,C,D,vz⟩:=an;have ad:=C.jw;have av:=C.sz fin;apply c;clear c R;apply Bh;intro R c;obtain⟨z0,z1,z2,z3,rfl⟩:=Pe zs lz;apply c;clear c R;have bl:AG G5 X 4:=D;have C:JZ a H8 g X Κ N (b+5+4) p dx mem pr r m:=C;have av:=C.sz fin;have aa:=(aj.trans O).trans bl;have ax:FrJ g m H H8:=bv.trans ((AA.j s7).trans (Fr.j ae));generalize dJ:upd H8 A8 _=H9;obtain⟨s8,ao⟩:=alc ay dJ;refine⟨A8,(xq1 rfl (.inl ⟨SqL.of ao,λu hu=>?_⟩))⟩;have ac:=C.same s8;have af:=ac.jw;obtain⟨q0,x0⟩:=vz 0 z0 rfl;obtain⟨q1,x1⟩:=vz 1 z1 rfl;obtain⟨q2,x2⟩:=vz 2 z2 rfl;obtain⟨q3,x3⟩:=vz 3 z3 rfl
    skip
    refine lnk (⟨.refl _ _,λe=>e,af.gr,.refl af.ok⟩:Ln a g H9 X 0 H9 X) hu ⟨q0,q1,q2,q3⟩ A0 A0 λz a3 a1 ab I aq=>?_;refine k z a3 a1 _ (ax.trans ((AA.j s8).trans (Fr.j ab.fr))) ((ac.fr ab.fr ab.gr I).mono A0) (aa.trans I) ?_ (((((hz.upF (l+1) a2).trans az aj).trans (ai.upS _ s5) (aj.trans O)).trans (am.upS _ s7) (aj.trans O)).trans (((ag.upF _ ae).trans (C.upS _ s8) D).trans (ac.upF _ ab.fr) D) (aj.trans O));have ak:=aa.trans I;refine Vw.jr (ak.lev hl) he ⟨_,aq,by show((l+1:Nat):Int)+1=((l+1+1:Nat):Int);lia⟩ ?_;rw[CK U.ok ak hl];exact Nj af.ok I q0 q1 q2 q3 (x0.at' A0 A0) (x1.at' A0 A0) (x2.at' A0 A0) (x3.at' A0 A0) aq
   ·have au:e=l+1:=by
     have hc:¬(e:Int)<((l+1+2:Nat):Int)-2:=λz=>hc (Z7 z);lia
    subst au;refine xwm rfl rfl U.gr.hp (BR g) ?_;refine xwn rfl rfl U.hp (Zj _ _ _ _ _) rfl (xq1 rfl ⟨p,dx,mem,pr,g,G,Κ,N,b,r,m,n,l,rfl,hz,fin,cl,hl,hL,a0,by lia,λA7 f0 f1 f2 f3 G5 H7 i5 b2 ag O bt bc bz bx=>?_⟩);apply Bh;intro R c;obtain⟨m0,m1,m2,m3⟩:=bz;obtain⟨w0,w1,w2,w3⟩:=bx;apply c;clear c R
    skip
    refine⟨A7,rfl,⟨_,SqL.of bc⟩,?_⟩;have Y:=ag.jw;have Z:=Y.ok;have four:∀(t f:Nat),[f0,f1,f2,f3][t]?=some f->An G5 f ((l+2:Nat):Int)/\Vw G5 (Bl r (2^l) (Cr G (l+1+2) n)) (l+2) f (2^(l+1)*(t%2)+2^l) (2^(l+1)*(t/2)+2^l):=λt f et=>by
     match t,et with
     |0,et=>cases et;exact⟨m0,w0.at' A0 A0⟩
     |1,et=>cases et;exact⟨m1,w1.at' A0 A0⟩
     |2,et=>cases et;exact⟨m2,w2.at' A0 A0⟩
     |3,et=>cases et;exact⟨m3,w3.at' A0 A0⟩
     |j+4,et=>cases et
    have bm:Bl r (2^l) (Bl r (2^l) (Cr G (l+1+2) n))=Bl r (2^(l+1)) (Cr G (l+1+2) n):=by
     rw[<-Sa,p1,Nat.mul_two]
    refine Dt (xs:=[f0,f1,f2,f3].map toV) (λi M H8=>∃(X:Gv)(zs:List Nat)(c8:Nat),M=zs.map toV/\zs.length=i/\FrJ g m H7 H8/\JZ a H8 g X Κ N (b+9) p dx mem pr r m/\AG G5 X c8/\Up (l+1) G5 H7 H8 m/\∀(t z:Nat),zs[t]?=some z->An X z ((l+1:Nat):Int)/\Vw X (Bl r (2^(l+1)) (Cr G (l+1+2) n)) (l+1) z (2^(l+1)*(t%2)+2^(l+1)) (2^(l+1)*(t/2)+2^(l+1))) ⟨G5,[],0,rfl,rfl,λb o e _ _ _ _ _=>e,ag,AG.refl Z,Up.refl _ _ _ _,λt z e=>(nomatch e)⟩ (λi M H8 _ z=>by obtain⟨_,_,_,_,_,fr,_⟩:=z;exact SqL.of ((fr.kps Y.gr Y.bs.long Y.me) _ _ bc (.lst (by show 4<=50;decide)))) ?_ ?_
    ·rintro i v M H8 ev al;apply Bh;intro R c;obtain⟨X,zs,c8,rfl,lz,ae,C,D,a4,vz⟩:=al;have ad:=C.jw;have av:=C.sz fin;apply c;clear c R;rw[B8]at ev;obtain⟨ff,et,rfl⟩:=D8.mp ev;have i4:i<4:=(B6.mp et).1;obtain⟨mf,wf⟩:=four i ff et
     skip
     refine⟨⟨[some (toV ff)],rfl,rfl⟩,by rw[B5,lz];exact T8 i4 A3,Ii (xwn rfl rfl ad.hp (Mu _ _ _ _ _) rfl (xwb rfl rfl rfl ⟨p,dx,mem,pr,g,X,Κ,N,b+9,r,m,ff,l,l,(show [V.ref p,V.int (ff:Int),V.int (((l+1:Nat):Int)-1)]=[V.ref p,V.int (ff:Int),V.int (l:Int)] by rw[show((l+1:Nat):Int)-1=(l:Int) by lia]),C,fin,cl,D.lev mf,hL,C1 l,(by rw[CK Z D mf];exact fin.ext (cl.four a0 (i%2) (i/2) A0 A0) λx y hx hy=>(wf x y hx hy).symm),by lia,λz G9 H9 c9 as ac S b5 bn=>⟨G9,zs++[z],_,by rw[C5];rfl,by rw[C4,lz];rfl,ae.trans as,ac,D.trans S,a4.trans bn D,?_⟩⟩))⟩;refine RI lz (λt z' e=>?_) ?_
     ·obtain⟨q1,q2⟩:=vz t z' e;exact⟨S.lev q1,q2.goes ad.ok S q1⟩
     ·obtain⟨r1,_,r3⟩:=b5.view ((D.trans S).lev mf) (wf.goes Z (D.trans S) mf);rw[bm]at r3;exact⟨r1,r3.at' A0 A0⟩
    rintro M H8 an A8 ay;apply Bh;intro R c;obtain⟨X,zs,c8,rfl,lz,ae,C,D,a4,vz⟩:=an;have ad:=C.jw;have av:=C.sz fin;apply c;clear c R;apply Bh;intro R c;obtain⟨z0,z1,z2,z3,rfl⟩:=Pe zs lz;apply c;clear c R;have aa:=O.trans D;have ax:FrJ g m H H8:=b2.trans ae;generalize dJ:upd H8 A8 _=H9;obtain⟨s8,ao⟩:=alc ay dJ;refine⟨A8,(xq1 rfl (.inl ⟨SqL.of ao,λu hu=>?_⟩))⟩;have ac:=C.same s8;have af:=ac.jw;obtain⟨q0,x0⟩:=vz 0 z0 rfl;obtain⟨q1,x1⟩:=vz 1 z1 rfl;obtain⟨q2,x2⟩:=vz 2 z2 rfl;obtain⟨q3,x3⟩:=vz 3 z3 rfl
    skip
    refine lnk (⟨.refl _ _,λe=>e,af.gr,.refl af.ok⟩:Ln a g H9 X 0 H9 X) hu ⟨q0,q1,q2,q3⟩ A0 A0 λz a3 a1 ab I aq=>?_;refine k z a3 a1 _ (ax.trans ((AA.j s8).trans (Fr.j ab.fr))) ((ac.fr ab.fr ab.gr I).mono A0) (aa.trans I) ?_ ((bt.trans a4 O).trans ((C.upS _ s8).trans (ac.upF _ ab.fr) (AG.refl ad.ok)) aa);have ak:=aa.trans I;refine Vw.jr (ak.lev hl) he ⟨_,aq,by show((l+1:Nat):Int)+1=((l+1+1:Nat):Int);lia⟩ ?_;rw[CK U.ok ak hl];exact Nj af.ok I q0 q1 q2 q3 (x0.at' A0 A0) (x1.at' A0 A0) (x2.at' A0 A0) (x3.at' A0 A0) aq
theorem ok_recB{L d:Nat}(F:Fun K "reckoned" "Jumps.reckoned" Dg f fd)(T:Top K mg a)(cS:Cb P w K mg base CX0 d a.c_Jumps "fresh" PM (Tv a L)):AL P w K mg base CX0 (d+1) f fd PM (Gr a L):=by
 refine F.ok DX (λvs H Q E h=>?_) (λaj A ab s H vs Q E hr h=>?_)
 ·apply Bh;intro j c;obtain⟨p,dx,mem,pr,g,G,Κ,N,b,r,m,n,l,e,rfl,_⟩:=h;apply c;clear c j;rfl
 ·apply Bh;intro j c;obtain⟨p,dx,mem,pr,g,G,Κ,N,b,r,m,n,l,e,rfl,Z,fin,cl,S,hL,he,U,few,k⟩:=h;have u:=Z.jw;have sz:=Z.sz fin;apply c;clear c j;obtain⟨q,eq,el⟩:=id S;have ai:=(u.ok.lev eq).2;have aa:e<m.ds.length:=by rw[u.me.len];lia
  obtain⟨d,B⟩:∃d,m.ds[e]?=some d:=⟨m.ds[e]'aa,B9 _⟩
  apply Bh;intro j c;obtain⟨kv,hd,dl,dk,dv⟩:=u.me.sq e d B;apply c;clear c j;refine⟨_,(Ab (Ao (i:=3) DX.nd rfl (Or.inl rfl) (FQ (Ek hr) (Aj Av (AC (pv 0) rfl) (pv 2) (λ_ _=>rfl)) (pv 1) ⟨rfl,rfl,rfl,rfl⟩)) (Ab (AM (Ay FZ (pv 3) Bz (AD _)) (Ab (Ao (i:=3) DX.nd rfl (Or.inl rfl) (AI (pv 0) cS (rm hr) Aq (Aa (pv 1) (Aa (pv 2) Ae)))) (Ah (Fn (Ek hr) (Aj Av (AC (pv 0) rfl) (pv 2) (λ_ _=>rfl)) (pv 1) (pv 3) rfl))) AB) (Ah (As (pv 3))))),?_⟩
  try dsimp only[cxK]
  have X:atI (m.ds.map V.ref) (e:Int)=some (.ref d):=Ai (by rw[B8,B];rfl);refine xwf rfl rfl u.hp T.cl_Jumps T.na_Jumps_known_squares (ZE _ _ _ _ _) (xwi rfl rfl rfl (SqL.of u.me.l) X ⟨d,rfl,.inl ⟨_,.inl hd⟩,(xq1 rfl ⟨_,Ie.k (k:=Sum.inl (n:Int)) hd,?_⟩)⟩);apply Qg (fun σ M=>∃(x:Nat)(I:Gv),σ=[some (.ref p),some (.int (n:Int)),some (.int (e:Int)),some (.int (x:Int))]/\FrJ g m H M/\JZ a M g I Κ N b p dx mem pr r m/\(∃i,AG G I i)/\JR r I e n x/\Up (l+1) G H M m)
  ·intro y;refine xq1 rfl ⟨rfl,(xq1 rfl ?_)⟩;cases ev:Bu kv (Sum.inl (n:Int))with
   |some v =>
    obtain⟨x,rfl,jr⟩:=dv n v ev;exact Ba (y _ _ ⟨x,G,rfl,λb o e _ _ _ _ _=>e,Z,⟨0,AG.refl u.ok⟩,jr,Up.refl _ _ _ _⟩)
   |none =>
    refine BL ?_;refine xwn rfl rfl u.hp (Wm _ _ _ _ _) rfl (xq1 rfl ⟨p,dx,mem,pr,g,G,Κ,N,b,r,m,n,l,e,rfl,Z,fin,cl,S,hL,he,U,few,λx I H' i' fr t go jr up=>?_⟩);apply Bh;intro j c;have D:=t.jw;obtain⟨Y,C,ah,ae,ag⟩:=D.me.sq e d B;apply c;clear c j;refine xw2 rfl rfl (xq5 D.hp T.cl_Jumps T.na_Jumps_known_squares (ZE _ _ _ _ _) (xwi rfl rfl rfl (SqL.of D.me.l) X (xq1 rfl ⟨d,(xq1 rfl ⟨MJ.k (k:=Sum.inl (n:Int)) C (M8 (show Y.length<=9000000 by lia) A3),?_⟩)⟩)));have ac:=up e n l S (C1 l) (λd2 af O R=>by rw[B]at O;cases O;rw[hd]at R;cases R;exact ev) d Y B C;obtain⟨z1,z2⟩:=t.put fin B C ac (go.lev S) (by rw[CK u.ok go S];exact U) jr;exact y _ _ ⟨x,I,rfl,λb o e n1 n2 n3 n4 n5=>by rw[Ax (λz=>n5 (by rw[z];exact D7 B))];exact fr _ _ e n1 n2 n3 n4 n5,z1,⟨i',go⟩,jr,(up.mono (T1 l)).trans z2 go⟩
  rintro σ M ad;apply Bh;intro j c;obtain⟨x,I,rfl,fr,t,⟨i',go⟩,jr,up⟩:=ad;apply c;clear c j;exact xq1 rfl (k x I M i' fr t go jr up)
theorem Vj{f I D:Addr}{x i q:FuncData}(F:Fun K "reckoned" "Jumps.reckoned" Dg f x)(B:Fun K "four_halfway" "Jumps.four_halfway" Bn I i)(z:Fun K "fresh" "Jumps.fresh" Cm D q)(T:Top K mg a)(A:PQ K a.c_Jumps "reckoned" f)(y:Cv K x PM [])(o:PQ K a.c_Jumps "four_halfway" I)(s:Cv K i PM [])(d:PQ K a.c_Jumps "fresh" D)(j:Cv K q PM [])(M:Cb P w K mg base CX0 7 a.c_Jumps "middle_after" JF (QN a))(u:Cb P w K mg base CX0 2 a.c_Grove "linked" AW (DS a))(v:Cal P w K mg base CX0 3 "nine_parts" JU (Oq a))(t:Cal P w K mg base CX0 1 "fours_of" TZ Mb)(C:Cal P w K mg base CX0 3 "met_in_the_middle" CB (US a)):∀L,AL P w K mg base CX0 (10+3*L) f x PM (Gr a L)
 |0=>(AL.no (k:=10)).imp λvs H Q E h=>by
  apply Bh;intro R c;obtain⟨p,dx,mem,Z,g,G,Κ,N,b,r,m,n,l,e,_,_,_,_,_,U,_⟩:=h;apply c;clear c R;exact absurd U (F8 l)
 |L+1=>by
  have V:=Vj F B z T A y o s d j M u v t C L;have M1:Cb P w K mg base CX0 (10+3*L) a.c_Jumps "reckoned" PM (Gr a L):=⟨⟨_,_,V,A,y⟩,T.cl_Jumps⟩
  have X:=Zc B T A0 v t u M1;have Y:Cb P w K mg base CX0 (10+3*L+1) a.c_Jumps "four_halfway" PM (QR a L):=⟨⟨_,_,X,o,s⟩,T.cl_Jumps⟩
  have S:=ok_freA z T A0 M u v t C M1 Y;have O:Cb P w K mg base CX0 (10+3*L+2) a.c_Jumps "fresh" PM (Tv a (L+1)):=⟨⟨_,_,S,d,j⟩,T.cl_Jumps⟩
  exact ok_recB F T O
theorem Wi{L d:Nat}(F:Fun K "after" "Jumps.after" GF f fd)(T:Top K mg a)(O:4<=d)(C:Cb P w K mg base CX0 4 a.c_Jumps "check_jump" PM (spCj a))(I:Cb P w K mg base CX0 d a.c_Jumps "reckoned" PM (Gr a L)):AL P w K mg base CX0 (d+1) f fd PM (Gr a L):=by
 refine F.ok OB (λvs H Q E h=>?_) (λM A o s H vs Q E x h=>?_)
 ·apply Bh;intro t c;obtain⟨p,dx,mem,j,g,G,Κ,N,b,r,m,n,l,e,rfl,_⟩:=h;apply c;clear c t;rfl
 ·apply Bh;intro t c;obtain⟨p,dx,mem,j,g,G,Κ,N,b,r,m,n,l,e,rfl,v,fin,cl,y,D,z,u,few,k⟩:=h;have i:=v.jw;have sz:=v.sz fin;obtain⟨q,eq,B⟩:=id y;apply c;clear c t;refine⟨_,(Ab (BP (AI (pv 0) C (rm x) Aq (Aa (pv 1) (Aa (pv 2) Ae)))) (Ah (As (AI (pv 0) I (rm x) Aq (Aa (pv 1) (Aa (pv 2) Ae)))))),?_⟩
  try dsimp only[cxK]
  refine xwn rfl rfl i.hp (Wn _ _ _ _ _) rfl (xq1 rfl ⟨p,dx,g.p,mem,j,m.l,m.kc,g,G,n,e,q,rfl,i.hp,i.gr,eq,by rw[B];lia,?_⟩);exact xwn rfl rfl i.hp (Mu _ _ _ _ _) rfl (xq1 rfl ⟨p,dx,mem,j,g,G,Κ,N,b,r,m,n,l,e,rfl,v,fin,cl,y,D,z,u,few,k⟩)
end
theorem Cg(l:Nat):(2:Int)^(l+1)=2^l+2^l:=by rw[V6];lia
def EF(x y w h r:Int):Prop:=-r<=x/\-r<=y/\x+w<=r/\y+h<=r
instance(x y w h r:Int):Decidable (EF x y w h r):=by unfold EF;infer_instance
theorem lies_b(x y w h r:Int):(decide (-r<=x) && (decide (-r<=y) && (decide (x+w<=r) && decide (y+h<=r))))=decide (EF x y w h r):=by
 rw[Q4];simp only[O6,A6a];exact Iff.rfl
structure Wid(G:Gv)(n f w:Nat):Prop where
 ex:∃(q:Sq)(x y z v a b c d:Nat),GU G n f q x y z v/\G[a]?=some ⟨[(bareN n:Int),(bareN n:Int),(bareN n:Int),(x:Int)],(n:Int)+1⟩/\G[b]?=some ⟨[(bareN n:Int),(bareN n:Int),(y:Int),(bareN n:Int)],(n:Int)+1⟩ /\
  G[c]?=some ⟨[(bareN n:Int),(z:Int),(bareN n:Int),(bareN n:Int)],(n:Int)+1⟩/\G[d]?=some ⟨[(v:Int),(bareN n:Int),(bareN n:Int),(bareN n:Int)],(n:Int)+1⟩/\G[w]?=some ⟨[(a:Int),(b:Int),(c:Int),(d:Int)],(n:Int)+2⟩
theorem Wid.lev{G:Gv}{n f w:Nat}(h:Wid G n f w):An G w ((n+2:Nat):Int):=by
 obtain⟨q,x,y,z,v,a,b,c,d,g,j,i,k,l,e⟩:=h.ex;exact⟨_,e,by show(n:Int)+2=_;lia⟩
theorem Wid.app{G e:Gv}{k n f w:Nat}(go:AG G e k)(h:Wid G n f w):Wid e n f w:=by
 obtain⟨q,x,y,z,v,a,b,c,d,g,j,i,m,o,l⟩:=h.ex;exact⟨q,x,y,z,v,a,b,c,d,g.app go,go.get j,go.get i,go.get m,go.get o,go.get l⟩
theorem El{G r:Gv}(e:G=G0++r){n:Nat}(h:n<=48):An G (bareN n) (n:Int):=by
 rw[e];exact(ZQ n h).app
theorem bareL_at'{l:Nat}(h:l<=48):((De 48).map V.int)[l]?=some (.int (bareN l:Int)):=by
 unfold De;rw[B8,B8,O7 A0];rfl
section
variable{P:Program}{w:World}{K:W.Frag}{mg:Str->Option Value}{base:Heap}{a:Ad}
inductive SpLie(vs:List V)(H:Hp)(Q:VK):Prop
 |mk (t:Addr) (x y w h r:Int) (_:vs=[.ref t,.int r]) (_:H t=some (.tup [.int x,.int y,.int w,.int h])) (_:Q (.bl (decide (EF x y w h r))) H):SpLie vs H Q
def Qa:Sp:=λvs H Q _=>SpLie vs H Q
theorem ok_lie(F:Fun K "lies_within" "lies_within" Gz f fd)(T:Top K mg a):AL P w K mg base CX0 1 f fd PF Qa:=by
  refine F.ok Oy (λ_ _ _ _ h=>by rcases h;subst_vars;rfl) λi A c s H vs Q E m h=>?_
  obtain⟨t,x,y,l,p,r,rfl,b,k⟩:=h;rw[<-lies_b]at k;refine⟨_,(Ah (As (IH (Fo Lo (Db Cc (pv 1)) (Aj Ak (pv 0) Ac (λ_ _=>rfl)) (AD _)) (IH (Fo Lo (Db Cc (pv 1)) (Aj Ak (pv 0) Ac (λ_ _=>rfl)) (AD _)) (IH (Fo Lo (AE Bb (Aj Ak (pv 0) Ac (λ_ _=>rfl)) (Aj Ak (pv 0) Ac (λ_ _=>rfl))) (pv 1) (AD _)) (IG (Fo Lo (AE Bb (Aj Ak (pv 0) Ac (λ_ _=>rfl)) (Aj Ak (pv 0) Ac (λ_ _=>rfl))) (pv 1) (AD _)))))))),?_⟩
  try dsimp only[cxK]
  refine xw3 rfl rfl rfl (xq4 rfl rfl (SqT.of b) (Ai (j:=0) rfl) (xq2 rfl rfl (RK (λ_ o d=>?_) k)));refine xw3 rfl rfl rfl (xq4 rfl rfl (SqT.of b) (Ai (j:=1) rfl) (xq2 rfl rfl (RK (λ_ q g=>?_) d)));refine xwi rfl rfl rfl (SqT.of b) (Ai (j:=0) rfl) (xwi rfl rfl rfl (SqT.of b) (Ai (j:=2) rfl) (xq2 rfl rfl (xwb rfl rfl rfl (RK (λ_ n e=>?_) g))));exact xwi rfl rfl rfl (SqT.of b) (Ai (j:=1) rfl) (xwi rfl rfl rfl (SqT.of b) (Ai (j:=3) rfl) (xq2 rfl rfl (xwb rfl rfl rfl e)))
inductive VM(a:Ad)(vs:List V)(H:Hp)(Q:VK):Prop
 |mk (g:GA) (G:Gv) (i n:Nat) (_:vs=[.ref g.p,.int i]) (_:AN a H g G) (_:An G i ((n+1:Nat):Int)) (_:n<48) (_:Q (.int (2^n)) H):VM a vs H Q
def Ij(a:Ad):Sp:=λvs H Q _=>VM a vs H Q
theorem YX(F:Fun K "reach_of" "reach_of" LB f fd)(T:Top K mg a)(l:Cb P w K mg base CX0 3 a.c_Grove "level_of" JF (Ma a)):AL P w K mg base CX0 4 f fd TV (Ij a):=by
  refine F.ok Sj (λ_ _ _ _ h=>by rcases h;subst_vars;rfl) λp A b s H vs Q E m h=>?_
  obtain⟨g,G,i,n,rfl,c,⟨q,e,o⟩,j,k⟩:=h;refine⟨_,(Ah (As (AE MY Ac (AE AS (AI (pv 0) l (rm m) Aq (Aa (pv 1) Ae)) Ac)))),?_⟩
  try dsimp only[cxK]
  have d:q.lev=(n:Int)+1:=by rw[o];lia
  refine xwn rfl rfl c.hp (DF g) rfl ⟨g,G,i,q,rfl,c,e,(xq2 rfl rfl (xq2 rfl rfl ⟨⟨by lia,by lia,by decide⟩,?_⟩))⟩;show Q (.int (1*2^(q.lev-1).toNat)) H;rw[QH n d];exact k
inductive VU(a:Ad)(vs:List V)(H:Hp)(Q:VK):Prop
 |mk (g:GA) (G:Gv) (_:vs=[.ref g.p]) (_:AX a H g G) (_:Q (.int (bareN 1:Int)) H):VU a vs H Q
def NT(a:Ad):Sp:=λvs H Q _=>VU a vs H Q
theorem Zh(F:Fun K "bare_field" "bare_field" Iv f fd)(T:Top K mg a):AL P w K mg base CX0 1 f fd Rj (NT a):=by
  refine F.ok Pt (λ_ _ _ _ h=>by rcases h;subst_vars;rfl) λd A b s H vs Q E e h=>?_
  obtain⟨g,G,rfl,c,k⟩:=h;exact⟨_,(Ah (As (Aj Av (AC (pv 0) rfl) (BY rfl T.k_LEAST_LEVEL) (λ_ _=>rfl)))),(xwf rfl rfl c.at'.hp T.cl_Grove T.na_Grove_bares (GR g) (xq4 rfl rfl (SqL.of c.br) (Ai (j:=1) (bareL_at' A0)) k))⟩
inductive SpWid(a:Ad)(vs:List V)(H:Hp)(Q:VK):Prop
 |mk (g:GA) (G:Gv) (f n:Nat) (_:vs=[.ref g.p,.int f]) (_:AX a H g G) (_:An G f ((n+1:Nat):Int)) (_:n<47) (_:G.length<8900000) (_:∀(w:Nat)(G':Gv)(H':Hp),Fr g H H'->AN a H' g G'->AG G G' 5->Wid G' n f w->Q (.int w) H'):SpWid a vs H Q
def UQ(a:Ad):Sp:=λvs H Q _=>SpWid a vs H Q
theorem ok_wid(F:Fun K "widened" "widened" MQ f fd)(T:Top K mg a)(a9:Cb P w K mg base CX0 3 a.c_Grove "level_of" JF (Ma a))(O:Cb P w K mg base CX0 2 a.c_Grove "linked" AW (DS a)):AL P w K mg base CX0 4 f fd JU (UQ a):=by
  refine F.ok Ik (λ_ _ _ _ h=>by rcases h;subst_vars;rfl) λao A al s H vs Q E N h=>?_
  obtain⟨g,G,f',n,rfl,d,hl,aq,few,k⟩:=h;obtain⟨q,x,y,z,v,m⟩:=BB d.ok hl;have lq:=m.lev;obtain⟨ts,h3,h4⟩:=d.at'.pt;obtain⟨t,et,D⟩:=PairedM.get h4 m.g;have D:H t=some (.tup [.int x,.int y,.int z,.int v]):=by
   have D:H t=some (.tup (q.parts.map V.int)):=D;rw[m.ps]at D;exact D
  obtain⟨r,e0⟩:=d.g0;have u:=El e0 (n:=n) A0;refine⟨_,(Ab (Ao (i:=2) Ik.nd rfl (Or.inl rfl) (AI (pv 0) a9 (rm N) Aq (Aa (pv 1) Ae))) (Ab (AM (PW.pt (Mn (Ay Fe (pv 2) (BY rfl T.k_LEAST_LEVEL) (AD _)) (IE (Ay CQ (pv 2) (BY rfl T.k_TOP_LEVEL) (AD _))))) (Ah Bw) AB) (Ab (Ao (i:=3) Ik.nd rfl (Or.inl rfl) (Aj Av (AC (pv 0) rfl) (pv 1) (λ_ _=>rfl))) (Ab (Ao (i:=4) Ik.nd rfl (Or.inl rfl) (Aj Av (AC (pv 0) rfl) (AE AS (pv 2) Ac) (λ_ _=>rfl))) (Ah (As (AI (pv 0) O (rm N) Aq (AT (Aa (AI (pv 0) O (rm N) Aq (AT (Aa (pv 4) (Aa (pv 4) (Aa (pv 4) (Aa (Aj Ak (pv 3) Ac (λ_ _=>rfl)) Ae)))) Ae)) (Aa (AI (pv 0) O (rm N) Aq (AT (Aa (pv 4) (Aa (pv 4) (Aa (Aj Ak (pv 3) Ac (λ_ _=>rfl)) (Aa (pv 4) Ae)))) Ae)) (Aa (AI (pv 0) O (rm N) Aq (AT (Aa (pv 4) (Aa (Aj Ak (pv 3) Ac (λ_ _=>rfl)) (Aa (pv 4) (Aa (pv 4) Ae)))) Ae)) (Aa (AI (pv 0) O (rm N) Aq (AT (Aa (Aj Ak (pv 3) Ac (λ_ _=>rfl)) (Aa (pv 4) (Aa (pv 4) (Aa (pv 4) Ae)))) Ae)) Ae)))) Ae)))))))),?_⟩
  try dsimp only[cxK]
  refine xq1 rfl ⟨g.p,g.dx,(xq1 rfl ⟨d.at'.hp,DF g,(xq1 rfl ⟨g,G,f',q,rfl,d.at',m.g,?_⟩)⟩)⟩;refine xwb rfl rfl rfl (xq1 rfl ?_);rw[Z8 (by lia:¬q.lev<1)];refine Ba (xq1 rfl ⟨rfl,(xq1 rfl ?_)⟩);rw[Z8 (by intro z;injection z with z;lia)];refine Ba (xwf rfl rfl d.at'.hp T.cl_Grove T.na_Grove_parts (Cd g) (xwi rfl rfl rfl (SqL.of h3) (Ai (by rw[B8,et];rfl)) ?_));refine xwf rfl rfl d.at'.hp T.cl_Grove T.na_Grove_bares (GR g) (xwb rfl rfl rfl (xq4 rfl rfl (SqL.of d.br) (by rw[show q.lev-1=(n:Int) by lia];exact Ai (bareL_at' A0)) ?_));refine xq1 rfl ⟨g.p,g.dx,(xq1 rfl ⟨d.at'.hp,BR g,?_⟩)⟩;refine xq1 rfl ⟨g.p,g.dx,(xq1 rfl ⟨d.at'.hp,BR g,(xw3 rfl rfl rfl (xwi rfl rfl rfl (SqT.of D) (Ai (j:=0) rfl) ⟨(by show 4<=sizeLine;decide),λt1 Y=>?_⟩))⟩)⟩;have s1:=Ar (o:=.tup [.int (bareN n:Int),.int (bareN n:Int),.int (bareN n:Int),.int x]) Y;refine⟨g,G,t1,bareN n,bareN n,bareN n,x,(n:Int),rfl,d.at'.same s1,d.ok,Af,⟨u,u,u,m.hx⟩,by lia,by lia,λa1 G1 H1 ah S e e1=>?_⟩;have f1:=(AA.fr s1).trans ah;have ag:=f1.tup d.at' D;have n1:=e.few;refine xwn rfl rfl S.hp (BR g) rfl (xwj rfl rfl rfl rfl (SqT.of ag) (Ai (j:=1) rfl) (xq1 rfl ⟨(by show 4<=sizeLine;decide),λt2 Z=>?_⟩));have s2:=Ar (o:=.tup [.int (bareN n:Int),.int (bareN n:Int),.int y,.int (bareN n:Int)]) Z;refine⟨g,G1,t2,bareN n,bareN n,y,bareN n,(n:Int),rfl,S.same s2,e.ok,Af,⟨e.lev u,e.lev u,e.lev m.hy,e.lev u⟩,by lia,by lia,λa2 G2 H2 ae R I e2=>?_⟩;have f2:=f1.trans ((AA.fr s2).trans ae);have ab:=f2.tup d.at' D;have n2:=I.few;have c:=e.trans I;refine xwn rfl rfl R.hp (BR g) rfl (xwi rfl rfl rfl (SqT.of ab) (Ai (j:=2) rfl) (xw2 rfl rfl ⟨(by show 4<=sizeLine;decide),λt3 ai=>?_⟩));have s3:=Ar (o:=.tup [.int (bareN n:Int),.int z,.int (bareN n:Int),.int (bareN n:Int)]) ai;refine⟨g,G2,t3,bareN n,z,bareN n,bareN n,(n:Int),rfl,R.same s3,I.ok,Af,⟨c.lev u,c.lev m.hz,c.lev u,c.lev u⟩,by lia,by lia,λa3 G3 H3 ak U B e3=>?_⟩;have f3:=f2.trans ((AA.fr s3).trans ak);have aa:=f3.tup d.at' D;have n3:=B.few;have b:=c.trans B;refine xwn rfl rfl U.hp (BR g) rfl (xq4 rfl rfl (SqT.of aa) (Ai (j:=3) rfl) (xw3 rfl rfl rfl ⟨(by show 4<=sizeLine;decide),λt4 am=>?_⟩));have s4:=Ar (o:=.tup [.int v,.int (bareN n:Int),.int (bareN n:Int),.int (bareN n:Int)]) am;refine⟨g,G3,t4,v,bareN n,bareN n,bareN n,(n:Int),rfl,U.same s4,B.ok,Af,⟨b.lev m.hw,b.lev u,b.lev u,b.lev u⟩,by lia,by lia,λa4 G4 H4 aj ad l e4=>?_⟩;have f4:=f3.trans ((AA.fr s4).trans aj);have n4:=l.few;have X:=b.trans l;refine⟨(by show 4<=sizeLine;decide),λt5 af=>?_⟩;have s5:=Ar (o:=.tup [.int a1,.int a2,.int a3,.int a4]) af;have E1:=(I.trans (B.trans l)).get e1;have E2:=(B.trans l).get e2;have E3:=l.get e3;refine⟨g,G4,t5,a1,a2,a3,a4,(n:Int)+1,rfl,ad.same s5,l.ok,Af,⟨⟨_,E1,rfl⟩,⟨_,E2,rfl⟩,⟨_,E3,rfl⟩,⟨_,e4,rfl⟩⟩,by lia,by lia,λw' G5 H5 an ac C e5=>?_⟩;have M:=X.trans C;exact k w' G5 H5 (f4.trans ((AA.fr s5).trans an)) ac M ⟨q,x,y,z,v,a1,a2,a3,a4,m.app M,C.get E1,C.get E2,C.get E3,C.get e4,by rw[e5,show(n:Int)+1+1=(n:Int)+2 by lia]⟩
end
structure NQ(G:Gv)(n i:Nat)(qs:Nat->Nat)(ps:Nat->Nat->Nat):Prop where
 node:∃q,GU G (n+1) i q (qs 0) (qs 1) (qs 2) (qs 3)
 sub:∀k,k<4->∃q,GU G n (qs k) q (ps k 0) (ps k 1) (ps k 2) (ps k 3)
theorem NQ.app{G c:Gv}{k n i:Nat}{b:Nat->Nat}{d:Nat->Nat->Nat}(go:AG G c k)(h:NQ G n i b d):NQ c n i b d:=by
 obtain⟨q,a⟩:=h.node;exact⟨⟨q,a.app go⟩,λk e=>by obtain⟨q,a⟩:=h.sub k e;exact⟨q,a.app go⟩⟩
def f4(x y z w:Nat)(k:Nat):Nat:=match k with|0=>x|1=>y|2=>z|_=>w
theorem deep_of{G:Gv}(ok:GOk G){n i:Nat}(h:An G i ((n+2:Nat):Int)):∃g E,NQ G n i g E:=by
 obtain⟨q,x,y,z,w,a⟩:=BB ok (n:=n+1) h;obtain⟨_,r,c,l,m,f⟩:=BB ok a.hx;obtain⟨_,H,d,D,A,B⟩:=BB ok a.hy;obtain⟨_,o,s,C,e,t⟩:=BB ok a.hz;obtain⟨_,u,p,v,b,nw⟩:=BB ok a.hw;refine⟨f4 x y z w,λk=>match k with|0=>f4 r c l m|1=>f4 H d D A|2=>f4 o s C e|_=>f4 u p v b,⟨q,a⟩,λk j=>?_⟩
 match k,j with
 |0,_=>exact⟨_,f⟩
 |1,_=>exact⟨_,B⟩
 |2,_=>exact⟨_,t⟩
 |3,_=>exact⟨_,nw⟩
theorem GU.nat{G:Gv}{n i:Nat}{q:Sq}{x y z w:Nat}(h:GU G n i q x y z w){j:Nat}(a:j<4):q.parts[j]?=some ((f4 x y z w j:Nat):Int)/\An G (f4 x y z w j) n:=by
 rw[h.ps]
 match j,a with
 |0,_=>exact⟨rfl,h.hx⟩
 |1,_=>exact⟨rfl,h.hy⟩
 |2,_=>exact⟨rfl,h.hz⟩
 |3,_=>exact⟨rfl,h.hw⟩
theorem JH(p:Nat->Nat){j:Nat}(a:j<4):f4 (p 0) (p 1) (p 2) (p 3) j=p j:=by
 match j,a with
 |0,_=>rfl
 |1,_=>rfl
 |2,_=>rfl
 |3,_=>rfl
def BA(n:Nat)(ps:Nat->Nat->Nat):Prop:=∀k j,k<4->j<4->j+k≠3->ps k j=bareN n
def Fj(G:Gv):Nat->Nat->Nat->Prop
 |0,_,_=>False
 |1,f,r=>r=f
 |n+2,f,r=>∃qs ps,NQ G n f qs ps/\((¬BA n ps/\r=f)\/(BA n ps/\∃m,G[m]?=some ⟨[(ps 0 3:Int),(ps 1 2:Int),(ps 2 1:Int),(ps 3 0:Int)],(n:Int)+1⟩/\Fj G (n+1) m r))
theorem Fj.app{G a:Gv}{k:Nat}(go:AG G a k):∀{n f r:Nat},Fj G n f r->Fj a n f r
 |0,_,_,h=>h
 |1,_,_,h=>h
 |n+2,f,r,h=>by
  obtain⟨c,i,d,h⟩:=h;refine⟨c,i,d.app go,?_⟩;rcases h with h|⟨b,m,e,g⟩
  ·exact .inl h
  ·exact .inr ⟨b,m,go.get e,Fj.app go g⟩
section
variable{P:Program}{w:World}{K:W.Frag}{mg:Str->Option Value}{base:Heap}{a:Ad}
theorem Ed{H:Hp}{g:GA}{G:Gv}(h:AN a H g G){n i:Nat}{q:Sq}{x y z w:Nat}(d:GU G n i q x y z w):∃(c:List Addr)(t:Addr),H g.pt=some (.lst (c.map V.ref))/\(c.map V.ref)[i]?=some (.ref t)/\H t=some (.tup [.int x,.int y,.int z,.int w]):=by
 obtain⟨c,f,j⟩:=h.pt;obtain⟨t,e,b⟩:=PairedM.get j d.g;refine⟨c,t,f,by rw[B8,e];rfl,?_⟩;have b:H t=some (.tup (q.parts.map V.int)):=b;rw[d.ps]at b;exact b
inductive SpMid(a:Ad)(vs:List V)(H:Hp)(Q:VK):Prop
 |mk (g:GA) (G:Gv) (i n:Nat) (qs:Nat->Nat) (ps:Nat->Nat->Nat) (_:vs=[.ref g.p,.int i]) (_:AN a H g G) (_:GOk G) (_:NQ G n i qs ps) (_:n<47) (_:G.length<8900000) (_:∀(m:Nat)(G':Gv)(H':Hp),Fr g H H'->AN a H' g G'->AG G G' 1->G'[m]?=some ⟨[(ps 0 3:Int),(ps 1 2:Int),(ps 2 1:Int),(ps 3 0:Int)],(n:Int)+1⟩->Q (.int m) H'):SpMid a vs H Q
def Yq(a:Ad):Sp:=λvs H Q _=>SpMid a vs H Q
theorem ok_mid(F:Fun K "middle_of" "middle_of" Gi f fd)(T:Top K mg a)(a8:Cb P w K mg base CX0 2 a.c_Grove "linked" AW (DS a)):AL P w K mg base CX0 3 f fd JU (Yq a):=by
  refine F.ok Mh (λ_ _ _ _ h=>by rcases h;subst_vars;rfl) λad A U s H vs Q E hr h=>?_
  obtain⟨g,G,i,n,b,d,rfl,M,ok,D,ab,few,k⟩:=h;obtain⟨q,nd⟩:=D.node;obtain⟨ts,t,Y,et,ht⟩:=Ed M nd;refine⟨_,(Ab (Ew (i:=2) rfl Mh.nd rfl rfl (BM.of (So:=Al Gi) (No:=NA) (N:=["quarter","grove"]) (k:=1) (cs:=[0]) rfl rfl A1) (TH (Aj Av (AC (pv 0) rfl) (pv 1) (λ_ _=>rfl))) (λ_ _ _=>(Bo (i:=0) A1 rfl rfl)) (λ_ _ _=>BX) (λ_ _ _=>(Aj (SW (K:=K) rfl) (Ra (K:=K) rfl (pv 1) rfl) (pv 0) (λ_ _=>rfl)))) (Ah (As (AI (pv 0) a8 (rm hr) Aq (AT (Aa (Aj Ak (Aj Av (pv 2) Ac (λ_ _=>rfl)) Ac (λ_ _=>rfl)) (Aa (Aj Ak (Aj Av (pv 2) Ac (λ_ _=>rfl)) Ac (λ_ _=>rfl)) (Aa (Aj Ak (Aj Av (pv 2) Ac (λ_ _=>rfl)) Ac (λ_ _=>rfl)) (Aa (Aj Ak (Aj Av (pv 2) Ac (λ_ _=>rfl)) Ac (λ_ _=>rfl)) Ae)))) Ae))))),?_⟩
  try dsimp only[cxK]
  refine xwf rfl rfl M.hp T.cl_Grove T.na_Grove_parts (Cd g) (xwi rfl rfl rfl (SqL.of Y) (Ai et) ⟨t,rfl,⟨_,SqT.of ht⟩,?_⟩);have sub:∀k,k<4->∃tk,(ts.map V.ref)[b k]?=some (.ref tk)/\H tk=some (.tup [.int (d k 0),.int (d k 1),.int (d k 2),.int (d k 3)]):=λk hk=>by
   obtain⟨qk,aa⟩:=D.sub k hk;obtain⟨ac,tk,B,S,X⟩:=Ed M aa;rw[Y]at B;have B:=HO.lst.inj (X5 B);exact⟨tk,by rw[B];exact S,X⟩
  obtain⟨y,e0,p0⟩:=sub 0 A3;obtain⟨p,e1,p1⟩:=sub 1 A3;obtain⟨x,e2,p2⟩:=sub 2 A3;obtain⟨r,e3,p3⟩:=sub 3 A3;have all:∀(j:Nat)(v:V),[V.int (b 0:Int),V.int (b 1:Int),V.int (b 2:Int),V.int (b 3:Int)][j]?=some v->∃(k:Nat)(tk:Addr),v=.int (k:Int)/\(ts.map V.ref)[k]?=some (.ref tk)/\[V.ref y,V.ref p,V.ref x,V.ref r][j]?=some (.ref tk):=λj v c=>by
   match j,c with
   |0,c=>cases c;exact⟨b 0,y,rfl,e0,rfl⟩
   |1,c=>cases c;exact⟨b 1,p,rfl,e1,rfl⟩
   |2,c=>cases c;exact⟨b 2,x,rfl,e2,rfl⟩
   |3,c=>cases c;exact⟨b 3,r,rfl,e3,rfl⟩
   |j+4,c=>simp at c
  refine RF (xs:=[.int (b 0:Int),.int (b 1:Int),.int (b 2:Int),.int (b 3:Int)]) (λj u O=>H=O/\u=[V.ref y,V.ref p,V.ref x,V.ref r].take j) ⟨rfl,rfl⟩ (λj u O _ z=>z.1▸SqT.of ht) ?_ ?_
  ·rintro j v u O c ⟨rfl,rfl⟩;obtain⟨k',tk,rfl,ek,el⟩:=all j v c;refine⟨⟨[some (.int k')],rfl,rfl⟩,by rw[L8];exact DL (by show min j 4<10000000;lia),Ii (xwf rfl rfl M.hp T.cl_Grove T.na_Grove_parts (Cd g) (xwi rfl rfl rfl (SqL.of Y) (Ai ek) ⟨rfl,?_⟩))⟩;rw[L6,el];rfl
  ·rintro u O ⟨rfl,rfl⟩ L hL;have C:=Ar (o:=.lst [V.ref y,V.ref p,V.ref x,V.ref r]) hL;have l:upd H L (.lst [V.ref y,V.ref p,V.ref x,V.ref r]) L=some (.lst [V.ref y,V.ref p,V.ref x,V.ref r]):=Af;rw[show(List.take [V.int (b 0:Int),V.int (b 1:Int),V.int (b 2:Int),V.int (b 3:Int)].length [V.ref y,V.ref p,V.ref x,V.ref r])=[V.ref y,V.ref p,V.ref x,V.ref r]from rfl];generalize upd H L (.lst [V.ref y,V.ref p,V.ref x,V.ref r])=H1 at C l⊢;have I:=M.same C;refine xwn rfl rfl I.hp (BR g) rfl (xq4 rfl rfl (SqL.of l) (Ai (j:=0) rfl) (xq4 rfl rfl (SqT.of (C _ _ p0)) (Ai (j:=3) rfl) (xwi rfl rfl rfl (SqL.of l) (Ai (j:=1) rfl) (xq4 rfl rfl (SqT.of (C _ _ p1)) (Ai (j:=2) rfl) ?_))));refine xwi rfl rfl rfl (SqL.of l) (Ai (j:=2) rfl) (xq4 rfl rfl (SqT.of (C _ _ p2)) (Ai (j:=1) rfl) (xwi rfl rfl rfl (SqL.of l) (Ai (j:=3) rfl) (xq4 rfl rfl (SqT.of (C _ _ p3)) (Ai (j:=0) rfl) ⟨(by show 4<=sizeLine;decide),λt4 Z=>?_⟩)));have s2:=Ar (o:=.tup [.int (d 0 3),.int (d 1 2),.int (d 2 1),.int (d 3 0)]) Z;obtain⟨_,n0⟩:=D.sub 0 A3;obtain⟨_,n1⟩:=D.sub 1 A3;obtain⟨_,n2⟩:=D.sub 2 A3;obtain⟨_,n3⟩:=D.sub 3 A3;exact⟨g,G,t4,d 0 3,d 1 2,d 2 1,d 3 0,(n:Int),rfl,I.same s2,ok,Af,⟨n0.hw,n1.hz,n2.hy,n3.hx⟩,by lia,by lia,λm G' H' fr R go e=>k m G' H' ((AA.fr C).trans ((AA.fr s2).trans fr)) R go e⟩
inductive SpBA(a:Ad)(vs:List V)(H:Hp)(Q:VK):Prop
 |mk (g:GA) (G:Gv) (i n:Nat) (qs:Nat->Nat) (ps:Nat->Nat->Nat) (_:vs=[.ref g.p,.int i]) (_:AX a H g G) (_:NQ G n i qs ps) (_:n<47) (_:(BA n ps->∀H',AA H H'->Q (.bl true) H')) (_:(¬BA n ps->∀H',AA H H'->Q (.bl false) H')):SpBA a vs H Q
def spBA(a:Ad):Sp:=λvs H Q _=>SpBA a vs H Q
theorem ok_ba(F:Fun K "is_bare_around" "is_bare_around" Et f fd)(T:Top K mg a):AL P w K mg base CX0 1 f fd JU (spBA a):=by
  refine F.ok BN (λ_ _ _ _ h=>by rcases h;subst_vars;rfl) λah A ac s H vs Q E hr h=>?_
  obtain⟨g,G,i,n,x,l,rfl,r,dp,af,k1,k2⟩:=h;obtain⟨q,u⟩:=dp.node;have lq:=u.lev;obtain⟨ts,t,h3,et,ht⟩:=Ed r.at' u;refine⟨_,(Ab (Ao (i:=2) BN.nd rfl (Or.inl rfl) (Aj Av (AC (pv 0) rfl) (AE AS (Aj Av (AC (pv 0) rfl) (pv 1) (λ_ _=>rfl)) Ac) (λ_ _=>rfl))) (Ab (DA K8 rfl (NY true rfl T.b_enumerate (Aa (Aj Av (AC (pv 0) rfl) (pv 1) (λ_ _=>rfl)) Ae)) (OL rfl (Dq (BQ (i:=3) BN.nd rfl (Or.inl rfl)) (Dq (BQ (i:=4) BN.nd rfl (Or.inl rfl)) Mo))) (Ah (DA K8 rfl (NY true rfl T.b_enumerate (Aa (Aj Av (AC (pv 0) rfl) (pv 4) (λ_ _=>rfl)) Ae)) (OL rfl (Dq (BQ (i:=5) BN.nd rfl (Or.inl rfl)) (Dq (BQ (i:=6) BN.nd rfl (Or.inl rfl)) Mo))) (Ah (AM (PW.pt (Js (Ay OO (pv 6) (pv 2) (AD _)) (Gk (Ay OO (pv 5) (AE AS Ac (pv 3)) (AD _))))) (Ah (As Jf)) AB))))) (Ah (As Jf)))),?_⟩
  try dsimp only[cxK]
  refine xwf rfl rfl r.at'.hp T.cl_Grove T.na_Grove_bares (GR g) (xwf rfl rfl r.at'.hp T.cl_Grove T.na_Grove_levels (ED g) (xwi rfl rfl rfl (SqL.of r.at'.lv) (Ai (by rw[B8,u.g];rfl)) (xq2 rfl rfl (xq4 rfl rfl (SqL.of r.br) (by rw[show q.lev-2=(n:Int) by lia];exact Ai (bareL_at' A0)) ?_))));refine xwf rfl rfl r.at'.hp T.cl_Grove T.na_Grove_parts (Cd g) (xwi rfl rfl rfl (SqL.of h3) (Ai et) ⟨t,rfl,⟨_,SqT.of ht⟩,?_⟩);refine MC (b:=true) (xs:=[.int (x 0:Int),.int (x 1:Int),.int (x 2:Int),.int (x 3:Int)]) (λj σ M=>AA H M/\(∃u3 u4 I D:Option V,σ=[some (.ref g.p),some (.int i),some (.int (bareN n:Int)),u3,u4,I,D])/\∀m d,m<j->m<4->d<4->d+m≠3->l m d=bareN n) ⟨AA.refl H,⟨none,none,none,none,rfl⟩,λm d h=>absurd h (F8 _)⟩ (λj σ M _ z=>SqT.of (z.1 _ _ ht)) ?_ ?_
  ·rintro j v σ M T' c ⟨Z,⟨u3,u4,I,D,rfl⟩,al⟩ nT;have hj:j<4:=(B6.mp c).1;have C:v=.int (x j:Int):=by
    match j,hj,c with
    |0,_,c=>cases c;rfl
    |1,_,c=>cases c;rfl
    |2,_,c=>cases c;rfl
    |3,_,c=>cases c;rfl
   subst C;obtain⟨qk,ad⟩:=dp.sub j hj;have R:=Z.trans (Ar (o:=.tup [.int j,.int (x j)]) nT);refine SX Af ?_;generalize upd M T' (.tup [.int j,.int (x j)])=H3 at R⊢;obtain⟨ag,t3,ab,aa,U⟩:=Ed (r.at'.same R) ad;refine xwf rfl rfl ((r.at'.same R).hp) T.cl_Grove T.na_Grove_parts (Cd g) (xwi rfl rfl rfl (SqL.of ab) (Ai aa) ⟨t3,rfl,⟨_,SqT.of U⟩,?_⟩);refine MC (b:=true) (xs:=[.int (l j 0:Int),.int (l j 1:Int),.int (l j 2:Int),.int (l j 3:Int)]) (λk σ O=>AA H3 O/\(∃I D:Option V,σ=[some (.ref g.p),some (.int i),some (.int (bareN n:Int)),some (.int j),some (.int (x j)),I,D])/\∀d,d<k->d<4->d+j≠3->l j d=bareN n) ⟨AA.refl H3,⟨_,_,rfl⟩,λd h=>absurd h (F8 _)⟩ (λk σ O _ z=>SqT.of (z.1 _ _ U)) ?_ ?_
   ·rintro k v σ O T2 c ⟨y,⟨I,D,rfl⟩,B⟩ ae;have X:k<4:=(B6.mp c).1;have C:v=.int (l j k:Int):=by
     match k,X,c with
     |0,_,c=>cases c;rfl
     |1,_,c=>cases c;rfl
     |2,_,c=>cases c;rfl
     |3,_,c=>cases c;rfl
    subst C;have s4:=y.trans (Ar (o:=.tup [.int k,.int (l j k)]) ae);refine SX Af ?_;generalize upd O T2 (.tup [.int k,.int (l j k)])=H5 at s4⊢;refine xw2 rfl rfl ⟨rfl,(xq1 rfl ?_)⟩;refine Ya (b2:=!decide (V.int (k:Int)=V.int (3-(j:Int)))) (λ_ Q' q=>(xw2 rfl rfl (xq2 rfl rfl ⟨rfl,(xq1 rfl q)⟩))) ?_;refine Fw (λS=>?_) (λS=>?_)
    ·refine k2 (λba=>?_) H5 (R.trans s4);rw[O6]at S;have c2:¬k+j=3:=λz=>by
      have:=S.2;rw[Z7 (show V.int (k:Int)=V.int (3-(j:Int)) by congr 1;lia)]at this;cases this
     have c1:=S.1;rw[ba j k hj X c2,Z7 rfl]at c1;cases c1
    ·refine⟨s4,⟨_,_,rfl⟩,λd N Y e=>?_⟩;rcases U2.mp N with h|h
     ·exact B d h Y e
     ·subst h;refine X4 λz=>S ?_;rw[Z8 (show ¬V.int (l j d:Int)=V.int (bareN n:Int) by intro q;injection q with q;exact z (X6 q)),Z8 (show ¬V.int (d:Int)=V.int (3-(j:Int)) by intro q;injection q with q;lia)];rfl
   ·rintro σ O ⟨y,⟨I,D,rfl⟩,B⟩;refine⟨R.trans y,⟨_,_,_,_,rfl⟩,λm d N Y e h4=>?_⟩;rcases U2.mp N with h|h
    ·exact al m d h Y e h4
    ·subst h;exact B d e e h4
  ·rintro σ M ⟨Z,⟨u3,u4,I,D,rfl⟩,al⟩;exact k1 (λm d N Y e=>al m d N N Y e) M Z
end
theorem Fj.lev{G:Gv}:∀{l f r:Nat},An G f (l:Int)->Fj G l f r->∃n,n+1<=l/\An G r ((n+1:Nat):Int)
 |0,_,_,_,h=>h.elim
 |1,f,r,hl,h=>by
  have h:r=f:=h;subst h;exact⟨0,C1 _,hl⟩
 |n+2,f,r,hl,h=>by
  apply Bh;intro b a;obtain⟨g,j,d,h⟩:=h;apply a;clear a b;rcases h with ⟨_,rfl⟩|⟨_,m,e,h⟩
  ·exact⟨n+1,C1 _,hl⟩
  ·obtain⟨k,i,c⟩:=Fj.lev (l:=n+1) ⟨_,e,by show(n:Int)+1=_;lia⟩ h;exact⟨k,by lia,c⟩
section
variable{P:Program}{w:World}{K:W.Frag}{mg:Str->Option Value}{base:Heap}{a:Ad}
inductive SpTrim(a:Ad)(vs:List V)(H:Hp)(Q:VK):Prop
 |mk (g:GA) (G:Gv) (f n:Nat) (_:vs=[.ref g.p,.int f]) (_:AX a H g G) (_:An G f ((n+1:Nat):Int)) (_:G.length<8800000) (_:∀(r:Nat)(G':Gv)(H':Hp),Fr g H H'->AX a H' g G'->AG G G' 48->Fj G' (n+1) f r->Q (.int r) H'):SpTrim a vs H Q
def MK(a:Ad):Sp:=λvs H Q _=>SpTrim a vs H Q
theorem ok_trim(F:Fun K "trimmed" "trimmed" MR f fd)(T:Top K mg a)(a9:Cb P w K mg base CX0 3 a.c_Grove "level_of" JF (Ma a))(bB:Cal P w K mg base CX0 1 "is_bare_around" JU (spBA a))(cD:Cal P w K mg base CX0 3 "middle_of" JU (Yq a)):AL P w K mg base CX0 4 f fd JU (MK a):=by
 refine F.ok Ly (λvs H Q E h=>?_) (λac A V s H vs Q E Y h=>?_)
 ·apply Bh;intro C e;obtain⟨g,G,o,n,rfl,_⟩:=h;apply e;clear e C;rfl
 ·apply Bh;intro C e;obtain⟨g,G,o,n,rfl,B,hl,few,k⟩:=h;obtain⟨q,eq,lq⟩:=id hl;apply e;clear e C;have ab:n+1<=48:=by have:=(B.ok.lev eq).2;lia
  refine⟨_,(Ab (AM (Ay Fe (AI (pv 0) a9 (rm Y) Aq (Aa (pv 1) Ae)) (BY rfl T.k_LEAST_LEVEL) (AD _)) (Ah Bw) AB) (Ab (Ao (i:=2) Ly.nd rfl (Or.inl rfl) (pv 1)) (Ab (Jt K8 (PW.pt (Js (Ay Nz (Aj Av (AC (pv 0) rfl) (pv 2) (λ_ _=>rfl)) (BY rfl T.k_LEAST_LEVEL) (AD _)) (Gk (CM (Aw bB (rm Y) rfl Aq (Aa (pv 0) (Aa (pv 2) Ae))))))) (Ah (Ao (i:=2) Ly.nd rfl (Or.inl rfl) (Aw cD (rm Y) rfl Aq (Aa (pv 0) (Aa (pv 2) Ae)))))) (Ah (As (pv 2)))))),?_⟩
  try dsimp only[cxK]
  refine xq1 rfl ⟨g.p,g.dx,(xq1 rfl ⟨B.at'.hp,DF g,(xq1 rfl ⟨g,G,o,q,rfl,B.at',eq,(xq2 rfl rfl (xq1 rfl ?_))⟩)⟩)⟩;rw[Z8 (by lia:¬q.lev<1)];refine Ba (xq1 rfl ?_);refine⟨λm σ I=>∃(j:Gv)(c:Nat),σ=[some (.ref g.p),some (.int o),some (.int c)]/\Fr g H I/\AX a I g j/\AG G j (n-m)/\m<=n/\An j c ((m+1:Nat):Int)/\∀(r:Nat)(d:Gv)(k:Nat),AG j d k->Fj d (m+1) c r->Fj d (n+1) o r,⟨n,G,o,rfl,Fr.refl g H,B,(AG.refl B.ok).mono A0,C1 _,hl,λ_ _ _ _ h=>h⟩,?_⟩;rintro m σ I U;apply Bh;intro C e;obtain⟨j,c,rfl,fr,b,go,mn,lc,Z⟩:=U;apply e;clear e C;have gf:=go.few;obtain⟨qc,ec,aa⟩:=id lc;refine xwf rfl rfl b.at'.hp T.cl_Grove T.na_Grove_levels (ED g) (xwi rfl rfl rfl (SqL.of b.at'.lv) (Ai (by rw[B8,ec];rfl)) (xq2 rfl rfl (xq1 rfl ?_)));cases m with
  |zero =>
   rw[Z8 (by lia:¬(1:Int)<qc.lev)];exact Ba (Ba (xq1 rfl (k c j I fr b (go.mono A0) (Z c j 0 (AG.refl b.ok) rfl))))
  |succ m =>
   rw[Z7 (by lia:(1:Int)<qc.lev)];obtain⟨M,N,D⟩:=deep_of b.ok lc;refine BL (xw2 rfl rfl ⟨g,j,c,m,M,N,rfl,b,D,by lia,λba H3 v=>⟨true,rfl,BL ?_⟩,λS H3 v=>⟨false,rfl,Ba ?_⟩⟩)
   ·refine⟨fun σ' X=>∃(x:Gv)(u:Nat),σ'=[some (.ref g.p),some (.int o),some (.int u)]/\Fr g H X/\AX a X g x/\AG G x (n-m)/\m<=n/\An x u ((m+1:Nat):Int)/\∀(r:Nat)(d:Gv)(k:Nat),AG x d k->Fj d (m+1) u r->Fj d (n+1) o r,fun σ' X z=>⟨m,by lia,z⟩,?_⟩;refine xw2 rfl rfl ⟨g,j,c,m,M,N,rfl,b.at'.same v,b.ok,D,by lia,by lia,λu x H4 y O l e4=>?_⟩;have R:=(b.same v).fr y O l;refine⟨x,u,rfl,fr.trans ((AA.fr v).trans y),R,(go.trans l).mono A0,by lia,⟨_,e4,by show(m:Int)+1=_;lia⟩,λr d k' t t5=>?_⟩;exact Z r d _ (l.trans t) ⟨M,N,D.app (l.trans t),.inr ⟨ba,u,t.get e4,t5⟩⟩
   ·exact xq1 rfl (k c j H3 (fr.trans (AA.fr v)) (b.same v) (go.mono A0) (Z c j 0 (AG.refl b.ok) ⟨M,N,D,.inl ⟨S,rfl⟩⟩))
def Np(G:Gv)(n f:Nat):Nat->Nat->Prop
 |0,w=>w=f
 |k+1,w=>∃u,Np G n f k u/\Wid G (n+k) u w
theorem Np.app{G b:Gv}{m n f:Nat}(go:AG G b m):∀{k w:Nat},Np G n f k w->Np b n f k w
 |0,_,h=>h
 |k+1,w,h=>by
  obtain⟨u,d,c⟩:=h;exact⟨u,Np.app go d,c.app go⟩
inductive SpWO(a:Ad)(vs:List V)(H:Hp)(Q:VK):Prop
 |mk (g:GA) (G:Gv) (f n:Nat) (t:Addr) (x y wd ht:Int) (_:vs=[.ref g.p,.int f,.ref t]) (_:AX a H g G) (_:An G f ((n+1:Nat):Int)) (_:n<=40) (_:H t=some (.tup [.int x,.int y,.int wd,.int ht])) (_:EF x y wd ht (2^40)) (_:G.length<8700000) (_:∀(k w:Nat)(G':Gv)(H':Hp),Fr g H H'->AX a H' g G'->AG G G' (5*k)->n+k<=40->Np G' n f k w->An G' w ((n+k+1:Nat):Int)->EF x y wd ht (2^(n+k))->(∀j,j<k->¬EF x y wd ht (2^(n+j)))->Q (.int w) H'):SpWO a vs H Q
def spWO(a:Ad):Sp:=λvs H Q _=>SpWO a vs H Q
theorem ok_wo(F:Fun K "widened_over" "widened_over" FG f fd)(T:Top K mg a)(aA:Cal P w K mg base CX0 1 "lies_within" PF Qa)(aD:Cal P w K mg base CX0 4 "reach_of" TV (Ij a))(bD:Cal P w K mg base CX0 4 "widened" JU (UQ a)):AL P w K mg base CX0 5 f fd Ee (spWO a):=by
 refine F.ok EU (λvs H Q E h=>?_) (λac A U s H vs Q E Y h=>?_)
 ·apply Bh;intro C b;obtain⟨g,G,o,n,t,x,y,B,ht,rfl,_⟩:=h;apply b;clear b C;rfl
 ·apply Bh;intro C b;obtain⟨g,G,o,n,t,x,y,B,M,rfl,N,hl,ab,ht,li,few,k⟩:=h;apply b;clear b C;refine⟨_,(Ab (Ao (i:=3) EU.nd rfl (Or.inl rfl) (pv 1)) (Ab (Jt K8 (Da (CM (Aw aA (rm Y) rfl Aq (Aa (pv 2) (Aa (Aw aD (rm Y) rfl Aq (Aa (pv 0) (Aa (pv 3) Ae))) Ae))))) (Ah (Ao (i:=3) EU.nd rfl (Or.inl rfl) (Aw bD (rm Y) rfl Aq (Aa (pv 0) (Aa (pv 3) Ae)))))) (Ah (As (pv 3))))),?_⟩
  try dsimp only[cxK]
  refine xq1 rfl ?_;refine⟨λm σ I=>∃(e:Gv)(c j:Nat),σ=[some (.ref g.p),some (.int o),some (.ref t),some (.int c)]/\Fr g H I/\AX a I g e/\AG G e (5*j)/\n+j+m=40/\An e c ((n+j+1:Nat):Int)/\Np e n o j c/\∀i,i<j->¬EF x y B M (2^(n+i)),⟨40-n,G,o,0,rfl,Fr.refl g H,N,AG.refl N.ok,by lia,hl,rfl,λi V=>absurd V (F8 _)⟩,?_⟩;rintro m σ I S;apply Bh;intro C b;obtain⟨e,c,j,rfl,fr,d,go,aa,O,wn,no⟩:=S;apply b;clear b C;have gf:=go.few;have R:=fr.tup N.at' ht;refine xq1 rfl (xq1 rfl (xq1 rfl ⟨g,e,c,n+j,rfl,d.at',O,by lia,t,x,y,B,M,_,rfl,R,_,rfl,?_⟩));by_cases q:EF x y B M (2^(n+j))
  ·rw[Z7 q];exact Ba (xq1 rfl (k j c e I fr d go A0 wn O q no))
  ·rw[Z8 q];have m0:m≠0:=λz=>by
    subst z;have:n+j=40:=by lia
    rw[this]at q;exact q li
   refine BL ⟨fun σ' X=>∃(r:Gv)(v D:Nat),σ'=[some (.ref g.p),some (.int o),some (.ref t),some (.int v)]/\Fr g H X/\AX a X g r/\AG G r (5*D)/\n+D+(m-1)=40/\An r v ((n+D+1:Nat):Int)/\Np r n o D v/\∀i,i<D->¬EF x y B M (2^(n+i)),fun σ' X z=>⟨m-1,by lia,z⟩,?_⟩;refine xw2 rfl rfl ⟨g,e,c,n+j,rfl,d,O,by lia,by lia,λv r H3 u Z l wi=>?_⟩;refine⟨r,v,j+1,rfl,fr.trans u,d.fr u Z l,(go.trans l).mono A0,by lia,?_,⟨c,wn.app l,wi⟩,λi V=>?_⟩
   ·have:=wi.lev;rw[show n+(j+1)+1=n+j+2 by lia];exact this
   ·rcases U2.mp V with h|h
    ·exact no i h
    ·rw[h];exact q
end
def st4(x y z w k j:Nat)(i:Nat):Nat:=if i=k then j else f4 x y z w i
def quad(l x y:Nat):Nat:=x/2^l+2*(y/2^l)
theorem BT{l x:Nat}(h:x<2^(l+1)):x/2^l<2:=by
 rw[W0 (U0 A3),S0,<-F4];exact h
theorem BO{l x y:Nat}(a:x<2^(l+1))(b:y<2^(l+1)):quad l x y<4:=by
 have d:=BT a;have c:=BT b;unfold quad;lia
theorem EQ(l:Nat):((2^l:Nat):Int)=(2:Int)^l:=J9 2 l
theorem quad_c(l x y:Nat):(x:Int)/2^l+2*((y:Int)/2^l)=((quad l x y:Nat):Int):=by
 unfold quad;rw[<-EQ,M7,O5,T0,T0];rfl
theorem mod_c(l x:Nat):(x:Int)%2^l=((x%2^l:Nat):Int):=by rw[<-EQ,Int.natCast_emod]
theorem set4(x y z w j:Nat){k:Nat}(a:k<4):([V.int (x:Int),V.int (y:Int),V.int (z:Int),V.int (w:Int)].set k (.int j))=[V.int (st4 x y z w k j 0:Int),V.int (st4 x y z w k j 1:Int),V.int (st4 x y z w k j 2:Int),V.int (st4 x y z w k j 3:Int)]:=by
 match k,a with
 |0,_=>rfl
 |1,_=>rfl
 |2,_=>rfl
 |3,_=>rfl
def Rep(G:Gv)(s:Nat):Nat->Nat->Nat->Nat->Nat->Prop
 |0,_,_,_,r=>r=s
 |l+1,i,x,y,r=>∃(q:Sq)(a b c d j:Nat),GU G l i q a b c d/\Rep G s l (f4 a b c d (quad l x y)) (x%2^l) (y%2^l) j/\G[r]?=some ⟨[(st4 a b c d (quad l x y) j 0:Int),(st4 a b c d (quad l x y) j 1:Int),(st4 a b c d (quad l x y) j 2:Int),(st4 a b c d (quad l x y) j 3:Int)],(l:Int)+1⟩
theorem Rep.app{G f:Gv}{m s:Nat}(go:AG G f m):∀{l i x y r:Nat},Rep G s l i x y r->Rep f s l i x y r
 |0,_,_,_,_,h=>h
 |l+1,i,x,y,r,h=>by
  obtain⟨q,a,b,c,d,j,g,k,e⟩:=h;exact⟨q,a,b,c,d,j,g.app go,Rep.app go k,go.get e⟩
theorem Rep.lev{G:Gv}(ok:GOk G){s:Nat}(f:s<8):∀{l i x y r:Nat},Rep G s l i x y r->An G r (l:Int)
 |0,_,_,_,r,h=>by
  have h:r=s:=h;subst h;exact⟨_,ok.leaf r f,rfl⟩
 |l+1,_,_,_,_,h=>by
  obtain⟨q,a,b,c,d,j,g,k,e⟩:=h;exact⟨_,e,by show(l:Int)+1=_;lia⟩
section
variable{P:Program}{w:World}{K:W.Frag}{mg:Str->Option Value}{base:Heap}{a:Ad}
inductive SpRep(a:Ad)(n:Nat)(vs:List V)(H:Hp)(Q:VK):Prop
 |mk (g:GA) (G:Gv) (i l x y s:Nat) (_:vs=[.ref g.p,.int i,.int x,.int y,.int s]) (_:AN a H g G) (_:GOk G) (_:An G i (l:Int)) (_:l<n) (_:x<2^l) (_:y<2^l) (_:s<8) (_:G.length+l<8900000) (_:∀(r:Nat)(G':Gv)(H':Hp),Fr g H H'->AN a H' g G'->AG G G' l->Rep G' s l i x y r->Q (.int r) H'):SpRep a n vs H Q
def UR(a:Ad)(n:Nat):Sp:=λvs H Q _=>SpRep a n vs H Q
theorem YW(F:Fun K "replaced" "replaced" LA f fd)(T:Top K mg a)(hm:mg "replaced" = some (.ref f))(Bi:Cv K fd FR [])(aR:Cb P w K mg base CX0 3 a.c_Grove "leaf" Ro (QO a))(a8:Cb P w K mg base CX0 2 a.c_Grove "linked" AW (DS a)):∀n,AL P w K mg base CX0 (n+4) f fd FR (UR a n)
 |0=>by
  refine F.ok DI (λvs H Q E h=>?_) (λai A N s H vs Q E Y h=>?_)
  ·obtain⟨g,G,i,l,x,y,s,rfl,_,_,_,h0,_⟩:=h;exact absurd h0 (F8 _)
  ·obtain⟨g,G,i,l,x,y,s,rfl,_,_,_,h0,_⟩:=h;exact absurd h0 (F8 _)
 |n+1=>by
  have bG:Cal P w K mg base CX0 (n+4) "replaced" FR (UR a n):=⟨f,fd,YW F T hm Bi aR a8 n,hm,F.kp,Bi⟩
  refine F.ok DI (λvs H Q E h=>?_) (λai A N s H vs Q E Y h=>?_)
  ·obtain⟨g,G,i,l,x,y,s,rfl,_⟩:=h;rfl
  ·obtain⟨g,G,i,l,x,y,st,rfl,C,ok,hl,ln,hx,hy,s8,few,k⟩:=h;obtain⟨q0,e0,l0⟩:=id hl;refine⟨_,(Ab (Ao (i:=5) DI.nd rfl (Or.inl rfl) (Aj Av (AC (pv 0) rfl) (pv 1) (λ_ _=>rfl))) (Ab (AM (Ay CQ (pv 5) Ac (AD _)) (Ah (As (AI (pv 0) aR (rm Y) Aq (Aa (pv 4) Ae)))) AB) (Ab (Ao (i:=6) DI.nd rfl (Or.inl rfl) (AE MY Ac (AE AS (pv 5) Ac))) (Ab (Ao (i:=7) DI.nd rfl (Or.inl rfl) (Bp RE rfl T.b_list PyProof.Rows.boot_list (Aa (Aj Av (AC (pv 0) rfl) (pv 1) (λ_ _=>rfl)) Ae))) (Ab (Ao (i:=8) DI.nd rfl (Or.inl rfl) (AE Bb (AE Mt (pv 2) (pv 6)) (AE EB Ac (AE Mt (pv 3) (pv 6))))) (Ab (YI (Aw bG (rm Y) rfl Aq (Aa (pv 0) (Aa (Aj Av (pv 7) (pv 8) (λ_ _=>rfl)) (AV BH (pv 2) (pv 6) (AV BH (pv 3) (pv 6) (Aa (pv 4) Ae)))))) (YM (pv 7) (pv 8) Si)) (Ah (As (AI (pv 0) a8 (rm Y) Aq (Aa (Bp BJ rfl T.b_tuple K9 (Aa (pv 7) Ae)) Ae)))))))))),?_⟩
   try dsimp only[cxK]
   refine⟨_,rfl,g.p,_,g.dx,_,_,rfl,C.hp,T.cl_Grove,T.na_Grove_levels,ED g,_,rfl,g.lv,_,(i:Int),.int q0.lev,rfl,rfl,SqL.of C.lv,Ai (by rw[B8,e0];rfl),?_⟩;cases l with
   |zero =>
    rw[l0];exact xq1 rfl ⟨rfl,(xq1 rfl (BL (xwn rfl rfl C.hp (Vk g) rfl ⟨g.p,(st:Int),rfl,by lia,by lia,k st G H (Fr.refl g H) C (AG.refl ok) rfl⟩)))⟩
   |succ l =>
    have ah:q0.lev=(l:Int)+1:=by rw[l0];lia
    have aj:=(ok.lev e0).2;have D:=pow2_lt (l:=l) A0;have v:=NX l;obtain⟨q,c,u,m,d,B⟩:=BB ok hl;obtain⟨ts,t,h3,et,ht⟩:=Ed C B;refine xq1 rfl ⟨rfl,(xq1 rfl ?_)⟩;rw[Z8 (by intro z;injection z with z;lia)];refine Ba (xwb rfl rfl rfl (xq2 rfl rfl ⟨⟨by lia,by lia,by decide⟩,?_⟩));rw[show(λ(i j:Int)=>V.int (i*2^j.toNat)) 1 (q0.lev-1)=V.int (2^l)from K5 V.int (QH l ah)];refine xwf rfl rfl C.hp T.cl_Grove T.na_Grove_parts (Cd g) (xwi rfl rfl rfl (SqL.of h3) (Ai et) ⟨t,(xq1 rfl ⟨.inr (SqT.of ht),λL hL=>?_⟩)⟩);have aL:Ap g L:=Ap.new C hL;have s1:=Ar (o:=.lst [.int c,.int u,.int m,.int d]) hL;have I:upd H L (.lst [.int c,.int u,.int m,.int d]) L=some (.lst [.int c,.int u,.int m,.int d]):=Af;generalize upd H L (.lst [.int c,.int u,.int m,.int d])=H1 at s1 I⊢;have ad:=C.same s1;have X:=BO hx hy;refine xw2 rfl rfl (xq2 rfl rfl ⟨⟨v,D⟩,(xw2 rfl rfl (xq2 rfl rfl ⟨⟨v,D⟩,(xq2 rfl rfl ⟨.inl ⟨by decide,by decide⟩,(xq2 rfl rfl ?_)⟩)⟩))⟩);rw[show(λ(i j:Int)=>V.int (i+j)) ((x:Int)/2^l) (2*((y:Int)/2^l))=V.int ((quad l x y:Nat):Int)from K5 V.int (quad_c l x y)];have ae:[V.int (c:Int),V.int (u:Int),V.int (m:Int),V.int (d:Int)][quad l x y]?=some (.int (f4 c u m d (quad l x y):Int)):=by
     generalize quad l x y=kk at X⊢
     match kk,X with
     |0,_=>rfl
     |1,_=>rfl
     |2,_=>rfl
     |3,_=>rfl
    have ac:An G (f4 c u m d (quad l x y)) (l:Int):=(B.nat X).2;refine xw3 rfl rfl rfl (xq4 rfl rfl (SqL.of I) (Ai ae) (xw2 rfl rfl (xq2 rfl rfl ⟨v,(xw2 rfl rfl (xq2 rfl rfl ⟨v,(xq1 rfl ?_)⟩))⟩)));refine⟨g,G,f4 c u m d (quad l x y),l,x%2^l,y%2^l,st,by rw[<-mod_c,<-mod_c];rfl,ad,ok,ac,by lia,D9 _ (U0 A3),D9 _ (U0 A3),s8,by lia,λj G1 H2 fr ag go rp=>?_⟩;have gf:=go.few;have U:=fr.get aL I;refine xw2 rfl rfl ⟨L,_,((quad l x y:Nat):Int),quad l x y,rfl,rfl,U,by unfold ixN;rw[Z9 A0,Z9 (by show((quad l x y:Nat):Int)<((4:Nat):Int);lia),L7],?_⟩;rw[set4 c u m d j X];have O:=ag.put (o:=.lst [V.int (st4 c u m d (quad l x y) j 0:Int),V.int (st4 c u m d (quad l x y) j 1:Int),V.int (st4 c u m d (quad l x y) j 2:Int),V.int (st4 c u m d (quad l x y) j 3:Int)]) U aL.1 aL.2.1;have S:upd H2 L (.lst [V.int (st4 c u m d (quad l x y) j 0:Int),V.int (st4 c u m d (quad l x y) j 1:Int),V.int (st4 c u m d (quad l x y) j 2:Int),V.int (st4 c u m d (quad l x y) j 3:Int)]) L=some (.lst [V.int (st4 c u m d (quad l x y) j 0:Int),V.int (st4 c u m d (quad l x y) j 1:Int),V.int (st4 c u m d (quad l x y) j 2:Int),V.int (st4 c u m d (quad l x y) j 3:Int)]):=Af;have R:Fr g H (upd H2 L (.lst [V.int (st4 c u m d (quad l x y) j 0:Int),V.int (st4 c u m d (quad l x y) j 1:Int),V.int (st4 c u m d (quad l x y) j 2:Int),V.int (st4 c u m d (quad l x y) j 3:Int)])):=λb o e m1 m2 m3=>by
     rw[Ax (Az e hL)];exact fr _ _ (s1 _ _ e) m1 m2 m3
    generalize upd H2 L (.lst [V.int (st4 c u m d (quad l x y) j 0:Int),V.int (st4 c u m d (quad l x y) j 1:Int),V.int (st4 c u m d (quad l x y) j 2:Int),V.int (st4 c u m d (quad l x y) j 3:Int)])=H3 at O S R⊢;refine xwn rfl rfl O.hp (BR g) rfl ⟨L,(xq1 rfl (.inl ⟨SqL.of S,λt4 af=>?_⟩))⟩;have s4:=Ar (o:=.tup [V.int (st4 c u m d (quad l x y) j 0:Int),V.int (st4 c u m d (quad l x y) j 1:Int),V.int (st4 c u m d (quad l x y) j 2:Int),V.int (st4 c u m d (quad l x y) j 3:Int)]) af;have Z:=B.app go;have lj:=rp.lev go.ok s8;have lst:∀ii,ii<4->An G1 (st4 c u m d (quad l x y) j ii) (l:Int):=λii hi=>by
     unfold st4;split
     ·exact lj
     ·exact(Z.nat hi).2
    refine⟨g,G1,t4,_,_,_,_,(l:Int),rfl,O.same s4,go.ok,Af,⟨lst 0 A3,lst 1 A3,lst 2 A3,lst 3 A3⟩,by lia,by lia,λr G2 H4 aa ab M e4=>?_⟩;exact k r G2 H4 (R.trans ((AA.fr s4).trans aa)) ab (go.trans M) ⟨q,c,u,m,d,j,B.app (go.trans M),rp.app M,e4⟩
structure Li(G:Gv)(n f:Nat)(x y:Int)(s r:Nat)(k w i:Nat):Prop where
 le:n+k<=40
 wid:Np G n f k w
 lw:An G w ((n+k+1:Nat):Int)
 li:EF x y 1 1 (2^(n+k))
 no:∀j,j<k->¬EF x y 1 1 (2^(n+j))
 rep:Rep G s (n+k+1) w (x+2^(n+k)).toNat (y+2^(n+k)).toNat i
 tr:Fj G (n+k+1) i r
theorem Vr{x y:Int}{m:Nat}(h:EF x y 1 1 (2^m)):(x+2^m).toNat<2^(m+1)/\(y+2^m).toNat<2^(m+1)/\0<=x+2^m/\0<=y+2^m:=by
 obtain⟨d,b,c,f⟩:=h;have e:=EQ (m+1);rw[Cg]at e;have p:=NX m;refine⟨?_,?_,by lia,by lia⟩<;>lia
inductive VO(a:Ad)(vs:List V)(H:Hp)(Q:VK):Prop
 |mk (g:GA) (G:Gv) (f n:Nat) (x y:Int) (s:Nat) (_:vs=[.ref g.p,.int f,.int x,.int y,.int s]) (_:AX a H g G) (_:An G f ((n+1:Nat):Int)) (_:n<=40) (_:EF x y 1 1 (2^40)) (_:s<8) (_:G.length<8000000) (_:∀(r k w i:Nat)(G':Gv)(H':Hp),Fr g H H'->AX a H' g G'->AG G G' 400->Li G' n f x y s r k w i->Q (.int r) H'):VO a vs H Q
def QM(a:Ad):Sp:=λvs H Q _=>VO a vs H Q
theorem YZ(F:Fun K "planted" "planted" MS f fd)(T:Top K mg a)(aA:Cal P w K mg base CX0 1 "lies_within" PF Qa)(bA:Cal P w K mg base CX0 2 "is_state" TX spIS)(aD:Cal P w K mg base CX0 4 "reach_of" TV (Ij a))(aQ:Cal P w K mg base CX0 5 "widened_over" Ee (spWO a))
  (bG:Cal P w K mg base CX0 54 "replaced" FR (UR a 50)) (aP:Cal P w K mg base CX0 4 "trimmed" JU (MK a)):AL P w K mg base CX0 55 f fd MX (QM a):=by
  refine F.ok Il (λ_ _ _ _ h=>by rcases h;subst_vars;rfl) λaa A N s H vs Q E l h=>?_
  obtain⟨g,G,f',n,x,y,X,rfl,fu,hl,I,V,s8,few,k⟩:=h;refine⟨_,(Ab (Ao (i:=5) Il.nd rfl (Or.inl rfl) (Bk (Aa (pv 2) (Aa (pv 3) (AR (AR Ae)))))) (Ab (AM (Da (CM (Aw aA (rm l) rfl Aq (Aa (pv 5) (Aa (BY rfl T.k_LIMIT) Ae))))) (Ah Bw) AB) (Ab (AM (Da (CM (Aw bA (rm l) rfl Aq (Aa (pv 4) Ae)))) (Ah Bw) AB) (Ab (Ao (i:=6) Il.nd rfl (Or.inl rfl) (Aw aQ (rm l) rfl Aq (Aa (pv 0) (Aa (pv 1) (Aa (pv 5) Ae))))) (Ab (Ao (i:=7) Il.nd rfl (Or.inl rfl) (Aw aD (rm l) rfl Aq (Aa (pv 0) (Aa (pv 6) Ae)))) (Ah (As (Aw aP (rm l) rfl Aq (Aa (pv 0) (Aa (Aw bG (rm l) rfl Aq (Aa (pv 0) (Aa (pv 6) (AV Bb (pv 2) (pv 7) (AV Bb (pv 3) (pv 7) (Aa (pv 4) Ae)))))) Ae)))))))))),?_⟩
  try dsimp only[cxK]
  refine xw2 rfl rfl ⟨(by show 4<=sizeLine;decide),λt ht=>?_⟩;have D:=Ar (o:=.tup [.int x,.int y,.int 1,.int 1]) ht;have e:upd H t (.tup [.int x,.int y,.int 1,.int 1]) t=some (.tup [.int x,.int y,.int 1,.int 1]):=Af;generalize upd H t (.tup [.int x,.int y,.int 1,.int 1])=H1 at D e⊢;have S:=fu.same D;refine xq1 rfl ⟨t,x,y,1,1,_,rfl,e,_,rfl,?_⟩;rw[Z7 (show EF x y 1 1 1099511627776 from V)];refine Ba (xq1 rfl ⟨(X:Int),rfl,by lia,by lia,true,rfl,Ba ?_⟩);refine xw3 rfl rfl rfl ⟨g,G,f',n,t,x,y,1,1,rfl,S,hl,I,e,V,by lia,λj R U H2 v c q le wn C lf no=>?_⟩;have ac:=q.few;refine xw2 rfl rfl ⟨g,U,R,n+j,rfl,c.at',C,by lia,?_⟩;obtain⟨b1,b2,b3,b4⟩:=Vr lf;refine xw3 rfl rfl rfl (xw2 rfl rfl (xq2 rfl rfl (xw2 rfl rfl (xq2 rfl rfl (xq1 rfl ?_)))));refine⟨g,U,R,n+j+1,(x+2^(n+j)).toNat,(y+2^(n+j)).toNat,X,by rw[O8 b3,O8 b4];rfl,c.at',c.ok,C,by lia,b1,b2,s8,by lia,λZ G2 H3 m O d Y=>?_⟩;have ab:=d.few;have B:=c.fr m O d;have M:=Y.lev d.ok s8;refine⟨g,G2,Z,n+j,rfl,B,M,by lia,λr G3 H4 u z p tr=>?_⟩;have b:=d.trans p;exact k r j R Z G3 H4 ((AA.fr D).trans (v.trans (m.trans u))) z ((q.trans b).mono A0) ⟨le,wn.app b,b.lev C,lf,no,Y.app p,tr⟩
end
structure Cl where
 x:Int
 y:Int
 s:Nat
def Pp(H:Hp)(t:Addr)(c:Cl):Prop:=H t=some (.tup [.int c.x,.int c.y,.int c.s])
structure ClOk(c:Cl):Prop where
 li:EF c.x c.y 1 1 (2^40)
 s:c.s<8
theorem Li.app{G a:Gv}{m n f:Nat}{x y:Int}{s r k w i:Nat}(go:AG G a m)(h:Li G n f x y s r k w i):Li a n f x y s r k w i:=⟨h.le,h.wid.app go,go.lev h.lw,h.li,h.no,h.rep.app go,h.tr.app go⟩
inductive RP(G:Gv):List Cl->Nat->Nat->Prop
 |nil:RP G [] 0 (bareN 1)
 |cons {cs:List Cl} {c:Cl} {n f r k w i m:Nat} (h:RP G cs n f) (l:An G f ((n+1:Nat):Int)) (p:Li G n f c.x c.y c.s r k w i) (l':An G r ((m+1:Nat):Int)):RP G (c::cs) m r
theorem RP.app{G a:Gv}{m:Nat}(go:AG G a m){cs:List Cl}{n f:Nat}(h:RP G cs n f):RP a cs n f:=by
 induction h with
 |nil=>exact .nil
 |cons _ l p b c=>exact .cons c (go.lev l) (p.app go) (go.lev b)
section
variable{P:Program}{w:World}{K:W.Frag}{mg:Str->Option Value}{base:Heap}{a:Ad}
inductive SpFld(a:Ad)(vs:List V)(H:Hp)(Q:VK):Prop
 |mk (g:GA) (G:Gv) (L:Addr) (ts:List Addr) (cs:List Cl) (_:vs=[.ref g.p,.ref L]) (_:AX a H g G) (_:H L=some (.lst (ts.map V.ref))) (_:L≠g.lv) (_:L≠g.pt) (_:Paired (Pp H) ts cs) (_:(∀c∈cs,ClOk c)) (_:G.length+400*cs.length<8000000) (_:∀(f n:Nat)(G':Gv)(H':Hp),Fr g H H'->AX a H' g G'->AG G G' (400*cs.length)->n<=40->An G' f ((n+1:Nat):Int)->RP G' cs.reverse n f->Q (.int f) H'):SpFld a vs H Q
def Yw(a:Ad):Sp:=λvs H Q _=>SpFld a vs H Q
theorem ok_fld(F:Fun K "field_of" "field_of" LG f fd)(T:Top K mg a)(aV:Cal P w K mg base CX0 1 "bare_field" Rj (NT a))(cL:Cal P w K mg base CX0 55 "planted" MX (QM a)):AL P w K mg base CX0 56 f fd LM (Yw a):=by
  refine F.ok Gh (λ_ _ _ _ h=>by rcases h;subst_vars;rfl) λaa A R s H vs Q E hr h=>?_
  obtain⟨g,G,L,ts,cs,rfl,u,S,n1,n2,pr,U,few,k⟩:=h;obtain⟨r0,e0⟩:=u.g0;have N:=A0a pr;refine⟨_,(Ab (Ao (i:=2) Gh.nd rfl (Or.inl rfl) (Aw aV (rm hr) rfl Aq (Aa (pv 0) Ae))) (Ab (DA K8 rfl (CO (pv 1)) (BQ (i:=3) Gh.nd rfl (Or.inl rfl)) (Ah (Ao (i:=2) Gh.nd rfl (Or.inl rfl) (Aw cL (rm hr) rfl Aq (Aa (pv 0) (Aa (pv 2) (Aa (Aj Ak (pv 3) Ac (λ_ _=>rfl)) (Aa (Aj Ak (pv 3) Ac (λ_ _=>rfl)) (Aa (Aj Ak (pv 3) Ac (λ_ _=>rfl)) Ae))))))))) (Ah (As (pv 2))))),?_⟩
  try dsimp only[cxK]
  refine xq1 rfl ⟨g,G,rfl,u,?_⟩;refine xq1 rfl ⟨L,rfl,⟨_,SqL.of S⟩,?_⟩;refine ZT (xs:=ts.map V.ref) (λj σ z=>∃(b:Gv)(f n:Nat)(Y:Option V),σ=[some (.ref g.p),some (.ref L),some (.int f),Y]/\Fr g H z/\AX a z g b/\AG G b (400*j)/\n<=40/\An b f ((n+1:Nat):Int)/\RP b (cs.take j).reverse n f) ⟨G,bareN 1,0,none,rfl,Fr.refl g H,u,AG.refl u.ok,by lia,El e0 A0,.nil⟩ (λj σ z _ ⟨_,_,_,_,_,fr,_⟩=>SqL.of (fr _ _ S n1 n2 (AH S u.at'.nm A4))) ?_ ?_
  ·rintro j v σ z ev ⟨b,I,n,Y,rfl,fr,d,go,e,D,B⟩;rw[B8]at ev;obtain⟨t,et,rfl⟩:=D8.mp ev;obtain⟨c,X,hc⟩:=PairedM.getL pr et;have q:=U c (D7 X);have hj:j<cs.length:=(B6.mp X).1;have l:=fr.tup u.at' hc;have gf:=go.few;refine xw3 rfl rfl rfl (xq4 rfl rfl (SqT.of l) (Ai (j:=0) rfl) (xwi rfl rfl rfl (SqT.of l) (Ai (j:=1) rfl) (xwi rfl rfl rfl (SqT.of l) (Ai (j:=2) rfl) ?_)));refine⟨g,b,I,n,c.x,c.y,c.s,rfl,d,D,e,q.li,q.s,by lia,λr kk w' i' G2 H3 M C o pl=>?_⟩;have O:=pl.rep.lev C.ok q.s;obtain⟨m,lm,Z⟩:=Fj.lev O pl.tr;have le:=pl.le;refine⟨G2,r,m,(xq1 rfl ⟨fr.trans M,C,(go.trans o).mono A0,by lia,Z,?_⟩)⟩;rw[L6,X,S4,List.reverse_append];exact .cons (B.app o) (o.lev D) pl Z
  ·rintro σ z ⟨b,I,n,Y,rfl,fr,d,go,e,D,B⟩;rw[B5,N]at go B;rw[M4]at B;exact xq1 rfl (k I n b z fr d go e D B)
end
def Ji(G:Gv)(n f:Nat):Prop:=n=0\/∃m qs ps,n=m+1/\NQ G m f qs ps/\¬BA m ps
theorem Ji.app{G a:Gv}{k n f:Nat}(go:AG G a k)(h:Ji G n f):Ji a n f:=by
 rcases h with h|⟨m,c,g,e,d,b⟩
 ·exact .inl h
 ·exact .inr ⟨m,c,g,e,d.app go,b⟩
end J
namespace J
open PySem L2
def Ct(G:Gv):Nat->Nat->Nat->Nat->Nat
 |0,i,_,_=>i
 |n+1,i,x,y=>match G[i]? with
  |some q=>Ct G n (q.parts.getD (quad n x y) 0).toNat (x%2^n) (y%2^n)
  |none=>0
theorem AK(n:Nat):0<2^n:=U0 A3
theorem BD{G:Gv}{n i:Nat}{q:Sq}{a b c d:Nat}(h:GU G n i q a b c d){x y:Nat}(f:x<2^(n+1))(e:y<2^(n+1)):Ct G (n+1) i x y=Ct G n (f4 a b c d (quad n x y)) (x%2^n) (y%2^n):=by
 rw[show Ct G (n+1) i x y=(match G[i]? with|some q=>Ct G n (q.parts.getD (quad n x y) 0).toNat (x%2^n) (y%2^n)|none=>0)from rfl,h.g];show Ct G n (q.parts.getD (quad n x y) 0).toNat _ _=_;have:=(h.nat (BO f e)).1;rw[F1,this];rfl
theorem JK{G f:Gv}{k:Nat}(ok:GOk G)(go:AG G f k):∀{n i x y:Nat},An G i (n:Int)->x<2^n->y<2^n->Ct f n i x y=Ct G n i x y
 |0,_,_,_,_,_,_=>rfl
 |n+1,i,x,y,h,hx,hy=>by
  obtain⟨q,a,b,c,d,e⟩:=BB ok h;rw[BD e hx hy,BD (e.app go) hx hy];exact JK ok go (e.nat (BO hx hy)).2 (D9 _ (AK n)) (D9 _ (AK n))
theorem Dm{G r:Gv}(e:G=G0++r)(ok:GOk G):∀{n x y:Nat},n<=48->x<2^n->y<2^n->Ct G n (bareN n) x y=0
 |0,_,_,_,_,_=>rfl
 |n+1,x,y,hn,hx,hy=>by
  obtain⟨q,a,b,c,d,f⟩:=BB ok (El e (n:=n+1) hn);have h:a=bareN n/\b=bareN n/\c=bareN n/\d=bareN n:=by
   have g:=f.g;rw[show bareN (n+1)=8+n from rfl,ZP e n A0]at g;cases g;have s:[(bareN n:Int),(bareN n:Int),(bareN n:Int),(bareN n:Int)]=[(a:Int),(b:Int),(c:Int),(d:Int)]:=f.ps;injection s with s0 s
   injection s with s1 s
   injection s with s2 s
   injection s with s3 s
   exact⟨(X6 s0).symm,(X6 s1).symm,(X6 s2).symm,(X6 s3).symm⟩
  obtain⟨rfl,rfl,rfl,rfl⟩:=h;rw[BD f hx hy];have:f4 (bareN n) (bareN n) (bareN n) (bareN n) (quad n x y)=bareN n:=by unfold f4;split<;>rfl
  rw[this];exact Dm e ok A0 (D9 _ (AK n)) (D9 _ (AK n))
theorem EC{n k x y:Nat}(c:k<4)(b:x<2^n)(a:y<2^n):(x+2^n*(k%2))<2^(n+1)/\(y+2^n*(k/2))<2^(n+1)/\quad n (x+2^n*(k%2)) (y+2^n*(k/2))=k/\(x+2^n*(k%2))%2^n=x/\(y+2^n*(k/2))%2^n=y:=by
 have p:=AK n;have e:2^(n+1)=2*2^n:=by rw[F4];lia
 unfold quad;rw[P1 _ _ p,P1 _ _ p,P9,P9,N8 b,N8 a,N3 b,N3 a,e];generalize 2^n=h at *
 match k,c with
 |0,_=>exact⟨by lia,by lia,rfl,rfl,rfl⟩
 |1,_=>exact⟨by lia,by lia,rfl,rfl,rfl⟩
 |2,_=>exact⟨by lia,by lia,rfl,rfl,rfl⟩
 |3,_=>exact⟨by lia,by lia,rfl,rfl,rfl⟩
theorem Le{G:Gv}(ok:GOk G):∀{n i j:Nat},An G i (n:Int)->An G j (n:Int)->(∀x y,x<2^n->y<2^n->Ct G n i x y=Ct G n j x y)->i=j
 |0,i,j,_,_,h=>h 0 0 A3 A3
 |n+1,i,j,hi,hj,h=>by
  obtain⟨q,a,b,c,d,l⟩:=BB ok hi;obtain⟨B,r,s,t,d',f⟩:=BB ok hj;have e:∀k,k<4->f4 a b c d k=f4 r s t d' k:=λk o=>by
   refine Le ok (l.nat o).2 (f.nat o).2 λx y z u=>?_;obtain⟨m,p,w,A,v⟩:=EC o z u;have:=h _ _ m p;rw[BD l m p,BD f m p,w,A,v]at this;exact this
  have k0:a=r:=e 0 A3;have k1:b=s:=e 1 A3;have k2:c=t:=e 2 A3;have k3:d=d':=e 3 A3;subst k0 k1 k2 k3;exact ok.one l.g f.g (l.ps.trans f.ps.symm)
theorem Sf{n x X:Nat}(b:x/2^n=X/2^n)(a:x%2^n=X%2^n):x=X:=by
 rw[<-N4 x (2^n),<-N4 X (2^n),b,a]
theorem Sr{G:Gv}(ok:GOk G){s:Nat}(t:s<8):∀{n i X Y r x y:Nat},X<2^n->Y<2^n->x<2^n->y<2^n->Rep G s n i X Y r->Ct G n r x y=if x=X/\y=Y then s else Ct G n i x y
 |0,i,X,Y,r,x,y,hX,hY,hx,hy,h=>by
  have h:r=s:=h;have H:X=0:=W3.mp hX;have M:Y=0:=W3.mp hY;have u:x=0:=W3.mp hx;have K:y=0:=W3.mp hy;subst H M u K h;rfl
 |n+1,i,X,Y,r,x,y,hX,hY,hx,hy,h=>by
  obtain⟨q,a,b,c,d,j,o,p,e⟩:=h;have w:=p.lev ok t;have lst:∀k,k<4->An G (st4 a b c d (quad n X Y) j k) (n:Int):=λk I=>by
   unfold st4;split
   ·exact w
   ·exact(o.nat I).2
  have v:GU G n r _ (st4 a b c d (quad n X Y) j 0) (st4 a b c d (quad n X Y) j 1) (st4 a b c d (quad n X Y) j 2) (st4 a b c d (quad n X Y) j 3):=⟨e,rfl,rfl,lst 0 A3,lst 1 A3,lst 2 A3,lst 3 A3⟩
  have E:=BO hx hy;rw[BD v hx hy,BD o hx hy,JH (st4 a b c d (quad n X Y) j) E];have m:=AK n;have P:=BT hx;have S:=BT hy;have R:=BT hX;have Q:=BT hY;unfold st4;by_cases g:quad n x y=quad n X Y
  ·rw[Z9 g,Sr ok t (D9 _ m) (D9 _ m) (D9 _ m) (D9 _ m) p,g];have l:x/2^n=X/2^n/\y/2^n=Y/2^n:=by
    unfold quad at g;generalize x/2^n=A at *
    generalize X/2^n=B at *
    generalize y/2^n=C at *
    generalize Y/2^n=D at *
    lia
   obtain⟨N,O⟩:=l;by_cases f:x=X/\y=Y
   ·rw[Z9 f,Z9 ⟨by rw[f.1],by rw[f.2]⟩]
   ·rw[Z6 f,Z6 λz=>f ⟨Sf N z.1,Sf O z.2⟩]
  ·rw[Z6 g,Z6 λz=>g (by rw[z.1,z.2])]
def fieldF(G:Gv)(n f:Nat)(x y:Int):Nat:=if -(2^n)<=x/\x<2^n/\-(2^n)<=y/\y<2^n then Ct G (n+1) f (x+2^n).toNat (y+2^n).toNat else 0
theorem Fb{n:Nat}{x:Int}(a:-(2^n)<=x)(b:x<2^n):(x+2^n).toNat<2^(n+1):=by
 have e:=EQ (n+1);rw[Cg]at e;lia
theorem DO{G a:Gv}{k n f:Nat}(ok:GOk G)(go:AG G a k)(h:An G f ((n+1:Nat):Int))(x y:Int):fieldF a n f x y=fieldF G n f x y:=by
 unfold fieldF;split
 ·rename_i z;exact JK ok go h (Fb z.1 z.2.1) (Fb z.2.2.1 z.2.2.2)
 ·rfl
theorem Rt{h X:Nat}(u:Nat)(b:h*u<=X)(a:X<h*(u+1)):X/h=u/\X%h=X-h*u:=by
 have e:X/h=u:=Nat.div_eq_of_lt_le (by rw[S0];exact b) (by rw[S0];exact a);exact⟨e,by have:=N4 X h;rw[e]at this;lia⟩
theorem Ej(x n:Nat):x%2^(n+1)%2^n=x%2^n:=Nat.mod_mod_of_dvd x ⟨2,by rw[F4]⟩
theorem Nk{G:Gv}{n i:Nat}{e:Nat->Nat}{c:Nat->Nat->Nat}(h:NQ G n i e c){x y:Nat}(f:x<2^(n+2))(d:y<2^(n+2)):Ct G (n+2) i x y=Ct G n (c (quad (n+1) x y) (quad n (x%2^(n+1)) (y%2^(n+1)))) (x%2^n) (y%2^n):=by
 obtain⟨q,j⟩:=h.node;have g:=BO (l:=n+1) f d;have b:x%2^(n+1)<2^(n+1):=D9 _ (AK _);have a:y%2^(n+1)<2^(n+1):=D9 _ (AK _);obtain⟨k,nk⟩:=h.sub _ g;rw[BD j f d,JH e g,BD nk b a,JH (c _) (BO b a),Ej,Ej]
theorem bits{h u:Nat}(e:u<2*h):(u+h)/(2*h)=u/h/\(u+h)%(2*h)/h=1-u/h/\(u+h)%h=u%h/\u/h<2:=by
 have p:0<h:=by lia
 rcases Nat.lt_or_ge u h with z|z
 ·have a:u/h=0:=N8 z;have b:(u+h)/(2*h)=0:=N8 A0;have c:(u+h)%(2*h)=u+h:=N3 A0;have d:(u+h)/h=1:=(Rt (X:=u+h) 1 A0 A0).1;exact⟨by rw[a,b],by rw[c,d,a],Nat.add_mod_right u h,by lia⟩
 ·have a:u/h=1:=(Rt 1 A0 A0).1;have b:=Rt (h:=2*h) (X:=u+h) 1 A0 A0;have c:(u+h-2*h*1)/h=0:=N8 A0;exact⟨by rw[a,b.1],by rw[b.2,c,a],Nat.add_mod_right u h,by lia⟩
theorem Lm(n:Nat):2^(n+1)=2*2^n:=by rw[F4];lia
theorem Zs{G:Gv}(ok:GOk G){n i m:Nat}{w:Nat->Nat}{a:Nat->Nat->Nat}(h:NQ G n i w a)(x:G[m]?=some ⟨[(a 0 3:Int),(a 1 2:Int),(a 2 1:Int),(a 3 0:Int)],(n:Int)+1⟩){u v:Nat}(e:u<2^(n+1))(d:v<2^(n+1)):Ct G (n+2) i (u+2^n) (v+2^n)=Ct G (n+1) m u v:=by
 have c:∀k j,k<4->j<4->An G (a k j) (n:Int):=λk j y l=>by
  obtain⟨q,nk⟩:=h.sub k y;have:=(nk.nat l).2;rw[JH (a k) l]at this;exact this
 have nm:GU G n m _ (a 0 3) (a 1 2) (a 2 1) (a 3 0):=⟨x,rfl,rfl,c 0 3 A3 A3,c 1 2 A3 A3,c 2 1 A3 A3,c 3 0 A3 A3⟩
 have o:=Lm n;have K:2^(n+2)=2*2^(n+1):=Lm (n+1);have p:=AK n;rw[Nk h A0 A0,BD nm e d];unfold quad;rw[o];rw[o]at e d;apply Bh;intro D b;obtain⟨I,E,H,t⟩:=bits e;obtain⟨s,b2,B,C⟩:=bits d;apply b;clear b D;rw[I,E,H,s,b2,B];have two:∀{A:Nat},A<2->A=0\/A=1:=λ{A} h=>by lia
 have g:=two t;have f:=two C;rcases g with z|z<;>rcases f with r|r<;>rw[z,r]<;>rfl
theorem mid_iff'{m X Y:Nat}{x y:Int}(q:(X:Int)=x+2^(m+1))(k:(Y:Int)=y+2^(m+1))(s:X<2^(m+2))(n:Y<2^(m+2)):quad m (X%2^(m+1)) (Y%2^(m+1))+quad (m+1) X Y=3↔(-(2^m)<=x/\x<2^m/\-(2^m)<=y/\y<2^m):=by
 have p:=AK m;have d:=Lm m;have Q:2^(m+2)=2*2^(m+1):=Lm (m+1);have P:=EQ m;have o:=EQ (m+1);rw[d]at o;unfold quad;rw[d];rw[Q,d]at s n;rw[<-o]at q k;rw[<-P];generalize 2^m=h at *
 have a:∀{X:Nat}{x:Int},(X:Int)=x+((2*h:Nat):Int)->X<2*(2*h)->(X%(2*h)/h+X/(2*h)=1 ↔ -(h:Int)<=x/\x<(h:Int))/\X%(2*h)/h<2/\X/(2*h)<2:=by
  intro X x e l;have r:0<2*h:=by lia
  have O:X/(2*h)<2:=by rw[W0 r];exact l
  have T:X%(2*h)<2*h:=D9 _ r;have R:X%(2*h)/h<2:=by rw[W0 p];exact T
  have M:=N4 X (2*h);have N:=N4 (X%(2*h)) h;have Z:=D9 (X%(2*h)) p;refine⟨?_,R,O⟩;generalize X/(2*h)=u at *
  generalize X%(2*h)/h=v at *
  generalize X%(2*h)%h=t at *
  generalize X%(2*h)=rr at *
  have H:u=0\/u=1:=by lia
  have E:v=0\/v=1:=by lia
  rcases H with rfl|rfl<;>rcases E with rfl|rfl<;>simp only[Nat.mul_zero,Nat.mul_one,N6]at N M<;>lia
 obtain⟨j,U,x2⟩:=a q s;obtain⟨i,V,y2⟩:=a k n;clear a;generalize X%(2*h)/h=A at *
 generalize X/(2*h)=B at *
 generalize Y%(2*h)/h=C at *
 generalize Y/(2*h)=D at *
 constructor
 ·intro z;have f:=j.mp A0;have c:=i.mp A0;exact⟨f.1,f.2,c.1,c.2⟩
 ·rintro g;apply Bh;intro I b;obtain⟨K,S,w,G⟩:=g;apply b;clear b I;have f:=j.mpr ⟨K,S⟩;have c:=i.mpr ⟨w,G⟩;lia
theorem Qf{G r:Gv}(D:G=G0++r)(ok:GOk G){n i m:Nat}(M:n<=46){u:Nat->Nat}{d:Nat->Nat->Nat}(h:NQ G n i u d)(C:BA n d)(v:G[m]?=some ⟨[(d 0 3:Int),(d 1 2:Int),(d 2 1:Int),(d 3 0:Int)],(n:Int)+1⟩)(x y:Int):fieldF G (n+1) i x y=fieldF G n m x y:=by
 have K:=Cg n;have p:=NX n;unfold fieldF;by_cases b:-(2^n)<=x/\x<2^n/\-(2^n)<=y/\y<2^n
 ·apply Bh;intro f a;obtain⟨o,k,l,j⟩:=b;apply a;clear a f;rw[Z9 ⟨by lia,by lia,by lia,by lia⟩,Z9 ⟨o,k,l,j⟩];have A:=Fb o k;have t:=Fb l j;have c:=EQ n;have H:(x+2^(n+1)).toNat=(x+2^n).toNat+2^n:=by lia
  have I:(y+2^(n+1)).toNat=(y+2^n).toNat+2^n:=by lia
  rw[H,I];exact Zs ok h v A t
 ·rw[Z6 b];split
  ·rename_i z;apply Bh;intro f a;obtain⟨B,E,s,w⟩:=z;apply a;clear a f;have g:=Fb B E;have e:=Fb s w;rw[Nk h g e];have ne:¬quad n ((x+2^(n+1)).toNat%2^(n+1)) ((y+2^(n+1)).toNat%2^(n+1))+quad (n+1) (x+2^(n+1)).toNat (y+2^(n+1)).toNat=3:=λq=>b ((mid_iff' (O8 A0) (O8 A0) g e).mp q);rw[C _ _ (BO g e) (BO (D9 _ (AK _)) (D9 _ (AK _))) ne];exact Dm D ok A0 (D9 _ (AK _)) (D9 _ (AK _))
  ·rfl
theorem FE{G i:Gv}(c:G=G0++i)(ok:GOk G):∀{n f r:Nat},n<=47->An G f ((n+1:Nat):Int)->Fj G (n+1) f r->∃m,m<=n/\An G r ((m+1:Nat):Int)/\Ji G m r/\∀x y,fieldF G m r x y=fieldF G n f x y
 |0,f,r,_,hl,h=>by
  have h:r=f:=h;subst h;exact⟨0,C1 _,hl,.inl rfl,λ_ _=>rfl⟩
 |n+1,f,r,hn,hl,h=>by
  apply Bh;intro g a;obtain⟨e,q,d,h⟩:=h;apply a;clear a g;rcases h with ⟨j,rfl⟩|⟨l,m,b,h⟩
  ·exact⟨n+1,C1 _,hl,.inr ⟨n,e,q,rfl,d,j⟩,λ_ _=>rfl⟩
  ·obtain⟨k,s,o,tk,p⟩:=FE c ok A0 ⟨_,b,by show(n:Int)+1=_;lia⟩ h;refine⟨k,by lia,o,tk,λx y=>?_⟩;rw[p x y,Qf c ok A0 d l b x y]
theorem VX{G r:Gv}(z:G=G0++r)(ok:GOk G){n f w:Nat}(O:n<=46)(h:Wid G n f w)(x y:Int):fieldF G (n+1) w x y=fieldF G n f x y:=by
 apply Bh;intro K o;obtain⟨q,a,b,c,d,M,I,N,C,m,v,u,A,t,E⟩:=h.ex;apply o;clear o K;have i:=El z (n:=n) A0;have s:∀{p:Nat}{l:List Int},G[p]?=some ⟨l,(n:Int)+1⟩->An G p ((n+1:Nat):Int):=λ{p l} e=>⟨_,e,by show(n:Int)+1=_;lia⟩
 have D:NQ G n w (f4 M I N C) (λk j=>if j+k=3 then f4 a b c d k else bareN n):=by
  refine⟨⟨_,E,rfl,by show(n:Int)+2=_;lia,s v,s u,s A,s t⟩,λk H=>?_⟩
  match k,H with
  |0,_=>exact⟨_,v,rfl,rfl,i,i,i,m.hx⟩
  |1,_=>exact⟨_,u,rfl,rfl,i,i,m.hy,i⟩
  |2,_=>exact⟨_,A,rfl,rfl,i,m.hz,i,i⟩
  |3,_=>exact⟨_,t,rfl,rfl,m.hw,i,i,i⟩
 have g:=m.g;have l:=m.lev;have B:=m.ps;refine Qf z ok O D (λk j _ _ ne=>Z6 ne) ?_ x y;rw[g];cases q with
 |mk P Q=>cases B;cases l;rfl
theorem Ig{G r:Gv}(a:G=G0++r)(ok:GOk G){n f:Nat}:∀{k w:Nat},n+k<=46->Np G n f k w->∀x y,fieldF G (n+k) w x y=fieldF G n f x y
 |0,w,_,h,x,y=>by
  have h:w=f:=h;subst h;rfl
 |k+1,w,hk,h,x,y=>by
  obtain⟨u,c,b⟩:=h;rw[show n+(k+1)=n+k+1 by lia,VX a ok A0 b x y];exact Ig a ok A0 c x y
theorem Sy{G l:Gv}(g:G=G0++l)(ok:GOk G){n f s r k w i:Nat}{X Y:Int}(e:s<8)(h:Li G n f X Y s r k w i):∃m,m<=40/\An G r ((m+1:Nat):Int)/\Ji G m r/\∀x y,fieldF G m r x y=if x=X/\y=Y then s else fieldF G n f x y:=by
 have le:=h.le;have c:=h.rep.lev ok e;obtain⟨m,C,t,p,u⟩:=FE g ok A0 c h.tr;refine⟨m,by lia,t,p,λx y=>?_⟩;rw[u x y,<-Ig g ok A0 h.wid x y];apply Bh;intro d a;obtain⟨j,b2,D,H⟩:=Vr h.li;obtain⟨E,M,I,K⟩:=h.li;apply a;clear a d;unfold fieldF;split
 ·rename_i z;apply Bh;intro d a;obtain⟨A,B,o,v⟩:=z;apply a;clear a d;rw[Sr ok e j b2 (Fb A B) (Fb o v) h.rep];by_cases b:x=X/\y=Y
  ·rw[Z9 b,Z9 ⟨by rw[b.1],by rw[b.2]⟩]
  ·rw[Z6 b,Z6 λq=>b ⟨by lia,by lia⟩]
 ·rename_i z;rw[Z6 λq=>z ⟨by lia,by lia,by lia,by lia⟩]
theorem ST{G r:Gv}(c:G=G0++r)(ok:GOk G){n i:Nat}(b:n<=48)(h:An G i (n:Int))(ne:i≠bareN n):∃x y,x<2^n/\y<2^n/\Ct G n i x y≠0:=by
 refine X4 λz=>ne (Le ok h (El c b) λx y d a=>?_);rw[Dm c ok b d a];exact X4 λq=>z ⟨x,y,d,a,q⟩
theorem RW{G r:Gv}(P:G=G0++r)(ok:GOk G){m f:Nat}(T:m<=46)(h:Ji G (m+1) f):∃x y:Int,¬(-(2^m)<=x/\x<2^m/\-(2^m)<=y/\y<2^m)/\fieldF G (m+1) f x y≠0:=by
 rcases h with h|⟨a,U,p,e,s,K⟩
 ·lia
 ·have:a=m:=by lia
  subst this;have:∃k j,k<4/\j<4/\j+k≠3/\p k j≠bareN a:=by
   refine X4 λz=>K λk j g d ne=>X4 λq=>z ⟨k,j,g,d,ne,q⟩
  apply Bh;intro o b;obtain⟨k,j,g,d,ne,c⟩:=this;obtain⟨Z,nk⟩:=s.sub k g;apply b;clear b o;have R:An G (p k j) (a:Int):=by
   have:=(nk.nat d).2;rw[JH (p k) d]at this;exact this
  obtain⟨u,v,E,D,I⟩:=ST P ok A0 R c;apply Bh;intro o b;obtain⟨S,M,A,B,Q⟩:=EC d E D;obtain⟨t,b2,w,l,i⟩:=EC (n:=a+1) g S M;apply b;clear b o;generalize hX:u+2^a*(j%2)+2^(a+1)*(k%2)=X at *
  generalize V:v+2^a*(j/2)+2^(a+1)*(k/2)=Y at *
  have c1:=EQ (a+1);have H:=EQ (a+2);have C:=Cg (a+1);rw[C]at H;refine⟨(X:Int)-2^(a+1),(Y:Int)-2^(a+1),λz=>ne ?_,?_⟩
  ·have:=(mid_iff' (X:=X) (Y:=Y) A0 A0 t b2).mpr z;rw[w,l,i,A]at this;exact this
  ·unfold fieldF;rw[Z9 ⟨by lia,by lia,by lia,by lia⟩,show((X:Int)-2^(a+1)+2^(a+1)).toNat=X by lia,show((Y:Int)-2^(a+1)+2^(a+1)).toNat=Y by lia,Nk s t b2,w,l,i,A];have O:X%2^a=u:=by rw[<-Ej,l,B]
   have N:Y%2^a=v:=by rw[<-Ej,i,Q]
   rw[O,N];exact I
theorem Pf{G r:Gv}(l:G=G0++r)(ok:GOk G){n m f a:Nat}(p:n<=47)(g:m<=47)(j:An G f ((n+1:Nat):Int))(c:An G a ((m+1:Nat):Int))(t:Ji G n f)(t':Ji G m a)(h:∀x y,fieldF G n f x y=fieldF G m a x y):n=m/\f=a:=by
 have le:∀{n m f a:Nat},m<=47->Ji G m a->(∀x y,fieldF G n f x y=fieldF G m a x y)->m<=n:=by
  intro n m f a g t' h;refine P0 λz=>?_;obtain⟨k,rfl⟩:∃k,m=k+1:=⟨m-1,by lia⟩
  obtain⟨x,y,d,b⟩:=RW l ok A0 t';rw[<-h x y]at b;unfold fieldF at b;split at b
  ·rename_i q;have:(2:Int)^n<=2^k:=by
    have:=O0 (show 0<2 by decide) (show n<=k by lia)
    exact_mod_cast this
   exact d ⟨by lia,by lia,by lia,by lia⟩
  ·exact b rfl
 have v:=le g t' h;have u:=le p t λx y=>(h x y).symm;have e:n=m:=by lia
 subst e;refine⟨rfl,Le ok j c λx y A s=>?_⟩;have w:=EQ n;have o:=EQ (n+1);have i:=Cg n;rw[i]at o;have:=h ((x:Int)-2^n) ((y:Int)-2^n);unfold fieldF at this;rw[Z9 ⟨by lia,by lia,by lia,by lia⟩,Z9 ⟨by lia,by lia,by lia,by lia⟩,show((x:Int)-2^n+2^n).toNat=x by lia,show((y:Int)-2^n+2^n).toNat=y by lia]at this;exact this
def Fix:HO->Prop
 |.tup _=>True
 |.ins _ _ _=>True
 |_=>False
def Fx(l:List Addr)(H H':Hp):Prop:=∀b o,H b=some o->(b∈l->Fix o)->H' b=some o
theorem Fx.refl(l:List Addr)(H:Hp):Fx l H H:=λ_ _ e _=>e
theorem Fx.trans{l:List Addr}{d c a:Hp}(h:Fx l d c)(f:Fx l c a):Fx l d a:=λb o e n=>f b o (h b o e n) n
theorem AA.fx{l:List Addr}{c a:Hp}(h:AA c a):Fx l c a:=λb o e _=>h b o e
theorem Fx.mono{l m:List Addr}{c a:Hp}(h:Fx l c a)(s:∀x∈l,x∈m):Fx m c a:=λb o e n=>h b o e λz=>n (s b z)
theorem Fx.get{l:List Addr}{c a:Hp}(h:Fx l c a){b:Addr}{o:HO}(n:b∉l)(e:c b=some o):a b=some o:=h b o e λz=>absurd z n
theorem Fx.tup{l:List Addr}{c a:Hp}(h:Fx l c a){b:Addr}{xs:List V}(e:c b=some (.tup xs)):a b=some (.tup xs):=h b _ e λ_=>True.intro
theorem ZR{H:Hp}{x:Addr}{o o':HO}(e:H x=some o)(n:¬Fix o):Fx [x] H (upd H x o'):=λb u a f=>by
 by_cases z:b=x
 ·subst z;rw[e]at a;cases a;exact absurd (f (D6.mpr rfl)) n
 ·rw[Ax z];exact a
theorem Fr.fx{a:Ad}{g:GA}{G:Gv}{H c:Hp}(h:Fr g H c)(at':AN a H g G):Fx [g.lv,g.pt,g.nm] H c:=λb o e f=>by
 obtain⟨i,d,_⟩:=at'.pt;refine h b o e (λz=>?_) (λz=>?_) (λz=>?_)
 ·subst z;rw[at'.lv]at e;cases e;exact f A6
 ·subst z;rw[d]at e;cases e;exact f A6
 ·subst z;rw[at'.nm]at e;cases e;exact f A6
theorem FrQ.fx{a:Ad}{g:GA}{G:Gv}{H d:Hp}(h:FrQ g H d)(c:AX a H g G):Fx [g.am,g.bx] H d:=λb o e f=>by
 obtain⟨l,j,_⟩:=c.am;obtain⟨i,k,_⟩:=c.bx;refine h b o e (λz=>?_) (λz=>?_)
 ·subst z;rw[j]at e;cases e;exact f A6
 ·subst z;rw[k]at e;cases e;exact f A6
def Dl(g:GA):List Addr:=[g.lv,g.pt,g.nm,g.br,g.am,g.bx]
theorem AX.fx{a:Ad}{g:GA}{G:Gv}{H d:Hp}{l:List Addr}(h:AX a H g G)(f:Fx l H d)(n:∀x∈Dl g,x∉l):AX a d g G:=by
 obtain⟨at',ok,S,u,⟨s,A,R⟩,⟨c,M,j⟩,I,O,y⟩:=h;obtain⟨Q,E,⟨B,r,p⟩,C,D⟩:=at';have m:∀x∈Dl g,∀o,H x=some o->d x=some o:=λx w o e=>f.get (n x w) e;refine⟨⟨f _ _ Q λ_=>True.intro,m _ (by simp[Dl]) _ E,⟨B,m _ (by simp[Dl]) _ r,PairedM.imp (λt q z=>f.tup z) p⟩,m _ (by simp[Dl]) _ C,D⟩,ok,S,m _ (by simp[Dl]) _ u,⟨s,m _ (by simp[Dl]) _ A,R⟩,⟨c,m _ (by simp[Dl]) _ M,j.keys,λi v e=>?_⟩,I,O,y⟩;obtain⟨l,b,t,K,P,k,N⟩:=j.val i v e;exact⟨l,b,t,K,P,k,f.tup N⟩
theorem AA.noneOf{H a:Hp}(s:AA H a){x:Addr}(n:a x=none):H x=none:=by
 cases e:H x with
 |none=>rfl
 |some o=>rw[s _ _ e]at n;cases n
structure Nw(H:Hp)(l:List Addr):Prop where
 nd:l.Nodup
 s:∀x∈l,∃o,H x=some o
theorem AX.nw{a:Ad}{H:Hp}{g:GA}{G:Gv}(h:AX a H g G):Nw H (Dl g):=by
 obtain⟨⟨_,f,⟨u,i,_⟩,b,p⟩,_,_,j,⟨v,d,_⟩,⟨l,c,_⟩,r,s,m⟩:=h;have t:∀{x y:Addr}{o o':HO},H x=some o->H y=some o'->o≠o'->x≠y:=λ{x y o o'} e q n=>AH e q n;refine⟨?_,λx k=>?_⟩
 ·simp only[Dl,N5,B7,C6,K7,A3f,A1f,P6,A5g];exact⟨⟨p,t f b A4,X7 r,t f d A4,t f c A4⟩,⟨t i b A4,X7 s,t i d A4,t i c A4⟩,⟨t b j A4,t b d A4,t b c A4⟩,⟨t j d A4,t j c A4⟩,m⟩
 ·simp only[Dl,B7,C6,K7]at k;rcases k with rfl|rfl|rfl|rfl|rfl|rfl
  ·exact⟨_,f⟩
  ·exact⟨_,i⟩
  ·exact⟨_,b⟩
  ·exact⟨_,j⟩
  ·exact⟨_,d⟩
  ·exact⟨_,c⟩
theorem Dw{H:Hp}{x y:Addr}{o:HO}(h:upd H x o y=none):H y=none:=by
 by_cases e:y=x
 ·subst e;rw[Af]at h;cases h
 ·rw[Ax e]at h;exact h
theorem Tq.none{a:Ad}{H i:Hp}{x dx:Addr}{o o':HO}{g:GA}{G:Gv}{B:List Int}{f:List (Key×V)}(N:Tq a (upd (upd H dx o) x o') i g G B f):∀y∈Dl g,H y=none:=λy b=>by
 obtain⟨e,d,c,f4,h,j⟩:=N.fresh;simp only[Dl,B7,C6,K7]at b;rcases b with rfl|rfl|rfl|rfl|rfl|rfl
 ·exact Dw (Dw e)
 ·exact Dw (Dw d)
 ·exact Dw (Dw c)
 ·exact Dw (Dw f4)
 ·exact Dw (Dw h)
 ·exact Dw (Dw j)
theorem AA.fxn{H c a:Hp}{m:List Addr}(s:AA H c)(f:Fx m c a)(n:∀y∈m,H y=none):AA H a:=λb o e=>f.get (λz=>by rw[n b z]at e;cases e) (s _ _ e)
structure CF(L:Int->Int->Prop)(b:Bx):Prop where
 inn:∀u v,L u v->b.l<=u/\u<b.l+b.w/\b.t<=v/\v<b.t+b.h
 le:∃v,L b.l v
 to:∃u,L u b.t
 ri:∃v,L (b.l+b.w-1) v
 bo:∃u,L u (b.t+b.h-1)
theorem CF.one{L:Int->Int->Prop}{b c:Bx}(h:CF L b)(h':CF L c):b=c:=by
 obtain⟨n,k⟩:=h.le;obtain⟨z,f⟩:=h.to;obtain⟨m,i⟩:=h.ri;obtain⟨q,a⟩:=h.bo;obtain⟨t,g⟩:=h'.le;obtain⟨x,e⟩:=h'.to;obtain⟨l,d⟩:=h'.ri;obtain⟨s,j⟩:=h'.bo;have r:=h'.inn _ _ k;have v:=h'.inn _ _ f;have w:=h'.inn _ _ i;have o:=h'.inn _ _ a;have u:=h.inn _ _ g;have p:=h.inn _ _ e;have A:=h.inn _ _ d;have y:=h.inn _ _ j;cases b;cases c;simp only at *
 congr 1<;>lia
theorem CF.congr{L M:Int->Int->Prop}{b:Bx}(e:∀u v,L u v↔M u v)(h:CF L b):CF M b:=by
 obtain⟨f,d⟩:=h.le;obtain⟨a,g⟩:=h.to;obtain⟨c,k⟩:=h.ri;obtain⟨i,j⟩:=h.bo;exact⟨λu v m=>h.inn u v ((e u v).mpr m),⟨f,(e _ _).mp d⟩,⟨a,(e _ _).mp g⟩,⟨c,(e _ _).mp k⟩,⟨i,(e _ _).mp j⟩⟩
theorem SO{l:List Int}(h:l≠[]):mnL l∈l/\∀x∈l,mnL l<=x:=by
 unfold mnL;cases e:l.min? with
 |none=>exact absurd (List.min?_eq_none_iff.mp e) h
 |some m=>exact List.min?_eq_some_iff.mp e
theorem SM{l:List Int}(h:l≠[]):mxL l∈l/\∀x∈l,x<=mxL l:=by
 unfold mxL;cases e:l.max? with
 |none=>exact absurd (List.max?_eq_none_iff.mp e) h
 |some m=>exact List.max?_eq_some_iff.mp e
theorem PY{L:Int->Int->Prop}{bs:List Bx}(ne:bs≠[])(a:∀b∈bs,∃M:Int->Int->Prop,CF M b/\∀u v,M u v->L u v)(S:∀u v,L u v->∃b∈bs,b.l<=u/\u<b.l+b.w/\b.t<=v/\v<b.t+b.h):CF L (OZ bs):=by
 have D:bs.map (·.l)≠[]:=λz=>ne (Q8.mp z);have O:bs.map (·.t)≠[]:=λz=>ne (Q8.mp z);have r:(bs.map λb=>b.l+b.w)≠[]:=λz=>ne (Q8.mp z);have o:(bs.map λb=>b.t+b.h)≠[]:=λz=>ne (Q8.mp z);obtain⟨n,R⟩:=SO D;obtain⟨y,H⟩:=SO O;obtain⟨N,K⟩:=SM r;obtain⟨m,p⟩:=SM o;obtain⟨k,e,E⟩:=C3.mp n;obtain⟨b2,d,P⟩:=C3.mp y;obtain⟨B,g,i⟩:=C3.mp N;obtain⟨G,f,j⟩:=C3.mp m;unfold OZ;refine⟨λu v q=>?_,?_,?_,?_,?_⟩
 ·obtain⟨b,c,V,U,X,T⟩:=S u v q;have I:=R _ (C3.mpr ⟨b,c,rfl⟩);have C:=H _ (C3.mpr ⟨b,c,rfl⟩);have A:=K _ (C3.mpr ⟨b,c,rfl⟩);have Q:=p _ (C3.mpr ⟨b,c,rfl⟩);dsimp only at I C A Q⊢;lia
 ·obtain⟨M,t,s⟩:=a k e;obtain⟨v,x⟩:=t.le;exact⟨v,by rw[E]at x;exact s _ _ x⟩
 ·obtain⟨M,t,s⟩:=a b2 d;obtain⟨v,x⟩:=t.to;exact⟨v,by rw[P]at x;exact s _ _ x⟩
 ·obtain⟨M,t,s⟩:=a B g;obtain⟨v,x⟩:=t.ri;refine⟨v,?_⟩;dsimp only at i⊢;rw[i]at x;have:=s _ _ x;rw[show mnL (bs.map (·.l))+(mxL (bs.map λb=>b.l+b.w)-mnL (bs.map (·.l)))-1=mxL (bs.map λb=>b.l+b.w)-1 by lia];exact this
 ·obtain⟨M,t,s⟩:=a G f;obtain⟨v,x⟩:=t.bo;refine⟨v,?_⟩;dsimp only at j⊢;rw[j]at x;have:=s _ _ x;rw[show mnL (bs.map (·.t))+(mxL (bs.map λb=>b.t+b.h)-mnL (bs.map (·.t)))-1=mxL (bs.map λb=>b.t+b.h)-1 by lia];exact this
theorem OX{half:Int}{b:Bx}:∀{a:List (Option Bx)}{k:Nat},b∈DR half k a ↔ ∃(j:Nat)(c:Bx),a[j]?=some (some c)/\b=shB half (k+j) c
 |[],k=>⟨(λh=>by cases h),(λh=>by obtain⟨j,c,h,_⟩:=h;simp at h)⟩
 |none::r,k=>by
  rw[show DR half k (none::r)=DR half (k+1) r from rfl,OX];constructor
  ·rintro⟨j,c,h,e⟩;exact⟨j+1,c,by simpa using h,by rw[e,show k+1+j=k+(j+1) by lia]⟩
  ·rintro⟨j,c,h,e⟩;cases j with
   |zero=>simp at h
   |succ j=>exact⟨j,c,by simpa using h,by rw[e,show k+1+j=k+(j+1) by lia]⟩
 |some d::r,k=>by
  rw[show DR half k (some d::r)=shB half k d::DR half (k+1) r from rfl,B7,OX];constructor
  ·rintro(h|⟨j,c,h,e⟩)
   ·exact⟨0,d,rfl,h⟩
   ·exact⟨j+1,c,by simpa using h,by rw[e,show k+1+j=k+(j+1) by lia]⟩
  ·rintro⟨j,c,h,e⟩;cases j with
   |zero =>
    have h:d=c:=by simpa using h
    subst h;exact .inl e
   |succ j=>exact .inr ⟨j,c,by simpa using h,by rw[e,show k+1+j=k+(j+1) by lia]⟩
def Lv(G:Gv)(n i:Nat)(u v:Int):Prop:=∃a b:Nat,u=a/\v=b/\a<2^n/\b<2^n/\Ct G n i a b≠0
theorem Vp{G:Gv}{n i:Nat}{q:Sq}{a b c d:Nat}(m:GU G n i q a b c d)(u v:Int):Lv G (n+1) i u v ↔ ∃k,k<4/\Lv G n (f4 a b c d k) (u-2^n*((k:Int)%2)) (v-2^n*((k:Int)/2)):=by
 have h:=EQ n;constructor
 ·rintro⟨x,y,rfl,rfl,g,f,ne⟩;rw[BD m g f]at ne;have D:=BT g;have C:=BT f;refine⟨quad n x y,BO g f,x%2^n,y%2^n,?_,?_,D9 _ (AK n),D9 _ (AK n),ne⟩
  ·have e:=N4 x (2^n);have j:((quad n x y:Nat):Int)%2=((x/2^n:Nat):Int):=by
    unfold quad;generalize x/2^n=A at *
    generalize y/2^n=B at *
    lia
   rw[j,<-h,<-O5];lia
  ·have e:=N4 y (2^n);have j:((quad n x y:Nat):Int)/2=((y/2^n:Nat):Int):=by
    unfold quad;generalize x/2^n=A at *
    generalize y/2^n=B at *
    lia
   rw[j,<-h,<-O5];lia
 ·rintro⟨k,r,x,y,w,z,g,f,ne⟩;obtain⟨l,o,s,t,p⟩:=EC r g f;refine⟨x+2^n*(k%2),y+2^n*(k/2),?_,?_,l,o,?_⟩
  ·rw[M7,O5,h,show((k%2:Nat):Int)=(k:Int)%2 from rfl];lia
  ·rw[M7,O5,h,show((k/2:Nat):Int)=(k:Int)/2 from rfl];lia
  ·rw[BD m l o,s,t,p];exact ne
theorem Qb{L:Int->Int->Prop}{b:Bx}{half:Int}{k:Nat}(h:CF L b):CF (λu v=>L (u-half*((k:Int)%2)) (v-half*((k:Int)/2))) (shB half k b):=by
 obtain⟨d,f⟩:=h.le;obtain⟨a,g⟩:=h.to;obtain⟨c,j⟩:=h.ri;obtain⟨e,i⟩:=h.bo;unfold shB;generalize half*((k:Int)%2)=p;generalize half*((k:Int)/2)=q;refine⟨λu v m=>?_,⟨d+q,?_⟩,⟨a+p,?_⟩,⟨c+q,?_⟩,⟨e+p,?_⟩⟩
 ·have:=h.inn _ _ m;dsimp only;lia
 ·show L (b.l+p-p) (d+q-q);rw[R3,R3];exact f
 ·show L (a+p-p) (b.t+q-q);rw[R3,R3];exact g
 ·show L (b.l+p+b.w-1-p) (c+q-q);rw[R3,show b.l+p+b.w-1-p=b.l+b.w-1 by lia];exact j
 ·show L (e+p-p) (b.t+q+b.h-1-q);rw[R3,show b.t+q+b.h-1-q=b.t+b.h-1 by lia];exact i
theorem Lg{G:Gv}(ok:GOk G):∀{n i:Nat}{b:Bx},An G i (n:Int)->BZ G n i=some b->CF (Lv G n i) b
 |0,i,b,_,h=>by
  have h:(if i=0 then none else some (⟨0,0,1,1⟩:Bx))=some b:=h;by_cases z:i=0
  ·rw[Z9 z]at h;cases h
  ·rw[Z6 z]at h;cases h;have B:Lv G 0 i 0 0:=⟨0,0,rfl,rfl,by decide,by decide,z⟩
   refine⟨λu v m=>?_,⟨0,B⟩,⟨0,B⟩,⟨0,B⟩,⟨0,B⟩⟩;obtain⟨x,y,rfl,rfl,p,r,_⟩:=m;have p:x<1:=p;have r:y<1:=r;dsimp only;lia
 |n+1,i,b,l,h=>by
  obtain⟨q,a,w,c,d,f⟩:=BB ok l;rw[FD f]at h;have A:∀k,k<4->[BZ G n a,BZ G n w,BZ G n c,BZ G n d][k]?=some (BZ G n (f4 a w c d k)):=λk g=>by
   match k,g with
   |0,_=>rfl
   |1,_=>rfl
   |2,_=>rfl
   |3,_=>rfl
  have s:∀e,e∈DR (2^n) 0 [BZ G n a,BZ G n w,BZ G n c,BZ G n d] ↔ ∃k o,k<4/\BZ G n (f4 a w c d k)=some o/\e=shB (2^n) k o:=λe=>by
   rw[OX];constructor
   ·rintro⟨j,N,C,rfl⟩;have K:j<4:=(B6.mp C).1;rw[A j K]at C;exact⟨j,N,K,X5 C,by rw[N6]⟩
   ·rintro⟨k,o,g,D,rfl⟩;exact⟨k,o,by rw[A k g,D],by rw[N6]⟩
  unfold Pz at h;cases I:DR (2^n) 0 [BZ G n a,BZ G n w,BZ G n c,BZ G n d]with
  |nil=>rw[I]at h;cases h
  |cons T P =>
   rw[I]at h;have h:=X5 h;rw[I]at s;subst h;refine PY A6 (λe O=>?_) λu v m=>?_
   ·obtain⟨k,o,g,D,rfl⟩:=(s e).mp O;refine⟨_,Qb (Lg ok (f.nat g).2 D),λu v m=>(Vp f u v).mpr ⟨k,g,m⟩⟩
   ·obtain⟨k,g,m⟩:=(Vp f u v).mp m;cases H:BZ G n (f4 a w c d k)with
    |none =>
     have M:=(Lh ok n _ (f.nat g).2).mp H;obtain⟨x,y,_,_,p,r,ne⟩:=m;exact absurd (cell_none ok (f.nat g).2 M p r) ne
    |some o =>
     have t:=Qb (half:=2^n) (k:=k) (Lg ok (f.nat g).2 H);exact⟨_,(s _).mpr ⟨k,o,g,H,rfl⟩,t.inn u v m⟩
where cell_none {G:Gv} (ok:GOk G):∀{n i x y:Nat},An G i (n:Int)->DH G n i=0->x<2^n->y<2^n->Ct G n i x y=0
 |0,i,x,y,_,h,_,_=>by
  have h:(if i=0 then(0:Int)else 1)=0:=h;show i=0;by_cases z:i=0
  ·exact z
  ·rw[Z6 z]at h;lia
 |n+1,i,x,y,l,h,p,r=>by
  obtain⟨q,a,b,c,d,f⟩:=BB ok l;have e:=Ld f;have e:DH G (n+1) i=DH G n a+(DH G n b+(DH G n c+(DH G n d+0))):=e;have S:=Fy G n a;have R:=Fy G n b;have U:=Fy G n c;have Q:=Fy G n d;have E:=BO p r;rw[BD f p r];refine cell_none ok (f.nat E).2 ?_ (D9 _ (AK n)) (D9 _ (AK n));generalize quad n x y=k at E
  match k,E with
  |0,_=>show DH G n a=0;lia
  |1,_=>show DH G n b=0;lia
  |2,_=>show DH G n c=0;lia
  |3,_=>show DH G n d=0;lia
seal L2.PA L2.PE L2.PS L2.PSs L2.PT L2.PW
theorem SS{G:Gv}{n f:Nat}(x y:Int):Lv G (n+1) f (x+2^n) (y+2^n)↔fieldF G n f x y≠0:=by
 have c:=EQ n;have e:=Lm n;constructor
 ·rintro⟨u,v,j,i,k,h,ne⟩;unfold fieldF;rw[Z9 ⟨by lia,by lia,by lia,by lia⟩,show(x+2^n).toNat=u by lia,show(y+2^n).toNat=v by lia];exact ne
 ·intro ne;unfold fieldF at ne;split at ne
  ·rename_i z;obtain⟨b,a,d,g⟩:=z;exact⟨(x+2^n).toNat,(y+2^n).toNat,by lia,by lia,Fb b a,Fb d g,ne⟩
  ·exact absurd rfl ne
def mvB(r:Int)(b:Bx):Bx:=⟨b.l+-r,b.t+-r,b.w,b.h⟩
theorem Gf{G:Gv}(ok:GOk G){n f:Nat}(l:An G f ((n+1:Nat):Int)){b:Bx}(h:BZ G (n+1) f=some b):CF (λx y=>fieldF G n f x y≠0) (mvB (2^n) b):=by
 have t:=Lg ok l h;obtain⟨k,c⟩:=t.le;obtain⟨j,d⟩:=t.to;obtain⟨a,i⟩:=t.ri;obtain⟨e,g⟩:=t.bo;have go:∀{u v:Int},Lv G (n+1) f u v->fieldF G n f (u+-(2^n)) (v+-(2^n))≠0:=λ{u v} m=>(SS _ _).mp (by rw[show u+-(2^n)+2^n=u by lia,show v+-(2^n)+2^n=v by lia];exact m);unfold mvB;refine⟨λx y m=>?_,⟨_,go c⟩,⟨_,go d⟩,⟨a+-(2^n),?_⟩,⟨e+-(2^n),?_⟩⟩
 ·have:=t.inn _ _ ((SS x y).mpr m);dsimp only;lia
 ·have:=go i;rw[show b.l+b.w-1+-(2^n)=b.l+-(2^n)+b.w-1 by lia]at this;exact this
 ·have:=go g;rw[show b.t+b.h-1+-(2^n)=b.t+-(2^n)+b.h-1 by lia]at this;exact this
theorem LR{G:Gv}(ok:GOk G){n f:Nat}(l:An G f ((n+1:Nat):Int))(h:BZ G (n+1) f=none)(x y:Int):fieldF G n f x y=0:=by
 have c:=(Lh ok _ _ l).mp h;unfold fieldF;split
 ·rename_i z;exact Lg.cell_none ok l c (Fb z.1 z.2.1) (Fb z.2.2.1 z.2.2.2)
 ·rfl
section
variable{P:Program}{w:World}{K:W.Frag}{mg:Str->Option Value}{base:Heap}{a:Ad}
inductive VT(a:Ad)(vs:List V)(H:Hp)(Q:VK):Prop
 |mk (g:GA) (G:Gv) (f n:Nat) (_:vs=[.ref g.p,.int f]) (_:AX a H g G) (_:An G f ((n+1:Nat):Int)) (_:n<48) (_:G.length<8000000) (_:(BZ G (n+1) f=none->∀H',FrQ g H H'->AX a H' g G->Q .non H')) (_:∀b,BZ G (n+1) f=some b->∀t H',FrQ g H H'->AX a H' g G->Nr H' t (mvB (2^n) b)->Q (.ref t) H'):VT a vs H Q
def Mc(a:Ad):Sp:=λvs H Q _=>VT a vs H Q
theorem Zf(F:Fun K "box_of" "box_of" OG f fd)(T:Top K mg a)(D:Cb P w K mg base CX0 101 a.c_Grove "span" JF (Tt a))(z:Cal P w K mg base CX0 4 "reach_of" TV (Ij a))(C:Cal P w K mg base CX0 1 "shifted_box" PB JO):AL P w K mg base CX0 102 f fd TV (Mc a):=by
  refine F.ok MO (λ_ _ _ _ h=>by rcases h;subst_vars;rfl) λI A k s H vs Q E j h=>?_
  obtain⟨g,G,x,n,rfl,u,r,e,few,k0,k1⟩:=h;refine⟨_,(Ab (Ao (i:=2) MO.nd rfl (Or.inl rfl) (AI (pv 0) D (rm j) Aq (Aa (pv 1) Ae))) (Ab (AM (Ay FZ (pv 2) Bz (AD _)) (Ah (As Bz)) AB) (Ab (Ao (i:=3) MO.nd rfl (Or.inl rfl) (Aw z (rm j) rfl Aq (Aa (pv 0) (Aa (pv 1) Ae)))) (Ah (As (Aw C (rm j) rfl Aq (Aa (pv 2) (Aa (Db Cc (pv 3)) (Aa (Db Cc (pv 3)) Ae))))))))),?_⟩
  try dsimp only[cxK]
  refine xq1 rfl ⟨g.p,g.dx,(xq1 rfl ⟨u.at'.hp,no_span g,(xq1 rfl ⟨g,G,x,n+1,rfl,u,r,by lia,λM v d c=>?_,λb y t v d c B=>?_⟩)⟩)⟩
  ·exact xq1 rfl ⟨rfl,(xq1 rfl (BL (k0 M v d c)))⟩
  ·refine xq1 rfl ⟨rfl,(xq1 rfl (Ba ?_))⟩;refine xw2 rfl rfl ⟨g,G,x,n,rfl,c.at',r,e,?_⟩;refine xw3 rfl rfl rfl (xw2 rfl rfl ⟨t,b,_,_,rfl,B,λt' m=>?_⟩);have q:=Ar (o:=.tup [.int (b.l+-(2^n)),.int (b.t+-(2^n)),.int b.w,.int b.h]) m;exact k1 b y t' _ (d.trans (AA.frq q)) (c.same q) Af
end
end J
namespace J
open PySem L2
theorem cel_F{G:Gv}(ok:GOk G):∀{n i x y:Nat},An G i (n:Int)->x<2^n->y<2^n->cel G n i x y=Ct G n i x y
 |0,_,_,_,_,_,_=>rfl
 |n+1,i,x,y,h,hx,hy=>by
  obtain⟨q,a,b,c,d,f⟩:=BB ok h;rw[BD f hx hy];have p:=AK n;have k:x/2^n<2:=Nat.div_lt_of_lt_mul (by rw[F4]at hx;lia);have j:y/2^n<2:=Nat.div_lt_of_lt_mul (by rw[F4]at hy;lia);have e:qO G i ((x/2^n)%2+2*((y/2^n)%2))=f4 a b c d (quad n x y):=by
   have:=(f.nat (BO hx hy)).1;unfold qO;rw[f.g,N3 k,N3 j];show(q.parts.getD (quad n x y) 0).toNat=_;rw[F1,this];rfl
  show cel G n (qO G i ((x/2^n)%2+2*((y/2^n)%2))) x y=_;rw[e,<-cel_F ok (f.nat (BO hx hy)).2 (D9 _ p) (D9 _ p)];have:=RD G n (f4 a b c d (quad n x y)) (x%2^n) (y%2^n) (x/2^n) (y/2^n);rw[Nat.mod_add_div,Nat.mod_add_div]at this;exact this
theorem Of{α β:Type}(f:α->List β)(m:Nat):∀l:List α,(∀x∈l,(f x).length<=m)->(l.flatMap f).length<=l.length*m
 |[],_=>by simp
 |a::l,h=>by
  have:=Of f m l λx b=>h x (C8 _ b);have:=h a C7;rw[Z4,C4,F0,V3];lia
structure ZS(a:Ad)(H:Hp)(g:GA)(G:Gv)(Κ:KTy)(N b:Nat)(p dx mem pr:Addr)(r:AF)(m:MA):Prop where
 jz:JZ a H g G Κ N b p dx mem pr r m
 fu:AX a H g G
 na:g.am∉m.ds
 nb:g.bx∉m.ds
def FrZ(g:GA)(m:MA)(H H':Hp):Prop:=∀b o,H b=some o->b∉[g.lv,g.pt,g.nm,g.am,g.bx,m.kc]->b∉m.ds->H' b=some o
section
variable{a:Ad}{H H' H1 H2 H3:Hp}{g:GA}{G G':Gv}{Κ:KTy}{N b i:Nat}{p dx mem pr:Addr}{r:AF}{m:MA}
theorem FrZ.trans(h:FrZ g m H1 H2)(k:FrZ g m H2 H3):FrZ g m H1 H3:=λb o e c d=>k b o (h b o e c d) c d
theorem AA.z(s:AA H H'):FrZ g m H H':=λb o e _ _=>s b o e
theorem Fr.z(f:Fr g H H'):FrZ g m H H':=λb o e c _=>f b o e (λz=>c (by simp[z])) (λz=>c (by simp[z])) (λz=>c (by simp[z]))
theorem FrQ.z(f:FrQ g H H'):FrZ g m H H':=λb o e c _=>f b o e (λz=>c (by simp[z])) (λz=>c (by simp[z]))
theorem FrJ.z(f:FrJ g m H H'):FrZ g m H H':=λb o e c d=>f b o e (λz=>c (by simp[z])) (λz=>c (by simp[z])) (λz=>c (by simp[z])) (λz=>c (by simp[z])) d
theorem ZS.same(h:ZS a H g G Κ N b p dx mem pr r m)(s:AA H H'):ZS a H' g G Κ N b p dx mem pr r m:=⟨h.jz.same s,h.fu.same s,h.na,h.nb⟩
theorem ZS.mono{c:Nat}(h:ZS a H g G Κ N b p dx mem pr r m)(e:b<=c):ZS a H g G Κ N c p dx mem pr r m:=⟨h.jz.mono e,h.fu,h.na,h.nb⟩
theorem ZS.fr(h:ZS a H g G Κ N b p dx mem pr r m)(f:Fr g H H')(c:AX a H' g G')(go:AG G G' i):ZS a H' g G' Κ N (b+i) p dx mem pr r m:=⟨h.jz.fr f c.at' go,c,h.na,h.nb⟩
theorem ZS.frQ(h:ZS a H g G Κ N b p dx mem pr r m)(f:FrQ g H H')(q:AX a H' g G):ZS a H' g G Κ N b p dx mem pr r m:=by
 have c:=h.jz.jw;have k:∀{x:Addr}{o:HO},H x=some o->(∀j,o≠.dK j)->H' x=some o:=λ{x o} e n=>f _ _ e (h.fu.ne_am e n).1 (h.fu.ne_am e n).2;have v:∀d∈m.ds,∀o,H d=some o->H' d=some o:=λd u o e=>f _ _ e (λz=>h.na (z▸u)) (λz=>h.nb (z▸u));obtain⟨C,A,_⟩:=c.me.ce;have s:Jb H' g G N (b+10*N) r m:=c.me.kp c.ok (AG.refl c.ok) λx o e w=>by
  rcases w with z|z|z|z
  ·subst z;exact k e (by rw[c.me.tp]at e;cases e;intro j z;cases z)
  ·subst z;exact k e (by rw[c.me.l]at e;cases e;intro j z;cases z)
  ·exact v x z o e
  ·subst z;exact k e (by rw[A]at e;cases e;intro j z;cases z)
 obtain⟨B,y⟩:=h.jz.cn;refine⟨⟨⟨q.at',c.ok,c.bs,q.br,c.nbr,k c.hp (by intro j z;cases z),c.ru.kp λx o e n=>k e (by intro j z;rw[z]at n;cases n),c.rok,c.rest,s⟩,B,y.kp (i:=0) c.ok (AG.refl c.ok) v λt e=>⟨t,k e (by intro j z;cases z),C1 _⟩⟩,q,h.na,h.nb⟩
theorem ZS.aft(h:ZS a H g G Κ N b p dx mem pr r m)(f:FrJ g m H H')(q:JZ a H' g G' Κ N b p dx mem pr r m)(go:AG G G' i):ZS a H' g G' Κ N b p dx mem pr r m:=by
 have y:=h.jz.jw;refine⟨q,?_,h.na,h.nb⟩;obtain⟨at',ok,⟨I,X⟩,K,⟨c,O,U⟩,⟨u,R,B⟩,Q,S,M⟩:=h.fu;obtain⟨us,hp,_⟩:=at'.pt;obtain⟨Z,D,_⟩:=y.me.ce;have s:∀{x:Addr}{o:HO},H x=some o->(∀c,o≠.dK c)->x∉m.ds:=λ{x o} e n z=>by
  obtain⟨j,w⟩:=J1 z;obtain⟨Y,k,_⟩:=y.me.sq j x w;rw[e]at k;cases k;exact n _ rfl
 obtain⟨t,T⟩:=go.pre;have A:∀{x:Addr}{c:List (Key×V)},H x=some (.dK c)->x∉m.ds->H' x=some (.dK c):=λ{x c} e n=>f _ _ e (AH e at'.lv A4) (AH e hp A4) (AH e at'.nm A4) (AH e D A4) n;refine⟨q.jw.gr,go.ok,⟨I++t,by rw[T,X,R7]⟩,q.jw.br,⟨c,A O h.na,U.app ok go⟩,⟨u,A R h.nb,B.keys.app go.le,λi v e=>?_⟩,Q,S,M⟩;obtain⟨l,P,t,C,k,E,d⟩:=B.val i v e;exact⟨l,P,t,go.lev C,by rw[Ic ok go l i C];exact k,E,f _ _ d (AH d at'.lv A4) (AH d hp A4) (AH d at'.nm A4) (AH d D A4) (s d (by intro c z;cases z))⟩
theorem ZS.keep(h:ZS a H g G Κ N b p dx mem pr r m)(f:FrZ g m H H'){x:Addr}{o:HO}(e:H x=some o)(k1:∀xs,o≠.lst xs)(k2:∀d,o≠.dK d)(k3:∀d,o≠.dT d):H' x=some o:=by
 have k:=h.jz.jw;obtain⟨us,hp,_⟩:=h.fu.at'.pt;obtain⟨s,q,_⟩:=k.me.ce;have l:=h.fu.ne_am e k2;refine f _ _ e (λz=>?_) (λz=>?_)
 ·simp only[B7,C6,K7]at z;rcases z with z|z|z|z|z|z
  ·exact AH e h.fu.at'.lv (k1 _) z
  ·exact AH e hp (k1 _) z
  ·exact AH e h.fu.at'.nm (k3 _) z
  ·exact l.1 z
  ·exact l.2 z
  ·exact AH e q (k3 _) z
 ·obtain⟨j,c⟩:=J1 z;obtain⟨t,n,_⟩:=k.me.sq j x c;exact AH e n (k2 _) rfl
theorem ZS.new(h:ZS a H g G Κ N b p dx mem pr r m){x:Addr}(n:H x=none):x∉[g.lv,g.pt,g.nm,g.am,g.bx,m.kc]/\x∉m.ds:=by
 have d:=h.jz.jw;obtain⟨us,hp,_⟩:=h.fu.at'.pt;obtain⟨e,q,_⟩:=d.me.ce;obtain⟨s,l,_⟩:=h.fu.am;obtain⟨k,o,_⟩:=h.fu.bx;refine⟨λz=>?_,λz=>?_⟩
 ·simp only[B7,C6,K7]at z;rcases z with rfl|rfl|rfl|rfl|rfl|rfl
  ·rw[h.fu.at'.lv]at n;cases n
  ·rw[hp]at n;cases n
  ·rw[h.fu.at'.nm]at n;cases n
  ·rw[l]at n;cases n
  ·rw[o]at n;cases n
  ·rw[q]at n;cases n
 ·obtain⟨j,c⟩:=J1 z;obtain⟨t,f,_⟩:=d.me.sq j x c;rw[f]at n;cases n
end
theorem JW.putL{a:Ad}{H:Hp}{g:GA}{G:Gv}{N M:Nat}{p dx mem f x:Addr}{r:AF}{m:MA}{xs:List V}{o:HO}(h:JW a H g G N M p dx mem f r m)(i:H x=some (.lst xs))(t:x≠g.lv)(u:x≠g.pt)(k:x≠g.br)(q:x≠m.l):JW a (upd H x o) g G N M p dx mem f r m:=by
 have c:∀{b v},H b=some v->(∀l,v≠.lst l)->upd H x o b=some v:=λ{b v} e n=>by rw[Ax (AH e i (n _))];exact e
 refine⟨h.gr.put i t u,h.ok,h.bs,by rw[Ax (X7 k)];exact h.br,h.nbr,c h.hp B0,h.ru.kp λb o e n=>c e λl z=>(by rw[z]at n;cases n),h.rok,h.rest,h.me.kp h.ok (AG.refl h.ok) λb o e w=>?_⟩;rcases w with z|z|z|z
 ·have d:=h.me.tp;rw[<-z,e]at d;cases d;exact c e B0
 ·rw[z]at e⊢;rw[Ax (X7 q)];exact e
 ·obtain⟨j,s⟩:=J1 z;obtain⟨A,d,_⟩:=h.me.sq j b s;rw[e]at d;cases d;exact c e B0
 ·obtain⟨y,d,_⟩:=h.me.ce;rw[z]at e⊢;rw[e]at d;cases d;exact c e B0
structure ApZ(g:GA)(m:MA)(x:Addr):Prop where
 n0:x∉[g.lv,g.pt,g.nm,g.am,g.bx,m.kc]
 n1:x∉m.ds
 n2:x≠g.br
 n3:x≠m.l
section
variable{a:Ad}{H H':Hp}{g:GA}{G G':Gv}{Κ:KTy}{N b i:Nat}{p dx mem pr:Addr}{r:AF}{m:MA}
theorem ZS.ap(h:ZS a H g G Κ N b p dx mem pr r m){x:Addr}(n:H x=none):ApZ g m x:=by
 obtain⟨d,c⟩:=h.new n;refine⟨d,c,λz=>?_,λz=>?_⟩
 ·rw[z,h.fu.br]at n;cases n
 ·rw[z,h.jz.jw.me.l]at n;cases n
theorem ZS.putL{x:Addr}{xs:List V}{o:HO}(h:ZS a H g G Κ N b p dx mem pr r m)(k:H x=some (.lst xs))(ap:ApZ g m x):ZS a (upd H x o) g G Κ N b p dx mem pr r m:=by
 have j:x≠g.lv:=λz=>ap.n0 (by simp[z]);have pt:x≠g.pt:=λz=>ap.n0 (by simp[z]);obtain⟨f,c⟩:=h.jz.cn;refine⟨⟨h.jz.jw.putL k j pt ap.n2 ap.n3,f,c.kp (i:=0) h.jz.jw.ok (AG.refl h.jz.jw.ok) (λd n o' e=>?_) λl e=>⟨l,?_,C1 _⟩⟩,h.fu.put k j pt ap.n2,h.na,h.nb⟩
 ·rw[Ax (λz:d=x=>ap.n1 (z▸n))];exact e
 ·rw[Ax (AH e k A4)];exact e
end
theorem Rz{G:Gv}(ok:GOk G){n f:Nat}(b:An G f ((n+1:Nat):Int)){x y:Nat}(c:x<2^(n+1))(a:y<2^(n+1)):Cr G (n+1) f x y=(fieldF G n f ((x:Int)-2^n) ((y:Int)-2^n):Nat):=by
 unfold Cr fieldF;have p:((2^(n+1):Nat):Int)=2^n+2^n:=by rw[J9];exact Cg n
 rw[Z9 A0,cel_F ok b c a];congr 2<;>lia
seal L2.PA L2.PE L2.PS L2.PSs L2.PT L2.PW
inductive Uz(H:Hp):V->Prop
 |non:Uz H .non
 |bl (b:Bool):Uz H (.bl b)
 |str (z:Str):Uz H (.str z)
 |lst {p:Addr} {xs:List V} (h:H p=some (.lst xs)):Uz H (.ref p)
theorem ZA(K:W.Frag):kitOne K (.type "int") (.type "int")=some true/\kitOne K (.type "int") (.type "bool")=some false:=⟨by kernel_rfl,by kernel_rfl⟩
theorem Pa(K:W.Frag):kitOne K (.type "bool") (.type "int")=some true/\kitOne K (.type "bool") (.type "bool")=some true/\kitOne K (.type "str") (.type "int")=some false/\kitOne K (.type "NoneType") (.type "int")=some false/\kitOne K (.type "list") (.type "int")=some false:=⟨by kernel_rfl,by kernel_rfl,by kernel_rfl,by kernel_rfl,by kernel_rfl⟩
section
variable{P:Program}{w:World}{K:W.Frag}{mg:Str->Option Value}{base:Heap}{a:Ad}
inductive SpIWx(vs:List V)(H:Hp)(Q:VK):Prop
 |mk (i:Int) (_:vs=[.int i]) (_:Q (.bl true) H):SpIWx vs H Q
 |no (v:V) (_:vs=[v]) (_:Uz H v) (_:Q (.bl false) H):SpIWx vs H Q
def UU:Sp:=λvs H Q _=>SpIWx vs H Q
theorem ok_iwx(F:Fun K "is_whole" "is_whole" Ir f fd)(T:Top K mg a):AL P w K mg base CX0 1 f fd TX UU:=by
 refine F.ok Nt (λvs H Q E h=>?_) (λd A c s H vs Q E g h=>?_)
 ·cases h with
  |mk i e=>rw[e];rfl
  |no v e=>rw[e];rfl
 ·cases h with
  |mk i e k =>
   subst e;refine⟨_,(Ah (As (IH (AQ Ds rfl T.b_isinstance K6 (Aa (pv 0) (Aa (Fp (v:=.ty "int") rfl T.b_int A1b rfl) Ae))) (IG (QY (AQ Ds rfl T.b_isinstance K6 (Aa (pv 0) (Aa (Fp (v:=.ty "bool") rfl T.b_bool A4b rfl) Ae)))))))),?_⟩
   try dsimp only[cxK]
   exact⟨_,rfl,_,_,_,.type "int",true,rfl,rfl,.of (.int i),(ZA K).1,true,rfl,BL ⟨_,rfl,_,_,_,.type "int",false,rfl,rfl,.of (.int i),(ZA K).2,false,rfl,k⟩⟩
  |no v e o k =>
   subst e;refine⟨_,(Ah (As (IH (AQ Ds rfl T.b_isinstance K6 (Aa (pv 0) (Aa (Fp (v:=.ty "int") rfl T.b_int A1b rfl) Ae))) (IG (QY (AQ Ds rfl T.b_isinstance K6 (Aa (pv 0) (Aa (Fp (v:=.ty "bool") rfl T.b_bool A4b rfl) Ae)))))))),?_⟩
   try dsimp only[cxK]
   cases o with
   |bl b=>exact⟨_,rfl,_,_,_,.type "bool",true,rfl,rfl,.of (.bl b),(Pa K).1,true,rfl,BL ⟨_,rfl,_,_,_,.type "bool",true,rfl,rfl,.of (.bl b),(Pa K).2.1,true,rfl,k⟩⟩
   |str z=>exact⟨_,rfl,_,_,_,.type "str",false,rfl,rfl,.of (.str z),(Pa K).2.2.1,false,rfl,Ba k⟩
   |non=>exact⟨_,rfl,_,_,_,.type "NoneType",false,rfl,rfl,.of .non,(Pa K).2.2.2.1,false,rfl,Ba k⟩
   |lst h=>exact⟨_,rfl,_,_,_,.type "list",false,rfl,rfl,.of (.lst h),(Pa K).2.2.2.2,false,rfl,Ba k⟩
inductive SpLvF(a:Ad)(vs:List V)(H:Hp)(Q:VK):Prop
 |mk (g:GA) (G:Gv) (f n e:Nat) (_:vs=[.ref g.p,.int f,.int e]) (_:AN a H g G) (_:An G f ((n+1:Nat):Int)) (_:n<=40) (_:e<=40) (_:∀l:Nat,l<=41->n<=l->e<=l->2^n+2^e<=2^l->Q (.int ((l+2:Nat):Int)) H):SpLvF a vs H Q
def Ys(a:Ad):Sp:=λvs H Q _=>SpLvF a vs H Q
theorem ok_lvf(F:Fun K "level_for" "level_for" Jo f fd)(T:Top K mg a)(C:Cal P w K mg base CX0 4 "reach_of" TV (Ij a)):AL P w K mg base CX0 5 f fd Jw (Ys a):=by
  refine F.ok Fk (λ_ _ _ _ h=>by rcases h;subst_vars;rfl) λU A t s H vs Q E N h=>?_
  obtain⟨g,G,c,n,e,rfl,M,S,r,o,k⟩:=h;refine⟨_,(Ab (Ao (i:=3) Fk.nd rfl (Or.inl rfl) (AE Bb (Aw C (rm N) rfl Aq (Aa (pv 0) (Aa (pv 1) Ae))) (AE MY Ac (pv 2)))) (Ab (Ao (i:=4) Fk.nd rfl (Or.inl rfl) Ac) (Ab (Jt K8 (Ay Fe (AE MY Ac (AE AS (pv 4) Ac)) (pv 3) (AD _)) (Ah (Ao (i:=4) Fk.nd rfl (Or.inl rfl) (AE Bb (pv 4) Ac)))) (Ah (As (pv 4)))))),?_⟩
  try dsimp only[cxK]
  refine AZ ?_;intro Z s1 k1 q E1;refine xw2 rfl rfl ⟨g,G,c,n,rfl,M,S,by lia,?_⟩;refine xwb rfl rfl rfl ⟨⟨by lia,by lia,by decide⟩,_,_,rfl,rfl,?_⟩;have D:(2:Int)^n+1*2^(e:Int).toNat=((2^n+2^e:Nat):Int):=by
   rw[L7,Int.one_mul,M7,J9,J9];rfl
  have Y:2^n<=2^40:=O0 A3 r;have pe:2^e<=2^40:=O0 A3 o;have y:=AK n;have I:=AK e;rw[show(λi j:Int=>V.int (i+j)) (2^n) ((λi j:Int=>i*2^j.toNat) 1 (e:Int))=V.int ((2^n+2^e:Nat):Int)from K5 V.int D];generalize O:2^n+2^e=R at k;have X:R<=2^41:=by rw[<-O];lia
  refine q ?_;refine AZ ?_;intro r2 s2 k2 l E2;refine l ?_;refine⟨λm σ d=>∃j:Nat,σ=[some (.ref g.p),some (.int c),some (.int (e:Int)),some (.int (R:Int)),some (.int ((j+2:Nat):Int))]/\d=H/\j+m=41,⟨41,0,rfl,rfl,rfl⟩,?_⟩;rintro m σ d ⟨j,rfl,rfl,jm⟩;refine xwb rfl rfl rfl ⟨_,_,rfl,rfl,⟨by lia,by lia,by decide⟩,_,rfl,_,_,rfl,rfl,_,rfl,?_⟩;have u:(1:Int)*2^(((j+2:Nat):Int)-2).toNat=((2^j:Nat):Int):=by
   rw[show(((j+2:Nat):Int)-2).toNat=j by lia,Int.one_mul,J9];rfl
  refine Fw (λb=>?_) (λb=>?_)
  ·have b:=X8 b;have b:(1:Int)*2^(((j+2:Nat):Int)-2).toNat<(R:Int):=b;rw[u]at b;have m0:m≠0:=λz=>by
    subst z;have:j=41:=by lia
    subst this;lia
   refine⟨fun σ' v=>∃x:Nat,σ'=[some (.ref g.p),some (.int c),some (.int (e:Int)),some (.int (R:Int)),some (.int ((x+2:Nat):Int))]/\v=d/\x+(m-1)=41,fun σ' v z=>⟨m-1,by lia,z⟩,?_⟩;have B:((j+2:Nat):Int)+1=((j+1+2:Nat):Int):=by lia
   exact xwb rfl rfl rfl ⟨j+1,K5 (λz:Int=>[some (V.ref g.p),some (V.int c),some (V.int (e:Int)),some (V.int (R:Int)),some (V.int z)]) B,rfl,by lia⟩
  ·have b:¬(1:Int)*2^(((j+2:Nat):Int)-2).toNat<(R:Int):=λz=>b (Z7 z);rw[u]at b;have le:R<=2^j:=by lia
   refine⟨_,rfl,k j A0 ?_ ?_ le⟩
   ·refine P0 λz=>?_;have:2^j<2^n:=W1 A3 z;lia
   ·refine P0 λz=>?_;have:2^j<2^e:=W1 A3 z;lia
inductive SpWT(a:Ad)(vs:List V)(H:Hp)(Q:VK):Prop
 |mk (g:GA) (G:Gv) (f n k:Nat) (_:vs=[.ref g.p,.int f,.int ((n+k+1:Nat):Int)]) (_:AX a H g G) (_:An G f ((n+1:Nat):Int)) (_:n+k<=46) (_:G.length<8000000) (_:∀(v:Nat)(G':Gv)(H':Hp),Fr g H H'->AX a H' g G'->AG G G' (5*k)->Np G' n f k v->An G' v ((n+k+1:Nat):Int)->Q (.int v) H'):SpWT a vs H Q
def spWT(a:Ad):Sp:=λvs H Q _=>SpWT a vs H Q
theorem ok_wt(F:Fun K "widened_to" "widened_to" Im f fd)(T:Top K mg a)(Z:Cb P w K mg base CX0 3 a.c_Grove "level_of" JF (Ma a))(V:Cal P w K mg base CX0 4 "widened" JU (UQ a)):AL P w K mg base CX0 5 f fd II (spWT a):=by
  refine F.ok Gs (λ_ _ _ _ h=>by rcases h;subst_vars;rfl) λaa A C s H vs Q E R h=>?_
  obtain⟨g,G,r,n,d,rfl,N,X,Y,few,k⟩:=h;refine⟨_,(Ab (Ao (i:=3) Gs.nd rfl (Or.inl rfl) (pv 1)) (Ab (Jt K8 (Ay Fe (AI (pv 0) Z (rm R) Aq (Aa (pv 3) Ae)) (pv 2) (AD _)) (Ah (Ao (i:=3) Gs.nd rfl (Or.inl rfl) (Aw V (rm R) rfl Aq (Aa (pv 0) (Aa (pv 3) Ae)))))) (Ah (As (pv 3))))),?_⟩
  try dsimp only[cxK]
  refine xq1 rfl ?_;refine⟨λm σ x=>∃(e:Gv)(c j:Nat),σ=[some (.ref g.p),some (.int r),some (.int ((n+d+1:Nat):Int)),some (.int c)]/\Fr g H x/\AX a x g e/\AG G e (5*j)/\j+m=d/\An e c ((n+j+1:Nat):Int)/\Np e n r j c,⟨d,G,r,0,rfl,Fr.refl g H,N,AG.refl N.ok,by lia,X,rfl⟩,?_⟩;rintro m σ x ⟨e,c,j,rfl,fr,b,go,U,B,O⟩;have gf:=go.few;obtain⟨q,eq,S⟩:=id B;refine⟨_,rfl,g.p,g.dx,_,rfl,b.at'.hp,DF g,_,rfl,⟨g,e,c,q,rfl,b.at',eq,?_⟩⟩;rw[S];refine⟨_,rfl,_,_,rfl,rfl,_,rfl,Fw (λv=>?_) (λv=>?_)⟩
  ·have v:((n+j+1:Nat):Int)<((n+d+1:Nat):Int):=X8 v;refine⟨fun σ' D=>∃(o:Gv)(u y:Nat),σ'=[some (.ref g.p),some (.int r),some (.int ((n+d+1:Nat):Int)),some (.int u)]/\Fr g H D/\AX a D g o/\AG G o (5*y)/\y+(m-1)=d/\An o u ((n+y+1:Nat):Int)/\Np o n r y u,fun σ' D z=>⟨m-1,by lia,z⟩,?_⟩;refine xw2 rfl rfl ⟨g,e,c,n+j,rfl,b,B,by lia,by lia,λu o H3 t I l M=>?_⟩;refine⟨o,u,j+1,rfl,fr.trans t,b.fr t I l,(go.trans l).mono A0,by lia,?_,⟨c,O.app l,M⟩⟩;have:=M.lev;rw[show n+(j+1)+1=n+j+2 by lia];exact this
  ·have v:¬((n+j+1:Nat):Int)<((n+d+1:Nat):Int):=λz=>v (Z7 z);have:j=d:=by lia
   subst this;exact⟨_,rfl,k c e x fr b go O B⟩
end
end J
namespace J
open PySem L2
def sF(r:AF)(φ:Int->Int->Nat):Int->Int->Nat:=λx y=>(Dn r (φ x y:Nat) [((φ (x-1) (y-1):Nat):Int),((φ x (y-1):Nat):Int),((φ (x+1) (y-1):Nat):Int),((φ (x-1) y:Nat):Int),((φ (x+1) y:Nat):Int),((φ (x-1) (y+1):Nat):Int),((φ x (y+1):Nat):Int),((φ (x+1) (y+1):Nat):Int)]).toNat
def sFN(r:AF):Nat->(Int->Int->Nat)->Int->Int->Nat
 |0,φ=>φ
 |n+1,φ=>sF r (sFN r n φ)
theorem JS(r:AF)(φ:Int->Int->Nat)(n:Nat):∀m,sFN r (m+n) φ=sFN r m (sFN r n φ)
 |0=>by rw[N6];rfl
 |m+1=>by
  rw[show m+1+n=(m+n)+1 by lia];show sF r (sFN r (m+n) φ)=sF r (sFN r m (sFN r n φ));rw[JS r φ n m]
theorem Vb(r:AF){φ ψ:Int->Int->Nat}{X Y:Int}:∀(k:Nat)(x y:Int),(∀u v,x-k<=u->u<=x+k->y-k<=v->v<=y+k->φ u v=ψ (u+X) (v+Y))->sFN r k φ x y=sFN r k ψ (x+X) (y+Y)
 |0,x,y,h=>h x y A0 A0 A0 A0
 |k+1,x,y,h=>by
  have c:∀u v,x-1<=u->u<=x+1->y-1<=v->v<=y+1->sFN r k φ u v=sFN r k ψ (u+X) (v+Y):=λu v e i j m=>Vb r k u v λa b d l f g=>h a b A0 A0 A0 A0;show sF r (sFN r k φ) x y=sF r (sFN r k ψ) (x+X) (y+Y);unfold sF;rw[c x y A0 A0 A0 A0,c (x-1) (y-1) A0 A0 A0 A0,c x (y-1) A0 A0 A0 A0,c (x+1) (y-1) A0 A0 A0 A0,c (x-1) y A0 A0 A0 A0,c (x+1) y A0 A0 A0 A0,c (x-1) (y+1) A0 A0 A0 A0,c x (y+1) A0 A0 A0 A0,c (x+1) (y+1) A0 A0 A0 A0];rw[show x-1+X=x+X-1 by lia,show y-1+Y=y+Y-1 by lia,show x+1+X=x+X+1 by lia,show y+1+Y=y+Y+1 by lia]
theorem Jr{r:AF}(h:Dn r 0 CT=0):∀k,sFN r k (λ_ _=>0)=λ_ _=>0
 |0=>rfl
 |k+1=>by
  show sF r (sFN r k λ_ _=>0)=_;rw[Jr h k]
  funext x y
  show(Dn r ((0:Nat):Int) CT).toNat=0;rw[show((0:Nat):Int)=0 from rfl,h];rfl
theorem OI{r:AF}(h:Dn r 0 CT=0){φ:Int->Int->Nat}{k:Nat}{x y:Int}(z:sFN r k φ x y≠0):∃u v,x-k<=u/\u<=x+k/\y-k<=v/\v<=y+k/\φ u v≠0:=by
 refine X4 λno=>z ?_;have:=Vb r (φ:=φ) (ψ:=λ_ _=>0) (X:=0) (Y:=0) k x y λu v c a b d=>X4 λq=>no ⟨u,v,c,a,b,d,q⟩;rw[this,Jr h]
theorem bec_nn{r:AF}(h:MH r){cell:Int}(d:0<=cell)(a:List Int):0<=Dn r cell a:=by
 cases e:NO r cell a with
 |none=>rw[Pl e];exact d
 |some i =>
  obtain⟨c,f,b⟩:=Pk e;rw[b];exact(h.ok c (D7 f)).makes.1
theorem NU{r:AF}(e:MH r){c:Nat->Nat->Int}{φ:Int->Int->Nat}{X Y:Int}:∀(k x y:Nat),k<=x->k<=y->(∀u v:Nat,x-k<=u->u<=x+k->y-k<=v->v<=y+k->c u v=(φ ((u:Int)+X) ((v:Int)+Y):Nat))->Bl r k c x y=(sFN r k φ ((x:Int)+X) ((y:Int)+Y):Nat)
 |0,x,y,_,_,h=>h x y A0 A0 A0 A0
 |k+1,x,y,hx,hy,h=>by
  have d:∀u v:Nat,x-1<=u->u<=x+1->y-1<=v->v<=y+1->Bl r k c u v=(sFN r k φ ((u:Int)+X) ((v:Int)+Y):Nat):=λu v g l m o=>NU e k u v A0 A0 λa b f n i j=>h a b A0 A0 A0 A0;show Dn r (Bl r k c x y) [Bl r k c (x-1) (y-1),Bl r k c x (y-1),Bl r k c (x+1) (y-1),Bl r k c (x-1) y,Bl r k c (x+1) y,Bl r k c (x-1) (y+1),Bl r k c x (y+1),Bl r k c (x+1) (y+1)]=((sF r (sFN r k φ) ((x:Int)+X) ((y:Int)+Y):Nat):Int)
  unfold sF;rw[O8 (bec_nn e (Int.natCast_nonneg _) _)];rw[d x y A0 A0 A0 A0,d (x-1) (y-1) A0 A0 A0 A0,d x (y-1) A0 A0 A0 A0,d (x+1) (y-1) A0 A0 A0 A0,d (x-1) y A0 A0 A0 A0,d (x+1) y A0 A0 A0 A0,d (x-1) (y+1) A0 A0 A0 A0,d x (y+1) A0 A0 A0 A0,d (x+1) (y+1) A0 A0 A0 A0];rw[show((x-1:Nat):Int)+X=x+X-1 by lia,show((y-1:Nat):Int)+Y=y+Y-1 by lia,show((x+1:Nat):Int)+X=x+X+1 by lia,show((y+1:Nat):Int)+Y=y+Y+1 by lia]
theorem fld_jg{G:Gv}(ok:GOk G){r:AF}(o:MH r)(re:Dn r 0 CT=0){l e f k:Nat}(g:An G f ((l+1+1:Nat):Int))(jr:JR r G e f k){φ:Int->Int->Nat}(h:∀x y,fieldF G (l+1) f x y=φ x y)(b:∀x y,φ x y≠0->-(2^l)+2^e<=x/\x+2^e<2^l/\-(2^l)+2^e<=y/\y+2^e<2^l):An G k ((l+1:Nat):Int)/\∀x y,fieldF G l k x y=sFN r (2^e) φ x y:=by
 obtain⟨a,s,H,c,A⟩:=jr;have n:a=l:=by
  have:=s.one g;lia
 subst n;have p:((2^(a+1):Nat):Int)=2^a+2^a:=by rw[J9];exact Cg a
 have i:((2^a:Nat):Int)=2^a:=J9 2 a;have I:((2^e:Nat):Int)=2^e:=J9 2 e;have M:((2^(a+2):Nat):Int)=2^a+2^a+(2^a+2^a):=by
  rw[J9];show(2:Int)^(a+2)=_;rw[show(2:Int)^(a+2)=2^(a+1)+2^(a+1)from Cg (a+1),Cg]
 have le:2^e<=2^a:=O0 A3 H;refine⟨c,λx y=>?_⟩;by_cases z:-(2^a)<=x/\x<2^a/\-(2^a)<=y/\y<2^a
 ·obtain⟨E,N,m,b2⟩:=z;have at':(fieldF G a k x y:Int)=Bl r (2^e) (Cr G (a+2) f) ((x+2^a).toNat+2^a) ((y+2^a).toNat+2^a):=by
   rw[<-A _ _ A0 A0,Rz ok c A0 A0];congr 2<;>lia
  have d:∀u:Int,-(2^a)<=u->((((u+2^a).toNat+2^a:Nat):Int)+-(2^(a+1)))=u:=λu K=>by
   rw[Cg,M7,i];lia
  rw[NU o (φ:=φ) (X:=-(2^(a+1))) (Y:=-(2^(a+1))) _ _ _ A0 A0 (λu v C B D j=>?_),d x E,d y m]at at'
  ·exact X6 at'
  ·rw[Rz ok g A0 A0,h];rfl
 ·unfold fieldF;rw[Z6 z];refine(X4 λq=>?_);obtain⟨u,v,C,B,D,j,t⟩:=OI re (λw=>q w.symm);have:=b u v t;lia
def Kg(r:AF)(F:List (Int->Int->Nat))(T:Nat):KTy:=λl e ψ=>l<47/\((∀x y,x<2^(l+2)->y<2^(l+2)->ψ x y=0)\/∃φ∈F,∃(t:Nat)(i j:Int),t+2^e<=T/\∀x y,x<2^(l+2)->y<2^(l+2)->ψ x y=(sFN r t φ ((x:Int)+2^l*i) ((y:Int)+2^l*j):Nat))
theorem kg_cl{r:AF}(p:MH r)(re:Dn r 0 CT=0)(F:List (Int->Int->Nat))(T:Nat):ClK r (Kg r F T):=by
 have n:∀l,2^(l+1)=2^l*2:=λl=>F4 ..;have s:∀l:Nat,(2:Int)^(l+1)=2^l*2:=λl=>V6 ..;have q:∀l,2^(l+2)=2^l*2*2:=λl=>by rw[F4,F4]
 have o:∀l,2^(l+1+2)=2^l*2*2*2:=λl=>by rw[F4,F4,F4]
 have nine:∀{l e g ψ},Kg r F T (l+1) e ψ->2^g<=2^e->∀i j,i<3->j<3->Kg r F T l g λx y=>ψ (x+2^(l+1)*i) (y+2^(l+1)*j):=λ{l e g ψ} h N i j D A=>by
  have w:2^(l+1)*i<=2^(l+1)*2:=N7 _ A0;have b2:2^(l+1)*j<=2^(l+1)*2:=N7 _ A0;have I:=n l;have E:=q l;have H:=o l;refine⟨by have:=h.1;lia,?_⟩;rcases h.2 with z|⟨φ,b,t,a,f,M,z⟩
  ·exact .inl λx y k m=>z _ _ A0 A0
  ·refine .inr ⟨φ,b,t,2*a+2*(i:Int),2*f+2*(j:Int),by lia,λx y k m=>?_⟩;show ψ _ _=_;rw[z _ _ A0 A0];have d:∀(x i:Nat)(a:Int),((x+2^(l+1)*i:Nat):Int)+2^(l+1)*a=(x:Int)+2^l*(2*a+2*(i:Int)):=λx i a=>by
    rw[M7,O5,J9];show(x:Int)+2^(l+1)*(i:Int)+2^(l+1)*a=_;rw[s,W8,Y6,Y6];lia
   rw[d,d]
 refine⟨λh _=>nine h (C1 _),λ{l φ} h=>nine h (by rw[n];lia),λ{l ψ} h i j D A=>?_⟩;have w:2^(l+1)*i<=2^(l+1)*1:=N7 _ A0;have b2:2^(l+1)*j<=2^(l+1)*1:=N7 _ A0;have I:=n l;have E:=q l;have H:=o l;refine⟨by have:=h.1;lia,?_⟩;rcases h.2 with z|⟨φ,b,t,a,f,M,z⟩
 ·refine .inl λx y k m=>?_;have:=NU p (c:=ψ) (φ:=λ_ _=>0) (X:=0) (Y:=0) (2^l) (x+(2^(l+1)*i+2^l)) (y+(2^(l+1)*j+2^l)) A0 A0 λu v B K G C=>z u v A0 A0;rw[Jr re]at this;exact this
 ·refine .inr ⟨φ,b,t+2^l,2*a+(2*(i:Int)+1),2*f+(2*(j:Int)+1),by lia,λx y k m=>?_⟩;have:=NU p (c:=ψ) (φ:=sFN r t φ) (X:=2^(l+1)*a) (Y:=2^(l+1)*f) (2^l) (x+(2^(l+1)*i+2^l)) (y+(2^(l+1)*j+2^l)) A0 A0 λu v B K G C=>z u v A0 A0;show Bl r (2^l) ψ _ _=_;rw[this,<-JS,S6];have d:∀(x i:Nat)(a:Int),((x+(2^(l+1)*i+2^l):Nat):Int)+2^(l+1)*a=(x:Int)+2^l*(2*a+(2*(i:Int)+1)):=λx i a=>by
   rw[M7,M7,O5,J9,J9];show(x:Int)+(2^(l+1)*(i:Int)+2^l)+2^(l+1)*a=_;rw[s,W8,W8,Y6,Y6,Int.mul_one];lia
  rw[d,d]
def wl(W T l:Nat):Nat:=(W+2*T)/2^l+5
def sg(k T W D l:Nat):Nat:=1+k*(T*(wl W T l*wl D T l))
def mg(k T W D e:Nat):Nat:=if 2^e<=T then((List.range 47).map (sg k T W D)).sum else 47
def ng(k T W D:Nat):Nat:=s47 (mg k T W D)
def winF(ψ:Int->Int->Nat)(l:Nat)(i j:Int):Sht:=λx y=>(ψ ((x:Int)+2^l*i) ((y:Int)+2^l*j):Nat)
abbrev Fbx:=(Int->Int->Nat)×Int×Int
def WU(r:AF)(T W D l:Nat)(q:Fbx):List (Nat×Sht):=(List.range T).flatMap λt=>(List.range (wl W T l*wl D T l)).map λd=>(l,winF (sFN r t q.1) l ((q.2.1-T)/2^l-3+((d%wl W T l:Nat):Int)) ((q.2.2-T)/2^l-3+((d/wl W T l:Nat):Int)))
def Vq(r:AF)(T W D:Nat)(qs:List Fbx)(e:Nat):List (Nat×Sht):=(List.range 47).flatMap λl=>(l,λ_ _=>0)::if 2^e<=T then qs.flatMap (WU r T W D l)else []
theorem SZ{α β:Type}(f:α->List β)(m:α->Nat):∀l:List α,(∀x∈l,(f x).length<=m x)->(l.flatMap f).length<=(l.map m).sum
 |[],_=>by simp
 |a::l,h=>by
  have:=SZ f m l λx b=>h x (C8 _ b);have:=h a C7;rw[Z4,C4,F7,P4];lia
theorem Wx(r:AF)(T W D:Nat)(a:List Fbx)(e:Nat):(Vq r T W D a e).length<=mg a.length T W D e:=by
 unfold Vq mg;by_cases h:2^e<=T
 ·rw[Z9 h];simp only[Z9 h];refine SZ _ _ _ λl _=>?_;rw[F0];have:=Of (WU r T W D l) (T*(wl W T l*wl D T l)) a λq _=>by
   unfold WU;have:=Of (λt=>(List.range (wl W T l*wl D T l)).map λd=>(l,winF (sFN r t q.1) l ((q.2.1-T)/2^l-3+((d%wl W T l:Nat):Int)) ((q.2.2-T)/2^l-3+((d/wl W T l:Nat):Int)))) (wl W T l*wl D T l) (List.range T) λt _=>by rw[B5,M6];exact C1 _
   rw[M6]at this;exact this
  unfold sg;lia
 ·rw[Z6 h];simp only[Z6 h];have:=Of (λl=>[((l,λ_ _=>0):Nat×Sht)]) 1 (List.range 47) λl _=>C1 _;rw[M6]at this;exact this
theorem kg_ext{r:AF}{F:List (Int->Int->Nat)}{T l e:Nat}{φ ψ:Sht}(h:Kg r F T l e φ)(q:WQ l φ ψ):Kg r F T l e ψ:=by
 refine⟨h.1,?_⟩;rcases h.2 with d|⟨c,m,t,i,j,f,d⟩
 ·exact .inl λx y b a=>(q x y b a).symm.trans (d x y b a)
 ·exact .inr ⟨c,m,t,i,j,f,λx y b a=>(q x y b a).symm.trans (d x y b a)⟩
theorem WV{l T W t:Nat}{x:Nat}{i X u:Int}(w:x<2^(l+2))(s:t<=T)(h:(x:Int)+2^l*i-t<=u)(o:u<=(x:Int)+2^l*i+t)(r:X<=u)(z:u<X+W):∃d,d<wl W T l/\i=(X-T)/2^l-3+((d:Nat):Int):=by
 have a:(0:Int)<2^l:=by have:=AK l;have e:((2^l:Nat):Int)=2^l:=J9 2 l;lia
 have y:((2^(l+2):Nat):Int)=2^l*4:=by rw[J9];show(2:Int)^(l+2)=_;rw[V6,V6];lia
 have v:(((W+2*T)/2^l:Nat):Int)=((W:Int)+2*T)/2^l:=by rw[T0,J9];rfl
 generalize k:(2:Int)^l=P at *
 generalize eq:(X-T)/P=q;have f:=Int.emod_add_mul_ediv (X-T) P;have p:=O9 (X-T) (Int.ne_of_gt a);have m:=N9 (X-T) a;rw[eq]at f;have j:=Int.emod_add_mul_ediv ((W:Int)+2*T) P;have g:=N9 ((W:Int)+2*T) a;generalize n:((W:Int)+2*T)/P=b at *
 have lo:P*(q-4)<P*i:=by rw[Int.mul_sub];lia
 have c:P*i<P*(q+b+2):=by rw[W8,W8];lia
 have lo:=Int.lt_of_mul_lt_mul_left lo (Int.le_of_lt a);have c:=Int.lt_of_mul_lt_mul_left c (Int.le_of_lt a);refine⟨(i-q+3).toNat,?_,by lia⟩;unfold wl;lia
def InBx(F:List (Int->Int->Nat))(W D:Nat)(qs:List Fbx):Prop:=∀φ∈F,∀u v,φ u v≠0->∃X Y,(φ,X,Y)∈qs/\X<=u/\u<X+W/\Y<=v/\v<Y+D
theorem kg_fin{r:AF}(re:Dn r 0 CT=0){F:List (Int->Int->Nat)}{T W D:Nat}{b:List Fbx}(G:InBx F W D b):JM (Kg r F T) (ng b.length T W D):=by
 refine⟨⟨mg b.length T W D,C1 _,λe=>⟨Vq r T W D b e,Wx r T W D b e,λl ψ h=>?_⟩⟩,kg_ext⟩;obtain⟨p,f⟩:=h;have zero:(∀x y,x<2^(l+2)->y<2^(l+2)->ψ x y=0)->∃g,(l,g)∈Vq r T W D b e/\WQ l ψ g:=λz=>⟨λ_ _=>0,S9.mpr ⟨l,M0.mpr p,C7⟩,z⟩
 rcases f with f|⟨φ,o,t,i,j,R,f⟩
 ·exact zero f
 ·by_cases z:∀x y,x<2^(l+2)->y<2^(l+2)->ψ x y=0
  ·exact zero z
  ·obtain⟨x,z⟩:=Classical.not_forall.mp z;obtain⟨y,z⟩:=Classical.not_forall.mp z;obtain⟨k,z⟩:=Classical.not_imp.mp z;obtain⟨n,z⟩:=Classical.not_imp.mp z;rw[f x y k n]at z;have z:sFN r t φ ((x:Int)+2^l*i) ((y:Int)+2^l*j)≠0:=λq=>z (by rw[q];rfl);obtain⟨u,v,N,I,B,b2,c⟩:=OI re z;obtain⟨X,Y,m,E,O,C,w⟩:=G φ o u v c;have Q:=AK e;obtain⟨d,s,H⟩:=WV (T:=T) (W:=W) k A0 N I E O;obtain⟨a,P,M⟩:=WV (T:=T) (W:=D) n A0 B b2 C w;have A:0<wl W T l:=by unfold wl;lia
   have K:(d+wl W T l*a)%wl W T l=d:=by rw[P9,N3 s]
   have dd:(d+wl W T l*a)/wl W T l=a:=by rw[P1 _ _ A,N8 s,N6]
   have lt:d+wl W T l*a<wl W T l*wl D T l:=by
    have:wl W T l*(a+1)<=wl W T l*wl D T l:=N7 _ P;rw[Nat.mul_add]at this;lia
   refine⟨winF (sFN r t φ) l i j,S9.mpr ⟨l,M0.mpr p,C8 _ ?_⟩,λx y k n=>f x y k n⟩;rw[Z9 A0];refine S9.mpr ⟨_,m,S9.mpr ⟨t,M0.mpr A0,C3.mpr ⟨d+wl W T l*a,M0.mpr lt,?_⟩⟩⟩;rw[K,dd];show(l,winF (sFN r t φ) l ((X-T)/2^l-3+((d:Nat):Int)) ((Y-T)/2^l-3+((a:Nat):Int)))=_;rw[<-H,<-M]
theorem fld_kg{G:Gv}(ok:GOk G){r:AF}{F:List (Int->Int->Nat)}{T l f e t:Nat}(g:l<47)(b:An G f ((l+1+1:Nat):Int)){φ:Int->Int->Nat}(m:φ∈F)(c:t+2^e<=T)(h:∀x y,fieldF G (l+1) f x y=sFN r t φ x y):Kg r F T l e (Cr G (l+2) f):=by
 refine⟨by lia,.inr ⟨φ,m,t,-2,-2,c,λx y d a=>?_⟩⟩;rw[Rz ok b d a,h];have e:(2:Int)^(l+1)=2^l*2:=V6 ..;rw[e];congr 2<;>lia
seal L2.PA L2.PE L2.PS L2.PSs L2.PT L2.PW
def EE(φ:Int->Int->Nat)(k:Nat):Prop:=∀x y,φ x y≠0->-(2^40)+(k:Int)<=x/\x+k<2^40/\-(2^40)+(k:Int)<=y/\y+k<2^40
theorem Zm {φ:Int->Int->Nat} {b:Bx} (t:CF (λx y=>φ x y≠0) b) (k:Nat):EF (b.l-k) (b.t-k) (b.w+2*k) (b.h+2*k) (2^40)↔EE φ k:=by
 unfold EF;constructor
 ·rintro⟨a,c,d,e⟩ x y h;have:=t.inn x y h;lia
 ·intro h;obtain⟨j,a⟩:=t.le;obtain⟨f,c⟩:=t.to;obtain⟨g,d⟩:=t.ri;obtain⟨n,e⟩:=t.bo;have i:=h _ _ a;have m:=h _ _ c;have p:=h _ _ d;have o:=h _ _ e;lia
section
variable{P:Program}{w:World}{K:W.Frag}{mg:Str->Option Value}{base:Heap}{a:Ad}
inductive SpChL(a:Ad)(vs:List V)(H:Hp)(Q:VK)(E:XK):Prop
 |mk (g:GA) (G:Gv) (f n k:Nat) (_:vs=[.ref g.p,.int f,.int (k:Int)]) (_:AX a H g G) (_:An G f ((n+1:Nat):Int)) (_:n<48) (_:G.length<8000000) (_:EE (fieldF G n f) k->∀H',FrQ g H H'->AX a H' g G->Q .non H') (_:¬EE (fieldF G n f) k->∀H',FrQ g H H'->AX a H' g G->E (.ref a.x_TooFar) none H'):SpChL a vs H Q E
 |no (q f v:V) (_:vs=[q,f,v]) (_:Uz H v\/∃i:Int,v=.int i/\i<0) (_:E (.ref a.x_NoSteps) none H):SpChL a vs H Q E
def YA(a:Ad):Sp:=λvs H Q E=>SpChL a vs H Q E
theorem ok_chl(F:Fun K "check_leap" "check_leap" Iu f fd)(T:Top K mg a)(aB:Cal P w K mg base CX0 1 "is_whole" TX UU)(Z:Cal P w K mg base CX0 102 "box_of" TV (Mc a))(aA:Cal P w K mg base CX0 1 "lies_within" PF Qa):AL P w K mg base (CXE P w) 103 f fd IL (YA a):=by
 refine F.okE Gu (λvs H Q E h=>?_) (λaa A U s H vs Q E d h=>?_)
 ·cases h with
  |mk g G M n k e=>rw[e];rfl
  |no q M v e=>rw[e];rfl
 ·cases h with
  |no q M v e O k =>
   subst e;refine⟨_,(Ab (AM (PW.pt (Mn (Da (CM (Aw aB (rm d) rfl Aq (Aa (pv 2) Ae)))) (IE (Ay Fe (pv 2) Ac (AD _))))) (Ah (GX JT rfl rfl T.mx_NoSteps T.ec_NoSteps (CN Ae))) AB) (Ab (Ao (i:=3) Gu.nd rfl (Or.inl rfl) (Aw Z (rm d) rfl Aq (Aa (pv 0) (Aa (pv 1) Ae)))) (Ah (AM (PW.pt (Js (Ay Ms (pv 3) Bz (AD _)) (Gk (Da (CM (Aw aA (rm d) rfl Aq (AT (AV AS (Aj Ak (pv 3) Ac (λ_ _=>rfl)) (pv 2) (AV AS (Aj Ak (pv 3) Ac (λ_ _=>rfl)) (pv 2) (AV Bb (Aj Ak (pv 3) Ac (λ_ _=>rfl)) (AE EB Ac (pv 2)) (AV Bb (Aj Ak (pv 3) Ac (λ_ _=>rfl)) (AE EB Ac (pv 2)) Ae)))) (Aa (BY rfl T.k_LIMIT) Ae)))))))) (Ah (GX JT rfl rfl T.mx_TooFar T.ec_TooFar (CN Ae))) AB)))),?_⟩
   try dsimp only[cxK]
   refine AZ ?_;intro r1 s1 k1 C E1;rcases O with O|⟨i,rfl,hi⟩
   ·exact⟨_,rfl,.no v rfl O ⟨false,rfl,BL ⟨by show 1<=100;decide,k⟩⟩⟩
   ·refine⟨_,rfl,.mk i rfl ⟨true,rfl,Ba ?_⟩⟩;refine⟨_,rfl,_,_,rfl,rfl,_,rfl,?_⟩;rw[Z7 hi];exact BL ⟨by show 1<=100;decide,k⟩
  |mk g G M n k e N X S few Y kf =>
   subst e;refine⟨_,(Ab (AM (PW.pt (Mn (Da (CM (Aw aB (rm d) rfl Aq (Aa (pv 2) Ae)))) (IE (Ay Fe (pv 2) Ac (AD _))))) (Ah (GX JT rfl rfl T.mx_NoSteps T.ec_NoSteps (CN Ae))) AB) (Ab (Ao (i:=3) Gu.nd rfl (Or.inl rfl) (Aw Z (rm d) rfl Aq (Aa (pv 0) (Aa (pv 1) Ae)))) (Ah (AM (PW.pt (Js (Ay Ms (pv 3) Bz (AD _)) (Gk (Da (CM (Aw aA (rm d) rfl Aq (AT (AV AS (Aj Ak (pv 3) Ac (λ_ _=>rfl)) (pv 2) (AV AS (Aj Ak (pv 3) Ac (λ_ _=>rfl)) (pv 2) (AV Bb (Aj Ak (pv 3) Ac (λ_ _=>rfl)) (AE EB Ac (pv 2)) (AV Bb (Aj Ak (pv 3) Ac (λ_ _=>rfl)) (AE EB Ac (pv 2)) Ae)))) (Aa (BY rfl T.k_LIMIT) Ae)))))))) (Ah (GX JT rfl rfl T.mx_TooFar T.ec_TooFar (CN Ae))) AB)))),?_⟩
   try dsimp only[cxK]
   refine AZ ?_;intro r1 s1 k1 C E1;refine⟨_,rfl,.mk (k:Int) rfl ⟨true,rfl,Ba ?_⟩⟩;refine⟨_,rfl,_,_,rfl,rfl,_,rfl,?_⟩;rw[Z8 A0];refine Ba ?_;refine C ?_;refine AZ ?_;intro r2 s2 k2 p E2;refine xw2 rfl rfl ⟨g,G,M,n,rfl,N,X,S,few,λR o V c=>?_,λbb R t o V c b=>?_⟩
   ·refine p ?_;refine⟨_,rfl,rfl,false,rfl,Ba ?_⟩;refine Y (λx y h=>absurd (LR N.ok X R x y) h) o V c
   ·refine p ?_;have tg:=Gf N.ok X R;generalize mvB (2^n) bb=B at b tg;have b:o t=some (.tup [.int B.l,.int B.t,.int B.w,.int B.h]):=b;have nb:=Zm tg k;refine⟨_,rfl,rfl,true,rfl,BL ?_⟩;refine⟨_,rfl,t,_,0,.int B.l,rfl,rfl,SqT.of b,Ai (j:=0) rfl,_,rfl,_,_,rfl,rfl,?_⟩;refine⟨_,rfl,t,_,1,.int B.t,rfl,rfl,SqT.of b,Ai (j:=1) rfl,_,rfl,_,_,rfl,rfl,?_⟩;refine⟨_,rfl,t,_,2,.int B.w,rfl,rfl,SqT.of b,Ai (j:=2) rfl,_,rfl,_,_,rfl,rfl,.inl ⟨by decide,by decide⟩,_,_,rfl,rfl,?_⟩;refine⟨_,rfl,t,_,3,.int B.h,rfl,rfl,SqT.of b,Ai (j:=3) rfl,_,rfl,_,_,rfl,rfl,.inl ⟨by decide,by decide⟩,_,_,rfl,rfl,?_⟩;refine⟨by show 4<=sizeLine;decide,λu hu=>?_⟩;refine⟨u,B.l-k,B.t-k,B.w+2*k,B.h+2*k,2^40,rfl,Af,?_⟩;generalize eH:upd o u _=I;have D:AA o I:=eH▸Ar hu;clear eH;have r:FrQ g H I:=V.trans (AA.frq D);have m:=c.same D;by_cases z:EF (B.l-k) (B.t-k) (B.w+2*k) (B.h+2*k) (2^40)
    ·rw[Z7 z];exact⟨true,rfl,Ba (Y (nb.mp z) I r m)⟩
    ·rw[Z8 z];exact⟨false,rfl,BL ⟨by show 1<=100;decide,kf (λy=>z (nb.mpr y)) I r m⟩⟩
end
theorem bare0{G r:Gv}(e:G=G0++r)(ok:GOk G):An G (bareN 1) ((0+1:Nat):Int)/\Ji G 0 (bareN 1)/\∀x y,fieldF G 0 (bareN 1) x y=0:=by
 refine⟨El e (n:=1) A3,.inl rfl,λx y=>?_⟩;unfold fieldF;by_cases z:-(2^0)<=x/\x<2^0/\-(2^0)<=y/\y<2^0
 ·rw[Z9 z];exact Dm e ok (n:=1) A3 (by show _<2;have:(2:Int)^0=1:=rfl;lia) (by show _<2;have:(2:Int)^0=1:=rfl;lia)
 ·rw[Z6 z]
theorem near_lt{φ:Int->Int->Nat}{k:Nat}(h:EE φ k){x y:Int}(a:φ x y≠0):k<2^40:=by
 have:=h x y a;lia
theorem Vm{r:AF}(re:Dn r 0 CT=0){φ:Int->Int->Nat}{k t:Nat}(h:EE φ k)(tk:t<=k){x y:Int}(b:sFN r t φ x y≠0):-(2^40)<=x/\x<2^40/\-(2^40)<=y/\y<2^40:=by
 obtain⟨u,v,c,d,e,f,a⟩:=OI re b;have:=h u v a;lia
theorem UG{G r:Gv}(e:G=G0++r)(ok:GOk G){n f:Nat}(d:n<=47)(t:Ji G n f)(h:∀x y,fieldF G n f x y≠0->-(2^40)<=x/\x<2^40/\-(2^40)<=y/\y<2^40):n<=40:=by
 refine P0 λz=>?_;obtain⟨m,rfl⟩:∃m,n=m+1:=⟨n-1,by lia⟩
 obtain⟨x,y,c,a⟩:=RW e ok A0 t;have:=h x y a;have p:2^40<=2^m:=O0 A3 A0;have b:((2^m:Nat):Int)=2^m:=J9 2 m;lia
def UD(Κ:KTy)(r:AF)(φ:Int->Int->Nat)(k:Nat):Prop:=∀(j l:Nat)(G:Gv)(f:Nat),k/2^j%2=1->j<=l->l<=41->GOk G->An G f ((l+1+1:Nat):Int)->(∀x y,fieldF G (l+1) f x y=sFN r (k%2^j) φ x y)->Κ l j (Cr G (l+2) f)
theorem kg_ask{r:AF}{F:List (Int->Int->Nat)}{T k t:Nat}{φ:Int->Int->Nat}(m:φ∈F)(h:k+t<=T):UD (Kg r F T) r (sFN r t φ) k:=λj l G f e g a ok b c=>by
 refine fld_kg (t:=k%2^j+t) ok A0 b m ?_ λx y=>by rw[c,<-JS]
 have d:=N4 k (2^j);have p:2^j*1<=2^j*(k/2^j):=N7 _ A0;lia
def VV(H:Hp)(G:Gv)(ψ:Int->Int->Nat)(ts:List Addr):Prop:=∃(t:Addr)(sq e res l:Nat),ts.getLast?=some t/\H t=some (.tup [.int sq,.int e,.int res])/\l<=41/\An G res ((l+1:Nat):Int)/\∀x y,fieldF G l res x y=ψ x y
section
variable{P:Program}{w:World}{K:W.Frag}{mg:Str->Option Value}{base:Heap}{a:Ad}
inductive SpRdG(a:Ad)(vs:List V)(H:Hp)(Q:VK)(E:XK):Prop
 |mk (p dx mem pr:Addr) (g:GA) (G:Gv) (Κ:KTy) (φ:Int->Int->Nat) (N b:Nat) (r:AF) (m:MA) (f n k:Nat) (_:vs=[.ref p,.int f,.int (k:Int)]) (_:ZS a H g G Κ N b p dx mem pr r m) (_:JM Κ N) (_:ClK r Κ) (_:UD Κ r φ k) (_:An G f ((n+1:Nat):Int)) (_:n<=40) (_:Ji G n f) (_:∀x y,fieldF G n f x y=φ x y) (_:b+12000+10*N<7900000) (_:EE φ k->∀(L:Addr)(ts:List Addr)(G':Gv)(H':Hp)(i:Nat),FrZ g m H H'->ZS a H' g G' Κ N (b+12000) p dx mem pr r m->AG G G' i->H L=none->H' L=some (.lst (ts.map V.ref))->((ts=[]/\∀x y,sFN r k φ x y=φ x y)\/VV H' G' (sFN r k φ) ts)->Q (.ref L) H') (_:¬EE φ k->∀H',FrZ g m H H'->ZS a H' g G Κ N b p dx mem pr r m->E (.ref a.x_TooFar) none H'):SpRdG a vs H Q E
def Yl(a:Ad):Sp:=λvs H Q E=>SpRdG a vs H Q E
theorem ok_rdg(F:Fun K "road" "road" TC f fd)(T:Top K mg a)(bX:Cal P w K mg base (CXE P w) 103 "check_leap" IL (YA a))(aV:Cal P w K mg base CX0 1 "bare_field" Rj (NT a))(cE:Cal P w K mg base CX0 5 "level_for" Jw (Ys a))(bU:Cal P w K mg base CX0 5 "widened_to" II (spWT a))(bL:Cb P w K mg base CX0 149 a.c_Jumps "after" PM (Gr a 46))(aP:Cal P w K mg base CX0 4 "trimmed" JU (MK a)):AL P w K mg base (CXE P w) 150 f fd TK (Yl a):=by
 refine F.okE DT (λvs H Q E h=>?_) (λcg A cc s H vs Q E hr h=>?_)
 ·obtain⟨p,dx,mem,pr,g,G,Κ,φ,N,b,r,m,f',n,k,rfl,_⟩:=h;rfl
 ·obtain⟨p,dx,mem,pr,g,G,Κ,φ,N,b,r,m,f',n,k,rfl,zs,fin,cl,bz,lf,bw,tr,hf,few,kn,kf⟩:=h;refine⟨_,(Ab (Ao (i:=3) DT.nd rfl (Or.inl rfl) (AC (pv 0) rfl)) (Ab (BP (Aw bX (rm hr) rfl Vh (Aa (pv 3) (Aa (pv 1) (Aa (pv 2) Ae))))) (Ab (Ao (i:=4) DT.nd rfl (Or.inl rfl) (CA Ae)) (Ab (Ao (i:=5) DT.nd rfl (Or.inl rfl) (pv 1)) (Ab (Ao (i:=6) DT.nd rfl (Or.inl rfl) (pv 2)) (Ab (Ao (i:=7) DT.nd rfl (Or.inl rfl) Ac) (Ab (Jt PassesOwn.leaving (PW.pt (Js (Ay Nz (pv 6) Ac (AD _)) (Gk (Ay OO (pv 5) (Aw aV (rm hr) rfl Aq (Aa (pv 3) Ae)) (AD _))))) (Ab (AM (Ay CQ (AE BH (pv 6) Ac) Ac (AD _)) (Ab (Ao (i:=8) DT.nd rfl (Or.inl rfl) (Aw bU (rm hr) rfl Aq (Aa (pv 3) (Aa (pv 5) (Aa (Aw cE (rm hr) rfl Aq (Aa (pv 3) (Aa (pv 5) (Aa (pv 7) Ae)))) Ae))))) (Ab (Ao (i:=9) DT.nd rfl (Or.inl rfl) (AI (pv 0) bL (rm hr) Aq (Aa (pv 8) (Aa (pv 7) Ae)))) (Ab (BP (DK K0 K1 K2 BS (pv 4) (AT (Aa (pv 8) (Aa (pv 7) (Aa (pv 9) Ae))) Ae))) (Ah (Ao (i:=5) DT.nd rfl (Or.inl rfl) (Aw aP (rm hr) rfl Aq (Aa (pv 3) (Aa (pv 9) Ae)))))))) AB) (Ab (Ao (i:=6) DT.nd rfl (Or.inl rfl) (AE CP (pv 6) Ac)) (Ah (Ao (i:=7) DT.nd rfl (Or.inl rfl) (AE Bb (pv 7) Ac)))))) (Ah (As (pv 4)))))))))),?_⟩
  try dsimp only[cxK]
  have sz:=zs.jz.sz fin;have re:=zs.jz.jw.rest;have ro:=zs.jz.jw.rok;refine AZ ?_;intro r1 s1 k1 bl E1;refine xwf rfl rfl zs.jz.jw.hp T.cl_Jumps T.na_Jumps_grove (DG _ _ _ _ _) ?_;refine bl ?_;refine AZ ?_;intro r2 s2 k2 bi E2;refine xw3 rfl rfl rfl (.mk g G f' n k rfl zs.fu lf A0 A0 (λnr H1 fq am=>?_) (λnn H1 fq am=>kf (λz=>nn λx y h=>z x y (by rw[<-hf];exact h)) H1 (FrQ.z fq) (zs.frQ fq am)));have nr:EE φ k:=λx y h=>nr x y (by rw[hf];exact h);have al:=zs.frQ fq am;have bo:FrZ g m H H1:=FrQ.z fq;refine bi ?_;refine AZ ?_;intro r3 s3 k3 a7 E3;refine⟨by show 0<=sizeLine;decide,λL nL=>?_⟩;generalize eH:upd H1 L _=H2;have az:AA H1 H2:=eH▸Ar nL;have bq:H2 L=some (.lst (([]:List Addr).map V.ref)):=eH▸Af;clear eH;have bb:=al.same az;obtain⟨a3,co⟩:=al.new nL;have I:=al.ap nL;refine a7 ?_;refine AZ ?_;intro r4 s4 k4 ba E4;refine xq1 rfl (ba ?_);refine AZ ?_;intro r5 s5 k5 br E5;refine xq1 rfl (br ?_);refine AZ ?_;intro r6 s6 k6 cd E6;refine cd ?_;refine AZ ?_;intro r7 s7 k7 cb E7;have a2:H L=none:=by
   cases e:H L with
   |none=>rfl
   |some o =>
    have h1:=fq L o e (λz=>a3 (by simp[z])) (λz=>a3 (by simp[z]));rw[nL]at h1;cases h1
  have bt:FrZ g m H H2:=bo.trans (AA.z az);have bf:k/2^0=k:=by rw[Nat.pow_zero,Nat.div_one]
  have aw:k%2^0=0:=by rw[Nat.pow_zero,Nat.mod_one]
  refine⟨fun μ σ H3=>∃(j:Nat)(B:Gv)(q:List Addr)(h c:Nat)(u8 u9:Option V)(i:Nat),σ=[some (.ref p),some (.int f'),some (.int (k:Int)),some (.ref g.p),some (.ref L),some (.int h),some (.int ((k/2^j:Nat):Int)),some (.int (j:Int)),u8,u9]/\j+μ=41/\FrZ g m H H3/\ZS a H3 g B Κ N (b+270*q.length) p dx mem pr r m/\AG G B i/\H3 L=some (.lst (q.map V.ref))/\q.length<=j/\(c<=40/\An B h ((c+1:Nat):Int)/\Ji B c h/\∀x y,fieldF B c h x y=sFN r (k%2^j) φ x y)/\((q=[]/\∀x y,sFN r (k%2^j) φ x y=φ x y)\/VV H3 B (sFN r (k%2^j) φ) q),⟨41,0,G,[],f',n,none,none,0,(by rw[bf];rfl),rfl,bt,bb,AG.refl zs.fu.ok,bq,C1 _,⟨bw,lf,tr,by rw[aw];exact hf⟩,.inl ⟨rfl,by rw[aw];exact λ_ _=>rfl⟩⟩,?_⟩;rintro μ σ H3 ⟨j,B,q,h,c,u8,u9,i,rfl,jm,an,C,ao,aj,tl,⟨ai,lh,th,fh⟩,la⟩;have cv:=C.jz.sz fin;obtain⟨ct,e3⟩:=C.fu.g0;have ah:(k/2^j=0\/h=bareN 1)->k7 [some (.ref p),some (.int f'),some (.int (k:Int)),some (.ref g.p),some (.ref L),some (.int h),some (.int ((k/2^j:Nat):Int)),some (.int (j:Int)),u8,u9] H3:=λex=>by
   have eq:sFN r k φ=sFN r (k%2^j) φ:=by
    rcases ex with ex|rfl
    ·have:k%2^j=k:=by
      have:=N4 k (2^j);rw[ex,Nat.mul_zero,N6]at this;exact this
     rw[this]
    ·obtain⟨b1,b2,b3⟩:=bare0 e3 C.fu.ok;have n0:c=0:=by
      have:=lh.one b1;lia
     subst n0;have z:sFN r (k%2^j) φ=λ_ _=>0:=by
      funext x y
      rw[<-fh,b3]
     have:=JS r φ (k%2^j) (2^j*(k/2^j));rw[N4]at this;rw[this,z,Jr re]
   refine cb ?_;refine xq1 rfl (kn nr L q B H3 i an (C.mono A0) ao a2 aj ?_);rw[eq];exact la
  refine⟨_,rfl,_,_,rfl,rfl,_,rfl,Fw (λX=>?_) (λX=>?_)⟩
  ·have X:((k/2^j:Nat):Int) > 0:=X8 X;have kj:k/2^j≠0:=by lia
   refine⟨_,rfl,_,rfl,g,B,rfl,C.fu,rfl,_,rfl,?_⟩;by_cases hb:h=bareN 1
   ·subst hb;rw[Z7 rfl];exact Ba (ah (.inr rfl))
   ·rw[Z8 (λz=>hb (by injection z with z;exact X6 z))];refine BL ?_;obtain⟨x0,y0,h0⟩:∃x y,φ x y≠0:=by
     refine X4 λno=>hb ?_;have z:φ=λ_ _=>0:=by
      funext x y
      exact X4 λz=>no ⟨x,y,z⟩
     obtain⟨b1,b2,b3⟩:=bare0 e3 C.fu.ok;refine(Pf e3 C.fu.ok A0 A3 lh b1 th b2 λx y=>?_).2;rw[b3,fh,z,Jr re]
    have bu:=near_lt nr h0;have cj:j<40:=by
     refine Nat.lt_of_not_le λz=>kj (N8 (F2 bu (O0 A3 z)))
    refine⟨fun σ' O=>∃(j:Nat)(B:Gv)(q:List Addr)(h c:Nat)(u8 u9:Option V)(i:Nat),σ'=[some (.ref p),some (.int f'),some (.int (k:Int)),some (.ref g.p),some (.ref L),some (.int h),some (.int ((k/2^j:Nat):Int)),some (.int (j:Int)),u8,u9]/\j+(μ-1)=41/\FrZ g m H O/\ZS a O g B Κ N (b+270*q.length) p dx mem pr r m/\AG G B i/\O L=some (.lst (q.map V.ref))/\q.length<=j/\(c<=40/\An B h ((c+1:Nat):Int)/\Ji B c h/\∀x y,fieldF B c h x y=sFN r (k%2^j) φ x y)/\((q=[]/\∀x y,sFN r (k%2^j) φ x y=φ x y)\/VV O B (sFN r (k%2^j) φ) q),fun σ' O z=>⟨μ-1,by lia,z⟩,?_⟩;have dv:k/2^(j+1)=k/2^j/2:=by rw[F4,Nat.div_div_eq_div_mul]
    have md:k%2^(j+1)=k%2^j+2^j*(k/2^j%2):=Nat.mod_pow_succ;refine AZ ?_;intro r8 s8 k8 bv E8;apply Qg (T:=k8) (fun σ' O=>∃(B:Gv)(q:List Addr)(h c:Nat)(u8 u9:Option V)(i:Nat),σ'=[some (.ref p),some (.int f'),some (.int (k:Int)),some (.ref g.p),some (.ref L),some (.int h),some (.int ((k/2^j:Nat):Int)),some (.int (j:Int)),u8,u9]/\FrZ g m H O/\ZS a O g B Κ N (b+270*q.length) p dx mem pr r m/\AG G B i/\O L=some (.lst (q.map V.ref))/\q.length<=j+1/\(c<=40/\An B h ((c+1:Nat):Int)/\Ji B c h/\∀x y,fieldF B c h x y=sFN r (k%2^(j+1)) φ x y)/\((q=[]/\∀x y,sFN r (k%2^(j+1)) φ x y=φ x y)\/VV O B (sFN r (k%2^(j+1)) φ) q))
    ·intro U;refine xwb rfl rfl rfl ⟨B2,rfl,(xq1 rfl (Fw (λX=>?_) (λX=>?_)))⟩
     ·have X:((k/2^j:Nat):Int)%2=1:=by
       have:=X8 X;injection this
      have od:k/2^j%2=1:=by lia
      have tk:2^j+k%2^j<=k:=by
       have d:=N4 k (2^j);have p:2^j*1<=2^j*(k/2^j):=N7 _ A0;lia
      refine AZ ?_;intro r9 s9 k9 as E9;refine⟨_,rfl,_,rfl,_,rfl,_,rfl,_,rfl,⟨g,B,h,c,j,rfl,C.fu.at',lh,ai,by lia,λl a4 nl jl le=>?_⟩⟩;have el:c+(l+1-c)+1=l+2:=by lia
      refine⟨g,B,h,c,l+1-c,by rw[el];rfl,C.fu,lh,by lia,by lia,λv G2 O aq R S wn lv=>?_⟩;have M:=C.fr aq R S;have ci:=M.jz.sz fin;obtain⟨r4,e4⟩:=R.g0;have wf:∀x y,fieldF G2 (l+1) v x y=sFN r (k%2^j) φ x y:=λx y=>by
       have:=Ig e4 R.ok (k:=l+1-c) (w:=v) A0 wn x y;rw[show c+(l+1-c)=l+1 by lia]at this;rw[this,DO C.fu.ok S lh,fh]
      have ad:An G2 v ((l+1+1:Nat):Int):=by rw[show l+1+1=c+(l+1-c)+1 by lia];exact lv
      have a5:=ao.trans S;refine as ?_;refine AZ ?_;intro cs ch cr a6 cq;refine xwn rfl rfl M.jz.jw.hp (Wo _ _ _ _ _) rfl (xq1 rfl ⟨p,dx,mem,pr,g,G2,Κ,N,_,r,m,v,l,j,rfl,M.jz,fin,cl,ad,by lia,jl,bz j l G2 v od jl a4 R.ok ad wf,by lia,λD G3 H5 i5 fj b5 ag jr up=>?_⟩);have ac:=M.aft fj b5 ag;have cm:=ac.jz.sz fin;have bj:FrZ g m H H5:=(an.trans (Fr.z aq)).trans (FrJ.z fj);have bn:∀x y,fieldF G3 (l+1) v x y=sFN r (k%2^j) φ x y:=λx y=>by rw[DO R.ok ag ad];exact wf x y
      obtain⟨lr,rs⟩:=fld_jg ac.fu.ok ro re (ag.lev ad) jr bn (λx y Z=>by
       rw[<-fh]at Z;have p0:((2^c:Nat):Int)=2^c:=J9 2 c;have p1:((2^l:Nat):Int)=2^l:=J9 2 l;have p3:((2^j:Nat):Int)=2^j:=J9 2 j;have:=X4 λz:¬(-(2^c)<=x/\x<2^c/\-(2^c)<=y/\y<2^c)=>Z (by unfold fieldF;rw[Z6 z]);lia)
      have rs:∀x y,fieldF G3 l D x y=sFN r (k%2^(j+1)) φ x y:=λx y=>by rw[rs,<-JS,md,od,Nat.mul_one,S6]
      have au:H5 L=some (.lst (q.map V.ref)):=FrJ.z fj _ _ (Fr.z (m:=m) aq _ _ aj I.n0 I.n1) I.n0 I.n1;refine a6 ?_;refine AZ ?_;intro cu cp ck av cn;refine⟨_,rfl,.inl ⟨rfl,_,SqL.of au⟩,_,rfl,_,rfl,_,rfl,by show 3<=sizeLine;decide,λt nt=>?_⟩;have aa:=Ar (o:=.tup [.int (v:Int),.int (j:Int),.int (D:Int)]) nt;have ak:upd H5 t (.tup [.int (v:Int),.int (j:Int),.int (D:Int)]) t=some (.tup [.int (v:Int),.int (j:Int),.int (D:Int)]):=Af;generalize upd H5 t (.tup [.int (v:Int),.int (j:Int),.int (D:Int)])=H6 at aa ak⊢;have b6:=ac.same aa;have ar:=aa _ _ au;refine⟨L,_,_,rfl,rfl,ar,by rw[B5];exact DL A0,?_⟩;have ab:=b6.putL (o:=.lst (q.map V.ref++[.ref t])) ar I;have ax:upd H6 L (.lst (q.map V.ref++[.ref t])) t=some (.tup [.int (v:Int),.int (j:Int),.int (D:Int)]):=by rw[Ax (AH ak ar A4)];exact ak
      have a0:FrZ g m H (upd H6 L (.lst (q.map V.ref++[.ref t]))):=λb' o e n1 n2=>by
       rw[Ax (Az e a2)];exact aa _ _ (bj _ _ e n1 n2)
      have ay:upd H6 L (.lst (q.map V.ref++[.ref t])) L=some (.lst ((q++[t]).map V.ref)):=by rw[Af,C5];rfl
      generalize upd H6 L (.lst (q.map V.ref++[.ref t]))=H7 at ab ax a0 ay⊢;refine av ?_;refine xw2 rfl rfl ⟨g,G3,D,l,rfl,ab.fu,lr,by lia,λnw G8 H8 af ae Y ce=>?_⟩;have a8:=ab.fr af ae Y;obtain⟨r8,e8⟩:=ae.g0;obtain⟨m8,cf,bd,a1,bm⟩:=FE e8 ae.ok A0 (Y.lev lr) ce;have fa:∀x y,fieldF G8 l D x y=sFN r (k%2^(j+1)) φ x y:=λx y=>by rw[DO ac.fu.ok Y lr];exact rs x y
      have fe:∀x y,fieldF G8 m8 nw x y=sFN r (k%2^(j+1)) φ x y:=λx y=>by rw[bm,fa]
      have b9:k%2^(j+1)<=k:=Nat.mod_le _ _;have bp:=UG e8 ae.ok A0 a1 (λx y Z=>Vm re nr b9 (by rw[<-fe];exact Z));have bx:=ab.keep (Fr.z af) ax (by intro xs z;cases z) (by intro xs z;cases z) (by intro xs z;cases z);have bg:H8 L=some (.lst ((q++[t]).map V.ref)):=Fr.z (m:=m) af _ _ ay I.n0 I.n1;have a9:=(a5.trans ag).trans Y;refine U _ _ ⟨G8,q++[t],nw,m8,_,_,_,rfl,a0.trans (Fr.z af),a8.mono ?_,a9,bg,by rw[C4];show q.length+1<=_;lia,⟨bp,bd,a1,fe⟩,.inr ⟨t,v,j,D,l,by rw[List.getLast?_append];rfl,bx,a4,Y.lev lr,fa⟩⟩;rw[C4];show _<=b+270*(q.length+1)
      lia
     ·have X:¬((k/2^j:Nat):Int)%2=1:=λz=>X (Z7 (K5 V.int z));have ev:k/2^j%2=0:=by lia
      have md:k%2^(j+1)=k%2^j:=by rw[md,ev,Nat.mul_zero,Nat.add_zero]
      exact U _ _ ⟨B,q,h,c,u8,u9,i,rfl,an,C,ao,aj,by lia,by rw[md];exact⟨ai,lh,th,fh⟩,by rw[md];exact la⟩
    ·rintro σ' O ⟨G2,bh,h2,ca,v8,v9,i2,rfl,bc,M,S,b7,b0,b4,b8⟩;refine bv ?_;refine AZ ?_;intro r9 s9 k9 as E9;refine xwb rfl rfl rfl ⟨⟨by decide,by decide⟩,?_⟩;refine as ?_;have ed:((k/2^j:Nat):Int)/2=((k/2^(j+1):Nat):Int):=by rw[dv];lia
     have ej:(j:Int)+1=((j+1:Nat):Int):=by lia
     refine xwb rfl rfl rfl ⟨j+1,G2,bh,h2,ca,v8,v9,i2,?_,by lia,bc,M,S,b7,b0,b4,b8⟩;exact(K5 (λu:Int=>[some (V.ref p),some (V.int f'),some (V.int (k:Int)),some (V.ref g.p),some (V.ref L),some (V.int h2),some (V.int u),some (V.int ((j:Int)+1)),v8,v9]) ed).trans (K5 (λv:Int=>[some (V.ref p),some (V.int f'),some (V.int (k:Int)),some (V.ref g.p),some (V.ref L),some (V.int h2),some (V.int ((k/2^(j+1):Nat):Int)),some (V.int v),v8,v9]) ej)
  ·have X:¬((k/2^j:Nat):Int) > 0:=λz=>X (Z7 z);exact Ba (ah (.inl A0))
end
theorem ifT{b:Bool}{A B:Prop}(h:b=true)(x:A):if b=true then A else B:=by rw[h];exact BL x
theorem ifF{b:Bool}{A B:Prop}(h:b=false)(x:B):if b=true then A else B:=by rw[h];exact Ba x
structure Fv(G:Gv)(f:Nat)(φ:Int->Int->Nat):Prop where
 ex:∃n:Nat,n<=40/\An G f ((n+1:Nat):Int)/\Ji G n f/\∀x y,fieldF G n f x y=φ x y
theorem Fv.app{G b:Gv}{k f:Nat}{φ:Int->Int->Nat}(ok:GOk G)(go:AG G b k)(h:Fv G f φ):Fv b f φ:=by
 obtain⟨n,c,a,d,e⟩:=h.ex;exact⟨n,c,go.lev a,d.app go,λx y=>by rw[DO ok go a];exact e x y⟩
theorem Fv.to{G:Gv}{f:Nat}{φ ψ:Int->Int->Nat}(h:Fv G f φ)(e:∀x y,φ x y=ψ x y):Fv G f ψ:=by
 obtain⟨n,c,a,b,d⟩:=h.ex;exact⟨n,c,a,b,λx y=>by rw[d,e]⟩
section
variable{P:Program}{w:World}{K:W.Frag}{mg:Str->Option Value}{base:Heap}{a:Ad}
inductive SpJpG(a:Ad)(vs:List V)(H:Hp)(Q:VK)(E:XK):Prop
 |mk (p dx mem pr:Addr) (g:GA) (G:Gv) (Κ:KTy) (φ:Int->Int->Nat) (N b:Nat) (r:AF) (m:MA) (f k:Nat) (_:vs=[.ref p,.int f,.int (k:Int)]) (_:ZS a H g G Κ N b p dx mem pr r m) (_:JM Κ N) (_:ClK r Κ) (_:UD Κ r φ k) (_:Fv G f φ) (_:b+12000+10*N<7900000) (_:EE φ k->∀(d:Nat)(G':Gv)(H':Hp)(i:Nat),FrZ g m H H'->ZS a H' g G' Κ N (b+12048) p dx mem pr r m->AG G G' i->Fv G' d (sFN r k φ)->Q (.int d) H') (_:¬EE φ k->∀H',FrZ g m H H'->ZS a H' g G Κ N b p dx mem pr r m->E (.ref a.x_TooFar) none H'):SpJpG a vs H Q E
def Yt(a:Ad):Sp:=λvs H Q E=>SpJpG a vs H Q E
theorem ok_jpg(F:Fun K "jump" "jump" TD f fd)(T:Top K mg a)(cZ:Cal P w K mg base (CXE P w) 150 "road" TK (Yl a))(aP:Cal P w K mg base CX0 4 "trimmed" JU (MK a)):AL P w K mg base (CXE P w) 151 f fd TK (Yt a):=by
 refine F.okE UZ (λvs H Q E h=>?_) (λak A ac s H vs Q E hr h=>?_)
 ·obtain⟨p,dx,mem,pr,g,G,Κ,φ,N,b,r,m,R,k,rfl,_⟩:=h;rfl
 ·obtain⟨p,dx,mem,pr,g,G,Κ,φ,N,b,r,m,R,k,rfl,S,fin,cl,ab,fv,few,kn,kf⟩:=h;obtain⟨n,Z,lf,tr,hf⟩:=id fv.ex;have re:=S.jz.jw.rest;refine⟨_,(Ab (Ao (i:=3) UZ.nd rfl (Or.inl rfl) (Aw cZ (rm hr) rfl Vh (Aa (pv 0) (Aa (pv 1) (Aa (pv 2) Ae))))) (Ab (AM (Ay CQ (AQ Ck rfl T.b_len A0e (Aa (pv 3) Ae)) Ac (AD _)) (Ah (As (pv 1))) AB) (Ah (As (Aw aP (rm hr) rfl Aq (Aa (AC (pv 0) rfl) (Aa (Aj Ak (Aj Av (pv 3) (Db Cc Ac) (λ_ _=>rfl)) Ac (λ_ _=>rfl)) Ae))))))),?_⟩
  try dsimp only[cxK]
  refine AZ ?_;intro r1 s1 k1 X E1;refine xw3 rfl rfl rfl (.mk p dx mem pr g G Κ φ N b r m R n k rfl S fin cl ab lf Z tr hf few (λO L q G1 H1 i1 C c u nL hL ca=>?_) kf);refine X ?_;refine AZ ?_;intro r2 s2 k2 M E2;refine⟨_,rfl,L,_,rfl,.inl (SqL.of hL),rfl,_,rfl,?_⟩;rcases ca with ⟨rfl,ca⟩|⟨t,sq,e,D,l,la,ht,ai,U,rs⟩
  ·exact ifT rfl ⟨_,rfl,kn O R G1 H1 i1 C (c.mono A0) u ((fv.app S.fu.ok u).to λx y=>(ca x y).symm)⟩
  ·have ne:q≠[]:=λz=>by rw[z]at la;cases la
   have tl:1<=q.length:=T5.mpr ne;refine ifF (Z8 (λz=>by injection z with z;rw[B5]at z;lia)) ?_;refine M ?_;have li:atI (q.map V.ref) (-1)=some (.ref t):=by
    unfold atI;have:ixN (q.map V.ref).length (-1)=some (q.length-1):=by
     unfold ixN;rw[B5,Z6 A3,Z9 A0];congr 1;lia
    rw[this];show(q.map V.ref)[q.length-1]?=_;rw[B8,<-List.getLast?_eq_getElem?,la];rfl
   refine xwf rfl rfl c.jz.jw.hp T.cl_Jumps T.na_Jumps_grove (DG _ _ _ _ _) ?_;refine⟨_,rfl,1,rfl,L,_,-1,.ref t,rfl,rfl,SqL.of hL,li,t,_,2,.int (D:Int),rfl,rfl,SqT.of ht,Ai (j:=2) rfl,?_⟩;have aj:=c.jz.sz fin;refine⟨g,G1,D,l,rfl,c.fu,U,by lia,λnh G8 H8 B d o af=>?_⟩;have I:=c.fr B d o;obtain⟨r8,e8⟩:=d.g0;obtain⟨m8,ah,ae,v,aa⟩:=FE e8 d.ok A0 (o.lev U) af;have Y:=u.trans o;have fe:∀x y,fieldF G8 m8 nh x y=sFN r k φ x y:=λx y=>by rw[aa,DO c.fu.ok o U];exact rs x y
   have ag:=UG e8 d.ok A0 v (λx y ad=>Vm re O (C1 k) (by rw[<-fe];exact ad));exact kn O nh G8 H8 _ (C.trans (Fr.z B)) (I.mono A0) Y ⟨m8,ag,ae,v,fe⟩
end
end J
namespace J
open PySem L2
section
variable{P:Program}{w:World}{K:W.Frag}{mg:Str->Option Value}{base:Heap}{a:Ad}
end
structure Fd(G:Gv)(n f:Nat):Prop where
 lev:An G f ((n+1:Nat):Int)
 tr:Ji G n f
 le:n<=40
theorem Fd.app{G a:Gv}{k n f:Nat}(go:AG G a k)(h:Fd G n f):Fd a n f:=⟨go.lev h.lev,h.tr.app go,h.le⟩
section
variable{P:Program}{w:World}{K:W.Frag}{mg:Str->Option Value}{base:Heap}{a:Ad}
end
theorem cast4'{x y z w a b c d:Nat}(e:[(x:Int),(y:Int),(z:Int),(w:Int)]=[(a:Int),(b:Int),(c:Int),(d:Int)]):x=a/\y=b/\z=c/\w=d:=by
 injection e with e1 e
 injection e with e2 e
 injection e with e3 e
 injection e with e4 e
 exact⟨X6 e1,X6 e2,X6 e3,X6 e4⟩
theorem Fx.fresh{l:List Addr}{H c a:Hp}{x:Addr}(s:AA H c)(f:Fx (x::l) c a)(n:H x=none):Fx l H a:=λb o e z=>f b o (s _ _ e) λm=>by
 rcases B7.mp m with rfl|m
 ·rw[n]at e;cases e
 ·exact z m
def frM(g:GA)(kn:Addr):List Addr:=[g.lv,g.pt,g.nm,kn]
theorem meetH{T:St->Hp->Prop}{C:Prop}(P:St->Hp->Prop)(h:(∀σ H,P σ H->T σ H)->C)(k:∀σ H,P σ H->T σ H):C:=h k
structure Sc where
 Φ:Nat->Nat->Nat
 R:Nat
 D:Nat
 M:Nat
 cl:Nat->Nat->Nat->Nat
def NE(Φ:Nat->Nat->Nat)(n i j:Nat):Prop:=∃x y,x<2^(n+1)/\y<2^(n+1)/\Φ (i*2^n+x) (j*2^n+y)≠0
structure Uy(c:Sc):Prop where
 lt:∀n i j,n<=48->NE c.Φ n i j->c.cl n i j<c.M
 same:∀n i j i' j',n<=48->NE c.Φ n i j->NE c.Φ n i' j'->c.cl n i j=c.cl n i' j'->∀x y,x<2^(n+1)->y<2^(n+1)->c.Φ (i*2^n+x) (j*2^n+y)=c.Φ (i'*2^n+x) (j'*2^n+y)
def mk1(R n x:Nat):Prop:=R%2^n≠0\/x<2^n
structure Ag(G:Gv)(c:Sc)(n i j:Nat)(q:Nat->Nat):Prop where
 lev:∀k,k<4->An G (q k) (n:Int)
 ag:∀x y,x<2^(n+1)->y<2^(n+1)->mk1 c.R n x->mk1 c.D n y->Ct G n (q (quad n x y)) (x%2^n) (y%2^n)=c.Φ (i*2^n+x) (j*2^n+y)
structure QAt(G:Gv)(c:Sc)(n i j:Nat)(q:Nat->Nat):Prop where
 a:Ag G c n i j q
 off:∀x y,x<2^(n+1)->y<2^(n+1)->¬(mk1 c.R n x/\mk1 c.D n y)->Ct G n (q (quad n x y)) (x%2^n) (y%2^n)=0
structure Rs(G:Gv)(c:Sc)(n i j m:Nat):Prop where
 lev:An G m (n:Int)
 cell:∀x y,x<2^n->y<2^n->Ct G n m x y=c.Φ (i*2^n+c.R%2^n+x) (j*2^n+c.D%2^n+y)
theorem Ag.app{G b:Gv}{k:Nat}{c:Sc}{n i j:Nat}{q:Nat->Nat}(ok:GOk G)(go:AG G b k)(h:Ag G c n i j q):Ag b c n i j q:=⟨λk f=>go.lev (h.lev k f),λx y d a g e=>by rw[JK ok go (h.lev _ (BO d a)) (D9 _ (AK n)) (D9 _ (AK n))];exact h.ag x y d a g e⟩
theorem QAt.app{G d:Gv}{k:Nat}{c:Sc}{n i j:Nat}{q:Nat->Nat}(ok:GOk G)(go:AG G d k)(h:QAt G c n i j q):QAt d c n i j q:=⟨h.a.app ok go,λx y e b m=>by rw[JK ok go (h.a.lev _ (BO e b)) (D9 _ (AK n)) (D9 _ (AK n))];exact h.off x y e b m⟩
theorem Rs.app{G b:Gv}{k:Nat}{c:Sc}{n i j m:Nat}(ok:GOk G)(go:AG G b k)(h:Rs G c n i j m):Rs b c n i j m:=⟨go.lev h.lev,λx y d a=>by rw[JK ok go h.lev d a];exact h.cell x y d a⟩
def wuQ(R D n:Nat)(q:Nat->Nat)(k:Nat):Nat:=if R%2^n=0 then(if k%2=1 then bareN n else q k)else if D%2^n=0 then(if k/2=1 then bareN n else q k)else q k
theorem FN{n x y:Nat}(a:x<2^(n+1))(b:y<2^(n+1)):quad n x y%2=x/2^n/\quad n x y/2=y/2^n:=by
 have d:=BT a;have c:=BT b;unfold quad;lia
theorem ME{n x:Nat}(a:x<2^(n+1)):(x/2^n=1 ↔ ¬x<2^n):=by
 have c:=BT a;have b:x/2^n=0↔x<2^n:=by rw[Nat.div_eq_zero_iff];have:=AK n;lia
 lia
theorem Ag.wu{G r:Gv}(l:G=G0++r)(ok:GOk G){c:Sc}{n i j:Nat}{q:Nat->Nat}(m:n<=48)(h:Ag G c n i j q)(u:¬(c.R%2^n=0/\c.D%2^n=0)):QAt G c n i j (wuQ c.R c.D n q):=by
 have f:=El l (n:=n) m;have g:=λx=>D9 x (AK n);unfold wuQ;refine⟨⟨λk d=>?_,λx y b a k1 k2=>?_⟩,λx y b a k=>?_⟩
 ·split
  ·split
   ·exact f
   ·exact h.lev k d
  ·split
   ·split
    ·exact f
    ·exact h.lev k d
   ·exact h.lev k d
 ·obtain⟨o,t⟩:=FN b a;have s:=ME b;have p:=ME a;have e:(if c.R%2^n=0 then(if quad n x y%2=1 then bareN n else q (quad n x y))else if c.D%2^n=0 then(if quad n x y/2=1 then bareN n else q (quad n x y))else q (quad n x y))=q (quad n x y):=by
   unfold mk1 at k1 k2;split
   ·rw[Z6 A0]
   ·split
    ·rw[Z6 A0]
    ·rfl
  rw[e];exact h.ag x y b a k1 k2
 ·obtain⟨o,t⟩:=FN b a;have s:=ME b;have p:=ME a;have e:(if c.R%2^n=0 then(if quad n x y%2=1 then bareN n else q (quad n x y))else if c.D%2^n=0 then(if quad n x y/2=1 then bareN n else q (quad n x y))else q (quad n x y))=bareN n:=by
   unfold mk1 at k;split
   ·rw[Z9 A0]
   ·split
    ·rw[Z9 A0]
    ·lia
  rw[e];exact Dm l ok m (g x) (g y)
theorem Oe{R n x:Nat}(a:x<2^n):R%2^n+x<2^(n+1)/\mk1 R n (R%2^n+x):=by
 have:=D9 R (AK n);have:=Lm n;refine⟨by lia,?_⟩;unfold mk1;by_cases z:R%2^n=0
 ·exact .inr A0
 ·exact .inl z
theorem Ag.first{G:Gv}{c:Sc}{n i j:Nat}{q:Nat->Nat}(h:Ag G c n i j q)(k:c.R%2^n=0)(g:c.D%2^n=0):Rs G c n i j (q 0):=by
 refine⟨h.lev 0 A3,λx y d b=>?_⟩;have e:=Lm n;have a:=h.ag x y A0 A0 (.inr d) (.inr b);have f:quad n x y=0:=by
  unfold quad;rw[N8 d,N8 b]
 rw[f,N3 d,N3 b]at a;rw[a,k,g];rfl
theorem QAt.see{G:Gv}{c:Sc}{n i j:Nat}{q:Nat->Nat}(h:QAt G c n i j q){x y:Nat}(g:x<2^n)(b:y<2^n):c.Φ (i*2^n+c.R%2^n+x) (j*2^n+c.D%2^n+y)=Ct G n (q (quad n (c.R%2^n+x) (c.D%2^n+y))) ((c.R%2^n+x)%2^n) ((c.D%2^n+y)%2^n):=by
 obtain⟨d,f⟩:=Oe (R:=c.R) g;obtain⟨e,b2⟩:=Oe (R:=c.D) b;rw[h.a.ag _ _ d e f b2,Nat.add_assoc,Nat.add_assoc]
theorem QAt.bare{G r:Gv}(e:G=G0++r)(ok:GOk G){c:Sc}{n i j:Nat}{q:Nat->Nat}(d:n<=48)(h:QAt G c n i j q)(b:∀k,k<4->q k=bareN n):Rs G c n i j (bareN n):=by
 refine⟨El e d,λx y f a=>?_⟩;rw[h.see f a,b _ (BO (Oe f).1 (Oe a).1),Dm e ok d f a,Dm e ok d (D9 _ (AK n)) (D9 _ (AK n))]
theorem QAt.hit{G:Gv}{c:Sc}{n i j e d m:Nat}{q:Nat->Nat}(h:QAt G c n i j q)(h':QAt G c n e d q)(r:Rs G c n e d m):Rs G c n i j m:=⟨r.lev,λx y b a=>by rw[r.cell x y b a,h'.see b a,h.see b a]⟩
def gq(sub:Nat->Nat->Nat)(r c:Nat):Nat:=sub (c/2+2*(r/2)) (c%2+2*(r%2))
structure WP(G:Gv)(n:Nat)(q:Nat->Nat)(sub:Nat->Nat->Nat):Prop where
 nd:∀k,k<4->∃s,GU G n (q k) s (sub k 0) (sub k 1) (sub k 2) (sub k 3)
theorem sub4_of{G:Gv}(ok:GOk G){n:Nat}{q:Nat->Nat}(h:∀k,k<4->An G (q k) ((n+1:Nat):Int)):∃sub,WP G n q sub:=by
 obtain⟨B,a,s,m,l,j⟩:=BB ok (h 0 A3);obtain⟨z,w,b,t,r,i⟩:=BB ok (h 1 A3);obtain⟨y,o,b2,g,p,v⟩:=BB ok (h 2 A3);obtain⟨A,u,f,d,x,c⟩:=BB ok (h 3 A3);refine⟨λk=>match k with|0=>f4 a s m l|1=>f4 w b t r|2=>f4 o b2 g p|_=>f4 u f d x,⟨λk e=>?_⟩⟩
 match k,e with
 |0,_=>exact⟨_,j⟩
 |1,_=>exact⟨_,i⟩
 |2,_=>exact⟨_,v⟩
 |3,_=>exact⟨_,c⟩
theorem WP.lev{G:Gv}{n:Nat}{q:Nat->Nat}{sub:Nat->Nat->Nat}(h:WP G n q sub){k l:Nat}(c:k<4)(a:l<4):An G (sub k l) (n:Int):=by
 obtain⟨s,b⟩:=h.nd k c;have:=(b.nat a).2;rw[JH (sub k) a]at this;exact this
theorem gq_lev{G:Gv}{n:Nat}{q:Nat->Nat}{sub:Nat->Nat->Nat}(h:WP G n q sub){r c:Nat}(b:r<4)(a:c<4):An G (gq sub r c) (n:Int):=h.lev A0 A0
def Rv(sub:Nat->Nat->Nat)(r c k:Nat):Nat:=gq sub (r+k/2) (c+k%2)
theorem Go{n x c:Nat}:(c*2^n+x)/2^n=c+x/2^n/\(c*2^n+x)%2^n=x%2^n:=by
 have p:=AK n;constructor
 ·rw[S6,Nat.add_mul_div_right _ _ p,S6]
 ·rw[S6,Nat.add_mul_mod_self_right]
theorem Lb{n X:Nat}:X/2^(n+1)=X/2^n/2/\X%2^(n+1)/2^n=X/2^n%2:=by
 rw[F4];constructor
 ·rw[Nat.div_div_eq_div_mul]
 ·rw[Nat.mod_mul_right_div_self]
theorem QAt.inner{G:Gv}{c:Sc}{n i j:Nat}{q:Nat->Nat}(h:QAt G c (n+1) i j q){sub:Nat->Nat->Nat}(r:WP G n q sub){p:Nat}(hp:p<4):Ag G c n (2*i+(c.R%2^(n+1)/2^n+p%2)) (2*j+(c.D%2^(n+1)/2^n+p/2)) (Rv sub (c.D%2^(n+1)/2^n+p/2) (c.R%2^(n+1)/2^n+p%2)):=by
 have e:=Lm n;have Q:=Lm (n+1);have N:c.R%2^(n+1)/2^n<2:=BT (D9 _ (AK _));have U:c.D%2^(n+1)/2^n<2:=BT (D9 _ (AK _));refine⟨λk M=>gq_lev r A0 A0,λx y g t k1 k2=>?_⟩;have d:∀{R x b:Nat},x<2^(n+1)->mk1 R n x->b<2->(R%2^(n+1)/2^n+b)*2^n+x<2^(n+2)/\mk1 R (n+1) ((R%2^(n+1)/2^n+b)*2^n+x):=λ{R x b} g k O=>by
  have S:R%2^(n+1)/2^n<2:=BT (D9 _ (AK _));have T:(R%2^(n+1)/2^n+b)*2^n<=2*2^n:=W2 _ A0;refine⟨by lia,?_⟩;by_cases z:R%2^(n+1)=0
  ·refine .inr ?_;have v:R%2^n=0:=by rw[<-Ej R n,z,Nat.zero_mod]
   have I:=k.resolve_left (λq=>q v);rw[z,Nat.zero_div,N6];have:b*2^n<=1*2^n:=W2 _ A0;lia
  ·exact .inl z
 obtain⟨m,E⟩:=d (b:=p%2) g k1 A0;obtain⟨o,B⟩:=d (b:=p/2) t k2 A0;have a:=h.a.ag _ _ m o E B;generalize P:c.R%2^(n+1)/2^n+p%2=C at *
 generalize K:c.D%2^(n+1)/2^n+p/2=f at *
 obtain⟨s,l⟩:=r.nd _ (BO m o);rw[BD l (D9 _ (AK _)) (D9 _ (AK _)),Ej,Ej,Go.2,Go.2]at a;have u:quad n ((C*2^n+x)%2^(n+1)) ((f*2^n+y)%2^(n+1))<4:=BO (D9 _ (AK _)) (D9 _ (AK _));rw[JH _ u]at a;have w:sub (quad (n+1) (C*2^n+x) (f*2^n+y)) (quad n ((C*2^n+x)%2^(n+1)) ((f*2^n+y)%2^(n+1)))=Rv sub f C (quad n x y):=by
  obtain⟨H,A⟩:=FN g t;unfold Rv gq;rw[H,A];congr 1
  ·unfold quad;rw[Lb.1,Lb.1,Go.1,Go.1]
  ·unfold quad;rw[Lb.2,Lb.2,Go.1,Go.1]
 rw[w]at a;rw[a];congr 1
 ·rw[F4]
  grind
 ·rw[F4]
  grind
theorem Rs.join{G:Gv}{c:Sc}{n i j m:Nat}{a:Nat->Nat}(h:∀p,p<4->Rs G c n (2*i+(c.R%2^(n+1)/2^n+p%2)) (2*j+(c.D%2^(n+1)/2^n+p/2)) (a p))(f:G[m]?=some ⟨[(a 0:Int),(a 1:Int),(a 2:Int),(a 3:Int)],(n:Int)+1⟩):Rs G c (n+1) i j m:=by
 have nm:GU G n m _ (a 0) (a 1) (a 2) (a 3):=⟨f,rfl,rfl,(h 0 A3).lev,(h 1 A3).lev,(h 2 A3).lev,(h 3 A3).lev⟩
 refine⟨⟨_,f,by show(n:Int)+1=_;lia⟩,λx y d b=>?_⟩;have e:=BO d b;rw[BD nm d b,JH a e,(h _ e).cell _ _ (D9 _ (AK n)) (D9 _ (AK n))];obtain⟨k,l⟩:=FN d b;rw[k,l];have g:∀(R x:Nat),R%2^(n+1)/2^n*2^n+R%2^n=R%2^(n+1):=λR x=>by
  have:=N4 (R%2^(n+1)) (2^n);rw[Ej]at this;rw[S0];exact this
 have dx:∀x:Nat,x/2^n*2^n+x%2^n=x:=λx=>by
  rw[S0];exact N4 _ _
 have r:=g c.R x;have q:=g c.D y;have o:=dx x;have s:=dx y;congr 1
 ·rw[show i*2^(n+1)=2*i*2^n by rw[F4];grind,W4,W4];lia
 ·rw[show j*2^(n+1)=2*j*2^n by rw[F4];grind,W4,W4];lia
theorem QAt.one{G:Gv}(ok:GOk G){c:Sc}{n i j t o:Nat}{q r:Nat->Nat}(h:QAt G c n i j q)(h':QAt G c n t o r)(e:∀x y,x<2^(n+1)->y<2^(n+1)->c.Φ (i*2^n+x) (j*2^n+y)=c.Φ (t*2^n+x) (o*2^n+y)){k:Nat}(g:k<4):q k=r k:=by
 refine Le ok (h.a.lev k g) (h'.a.lev k g) λx y v u=>?_;obtain⟨f,d,s,l,p⟩:=EC g v u;by_cases m:mk1 c.R n (x+2^n*(k%2))/\mk1 c.D n (y+2^n*(k/2))
 ·have a:=h.a.ag _ _ f d m.1 m.2;have b:=h'.a.ag _ _ f d m.1 m.2;rw[s,l,p]at a b;rw[a,b,e _ _ f d]
 ·have a:=h.off _ _ f d m;have b:=h'.off _ _ f d m;rw[s,l,p]at a b;rw[a,b]
theorem QAt.ne{G r:Gv}(u:G=G0++r)(ok:GOk G){c:Sc}{n i j:Nat}{q:Nat->Nat}(v:n<=48)(h:QAt G c n i j q){k:Nat}(p:k<4)(b:q k≠bareN n):NE c.Φ n i j:=by
 obtain⟨x,y,t,s,l⟩:=ST u ok v (h.a.lev k p) b;obtain⟨e,d,o,f,g⟩:=EC p t s;refine⟨_,_,e,d,?_⟩;by_cases m:mk1 c.R n (x+2^n*(k%2))/\mk1 c.D n (y+2^n*(k/2))
 ·have a:=h.a.ag _ _ e d m.1 m.2;rw[o,f,g]at a;rw[<-a];exact l
 ·have a:=h.off _ _ e d m;rw[o,f,g]at a;exact absurd a l
seal L2.PA L2.PE L2.PS L2.PSs L2.PT L2.PW
def kQ(q:Nat->Nat):List Key:=kOf [(q 0:Int),(q 1:Int),(q 2:Int),(q 3:Int)]
theorem ZB{q a:Nat->Nat}(e:kQ q=kQ a):∀k,k<4->q k=a k:=by
 have e:=Oc e;injection e with e0 e
 injection e with e1 e
 injection e with e2 e
 injection e with e3 _
 intro k b
 match k,b with
 |0,_=>exact X6 e0
 |1,_=>exact X6 e1
 |2,_=>exact X6 e2
 |3,_=>exact X6 e3
theorem ZC{q a:Nat->Nat}(e:∀k,k<4->q k=a k):kQ q=kQ a:=by
 unfold kQ;rw[e 0 A3,e 1 A3,e 2 A3,e 3 A3]
structure SEnt(G:Gv)(c:Sc)(p:List Key×V)(n i j:Nat)(q:Nat->Nat)(m:Nat):Prop where
 e:p=(kQ q,.int m)
 at':QAt G c n i j q
 rs:Rs G c n i j m
 nb:∃k,k<4/\q k≠bareN n
 le:n<=48
structure SOk(G:Gv)(c:Sc)(kvs:List (List Key×V)):Prop where
 nd:(kvs.map (·.1)).Nodup
 val:∀p∈kvs,∃n i j q m,SEnt G c p n i j q m
theorem sok0(G:Gv)(c:Sc):SOk G c []:=⟨P6,λp hp=>by simp at hp⟩
theorem SOk.go{G b:Gv}{k:Nat}{c:Sc}{a:List (List Key×V)}(ok:GOk G)(go:AG G b k)(h:SOk G c a):SOk b c a:=⟨h.nd,λp hp=>by
 obtain⟨n,i,j,q,m,e⟩:=h.val p hp;exact⟨n,i,j,q,m,e.e,e.at'.app ok go,e.rs.app ok go,e.nb,e.le⟩⟩
theorem SOk.put{G:Gv}{c:Sc}{a:List (List Key×V)}{n i j m:Nat}{q:Nat->Nat}(h:SOk G c a)(d:SEnt G c (kQ q,.int m) n i j q m)(no:Bu a (kQ q)=none):SOk G c (DQ a (kQ q) (.int m))/\(DQ a (kQ q) (.int m)).length=a.length+1:=by
 have b:=nd_putK (.int m) h.nd no;rw[FP _ no]at b⊢;refine⟨⟨b,λp hp=>?_⟩,by rw[C4];rfl⟩;rcases F9.mp hp with z|z
 ·exact h.val p z
 ·rw[D6]at z;subst z;exact⟨n,i,j,q,m,d⟩
theorem RT{k:List Key}{v:V}:∀{l:List (List Key×V)},Bu l k=some v->(k,v)∈l
 |[],h=>by cases h
 |p::r,h=>by
  by_cases e:p.1=k
  ·rw[BU e]at h;cases h;rw[<-e];exact C7
  ·rw[BF e]at h;exact C8 _ (RT h)
def KCo(G:Gv)(c:Sc)(k:List Key)(x:Nat):Prop:=∃n i j q,k=kQ q/\QAt G c n i j q/\(∃k,k<4/\q k≠bareN n)/\n<=48/\x=n*c.M+c.cl n i j
theorem SOk.len{G r:Gv}(P:G=G0++r)(ok:GOk G){c:Sc}(s:Uy c){d:List (List Key×V)}(h:SOk G c d):d.length<=49*c.M:=by
 classical
 have:=La (49*c.M) ((d.map (·.1)).map (λk=>if z:∃x,KCo G c k x then Classical.choose z else 0)) (by
  rw[R8,List.pairwise_map];refine List.Pairwise.imp_of_mem (λ{x y} B I E z=>E ?_) (R8.mp h.nd);obtain⟨p,hp,rfl⟩:=C3.mp B;obtain⟨p',D,rfl⟩:=C3.mp I;obtain⟨n,i,j,q,m,e⟩:=h.val p hp;obtain⟨n',i',j',u,m',o⟩:=h.val p' D;have N:=e.e;have e2:=o.e;subst N e2;have l:∃x,KCo G c (kQ q) x:=⟨_,n,i,j,q,rfl,e.at',e.nb,e.le,rfl⟩
  have S:∃x,KCo G c (kQ u) x:=⟨_,n',i',j',u,rfl,o.at',o.nb,o.le,rfl⟩
  have z:(if z:∃x,KCo G c (kQ q) x then Classical.choose z else 0)=(if z:∃x,KCo G c (kQ u) x then Classical.choose z else 0):=z;rw[dif_pos l,dif_pos S]at z;obtain⟨a,H,K,q1,k1,v,A,g,w⟩:=A4g l;obtain⟨t,T,Y,q2,k2,U,b2,Z,y2⟩:=A4g S;rw[w,y2]at z;obtain⟨w1,f,b⟩:=A;obtain⟨w2,O,C⟩:=b2;have R:=v.ne P ok g f b;have Q:=U.ne P ok Z O C;have X:=s.lt _ _ _ g R;have c2:=s.lt _ _ _ Z Q;have en:a=t:=by
   have d1:(a*c.M+c.cl a H K)/c.M=a:=by rw[S0,Nat.mul_add_div A0,N8 X,Nat.add_zero]
   have d2:(t*c.M+c.cl t T Y)/c.M=t:=by rw[S0,Nat.mul_add_div A0,N8 c2,Nat.add_zero]
   rw[<-d1,z,d2]
  subst en;have ec:c.cl a H K=c.cl a T Y:=by lia
  show kQ q=kQ u;rw[k1,k2];exact ZC λk hk=>v.one ok U (s.same _ _ _ _ _ g R Q ec) hk) (λx B=>by
  obtain⟨y,I,rfl⟩:=C3.mp B;obtain⟨p,hp,rfl⟩:=C3.mp I;obtain⟨n,i,j,q,m,e⟩:=h.val p hp;have N:=e.e;subst N;have l:∃x,KCo G c (kQ q) x:=⟨_,n,i,j,q,rfl,e.at',e.nb,e.le,rfl⟩
  show(if z:∃x,KCo G c (kQ q) x then Classical.choose z else 0)<_;rw[dif_pos l];obtain⟨a,H,K,q1,k1,v,A,g,w⟩:=A4g l;obtain⟨w1,f,b⟩:=A;have X:=s.lt _ _ _ g (v.ne P ok g f b);rw[w];have:a*c.M+c.M<=49*c.M:=by
   rw[<-V3];exact W2 _ A0
  lia)
 rw[B5,B5]at this;exact this
def UnS(G:Gv)(N:Nat)(kvs kvs':List (List Key×V)):Prop:=∀(q:Nat->Nat)(N':Nat),An G (q 0) (N':Int)->N<N'->Bu kvs (kQ q)=none->Bu kvs' (kQ q)=none
theorem UnS.refl(G:Gv)(N:Nat)(a:List (List Key×V)):UnS G N a a:=λ_ _ _ _ h=>h
theorem UnS.trans{G f:Gv}{k N:Nat}{a b c:List (List Key×V)}(go:AG G f k)(h:UnS G N a b)(i:UnS f N b c):UnS G N a c:=λq g d e z=>i q g (go.lev d) e (h q g d e z)
section
variable{P:Program}{w:World}{K:W.Frag}{mg:Str->Option Value}{base:Heap}{a:Ad}
def Ca(q:Nat->Nat):List V:=[.int (q 0:Int),.int (q 1:Int),.int (q 2:Int),.int (q 3:Int)]
inductive SpWu(vs:List V)(H:Hp)(Q:VK):Prop
 |mk (t:Addr) (q:Nat->Nat) (R D n:Nat) (_:vs=[.ref t,.int ((R%2^n:Nat):Int),.int ((D%2^n:Nat):Int),.int (bareN n:Int)]) (_:H t=some (.tup (Ca q))) (_:∀(t':Addr)(H':Hp),AA H H'->H' t'=some (.tup (Ca (wuQ R D n q)))->Q (.ref t') H'):SpWu vs H Q
def spWu:Sp:=λvs H Q _=>SpWu vs H Q
theorem nat0{n:Nat}:decide (V.int (n:Int)=V.int 0)=decide (n=0):=by
 by_cases z:n=0
 ·subst z;rw[Z7 (rfl:(0:Nat)=0)];exact Z7 rfl
 ·rw[Z8 z,Z8];intro q;injection q with q
  lia
theorem ok_wu(F:Fun K "without_unseen" "without_unseen" Er f fd)(T:Top K mg a):AL P w K mg base CX0 1 f fd Na spWu:=by
  refine F.ok Md (λ_ _ _ _ h=>by rcases h;subst_vars;rfl) λi A e s H vs Q E l h=>?_
  obtain⟨t,q,R,D,n,rfl,d,k⟩:=h;refine⟨_,(Ab (AM (Ay CQ (pv 1) Ac (AD _)) (Ah (As (Bk (Aa (Aj Ak (pv 0) Ac (λ_ _=>rfl)) (Aa (pv 3) (Aa (Aj Ak (pv 0) Ac (λ_ _=>rfl)) (Aa (pv 3) Ae))))))) AB) (Ab (AM (Ay CQ (pv 2) Ac (AD _)) (Ah (As (Bk (Aa (Aj Ak (pv 0) Ac (λ_ _=>rfl)) (Aa (Aj Ak (pv 0) Ac (λ_ _=>rfl)) (Aa (pv 3) (Aa (pv 3) Ae))))))) AB) (Ah (As (pv 0))))),?_⟩
  try dsimp only[cxK]
  have m:∀{g:Hp},AA H g->g t=some (.tup (Ca q)):=λs=>s _ _ d;refine⟨_,rfl,rfl,_,rfl,?_⟩;rw[nat0];by_cases b:R%2^n=0
  ·rw[Z7 b];refine BL ⟨_,rfl,t,_,0,.int (q 0:Int),rfl,rfl,SqT.of d,Ai (j:=0) rfl,_,rfl,_,rfl,t,_,2,.int (q 2:Int),rfl,rfl,SqT.of d,Ai (j:=2) rfl,_,rfl,(by show 4<=sizeLine;decide),λp hp=>k p _ (Ar hp) ?_⟩;rw[Af];show some (HO.tup [V.int (q 0:Int),V.int (bareN n:Int),V.int (q 2:Int),V.int (bareN n:Int)])=_;unfold Ca wuQ;rw[Z9 b,Z9 b,Z9 b,Z9 b];rfl
  rw[Z8 b];refine Ba ⟨_,rfl,rfl,_,rfl,?_⟩;rw[nat0];by_cases c:D%2^n=0
  ·rw[Z7 c];refine BL ⟨_,rfl,t,_,0,.int (q 0:Int),rfl,rfl,SqT.of d,Ai (j:=0) rfl,_,rfl,t,_,1,.int (q 1:Int),rfl,rfl,SqT.of d,Ai (j:=1) rfl,_,rfl,_,rfl,(by show 4<=sizeLine;decide),λp hp=>k p _ (Ar hp) ?_⟩;rw[Af];show some (HO.tup [V.int (q 0:Int),V.int (q 1:Int),V.int (bareN n:Int),V.int (bareN n:Int)])=_;unfold Ca wuQ;rw[Z6 b,Z6 b,Z6 b,Z6 b,Z9 c,Z9 c,Z9 c,Z9 c];rfl
  rw[Z8 c];refine Ba ⟨_,rfl,k t H (AA.refl H) ?_⟩;rw[d];unfold Ca wuQ;rw[Z6 b,Z6 b,Z6 b,Z6 b,Z6 c,Z6 c,Z6 c,Z6 c]
inductive SpRq(a:Ad)(vs:List V)(H:Hp)(Q:VK):Prop
 |mk (g:GA) (G:Gv) (t:Addr) (q:Nat->Nat) (n:Nat) (sub:Nat->Nat->Nat) (_:vs=[.ref g.p,.ref t]) (_:AX a H g G) (_:H t=some (.tup (Ca q))) (_:WP G n q sub) (_:∀(L r0 r1 r2 r3:Addr)(H':Hp),AA H H'->H L=none->H' L=some (.lst [.ref r0,.ref r1,.ref r2,.ref r3])->H' r0=some (.tup (Ca (gq sub 0)))->H' r1=some (.tup (Ca (gq sub 1)))->H' r2=some (.tup (Ca (gq sub 2)))->H' r3=some (.tup (Ca (gq sub 3)))->Q (.ref L) H'):SpRq a vs H Q
def spRq(a:Ad):Sp:=λvs H Q _=>SpRq a vs H Q
theorem ok_rq(F:Fun K "rows_of_quarters" "rows_of_quarters" Dy f fd)(T:Top K mg a):AL P w K mg base CX0 1 f fd CB (spRq a):=by
  refine F.ok BV (λ_ _ _ _ h=>by rcases h;subst_vars;rfl) λac A V s H vs Q E hr h=>?_
  obtain⟨g,G,t,q,n,sub,rfl,l,S,M,k⟩:=h;refine⟨_,(Ab (Ao (i:=2) BV.nd rfl (Or.inl rfl) (Aj Av (AC (pv 0) rfl) (Aj Ak (pv 1) Ac (λ_ _=>rfl)) (λ_ _=>rfl))) (Ab (Ao (i:=3) BV.nd rfl (Or.inl rfl) (Aj Av (AC (pv 0) rfl) (Aj Ak (pv 1) Ac (λ_ _=>rfl)) (λ_ _=>rfl))) (Ab (Ao (i:=4) BV.nd rfl (Or.inl rfl) (Aj Av (AC (pv 0) rfl) (Aj Ak (pv 1) Ac (λ_ _=>rfl)) (λ_ _=>rfl))) (Ab (Ao (i:=5) BV.nd rfl (Or.inl rfl) (Aj Av (AC (pv 0) rfl) (Aj Ak (pv 1) Ac (λ_ _=>rfl)) (λ_ _=>rfl))) (Ah (As (CA (AT (Aa (Aj Ak (pv 2) Ac (λ_ _=>rfl)) (Aa (Aj Ak (pv 2) Ac (λ_ _=>rfl)) (Aa (Aj Ak (pv 3) Ac (λ_ _=>rfl)) (Aa (Aj Ak (pv 3) Ac (λ_ _=>rfl)) Ae)))) (AT (Aa (Aj Ak (pv 2) Ac (λ_ _=>rfl)) (Aa (Aj Ak (pv 2) Ac (λ_ _=>rfl)) (Aa (Aj Ak (pv 3) Ac (λ_ _=>rfl)) (Aa (Aj Ak (pv 3) Ac (λ_ _=>rfl)) Ae)))) (AT (Aa (Aj Ak (pv 4) Ac (λ_ _=>rfl)) (Aa (Aj Ak (pv 4) Ac (λ_ _=>rfl)) (Aa (Aj Ak (pv 5) Ac (λ_ _=>rfl)) (Aa (Aj Ak (pv 5) Ac (λ_ _=>rfl)) Ae)))) (AT (Aa (Aj Ak (pv 4) Ac (λ_ _=>rfl)) (Aa (Aj Ak (pv 4) Ac (λ_ _=>rfl)) (Aa (Aj Ak (pv 5) Ac (λ_ _=>rfl)) (Aa (Aj Ak (pv 5) Ac (λ_ _=>rfl)) Ae)))) Ae))))))))))),?_⟩
  try dsimp only[cxK]
  obtain⟨s0,n0⟩:=M.nd 0 A3;obtain⟨s1,n1⟩:=M.nd 1 A3;obtain⟨s2,n2⟩:=M.nd 2 A3;obtain⟨s3,n3⟩:=M.nd 3 A3;obtain⟨ts,B,h3,ea,R⟩:=Ed l.at' n0;obtain⟨ab,z,Z,eb,N⟩:=Ed l.at' n1;obtain⟨aa,tc,y,ec,O⟩:=Ed l.at' n2;obtain⟨U,u,m,ed,I⟩:=Ed l.at' n3;refine⟨_,rfl,g.p,_,g.dx,_,_,rfl,l.at'.hp,T.cl_Grove,T.na_Grove_parts,Cd g,_,rfl,t,_,0,.int (q 0:Int),rfl,rfl,SqT.of S,Ai (j:=0) rfl,g.pt,_,(q 0:Int),.ref B,rfl,rfl,SqL.of h3,Ai ea,?_⟩;refine⟨_,rfl,g.p,_,g.dx,_,_,rfl,l.at'.hp,T.cl_Grove,T.na_Grove_parts,Cd g,_,rfl,t,_,1,.int (q 1:Int),rfl,rfl,SqT.of S,Ai (j:=1) rfl,g.pt,_,(q 1:Int),.ref z,rfl,rfl,SqL.of Z,Ai eb,?_⟩;refine⟨_,rfl,g.p,_,g.dx,_,_,rfl,l.at'.hp,T.cl_Grove,T.na_Grove_parts,Cd g,_,rfl,t,_,2,.int (q 2:Int),rfl,rfl,SqT.of S,Ai (j:=2) rfl,g.pt,_,(q 2:Int),.ref tc,rfl,rfl,SqL.of y,Ai ec,?_⟩;refine⟨_,rfl,g.p,_,g.dx,_,_,rfl,l.at'.hp,T.cl_Grove,T.na_Grove_parts,Cd g,_,rfl,t,_,3,.int (q 3:Int),rfl,rfl,SqT.of S,Ai (j:=3) rfl,g.pt,_,(q 3:Int),.ref u,rfl,rfl,SqL.of m,Ai ed,?_⟩;have d:=AA.refl H;refine⟨_,rfl,B,_,0,.int (sub 0 0:Int),rfl,rfl,SqT.of (d _ _ R),Ai (j:=0) rfl,_,rfl,B,_,1,.int (sub 0 1:Int),rfl,rfl,SqT.of (d _ _ R),Ai (j:=1) rfl,_,rfl,z,_,0,.int (sub 1 0:Int),rfl,rfl,SqT.of (d _ _ N),Ai (j:=0) rfl,_,rfl,z,_,1,.int (sub 1 1:Int),rfl,rfl,SqT.of (d _ _ N),Ai (j:=1) rfl,(by show 4<=sizeLine;decide),λp0 Y=>?_⟩;have c:=d.trans (Ar (o:=.tup (Ca (gq sub 0))) Y);refine⟨_,rfl,B,_,2,.int (sub 0 2:Int),rfl,rfl,SqT.of (c _ _ R),Ai (j:=2) rfl,_,rfl,B,_,3,.int (sub 0 3:Int),rfl,rfl,SqT.of (c _ _ R),Ai (j:=3) rfl,_,rfl,z,_,2,.int (sub 1 2:Int),rfl,rfl,SqT.of (c _ _ N),Ai (j:=2) rfl,_,rfl,z,_,3,.int (sub 1 3:Int),rfl,rfl,SqT.of (c _ _ N),Ai (j:=3) rfl,(by show 4<=sizeLine;decide),λp1 C=>?_⟩;have e:=c.trans (Ar (o:=.tup (Ca (gq sub 1))) C);refine⟨_,rfl,tc,_,0,.int (sub 2 0:Int),rfl,rfl,SqT.of (e _ _ O),Ai (j:=0) rfl,_,rfl,tc,_,1,.int (sub 2 1:Int),rfl,rfl,SqT.of (e _ _ O),Ai (j:=1) rfl,_,rfl,u,_,0,.int (sub 3 0:Int),rfl,rfl,SqT.of (e _ _ I),Ai (j:=0) rfl,_,rfl,u,_,1,.int (sub 3 1:Int),rfl,rfl,SqT.of (e _ _ I),Ai (j:=1) rfl,(by show 4<=sizeLine;decide),λp2 x=>?_⟩;have b:=e.trans (Ar (o:=.tup (Ca (gq sub 2))) x);refine⟨_,rfl,tc,_,2,.int (sub 2 2:Int),rfl,rfl,SqT.of (b _ _ O),Ai (j:=2) rfl,_,rfl,tc,_,3,.int (sub 2 3:Int),rfl,rfl,SqT.of (b _ _ O),Ai (j:=3) rfl,_,rfl,u,_,2,.int (sub 3 2:Int),rfl,rfl,SqT.of (b _ _ I),Ai (j:=2) rfl,_,rfl,u,_,3,.int (sub 3 3:Int),rfl,rfl,SqT.of (b _ _ I),Ai (j:=3) rfl,(by show 4<=sizeLine;decide),λp3 D=>?_⟩;have r:=b.trans (Ar (o:=.tup (Ca (gq sub 3))) D);refine⟨(by show 4<=sizeLine;decide),λL hL=>?_⟩;have t0:=Ar (o:=.tup (Ca (gq sub 1))) C;have t1:=Ar (o:=.tup (Ca (gq sub 2))) x;have X:=Ar (o:=.tup (Ca (gq sub 3))) D;have v:=Ar (o:=.lst [.ref p0,.ref p1,.ref p2,.ref p3]) hL;exact k L p0 p1 p2 p3 _ (r.trans v) (AA.noneOf r hL) Af (v _ _ (X _ _ (t1 _ _ (t0 _ _ Af)))) (v _ _ (X _ _ (t1 _ _ Af))) (v _ _ (X _ _ Af)) (v _ _ Af)
end
theorem NV(q:Nat->Nat){k:Nat}(a:k<4):(Ca q)[k]?=some (.int (q k:Int)):=by
 match k,a with
 |0,_=>rfl
 |1,_=>rfl
 |2,_=>rfl
 |3,_=>rfl
section
variable{P:Program}{w:World}{K:W.Frag}{mg:Str->Option Value}{base:Heap}{a:Ad}
inductive SpSa(a:Ad)(n:Nat)(vs:List V)(H:Hp)(Q:VK):Prop
 |mk (g:GA) (G:Gv) (c:Sc) (kn tf:Addr) (kvs:List (List Key×V)) (q:Nat->Nat) (i j N:Nat) (_:vs=[.ref g.p,.ref tf,.int ((c.R%2^N:Nat):Int),.int ((c.D%2^N:Nat):Int),.ref kn]) (_:AX a H g G) (_:H kn=some (.dT kvs)) (_:kn∉Dl g) (_:H tf=some (.tup (Ca q))) (_:Ag G c N i j q) (_:SOk G c kvs) (_:Uy c) (_:N<n) (_:N<=47) (_:G.length+49*c.M<8000000+kvs.length/\49*c.M<4000000) (_:∀(m:Nat)(G':Gv)(kvs':List (List Key×V))(H':Hp),Fx (frM g kn) H H'->AX a H' g G'->H' kn=some (.dT kvs')->SOk G' c kvs'->kvs.length<=kvs'.length->AG G G' (kvs'.length-kvs.length)->UnS G N kvs kvs'->Rs G' c N i j m->Q (.int m) H'):SpSa a n vs H Q
def Yj(a:Ad)(n:Nat):Sp:=λvs H Q _=>SpSa a n vs H Q
inductive SpSq(a:Ad)(n:Nat)(vs:List V)(H:Hp)(Q:VK):Prop
 |mk (g:GA) (G:Gv) (c:Sc) (kn tf:Addr) (kvs:List (List Key×V)) (q:Nat->Nat) (i j N:Nat) (_:vs=[.ref g.p,.ref tf,.int ((c.R%2^(N+1):Nat):Int),.int ((c.D%2^(N+1):Nat):Int),.ref kn]) (_:AX a H g G) (_:H kn=some (.dT kvs)) (_:kn∉Dl g) (_:H tf=some (.tup (Ca q))) (_:QAt G c (N+1) i j q) (_:SOk G c kvs) (_:Uy c) (_:N<n) (_:N<=46) (_:G.length+49*c.M<8000000+kvs.length/\49*c.M<4000000) (_:∀(m:Nat)(G':Gv)(kvs':List (List Key×V))(H':Hp),Fx (frM g kn) H H'->AX a H' g G'->H' kn=some (.dT kvs')->SOk G' c kvs'->kvs.length<=kvs'.length->AG G G' (kvs'.length-kvs.length+1)->UnS G N kvs kvs'->Rs G' c (N+1) i j m->Q (.int m) H'):SpSq a n vs H Q
def spSq(a:Ad)(n:Nat):Sp:=λvs H Q _=>SpSq a n vs H Q
theorem ok_sq{n d:Nat}(hd:2<=d)(F:Fun K "seen_quarters" "seen_quarters" Du f fd)(T:Top K mg a)(aK:Cal P w K mg base CX0 1 "rows_of_quarters" CB (spRq a))(a8:Cb P w K mg base CX0 2 a.c_Grove "linked" AW (DS a))(bS:Cal P w K mg base CX0 d "seen_at" FB (Yj a n)):AL P w K mg base CX0 (d+1) f fd FB (spSq a n):=by
  refine F.ok Bm (λ_ _ _ _ h=>by rcases h;subst_vars;rfl) λbo A bm s H vs Q E hr h=>?_
  obtain⟨g,G,c,X,tf,Z,q,i,j,N,rfl,U,hk,nk,ax,qa,bj,sc,Nn,bb,⟨few,aq⟩,k⟩:=h;refine⟨_,(Ab (Ao (i:=5) Bm.nd rfl (Or.inl rfl) (AE MY Ac (AE AS (Aj Av (AC (pv 0) rfl) (Aj Ak (pv 1) Ac (λ_ _=>rfl)) (λ_ _=>rfl)) Ac))) (Ab (Ao (i:=6) Bm.nd rfl (Or.inl rfl) (Aw aK (rm hr) rfl Aq (Aa (pv 0) (Aa (pv 1) Ae)))) (Ab (Ao (i:=7) Bm.nd rfl (Or.inl rfl) (CA Ae)) (Ab (DA K8 rfl (Ex rfl T.b_range (AR Ae)) (BQ (i:=8) Bm.nd rfl (Or.inl rfl)) (Ab (Ao (i:=9) Bm.nd rfl (Or.inl rfl) (AE Bb (AE Mt (pv 2) (pv 5)) (AE BH (pv 8) Ac))) (Ab (Ao (i:=10) Bm.nd rfl (Or.inl rfl) (AE Bb (AE Mt (pv 3) (pv 5)) (AE CP (pv 8) Ac))) (Ab (Ao (i:=11) Bm.nd rfl (Or.inl rfl) (Bk (Aa (Aj Ak (Aj Av (pv 6) (pv 10) (λ_ _=>rfl)) (pv 9) (λ_ _=>rfl)) (Aa (Aj Ak (Aj Av (pv 6) (pv 10) (λ_ _=>rfl)) (AE Bb (pv 9) Ac) (λ_ _=>rfl)) (Aa (Aj Ak (Aj Av (pv 6) (AE Bb (pv 10) Ac) (λ_ _=>rfl)) (pv 9) (λ_ _=>rfl)) (Aa (Aj Ak (Aj Av (pv 6) (AE Bb (pv 10) Ac) (λ_ _=>rfl)) (AE Bb (pv 9) Ac) (λ_ _=>rfl)) Ae)))))) (Ah (BP (DK K0 K1 K2 BS (pv 7) (Aa (Aw bS (rm hr) rfl Aq (Aa (pv 0) (Aa (pv 11) (AV BH (pv 2) (pv 5) (AV BH (pv 3) (pv 5) (Aa (pv 4) Ae)))))) Ae)))))))) (Ah (As (AI (pv 0) a8 (rm hr) Aq (Aa (Bp BJ rfl T.b_tuple K9 (Aa (pv 7) Ae)) Ae)))))))),?_⟩
  try dsimp only[cxK]
  obtain⟨sub,hs⟩:=sub4_of U.ok qa.a.lev;obtain⟨q0,bi,ah⟩:=id (qa.a.lev 0 A3);have bd:(1:Int)*2^(q0.lev-1).toNat=((2^N:Nat):Int):=by
   rw[ah,show(((N+1:Nat):Int)-1).toNat=N by lia,Int.one_mul,EQ]
  refine⟨_,rfl,g.p,_,g.dx,_,_,rfl,U.at'.hp,T.cl_Grove,T.na_Grove_levels,ED g,_,rfl,tf,_,0,.int (q 0:Int),rfl,rfl,SqT.of ax,Ai (j:=0) rfl,g.lv,_,(q 0:Int),.int q0.lev,rfl,rfl,SqL.of U.at'.lv,Ai (by rw[B8,bi];rfl),_,_,rfl,rfl,_,_,rfl,rfl,⟨by rw[ah];lia,by rw[ah];lia,by decide⟩,?_⟩;rw[show(λ(i j:Int)=>V.int (i*2^j.toNat)) 1 ((λ(i j:Int)=>i-j) q0.lev 1)=V.int ((2^N:Nat):Int)from K5 V.int bd];refine⟨_,rfl,_,rfl,g,G,tf,q,N,sub,rfl,U,ax,hs,λL r0 r1 r2 r3 H2 s2 nL hL h0 h1 h2 h3=>?_⟩;refine⟨(by show 0<=sizeLine;decide),λv ad=>?_⟩;have s3:=Ar (o:=.lst []) ad;have au:upd H2 v (.lst []) v=some (.lst []):=Af;show(tSeq _ _) _ _ (upd H2 v (.lst []));generalize upd H2 v (.lst [])=H3 at s3 au⊢;have an:=s2.trans s3;have ai:H v=none:=AA.noneOf s2 ad;have ae:∀{r:Nat},r<4->∃x,[V.ref r0,V.ref r1,V.ref r2,V.ref r3][r]?=some (.ref x)/\H3 x=some (.tup (Ca (gq sub r))):=λ{r} hr=>by
   match r,hr with
   |0,_=>exact⟨r0,rfl,s3 _ _ h0⟩
   |1,_=>exact⟨r1,rfl,s3 _ _ h1⟩
   |2,_=>exact⟨r2,rfl,s3 _ _ h2⟩
   |3,_=>exact⟨r3,rfl,s3 _ _ h3⟩
  have a9:=s3 _ _ hL;have bc:=U.same an;have a5:=an _ _ hk;have aa:v∉Dl g:=λz=>by
   obtain⟨oo,e⟩:=(U.same s2).nw.s v z;rw[ad]at e;cases e
  have av:v≠X:=λz=>by
   rw[z,hk]at ai;cases ai
  have mF:v∉frM g X:=λz=>by
   simp only[frM,B7,C6,K7]at z;rcases z with z|z|z|z
   ·exact aa (by rw[z];simp[Dl])
   ·exact aa (by rw[z];simp[Dl])
   ·exact aa (by rw[z];simp[Dl])
   ·exact av z
  have LF:L∉v::frM g X:=λz=>by
   rcases B7.mp z with z|z
   ·rw[z]at hL;rw[ad]at hL;cases hL
   ·simp only[frM,B7,C6,K7]at z;have ex:∃o,H L=some o:=by
     rcases z with z|z|z|z
     ·exact U.nw.s L (by rw[z];simp[Dl])
     ·exact U.nw.s L (by rw[z];simp[Dl])
     ·exact U.nw.s L (by rw[z];simp[Dl])
     ·exact⟨_,by rw[z];exact hk⟩
    obtain⟨o,e⟩:=ex;rw[nL]at e;cases e
  clear h0 h1 h2 h3 hL s2 s3;have c2:c.R%2^(N+1)/2^N<2:=BT (D9 _ (AK _));have d2:c.D%2^(N+1)/2^N<2:=BT (D9 _ (AK _));have pN:0<2^N:=AK N;have pI:(0:Int)<((2^N:Nat):Int):=by lia
  have a4:((2^N:Nat):Int)<2^64:=by
   have:2^N<=2^46:=O0 A3 bb;lia
  have ay:∀R:Nat,((R%2^(N+1):Nat):Int)%((2^N:Nat):Int)=((R%2^N:Nat):Int):=λR=>by rw[<-Int.natCast_emod,Ej]
  refine⟨4,rfl,by decide,by decide,?_⟩;refine DN (n:=4) (λp σ H4=>∃(G4:Gv)(b:List (List Key×V))(u:Nat->Nat)(u8 u9 ak aj:Option V),σ=[some (.ref g.p),some (.ref tf),some (.int ((c.R%2^(N+1):Nat):Int)),some (.int ((c.D%2^(N+1):Nat):Int)),some (.ref X),some (.int ((2^N:Nat):Int)),some (.ref L),some (.ref v),u8,u9,ak,aj]/\Fx (v::frM g X) H3 H4/\H4 v=some (.lst ((List.range p).map λx=>V.int (u x:Nat)))/\AX a H4 g G4/\H4 X=some (.dT b)/\SOk G4 c b/\Z.length<=b.length/\AG G G4 (b.length-Z.length)/\UnS G N Z b/\∀x,x<p->Rs G4 c N (2*i+(c.R%2^(N+1)/2^N+x%2)) (2*j+(c.D%2^(N+1)/2^N+x/2)) (u x)) ⟨G,Z,λ_=>0,none,none,none,none,rfl,Fx.refl _ H3,au,bc,a5,bj,C1 _,(AG.refl U.ok).mono A0,UnS.refl _ _ _,λx hx=>absurd hx (F8 _)⟩ ?_ ?_
  ·rintro p σ H4 hp ⟨G4,b,u,u8,u9,ak,aj,rfl,x4,am,l,af,O,a1,B,al,M⟩;have eC:((c.R%2^(N+1):Nat):Int)/((2^N:Nat):Int)+(0+(p:Int))%2=((c.R%2^(N+1)/2^N+p%2:Nat):Int):=by rw[<-T0];lia
   have eD:((c.D%2^(N+1):Nat):Int)/((2^N:Nat):Int)+(0+(p:Int))/2=((c.D%2^(N+1)/2^N+p/2:Nat):Int):=by rw[<-T0];lia
   have ag:=(qa.inner hs hp).app U.ok B;have C2:c.R%2^(N+1)/2^N+p%2<3:=by lia
   have D2:c.D%2^(N+1)/2^N+p/2<3:=by lia
   refine⟨_,rfl,_,rfl,_,_,rfl,rfl,⟨pI,a4⟩,_,rfl,_,_,rfl,rfl,B2,_,_,rfl,rfl,?_⟩;rw[show(λ(i j:Int)=>V.int (i+j)) (((c.R%2^(N+1):Nat):Int)/((2^N:Nat):Int)) ((0+(p:Int))%2)=V.int ((c.R%2^(N+1)/2^N+p%2:Nat):Int)from K5 V.int eC];refine⟨_,rfl,_,rfl,_,_,rfl,rfl,⟨pI,a4⟩,_,rfl,_,_,rfl,rfl,⟨by decide,by decide⟩,_,_,rfl,rfl,?_⟩;rw[show(λ(i j:Int)=>V.int (i+j)) (((c.D%2^(N+1):Nat):Int)/((2^N:Nat):Int)) ((0+(p:Int))/2)=V.int ((c.D%2^(N+1)/2^N+p/2:Nat):Int)from K5 V.int eD];generalize hC:c.R%2^(N+1)/2^N+p%2=C at ag C2⊢;generalize a6:c.D%2^(N+1)/2^N+p/2=t at ag D2⊢;obtain⟨y0,ar,ac⟩:=ae (r:=t) A0;obtain⟨y1,a3,Y⟩:=ae (r:=t+1) A0;have ab:=x4.get LF a9;have ac:=x4.tup ac;have Y:=x4.tup Y;have b0:=NV (gq sub t) (k:=C) A0;have b1:=NV (gq sub t) (k:=C+1) A0;have b2:=NV (gq sub (t+1)) (k:=C) A0;have b3:=NV (gq sub (t+1)) (k:=C+1) A0;refine⟨_,rfl,_,rfl,L,_,(t:Int),.ref y0,rfl,rfl,SqL.of ab,Ai ar,_,rfl,y0,_,(C:Int),_,rfl,rfl,SqT.of ac,Ai b0,?_⟩;refine⟨_,rfl,_,rfl,L,_,(t:Int),.ref y0,rfl,rfl,SqL.of ab,Ai ar,_,rfl,_,_,rfl,rfl,y0,_,((C+1:Nat):Int),_,rfl,rfl,SqT.of ac,Ai b1,?_⟩;refine⟨_,rfl,_,rfl,_,_,rfl,rfl,L,_,((t+1:Nat):Int),.ref y1,rfl,rfl,SqL.of ab,Ai a3,_,rfl,y1,_,(C:Int),_,rfl,rfl,SqT.of Y,Ai b2,?_⟩;refine⟨_,rfl,_,rfl,_,_,rfl,rfl,L,_,((t+1:Nat):Int),.ref y1,rfl,rfl,SqL.of ab,Ai a3,_,rfl,_,_,rfl,rfl,y1,_,((C+1:Nat):Int),_,rfl,rfl,SqT.of Y,Ai b3,?_⟩;refine⟨(by show 4<=sizeLine;decide),λqp bl=>?_⟩;have S:=Ar (o:=.tup (Ca (Rv sub t C))) bl;have h5:upd H4 qp (.tup (Ca (Rv sub t C))) qp=some (.tup (Ca (Rv sub t C))):=Af;obtain⟨H5,e5⟩:∃H5,upd H4 qp (.tup (Ca (Rv sub t C)))=H5:=⟨_,rfl⟩
   have et:[V.int (gq sub t C:Int),V.int (gq sub t (C+1):Int),V.int (gq sub (t+1) C:Int),V.int (gq sub (t+1) (C+1):Int)]=Ca (Rv sub t C):=rfl;rw[et,e5];rw[e5]at S h5;clear e5 et;have x5:=x4.trans (AA.fx S);have aw:=S _ _ am;have g4:=B.few;refine⟨_,rfl,.inl ⟨rfl,_,SqL.of aw⟩,_,rfl,_,rfl,_,rfl,_,rfl,_,_,rfl,rfl,pI,_,rfl,_,rfl,_,_,rfl,rfl,pI,_,rfl,?_⟩;refine⟨g,G4,c,X,qp,b,Rv sub t C,2*i+C,2*j+t,N,?_,l.same S,S _ _ af,nk,h5,ag,O,sc,Nn,by lia,⟨by lia,aq⟩,λm G6 a2 H6 x6 ao bn az bp I a7 bg=>?_⟩
   ·show [V.ref g.p,V.ref qp,V.int (((c.R%2^(N+1):Nat):Int)%((2^N:Nat):Int)),V.int (((c.D%2^(N+1):Nat):Int)%((2^N:Nat):Int)),V.ref X]=_;rw[ay,ay]
   have a0:=x6.get mF aw;refine⟨v,_,.int m,rfl,rfl,a0,by rw[B5,M6];exact DL A0,?_⟩;have x7:=ZR (o':=.lst (((List.range p).map λx=>V.int (u x:Nat))++[.int m])) a0 (λz=>z);refine⟨G6,a2,λx=>if x=p then m else u x,_,_,_,_,rfl,(x5.trans (x6.mono (by simp[frM]))).trans (x7.mono A6),?_,ao.fx x7 (λy hy z=>aa (by rw[D6]at z;rw[<-z];exact hy)),x7.get (by simpa using X7 av) bn,az,by lia,(B.trans I).mono A0,al.trans B a7,λx hx=>?_⟩
   ·rw[Af,Q0,C5];congr 3
    ·exact List.map_congr_left λx hx=>by
      show V.int (u x:Nat)=V.int ((if x=p then m else u x:Nat):Int);rw[Z6 (by have:=M0.mp hx;lia)]
    ·show [V.int m]=[V.int ((if p=p then m else u p:Nat):Int)]
     rw[Z9 rfl]
   ·dsimp only;by_cases z:x=p
    ·subst z;rw[Z9 rfl,hC,a6];exact bg
    ·rw[Z6 z];exact(M x A0).app l.ok I
  ·rintro σ H4 ⟨G4,b,u,u8,u9,ak,aj,rfl,x4,am,l,af,O,a1,B,al,M⟩;have g4:=B.few;obtain⟨r4,e4⟩:=l.g0;have l4:=O.len e4 l.ok sc;refine⟨_,rfl,g.p,g.dx,_,rfl,l.at'.hp,BR g,_,rfl,v,_,rfl,.inl ⟨SqL.of am,λtl bf=>?_⟩⟩;have S:=Ar (o:=.tup [.int (u 0:Nat),.int (u 1:Nat),.int (u 2:Nat),.int (u 3:Nat)]) bf;refine⟨g,G4,tl,u 0,u 1,u 2,u 3,(N:Int),rfl,l.at'.same S,l.ok,Af,⟨(M 0 A3).lev,(M 1 A3).lev,(M 2 A3).lev,(M 3 A3).lev⟩,by lia,by lia,λm G6 H6 as ba I e6=>?_⟩;have x6:=as.fx (l.at'.same S);have ao:=(l.same S).fr as ba I;have bh:Fx (v::frM g X) H3 H6:=(x4.trans (AA.fx S)).trans (x6.mono (by simp[frM]));have kf:X∉[g.lv,g.pt,g.nm]:=λz=>nk (by simp[Dl]at *;lia);exact k m G6 b H6 (Fx.fresh an bh ai) ao (x6.get kf (S _ _ af)) (O.go l.ok I) a1 (B.trans I) al (Rs.join (λx hx=>(M x hx).app l.ok I) e6)
theorem ok_saS{n d:Nat}(F:Fun K "seen_at" "seen_at" JQ f fd)(T:Top K mg a)(hd:1<=d)(aO:Cal P w K mg base CX0 1 "without_unseen" Na spWu)(cO:Cal P w K mg base CX0 d "seen_quarters" FB (spSq a n)):AL P w K mg base CX0 (d+1) f fd FB (Yj a (n+1)):=by
 refine F.ok Ep (λvs H Q E h=>?_) (λaz A aw s H vs Q E hr h=>?_)
 ·obtain⟨g,G,c,kn,tf,l,q,i,j,N,rfl,_⟩:=h;rfl
 ·obtain⟨g,G,c,kn,tf,l,q,i,j,N,rfl,u,hk,nk,Z,ag,ad,sc,Nn,a1,few,k⟩:=h;refine⟨_,(Ab (AM (PW.pt (Js (Ay CQ (pv 2) Ac (AD _)) (Gk (Ay CQ (pv 3) Ac (AD _))))) (Ah (As (Aj Ak (pv 1) Ac (λ_ _=>rfl)))) AB) (Ab (Ao (i:=5) Ep.nd rfl (Or.inl rfl) (Aj Av (AC (pv 0) rfl) (Aj Av (AC (pv 0) rfl) (Aj Ak (pv 1) Ac (λ_ _=>rfl)) (λ_ _=>rfl)) (λ_ _=>rfl))) (Ab (Ao (i:=6) Ep.nd rfl (Or.inl rfl) (Aw aO (rm hr) rfl Aq (Aa (pv 1) (Aa (pv 2) (Aa (pv 3) (Aa (pv 5) Ae)))))) (Ab (AM (Ay (Wh hr.units) (pv 6) (Bk (Aa (pv 5) (Aa (pv 5) (Aa (pv 5) (Aa (pv 5) Ae))))) (AD _)) (Ah (As (pv 5))) AB) (Ab (Ao (i:=7) Ep.nd rfl (Or.inl rfl) (FQ (Ek hr) (pv 4) (pv 6) ⟨rfl,rfl,rfl,rfl⟩)) (Ab (AM (Ay FZ (pv 7) Bz (AD _)) (Ab (Ao (i:=7) Ep.nd rfl (Or.inl rfl) (Aw cO (rm hr) rfl Aq (Aa (pv 0) (Aa (pv 6) (Aa (pv 2) (Aa (pv 3) (Aa (pv 4) Ae))))))) (Ah (Fn (Ek hr) (pv 4) (pv 6) (pv 7) rfl))) AB) (Ah (As (pv 7))))))))),?_⟩
  try dsimp only[cxK]
  obtain⟨r0,e0⟩:=u.g0;have B:∀{m:Nat}{H':Hp},AA H H'->Rs G c N i j m->Q (.int m) H':=λ{m H'} s' mx=>k m G l H' (AA.fx s') (u.same s') (s' _ _ hk) ad (C1 _) ((AG.refl u.ok).mono A0) (UnS.refl _ _ _) mx;refine⟨_,rfl,rfl,_,rfl,?_⟩;rw[nat0];apply meetH (fun σ H'=>H=H'/\σ=[some (.ref g.p),some (.ref tf),some (.int ((c.R%2^N:Nat):Int)),some (.int ((c.D%2^N:Nat):Int)),some (.ref kn),none,none,none]/\¬(c.R%2^N=0/\c.D%2^N=0))
  ·intro O;by_cases z1:c.R%2^N=0
   ·rw[Z7 z1];refine BL ⟨_,rfl,rfl,_,rfl,?_⟩;rw[nat0];by_cases z2:c.D%2^N=0
    ·rw[Z7 z2];exact BL ⟨_,rfl,tf,_,0,.int (q 0:Int),rfl,rfl,SqT.of Z,Ai (j:=0) rfl,B (AA.refl H) (ag.first z1 z2)⟩
    ·rw[Z8 z2];exact Ba (O _ _ ⟨rfl,rfl,λz=>z2 z.2⟩)
   ·rw[Z8 z1];exact Ba (Ba (O _ _ ⟨rfl,rfl,λz=>z1 z.1⟩))
  rintro σ H' ⟨rfl,rfl,nz⟩;have C:=ag.wu e0 u.ok A0 nz;obtain⟨q0,ar,ao⟩:=id (ag.lev 0 A3);refine⟨_,rfl,g.p,_,g.dx,_,_,rfl,u.at'.hp,T.cl_Grove,T.na_Grove_bares,GR g,_,rfl,g.p,_,g.dx,_,_,rfl,u.at'.hp,T.cl_Grove,T.na_Grove_levels,ED g,_,rfl,tf,_,0,.int (q 0:Int),rfl,rfl,SqT.of Z,Ai (j:=0) rfl,g.lv,_,(q 0:Int),.int q0.lev,rfl,rfl,SqL.of u.at'.lv,Ai (by rw[B8,ar];rfl),g.br,_,(N:Int),.int (bareN N:Int),rfl,by rw[ao],SqL.of u.br,Ai (bareL_at' A0),?_⟩;refine⟨_,rfl,_,rfl,_,rfl,_,rfl,tf,q,c.R,c.D,N,rfl,Z,λt' H1 s1 af=>?_⟩;generalize wuQ c.R c.D N q=b at C af;refine⟨_,rfl,_,rfl,_,rfl,_,rfl,_,rfl,(by show 4<=sizeLine;decide),λtb am=>?_⟩;have s2:=Ar (o:=.tup [.int (bareN N:Int),.int (bareN N:Int),.int (bareN N:Int),.int (bareN N:Int)]) am;have aa:upd H1 tb (.tup [.int (bareN N:Int),.int (bareN N:Int),.int (bareN N:Int),.int (bareN N:Int)]) tb=some (.tup (Ca λ_=>bareN N)):=Af;show ∃_,_;generalize upd H1 tb (.tup [.int (bareN N:Int),.int (bareN N:Int),.int (bareN N:Int),.int (bareN N:Int)])=H2 at s2 aa⊢;have r:=s1.trans s2;have U:=s2 _ _ af;have tq:∀q:Nat->Nat,Ca q=([(q 0:Int),(q 1:Int),(q 2:Int),(q 3:Int)]:List Int).map V.int:=λq=>rfl;refine⟨t',tb,[(b 0:Int),(b 1:Int),(b 2:Int),(b 3:Int)],[(bareN N:Int),(bareN N:Int),(bareN N:Int),(bareN N:Int)],rfl,rfl,SqT.of (by rw[<-tq];exact U),SqT.of aa,_,rfl,Fw (λz=>?_) (λz=>?_)⟩
  ·have z:=X8 z;obtain⟨z0,z1,z2,z3⟩:=cast4' z;refine⟨_,rfl,B r (C.bare e0 u.ok A0 λk hk=>?_)⟩
   match k,hk with
   |0,_=>exact z0
   |1,_=>exact z1
   |2,_=>exact z2
   |3,_=>exact z3
  have nb:∃k,k<4/\b k≠bareN N:=X4 λy=>z (Z7 (by
   have y:∀k,k<4->b k=bareN N:=λk hk=>X4 λw=>y ⟨k,hk,w⟩;rw[y 0 A3,y 1 A3,y 2 A3,y 3 A3]))
  clear aa z am;have X:=r _ _ hk;have aq:=u.same r;have al:H2 t'=some (.tup ((kQ b).map kV)):=U;refine⟨_,rfl,kn,rfl,.inr ⟨l,.inl X⟩,_,rfl,_,Ie.t X al,?_⟩;cases ev:Bu l (kQ b)with
  |some v =>
   obtain⟨n',i',j',a0,m,en⟩:=ad.val _ (RT ev);have e2:=en.e;injection e2 with e2 e3
   subst e3;have ab:=ZB e2;have as:n'=N:=X6 ((en.at'.a.lev 0 A3).uniq (by rw[<-ab 0 A3];exact C.a.lev 0 A3));subst as;have av:QAt G c n' i' j' b:=⟨⟨C.a.lev,λx y hx hy m1 m2=>by rw[ab _ (BO hx hy)];exact en.at'.a.ag x y hx hy m1 m2⟩,λx y hx hy m1=>by rw[ab _ (BO hx hy)];exact en.at'.off x y hx hy m1⟩
   exact⟨_,rfl,rfl,_,rfl,Ba ⟨_,rfl,B r (C.hit av en.rs)⟩⟩
  |none =>
   refine⟨_,rfl,rfl,_,rfl,BL ?_⟩;obtain⟨M,rfl⟩:∃M,N=M+1:=by
    cases N with
    |zero=>exact absurd ⟨Nat.mod_one _,Nat.mod_one _⟩ nz
    |succ M=>exact⟨M,rfl⟩
   refine⟨_,rfl,_,rfl,_,rfl,_,rfl,_,rfl,?_⟩;refine⟨g,G,c,kn,t',l,b,i,j,M,rfl,aq,X,nk,U,C,ad,sc,by lia,by lia,few,λm G3 S H3 x3 Y ae I a2 ac ai ak=>?_⟩;have g3:=ac.few;obtain⟨r3,e3⟩:=Y.g0;have l3:=I.len e3 Y.ok sc;have au:Bu S (kQ b)=none:=ai b (M+1) (C.a.lev 0 A3) A0 ev;have aj:H3 t'=some (.tup ((kQ b).map kV)):=x3.tup al;refine⟨_,rfl,_,rfl,_,rfl,kn,_,rfl,MJ.t (k:=kQ b) ae aj (DL A0),?_⟩;obtain⟨ah,ax⟩:=I.put ⟨rfl,C.app u.ok ac,ak,nb,by lia⟩ au;have x4:=ZR (o':=.dT (DQ S (kQ b) (.int m))) ae (λz=>z);have an:=Y.fx x4 (λy hy z=>nk (by rw[D6]at z;rw[<-z];exact hy));refine⟨_,rfl,k m G3 _ _ (((AA.fx r).trans x3).trans (x4.mono (by simp[frM]))) an Af ah A0 (ac.mono A0) ?_ ak⟩;intro q9 N' hN ay z;rw[EN,Z6]
   ·exact ai q9 N' hN A0 z
   ·intro y;have:=ZB y 0 A3;rw[this]at hN;have:=X6 (hN.uniq (C.a.lev 0 A3));lia
theorem ok_sa{f:Addr}{l:FuncData}{r:Addr}{b:FuncData}(F:Fun K "seen_at" "seen_at" JQ f l)(t:Fun K "seen_quarters" "seen_quarters" Du r b)(T:Top K mg a)(v:mg "seen_at" = some (.ref f))(u:Cv K l FB [])(e:mg "seen_quarters" = some (.ref r))(k:Cv K b FB [])(y:Cal P w K mg base CX0 1 "without_unseen" Na spWu)(z:Cal P w K mg base CX0 1 "rows_of_quarters" CB (spRq a))(x:Cb P w K mg base CX0 2 a.c_Grove "linked" AW (DS a)):∀n,AL P w K mg base CX0 (2*n+2) f l FB (Yj a n)
 |0=>by
  refine F.ok Ep (λvs H Q E h=>?_) (λC A o s H vs Q E I h=>?_)
  ·obtain⟨g,G,c,B,D,m,q,i,j,N,rfl,_,_,_,_,_,_,_,p,_⟩:=h;exact absurd p (F8 _)
  ·obtain⟨g,G,c,B,D,m,q,i,j,N,rfl,_,_,_,_,_,_,_,p,_⟩:=h;exact absurd p (F8 _)
 |n+1=>ok_saS F T A0 y ⟨r,b,ok_sq (d:=2*n+2) A0 t T z x ⟨f,l,ok_sa F t T v u e k y z x n,v,F.kp,u⟩,e,t.kp,k⟩
end
def frA(g:GA):List Addr:=[g.lv,g.pt,g.nm,g.am,g.bx]
theorem JY{G:Gv}{n f:Nat}{x y:Int}(h:¬(-(2^n)<=x/\x<2^n/\-(2^n)<=y/\y<2^n)):fieldF G n f x y=0:=Z6 h
def ET(N px py w k:Nat):Nat:=if k=px+2*py then w else bareN N
theorem four_ag{G r:Gv}(t:G=G0++r)(ok:GOk G){n w a b M R D:Nat}{cl:Nat->Nat->Nat->Nat}(Q:n<=46)(hp:a<2)(I:b<2)(B:An G w ((n+1:Nat):Int)){φ:Int->Int->Nat}(e:∀u v,fieldF G n w u v=φ u v):Ag G ⟨λx y=>φ ((x:Int)-(a*2^(n+1)+2^n)) ((y:Int)-(b*2^(n+1)+2^n)),R,D,M,cl⟩ (n+1) 0 0 (ET (n+1) a b w):=by
 have P:=Lm n;have H:=AK n;have s:=EQ n;have d:=EQ (n+1);refine⟨λk K=>?_,λx y g l _ _=>?_⟩
 ·unfold ET;split
  ·exact B
  ·exact El t A0
 obtain⟨O,N⟩:=FN g l;have j:=BT g;have A:=BT l;have f:=D9 x (AK (n+1));have i:=D9 y (AK (n+1));have p:=N4 x (2^(n+1));have o:=N4 y (2^(n+1));show _=φ (((0*2^(n+1)+x:Nat):Int)-(a*2^(n+1)+2^n)) (((0*2^(n+1)+y:Nat):Int)-(b*2^(n+1)+2^n));rw[Nat.zero_mul,N6,N6,<-e];by_cases z:x/2^(n+1)=a/\y/2^(n+1)=b
 ·have eq:ET (n+1) a b w (quad (n+1) x y)=w:=by
   unfold ET;rw[Z9 A0]
  rw[eq];rw[z.1]at p;rw[z.2]at o;have C:(x:Int)-(a*2^(n+1)+2^n)=((x%2^(n+1):Nat):Int)-2^n:=by
   have:(x:Int)=((2^(n+1)*a+x%2^(n+1):Nat):Int):=by rw[p]
   rw[this,M7,O5,d];rw[Int.mul_comm ((2:Int)^(n+1))];lia
  have E:(y:Int)-(b*2^(n+1)+2^n)=((y%2^(n+1):Nat):Int)-2^n:=by
   have:(y:Int)=((2^(n+1)*b+y%2^(n+1):Nat):Int):=by rw[o]
   rw[this,M7,O5,d];rw[Int.mul_comm ((2:Int)^(n+1))];lia
  rw[C,E];generalize x%2^(n+1)=X at f;generalize y%2^(n+1)=Y at i;unfold fieldF;rw[Z9 (by rw[<-s];lia)];congr 1
  ·lia
  ·lia
 ·have eq:ET (n+1) a b w (quad (n+1) x y)=bareN (n+1):=by
   unfold ET;rw[Z6 A0]
  rw[eq,Dm t ok A0 f i];refine(JY ?_).symm;have c:∀{x a:Nat},x/2^(n+1)≠a->¬(-(2^n)<=(x:Int)-(a*2^(n+1)+2^n)/\(x:Int)-(a*2^(n+1)+2^n)<2^n):=λ{x a} ne h=>ne (by
   rw[<-s,<-d]at h;have j:a*2^(n+1)<=x:=by
    have:((a*2^(n+1):Nat):Int)<=x:=by rw[O5];lia
    lia
   have A:x<(a+1)*2^(n+1):=by
    have:(x:Int)<((a*2^(n+1)+2^(n+1):Nat):Int):=by rw[M7,O5];lia
    rw[W4,Nat.one_mul];lia
   exact Nat.div_eq_of_lt_le j A)
  intro h;by_cases m:x/2^(n+1)=a
  ·exact c (λq=>z ⟨m,q⟩) ⟨h.2.2.1,h.2.2.2⟩
  ·exact c m ⟨h.1,h.2.1⟩
section
variable{P:Program}{w:World}{K:W.Frag}{mg:Str->Option Value}{base:Heap}{a:Ad}
theorem ixN_nat{n j:Nat}(h:j<n):ixN n (j:Int)=some j:=by
 unfold ixN;rw[Z9 A0,Z9 A0,L7]
theorem UI{σ:St}{i:Nat}{dx c:Int}{H:Hp}{Q:VK}(h:σ[i]?=some (some (.int dx)))(q:Q (.int (if 0<dx then c else 0)) H):tIf (Yc (tOp (rI0 λi j=>V.bl (decide (j<i))) (Gp i) (tC (V.int 0)))) (tC (V.int c)) (tC (V.int 0)) σ H Q:=by
 refine⟨_,h,_,_,rfl,rfl,_,rfl,?_⟩;by_cases z:0<dx
 ·rw[Z9 z]at q;rw[Z7 z];exact BL q
 ·rw[Z6 z]at q;rw[Z8 z];exact Ba q
theorem Sh{n:Nat}{dx l w:Int}(c:-(2^n)<=l)(d:l<2^n)(f:-(2^n)<=l+dx)(h:l+dx<2^n):∃(b R:Nat),b<2/\(if 0<dx then(1:Int)else 0)=b/\R<2^(n+1)/\-dx%(2*2^n)=(R:Int)/\(R:Int)-b*2^(n+1)=-dx:=by
 have e:=Cg n;have g:=EQ (n+1);by_cases z:0<dx
 ·refine⟨1,(2^(n+1)-dx).toNat,by decide,Z9 z,by lia,?_,by lia⟩;rw[show -dx=(2^(n+1)-dx)+(2*2^n)*(-1) by lia,Int.add_mul_emod_self_left,Int.emod_eq_of_lt A0 A0];lia
 ·refine⟨0,(-dx).toNat,by decide,Z6 z,by lia,?_,by lia⟩;rw[Int.emod_eq_of_lt A0 A0];lia
def Tgt(G:Gv)(n f:Nat)(dx dy:Int)(li:Prop):Prop:=∀b,BZ G (n+1) f=some b->(EF ((mvB (2^n) b).l+dx) ((mvB (2^n) b).t+dy) (mvB (2^n) b).w (mvB (2^n) b).h (2^40)↔li)
inductive SpMv(a:Ad)(vs:List V)(H:Hp)(Q:VK):Prop
 |mk (g:GA) (G:Gv) (f n M:Nat) (dx dy:Int) (φ:Int->Int->Nat) (_:vs=[.ref g.p,.int f,.int dx,.int dy]) (_:AX a H g G) (_:Fd G n f) (_:∀u v,fieldF G n f u v=φ u v) (_:Tgt G n f dx dy True) (_:∀(ax ay:Int)(R D:Nat),∃cl,Uy ⟨λx y=>φ ((x:Int)-ax) ((y:Int)-ay),R,D,M,cl⟩) (_:49*M<1000000) (_:G.length<6000000) (_:∀(r m:Nat)(G':Gv)(H':Hp),Fx (frA g) H H'->AX a H' g G'->AG G G' (49*M+700)->Fd G' m r->(∀u v,fieldF G' m r u v=φ (u-dx) (v-dy))->Q (.int r) H'):SpMv a vs H Q
def spMv(a:Ad):Sp:=λvs H Q _=>SpMv a vs H Q
theorem ok_mv(F:Fun K "moved_by" "moved_by" LC f fd)(T:Top K mg a)(aX:Cal P w K mg base CX0 102 "box_of" TV (Mc a))(aC:Cal P w K mg base CX0 1 "shifted_box" PB JO)(aA:Cal P w K mg base CX0 1 "lies_within" PF Qa)(aQ:Cal P w K mg base CX0 5 "widened_over" Ee (spWO a))(aD:Cal P w K mg base CX0 4 "reach_of" TV (Ij a))(a9:Cb P w K mg base CX0 3 a.c_Grove "level_of" JF (Ma a))(aP:Cal P w K mg base CX0 4 "trimmed" JU (MK a))(bS:Cal P w K mg base CX0 102 "seen_at" FB (Yj a 50)):AL P w K mg base CX0 103 f fd LL (spMv a):=by
  refine F.ok CV (λ_ _ _ _ h=>by rcases h;subst_vars;rfl) λbh A bd s H vs Q E hr h=>?_
  obtain⟨g,G,f',n,M,dx,dy,φ,rfl,fu,I,ef,ah,ay,M1,few,k⟩:=h;refine⟨_,(Ab (Ao (i:=4) CV.nd rfl (Or.inl rfl) (Aw aX (rm hr) rfl Aq (Aa (pv 0) (Aa (pv 1) Ae)))) (Ab (AM (Ay FZ (pv 4) Bz (AD _)) (Ah (As (pv 1))) AB) (Ab (Ao (i:=5) CV.nd rfl (Or.inl rfl) (Aw aC (rm hr) rfl Aq (Aa (pv 4) (Aa (pv 2) (Aa (pv 3) Ae))))) (Ab (AM (Da (CM (Aw aA (rm hr) rfl Aq (Aa (pv 5) (Aa (BY rfl T.k_LIMIT) Ae))))) (Ah Bw) AB) (Ab (Ao (i:=6) CV.nd rfl (Or.inl rfl) (Aw aQ (rm hr) rfl Aq (Aa (pv 0) (Aa (pv 1) (Aa (pv 5) Ae))))) (Ab (Ao (i:=7) CV.nd rfl (Or.inl rfl) (AE EB Ac (Aw aD (rm hr) rfl Aq (Aa (pv 0) (Aa (pv 6) Ae))))) (Ab (Ao (i:=8) CV.nd rfl (Or.inl rfl) (Aj Av (AC (pv 0) rfl) (AI (pv 0) a9 (rm hr) Aq (Aa (pv 6) Ae)) (λ_ _=>rfl))) (Ab (Ao (i:=9) CV.nd rfl (Or.inl rfl) (CA (Aa (pv 8) (Aa (pv 8) (Aa (pv 8) (Aa (pv 8) Ae)))))) (Ab (YI (pv 6) (YM (pv 9) (AE Bb (SA (Ay Nz (pv 2) Ac (AD _)) Ac Ac) (SA (Ay Nz (pv 3) Ac (AD _)) Ac Ac)) Si)) (Ah (As (Aw aP (rm hr) rfl Aq (Aa (pv 0) (Aa (Aw bS (rm hr) rfl Aq (Aa (pv 0) (Aa (Bp BJ rfl T.b_tuple K9 (Aa (pv 9) Ae)) (AV BH (Db Cc (pv 2)) (pv 7) (AV BH (Db Cc (pv 3)) (pv 7) (Aa OM Ae)))))) Ae)))))))))))))),?_⟩
  try dsimp only[cxK]
  have a6:=I.le;refine⟨_,rfl,_,rfl,g,G,f',n,rfl,fu,I.lev,by lia,by lia,λbn H1 aa Y=>?_,λb hb t H1 aa Y ht=>?_⟩
  ·refine⟨_,rfl,rfl,_,rfl,BL ⟨_,rfl,?_⟩⟩;have z:=λu v=>LR fu.ok I.lev bn u v;exact k f' n G H1 ((aa.fx fu).mono (by simp[frA])) Y ((AG.refl fu.ok).mono A0) I λu v=>by rw[z u v,<-ef,z]
  have tg:=(ah b hb).mpr trivial;have ti:=Gf fu.ok I.lev hb;generalize mvB (2^n) b=d at tg ti ht;refine⟨_,rfl,rfl,_,rfl,Ba ?_⟩;refine⟨_,rfl,_,rfl,_,rfl,t,d,dx,dy,rfl,ht,λt2 ai=>?_⟩;have s2:=Ar (o:=.tup [.int (d.l+dx),.int (d.t+dy),.int d.w,.int d.h]) ai;have h2:upd H1 t2 (.tup [.int (d.l+dx),.int (d.t+dy),.int d.w,.int d.h]) t2=some (.tup [.int (d.l+dx),.int (d.t+dy),.int d.w,.int d.h]):=Af;show(tSeq _ _) _ _ _;generalize upd H1 t2 (.tup [.int (d.l+dx),.int (d.t+dy),.int d.w,.int d.h])=H2 at s2 h2⊢;have ae:=Y.same s2;refine⟨_,rfl,t2,d.l+dx,d.t+dy,d.w,d.h,2^40,rfl,h2,_,rfl,?_⟩;rw[Z7 tg];refine Ba ⟨_,rfl,_,rfl,_,rfl,g,G,f',n,t2,_,_,_,_,rfl,ae,I.lev,a6,h2,tg,by lia,λj N G3 H3 aq q af nk wi lw a3 _=>?_⟩;have g3:=af.few;obtain⟨r3,e3⟩:=q.g0;have ew:∀u v,fieldF G3 (n+j) N u v=φ u v:=λu v=>by rw[Ig e3 q.ok A0 wi,DO fu.ok af I.lev,ef]
  have O:CF (λu v=>φ u v≠0) d:=ti.congr λu v=>by rw[ef]
  have x3:Fx (frA g) H H3:=(((aa.fx fu).mono (by simp[frA])).trans (AA.fx s2)).trans ((aq.fx ae.at').mono (by simp[frA]));have bi:j<=40:=by lia
  generalize n+j=c at *
  clear wi ae h2 aq s2 ai Y aa ht ti ah;obtain⟨qw,a0,a7⟩:=id lw;refine⟨_,rfl,_,rfl,g,G3,N,c,rfl,q.at',lw,by lia,_,_,rfl,rfl,.inl ⟨by decide,by decide⟩,?_⟩;refine⟨_,rfl,g.p,_,g.dx,_,_,rfl,q.at'.hp,T.cl_Grove,T.na_Grove_bares,GR g,_,rfl,g.p,g.dx,_,rfl,q.at'.hp,DF g,_,rfl,g,G3,N,qw,rfl,q.at',a0,g.br,_,((c+1:Nat):Int),.int (bareN (c+1):Int),rfl,by rw[a7],SqL.of q.br,Ai (bareL_at' A0),?_⟩;refine⟨_,rfl,_,rfl,_,rfl,_,rfl,(by show 4<=sizeLine;decide),λL hL=>?_⟩;have s4:=Ar (o:=.lst (Ca λ_=>bareN (c+1))) hL;have ba:upd H3 L (.lst (Ca λ_=>bareN (c+1))) L=some (.lst (Ca λ_=>bareN (c+1))):=Af;have pn:=NX c;have e2:=Cg c;have av:∀{u v:Int},φ u v≠0->-(2^c)<=u/\u<2^c/\-(2^c)<=v/\v<2^c:=λ{u v} z=>X4 λy=>z (by rw[<-ew];exact JY y);obtain⟨vl,hl⟩:=O.le;obtain⟨ut,hu⟩:=O.to;have il:=av hl;have it:=av hu;have bl:=O.inn _ _ hl;have bt:=O.inn _ _ hu;have bg:=a3;unfold EF at bg;obtain⟨C,R,al,bb,R1,eR,sR⟩:=Sh (n:=c) (dx:=dx) (l:=d.l) (w:=d.w) il.1 il.2.1 A0 A0;obtain⟨B,D,ar,bc,D1,eD,sD⟩:=Sh (n:=c) (dx:=dy) (l:=d.t) (w:=d.h) it.2.2.1 it.2.2.2 A0 A0;have aw:(if 0<dy then(2:Int)else 0)=2*B:=by
   rw[<-bc];split<;>rfl
  refine⟨_,rfl,_,rfl,UI rfl (UI rfl ?_)⟩;rw[bb,aw];have an:(Ca λ_=>bareN (c+1)).set (C+2*B) (.int N)=Ca (ET (c+1) C B N):=by
   unfold Ca ET
   match C,al,B,ar with
   |0,_,0,_=>rfl
   |1,_,0,_=>rfl
   |0,_,1,_=>rfl
   |1,_,1,_=>rfl
  refine⟨_,_,rfl,rfl,L,Ca λ_=>bareN (c+1),((C+2*B:Nat):Int),C+2*B,rfl,K5 V.int A0,ba,ixN_nat (by show C+2*B<4;lia),?_⟩;rw[an];have s5:AA H3 (upd (upd H3 L (.lst (Ca λ_=>bareN (c+1)))) L (.lst (Ca (ET (c+1) C B N)))):=λb o e=>by rw[Ax (Az e hL)];exact s4 _ _ e
  have aj:upd (upd H3 L (.lst (Ca λ_=>bareN (c+1)))) L (.lst (Ca (ET (c+1) C B N))) L=some (.lst (Ca (ET (c+1) C B N))):=Af;obtain⟨H5,e5⟩:∃H5,upd (upd H3 L (.lst (Ca λ_=>bareN (c+1)))) L (.lst (Ca (ET (c+1) C B N)))=H5:=⟨_,rfl⟩
  have et:[V.int (bareN (c+1):Int),V.int (bareN (c+1):Int),V.int (bareN (c+1):Int),V.int (bareN (c+1):Int)]=Ca λ_=>bareN (c+1):=rfl;rw[et,e5];rw[e5]at s5 aj;clear e5 et;refine⟨_,rfl,_,rfl,_,rfl,L,_,rfl,.inl ⟨SqL.of aj,λtf az=>?_⟩⟩;have s6:=s5.trans (Ar (o:=.tup (Ca (ET (c+1) C B N))) az);have h6:upd H5 tf (.tup (Ca (ET (c+1) C B N))) tf=some (.tup (Ca (ET (c+1) C B N))):=Af;generalize upd H5 tf (.tup (Ca (ET (c+1) C B N)))=H6 at s6 h6⊢;have sz:(0:Int)<2*2^c:=by lia
  refine⟨_,rfl,_,rfl,_,rfl,_,_,rfl,rfl,sz,_,rfl,_,rfl,_,rfl,_,_,rfl,rfl,sz,λU ad=>?_⟩;have s7:=s6.trans (Ar (o:=.dT []) ad);have h7:=Ar (o:=.dT []) ad _ _ h6;have au:upd H6 U (.dT []) U=some (.dT []):=Af;generalize upd H6 U (.dT [])=H7 at s7 h7 au⊢;have bf:=q.same s7;have ak:H3 U=none:=AA.noneOf s6 ad;have kg:U∉Dl g:=λz=>by
   obtain⟨o1,e1⟩:=q.nw.s U z;rw[ak]at e1;cases e1
  obtain⟨cl,am⟩:=ay (C*2^(c+1)+2^c) (B*2^(c+1)+2^c) R D;have ag:=four_ag (R:=R) (D:=D) (M:=M) (cl:=cl) e3 q.ok A0 al ar lw ew;refine⟨g,G3,_,U,tf,[],ET (c+1) C B N,0,0,c+1,?_,bf,au,kg,h7,ag,sok0 _ _,am,by lia,by lia,⟨by show G3.length+49*M<8000000+0;lia,by show 49*M<4000000;lia⟩,λm G8 ab H8 x8 S bm as bo ao bp Z=>?_⟩
  ·show [V.ref g.p,V.ref tf,V.int (-dx%(2*2^c)),V.int (-dy%(2*2^c)),V.ref U]=[V.ref g.p,V.ref tf,V.int ((R%2^(c+1):Nat):Int),V.int ((D%2^(c+1):Nat):Int),V.ref U]
   rw[eR,eD,N3 R1,N3 D1]
  obtain⟨r8,e8⟩:=S.g0;have l8:=as.len e8 S.ok am;have l8:ab.length<=49*M:=l8;have g8:=ao.few;have g8:G8.length<=G3.length+(ab.length-0):=g8;have ax:∀u v,fieldF G8 c m u v=φ (u-dx) (v-dy):=λu v=>by
   by_cases z:-(2^c)<=u/\u<2^c/\-(2^c)<=v/\v<2^c
   ·unfold fieldF;rw[Z9 z,Z.cell _ _ (Fb z.1 z.2.1) (Fb z.2.2.1 z.2.2.2)];show φ (((0*2^(c+1)+R%2^(c+1)+(u+2^c).toNat:Nat):Int)-(C*2^(c+1)+2^c)) (((0*2^(c+1)+D%2^(c+1)+(v+2^c).toNat:Nat):Int)-(B*2^(c+1)+2^c))=_;rw[N3 R1,N3 D1,Nat.zero_mul,N6,N6];congr 1
    ·rw[M7,O8 A0];lia
    ·rw[M7,O8 A0];lia
   ·rw[JY z];refine(X4 λy=>?_:φ (u-dx) (v-dy)=0).symm;have:=O.inn _ _ y;exact z ⟨by lia,by lia,by lia,by lia⟩
  refine⟨g,G8,m,c,rfl,S,Z.lev,by lia,λr G9 H9 a2 ac X a1=>?_⟩;have g9:=X.few;obtain⟨r9,e9⟩:=ac.g0;obtain⟨m9,bj,a4,a8,a5⟩:=FE e9 ac.ok A0 (X.lev Z.lev) a1;have x9:Fx (frA g) H H9:=(x3.trans ((Fx.fresh s7 (x8.mono (m:=[U,g.lv,g.pt,g.nm]) (by intro x hx;simp only[frM,B7,C6,K7]at hx⊢;rcases hx with h|h|h|h<;>simp[h])) ak).mono (by simp[frA]))).trans ((a2.fx S.at').mono (by simp[frA]));exact k r m9 G9 H9 x9 ac (((af.trans ao).trans X).mono (by simp only[V8]at *;lia)) ⟨a4,a8,by lia⟩ λu v=>by rw[a5,DO S.ok X Z.lev,ax]
end
def plc(ax ay:Int)(n:Nat)(p:Int×Int):List (Nat×Nat):=[((p.1+ax).toNat/2^n,(p.2+ay).toNat/2^n),((p.1+ax).toNat/2^n-1,(p.2+ay).toNat/2^n),((p.1+ax).toNat/2^n,(p.2+ay).toNat/2^n-1),((p.1+ax).toNat/2^n-1,(p.2+ay).toNat/2^n-1)]
theorem Zw(c b:Int)(n:Nat):∀a:List (Int×Int),(a.flatMap (plc c b n)).length=4*a.length
 |[]=>rfl
 |p::a=>by
  rw[Z4,C4,Zw c b n a];show 4+_=_;rw[F0];lia
theorem YE{φ:Int->Int->Nat}{f:List (Int×Int)}(h:∀u v,φ u v≠0->(u,v)∈f)(d c:Int)(R D:Nat):∃cl,Uy ⟨λx y=>φ ((x:Int)-d) ((y:Int)-c),R,D,4*f.length,cl⟩:=by
 have mem:∀n i j,NE (λx y=>φ ((x:Int)-d) ((y:Int)-c)) n i j->(i,j)∈f.flatMap (plc d c n):=λn i j ne=>by
  obtain⟨x,y,t,q,z⟩:=ne;have m:=h _ _ z;refine S9.mpr ⟨_,m,?_⟩;have A:((((i*2^n+x:Nat):Int)-d)+d).toNat=i*2^n+x:=by lia
  have w:((((j*2^n+y:Nat):Int)-c)+c).toNat=j*2^n+y:=by lia
  unfold plc;dsimp only;rw[A,w,Go.1,Go.1];have g:=BT t;have k:=BT q;generalize x/2^n=a at g;generalize y/2^n=b at k
  match a,g,b,k with
  |0,_,0,_=>simp
  |1,_,0,_=>simp
  |0,_,1,_=>simp
  |1,_,1,_=>simp
 refine⟨λn i j=>(f.flatMap (plc d c n)).idxOf (i,j),λn i j _ ne=>?_,λn i j p l _ ne o e x y t q=>?_⟩
 ·have:=P2 (mem n i j ne);rw[Zw]at this;exact this
 ·have s:=mem n i j ne;have r:=mem n p l o;have B:=List.getElem_idxOf (P2 s);have C:=List.getElem_idxOf (P2 r);have e:(f.flatMap (plc d c n)).idxOf (i,j)=(f.flatMap (plc d c n)).idxOf (p,l):=e;have:(f.flatMap (plc d c n))[(f.flatMap (plc d c n)).idxOf (i,j)]?=(f.flatMap (plc d c n))[(f.flatMap (plc d c n)).idxOf (p,l)]?:=by rw[e]
  rw[B9 (P2 s),B9 (P2 r),B,C]at this;have:=X5 this;injection this with g k
  rw[g,k]
theorem pow2_le{b:Nat}(h:b<=40):(2:Int)^b<=2^40:=by
 have:=O0 (show 0<2 by decide) h
 exact_mod_cast this
structure Vf(G:Gv)(f:Nat)(φ:Int->Int->Nat):Prop where
 ex:∃n:Nat,Fd G n f/\∀u v,fieldF G n f u v=φ u v
theorem Vf.app{G a:Gv}{k f:Nat}{φ:Int->Int->Nat}(ok:GOk G)(go:AG G a k)(h:Vf G f φ):Vf a f φ:=by
 obtain⟨n,b,c⟩:=h.ex;exact⟨n,b.app go,λu v=>by rw[DO ok go b.lev];exact c u v⟩
theorem Vf.eq{G r:Gv}(g:G=G0++r)(ok:GOk G){f c:Nat}{φ ψ:Int->Int->Nat}(h:Vf G f φ)(h':Vf G c ψ)(e:∀u v,φ u v=ψ u v):f=c:=by
 obtain⟨n,b,i⟩:=h.ex;obtain⟨m,a,d⟩:=h'.ex;have:=b.le;have:=a.le;exact(Pf g ok A0 A0 b.lev a.lev b.tr a.tr λu v=>by rw[i,d,e]).2
def mvF(dx dy:Int)(φ:Int->Int->Nat)(u v:Int):Nat:=φ (u-dx) (v-dy)
def mvX(dx dy:Int)(b:Bx):Bx:=⟨b.l+dx,b.t+dy,b.w,b.h⟩
theorem CF.mv {φ:Int->Int->Nat} {b:Bx} (dx dy:Int) (h:CF (λu v=>φ u v≠0) b):CF (λu v=>mvF dx dy φ u v≠0) (mvX dx dy b):=by
 obtain⟨i,⟨a,f⟩,⟨c,g⟩,⟨d,j⟩,⟨e,k⟩⟩:=h;unfold mvX mvF;refine⟨λu v z=>?_,⟨a+dy,?_⟩,⟨c+dx,?_⟩,⟨d+dy,?_⟩,⟨e+dx,?_⟩⟩
 ·have:=i _ _ z;dsimp only;lia
 ·dsimp only at *
  rw[show b.l+dx-dx=b.l by lia,show a+dy-dy=a by lia];exact f
 ·dsimp only at *
  rw[show c+dx-dx=c by lia,show b.t+dy-dy=b.t by lia];exact g
 ·dsimp only at *
  rw[show b.l+dx+b.w-1-dx=b.l+b.w-1 by lia,show d+dy-dy=d by lia];exact j
 ·dsimp only at *
  rw[show e+dx-dx=e by lia,show b.t+dy+b.h-1-dy=b.t+b.h-1 by lia];exact k
theorem tgt_of {G:Gv} (ok:GOk G) {n f:Nat} (l:An G f ((n+1:Nat):Int)) {φ:Int->Int->Nat} (e:∀u v,fieldF G n f u v=φ u v) {B:Bx} (t:CF (λu v=>φ u v≠0) B) {dx dy:Int} {a:Prop} (h:EF (B.l+dx) (B.t+dy) B.w B.h (2^40)↔a):Tgt G n f dx dy a:=by
 intro b c;have d:=(Gf ok l c).congr (M:=λu v=>φ u v≠0) λu v=>by rw[e]
 rw[d.one t];exact h
def shX(B:Bx):Int:=-(B.w/2)-B.l
def shY(B:Bx):Int:=-(B.h/2)-B.t
section
variable{P:Program}{w:World}{K:W.Frag}{mg:Str->Option Value}{base:Heap}{a:Ad}
theorem mv_of {g:GA} {G:Gv} {H:Hp} {Q:VK} {E:XK} {f M:Nat} {dx dy:Int} {φ:Int->Int->Nat} {B:Bx} (o:AX a H g G) (h:Vf G f φ) (t:CF (λu v=>φ u v≠0) B) (A:EF (B.l+dx) (B.t+dy) B.w B.h (2^40)) (d:∀(C z:Int)(R D:Nat),∃cl,Uy ⟨λx y=>φ ((x:Int)-C) ((y:Int)-z),R,D,M,cl⟩) (M1:49*M<1000000) (few:G.length<6000000) (k:∀(r:Nat)(b:Gv)(c:Hp),Fx (frA g) H c->AX a c g b->AG G b (49*M+700)->Vf b r (mvF dx dy φ)->Q (.int r) c):spMv a [.ref g.p,.int f,.int dx,.int dy] H Q E:=by
 obtain⟨n,j,q⟩:=h.ex;exact⟨g,G,f,n,M,dx,dy,φ,rfl,o,j,q,tgt_of o.ok j.lev q t ⟨λ_=>trivial,λ_=>A⟩,d,M1,few,λr m b c x i go s e=>k r b c x i go ⟨m,s,e⟩⟩
inductive RN(a:Ad)(vs:List V)(H:Hp)(Q:VK):Prop
 |mk (g:GA) (G:Gv) (f M:Nat) (φ:Int->Int->Nat) (_:vs=[.ref g.p,.int f]) (_:AX a H g G) (_:Vf G f φ) (_:∀(ax ay:Int)(R D:Nat),∃cl,Uy ⟨λx y=>φ ((x:Int)-ax) ((y:Int)-ay),R,D,M,cl⟩) (_:49*M<1000000) (_:G.length<5000000) (_:(∀u v,φ u v=0)->∀(t:Addr)(H':Hp),Fx (frA g) H H'->AX a H' g G->H' t=some (.tup [.int f,.int 0,.int 0])->Q (.ref t) H') (_:∀B,CF (λu v=>φ u v≠0) B->∀(r:Nat)(t:Addr)(G':Gv)(H':Hp),Fx (frA g) H H'->AX a H' g G'->AG G G' (49*M+700)->Vf G' r (mvF (shX B) (shY B) φ)->H' t=some (.tup [.int r,.int B.l,.int B.t])->Q (.ref t) H'):RN a vs H Q
def QK(a:Ad):Sp:=λvs H Q _=>RN a vs H Q
theorem YV(F:Fun K "shape_of" "shape_of" Lz f fd)(T:Top K mg a)(aX:Cal P w K mg base CX0 102 "box_of" TV (Mc a))(cG:Cal P w K mg base CX0 103 "moved_by" LL (spMv a)):AL P w K mg base CX0 104 f fd TV (QK a):=by
  refine F.ok Jk (λ_ _ _ _ h=>by rcases h;subst_vars;rfl) λaa A U s H vs Q E hr h=>?_
  obtain⟨g,G,Y,M,φ,rfl,x,vf,O,M1,few,k0,k1⟩:=h;obtain⟨n,k,R⟩:=id vf.ex;have S:=k.le;refine⟨_,(Ab (Ao (i:=2) Jk.nd rfl (Or.inl rfl) (Aw aX (rm hr) rfl Aq (Aa (pv 0) (Aa (pv 1) Ae)))) (Ab (AM (Ay FZ (pv 2) Bz (AD _)) (Ah (As (Bk (Aa (pv 1) (AR (AR Ae)))))) AB) (Ab (Ao (i:=3) Jk.nd rfl (Or.inl rfl) (Aw cG (rm hr) rfl Aq (Aa (pv 0) (Aa (pv 1) (AV AS (Db Cc (AE CP (Aj Ak (pv 2) Ac (λ_ _=>rfl)) Ac)) (Aj Ak (pv 2) Ac (λ_ _=>rfl)) (AV AS (Db Cc (AE CP (Aj Ak (pv 2) Ac (λ_ _=>rfl)) Ac)) (Aj Ak (pv 2) Ac (λ_ _=>rfl)) Ae)))))) (Ah (As (Bk (Aa (pv 3) (Aa (Aj Ak (pv 2) Ac (λ_ _=>rfl)) (Aa (Aj Ak (pv 2) Ac (λ_ _=>rfl)) Ae))))))))),?_⟩
  try dsimp only[cxK]
  refine⟨_,rfl,_,rfl,g,G,Y,n,rfl,x,k.lev,by lia,by lia,λbn X m q=>?_,λb hb t X m q c=>?_⟩
  ·have z:∀u v,φ u v=0:=λu v=>by rw[<-R];exact LR x.ok k.lev bn u v
   refine⟨_,rfl,rfl,_,rfl,BL ⟨_,rfl,(by show 3<=sizeLine;decide),λt c=>?_⟩⟩;have Z:=Ar (o:=.tup [.int (Y:Int),.int 0,.int 0]) c;exact k0 z t _ (((m.fx x).mono (by simp[frA])).trans (AA.fx Z)) (q.same Z) Af
  ·have d:=(Gf x.ok k.lev hb).congr (M:=λu v=>φ u v≠0) λu v=>by rw[R]
   generalize mvB (2^n) b=B at d c;have e:∀{u v:Int},φ u v≠0->-(2^n)<=u/\u<2^n/\-(2^n)<=v/\v<2^n:=λ{u v} z=>Decidable.byContradiction λy=>z (by rw[<-R];exact JY y);have V:(2:Int)^n<=2^40:=pow2_le S;obtain⟨v1,h1⟩:=d.le;obtain⟨v2,h2⟩:=d.ri;obtain⟨v3,h3⟩:=d.to;obtain⟨v4,h4⟩:=d.bo;have b1:=e h1;have b2:=e h2;have b3:=e h3;have b4:=e h4;have w1:=d.inn _ _ h1;have w3:=d.inn _ _ h3;have li:EF (B.l+shX B) (B.t+shY B) B.w B.h (2^40):=by
    unfold EF shX shY;have N:(2:Int)^40=1099511627776:=by decide
    rw[N]at V⊢;generalize (2:Int)^n=p at *
    refine⟨by lia,by lia,by lia,by lia⟩
   have c:X t=some (.tup [.int B.l,.int B.t,.int B.w,.int B.h]):=c;refine⟨_,rfl,rfl,_,rfl,Ba ?_⟩;refine⟨_,rfl,_,rfl,_,rfl,t,_,2,.int B.w,rfl,rfl,SqT.of c,Ai (j:=2) rfl,_,_,rfl,rfl,⟨by decide,by decide⟩,_,rfl,_,rfl,t,_,0,.int B.l,rfl,rfl,SqT.of c,Ai (j:=0) rfl,_,_,rfl,rfl,?_⟩;refine⟨_,rfl,t,_,3,.int B.h,rfl,rfl,SqT.of c,Ai (j:=3) rfl,_,_,rfl,rfl,⟨by decide,by decide⟩,_,rfl,_,rfl,t,_,1,.int B.t,rfl,rfl,SqT.of c,Ai (j:=1) rfl,_,_,rfl,rfl,?_⟩;refine mv_of (E:=E0) (dx:=shX B) (dy:=shY B) q vf d li O M1 A0 λr G' H2 C I go vr=>?_;have D:=C.tup c;refine⟨_,rfl,_,rfl,t,_,0,.int B.l,rfl,rfl,SqT.of D,Ai (j:=0) rfl,_,rfl,t,_,1,.int B.t,rfl,rfl,SqT.of D,Ai (j:=1) rfl,(by show 3<=sizeLine;decide),λu hu=>?_⟩;have s3:=Ar (o:=.tup [.int (r:Int),.int B.l,.int B.t]) hu;exact k1 B d r u G' _ ((((m.fx x).mono (by simp[frA])).trans C).trans (AA.fx s3)) (I.same s3) go vr Af
end
end J
namespace J
open PySem L2
theorem Jb.new{a:Ad}{H b:Hp}{g:GA}{G:Gv}{N M:Nat}{r:AF}{m:MA}(f:AN a H g G)(nl:H m.l=none)(nk:H m.kc=none)(q:b m.tp=some (.tup [.ref m.l,.ref m.kc]))(i:b m.l=some (.lst (m.ds.map V.ref)))(j:b m.kc=some (.dT []))(t:∀d∈m.ds,b d=some (.dK []))(o:m.ds.length=47)(h:m.ds.Nodup):Jb b g G N M r m:=by
 obtain⟨w,k,_⟩:=f.pt;exact⟨q,i,⟨X7 (Az f.lv nl),X7 (Az k nl),X7 (Az f.nm nk)⟩,o,h,λe d s=>⟨[],t d (D7 s),L9 _,λp hp=>(nomatch hp),λn v c=>by cases c⟩,⟨[],j,L9 _,λu v c=>by cases c⟩⟩
def zL(g:GA)(m:MA):List Addr:=[g.lv,g.pt,g.nm,g.am,g.bx,m.kc]++m.ds
section
variable{a:Ad}{H H':Hp}{g:GA}{G G':Gv}{Κ:KTy}{N b i:Nat}{p dx mem pr:Addr}{r:AF}{m:MA}
theorem FrZ.fx(h:ZS a H g G Κ N b p dx mem pr r m)(f:FrZ g m H H'):Fx (zL g m) H H':=λx o e z=>by
 obtain⟨w,n,_⟩:=h.fu.at'.pt;obtain⟨v,k,_⟩:=h.fu.am;obtain⟨u,l,_⟩:=h.fu.bx;obtain⟨t,q,_⟩:=h.jz.jw.me.ce;refine f x o e (λy=>?_) (λy=>?_)
 ·have c:=z (F9.mpr (.inl y));clear z;simp only[B7,C6,K7]at y;rcases y with y|y|y|y|y|y<;>subst y
  ·rw[h.fu.at'.lv]at e;cases e;exact c
  ·rw[n]at e;cases e;exact c
  ·rw[h.fu.at'.nm]at e;cases e;exact c
  ·rw[k]at e;cases e;exact c
  ·rw[l]at e;cases e;exact c
  ·rw[q]at e;cases e;exact c
 ·have c:=z (F9.mpr (.inr y));obtain⟨j,s⟩:=J1 y;obtain⟨A,d,_⟩:=h.jz.jw.me.sq j x s;rw[d]at e;cases e;exact c
theorem ZS.fx{l:List Addr}(h:ZS a H g G Κ N b p dx mem pr r m)(f:Fx l H H')(n:∀x∈[g.br,m.l]++zL g m,x∉l):ZS a H' g G Κ N b p dx mem pr r m:=by
 have k:∀x∈zL g m,x∉l:=λx y=>n x (F9.mpr (.inr y));have j:g.br∉l:=n _ A6;have A:m.l∉l:=n _ A6;have u:=h.fu.fx f λx y=>by
  simp only[Dl,B7,C6,K7]at y;rcases y with z|z|z|z|z|z<;>subst z
  ·exact k _ (by simp[zL])
  ·exact k _ (by simp[zL])
  ·exact k _ (by simp[zL])
  ·exact j
  ·exact k _ (by simp[zL])
  ·exact k _ (by simp[zL])
 have c:=h.jz.jw;obtain⟨v,I,_⟩:=c.me.ce;have q:∀d∈m.ds,∀o,H d=some o->H' d=some o:=λd E o e=>f.get (k d (F9.mpr (.inr E))) e;have s:∀o,H m.kc=some o->H' m.kc=some o:=λo e=>f.get (k _ (by simp[zL])) e;have t:Jb H' g G N (b+10*N) r m:=c.me.kp c.ok (AG.refl c.ok) λx o e w=>by
  rcases w with rfl|rfl|w|rfl
  ·rw[c.me.tp]at e;cases e;exact f.tup c.me.tp
  ·exact f.get A e
  ·exact q x w o e
  ·exact s o e
 obtain⟨C,B⟩:=h.jz.cn;refine⟨⟨⟨u.at',c.ok,c.bs,f.get j c.br,c.nbr,f _ _ c.hp λ_=>True.intro,c.ru.kp λx o e D=>f _ _ e λ_=>?_,c.rok,c.rest,t⟩,C,B.kp (i:=0) c.ok (AG.refl c.ok) q λv e=>⟨v,s _ e,C1 _⟩⟩,u,h.na,h.nb⟩;cases D<;>exact True.intro
theorem jnew{Q:VK}{c:Hp}(v:AX a c g G)(ro:MH r)(rz:Dn r 0 CT=0)(Y:CD a c pr (DJ r) r)(X:c p=none)(O:c dx=none)(V:dx≠p)(few:G.length<=b)(k:∀(n:Hp)(mem:Addr)(m:MA),AA c n->ZS a n g G Κ N b p dx mem pr r m->(∀y∈m.l::m.kc::m.ds,c y=none)->n mem=some (.dK (mK [(DJ r,m)]))->c mem=none->mem∉m.ds->Q .non n):RO a [.ref p,.ref g.p,.ref pr] (upd (upd c dx (.own p)) p (.ins a.c_Jumps dx [])) Q:=by
 have Z:upd c dx (.own p) p=none:=by rw[Ax (X7 V)];exact X
 have T:AA c (upd (upd c dx (.own p)) p (.ins a.c_Jumps dx [])):=(show AA c _ from AJ O).trans (AJ Z);refine⟨p,dx,g.p,pr,DJ r,r,rfl,Af,Y.same T,λn mem m R C K q f U hl w B D I P=>?_⟩;have s:AA c n:=λb o e=>R b o (T b o e) (Az e X);have t:∀{y:Addr},upd (upd c dx (.own p)) p (.ins a.c_Jumps dx []) y=none->c y=none:=λ{y} e=>AA.noneN T e;have d:=v.same s;have hw:Jb n g G N (b+10*N) r m:=(Jb.new (N:=0) (M:=0) v.at' (t f.2.1) (t f.2.2.1) U hl w B D I).mono (L9 _) (L9 _);have h:∀dd∈m.ds,c dd=none:=λdd E=>t (f.2.2.2 dd E);obtain⟨aa,e5⟩:=v.g0;have S:Bs G:=λj hj=>by
  have:=MB j hj;rw[e5];exact JX this
 obtain⟨ka,u,_⟩:=v.am;obtain⟨kb,x,_⟩:=v.bx;refine k n mem m s ⟨⟨⟨d.at',d.ok,S,d.br,⟨d.n1,d.n2⟩,K,Y.same s,ro,rz,hw⟩,λ_=>0,λe dd ed=>⟨[],B dd (D7 ed),rfl,P6,λk hk=>nomatch hk⟩,D0 few (U8 _ _),[],w,L9 _⟩,d,λz=>?_,λz=>?_⟩ (λy A=>?_) q (t C) (λz=>P mem z rfl)
 ·rw[h _ z]at u;cases u
 ·rw[h _ z]at x;cases x
 ·rcases B7.mp A with rfl|A
  ·exact t f.2.1
  ·rcases B7.mp A with rfl|A
   ·exact t f.2.2.1
   ·exact h y A
end
noncomputable def bxO (ψ:Int->Int->Nat):Option Bx:=open Classical in if h:∃B,CF (λu v=>ψ u v≠0) B then some h.choose else none
theorem bxO_some {ψ:Int->Int->Nat} {B:Bx} (t:CF (λu v=>ψ u v≠0) B):bxO ψ=some B:=by
 unfold bxO;have h:∃B,CF (λu v=>ψ u v≠0) B:=⟨B,t⟩
 rw[dif_pos h];exact K5 some (h.choose_spec.one t)
theorem bxO_none{ψ:Int->Int->Nat}(z:∀u v,ψ u v=0):bxO ψ=none:=by
 unfold bxO;rw[dif_neg];rintro⟨B,t⟩;obtain⟨v,h⟩:=t.le;exact h (z _ _)
noncomputable def nrm (ψ:Int->Int->Nat):Int->Int->Nat:=match bxO ψ with
 |some B=>mvF (shX B) (shY B) ψ
 |none=>ψ
noncomputable def bxL (ψ:Int->Int->Nat):Int:=match bxO ψ with
 |some B=>B.l
 |none=>0
noncomputable def bxT (ψ:Int->Int->Nat):Int:=match bxO ψ with
 |some B=>B.t
 |none=>0
theorem Ei {ψ:Int->Int->Nat} {B:Bx} (t:CF (λu v=>ψ u v≠0) B):nrm ψ=mvF (shX B) (shY B) ψ/\bxL ψ=B.l/\bxT ψ=B.t:=by
 have e:=bxO_some t;unfold nrm bxL bxT;rw[e];exact⟨rfl,rfl,rfl⟩
theorem JB{ψ:Int->Int->Nat}(z:∀u v,ψ u v=0):nrm ψ=ψ/\bxL ψ=0/\bxT ψ=0:=by
 have e:=bxO_none z;unfold nrm bxL bxT;rw[e];exact⟨rfl,rfl,rfl⟩
def Po(φ ψ:Int->Int->Nat):Prop:=∀u v,nrm φ u v=nrm ψ u v
theorem Vf.fn{G:Gv}{f:Nat}{φ ψ:Int->Int->Nat}(h:Vf G f φ)(k:Vf G f ψ)(u v:Int):φ u v=ψ u v:=by
 obtain⟨n,b,a⟩:=h.ex;obtain⟨m,k1,k2⟩:=k.ex;have:n=m:=by
  have:=b.lev.one k1.lev;lia
 subst this;rw[<-a,<-k2]
theorem Fv.vf{G:Gv}{f:Nat}{φ:Int->Int->Nat}(h:Fv G f φ):Vf G f φ:=by
 obtain⟨n,c,a,b,d⟩:=h.ex;exact⟨n,⟨a,b,c⟩,d⟩
section
variable{P:Program}{w:World}{K:W.Frag}{mg:Str->Option Value}{base:Heap}{a:Ad}
theorem sh_nrm{g:GA}{G:Gv}{H:Hp}{Q:VK}{f:Nat}{ψ:Int->Int->Nat}{m:List (Int×Int)}(q:AX a H g G)(v:Vf G f ψ)(hp:∀u v,ψ u v≠0->(u,v)∈m)(C:m.length<=40)(few:G.length<4000000)(k:∀(r:Nat)(t:Addr)(o:Gv)(b:Hp),Fx (frA g) H b->AX a b g o->AG G o 10000->Vf o r (nrm ψ)->b t=some (.tup [.int (r:Int),.int (bxL ψ),.int (bxT ψ)])->Q (.ref t) b):RN a [.ref g.p,.int (f:Int)] H Q:=by
 refine⟨g,G,f,4*m.length,ψ,rfl,q,v,YE hp,by lia,by lia,λz t b fx n y=>?_,λB tB r t s x i l h A j=>?_⟩
 ·obtain⟨e,d,c⟩:=JB z;exact k f t G b fx n ((AG.refl q.ok).mono A3) (by rw[e];exact v) (by rw[d,c];exact y)
 ·obtain⟨e,d,c⟩:=Ei tB;exact k r t s x i l (h.mono A0) (by rw[e];exact A) (by rw[d,c];exact j)
end
seal L2.PA L2.PE L2.PS L2.PSs L2.PT L2.PW
section
variable{a:Ad}{H H':Hp}{g:GA}{G G':Gv}{Κ:KTy}{N b i:Nat}{p dx mem pr:Addr}{r:AF}{m:MA}
theorem Fx.zA(f:Fx (frA g) H H'):FrZ g m H H':=λx o e c _=>f.get (λz=>c (by simp only[frA,B7,C6,K7]at z⊢;lia)) e
theorem ZS.fA(h:ZS a H g G Κ N b p dx mem pr r m)(f:Fx (frA g) H H')(c:AX a H' g G')(go:AG G G' i):ZS a H' g G' Κ N (b+i) p dx mem pr r m:=by
 have q:=h.jz.jw;have n:=q.me;obtain⟨y,s,U,_⟩:=n.ce;obtain⟨T,K,_⟩:=h.fu.at'.pt;obtain⟨Y,M,_⟩:=h.fu.am;obtain⟨S,E,_⟩:=h.fu.bx;have D:∀{x:Addr}{o:HO},H x=some o->Fix o->H' x=some o:=λ{x o} e k=>f _ _ e λ_=>k;have v:∀d∈m.ds,∀o,H d=some o->H' d=some o:=λd B o e=>by
  obtain⟨j,A⟩:=J1 B;obtain⟨R,t,_⟩:=n.sq j d A;refine f.get (λz=>?_) e;simp only[frA,B7,C6,K7]at z;rcases z with z|z|z|z|z
  ·rw[z,h.fu.at'.lv]at t;cases t
  ·rw[z,K]at t;cases t
  ·rw[z,h.fu.at'.nm]at t;cases t
  ·exact h.na (z▸B)
  ·exact h.nb (z▸B)
 have u:∀o,H m.kc=some o->H' m.kc=some o:=λo e=>by
  refine f.get (λz=>?_) e;simp only[frA,B7,C6,K7]at z;rcases z with z|z|z|z|z
  ·rw[z,h.fu.at'.lv]at s;cases s
  ·rw[z,K]at s;cases s
  ·exact n.ap.2.2 z
  ·rw[z,M]at s;cases s
  ·rw[z,E]at s;cases s
 have Q:H' m.l=some (.lst (m.ds.map V.ref)):=by
  refine f.get (λz=>?_) n.l;have e:=n.l;simp only[frA,B7,C6,K7]at z;rcases z with z|z|z|z|z
  ·exact n.ap.1 z
  ·exact n.ap.2.1 z
  ·rw[z,h.fu.at'.nm]at e;cases e
  ·rw[z,M]at e;cases e
  ·rw[z,E]at e;cases e
 have C:Jb H' g G' N (b+i+10*N) r m:=(n.kp q.ok go λx o e w=>by
  rcases w with rfl|rfl|w|rfl
  ·rw[n.tp]at e;cases e;exact D n.tp True.intro
  ·rw[n.l]at e;cases e;exact Q
  ·exact v x w o e
  ·exact u o e).mono (C1 _) A0
 obtain⟨O,I⟩:=h.jz.cn;have bs:Bs G':=λj A=>by
  obtain⟨X,e⟩:=c.g0;rw[e];exact JX (MB j A)
 refine⟨⟨⟨c.at',c.ok,bs,c.br,q.nbr,D q.hp True.intro,q.ru.kp λx o e P=>D e (by cases P<;>exact True.intro),q.rok,q.rest,C⟩,O,I.kp q.ok go v λy e=>⟨y,u _ e,by lia⟩⟩,c,h.na,h.nb⟩
end
theorem ZS.putD{a:Ad}{H:Hp}{g:GA}{G:Gv}{Κ:KTy}{N b:Nat}{p dx mem e D:Addr}{r:AF}{m:MA}{f:List (Key×V)}{o:HO}(h:ZS a H g G Κ N b p dx mem e r m)(i:H D=some (.dK f))(ap:ApZ g m D):ZS a (upd H D o) g G Κ N b p dx mem e r m:=by
 refine h.fx (ZR i (λz=>z)) λx d z=>?_;rw[D6.mp z]at d;simp only[zL,List.cons_append,List.nil_append,B7]at d;have c:=ap.n0;simp only[B7,C6,K7,A3f]at c;rcases d with z|z|z|z|z|z|z|z|z
 ·exact ap.n2 z
 ·exact ap.n3 z
 ·exact c.1 z
 ·exact c.2.1 z
 ·exact c.2.2.1 z
 ·exact c.2.2.2.1 z
 ·exact c.2.2.2.2.1 z
 ·exact c.2.2.2.2.2 z
 ·exact ap.n1 z
def CaT(H:Hp)(r:AF)(φ:Int->Int->Nat)(c:Nat)(t:Addr):Prop:=H t=some (.tup [.int (c:Int),.int (bxL (sFN r c φ)),.int (bxT (sFN r c φ))])
structure Sn0(H:Hp)(G:Gv)(r:AF)(φ:Int->Int->Nat)(n:Nat)(kv:List (Key×V)):Prop where
 len:kv.length<=n
 old:∀c,c<n->∃q t,Vf G q (nrm (sFN r c φ))/\Bu kv (Sum.inl ((q:Nat):Int))=some (.ref t)/\CaT H r φ c t
 inv:∀q v,Bu kv (Sum.inl ((q:Nat):Int))=some v->∃c t,c<n/\v=.ref t/\CaT H r φ c t/\Vf G q (nrm (sFN r c φ))
theorem Sn0.kp{H j:Hp}{G g:Gv}{r:AF}{φ:Int->Int->Nat}{n i:Nat}{f:List (Key×V)}(h:Sn0 H G r φ n f)(ok:GOk G)(go:AG G g i)(k:∀t xs,H t=some (.tup xs)->j t=some (.tup xs)):Sn0 j g r φ n f:=by
 refine⟨h.len,λc l=>?_,λq v e=>?_⟩
 ·obtain⟨q,t,a,b,d⟩:=h.old c l;exact⟨q,t,a.app ok go,b,k _ _ d⟩
 ·obtain⟨c,t,a,b,d,m⟩:=h.inv q v e;exact⟨c,t,a,b,k _ _ d,m.app ok go⟩
theorem Sn0.put{H:Hp}{G:Gv}{r:AF}{φ:Int->Int->Nat}{n q:Nat}{t:Addr}{d:List (Key×V)}(h:Sn0 H G r φ n d)(no:Bu d (Sum.inl (q:Int))=none)(i:Vf G q (nrm (sFN r n φ)))(j:CaT H r φ n t):Sn0 H G r φ (n+1) (DQ d (Sum.inl (q:Int)) (.ref t)):=by
 refine⟨by rw[FP _ no,C4];show d.length+1<=n+1;have:=h.len;lia,λc l=>?_,λb v e=>?_⟩
 ·by_cases z:c=n
  ·subst z;exact⟨q,t,i,by rw[EN,Z9 rfl],j⟩
  ·obtain⟨b,t',g,a,f⟩:=h.old c A0;refine⟨b,t',g,?_,f⟩;rw[EN,Z6]
   ·exact a
   ·intro y;rw[y]at a;rw[no]at a;cases a
 ·rw[EN]at e;by_cases z:(Sum.inl ((b:Nat):Int):Key)=Sum.inl (q:Int)
  ·rw[Z9 z]at e;cases e;have:b=q:=by
    injection z with z
    lia
   subst this;exact⟨n,t,by lia,rfl,j,i⟩
  ·rw[Z6 z]at e;obtain⟨c,t',g,a,f,k⟩:=h.inv b v e;exact⟨c,t',by lia,a,f,k⟩
section
variable{P:Program}{w:World}{K:W.Frag}{mg:Str->Option Value}{base:Heap}{a:Ad}
inductive SpCA(a:Ad)(vs:List V)(H:Hp)(Q:VK)(E:XK):Prop
 |mk (p dx mem pr:Addr) (g:GA) (G:Gv) (Κ:KTy) (φ:Int->Int->Nat) (N b:Nat) (r:AF) (m:MA) (f k:Nat) (_:vs=[.ref p,.int f,.int (k:Int)]) (_:ZS a H g G Κ N b p dx mem pr r m) (_:JM Κ N) (_:ClK r Κ) (_:∀c,c<=k->UD Κ r (sFN r c φ) 1) (_:Fv G f φ) (_:∀c,c<=k->∃ps:List (Int×Int),ps.length<=40/\∀u v,sFN r c φ u v≠0->(u,v)∈ps) (_:k<=30) (_:b+900000+10*N<3900000)
   (_:∀c d,1<=d->c+d<=k->(∀i j,j<i->i<c+d->¬Po (sFN r j φ) (sFN r i φ))->Po (sFN r c φ) (sFN r (c+d) φ)->(∀i,i<c+d->EE (sFN r i φ) 1)->∀(t:Addr)(G':Gv)(H':Hp)(i:Nat),FrZ g m H H'->ZS a H' g G' Κ N (b+900000) p dx mem pr r m->AG G G' i->H' t=some (.tup [.int (c:Int),.int (d:Int),.int (bxL (sFN r (c+d) φ)-bxL (sFN r c φ)),.int (bxT (sFN r (c+d) φ)-bxT (sFN r c φ))])->Q (.ref t) H')
   (_:(∀i j,j<i->i<=k->¬Po (sFN r j φ) (sFN r i φ))->(∀i,i<k->EE (sFN r i φ) 1)->∀(G':Gv)(H':Hp)(i:Nat),FrZ g m H H'->ZS a H' g G' Κ N (b+900000) p dx mem pr r m->AG G G' i->Q .non H')
   (_:∀c,c<k->(∀i j,j<i->i<=c->¬Po (sFN r j φ) (sFN r i φ))->(∀i,i<c->EE (sFN r i φ) 1)->¬EE (sFN r c φ) 1->∀(G':Gv)(H':Hp)(i:Nat),FrZ g m H H'->ZS a H' g G' Κ N (b+900000) p dx mem pr r m->AG G G' i->E (.ref a.x_TooFar) none H'):SpCA a vs H Q E
 |no (p f v:V) (_:vs=[p,f,v]) (_:Uz H v\/∃i:Int,v=.int i/\i<0) (_:E (.ref a.x_NoSteps) none H):SpCA a vs H Q E
def Ty(a:Ad):Sp:=λvs H Q E=>SpCA a vs H Q E
theorem ok_ca(F:Fun K "comes_again" "comes_again" GB f fd)(T:Top K mg a)(aB:Cal P w K mg base CX0 1 "is_whole" TX UU)(cT:Cal P w K mg base (CXE P w) 151 "jump" TK (Yt a))(bW:Cal P w K mg base CX0 104 "shape_of" TV (QK a)):AL P w K mg base (CXE P w) 152 f fd GJ (Ty a):=by
 refine F.okE AU (λvs H Q E h=>?_) (λbb A a9 s H vs Q E hr h=>?_)
 ·cases h with
  |mk p dx mem pr g G Κ φ N b r m f' k e=>rw[e];rfl
  |no p f' v e=>rw[e];rfl
 ·cases h with
  |no p f' v e od k =>
   subst e;refine⟨_,(Ab (AM (PW.pt (Mn (Da (CM (Aw aB (rm hr) rfl Aq (Aa (pv 2) Ae)))) (IE (Ay Fe (pv 2) Ac (AD _))))) (Ah (GX JT rfl rfl T.mx_NoSteps T.ec_NoSteps (CN Ae))) AB) (Ab (Ao (i:=3) AU.nd rfl (Or.inl rfl) GY) (Ab (Ao (i:=4) AU.nd rfl (Or.inl rfl) (pv 1)) (Ab (DA PassesOwn.leaving rfl (Ex rfl T.b_range (AV Bb (pv 2) Ac Ae)) (BQ (i:=5) AU.nd rfl (Or.inl rfl)) (Ab (AM (Ay Nz (pv 5) Ac (AD _)) (Ah (Ao (i:=4) AU.nd rfl (Or.inl rfl) (Aw cT (rm hr) rfl Vh (Aa (pv 0) (Aa (pv 4) (AR Ae)))))) AB) (Ab (Ao (i:=6) AU.nd rfl (Or.inl rfl) (Aw bW (rm hr) rfl Aq (Aa (AC (pv 0) rfl) (Aa (pv 4) Ae)))) (Ab (Ao (i:=7) AU.nd rfl (Or.inl rfl) (FQ (Ek hr) (pv 3) (Aj Ak (pv 6) Ac (λ_ _=>rfl)) ⟨rfl,rfl,rfl,rfl⟩)) (Ab (AM (Ay Ms (pv 7) Bz (AD _)) (Ah (As (Bk (Aa (Aj Ak (pv 7) Ac (λ_ _=>rfl)) (AV AS (pv 5) (Aj Ak (pv 7) Ac (λ_ _=>rfl)) (AV AS (Aj Ak (pv 6) Ac (λ_ _=>rfl)) (Aj Ak (pv 7) Ac (λ_ _=>rfl)) (AV AS (Aj Ak (pv 6) Ac (λ_ _=>rfl)) (Aj Ak (pv 7) Ac (λ_ _=>rfl)) Ae))))))) AB) (Ah (Fn (Ek hr) (pv 3) (Aj Ak (pv 6) Ac (λ_ _=>rfl)) (Bk (Aa (pv 5) (Aa (Aj Ak (pv 6) Ac (λ_ _=>rfl)) (Aa (Aj Ak (pv 6) Ac (λ_ _=>rfl)) Ae)))) rfl))))))) (Ah (As Bz)))))),?_⟩
   try dsimp only[cxK]
   refine AZ ?_;intro r1 s1 k1 aq E1;rcases od with od|⟨i,rfl,Z⟩
   ·exact⟨_,rfl,.no v rfl od ⟨false,rfl,BL ⟨by show 1<=100;decide,k⟩⟩⟩
   ·refine⟨_,rfl,.mk i rfl ⟨true,rfl,Ba ?_⟩⟩;refine⟨_,rfl,_,_,rfl,rfl,_,rfl,?_⟩;rw[Z7 Z];exact BL ⟨by show 1<=100;decide,k⟩
  |mk p dx mem pr g G Κ φ N b r m f' k e zs fin cl a3 fv ai bc few kt kn kf =>
   subst e;refine⟨_,(Ab (AM (PW.pt (Mn (Da (CM (Aw aB (rm hr) rfl Aq (Aa (pv 2) Ae)))) (IE (Ay Fe (pv 2) Ac (AD _))))) (Ah (GX JT rfl rfl T.mx_NoSteps T.ec_NoSteps (CN Ae))) AB) (Ab (Ao (i:=3) AU.nd rfl (Or.inl rfl) GY) (Ab (Ao (i:=4) AU.nd rfl (Or.inl rfl) (pv 1)) (Ab (DA PassesOwn.leaving rfl (Ex rfl T.b_range (AV Bb (pv 2) Ac Ae)) (BQ (i:=5) AU.nd rfl (Or.inl rfl)) (Ab (AM (Ay Nz (pv 5) Ac (AD _)) (Ah (Ao (i:=4) AU.nd rfl (Or.inl rfl) (Aw cT (rm hr) rfl Vh (Aa (pv 0) (Aa (pv 4) (AR Ae)))))) AB) (Ab (Ao (i:=6) AU.nd rfl (Or.inl rfl) (Aw bW (rm hr) rfl Aq (Aa (AC (pv 0) rfl) (Aa (pv 4) Ae)))) (Ab (Ao (i:=7) AU.nd rfl (Or.inl rfl) (FQ (Ek hr) (pv 3) (Aj Ak (pv 6) Ac (λ_ _=>rfl)) ⟨rfl,rfl,rfl,rfl⟩)) (Ab (AM (Ay Ms (pv 7) Bz (AD _)) (Ah (As (Bk (Aa (Aj Ak (pv 7) Ac (λ_ _=>rfl)) (AV AS (pv 5) (Aj Ak (pv 7) Ac (λ_ _=>rfl)) (AV AS (Aj Ak (pv 6) Ac (λ_ _=>rfl)) (Aj Ak (pv 7) Ac (λ_ _=>rfl)) (AV AS (Aj Ak (pv 6) Ac (λ_ _=>rfl)) (Aj Ak (pv 7) Ac (λ_ _=>rfl)) Ae))))))) AB) (Ah (Fn (Ek hr) (pv 3) (Aj Ak (pv 6) Ac (λ_ _=>rfl)) (Bk (Aa (pv 5) (Aa (Aj Ak (pv 6) Ac (λ_ _=>rfl)) (Aa (Aj Ak (pv 6) Ac (λ_ _=>rfl)) Ae)))) rfl))))))) (Ah (As Bz)))))),?_⟩
   try dsimp only[cxK]
   refine AZ ?_;intro r1 s1 k1 aq E1;refine⟨_,rfl,.mk (k:Int) rfl ⟨true,rfl,Ba ?_⟩⟩;refine⟨_,rfl,_,_,rfl,rfl,_,rfl,?_⟩;rw[Z8 A0];refine Ba ?_;refine aq ?_;have re:=zs.jz.jw.rest;refine AZ ?_;intro r2 s2 k2 ay E2;refine λD nD=>?_;have sD:=Ar (o:=.dK []) nD;have al:upd H D (.dK []) D=some (.dK []):=Af;generalize upd H D (.dK [])=H1 at sD al⊢;have a0:=zs.same sD;have ac:=zs.ap nD;refine ay ?_;refine AZ ?_;intro r3 s3 k3 aw E3;refine xq1 rfl (aw ?_);refine AZ ?_;intro r4 s4 k4 ax E4;refine⟨_,rfl,_,_,rfl,rfl,_,rfl,by lia,by lia,?_⟩;rw[show((k:Int)+1).toNat=k+1 by lia];refine DN (n:=k+1) (λc σ H3=>∃(G':Gv)(h:Nat)(kv:List (Key×V))(u5 u6 u7:Option V)(i:Nat),σ=[some (.ref p),some (.int f'),some (.int (k:Int)),some (.ref D),some (.int (h:Int)),u5,u6,u7]/\FrZ g m H H3/\ZS a H3 g G' Κ N (b+25000*c) p dx mem pr r m/\AG G G' i/\H3 D=some (.dK kv)/\Sn0 H3 G' r φ c kv/\(∀i j,j<i->i<c->¬Po (sFN r j φ) (sFN r i φ))/\(∀i,i+1<c->EE (sFN r i φ) 1)/\Fv G' h (sFN r (c-1) φ)) ⟨G,f',[],none,none,none,0,rfl,AA.z sD,a0,AG.refl zs.fu.ok,al,⟨C1 _,(λc hc=>absurd hc (F8 _)),λq v e=>by cases e⟩,(λi j _ Z=>absurd Z (F8 _)),(λi Z=>absurd Z (F8 _)),fv⟩ ?_ ?_
   ·rintro c σ H3 hc ⟨G',h,kv,u5,u6,u7,i,rfl,fz,z3,go,aa,sn,l,C,fh⟩;have a6:∀{x:Addr}{o:HO},H x=some o->x≠D:=λ{x o} e z=>by rw[z,nD]at e;cases e
    refine AZ ?_;intro r5 s5 k5 a1 E5;apply Qg (T:=k5) (fun σ' H4=>∃(G4:Gv)(h4:Nat)(i4:Nat),σ'=[some (.ref p),some (.int f'),some (.int (k:Int)),some (.ref D),some (.int (h4:Int)),some (.int (0+(c:Int))),u6,u7]/\FrZ g m H H4/\ZS a H4 g G4 Κ N (b+25000*c+12048) p dx mem pr r m/\AG G G4 i4/\H4 D=some (.dK kv)/\Sn0 H4 G4 r φ c kv/\(∀i,i<c->EE (sFN r i φ) 1)/\Fv G4 h4 (sFN r c φ))
    ·intro S;refine⟨_,rfl,_,_,rfl,rfl,_,rfl,Fw (λaj=>?_) (λaj=>?_)⟩
     ·have c1:1<=c:=by
       have:=X8 aj;lia
      refine⟨_,rfl,_,rfl,p,dx,mem,pr,g,G',Κ,sFN r (c-1) φ,N,_,r,m,h,1,rfl,z3,fin,cl,a3 (c-1) A0,fh,by lia,λnr d G4 H4 i4 B Y ab fd=>?_,λnn H4 B Y=>kf (c-1) A0 (λi j h1 h2=>l i j h1 A0) (λi h1=>C i A0) nn G' H4 i (fz.trans B) (Y.mono A0) go⟩;rw[<-JS,show 1+(c-1)=c by lia]at fd;refine S _ _ ⟨G4,d,_,rfl,fz.trans B,Y,go.trans ab,B _ _ aa ac.n0 ac.n1,sn.kp z3.fu.ok ab (λt xs e=>z3.keep B e B0 B0 B0),λi Z=>?_,fd⟩;by_cases z:i+1<c
      ·exact C i z
      ·rw[show i=c-1 by lia];exact nr
     ·have y:c=0:=by
       have:¬(0:Int)<0+(c:Int):=λz=>aj (Z7 z);lia
      subst y;exact S _ _ ⟨G',h,i,rfl,fz,z3.mono A0,go,aa,sn,λi Z=>absurd Z (F8 _),fh⟩
    ·rintro σ' H4 ⟨G4,h4,i4,rfl,B,Y,ab,an,am,R,ak⟩;refine a1 ?_;clear fz z3 go aa sn fh C;refine AZ ?_;intro r6 s6 k6 ba E6;obtain⟨ps,a4,az⟩:=ai c A0;have bd:=Y.jz.sz fin;refine xwf rfl rfl Y.jz.jw.hp T.cl_Jumps T.na_Jumps_grove (DG _ _ _ _ _) ?_;refine⟨_,rfl,sh_nrm Y.fu ak.vf az a4 A0 λq t6 G5 H5 X ar ae vq M=>?_⟩;have z5:=Y.fA X ar ae;have ag:H5 D=some (.dK kv):=X.get (λz=>ac.n0 (by simp only[frA,B7,C6,K7]at z⊢;lia)) an;have ad:=am.kp Y.fu.ok ae (λt xs e=>X.tup e);have a8:=ak.app Y.fu.ok ae;have ao:FrZ g m H H5:=B.trans (Fx.zA X);have af:=ab.trans ae;obtain⟨bf,a2⟩:=z5.fu.g0;have U:=z5.fu.ok;clear X ar Y am ak an B;refine ba ?_;refine AZ ?_;intro r7 s7 k7 av E7;refine⟨_,rfl,D,rfl,.inl ⟨_,.inl ag⟩,_,rfl,t6,_,0,.int (q:Int),rfl,rfl,SqT.of M,Ai (j:=0) rfl,_,Ie.k (k:=Sum.inl (q:Int)) ag,?_⟩;cases ev:Bu kv (Sum.inl (q:Int))with
     |some v =>
      obtain⟨y,t0,h1,rfl,I,v0⟩:=ad.inv q v ev;refine av ?_;refine AZ ?_;intro r8 s8 k8 as E8;refine⟨_,rfl,rfl,_,rfl,BL ?_⟩;have I:H5 t0=some (.tup [.int (y:Int),.int (bxL (sFN r y φ)),.int (bxT (sFN r y φ))]):=I;refine⟨_,rfl,t0,_,0,.int (y:Int),rfl,rfl,SqT.of I,Ai (j:=0) rfl,_,rfl,_,rfl,t0,_,0,.int (y:Int),rfl,rfl,SqT.of I,Ai (j:=0) rfl,_,_,rfl,rfl,?_⟩;refine⟨_,rfl,t6,_,1,.int (bxL (sFN r c φ)),rfl,rfl,SqT.of M,Ai (j:=1) rfl,_,rfl,t0,_,1,.int (bxL (sFN r y φ)),rfl,rfl,SqT.of I,Ai (j:=1) rfl,_,_,rfl,rfl,?_⟩;refine⟨_,rfl,t6,_,2,.int (bxT (sFN r c φ)),rfl,rfl,SqT.of M,Ai (j:=2) rfl,_,rfl,t0,_,2,.int (bxT (sFN r y φ)),rfl,rfl,SqT.of I,Ai (j:=2) rfl,_,_,rfl,rfl,?_⟩;refine⟨by show 4<=sizeLine;decide,λu hu=>?_⟩;have ec:y+(c-y)=c:=by lia
      refine kt y (c-y) A0 A0 (λi j h1 h2=>l i j h1 A0) (by rw[ec];exact v0.fn vq) (λi Z=>R i A0) u G5 _ _ (ao.trans (AA.z (Ar hu))) ((z5.same (Ar hu)).mono A0) af ?_;rw[Af,ec];have:(0:Int)+(c:Int)-(y:Int)=((c-y:Nat):Int):=by lia
      exact K5 (λz:Int=>some (HO.tup [.int (y:Int),.int z,.int (bxL (sFN r c φ)-bxL (sFN r y φ)),.int (bxT (sFN r c φ)-bxT (sFN r y φ))])) this
     |none =>
      have a5:∀j,j<c->¬Po (sFN r j φ) (sFN r c φ):=λj hj ss=>by
       obtain⟨q',t',w1,w2,_⟩:=ad.old j hj;have:q'=q:=Vf.eq a2 U w1 vq ss;subst this;rw[ev]at w2;cases w2
      refine av ?_;refine AZ ?_;intro r8 s8 k8 as E8;refine⟨_,rfl,rfl,_,rfl,Ba (as ?_)⟩;refine⟨_,rfl,_,rfl,t6,_,1,.int (bxL (sFN r c φ)),rfl,rfl,SqT.of M,Ai (j:=1) rfl,_,rfl,t6,_,2,.int (bxT (sFN r c φ)),rfl,rfl,SqT.of M,Ai (j:=2) rfl,by show 3<=sizeLine;decide,λu hu=>?_⟩;have O:=Ar (o:=.tup [.int (0+(c:Int)),.int (bxL (sFN r c φ)),.int (bxT (sFN r c φ))]) hu;have au:CaT (upd H5 u (.tup [.int (0+(c:Int)),.int (bxL (sFN r c φ)),.int (bxT (sFN r c φ))])) r φ c u:=by
       show upd H5 u _ u=_;rw[Af,V5]
      generalize upd H5 u (.tup [.int (0+(c:Int)),.int (bxL (sFN r c φ)),.int (bxT (sFN r c φ))])=H6 at O au⊢;have ah:=O _ _ ag;have z6:=z5.same O;have a7:=(ad.kp U (AG.refl U) (λt xs e=>O _ _ e)).put ev vq au;have lk:=ad.len;refine⟨_,rfl,_,rfl,t6,_,0,.int (q:Int),rfl,rfl,SqT.of (O _ _ M),Ai (j:=0) rfl,D,_,rfl,MJ.k (k:=Sum.inl (q:Int)) ah (DL A0),?_⟩;refine⟨G5,h4,DQ kv (Sum.inl (q:Int)) (.ref u),_,_,_,_,rfl,?_,(z6.putD ah ac).mono A0,af,Af,?_,λi j h1 h2=>?_,λi Z=>R i A0,by rw[Nat.add_sub_cancel];exact a8⟩
      ·intro x o e n1 n2;rw[Ax (a6 e)];exact O _ _ (ao x o e n1 n2)
      ·exact a7.kp U (AG.refl U) λt xs e=>by
        rw[Ax (AH e ah A4)];exact e
      ·by_cases z:i=c
       ·subst z;exact a5 j h1
       ·exact l i j h1 A0
   ·rintro σ H3 ⟨G',h,kv,u5,u6,u7,i,rfl,fz,z3,go,aa,sn,l,C,fh⟩;refine ax ?_;exact kn (λi j h1 h2=>l i j h1 A0) (λi Z=>C i A0) G' H3 i fz (z3.mono A0) go
end
end J
namespace J
open PySem L2
def it(f:Nat->Nat):Nat->Nat->Nat
 |0,s=>s
 |k+1,s=>f (it f k s)
structure Mp(f:Nat->Nat):Prop where
 z:f 0=0
 le:∀s,s<=7->f s<=7
section
variable{f:Nat->Nat}
theorem ZH(n s:Nat):∀m,it f (m+n) s=it f m (it f n s)
 |0=>by rw[N6];rfl
 |m+1=>by
  rw[show m+1+n=(m+n)+1 by lia];show f (it f (m+n) s)=f (it f m (it f n s));rw[ZH n s m]
theorem Mp.it0(h:Mp f):∀k,it f k 0=0
 |0=>rfl
 |k+1=>by show f (it f k 0)=0;rw[h.it0 k,h.z]
theorem Mp.itl(h:Mp f){s:Nat}(a:s<=7):∀k,it f k s<=7
 |0=>a
 |k+1=>h.le _ (h.itl a k)
end
def Gl(r:AF)(f:Nat->Nat)(dx dy:Int):Prop:=∀φ:Int->Int->Nat,(∀x y,φ x y<=7)->∀x y,sF r φ x y=f (φ (x+dx) (y+dy))
theorem Vx{r:AF}{f:Nat->Nat}{dx dy:Int}(c:Mp f)(a:Gl r f dx dy){φ:Int->Int->Nat}(h:∀x y,φ x y<=7):∀(k:Nat)(x y:Int),sFN r k φ x y=it f k (φ (x+k*dx) (y+k*dy))
 |0,x,y=>by
  show φ x y=φ (x+(0:Nat)*dx) (y+(0:Nat)*dy);rw[show((0:Nat):Int)=0 from rfl,Int.zero_mul,Int.zero_mul,S2,S2]
 |k+1,x,y=>by
  have b:=Vx c a h k;show sF r (sFN r k φ) x y=f (it f k _);rw[a _ (λu v=>by rw[b];exact c.itl (h _ _) k),b];have e:∀x dx:Int,x+dx+(k:Int)*dx=x+((k+1:Nat):Int)*dx:=λx dx=>by
   rw[M7,Int.add_mul];lia
  rw[e,e]
seal L2.PA L2.PE L2.PS L2.PSs L2.PT L2.PW
def plW(w:Nat)(k:Int):List (Option Int):=List.replicate w none++some k::List.replicate (7-w) none
def glC(M:Nat->Nat)(w k:Nat):Bd:=if w=8 then⟨some (k:Int),[],(M k:Int)⟩else⟨none,[.pl (plW w (k:Int))],(M k:Int)⟩
def glR(M:Nat->Nat)(w:Nat):AF:=((List.range 7).map λi=>glC M w (i+1))++if w=8 then []else [⟨none,[],0⟩]
theorem YJ{w:Nat}(i:w<8)(k c b e h g a f d:Int):(BC.pl (plW w k)).holds [c,b,e,h,g,a,f,d]=decide (k=[c,b,e,h,g,a,f,d].getD w 0):=by
 match w,i with
 |0,_=>simp[BC.holds,plW,CL]
 |1,_=>simp[BC.holds,plW,CL]
 |2,_=>simp[BC.holds,plW,CL]
 |3,_=>simp[BC.holds,plW,CL]
 |4,_=>simp[BC.holds,plW,CL]
 |5,_=>simp[BC.holds,plW,CL]
 |6,_=>simp[BC.holds,plW,CL]
 |7,_=>simp[BC.holds,plW,CL]
theorem Vy(M:Nat->Nat)(p:Bd->Bool)(C:Nat->Bd)(c:∀k,(C k).makes=(M k:Int))(v:Nat)(hp:∀k,1<=k->p (C k)=decide ((k:Int)=(v:Int)))(a:v<=7)(L:List Bd):(v=0->(((List.range 7).map λi=>C (i+1))++L).find? p=L.find? p)/\(v≠0->(((List.range 7).map λi=>C (i+1))++L).find? p=some (C v)):=by
 have e:(((List.range 7).map λi=>C (i+1))++L)=C 1::C 2::C 3::C 4::C 5::C 6::C 7::L:=rfl;rw[e];have q:∀(k:Nat)(K:List Bd),1<=k->(C k::K).find? p=if k=v then some (C k)else K.find? p:=λk K b=>by
  rw[R4,hp k b];by_cases z:k=v
  ·rw[Z9 z,Z7 (by rw[z])]
  ·rw[Z6 z,Z8 (λy:(k:Int)=(v:Int)=>z (X6 y))]
 rw[q 1 _ A3,q 2 _ A3,q 3 _ A3,q 4 _ A3,q 5 _ A3,q 6 _ A3,q 7 _ A3]
 match v,a with
 |0,_=>exact⟨λ_=>rfl,λz=>absurd rfl z⟩
 |1,_=>exact⟨λz=>(nomatch z),λ_=>rfl⟩
 |2,_=>exact⟨λz=>(nomatch z),λ_=>rfl⟩
 |3,_=>exact⟨λz=>(nomatch z),λ_=>rfl⟩
 |4,_=>exact⟨λz=>(nomatch z),λ_=>rfl⟩
 |5,_=>exact⟨λz=>(nomatch z),λ_=>rfl⟩
 |6,_=>exact⟨λz=>(nomatch z),λ_=>rfl⟩
 |7,_=>exact⟨λz=>(nomatch z),λ_=>rfl⟩
theorem ZM{M:Nat->Nat}(p:M 0=0){w:Nat}(n:w<8)(c d b g j i a h f:Int){v:Nat}(m:v<=7)(e:[d,b,g,j,i,a,h,f].getD w 0=(v:Int)):Dn (glR M w) c [d,b,g,j,i,a,h,f]=(M v:Int):=by
 have ne:w≠8:=by lia
 obtain⟨l,o⟩:=Vy M (Bd.fits c [d,b,g,j,i,a,h,f]) (glC M w) (λk=>by unfold glC;rw[Z6 ne]) v (λk _=>by
  unfold glC;rw[Z6 ne];show(true && ((BC.pl (plW w (k:Int))).holds [d,b,g,j,i,a,h,f] && true))=_;rw[YJ n,e,Bool.true_and,U5]) m [⟨none,[],0⟩]
 unfold Dn glR;rw[Z6 ne];by_cases z:v=0
 ·rw[l z,z,p];rfl
 ·rw[o z];unfold glC;rw[Z6 ne]
theorem Vz{M:Nat->Nat}(f:M 0=0){c:Nat}(b:c<=7)(a:List Int):Dn (glR M 8) (c:Int) a=(M c:Int):=by
 obtain⟨d,e⟩:=Vy M (Bd.fits (c:Int) a) (glC M 8) (λk=>rfl) c (λk _=>by
  show(decide ((k:Int)=(c:Int)) && true)=_;rw[U5]) b []
 unfold Dn glR;rw[Z9 rfl];by_cases z:c=0
 ·rw[d z,z,f];rfl
 ·rw[e z];rfl
def ofX:Nat->Int
 |0=>-1|1=>0|2=>1|3=>-1|4=>1|5=>-1|6=>0|7=>1|_=>0
def ofY:Nat->Int
 |0=>-1|1=>-1|2=>-1|3=>0|4=>0|5=>1|6=>1|7=>1|_=>0
theorem gl_gl{M:Nat->Nat}(a:M 0=0){w:Nat}(d:w<=8):Gl (glR M w) M (ofX w) (ofY w):=fun φ c x y=>by
 unfold sF;by_cases z:w=8
 ·subst z;rw[Vz a (c x y),L7];show M (φ x y)=M (φ (x+0) (y+0));rw[S2,S2]
 ·have b:w<8:=by lia
  rw[ZM a b _ _ _ _ _ _ _ _ _ (v:=φ (x+ofX w) (y+ofY w)) (c _ _) ?_,L7]
  match w,b with
  |0,_=>rfl
  |1,_=>show((φ x (y-1):Nat):Int)=(φ (x+0) (y-1):Nat);rw[S2]
  |2,_=>rfl
  |3,_=>show((φ (x-1) y:Nat):Int)=(φ (x-1) (y+0):Nat);rw[S2]
  |4,_=>show((φ (x+1) y:Nat):Int)=(φ (x+1) (y+0):Nat);rw[S2]
  |5,_=>rfl
  |6,_=>show((φ x (y+1):Nat):Int)=(φ (x+0) (y+1):Nat);rw[S2]
  |7,_=>rfl
theorem gl_rest{M:Nat->Nat}(a:M 0=0){w:Nat}(d:w<=8):Dn (glR M w) 0 CT=0:=by
 by_cases z:w=8
 ·subst z;have:=Vz a (c:=0) A3 CT;rw[a]at this;exact this
 ·have b:w<8:=by lia
  have:=ZM a b 0 0 0 0 0 0 0 0 0 (v:=0) A3 (by
   match w,b with
   |0,_=>rfl
   |1,_=>rfl
   |2,_=>rfl
   |3,_=>rfl
   |4,_=>rfl
   |5,_=>rfl
   |6,_=>rfl
   |7,_=>rfl)
  rw[a]at this;exact this
theorem glC_ok{M:Nat->Nat}(f:∀s,M s<=7){w k:Nat}(g:w<=8)(h:k<=7):(glC M w k).ok:=by
 have c:Lx (k:Int):=⟨by lia,by lia⟩
 have b:Lx (M k:Int):=⟨by lia,by have:=f k;lia⟩
 unfold glC;split
 ·exact⟨c,b,L9 _,λd a=>nomatch a⟩
 ·refine⟨True.intro,b,by show 1<=50;decide,λd a=>?_⟩;rw[D6.mp a];refine⟨by unfold plW;rw[C4,F0,O3,O3];lia,λv e=>?_⟩;unfold plW at e;rcases F9.mp e with q|q
  ·rw[(List.mem_replicate.mp q).2];exact True.intro
  ·rcases B7.mp q with q|q
   ·rw[q];exact c
   ·rw[(List.mem_replicate.mp q).2];exact True.intro
theorem ZN{M:Nat->Nat}(f:∀s,M s<=7){w:Nat}(b:w<=8):MH (glR M w):=by
 refine⟨?_,λc a=>?_⟩
 ·unfold glR;rw[C4,B5,M6];split<;>decide
 ·unfold glR at a;rcases F9.mp a with q|q
  ·obtain⟨i,g,rfl⟩:=C3.mp q;exact glC_ok f b (by have:=M0.mp g;lia)
  ·split at q
   ·cases q
   ·rw[D6.mp q];exact⟨True.intro,⟨Int.le_refl _,by show(0:Int)<8;decide⟩,L9 _,λd e=>nomatch e⟩
theorem RB{d:Int}(a:0<=d)(b:d<=9):(Str.ofString (toString d)).length=1:=by rw[Tx.JI a b];rfl
theorem gt_8:∀k:Nat,k<8->∀m:Nat,m<8->(sgD (k:Int)++Str.ofString " ")++sgD (m:Int)=Br ⟨some (k:Int),[],(m:Int)⟩:=by decide +kernel
theorem gt_w:∀w:Nat,w<8->∀k:Nat,k<8->∀m:Nat,m<8->(((Str.ofString "* " ++ ((TF (Str.ofString "*") w++sgD (k:Int))++TF (Str.ofString "*") (7-w)))++Str.ofString " ")++sgD (m:Int))=Br ⟨none,[.pl (plW w (k:Int))],(m:Int)⟩:=by decide +kernel
theorem gt_0:Str.ofString "* 0" = Br ⟨none,[],0⟩:=by decide +kernel
section
variable{P:Program}{w:World}{K:W.Frag}{mg:Str->Option Value}{base:Heap}{a:Ad}
inductive SpGtx(vs:List V)(H:Hp)(Q:VK):Prop
 |mk (L:Addr) (M:Nat->Nat) (w:Nat) (_:vs=[.ref L,.int (w:Int)]) (_:w<=8) (_:∀s,M s<=7) (_:H L=some (.lst ((List.range 8).map λi=>V.int (M i:Int)))) (_:∀H':Hp,AA H H'->Q (.str (DJ (glR M w))) H'):SpGtx vs H Q
def Yv:Sp:=λvs H Q _=>SpGtx vs H Q
theorem ok_gtx(F:Fun K "_law_glide_text" "_law_glide_text" Ea f fd)(T:Top K mg a):AL P w K mg base CX0 1 f fd Eh Yv:=by
  refine F.ok Cw (λ_ _ _ _ h=>by rcases h;subst_vars;rfl) λaa A I s H vs Q E hr h=>?_
  obtain⟨L,M,w,rfl,O,N,hL,k⟩:=h;refine⟨_,(Ab (Ao (i:=2) Cw.nd rfl (Or.inl rfl) (CA Ae)) (Ab (DA K8 rfl (MW rfl T.b_range (AR (AR Ae))) (BQ (i:=3) Cw.nd rfl (Or.inl rfl)) (Ah (AM (Ay CQ (pv 1) Ac (AD _)) (Ah (BP (DK K0 K1 K2 BS (pv 2) (AV DE (AE DE (Bp Fz rfl T.b_str A1c (Aa (pv 3) Ae)) IF) (Bp Fz rfl T.b_str A1c (Aa (Aj Av (pv 0) (pv 3) (λ_ _=>rfl)) Ae)) Ae)))) (Ab (Ao (i:=4) Cw.nd rfl (Or.inl rfl) (AE DE (AE DE (AE Vi IF (pv 1)) (Bp Fz rfl T.b_str A1c (Aa (pv 3) Ae))) (AE Vi IF (AE AS Ac (pv 1))))) (Ah (BP (DK K0 K1 K2 BS (pv 2) (AV DE (AE DE (AE DE IF (pv 4)) IF) (Bp Fz rfl T.b_str A1c (Aa (Aj Av (pv 0) (pv 3) (λ_ _=>rfl)) Ae)) Ae)))))))) (Ab (AM (Ay Fe (pv 1) Ac (AD _)) (Ah (BP (DK K0 K1 K2 BS (pv 2) (CN Ae)))) AB) (Ah (As (DK A2d PySem.F.slot_str_join PySem.F.type_str_join mt_join IF (Aa (pv 2) Ae))))))),?_⟩
  try dsimp only[cxK]
  refine⟨(by show 0<=sizeLine;decide),λS x=>?_⟩;have Z:=Ar (o:=.lst []) x;have h1:upd H S (.lst []) S=some (.lst []):=Af;generalize upd H S (.lst [])=H1 at Z h1⊢;refine⟨1,8,rfl,⟨by decide,by decide,by decide,by decide⟩,?_⟩;refine DN (n:=7) (λi σ C=>∃D B:Option V,σ=[some (.ref L),some (.int (w:Int)),some (.ref S),D,B]/\AA H C/\C S=some (.lst ((List.range i).map λj=>V.str (Br (glC M w (j+1)))))) ⟨none,none,rfl,Z,h1⟩ ?_ ?_
  ·rintro i σ C hi ⟨D,B,rfl,q,p⟩;refine⟨_,rfl,rfl,_,rfl,Fw (λg=>?_) (λg=>?_)⟩
   ·have O:w=8:=by
     have:=X8 g;injection this with this
     lia
    subst O;have mi:=N (i+1);have m:(Str.ofString (toString (1+(i:Int)))).length=1:=RB A0 A0;have Y:(Str.ofString (toString (M (i+1):Int))).length=1:=RB A0 A0;have v:(Str.ofString " ").length=1:=by decide
    have U:atI ((List.range 8).map λi=>V.int (M i:Int)) (1+(i:Int))=some (.int (M (i+1):Int)):=by
     rw[show 1+(i:Int)=((i+1:Nat):Int) by lia];exact Ai (by rw[B8,O7 A0];rfl)
    refine⟨_,rfl,.inl ⟨rfl,_,SqL.of p⟩,_,rfl,1+(i:Int),rfl,JP A0 A0,_,_,rfl,rfl,IS (by rw[m,v];decide),_,rfl,_,rfl,L,_,_,_,rfl,rfl,SqL.of (q _ _ hL),U,(M (i+1):Int),rfl,JP A0 A0,_,_,rfl,rfl,IS (by rw[A0g,m,Y,v];decide),S,_,_,rfl,rfl,p,by rw[B5,M6];exact DL A0,?_⟩;refine⟨_,_,rfl,λb o e=>?_,?_⟩
    ·rw[Ax (Az e x)];exact q _ _ e
    ·rw[Af,Q0,C5];congr 3;have e:=gt_8 (i+1) A0 (M (i+1)) A0;rw[show((i+1:Nat):Int)=1+(i:Int) by lia]at e;have X:glC M 8 (i+1)=⟨some (1+(i:Int)),[],(M (i+1):Int)⟩:=by
      unfold glC;rw[Z9 rfl,show((i+1:Nat):Int)=1+(i:Int) by lia]
     show [V.str _]=[V.str (Br (glC M 8 (i+1)))]
     rw[X,Tx.JI (show 0<=1+(i:Int) by lia) A0,Tx.JI (show 0<=(M (i+1):Int) by lia) A0];exact K5 (λz=>[V.str z]) e
   ·have ne:w≠8:=λz=>g (Z7 (by rw[z];rfl));have h8:w<8:=by lia
    have mi:=N (i+1);have m:(Str.ofString (toString (1+(i:Int)))).length=1:=RB A0 A0;have Y:(Str.ofString (toString (M (i+1):Int))).length=1:=RB A0 A0;have v:(Str.ofString " ").length=1:=by decide
    have R:(Str.ofString "*").length=1:=by decide
    have r:(Str.ofString "* ").length=2:=by decide
    have d:=λk=>Ss R k;have U:atI ((List.range 8).map λi=>V.int (M i:Int)) (1+(i:Int))=some (.int (M (i+1):Int)):=by
     rw[show 1+(i:Int)=((i+1:Nat):Int) by lia];exact Ai (by rw[B8,O7 A0];rfl)
    refine⟨_,rfl,_,w,rfl,rfl,R,by lia,_,rfl,1+(i:Int),rfl,JP A0 A0,_,_,rfl,rfl,IS (by rw[m,d];lia),_,rfl,_,_,rfl,rfl,_,7-w,rfl,K5 V.int A0,R,by lia,_,_,rfl,rfl,IS (by rw[A0g,m,d,d];lia),?_⟩;refine⟨_,rfl,.inl ⟨rfl,_,SqL.of p⟩,_,rfl,_,_,rfl,rfl,IS (by rw[A0g,A0g,m,d,d,r];lia),_,_,rfl,rfl,IS (by rw[A0g,A0g,A0g,m,d,d,r,v];lia),_,rfl,_,rfl,L,_,_,_,rfl,rfl,SqL.of (q _ _ hL),U,(M (i+1):Int),rfl,JP A0 A0,_,_,rfl,rfl,IS (by rw[A0g,A0g,A0g,A0g,m,Y,d,d,r,v];lia),S,_,_,rfl,rfl,p,by rw[B5,M6];exact DL A0,?_⟩;refine⟨_,_,rfl,λb o e=>?_,?_⟩
    ·rw[Ax (Az e x)];exact q _ _ e
    ·rw[Af,Q0,C5];congr 3;have e:=gt_w w h8 (i+1) A0 (M (i+1)) A0;rw[show((i+1:Nat):Int)=1+(i:Int) by lia]at e;have X:glC M w (i+1)=⟨none,[.pl (plW w (1+(i:Int)))],(M (i+1):Int)⟩:=by
      unfold glC;rw[Z6 ne,show((i+1:Nat):Int)=1+(i:Int) by lia]
     show [V.str _]=[V.str (Br (glC M w (i+1)))]
     rw[X,Tx.JI (show 0<=1+(i:Int) by lia) A0,Tx.JI (show 0<=(M (i+1):Int) by lia) A0];exact K5 (λz=>[V.str z]) e
  ·rintro σ C ⟨D,B,rfl,q,p⟩;have ok:=ZN N O;dsimp only;refine AZ ?_;intro r9 s9 k9 G E9;apply Qg (T:=k9) (fun σ y=>σ=[some (.ref L),some (.int (w:Int)),some (.ref S),D,B]/\AA H y/\y S=some (.lst (((glR M w).map Br).map V.str)))
   ·intro l;refine⟨_,rfl,_,_,rfl,rfl,_,rfl,Fw (λg=>?_) (λg=>?_)⟩
    ·have ne:w≠8:=by
      have:=X8 g;lia
     refine⟨_,rfl,.inl ⟨rfl,_,SqL.of p⟩,S,_,_,rfl,rfl,p,by rw[B5,M6];decide,?_⟩;refine l _ _ ⟨rfl,λb o e=>?_,?_⟩
     ·rw[Ax (Az e x)];exact q _ _ e
     ·rw[Af];unfold glR;rw[Z6 ne,C5,C5,O4,O4,gt_0];rfl
    ·have e8:w=8:=by
      have:¬(w:Int)<8:=λz=>g (Z7 z);lia
     refine l _ _ ⟨rfl,q,?_⟩;rw[p];unfold glR;rw[Z9 e8,V9,O4,O4];rfl
   ·rintro σ y ⟨rfl,s4,h4⟩;refine G ?_;have em:Str.ofString "; " = Qh:=by decide +kernel
    have u:JoinOk (Str.ofString "; ") ((glR M w).map Br)=true:=by
     refine Tx.join_ok 1000 (λt ht=>?_) ?_
     ·obtain⟨c,g,rfl⟩:=C3.mp ht;exact LX (ok.ok c g)
     ·rw[B5,em,show Qh.length=2 from rfl];have:=ok.few;lia
    refine⟨rfl,_,rfl,_,S,_,rfl,rfl,SqL.of h4,u,?_⟩;rw[em];exact k y s4
end
section
variable{P:Program}{w:World}{K:W.Frag}{mg:Str->Option Value}{base:Heap}{a:Ad}
inductive SpAlg(vs:List V)(H:Hp)(Q:VK):Prop
 |mk (c:Int) (_:vs=[.int c]) (_:∀(v:Int)(H':Hp),AA H H'->-(2^40)<=v->v<2^40->Q (.int v) H'):SpAlg vs H Q
def YC:Sp:=λvs H Q _=>SpAlg vs H Q
theorem ok_alg(F:Fun K "_law_along" "_law_along" Ix f fd)(T:Top K mg a):AL P w K mg base CX0 1 f fd Rl YC:=by
  refine F.ok Pu (λ_ _ _ _ h=>by rcases h;subst_vars;rfl) λl A d s H vs Q E m h=>?_
  obtain⟨c,rfl,k⟩:=h;refine⟨_,(Ab (AM (Ay CQ (AE BH (pv 0) Ac) Ac (AD _)) (Ah (As (AE AS (AE BH (AE CP (pv 0) Ac) (AE LP Ac Ac)) (AE LP Ac Ac)))) AB) (Ab (AM (Ay CQ (AE BH (pv 0) Ac) Ac (AD _)) (Ah (As (Aj Av (CA (AV AS (AE AS (AE LP Ac Ac) Ac) (AE BH (AE CP (pv 0) Ac) Ac) (AV AS (AE BH (AE CP (pv 0) Ac) Ac) (AE LP Ac Ac) Ae))) (AE BH (AE CP (pv 0) Ac) Ac) (λ_ _=>rfl)))) AB) (Ah (As (AE AS (AE BH (AE CP (pv 0) Ac) Ac) Ac))))),?_⟩
  try dsimp only[cxK]
  refine⟨_,rfl,_,_,rfl,rfl,(by show(0:Int)<3;decide),rfl,_,rfl,Fw (λ_=>?_) (λ_=>?_)⟩
  ·refine⟨_,rfl,_,_,rfl,rfl,⟨by decide,by decide⟩,_,_,rfl,rfl,⟨by decide,by decide,by decide⟩,_,_,rfl,rfl,(by show(0:Int)<2^(41:Int).toNat;decide),_,_,rfl,rfl,⟨by decide,by decide,by decide⟩,_,_,rfl,rfl,k _ H (AA.refl H) ?_ ?_⟩
   ·have:=O9 (c/3) (show(2:Int)^(41:Int).toNat≠0 by decide);show -(2^40)<=c/3%2^(41:Int).toNat-2^(40:Int).toNat;rw[show(2:Int)^(40:Int).toNat=2^40 from rfl];lia
   ·have:=N9 (c/3) (show(0:Int)<2^(41:Int).toNat by decide);show c/3%2^(41:Int).toNat-2^(40:Int).toNat<2^40;rw[show(2:Int)^(40:Int).toNat=2^40 from rfl,show(2:Int)^(41:Int).toNat=2*2^40 from rfl]at *
    lia
  ·refine⟨_,rfl,_,_,rfl,rfl,(by show(0:Int)<3;decide),rfl,_,rfl,Fw (λ_=>?_) (λ_=>?_)⟩
   ·have b:(2:Int)^(40:Int).toNat=2^40:=rfl;refine⟨_,_,rfl,rfl,⟨by decide,by decide,by decide⟩,_,_,rfl,rfl,_,rfl,_,_,rfl,rfl,⟨by decide,by decide⟩,_,_,rfl,rfl,(by show(0:Int)<5;decide),_,_,rfl,rfl,?_⟩;refine⟨_,rfl,_,_,rfl,rfl,⟨by decide,by decide⟩,_,_,rfl,rfl,(by show(0:Int)<5;decide),_,_,rfl,rfl,⟨by decide,by decide,by decide⟩,_,_,rfl,rfl,by show 2<=sizeLine;decide,λz g=>?_⟩;refine⟨_,rfl,_,_,rfl,rfl,⟨by decide,by decide⟩,_,_,rfl,rfl,B2,?_⟩;have j:=O9 (c/6) (show(5:Int)≠0 by decide);have i:=N9 (c/6) (show(0:Int)<5 by decide);have o:=O9 (c/3) (show(2:Int)≠0 by decide);have n:=N9 (c/3) (show(0:Int)<2 by decide);rcases(show c/3%2=0\/c/3%2=1 by lia)with e|e
    ·refine⟨z,_,0,.int (2^(40:Int).toNat-1-c/6%5),rfl,K5 V.int e,SqL.of Af,rfl,k _ _ (Ar g) ?_ ?_⟩<;>(rw[b];lia)
    ·refine⟨z,_,1,.int (c/6%5-2^(40:Int).toNat),rfl,K5 V.int e,SqL.of Af,rfl,k _ _ (Ar g) ?_ ?_⟩<;>(rw[b];lia)
   ·have j:=O9 (c/3) (show(9:Int)≠0 by decide);have i:=N9 (c/3) (show(0:Int)<9 by decide);refine⟨_,rfl,_,_,rfl,rfl,⟨by decide,by decide⟩,_,_,rfl,rfl,(by show(0:Int)<9;decide),_,_,rfl,rfl,k _ H (AA.refl H) ?_ ?_⟩
    ·show -(2^40)<=c/3%9-4;lia
    ·show c/3%9-4<2^40;lia
inductive SpSpo(vs:List V)(H:Hp)(Q:VK):Prop
 |mk (sd f al:Int) (_:vs=[.int sd,.int f,.int al]) (_:∀(t:Addr)(H':Hp),AA H H'->H t=none->H' t=some (.tup [.int (if sd=0 then 2^40-1-f else if sd=1 then al else if sd=2 then f-2^40 else al),.int (if sd=0 then al else if sd=1 then 2^40-1-f else if sd=2 then al else f-2^40)])->Q (.ref t) H'):SpSpo vs H Q
def Yi:Sp:=λvs H Q _=>SpSpo vs H Q
theorem ok_spo(F:Fun K "_law_spot" "_law_spot" Jp f fd)(T:Top K mg a):AL P w K mg base CX0 1 f fd Jy Yi:=by
  refine F.ok Mi (λ_ _ _ _ h=>by rcases h;subst_vars;rfl) λm A l s H vs Q E n h=>?_
  obtain⟨sd,o,al,rfl,k⟩:=h;refine⟨_,(Ab (Ao (i:=3) Mi.nd rfl (Or.inl rfl) (AE LP Ac Ac)) (Ab (AM (Ay CQ (pv 0) Ac (AD _)) (Ah (As (Bk (AV AS (AE AS (pv 3) Ac) (pv 1) (Aa (pv 2) Ae))))) AB) (Ab (AM (Ay CQ (pv 0) Ac (AD _)) (Ah (As (Bk (Aa (pv 2) (AV AS (AE AS (pv 3) Ac) (pv 1) Ae))))) AB) (Ab (AM (Ay CQ (pv 0) Ac (AD _)) (Ah (As (Bk (AV AS (pv 1) (pv 3) (Aa (pv 2) Ae))))) AB) (Ah (As (Bk (Aa (pv 2) (AV AS (pv 1) (pv 3) Ae))))))))),?_⟩
  try dsimp only[cxK]
  refine⟨_,_,rfl,rfl,⟨by decide,by decide,by decide⟩,?_⟩;have e:∀{i:Int},decide (V.int sd=V.int i)=true->sd=i:=λ{i} z=>by
   have:=X8 z;injection this
  have j:∀{i:Int},¬decide (V.int sd=V.int i)=true->sd≠i:=λ{i} z y=>z (Z7 (K5 V.int y));refine⟨_,rfl,rfl,_,rfl,Fw (λb=>?_) (λb=>?_)⟩
  ·refine⟨_,rfl,_,_,rfl,rfl,_,rfl,_,_,rfl,rfl,_,rfl,by show 2<=sizeLine;decide,λt c=>k t _ (Ar c) c ?_⟩;rw[Af,Z9 (e b),Z9 (e b)];rfl
  ·have b:=j b;refine⟨_,rfl,rfl,_,rfl,Fw (λd=>?_) (λd=>?_)⟩
   ·refine⟨_,rfl,_,rfl,_,_,rfl,rfl,_,rfl,_,_,rfl,rfl,by show 2<=sizeLine;decide,λt c=>k t _ (Ar c) c ?_⟩;rw[Af,Z6 b,Z6 b,Z9 (e d),Z9 (e d)];rfl
   ·have d:=j d;refine⟨_,rfl,rfl,_,rfl,Fw (λg=>?_) (λg=>?_)⟩
    ·refine⟨_,rfl,_,rfl,_,_,rfl,rfl,_,rfl,by show 2<=sizeLine;decide,λt c=>k t _ (Ar c) c ?_⟩;rw[Af,Z6 b,Z6 b,Z6 d,Z6 d,Z9 (e g),Z9 (e g)];rfl
    ·refine⟨_,rfl,_,rfl,_,rfl,_,_,rfl,rfl,by show 2<=sizeLine;decide,λt c=>k t _ (Ar c) c ?_⟩;rw[Af,Z6 b,Z6 b,Z6 d,Z6 d,Z6 (j g),Z6 (j g)];rfl
inductive SpOff(vs:List V)(H:Hp)(Q:VK):Prop
 |mk (n:Nat) (_:vs=[.int (n:Int)]) (_:n<=8) (_:∀(t:Addr)(H':Hp),AA H H'->H' t=some (.tup [.int (ofX n),.int (ofY n)])->Q (.ref t) H'):SpOff vs H Q
def Yp:Sp:=λvs H Q _=>SpOff vs H Q
theorem ok_off(F:Fun K "_law_offset" "_law_offset" GC f fd)(T:Top K mg a):AL P w K mg base CX0 1 f fd GK Yp:=by
  refine F.ok Jm (λ_ _ _ _ h=>by rcases h;subst_vars;rfl) λaa A X s H vs Q E hr h=>?_
  obtain⟨n,rfl,Z,k⟩:=h;refine⟨_,(Ab (Ao (i:=1) Jm.nd rfl (Or.inl rfl) (CA (AT (Aa (Db Cc Ac) (Aa (Db Cc Ac) Ae)) (AT (AR (Aa (Db Cc Ac) Ae)) (AT (AR (Aa (Db Cc Ac) Ae)) (AT (Aa (Db Cc Ac) (AR Ae)) (AT (AR (AR Ae)) (AT (Aa (Db Cc Ac) (AR Ae)) (AT (AR (AR Ae)) (AT (AR (AR Ae)) (AT (AR (AR Ae)) Ae))))))))))) (Ah (As (Aj Av (pv 1) (pv 0) (λ_ _=>rfl))))),?_⟩
  try dsimp only[cxK]
  refine⟨_,rfl,_,rfl,(by show 2<=sizeLine;decide),λB n0=>?_⟩;have s0:=Ar (o:=.tup [.int (-1),.int (-1)]) n0;have c:upd H B (.tup [.int (-1),.int (-1)]) B=some (.tup [.int (-1),.int (-1)]):=Af;generalize upd H B (.tup [.int (-1),.int (-1)])=H0 at s0 c⊢;refine⟨_,rfl,(by show 2<=sizeLine;decide),λq n1=>?_⟩;have V:=Ar (o:=.tup [.int (0),.int (-1)]) n1;have d:upd H0 q (.tup [.int (0),.int (-1)]) q=some (.tup [.int (0),.int (-1)]):=Af;generalize upd H0 q (.tup [.int (0),.int (-1)])=H1 at V d⊢;have c:=V _ _ c;refine⟨_,rfl,(by show 2<=sizeLine;decide),λv n2=>?_⟩;have S:=Ar (o:=.tup [.int (1),.int (-1)]) n2;have e:upd H1 v (.tup [.int (1),.int (-1)]) v=some (.tup [.int (1),.int (-1)]):=Af;generalize upd H1 v (.tup [.int (1),.int (-1)])=H2 at S e⊢;have c:=S _ _ c;have d:=S _ _ d;refine⟨_,rfl,(by show 2<=sizeLine;decide),λu n3=>?_⟩;have R:=Ar (o:=.tup [.int (-1),.int (0)]) n3;have g:upd H2 u (.tup [.int (-1),.int (0)]) u=some (.tup [.int (-1),.int (0)]):=Af;generalize upd H2 u (.tup [.int (-1),.int (0)])=H3 at R g⊢;have c:=R _ _ c;have d:=R _ _ d;have e:=R _ _ e;refine⟨(by show 2<=sizeLine;decide),λr n4=>?_⟩;have N:=Ar (o:=.tup [.int (1),.int (0)]) n4;have l:upd H3 r (.tup [.int (1),.int (0)]) r=some (.tup [.int (1),.int (0)]):=Af;generalize upd H3 r (.tup [.int (1),.int (0)])=H4 at N l⊢;have c:=N _ _ c;have d:=N _ _ d;have e:=N _ _ e;have g:=N _ _ g;refine⟨_,rfl,(by show 2<=sizeLine;decide),λt n5=>?_⟩;have M:=Ar (o:=.tup [.int (-1),.int (1)]) n5;have G:upd H4 t (.tup [.int (-1),.int (1)]) t=some (.tup [.int (-1),.int (1)]):=Af;generalize upd H4 t (.tup [.int (-1),.int (1)])=H5 at M G⊢;have c:=M _ _ c;have d:=M _ _ d;have e:=M _ _ e;have g:=M _ _ g;have l:=M _ _ l;refine⟨(by show 2<=sizeLine;decide),λD n6=>?_⟩;have I:=Ar (o:=.tup [.int (0),.int (1)]) n6;have O:upd H5 D (.tup [.int (0),.int (1)]) D=some (.tup [.int (0),.int (1)]):=Af;generalize upd H5 D (.tup [.int (0),.int (1)])=H6 at I O⊢;have c:=I _ _ c;have d:=I _ _ d;have e:=I _ _ e;have g:=I _ _ g;have l:=I _ _ l;have G:=I _ _ G;refine⟨(by show 2<=sizeLine;decide),λy n7=>?_⟩;have p:=Ar (o:=.tup [.int (1),.int (1)]) n7;have U:upd H6 y (.tup [.int (1),.int (1)]) y=some (.tup [.int (1),.int (1)]):=Af;generalize upd H6 y (.tup [.int (1),.int (1)])=H7 at p U⊢;have c:=p _ _ c;have d:=p _ _ d;have e:=p _ _ e;have g:=p _ _ g;have l:=p _ _ l;have G:=p _ _ G;have O:=p _ _ O;refine⟨(by show 2<=sizeLine;decide),λz Z=>?_⟩;have m:=Ar (o:=.tup [.int (0),.int (0)]) Z;have h8:upd H7 z (.tup [.int (0),.int (0)]) z=some (.tup [.int (0),.int (0)]):=Af;generalize upd H7 z (.tup [.int (0),.int (0)])=Y at m h8⊢;have c:=m _ _ c;have d:=m _ _ d;have e:=m _ _ e;have g:=m _ _ g;have l:=m _ _ l;have G:=m _ _ G;have O:=m _ _ O;have U:=m _ _ U;have x:AA H Y:=(((((((s0.trans V).trans S).trans R).trans N).trans M).trans I).trans p).trans m;refine⟨(by show 9<=sizeLine;decide),λL nL=>?_⟩;have b:=Ar (o:=.lst [.ref B,.ref q,.ref v,.ref u,.ref r,.ref t,.ref D,.ref y,.ref z]) nL;have j:upd Y L (.lst [.ref B,.ref q,.ref v,.ref u,.ref r,.ref t,.ref D,.ref y,.ref z]) L=some (.lst [.ref B,.ref q,.ref v,.ref u,.ref r,.ref t,.ref D,.ref y,.ref z]):=Af;generalize upd Y L (.lst [.ref B,.ref q,.ref v,.ref u,.ref r,.ref t,.ref D,.ref y,.ref z])=C at b j⊢
  match n,Z with
  |0,_=>exact⟨_,rfl,_,rfl,L,_,_,.ref B,rfl,rfl,SqL.of j,rfl,k B C (x.trans b) (b _ _ c)⟩
  |1,_=>exact⟨_,rfl,_,rfl,L,_,_,.ref q,rfl,rfl,SqL.of j,rfl,k q C (x.trans b) (b _ _ d)⟩
  |2,_=>exact⟨_,rfl,_,rfl,L,_,_,.ref v,rfl,rfl,SqL.of j,rfl,k v C (x.trans b) (b _ _ e)⟩
  |3,_=>exact⟨_,rfl,_,rfl,L,_,_,.ref u,rfl,rfl,SqL.of j,rfl,k u C (x.trans b) (b _ _ g)⟩
  |4,_=>exact⟨_,rfl,_,rfl,L,_,_,.ref r,rfl,rfl,SqL.of j,rfl,k r C (x.trans b) (b _ _ l)⟩
  |5,_=>exact⟨_,rfl,_,rfl,L,_,_,.ref t,rfl,rfl,SqL.of j,rfl,k t C (x.trans b) (b _ _ G)⟩
  |6,_=>exact⟨_,rfl,_,rfl,L,_,_,.ref D,rfl,rfl,SqL.of j,rfl,k D C (x.trans b) (b _ _ O)⟩
  |7,_=>exact⟨_,rfl,_,rfl,L,_,_,.ref y,rfl,rfl,SqL.of j,rfl,k y C (x.trans b) (b _ _ U)⟩
  |8,_=>exact⟨_,rfl,_,rfl,L,_,_,.ref z,rfl,rfl,SqL.of j,rfl,k z C (x.trans b) (b _ _ h8)⟩
end
def pX(sd f al:Int):Int:=if sd=0 then 2^40-1-f else if sd=1 then al else if sd=2 then f-2^40 else al
def pY(sd f al:Int):Int:=if sd=0 then al else if sd=1 then 2^40-1-f else if sd=2 then al else f-2^40
theorem p_in{sd f al:Int}(d:0<=f)(h:f<=6)(g:-(2^40)<=al)(e:al<2^40):EF (pX sd f al) (pY sd f al) 1 1 (2^40):=by
 unfold EF pX pY;by_cases a:sd=0
 ·rw[Z9 a,Z9 a];refine⟨by lia,by lia,by lia,by lia⟩
 ·rw[Z6 a,Z6 a];by_cases c:sd=1
  ·rw[Z9 c,Z9 c];refine⟨by lia,by lia,by lia,by lia⟩
  ·rw[Z6 c,Z6 c];by_cases b:sd=2
   ·rw[Z9 b,Z9 b];refine⟨by lia,by lia,by lia,by lia⟩
   ·rw[Z6 b,Z6 b];refine⟨by lia,by lia,by lia,by lia⟩
theorem p_ne{sd f g al:Int}(h:f≠g):¬(pX sd f al=pX sd g al/\pY sd f al=pY sd g al):=by
 unfold pX pY;rintro⟨c,b⟩;by_cases a:sd=0
 ·rw[Z9 a,Z9 a]at c;lia
 ·rw[Z6 a,Z6 a]at c b;by_cases e:sd=1
  ·rw[Z9 e,Z9 e]at b;lia
  ·rw[Z6 e,Z6 e]at c b;by_cases d:sd=2
   ·rw[Z9 d,Z9 d]at c;lia
   ·rw[Z6 d,Z6 d]at b;lia
section
variable{P:Program}{w:World}{K:W.Frag}{mg:Str->Option Value}{base:Heap}{a:Ad}
inductive SpRnd(K:W.Frag)(vs:List V)(H:Hp)(Q:VK):Prop
 |mk (l:Addr) (ns:List Int) (m:Nat) (_:vs=[.ref l,.int (m:Int)]) (_:SqL K H l (ns.map V.int)) (_:1<=m) (_:m<=7) (_:∀(L:Addr)(M:Nat->Nat)(H':Hp),AA H H'->M 0=0->(∀s,M s<=7)->H' L=some (.lst ((List.range 8).map λi=>V.int (M i:Int)))->Q (.ref L) H'):SpRnd K vs H Q
def Yk(K:W.Frag):Sp:=λvs H Q _=>SpRnd K vs H Q
theorem ok_rnd(F:Fun K "_law_round" "_law_round" Iw f fd)(T:Top K mg a)(I:Cal P w K mg base CX0 1 "_law_at" Wu (YB K)):AL P w K mg base CX0 2 f fd IM (Yk K):=by
  refine F.ok Gw (λ_ _ _ _ h=>by rcases h;subst_vars;rfl) λO A r s H vs Q E N h=>?_
  obtain⟨l,ns,m,rfl,G,U,Y,k⟩:=h;refine⟨_,(Ab (Ao (i:=2) Gw.nd rfl (Or.inl rfl) (CA (AR Ae))) (Ab (DA K8 rfl (MW rfl T.b_range (AR (AR Ae))) (BQ (i:=3) Gw.nd rfl (Or.inl rfl)) (Ah (AM (Ay Lo (pv 3) (pv 1) (AD _)) (Ah (BP (DK K0 K1 K2 BS (pv 2) (AV Bb (AE BH (pv 3) (pv 1)) Ac Ae)))) (Ah (BP (DK K0 K1 K2 BS (pv 2) (AV BH (AE Bb (pv 3) (Aw I (rm N) rfl Aq (Aa (pv 0) (AV Bb Ac (pv 3) Ae)))) Ac Ae))))))) (Ah (As (pv 2))))),?_⟩
  try dsimp only[cxK]
  generalize g:(λs:Nat=>if s=0 then 0 else if s<=m then s%m+1 else(((s:Int)+atN ns (8+(s:Int)))%8).toNat)=M;refine⟨(by show 1<=sizeLine;decide),λS x=>?_⟩;have y:=Ar (o:=.lst [.int 0]) x;have B:upd H S (.lst [.int 0]) S=some (.lst ((List.range 1).map λi=>V.int (M i:Int))):=by rw[Af,<-g];rfl
  generalize upd H S (.lst [.int 0])=R at y B⊢;refine⟨1,8,rfl,⟨by decide,by decide,by decide,by decide⟩,?_⟩;refine DN (n:=7) (λi σ c=>∃t:Option V,σ=[some (.ref l),some (.int (m:Int)),some (.ref S),t]/\AA H c/\c S=some (.lst ((List.range (i+1)).map λi=>V.int (M i:Int)))) ⟨none,rfl,y,B⟩ ?_ ?_
  ·rintro i σ c X ⟨t,rfl,j,d⟩;have C:∀v:Int,v=(M (i+1):Int)->∃u:Option V,[some (.ref l),some (.int (m:Int)),some (.ref S),some (.int (1+(i:Int)))]=[some (.ref l),some (.int (m:Int)),some (.ref S),u]/\AA H (upd c S (.lst (((List.range (i+1)).map λi=>V.int (M i:Int))++[.int v])))/\upd c S (.lst (((List.range (i+1)).map λi=>V.int (M i:Int))++[.int v])) S=some (.lst ((List.range (i+1+1)).map λi=>V.int (M i:Int))):=λv e=>by
    refine⟨_,rfl,λb o D=>?_,?_⟩
    ·rw[Ax (Az D x)];exact j _ _ D
    ·rw[Af,Q0 (n:=i+1),C5,e];rfl
   refine⟨_,rfl,_,rfl,_,_,rfl,rfl,_,rfl,Fw (λq=>?_) (λq=>?_)⟩
   ·have p:i+1<=m:=by
     have:=X8 q;lia
    refine⟨_,rfl,.inl ⟨rfl,_,SqL.of d⟩,_,rfl,_,rfl,_,_,rfl,rfl,(by show(0:Int)<(m:Int);lia),_,_,rfl,rfl,S,_,_,rfl,rfl,d,by rw[B5,M6];exact DL A0,C _ ?_⟩;rw[<-g];dsimp only;rw[Z6 A0,Z9 p];show(1+(i:Int))%(m:Int)+1=(((i+1)%m+1:Nat):Int)
    rw[M7,Int.natCast_emod,show((i+1:Nat):Int)=1+(i:Int) by lia];rfl
   ·have p:¬i+1<=m:=λz=>q (Z7 A0);refine⟨_,rfl,.inl ⟨rfl,_,SqL.of d⟩,_,rfl,_,rfl,_,rfl,_,_,rfl,rfl,l,ns,_,rfl,j.seq G,by show 0<=8+(1+(i:Int));lia,_,_,rfl,rfl,_,_,rfl,rfl,(by show(0:Int)<8;decide),S,_,_,rfl,rfl,d,by rw[B5,M6];exact DL A0,C _ ?_⟩;rw[<-g];dsimp only;rw[Z6 A0,Z6 p,show((i+1:Nat):Int)=1+(i:Int) by lia,O8 (O9 _ A3)]
  ·rintro σ c ⟨t,rfl,j,d⟩;refine⟨_,rfl,k S M c j (by rw[<-g];rfl) (λs=>?_) d⟩;rw[<-g];dsimp only;split
   ·decide
   ·split
    ·have:=D9 s (show 0<m by lia);lia
    ·have:=N9 ((s:Int)+atN ns (8+(s:Int))) (by decide:(0:Int)<8);lia
inductive SpCb(K:W.Frag)(vs:List V)(H:Hp)(Q:VK):Prop
 |mk (l:Addr) (ns:List Int) (_:vs=[.ref l]) (_:SqL K H l (ns.map V.int)) (_:∀(L:Addr)(ts:List Addr)(cs:List Cl)(H':Hp),AA H H'->H L=none->H' L=some (.lst (ts.map V.ref))->Paired (Pp H') ts cs->(∀c∈cs,ClOk c/\1<=c.s)->(cs.map λc=>(c.x,c.y)).Nodup->1<=cs.length->cs.length<=2->Q (.ref L) H'):SpCb K vs H Q
def spCb(K:W.Frag):Sp:=λvs H Q _=>SpCb K vs H Q
theorem ok_cb(F:Fun K "_law_cells_by" "_law_cells_by" EW f fd)(T:Top K mg a)(N:Cal P w K mg base CX0 1 "_law_at" Wu (YB K))(cA:Cal P w K mg base CX0 1 "_law_along" Rl YC)(bK:Cal P w K mg base CX0 1 "_law_spot" Jy Yi):AL P w K mg base CX0 2 f fd EY (spCb K):=by
  refine F.ok BG (λ_ _ _ _ h=>by rcases h;subst_vars;rfl) λay A aw s H vs Q E n h=>?_
  obtain⟨l,ns,rfl,O,k⟩:=h;refine⟨_,(Ab (Ao (i:=1) BG.nd rfl (Or.inl rfl) (AE BH (Aw N (rm n) rfl Aq (Aa (pv 0) (AR Ae))) Ac)) (Ab (Ao (i:=2) BG.nd rfl (Or.inl rfl) (AE BH (AE CP (Aw N (rm n) rfl Aq (Aa (pv 0) (AR Ae))) Ac) Ac)) (Ab (Ao (i:=3) BG.nd rfl (Or.inl rfl) (Aw cA (rm n) rfl Aq (Aa (Aw N (rm n) rfl Aq (Aa (pv 0) (AR Ae))) Ae))) (Ab (Ao (i:=4) BG.nd rfl (Or.inl rfl) (Aw bK (rm n) rfl Aq (Aa (pv 1) (Aa (pv 2) (Aa (pv 3) Ae))))) (Ab (Ao (i:=5) BG.nd rfl (Or.inl rfl) (CA (AT (Aa (Aj Ak (pv 4) Ac (λ_ _=>rfl)) (Aa (Aj Ak (pv 4) Ac (λ_ _=>rfl)) (AV Bb Ac (AE BH (Aw N (rm n) rfl Aq (Aa (pv 0) (AR Ae))) Ac) Ae))) Ae))) (Ab (AM (Ay CQ (AE BH (Aw N (rm n) rfl Aq (Aa (pv 0) (AR Ae))) Ac) Ac (AD _)) (Ab (Ao (i:=6) BG.nd rfl (Or.inl rfl) (Aw bK (rm n) rfl Aq (Aa (pv 1) (AV Bb (AE Bb (pv 2) Ac) (AE BH (AE CP (Aw N (rm n) rfl Aq (Aa (pv 0) (AR Ae))) Ac) Ac) (Aa (pv 3) Ae))))) (Ah (BP (DK K0 K1 K2 BS (pv 5) (AT (Aa (Aj Ak (pv 6) Ac (λ_ _=>rfl)) (Aa (Aj Ak (pv 6) Ac (λ_ _=>rfl)) (AV Bb Ac (AE BH (AE CP (Aw N (rm n) rfl Aq (Aa (pv 0) (AR Ae))) Ac) Ac) Ae))) Ae))))) AB) (Ah (As (pv 5))))))))),?_⟩
  try dsimp only[cxK]
  refine AZ ?_;intro r1 s1 k1 ai E1;refine⟨_,rfl,l,ns,2,rfl,O,by decide,_,_,rfl,rfl,(by show(0:Int)<4;decide),?_⟩;refine ai ?_;refine AZ ?_;intro r2 s2 k2 ag E2;refine⟨_,rfl,l,ns,2,rfl,O,by decide,_,_,rfl,rfl,⟨by decide,by decide⟩,_,_,rfl,rfl,(by show(0:Int)<4;decide),?_⟩;refine ag ?_;refine AZ ?_;intro r3 s3 k3 ad E3;refine⟨_,rfl,l,ns,3,rfl,O,by decide,_,rfl,λal H1 an R U=>?_⟩;refine ad ?_;refine AZ ?_;intro r4 s4 k4 ae E4;have f0:=O9 (atN ns 2/4) (show(4:Int)≠0 by decide);have f1:=N9 (atN ns 2/4) (show(0:Int)<4 by decide);generalize eS:atN ns 2%4=sd at *
  generalize eF:atN ns 2/4%4=fr at *
  refine⟨_,rfl,_,rfl,_,rfl,.mk sd fr al (by rw[<-eS,<-eF];rfl) λt H2 aj nt ht=>?_⟩;have ht:H2 t=some (.tup [.int (pX sd fr al),.int (pY sd fr al)]):=ht;have G:=an.trans aj;have ac:=G.seq O;refine ae ?_;refine AZ ?_;intro r5 s5 k5 am E5;obtain⟨g,ar⟩:=L5 (show 0<=1+atN ns 4%7 by lia);refine⟨_,rfl,t,_,0,.int (pX sd fr al),rfl,rfl,SqT.of ht,Ai (j:=0) rfl,_,rfl,t,_,1,.int (pY sd fr al),rfl,rfl,SqT.of ht,Ai (j:=1) rfl,_,rfl,l,ns,4,rfl,ac,by decide,_,_,rfl,rfl,(by show(0:Int)<7;decide),_,_,rfl,rfl,by show 3<=sizeLine;decide,λu nu=>?_⟩;rw[show(λi j:Int=>V.int (i+j)) 1 (atN ns 4%7)=V.int (g:Int)from K5 V.int ar];have I:=Ar (o:=.tup [.int (pX sd fr al),.int (pY sd fr al),.int (g:Int)]) nu;have hu:Pp (upd H2 u (.tup [.int (pX sd fr al),.int (pY sd fr al),.int (g:Int)])) u ⟨pX sd fr al,pY sd fr al,g⟩:=Af;generalize upd H2 u (.tup [.int (pX sd fr al),.int (pY sd fr al),.int (g:Int)])=H3 at I hu⊢;refine⟨by show 1<=sizeLine;decide,λL nL=>?_⟩;have M:=Ar (o:=.lst [.ref u]) nL;have hL:upd H3 L (.lst [.ref u]) L=some (.lst [.ref u]):=Af;generalize upd H3 L (.lst [.ref u])=H4 at M hL⊢;have q:=(G.trans I).trans M;have X:=q.seq O;have Z:Pp H4 u ⟨pX sd fr al,pY sd fr al,g⟩:=M _ _ hu;have ab:H L=none:=AA.noneN (G.trans I) nL;have Y:ClOk ⟨pX sd fr al,pY sd fr al,g⟩/\1<=g:=⟨⟨p_in f0 A0 R U,by show g<8;lia⟩,by lia⟩
  refine am ?_;refine AZ ?_;intro r6 s6 k6 ax E6;apply Qg (T:=k6) (fun σ' v=>∃(ts:List Addr)(cs:List Cl)(u6:Option V),σ'=[some (.ref l),some (.int sd),some (.int fr),some (.int al),some (.ref t),some (.ref L),u6]/\AA H v/\v L=some (.lst (ts.map V.ref))/\Paired (Pp v) ts cs/\(∀c∈cs,ClOk c/\1<=c.s)/\(cs.map λc=>(c.x,c.y)).Nodup/\1<=cs.length/\cs.length<=2)
  ·intro C;refine⟨_,rfl,l,ns,5,rfl,X,by decide,_,_,rfl,rfl,B2,rfl,_,rfl,Fw (λ_=>?_) (λ_=>?_)⟩
   ·have g0:=O9 (atN ns 5/2) (show(3:Int)≠0 by decide);have g1:=N9 (atN ns 5/2) (show(0:Int)<3 by decide);refine AZ ?_;intro r7 s7 k7 av E7;refine⟨_,rfl,_,rfl,_,_,rfl,rfl,_,rfl,l,ns,5,rfl,X,by decide,_,_,rfl,rfl,⟨by decide,by decide⟩,_,_,rfl,rfl,(by show(0:Int)<3;decide),_,_,rfl,rfl,_,rfl,.mk sd (fr+1+atN ns 5/2%3) al (by rw[<-eS,<-eF];rfl) λt2 v B az m=>?_⟩;have m:v t2=some (.tup [.int (pX sd (fr+1+atN ns 5/2%3) al),.int (pY sd (fr+1+atN ns 5/2%3) al)]):=m;generalize eg:fr+1+atN ns 5/2%3=d at m;have as:=(q.trans B).seq O;refine av ?_;obtain⟨D,ao⟩:=L5 (show 0<=1+atN ns 4/7%7 by lia);have p:=B _ _ hL;refine⟨_,rfl,.inl ⟨rfl,_,SqL.of p⟩,_,rfl,t2,_,0,.int (pX sd d al),rfl,rfl,SqT.of m,Ai (j:=0) rfl,_,rfl,t2,_,1,.int (pY sd d al),rfl,rfl,SqT.of m,Ai (j:=1) rfl,_,rfl,l,ns,4,rfl,as,by decide,_,_,rfl,rfl,⟨by decide,by decide⟩,_,_,rfl,rfl,(by show(0:Int)<7;decide),_,_,rfl,rfl,by show 3<=sizeLine;decide,λu2 af=>?_⟩;rw[show(λi j:Int=>V.int (i+j)) 1 (atN ns 4/7%7)=V.int (D:Int)from K5 V.int ao];have r:=Ar (o:=.tup [.int (pX sd d al),.int (pY sd d al),.int (D:Int)]) af;have S:Pp (upd v u2 (.tup [.int (pX sd d al),.int (pY sd d al),.int (D:Int)])) u2 ⟨pX sd d al,pY sd d al,D⟩:=Af;generalize upd v u2 (.tup [.int (pX sd d al),.int (pY sd d al),.int (D:Int)])=H6 at r S⊢;have aa:=r _ _ p;refine⟨L,_,_,rfl,rfl,aa,by show 1<sizeLine;decide,?_⟩;have tp:∀{b:Addr}{ys:List V},H6 b=some (.tup ys)->upd H6 L (.lst ([.ref u]++[.ref u2])) b=some (.tup ys):=λ{b ys} e=>by rw[Ax (AH e aa A4)];exact e
    refine C _ _ ⟨[u,u2],[⟨pX sd fr al,pY sd fr al,g⟩,⟨pX sd d al,pY sd d al,D⟩],some (.ref t2),by rw[<-eS,<-eF];rfl,λb o e=>?_,Af,.cons (tp (r _ _ (B _ _ Z))) (.cons (tp S) .nil),λc hc=>?_,?_,T1 1,C1 2⟩
    ·rw[Ax (Az e ab)];exact r _ _ (B _ _ (q _ _ e))
    ·simp only[B7,C6,K7]at hc;rcases hc with rfl|rfl
     ·exact Y
     ·exact⟨⟨p_in A0 A0 R U,by show D<8;lia⟩,by show 1<=D;lia⟩
    ·have ne:=p_ne (sd:=sd) (al:=al) (show fr≠d by lia);simp only[F7,Z3,N5,D6,C6,A1f,P6,A5g];intro z;injection z with z1 z2
     exact ne ⟨z1,z2⟩
   ·refine C _ _ ⟨[u],[⟨pX sd fr al,pY sd fr al,g⟩],_,by rw[<-eS,<-eF];rfl,q,hL,.cons Z .nil,λc hc=>?_,by simp,C1 1,T1 1⟩;rw[D6.mp hc];exact Y
  ·rintro σ' v ⟨ts,cs,u6,rfl,aq,p,ah,ak,au,l1,l2⟩;refine ax ?_;exact⟨_,rfl,k L ts cs v aq ab p ah ak au l1 l2⟩
end
def Rb(c:Cl)(v k:Nat)(dx dy:Int):Prop:=0<v/\(-(2^40) > (if c.y-k*dy<c.x-k*dx then c.y-k*dy else c.x-k*dx)-1\/(if c.y-k*dy > c.x-k*dx then c.y-k*dy else c.x-k*dx)+1 ≥ 2^40)
section
variable{P:Program}{w:World}{K:W.Frag}{mg:Str->Option Value}{base:Heap}{a:Ad}
inductive SpLvs(vs:List V)(H:Hp)(Q:VK):Prop
 |mk (L R t:Addr) (ts:List Addr) (cs:List Cl) (row:List Nat) (k:Nat) (dx dy:Int) (_:vs=[.ref L,.ref R,.int (k:Int),.ref t]) (_:H L=some (.lst (ts.map V.ref))) (_:Paired (Pp H) ts cs) (_:H R=some (.lst (row.map λv:Nat=>V.int (v:Int)))) (_:row.length=cs.length) (_:cs.length<=2) (_:k<=10) (_:H t=some (.tup [.int dx,.int dy])) (_:(∃(i:Nat)(c:Cl)(v:Nat),cs[i]?=some c/\row[i]?=some v/\Rb c v k dx dy)->Q (.bl true) H) (_:(∀(i:Nat)(c:Cl)(v:Nat),cs[i]?=some c->row[i]?=some v->¬Rb c v k dx dy)->Q (.bl false) H):SpLvs vs H Q
def Yr:Sp:=λvs H Q _=>SpLvs vs H Q
theorem ok_lvs(F:Fun K "_law_leaves" "_law_leaves" GD f fd)(T:Top K mg a):AL P w K mg base CX0 1 f fd GL Yr:=by
  refine F.ok DW (λ_ _ _ _ h=>by rcases h;subst_vars;rfl) λab A G s H vs Q E hr h=>?_
  obtain⟨L,R,t,p,cs,b,k,dx,dy,rfl,M,pr,hR,lr,lc,aa,ht,Z,q0⟩:=h;refine⟨_,(Ab (DA K8 rfl (Ex rfl T.b_range (Aa (AQ Ck rfl T.b_len A0e (Aa (pv 0) Ae)) Ae)) (BQ (i:=4) DW.nd rfl (Or.inl rfl)) (Ab (Ao (i:=5) DW.nd rfl (Or.inl rfl) (AE AS (Aj Ak (Aj Av (pv 0) (pv 4) (λ_ _=>rfl)) Ac (λ_ _=>rfl)) (AE EB (pv 2) (Aj Ak (pv 3) Ac (λ_ _=>rfl))))) (Ab (Ao (i:=6) DW.nd rfl (Or.inl rfl) (AE AS (Aj Ak (Aj Av (pv 0) (pv 4) (λ_ _=>rfl)) Ac (λ_ _=>rfl)) (AE EB (pv 2) (Aj Ak (pv 3) Ac (λ_ _=>rfl))))) (Ah (AM (PW.pt (Js (Ay Nz (Aj Av (pv 1) (pv 4) (λ_ _=>rfl)) Ac (AD _)) (Gk (PW.pt (Mn (Ay Fe (AE AS (AQ (Qw rfl) rfl T.b_min A2f (Aa (pv 5) (Aa (pv 6) Ae))) Ac) (Db Cc (AE LP Ac Ac)) (AD _)) (IE (Ay op_ge (AE Bb (AQ (WM rfl) rfl T.b_max A2g (Aa (pv 5) (Aa (pv 6) Ae))) Ac) (AE LP Ac Ac) (AD _)))))))) (Ah (As Jf)) AB))))) (Ah (As Jf))),?_⟩
  try dsimp only[cxK]
  have lt:=A0a pr;refine⟨_,rfl,L,_,rfl,.inl (SqL.of M),_,rfl,by rw[B5];lia,by rw[B5];lia,?_⟩;rw[show((((p.map V.ref).length:Nat):Int)).toNat=cs.length by rw[L7,B5];exact lt];refine DN (n:=cs.length) (λi σ d=>∃C O N:Option V,σ=[some (.ref L),some (.ref R),some (.int (k:Int)),some (.ref t),C,O,N]/\d=H/\∀(j:Nat)(c:Cl)(v:Nat),j<i->cs[j]?=some c->b[j]?=some v->¬Rb c v k dx dy) ⟨none,none,none,rfl,rfl,λj c v h=>absurd h (F8 _)⟩ ?_ ?_
  ·rintro i σ d hi ⟨C,O,N,rfl,rfl,no⟩;obtain⟨tc,g⟩:∃tc,p[i]?=some tc:=⟨p[i]'A0,B9 _⟩
   obtain⟨c,X,q⟩:=Paired.get pr g;obtain⟨v,m⟩:∃v,b[i]?=some v:=⟨b[i]'A0,B9 _⟩
   have q:d tc=some (.tup [.int c.x,.int c.y,.int c.s]):=q;have ix:atI (p.map V.ref) (0+(i:Int))=some (.ref tc):=by
    rw[V5];exact Ai (by rw[B8,g];rfl)
   have iv:atI (b.map λv:Nat=>V.int (v:Int)) (0+(i:Int))=some (.int (v:Int)):=by
    rw[V5];exact Ai (by rw[B8,m];rfl)
   refine⟨_,rfl,_,rfl,L,_,_,.ref tc,rfl,rfl,SqL.of M,ix,tc,_,0,.int c.x,rfl,rfl,SqT.of q,Ai (j:=0) rfl,_,rfl,_,rfl,t,_,0,.int dx,rfl,rfl,SqT.of ht,Ai (j:=0) rfl,_,_,rfl,rfl,.inl ⟨by lia,by lia⟩,_,_,rfl,rfl,?_⟩;refine⟨_,rfl,_,rfl,L,_,_,.ref tc,rfl,rfl,SqL.of M,ix,tc,_,1,.int c.y,rfl,rfl,SqT.of q,Ai (j:=1) rfl,_,rfl,_,rfl,t,_,1,.int dy,rfl,rfl,SqT.of ht,Ai (j:=1) rfl,_,_,rfl,rfl,.inl ⟨by lia,by lia⟩,_,_,rfl,rfl,?_⟩;have Y:¬Rb c v k dx dy->∃D u S:Option V,[some (V.ref L),some (V.ref R),some (V.int (k:Int)),some (V.ref t),some (V.int (0+(i:Int))),some (V.int (c.x-(k:Int)*dx)),some (V.int (c.y-(k:Int)*dy))]=[some (V.ref L),some (V.ref R),some (V.int (k:Int)),some (V.ref t),D,u,S]/\d=d/\∀(j:Nat)(c:Cl)(v:Nat),j<i+1->cs[j]?=some c->b[j]?=some v->¬Rb c v k dx dy:=λr=>by
    refine⟨_,_,_,rfl,rfl,λj c' v' hj e l=>?_⟩;by_cases z:j=i
    ·subst z;rw[X]at e;rw[m]at l;cases e;cases l;exact r
    ·exact no j c' v' A0 e l
   refine⟨_,rfl,_,rfl,R,_,_,.int (v:Int),rfl,rfl,SqL.of hR,iv,_,_,rfl,rfl,_,rfl,Fw (λB=>?_) (λB=>?_)⟩
   ·have v0:0<v:=by
     have:=X8 B;lia
    refine⟨_,rfl,_,rfl,_,_,rfl,_,_,rfl,rfl,_,_,rfl,rfl,⟨by decide,by decide,by decide⟩,_,rfl,_,_,rfl,rfl,_,rfl,Fw (λU=>?_) (λU=>?_)⟩
    ·exact BL (Z ⟨i,c,v,X,m,v0,.inl (X8 U)⟩)
    ·refine⟨_,rfl,_,rfl,_,_,rfl,_,_,rfl,rfl,_,_,rfl,rfl,⟨by decide,by decide,by decide⟩,_,_,rfl,rfl,_,rfl,Fw (λI=>?_) (λI=>?_)⟩
     ·exact Z ⟨i,c,v,X,m,v0,.inr (X8 I)⟩
     ·exact Y λo=>by
       rcases o.2 with z|z
       ·exact U (Z7 z)
       ·exact I (Z7 z)
   ·exact Ba (Y λo=>B (Z7 (by have:=o.1;show(0:Int)<(v:Int);lia)))
  ·rintro σ d ⟨C,O,N,rfl,rfl,no⟩;exact q0 λi c v e l=>no i c v (B6.mp e).1 e l
end
def rwN(M:Nat->Nat)(cs:List Cl)(n:Nat):List Nat:=cs.map λc=>it M n c.s
def Ja(M:Nat->Nat)(cs:List Cl)(w n:Nat):Prop:=∃(j:Nat)(c:Cl)(v:Nat),cs[j]?=some c/\(rwN M cs n)[j]?=some v/\Rb c v n (ofX w) (ofY w)
def Jg(M:Nat->Nat)(cs:List Cl)(n:Nat):Prop:=∀i j,j<i->i<n->rwN M cs j≠rwN M cs i
abbrev toI(l:List Nat):List Int:=l.map λv:Nat=>(v:Int)
theorem UH{l m:List Nat}(h:toI l=toI m):l=m:=Y7 (λa b e=>X6 e) |>.mp h
theorem LI(M:Nat->Nat)(cs:List Cl)(n:Nat):(rwN M cs n).length=cs.length:=B5 _
theorem rw_succ(M:Nat->Nat)(cs:List Cl)(n:Nat):(rwN M cs n).map M=rwN M cs (n+1):=by
 unfold rwN;rw[O4];rfl
theorem rw_le{M:Nat->Nat}{cs:List Cl}(a:Mp M)(b:∀c∈cs,c.s<=7){n v:Nat}(h:v∈rwN M cs n):v<=7:=by
 obtain⟨c,d,rfl⟩:=C3.mp h;exact a.itl (b c d) n
theorem Ob(l:List Nat):(toI l).map V.int=l.map λv:Nat=>V.int (v:Int):=by
 rw[O4];rfl
section
variable{P:Program}{w:World}{K:W.Frag}{mg:Str->Option Value}{base:Heap}{a:Ad}
inductive SpDue(vs:List V)(H:Hp)(Q:VK):Prop
 |mk (A L:Addr) (M:Nat->Nat) (w m:Nat) (ts:List Addr) (cs:List Cl) (_:vs=[.ref A,.int (w:Int),.ref L,.int (m:Int)]) (_:H A=some (.lst ((List.range 8).map λi=>V.int (M i:Int)))) (_:w<=8) (_:H L=some (.lst (ts.map V.ref))) (_:Paired (Pp H) ts cs) (_:1<=cs.length) (_:cs.length<=2) (_:∀c∈cs,c.s<=7) (_:Mp M) (_:m<=5)
   (_:∀c,c<m->Jg M cs (c+1)->(∀i,i<c->¬Ja M cs w i)->Ja M cs w c->∀(t:Addr)(H':Hp),AA H H'->H' t=some (.tup [.str "far",.non])->Q (.ref t) H')
   (_:∀c d,1<=d->c+d<=m->Jg M cs (c+d)->rwN M cs c=rwN M cs (c+d)->(∀i,i<c+d->¬Ja M cs w i)->∀(t u:Addr)(X Y:Int)(H':Hp),AA H H'->H' t=some (.tup [.str "told",.ref u])->H' u=some (.tup [.int (c:Int),.int (d:Int),.int X,.int Y])->((∀v∈rwN M cs (c+d),v=0)->X=0/\Y=0)->((∃v∈rwN M cs (c+d),v≠0)->X=-(d:Int)*ofX w/\Y=-(d:Int)*ofY w)->Q (.ref t) H')
   (_:Jg M cs (m+1)->(∀i,i<m->¬Ja M cs w i)->∀(t:Addr)(H':Hp),AA H H'->H' t=some (.tup [.str "told",.non])->Q (.ref t) H'):SpDue vs H Q
def Yx:Sp:=λvs H Q _=>SpDue vs H Q
theorem ok_due(F:Fun K "_law_due" "_law_due" FK f fd)(T:Top K mg a)(bQ:Cal P w K mg base CX0 1 "_law_offset" GK Yp)(bR:Cal P w K mg base CX0 1 "_law_leaves" GL Yr):AL P w K mg base CX0 2 f fd LO Yx:=by
  refine F.ok Cs (λ_ _ _ _ h=>by rcases h;subst_vars;rfl) λbb A a9 s H vs Q E hr h=>?_
  obtain⟨A',L,M,w',m,ts,cs,rfl,hA,w8,hL,pr,l1,l2,s7,mp,m5,kf,kt,kn⟩:=h;refine⟨_,(Ab (Ao (i:=4) Cs.nd rfl (Or.inl rfl) (Aw bQ (rm hr) rfl Aq (Aa (pv 1) Ae))) (Ab (Ew (i:=5) rfl Cs.nd rfl rfl (BM.of (So:=Al FK) (No:=LT) (N:=["_law_cell"]) (k:=1) (cs:=[]) rfl rfl A1) (CO (pv 2)) (λ_ _ _=>(Bo (i:=0) A1 rfl rfl)) (λ_ _ _=>BX) (λ_ _ _=>(Aj (IT (K:=K) rfl) (pv 0) Ac (λ_ _=>rfl)))) (Ab (Ao (i:=6) Cs.nd rfl (Or.inl rfl) (CA (Aa (pv 5) Ae))) (Ab (DA K8 rfl (Ex rfl T.b_range (Aa (pv 3) Ae)) (BQ (i:=7) Cs.nd rfl (Or.inl rfl)) (Ab (AM (CM (Aw bR (rm hr) rfl Aq (Aa (pv 2) (Aa (pv 5) (Aa (pv 7) (Aa (pv 4) Ae)))))) (Ah (As (Bk (CN (Aa Bz Ae))))) AB) (Ab (Ew (i:=5) rfl Cs.nd rfl rfl (BM.of (So:=Al FK) (No:=LT) (N:=["_law_state","_law_made"]) (k:=1) (cs:=[0]) rfl rfl A1) (CO (pv 5)) (λ_ _ _=>(Bo (i:=0) A1 rfl rfl)) (λ_ _ _=>BX) (λ_ _ _=>(Aj (SW (K:=K) rfl) (pv 1) (pv 0) (λ_ _=>rfl)))) (Ab (AM (Ay (op_inLL hr.units) (pv 5) (pv 6) rfl) (Ab (Ao (i:=8) Cs.nd rfl (Or.inl rfl) (DK K0 PySem.F.slot_list_index PySem.F.type_list_index (Uc hr.units) (pv 6) (Aa (pv 5) Ae))) (Ab (Ao (i:=9) Cs.nd rfl (Or.inl rfl) (AE AS (AQ Ck rfl T.b_len A0e (Aa (pv 6) Ae)) (pv 8))) (Ab (AM (Ay CQ (AQ (Nl rfl) rfl T.b_max A2g (Aa (pv 5) Ae)) Ac (AD _)) (Ah (As (Bk (CN (AT (Aa (pv 8) (Aa (pv 9) (AR (AR Ae)))) Ae))))) AB) (Ah (As (Bk (CN (AT (Aa (pv 8) (Aa (pv 9) (AV EB (Db Cc (pv 9)) (Aj Ak (pv 4) Ac (λ_ _=>rfl)) (AV EB (Db Cc (pv 9)) (Aj Ak (pv 4) Ac (λ_ _=>rfl)) Ae)))) Ae)))))))) AB) (Ah (BP (DK K0 K1 K2 BS (pv 6) (Aa (pv 5) Ae)))))))) (Ah (As (Bk (CN (Aa Bz Ae))))))))),?_⟩
  try dsimp only[cxK]
  refine AZ ?_;intro r1 s1 k1 ay E1;refine⟨_,rfl,.mk w' rfl w8 λt H1 Y ht=>?_⟩;refine ay ?_;refine AZ ?_;intro r2 s2 k2 ax E2;have lt:=A0a pr;have ah:=Y _ _ hL;refine⟨_,rfl,L,rfl,⟨_,SqL.of ah⟩,?_⟩;refine Dt (xs:=ts.map V.ref) (λj B H4=>H4=H1/\B=(cs.take j).map λc=>V.int (c.s:Int)) ⟨rfl,rfl⟩ (λj B H4 _ z=>SqL.of (z.1▸ah)) ?_ ?_
  ·rintro j x B H4 hx ⟨rfl,rfl⟩;rw[B8]at hx;obtain⟨tc,a5,rfl⟩:=D8.mp hx;obtain⟨c,ec,hc⟩:=Paired.get pr a5;have hc:H4 tc=some (.tup [.int c.x,.int c.y,.int c.s]):=Y _ _ hc;refine⟨⟨[some (.ref tc)],rfl,rfl⟩,?_,Ii ⟨_,rfl,tc,_,2,.int (c.s:Int),rfl,rfl,SqT.of hc,Ai (j:=2) rfl,rfl,?_⟩⟩
   ·rw[B5,L8];exact DL A0
   ·rw[L6,ec,C5];rfl
  ·rintro B H4 ⟨rfl,rfl⟩ R0 al;have e0:((cs.take (ts.map V.ref).length).map λc=>V.int (c.s:Int))=(toI (rwN M cs 0)).map V.int:=by
    rw[B5,lt,M4,Ob];unfold rwN;rw[O4];rfl
   rw[e0];have X:=Ar (o:=.lst ((toI (rwN M cs 0)).map V.int)) al;have ae:upd H4 R0 (.lst ((toI (rwN M cs 0)).map V.int)) R0=some (.lst ((toI (rwN M cs 0)).map V.int)):=Af;generalize upd H4 R0 (.lst ((toI (rwN M cs 0)).map V.int))=H2 at X ae⊢;refine ax ?_;refine AZ ?_;intro r3 s3 k3 ar E3;refine⟨_,rfl,by show 1<=sizeLine;decide,λS nS=>?_⟩;have I:=Ar (o:=.lst [.ref R0]) nS;have ak:upd H2 S (.lst [.ref R0]) S=some (.lst (([(R0,toI (rwN M cs 0))].map (·.1)).map V.ref)):=Af;generalize upd H2 S (.lst [.ref R0])=H3 at I ak⊢;have a3:=I _ _ (X _ _ ht);have av:=I _ _ ae;have a6:=(Y.trans X).trans I;have as:H S=none:=AA.noneN (Y.trans X) nS;clear ae X I al nS ht ah Y e0;refine ar ?_;refine AZ ?_;intro r4 s4 k4 au E4;refine⟨_,rfl,_,rfl,by lia,by lia,?_⟩;rw[L7];refine DN (n:=m) (λi σ H5=>∃(g:List (Addr×List Int))(R:Addr)(u7 u8 u9:Option V),σ=[some (.ref A'),some (.int (w':Int)),some (.ref L),some (.int (m:Int)),some (.ref t),some (.ref R),some (.ref S),u7,u8,u9]/\AA H H5/\H5 t=some (.tup [.int (ofX w'),.int (ofY w')])/\H5 S=some (.lst ((g.map (·.1)).map V.ref))/\g.length=i+1/\(∀j q,g[j]?=some q->q.2=toI (rwN M cs j)/\H5 q.1=some (.lst (q.2.map V.int)))/\g[i]?=some (R,toI (rwN M cs i))/\Jg M cs (i+1)/\∀j,j<i->¬Ja M cs w' j) ⟨[(R0,toI (rwN M cs 0))],R0,none,none,none,rfl,a6,a3,ak,rfl,?_,rfl,(λi j h1 h2=>by lia),λj h=>absurd h (F8 _)⟩ ?_ ?_
   ·intro j q e;cases j with
    |zero=>cases e;exact⟨rfl,av⟩
    |succ j=>simp at e
   ·rintro i σ H5 hi ⟨g,R,u7,u8,u9,rfl,C,ag,am,lr,r,aq,G,ab⟩;have af:=(r i _ aq).2;have an:H5 R=some (.lst ((rwN M cs i).map λv:Nat=>V.int (v:Int))):=by rw[<-Ob];exact af
    refine AZ ?_;intro r5 s5 k5 a1 E5;refine⟨_,rfl,_,rfl,_,rfl,_,rfl,.mk L R t ts cs (rwN M cs i) i (ofX w') (ofY w') (by rw[V5];rfl) (C _ _ hL) (PairedM.imp (λb c z=>C _ _ z) pr) an (LI M cs i) l2 A0 ag (λex=>⟨_,rfl,BL ?_⟩) (λno=>⟨_,rfl,Ba (a1 ?_)⟩)⟩
    ·refine⟨by show 2<=sizeLine;decide,λu nu=>kf i hi G ab ex u _ (C.trans (Ar nu)) Af⟩
    ·have ac:∀j,j<i+1->¬Ja M cs w' j:=λj hj=>by
      by_cases z:j=i
      ·subst z;rintro⟨j',c,v,e1,e2,e3⟩;exact no j' c v e1 e2 e3
      ·exact ab j A0
     refine AZ ?_;intro r6 s6 k6 ba E6;refine⟨_,rfl,R,rfl,⟨_,SqL.of af⟩,?_⟩;refine Dt (xs:=(toI (rwN M cs i)).map V.int) (λj B H6=>H6=H5/\B=((rwN M cs (i+1)).take j).map λv:Nat=>V.int (v:Int)) ⟨rfl,rfl⟩ (λj B H6 _ z=>SqL.of (z.1▸af)) ?_ ?_
     ·rintro j x B H6 hx ⟨rfl,rfl⟩;rw[Ob,B8]at hx;obtain⟨v,ev,rfl⟩:=D8.mp hx;have v7:=rw_le mp s7 (D7 ev);refine⟨⟨[some (.int (v:Int))],rfl,rfl⟩,?_,Ii ⟨_,rfl,_,rfl,A',_,(v:Int),.int (M v:Int),rfl,rfl,SqL.of (C _ _ hA),Ai (j:=v) ?_,rfl,?_⟩⟩
      ·rw[B5,L8];exact DL (by rw[LI];lia)
      ·rw[B8,O7 A0];rfl
      ·rw[L6,<-rw_succ,B8,ev,C5];rfl
     ·rintro B H6 ⟨rfl,rfl⟩ Z a4;have e1:(((rwN M cs (i+1)).take ((toI (rwN M cs i)).map V.int).length).map λv:Nat=>V.int (v:Int))=(toI (rwN M cs (i+1))).map V.int:=by
       rw[B5,B5,LI,<-LI M cs (i+1),M4,Ob]
      rw[e1];have U:=Ar (o:=.lst ((toI (rwN M cs (i+1))).map V.int)) a4;have aa:upd H6 Z (.lst ((toI (rwN M cs (i+1))).map V.int)) Z=some (.lst ((toI (rwN M cs (i+1))).map V.int)):=Af;generalize upd H6 Z (.lst ((toI (rwN M cs (i+1))).map V.int))=H7 at U aa⊢;have ad:=C.trans U;have O:=U _ _ ag;have D:=U _ _ am;have l:∀j q,g[j]?=some q->q.2=toI (rwN M cs j)/\H7 q.1=some (.lst (q.2.map V.int)):=λj q e=>⟨(r j q e).1,U _ _ (r j q e).2⟩
      have p:InLL H7 Z S (toI (rwN M cs (i+1))) g:=⟨aa,D,λq hq=>by
       obtain⟨j,hj,rfl⟩:=W9 hq;have z:=l j _ (B9 hj);refine⟨z.2,?_⟩;rw[z.1,B5,B5,LI,LI]⟩
      refine ba ?_;refine AZ ?_;intro r7 bd k7 a8 E7;refine⟨_,rfl,_,rfl,Z,S,_,g,rfl,rfl,p,?_⟩;by_cases z:∃c,c<i+1/\rwN M cs c=rwN M cs (i+1)
      ·obtain⟨c,hc,ec⟩:=z;obtain⟨q,eq⟩:∃q,g[c]?=some q:=⟨_,B9 A0⟩
       have q2:q.2=toI (rwN M cs (i+1)):=by rw[(l c q eq).1,ec]
       refine⟨true,K5 V.bl (Q9.mpr ⟨q,D7 eq,Z7 q2⟩),BL ?_⟩;have az:∀(m:Nat)(q:Addr×List Int),m<c->g[m]?=some q->q.2≠toI (rwN M cs (i+1)):=λm q hm e1 e2=>by
        rw[(l m q e1).1]at e2;exact G c m hm hc ((UH e2).trans ec.symm)
       obtain⟨d,hd⟩:∃d,i+1=c+d:=⟨i+1-c,by lia⟩
       refine AZ ?_;intro r8 s8 k8 a2 E8;refine⟨_,rfl,.inl ⟨rfl,_,SqL.of D⟩,_,rfl,Z,S,_,g,c,q,rfl,rfl,p,by lia,eq,q2,az,?_⟩;refine a2 ?_;refine AZ ?_;intro r9 s9 k9 a7 E9;refine⟨_,rfl,S,_,rfl,.inl (SqL.of D),_,rfl,_,_,rfl,rfl,?_⟩;rw[B5,B5,lr];show ND 9 (V.int (((i+1:Nat):Int)-(c:Int))) s9 H7 E9.nx;rw[show(((i+1:Nat):Int)-(c:Int))=(d:Int) by lia];refine a7 ?_;refine AZ ?_;intro bh bc bg ao bf;have ne:toI (rwN M cs (i+1))≠[]:=λe=>by
        have:=K5 List.length e;rw[B5,LI,V8]at this;omega
       have aj:=kt c d A0 A0 (hd▸G) (hd▸ec) (hd▸ac);rw[<-hd]at aj;refine⟨_,rfl,Z,_,rfl,SqL.of aa,ne,λmx hm a0=>?_⟩;refine⟨rfl,_,rfl,Fw (λhc=>?_) (λhc=>?_)⟩
       ·have aw:mx=0:=V.int.inj (X8 hc);refine⟨_,rfl,_,rfl,by show 4<=sizeLine;decide,λu nu=>⟨by show 2<=sizeLine;decide,λt' nt=>?_⟩⟩;refine aj t' u 0 0 _ ((ad.trans (Ar nu)).trans (Ar nt)) Af (Ar nt _ _ Af) (λ_=>⟨rfl,rfl⟩) ?_;rintro⟨v,hv,v0⟩;have:=a0 (v:Int) (C3.mpr ⟨v,hv,rfl⟩);omega
       ·have aw:mx≠0:=λe=>hc (Z7 (K5 V.int e));refine ao ?_;have cm:∀z:Int,CMul (-(d:Int)) z:=λz=>.inl ⟨by omega,by omega⟩;refine⟨_,rfl,_,rfl,_,rfl,_,rfl,_,rfl,t,_,0,.int (ofX w'),rfl,rfl,SqT.of O,Ai (j:=0) rfl,_,_,rfl,rfl,cm _,?_⟩;refine⟨_,rfl,_,rfl,_,rfl,t,_,1,.int (ofY w'),rfl,rfl,SqT.of O,Ai (j:=1) rfl,_,_,rfl,rfl,cm _,?_⟩;refine⟨by show 4<=sizeLine;decide,λu nu=>⟨by show 2<=sizeLine;decide,λt' nt=>?_⟩⟩;refine aj t' u _ _ _ ((ad.trans (Ar nu)).trans (Ar nt)) Af (Ar nt _ _ Af) ?_ (λ_=>⟨rfl,rfl⟩);intro all;obtain⟨v,hv,rfl⟩:=C3.mp hm;have:=all v hv;omega
      ·refine⟨false,K5 V.bl (List.any_eq_false.mpr λq hq e=>?_),Ba (a8 ?_)⟩
       ·obtain⟨j,hj,rfl⟩:=W9 hq;have z2:=(l j _ (B9 hj)).1;exact z ⟨j,by lia,UH (z2.symm.trans (X8 e))⟩
       ·refine⟨_,rfl,.inl ⟨rfl,_,SqL.of D⟩,_,rfl,S,_,_,rfl,rfl,D,by rw[B5,B5,lr];exact DL A0,?_⟩;have ai:∀b o,b≠S->H7 b=some o->upd H7 S (.lst (((g.map (·.1)).map V.ref)++[.ref Z])) b=some o:=λb o hb e=>by rw[Ax hb];exact e
        refine⟨g++[(Z,toI (rwN M cs (i+1)))],Z,_,_,_,rfl,λb o e=>ai b o (Az e as) (ad b o e),ai _ _ ?_ O,?_,?_,?_,?_,?_,ac⟩
        ·rintro rfl;rw[D]at O;cases O
        ·rw[Af,C5,C5];rfl
        ·rw[C4,lr];rfl
        ·intro j q e;have z3:q.2=toI (rwN M cs j)/\H7 q.1=some (.lst (q.2.map V.int)):=by
          by_cases hj:j<g.length
          ·rw[M9 hj]at e;exact l j q e
          ·rw[F3 A0]at e;obtain⟨e1,e2⟩:=B6.mp e;have e3:j=i+1:=by rw[P8]at e1;lia
           subst e3;rw[lr,T6]at e;cases e;exact⟨rfl,aa⟩
         refine⟨z3.1,ai _ _ ?_ z3.2⟩;intro e4;have e6:=z3.2;rw[e4,D,z3.1]at e6;have e7:((g.map (·.1)).map V.ref)[0]?=((toI (rwN M cs j)).map V.int)[0]?:=K5 (·[0]?) (HO.lst.inj (X5 e6));rw[B8,B8,B8,B9 A0]at e7;obtain⟨v,_,ev⟩:=D8.mp e7.symm;cases ev
        ·rw[F3 A0,lr,T6];rfl
        ·intro a' b' h1 h2 e5;by_cases ha:a'<i+1
         ·exact G a' b' h1 ha e5
         ·have:a'=i+1:=by lia
          subst this;exact z ⟨b',h1,e5⟩
   ·rintro σ H5 ⟨g,R,u7,u8,u9,rfl,C,ag,am,lr,r,aq,G,ab⟩;refine au ?_;exact⟨by show 2<=sizeLine;decide,λu nu=>kn G ab u _ (C.trans (Ar nu)) Af⟩
end
theorem len3{vs:List V}(h:vs.length=3):∃a b c,vs=[a,b,c]:=by
 match vs,h with
 |[a,b,c],_=>exact⟨a,b,c,rfl⟩
def S5(σ:St):Prop:=∃x1 x2 x3 x4 x5,σ=[x1,x2,x3,x4,x5]
section
variable{P:Program}{w:World}{K:W.Frag}{mg:Str->Option Value}{base:Heap}{a:Ad}
theorem kit_tt(K:W.Frag):kitOne K (.type "tuple") (.type "tuple")=some true:=by kernel_rfl
inductive SpSd(a:Ad)(sp:Sp)(vs:List V)(H:Hp)(Q:VK):Prop
 |mk (OK:V->Hp->Prop) (ER:Bool->Hp->Prop) (_:vs.length=3) (_:∀(Q':VK)(E':XK),(∀v H',OK v H'->Q' v H')->(∀H',ER true H'->E' (.ref a.x_TooFar) none H')->(∀H',ER false H'->E' (.ref a.x_NoSteps) none H')->sp vs H Q' E') (_:∀v H',OK v H'->v=.non\/∃u xs,v=.ref u/\H' u=some (.tup xs)) (_:∀v H' t H'',OK v H'->AA H' H''->H'' t=some (.tup [.str "told",v,.bl true])->Q (.ref t) H'') (_:∀H' t H'',ER true H'->AA H' H''->H'' t=some (.tup [.str "far",.non,.bl true])->Q (.ref t) H'') (_:∀H' t H'',ER false H'->AA H' H''->H'' t=some (.tup [.str "no steps",.non,.bl true])->Q (.ref t) H''):SpSd a sp vs H Q
def spSd(a:Ad)(sp:Sp):Sp:=λvs H Q _=>SpSd a sp vs H Q
theorem ok_sd{sp:Sp}{d:Nat}(F:Fun K "_law_said" "_law_said" Jq f fd)(T:Top K mg a)(hd:1<=d)(r:Cal P w K mg base (CXE P w) d "comes_again" GJ sp):AL P w K mg base CX0 (d+1) f fd Jz (spSd a sp):=by
 refine F.ok Fl (λvs H Q E h=>?_) (λN A m s H vs Q E M h=>?_)
 ·obtain⟨_,_,h,_⟩:=h;exact h
 ·obtain⟨Z,X,D,h,x,k1,k2,k3⟩:=h;obtain⟨O,x2,x3,rfl⟩:=len3 D;refine⟨_,(Ab (Ao (i:=3) Fl.nd rfl (Or.inl rfl) Bz) (Ab (Wc (i:=4) (S:=S5) rfl rfl rfl rfl rfl T.mx_TooFar T.ec_TooFar rfl T.mx_NoSteps T.ec_NoSteps Fl.nd rfl rfl (λxe R G g=>(Ah (Ao (i:=3) Fl.nd rfl (Or.inl rfl) (pe_calS r (rm M) rfl g (Aa (pv 0) (Aa (pv 1) (Aa (pv 2) Ae))))))) (λz=>(Ah (As (Bk (CN (Aa Bz (Aa (IH (AQ (Qx K rfl) rfl T.b_isinstance K6 (Aa (pv 4) (Aa (Ve rfl T.mx_FieldError) Ae))) (IG (QY (AQ (Qx K rfl) rfl T.b_isinstance K6 (Aa (pv 4) (Aa (Ve rfl T.mx_NoSteps) Ae)))))) Ae))))))) (λz=>(Ah (As (Bk (CN (Aa Bz (Aa Jf Ae)))))))) (Ah (As (Bk (CN (Aa (pv 3) (Aa (pe_or (Fo FZ (pv 3) Bz (AD _)) (IG (AQ Ds rfl T.b_isinstance K6 (Aa (pv 3) (Aa (Fp (v:=.ty "tuple") rfl T.b_tuple K9 rfl) Ae))))) Ae)))))))),?_⟩
  try dsimp only[cxK]
  refine AZ ?_;intro U p y l G;refine l ?_;refine AZ ?_;intro r2 Y B j E2;refine⟨⟨_,_,_,_,_,rfl⟩,(xw3 rfl rfl rfl (h _ _ (λv b q=>?_) (λb q=>?_) (λb q=>?_)))⟩
  ·refine j ?_;rcases x v b q with rfl|⟨u,xs,rfl,C⟩
   ·exact⟨_,rfl,_,rfl,rfl,true,rfl,BL ⟨(by show 3<=sizeLine;decide),λt c=>k1 .non b t _ q (Ar c) Af⟩⟩
   ·refine⟨_,rfl,_,rfl,rfl,false,rfl,Ba ?_⟩;exact⟨_,rfl,_,_,_,.type "tuple",true,rfl,rfl,.of (.tup C),kit_tt K,(by show 3<=sizeLine;decide),λt c=>k1 (.ref u) b t _ q (Ar c) Af⟩
  ·refine⟨_,rfl,T.ec_TooFar,.inl ⟨T.mm_TooFar_TooFar,fun σ' e n I=>?_⟩⟩;obtain⟨V,y2,y3,y4,y5,rfl⟩:=n;have p:=Ar (o:=NC e a.x_TooFar) I;have k:TyX K (upd b e (NC e a.x_TooFar)) (.ref e) (.ref a.x_TooFar):=.exc Af T.ef_TooFar;refine⟨_,rfl,_,_,_,_,_,rfl,rfl,k,T.kf_TooFar,true,rfl,BL ?_⟩;refine⟨_,rfl,_,_,_,_,_,rfl,rfl,k,T.ki_TooFar_NoSteps,_,rfl,?_⟩;refine⟨(by show 3<=sizeLine;decide),λt c=>?_⟩;exact k2 b t _ q (p.trans (Ar c)) Af
  ·exact⟨_,rfl,T.ec_NoSteps,.inr ⟨⟨T.mm_NoSteps_TooFar,T.mm_NoSteps_NoSteps⟩,fun σ' n=>⟨(by show 3<=sizeLine;decide),λt c=>k3 b t _ q (Ar c) Af⟩⟩⟩
end
end J
namespace J
open PySem L2
theorem LY{ψ:Int->Int->Nat}{d:List (Int×Int)}(hp:∀u v,ψ u v≠0->(u,v)∈d){u0 v0:Int}(g:ψ u0 v0≠0):∃B,CF (λu v=>ψ u v≠0) B:=by
 let c:=d.filter λp=>decide (ψ p.1 p.2≠0);have mem:∀u v,ψ u v≠0->(u,v)∈c:=λu v h=>T3.mpr ⟨hp u v h,Z7 h⟩;refine⟨_,PY (bs:=c.map λp=>⟨p.1,p.2,1,1⟩) ?_ ?_ ?_⟩
 ·intro e;have:=mem u0 v0 g;rw[Q8.mp e]at this;cases this
 ·intro b f;obtain⟨p,a,rfl⟩:=C3.mp f;have i:=X8 (T3.mp a).2;refine⟨λu v=>u=p.1/\v=p.2,⟨?_,⟨p.2,rfl,rfl⟩,⟨p.1,rfl,rfl⟩,⟨p.2,by dsimp only;lia,rfl⟩,⟨p.1,rfl,by dsimp only;lia⟩⟩,?_⟩
  ·rintro u v ⟨rfl,rfl⟩;dsimp only;lia
  ·rintro u v ⟨rfl,rfl⟩;exact i
 ·intro u v h;refine⟨_,C3.mpr ⟨_,mem u v h,rfl⟩,?_⟩;dsimp only;lia
theorem same_in{φ ψ:Int->Int->Nat}{N:List (Int×Int)}(hp:∀u v,φ u v≠0->(u,v)∈N)(sub:∀u v,ψ u v≠0->φ u v≠0)(a b c d:Int)(h:Po (mvF a b φ) (mvF c d ψ))(u v:Int):φ u v=ψ u v:=by
 by_cases z:∃u v,φ u v≠0
 ·obtain⟨u0,v0,K⟩:=z;obtain⟨B,tB⟩:=LY hp K;have m:=Ei (tB.mv a b);by_cases o:∃u v,ψ u v≠0
  ·obtain⟨T,P,D⟩:=o;obtain⟨C,tC⟩:=LY (λu v q=>hp u v (sub u v q)) D;have f:=Ei (tC.mv c d);unfold Po at h;rw[m.1,f.1]at h;have y:=(tB.mv a b).mv (shX (mvX a b B)) (shY (mvX a b B));have G:=(tC.mv c d).mv (shX (mvX c d C)) (shY (mvX c d C));have e:=y.one (G.congr λu v=>by rw[h]);have x:B.w=C.w:=by
    have:=K5 Bx.w e;exact this
   have M:B.h=C.h:=by
    have:=K5 Bx.h e;exact this
   obtain⟨n,g⟩:=tC.le;obtain⟨X,E⟩:=tC.to;obtain⟨O,H⟩:=tC.ri;obtain⟨S,A⟩:=tC.bo;have R:=tB.inn _ _ (sub _ _ g);have U:=tB.inn _ _ (sub _ _ E);have V:=tB.inn _ _ (sub _ _ H);have Q:=tB.inn _ _ (sub _ _ A);have s:B.l=C.l:=by lia
   have I:B.t=C.t:=by lia
   have q:=h (u+a+shX (mvX a b B)) (v+b+shY (mvX a b B));unfold mvF mvX shX shY at q;dsimp only at q;rw[<-x,<-M,<-s,<-I]at q;have k:∀p q r:Int,p+q+r-r-q=p:=λp q r=>by lia
   rw[k,k]at q;rw[q];congr 1<;>lia
  ·have j:∀u v,mvF c d ψ u v=0:=λu v=>X4 λq=>o ⟨_,_,q⟩;have f:=JB j;obtain⟨n,g⟩:=((tB.mv a b).mv (shX (mvX a b B)) (shY (mvX a b B))).le;have:=h (mvX (shX (mvX a b B)) (shY (mvX a b B)) (mvX a b B)).l n;rw[m.1,f.1,j]at this;exact absurd this g
 ·have i:φ u v=0:=X4 λq=>z ⟨u,v,q⟩;rw[i];exact(X4 λq=>sub u v (λe=>q e.symm) i)
theorem same_mv{φ:Int->Int->Nat}{g:List (Int×Int)}(hp:∀u v,φ u v≠0->(u,v)∈g)(a b c d:Int):Po (mvF a b φ) (mvF c d φ):=by
 intro u v;by_cases z:∃u v,φ u v≠0
 ·obtain⟨u0,v0,f⟩:=z;obtain⟨B,tB⟩:=LY hp f;rw[(Ei (tB.mv a b)).1,(Ei (tB.mv c d)).1];unfold mvF mvX shX shY;dsimp only;congr 1<;>lia
 ·have e:∀a b u v,mvF a b φ u v=0:=λa b u v=>X4 λq=>z ⟨_,_,q⟩;rw[(JB (e a b)).1,(JB (e c d)).1,e,e]
structure OfC(φ:Int->Int->Nat)(cs:List Cl):Prop where
 at_:∀c∈cs,φ c.x c.y=c.s
 ex:∀u v,φ u v≠0->∃c∈cs,c.x=u/\c.y=v
 le:∀c∈cs,c.s<=7
theorem OfC.le7{φ:Int->Int->Nat}{cs:List Cl}(h:OfC φ cs)(u v:Int):φ u v<=7:=by
 by_cases z:φ u v=0
 ·lia
 ·obtain⟨c,a,rfl,rfl⟩:=h.ex u v z;rw[h.at_ c a];exact h.le c a
theorem OfC.hp{φ:Int->Int->Nat}{cs:List Cl}(h:OfC φ cs)(u v:Int)(z:φ u v≠0):(u,v)∈cs.map λc=>(c.x,c.y):=by
 obtain⟨c,a,rfl,rfl⟩:=h.ex u v z;exact C3.mpr ⟨c,a,rfl⟩
def gN(M:Nat->Nat)(n:Nat)(φ:Int->Int->Nat):Int->Int->Nat:=λu v=>it M n (φ u v)
section
variable{M:Nat->Nat}{cs:List Cl}{φ:Int->Int->Nat}{r:AF}{dx dy:Int}(mp:Mp M)(gl:Gl r M dx dy)(of:OfC φ cs)
include mp gl of in
theorem QU(n:Nat):sFN r n φ=mvF (-((n:Int)*dx)) (-((n:Int)*dy)) (gN M n φ):=by
 funext u v
 rw[Vx mp gl of.le7];unfold mvF gN;congr 2<;>lia
include mp in
theorem ZL(of:OfC φ cs)(n:Nat)(u v:Int)(z:gN M n φ u v≠0):(u,v)∈cs.map λc=>(c.x,c.y):=of.hp u v λe=>z (by unfold gN;rw[e,mp.it0])
theorem rw_iff(i j:Nat):rwN M cs i=rwN M cs j ↔ ∀c∈cs,it M i c.s=it M j c.s:=List.map_inj_left
include mp of in
theorem ZK(i j:Nat):(∀u v,gN M i φ u v=gN M j φ u v)↔rwN M cs i=rwN M cs j:=by
 rw[rw_iff];constructor
 ·intro h c a;have:=h c.x c.y;unfold gN at this;rw[of.at_ c a]at this;exact this
 ·intro h u v;unfold gN;by_cases z:φ u v=0
  ·rw[z,mp.it0,mp.it0]
  ·obtain⟨c,a,rfl,rfl⟩:=of.ex u v z;rw[of.at_ c a];exact h c a
include mp gl of in
theorem Va{i j:Nat}(h:j<=i):Po (sFN r j φ) (sFN r i φ)↔rwN M cs j=rwN M cs i:=by
 rw[QU mp gl of,QU mp gl of,<-ZK mp of];constructor
 ·intro q u v;refine same_in (ZL mp of j) (λu v z e=>z ?_) _ _ _ _ q u v;obtain⟨d,rfl⟩:=Nat.le.dest h;unfold gN at e⊢;rw[S6,ZH,e,mp.it0]
 ·intro q;rw[show gN M j φ=gN M i φ from funext λu=>funext λv=>q u v];exact same_mv (ZL mp of i) _ _ _ _
include mp gl of in
theorem Ou(n:Nat)(x y:Int)(h:sFN r n φ x y≠0):∃c∈cs,c.x-n*dx=x/\c.y-n*dy=y/\0<it M n c.s:=by
 rw[Vx mp gl of.le7]at h;have z:φ (x+n*dx) (y+n*dy)≠0:=λe=>h (by rw[e,mp.it0]);obtain⟨c,a,b,d⟩:=of.ex _ _ z;refine⟨c,a,by lia,by lia,?_⟩;rw[<-b,<-d,of.at_ c a]at h;lia
include mp gl of in
theorem sfn_at(n:Nat){c:Cl}(a:c∈cs):sFN r n φ (c.x-n*dx) (c.y-n*dy)=it M n c.s:=by
 rw[Vx mp gl of.le7,show c.x-n*dx+n*dx=c.x by lia,show c.y-n*dy+n*dy=c.y by lia,of.at_ c a]
end
theorem YS{M:Nat->Nat}{cs:List Cl}{w n:Nat}:Ja M cs w n ↔ ∃c∈cs,Rb c (it M n c.s) n (ofX w) (ofY w):=by
 unfold Ja rwN;constructor
 ·rintro⟨j,c,v,a,d,o⟩;rw[B8,a]at d;cases d;exact⟨c,D7 a,o⟩
 ·rintro⟨c,e,o⟩;obtain⟨j,b,rfl⟩:=W9 e;refine⟨j,_,_,B9 b,?_,o⟩;rw[B8,B9 b];rfl
theorem Zl{M:Nat->Nat}{cs:List Cl}{φ:Int->Int->Nat}{r:AF}{w n:Nat}(d:Mp M)(b:Gl r M (ofX w) (ofY w))(of:OfC φ cs):EE (sFN r n φ) 1 ↔ ¬Ja M cs w n:=by
 rw[YS];constructor
 ·rintro g ⟨c,a,i,o⟩;have:=g (c.x-n*ofX w) (c.y-n*ofY w) (by rw[sfn_at d b of n a];lia);revert o;split<;>split<;>intro o<;>lia
 ·intro no x y h;obtain⟨c,a,f,e,p⟩:=Ou d b of n x y h;have:¬Rb c (it M n c.s) n (ofX w) (ofY w):=λo=>no ⟨c,a,o⟩;unfold Rb at this;rw[f,e]at this;revert this;split<;>split<;>intro this<;>lia
theorem VH{M:Nat->Nat}{cs:List Cl}{φ:Int->Int->Nat}{r:AF}{dx dy:Int}{n:Nat}(d:Mp M)(a:Gl r M dx dy)(of:OfC φ cs)(z:∀v∈rwN M cs n,v=0):bxL (sFN r n φ)=0/\bxT (sFN r n φ)=0 :=
 (JB λu v=>X4 λq=>by
  obtain⟨c,b,_,_,p⟩:=Ou d a of n u v q;have:=z _ (C3.mpr ⟨c,b,rfl⟩);lia).2
theorem bx_some{M:Nat->Nat}{cs:List Cl}{φ:Int->Int->Nat}{r:AF}{dx dy:Int}{c d:Nat}(a:Mp M)(b:Gl r M dx dy)(of:OfC φ cs)(e:rwN M cs c=rwN M cs (c+d))(z:∃v∈rwN M cs (c+d),v≠0):bxL (sFN r (c+d) φ)-bxL (sFN r c φ)=-(d:Int)*dx/\bxT (sFN r (c+d) φ)-bxT (sFN r c φ)=-(d:Int)*dy:=by
 have f:gN M c φ=gN M (c+d) φ:=funext λu=>funext λv=>(ZK a of c (c+d)).mpr e u v;obtain⟨v,g,v0⟩:=z;obtain⟨k,h,rfl⟩:=C3.mp g;obtain⟨B,tB⟩:=LY (ZL a of (c+d)) (u0:=k.x) (v0:=k.y) (by unfold gN;rw[of.at_ k h];exact v0);rw[QU a b of,QU a b of,f,(Ei (tB.mv _ _)).2.1,(Ei (tB.mv _ _)).2.1,(Ei (tB.mv _ _)).2.2,(Ei (tB.mv _ _)).2.2];unfold mvX;dsimp only;rw[M7,Int.add_mul,Int.add_mul,Int.neg_mul,Int.neg_mul];constructor<;>lia
def stC:List Cl->Int->Int->Nat
 |[],_,_=>0
 |c::cs,x,y=>if x=c.x/\y=c.y then c.s else stC cs x y
theorem WF{G u:Gv}(b:G=G0++u)(ok:GOk G){cs:List Cl}{n f:Nat}(h:RP G cs n f):(∀c∈cs,c.s<8)->Ji G n f/\∀x y,fieldF G n f x y=stC cs x y:=by
 induction h with
 |nil =>
  intro _;refine⟨.inl rfl,λx y=>?_⟩;unfold fieldF;split
  ·rename_i z;exact Dm b ok A3 (Fb z.1 z.2.1) (Fb z.2.2.1 z.2.2.2)
  ·rfl
 |@cons cs c n f r k w i m h l p j d =>
  intro a;obtain⟨t,e⟩:=d λc g=>a c (C8 _ g);obtain⟨A,_,o,v,q⟩:=Sy b ok (a c (C7 ..)) p;have:A=m:=by
   have:=X6 (o.uniq j);lia
  subst this;refine⟨v,λx y=>?_⟩;rw[q x y,e x y];rfl
theorem QJ:∀(cs:List Cl)(x y:Int),(∃c∈cs,c.x=x/\c.y=y/\stC cs x y=c.s)\/((∀c∈cs,¬(c.x=x/\c.y=y))/\stC cs x y=0)
 |[],_,_=>.inr ⟨(λc f=>nomatch f),rfl⟩
 |c::cs,x,y=>by
  by_cases z:x=c.x/\y=c.y
  ·exact .inl ⟨c,C7,z.1.symm,z.2.symm,Z9 z⟩
  ·have e:stC (c::cs) x y=stC cs x y:=Z6 z;rw[e];rcases QJ cs x y with ⟨d,a,h⟩|⟨g,b⟩
   ·exact .inl ⟨d,C8 _ a,h⟩
   ·refine .inr ⟨λd a=>?_,b⟩;rcases B7.mp a with rfl|a
    ·exact λq=>z ⟨q.1.symm,q.2.symm⟩
    ·exact g d a
theorem Zn:∀{cs:List Cl},(cs.map λc=>(c.x,c.y)).Nodup->∀c∈cs,∀d∈cs,c.x=d.x->c.y=d.y->c=d
 |[],_,_,h,_,_,_,_=>nomatch h
 |e::cs,nd,c,hc,d,hd,e1,e2=>by
  rw[F7,N5]at nd;rcases B7.mp hc with z|b
  ·rcases B7.mp hd with f|a
   ·rw[z,f]
   ·exact absurd (C3.mpr ⟨d,a,by rw[<-z,e1,e2]⟩) nd.1
  ·rcases B7.mp hd with f|a
   ·exact absurd (show(e.x,e.y)∈cs.map λc=>(c.x,c.y)from C3.mpr ⟨c,b,by rw[<-f,e1,e2]⟩) nd.1
   ·exact Zn nd.2 c b d a e1 e2
theorem ofc_st {cs:List Cl} (i:(cs.map λc=>(c.x,c.y)).Nodup) (j:∀c∈cs,c.s<=7):OfC (stC cs.reverse) cs:=by
 refine⟨λc g=>?_,λu v z=>?_,j⟩
 ·rcases QJ cs.reverse c.x c.y with ⟨d,f,b,a,e⟩|⟨h,_⟩
  ·rw[e,Zn i d (U9.mp f) c g b a]
  ·exact absurd ⟨rfl,rfl⟩ (h c (U9.mpr g))
 ·rcases QJ cs.reverse u v with ⟨d,f,b,a,e⟩|⟨_,h⟩
  ·exact⟨d,U9.mp f,b,a⟩
  ·exact absurd h z
section
variable{P:Program}{w:World}{K:W.Frag}{mg:Str->Option Value}{base:Heap}{a:Ad}{Hd H H':Hp}{g:GA}{G G':Gv}{Κ:KTy}{N b i:Nat}{p dx mem pr:Addr}{r:AF}{m:MA}{Q:VK}
theorem fld_st{L:Addr}{x:List Addr}{cs:List Cl}(B:AX a H g G)(C:H L=some (.lst (x.map V.ref)))(ap:Ap g L)(pr:Paired (Pp H) x cs)(ok:∀c∈cs,ClOk c)(l:cs.length<=2)(few:G.length<6000000)(k:∀(r:Nat)(G':Gv)(H':Hp),Fr g H H'->AX a H' g G'->AG G G' 1000->Fv G' r (stC cs.reverse)->Q (.int r) H'):SpFld a [.ref g.p,.ref L] H Q:=by
 refine⟨g,G,L,x,cs,rfl,B,C,ap.1,ap.2.1,pr,ok,by lia,λA D t v h d o j f n=>?_⟩;obtain⟨z,u⟩:=d.g0;obtain⟨q,e⟩:=WF u d.ok n (λc y=>(ok c (U9.mp y)).s);exact k A t v h d (o.mono A0) ⟨D,j,f,q,e⟩
structure Y5(a:Ad)(Hd H:Hp)(g:GA)(G:Gv)(Κ:KTy)(N b:Nat)(p dx mem pr:Addr)(r:AF)(m:MA):Prop where
 zs:ZS a H g G Κ N b p dx mem pr r m
 sm:AA Hd H
 nn:∀y∈zL g m,Hd y=none
theorem Y5.frz(h:Y5 a Hd H g G Κ N b p dx mem pr r m)(f:FrZ g m H H'):AA Hd H':=AA.fxn h.sm (f.fx h.zs) h.nn
theorem Y5.fr(h:Y5 a Hd H g G Κ N b p dx mem pr r m)(f:Fr g H H')(c:AX a H' g G')(go:AG G G' i):Y5 a Hd H' g G' Κ N (b+i) p dx mem pr r m:=⟨h.zs.fr f c go,h.frz (Fr.z f),h.nn⟩
theorem Y5.same(h:Y5 a Hd H g G Κ N b p dx mem pr r m)(s:AA H H'):Y5 a Hd H' g G Κ N b p dx mem pr r m:=⟨h.zs.same s,h.sm.trans s,h.nn⟩
inductive Due(M:Nat->Nat)(cs:List Cl)(w k:Nat)(v:V)(H:Hp):Prop
 |at_ (c d:Nat) (t:Addr) (X Y:Int) (_:1<=d) (_:c+d<=k) (_:Jg M cs (c+d)) (_:rwN M cs c=rwN M cs (c+d)) (_:∀i,i<c+d->¬Ja M cs w i) (_:v=.ref t) (_:H t=some (.tup [.int (c:Int),.int (d:Int),.int X,.int Y])) (_:(∀v∈rwN M cs (c+d),v=0)->X=0/\Y=0) (_:(∃v∈rwN M cs (c+d),v≠0)->X=-(d:Int)*ofX w/\Y=-(d:Int)*ofY w)
 |non (_:Jg M cs (k+1)) (_:∀i,i<k->¬Ja M cs w i) (_:v=.non)
theorem Y5.said{φ:Int->Int->Nat}{M:Nat->Nat}{cs:List Cl}{w f k:Nat}(h:Y5 a Hd H g G Κ N b p dx mem pr r m)(fin:JM Κ N)(cl:ClK r Κ)(T:∀c,c<=k->UD Κ r (sFN r c φ) 1)(fv:Fv G f φ)(o:Mp M)(O:Gl r M (ofX w) (ofY w))(of:OfC φ cs)(lc:cs.length<=2)(k5:k<=5)(few:b+900000+10*N<3900000)
  (kt:∀(v:V)(t:Addr)(G':Gv)(H':Hp)(i:Nat),Fx (zL g m) H H'->Y5 a Hd H' g G' Κ N (b+900000) p dx mem pr r m->AG G G' i->Due M cs w k v H'->H' t=some (.tup [.str "told",v,.bl true])->Q (.ref t) H')
  (kf:∀c,c<k->Jg M cs (c+1)->(∀i,i<c->¬Ja M cs w i)->Ja M cs w c->∀(t:Addr)(G':Gv)(H':Hp)(i:Nat),Fx (zL g m) H H'->Y5 a Hd H' g G' Κ N (b+900000) p dx mem pr r m->AG G G' i->H' t=some (.tup [.str "far",.non,.bl true])->Q (.ref t) H'):SpSd a (Ty a) [.ref p,.int (f:Int),.int (k:Int)] H Q:=by
 have S:∀{n:Nat},EE (sFN r n φ) 1 ↔ ¬Ja M cs w n:=Zl o O of;have s:∀{n:Nat},(∀i j,j<i->i<n->¬Po (sFN r j φ) (sFN r i φ))->Jg M cs n:=λz i j l A e=>z i j l A ((Va o O of (Z2 l)).mpr e);refine .mk (λv H'=>∃(G':Gv)(i:Nat),Fx (zL g m) H H'/\Y5 a Hd H' g G' Κ N (b+900000) p dx mem pr r m/\AG G G' i/\Due M cs w k v H') (λx H'=>x=true/\∃(G':Gv)(i c:Nat),Fx (zL g m) H H'/\Y5 a Hd H' g G' Κ N (b+900000) p dx mem pr r m/\AG G G' i/\c<k/\Jg M cs (c+1)/\(∀i,i<c->¬Ja M cs w i)/\Ja M cs w c) rfl ?_ ?_ ?_ ?_ ?_
 ·intro Q' E' k1 k2 k3;refine .mk p dx mem pr g G Κ φ N b r m f k rfl h.zs fin cl T fv ?_ A0 few ?_ ?_ ?_
  ·intro c hc;refine⟨cs.map λq=>(q.x-c*ofX w,q.y-c*ofY w),by rw[B5];lia,λu v z=>?_⟩;obtain⟨q,hq,rfl,rfl,_⟩:=Ou o O of c u v z;exact C3.mpr ⟨q,hq,rfl⟩
  ·intro c d d1 ck no E ne t G' H' i I C go B;have e:=(Va o O of A0).mp E;refine k1 _ _ ⟨G',i,I.fx h.zs,⟨C,h.frz I,h.nn⟩,go,.at_ c d t _ _ d1 ck (s no) e (λi R=>S.mp (ne i R)) rfl B (λz=>?_) (λz=>bx_some o O of e z)⟩;have b1:=VH o O of z;have b2:=VH (n:=c) o O of (by rw[e];exact z);rw[b1.1,b1.2,b2.1,b2.2];exact⟨rfl,rfl⟩
  ·intro no ne G' H' i I C go;exact k1 _ _ ⟨G',i,I.fx h.zs,⟨C,h.frz I,h.nn⟩,go,.non (s λi j l A=>no i j l A0) (λi R=>S.mp (ne i R)) rfl⟩
  ·intro c ck no ne ou G' H' i I C go;exact k2 _ ⟨rfl,G',i,c,I.fx h.zs,⟨C,h.frz I,h.nn⟩,go,ck,s λi j l A=>no i j l A0,λi R=>S.mp (ne i R),Classical.not_not.mp λz=>ou (S.mpr z)⟩
 ·rintro v H' ⟨_,_,_,_,_,Z⟩;cases Z with
  |at_ c d t X Y _ _ _ _ _ e B=>exact .inr ⟨t,_,e,B⟩
  |non _ _ e=>exact .inl e
 ·rintro v H' t D ⟨G',i,fx,y,go,Z⟩ E B;refine kt v t G' D i (fx.trans (AA.fx E)) (y.same E) go ?_ B;cases Z with
  |at_ c d t X Y l A h3 U h5 e B h6 h7=>exact .at_ c d t X Y l A h3 U h5 e (E _ _ B) h6 h7
  |non l A e=>exact .non l A e
 ·rintro H' t D ⟨_,G',i,c,fx,y,go,l,A,h3,U⟩ E B;exact kf c l A h3 U t G' D i (fx.trans (AA.fx E)) (y.same E) go B
 ·rintro H' t D ⟨e,_⟩;cases e
theorem Y5.minus{k:Int}(h:Y5 a Hd H g G Κ N b p dx mem pr r m){x y:V}(f:k<0)(l:∀(t:Addr)(H':Hp),AA H H'->Y5 a Hd H' g G Κ N b p dx mem pr r m->H' t=some (.tup [.str "no steps",.non,.bl true])->Q (.ref t) H'):SpSd a (Ty a) [x,y,.int k] H Q:=by
 refine .mk (λv H'=>False) (λx H'=>x=false/\H'=H) rfl ?_ ?_ ?_ ?_ ?_
 ·intro o n k1 k2 k3;exact .no x y (.int k) rfl (.inr ⟨k,rfl,f⟩) (k3 _ ⟨rfl,rfl⟩)
 ·intro v H' z;exact z.elim
 ·intro v H' t c z;exact z.elim
 ·rintro H' t c ⟨e,_⟩;cases e
 ·rintro H' t c ⟨_,rfl⟩ d j;exact l t c d (h.same d) j
end
inductive Tld(M:Nat->Nat)(cs:List Cl)(w k:Nat)(x v:V)(H:Hp):Prop
 |far (c:Nat) (_:c<k) (_:Jg M cs (c+1)) (_:∀i,i<c->¬Ja M cs w i) (_:Ja M cs w c) (_:x=.str "far") (_:v=.non)
 |told (_:Due M cs w k v H) (_:x=.str "told")
theorem Tld.fx{l:List Addr}{M:Nat->Nat}{cs:List Cl}{w k:Nat}{x v:V}{H m:Hp}(s:Fx l H m)(h:Tld M cs w k x v H):Tld M cs w k x v m:=by
 cases h with
 |far c a b i j f g=>exact .far c a b i j f g
 |told n e =>
  refine .told ?_ e;cases n with
  |at_ c d t X Y a b i j f e o g p=>exact .at_ c d t X Y a b i j f e (s.tup o) g p
  |non a b e=>exact .non a b e
theorem Tld.same{M:Nat->Nat}{cs:List Cl}{w k:Nat}{x v:V}{H a:Hp}(s:AA H a)(h:Tld M cs w k x v H):Tld M cs w k x v a:=h.fx (AA.fx (l:=[]) s)
theorem SB{M:Nat->Nat}{cs:List Cl}{c d n:Nat}(a:1<=d)(e:rwN M cs c=rwN M cs (c+d))(no:Jg M cs n):n<=c+d:=P0 λz=>no (c+d) c A0 z e
theorem VB{M:Nat->Nat}{cs:List Cl}{w k c:Nat}{v:V}{H:Hp}(g:c<k)(no:Jg M cs (c+1))(d:Ja M cs w c)(e:Due M cs w k v H):False:=by
 cases e with
 |at_ j d' t X Y a b i h f =>
  have:=SB a h no;exact f c A0 d
 |non a b=>exact b c g d
theorem PX{K:W.Frag}{M:Nat->Nat}{cs:List Cl}{w k:Nat}{x v C G:V}{H:Hp}(h:Tld M cs w k x v H)(h':Tld M cs w k C G H):x=C/\Gc x=true/\SamV K H v G:=by
 cases h with
 |far c j B y l D s =>
  cases h' with
  |far f a n p b r m =>
   subst D s r m;exact⟨rfl,rfl,.inl ⟨rfl,rfl⟩⟩
  |told u e=>exact(VB j B l u).elim
 |told u e =>
  cases h' with
  |far f a n p b r m=>exact(VB a n b u).elim
  |told o g =>
   subst e g;refine⟨rfl,rfl,?_⟩;cases u with
   |at_ c d t X Y j B y l D e Q s N =>
    cases o with
    |at_ f d' t' X' Y' a n p b r g i m A =>
     have S:=SB j l p;have T:=SB a b y;have E:c+d=f+d':=by lia
     have R:c=f:=by
      rcases Nat.lt_trichotomy c f with z|z|z
      ·exact(p f c z A0 (by rw[l,b,E])).elim
      ·exact z
      ·exact(y c f z A0 (by rw[l,b,E])).elim
     subst R;have O:d=d':=by lia
     subst O;have I:X=X'/\Y=Y':=by
      by_cases z:∃v∈rwN M cs (c+d),v≠0
      ·rw[(N z).1,(N z).2,(A z).1,(A z).2];exact⟨rfl,rfl⟩
      ·have z:∀v∈rwN M cs (c+d),v=0:=λv P=>X4 λq=>z ⟨v,P,q⟩;rw[(s z).1,(s z).2,(m z).1,(m z).2];exact⟨rfl,rfl⟩
     rw[<-I.1,<-I.2]at i;exact .inr ⟨t,t',_,e,g,SqT.of Q,SqT.of i,rfl⟩
    |non a n g =>
     have:=SB j l a;lia
   |non j B e =>
    cases o with
    |at_ f d' t' X' Y' a n p b r g i m A =>
     have:=SB a b j;lia
    |non a n g =>
     subst e g;exact .inl ⟨rfl,rfl⟩
theorem tld0{M:Nat->Nat}{cs:List Cl}{w:Nat}{x v:V}{H:Hp}(h:Tld M cs w 0 x v H):x=.str "told" /\ v=.non:=by
 cases h with
 |far c a=>exact absurd a (F8 _)
 |told f e =>
  cases f with
  |at_ c d t X Y a b=>lia
  |non a b g=>exact⟨e,g⟩
section
variable{P:Program}{w:World}{K:W.Frag}{mg:Str->Option Value}{base:Heap}{a:Ad}{Hd H H':Hp}{g:GA}{G G':Gv}{Κ:KTy}{N b i:Nat}{p dx mem pr:Addr}{r:AF}{m:MA}{Q:VK}
theorem VC {A L:Addr} {M:Nat->Nat} {w k:Nat} {l:List Addr} {cs:List Cl} (E:H A=some (.lst ((List.range 8).map λi=>V.int (M i:Int)))) (O:w<=8) (R:H L=some (.lst (l.map V.ref))) (pr:Paired (Pp H) l cs) (I:1<=cs.length) (T:cs.length<=2) (z:∀c∈cs,c.s<=7) (C:Mp M) (k5:k<=5) (q:∀(t:Addr)(x v:V)(H':Hp),AA H H'->H' t=some (.tup [x,v])->Tld M cs w k x v H'->Q (.ref t) H'):SpDue [.ref A,.int (w:Int),.ref L,.int (k:Int)] H Q :=
 .mk A L M w k l cs rfl E O R pr I T z C k5 (λc f h o n t H' e j=>q t _ _ H' e j (.far c f h o n rfl rfl)) (λc d f h o n y t u X Y H' e j D B S=>q t _ _ H' e j (.told (.at_ c d u X Y f h o n y rfl D B S) rfl)) (λf h t H' e j=>q t _ _ H' e j (.told (.non f h rfl) rfl))
theorem Y5.tld{φ:Int->Int->Nat}{M:Nat->Nat}{cs:List Cl}{w f k:Nat}(h:Y5 a Hd H g G Κ N b p dx mem pr r m)(fin:JM Κ N)(cl:ClK r Κ)(j:∀c,c<=5->UD Κ r (sFN r c φ) 1)(d:Fv G f φ)(u:Mp M)(n:Gl r M (ofX w) (ofY w))(of:OfC φ cs)(z:cs.length<=2)(k5:k<=5)(few:b+900000+10*N<3900000)
  (l:∀(x v:V)(t:Addr)(G':Gv)(H':Hp),Fx (zL g m) H H'->Y5 a Hd H' g G' Κ N (b+900000) p dx mem pr r m->Fv G' f φ->Tld M cs w k x v H'->H' t=some (.tup [x,v,.bl true])->Q (.ref t) H'):SpSd a (Ty a) [.ref p,.int (f:Int),.int (k:Int)] H Q :=
 h.said fin cl (λc q=>j c (D0 q k5)) d u n of z k5 few (λv t G' H' i fx y go o e=>l _ v t G' H' fx y (d.app h.zs.fu.ok go) (.told o rfl) e) (λc s A B C t G' H' i fx y go e=>l _ _ t G' H' fx y (d.app h.zs.fu.ok go) (.far c s A B C rfl rfl) e)
theorem RL{H:Hp}{t u:Addr}{x y v f:V}(h:H t=some (.tup [x,v,.bl true]))(l:H u=some (.tup [y,f,.bl true]))(e:x=y)(fx:Gc x=true)(k:SamV K H v f):UE K H (.ref t) (.ref u):=by
 refine⟨t,u,_,_,rfl,rfl,SqT.of h,SqT.of l,rfl,λj a b c d=>?_⟩
 match j,c,d with
 |0,c,d=>cases c;cases d;exact .inl ⟨e,fx⟩
 |1,c,d=>cases c;cases d;exact k
 |2,c,d=>cases c;cases d;exact .inl ⟨rfl,rfl⟩
 |j+3,c,d=>cases c
end
seal L2.PA L2.PE L2.PS L2.PSs L2.PT L2.PW
section
variable{P:Program}{w:World}{K:W.Frag}{mg:Str->Option Value}{base:Heap}{a:Ad}
theorem JM.mono{Κ:KTy}{N b:Nat}(h:JM Κ N)(e:N<=b):JM Κ b:=by
 obtain⟨M,d,c⟩:=h.ls;exact⟨⟨M,D0 d e,c⟩,h.ext⟩
theorem ng75:ng 1 6 1 1<=80000/\ng 2 6 1 1<=80000:=by decide +kernel
theorem ok_law(F:Fun K "law" "law" YF f fd)(T:Top K mg a)(cV:RQ P w K mg base CX0 2 "Grove" a.c_Grove IQ (QS a))(aH:Cal P w K mg base CX0 1 "_law_at" Wu (YB K))(bY:Cal P w K mg base CX0 2 "_law_round" IM (Yk K))(bC:Cal P w K mg base CX0 2 "_law_cells_by" EY (spCb K))(b7:Cal P w K mg base CX0 1 "_law_glide_text" Eh Yv)(cC:Cal P w K mg base CX0 8 "read_rule" GI (spRR a))(cH:Cal P w K mg base CX0 56 "field_of" LM (Yw a))(cU:RQ P w K mg base CX0 3 "Jumps" a.c_Jumps Rm (QQ a))(bZ:Cal P w K mg base CX0 2 "_law_due" LO Yx)(b6:Cal P w K mg base CX0 153 "_law_said" Jz (spSd a (Ty a))):AL P w K mg base CX0 154 f fd EY (UT K):=by
  refine F.ok FF (λ_ _ _ _ h=>by rcases h;subst_vars;rfl) λc3 A ct s H vs Q E r h=>?_
  obtain⟨l,ns,rfl,hS,cx,kq⟩:=h;refine⟨_,(Ab (Ao (i:=1) FF.nd rfl (Or.inl rfl) (Aw bY (rm r) rfl Aq (Aa (pv 0) (AV Bb Ac (AE BH (Aw aH (rm r) rfl Aq (Aa (pv 0) (AR Ae))) Ac) Ae)))) (Ab (Ao (i:=2) FF.nd rfl (Or.inl rfl) (AE BH (Aw aH (rm r) rfl Aq (Aa (pv 0) (AR Ae))) Ac)) (Ab (Ao (i:=3) FF.nd rfl (Or.inl rfl) (Aw bC (rm r) rfl Aq (Aa (pv 0) Ae))) (Ab (Ao (i:=4) FF.nd rfl (Or.inl rfl) (AE BH (Aw aH (rm r) rfl Aq (Aa (pv 0) (AR Ae))) Ac)) (Ab (Ao (i:=5) FF.nd rfl (Or.inl rfl) (YR cV (rm r) rfl Aq)) (Ab (Ao (i:=6) FF.nd rfl (Or.inl rfl) (Mq cU (rm r) rfl Aq (Aa (pv 5) (Aa (Aw cC (rm r) rfl Aq (Aa (Aw b7 (rm r) rfl Aq (Aa (pv 1) (Aa (pv 2) Ae))) Ae)) Ae)))) (Ab (Ao (i:=7) FF.nd rfl (Or.inl rfl) (Aw cH (rm r) rfl Aq (Aa (pv 5) (Aa (pv 3) Ae)))) (Ab (Ao (i:=8) FF.nd rfl (Or.inl rfl) (Aw bZ (rm r) rfl Aq (Aa (pv 1) (Aa (pv 2) (Aa (pv 3) (Aa (pv 4) Ae)))))) (Ab (AM (Ay (LQ r.units) (Aw b6 (rm r) rfl Aq (Aa (pv 6) (Aa (pv 7) (Aa (Db Cc Ac) Ae)))) (Bk (CN (Aa Bz (Aa Jf Ae)))) (AD _)) (Ah (As Jf)) AB) (Ab (AM (Ay (LQ r.units) (Aw b6 (rm r) rfl Aq (Aa (pv 6) (Aa (pv 7) (Aa (pv 4) Ae)))) (Bk (Aa (Aj Ak (pv 8) Ac (λ_ _=>rfl)) (Aa (Aj Ak (pv 8) Ac (λ_ _=>rfl)) (Aa Jf Ae)))) (AD _)) (Ah (As Jf)) AB) (Ab (AM (Ay (LQ r.units) (Aw b6 (rm r) rfl Aq (Aa (pv 6) (Aa (pv 7) (AR Ae)))) (Bk (CN (Aa Bz (Aa Jf Ae)))) (AD _)) (Ah (As Jf)) AB) (Ab (Ao (i:=9) FF.nd rfl (Or.inl rfl) (AE CP (AE EB (pv 4) Ac) Ac)) (Ab (Ao (i:=8) FF.nd rfl (Or.inl rfl) (Aw bZ (rm r) rfl Aq (Aa (pv 1) (Aa (pv 2) (Aa (pv 3) (Aa (pv 9) Ae)))))) (Ah (As (Fo (TL r.units) (Aw b6 (rm r) rfl Aq (Aa (pv 6) (Aa (pv 7) (Aa (pv 9) Ae)))) (Bk (Aa (Aj Ak (pv 8) Ac (λ_ _=>rfl)) (Aa (Aj Ak (pv 8) Ac (λ_ _=>rfl)) (Aa Jf Ae)))) (AD _))))))))))))))))),?_⟩
  try dsimp only[cxK]
  refine AZ ?_;intro r1 s1 k1 cg E1;obtain⟨m1,bc⟩:=L5 (show 0<=1+atN ns 0%7 by lia);refine⟨_,rfl,_,rfl,l,ns,0,rfl,hS,by decide,_,_,rfl,rfl,(by show(0:Int)<7;decide),_,_,rfl,rfl,l,ns,m1,by rw[<-bc];rfl,hS,by lia,by lia,λA' M H1 a3 m0 m7 hA=>?_⟩;have Y:=a3.seq hS;have mp:Mp M:=⟨m0,λs _=>m7 s⟩
  clear bc;refine cg ?_;refine AZ ?_;intro r2 s2 k2 ce E2;obtain⟨D,bg⟩:=L5 (O9 (atN ns 1) (by decide:(9:Int)≠0));have w8:D<=8:=by have:=N9 (atN ns 1) (by decide:(0:Int)<9);lia
  refine⟨_,rfl,l,ns,1,rfl,Y,by decide,_,_,rfl,rfl,(by show(0:Int)<9;decide),?_⟩;rw[show(λi j:Int=>V.int (i%j)) (atN ns 1) 9=V.int (D:Int)from K5 V.int bg];clear bg;refine ce ?_;refine AZ ?_;intro r3 s3 k3 b9 E3;refine⟨_,rfl,l,ns,rfl,Y,λL ts cs H2 X nL hL pc b4 G l1 l2=>?_⟩;have b8:=X.seq Y;have ay:=X _ _ hA;have c9:=a3.trans X;clear a3 X hA nL Y;have a7:∀c∈cs,c.s<=7:=λc hc=>Nat.le_of_lt_succ (b4 c hc).1.s;refine b9 ?_;refine AZ ?_;intro r4 s4 k4 cc E4;obtain⟨n,hn⟩:=L5 (O9 (atN ns 6) (by decide:(6:Int)≠0));have n5:n<=5:=by have:=N9 (atN ns 6) (by decide:(0:Int)<6);lia
  refine⟨_,rfl,l,ns,6,rfl,b8,by decide,_,_,rfl,rfl,(by show(0:Int)<6;decide),?_⟩;rw[show(λi j:Int=>V.int (i%j)) (atN ns 6) 6=V.int (n:Int)from K5 V.int hn];clear hn;refine cc ?_;refine AZ ?_;intro r5 s5 k5 cj E5;refine λx cn nx cb da=>⟨x,cn,rfl,Af,λg H6 bj N=>⟨rfl,?_⟩⟩
  have a1:AA H2 H6:=λb o e=>N.kp b o (by rw[Ax (Az e nx),Ax (Az e cb)];exact e) (bj▸Az e nx);subst bj;have bw:=AX.new N;have ng:=N.none;clear N;refine cj ?_;refine AZ ?_;intro r6 s6 k6 cu E6;generalize bh:stC cs.reverse=φ;have of:OfC φ cs:=bh▸ofc_st G a7;have gl:=gl_gl m0 w8;have rok:=ZN m7 w8;have bz:=gl_rest m0 w8;have bq:InBx [φ] 1 1 (cs.map λc=>(φ,c.x,c.y)):=fun ψ cd u v z=>by
   rw[D6.mp cd]at z⊢;obtain⟨c,hc,rfl,rfl⟩:=of.ex u v z;exact⟨c.x,c.y,C3.mpr ⟨c,hc,rfl⟩,by lia⟩
  have fin:JM (Kg (glR M D) [φ] 6) 80000:=by
   have:=kg_fin (T:=6) bz bq;rw[B5]at this;rcases(show cs.length=1\/cs.length=2 by lia)with e|e<;>rw[e]at this
   ·exact this.mono ng75.1
   ·exact this.mono ng75.2
  have cl:ClK (glR M D) (Kg (glR M D) [φ] 6):=kg_cl rok bz _ _;have a4:∀c,c<=5->UD (Kg (glR M D) [φ] 6) (glR M D) (sFN (glR M D) c φ) 1:=λc hc=>kg_ask (D6.mpr rfl) A0;refine⟨_,rfl,_,rfl,_,rfl,A',M,D,rfl,w8,m7,a1 _ _ ay,λH7 az=>?_⟩;refine⟨glR M D,rfl,rok,bz,λpr H8 a8 hR=>?_⟩;refine λp b5 np b0 bm=>jnew (Κ:=Kg (glR M D) [φ] 6) (N:=80000) (b:=1000) (bw.same (az.trans a8)) rok bz hR np b0 bm (by rw[Rx];decide) λH9 mem m bo bd a0 _ _ _=>⟨rfl,?_⟩
  have s8:=(a1.trans az).trans a8;have Y9:Y5 a H2 H9 g G0 (Kg (glR M D) [φ] 6) 80000 1000 p b5 mem pr (glR M D) m:=⟨bd,s8.trans bo,λy hy=>by
   simp only[zL,List.cons_append,List.nil_append,B7]at hy;rcases hy with rfl|rfl|rfl|rfl|rfl|rfl|hy
   ·exact ng _ (by simp[Dl])
   ·exact ng _ (by simp[Dl])
   ·exact ng _ (by simp[Dl])
   ·exact ng _ (by simp[Dl])
   ·exact ng _ (by simp[Dl])
   ·exact AA.noneN s8 (a0 _ A6)
   ·exact AA.noneN s8 (a0 _ (by simp[hy]))⟩
  have ap:Ap g L:=by
   have q:∀y∈Dl g,L≠y:=λy hy e=>by rw[<-e]at hy;rw[ng _ hy]at hL;cases hL
   unfold Ap;exact⟨q _ (by simp[Dl]),q _ (by simp[Dl]),q _ (by simp[Dl])⟩
  clear bd a0 bo a8 az a1 s8 bw ng np b0 bm hR bq;refine cu ?_;refine AZ ?_;intro r7 s7 k7 cr E7;have ca:∀{H':Hp},AA H2 H'->H' A'=some (.lst ((List.range 8).map λi=>V.int (M i:Int)))/\H' L=some (.lst (ts.map V.ref))/\Paired (Pp H') ts cs:=λsm=>⟨sm _ _ ay,sm _ _ hL,PairedM.imp (λb c z=>sm _ _ z) pc⟩
  obtain⟨_,br,bn⟩:=ca Y9.sm;refine⟨_,rfl,_,rfl,fld_st Y9.zs.fu br ap bn (λc hc=>(b4 c hc).1) l2 (by rw[Rx];decide) λf1 G1 df am ah av fv=>?_⟩;have a5:=Y9.fr am ah av;rw[bh]at fv;clear Y9 am ah av br bn ap hL ay pc;refine cr ?_;refine AZ ?_;intro r8 s8 k8 ck E8;obtain⟨ar,aj,ac⟩:=ca a5.sm;refine⟨_,rfl,_,rfl,_,rfl,_,rfl,VC ar w8 aj ac l1 l2 a7 mp n5 λtd x v dr aa d O=>?_⟩;have b1:=a5.same aa;clear a5 aa ar aj ac;refine ck ?_;refine AZ ?_;intro r9 s9 k9 cq E9;refine⟨_,rfl,_,rfl,_,rfl,b1.minus (k:=-1) A3 λc2 cp as bb au=>?_⟩;refine⟨by show 3<=sizeLine;decide,λcm B=>⟨RL (Ar B _ _ au) Af rfl rfl (.inl ⟨rfl,rfl⟩),?_⟩⟩;have C:=as.trans (Ar (o:=.tup [.str "no steps",.non,.bl true]) B);have a6:=bb.same (Ar (o:=.tup [.str "no steps",.non,.bl true]) B);refine⟨_,rfl,Ba (cq ?_)⟩;have d:=C _ _ d;have O:=O.same C;generalize upd cp cm (.tup [.str "no steps",.non,.bl true])=dk at C a6 d O⊢;clear bb b1 C as B au;refine AZ ?_;intro dq c6 dp b3 dn;refine⟨_,rfl,_,rfl,_,rfl,a6.tld fin cl a4 fv mp gl of l2 n5 A3 λx' v' dg dx ci I bv Z ao ab=>?_⟩;have d:=I.tup d;have O:=O.fx I;refine⟨_,rfl,td,_,0,x,rfl,rfl,SqT.of d,Ai (j:=0) rfl,_,rfl,td,_,1,v,rfl,rfl,SqT.of d,Ai (j:=1) rfl,(by show 3<=sizeLine;decide),λcf aq=>?_⟩;have t:=Ar (o:=.tup [x,v,.bl true]) aq;have al:=PX (K:=K) (ao.same t) (O.same t);refine⟨RL (t _ _ ab) Af al.1 al.2.1 al.2.2,_,rfl,Ba (b3 ?_)⟩;have a2:=bv.same t;generalize upd ci cf (.tup [x,v,.bl true])=c0 at a2⊢;clear bv a6 t al aq ab ao d O I fv;refine AZ ?_;intro dw dj dc bf dh;refine⟨_,rfl,_,rfl,a2.tld (k:=0) fin cl a4 Z mp gl of l2 A3 A3 λx2 v2 db dl ch b2 a9 ba ag an=>?_⟩;obtain⟨rfl,rfl⟩:=tld0 ag;refine⟨(by show 3<=sizeLine;decide),λco ae=>?_⟩;have S:=Ar (o:=.tup [.str "told",.non,.bl true]) ae;refine⟨RL (S _ _ an) Af rfl rfl (.inl ⟨rfl,rfl⟩),_,rfl,Ba (bf ?_)⟩;have U:=a9.same S;generalize upd ch co (.tup [.str "told",.non,.bl true])=c1 at U⊢;clear a9 a2 S ae an ag b2 Z;refine AZ ?_;intro ds cz dv bx c7;refine⟨_,rfl,_,_,rfl,rfl,.inl ⟨by lia,by lia⟩,_,_,rfl,rfl,⟨by decide,by decide⟩,?_⟩;rw[show(λi j:Int=>V.int (i/j)) ((n:Int)*2) 3=V.int ((n*2/3:Nat):Int)from K5 V.int A0];have ax:n*2/3<=5:=by lia
  generalize n*2/3=n' at ax⊢;refine bx ?_;refine AZ ?_;intro c8 dm c4 bt du;obtain⟨ad,ai,ak⟩:=ca U.sm;refine⟨_,rfl,_,rfl,_,rfl,_,rfl,VC ad w8 ai ak l1 l2 a7 mp ax λtd x v dd aw d O=>?_⟩;have cv:=U.same aw;clear U aw ad ai ak;refine bt ?_;refine⟨_,rfl,_,rfl,_,rfl,cv.tld fin cl a4 ba mp gl of l2 ax A3 λx' v' di de cy af c5 cw bu bp=>?_⟩;have d:=af.tup d;have O:=O.fx af;refine⟨_,rfl,td,_,0,x,rfl,rfl,SqT.of d,Ai (j:=0) rfl,_,rfl,td,_,1,v,rfl,rfl,SqT.of d,Ai (j:=1) rfl,(by show 3<=sizeLine;decide),λdt bi=>?_⟩;have R:=Ar (o:=.tup [x,v,.bl true]) bi;have al:=PX (K:=K) (bu.same R) (O.same R);refine⟨RL (R _ _ bp) Af al.1 al.2.1 al.2.2,?_⟩;exact kq _
end
end J
namespace J
open PySem L2
theorem ar1{α:Type}:∀us:List α,us.length=1->∃a,us=[a]
 |[a],_=>⟨a,rfl⟩
theorem ar2{α:Type}:∀us:List α,us.length=2->∃b a,us=[b,a]
 |[b,a],_=>⟨b,a,rfl⟩
theorem ar3{α:Type}:∀us:List α,us.length=3->∃c b a,us=[c,b,a]
 |[c,b,a],_=>⟨c,b,a,rfl⟩
theorem ar4{α:Type}:∀us:List α,us.length=4->∃c b a d,us=[c,b,a,d]
 |[c,b,a,d],_=>⟨c,b,a,d,rfl⟩
theorem ar5{α:Type}:∀us:List α,us.length=5->∃b a c e d,us=[b,a,c,e,d]
 |[b,a,c,e,d],_=>⟨b,a,c,e,d,rfl⟩
structure Fg(K:W.Frag)(x:Str)(st:Stmt)(f:Addr)(fd:FuncData):Prop where
 at_:W.nsIn K mainGlobals x=some (some (.ref f))
 fn:Fun K x x st f fd
structure Fm(K:W.Frag)(C:Addr)(m q:Str)(st:Stmt)(f:Addr)(fd:FuncData):Prop where
 me:PQ K C m f
 fn:Fun K m q st f fd
structure Fi(K:W.Frag)(C:Addr)(q:Str)(st:Stmt)(f:Addr)(fd:FuncData):Prop where
 mk_:Mk K C f
 fn:Fun K "__init__" q st f fd
theorem bnd{K:W.Frag}{x q:Str}{c:Stmt}{f:Addr}{j:FuncData}{i:List Str}(F:Fun K x q c f j)(h:∀(kV g n:Value)(l:Option Addr)(e m:Value)(us:List Value),us.length=i.length->bindArgs (W.fnOf x q (MF c) (IW c) (Al c) .none kV g n l e m) ⟨us,[]⟩=pure (i.zip us):=by intro _ _ _ _ _ _ us a;first|(obtain⟨b,rfl⟩:=ar1 us a;exact rfl)|(obtain⟨b,d,rfl⟩:=ar2 us a;exact rfl)|(obtain⟨b,d,k,rfl⟩:=ar3 us a;exact rfl)|(obtain⟨b,d,k,o,rfl⟩:=ar4 us a;exact rfl)|(obtain⟨b,d,k,o,p,rfl⟩:=ar5 us a;exact rfl)):Cv K j i []:=F.binds h
theorem fin{l:W.OpenLaw}{w:World}{K:W.Frag}{h:Heap}{mg:Str->Option Value}{fa:Addr}(X:K.In h)(G:h.Ns mainGlobals mg)(kg:mg "law" = some (.ref fa))
  {p:Addr} {y:Addr} {r:Addr} {g:Addr} {ab:Addr} {j:Addr} {f0:Addr} {d0:FuncData} {f1:Addr} {d1:FuncData} {f2:Addr} {d2:FuncData} {f3:Addr} {d3:FuncData} {f4:Addr} {d4:FuncData} {f5:Addr} {d5:FuncData} {f6:Addr} {d6:FuncData} {f7:Addr} {d7:FuncData} {f8:Addr} {d8:FuncData} {f9:Addr} {d9:FuncData} {kc:Addr} {i3:FuncData} {ki:Addr} {kv:FuncData} {ie:Addr} {ij:FuncData} {jc:Addr} {hn:FuncData} {kt:Addr} {hr:FuncData} {io:Addr} {gg:FuncData} {hv:Addr} {kb:FuncData} {jo:Addr} {ih:FuncData} {h8:Addr} {j5:FuncData} {il:Addr} {hf:FuncData} {hk:Addr} {kk:FuncData} {kq:Addr} {hw:FuncData} {kf:Addr} {kx:FuncData} {ir:Addr} {km:FuncData} {jn:Addr} {h9:FuncData} {hm:Addr} {ip:FuncData} {i7:Addr} {kn:FuncData} {kz:Addr} {iv:FuncData} {gy:Addr} {ic:FuncData} {i1:Addr} {gm:FuncData} {gi:Addr} {ht:FuncData} {h1:Addr} {iy:FuncData} {i5:Addr} {ib:FuncData} {j1:Addr} {gp:FuncData} {ko:Addr} {ja:FuncData} {hd:Addr} {kh:FuncData} {gr:Addr} {jd:FuncData} {jv:Addr} {ge:FuncData} {hj:Addr} {ha:FuncData} {ix:Addr} {kw:FuncData} {hc:Addr} {jt:FuncData} {iz:Addr} {he:FuncData} {jz:Addr} {gs:FuncData} {gf:Addr} {ia:FuncData} {gv:Addr} {jp:FuncData} {j9:Addr} {h2:FuncData} {h3:Addr} {h0:FuncData} {is:Addr} {jb:FuncData} {j6:Addr} {h7:FuncData} {j3:Addr} {jg:FuncData} {h6:Addr} {i2:FuncData} {ho:Addr} {kl:FuncData} {hs:Addr} {gz:FuncData} {iu:Addr} {gh:FuncData} {ky:Addr} {gc:FuncData} {jw:Addr} {jk:FuncData} {ka:Addr} {j8:FuncData} {j7:Addr} {je:FuncData} {hx:Addr} {gx:FuncData} {hy:Addr} {kd:FuncData} {kj:Addr} {hl:FuncData} {ji:Addr} {ks:FuncData} {kr:Addr} {jx:FuncData} {jf:Addr} {i0:FuncData} {ig:Addr} {jh:FuncData} {ik:Addr} {ii:FuncData} {iw:Addr} {hq:FuncData} {js:Addr} {hi:FuncData} {gw:Addr} {i8:FuncData} {gj:Addr} {j4:FuncData} {jm:Addr} {ku:FuncData} {jj:Addr} {gu:FuncData} {j2:Addr} {j0:FuncData} {im:Addr} {i9:FuncData} {i6:Addr} {gl:FuncData} {hh:Addr} {ju:FuncData} {iq:Addr} {jy:FuncData} {jq:Addr} {h4:FuncData} {hb:Addr} {hg:FuncData} {gd:Addr} {hu:FuncData} {k0:Addr} {ke:FuncData} {hz:Addr} {gt:FuncData} {i4:Addr} {h5:FuncData} {ca:Tok} {al:Tok} {M:Tok} {N:Str} {E:Tok} {D:Str} {bf:Tok} {bd:Str} {a4:Tok} {cv:Tok} {Z:Tok} {V:Tok} {aa:Str} {Q:Tok} {n:Addr} {ac:Addr} {B:Addr} {H:Addr} {P:Addr} {O:Addr} {d:Addr} {a:Addr}
  (cW:W.nsIn K mainGlobals "Amounts" = some (some (.ref p)))
  (cX:W.nsIn K mainGlobals "Places" = some (some (.ref y)))
  (cY:W.nsIn K mainGlobals "Clause" = some (some (.ref r)))
  (dC:W.nsIn K mainGlobals "Grove" = some (some (.ref g)))
  (dD:W.nsIn K mainGlobals "Rule" = some (some (.ref ab)))
  (dB:W.nsIn K mainGlobals "Jumps" = some (some (.ref j)))
  (bu:Cls K p)
  (cc:Cls K y)
  (cb:Cls K r)
  (t:Cls K g)
  (dd:Cls K ab)
  (A:Cls K j)
  (aw:findIn K (.ref p) "state" = some none)
  (ai:findIn K (.ref p) "numbers" = some none)
  (az:findIn K (.ref y) "wanted" = some none)
  (bj:findIn K (.ref r) "cell" = some none)
  (R:findIn K (.ref r) "conditions" = some none)
  (bb:findIn K (.ref r) "makes" = some none)
  (bc:findIn K (.ref g) "levels" = some none)
  (bn:findIn K (.ref g) "parts" = some none)
  (a0:findIn K (.ref g) "numbers" = some none)
  (bl:findIn K (.ref g) "bares" = some none)
  (a2:findIn K (.ref g) "amounts" = some none)
  (bh:findIn K (.ref g) "boxes" = some none)
  (b4:findIn K (.ref ab) "text" = some none)
  (ba:findIn K (.ref ab) "clauses" = some none)
  (bg:findIn K (.ref j) "grove" = some none)
  (ar:findIn K (.ref j) "memories" = some none)
  (bq:findIn K (.ref j) "rule" = some none)
  (I:findIn K (.ref j) "known_squares" = some none)
  (S:findIn K (.ref j) "known_cells" = some none)
  (g0:Fg K "is_whole" Ir f0 d0)
  (g1:Fg K "is_state" LD f1 d1)
  (g2:Fg K "takes" QW f2 d2)
  (g3:Fg K "read_clause" EI f3 d3)
  (g4:Fg K "read_state" Ip f4 d4)
  (g5:Fg K "read_wanted" Gy f5 d5)
  (g6:Fg K "read_condition" Es f6 d6)
  (g7:Fg K "read_amounts" FI f7 d7)
  (g8:Fg K "read_numbers" FH f8 d8)
  (g9:Fg K "read_places" EH f9 d9)
  (dz:Fg K "shifted_box" Gx kc i3)
  (fu:Fg K "least_box" CW ki kv)
  (ds:Fg K "lies_within" Gz ie ij)
  (eg:Fg K "reach_of" LB jc hn)
  (ea:Fg K "bare_field" Iv kt hr)
  (e0:Fg K "widened" MQ io gg)
  (eu:Fg K "trimmed" MR hv kb)
  (fg:Fg K "middle_of" Gi jo ih)
  (ec:Fg K "is_bare_around" Et h8 j5)
  (dm:Fg K "widened_over" FG il hf)
  (dw:Fg K "widened_to" Im hk kk)
  (e7:Fg K "planted" MS kq hw)
  (c4:Fg K "replaced" LA kf kx)
  (eh:Fg K "field_of" LG ir km)
  (ff:Fg K "box_of" OG jn h9)
  (ev:Fg K "jump" TD hm ip)
  (fy:Fg K "road" TC i7 kn)
  (fe:Fg K "check_leap" Iu kz iv)
  (dg:Fg K "level_for" Jo gy ic)
  (dj:Fg K "moved_by" LC i1 gm)
  (c9:Fg K "seen_at" JQ gi ht)
  (fi:Fg K "without_unseen" Er h1 iy)
  (fq:Fg K "seen_quarters" Du i5 ib)
  (e5:Fg K "rows_of_quarters" Dy j1 gp)
  (eo:Fg K "shape_of" Lz ko ja)
  (dl:Fg K "comes_again" GB hd kh)
  (fm:Fg K "clause_texts" FJ gr jd)
  (er:Fg K "read_rule" Jn jv ge)
  (dr:Fg K "deciding" LH hj ha)
  (dh:Fg K "becomes" MT ix kw)
  (e6:Fg K "shown_rule" Io hc jt)
  (dx:Fg K "nine_parts" Iq iz he)
  (e2:Fg K "fours_of" LE jz gs)
  (fj:Fg K "met_in_the_middle" Do gf ia)
  (es:Fg K "_law_glide_text" Ea gv jp)
  (e1:Fg K "_law_at" MU j9 h2)
  (dt:Fg K "_law_offset" GC h3 h0)
  (fo:Fg K "_law_round" Iw is jb)
  (fz:Fg K "_law_along" Ix j6 h7)
  (dn:Fg K "_law_spot" Jp j3 jg)
  (dk:Fg K "_law_cells_by" EW h6 i2)
  (dy:Fg K "_law_leaves" GD ho kl)
  (fw:Fg K "_law_due" FK hs gz)
  (gb:Fg K "_law_said" Jq iu gh)
  (el:Fg K "law" YF ky gc)
  (ed:Fm K p "holds" "Amounts.holds" EX jw jk)
  (ej:Fm K y "holds" "Places.holds" Eb ka j8)
  (ew:Fm K r "fits" "Clause.fits" EK j7 je)
  (e4:Fm K g "kept" "Grove.kept" IB hx gx)
  (di:Fm K g "linked" "Grove.linked" FL hy kd)
  (fh:Fm K g "check_square" "Grove.check_square" CZ kj hl)
  (et:Fm K g "leaf" "Grove.leaf" IA ji ks)
  (ey:Fm K g "level_of" "Grove.level_of" Ev kr jx)
  (ef:Fm K g "state_of" "Grove.state_of" Eu jf i0)
  (k1:Fm K g "living" "Grove.living" OH ig jh)
  (k2:Fm K g "counted" "Grove.counted" NI ik ii)
  (fv:Fm K g "span" "Grove.span" Iz iw hq)
  (c8:Fm K g "boxed" "Grove.boxed" EJ js hi)
  (dv:Fm K g "measured" "Grove.measured" Dh gw i8)
  (fp:Fm K j "change" "Jumps.change" Ec gj j4)
  (em:Fm K j "after" "Jumps.after" GF jm ku)
  (ga:Fm K j "check_jump" "Jumps.check_jump" Dz jj gu)
  (c7:Fm K j "reckoned" "Jumps.reckoned" Dg j2 j0)
  (ei:Fm K j "fresh" "Jumps.fresh" Cm im i9)
  (fc:Fm K j "four_halfway" "Jumps.four_halfway" Bn i6 gl)
  (eb:Fm K j "middle_after" "Jumps.middle_after" CY hh ju)
  (ee:Fm K j "cell_after" "Jumps.cell_after" Cy iq jy)
  (fb:Fi K p "Amounts.__init__" FM jq h4)
  (e8:Fi K y "Places.__init__" GE hb hg)
  (ep:Fi K r "Clause.__init__" GG gd hu)
  (ft:Fi K g "Grove.__init__" IC k0 ke)
  (ez:Fi K ab "Rule.__init__" Gj hz gt)
  (e3:Fi K j "Jumps.__init__" Iy i4 h5)
  (dq:W.nsIn K mainGlobals "all" = some none)
  (dc:W.nsIn K mainGlobals "bool" = some none)
  (ck:W.nsIn K mainGlobals "enumerate" = some none)
  (e9:W.nsIn K mainGlobals "int" = some none)
  (b0:W.nsIn K mainGlobals "isinstance" = some none)
  (du:W.nsIn K mainGlobals "len" = some none)
  (db:W.nsIn K mainGlobals "list" = some none)
  (ek:W.nsIn K mainGlobals "max" = some none)
  (fl:W.nsIn K mainGlobals "min" = some none)
  (c6:W.nsIn K mainGlobals "range" = some none)
  (en:W.nsIn K mainGlobals "str" = some none)
  (fk:W.nsIn K mainGlobals "sum" = some none)
  (da:W.nsIn K mainGlobals "tuple" = some none)
  (dp:W.nsIn K mainGlobals "zip" = some none)
  (c3:W.nsIn K mainGlobals "STATES" = some (some (.int 8 ca)))
  (b1:W.nsIn K mainGlobals "NEIGHBOURS" = some (some (.int 8 al)))
  (a7:W.nsIn K mainGlobals "STATE_FIGURES" = some (some (.str N M)))
  (a5:N=Str.ofString "01234567")
  (ax:W.nsIn K mainGlobals "AMOUNT_FIGURES" = some (some (.str D E)))
  (aq:D=Str.ofString "012345678")
  (ct:W.nsIn K mainGlobals "ANY_SIGN" = some (some (.str bd bf)))
  (cl:bd=Str.ofString "*")
  (cm:W.nsIn K mainGlobals "TOP_LEVEL" = some (some (.int 48 a4)))
  (c5:W.nsIn K mainGlobals "LIMIT" = some (some (.int 1099511627776 cv)))
  (bo:W.nsIn K mainGlobals "LEAST_LEVEL" = some (some (.int 1 Z)))
  (bt:W.nsIn K mainGlobals "CLAUSE_MARK" = some (some (.str aa V)))
  (bm:aa=Str.ofString "; ")
  (bi:W.nsIn K mainGlobals "LEAST_JUMPED" = some (some (.int 2 Q)))
  (bz:W.nsIn K mainGlobals "ValueError" = some none)
  (br:W.nsIn K mainGlobals "FieldError" = some (some (.ref n)))
  (cx:W.nsIn K mainGlobals "NoRule" = some (some (.ref ac)))
  (cg:W.nsIn K mainGlobals "Restless" = some (some (.ref B)))
  (cn:W.nsIn K mainGlobals "NoSquare" = some (some (.ref H)))
  (cp:W.nsIn K mainGlobals "NoLevel" = some (some (.ref P)))
  (cq:W.nsIn K mainGlobals "NoState" = some (some (.ref O)))
  (cy:W.nsIn K mainGlobals "TooFar" = some (some (.ref d)))
  (cw:W.nsIn K mainGlobals "NoSteps" = some (some (.ref a)))
  (c0:JN K d)
  (cu:JN K a)
  (bp:JN K n)
  (ci:hasDictIn K d=true)
  (cd:findIn K (.ref d) "__getattribute__" = some (some (.builtin "BaseException.__getattribute__")))
  (cj:findIn K (.ref d) "__getattr__" = some none)
  (ce:findIn K (.ref d) "__class__" = some (some (.builtin "object.__class__")))
  (de:specialIn K (.builtin "object.__class__") "__get__" = some (some (.builtin "getset_descriptor.__get__")))
  (df:takesIn K (.builtin "object.__class__")=some true)
  (cf:mroIn K d (.type "object")=some true)
  (ch:mroIn K d (.type "BaseException")=some true)
  (c1:mroIn K d (.ref n)=some true)
  (c2:kitOne K (.ref d) (.type "ValueError")=some true)
  (ay:kitOne K (.ref d) (.ref ac)=some false)
  (af:kitOne K (.ref d) (.ref B)=some false)
  (ad:kitOne K (.ref d) (.ref H)=some false)
  (au:kitOne K (.ref d) (.ref P)=some false)
  (am:kitOne K (.ref d) (.ref O)=some false)
  (a3:kitOne K (.ref d) (.ref d)=some true)
  (av:kitOne K (.ref d) (.ref a)=some false)
  (cz:kitOne K (.ref d) (.ref n)=some true)
  (b2:hasDictIn K a=true)
  (b3:findIn K (.ref a) "__getattribute__" = some (some (.builtin "BaseException.__getattribute__")))
  (bw:findIn K (.ref a) "__getattr__" = some none)
  (bx:findIn K (.ref a) "__class__" = some (some (.builtin "object.__class__")))
  (b5:mroIn K a (.type "object")=some true)
  (bv:mroIn K a (.type "BaseException")=some true)
  (cr:mroIn K a (.ref n)=some true)
  (cs:kitOne K (.ref a) (.type "ValueError")=some true)
  (ao:kitOne K (.ref a) (.ref ac)=some false)
  (Y:kitOne K (.ref a) (.ref B)=some false)
  (U:kitOne K (.ref a) (.ref H)=some false)
  (ae:kitOne K (.ref a) (.ref P)=some false)
  (aj:kitOne K (.ref a) (.ref O)=some false)
  (as:kitOne K (.ref a) (.ref d)=some false)
  (ag:kitOne K (.ref a) (.ref a)=some true)
  (co:kitOne K (.ref a) (.ref n)=some true)
  (a1:mroIn K d (.ref d)=some true)
  (an:mroIn K a (.ref d)=some false)
  (ah:mroIn K a (.ref a)=some true)
  : ∃fd:FuncData,(∀(s:Shared)(v:Value),BindsTo s fd ⟨[v],[]⟩ [("_law_script",v)])/\∀ak:Heap,K.In ak->ak.Ns mainGlobals mg->AL l.prog w K mg ak CX0 154 fa fd ["_law_script"] (UT K):=by
 have e:=kg.symm.trans (X9 X G el.at_);cases e;have no:∀{x:Str},W.nsIn K mainGlobals x=some none->mg x=none:=λz=>W.mg_none_of X G z;subst bm;subst cl;subst aq;subst a5;have T:Top K mg (⟨p,y,r,g,ab,j,n,ac,B,H,P,O,d,a⟩:Ad):=⟨no dq,no dc,no ck,no e9,no b0,no du,no db,no ek,no fl,no c6,no en,no fk,no da,no dp,⟨ca,X9 X G c3⟩,⟨al,X9 X G b1⟩,⟨M,X9 X G a7⟩,⟨E,X9 X G ax⟩,⟨bf,X9 X G ct⟩,⟨a4,X9 X G cm⟩,⟨cv,X9 X G c5⟩,⟨Z,X9 X G bo⟩,⟨V,X9 X G bt⟩,⟨Q,X9 X G bi⟩,X9 X G cW,bu,aw,ai,X9 X G cX,cc,az,X9 X G cY,cb,bj,R,bb,X9 X G dC,t,bc,bn,a0,bl,a2,bh,X9 X G dD,dd,b4,ba,X9 X G dB,A,bg,ar,bq,I,S,no bz,X9 X G br,X9 X G cx,X9 X G cg,X9 X G cn,X9 X G cp,X9 X G cq,X9 X G cy,X9 X G cw,c0,cu,bp,⟨ci,cd,cj,ce,de,df,cf,ch⟩,c1,c2,ay,af,ad,au,am,a3,av,cz,⟨b2,b3,bw,bx,de,df,b5,bv⟩,cr,cs,ao,Y,U,ae,aj,as,ag,co,a1,an,ah⟩
 refine⟨gc,λs v=>(by obtain⟨_,_,_,_,_,_,_,_,_,rfl,_⟩:=el.fn.ex;exact .of_eq rfl),λak _ _=>?_⟩;have i:∀{CX:CXT}{k:Nat}{x:Str}{st:Stmt}{f:Addr}{fd:FuncData}{ps:List Str}{sp:Sp},Fg K x st f fd->AL l.prog w K mg ak CX k f fd ps sp->Cv K fd ps []->Cal l.prog w K mg ak CX k x ps sp:=λF o b=>⟨_,_,o,X9 X G F.at_,F.fn.kp,b⟩
 have u:∀{CX:CXT}{k:Nat}{C:Addr}{x q:Str}{st:Stmt}{f:Addr}{fd:FuncData}{ps:List Str}{sp:Sp},Fm K C x q st f fd->Cls K C->AL l.prog w K mg ak CX k f fd ps sp->Cv K fd ps []->Cb l.prog w K mg ak CX k C x ps sp:=λF c o b=>⟨⟨_,_,o,F.me,b⟩,c⟩
 have a6:∀{CX:CXT}{k:Nat}{C:Addr}{x q:Str}{st:Stmt}{f:Addr}{fd:FuncData}{ps:List Str}{sp:Sp},Fi K C q st f fd->mg x=some (.ref C)->AL l.prog w K mg ak CX k f fd ps sp->Cv K fd ps []->RQ l.prog w K mg ak CX k x C ps sp:=λF m o b=>⟨_,_,o,F.mk_,m,b⟩
 have aB:=i g0 (ok_iw g0.fn T) (bnd g0.fn);have bA:=i g1 (ok_is g1.fn T aB) (bnd g1.fn);have aS:=u e4 t (ok_kept e4.fn T) (bnd e4.fn);have cV:=a6 ft T.m_Grove (Zd ft.fn T aS) (bnd ft.fn)
 have a8:=u di t (ok_link di.fn T aS) (bnd di.fn);have aG:=u fh t (ok_chk fh.fn T aB) (bnd fh.fn);have aR:=u et t (ok_leaf et.fn T bA) (bnd et.fn);have a9:=u ey t (ok_lev ey.fn T aG) (bnd ey.fn);have b8:=u ef t (ok_sta ef.fn T a9) (bnd ef.fn);have aC:=i dz (YU dz.fn T) (bnd dz.fn);have aZ:=i fu (Za fu.fn T) (bnd fu.fn);have aW:=u c8 t (Zg c8.fn dv.fn T c8.me (bnd c8.fn) dv.me (bnd dv.fn) aC aZ 49) (bnd c8.fn);have bT:=u fv t (ok_span fv.fn T aG aW) (bnd fv.fn);have aA:=i ds (ok_lie ds.fn T) (bnd ds.fn);have aD:=i eg (YX eg.fn T a9) (bnd eg.fn);have bD:=i e0 (ok_wid e0.fn T a9 a8) (bnd e0.fn);have cD:=i fg (ok_mid fg.fn T a8) (bnd fg.fn);have bB:=i ec (ok_ba ec.fn T) (bnd ec.fn);have aP:=i eu (ok_trim eu.fn T a9 bB cD) (bnd eu.fn);have aQ:=i dm (ok_wo dm.fn T aA aD bD) (bnd dm.fn);have aV:=i ea (Zh ea.fn T) (bnd ea.fn);have bG:=i c4 (YW c4.fn T (X9 X G c4.at_) (bnd c4.fn) aR a8 50) (bnd c4.fn);have cL:=i e7 (YZ e7.fn T aA bA aD aQ bG aP) (bnd e7.fn);have cH:=i eh (ok_fld eh.fn T aV cL) (bnd eh.fn);have aX:=i ff (Zf ff.fn T bT aD aC) (bnd ff.fn);have cF:=i g2 (YT g2.fn) (bnd g2.fn);have cM:=a6 fb T.m_Amounts (Wl fb.fn T) (bnd fb.fn)
 have cQ:=a6 e8 T.m_Places (Wj e8.fn T) (bnd e8.fn)
 have cR:=a6 ep T.m_Clause (Wk ep.fn T) (bnd ep.fn)
 have cN:=u ed bu (TN ed.fn T) (bnd ed.fn);have cP:=u ej cc (TM ej.fn T cF) (bnd ej.fn);have bM:=u ew cb (ok_Fits ew.fn T cF cN cP) (bnd ew.fn);have cJ:=i dr (ok_dec dr.fn T bM) (bnd dr.fn);have bE:=i dh (ok_bec dh.fn T cJ) (bnd dh.fn);have aM:=i g4 (ok_rs g4.fn T) (bnd g4.fn);have aU:=i g5 (ok_rw g5.fn T aM) (bnd g5.fn);have bH:=i g8 (ok_rn g8.fn T) (bnd g8.fn);have bI:=i g7 (ok_ram g7.fn T aM bH cM) (bnd g7.fn);have bN:=i g9 (ok_rpl g9.fn T aU cQ) (bnd g9.fn);have b9:=i g6 (YY g6.fn T bI bN) (bnd g6.fn);have bO:=i g3 (ok_rc g3.fn T aM aU b9 cR) (bnd g3.fn);have bJ:=i fm (ok_ct fm.fn T) (bnd fm.fn);have dA:=a6 ez T.m_Rule (ok_ri ez.fn T bJ bO) (bnd ez.fn)
 have cC:=i er (ok_rr er.fn T dA bE) (bnd er.fn);have bV:=i e6 (ok_show e6.fn T) (bnd e6.fn);have bF:=u fp A (ok_chg fp.fn T bV) (bnd fp.fn);have cU:=a6 e3 T.m_Jumps (Zb e3.fn T bF) (bnd e3.fn)
 have aJ:=u ee A (ok_cel ee.fn T b8 aR bE) (bnd ee.fn);have aF:=u eb A (ok_mid2 eb.fn T a8 aJ) (bnd eb.fn);have aN:=i dx (ok_nine dx.fn T a8) (bnd dx.fn);have aT:=i e2 (Ze e2.fn T) (bnd e2.fn);have aI:=i fj (ok_met fj.fn T a8) (bnd fj.fn);have aE:=u c7 A (Vj c7.fn fc.fn ei.fn T c7.me (bnd c7.fn) fc.me (bnd fc.fn) ei.me (bnd ei.fn) aF a8 aN aT aI 46) (bnd c7.fn);have aY:=u ga A (ok_cj ga.fn T a9 aB) (bnd ga.fn);have bL:=u em A (Wi em.fn T A3 aY aE) (bnd em.fn);have aB:=i g0 (ok_iwx g0.fn T) (bnd g0.fn);have bX:=i fe (ok_chl fe.fn T aB aX aA) (bnd fe.fn);have cE:=i dg (ok_lvf dg.fn T aD) (bnd dg.fn);have bU:=i dw (ok_wt dw.fn T a9 bD) (bnd dw.fn);have cZ:=i fy (ok_rdg fy.fn T bX aV cE bU bL aP) (bnd fy.fn);have cT:=i ev (ok_jpg ev.fn T cZ aP) (bnd ev.fn);have aO:=i fi (ok_wu fi.fn T) (bnd fi.fn);have aK:=i e5 (ok_rq e5.fn T) (bnd e5.fn);have bS:=i c9 (ok_sa c9.fn fq.fn T (X9 X G c9.at_) (bnd c9.fn) (X9 X G fq.at_) (bnd fq.fn) aO aK a8 50) (bnd c9.fn);have cG:=i dj (ok_mv dj.fn T aX aC aA aQ aD a9 aP bS) (bnd dj.fn);have bW:=i eo (YV eo.fn T aX cG) (bnd eo.fn);have bP:=i dl (ok_ca dl.fn T aB cT bW) (bnd dl.fn);have aH:=i e1 (ok_at e1.fn T) (bnd e1.fn);have b7:=i es (ok_gtx es.fn T) (bnd es.fn);have bQ:=i dt (ok_off dt.fn T) (bnd dt.fn);have bY:=i fo (ok_rnd fo.fn T aH) (bnd fo.fn);have cA:=i fz (ok_alg fz.fn T) (bnd fz.fn);have bK:=i dn (ok_spo dn.fn T) (bnd dn.fn);have bC:=i dk (ok_cb dk.fn T aH cA bK) (bnd dk.fn);have bR:=i dy (ok_lvs dy.fn T) (bnd dy.fn);have bZ:=i fw (ok_due fw.fn T bQ bR) (bnd fw.fn);have b6:=i gb (ok_sd gb.fn T A3 bP) (bnd gb.fn);exact ok_law el.fn T cV aH bY bC b7 cC cH cU bZ b6
theorem walk{l:W.OpenLaw}{q:Program}{c:List Str}{r:(Str->Option Value)->Heap->Prop}{i:World->Heap->Prop}{d:DefRec}{K:Params->W.Frag}(t:l.most=some 63)(e:d.params.defaults=[])
  (o:∀(w:World)(h:Heap),i w h->(K w.params).In h)
  (F:∀(w:World)(mg:Str->Option Value)(j:Addr)(h:Heap),(K w.params).In h->h.Ns mainGlobals mg->mg d.name=some (.ref j) ->
   ∃g:FuncData,(∀(s:Shared)(u:Value),BindsTo s g ⟨[u],[]⟩ [("_law_script",u)])/\∀b:Heap,(K w.params).In b->b.Ns mainGlobals mg->AL l.prog w (K w.params) mg b CX0 154 j g ["_law_script"] (UT (K w.params))) :
  W.WalkO q c r i l.row.toRowW d [] (λf vs=>PySem.call f vs) :=
 L2.UF (n:=63) (k:=154) (x:="_law_script") (CX:=λ_=>CX0) (sp:=λw=>UT (K w.params)) t A3 e ⟨rfl,by decide,by decide⟩ o F (λ_ _ a ns m _ p=>⟨a,ns,rfl,p,m,λ_=>rfl⟩) λ_ _ _ _ _ z=>z
end J
structure PySem.W.Fast:Prop where(tw8384555636998113596 tw448587795172872279 tw14970176003802024150 tw8253054222157675669 tw8263544900059857877 tw14424035392000938437 tw14430540953454192594 tw293862189288359308 tw2967424740851871217 tw6912425424900219121 tw14710129849666790593 tw5905906195627826289 tw12078386804469170459 tw11791314619221714750 tw9536110169911453845 tw16215408490281012719 tw5702476410144318805 tw1226954882351527728 tw1693057743778392658 tw4738836817951175157 tw2470211676358223826 tw14627829644240660293 tw77854447735402946 tw10606535258310123241 tw15798289567772622215 tw1551709103195553513 tw346592370912424821 tw9007086784779348934 tw2348185192417149222 tw11639282289506482618 tw14211216817096827343 tw10350041925568953611 tw16439109692865096194 tw8368981092188058828 tw11346130834098979264 tw17254135826273119972 tw15702326062830386503 tw16513973392937795233 tw7989936213561215308 tw18030737880415879282 tw9616983299111922210 tw10840006502481197046 tw10257081919476201948 tw5940889521475763774 tw1083581047347338226 tw14027498371918566894 tw10074776980784168158 tw8413053516066967884 tw927497319530540190 tw2846244626468664072 tw4376324465441479092 tw17993937706973458625 tw6535030350323781599 tw16933423297090450530 tw6060943152248339489 tw9409314271317371075 tw10050642694611338262 tw16163198658236018718 tw9522591799329305674 tw5474814269164389112 tw16867531056088283452 tw7177042256827794955 tw15439785937177073054 tw4578876251655401027 tw14815122264936399635 tw742913122044626242 tw16644356277876239133 tw2080178146644233585 tw15263737619688405437 tw6661983586702537176 tw17641375310306943313 tw10000367054735785242 tw8260766668435210406 tw15727761785639812095 tw12591442179375316596 tw11370379571458027597 tw15237722414666029508 tw2194098083477174053 tw11807794539807971461 tw10359114074312093154 tw13736880524110754404 tw8773431825697959 tw15807869408549116004 tw4630110603763982620 tw7843504599386384089 tw17236645640347635832 tw3700783581525505716 tw2888875346497752620 tw11163786957367550940 tw11661352231081890583 tw12507589667106978009 tw9922920653249476537 tw11502265206350940187 tw15939516688354117060 tw12777046459154696979 tw10828891575489732024 tw2016803793218509096 tw12155608531187956446 tw7521993150613679446 tw17101919147208190212 tw7306172121770067671 tw13735345414873668751 tw1002783651137728459 tw6617948718838917285 tw8886953363460171419 tw6054087846265518328 tw5734812366311678841 tw1897271243172072975 tw4664259495349077846 tw1808767064413757573 tw13680060742976203529 tw4142067762353753047 tw447026640709350671 tw4040514482573749140 tw2542380417124824635 tw9337557746420267235 tw13942572844011338861 tw5754403483965524053 tw5293671982376598613 tw546504907664818832 tw14159955651591835029 tw4637782040527057410 tw1205276096719572430 tw12193488636890548003 tw10173197360193785979 tw12474071996443037632 tw6598319702787795025 tw4901190679911505651 tw11657104807061034439 tw14262911682052257362 tw15218033392290856930 tw8095624063548430337 tw13740940428159951385 tw7232248413691610063 tw879784061026240989 tw1889150500998813501 tw14067931140643452606 tw15647267433679852914 tw10483337045221416041 tw14823588593926583396 tw16020720824318761149 tw14544261272629747945 tw9931150535572816913 tw2138710700670500014 tw800263972322660245 tw17123756609861369963 tw1576528998535124691 tw9423385628362828954 tw15038531347455191142 tw2459582961625363681 tw12963069100768004962 tw8008260857987241588 tw11585364238851626638 tw8009189043093717300 tw11034643662814692513 tw364020455775740295 tw13433958915414736322 tw96132943072975149 tw15162320411359545201 tw15758779683314528118 tw8190370126012811399 tw14876099448287600812 tw17458148845097036128 tw2895005778045143838 tw15972642085409532036 tw1141881705367188322 tw11017799928184673002 tw6157484852859607409 tw16057341511463186473 tw10827637921356891252 tw10123562128210618522 tw13293256453728744360 tw17890648772799975131 tw3027224004275386548 tw1981176683419792086 tw1885503935487994223 tw8324840449883625515 tw8237526419885440377 tw10957863870713095251 tw9985452912331523207 tw16885784564178387723 tw337880941057304754 tw14045967201431616098 tw16896917405238191314 tw18437864895378290232 tw6093065047932231349 tw7686597185458626283 tw13255504566839381620 tw17562994332916014794 tw8400500730663840884 tw13293251321664361038 tw3301664670556737993 tw4076252563644622176 tw9114836618141223406 tw5669571000992946136 tw13385676720207879307 tw1190197408037764460 tw3755577878532584717 tw4771760759937751799 tw1732599433484862698 tw17760822379912793650 tw7949143017292137684 tw171829176539556463 tw11015282280823903479 tw11235650251072552606 tw7389383671367745141 tw4378193580000506242 tw9064555089724727824 tw2937739879185838683 tw96865195017100214 tw13368895289293679380 tw15852777919202867522 tw2890089324376836186 tw10025951010759171164 tw10763096004061648891 tw6613206308192962099 tw3067315830182837589 tw12092538017896398951 tw10911861891406957380 tw12244117242682930590 tw12474327788221597922 tw13040557565356640379 tw15369902753962254774 tw10950847634363967677 tw6071667474255999229 tw16268148637905585245 tw3113860175486414220 tw18417442431579245858 tw12819533733248883354 tw4928946109181444496 tw3829941094555889516 tw76001086101065960 tw4414958059295901132 tw10700355058395072278 tw12762202074984668693 tw16030462603509878084 tw9931316993195503703 tw15532615709914973126 tw3228732101580794637 tw4479218506973494090 tw15580847459204193381 tw12613496116834002143 tw14783862134101316901 tw7132569930808401518 tw16691114654723855562 tw16270351074910855457 tw17696439914595726501 tw4349852739254091349 tw6539016787291788045 tw8551080938872835969 tw12405464571591347524 tw6895217870213022053 tw4130848539756198085 tw17396818954055023420 tw14102447018968646462 tw11468909326493084432 tw14600615531060320608 tw6227332819449841796 tw13698968694410263570 tw11748635455607910300 tw16997922825536868684 tw7106448722472480954 tw9612343952462637395 tw3456782561491264215 tw18219329715542633275 tw11995811538123106653 tw13415999028054244374 tw9090492650441263958 tw17505790317110828402 tw540627551826578476 tw10254206836909263394 tw2433847465833609351 tw4129453048940397154 tw3123456714067862389 tw2757095026224812230 tw8841528371172315794 tw2533922439046679506 tw17344684609570342851 tw9007406329276855212 tw15351997882694929030 tw11422308757440925907 tw17773724917907165697 tw15708692428489253781 tw3664810461601671516 tw12593003663313876805 tw9248510280116014131 tw16002309538687964490 tw5012083013746970700 tw12408035160601613828 tw16077696837297761290 tw12772942435447653551 tw2855457223710858842 tw2120529451269657454 tw18189037548900492761 tw2469149379477040363 tw12209132552209257201 tw7109416915099993779 tw1683377984873606105 tw2056698951335999381 tw841240275018015552 tw13708978346538899951 tw1787499354678970967 tw15747775874102114804 tw11087157237708463362 tw13093648742275856055 tw6987799856268851397 tw13187266561684361387 tw3026065114217287371 tw4176520067388725236 tw6801283116220144165 tw4594533813436411752 tw1464263087872026187 tw16862234260181342289 tw16813961272813344177 tw18198613066703539361 tw6331905300206947289 tw10688290700177098735 tw862637877893078722 tw15013496198113997667 tw4521399141367027850 tw11041930642564431296 tw9178170522709241621 tw16214926268300192859 tw3924056654509108981 tw12730208499974991696 tw12843054039394822883 tw11265370515713726304 tw1351807757381964747 tw7773323114145617876 tw6111377057678976424 tw6443847546397877567 tw18254171170052653683 tw7659266052735224913 tw2931386725758101333 tw12616419792919626604 tw1347048006182649388 tw3545161838217632210 tw6604493876440691922 tw1888411486930356085 tw9852220899423297379 tw8226795683657235954 tw13873758524147603913 tw5720096918699223209 tw3485117920232014810 tw1945611440148687250 tw14554880070753165459 tw3559943207747169139 tw5174566203393275077 tw915435467484194478 tw14372383297564642950 tw15793480629222796101 tw5211927802283055543 tw7501467269134782719 tw7199746446582039906 tw12202129552530381731 tw3487941941207517550 tw10641872258922667051 tw17764377623417420140 tw5868594704752674335 tw12837742378465628416 tw17893521553456676590 tw12844166711091130957 tw2083501122287034404 tw14282684949643976395 tw27188072700200130 tw1640314679672464931 tw4779134950612240005 tw9838841464586732930 tw457212703763441025 tw4990189815976004119 tw15514069738480061265 tw8260360127743387213 tw12331527100336984672 tw2804745362716470791 tw8466579175980355479 tw10933982459794208165 tw7200720618394927831 tw3703305555274310971 tw7111391262570464915 tw768697267252578146 tw6110150629178998395 tw11784610114096429876 tw17251431010870529366 tw9554483618871187494 tw14768204207552951561 tw16057682914337124792 tw10248049111942395901 tw15598821512384844379 tw13489790173685405278 tw17114740442247426363 tw2755871381663645457 tw1386018379549265132 tw15658556830843199063 tw10365573130698119094 tw9129484032058893269 tw17422768871814691520 tw12530403786194363395 tw9002919554072394889 tw17340361264247602552 tw10713625841826608394 tw11587414984611090201 tw17933680594474072616 tw8348179732842013552 tw13128408058583798526 tw15854087692371746414 tw1146660327088109705 tw17174284663222785304 tw1480688211983855921 tw2656711017486951920 tw7829168547446512849 tw7938354368208711497 tw14702152940766158890 tw1365486603098623197 tw6161563618361133682 tw14370562731907652154 tw10126489261966209379 tw6767026662498923894 tw1006024562273952758 tw16591391878873734925 tw388979075666870041 tw14136396666643016908 tw7882919226893401504 tw3811655886756688939 tw18437800715667496184 tw9376228065384167066 tw5092845245555618296 tw7746893448007614202 tw16206796729391193384 tw9892691625378503799 tw13308257637018950235 tw11787465260974977191 tw190012364687561741 tw8199653762671202701 tw14047640256881154712 tw12419817115599222403 tw3138543312138879914 tw15903289328206587293 tw13314144277449966976 tw15804566663202839188 tw17124932646465732956 tw5635690247645529285 tw16027627517505698464 tw9996751740845970502 tw13885611265446678929 tw11694472331453532300 tw10268967652836641152 tw8013836945453913546 tw3400131479428880928 tw6654989298564346343 tw11278046199810312744 tw13487346164004479781 tw8764629498621941019 tw8531527318041234338 tw6815525913187324708 tw543943041180880624 tw3063349349019669402 tw16387833854685667902 tw433600407051760604 tw11504547171068031685 tw4741145719765997177 tw1661653284145153321 tw12919756915406977150 tw18120796763208636474 tw884522954954431672 tw8190516645787685176 tw15810365267064712681 tw4383290104087934006 tw6402087309441067959 tw1778644023107406518 tw7921632009064272016 tw11309270939515767791 tw3703756908099707698 tw13026343727056168226 tw11434705365523247020 tw3812322402131733348 tw14238918964450407127 tw15347616579941702263 tw2855383226552163211 tw8444492325541076561 tw1330546217140798167 tw9472366059078491434 tw17367508459658395094 tw14684282349043176394 tw1647655623891760258 tw13916115627953614408 tw15983337748755926023 tw465084022384508283 tw4117900356192627103 tw8756479910792053844 tw8409928417607083806 tw12326732978297329811 tw6936971673461705200 tw14947797737453749660 tw1742132594690489491 tw3249167343638767239 tw5606502233906960810 tw12677412543513466940 tw5845180389976422053 tw324581721913207311 tw10699807147946677725 tw5676529723395495949 tw3543763206595614824 tw17870318841176273697 tw9008592609307631960 tw6770199760594737627 tw14555129273707911875 tw14283096392952235322 tw13002297031163931967 tw10901528293685891827 tw17720660121037120348 tw11824886176277344412 tw5465333784268906753 tw1233722425565699733 tw1781218671123245536 tw4590831354405894837 tw14495720921309722909 tw10807938761160047494 tw17929199919878546754 tw4961218120912033309 tw18355167783325579330 tw10575615551222898050 tw17279472990497953471 tw16049751818661109035 tw10852304243263322725 tw8789066534943795418 tw4937750200535261819 tw17424255609820408988 tw7705681680883929474 tw9492206123416537196 tw17041126806538578366 tw4236651693605174138 tw7945601055425918088 tw13053743832625069377 tw5852089528659050510 tw11662535562151438363 tw17223530495462191563 tw14359265086691837321 tw7960062381511096267 tw7793249786144252291 tw7823101851804398937 tw14572357206701064242 tw8337132774614142287 tw11294725201820073176 tw9954230244598372935 tw1921851997037023197 tw18257943114454452823 tw2153239305009190477 tw9753626789414296364 tw4182872442850264514 tw13554167417333181459 tw4030194454369996366 tw647270679691863508 tw13391948101159974507 tw9924568282242654805 tw6284775690009268921 tw10375470602860250897 tw5706881341734638355 tw1141951373443452035 tw4682911194730575403 tw11703455806539875641 tw8090802991970500636 tw17684618183418173159 tw6374856959641430768 tw6315096746844925658 tw11906268737437181379 tw14863179031654033714 tw12929677367168080701 tw16708306622203935980 tw12204811204213953730 tw8044769513033055542 tw17589063465156299523 tw17192132488596851554 tw6154895954109292391 tw8627976093917124227 tw14418169031132310748 tw4558039507813050446 tw4025147394144682454 tw11587121385317150095 tw9620808705186908130 tw15249054623134698950 tw15455259864447280746 tw991552715285583631 tw8095455899206202335 tw18400258038305314646 tw7506946085583346407 tw17410528868785293110 tw3743435693786801715 tw5423961198895475431 tw17391534080493229756 tw12699749037135094231:True)
open PySem PySem.W PyProof.Rows
set_option maxRecDepth 100000 in
set_option maxHeartbeats 0 in
theorem PySem.Challenge.cw_jumpfield_k75_again_at_the_edge_holds : PySem.Challenge.rw_jumpfield_k75_again_at_the_edge.Holds := by
 w_on; o_law; k_head; (case hw=>w_witness2)
 k_fill
 refine J.walk (l:=PySem.Challenge.rw_jumpfield_k75_again_at_the_edge) rfl rfl (fun w h Y=>PySem.W.kIn_of Y) ?F
 case F =>
  intro w mg fa h KX G hmg;refine' J.fin KX G hmg ?h0 ?h1 ?h2 ?h3 ?h4 ?h5 ?h6 ?h7 ?h8 ?h9 ?h10 ?h11 ?h12 ?h13 ?h14 ?h15 ?h16 ?h17 ?h18 ?h19 ?h20 ?h21 ?h22 ?h23 ?h24 ?h25 ?h26 ?h27 ?h28 ?h29 ?h30 ?h31 ?h32 ?h33 ?h34 ?h35 ?h36 ?h37 ?h38 ?h39 ?h40 ?h41 ?h42 ?h43 ?h44 ?h45 ?h46 ?h47 ?h48 ?h49 ?h50 ?h51 ?h52 ?h53 ?h54 ?h55 ?h56 ?h57 ?h58 ?h59 ?h60 ?h61 ?h62 ?h63 ?h64 ?h65 ?h66 ?h67 ?h68 ?h69 ?h70 ?h71 ?h72 ?h73 ?h74 ?h75 ?h76 ?h77 ?h78 ?h79 ?h80 ?h81 ?h82 ?h83 ?h84 ?h85 ?h86 ?h87 ?h88 ?h89 ?h90 ?h91 ?h92 ?h93 ?h94 ?h95 ?h96 ?h97 ?h98 ?h99 ?h100 ?h101 ?h102 ?h103 ?h104 ?h105 ?h106 ?h107 ?h108 ?h109 ?h110 ?h111 ?h112 ?h113 ?h114 ?h115 ?h116 ?h117 ?h118 ?h119 ?h120 ?h121 ?h122 ?h123 ?h124 ?h125 ?h126 ?h127 ?h128 ?h129 ?h130 ?h131 ?h132 ?h133 ?h134 ?h135 ?h136 ?h137 ?h138 ?h139 ?h140 ?h141 ?h142 ?h143 ?h144 ?h145 ?h146 ?h147 ?h148 ?h149 ?h150 ?h151 ?h152 ?h153 ?h154 ?h155 ?h156 ?h157 ?h158 ?h159 ?h160 ?h161 ?h162 ?h163 ?h164 ?h165 ?h166 ?h167 ?h168 ?h169 ?h170 ?h171 ?h172 ?h173 ?h174 ?h175 ?h176 ?h177 ?h178 ?h179 ?h180 ?h181 ?h182 ?h183 ?h184 ?h185 ?h186 ?h187 ?h188 ?h189 ?h190
  (case h0 | h1 | h2 | h3 | h4 | h5=>k_is)
  (case h6 | h7 | h8 | h9 | h10 | h11=>(refine' ⟨?_,?_,?_,?_⟩<;>k_is))
  (case h12 | h13 | h14 | h15 | h16 | h17 | h18 | h19 | h20 | h21 | h22 | h23 | h24 | h25 | h26 | h27 | h28 | h29 | h30=>k_is)
  (case h31 | h32 | h33 | h34 | h35 | h36 | h37 | h38 | h39 | h40 | h41 | h42 | h43 | h44 | h45 | h46 | h47 | h48 | h49 | h50 | h51 | h52 | h53 | h54 | h55 | h56 | h57 | h58 | h59 | h60 | h61 | h62 | h63 | h64 | h65 | h66 | h67 | h68 | h69 | h70 | h71 | h72 | h73 | h74 | h75 | h76 | h77 | h78 | h79 | h80 | h81 | h82 | h83 | h84 | h85=>(apply J.Fg.mk; k_is; apply L2.Uo<;>k_is))
  (case h86 | h87 | h88 | h89 | h90 | h91 | h92 | h93 | h94 | h95 | h96 | h97 | h98 | h99 | h100 | h101 | h102 | h103 | h104 | h105 | h106 | h107=>(apply J.Fm.mk; (apply L2.PQ.mk<;>k_is); apply L2.Uo<;>k_is))
  (case h108 | h109 | h110 | h111 | h112 | h113=>(apply J.Fi.mk; (apply L2.Mk.mk<;>k_is); apply L2.Uo<;>k_is))
  (case h114 | h115 | h116 | h117 | h118 | h119 | h120 | h121 | h122 | h123 | h124 | h125 | h126 | h127 | h128 | h129 | h130=>k_is)
  (case h131=>decide +kernel)
  (case h132=>k_is)
  (case h133=>decide +kernel)
  (case h134=>k_is)
  (case h135=>decide +kernel)
  (case h136 | h137 | h138 | h139=>k_is)
  (case h140=>decide +kernel)
  (case h141 | h142 | h143 | h144 | h145 | h146 | h147 | h148 | h149 | h150=>k_is)
  (case h151 | h152 | h153=>(show PySem.W.excIn _ _ _ _=true; k_exc))
  (case h154 | h155 | h156 | h157 | h158 | h159 | h160 | h161 | h162=>k_is)
  (case h163 | h164 | h165 | h166 | h167 | h168 | h169 | h170 | h171=>kit_is)
  (case h172 | h173 | h174 | h175 | h176 | h177 | h178=>k_is)
  (case h179 | h180 | h181 | h182 | h183 | h184 | h185 | h186 | h187=>kit_is)
  (case h188 | h189 | h190=>k_is)
