import PyProof.Rows.All
import Wide.All
import OpenK.AllK
import Wide.FinOn
import Lean
import PyProof.EqAt
import PyProof.EqKinds
import PyProof.TupleCall
import PyProof.Rows.CatFin
import PyProof.StrLawsIn
import KE.IntTextLaws
import KE.IntTextText
import PyProof.StrLawsTight
import PyProof.StrLawsChain
import PyProof.Rows.StrLawsPart
import PyProof.Rows.StrFirst
import PyProof.Rows.ReprOcc
import PyProof.Rows.StrItems
import KE.KIntText
import PyProof.Rows.FStr
import PyProof.SumAny
import PyProof.SeqI3
import PyProof.WalkInts
import PyProof.NeKinds
import KE.KDictLaws
import PyProof.DictIter
import PyProof.DictWalks
import PyProof.Rows.DictUnroll
import KE.KSortTup
import KE.KDictSum
import KE.KSortKey
import PyProof.Rows.SortRuns
import KE.KRevIter
import PySem.Challenge.RW_jumpfield_k85_far_runs
set_option Elab.async false
set_option linter.all false
set_option maxRecDepth 100000
set_option maxHeartbeats 8000000
theorem A0{p:Prop}(h:p:=by lia):p:=h
theorem A1{p:Prop}(h:p:=by decide +kernel):p:=h
theorem A3{p:Prop}(h:p:=by intro z; cases z):p:=h
theorem A4{p:Prop}(h:p:=by decide):p:=h
theorem A5{p:Prop}(h:p:=by simp):p:=h
theorem A6{p:Prop}(h:p:=by omega):p:=h
theorem A7{p:Prop}(h:p:=by show (0:Int) < 2; decide):p:=h
theorem A8{p:Prop}(h:p:=by show (0:Int) < 2305843009213693951; decide):p:=h
abbrev A9:=@List.length_map
abbrev B0:=@List.length_append
abbrev B1:=@Nat.le_refl
abbrev B3:=@List.getElem?_eq_some_iff
abbrev B4:=@Array.getElem?_eq_getElem
abbrev B5:=@PySem.Heap.get?_push_of_some
abbrev B7:=@List.getElem?_map
abbrev B9:=@List.mem_cons_of_mem
abbrev C0:=@List.getD_eq_getElem?_getD
abbrev C1:=@List.map_append
abbrev C2:=@List.mem_cons
abbrev C3:=@List.getElem?_eq_getElem
abbrev C4:=@List.mem_singleton
abbrev C5:=@Array.length_toList
abbrev C6:=@Nat.le_trans
abbrev C7:=@List.mem_append
abbrev C8:=@PySem.Heap.lt_size
abbrev C9:=@List.map_cons
abbrev D0:=@PySem.Heap.get?_push_size
abbrev D1:=@List.length_cons
abbrev D3:=@List.take_add_one
abbrev D4:=@Bool.false_ne_true
abbrev D5:=@List.mem_map
abbrev D6:=@List.size_toArray
abbrev D7:=@List.mem_cons_self
abbrev D8:=@List.length_singleton
abbrev D9:=@List.mem_of_getElem?
abbrev F0:=@Option.map_eq_some_iff
abbrev F1:=@List.getElem?_append_right
abbrev F2:=@List.take_length
abbrev F3:=@Nat.ne_of_lt
abbrev F4:=@Nat.lt_of_lt_of_le
abbrev F5:=@List.nodup_iff_pairwise_ne
abbrev F6:=@Array.getElem?_eq_some_iff
abbrev F7:=@List.getElem?_append_left
abbrev F8:=@Bool.false_eq_true
abbrev F9:=@List.mem_append_right
abbrev G7:=@Array.getElem?_toList
abbrev G9:=@Nat.zero_le
abbrev J1:=@Array.toList_push
abbrev J9:=@Nat.mod_lt
abbrev L5:=@List.length_take
abbrev L6:=@Nat.not_lt_zero
abbrev L7:=@List.foldl_append
abbrev L8:=@Int.toNat_natCast
abbrev L9:=@List.not_mem_nil
abbrev M0:=@List.mem_range
abbrev M2:=@List.append_nil
abbrev M3:=@List.append_assoc
abbrev M4:=@Nat.le_of_lt
abbrev M6:=@PySem.Heap.get?_update_other
abbrev M7:=@List.pairwise_map
abbrev M8:=@PySem.Heap.get?_none_of_le
abbrev M9:=@Bool.not_true
abbrev N2:=@Int.toNat_of_nonneg
abbrev N3:=@List.range_succ
abbrev N4:=@List.length_replicate
abbrev N5:=@List.getElem?_eq_none
abbrev N6:=@List.getElem_mem
abbrev N7:=@List.all_eq_true
abbrev N8:=@Bool.and_eq_true
abbrev N9:=@List.pairwise_append
abbrev O0:=@List.mem_append_left
abbrev O1:=@List.length_range
abbrev O2:=@Bool.eq_iff_iff
abbrev O3:=@PySem.Heap.get?_update_ne
abbrev O4:=@Nat.zero_add
abbrev O5:=@List.map_map
abbrev O6:=@List.idxOf_lt_length_of_mem
abbrev O7:=@Nat.lt_irrefl
abbrev O8:=@List.lookup_cons
abbrev O9:=@Array.append_empty
abbrev P0:=@List.take_append_drop
abbrev P1:=@Nat.div_add_mod
abbrev P2:=@List.find?_cons
abbrev P3:=@Nat.le_succ
abbrev P4:=@Int.le_refl
abbrev P5:=@Array.getElem_toList
abbrev P6:=@List.map_eq_nil_iff
abbrev P7:=@List.getElem?_range
abbrev P8:=@Nat.succ_le_succ
abbrev P9:=@Nat.div_eq_of_lt
abbrev Q0:=@Nat.add_le_add
abbrev Q4:=@Int.add_sub_cancel
abbrev Q5:=@List.nodup_cons
abbrev Q6:=@List.foldl_cons
abbrev Q7:=@Int.natCast_mul
abbrev Q8:=@Array.extract_eq_empty_of_le
abbrev Q9:=@List.countP_singleton
abbrev R0:=@PySem.Heap.get?_update_self
abbrev R1:=@Nat.le_succ_of_le
abbrev R3:=@List.getElem?_of_mem
abbrev R4:=@PySem.Heap.size_push
abbrev R5:=@Array.toList_extract
abbrev R6:=@Nat.le_of_not_lt
abbrev R7:=@List.drop_eq_getElem_cons
abbrev R8:=@List.map_congr_left
abbrev R9:=@Int.lt_irrefl
abbrev S3:=@Int.natCast_add
abbrev S5:=@Nat.sub_add_cancel
abbrev S6:=@Int.emod_lt_of_pos
abbrev S7:=@Array.size_extract
abbrev S8:=@Nat.add_sub_cancel_left
abbrev S9:=@Nat.lt_trans
abbrev T5:=@List.getElem?_set_self
abbrev T6:=@Array.getElem?_extract
abbrev T7:=@Nat.div_lt_iff_lt_mul
abbrev T8:=@List.eq_nil_or_concat
abbrev T9:=@List.concat_eq_append
abbrev U0:=@Array.reverse_reverse
abbrev U1:=@Nat.lt_succ_self
abbrev U2:=@Nat.add_assoc
abbrev U3:=@List.sum_cons
abbrev U4:=@Nat.add_mul_div_left
abbrev U5:=@Array.toList_reverse
abbrev U6:=@Array.reverse_append
abbrev U7:=@List.sum_append
abbrev U8:=@List.mem_filter
abbrev U9:=@Int.emod_nonneg
abbrev V0:=@List.filterMap_cons
abbrev V1:=@Nat.sub_self
abbrev V2:=@Array.getD_eq_getD_getElem?
abbrev V3:=@Nat.lt_of_le_of_lt
abbrev V4:=@List.nodup_nil
abbrev V5:=@List.countP_append
abbrev V6:=@Array.perm_iff_toList_perm
abbrev V7:=@List.getElem?_eq_none_iff
abbrev V8:=@Nat.lt_succ_of_lt
abbrev V9:=@Int.emod_eq_of_lt
abbrev W0:=@Array.append_push
abbrev W3:=@Nat.lt_succ_iff_lt_or_eq
abbrev W4:=@List.any_cons
abbrev W5:=@List.getElem_map
abbrev W6:=@List.getElem?_replicate
abbrev W7:=@List.countP_cons
abbrev W8:=@Int.eq_ofNat_of_zero_le
abbrev W9:=@Array.toList_inj
abbrev Y0:=@Nat.pow_succ
abbrev Y1:=@List.take_of_length_le
abbrev Y2:=@Int.pow_succ
abbrev Y3:=@Int.add_zero
abbrev Y4:=@Array.getElem?_eq_none
abbrev Y5:=@Option.map_some
abbrev Y6:=@List.of_mem_zip
abbrev Y7:=@Int.natCast_pow
abbrev Y8:=@Nat.pow_le_pow_right
abbrev Y9:=@List.mem_iff_getElem
abbrev Z0:=@List.getElem?_set_ne
abbrev Z1:=@List.flatten_append
abbrev Z2:=@Int.add_assoc
abbrev Z3:=@Option.toList_some
abbrev Z4:=@Option.toList_none
abbrev Z5:=@Nat.pos_of_ne_zero
abbrev Z6:=@Array.forIn_toList
abbrev Z7:=@Option.isSome_map
abbrev Z8:=@Nat.ne_of_gt
abbrev Z9:=@Nat.mul_comm
abbrev X0:=@Nat.le_of_eq
abbrev X1:=@List.nodup_append
abbrev X2:=@List.flatten_cons
abbrev X3:=@List.flatMap_cons
abbrev X4:=@Int.mul_comm
abbrev X5:=@PySem.wpAny_bind
abbrev X6:=@decide_eq_false
abbrev X7:=@decide_eq_true
abbrev X8:=@if_neg
abbrev X9:=@if_pos
abbrev K0:=@PyProof.Rows.wpS_bind
abbrev K1:=@PyProof.Rows.boot_isinstance
abbrev K2:=@PyProof.Rows.wpS_pure
abbrev K3:=@Option.some.inj
abbrev K5:=@PySem.wpAny_pure
abbrev K6:=@PySem.W.mg_of
abbrev K7:=@PySem.F.plainAttrs_list
abbrev K8:=@Int.ofNat.inj
abbrev K9:=@PySem.F.slot_list_append
abbrev A0a:=@PySem.F.type_list_append
abbrev A0b:=@PySem.Paired.length
abbrev A0c:=@Ne.symm
abbrev A0d:=@PySem.PassesOwn.never
abbrev A0e:=@congrArg
abbrev A0f:=@of_decide_eq_true
abbrev A0g:=@PySem.wpAny_mono
abbrev A0h:=@PyProof.Rows.wpS_forRange
abbrev A1a:=@PySem.W.kia_one
abbrev A1b:=@PyProof.Rows.boot_min
abbrev A1c:=@PySem.wpAny_truthy_bool
abbrev A1d:=@PySem.F.plainAttrs_str
abbrev A1e:=@Classical.byContradiction
abbrev A1f:=@PyProof.Rows.int_text_len_1921
abbrev A1g:=@PyProof.Rows.joinParts_cons
abbrev A1h:=@PySem.wpAny_Call_Name_kw
abbrev A2a:=@PySem.mem_of_lookup
abbrev A2b:=@if_false
abbrev A2c:=@PyProof.Rows.wpS_mono
abbrev A2d:=@PyProof.Rows.callWith_type1
abbrev A2e:=@PyProof.Rows.FormattedValue_plain
abbrev A2f:=@PyProof.Rows.boot_int
abbrev A2g:=@PyProof.Rows.boot_max
abbrev A2h:=@PySem.Paired.snoc
abbrev A3a:=@PySem.Obj.data_mapFields
abbrev A3b:=@PySem.boot_len
abbrev A3c:=@PyProof.Rows.wpS_modify
abbrev A3d:=@or_false
abbrev A3e:=@List.cons.inj
abbrev A3f:=@PySem.F.slot_dict_get
abbrev A3g:=@PyProof.Rows.boot_str
abbrev A3h:=@PySem.wpAny_passesOwn
abbrev A4a:=@PySem.wpAny_holding
abbrev A4b:=@PySem.strLen_append
abbrev A4c:=@PySem.wpAny_pyIter_list
abbrev A4d:=@PySem.F.slot_tuple_iterator_next
abbrev A4e:=@PySem.wpAny_rule
abbrev A4f:=@List.Pairwise.imp_of_mem
abbrev A4g:=@PySem.codeAny_mono
abbrev A4h:=@PyProof.Rows.formatField_int_small
abbrev A5a:=@PySem.wpAny_execs_nil
abbrev A5b:=@PySem.wpAny_field
abbrev A5c:=@PySem.wpAny_getItem_str_slice
abbrev A5d:=@Classical.choose_spec
abbrev A5e:=@PySem.Obj.isFreed_of_fields
abbrev A5f:=@PySem.W.callWith_K
abbrev A5g:=@PySem.Calls.evalArgs_plain
abbrev A5h:=@beq_iff_eq
abbrev A6a:=@List.Perm.refl
abbrev A6b:=@PySem.wpAny_specialOf
abbrev A6c:=@PySem.wpAny_call
abbrev A6d:=@PySem.wpAny_setField
abbrev A6e:=@PySem.tupleKind_room_in1
abbrev A6f:=@PySem.F.args_dict_get_2
abbrev A6g:=@PyProof.Rows.wpS_get
abbrev A6h:=@PySem.W.cellsFrom_some
abbrev A7a:=@PySem.F.entry_dict_get
abbrev A7b:=@PySem.wpAny_newObj_type
abbrev A7c:=@PyProof.Rows.boot_sum
abbrev A7d:=@PySem.F.slot_str_join
abbrev A7e:=@PySem.F.type_str_join
abbrev A7f:=@PySem.wpAny_call_entry
abbrev A7g:=@PySem.wpAny_forIn_list
abbrev A7h:=@PySem.W.plainGet_of
abbrev A8a:=@PySem.Calls.callWith_builtin
abbrev A8b:=@PySem.post_val_or_str
abbrev A8c:=@PySem.isSubtype_tuple_tuple
abbrev A8d:=@PySem.wpAny_seqItems
abbrev A8e:=@List.Pairwise.imp
abbrev A8f:=@PySem.wpAny_standAt
abbrev A8g:=@PySem.wpAny_attempt
abbrev A8h:=@PySem.Calls.spliced_cons
abbrev A9a:=@PySem.wpAny_tupleItemsOf
open PySem.W (instObj methodObj lookIn plainGet hasDictIn findIn handedIn isFn plainOver takerIn any_some makesIn emptyDict keepIn specialIn takesIn mroIn kitOne kitx_list kitx_dict codeRec_of notCls excIn clsIn)
namespace L2
open PySem PySem.Spec PyProof.Rows
abbrev Key:=Sum Int Str
def OD:Key->Value->Bool
 |.inl k,v=>Value.isInt k v
 |.inr x,v=>Value.isStrOf x v
def keyH(w:World):Key->Int
 |.inl k=>hashInt k
 |.inr x=>hashStr w x
theorem BJ:∀{k:Key}{v:Value},OD k v=true->(∃i t,k=Sum.inl i/\v=Value.int i t)\/(∃x t,k=Sum.inr x/\v=Value.str x t)
 |.inl i,v,h=>by
  obtain⟨t,e⟩:=Value.isInt_shape (k:=i) (v:=v) h;exact .inl ⟨i,t,rfl,e⟩
 |.inr x,v,h=>by
  obtain⟨t,e⟩:=Value.isStrOf_shape (x:=x) (v:=v) h;exact .inr ⟨x,t,rfl,e⟩
theorem Vg(i:Int)(t:Tok):OD (.inl i) (.int i t)=true:=by simp[OD,Value.isInt]
theorem Ve(x:Str)(t:Tok):OD (.inr x) (.str x t)=true:=by simp[OD,Value.isStrOf]
theorem key_ll(a b:Int):decide ((Sum.inl a:Key)=Sum.inl b)=(a==b):=by
 by_cases e:a=b
 ·subst e;simp
 ·have h:¬(Sum.inl a:Key)=Sum.inl b:=λq=>e (Sum.inl.inj q);rw[X6 h];exact(beq_eq_false_iff_ne.mpr e).symm
theorem key_rr(a b:Str):decide ((Sum.inr a:Key)=Sum.inr b)=decide (a=b):=by
 by_cases e:a=b
 ·subst e;simp
 ·have h:¬(Sum.inr a:Key)=Sum.inr b:=λq=>e (Sum.inr.inj q);rw[X6 h,X6 e]
theorem key_lr(a:Int)(b:Str):decide ((Sum.inl a:Key)=Sum.inr b)=false:=X6 (λq=>nomatch q)
theorem key_rl(a:Str)(b:Int):decide ((Sum.inr a:Key)=Sum.inl b)=false:=X6 (λq=>nomatch q)
def BZ(prog:Program)(w:World):PySem.KeyKind prog w Key where
 is:=OD
 hash:=keyH w
 inj:=λv a b ha hb=>by
  rcases BJ ha with ⟨i,t,rfl,rfl⟩|⟨x,t,rfl,rfl⟩
  ·rcases BJ hb with ⟨j,u,rfl,e⟩|⟨y,u,rfl,e⟩
   ·injection e with e1 _;rw[e1]
   ·exact nomatch e
  ·rcases BJ hb with ⟨j,u,rfl,e⟩|⟨y,u,rfl,e⟩
   ·exact nomatch e
   ·injection e with e1 _;rw[e1]
 byValue:=λk v h=>by
  rcases BJ h with ⟨i,t,rfl,rfl⟩|⟨x,t,rfl,rfl⟩<;>rfl
 pyHash:=λhv h=>by
  rcases BJ hv with ⟨i,t,rfl,rfl⟩|⟨x,t,rfl,rfl⟩
  ·exact wpAny_pyHash_int h
  ·exact wpAny_pyHash_str h
 eqBool:=λhu hv h=>by
  rcases BJ hu with ⟨i,t,rfl,rfl⟩|⟨x,t,rfl,rfl⟩
  ·rcases BJ hv with ⟨j,u,rfl,rfl⟩|⟨y,u,rfl,rfl⟩
   ·rw[key_ll]at h;exact wpAny_eqBool_int h
   ·rw[key_lr]at h;exact SeqAt.EqAt.int_str i t y u _ _ _ _ h
  ·rcases BJ hv with ⟨j,u,rfl,rfl⟩|⟨y,u,rfl,rfl⟩
   ·rw[key_rl]at h;exact SeqAt.EqAt.str_int x t j u _ _ _ _ h
   ·rw[key_rr]at h;exact wpAny_eqBool_str h
 «strs»:=λk x t v h=>by
  rcases BJ h with ⟨i,u,rfl,e⟩|⟨y,u,rfl,e⟩
  ·exact nomatch e
  ·injection e with e1 _
   subst e1;cases v<;>rfl
theorem Rj(prog:Program)(w:World)(i:Int)(t:Tok):(BZ prog w).is (.inl i) (.int i t)=true:=Vg i t
theorem Ri(prog:Program)(w:World)(x:Str)(t:Tok):(BZ prog w).is (.inr x) (.str x t)=true:=Ve x t
inductive V where
 |non|bl (b:Bool)|int (i:Int)|str (x:Str)|byt (b:Array UInt8)|flt (b:UInt64)|ref (a:Addr)|ty (n:String)
 deriving DecidableEq
def AY:V->Value->Prop
 |.non,u=>u=Value.none
 |.bl b,u=>u=Value.bool b
 |.int i,u=>∃t,u=Value.int i t
 |.str x,u=>∃t,u=Value.str x t
 |.byt b,u=>∃t,u=Value.bytes b t
 |.flt b,u=>∃t,u=Value.float b t
 |.ref a,u=>u=Value.ref a
 |.ty n,u=>u=Value.type n
abbrev AN:List V->List Value->Prop:=Paired AY
theorem AN.length{xs:List V}{us:List Value}(r:AN xs us):xs.length=us.length:=A0b r
theorem AN.get:∀{xs:List V}{us:List Value}{i:Nat}{x:V},AN xs us->xs[i]?=some x->∃u,us[i]?=some u/\AY x u
 |_,_,_,_,.nil,e=>by simp at e
 |_,_,0,_,.cons r _,e=>by simp at e;subst e;exact⟨_,rfl,r⟩
 |_,_,i+1,x,.cons _ t,e=>by
  obtain⟨u,h1,h2⟩:=AN.get (i:=i) (x:=x) t (by simpa using e);exact⟨u,by simpa using h1,h2⟩
theorem AN.set{x:V}{u:Value}(r:AY x u):∀{xs:List V}{us:List Value}(i:Nat),AN xs us->AN (xs.set i x) (us.set i u)
 |_,_,_,.nil=>.nil
 |_,_,0,.cons _ t=>.cons r t
 |_,_,i+1,.cons q t=>.cons q (AN.set r i t)
theorem AN.append:∀{xs ys:List V}{us ws:List Value},AN xs us->AN ys ws->AN (xs++ys) (us++ws)
 |_,_,_,_,.nil,s=>s
 |_,_,_,_,.cons r t,s=>.cons r (AN.append t s)
theorem AN.none_of:∀{xs:List V}{us:List Value}{i:Nat},AN xs us->xs[i]?=none->us[i]?=none:=λ{xs us i} r e=>by
 have h1:=r.length;have h2:xs.length<=i:=V7.mp e;exact V7.mpr A0
def GP:Option V->Option Value->Prop
 |some v,some u=>AY v u
 |none,none=>True
 |_,_=>False
def KV{κ:Type}:List (κ×V)->List (κ×Value)->Prop:=Paired λ(p:κ×V)(q:κ×Value)=>p.1=q.1/\AY p.2 q.2
def kV:Key->V
 |.inl i=>.int i
 |.inr x=>.str x
inductive HO where
 |lst (xs:List V)
 |tup (xs:List V)
 |dK (kvs:List (Key×V))|dT (kvs:List (List Key×V))
 |set (S:Int->Bool) (n:Nat)
 |ins (C dx:Addr) (fs:List (Str×V))
 |own (x:Addr)
 |xd (fs:List (Str×V))
 |met (f x:Addr)
 |rng (lo hi:Int)
 |frz (o:Obj) (u:HO)
 |tbl (ps:Array Value)
 |ext (φ:Heap->Prop)
abbrev Hp:=Addr->Option HO
def upd(H:Hp)(a:Addr)(o:HO):Hp:=λb=>if b=a then some o else H b
theorem Ag{H:Hp}{a:Addr}{o:HO}:upd H a o a=some o:=by unfold upd;rw[X9 rfl]
theorem At{H:Hp}{a b:Addr}{o:HO}(h:b≠a):upd H a o b=H b:=by unfold upd;rw[X8 h]
theorem AM{H:Hp}{a b:Addr}{o u:HO}(h:H a=some o)(h':H b=some u)(d:o≠u):a≠b:=by
 intro e;subst e;rw[h]at h';exact d (K3 h')
theorem As{H:Hp}{a b:Addr}{o:HO}(h:H a=some o)(h':H b=none):a≠b:=by
 intro e;subst e;rw[h]at h';cases h'
section
variable(P:Program)(w:World)
def Bl(H:Hp)(h:Heap)(a:Addr):HO->Prop
 |.lst xs=>xs.length<=sizeLine/\∃(its:List Value)(n:Nat),AN xs its/\h.get? a=some {cls:=.type "list",data:=.seq its.toArray n}
 |.tup xs=>xs.length<=sizeLine/\∃its:List Value,AN xs its/\IsTup h a its.toArray
 |.dK kvs=>kvs.length<=sizeLine/\(a==sysModules)=false/\∃vs,KV kvs vs/\h.DictOf (BZ P w) a vs
 |.dT kvs=>kvs.length<=sizeLine/\(a==sysModules)=false/\∃xs:List (List Key×Addr×Value),
   Paired (λ(p:List Key×V)(q:List Key×Addr×Value)=>p.1=q.1/\H q.2.1=some (.tup (p.1.map kV))/\AY p.2 q.2.2) kvs xs /\
   ∃o es ep,h.get? a=some o/\o.ExactDict/\o.data=.dict es ep/\es.toList=xs.map (entryOfKey (tupleKind (BZ P w)))/\(xs.map (·.1)).Nodup
 |.set S n=>h.SetOf (intKind P w) a S n
 |.ins C dx fs=>H dx=some (.own a)/\fs.length<=1000/\dx≠a/\h.get? a=some (instObj C dx) /\
   ∃mA,h.Ns1 dx mA/\(∀f,GP (fs.lookup f) (mA f))/\PySem.Within mA (fs.map (·.1))
 |.own _=>∃o,h.get? a=some o
 |.xd fs=>∃mA,h.Ns1 a mA/\∀f,GP (fs.lookup f) (mA f)
 |.rng lo hi=>∃t u v,h.get? a=some {cls:=.type "range",data:=.fields #[.int lo t,.int hi u,.int 1 v]}
 |.frz o u=>h.get? a=some o/\Bl H h a u
 |.tbl ps=>h.get? a=some {cls:=.none,data:=.fields ps}
 |.met f x=>h.get? a=some (methodObj (.ref f) (.ref x))
 |.ext φ=>φ h/\(∃o,h.get? a=some o)/\∀h1 h2:Heap,φ h1->(∀o,h1.get? a=some o->h2.get? a=some o)->φ h2
def HOk(H:Hp)(h:Heap):Prop:=∀a o,H a=some o->Bl P w H h a o
end
section
variable{P:Program}{w:World}{H H':Hp}{h h':Heap}{a:Addr}{o:HO}
theorem Bl.lt(x:Bl P w H h a o):a<h.objs.size:=by
 cases o with
 |lst xs=>obtain⟨_,_,_,_,e⟩:=x;exact C8 e
 |tup xs=>obtain⟨_,_,_,p⟩:=x;exact p.lt
 |dK kvs=>obtain⟨_,_,_,_,o,_,_,e,_⟩:=x;exact C8 e
 |dT kvs=>obtain⟨_,_,_,_,o,_,_,e,_⟩:=x;exact C8 e
 |set S n=>obtain⟨o,_,_,_,e,_⟩:=x;exact C8 e
 |ins C dx fs=>obtain⟨_,_,_,e,_⟩:=x;exact C8 e
 |own y=>obtain⟨_,e⟩:=x;exact C8 e
 |xd fs=>obtain⟨_,⟨_,_,_,e,_⟩,_⟩:=x;exact C8 e
 |rng lo hi=>obtain⟨_,_,_,e⟩:=x;exact C8 e
 |frz ob u=>obtain⟨e,_⟩:=x;exact C8 e
 |tbl ps=>exact C8 (show h.get? a=some _ from x)
 |met f y=>exact C8 (show h.get? a=some _ from x)
 |ext φ=>obtain⟨_,⟨_,e⟩,_⟩:=x;exact C8 e
theorem Paired.mapP{α β:Type}{F G:α->β->Prop}:∀{l₁:List α}{l₂:List β},Paired F l₁ l₂->(∀a b,F a b->G a b)->Paired G l₁ l₂
 |_,_,.nil,_=>.nil
 |_,_,.cons r t,f=>.cons (f _ _ r) (Paired.mapP t f)
theorem Paired.imp'{α β:Type}{F G:α->β->Prop}(f:∀a b,F a b->G a b){l₁:List α}{l₂:List β}(r:Paired F l₁ l₂):Paired G l₁ l₂:=Paired.mapP r f
theorem Bl.stay(x:Bl P w H h a o)(k:∀b u,(b=a\/H b=some (.own a))->h.get? b=some u->h'.get? b=some u)
  (ho:∀b,H b=some (.own a)->H' b=some (.own a)) (ht:∀b xs,H b=some (.tup xs)->H' b=some (.tup xs)):Bl P w H' h' a o:=by
 induction o with
 |lst xs=>obtain⟨z,its,n,r,e⟩:=x;exact⟨z,its,n,r,k _ _ (.inl rfl) e⟩
 |tup xs=>obtain⟨z,its,r,ob,e,c⟩:=x;exact⟨z,its,r,ob,k _ _ (.inl rfl) e,c⟩
 |dK kvs=>obtain⟨z,y,vs,r,ob,es,ep,e,c⟩:=x;exact⟨z,y,vs,r,ob,es,ep,k _ _ (.inl rfl) e,c⟩
 |dT kvs =>
  obtain⟨z,y,xs,r,ob,es,ep,e,c⟩:=x;exact⟨z,y,xs,Paired.mapP r λp q z=>⟨z.1,ht _ _ z.2.1,z.2.2⟩,ob,es,ep,k _ _ (.inl rfl) e,c⟩
 |set S n=>obtain⟨ob,es,ep,t,e,c⟩:=x;exact⟨ob,es,ep,t,k _ _ (.inl rfl) e,c⟩
 |ins C dx fs =>
  obtain⟨d,z,ne,e,mA,⟨od,es,ep,e2,c⟩,r⟩:=x;exact⟨ho _ d,z,ne,k _ _ (.inl rfl) e,mA,⟨od,es,ep,k _ _ (.inr d) e2,c⟩,r⟩
 |own y=>obtain⟨ob,e⟩:=x;exact⟨ob,k _ _ (.inl rfl) e⟩
 |xd fs=>obtain⟨mA,⟨od,es,ep,e,c⟩,r⟩:=x;exact⟨mA,⟨od,es,ep,k _ _ (.inl rfl) e,c⟩,r⟩
 |rng lo hi=>obtain⟨t,u,v,e⟩:=x;exact⟨t,u,v,k _ _ (.inl rfl) e⟩
 |frz ob u ih=>obtain⟨e,q⟩:=x;exact⟨k _ _ (.inl rfl) e,ih q⟩
 |tbl ps =>
  have e:h.get? a=some {cls:=.none,data:=.fields ps}:=x;show h'.get? a=some {cls:=.none,data:=.fields ps};exact k a _ (.inl rfl) e
 |met f y =>
  have e:h.get? a=some (methodObj (.ref f) (.ref y)):=x;show h'.get? a=some (methodObj (.ref f) (.ref y));exact k a _ (.inl rfl) e
 |ext φ=>obtain⟨p,⟨o,e⟩,st⟩:=x;exact⟨st _ _ p λo q=>k _ _ (.inl rfl) q,⟨o,k _ _ (.inl rfl) e⟩,st⟩
theorem HOk.lt(x:HOk P w H h)(e:H a=some o):a<h.objs.size:=(x a o e).lt
theorem HOk.fresh(x:HOk P w H h)(e:h.objs.size<=a):H a=none:=by
 cases q:H a with
 |none=>rfl
 |some u=>exact absurd (F4 (x.lt q) e) (O7 _)
theorem HOk.kept(x:HOk P w H h)(k:∀b u,h.get? b=some u->h'.get? b=some u):HOk P w H h':=λa o e =>
 (x a o e).stay (λb u _ q=>k b u q) (λ_ q=>q) λ_ _ q=>q
theorem HOk.laid(x:HOk P w H h)(k:∀b u,h.get? b=some u->h'.get? b=some u)(hp:h.objs.size<=a)(new:Bl P w (upd H a o) h' a o):HOk P w (upd H a o) h':=λb u e=>by
 have hn:=x.fresh hp;by_cases hb:b=a
 ·subst hb;rw[Ag]at e;cases e;exact new
 ·rw[At hb]at e;exact(x b u e).stay (λc v _ q=>k c v q) (λc q=>by rw[At (As q hn)];exact q) λc xs q=>by rw[At (As q hn)];exact q
end
def Rd(H:Hp)(a:Addr)(u:HO):Prop:=H a=some u\/∃o,H a=some (.frz o u)
theorem Rd.ok{P:Program}{w:World}{H:Hp}{h:Heap}{a:Addr}{u:HO}(r:Rd H a u)(x:HOk P w H h):Bl P w H h a u:=by
 rcases r with r|⟨o,r⟩
 ·exact x a u r
 ·obtain⟨_,q⟩:=x a _ r;exact q
def Mut:Option HO->Prop
 |some (.lst _)=>True
 |some (.dK _)=>True
 |some (.dT _)=>True
 |some (.set _ _)=>True
 |some (.ins _ _ _)=>True
 |some (.ext _)=>True
 |_=>False
section
variable{P:Program}{w:World}{H:Hp}{h h':Heap}{x e:Addr}{o':HO}
theorem HOk.write(ok:HOk P w H h)(mu:Mut (H x))(he:e=x\/H e=some (.own x))(k:∀b u,b≠e->h.get? b=some u->h'.get? b=some u)(heo:∃u,h'.get? e=some u)
  (new:Bl P w (upd H x o') h' x o'):HOk P w (upd H x o') h':=λb u q=>by
 have nown:∀c y,H c=some (.own y)->c≠x:=λc y r z=>by subst z;rw[r]at mu;exact mu
 have ntup:∀c xs,H c=some (.tup xs)->c≠x:=λc xs r z=>by subst z;rw[r]at mu;exact mu
 by_cases hb:b=x
 ·subst hb;rw[Ag]at q;cases q;exact new
 ·rw[At hb]at q;by_cases hbe:b=e
  ·have q':H b=some (.own x):=by
    rcases he with z|z
    ·exact absurd (hbe.trans z) hb
    ·rw[hbe];exact z
   rw[q]at q';cases q';obtain⟨v,hv⟩:=heo;exact⟨v,by rw[hbe];exact hv⟩
  ·refine(ok b u q).stay (λc v hc r=>k c v ?_ r) (λc r=>by rw[At (nown c b r)];exact r) λc xs r=>by rw[At (ntup c xs r)];exact r
   rcases hc with rfl|hc
   ·exact hbe
   ·rintro rfl;rcases he with z|z
    ·exact nown c b hc z
    ·rw[hc]at z;cases z;exact hb rfl
end
structure Un(fs ex:List Addr)(H H':Hp)(h h':Heap):Prop where
 keep:∀b o,h.get? b=some o->H b=none->b∉fs->b∉ex->h'.get? b=some o
 slot:∀b o,h.get? b=some o->H b=none->b∈fs->b∉ex->∃sl,h'.get? b=some {o with slots:=sl}
 free:∀b o,h.get? b=some o->H b=none->b∉ex->H' b=none
 there:∀b o,h.get? b=some o->b∉ex->∃o',h'.get? b=some o'
 tups:∀b xs,H b=some (.tup xs)->H' b=some (.tup xs)
 frzs:∀b o u,H b=some (.frz o u)->H' b=some (.frz o u)
 tbls:∀b ps,H b=some (.tbl ps)->∃more,H' b=some (.tbl (ps++more))
section
variable{fs fs' ex ex':List Addr}{H H1 H2:Hp}{h h1 h2 h':Heap}{a x e:Addr}{o:HO}
theorem Un.any(u:Un fs ex H H1 h h1){b:Addr}{ob:Obj}(q:h.get? b=some ob)(n:H b=none)(hx:b∉ex):∃sl,h1.get? b=some {ob with slots:=sl}:=by
 by_cases hb:b∈fs
 ·exact u.slot b ob q n hb hx
 ·exact⟨ob.slots,u.keep b ob q n hb hx⟩
theorem Un.kept(k:∀b u,h.get? b=some u->h'.get? b=some u):Un fs ex H H h h' :=
 ⟨λb ob q _ _ _=>k b ob q,λb ob q _ _ _=>⟨ob.slots,k b ob q⟩,λ_ _ _ n _=>n,λb ob q _=>⟨ob,k b ob q⟩,λ_ _ q=>q,λ_ _ _ q=>q,λ_ ps q=>⟨#[],by rw[q];simp⟩⟩
theorem Un.refl:Un fs ex H H h h:=Un.kept λ_ _ q=>q
theorem Un.laid(k:∀b u,h.get? b=some u->h'.get? b=some u)(hp:h.objs.size<=a)(hn:H a=none):Un fs ex H (upd H a o) h h' where
 keep:=λb u q _ _ _=>k b u q
 slot:=λb u q _ _ _=>⟨u.slots,k b u q⟩
 free:=λb u q n _=>by rw[At (F3 (F4 (C8 q) hp))];exact n
 there:=λb u q _=>⟨u,k b u q⟩
 tups:=λb xs q=>by rw[At (As q hn)];exact q
 frzs:=λb u xs q=>by rw[At (As q hn)];exact q
 tbls:=λb ps q=>⟨#[],by rw[At (As q hn),q];simp⟩
theorem Un.write(mu:Mut (H x))(he:e=x\/H e=some (.own x))(k:∀b u,b≠e->h.get? b=some u->h'.get? b=some u)(heo:∃u,h'.get? e=some u):Un fs ex H (upd H x o) h h':=by
 have hx:∀b,H b=none->b≠x:=λb n z=>by subst z;rw[n]at mu;exact mu
 have hb:∀b,H b=none->b≠e:=λb n z=>by
  subst z;rcases he with r|r
  ·exact hx b n r
  ·rw[n]at r;cases r
 have hm:∀b u,H b=some u->¬Mut (some u)->b≠x:=λb u q nm z=>by subst z;rw[q]at mu;exact nm mu
 refine⟨λb u q n _ _=>k b u (hb b n) q,λb u q n _ _=>⟨u.slots,k b u (hb b n) q⟩,λb u q n _=>by rw[At (hx b n)];exact n,λb u q _=>?_,
  λb xs q=>by rw[At (hm b _ q λz=>z)];exact q,λb u xs q=>by rw[At (hm b _ q λz=>z)];exact q,λb ps q=>⟨#[],by rw[At (hm b _ q λz=>z),q];simp⟩⟩
 by_cases hbe:b=e
 ·subst hbe;exact heo
 ·exact⟨u,k b u hbe q⟩
end
def trk(h:Heap)(H:Hp):List Addr:=(List.range h.objs.size).filter λa=>(H a).isSome
def Qf(h:Heap)(H:Hp):Heap:=PySem.W.hideAll h (trk h H)
theorem Vj(h:Heap)(H:Hp):(Qf h H).objs.size=h.objs.size:=PySem.W.hideAll_size _ _
theorem Yl{h:Heap}{H:Hp}{b:Addr}{o:Obj}(e:h.get? b=some o)(n:H b=none):(Qf h H).get? b=some o :=
 PySem.W.hideAll_get _ e λhm=>by
  have q:(H b).isSome=true:=(U8.mp hm).2;rw[n]at q;simp at q
theorem of_hidT{h:Heap}{H:Hp}{b:Addr}{o:Obj}(e:(Qf h H).get? b=some o):h.get? b=some o/\H b=none:=by
 have e':h.get? b=some o:=PySem.W.of_hideAll (trk h H) e;refine⟨e',?_⟩;cases q:H b with
 |none=>rfl
 |some x =>
  have hm:b∈trk h H:=U8.mpr ⟨M0.mpr (C8 e'),by simp[q]⟩;have z:(Qf h H).get? b=none:=PySem.W.hideAll_none (trk h H) hm;rw[z]at e;cases e
structure Mod(K:PySem.W.Frag)(mg:Str->Option Value)(base:Heap):Prop where
 kin:K.In base
 glob:base.Ns mainGlobals mg
 blt:∃mb,base.Ns builtinsNs mb/\∀x:Str,x≠"__name__" -> mb x=bootBuiltins x
 nolimit:base.NoLimit
structure Cx where
 prog:Program
 w:World
 K:PySem.W.Frag
 mg:Str->Option Value
 base:Heap
 A:Around
 N:List Str
 s₀:Shared
 H₀:Hp
 env:Env
 outer:List Env
 stack:List Env
 ex:List Addr
 fn:Str->Bool
 calm:Bool
 pn:List (Addr×Obj)
 xe:Value->Shared->Prop
def frs(l:List Env):List Addr:=l.filterMap (·.frame)
abbrev Cx.fs(X:Cx):List Addr:=frs X.outer
def Vis(sc:Scope)(x:Str):Prop:=sc.names.lookup x=some .local\/sc.names.lookup x=some .cell\/sc.names.lookup x=some .free
def Loc(sc:Scope)(x:Str):Prop:=sc.names.lookup x=some .local\/sc.names.lookup x=some .cell
def Look(env:Env)(h:Heap)(m:Str->Option Value)(x:Str)(u:Value):Prop :=
 (env.kindOf x=some .local/\m x=some u)\/((env.kindOf x=some .cell\/env.kindOf x=some .free)/\∃c,env.cells.lookup x=some c/\h.IsCell c (some u))
structure Cx.Ok(X:Cx):Prop where
 mod:Mod X.K X.mg X.base
 kind:X.env.scope.kind=.function
 glob:X.env.globals=mainGlobals
 blt:X.env.builtins=builtinsNs
 above:X.s₀.heap.objs.size<=X.env.locals
 inj:∀x y c,X.env.cells.lookup x=some c->X.env.cells.lookup y=some c->x=y
 has:∀x,(X.env.kindOf x=some .cell\/X.env.kindOf x=some .free)->∃c,X.env.cells.lookup x=some c
 cab:∀x c,X.fn x=true->X.env.cells.lookup x=some c->X.s₀.heap.objs.size<=c
 hd:X.calm=true->X.A.handled=none
 frames:X.A.frames=some X.stack
 stk:X.stack=X.outer\/(X.stack=X.env::X.outer/\X.env.frame=some X.env.locals)
 exf:∀b∈X.ex,b≠X.env.locals/\∀x c,X.env.cells.lookup x=some c->c≠b
 bs:∀b o,X.base.get? b=some o->X.s₀.heap.get? b=some o/\X.H₀ b=none
 bsz:X.base.objs.size<=X.s₀.heap.objs.size
 noex:∀b o,X.base.get? b=some o->b∉X.ex
 exfs:∀b∈X.ex,b∉X.fs
 funs:X.s₀.heap.FunFrames X.base X.outer
 frf:∀b∈X.fs,X.H₀ b=none
structure Inv(X:Cx)(pins:List (Addr×Obj))(σ:List (Option V))(H:Hp)(s:Shared):Prop where
 ok:X.Ok
 os:s.os=X.s₀.os
 bare:AllBare s.gens
 base:Un X.fs X.ex X.H₀ H X.s₀.heap s.heap
 loc:∃m,s.heap.Ns X.env.locals m/\∀(i:Nat)(x:Str)(v:V),X.N[i]?=some x->σ[i]?=some (some v)->Vis X.env.scope x->∃u,AY v u/\Look X.env s.heap m x u
 cell:∀x c,X.env.cells.lookup x=some c->∃v,s.heap.IsCell c v
 free:H X.env.locals=none
 freeC:∀x c,X.env.cells.lookup x=some c->H c=none
 pin:∀p∈X.pn++pins,s.heap.get? p.1=some p.2/\H p.1=none/\p.1≠X.env.locals/\p.1∉X.fs/\∀v,p.2.data≠.cell v
 hok:HOk X.prog X.w H s.heap
 len:σ.length=X.N.length
section
variable{X:Cx}{pins:List (Addr×Obj)}{σ:List (Option V)}{H H':Hp}{s:Shared}{h':Heap}
theorem Cx.Ok.nofr(ok:X.Ok){b:Addr}{o:Obj}(e:X.base.get? b=some o):b∉X.fs:=λhb=>by
 have:=(ok.funs.mem hb).1;rw[e]at this;cases this
theorem Inv.bs(I:Inv X pins σ H s):∀b o,X.base.get? b=some o->s.heap.get? b=some o/\H b=none:=λb o e =>
 ⟨I.base.keep b o (I.ok.bs b o e).1 (I.ok.bs b o e).2 (I.ok.nofr e) (I.ok.noex b o e),I.base.free b o (I.ok.bs b o e).1 (I.ok.bs b o e).2 (I.ok.noex b o e)⟩
theorem Inv.bk(I:Inv X pins σ H s):∀b o,X.base.get? b=some o->s.heap.get? b=some o:=λb o e=>(I.bs b o e).1
theorem Inv.mod(I:Inv X pins σ H s):Mod X.K X.mg X.base:=I.ok.mod
theorem Inv.kIn(I:Inv X pins σ H s):X.K.In s.heap:=I.ok.mod.kin.keeps I.bk
theorem Inv.lt(I:Inv X pins σ H s):X.env.locals<s.heap.objs.size:=let ⟨_,hn,_⟩:=I.loc;hn.lt
theorem Inv.sz(I:Inv X pins σ H s):X.s₀.heap.objs.size<=s.heap.objs.size:=C6 I.ok.above (M4 I.lt)
theorem Inv.nofs(I:Inv X pins σ H s){a:Addr}(h:s.heap.objs.size<=a):a∉X.fs:=λhb=>by
 obtain⟨_,o,ho,_⟩:=I.ok.funs.mem hb;exact absurd (F4 (C8 ho) (C6 I.sz h)) (O7 _)
theorem Inv.cne(I:Inv X pins σ H s):∀x c,X.env.cells.lookup x=some c->c≠X.env.locals:=λx c e z=>by
 obtain⟨v,o,ho,hd⟩:=I.cell x c e;obtain⟨m,⟨o',es,ep,ho',hd',_⟩,_⟩:=I.loc;rw[z,ho']at ho;cases ho;rw[hd']at hd;cases hd
theorem Inv.funs (I:Inv X pins σ H s):s.heap.FunFrames X.base X.outer:=by
 have all:∀(l:List Env),(∀b∈frs l,b∈X.fs)->X.s₀.heap.FunFrames X.base l->s.heap.FunFrames X.base l:=by
  intro l;induction l with
  |nil=>intro _ _;trivial
  |cons env r ih =>
   intro hs hl;obtain⟨hk,⟨L,o,hf,hn,ho,hd⟩,hr⟩:=hl;have hL:L∈X.fs:=hs L (by unfold frs;rw[V0,hf];exact D7);obtain⟨sl,e⟩:=I.base.slot L o ho (I.ok.frf L hL) hL λz=>I.ok.exfs L z hL;exact⟨hk,⟨L,_,hf,hn,e,hd⟩,ih (λb hb=>hs b (by unfold frs;rw[V0,hf];exact B9 _ hb)) hr⟩
 exact all X.outer (λ_ hb=>hb) I.ok.funs
theorem Inv.stack(I:Inv X pins σ H s):s.heap.FunFrames X.base X.stack:=by
 rcases I.ok.stk with e|⟨e,hf⟩
 ·rw[e];exact I.funs
 ·rw[e];obtain⟨m,hn,_⟩:=I.loc;refine .cons (by rw[I.ok.kind];decide) hf hn ?_ I.funs;exact M8 (C6 I.ok.bsz I.ok.above)
theorem Inv.stkSub(I:Inv X pins σ H s):∀b∈frs X.stack,b∈X.env.locals::X.fs:=λb hb=>by
 rcases I.ok.stk with e|⟨e,hf⟩
 ·rw[e]at hb;exact B9 _ hb
 ·rw[e]at hb;unfold frs at hb;rw[V0,hf]at hb;exact hb
theorem Inv.stkFree(I:Inv X pins σ H s):∀b∈frs X.stack,H b=none:=λb hb=>by
 rcases C2.mp (I.stkSub b hb)with e|hb
 ·rw[e];exact I.free
 ·obtain⟨_,o,ho,_⟩:=I.ok.funs.mem hb;exact I.base.free b o ho (I.ok.frf b hb) λz=>I.ok.exfs b z hb
theorem Inv.step{g':Array GenState}{t':Nat}{d':Drawn}{ch:List Addr}(I:Inv X pins σ H s)
  (hch:∀b∈ch,(b∈X.ex\/X.s₀.heap.objs.size<=b)/\b≠X.env.locals/\(∀x c,X.env.cells.lookup x=some c->c≠b)/\∀p∈X.pn++pins,p.1≠b)
  (keep:∀b o,b≠X.env.locals->b∉X.fs->b∉ch->s.heap.get? b=some o->H b=none->h'.get? b=some o)
  (slot:∀b o,b≠X.env.locals->b∈X.fs->b∉ch->s.heap.get? b=some o->H b=none->∃sl,h'.get? b=some {o with slots:=sl}) (free:∀b o,b∉ch->s.heap.get? b=some o->H b=none->H' b=none)
  (there:∀b o,b∉ch->s.heap.get? b=some o->∃o',h'.get? b=some o')
  (tups:∀b xs,H b=some (.tup xs)->H' b=some (.tup xs)) (frzs:∀b o u,H b=some (.frz o u)->H' b=some (.frz o u)) (tbls:∀b ps,H b=some (.tbl ps)->∃more,H' b=some (.tbl (ps++more)))
  (ns:∀m,s.heap.Ns X.env.locals m->h'.Ns X.env.locals m) (hok:HOk X.prog X.w H' h') (hg:AllBare g') :
  Inv X pins σ H' {s with heap:=h',gens:=g',drawn:=d',toks:=t'}:=by
 have neL:∀b o,X.s₀.heap.get? b=some o->b≠X.env.locals:=λb o e=>F3 (F4 (C8 e) I.ok.above);have neC:∀b o,X.s₀.heap.get? b=some o->b∉X.ex->b∉ch:=λb o e hx hb=>by
  rcases(hch b hb).1 with z|z
  ·exact hx z
  ·exact absurd (F4 (C8 e) z) (O7 _)
 have cellK:∀x c,X.env.cells.lookup x=some c->∀v,s.heap.IsCell c v->h'.IsCell c v:=λx c e v ⟨o,ho,hd⟩=>by
  have nch:c∉ch:=λz=>(hch c z).2.2.1 x c e rfl;by_cases hc:c∈X.fs
  ·obtain⟨sl,q⟩:=slot c o (I.cne x c e) hc nch ho (I.freeC x c e);exact⟨_,q,hd⟩
  ·exact⟨o,keep c o (I.cne x c e) hc nch ho (I.freeC x c e),hd⟩
 refine⟨I.ok,I.os,hg,⟨λb o e n hb hx=>?_,λb o e n hb hx=>?_,λb o e n hx=>?_,λb o e hx=>?_,λb xs e=>tups b xs (I.base.tups b xs e),λb o xs e=>frzs b o xs (I.base.frzs b o xs e),λb ps e=>?_⟩,?_,λx c e=>?_,?_,λx c e=>?_,λp hp=>?_,hok,I.len⟩
 ·exact keep b o (neL b o e) hb (neC b o e hx) (I.base.keep b o e n hb hx) (I.base.free b o e n hx)
 ·obtain⟨sl,e1⟩:=I.base.slot b o e n hb hx;obtain⟨sl',e2⟩:=slot b _ (neL b o e) hb (neC b o e hx) e1 (I.base.free b o e n hx);exact⟨sl',e2⟩
 ·obtain⟨o',e1⟩:=I.base.there b o e hx;exact free b o' (neC b o e hx) e1 (I.base.free b o e n hx)
 ·obtain⟨o',e1⟩:=I.base.there b o e hx;exact there b o' (neC b o e hx) e1
 ·obtain⟨m1,e1⟩:=I.base.tbls b ps e;obtain⟨m2,e2⟩:=tbls b _ e1;exact⟨m1++m2,by rw[e2,Array.append_assoc]⟩
 ·obtain⟨m,hn,hl⟩:=I.loc;refine⟨m,ns m hn,λi x v e1 e2 e3=>?_⟩;obtain⟨u,r,l⟩:=hl i x v e1 e2 e3;refine⟨u,r,?_⟩;rcases l with l|⟨k,c,e,z⟩
  ·exact .inl l
  ·exact .inr ⟨k,c,e,cellK x c e _ z⟩
 ·obtain⟨v,z⟩:=I.cell x c e;exact⟨v,cellK x c e v z⟩
 ·obtain⟨m,⟨o,_,_,ho,_⟩,_⟩:=I.loc;exact free _ o (λz=>(hch _ z).2.1 rfl) ho I.free
 ·obtain⟨v,o,ho,hd⟩:=I.cell x c e;exact free c o (λz=>(hch c z).2.2.1 x c e rfl) ho (I.freeC x c e)
 ·obtain⟨e,n,ne,nf,d⟩:=I.pin p hp;have nch:p.1∉ch:=λz=>(hch p.1 z).2.2.2 p hp rfl;exact⟨keep p.1 p.2 ne nf nch e n,free p.1 p.2 nch e n,ne,nf,d⟩
theorem Inv.un{t':Nat}(I:Inv X pins σ H s)(u:Un X.fs [] H H' s.heap h')(hok:HOk X.prog X.w H' h'):Inv X pins σ H' {s with heap:=h',toks:=t'}:=by
 obtain⟨m,⟨o,es,ep,ho,r⟩,_⟩:=id I.loc;obtain⟨sl,hL⟩:=u.any ho I.free A5;exact I.step (g':=s.gens) (d':=s.drawn) (ch:=[]) (λ_ z=>nomatch z) (λb o _ hb _ e n=>u.keep b o e n hb A5) (λb o _ hb _ e n=>u.slot b o e n hb A5) (λb o _ e n=>u.free b o e n A5) (λb o _ e=>u.there b o e A5) u.tups u.frzs u.tbls (λm' hm=>by
  obtain⟨o',es',ep',ho',r'⟩:=hm;rw[ho]at ho';cases ho';exact⟨_,es',ep',hL,r'⟩) hok I.bare
theorem Inv.call{g':Array GenState}{t':Nat}{d':Drawn}{ch:List Addr}(I:Inv X pins σ H s)(u:Un (frs X.stack) ch H H' s.heap h')(hok:HOk X.prog X.w H' h')(hg:AllBare g')
  (hch:∀b∈ch,(b∈X.ex\/X.s₀.heap.objs.size<=b)/\b≠X.env.locals/\(∀x c,X.env.cells.lookup x=some c->c≠b)/\∀p∈X.pn++pins,p.1≠b) :
  Inv X pins σ H' {s with heap:=h',gens:=g',drawn:=d',toks:=t'}:=by
 obtain⟨m,⟨o,es,ep,ho,r⟩,_⟩:=id I.loc;obtain⟨sl,hL⟩:=u.any ho I.free λz=>(hch _ z).2.1 rfl;exact I.step (ch:=ch) hch (λb o hL hb hc e n=>u.keep b o e n (λz=>(C2.mp (I.stkSub b z)).elim hL hb) hc) (λb o _ _ hc e n=>u.any e n hc) (λb o hc e n=>u.free b o e n hc) (λb o hc e=>u.there b o e hc) u.tups u.frzs u.tbls (λm' hm=>by
  obtain⟨o',es',ep',ho',r'⟩:=hm;rw[ho]at ho';cases ho';exact⟨_,es',ep',hL,r'⟩) hok hg
theorem Inv.turned{t':Nat}{it:Addr}(I:Inv X pins σ H s)(k:∀b o,b≠it->s.heap.get? b=some o->h'.get? b=some o)(hn:H it=none)(hL:it≠X.env.locals)
  (h1:it∈X.ex\/X.s₀.heap.objs.size<=it) (h2:∀x c,X.env.cells.lookup x=some c->c≠it) (h3:∀p∈X.pn++pins,p.1≠it):Inv X pins σ H {s with heap:=h',toks:=t'}:=by
 have nit:∀b u,H b=some u->b≠it:=λb u e z=>by rw[z,hn]at e;cases e
 refine I.step (g':=s.gens) (d':=s.drawn) (ch:=[it]) (λb hb=>?_) (λb o _ _ hc e _=>k b o (λz=>hc (by simp[z])) e) (λb o _ _ hc e _=>⟨o.slots,k b o (λz=>hc (by simp[z])) e⟩) (λ_ _ _ _ n=>n)
  (λb o hc e=>⟨o,k b o (λz=>hc (by simp[z])) e⟩) (λ_ _ e=>e) (λ_ _ _ e=>e) (λb ps e=>⟨#[],by rw[e];simp⟩) (λm hm=>?_) (λb u e=>?_) I.bare
 ·have e:b=it:=by simpa using hb
  subst e;exact⟨h1,hL,h2,h3⟩
 ·obtain⟨o,es,ep,ho,r⟩:=hm;exact⟨o,es,ep,k _ o (A0c hL) ho,r⟩
 ·refine(I.hok b u e).stay (λc v hc q=>k c v ?_ q) (λ_ q=>q) λ_ _ q=>q;rcases hc with z|z
  ·rw[z];exact nit b u e
  ·exact nit c _ z
theorem Inv.tok(I:Inv X pins σ H s)(t:Nat):Inv X pins σ H {s with toks:=t}:=I.un (h':=s.heap) (t':=t) Un.refl I.hok
theorem Inv.kept{t':Nat}(I:Inv X pins σ H s)(k:∀b u,s.heap.get? b=some u->h'.get? b=some u):Inv X pins σ H {s with heap:=h',toks:=t'}:=I.un (Un.kept k) (I.hok.kept k)
theorem Inv.laid{a:Addr}{o:HO}{t':Nat}(I:Inv X pins σ H s)(k:∀b u,s.heap.get? b=some u->h'.get? b=some u)(hp:s.heap.objs.size<=a)(new:Bl X.prog X.w (upd H a o) h' a o) :
  Inv X pins σ (upd H a o) {s with heap:=h',toks:=t'}:=I.un (Un.laid k hp (I.hok.fresh hp)) (I.hok.laid k hp new)
theorem Inv.write{x e:Addr}{o:HO}{t':Nat}(I:Inv X pins σ H s)(mu:Mut (H x))(he:e=x\/H e=some (.own x))(k:∀b u,b≠e->s.heap.get? b=some u->h'.get? b=some u)(heo:∃u,h'.get? e=some u)
  (new:Bl X.prog X.w (upd H x o) h' x o):Inv X pins σ (upd H x o) {s with heap:=h',toks:=t'}:=I.un (Un.write mu he k heo) (I.hok.write mu he k heo new)
theorem Inv.weak{σ':List (Option V)}(I:Inv X pins σ H s)(hl:σ'.length=σ.length)(w:∀(i:Nat) v,σ'[i]?=some (some v)->σ[i]?=some (some v)):Inv X pins σ' H s :=
 ⟨I.ok,I.os,I.bare,I.base,let ⟨m,hn,hl'⟩:=I.loc;⟨m,hn,λi x v e1 e2 e3=>hl' i x v e1 (w i v e2) e3⟩,I.cell,I.free,I.freeC,I.pin,I.hok,hl.trans I.len⟩
theorem Inv.pins_of{pins':List (Addr×Obj)}(I:Inv X pins σ H s)(h:∀p∈pins',s.heap.get? p.1=some p.2/\H p.1=none/\p.1≠X.env.locals/\p.1∉X.fs/\∀v,p.2.data≠.cell v):Inv X pins' σ H s :=
 ⟨I.ok,I.os,I.bare,I.base,I.loc,I.cell,I.free,I.freeC,λp hp=>(C7.mp hp).elim (λz=>I.pin p (O0 _ z)) (h p),I.hok,I.len⟩
theorem MQ{N:List Str}(hN:N.Nodup){i j:Nat}{x:Str}(a:N[i]?=some x)(b:N[j]?=some x):i=j:=by
 obtain⟨h1,e1⟩:=B3.mp a;obtain⟨h2,e2⟩:=B3.mp b;exact(List.getElem_inj hN).mp (e1.trans e2.symm)
theorem Oo{M:Model}{A:Around}{E:Value->Shared->Prop}{i:Nat}{x:Str}{v:V}{u:Value}{Q:Unit->Shared->Prop}(I:Inv X pins σ H s)(hN:X.N.Nodup)(hi:X.N[i]?=some x)(hx:Loc X.env.scope x)(r:AY v u)
  (h:∀s',Inv X pins (σ.set i (some v)) H s'->(∃a,Heap.SameBut a s.heap s'.heap/\(a=X.env.locals\/X.env.cells.lookup x=some a))->Q () s') (hf:X.fn x=true\/X.env.scope.names.lookup x=some .local:=by first|exact .inl rfl|exact .inr rfl|assumption):wpAny M A (storeName X.env x u) Q E s:=by
 obtain⟨m,hn,hl⟩:=id I.loc;have hcls:(X.env.scope.kind==.class || (X.env.scope.kind==.module && X.env.locals != X.env.globals))=false:=by rw[I.ok.kind];rfl
 have hiσ:i<σ.length:=by rw[I.len];exact(B3.mp hi).1
 have cne:=I.cne;have tracked:∀{a:Addr}{h':Heap},(∃o,s.heap.get? a=some o/\H a=none)->Heap.SameBut a s.heap h'->HOk X.prog X.w H h':=λ{a h'} ha hs b ob e=>by
  obtain⟨_,_,hfree⟩:=ha;refine(I.hok b ob e).stay (λc w' hc q=>(hs.2 c ?_).trans q) (λ_ q=>q) λ_ _ q=>q;rintro rfl;rcases hc with rfl|hc
  ·rw[hfree]at e;cases e
  ·rw[hfree]at hc;cases hc
 rcases hx with hk|hk
 ·refine wpAny_storeName_local hk hn (λh' hn' hs=>?_) hcls;obtain⟨oL,_,_,hoL,_⟩:=id hn;refine h _ ⟨I.ok,I.os,I.bare,⟨λb o e n hb hx=>?_,λb o e n hb hx=>?_,I.base.free,λb o e hx=>?_,I.base.tups,I.base.frzs,I.base.tbls⟩,⟨_,hn',λj y v' e1 e2 e3=>?_⟩,λy c e=>?_,I.free,I.freeC,λp hp=>?_,tracked ⟨oL,hoL,I.free⟩ hs,by simpa using I.len⟩ ⟨_,hs,.inl rfl⟩
  ·exact(hs.2 b (F3 (F4 (C8 e) I.ok.above))).trans (I.base.keep b o e n hb hx)
  ·obtain⟨sl,e1⟩:=I.base.slot b o e n hb hx;exact⟨sl,(hs.2 b (F3 (F4 (C8 e) I.ok.above))).trans e1⟩
  ·obtain⟨o',e1⟩:=I.base.there b o e hx;exact⟨o',(hs.2 b (F3 (F4 (C8 e) I.ok.above))).trans e1⟩
  ·by_cases hj:j=i
   ·subst hj;rw[hi]at e1;cases e1;rw[T5 hiσ]at e2;cases e2;exact⟨u,r,.inl ⟨hk,by simp⟩⟩
   ·rw[Z0 (A0c hj)]at e2;obtain⟨u',r',q⟩:=hl j y v' e1 e2 e3;refine⟨u',r',?_⟩;rcases q with ⟨k,e⟩|⟨k,c,e,z⟩
    ·refine .inl ⟨k,?_⟩;have:y≠x:=λe=>hj (MQ hN e1 (e▸hi));simp[this,e]
    ·exact .inr ⟨k,c,e,z.sameBut hs (cne y c e)⟩
  ·obtain⟨w',z⟩:=I.cell y c e;exact⟨w',z.sameBut hs (cne y c e)⟩
  ·obtain⟨e,n,ne,nf,d⟩:=I.pin p hp;exact⟨(hs.2 p.1 ne).trans e,n,ne,nf,d⟩
 ·have hfn:X.fn x=true:=by
   rcases hf with z|z
   ·exact z
   ·rw[z]at hk;cases hk
  obtain⟨c,hc⟩:=I.ok.has x (.inl hk);obtain⟨w',z⟩:=I.cell x c hc;refine wpAny_storeName_cell I.ok.kind hk hc z (λh' hc' hs=>?_);obtain⟨oc,hoc,hocd⟩:=id z;refine h {s with heap:=h'} ⟨I.ok,I.os,I.bare,⟨λb o e n hb hx=>?_,λb o e n hb hx=>?_,I.base.free,λb o e hx=>?_,I.base.tups,I.base.frzs,I.base.tbls⟩,⟨m,hn.sameBut hs (A0c (cne x c hc)),λj y v' e1 e2 e3=>?_⟩,λy c' e=>?_,I.free,I.freeC,λp hp=>?_,tracked ⟨oc,hoc,I.freeC x c hc⟩ hs,by simpa using I.len⟩ ⟨c,hs,.inr hc⟩
  ·exact(hs.2 b (F3 (F4 (C8 e) (I.ok.cab x c hfn hc)))).trans (I.base.keep b o e n hb hx)
  ·obtain⟨sl,e1⟩:=I.base.slot b o e n hb hx;exact⟨sl,(hs.2 b (F3 (F4 (C8 e) (I.ok.cab x c hfn hc)))).trans e1⟩
  ·obtain⟨o',e1⟩:=I.base.there b o e hx;exact⟨o',(hs.2 b (F3 (F4 (C8 e) (I.ok.cab x c hfn hc)))).trans e1⟩
  ·by_cases hj:j=i
   ·subst hj;rw[hi]at e1;cases e1;rw[T5 hiσ]at e2;cases e2;exact⟨u,r,.inr ⟨.inl hk,c,hc,hc'⟩⟩
   ·rw[Z0 (A0c hj)]at e2;obtain⟨u',r',q⟩:=hl j y v' e1 e2 e3;refine⟨u',r',?_⟩;rcases q with q|⟨k,c',e,z'⟩
    ·exact .inl q
    ·refine .inr ⟨k,c',e,z'.sameBut hs ?_⟩;rintro rfl;exact hj (MQ hN e1 (I.ok.inj _ _ _ e hc▸hi))
  ·by_cases hcc:c'=c
   ·subst hcc;exact⟨_,hc'⟩
   ·obtain⟨w2,z2⟩:=I.cell y c' e;exact⟨w2,z2.sameBut hs hcc⟩
  ·obtain⟨e,n,ne,nf,d⟩:=I.pin p hp;refine⟨(hs.2 p.1 ?_).trans e,n,ne,nf,d⟩;intro q;rw[q,hoc]at e;have q':oc=p.2:=K3 e;exact d w' (by rw[<-q'];exact hocd)
theorem Mw{M:Model}{A:Around}{E:Value->Shared->Prop}{i:Nat}{x:Str}{v:V}{u:Value}{Q:Unit->Shared->Prop}(I:Inv X pins σ H s)(hN:X.N.Nodup)(hi:X.N[i]?=some x)(hx:Loc X.env.scope x)(r:AY v u)
  (h:∀s',Inv X pins (σ.set i (some v)) H s'->Q () s') (hf:X.fn x=true\/X.env.scope.names.lookup x=some .local:=by first|exact .inl rfl|exact .inr rfl|assumption):wpAny M A (storeName X.env x u) Q E s :=
 Oo I hN hi hx r (λs' I' _=>h s' I') hf
theorem Inv.call'{s':Shared}{ch:List Addr}(I:Inv X pins σ H s)(ho:s'.os=s.os)(u:Un (frs X.stack) ch H H' s.heap s'.heap)(hok:HOk X.prog X.w H' s'.heap)(hg:AllBare s'.gens)
  (hch:∀b∈ch,(b∈X.ex\/X.s₀.heap.objs.size<=b)/\b≠X.env.locals/\(∀x c,X.env.cells.lookup x=some c->c≠b)/\∀p∈X.pn++pins,p.1≠b):Inv X pins σ H' s':=by
 obtain⟨h',g',d',t',o'⟩:=s';have e:o'=s.os:=ho;subst e;exact I.call (g':=g') (t':=t') (d':=d') u hok hg hch
end
abbrev XK:=Value->Option Addr->Hp->Prop
abbrev St:=List (Option V)
abbrev VK:=V->Hp->Prop
abbrev TE:=St->Hp->VK->Prop
abbrev TT:=St->Hp->(Bool->Hp->Prop)->Prop
abbrev TA:=St->Hp->(List V->Hp->Prop)->Prop
structure JU where
 nx:St->Hp->Prop
 rt:VK
 bk:St->Hp->Prop:=λ_ _=>False
 ct:St->Hp->Prop:=λ_ _=>False
abbrev TS:=JU->St->Hp->Prop
def EP(X:Cx)(pins:List (Addr×Obj))(σ:St)(Q:VK)(u:Value)(s':Shared):Prop:=∃v H',Inv X pins σ H' s'/\AY v u/\Q v H'
def TP(X:Cx)(pins:List (Addr×Obj))(σ:St)(Q:Bool->Hp->Prop)(b:Bool)(s':Shared):Prop:=∃H',Inv X pins σ H' s'/\Q b H'
def AP(X:Cx)(pins:List (Addr×Obj))(σ:St)(Q:List V->Hp->Prop)(us:List Value)(s':Shared):Prop:=∃vs H',Inv X pins σ H' s'/\AN vs us/\Q vs H'
def SP(X:Cx)(pins:List (Addr×Obj))(D:JU)(f:Flow)(s':Shared):Prop :=
 match f with
 |.next=>∃σ' H',Inv X pins σ' H' s'/\D.nx σ' H'
 |.brk=>∃σ' H',Inv X pins σ' H' s'/\D.bk σ' H'
 |.cont=>∃σ' H',Inv X pins σ' H' s'/\D.ct σ' H'
 |.ret u=>∃v σ' H',Inv X pins σ' H' s'/\AY v u/\D.rt v H'
def PE(X:Cx)(e:Expr)(t:TE):Prop :=
 ∀(pins:List (Addr×Obj))(s:Shared)(σ:St)(H:Hp)(Q:VK),Inv X pins σ H s->t σ H Q->wpAny (model X.prog X.w) X.A (eval e X.env) (EP X pins σ Q) X.xe s
def PT(X:Cx)(e:Expr)(t:TT):Prop :=
 ∀(pins:List (Addr×Obj))(s:Shared)(σ:St)(H:Hp)(Q:Bool->Hp->Prop),Inv X pins σ H s->t σ H Q->wpAny (model X.prog X.w) X.A (isTrue e X.env (eval e X.env)) (TP X pins σ Q) X.xe s
def PW(X:Cx)(e:Expr)(t:TT):Prop :=
 ∀(whole:Sem Value)(pins:List (Addr×Obj))(s:Shared)(σ:St)(H:Hp)(Q:Bool->Hp->Prop),Inv X pins σ H s->t σ H Q->wpAny (model X.prog X.w) X.A (isTrue e X.env whole) (TP X pins σ Q) X.xe s
theorem PW.pt{X:Cx}{e:Expr}{t:TT}(h:PW X e t):PT X e t:=h _
def PA(X:Cx)(es:List Expr)(t:TA):Prop :=
 ∀(pos:Pos)(pins:List (Addr×Obj))(s:Shared)(σ:St)(H:Hp)(Q:List V->Hp->Prop),Inv X pins σ H s->t σ H Q->wpAny (model X.prog X.w) X.A (spliced (backTo pos (starEach es X.env))) (AP X pins σ Q) X.xe s
def PS(X:Cx)(st:Stmt)(t:TS):Prop :=
 ∀(pins:List (Addr×Obj))(s:Shared)(σ:St)(H:Hp)(D:JU),Inv X pins σ H s->t D σ H->wpAny (model X.prog X.w) X.A (exec st X.env) (SP X pins D) X.xe s
def PSs(X:Cx)(st:List Stmt)(t:TS):Prop :=
 ∀(pins:List (Addr×Obj))(s:Shared)(σ:St)(H:Hp)(D:JU),Inv X pins σ H s->t D σ H->wpAny (model X.prog X.w) X.A (execs st X.env) (SP X pins D) X.xe s
theorem thn{α:Type}{t:Sem α}{Q Q':α->Shared->Prop}{M:Model}{A:Around}{E:Value->Shared->Prop}{s:Shared}(h:wpAny M A t Q E s)(hQ:∀a s,Q a s->Q' a s):wpAny M A t Q' E s:=A0g h hQ λ_ _ x=>x
section
variable{X:Cx}
def Pf(i:Nat):TE:=fun σ H Q=>∃v,σ[i]?=some (some v)/\Q v H
def tC(v:V):TE:=λ_ H Q=>Q v H
theorem pe_var{i:Nat}{x:Str}{pos:Pos}(hN:X.N[i]?=some x)(hv:Vis X.env.scope x)(hd:(x==("__debug__" : Str))=false:=by decide)(hcd:(x==("__classdict__" : Str))=false:=by decide):PE X (.Name x pos) (Pf i):=by
 intro pins s σ H Q I h;obtain⟨v,e,h⟩:=h;obtain⟨m,hn,hl⟩:=I.loc;obtain⟨u,r,l⟩:=hl i x v hN e hv;have fin:EP X pins σ Q u s:=⟨v,H,I,r,h⟩
 rcases l with ⟨hk,hm⟩|⟨hk,c,hc,hcell⟩
 ·exact wpAny_Name (wpAny_loadName_local I.ok.kind hk hn hm fin) hd
 ·rcases hk with hk|hk
  ·exact wpAny_Name (wpAny_loadName_cell I.ok.kind hk hc hcell fin) hd
  ·exact wpAny_Name (wpAny_loadName_free I.ok.kind hk hc hcell fin hcd) hd
theorem Af{i j pos}:PE X (.Constant (.int i) j pos) (tC (.int i)):=λ_ _ _ H _ I h=>wpAny_Constant_int ⟨.int i,H,I.tok _,⟨_,rfl⟩,h⟩
theorem IZ{b j pos}:PE X (.Constant (.bool b) j pos) (tC (.bl b)):=λ_ _ _ H _ I h=>Constant_bool ⟨.bl b,H,I,rfl,h⟩
theorem Ig{j pos}:PE X (.Constant .none j pos) (tC .non):=λ_ _ _ H _ I h=>Constant_none ⟨.non,H,I,rfl,h⟩
theorem Bn{x j pos}:PE X (.Constant (.str x) j pos) (tC (.str x)):=λ_ _ _ H _ I h=>Calls.Constant_str ⟨.str x,H,I.tok _,⟨_,rfl⟩,h⟩
def Gl(X:Cx)(x:Str):Prop:=X.env.kindOf x=some .globalImplicit
theorem GK{E:Value->Shared->Prop}{pins:List (Addr×Obj)}{s:Shared}{σ:St}{H:Hp}{x:Str}{u:Value}{pos:Pos}{Q:Value->Shared->Prop}(I:Inv X pins σ H s)(hg:Gl X x)(hm:X.mg x=some u)(h:Q u s)
  (hd:(x==("__debug__" : Str))=false:=by decide):wpAny (model X.prog X.w) X.A (eval (.Name x pos) X.env) Q E s :=
 Calls.Name_function_global I.ok.kind hg (Calls.loadGlobal_global (by rw[I.ok.glob];exact I.mod.glob.keeps I.bk) hm h) hd
theorem Iq{E:Value->Shared->Prop}{pins:List (Addr×Obj)}{s:Shared}{σ:St}{H:Hp}{x:Str}{u:Value}{pos:Pos}{Q:Value->Shared->Prop}(I:Inv X pins σ H s)(hg:Gl X x)(hm:X.mg x=none)(hv:bootBuiltins x=some u)(h:Q u s)
  (hn:x≠"__name__" := by decide) (hd:(x==("__debug__" : Str))=false:=by decide):wpAny (model X.prog X.w) X.A (eval (.Name x pos) X.env) Q E s:=by
 obtain⟨mb,h1,h2⟩:=I.mod.blt;exact Calls.Name_function_global I.ok.kind hg (Calls.loadGlobal_builtin (by rw[I.ok.glob];exact I.mod.glob.keeps I.bk) hm (by rw[I.ok.blt];exact h1.keeps I.bk) ((h2 x hn).trans hv) h) hd
theorem Px{x:Str}{v:V}{u:Value}{pos:Pos}(hg:Gl X x)(hm:X.mg x=some u)(r:AY v u)(hd:(x==("__debug__" : Str))=false:=by decide):PE X (.Name x pos) (tC v) :=
 λ_ _ _ H _ I h=>GK I hg hm ⟨v,H,I,r,h⟩ hd
theorem EB{x:Str}{v:V}{u:Value}{pos:Pos}(hg:Gl X x)(hm:X.mg x=none)(hv:bootBuiltins x=some u)(r:AY v u)(hn:x≠"__name__" := by decide)(hd:(x==("__debug__" : Str))=false:=by decide):PE X (.Name x pos) (tC v) :=
 λ_ _ _ H _ I h=>Iq I hg hm hv ⟨v,H,I,r,h⟩ hn hd
variable{a b:Expr}{ta tb:TE}{pos:Pos}
def PC(X:Cx)(op:CmpOp)(a b:Expr)(t:TE):Prop :=
 ∀(pins:List (Addr×Obj))(s:Shared)(σ:St)(H:Hp)(Q:VK),Inv X pins σ H s->t σ H Q ->
  wpAny (model X.prog X.w) X.A (eval a X.env) (λv s₁=>wpAny (model X.prog X.w) X.A (eval b X.env) (λu s₂=>wpAny (model X.prog X.w) X.A (compareOp op v u) (EP X pins σ Q) X.xe s₂) X.xe s₁) X.xe s
def tB(t:TE):TT:=fun σ H Q=>t σ H λx H1=>∃c,x=.bl c/\Q c H1
theorem pt_cmp{op:CmpOp}{t:TE}(h:PC X op a b t)(h1:behindInMarks op b=false:=by first|exact nobehind _ A4 A4|rfl):PT X (.Compare a [op] [b] pos) (tB t):=by
 intro pins s σ H Q I hw;refine wpAny_isTrue_Compare1 (thn (h pins s σ H _ I hw) λv s1 h1=>thn h1 λu s2 h2=>thn h2 λc s3 ⟨x,H1,I1,r1,q1⟩=>?_) h1;obtain⟨d,rfl,q⟩:=q1;cases r1;exact A1c ⟨H1,I1,q⟩
theorem BK{e:Expr}{t:TE}(h:PE X e t)(he:∀whole,isTrue e X.env whole=(do let v <-whole;standAt e.pos;holding [v] (truthy v)):=by intro _;rfl):PT X e (tB t):=by
 intro pins s σ H Q I hw;refine isTrue_plain (thn (h pins s σ H _ I hw) λv s1 ⟨x,H1,I1,r1,q1⟩=>?_) (he _);obtain⟨d,rfl,q⟩:=q1;cases r1;exact A1c ⟨H1,I1,q⟩
variable{tA tB':TT}{rest:List Expr}
def tAnd(t u:TT):TT:=fun σ H Q=>t σ H λc H1=>if c=true then u σ H1 Q else Q false H1
def tOr(t u:TT):TT:=fun σ H Q=>t σ H λc H1=>if c=true then Q true H1 else u σ H1 Q
def tNot(t:TT):TT:=fun σ H Q=>t σ H λc H1=>Q (!c) H1
theorem JB(ha:PT X a tA):PW X (.BoolOp .And [a] pos) tA:=by
 intro wh pins s σ H Q I h;refine isTrue_and (thn (ha pins s σ H Q I h) λc s1 e=>?_);cases c with
 |true=>exact isTrue_and_nil e
 |false=>exact e
theorem DH(ha:PT X a tA):PW X (.BoolOp .Or [a] pos) tA:=by
 intro wh pins s σ H Q I h;refine isTrue_or (thn (ha pins s σ H Q I h) λc s1 e=>?_);cases c with
 |false=>exact isTrue_or_nil e
 |true=>exact e
theorem MG(ha:PT X a tA)(hb:PW X (.BoolOp .And (b::rest) pos) tB'):PW X (.BoolOp .And (a::b::rest) pos) (tAnd tA tB'):=by
 intro wh pins s σ H Q I h;refine isTrue_and (thn (ha pins s σ H _ I h) λc s1 ⟨H1,I1,q1⟩=>?_);cases c with
 |true=>exact hb wh pins s1 σ H1 Q I1 q1
 |false=>exact⟨H1,I1,q1⟩
theorem EX(ha:PT X a tA)(hb:PW X (.BoolOp .Or (b::rest) pos) tB'):PW X (.BoolOp .Or (a::b::rest) pos) (tOr tA tB'):=by
 intro wh pins s σ H Q I h;refine isTrue_or (thn (ha pins s σ H _ I h) λc s1 ⟨H1,I1,q1⟩=>?_);cases c with
 |true=>exact⟨H1,I1,q1⟩
 |false=>exact hb wh pins s1 σ H1 Q I1 q1
theorem Cj(ha:PT X a tA):PT X (.UnaryOp .Not a pos) (tNot tA):=by
 intro pins s σ H Q I h;exact isTrue_not (ha pins s σ H (λc H1=>Q (!c) H1) I h)
def tAndV(ta tb:TE):TE:=fun σ H Q=>ta σ H λx H1=>∃c,x=.bl c/\if c=true then tb σ H1 Q else Q (.bl false) H1
def tNotV(ta:TE):TE:=fun σ H Q=>ta σ H λx H1=>∃c,x=.bl c/\Q (.bl (!c)) H1
theorem Jn{op}{t:TE}(h:PE X a t):PE X (.BoolOp op [a] pos) t:=λpins s σ H Q I hw=>BoolOp_one (h pins s σ H Q I hw)
theorem FF(ha:PE X a ta)(hb:PE X (.BoolOp .And (b::rest) pos) tb):PE X (.BoolOp .And (a::b::rest) pos) (tAndV ta tb):=by
 intro pins s σ H Q I h;refine BoolOp_and (thn (ha pins s σ H _ I h) λv s1 ⟨x,H1,I1,r1,q1⟩=>?_);obtain⟨c,rfl,q1⟩:=q1;cases r1;refine A1c ?_;cases c with
 |true=>exact hb pins s1 σ H1 Q I1 q1
 |false=>exact⟨.bl false,H1,I1,rfl,q1⟩
theorem Wk(ha:PE X a ta):PE X (.UnaryOp .Not a pos) (tNotV ta):=by
 intro pins s σ H Q I h;refine UnaryOp_ (thn (ha pins s σ H _ I h) λv s1 ⟨x,H1,I1,r1,q1⟩=>?_);obtain⟨c,rfl,q1⟩:=q1;cases r1;exact not_of (A1c ⟨.bl (!c),H1,I1,rfl,q1⟩)
end
def SqL(K:PySem.W.Frag)(H:Hp)(a:Addr)(xs:List V):Prop :=
 Rd H a (.lst xs) \/
  ∃(o:Obj)(its:Array Value)(n:Nat),K.lookup a=some o/\o.cls=.type "list" /\ o.dict=none/\o.data=.seq its n/\its.size<=sizeLine/\AN xs its.toList
def SqT(K:PySem.W.Frag)(H:Hp)(a:Addr)(xs:List V):Prop :=
 Rd H a (.tup xs) \/
  ∃(o:Obj)(its:Array Value)(n:Nat),K.lookup a=some o/\o.cls=.type "tuple" /\ o.data=.seq its n/\its.size<=sizeLine/\AN xs its.toList
def absV:Value->Option V
 |.none=>some .non
 |.bool b=>some (.bl b)
 |.int i _=>some (.int i)
 |.str x _=>some (.str x)
 |.bytes b _=>some (.byt b)
 |.float b _=>some (.flt b)
 |.ref a=>some (.ref a)
 |.type n=>some (.ty n)
 |_=>none
theorem AY.abs{x:V}{u:Value}(r:AY x u):absV u=some x:=by
 cases x with
 |non=>cases r;rfl
 |bl _=>cases r;rfl
 |int _=>obtain⟨t,rfl⟩:=r;rfl
 |str _=>obtain⟨t,rfl⟩:=r;rfl
 |byt _=>obtain⟨t,rfl⟩:=r;rfl
 |flt _=>obtain⟨t,rfl⟩:=r;rfl
 |ref _=>cases r;rfl
 |ty _=>cases r;rfl
theorem AY.inj{x y:V}{u:Value}(r:AY x u)(q:AY y u):x=y:=K3 (r.abs.symm.trans q.abs)
theorem AN.inj:∀{xs ys:List V}{us:List Value},AN xs us->AN ys us->xs=ys
 |_,_,_,.nil,.nil=>rfl
 |_,_,_,.cons r t,.cons r' t'=>by rw[r.inj r',AN.inj t t']
section
variable{X:Cx}{pins:List (Addr×Obj)}{σ:St}{H:Hp}{s:Shared}{a:Addr}{xs ys:List V}
theorem SqL.of{K:PySem.W.Frag}(h:H a=some (.lst xs)):SqL K H a xs:=.inl (.inl h)
theorem SqT.of{K:PySem.W.Frag}(h:H a=some (.tup xs)):SqT K H a xs:=.inl (.inl h)
theorem Inv.list(I:Inv X pins σ H s)(h:SqL X.K H a xs):∃its:List Value,AN xs its/\PlainL s.heap a its.toArray/\xs.length<=sizeLine:=by
 rcases h with h|⟨o,its,n,hk,hc,hd,hs,hz,r⟩
 ·obtain⟨z,its,n,r,e⟩:=h.ok I.hok;exact⟨its,r,⟨_,n,e,rfl,rfl,rfl⟩,z⟩
 ·refine⟨its.toList,r,⟨o,n,I.kIn a o hk,hc,hd,by simpa using hs⟩,?_⟩;have e:=r.length;simp only[C5]at e;lia
theorem Inv.tuple(I:Inv X pins σ H s)(h:SqT X.K H a xs):∃its:List Value,AN xs its/\IsTup s.heap a its.toArray/\xs.length<=sizeLine:=by
 rcases h with h|⟨o,its,n,hk,hc,hs,hz,r⟩
 ·obtain⟨z,its,r,p⟩:=h.ok I.hok;exact⟨its,r,p,z⟩
 ·refine⟨its.toList,r,⟨o,I.kIn a o hk,hc,n,by simpa using hs⟩,?_⟩;have e:=r.length;simp only[C5]at e;lia
theorem Inv.list_inj(I:Inv X pins σ H s)(h:SqL X.K H a xs)(h':SqL X.K H a ys):xs=ys:=by
 obtain⟨its,r,⟨o,n,e,_,_,d⟩,_⟩:=I.list h;obtain⟨its',r',⟨o',n',e',_,_,d'⟩,_⟩:=I.list h';rw[e]at e';cases e';rw[d]at d';injection d' with d1 _
 have:its=its':=by simpa using A0e Array.toList d1
 subst this;exact r.inj r'
theorem Inv.tuple_inj(I:Inv X pins σ H s)(h:SqT X.K H a xs)(h':SqT X.K H a ys):xs=ys:=by
 obtain⟨its,r,⟨o,e,_,n,d⟩,_⟩:=I.tuple h;obtain⟨its',r',⟨o',e',_,n',d'⟩,_⟩:=I.tuple h';rw[e]at e';cases e';rw[d]at d';injection d' with d1 _
 have:its=its':=by simpa using A0e Array.toList d1
 subst this;exact r.inj r'
end
abbrev Cx.wish(X:Cx)(E:Value->Shared->Prop):Cx:={X with xe:=E}
abbrev Cx.nox(X:Cx):Cx:=X.wish λ_ _=>False
theorem Cx.Ok.wish{X:Cx}(ok:X.Ok)(E:Value->Shared->Prop):(X.wish E).Ok :=
 ⟨ok.mod,ok.kind,ok.glob,ok.blt,ok.above,ok.inj,ok.has,ok.cab,ok.hd,ok.frames,ok.stk,ok.exf,ok.bs,ok.bsz,ok.noex,ok.exfs,ok.funs,ok.frf⟩
theorem Cx.Ok.unwish{X:Cx}{E:Value->Shared->Prop}(ok:(X.wish E).Ok):X.Ok :=
 ⟨ok.mod,ok.kind,ok.glob,ok.blt,ok.above,ok.inj,ok.has,ok.cab,ok.hd,ok.frames,ok.stk,ok.exf,ok.bs,ok.bsz,ok.noex,ok.exfs,ok.funs,ok.frf⟩
section
variable{X:Cx}{pins:List (Addr×Obj)}{σ:St}{H:Hp}{s:Shared}{E:Value->Shared->Prop}
theorem Inv.wish(I:Inv X pins σ H s)(E:Value->Shared->Prop):Inv (X.wish E) pins σ H s:=⟨I.ok.wish E,I.os,I.bare,I.base,I.loc,I.cell,I.free,I.freeC,I.pin,I.hok,I.len⟩
theorem Inv.unwish(I:Inv (X.wish E) pins σ H s):Inv X pins σ H s:=⟨I.ok.unwish,I.os,I.bare,I.base,I.loc,I.cell,I.free,I.freeC,I.pin,I.hok,I.len⟩
theorem SP.unwish{D:JU}{f:Flow}{s':Shared}(h:SP (X.wish E) pins D f s'):SP X pins D f s':=by
 cases f with
 |next=>obtain⟨σ',H',I,q⟩:=h;exact⟨σ',H',I.unwish,q⟩
 |brk=>obtain⟨σ',H',I,q⟩:=h;exact⟨σ',H',I.unwish,q⟩
 |cont=>obtain⟨σ',H',I,q⟩:=h;exact⟨σ',H',I.unwish,q⟩
 |ret u=>obtain⟨v,σ',H',I,r,q⟩:=h;exact⟨v,σ',H',I.unwish,r,q⟩
theorem PSs.nox{st:List Stmt}{t:TS}(h:PSs X.nox st t):PSs X st t:=λpins s σ H D I hw =>
 A0g (h pins s σ H D (I.wish _) hw) (λ_ _ q=>q.unwish) λ_ _ z=>False.elim z
end
section
variable{X:Cx}{st:Stmt}{rest:List Stmt}{t u:TS}{e:Expr}{te:TE}{pos:Pos}
def tNext:TS:=λD σ H=>D.nx σ H
def VF(t u:TS):TS:=λD σ H=>t {D with nx:=u D} σ H
theorem Au:PSs X [] tNext:=λ_ _ σ H _ I h=>A5a ⟨σ,H,I,h⟩
theorem Ab(h1:PS X st t)(h2:PSs X rest u):PSs X (st::rest) (VF t u):=by
 intro pins s σ H D I h;refine wpAny_execs_cons (thn (h1 pins s σ H {D with nx:=u D} I h) λf s1 q=>?_);cases f with
 |next =>
  obtain⟨σ',H',I',q⟩:=q;exact h2 pins s1 σ' H' D I' q
 |ret v=>exact q
 |brk=>exact q
 |cont=>exact q
theorem Ae(h1:PS X st t):PSs X [st] t:=by
 intro pins s σ H D I h;refine wpAny_execs_cons (thn (h1 pins s σ H D I h) λf s1 q=>?_);cases f with
 |next=>exact A5a q
 |ret v=>exact q
 |brk=>exact q
 |cont=>exact q
theorem Inv.quiet{pins:List (Addr×Obj)}{σ:St}{H:Hp}{s:Shared}(I:Inv X pins σ H s):interactive X.env=false:=by simp[interactive,I.ok.kind]
def tDrop(te:TE):TS:=λD σ H=>te σ H λ_ H1=>D.nx σ H1
theorem Be(he:PE X e te)(hs:swapsWith e none pos.line X.env=pure false:=by rfl):PS X (.Expr e pos) (tDrop te):=by
 intro pins s σ H D I h;exact wpAny_Expr_any (thn (he pins s σ H _ I h) λv s1 ⟨x,H1,I1,r1,q1⟩=>⟨σ,H1,I1,q1⟩) I.quiet hs
def tRet(te:TE):TS:=λD σ H=>te σ H D.rt
theorem An(he:PE X e te):PS X (.Return (some e) pos) (tRet te):=by
 intro pins s σ H D I h;exact wpAny_Return_some (thn (he pins s σ H _ I h) λv s1 ⟨x,H1,I1,r1,q1⟩=>⟨x,σ,H1,I1,r1,q1⟩)
def tRetN:TS:=λD _ H=>D.rt .non H
theorem TF:PS X (.Return none pos) tRetN:=λ_ _ σ H _ I h=>wpAny_Return_none ⟨.non,σ,H,I,rfl,h⟩
def tIfS(c:TT)(t u:TS):TS:=λD σ H=>c σ H λb H1=>if b=true then t D σ H1 else u D σ H1
theorem AB{c:Expr}{a b:List Stmt}{tc:TT}(hc:PT X c tc)(ha:PSs X a t)(hb:PSs X b u):PS X (.If c a b pos) (tIfS tc t u):=by
 intro pins s σ H D I h;refine wpAny_If (thn (hc pins s σ H _ I h) λd s1 ⟨H1,I1,q1⟩=>?_);cases d with
 |true=>exact ha pins s1 σ H1 D I1 q1
 |false=>exact hb pins s1 σ H1 D I1 q1
def tNever:TS:=λ_ _ _=>False
theorem AZ:PS X st tNever:=λ_ _ _ _ _ _ h=>h.elim
end
abbrev TG:=V->St->Hp->(St->Hp->Prop)->Prop
abbrev TGs:=List V->St->Hp->(St->Hp->Prop)->Prop
def PG(X:Cx)(target:Expr)(t:TG):Prop :=
 ∀(pins:List (Addr×Obj))(s:Shared)(σ:St)(H:Hp)(v:V)(u:Value)(Q:St->Hp->Prop),Inv X pins σ H s->AY v u->t v σ H Q ->
  wpAny (model X.prog X.w) X.A (assign target X.env u) (λ_ s'=>∃σ' H',Inv X pins σ' H' s'/\Q σ' H') X.xe s
def PGs(X:Cx)(ts:List Expr)(t:TGs):Prop :=
 ∀(pins:List (Addr×Obj))(s:Shared)(σ:St)(H:Hp)(vs:List V)(us:List Value)(Q:St->Hp->Prop),Inv X pins σ H s->AN vs us->t vs σ H Q ->
  wpAny (model X.prog X.w) X.A (assignInOrder ((assignEach ts X.env).map (·.2)) us) (λ_ s'=>∃σ' H',Inv X pins σ' H' s'/\Q σ' H') X.xe s
abbrev TSet:=V->V->V->Hp->(Hp->Prop)->Prop
def PSet(X:Cx)(t:TSet):Prop :=
 ∀(pins:List (Addr×Obj))(s:Shared)(σ:St)(H:Hp)(o i v:V)(ov iv u:Value)(Q:Hp->Prop),Inv X pins σ H s->AY o ov->AY i iv->AY v u->t o i v H Q ->
  wpAny (model X.prog X.w) X.A (setItem ov iv u) (λ_ s'=>∃H',Inv X pins σ H' s'/\Q H') X.xe s
section
variable{X:Cx}{pos:Pos}
def Rs(i:Nat):TG:=λv σ H Q=>Q (σ.set i (some v)) H
theorem AD{i:Nat}{x:Str}(hN:X.N.Nodup)(hi:X.N[i]?=some x)(hx:Loc X.env.scope x)(hf:X.fn x=true\/X.env.scope.names.lookup x=some .local:=by first|exact .inl rfl|exact .inr rfl|assumption):PG X (.Name x pos) (Rs i):=by
 intro pins s σ H v u Q I r h;exact wpAny_assign_Name (Mw I hN hi hx r (λs' I'=>⟨_,H,I',h⟩) hf)
def gNil:TGs:=λvs σ H Q=>vs=[]/\Q σ H
def Yn(t:TG)(u:TGs):TGs:=λvs σ H Q=>∃v r,vs=v::r/\t v σ H fun σ' H'=>u r σ' H' Q
theorem CT:PGs X [] gNil:=by
 intro pins s σ H vs us Q I r h;obtain⟨e,h⟩:=h;subst e;cases r;exact assignInOrder_nil ⟨σ,H,I,h⟩
theorem AH{e:Expr}{es:List Expr}{t:TG}{u:TGs}(h1:PG X e t)(h2:PGs X es u)
  (hs:(assignEach (e::es) X.env).map (·.2)=assign e X.env::(assignEach es X.env).map (·.2):=by rfl):PGs X (e::es) (Yn t u):=by
 intro pins s σ H vs us Q I r h;obtain⟨v,vr,e1,h⟩:=h;subst e1;cases r with
 |cons r rr =>
  rw[hs];refine assignInOrder_cons (thn (h1 pins s σ H _ _ _ I r h) λ_ s1 ⟨σ1,H1,I1,q1⟩=>?_);exact h2 pins s1 σ1 H1 _ _ Q I1 rr q1
def gTup(K:PySem.W.Frag)(n:Nat)(t:TGs):TG:=λv σ H Q=>∃a xs,v=.ref a/\SqT K H a xs/\xs.length=n/\t xs σ H Q
theorem El{es:List Expr}{k:Nat}{t:TGs}{n:Nat}(hc:X.calm=true)(h:PGs X es t)
  (hn:(assignEach es X.env).length=n:=by rfl) (hst:(assignEach es X.env).findIdx? (·.1)=none:=by rfl):PG X (.Tuple es k pos) (gTup X.K n t):=by
 intro pins s σ H v u Q I r hw;obtain⟨a,xs,e1,hq,hl,hw⟩:=hw;subst e1;cases r;obtain⟨its,rv,ht,hz⟩:=I.tuple hq;refine assign_Tuple_tuple (I.ok.hd hc) ht (by simp[hn,<-hl,rv.length]) hst λh' hx=>?_;have I1:Inv X pins σ H {s with heap:=h'}:=I.kept (t':=s.toks) λb o e=>hx b o (F3 (C8 e)) e;exact h pins _ σ H xs _ Q I1 (by simpa using rv) hw
def gSub(to ti:TE)(t:TSet):TG:=λv σ H Q=>to σ H λo H1=>ti σ H1 λi H2=>t o i v H2 λH3=>Q σ H3
theorem pg_sub{o i:Expr}{to ti:TE}{t:TSet}(ho:PE X o to)(hi:PE X i ti)(hs:PSet X t)
  (ha:∀v,assign (.Subscript o i pos) X.env v=(do
   let ov <-holding [v] (eval o X.env);let iv <-holding [v,ov] (eval i X.env)
   standAt pos
   holding [v,ov,iv] (setItem ov iv v)
   release [v,ov,iv] []):=by intro _;rfl):PG X (.Subscript o i pos) (gSub to ti t):=by
 intro pins s σ H v u Q I r h;rw[ha];refine X5 (A4a (thn (ho pins s σ H _ I h) λov s1 ⟨x,H1,I1,r1,q1⟩=>?_));refine X5 (A4a (thn (hi pins s1 σ H1 _ I1 q1) λiv s2 ⟨y,H2,I2,r2,q2⟩=>?_));refine X5 (A8f (X5 (A4a (thn (hs pins s2 σ H2 x y v ov iv u _ I2 r1 r2 r q2) λ_ s3 ⟨H3,I3,q3⟩=>?_))));exact wpAny_release ⟨σ,H3,I3,q3⟩
def tAsg(te:TE)(g:TG):TS:=λD σ H=>te σ H λx H1=>g x σ H1 D.nx
theorem Sl{tg e:Expr}{te:TE}{g:TG}(he:PE X e te)(hg:PG X tg g)(hs:swapsWithSole [tg] e pos.line X.env=pure false:=by rfl)(hw:swappedStores [tg] e X.env=pure none:=by rfl)
  (h1:(assignEach [tg] X.env).map (·.2)=[assign tg X.env]:=by rfl):PS X (.Assign [tg] e pos) (tAsg te g):=by
 intro pins s σ H D I h;refine wpAny_Assign_stores (thn (he pins s σ H _ I h) λv s1 ⟨x,H1,I1,r1,q1⟩=>?_) hs hw;rw[h1];exact thn (hg pins s1 σ H1 x v _ I1 r1 q1) λ_ s2 q=>q
theorem Aj{i:Nat}{x:Str}{e:Expr}{te:TE}{pos':Pos}(hN:X.N.Nodup)(hi:X.N[i]?=some x)(hx:Loc X.env.scope x)(he:PE X e te)(hs:swapsWith e (some (.Name x pos')) pos.line X.env=pure false:=by rfl)(hf:X.fn x=true\/X.env.scope.names.lookup x=some .local:=by first|exact .inl rfl|exact .inr rfl|assumption) :
  PS X (.Assign [.Name x pos'] e pos) (tAsg te (Rs i)):=by
 intro pins s σ H D I h;refine wpAny_Assign_Name (thn (he pins s σ H _ I h) λv s1 ⟨y,H1,I1,r1,q1⟩=>?_) hs;exact Mw I1 hN hi hx r1 (λs2 I2=>⟨_,H1,I2,q1⟩) hf
end
section
variable{X:Cx}{pos:Pos}
def tWhile(c:TT)(tb:TS):TS:=λD σ H=>∃W:Nat->St->Hp->Prop,(∃m,W m σ H)/\∀m σ H,W m σ H ->
 c σ H λb H1=>if b=true then ∃N:St->Hp->Prop,(∀σ' H',N σ' H'->∃m',m'<m/\W m' σ' H')/\tb {D with nx:=N,ct:=N,bk:=D.nx} σ H1 else D.nx σ H1
theorem QQ{c:Expr}{body:List Stmt}{tc:TT}{tb:TS}(hp:PassesOwn (model X.prog X.w) X.A X.env X.xe)(hc:PT X c tc)(hb:PSs X body tb):PS X (.While c body [] pos) (tWhile tc tb):=by
 intro pins s σ H D I h;obtain⟨W,⟨m0,w0⟩,turn⟩:=h;refine wpAny_While (codeAny_whileLoop (λn s'=>∃σ' H',Inv X pins σ' H' s'/\W n σ' H') ?_ m0 ⟨σ,H,I,w0⟩);rintro n s1 ⟨σ1,H1,I1,w1⟩;refine A3h hp (thn (hc pins s1 σ1 H1 _ I1 (turn n σ1 H1 w1)) λb s2 ⟨H2,I2,q2⟩=>?_);cases b with
 |true =>
  obtain⟨N,hN,q2⟩:=q2;rw[X9 rfl];refine A3h hp (thn (hb pins s2 σ1 H2 _ I2 q2) λf s3 q3=>?_);cases f with
  |next =>
   obtain⟨σ3,H3,I3,n3⟩:=q3;obtain⟨m',hm,w3⟩:=hN σ3 H3 n3;exact⟨m',hm,σ3,H3,I3,w3⟩
  |cont =>
   obtain⟨σ3,H3,I3,n3⟩:=q3;obtain⟨m',hm,w3⟩:=hN σ3 H3 n3;exact⟨m',hm,σ3,H3,I3,w3⟩
  |brk=>exact q3
  |ret v=>exact q3
 |false =>
  rw[X8 D4];exact A5a ⟨σ1,H2,I2,q2⟩
end
structure It where
 go:Nat->Hp->Prop
 yld:Nat->Hp->V->Hp->Prop
 stop:Nat->Hp->Prop
def Dc(X:Cx)(pins:List (Addr×Obj))(H:Hp)(b:Addr):Prop :=
 H b=none/\b≠X.env.locals/\b∉X.fs/\(b∈X.ex\/X.s₀.heap.objs.size<=b)/\(∀x c,X.env.cells.lookup x=some c->c≠b)/\∀p∈X.pn++pins,p.1≠b
theorem Inv.fpOk{X:Cx}{pins:List (Addr×Obj)}{σ:St}{H H':Hp}{s:Shared}{b:Addr}(I:Inv X pins σ H s)(hb:s.heap.objs.size<=b)(hn:H' b=none):Dc X pins H' b:=by
 refine⟨hn,Z8 (F4 I.lt hb),I.nofs hb,.inr (C6 I.sz hb),λx c e z=>?_,λp hp z=>?_⟩
 ·obtain⟨v,q⟩:=I.cell x c e;exact absurd (F4 q.lt (by rw[z];exact hb)) (O7 _)
 ·exact absurd (F4 (C8 (I.pin p hp).1) (by rw[z];exact hb)) (O7 _)
structure Qw(P:Program)(w:World)(K:PySem.W.Frag)(tg:Expr)(J:It)(fp:List Addr)(it:Addr)(tn:Nat->Heap->Prop):Prop where
 mem:it∈fp
 obj:∀i h,tn i h->∀b∈fp,∃o,h.get? b=some o/\∀v,o.data≠.cell v
 keep:∀i h h',tn i h->(∀b∈fp,∀o,h.get? b=some o->h'.get? b=some o)->tn i h'
 item:∀(X:Cx),X.prog=P->X.w=w->X.K=K->X.calm=true->∀(i:Nat)(pins:List (Addr×Obj))(s:Shared)(σ:St)(H:Hp)(E:Value->Shared->Prop),Inv X pins σ H s->(∀b∈fp,Dc X pins H b)->tn i s.heap->J.go i H ->
  wpAny (model P w) X.A (pyNext (.ref it)) (λr s1=>∃u,r=some u /\
   wpAny (model P w) X.A (letOwnedTupleGo tg (.ref it) u) (λ_ s2=>∃x H',Inv X pins σ H' s2/\AY x u/\J.yld i H x H'/\tn (i+1) s2.heap/\∀b∈fp,H' b=none) E s1) E s
 done:∀(X:Cx),X.prog=P->X.w=w->X.K=K->X.calm=true->∀(i:Nat)(pins:List (Addr×Obj))(s:Shared)(σ:St)(H:Hp)(E:Value->Shared->Prop),Inv X pins σ H s->(∀b∈fp,Dc X pins H b)->tn i s.heap->J.stop i H ->
  wpAny (model P w) X.A (pyNext (.ref it)) (λr s1=>r=none/\Inv X pins σ H s1) E s
 self:∀(A:Around)(i:Nat)(s:Shared)(Q:Value->Shared->Prop)(E:Value->Shared->Prop),tn i s.heap->Q (.ref it) s->wpAny (model P w) A (pyIter (.ref it)) Q E s
abbrev TI:=St->Hp->(It->Hp->Prop)->Prop
def PIE(X:Cx)(pins:List (Addr×Obj))(σ:St)(tg:Expr)(R:It->Hp->Prop)(itv:Value)(s2:Shared):Prop :=
 ∃(it:Addr)(fp:List Addr)(tn:Nat->Heap->Prop)(J:It)(H':Hp),itv=.ref it/\Inv X pins σ H' s2/\Qw X.prog X.w X.K tg J fp it tn/\tn 0 s2.heap/\(∀b∈fp,Dc X pins H' b)/\R J H'
def PI(X:Cx)(tg iter:Expr)(wi:TI):Prop :=
 ∀(pins:List (Addr×Obj))(s:Shared)(σ:St)(H:Hp)(R:It->Hp->Prop),Inv X pins σ H s->wi σ H R ->
  wpAny (model X.prog X.w) X.A (eval iter X.env) (λv s1=>wpAny (model X.prog X.w) X.A (pyIter v) (PIE X pins σ tg R) X.xe s1) X.xe s
theorem Rr{M:Model}{A:Around}{E:Value->Shared->Prop}{s:Shared}{tg:Expr}{it:Addr}{u:Value}{o:Obj}{n:String}{vs:Array Value}{Q:Unit->Shared->Prop}(ho:s.heap.get? it=some o)(hc:o.cls=.type n)(hd:o.data=.fields vs)
    (hn:["enumerate","zip","dict_itemiterator","dict_reverseitemiterator","odict_iterator","itertools.zip_longest","itertools.pairwise"].contains n=false) (hQ:Q () s):wpAny M A (letOwnedTupleGo tg (.ref it) u) Q E s:=by
  unfold letOwnedTupleGo;cases tg<;>first
    |exact K5 hQ
    | (cases u<;>first
        |exact K5 hQ
        | (refine X5 (wpAny_load ho ?_)
           rw[hc,hd];show wpAny M A (if(["enumerate","zip","dict_itemiterator","dict_reverseitemiterator","odict_iterator","itertools.zip_longest","itertools.pairwise"].contains n && vs[0]?==some (rawInt _))=true then _ else _) Q E s;rw[X8 (by intro h;rw[hn,Bool.false_and]at h;cases h)];exact K5 hQ))
def Itl(K:PySem.W.Frag)(a:Addr):It :=
 ⟨λi H=>∃xs x,SqL K H a xs/\xs[i]?=some x,λi H x H'=>H'=H/\∀xs,SqL K H a xs->xs[i]?=some x,λi H=>∃xs,SqL K H a xs/\xs.length<=i⟩
def Itt(K:PySem.W.Frag)(a:Addr):It :=
 ⟨λi H=>∃xs x,SqT K H a xs/\xs[i]?=some x,λi H x H'=>H'=H/\∀xs,SqT K H a xs->xs[i]?=some x,λi H=>∃xs,SqT K H a xs/\xs.length<=i⟩
def Itr(lo:Int)(n:Nat):It:=⟨λi _=>i<n,λi H x H'=>H'=H/\x=.int (lo+i),λi _=>n<=i⟩
theorem Uy{P:Program}{w:World}{K:PySem.W.Frag}{tg:Expr}(a it:Addr):Qw P w K tg (Itl K a) [it] it (λi h=>h.IsListIter it a i) where
 mem:=by simp
 obj:=λi h st b hb=>by
  have e:b=it:=by simpa using hb
  subst e;obtain⟨o,e,c,d⟩:=st;exact⟨o,e,λv z=>by rw[d]at z;cases z⟩
 keep:=λi h h' st k=>st.at λo e=>k it A5 o e
 item:=by
  intro X hP hw hK hc i pins s σ H E I hf st hg;subst hP hw hK;obtain⟨xs,x,hq,hx⟩:=hg;obtain⟨its,rv,p,hz⟩:=I.list hq;obtain⟨u,hu,ru⟩:=rv.get hx;obtain⟨f0,f1,f2,f3,f4,f5⟩:=hf it A5;refine wpAny_pyNext_list_item st p.isList (x:=u) (by simpa using hu) λh' st' sb=>?_;have I1:Inv X pins σ H {s with heap:=h'}:=I.turned (t':=s.toks) (λb o hb e=>(sb.2 b hb).trans e) f0 f1 f3 f4 f5;obtain⟨o,e,c,d⟩:=id st';exact⟨u,rfl,Rr (s:={s with heap:=h'}) e c d A4 ⟨x,H,I1,ru,⟨rfl,λys hy=>by rw[I.list_inj hy hq];exact hx⟩,st',λb hb=>(hf b hb).1⟩⟩
 done:=by
  intro X hP hw hK hc i pins s σ H E I hf st hg;subst hP hw hK;obtain⟨xs,hq,hx⟩:=hg;obtain⟨its,rv,p,hz⟩:=I.list hq;obtain⟨f0,f1,f2,f3,f4,f5⟩:=hf it A5;have hl:=rv.length;exact wpAny_pyNext_list_end (I.ok.hd hc) st p.isList (by simp;lia) λh' eb=>⟨rfl,I.turned (t':=s.toks) (λb o hb e=>eb b o hb e) f0 f1 f3 f4 f5⟩
 self:=λ_ _ _ _ _ st h=>wpAny_pyIter_listiter st h
theorem RU{P:Program}{w:World}{K:PySem.W.Frag}{tg:Expr}(a it:Addr):Qw P w K tg (Itt K a) [it] it (λi h=>h.IsTupleIter it a i) where
 mem:=by simp
 obj:=λi h st b hb=>by
  have e:b=it:=by simpa using hb
  subst e;obtain⟨o,e,c,d⟩:=st;exact⟨o,e,λv z=>by rw[d]at z;cases z⟩
 keep:=λi h h' st k=>st.at λo e=>k it A5 o e
 item:=by
  intro X hP hw hK hc i pins s σ H E I hf st hg;subst hP hw hK;obtain⟨xs,x,hq,hx⟩:=hg;obtain⟨its,rv,p,hz⟩:=I.tuple hq;obtain⟨u,hu,ru⟩:=rv.get hx;obtain⟨f0,f1,f2,f3,f4,f5⟩:=hf it A5;refine wpAny_pyNext_tuple_item st (show s.heap.IsTuple a its.toArray from p) (x:=u) (by simpa using hu) λh' st' sb=>?_;have I1:Inv X pins σ H {s with heap:=h'}:=I.turned (t':=s.toks) (λb o hb e=>(sb.2 b hb).trans e) f0 f1 f3 f4 f5;obtain⟨o,e,c,d⟩:=id st';exact⟨u,rfl,Rr (s:={s with heap:=h'}) e c d A4 ⟨x,H,I1,ru,⟨rfl,λys hy=>by rw[I.tuple_inj hy hq];exact hx⟩,st',λb hb=>(hf b hb).1⟩⟩
 done:=by
  intro X hP hw hK hc i pins s σ H E I hf st hg;subst hP hw hK;obtain⟨xs,hq,hx⟩:=hg;obtain⟨its,rv,p,hz⟩:=I.tuple hq;obtain⟨f0,f1,f2,f3,f4,f5⟩:=hf it A5;have hl:=rv.length;exact wpAny_pyNext_tuple_end (I.ok.hd hc) st (show s.heap.IsTuple a its.toArray from p) (by simp;lia) λh' eb=>⟨rfl,I.turned (t':=s.toks) (λb o hb e=>eb b o hb e) f0 f1 f3 f4 f5⟩
 self:=λ_ _ _ _ _ st h=>wpAny_pyIter_tupleiter st h
theorem RV{P:Program}{w:World}{K:PySem.W.Frag}{tg:Expr}(it:Addr)(lo:Int)(n:Nat):Qw P w K tg (Itr lo n) [it] it (λi h=>IsRangeIter h it (lo+(i:Nat)*1) ((n:Int)-(i:Nat)) 1) where
 mem:=by simp
 obj:=λi h st b hb=>by
  have e:b=it:=by simpa using hb
  subst e;exact⟨_,st,λv z=>by
   have z':Data.fields _=Data.cell v:=z;cases z'⟩
 keep:=λi h h' st k=>k it A5 _ st
 item:=by
  intro X hP hw hK hc i pins s σ H E I hf st hg;subst hP hw hK;obtain⟨f0,f1,f2,f3,f4,f5⟩:=hf it A5;have W:=Walks.range (prog:=X.prog) (w:=X.w) (I.ok.hd hc) it lo 1 n;refine W.item i s _ _ hg st λv h' tk hv st' kk=>?_;obtain⟨t,rfl⟩:=hv;have I1:Inv X pins σ H {s with heap:=h',toks:=tk}:=I.turned (λb o hb e=>kk b o (by simpa using hb) e) f0 f1 f3 f4 f5;refine⟨_,rfl,Rr (s:={s with heap:=h',toks:=tk}) (n:="range_iterator") st' rfl rfl A4 ⟨.int (lo+i),H,I1,⟨t,?_⟩,⟨rfl,rfl⟩,st',λb hb=>(hf b hb).1⟩⟩;rw[Int.mul_one]
 done:=by
  intro X hP hw hK hc i pins s σ H E I hf st hg;subst hP hw hK;obtain⟨f0,f1,f2,f3,f4,f5⟩:=hf it A5;exact wpAny_pyNext_range_end (I.ok.hd hc) st (by have:n<=i:=hg;lia) λh' eb=>⟨rfl,I.turned (t':=s.toks) (λb o hb e=>eb b o hb e) f0 f1 f3 f4 f5⟩
 self:=λ_ _ _ _ _ st h=>wpAny_pyIter_rangeiter st h
section
variable{X:Cx}{tg:Expr}
def iList(K:PySem.W.Frag)(tl:TE):TI:=fun σ H R=>tl σ H λx H1=>∃a,x=.ref a/\(∃xs,SqL K H1 a xs)/\R (Itl K a) H1
def iTup(K:PySem.W.Frag)(tl:TE):TI:=fun σ H R=>tl σ H λx H1=>∃a,x=.ref a/\(∃xs,SqT K H1 a xs)/\R (Itt K a) H1
theorem Cm{l:Expr}{tl:TE}(hl:PE X l tl):PI X tg l (iList X.K tl):=by
 intro pins s σ H R I h;refine thn (hl pins s σ H _ I h) λv s1 ⟨x,H1,I1,r1,q1⟩=>?_;obtain⟨a,e,⟨xs,hq⟩,q⟩:=q1;subst e;cases r1;obtain⟨its,rv,p,hz⟩:=I1.list hq;refine A4c p.isList ?_;refine⟨s1.heap.objs.size,[s1.heap.objs.size],_,_,H1,rfl,I1.kept (t':=s1.toks) λb o e=>B5 _ e,Uy a _,⟨_,D0 _ rfl,rfl,rfl⟩,λb hb=>?_,q⟩;have e:b=s1.heap.objs.size:=by simpa using hb
 subst e;exact I1.fpOk (B1 _) (I1.hok.fresh (B1 _))
theorem Sm{l:Expr}{tl:TE}(hl:PE X l tl):PI X tg l (iTup X.K tl):=by
 intro pins s σ H R I h;refine thn (hl pins s σ H _ I h) λv s1 ⟨x,H1,I1,r1,q1⟩=>?_;obtain⟨a,e,⟨xs,hq⟩,q⟩:=q1;subst e;cases r1;obtain⟨its,rv,p,hz⟩:=I1.tuple hq;refine wpAny_pyIter_tuple (show s1.heap.IsTuple a its.toArray from p) ?_;refine⟨s1.heap.objs.size,[s1.heap.objs.size],_,_,H1,rfl,I1.kept (t':=s1.toks) λb o e=>B5 _ e,RU a _,⟨_,D0 _ rfl,rfl,rfl⟩,λb hb=>?_,q⟩;have e:b=s1.heap.objs.size:=by simpa using hb
 subst e;exact I1.fpOk (B1 _) (I1.hok.fresh (B1 _))
theorem QP{pins:List (Addr×Obj)}{σ:St}{H:Hp}{s:Shared}{R:It->Hp->Prop}{E:Value->Shared->Prop}{lo hi:Int}{t u v:Tok}{tk:Nat}(I:Inv X pins σ H s)(h1:-(2^62)<=lo)(h2:lo<2^62)(h3:-(2^62)<=hi)(h4:hi<2^62)
  (q:R (Itr lo (hi-lo).toNat) H):wpAny (model X.prog X.w) X.A (pyIter (.ref s.heap.objs.size)) (PIE X pins σ tg R) E {s with heap:=s.heap.push {cls:=.type "range",data:=.fields #[.int lo t,.int hi u,.int 1 v]},toks:=tk}:=by
 refine wpAny_pyIter_range (IsRange.new ..) (small_one h1 h2 h3 h4) ?_;have I1:Inv X pins σ H {s with heap:=s.heap.push {cls:=.type "range",data:=.fields #[.int lo t,.int hi u,.int 1 v]},toks:=tk}:=I.kept λb o e=>B5 _ e;refine⟨(s.heap.push {cls:=.type "range",data:=.fields #[.int lo t,.int hi u,.int 1 v]}).objs.size,[(s.heap.push {cls:=.type "range",data:=.fields #[.int lo t,.int hi u,.int 1 v]}).objs.size],_,_,H,rfl,
  I1.kept (t':=tk) λb o e=>B5 _ e,RV _ lo (hi-lo).toNat,?_,λb hb=>?_,q⟩
 ·have e1:lo+((0:Nat):Int)*1=lo:=by simp
  have e2:(((hi-lo).toNat:Nat):Int)-((0:Nat):Int)=Builtin.Range.rangeSize lo hi 1:=by rw[rangeSize_one];split<;>lia
  show IsRangeIter _ _ (lo+((0:Nat):Int)*1) ((((hi-lo).toNat:Nat):Int)-((0:Nat):Int)) 1;rw[e1,e2];exact D0 _ rfl
 ·have e:b=(s.heap.push {cls:=.type "range",data:=.fields #[.int lo t,.int hi u,.int 1 v]}).objs.size:=by simpa using hb
  subst e;exact I1.fpOk (B1 _) (I1.hok.fresh (B1 _))
def iRng1(ta:TA):TI:=fun σ H R=>ta σ H λvs H1=>∃j:Int,vs=[.int j]/\-(2^62)<=j/\j<2^62/\R (Itr 0 j.toNat) H1
def iRng2(ta:TA):TI:=fun σ H R=>ta σ H λvs H1=>∃i j:Int,vs=[.int i,.int j]/\(-(2^62)<=i/\i<2^62/\-(2^62)<=j/\j<2^62)/\R (Itr i (j-i).toNat) H1
theorem IF{a:Expr}{ta:TA}{p pos:Pos}(hg:Gl X "range")(hm:X.mg "range" = none)(ha:PA X [a] ta)(hs:starEach [a] X.env=[(false,eval a X.env)]:=by rfl):PI X tg (.Call (.Name "range" p) [a] [] pos) (iRng1 ta):=by
 intro pins s σ H R I h;refine Call_ (Iq I hg hm boot_range (A2d (thn (ha pos pins s σ H _ I h) λus s1 ⟨vs,H1,I1,r1,q1⟩=>?_) hs rfl));obtain⟨j,e,q1,q2,q⟩:=q1;subst e;cases r1 with
 |cons r rr =>
  cases rr;obtain⟨t,rfl⟩:=r;exact call_range_1 (QP I1 A0 A0 q1 q2 (by simpa using q))
theorem UH{a b:Expr}{ta:TA}{p pos:Pos}(hg:Gl X "range")(hm:X.mg "range" = none)(ha:PA X [a,b] ta)(hs:starEach [a,b] X.env=[(false,eval a X.env),(false,eval b X.env)]:=by rfl)(hs2:starEach [b] X.env=[(false,eval b X.env)]:=by rfl) :
  PI X tg (.Call (.Name "range" p) [a,b] [] pos) (iRng2 ta):=by
 intro pins s σ H R I h;refine Call_ (Iq I hg hm boot_range (A2d (thn (ha pos pins s σ H _ I h) λus s1 ⟨vs,H1,I1,r1,q1⟩=>?_) (by rw[hs,hs2]) (by rw[hs2];rfl)));obtain⟨i,j,e,⟨q1,q2,q3,q4⟩,q⟩:=q1;subst e;cases r1 with
 |cons r rr =>
  cases rr with
  |cons r' rr =>
   cases rr;obtain⟨t,rfl⟩:=r;obtain⟨t',rfl⟩:=r';exact call_range_2 (QP I1 q1 q2 q3 q4 q)
def tFor(wi:TI)(g:TG)(tb:TS):TS:=λD σ H=>wi σ H λJ H1=>∃W:Nat->Nat->St->Hp->Prop,(∃m,W 0 m σ H1)/\∀i m σ H,W i m σ H ->
 (J.stop i H/\D.nx σ H)\/(J.go i H/\∃N:St->Hp->Prop,(∀σ' H',N σ' H'->∃m',m'<m/\W (i+1) m' σ' H')/\∀x H',J.yld i H x H'->g x σ H' fun σ2 H2=>tb {D with nx:=N,ct:=N,bk:=D.nx} σ2 H2)
def Lf(fp:List Addr)(h:Heap):List (Addr×Obj):=fp.filterMap λb=>(h.get? b).map λo=>(b,o)
theorem GJ{fp:List Addr}{h:Heap}{b:Addr}{o:Obj}(hb:b∈fp)(e:h.get? b=some o):(b,o)∈Lf fp h:=List.mem_filterMap.mpr ⟨b,hb,by rw[e];rfl⟩
theorem Ow{fp:List Addr}{h:Heap}{p:Addr×Obj}(hp:p∈Lf fp h):p.1∈fp/\h.get? p.1=some p.2:=by
 obtain⟨b,hb,e⟩:=List.mem_filterMap.mp hp;cases q:h.get? b with
 |none=>rw[q]at e;cases e
 |some o =>
  rw[q]at e;have e':(b,o)=p:=K3 e;subst e';exact⟨hb,q⟩
theorem Inv.pinned{pins:List (Addr×Obj)}{σ:St}{H:Hp}{s:Shared}{fp:List Addr}(I:Inv X pins σ H s)(hf:∀b∈fp,Dc X pins H b)(ho:∀b∈fp,∃o,s.heap.get? b=some o/\∀v,o.data≠.cell v):Inv X (pins++Lf fp s.heap) σ H s :=
 I.pins_of λp hp=>(C7.mp hp).elim (λz=>I.pin p (F9 _ z)) λz=>by
  obtain⟨hb,e⟩:=Ow z;obtain⟨f0,f1,f2,_⟩:=hf p.1 hb;obtain⟨o,e',d⟩:=ho p.1 hb;rw[e]at e';cases e';exact⟨e,f0,f1,f2,d⟩
theorem Inv.unpinned{pins pl:List (Addr×Obj)}{σ:St}{H:Hp}{s:Shared}(I:Inv X (pins++pl) σ H s):Inv X pins σ H s:=I.pins_of λp hp=>I.pin p (F9 _ (O0 _ hp))
theorem Cv{iter:Expr}{body:List Stmt}{wi:TI}{g:TG}{tb:TS}{pos:Pos}(hp:PassesOwn (model X.prog X.w) X.A X.env X.xe)(hc:X.calm=true)(hi:PI X tg iter wi)(hg:PG X tg g)(hb:PSs X body tb)
  (hs:∀x,foldedSetIterable iter X.env x=pure x:=by intro _;rfl):PS X (.For tg iter body [] pos) (tFor wi g tb):=by
 intro pins s σ H D I h;refine wpAny_For (thn (hi pins s σ H _ I h) λv s1 h1=>thn h1 λitv s2 h2=>?_) hs;obtain⟨it,fp,tn,J,H2,e,I2,T,st2,f2,W,⟨m0,w0⟩,turn⟩:=h2;subst e;have stat:∀{H':Hp},(∀b∈fp,H' b=none)->∀b∈fp,Dc X pins H' b:=λhn b hb=>⟨hn b hb,(f2 b hb).2⟩
 refine codeAny_forLoop_any (λn s'=>∃i σ' H',Inv X pins σ' H' s'/\tn i s'.heap/\(∀b∈fp,H' b=none)/\W i n σ' H') ?_ m0 ⟨0,σ,H2,I2,st2,λb hb=>(f2 b hb).1,w0⟩;rintro n s3 ⟨i,σ3,H3,I3,st3,fr3,w3⟩;rcases turn i n σ3 H3 w3 with ⟨stop,qn⟩|⟨go,N,hN,step⟩
 ·refine A3h hp (thn (T.done X rfl rfl rfl hc i pins s3 σ3 H3 X.xe I3 (stat fr3) st3 stop) λr s4 ⟨hr,I4⟩=>?_);subst hr;exact A5a ⟨σ3,H3,I4,qn⟩
 ·refine A3h hp (thn (T.item X rfl rfl rfl hc i pins s3 σ3 H3 X.xe I3 (stat fr3) st3 go) λr s4 ⟨u,hr,h4⟩=>?_);subst hr;refine A3h hp (thn h4 λ_ s5 ⟨x,H5,I5,r5,y5,st5,fr5⟩=>?_);have I5':=I5.pinned (stat fr5) (T.obj _ _ st5);refine A3h hp (thn (hg _ s5 σ3 H5 x u _ I5' r5 (step x H5 y5)) λ_ s6 ⟨σ6,H6,I6,q6⟩=>?_);refine A3h hp (thn (hb _ s6 σ6 H6 _ I6 q6) λf s7 q7=>?_);have again:∀{σ7:St}{H7:Hp},Inv X (pins++Lf fp s5.heap) σ7 H7 s7->N σ7 H7->∃m,m<n/\∃i σ' H',Inv X pins σ' H' s7/\tn i s7.heap/\(∀b∈fp,H' b=none)/\W i m σ' H':=λ{σ7 H7} I7 n7=>by
   obtain⟨m',hm,w7⟩:=hN σ7 H7 n7;refine⟨m',hm,i+1,σ7,H7,I7.unpinned,T.keep _ _ _ st5 λb hb o e=>(I7.pin (b,o) (F9 _ (F9 _ (GJ hb e)))).1,λb hb=>?_,w7⟩;obtain⟨o,e,d⟩:=T.obj _ _ st5 b hb;exact(I7.pin (b,o) (F9 _ (F9 _ (GJ hb e)))).2.1
  cases f with
  |next=>obtain⟨σ7,H7,I7,n7⟩:=q7;exact again I7 n7
  |cont=>obtain⟨σ7,H7,I7,n7⟩:=q7;exact again I7 n7
  |brk=>obtain⟨σ7,H7,I7,q7⟩:=q7;exact⟨σ7,H7,I7.unpinned,q7⟩
  |ret v=>obtain⟨x7,σ7,H7,I7,r7,q7⟩:=q7;exact⟨x7,σ7,H7,I7.unpinned,r7,q7⟩
end
theorem FX{K:PySem.W.Frag}{a:Addr}{xs:List V}{g:TG}{tb:TS}{D:JU}{σ:St}{H:Hp}(Pv:Nat->St->Hp->Prop)(h0:Pv 0 σ H)(hl:∀i σ H,i<=xs.length->Pv i σ H->SqL K H a xs)
  (hs:∀i x σ H,xs[i]?=some x->Pv i σ H->g x σ H fun σ2 H2=>tb {D with nx:=Pv (i+1),ct:=Pv (i+1),bk:=D.nx} σ2 H2) (hd:∀σ H,Pv xs.length σ H->D.nx σ H) :
  ∃W:Nat->Nat->St->Hp->Prop,(∃m,W 0 m σ H)/\∀i m σ H,W i m σ H ->
   ((Itl K a).stop i H/\D.nx σ H)\/((Itl K a).go i H/\∃N:St->Hp->Prop,(∀σ' H',N σ' H'->∃m',m'<m/\W (i+1) m' σ' H')/\∀x H',(Itl K a).yld i H x H'->g x σ H' fun σ2 H2=>tb {D with nx:=N,ct:=N,bk:=D.nx} σ2 H2):=by
 refine⟨λi m σ H=>m=xs.length-i/\i<=xs.length/\Pv i σ H,⟨xs.length,by simp,G9 _,h0⟩,?_⟩;rintro i m σ H ⟨rfl,hi,p⟩;have q:=hl i σ H hi p;by_cases hlt:i<xs.length
 ·refine .inr ⟨⟨xs,xs[i],q,by simp[hlt]⟩,Pv (i+1),fun σ' H' p'=>⟨xs.length-(i+1),by lia,rfl,hlt,p'⟩,λx H' y=>?_⟩;obtain⟨e,y⟩:=y;subst e;exact hs i x σ _ (y xs q) p
 ·have e:i=xs.length:=by lia
  subst e;exact .inl ⟨⟨xs,q,B1 _⟩,hd σ H p⟩
theorem FW{lo:Int}{n:Nat}{g:TG}{tb:TS}{D:JU}{σ:St}{H:Hp}(Pv:Nat->St->Hp->Prop)(h0:Pv 0 σ H)
  (hs:∀i σ H,i<n->Pv i σ H->g (.int (lo+i)) σ H fun σ2 H2=>tb {D with nx:=Pv (i+1),ct:=Pv (i+1),bk:=D.nx} σ2 H2) (hd:∀σ H,Pv n σ H->D.nx σ H) :
  ∃W:Nat->Nat->St->Hp->Prop,(∃m,W 0 m σ H)/\∀i m σ H,W i m σ H ->
   ((Itr lo n).stop i H/\D.nx σ H)\/((Itr lo n).go i H/\∃N:St->Hp->Prop,(∀σ' H',N σ' H'->∃m',m'<m/\W (i+1) m' σ' H')/\∀x H',(Itr lo n).yld i H x H'->g x σ H' fun σ2 H2=>tb {D with nx:=N,ct:=N,bk:=D.nx} σ2 H2):=by
 refine⟨λi m σ H=>m=n-i/\i<=n/\Pv i σ H,⟨n,by simp,G9 _,h0⟩,?_⟩;rintro i m σ H ⟨rfl,hi,p⟩;by_cases hlt:i<n
 ·refine .inr ⟨hlt,Pv (i+1),fun σ' H' p'=>⟨n-(i+1),by lia,rfl,hlt,p'⟩,λx H' y=>?_⟩;obtain⟨e,y⟩:=y;subst e y;exact hs i σ _ hlt p
 ·have e:i=n:=by lia
  subst e;exact .inl ⟨B1 _,hd σ H p⟩
abbrev R2:=V->V->Hp->VK->Prop
def OpR(X:Cx)(f:Value->Value->Sem Value)(r:R2):Prop :=
 ∀(pins:List (Addr×Obj))(s:Shared)(σ:St)(H:Hp)(x y:V)(v u:Value)(Q:VK),Inv X pins σ H s->AY x v->AY y u->r x y H Q ->
  wpAny (model X.prog X.w) X.A (f v u) (EP X pins σ Q) X.xe s
def UnR(X:Cx)(f:Value->Sem Value)(r:V->Hp->VK->Prop):Prop :=
 ∀(pins:List (Addr×Obj))(s:Shared)(σ:St)(H:Hp)(x:V)(v:Value)(Q:VK),Inv X pins σ H s->AY x v->r x H Q ->
  wpAny (model X.prog X.w) X.A (f v) (EP X pins σ Q) X.xe s
def Ew(X:Cx)(f:Value)(r:List V->Hp->VK->Prop):Prop :=
 ∀(pins:List (Addr×Obj))(s:Shared)(σ:St)(H:Hp)(xs:List V)(us:List Value)(Q:VK),Inv X pins σ H s->AN xs us->r xs H Q ->
  wpAny (model X.prog X.w) X.A (call f us) (EP X pins σ Q) X.xe s
def tOp(r:R2)(ta tb:TE):TE:=fun σ H Q=>ta σ H λx H1=>tb σ H1 λy H2=>r x y H2 Q
def tUn(r:V->Hp->VK->Prop)(ta:TE):TE:=fun σ H Q=>ta σ H λx H1=>r x H1 Q
def rI(C:Int->Int->Prop)(g:Int->Int->V):R2:=λx y H Q=>∃i j,x=.int i/\y=.int j/\C i j/\Q (g i j) H
def rI0(g:Int->Int->V):R2:=λx y H Q=>∃i j,x=.int i/\y=.int j/\Q (g i j) H
def rU(g:Int->V):V->Hp->VK->Prop:=λx H Q=>∃i,x=.int i/\Q (g i) H
section
variable{X:Cx}{a b c:Expr}{ta tb tc:TE}{pos:Pos}
theorem binT(ha:PE X a ta)(hb:PE X b tb){pins:List (Addr×Obj)}{s:Shared}{σ:St}{H:Hp}{R:V->V->Hp->Prop}(I:Inv X pins σ H s)
  (h:ta σ H λx H1=>tb σ H1 λy H2=>R x y H2) {Q:Value->Shared->Prop} {f:Value->Value->Sem Value}
  (hf:∀v u s2 x y H2,Inv X pins σ H2 s2->AY x v->AY y u->R x y H2->wpAny (model X.prog X.w) X.A (f v u) Q X.xe s2) :
  wpAny (model X.prog X.w) X.A (eval a X.env) (λv s₁=>wpAny (model X.prog X.w) X.A (eval b X.env) (λu s₂=>wpAny (model X.prog X.w) X.A (f v u) Q X.xe s₂) X.xe s₁) X.xe s:=by
 refine thn (ha pins s σ H _ I h) λv s1 ⟨x,H1,I1,r1,q1⟩=>?_;refine thn (hb pins s1 σ H1 _ I1 q1) λu s2 ⟨y,H2,I2,r2,q2⟩=>?_;exact hf v u s2 x y H2 I2 r1 r2 q2
theorem AA{op:Operator}{r:R2}(ho:OpR X (binaryOp op) r)(ha:PE X a ta)(hb:PE X b tb):PE X (.BinOp a op b pos) (tOp r ta tb):=by
 intro pins s σ H Q I h;exact wpAny_BinOp (binT ha hb I h λv u s2 x y H2 I2 rx ry q=>ho pins s2 σ H2 x y v u Q I2 rx ry q)
theorem FV{op:UnaryOp}{r:V->Hp->VK->Prop}(ho:UnR X (unaryOp op) r)(ha:PE X a ta):PE X (.UnaryOp op a pos) (tUn r ta):=by
 intro pins s σ H Q I h;exact UnaryOp_ (thn (ha pins s σ H _ I h) λv s1 ⟨x,H1,I1,r1,q1⟩=>ho pins s1 σ H1 x v Q I1 r1 q1)
theorem opI{f:Value->Value->Sem Value}{C:Int->Int->Prop}{g:Int->Int->Int}
  (rule:∀(i j:Int)(t u:Tok)(s:Shared)(Q:Value->Shared->Prop)(E:Value->Shared->Prop),C i j->Q (.int (g i j) s.toks) {s with toks:=s.toks+1}->wpAny (model X.prog X.w) X.A (f (.int i t) (.int j u)) Q E s) :
  OpR X f (rI C λi j=>.int (g i j)):=by
 intro pins s σ H x y v u Q I rx ry h;obtain⟨i,j,rfl,rfl,hc,q⟩:=h;obtain⟨t,rfl⟩:=rx;obtain⟨t',rfl⟩:=ry;exact rule i j t t' s _ _ hc ⟨.int (g i j),H,I.tok _,⟨_,rfl⟩,q⟩
theorem opI0{f:Value->Value->Sem Value}{g:Int->Int->Int}
  (rule:∀(i j:Int)(t u:Tok)(s:Shared)(Q:Value->Shared->Prop)(E:Value->Shared->Prop),Q (.int (g i j) s.toks) {s with toks:=s.toks+1}->wpAny (model X.prog X.w) X.A (f (.int i t) (.int j u)) Q E s) :
  OpR X f (rI0 λi j=>.int (g i j)):=by
 intro pins s σ H x y v u Q I rx ry h;obtain⟨i,j,rfl,rfl,q⟩:=h;obtain⟨t,rfl⟩:=rx;obtain⟨t',rfl⟩:=ry;exact rule i j t t' s _ _ ⟨.int (g i j),H,I.tok _,⟨_,rfl⟩,q⟩
theorem opB0{f:Value->Value->Sem Value}{g:Int->Int->Bool}
  (rule:∀(i j:Int)(t u:Tok)(s:Shared)(Q:Value->Shared->Prop)(E:Value->Shared->Prop),Q (.bool (g i j)) s->wpAny (model X.prog X.w) X.A (f (.int i t) (.int j u)) Q E s) :
  OpR X f (rI0 λi j=>.bl (g i j)):=by
 intro pins s σ H x y v u Q I rx ry h;obtain⟨i,j,rfl,rfl,q⟩:=h;obtain⟨t,rfl⟩:=rx;obtain⟨t',rfl⟩:=ry;exact rule i j t t' s _ _ ⟨.bl (g i j),H,I,rfl,q⟩
def CDiv(i j:Int):Prop:=0<j/\j<1073741824
def CPow(i j:Int):Prop:=0<=j/\j<=1000000/\i.natAbs<2^64
def CMul(i j:Int):Prop:=(-(2^64)<i/\i<2^64)\/(-(2^64)<j/\j<2^64)
theorem CMul.ok{i j:Int}(h:CMul i j):IntMulOk i j:=by
 rcases h with ⟨h1,h2⟩|⟨h1,h2⟩
 ·exact .of_left (intBits_le_64 h1 h2)
 ·exact .of_right (intBits_le_64 h1 h2)
theorem AV:OpR X (binaryOp .Add) (rI0 λi j=>.int (i+j)):=opI0 λ_ _ _ _ _ _ _ q=>add_int q
theorem CZ:OpR X (binaryOp .Sub) (rI0 λi j=>.int (i-j)):=opI0 λ_ _ _ _ _ _ _ q=>sub_int q
theorem Es:OpR X (binaryOp .Mult) (rI CMul λi j=>.int (i*j)):=opI λ_ _ _ _ _ _ _ hc q=>mul_int q hc.ok
theorem ED:OpR X (binaryOp .FloorDiv) (rI CDiv λi j=>.int (i/j)):=opI λi j _ _ _ _ _ hc q=>by
 have h1:(0:Int)<j:=hc.1;have h2:j<1073741824:=hc.2;exact floordiv_int A0 (by rw[Int.fdiv_eq_ediv_of_nonneg i A0];exact q) (.inl (PyProof.noPylong_small A0))
theorem BR:OpR X (binaryOp .Mod) (rI (λ_ j=>0<j) λi j=>.int (i%j)):=opI λi j _ _ _ _ _ hc q=>by
 have h1:(0:Int)<j:=hc;exact mod_int' A0 (by rw[Int.fmod_eq_emod_of_nonneg i A0];exact q)
theorem FM:OpR X (binaryOp .LShift) (rI CPow λi j=>.int (i*2^j.toNat)):=opI λ_ _ _ _ _ _ _ hc q=>lshift_int_small hc.1 hc.2.1 hc.2.2 q
theorem unI{f:Value->Sem Value}{g:Int->Int}
  (rule:∀(i:Int)(t:Tok)(s:Shared)(Q:Value->Shared->Prop)(E:Value->Shared->Prop),Q (.int (g i) s.toks) {s with toks:=s.toks+1}->wpAny (model X.prog X.w) X.A (f (.int i t)) Q E s) :
  UnR X f (rU λi=>.int (g i)):=by
 intro pins s σ H x v Q I rx h;obtain⟨i,rfl,q⟩:=h;obtain⟨t,rfl⟩:=rx;exact rule i t s _ _ ⟨.int (g i),H,I.tok _,⟨_,rfl⟩,q⟩
theorem DB:UnR X (unaryOp .USub) (rU λi=>.int (-i)):=unI λ_ _ _ _ _ q=>neg_int q
end
def scal:V->V->Bool
 |.non,.non=>true|.non,.int _=>true|.int _,.non=>true|.non,.bl _=>true|.bl _,.non=>true|.non,.str _=>true|.str _,.non=>true
 |.int _,.int _=>true|.bl _,.bl _=>true|.str _,.str _=>true|.byt _,.byt _=>true
 |.int _,.str _=>true|.str _,.int _=>true|.bl _,.str _=>true|.str _,.bl _=>true
 |_,_=>false
def rEq:R2:=λx y H Q=>scal x y=true/\Q (.bl (decide (x=y))) H
def rNe:R2:=λx y H Q=>scal x y=true/\Q (.bl (!decide (x=y))) H
theorem Uf{i j:Int}:decide (V.int i=V.int j)=(i==j):=by
 rw[O2];simp
theorem Yw{i j:Bool}:decide (V.bl i=V.bl j)=(i==j):=by
 rw[O2];simp
theorem Ue{i j:Str}:decide (V.str i=V.str j)=(i==j):=by
 rw[O2];simp
theorem Ug{i j:Array UInt8}:decide (V.byt i=V.byt j)=(i.toList==j.toList):=by
 rw[O2];cases i;cases j;simp
section
variable{X:Cx}{a b c:Expr}{ta tb tc:TE}{pos:Pos}
theorem Bb{pins:List (Addr×Obj)}{σ:St}{H:Hp}{s:Shared}{Q:VK}{k k':Bool}(I:Inv X pins σ H s)(q:Q (.bl k) H)(e:k=k'):EP X pins σ Q (.bool k') s:=by
 subst e;exact⟨.bl k,H,I,rfl,q⟩
theorem BS:OpR X (compareOp .Eq) rEq:=by
 intro pins s σ H x y v u Q I rx ry h;obtain⟨hs,q⟩:=h;cases x with
 |non =>
  cases rx;cases y with
  |non=>cases ry;exact PySem.EqNone.eq_none_none (Bb I q A5)
  |bl j=>cases ry;exact PySem.EqNone.eq_none_bool (Bb I q A5)
  |int j=>obtain⟨t',rfl⟩:=ry;exact PySem.EqNone.eq_none_int (Bb I q A5)
  |str j=>obtain⟨t',rfl⟩:=ry;exact PySem.EqNone.eq_none_str (Bb I q A5)
  |_=>exact absurd (show false=true from hs) D4
 |bl i =>
  cases rx;cases y with
  |non=>cases ry;exact PySem.EqNone.eq_bool_none (Bb I q A5)
  |bl j=>cases ry;exact eq_bool (Bb I q Yw)
  |str j=>obtain⟨t',rfl⟩:=ry;exact PySem.EqMixed.eq_bool_str (Bb I q A5)
  |_=>exact absurd (show false=true from hs) D4
 |int i =>
  obtain⟨t,rfl⟩:=rx;cases y with
  |non=>cases ry;exact PySem.EqNone.eq_int_none (Bb I q A5)
  |int j=>obtain⟨t',rfl⟩:=ry;exact eq_int (Bb I q Uf)
  |str j=>obtain⟨t',rfl⟩:=ry;exact PySem.EqMixed.eq_int_str (Bb I q A5)
  |_=>exact absurd (show false=true from hs) D4
 |str i =>
  obtain⟨t,rfl⟩:=rx;cases y with
  |non=>cases ry;exact PySem.EqNone.eq_str_none (Bb I q A5)
  |bl j=>cases ry;exact PySem.EqMixed.eq_str_bool (Bb I q A5)
  |int j=>obtain⟨t',rfl⟩:=ry;exact PySem.EqMixed.eq_str_int (Bb I q A5)
  |str j=>obtain⟨t',rfl⟩:=ry;exact eq_str (Bb I q Ue)
  |_=>exact absurd (show false=true from hs) D4
 |byt i =>
  obtain⟨t,rfl⟩:=rx;cases y with
  |byt j=>obtain⟨t',rfl⟩:=ry;exact PySem.W.eq_bytes (Bb I q Ug)
  |_=>exact absurd (show false=true from hs) D4
 |_=>cases y<;>exact absurd (show false=true from hs) D4
theorem JD:OpR X (compareOp .NotEq) rNe:=by
 intro pins s σ H x y v u Q I rx ry h;obtain⟨hs,q⟩:=h;cases x with
 |non =>
  cases rx;cases y with
  |non=>cases ry;exact PySem.EqNone.ne_none_none (Bb I q A5)
  |bl j=>cases ry;exact PySem.EqNone.ne_none_bool (Bb I q A5)
  |int j=>obtain⟨t',rfl⟩:=ry;exact PySem.EqNone.ne_none_int (Bb I q A5)
  |str j=>obtain⟨t',rfl⟩:=ry;exact PySem.EqNone.ne_none_str (Bb I q A5)
  |_=>exact absurd (show false=true from hs) D4
 |bl i =>
  cases rx;cases y with
  |non=>cases ry;exact PySem.EqNone.ne_bool_none (Bb I q A5)
  |bl j=>cases ry;exact ne_bool (Bb I q (A0e not Yw))
  |str j=>obtain⟨t',rfl⟩:=ry;exact PySem.EqMixed.ne_bool_str (Bb I q A5)
  |_=>exact absurd (show false=true from hs) D4
 |int i =>
  obtain⟨t,rfl⟩:=rx;cases y with
  |non=>cases ry;exact PySem.EqNone.ne_int_none (Bb I q A5)
  |int j=>obtain⟨t',rfl⟩:=ry;exact ne_int (Bb I q (A0e not Uf))
  |str j=>obtain⟨t',rfl⟩:=ry;exact PySem.EqMixed.ne_int_str (Bb I q A5)
  |_=>exact absurd (show false=true from hs) D4
 |str i =>
  obtain⟨t,rfl⟩:=rx;cases y with
  |non=>cases ry;exact PySem.EqNone.ne_str_none (Bb I q A5)
  |bl j=>cases ry;exact PySem.EqMixed.ne_str_bool (Bb I q A5)
  |int j=>obtain⟨t',rfl⟩:=ry;exact PySem.EqMixed.ne_str_int (Bb I q A5)
  |str j=>obtain⟨t',rfl⟩:=ry;exact ne_str (Bb I q (A0e not Ue))
  |_=>exact absurd (show false=true from hs) D4
 |byt i =>
  obtain⟨t,rfl⟩:=rx;cases y with
  |byt j=>obtain⟨t',rfl⟩:=ry;exact PySem.W.ne_bytes (Bb I q (A0e not Ug))
  |_=>exact absurd (show false=true from hs) D4
 |_=>cases y<;>exact absurd (show false=true from hs) D4
theorem Ja:OpR X (compareOp .Lt) (rI0 λi j=>.bl (decide (i<j))):=opB0 λ_ _ _ _ _ _ _ q=>lt_int q
theorem JE:OpR X (compareOp .LtE) (rI0 λi j=>.bl (decide (i<=j))):=opB0 λ_ _ _ _ _ _ _ q=>le_int q
theorem Dg:OpR X (compareOp .Gt) (rI0 λi j=>.bl (decide (j<i))):=opB0 λ_ _ _ _ _ _ _ q=>gt_int q
theorem op_ge:OpR X (compareOp .GtE) (rI0 λi j=>.bl (decide (j<=i))):=opB0 λ_ _ _ _ _ _ _ q=>ge_int q
theorem Li:OpR X (compareOp .In) (λx y H Q=>∃i j,x=.str i/\y=.str j/\Q (.bl (!(Builtin.Str.occurrences j i 0 j.length 1).isEmpty)) H):=by
 intro pins s σ H x y v u Q I rx ry h;obtain⟨i,j,rfl,rfl,q⟩:=h;obtain⟨t,rfl⟩:=rx;obtain⟨t',rfl⟩:=ry;exact in_str (Bb I q rfl)
theorem MP:OpR X (compareOp .Is) (λx y H Q=>y=.non/\Q (.bl (decide (x=.non))) H):=by
 intro pins s σ H x y v u Q I rx ry h;obtain⟨rfl,q⟩:=h;cases ry;refine is_none_gen (Bb I q ?_);cases x<;>first
  | (cases rx;rfl)
  | (obtain⟨t,rfl⟩:=rx;rfl)
theorem op_notN:OpR X (compareOp .IsNot) (λx y H Q=>y=.non/\Q (.bl (!decide (x=.non))) H):=by
 intro pins s σ H x y v u Q I rx ry h;obtain⟨rfl,q⟩:=h;cases ry;refine isnot_none_gen (Bb I q ?_);cases x<;>first
  | (cases rx;rfl)
  | (obtain⟨t,rfl⟩:=rx;rfl)
theorem Av(b:Expr){op:CmpOp}(h:op≠.In:=by decide)(h2:op≠.NotIn:=by decide):behindInMarks op b=false:=by
 have e1:(op==CmpOp.In)=false:=by cases op<;>first|rfl|exact absurd rfl h
 have e2:(op==CmpOp.NotIn)=false:=by cases op<;>first|rfl|exact absurd rfl h2
 cases b<;>simp[behindInMarks,e1,e2]
theorem BY{op:CmpOp}{r:R2}(ho:OpR X (compareOp op) r)(ha:PE X a ta)(hb:PE X b tb)(hm:behindInMarks op b=false):PE X (.Compare a [op] [b] pos) (tOp r ta tb):=by
 intro pins s σ H Q I h;exact wpAny_Compare1 (binT ha hb I h λv u s2 x y H2 I2 rx ry q=>ho pins s2 σ H2 x y v u Q I2 rx ry q) hm
def Tq(t:TE):TT:=fun σ H Q=>t σ H λx H'=>∃k,x=.bl k/\Q k H'
theorem Ar{op:CmpOp}{r:R2}(ho:OpR X (compareOp op) r)(ha:PE X a ta)(hb:PE X b tb)(hm:behindInMarks op b=false):PT X (.Compare a [op] [b] pos) (Tq (tOp r ta tb)):=by
 intro pins s σ H Q I h;refine wpAny_isTrue_Compare1 (thn (ha pins s σ H _ I h) λv s1 ⟨x,H1,I1,r1,q1⟩=>thn (hb pins s1 σ H1 _ I1 q1) λu s2 ⟨y,H2,I2,r2,q2⟩ =>
  thn (ho pins s2 σ H2 x y v u _ I2 r1 r2 q2) λc s3 ⟨z,H3,I3,r3,k,e,q3⟩=>?_) hm
 subst e;cases r3;exact A1c ⟨H3,I3,q3⟩
def VG(r r':R2)(ta tb tc:TE):TE:=fun σ H Q=>ta σ H λx H1=>tb σ H1 λy H2=>r x y H2 λz H3=>∃k,z=.bl k /\
 (if k=true then tc σ H3 λw' H4=>r' y w' H4 Q else Q (.bl false) H3)
theorem Wq{op op':CmpOp}{r r':R2}(ho:OpR X (compareOp op) r)(ho':OpR X (compareOp op') r')(ha:PE X a ta)(hb:PE X b tb)(hc:PE X c tc)
  (hm:lastMarks [op,op'] [b,c]=false:=by with_unfolding_all rfl):PE X (.Compare a [op,op'] [b,c] pos) (VG r r' ta tb tc):=by
 intro pins s σ H Q I h;refine Compare_chain (thn (ha pins s σ H _ I h) λv s1 ⟨x,H1,I1,r1,q1⟩=>chain_link (thn (hb pins s1 σ H1 _ I1 q1) λu s2 ⟨y,H2,I2,r2,q2⟩ =>
  thn (ho pins s2 σ H2 x y v u _ I2 r1 r2 q2) λd s3 ⟨z,H3,I3,r3,k,e,q3⟩=>?_)) hm
 subst e;cases r3;refine A1c ?_;cases k with
 |false=>exact ite_ff ⟨.bl false,H3,I3,rfl,q3⟩
 |true=>exact ite_tt (chain_last (thn (hc pins s3 σ H3 _ I3 q3) λw' s4 ⟨z',H4,I4,r4,q4⟩=>ho' pins s4 σ H4 y z' u w' Q I4 r2 r4 q4))
theorem MJ{op op':CmpOp}{r r':R2}(ho:OpR X (compareOp op) r)(ho':OpR X (compareOp op') r')(ha:PE X a ta)(hb:PE X b tb)(hc:PE X c tc)
  (hm:lastMarks [op,op'] [b,c]=false:=by with_unfolding_all rfl):PT X (.Compare a [op,op'] [b,c] pos) (Tq (VG r r' ta tb tc)):=by
 intro pins s σ H Q I h;refine isTrue_chain (thn (ha pins s σ H _ I h) λv s1 ⟨x,H1,I1,r1,q1⟩=>test_link (thn (hb pins s1 σ H1 _ I1 q1) λu s2 ⟨y,H2,I2,r2,q2⟩ =>
  thn (ho pins s2 σ H2 x y v u _ I2 r1 r2 q2) λd s3 ⟨z,H3,I3,r3,k,e,q3⟩=>?_)) hm
 subst e;cases r3;refine A1c ?_;cases k with
 |false =>
  obtain⟨k',e',q'⟩:=q3;cases e';exact ite_ff ⟨H3,I3,q'⟩
 |true =>
  refine ite_tt (test_last (thn (hc pins s3 σ H3 _ I3 q3) λw' s4 ⟨z',H4,I4,r4,q4⟩=>thn (ho' pins s4 σ H4 y z' u w' _ I4 r2 r4 q4) λd' s5 ⟨z2,H5,I5,r5,k2,e2,q5⟩=>?_));subst e2;cases r5;exact A1c ⟨H5,I5,q5⟩
theorem Lq:(sizeLine:Nat)<2^63:=by rw[sizeLine_eq];decide
theorem Jo:OpR X (binaryOp .Add) (λx y H Q=>∃i j,x=.str i/\y=.str j/\i.length+j.length<=sizeLine/\Q (.str (i++j)) H):=by
 intro pins s σ H x y v u Q I rx ry h;obtain⟨i,j,rfl,rfl,hz,q⟩:=h;obtain⟨t,rfl⟩:=rx;obtain⟨t',rfl⟩:=ry;exact add_str (λt' tk=>⟨.str (i++j),H,I.tok _,⟨_,rfl⟩,q⟩) hz
theorem LE{x:V}{us:List Value}(r:AN [x] us):∃u,us=[u]/\AY x u:=by
 cases r with
 |cons r1 r2=>cases r2;exact⟨_,rfl,r1⟩
theorem vals2{x y:V}{us:List Value}(r:AN [x,y] us):∃u w',us=[u,w']/\AY x u/\AY y w':=by
 cases r with
 |cons r1 r2 =>
  cases r2 with
  |cons r3 r4=>cases r4;exact⟨_,_,rfl,r1,r3⟩
theorem YB:Ew X (.builtin "abs") (λxs H Q=>∃i,xs=[.int i]/\Q (.int (if i<0 then -i else i)) H):=by
 intro pins s σ H xs us Q I r h;obtain⟨i,rfl,q⟩:=h;obtain⟨u,rfl,t,rfl⟩:=LE r;exact call_abs_int λu tk=>⟨.int (if i<0 then -i else i),H,I.tok _,⟨_,rfl⟩,q⟩
theorem IP(hc:X.calm=true):Ew X (.builtin "max") (λxs H Q=>∃i j,xs=[.int i,.int j]/\Q (.int (if j > i then j else i)) H):=by
 intro pins s σ H xs us Q I r h;obtain⟨i,j,rfl,q⟩:=h;obtain⟨u,w',rfl,⟨t,rfl⟩,⟨t',rfl⟩⟩:=vals2 r;refine max_two_ints (I.ok.hd hc) λh' tk k=>⟨_,H,I.kept k,?_,q⟩
 by_cases hj:j > i
 ·rw[X9 hj,X9 hj];exact⟨_,rfl⟩
 ·rw[X8 hj,X8 hj];exact⟨_,rfl⟩
theorem Ga(hc:X.calm=true):Ew X (.builtin "min") (λxs H Q=>∃i j,xs=[.int i,.int j]/\Q (.int (if j<i then j else i)) H):=by
 intro pins s σ H xs us Q I r h;obtain⟨i,j,rfl,q⟩:=h;obtain⟨u,w',rfl,⟨t,rfl⟩,⟨t',rfl⟩⟩:=vals2 r;refine min_two_ints (I.ok.hd hc) λh' tk k=>⟨_,H,I.kept k,?_,q⟩
 by_cases hj:j<i
 ·rw[X9 hj,X9 hj];exact⟨_,rfl⟩
 ·rw[X8 hj,X8 hj];exact⟨_,rfl⟩
theorem OR:Ew X (.type "int") (λxs H Q=>(∃i,xs=[.int i]/\Q (.int i) H)\/∃k,xs=[.bl k]/\Q (.int (if k then 1 else 0)) H):=by
 intro pins s σ H xs us Q I r h;rcases h with ⟨i,rfl,q⟩|⟨k,rfl,q⟩
 ·obtain⟨u,rfl,t,rfl⟩:=LE r;exact call_int_int ⟨.int i,H,I,⟨_,rfl⟩,q⟩
 ·obtain⟨u,rfl,r1⟩:=LE r;cases r1;exact call_int_bool ⟨.int (if k then 1 else 0),H,I.tok _,⟨_,rfl⟩,q⟩
theorem Qq:Ew X (.type "str") (λxs H Q=>∃i,xs=[.int i]/\i.natAbs.log2<1920/\Q (.str (toString i)) H):=by
 intro pins s σ H xs us Q I r h;obtain⟨i,rfl,hz,q⟩:=h;obtain⟨u,rfl,t,rfl⟩:=LE r;exact PySem.P.str_of_int hz ⟨.str _,H,I.tok _,⟨_,rfl⟩,q⟩
end
structure Tc(h:Heap)(x dx C:Addr)(mA:Str->Option Value):Prop where
 obj:h.get? x=some (instObj C dx)
 ns:h.Ns1 dx mA
 ne:dx≠x
theorem UY{h:Heap}{dx:Addr}{mA:Str->Option Value}(n:h.Ns1 dx mA):∃od,h.get? dx=some od/\∀name,lookIn name od=some (mA name):=by
 obtain⟨o,es,ep,ho,hd,hk,_,hm⟩:=n;refine⟨o,ho,λname=>?_⟩;have e:=hm name;unfold nsFind findBy at e;rw[<-Array.find?_toList]at e;unfold lookIn;rw[hd];dsimp only;split
 ·rename_i y q;rw[q]at e;exact A0e some e
 ·rename_i q;rw[q]at e;have a:es.toList.any (·.refKey)=false:=by
   rw[List.any_eq_false];intro y hy;obtain⟨z,t,hkey⟩:=hk y (Array.mem_toList_iff.mp hy);simp[DictEntry.refKey,hkey]
  have a':¬es.toList.any (·.refKey)=true:=by rw[a];exact D4
  rw[X8 a'];exact A0e some e
theorem Tc.look{h:Heap}{x dx C:Addr}{mA:Str->Option Value}(I:Tc h x dx C mA):∃od,PySem.W.InstAt h x (instObj C dx) C (some od)/\∀name,lookIn name od=some (mA name) :=
 let ⟨od,ho,hl⟩:=UY I.ns
 ⟨od,⟨I.obj,rfl,rfl,ho⟩,hl⟩
section
variable{prog:Program}{w:World}{A:Around}{E:Value->Shared->Prop}{s:Shared}{K:PySem.W.Frag}{x dx C f:Addr}{mA:Str->Option Value}{name:Str}{v:Value}
theorem get_map{expr:Bool}{Q:Value->Shared->Prop}(X:K.In s.heap)(I:Tc s.heap x dx C mA)(hg:plainGet K C name=true)(hh:hasDictIn K C=true)
  (ha:findIn K (.ref C) name=some none) (hv:mA name=some v) (hv':handedIn v=true) (h:Q v {s with toks:=s.toks+1}) :
  wpAny (model prog w) A (getAttr (.ref x) name expr) Q E s:=by
 obtain⟨od,J,hl⟩:=I.look;exact PySem.W.get_value X J (A7h hg).1 (PySem.W.findObj_own hh ha rfl (by rw[hl,hv])) hv' h
theorem Ym{pl:Sem Bool}{Q:Value×List Value->Shared->Prop}(X:K.In s.heap)(I:Tc s.heap x dx C mA)(hg:plainGet K C name=true)
  (hf:findIn K (.ref C) name=some (some (.ref f))) (ht:isFn K (.ref f)=true) (hv:mA name=none) (h:Q (.ref f,[.ref x]) s) :
  wpAny (model prog w) A (getMethod (.ref x) name pl) Q E s:=by
 obtain⟨od,J,hl⟩:=I.look;exact PySem.W.method_fn X J (A7h hg).1 (A7h hg).2 hf (beq_iff_eq.mp ht) (by show(lookIn name od).map (·.isSome)=some false;rw[hl,hv];rfl) h
theorem set_map{ns:List Str}{Q:Unit->Shared->Prop}(X:K.In s.heap)(I:Tc s.heap x dx C mA)
  (hs:findIn K (.ref C) "__setattr__" = some (some (.builtin "object.__setattr__"))) (hp:plainOver K C=true) (ht:takerIn K C name=some none) (hh:hasDictIn K C=true)
  (hw:PySem.Within mA ns) (hsz:ns.length<=sizeLine)
  (h:∀h',Tc h' x dx C (λy=>if y=name then some v else mA y)->Heap.SameBut dx s.heap h'->Q () {s with heap:=h',toks:=s.toks+2}) :
  wpAny (model prog w) A (setAttr (.ref x) name v) Q E s:=by
 obtain⟨od,J,hl⟩:=I.look;refine PySem.W.set_plain X J hs (PySem.W.osa_open (s:={s with toks:=s.toks+1}) (r:=none) X J hp ht λb=>?_)
 obtain⟨cd,hc,hd'⟩:=any_some hh;have hx:s.heap.get? x=some ⟨.ref C,some dx,.plain,#[]⟩:=I.obj;refine X5 (K5 (X5 (X5 (wpAny_loadPart hx (X5 (PySem.W.Looks.here (s:={s with toks:=s.toks+1}) (PySem.W.looks_clsIn X hc) ?_))))))
 rw[hd'];refine K5 (a:=some dx) (X5 (K5 (X5 ?_)));refine wpAny_nsSet1 (s:={s with toks:=s.toks+1}) I.ns λh' hn2 hs2=>?_;obtain⟨oD,esD,epD,hoD,hdD,hcD⟩:=hn2.count (PySem.Within.cons name v hw);refine X5 (wpAny_lookBehind hoD (by rw[hdD];exact pastItsLine_dict (C6 hcD (by rw[D1];lia))) ?_);exact K5 (h _ ⟨(hs2.2 _ (A0c I.ne)).trans I.obj,hn2,I.ne⟩ hs2)
theorem Ya{R:Result->Shared->Prop}{vs:List Value}{kw:List (Str×Value)}(X:K.In s.heap)(hm:makesIn K C=true)
  (hi:findIn K (.ref C) "__init__" = some (some (.ref f))) (hf:PySem.W.typeIn K (.ref f)=some (.type "function"))
  (h:codeAny (model prog w) (A.under (.builtin "type.__call__" ⟨.ref C::vs,kw⟩)) (.call (.ref f) ⟨.ref (s.heap.objs.size+1)::vs,kw⟩) (PySem.W.InitBack (s.heap.objs.size+1) R)
   {s with heap:=(s.heap.push emptyDict).push (instObj C s.heap.objs.size)}) :
  codeAny (model prog w) A (.call (.ref C) ⟨vs,kw⟩) R s:=by
 obtain⟨hh,g,d,t,os⟩:=s;exact PySem.W.make_core (PySem.W.makes_of X hm) (PySem.W.looks_findIn X hi) (λself=>PySem.W.bind_fn X self hf) (.inl rfl) h
end
def Ci(f:Str)(v:V):List (Str×V)->List (Str×V)
 |[]=>[(f,v)]
 | (g,x)::r=>if g=f then(g,v)::r else(g,x)::Ci f v r
theorem Ay(f g:Str)(v:V):∀fs:List (Str×V),(Ci f v fs).lookup g=if g=f then some v else fs.lookup g
 |[]=>by
  show List.lookup g [(f,v)]=_;by_cases h:g=f
  ·have hb:(g==f)=true:=beq_iff_eq.mpr h;simp only[List.lookup,hb,X9 h]
  ·have hb:(g==f)=false:=beq_eq_false_iff_ne.mpr h;simp only[List.lookup,hb,X8 h]
 | (k,x)::r=>by
  have ih:=Ay f g v r;rw[show Ci f v ((k,x)::r)=(if k=f then(k,v)::r else(k,x)::Ci f v r)from rfl];by_cases hk:k=f
  ·rw[X9 hk];by_cases h:g=k
   ·have hb:(g==k)=true:=beq_iff_eq.mpr h;simp only[List.lookup,hb,X9 (h.trans hk)]
   ·have hb:(g==k)=false:=beq_eq_false_iff_ne.mpr h;simp only[List.lookup,hb,X8 (λe:g=f=>h (e.trans hk.symm))]
  ·rw[X8 hk];by_cases h:g=k
   ·have hb:(g==k)=true:=beq_iff_eq.mpr h;simp only[List.lookup,hb,X8 (λe:g=f=>hk (h.symm.trans e))]
   ·have hb:(g==k)=false:=beq_eq_false_iff_ne.mpr h;simp only[List.lookup,hb];exact ih
theorem Lr(f:Str)(v:V):∀fs:List (Str×V),f∈(Ci f v fs).map (·.1)/\∀g,g∈fs.map (·.1)->g∈(Ci f v fs).map (·.1)
 |[]=>⟨by simp[Ci],λg h=>by simp at h⟩
 | (k,x)::r=>by
  obtain⟨i1,i2⟩:=Lr f v r;rw[show Ci f v ((k,x)::r)=(if k=f then(k,v)::r else(k,x)::Ci f v r)from rfl];by_cases hk:k=f
  ·rw[X9 hk];subst hk;exact⟨by simp,λg h=>by simpa using h⟩
  ·rw[X8 hk];refine⟨?_,λg h=>?_⟩
   ·rw[C9];exact B9 _ i1
   ·rw[C9]at h⊢;rcases C2.mp h with e|e
    ·exact C2.mpr (.inl e)
    ·exact B9 _ (i2 g e)
theorem LJ(f:Str)(v:V):∀fs:List (Str×V),(Ci f v fs).length<=fs.length+1
 |[]=>by simp[Ci]
 | (k,x)::r=>by
  have ih:=LJ f v r;rw[show Ci f v ((k,x)::r)=(if k=f then(k,v)::r else(k,x)::Ci f v r)from rfl];by_cases hk:k=f
  ·rw[X9 hk,D1,D1];lia
  ·rw[X8 hk,D1,D1];lia
theorem GP.some_of{v:V}{o:Option Value}(r:GP (some v) o):∃u,o=some u/\AY v u:=by
 cases o with
 |none=>exact(show False from r).elim
 |some u=>exact⟨u,rfl,r⟩
theorem GP.none_of{o:Option Value}(r:GP none o):o=none:=by
 cases o with
 |none=>rfl
 |some u=>exact(show False from r).elim
theorem Vk{v:V}{u:Value}(r:AY v u):handedIn u=true:=by
 cases v with
 |non=>cases(show u=Value.none from r);rfl
 |bl b=>cases(show u=Value.bool b from r);rfl
 |int i=>obtain⟨t,e⟩:=(show ∃t,u=Value.int i t from r);cases e;rfl
 |str x=>obtain⟨t,e⟩:=(show ∃t,u=Value.str x t from r);cases e;rfl
 |byt b=>obtain⟨t,e⟩:=(show ∃t,u=Value.bytes b t from r);cases e;rfl
 |flt b=>obtain⟨t,e⟩:=(show ∃t,u=Value.float b t from r);cases e;rfl
 |ref a=>cases(show u=Value.ref a from r);rfl
 |ty n=>cases(show u=Value.type n from r);rfl
section
variable{P:Program}{w:World}{H H':Hp}{h h':Heap}{a C dx:Addr}{fs fs':List (Str×V)}
theorem Mo(hok:HOk P w H h)(e:H a=some (.ins C dx fs)):∃mA,Tc h a dx C mA/\(∀f,GP (fs.lookup f) (mA f))/\PySem.Within mA (fs.map (·.1))/\fs.length<=1000/\H dx=some (.own a):=by
 obtain⟨d,z,ne,ob,mA,n,r,q⟩:=(show Bl P w H h a (.ins C dx fs)from hok a _ e)
 exact⟨mA,⟨ob,n,ne⟩,r,q,z,d⟩
end
structure Cls(K:PySem.W.Frag)(C:Addr):Prop where
 pg:plainGet K C Str.empty=true
 hd:hasDictIn K C=true
 po:plainOver K C=true
 sa:findIn K (.ref C) "__setattr__" = some (some (.builtin "object.__setattr__"))
theorem Cls.get{K:PySem.W.Frag}{C:Addr}(c:Cls K C)(f:Str):plainGet K C f=true:=c.pg
def Dz(K:PySem.W.Frag)(C:Addr)(f:Str):Prop:=findIn K (.ref C) f=some none
theorem Dz.taker{K:PySem.W.Frag}{C:Addr}{f:Str}(n:Dz K C f):takerIn K C f=some none:=by
 unfold takerIn;rw[show findIn K (.ref C) f=some none from n];rfl
structure RQ(K:PySem.W.Frag)(C:Addr)(m:Str)(f:Addr):Prop where
 at_:findIn K (.ref C) m=some (some (.ref f))
 fn:isFn K (.ref f)=true
 kp:keepIn K (.ref f)=true
section
variable{X:Cx}{pins:List (Addr×Obj)}{σ:St}{H:Hp}{s:Shared}{a C dx:Addr}{fs:List (Str×V)}{f:Str}{v:V}{A:Around}{E:Value->Shared->Prop}
theorem SN{b:Bool}{Q:Value->Shared->Prop}(I:Inv X pins σ H s)(e:H a=some (.ins C dx fs))(c:Cls X.K C)(n:Dz X.K C f)(l:fs.lookup f=some v)
  (h:∀u s',Inv X pins σ H s'->AY v u->Q u s'):wpAny (model X.prog X.w) A (getAttr (.ref a) f b) Q E s:=by
 obtain⟨mA,O,r,_,_,_⟩:=Mo I.hok e;obtain⟨u,hu,ru⟩:=GP.some_of (v:=v) (o:=mA f) (by rw[<-l];exact r f);exact get_map I.kIn O (c.get f) c.hd n hu (Vk ru) (h u _ (I.tok _) ru)
theorem SM{m:Str}{g:Addr}{pl:Sem Bool}{Q:Value×List Value->Shared->Prop}(I:Inv X pins σ H s)(e:H a=some (.ins C dx fs))(c:Cls X.K C)(k:RQ X.K C m g)(l:fs.lookup m=none)
  (h:Q (.ref g,[.ref a]) s):wpAny (model X.prog X.w) A (getMethod (.ref a) m pl) Q E s:=by
 obtain⟨mA,O,r,_,_,_⟩:=Mo I.hok e;have hn:mA m=none:=GP.none_of (by rw[<-l];exact r m);exact Ym I.kIn O (c.get m) k.at_ k.fn hn h
theorem Sg{y:V}{u:Value}{Q:Unit->Shared->Prop}(I:Inv X pins σ H s)(e:H a=some (.ins C dx fs))(c:Cls X.K C)(n:Dz X.K C f)(hl:fs.length<1000)(ry:AY y u)
  (h:∀s',Inv X pins σ (upd H a (.ins C dx (Ci f y fs))) s'->Q () s'):wpAny (model X.prog X.w) A (setAttr (.ref a) f u) Q E s:=by
 obtain⟨mA,O,r,wi,_,ho⟩:=Mo I.hok e;have hz:(fs.map (·.1)).length<=sizeLine:=by rw[A9,sizeLine_eq];lia
 refine set_map I.kIn O c.sa c.po n.taker c.hd wi hz λh' O' sb=>h _ ?_;have hd:∃o,h'.get? dx=some o:=let ⟨o,_,_,e',_⟩:=O'.ns;⟨o,e'⟩;refine I.write (x:=a) (e:=dx) (by rw[e];exact True.intro) (.inr ho) (λb q hb z=>(sb.2 b hb).trans z) hd ?_;refine⟨by rw[At O.ne];exact ho,?_,O.ne,O'.obj,_,O'.ns,λg=>?_,λg hg=>?_⟩
 ·have:=LJ f y fs;lia
 ·show GP ((Ci f y fs).lookup g) (if g=f then some u else mA g);rw[Ay];by_cases q:g=f
  ·rw[X9 q,X9 q];exact ry
  ·rw[X8 q,X8 q];exact r g
 ·by_cases q:g=f
  ·rw[q];exact(Lr f y fs).1
  ·refine(Lr f y fs).2 g (wi g λz=>hg ?_);show(if g=f then some u else mA g)=none;rw[X8 q];exact z
theorem Inv.made(I:Inv X pins σ H s):Inv X pins σ (upd (upd H s.heap.objs.size (.own (s.heap.objs.size+1))) (s.heap.objs.size+1) (.ins C s.heap.objs.size []))
  {s with heap:=(s.heap.push emptyDict).push (instObj C s.heap.objs.size)}:=by
 have e1:(s.heap.push emptyDict).get? s.heap.objs.size=some emptyDict:=D0 s.heap rfl;have e2:((s.heap.push emptyDict).push (instObj C s.heap.objs.size)).get? (s.heap.objs.size+1)=some (instObj C s.heap.objs.size):=by
  have:=D0 (s.heap.push emptyDict) (o:=instObj C s.heap.objs.size) rfl
  rwa [R4]at this
 have e3:(s.heap.push emptyDict).Ns s.heap.objs.size (λ_=>none):=⟨emptyDict,#[],_,e1,rfl,(λe he=>absurd he A5),λ_=>rfl⟩
 have I1:=I.laid (a:=s.heap.objs.size) (o:=.own (s.heap.objs.size+1)) (h':=s.heap.push emptyDict) (t':=s.toks) (λb u q=>B5 _ q) (B1 _) ⟨_,e1⟩;refine I1.laid (a:=s.heap.objs.size+1) (o:=.ins C s.heap.objs.size []) (t':=s.toks) (λb u q=>B5 _ q) (X0 (R4 _ _)) ?_;have ne:s.heap.objs.size≠s.heap.objs.size+1:=F3 (U1 _);refine⟨by rw[At ne,Ag],G9 _,ne,e2,λ_=>none,(Heap.Ns1.of_empty e3).at λo q=>B5 _ q,λ_=>True.intro,λy hy=>absurd rfl hy⟩
theorem attr_of{prog:Program}{w:World}{env:Env}{e:Expr}{f:Str}{pos:Pos}{s:Shared}{Q:Value->Shared->Prop}(hb:attributeBase e f env (eval e env)=eval e env)
  (h:wpAny (model prog w) A (eval e env) (λo s₁=>wpAny (model prog w) A (getAttr o f true) Q E s₁) E s):wpAny (model prog w) A (eval (.Attribute e f pos) env) Q E s :=
 Attribute_any_ h (by rw[arm_eval_Attribute,hb])
end
def tFld(K:PySem.W.Frag)(ta:TE)(f:Str):TE:=fun σ H Q=>ta σ H λx H1=>∃a C dx fs v,x=.ref a/\H1 a=some (.ins C dx fs)/\Cls K C/\Dz K C f/\fs.lookup f=some v/\Q v H1
def sFld(K:PySem.W.Frag)(ta tv:TE)(f:Str):TS:=λD σ H=>tv σ H λy H1=>ta σ H1 λx H2=>∃a C dx fs,x=.ref a/\H2 a=some (.ins C dx fs)/\Cls K C/\Dz K C f/\fs.length<1000 /\
 D.nx σ (upd H2 a (.ins C dx (Ci f y fs)))
section
variable{X:Cx}{o e value:Expr}{f:Str}{pos pos' tpos:Pos}{ta tv:TE}
theorem AT(he:PE X e ta)(hb:attributeBase e f X.env (eval e X.env)=eval e X.env):PE X (.Attribute e f pos) (tFld X.K ta f):=by
 intro pins s σ H Q I h;refine attr_of hb (thn (he pins s σ H _ I h) λu s1 ⟨x,H1,I1,rx,a,C,dx,fs,v,ex,ea,c,n,l,q⟩=>?_);subst ex;obtain rfl:u=Value.ref a:=rx;exact SN I1 ea c n l λu' s2 I2 ru=>⟨v,H1,I2,ru,q⟩
theorem Le(ha:PE X o ta)(hv:PE X value tv)(hs:swapsWith value (some (.Attribute o f pos')) pos.line X.env=pure false):PS X (.Assign [.Attribute o f pos'] value pos) (sFld X.K ta tv f):=by
 intro pins s σ H D I h;refine plainObj_wpAny_Assign_Attribute (thn (hv pins s σ H _ I h) λu s1 ⟨y,H1,I1,ry,q⟩=>thn (ha pins s1 σ H1 _ I1 q) λov s2 ⟨x,H2,I2,rx,a,C,dx,fs,ex,ea,c,n,l,q2⟩=>?_) hs;subst ex;obtain rfl:ov=Value.ref a:=rx;exact Sg I2 ea c n l ry λs3 I3=>⟨σ,_,I3,q2⟩
end
section
variable{X:Cx}{pins:List (Addr×Obj)}{σ:St}{H:Hp}{s:Shared}{A:Around}{E:Value->Shared->Prop}{Q:Value->Shared->Prop}{c:Value}{b:Bool}
inductive LA(K:PySem.W.Frag)(H:Hp):V->Value->Prop where
 |non:LA K H .non (.type "NoneType")
 |bl (x:Bool):LA K H (.bl x) (.type "bool")
 |int (i:Int):LA K H (.int i) (.type "int")
 |str (x:Str):LA K H (.str x) (.type "str")
 |flt (x:UInt64):LA K H (.flt x) (.type "float")
 |lst {a:Addr} {xs:List V} (e:H a=some (.lst xs)):LA K H (.ref a) (.type "list")
 |frz {a:Addr} {o:Obj} {xs:List V} (e:H a=some (.frz o (.lst xs))):LA K H (.ref a) (.type "list")
 |tup {a:Addr} {xs:List V} (e:H a=some (.tup xs)):LA K H (.ref a) (.type "tuple")
 |dK {a:Addr} {kvs:List (Key×V)} (e:H a=some (.dK kvs)):LA K H (.ref a) (.type "dict")
 |dT {a:Addr} {kvs:List (List Key×V)} (e:H a=some (.dT kvs)):LA K H (.ref a) (.type "dict")
 |ins {a C dx:Addr} {fs:List (Str×V)} (e:H a=some (.ins C dx fs)) (cl:Cls K C) (ha:findIn K (.ref C) "__class__" = some (some (.builtin "object.__class__")))
   (hn:specialIn K (.builtin "object.__class__") "__get__" = some (some (.builtin "getset_descriptor.__get__"))) (htk:takesIn K (.builtin "object.__class__")=some true)
   (hm:mroIn K C (.type "object")=some true):LA K H (.ref a) (.ref C)
theorem Vh{x:V}{u t:Value}(I:Inv X pins σ H s)(rx:AY x u)(ty:LA X.K H x t)(e:kitOne X.K t c=some b)(h:∀tk,Q (.bool b) {s with toks:=tk}) :
  wpAny (model X.prog X.w) A (call (.builtin "isinstance") [u,c]) Q E s:=by
 cases ty with
 |non=>cases(show u=Value.none from rx);exact A1a PySem.W.kitx_none I.kIn True.intro e (λz=>nomatch z) h
 |bl y=>cases(show u=Value.bool y from rx);exact A1a PySem.W.kitx_bool I.kIn True.intro e (λz=>nomatch z) h
 |int i=>obtain⟨t,q⟩:=(show ∃t,u=Value.int i t from rx);cases q;exact A1a PySem.W.kitx_int I.kIn True.intro e (λz=>nomatch z) h
 |str y=>obtain⟨t,q⟩:=(show ∃t,u=Value.str y t from rx);cases q;exact A1a PySem.W.kitx_str I.kIn True.intro e (λz=>nomatch z) h
 |flt y=>obtain⟨t,q⟩:=(show ∃t,u=Value.float y t from rx);cases q;exact A1a PySem.W.kitx_float I.kIn True.intro e (λz=>nomatch z) h
 |@lst a xs ea =>
  cases(show u=Value.ref a from rx);obtain⟨_,_,n,_,h1⟩:=(show Bl X.prog X.w H s.heap a (.lst xs)from I.hok a _ ea)
  exact A1a kitx_list I.kIn ⟨_,h1,rfl⟩ e (λz=>nomatch z) h
 |@frz a ob xs ea =>
  cases(show u=Value.ref a from rx);obtain⟨_,_,_,n,_,h1⟩:=(show Bl X.prog X.w H s.heap a (.frz ob (.lst xs))from I.hok a _ ea)
  exact A1a kitx_list I.kIn ⟨_,h1,rfl⟩ e (λz=>nomatch z) h
 |@tup a xs ea =>
  cases(show u=Value.ref a from rx);obtain⟨_,_,_,p⟩:=(show Bl X.prog X.w H s.heap a (.tup xs)from I.hok a _ ea)
  obtain⟨o,h1,h2,_⟩:=p;exact A1a PySem.W.kitx_tuple I.kIn ⟨o,h1,h2⟩ e (λz=>nomatch z) h
 |@dK a kvs ea =>
  cases(show u=Value.ref a from rx);obtain⟨_,_,vs,_,p⟩:=(show Bl X.prog X.w H s.heap a (.dK kvs)from I.hok a _ ea)
  obtain⟨o,es,ep,h1,h2,_⟩:=p;exact A1a kitx_dict I.kIn ⟨o,h1,h2.1⟩ e (λz=>nomatch z) h
 |@dT a kvs ea =>
  cases(show u=Value.ref a from rx);obtain⟨_,_,xs,_,o,es,ep,h1,h2,_⟩:=(show Bl X.prog X.w H s.heap a (.dT kvs)from I.hok a _ ea)
  exact A1a kitx_dict I.kIn ⟨o,h1,h2.1⟩ e (λz=>nomatch z) h
 |@ins a C dx fs ea cl ha hn htk hm =>
  cases(show u=Value.ref a from rx);obtain⟨mA,O,_⟩:=Mo I.hok ea;obtain⟨od,J,_⟩:=O.look;exact A1a (PySem.W.kitx_own (cl.get _) cl.hd ha hn htk hm) I.kIn J e (λz=>nomatch z) h
end
structure BT(k:Nat)(A:Around):Prop where
 hd:A.handled=none
 dp:A.depth+3*k+5<recursionLimit
 un:A.units+16*k+200<cLine
theorem BT.mono{j k:Nat}{A:Around}(r:BT k A)(h:j<=k):BT j A:=⟨r.hd,by have:=r.dp;lia,by have:=r.un;lia⟩
theorem BT.deeper{k:Nat}{A:Around}(r:BT (k+1) A)(env:Env):BT k (A.deeper env) :=
 ⟨r.hd,by have:=r.dp;show A.depth+1+3*k+5<_;lia,by have:=r.un;show A.units+3+16*k+200<_;lia⟩
theorem BT.in1{k:Nat}{A:Around}(r:BT (k+1) A):BT k A.in1 :=
 ⟨r.hd,by have:=r.dp;show A.depth+3*k+5<_;lia,by have:=r.un;show A.units+1+16*k+200<_;lia⟩
theorem SH{A:Around}{C:Addr}{us:List Value}{kw:List (Str×Value)}:(A.under (.builtin "type.__call__" ⟨.ref C::us,kw⟩)).depth=A.depth+1:=by
 first|rfl|simp[Around.under,Code.weight,Code.isCreation,Code.isGuard,Code.isCaller,Code.frames,Code.isFrame,guardIds]
theorem SG{A:Around}{C:Addr}{us:List Value}{kw:List (Str×Value)}:(A.under (.builtin "type.__call__" ⟨.ref C::us,kw⟩)).units=A.units+1:=by
 first|rfl|simp[Around.under,Code.cUnits,Code.frames,Code.isFrame]
theorem BT.make{k:Nat}{A:Around}(r:BT (k+1) A)(C:Addr)(us:List Value)(kw:List (Str×Value)):BT k (A.under (.builtin "type.__call__" ⟨.ref C::us,kw⟩)) :=
 ⟨r.hd,by have:=r.dp;rw[SH];lia,by have:=r.un;rw[SG];lia⟩
theorem BT.depth{k:Nat}{A:Around}(r:BT k A):A.depth<recursionLimit:=by have:=r.dp;lia
theorem BT.units{k:Nat}{A:Around}(r:BT k A):A.units+64<cLine:=by have:=r.un;lia
def tNil:TA:=λ_ H Q=>Q [] H
def On(ta:TE)(tr:TA):TA:=fun σ H Q=>ta σ H λx H1=>tr σ H1 λxs H2=>Q (x::xs) H2
section
variable{X:Cx}{e:Expr}{es:List Expr}{te:TE}{t:TA}{pos:Pos}
theorem Ac:PA X [] tNil:=λ_ _ _ _ H Q I h=>Calls.spliced_nil ⟨[],H,I,.nil,h⟩
theorem Aa(ha:PE X e te)(hr:PA X es t)(hs:starEach (e::es) X.env=(false,eval e X.env)::starEach es X.env:=by rfl):PA X (e::es) (On te t):=by
 intro pos pins s σ H Q I h;rw[hs];show wpAny _ _ (spliced ((false,eval e X.env)::backTo pos (starEach es X.env))) _ _ s;refine A8h (thn (ha pins s σ H _ I h) λu s1 ⟨x,H1,I1,r1,q1⟩=>?_);exact thn (hr pos pins s1 σ H1 _ I1 q1) λus s2 ⟨xs,H2,I2,r2,q2⟩=>⟨x::xs,H2,I2,.cons r1 r2,q2⟩
def tTup(t:TA):TE:=fun σ H Q=>t σ H λxs H1=>xs.length<=sizeLine/\∀p,H1 p=none->Q (.ref p) (upd H1 p (.tup xs))
def tLst(t:TA):TE:=fun σ H Q=>t σ H λxs H1=>xs.length<=sizeLine/\∀p,H1 p=none->Q (.ref p) (upd H1 p (.lst xs))
theorem Ck{x1}(h:PA X es t):PE X (.Tuple es x1 pos) (tTup t):=by
 intro pins s σ H Q I hq;refine wpAny_Tuple_spliced (thn (h pos pins s σ H _ I hq) λus s1 ⟨xs,H1,I1,r,z,q⟩=>⟨by rw[<-r.length];exact z,?_⟩);have hf:H1 s1.heap.objs.size=none:=I1.hok.fresh (B1 _);refine⟨.ref s1.heap.objs.size,upd H1 s1.heap.objs.size (.tup xs),I1.laid (t':=s1.toks) (λb u e=>B5 _ e) (B1 _) ?_,rfl,q _ hf⟩;exact⟨z,us,r,⟨_,D0 _ rfl,rfl,_,rfl⟩⟩
theorem BP(h:PA X es t):PE X (.List es pos) (tLst t):=by
 intro pins s σ H Q I hq;refine wpAny_List_spliced (thn (h pos pins s σ H _ I hq) λus s1 ⟨xs,H1,I1,r,z,q⟩=>⟨by rw[<-r.length];exact z,?_⟩);have hf:H1 s1.heap.objs.size=none:=I1.hok.fresh (B1 _);refine⟨.ref s1.heap.objs.size,upd H1 s1.heap.objs.size (.lst xs),I1.laid (t':=s1.toks) (λb u e=>B5 _ e) (B1 _) ?_,rfl,q _ hf⟩;exact⟨z,us,0,r,D0 _ rfl⟩
end
abbrev Sp:=List V->Hp->VK->XK->Prop
abbrev CXT:=List Env->Hp->Shared->XK->Value->Shared->Prop
structure LC(P:Program)(w:World)(K:PySem.W.Frag)(mg:Str->Option Value)(base:Heap)(A:Around)(outer:List Env)(s:Shared)(H:Hp):Prop where
 frames:A.frames=some outer
 mod:Mod K mg base
 bs:∀b o,base.get? b=some o->s.heap.get? b=some o/\H b=none
 bsz:base.objs.size<=s.heap.objs.size
 funs:s.heap.FunFrames base outer
 frf:∀b∈frs outer,H b=none
 hok:HOk P w H s.heap
 bare:AllBare s.gens
def CE(outer:List Env)(P:Program)(w:World)(H:Hp)(s:Shared)(Q:VK)(u:Value)(s':Shared):Prop :=
 ∃v H',s'.os=s.os/\AllBare s'.gens/\Un (frs outer) [] H H' s.heap s'.heap/\HOk P w H' s'.heap/\AY v u/\Q v H'
def CR(CX:CXT)(outer:List Env)(P:Program)(w:World)(H:Hp)(s:Shared)(Q:VK)(E:XK)(r:Result)(s':Shared):Prop :=
 match r with
 |.ok (.ret u)=>CE outer P w H s Q u s'
 |.ok _=>False
 |.error e=>CX outer H s E e s'
structure AC(P:Program)(w:World)(K:PySem.W.Frag)(mg:Str->Option Value)(base:Heap)(CX:CXT)(k:Nat)(f:Addr)(fd:FuncData)(ps:List Str)(sp:Sp):Prop where
 len:∀vs H Q E,sp vs H Q E->vs.length=ps.length
 run:∀(A:Around)(outer:List Env)(s:Shared)(H:Hp)(args:Args)(us:List Value)(vs:List V)(Q:VK)(E:XK),BT k A->LC P w K mg base A outer s H->BindsTo s fd args (ps.zip us)->AN vs us->sp vs H Q E ->
  codeAny (model P w) A (.call (.ref f) args) (CR CX outer P w H s Q E) s
theorem LC.make{P:Program}{w:World}{K:PySem.W.Frag}{mg:Str->Option Value}{base:Heap}{A:Around}{outer:List Env}{s:Shared}{H:Hp}(e:LC P w K mg base A outer s H)(C:Addr)(us:List Value)(kw:List (Str×Value)) :
  LC P w K mg base (A.under (.builtin "type.__call__" ⟨.ref C::us,kw⟩)) outer s H:=⟨by first|exact e.frames|(simpa[Around.under,Code.envs,Code.isFrame,pushEnvs] using e.frames),e.mod,e.bs,e.bsz,e.funs,e.frf,e.hok,e.bare⟩
theorem LC.in1{P:Program}{w:World}{K:PySem.W.Frag}{mg:Str->Option Value}{base:Heap}{A:Around}{outer:List Env}{s:Shared}{H:Hp}(e:LC P w K mg base A outer s H) :
  LC P w K mg base A.in1 outer s H:=⟨e.frames,e.mod,e.bs,e.bsz,e.funs,e.frf,e.hok,e.bare⟩
section
variable{X:Cx}{pins:List (Addr×Obj)}{σ:St}{H:Hp}{s s':Shared}
theorem Inv.env0(I:Inv X pins σ H s):LC X.prog X.w X.K X.mg X.base X.A X.stack s H :=
 ⟨I.ok.frames,I.ok.mod,I.bs,C6 I.ok.bsz I.sz,I.stack,I.stkFree,I.hok,I.bare⟩
theorem Inv.after{Q:VK}{u:Value}(I:Inv X pins σ H s)(h:CE X.stack X.prog X.w H s Q u s'):EP X pins σ Q u s':=by
 obtain⟨v,H',os,bare,un,hok,r,q⟩:=h;obtain⟨hh,g,d,t,os'⟩:=s';obtain rfl:os'=s.os:=os;exact⟨v,H',I.call (h':=hh) (g':=g) (d':=d) (t':=t) (ch:=[]) un hok bare (λb z=>absurd z A5),r,q⟩
end
def Tr(sp:Sp)(dvs:List V)(E:XK)(t:TA):TE:=fun σ H Q=>t σ H λvs H1=>sp (vs++dvs) H1 Q E
def tMeth(C:Addr)(m:Str)(sp:Sp)(dvs:List V)(E:XK)(ta:TE)(t:TA):TE:=fun σ H Q=>ta σ H λx H1=>∃a dx fs,x=.ref a/\H1 a=some (.ins C dx fs)/\fs.lookup m=none /\
 t σ H1 λvs H2=>sp (x::(vs++dvs)) H2 Q E
def tMake(C:Addr)(sp:Sp)(dvs:List V)(E:XK)(t:TA):TE:=fun σ H Q=>t σ H λvs H1=>∀x dx,H1 x=none->H1 dx=none->dx≠x ->
 sp (.ref x::(vs++dvs)) (upd (upd H1 dx (.own x)) x (.ins C dx [])) (λv H2=>v=.non/\Q (.ref x) H2) E
def BN(K:PySem.W.Frag)(fd:FuncData)(ps:List Str)(ds:List Value):Prop :=
 ∀(s:Shared)(us:List Value),K.In s.heap->(us++ds).length=ps.length->BindsTo s fd ⟨us,[]⟩ (ps.zip (us++ds))
theorem BN.all{K:PySem.W.Frag}{fd:FuncData}{ps:List Str}(h:∀us:List Value,us.length=ps.length->bindArgs fd ⟨us,[]⟩=pure (ps.zip us)):BN K fd ps []:=λs us _ hl=>by
 rw[M2]at hl⊢;exact .of_eq (h us hl)
def FO(CX:CXT)(X:Cx)(E:XK):Prop:=∀(pins:List (Addr×Obj))(σ:St)(H:Hp)(s:Shared)(e:Value)(s':Shared),Inv X pins σ H s->CX X.stack H s E e s'->X.xe e s'
section
variable{X:Cx}{CX:CXT}{k:Nat}{f C:Addr}{fd:FuncData}{ps:List Str}{sp:Sp}{dvs:List V}{ds:List Value}{E:XK}{x m:Str}{p pos apos:Pos}{e o:Expr}{es:List Expr}{ta:TE}{t:TA}
theorem Wb{pins:List (Addr×Obj)}{σ:St}{H:Hp}{s:Shared}{Q:VK}{us:List Value}{vs:List V}(F:AC X.prog X.w X.K X.mg X.base CX k f fd ps sp)(hr:BT k X.A)(hb:BN X.K fd ps ds)(hd:AN dvs ds)(hx:FO CX X E)
  (I:Inv X pins σ H s) (r:AN vs us) (h:sp (vs++dvs) H Q E):wpAny (model X.prog X.w) X.A (call (.ref f) us) (EP X pins σ Q) X.xe s:=by
 have r2:AN (vs++dvs) (us++ds):=r.append hd;have hl:(us++ds).length=ps.length:=by rw[<-r2.length];exact F.len _ _ _ _ h
 refine A6c (A4g (F.run X.A X.stack s H ⟨us,[]⟩ (us++ds) (vs++dvs) Q E hr I.env0 (hb s us I.kIn hl) r2 h) λr s' hq=>?_);cases r with
 |error e=>exact hx pins σ H s e s' I hq
 |ok fl =>
  cases fl with
  |ret u=>exact I.after hq
  |next=>exact False.elim hq
  |brk=>exact False.elim hq
  |cont=>exact False.elim hq
theorem pe_call(F:AC X.prog X.w X.K X.mg X.base CX k f fd ps sp)(hr:BT k X.A)(hg:Gl X x)(hm:X.mg x=some (.ref f))(hk:keepIn X.K (.ref f)=true)(hb:BN X.K fd ps ds)(hd:AN dvs ds)(hx:FO CX X E)
  (ha:PA X (e::es) t) (hdb:(x==("__debug__" : Str))=false:=by decide) (he:starEach (e::es) X.env=(false,eval e X.env)::starEach es X.env:=by rfl) (hpl:(backTo pos (starEach es X.env)).any (·.1)=false:=by rfl) :
  PE X (.Call (.Name x p) (e::es) [] pos) (Tr sp dvs E t):=by
 intro pins s σ H Q I h;refine A1h (GK I hg hm ?_ hdb);refine A5f (h₀:=X.base) I.ok.mod.kin hk (thn (ha pos pins s σ H _ I h) λus s1 ⟨vs,H1,I1,r,q⟩=>⟨I1.kIn,?_⟩) he hpl;exact Wb F hr hb hd hx I1 r q
theorem pe_meth{pl:Sem Bool}(he:PE X o ta)(c:Cls X.K C)(hm:RQ X.K C m f)(F:AC X.prog X.w X.K X.mg X.base CX k f fd ps sp)(hr:BT k X.A)(hb:BN X.K fd ps ds)(hd:AN dvs ds)(hx:FO CX X E)(ha:PA X (e::es) t)
  (hst:starEach (e::es) X.env=(false,eval e X.env)::starEach es X.env:=by rfl) (hpl:(backTo pos (starEach es X.env)).any (·.1)=false:=by rfl)
  (ht:eval (.Call (.Attribute o m apos) (e::es) [] pos) X.env=(do
   let ov <-eval o X.env
   standAt apos.atName
   let (f,first) <-holding [ov] (getMethod ov m pl)
   callWith pos f first (backTo pos (starEach (e::es) X.env)) (backToKw pos (keywordEach [] X.env))):=by rfl) :
  PE X (.Call (.Attribute o m apos) (e::es) [] pos) (tMeth C m sp dvs E ta t):=by
 intro pins s σ H Q I h;refine PySem.W.methodCall_KW (pl:=pl) (thn (he pins s σ H _ I h) λu s1 ⟨x,H1,I1,rx,a,dx,fs,ex,ea,l,q⟩=>?_) ht;subst ex;obtain rfl:u=Value.ref a:=rx;refine SM I1 ea c hm l ?_;refine A5f (first:=[.ref a]) (h₀:=X.base) I.ok.mod.kin hm.kp (thn (ha pos pins s1 σ H1 _ I1 q) λus s2 ⟨vs,H2,I2,r,q2⟩=>⟨I2.kIn,?_⟩) hst hpl;exact Wb (us:=.ref a::us) (vs:=.ref a::vs) F hr hb hd hx I2 (.cons rfl r) q2
structure Mk(K:PySem.W.Frag)(C f:Addr):Prop where
 makes:makesIn K C=true
 init:findIn K (.ref C) "__init__" = some (some (.ref f))
 fn:isFn K (.ref f)=true
 kp:keepIn K (.ref C)=true
theorem Wa{pins:List (Addr×Obj)}{σ:St}{H:Hp}{s:Shared}{Q:VK}{us:List Value}{vs:List V}(M:Mk X.K C f)(F:AC X.prog X.w X.K X.mg X.base CX k f fd ps sp)(hr:BT (k+1) X.A)(hb:BN X.K fd ps ds)(hd:AN dvs ds)
  (hx:FO CX X E) (I:Inv X pins σ H s) (r:AN vs us)
  (h:∀x dx,H x=none->H dx=none->dx≠x->sp (.ref x::(vs++dvs)) (upd (upd H dx (.own x)) x (.ins C dx [])) (λv H2=>v=.non/\Q (.ref x) H2) E) :
  wpAny (model X.prog X.w) X.A (call (.ref C) us) (EP X pins σ Q) X.xe s:=by
 have hq:=h (s.heap.objs.size+1) s.heap.objs.size (I.hok.fresh (P3 _)) (I.hok.fresh (B1 _)) (F3 (U1 _));have I2:=Inv.made (C:=C) I;have r2:AN (V.ref (s.heap.objs.size+1)::(vs++dvs)) (Value.ref (s.heap.objs.size+1)::(us++ds)):=.cons rfl (r.append hd);have hl:(Value.ref (s.heap.objs.size+1)::us++ds).length=ps.length:=by
  have e:=r2.length;rw[F.len _ _ _ _ hq]at e;exact e.symm
 refine A6c (Ya (f:=f) I.kIn M.makes M.init (beq_iff_eq.mp M.fn) (A4g (F.run _ X.stack _ _ ⟨Value.ref (s.heap.objs.size+1)::us,[]⟩ (Value.ref (s.heap.objs.size+1)::(us++ds)) _ _ E (hr.make C us [])
  (I2.env0.make C us []) (hb _ (Value.ref (s.heap.objs.size+1)::us) I2.kIn hl) r2 hq) λr s' hq'=>?_))
 cases r with
 |error e=>exact hx pins σ _ _ e s' I2 hq'
 |ok fl =>
  cases fl with
  |ret u =>
   obtain⟨v,H',I3,rv,ev,q3⟩:=I2.after hq';subst ev;exact⟨rv,⟨V.ref (s.heap.objs.size+1),H',I3,rfl,q3⟩⟩
  |next=>exact False.elim hq'
  |brk=>exact False.elim hq'
  |cont=>exact False.elim hq'
theorem Wl(M:Mk X.K C f)(F:AC X.prog X.w X.K X.mg X.base CX k f fd ps sp)(hr:BT (k+1) X.A)(hg:Gl X x)(hm:X.mg x=some (.ref C))(hb:BN X.K fd ps ds)(hd:AN dvs ds)(hx:FO CX X E)
  (hdb:(x==("__debug__" : Str))=false:=by decide):PE X (.Call (.Name x p) [] [] pos) (tMake C sp dvs E tNil):=by
 intro pins s σ H Q I h;refine A1h (GK I hg hm ?_ hdb);exact PySem.W.callWith_K0 I.kIn M.kp (Wa (us:=[]) M F hr hb hd hx I .nil h)
end
def PK(X:Cx)(kws:List Keyword)(t:TA):Prop :=
 ∀(pos:Pos)(pins:List (Addr×Obj))(s:Shared)(σ:St)(H:Hp)(Q:List V->Hp->Prop),Inv X pins σ H s->t σ H Q->wpAny (model X.prog X.w) X.A (evalAll ((backToKw pos (keywordEach kws X.env)).map (·.2))) (AP X pins σ Q) X.xe s
section
variable{X:Cx}{CX:CXT}{k:Nat}{f C:Addr}{fd:FuncData}{ps ks:List Str}{sp:Sp}{E:XK}{x m:Str}{p pos apos kpos:Pos}{e o:Expr}{es:List Expr}{kws:List Keyword}{te ta:TE}{t tk:TA}{nm:Option Str}
theorem pk_nil:PK X [] tNil:=λ_ _ _ _ H Q I h=>wpAny_evalAll_nil ⟨[],H,I,.nil,h⟩
theorem pk_cons(ha:PE X e te)(hr:PK X kws t):PK X (⟨nm,e,kpos⟩::kws) (On te t):=by
 intro pos pins s σ H Q I h;show wpAny _ _ (evalAll ((do let v <-eval e X.env;standAt pos;pure v)::(backToKw pos (keywordEach kws X.env)).map (·.2))) _ _ s;refine wpAny_evalAll_cons (X5 (thn (ha pins s σ H _ I h) λu s1 ⟨x,H1,I1,r1,q1⟩=>X5 (A8f (K5 ?_))));exact thn (hr pos pins s1 σ H1 _ I1 q1) λus s2 ⟨xs,H2,I2,r2,q2⟩=>⟨x::xs,H2,I2,.cons r1 r2,q2⟩
variable{g:List Value->List Value->List Value}{gV:List V->List V->List V}
end
structure Ap(N P:List Str)(sc:Scope):Prop where
 kind:sc.kind=.function
 co:sc.isCoroutine=false
 gen:sc.isGenerator=false
 nd:N.Nodup
 pre:N.take P.length=P
 par:∀x∈P,sc.names.lookup x=some .local\/sc.names.lookup x=some .cell
 nofree:∀y∈sc.names,y.2≠.free
theorem OS{kindOf:Str->Option NameKind}{x:Str}:∀{binds:List (Str×Value)}{m:Str->Option Value},(∀v,(x,v)∉binds)->bindL kindOf binds m x=m x
 |[],_,_=>rfl
 | (n,v)::r,m,h=>by
  unfold bindL;rw[OS λw hw=>h w (B9 _ hw)];split
  ·have:x≠n:=by rintro rfl;exact h v D7
   simp[this]
  ·rfl
theorem OU{kindOf:Str->Option NameKind}{x:Str}:∀{binds:List (Str×Value)}{m:Str->Option Value},(∀v,(x,v)∉binds)->bindC kindOf binds m x=m x
 |[],_,_=>rfl
 | (n,v)::r,m,h=>by
  unfold bindC;rw[OU λw hw=>h w (B9 _ hw)];split
  ·rfl
  ·have:x≠n:=by rintro rfl;exact h v D7
   simp[this]
theorem OT{kindOf:Str->Option NameKind}{x:Str}{v:Value}:∀{P:List Str}{vs:List Value}{i:Nat}{m:Str->Option Value},P.Nodup->P[i]?=some x->vs[i]?=some v->kindOf x=some .local ->
  bindL kindOf (P.zip vs) m x=some v
 |[],_,_,_,_,h,_,_=>by simp at h
 |_::_,[],_,_,_,_,h,_=>by simp at h
 |p::P,w::vs,0,m,nd,h1,h2,hk=>by
  simp at h1 h2;subst h1;subst h2;show bindL kindOf ((p,w)::P.zip vs) m p=_;unfold bindL;rw[OS λv hv=>(Q5.mp nd).1 (Y6 hv).1,X9 hk];simp
 |p::P,w::vs,i+1,m,nd,h1,h2,hk=>by
  show bindL kindOf ((p,w)::P.zip vs) m x=_;unfold bindL;exact OT (i:=i) (Q5.mp nd).2 (by simpa using h1) (by simpa using h2) hk
theorem OV{kindOf:Str->Option NameKind}{x:Str}{v:Value}:∀{P:List Str}{vs:List Value}{i:Nat}{m:Str->Option Value},P.Nodup->P[i]?=some x->vs[i]?=some v->kindOf x≠some .local ->
  bindC kindOf (P.zip vs) m x=some v
 |[],_,_,_,_,h,_,_=>by simp at h
 |_::_,[],_,_,_,_,h,_=>by simp at h
 |p::P,w::vs,0,m,nd,h1,h2,hk=>by
  simp at h1 h2;subst h1;subst h2;show bindC kindOf ((p,w)::P.zip vs) m p=_;unfold bindC;rw[OU λv hv=>(Q5.mp nd).1 (Y6 hv).1,X8 hk];simp
 |p::P,w::vs,i+1,m,nd,h1,h2,hk=>by
  show bindC kindOf ((p,w)::P.zip vs) m x=_;unfold bindC;exact OV (i:=i) (Q5.mp nd).2 (by simpa using h1) (by simpa using h2) hk
def Fn(N:List Str)(vs:List V):St:=vs.map some++List.replicate (N.length-vs.length) none
def Ix(CX:CXT)(P:Program)(w:World)(K:PySem.W.Frag)(mg:Str->Option Value)(base:Heap)(N:List Str)(qual:Str)(scope:Scope)(f:Addr)(cd:Value)(A:Around)(outer:List Env)(s:Shared)(H:Hp)(E:XK):Cx where
 prog:=P
 w:=w
 K:=K
 mg:=mg
 base:=base
 A:=A.deeper (envOfC qual scope s.heap.objs.size f cd)
 N:=N
 s₀:=s
 H₀:=H
 env:=envOfC qual scope s.heap.objs.size f cd
 outer:=outer
 stack:=envOfC qual scope s.heap.objs.size f cd::outer
 ex:=[]
 calm:=true
 fn:=λ_=>true
 pn:=[]
 xe:=λe s'=>wpAny (model P w) (A.deeper (envOfC qual scope s.heap.objs.size f cd)) (leaving (envOfC qual scope s.heap.objs.size f cd) e) (λ_ s''=>CX outer H s E e s'') (λe' s''=>CX outer H s E e' s'') s'
theorem RH{sc:Scope}{n:Nat}{x:Str}(h:sc.names.lookup x=some .cell):∃c,(cellsFrom n sc.names []).lookup x=some c:=by
 have q:=A6h sc.names n [] (.inl h);exact Option.isSome_iff_exists.mp q
theorem OF{CX:CXT}{P:Program}{w:World}{K:PySem.W.Frag}{mg:Str->Option Value}{base:Heap}{N ps:List Str}{qual:Str}{scope:Scope}{f:Addr}{cd:Value}{A:Around}{outer:List Env}{s s1:Shared}{H:Hp}{E:XK}{us:List Value}{vs:List V}
  (S:Ap N ps scope) (hd:A.handled=none) (e0:LC P w K mg base A outer s H) (hl:vs.length=ps.length) (r:AN vs us)
  (x:InCallC s s.heap.objs.size (bindL (envOfC qual scope s.heap.objs.size f cd).kindOf (ps.zip us) λ_=>none) (cellsFrom (s.heap.objs.size+1) scope.names []) (bindC (envOfC qual scope s.heap.objs.size f cd).kindOf (ps.zip us) λ_=>none) s1) :
  Inv (Ix CX P w K mg base N qual scope f cd A outer s H E) [] (Fn N vs) H s1:=by
 have hpl:ps.length<=N.length:=by have:=A0e List.length S.pre;rw[L5]at this;lia
 obtain⟨h1,tk,rfl,hk⟩:=x.done;have noA:∀b:Addr,b∉(Ix CX P w K mg base N qual scope f cd A outer s H E).ex:=λb z=>absurd (show b∈([]:List Addr)from z) A5;refine⟨⟨e0.mod,S.kind,rfl,rfl,B1 _,λy z c h1 h2=>?_,λy hy=>?_,λy c _ h=>?_,λ_=>hd,Around.frames_deeper e0.frames,.inr ⟨rfl,rfl⟩,λb z=>absurd z (noA b),e0.bs,e0.bsz,λb _ _=>noA b,λb z=>absurd z (noA b),e0.funs,e0.frf⟩,
  rfl,e0.bare,Un.kept hk,⟨_,x.toInCall.ns,λi y v h1 h2 h3=>?_⟩,λy c h=>⟨_,x.cell y c h⟩,e0.hok.fresh (B1 _),λy c h=>?_,λp hp=>absurd (show p∈([]:List (Addr×Obj))from hp) A5,e0.hok.kept hk,?_⟩
 ·exact name_of_addr x.apart (A2a h1) (A2a h2)
 ·have hy:scope.names.lookup y=some .cell\/scope.names.lookup y=some .free:=hy;rcases hy with hy|hy
  ·exact RH hy
  ·exact absurd rfl (S.nofree _ (A2a hy))
 ·exact M4 (x.above y c (A2a h))
 ·have hi:i<vs.length:=by
   unfold Fn at h2;by_cases hi:i<vs.length
   ·exact hi
   ·rw[F1 (by simpa using hi)]at h2;rw[W6]at h2;split at h2<;>cases h2
  have ha:vs[i]?=some v:=by
   unfold Fn at h2;rw[F7 (by simpa using hi),B7]at h2;cases e:vs[i]? with
   |none=>rw[e]at h2;cases h2
   |some a=>rw[e]at h2;cases h2;rfl
  obtain⟨u,hu,rv⟩:=r.get ha;have hp:ps[i]?=some y:=by
   rw[<-S.pre,List.getElem?_take_of_lt A0];exact h1
  have ndP:ps.Nodup:=by rw[<-S.pre];exact S.nd.sublist (List.take_sublist _ _)
  refine⟨u,rv,?_⟩;rcases S.par y (D9 hp)with k|k
  ·exact .inl ⟨k,OT ndP hp hu k⟩
  ·obtain⟨c,e⟩:=RH (n:=s.heap.objs.size+1) k;refine .inr ⟨.inl k,c,e,?_⟩;have q:=x.cell y c e;rw[OV ndP hp hu (by show scope.names.lookup y≠_;rw[k];decide)]at q;exact q
 ·exact e0.hok.fresh (M4 (x.above y c (A2a h)))
 ·unfold Fn;show _=N.length;rw[B0,A9,N4];lia
theorem fn_of{CX:CXT}{P:Program}{w:World}{K:PySem.W.Frag}{mg:Str->Option Value}{base:Heap}{k:Nat}{f:Addr}{name qual:Str}{params:Arguments}{body:List Stmt}{scope:Scope}{dV kV doc pm cdv ct oc:Value}{an od:Option Addr}
  {osl:Array (Option Value)} {N ps:List Str} {sp:Sp} (lk:K.lookup f=some ⟨oc,od,.func (PySem.W.fnOf name qual params body scope dV kV doc pm an cdv ct),osl⟩) (hcd:PySem.W.codeIn K cdv qual=true) (S:Ap N ps scope)
  (len:∀vs H Q E,sp vs H Q E->vs.length=ps.length)
  (hbody:∀(A:Around)(outer:List Env)(s:Shared)(H:Hp)(vs:List V)(Q:VK)(E:XK),BT k (A.deeper (envOfC qual scope s.heap.objs.size f cdv))->sp vs H Q E ->
   ∃t,PSs (Ix CX P w K mg base N qual scope f cdv A outer s H E) body t/\t {nx:=λ_ H'=>Q .non H',rt:=Q} (Fn N vs) H) :
  AC P w K mg base CX (k+1) f (PySem.W.fnOf name qual params body scope dV kV doc pm an cdv ct) ps sp:=by
 refine⟨len,λA outer s H args us vs Q E hr e0 hb r hsp=>?_⟩;have hl:=len _ _ _ _ hsp;have KX:K.In s.heap:=e0.mod.kin.keeps λb o e=>(e0.bs b o e).1;have lim:s.heap.NoLimit:=e0.mod.nolimit.keeps λb o e=>(e0.bs b o e).1;have hkind:∀y∈ps.zip us,scope.names.lookup y.1=some .local\/(scope.names.lookup y.1=some .cell/\((cellsFrom (s.heap.objs.size+1) scope.names []).lookup y.1).isSome=true):=λ⟨n,v⟩ hy=>by
  rcases S.par n (Y6 hy).1 with q|q
  ·exact .inl q
  ·exact .inr ⟨q,A6h _ _ _ (.inl q)⟩
 refine codeAny_call_function hr.depth (KX _ _ lk) rfl S.co S.gen rfl (codeRec_of KX hcd) (hb _ _ _ _ ?_);refine wpAny_newFunctionEnv_cells S.kind hkind λenv he s1 x=>?_;subst he;refine⟨lim.keeps x.toInCall.keep,codeAny_func ?_⟩;obtain⟨t,ht,hq⟩:=hbody A outer s H vs Q E (hr.deeper _) hsp;have I:Inv (Ix CX P w K mg base N qual scope f cdv A outer s H E) [] (Fn N vs) H s1:=OF S hr.hd e0 hl r x;refine A0g (ht [] s1 (Fn N vs) H _ I hq) (λfl s' hs=>?_) λe s' hs=>hs;have fin:∀{σ':St}{H':Hp}{v:V}{u:Value},Inv (Ix CX P w K mg base N qual scope f cdv A outer s H E) [] σ' H' s'->AY v u->Q v H'->CE outer P w H s Q u s' :=
  λ{σ' H' v u} J rv q=>⟨v,H',J.os,J.bare,J.base,J.hok,rv,q⟩
 cases fl with
 |ret u =>
  obtain⟨v,σ',H',J,rv,q⟩:=hs;exact fin J rv q
 |next =>
  obtain⟨σ',H',J,q⟩:=hs;exact fin (v:=V.non) (u:=Value.none) J rfl q
 |brk =>
  obtain⟨_,_,_,q⟩:=hs;exact False.elim q
 |cont =>
  obtain⟨_,_,_,q⟩:=hs;exact False.elim q
section
variable{X:Cx}{x:Str}{p pos:Pos}{e:Expr}{es:List Expr}{t:TA}{id T:String}{r:List V->Hp->VK->Prop}
def tCB(r:List V->Hp->VK->Prop)(t:TA):TE:=fun σ H Q=>t σ H λvs H1=>r vs H1 Q
theorem Aw(hc:Ew X (.builtin id) r)(hg:Gl X x)(hm:X.mg x=none)(hv:bootBuiltins x=some (.builtin id))(ha:PA X (e::es) t)(hn:x≠"__name__" := by decide)(hdb:(x==("__debug__" : Str))=false:=by decide)
  (he:starEach (e::es) X.env=(false,eval e X.env)::starEach es X.env:=by rfl) (hpl:(backTo pos (starEach es X.env)).any (·.1)=false:=by rfl):PE X (.Call (.Name x p) (e::es) [] pos) (tCB r t):=by
 intro pins s σ H Q I h;refine A1h (Iq I hg hm hv ?_ hn hdb);exact PyProof.Rows.callWith_builtin1 (thn (ha pos pins s σ H _ I h) λus s1 ⟨vs,H1,I1,r1,q1⟩=>hc pins s1 σ H1 vs us Q I1 r1 q1) he hpl
theorem EG(hc:Ew X (.type T) r)(hg:Gl X x)(hm:X.mg x=none)(hv:bootBuiltins x=some (.type T))(ha:PA X (e::es) t)(hn:x≠"__name__" := by decide)(hdb:(x==("__debug__" : Str))=false:=by decide)
  (he:starEach (e::es) X.env=(false,eval e X.env)::starEach es X.env:=by rfl) (hpl:(backTo pos (starEach es X.env)).any (·.1)=false:=by rfl):PE X (.Call (.Name x p) (e::es) [] pos) (tCB r t):=by
 intro pins s σ H Q I h;refine A1h (Iq I hg hm hv ?_ hn hdb);exact A2d (thn (ha pos pins s σ H _ I h) λus s1 ⟨vs,H1,I1,r1,q1⟩=>hc pins s1 σ H1 vs us Q I1 r1 q1) he hpl
end
end L2
namespace HT
open PySem PyProof.Rows
section
open PySem.SeqAt
open PySem.AutoSeq1 (wpAny_loadPart')
open PySem.MeetsSeq PySem.MeetsSeq2 PySem.MeetsSeq3
end
section
variable{prog:Program}{w:World}{A:Around}{E:Value->Shared->Prop}{s:Shared}
end
end HT
namespace L2
open PySem PySem.Spec PyProof.Rows
abbrev TO:=St->Hp->(Option Int->Hp->Prop)->Prop
def PO(X:Cx)(e:Option Expr)(t:TO):Prop :=
 ∀(pins:List (Addr×Obj))(s:Shared)(σ:St)(H:Hp)(Q:Option Int->Hp->Prop),Inv X pins σ H s->t σ H Q ->
  wpAny (model X.prog X.w) X.A (evalPart e X.env) (λu s'=>∃o H',Inv X pins σ H' s'/\IsPart u o/\Q o H') X.xe s
def tNoPart:TO:=λ_ H Q=>Q none H
def tPart(t:TE):TO:=fun σ H Q=>t σ H λx H1=>∃i,x=.int i/\Q (some i) H1
section
variable{X:Cx}{e:Expr}{te:TE}{lo hi:Option Expr}{tl th:TO}{pos p2:Pos}
theorem po_none:PO X none tNoPart:=by
 intro pins s σ H Q I h;rw[evalPart_none];exact K5 ⟨none,H,I,.none,h⟩
theorem po_some(h:PE X e te):PO X (some e) (tPart te):=by
 intro pins s σ H Q I hw;rw[evalPart_some];refine thn (h pins s σ H _ I hw) λu s1 ⟨x,H1,I1,r1,q1⟩=>?_;obtain⟨i,rfl,q⟩:=q1;obtain⟨t,rfl⟩:=r1;exact⟨some i,H1,I1,.int i t,q⟩
def SlR(X:Cx)(r:V->Option Int->Option Int->Hp->VK->Prop):Prop :=
 ∀(pins:List (Addr×Obj))(s:Shared)(σ:St)(H:Hp)(x:V)(v vl vu:Value)(lo hi:Option Int)(sl:Addr)(Q:VK),Inv X pins σ H s->AY x v->s.heap.IsSliceOf sl vl vu .none->IsPart vl lo->IsPart vu hi->r x lo hi H Q ->
  ∃T id,typeLookup (.type T) "__getitem__" = pure (some (.builtin id))/\s.TypeIs v T/\wpAny (model X.prog X.w) X.A (getItem v (.ref sl)) (EP X pins σ Q) X.xe s
def tSl(r:V->Option Int->Option Int->Hp->VK->Prop)(te:TE)(tl th:TO):TE:=fun σ H Q=>te σ H λx H1=>tl σ H1 λl H2=>th σ H2 λu H3=>r x l u H3 Q
theorem Wj{r:V->Option Int->Option Int->Hp->VK->Prop}(hr:SlR X r)(he:PE X e te)(hl:PO X lo tl)(hu:PO X hi th):PE X (.Subscript e (.Slice lo hi none p2) pos) (tSl r te tl th):=by
 intro pins s σ H Q I h;refine Subscript_ (thn (he pins s σ H _ I h) λv s1 ⟨x,H1,I1,r1,q1⟩=>?_);refine wpAny_Slice (thn (hl pins s1 σ H1 _ I1 q1) λvl s2 ⟨l,H2,I2,pl,q2⟩=>thn (hu pins s2 σ H2 _ I2 q2) λvu s3 ⟨u,H3,I3,pu,q3⟩=>?_);rw[evalPart_none];refine K5 ?_;have I4:Inv X pins σ H3 {s3 with heap:=s3.heap.push {cls:=.type "slice",data:=.fields #[vl,vu,.none]} }:=I3.kept (t':=s3.toks) λb ob q=>B5 _ q;obtain⟨T,id,hT,ht,hg⟩:=hr pins {s3 with heap:=s3.heap.push {cls:=.type "slice",data:=.fields #[vl,vu,.none]} } σ H3 x v vl vu l u s3.heap.objs.size Q I4 r1 (Heap.IsSliceOf.new ..) pl pu q3;show wpAny (model X.prog X.w) X.A (subscriptTail e (.Slice lo hi none p2) v (.ref s3.heap.objs.size)) (EP X pins σ Q) X.xe {s3 with heap:=s3.heap.push {cls:=.type "slice",data:=.fields #[vl,vu,.none]} };exact tail_any (ops:=[.ref s3.heap.objs.size,v]) ht hT hg (by with_unfolding_all rfl)
end
def ixN(n:Nat)(i:Int):Option Nat:=if 0<=i then(if i<n then some i.toNat else none)else if -(n:Int)<=i then some (i+n).toNat else none
def atI{α:Type}(xs:List α)(i:Int):Option α:=(ixN xs.length i).bind λj=>xs[j]?
theorem TZ{n:Nat}{i:Int}{j:Nat}(h:ixN n i=some j):seqIndex? i n=some j/\j<n/\-(n:Int)<=i/\i<n:=by
 unfold ixN at h;by_cases h0:0<=i
 ·rw[X9 h0]at h;by_cases h1:i<n
  ·rw[X9 h1]at h;have e:i.toNat=j:=K3 h;exact⟨by rw[seqIndex_of h0 h1,e],by lia,by lia,h1⟩
  ·rw[X8 h1]at h;cases h
 ·rw[X8 h0]at h;by_cases h1:-(n:Int)<=i
  ·rw[X9 h1]at h;have e:(i+n).toNat=j:=K3 h;exact⟨by rw[seqIndex_neg A0 h1,e],by lia,h1,by lia⟩
  ·rw[X8 h1]at h;cases h
theorem Qs{α:Type}{xs:List α}{i:Int}{v:α}(h:atI xs i=some v):∃j,seqIndex? i xs.length=some j/\xs[j]?=some v/\j<xs.length/\-(xs.length:Int)<=i/\i<xs.length:=by
 unfold atI at h;cases e:ixN xs.length i with
 |none=>rw[e]at h;cases h
 |some j =>
  rw[e]at h;obtain⟨h1,h2,h3,h4⟩:=TZ e;exact⟨j,h1,h,h2,h3,h4⟩
theorem Ah{α:Type}{xs:List α}{j:Nat}{v:α}(h:xs[j]?=some v):atI xs (j:Int)=some v:=by
 have hj:j<xs.length:=(B3.mp h).1;have e:ixN xs.length (j:Int)=some j:=by
  unfold ixN;rw[X9 A0,X9 A0];simp
 unfold atI;rw[e];exact h
def PlainIx(b:Expr):Prop:=∀o i,subscripted b false o i=operate [o,i] (getItem o i)
def IxR(X:Cx)(r:R2):Prop :=
 ∀(value slice:Expr)(pins:List (Addr×Obj))(s:Shared)(σ:St)(H:Hp)(x y:V)(v u:Value)(Q:VK),Inv X pins σ H s->AY x v->AY y u->r x y H Q ->
  subscripted slice false v u=operate [v,u] (getItem v u)->wpAny (model X.prog X.w) X.A (subscriptTail value slice v u) (EP X pins σ Q) X.xe s
def MtR(X:Cx)(id:String)(r:V->List V->Hp->VK->Prop):Prop :=
 ∀(pins:List (Addr×Obj))(s:Shared)(σ:St)(H:Hp)(x:V)(xs:List V)(v:Value)(us:List Value)(Q:VK),Inv X pins σ H s->AY x v->AN xs us->r x xs H Q ->
  wpAny (model X.prog X.w) X.A (call (.builtin id) (v::us)) (EP X pins σ Q) X.xe s
section
variable{X:Cx}{a b:Expr}{ta tb:TE}{pos:Pos}
theorem Am{r:R2}(hr:IxR X r)(ha:PE X a ta)(hb:PE X b tb)(hs:PlainIx b):PE X (.Subscript a b pos) (tOp r ta tb):=by
 intro pins s σ H Q I h;exact Subscript_ (binT ha hb I h λv u s2 x y H2 I2 rx ry q=>hr a b pins s2 σ H2 x y v u Q I2 rx ry q (hs _ _))
def rIxL(K:PySem.W.Frag):R2:=λx y H Q=>∃p xs i v,x=.ref p/\y=.int i/\SqL K H p xs/\atI xs i=some v/\Q v H
def Pt(K:PySem.W.Frag):R2:=λx y H Q=>∃p xs i v,x=.ref p/\y=.int i/\SqT K H p xs/\atI xs i=some v/\Q v H
def rIxS:R2:=λx y H Q=>∃z i c,x=.str z/\y=.int i/\z.length<=sizeLine/\atI z.cps.toList i=some c/\Q (.str ⟨#[c]⟩) H
theorem AI:IxR X (rIxL X.K):=by
 intro value slice pins s σ H x y v u Q I rx ry h hs;obtain⟨p,xs,i,z,rfl,rfl,hq,he,q⟩:=h;cases rx;obtain⟨t,rfl⟩:=ry;obtain⟨its,r,pl,hz⟩:=I.list hq;obtain⟨j,h1,h2,h3,h4,h5⟩:=Qs he;obtain⟨w,ew,rw'⟩:=r.get h2;have hl:=r.length;have hn:=Lq;have fin:EP X pins σ Q w s:=⟨z,H,I,rw',q⟩
 by_cases h0:0<=i
 ·have hj:i.toNat=j:=by
   rw[seqIndex_of h0 h5]at h1;exact K3 h1
  exact item_listR pl.isList h0 A0 (by rw[hj];simpa using ew) fin hs
 ·have hj:(i+(its.toArray.size:Int)).toNat=j:=by
   rw[seqIndex_neg A0 h4]at h1;rw[D6,<-hl];exact K3 h1
  exact subscriptTail_builtinR (x:=w) pl.isList.typeIs slot_list_getitem.lookup
   (wpAny_getItem_list_neg (Q:=λr s'=>r=w/\EP X pins σ Q r s') pl.isList A0 (by rw[D6]<;>lia) A0 (by rw[hj];simpa using ew) ⟨rfl,fin⟩) hs
theorem Ax:IxR X (Pt X.K):=by
 intro value slice pins s σ H x y v u Q I rx ry h hs;obtain⟨p,xs,i,z,rfl,rfl,hq,he,q⟩:=h;cases rx;obtain⟨t,rfl⟩:=ry;obtain⟨its,r,pl,hz⟩:=I.tuple hq;obtain⟨j,h1,h2,h3,h4,h5⟩:=Qs he;obtain⟨w,ew,rw'⟩:=r.get h2;have hl:=r.length;have hn:=Lq;have fin:EP X pins σ Q w s:=⟨z,H,I,rw',q⟩
 exact subscriptTail_builtinR (x:=w) pl.typeIs slot_tuple_getitem.lookup
  (getItem_tuple (j:=j) (Q:=λr s'=>r=w/\EP X pins σ Q r s') pl A0 A0 (by rw[D6,<-hl];exact h1) (by simpa using ew) ⟨rfl,fin⟩) hs
theorem Qe:IxR X rIxS:=by
 intro value slice pins s σ H x y v u Q I rx ry h hs;obtain⟨z,i,c,rfl,rfl,hz,he,q⟩:=h;obtain⟨t,rfl⟩:=rx;obtain⟨t',rfl⟩:=ry;obtain⟨j,h1,h2,h3,h4,h5⟩:=Qs he;have hl:z.cps.toList.length=z.length:=by simp[Str.length]
 rw[hl]at h1 h4 h5;have hn:=Lq;exact tail_any (typeIs_str s z t) slot_str_getitem.lookup (getItem_str (c:=c) (by
  have e1:decide (i < -(2^63:Int))=false:=X6 A0;have e2:decide (i ≥ 2^63)=false:=X6 A0;rw[e1,e2,Bool.or_false]) (by rw[h1];simpa using h2) ⟨.str ⟨#[c]⟩,H,I.tok _,⟨_,rfl⟩,q⟩) hs
theorem SF(its:List Value)(n j:Nat)(u:Value):Obj.mapSeq (·.setIfInBounds j u) {cls:=.type "list",data:=.seq its.toArray n}={cls:=.type "list",data:=.seq (its.set j u).toArray n}:=by
 simp[Obj.mapSeq]
theorem Inv.lst{pins:List (Addr×Obj)}{σ:St}{H:Hp}{s:Shared}{p:Addr}{xs:List V}(I:Inv X pins σ H s)(h:H p=some (.lst xs)) :
  ∃(its:List Value)(n:Nat),AN xs its/\s.heap.get? p=some {cls:=.type "list",data:=.seq its.toArray n}/\xs.length<=sizeLine:=by
 obtain⟨z,its,n,r,e⟩:=I.hok p _ h;exact⟨its,n,r,e,z⟩
theorem Inv.lstUpd{pins:List (Addr×Obj)}{σ:St}{H:Hp}{s:Shared}{p:Addr}{xs ys:List V}{its its':List Value}{n n':Nat}{f:Obj->Obj}(I:Inv X pins σ H s)(h:H p=some (.lst xs))
  (ho:s.heap.get? p=some {cls:=.type "list",data:=.seq its.toArray n}) (hf:f {cls:=.type "list",data:=.seq its.toArray n}={cls:=.type "list",data:=.seq its'.toArray n'}) (r:AN ys its') (hz:ys.length<=sizeLine) (t:Nat) :
  Inv X pins σ (upd H p (.lst ys)) {s with heap:=s.heap.update p f,toks:=t}:=by
 have e:(s.heap.update p f).get? p=some {cls:=.type "list",data:=.seq its'.toArray n'}:=by
  rw[R0 f ho (by rw[hf]<;>rfl),hf]
 refine I.write (x:=p) (e:=p) (by rw[h];trivial) (.inl rfl) (λb u hb q=>(M6 _ _ (A0c hb)).trans q) ⟨_,e⟩ ?_;exact⟨hz,its',n',r,e⟩
def rSetL:V->V->V->Hp->(Hp->Prop)->Prop:=λo i v H Q=>∃p xs k j,o=.ref p/\i=.int k/\H p=some (.lst xs)/\ixN xs.length k=some j/\Q (upd H p (.lst (xs.set j v)))
theorem VY:PSet X rSetL:=by
 intro pins s σ H o i v ov iv u Q I ro ri rv h;obtain⟨p,xs,k,j,rfl,rfl,hp,hj,q⟩:=h;cases ro;obtain⟨t,rfl⟩:=ri;obtain⟨its,n,r,ho,hz⟩:=I.lst hp;obtain⟨h1,h2,h3,h4⟩:=TZ hj;have hl:=r.length;have hn:=Lq;have I':Inv X pins σ (upd H p (.lst (xs.set j v))) {s with heap:=s.heap.update p (Obj.mapSeq (·.setIfInBounds j u))} :=
  I.lstUpd hp ho (SF its n j u) (r.set rv j) (by rw[List.length_set];exact hz) s.toks
 by_cases h0:0<=k
 ·have hk:k.toNat=j:=by
   rw[seqIndex_of h0 h4]at h1;exact K3 h1
  exact PySem.W.ki_setAt ho h0 A0 (by rw[D6,<-hl];exact h4) (by rw[hk];exact⟨_,I',q⟩)
 ·have hk:(k+(its.toArray.size:Int)).toNat=j:=by
   rw[seqIndex_neg A0 h3]at h1;rw[D6,<-hl];exact K3 h1
  exact PySem.W.ki_setBack ho A0 (by rw[D6,<-hl];exact h3) A0 (by rw[hk];exact⟨_,I',q⟩)
def LL:V->Bool
 |.non=>true
 |.bl _=>true
 |.int _=>true
 |.str _=>true
 |_=>false
def eqV:V->V->Bool
 |.non,.non=>true
 |.bl a,.bl b=>a==b
 |.bl a,.int b=>(if a then 1 else 0)==b
 |.int a,.bl b=>a==(if b then 1 else 0)
 |.int a,.int b=>a==b
 |.str a,.str b=>a==b
 |_,_=>false
theorem eqAt_V{A:Around}{s:Shared}{y x:V}{u v:Value}(ry:AY y u)(rx:AY x v)(fy:LL y=true)(fx:LL x=true):SeqAt.EqAt A s u v (eqV y x):=by
 cases y with
 |non =>
  cases ry;cases x with
  |non=>cases rx;exact SeqAt.EqAt.same _
  |bl b=>cases rx;exact SeqAt.EqAt.none_bool b
  |int b=>obtain⟨t,rfl⟩:=rx;exact SeqAt.EqAt.none_int b t
  |str b=>obtain⟨t,rfl⟩:=rx;exact SeqAt.EqAt.none_str b t
  |_=>exact absurd (show false=true from fx) D4
 |bl a =>
  cases ry;cases x with
  |non=>cases rx;exact SeqAt.EqAt.bool_none a
  |bl b=>cases rx;exact SeqAt.EqAt.bool_bool a b
  |int b=>obtain⟨t,rfl⟩:=rx;exact SeqAt.EqAt.bool_int a b t
  |str b=>obtain⟨t,rfl⟩:=rx;exact SeqAt.EqAt.bool_str a b t
  |_=>exact absurd (show false=true from fx) D4
 |int a =>
  obtain⟨t',rfl⟩:=ry;cases x with
  |non=>cases rx;exact SeqAt.EqAt.int_none a t'
  |bl b=>cases rx;exact SeqAt.EqAt.int_bool a t' b
  |int b=>obtain⟨t,rfl⟩:=rx;exact SeqAt.EqAt.int_int a t' b t
  |str b=>obtain⟨t,rfl⟩:=rx;exact SeqAt.EqAt.int_str a t' b t
  |_=>exact absurd (show false=true from fx) D4
 |str a =>
  obtain⟨t',rfl⟩:=ry;cases x with
  |non=>cases rx;exact SeqAt.EqAt.str_none a t'
  |bl b=>cases rx;exact SeqAt.EqAt.str_bool a t' b
  |int b=>obtain⟨t,rfl⟩:=rx;exact SeqAt.EqAt.str_int a t' b t
  |str b=>obtain⟨t,rfl⟩:=rx;exact SeqAt.EqAt.str_str a t' b t
  |_=>exact absurd (show false=true from fx) D4
 |_=>exact absurd (show false=true from fy) D4
def eqU(x:V)(u:Value):Bool:=match u with
 |.none=>eqV .non x
 |.bool b=>eqV (.bl b) x
 |.int i _=>eqV (.int i) x
 |.str z _=>eqV (.str z) x
 |_=>false
theorem Yt{x y:V}{u:Value}(r:AY y u)(f:LL y=true):eqU x u=eqV y x:=by
 cases y with
 |non=>cases r;rfl
 |bl b=>cases r;rfl
 |int i=>obtain⟨t,rfl⟩:=r;rfl
 |str z=>obtain⟨t,rfl⟩:=r;rfl
 |_=>exact absurd (show false=true from f) D4
theorem Qu{x:V}:∀{xs:List V}{us:List Value},AN xs us->xs.all LL=true->us.any (eqU x)=xs.any λy=>eqV y x
 |_,_,.nil,_=>rfl
 |y::xs,u::us,.cons r t,f=>by
  rw[List.all_cons,N8]at f;rw[W4,W4,Yt r f.1,Qu t f.2]
theorem Nf{A:Around}{s:Shared}{x:V}{v:Value}(rx:AY x v)(fx:LL x=true):∀{xs:List V}{us:List Value},AN xs us->xs.all LL=true->∀u∈us,SeqAt.EqAt A s u v (eqU x u)
 |_,_,.nil,_=>λu hu=>by cases hu
 |y::xs,u::us,.cons r t,f=>λu' hu=>by
  rw[List.all_cons,N8]at f;rcases C2.mp hu with rfl|hu
  ·rw[Yt r f.1];exact eqAt_V r rx f.1 fx
  ·exact Nf rx fx t f.2 u' hu
def inV(x:V)(xs:List V):Bool:=xs.any λy=>eqV y x
def rIn(K:PySem.W.Frag)(neg:Bool):R2:=λx y H Q=>∃p xs,y=.ref p/\(SqL K H p xs\/SqT K H p xs)/\LL x=true/\xs.all LL=true/\Q (.bl (if neg then !inV x xs else inV x xs)) H
theorem UM:OpR X (compareOp .In) (rIn X.K false):=by
 intro pins s σ H x y v u Q I rx ry h;obtain⟨p,xs,rfl,hq,fx,fs,q⟩:=h;cases ry;rcases hq with hq|hq
 ·obtain⟨its,r,pl,hz⟩:=I.list hq;refine SeqAt.in_listAt (eqU x) pl.isList (λw hw=>Nf rx fx r fs w (by simpa using hw)) ⟨.bl _,H,I,rfl,?_⟩;rw[show its.toArray.any (eqU x)=its.any (eqU x) by simp,Qu r fs];exact q
 ·obtain⟨its,r,pl,hz⟩:=I.tuple hq;refine SeqAt.in_tupleAt (eqU x) pl (λw hw=>Nf rx fx r fs w (by simpa using hw)) ⟨.bl _,H,I,rfl,?_⟩;rw[show its.toArray.any (eqU x)=its.any (eqU x) by simp,Qu r fs];exact q
theorem Dx:Ew X (.builtin "len") (λxs H Q=>∃p ys,xs=[.ref p]/\(SqL X.K H p ys\/SqT X.K H p ys)/\Q (.int ys.length) H):=by
 intro pins s σ H xs us Q I r h;obtain⟨p,ys,rfl,hq,q⟩:=h;obtain⟨u,rfl,rx⟩:=LE r;cases rx;have hn:=Lq;rcases hq with hq|hq
 ·obtain⟨its,r',pl,hz⟩:=I.list hq;have hlen:=r'.length;exact Calls.call_len_list pl.isList (by simp only[D6]<;>lia) ⟨.int ys.length,H,I.tok _,⟨s.toks+1,by rw[D6,hlen]⟩,q⟩
 ·obtain⟨its,r',pl,hz⟩:=I.tuple hq;have hlen:=r'.length;exact len_tuple pl (by simp only[D6]<;>lia) ⟨.int ys.length,H,I.tok _,⟨s.toks+1,by rw[D6,hlen]⟩,q⟩
theorem GO:Ew X (.builtin "len") (λxs H Q=>∃z,xs=[.str z]/\z.length<=sizeLine/\Q (.int z.length) H):=by
 intro pins s σ H xs us Q I r h;obtain⟨z,rfl,hz,q⟩:=h;obtain⟨u,rfl,t,rfl⟩:=LE r;have hn:=Lq;exact len_str A0 ⟨.int z.length,H,I.tok _,⟨_,rfl⟩,q⟩
theorem Oa:Ew X (.type "tuple") (λxs H Q=>∃p ys,xs=[.ref p]/\((SqL X.K H p ys/\∀l,H l=none->Q (.ref l) (upd H l (.tup ys)))\/(SqT X.K H p ys/\Q (.ref p) H))):=by
 intro pins s σ H xs us Q I r h;obtain⟨p,ys,rfl,h⟩:=h;obtain⟨u,rfl,rx⟩:=LE r;cases rx;rcases h with ⟨hq,q⟩|⟨hq,q⟩
 ·obtain⟨its,r',pl,hz⟩:=I.list hq;have hlen:=r'.length;refine call_tuple_list pl.isList (λh' kp=>?_) (by simp only[D6]<;>lia);have I1:Inv X pins σ H {s with heap:=h'}:=I.kept (t':=s.toks) kp
  have I2:Inv X pins σ (upd H h'.objs.size (.tup ys)) {s with heap:=h'.push {cls:=.type "tuple",data:=.seq its.toArray} } :=
   I1.laid (t':=s.toks) (λb o e=>B5 _ e) (B1 _) (show Bl X.prog X.w _ _ _ (.tup ys)from⟨hz,its,r',IsTup.new _ _⟩)
  exact⟨.ref h'.objs.size,_,I2,rfl,q _ (I1.hok.fresh (B1 _))⟩
 ·obtain⟨its,r',pl,hz⟩:=I.tuple hq;exact call_tuple_same pl ⟨.ref p,H,I,rfl,q⟩
def tyV(K:PySem.W.Frag)(T:String)(x:V)(H:Hp):Prop:=match x with
 |.str _=>T="str"
 |.int _=>T="int"
 |.ref p=>(T="list" /\ ∃xs,SqL K H p xs)\/(T="tuple" /\ ∃o,K.lookup p=some o/\o.cls=.type "tuple" /\ o.dict=none) \/
   (T="dict" /\ ((∃kvs,H p=some (.dK kvs))\/∃kvs,H p=some (.dT kvs)))\/(T="set" /\ ∃S n,H p=some (.set S n))
 |_=>False
theorem tyV_is{pins:List (Addr×Obj)}{σ:St}{H:Hp}{s:Shared}{T:String}{x:V}{v:Value}(I:Inv X pins σ H s)(r:AY x v)(ty:tyV X.K T x H) :
  s.TypeIs v T/\∀a,v=.ref a->∃ob,s.heap.get? a=some ob/\ob.dict=none:=by
 cases x with
 |str z =>
  obtain⟨t,rfl⟩:=r;cases(show T="str" from ty);exact⟨typeIs_str s z t,λ_ e=>nomatch e⟩
 |int i =>
  obtain⟨t,rfl⟩:=r;cases(show T="int" from ty);exact⟨typeIs_int s i t,λ_ e=>nomatch e⟩
 |ref p =>
  cases r;rcases ty with ⟨rfl,xs,hq⟩|⟨rfl,o,hk,hc,hd⟩|⟨rfl,hk⟩|⟨rfl,S,n,hk⟩
  ·obtain⟨its,_,pl,_⟩:=I.list hq;refine⟨pl.isList.typeIs,λa e=>?_⟩;cases e;obtain⟨o,n,e,c,hd,_⟩:=pl;exact⟨o,e,hd⟩
  ·refine⟨⟨o,I.kIn p o hk,hc⟩,λa e=>?_⟩;cases e;exact⟨o,I.kIn _ o hk,hd⟩
  ·have z:∃o,s.heap.get? p=some o/\o.ExactDict:=by
    rcases hk with ⟨kvs,hk⟩|⟨kvs,hk⟩
    ·obtain⟨_,_,_,_,o,_,_,e,ex,_⟩:=I.hok p _ hk;exact⟨o,e,ex⟩
    ·obtain⟨_,_,_,_,o,_,_,e,ex,_⟩:=I.hok p _ hk;exact⟨o,e,ex⟩
   obtain⟨o,e,ex⟩:=z;refine⟨⟨o,e,ex.1⟩,λa e2=>?_⟩;cases e2;exact⟨o,e,ex.2.1⟩
  ·obtain⟨o,_,_,_,e,ex,_⟩:=I.hok p _ hk;refine⟨⟨o,e,ex.1⟩,λa e2=>?_⟩;cases e2;exact⟨o,e,ex.2.1⟩
 |_=>exact False.elim ty
def tBM(K:PySem.W.Frag)(T:String)(r:V->List V->Hp->VK->Prop)(to:TE)(t:TA):TE:=fun σ H Q=>to σ H λx H1=>tyV K T x H1/\t σ H1 λxs H2=>r x xs H2 Q
variable{o e:Expr}{es:List Expr}{to:TE}{t:TA}{name:Str}{apos cpos:Pos}{T id:String}{r:V->List V->Hp->VK->Prop}
theorem BV(pa:PlainAttrs T)(slot:Slot T name id)(hty:typeOf (.builtin id)=pure (.type "method_descriptor"))(hm:MtR X id r)(ho:PE X o to)(ha:PA X (e::es) t)
  (hbase:attributeBase o name X.env (eval o X.env)=eval o X.env:=by rfl)
  (hfew:((backTo cpos (starEach (e::es) X.env)).all (λx=>!x.1) && (backToKw cpos (keywordEach [] X.env)).all (λx=>x.1.isSome)
   && decide ((e::es).length+([]:List Keyword).length+(if([]:List Keyword).isEmpty then 0 else 1)<30))=true:=by rfl)
  (hline:(apos.endLine==cpos.line)=true:=by rfl) (hs:starEach (e::es) X.env=(false,eval e X.env)::starEach es X.env:=by rfl) (hplain:(backTo cpos (starEach es X.env)).any (·.1)=false:=by rfl) :
  PE X (.Call (.Attribute o name apos) (e::es) [] cpos) (tBM X.K T r to t):=by
 intro pins s σ H Q I h;refine wpAny_Call_method_late hbase hfew hline rfl (thn (ho pins s σ H _ I h) λv s1 ⟨x,H1,I1,r1,ty,q1⟩=>?_);obtain⟨h1,h2⟩:=tyV_is I1 r1 ty;refine⟨T,id,pa,slot,hty,h1,h2,?_⟩;have hA:=ha cpos pins s1 σ H1 _ I1 q1;rw[hs]at hA⊢;refine A8a (by show(false || (backTo cpos (starEach es X.env)).any (·.1))=false;rw[hplain]<;>rfl) (A5g ?_);exact thn hA λus s2 ⟨vs,H2,I2,r2,q2⟩=>hm pins s2 σ H2 x vs v us Q I2 r1 r2 q2
end
def MtM(X:Cx)(id:String)(r:V->List V->Hp->VK->Prop):Prop :=
 ∀(pins:List (Addr×Obj))(s:Shared)(σ:St)(H:Hp)(x:V)(xs:List V)(v:Value)(us:List Value)(Q:VK),Inv X pins σ H s->AY x v->AN xs us->r x xs H Q ->
  wpAny (model X.prog X.w) X.A (call (.builtin id) (v::us)) (EP X pins σ Q) X.xe s
theorem AN.one:∀{x:V}{us:List Value},AN [x] us->∃u,us=[u]/\AY x u
 |_,_,.cons r .nil=>⟨_,rfl,r⟩
section
variable{X:Cx}{pins:List (Addr×Obj)}{σ:St}{H:Hp}{s:Shared}{l b:Addr}{xs ys zs:List V}
theorem Inv.lset{its its':List Value}{n:Nat}{f:Array Value->Array Value}{t':Nat}(I:Inv X pins σ H s)(hH:H l=some (.lst xs))
  (e:s.heap.get? l=some {cls:=.type "list",data:=.seq its.toArray n}) (hf:f its.toArray=its'.toArray) (hv:AN ys its') (hz:ys.length<=sizeLine) :
  Inv X pins σ (upd H l (.lst ys)) {s with heap:=s.heap.update l (Obj.mapSeq f),toks:=t'}:=by
 have q:=PySem.IsL.update e f;rw[hf]at q;refine I.write (x:=l) (e:=l) (by rw[hH];exact trivial) (.inl rfl) (λb' u hb hu=>(M6 s.heap (Obj.mapSeq f) (A0c hb)).trans hu) ⟨_,q⟩ ?_;exact⟨hz,its',_,hv,q⟩
theorem Inv.lnew{its:List Value}{t':Nat}(I:Inv X pins σ H s)(hv:AN ys its)(hz:ys.length<=sizeLine) :
  Inv X pins σ (upd H s.heap.objs.size (.lst ys)) {s with heap:=s.heap.push {cls:=.type "list",data:=.seq its.toArray},toks:=t'} :=
 I.laid (λ_ _ q=>B5 _ q) (B1 _) ⟨hz,its,0,hv,D0 _ rfl⟩
theorem Inv.fresh(I:Inv X pins σ H s):H s.heap.objs.size=none:=I.hok.fresh (B1 _)
theorem Inv.lstM(I:Inv X pins σ H s)(hH:H l=some (.lst xs)):xs.length<=sizeLine/\∃(its:List Value)(n:Nat),AN xs its/\xs.length=its.length/\s.heap.get? l=some {cls:=.type "list",data:=.seq its.toArray n}:=by
 obtain⟨z,its,n,r,e⟩:=I.hok l _ hH;exact⟨z,its,n,r,r.length,e⟩
end
section
variable{X:Cx}
def rAppend:V->List V->Hp->VK->Prop:=λx vs H Q=>∃l xs y,x=.ref l/\vs=[y]/\H l=some (.lst xs)/\xs.length<sizeLine/\Q .non (upd H l (.lst (xs++[y])))
theorem Bh:MtM X "list.append" rAppend:=by
 intro pins s σ H x vs v us Q I rx rv h;obtain⟨l,xs,y,rfl,rfl,hH,hz,q⟩:=h;cases rx;obtain⟨u,rfl,ru⟩:=rv.one;obtain⟨z,its,n,r,hl,e⟩:=I.lstM hH;refine call_meets F.slot_list_append ⟨_,e,rfl⟩ F.entry_list_append (F.args_list_append_2 _ _) (PySem.list_append l its.toArray n u (by rw[D6];lia)) ⟨e,?_⟩;refine⟨.non,_,I.lset (its':=its++[u]) hH e A5 (r.append (.cons ru .nil)) ?_,rfl,q⟩;rw[B0,D8];lia
def rCat:R2:=λx y H Q=>∃l b xs zs,x=.ref l/\y=.ref b/\H l=some (.lst xs)/\H b=some (.lst zs)/\xs.length+zs.length<=sizeLine/\∀p,H p=none->Q (.ref p) (upd H p (.lst (xs++zs)))
theorem Py:OpR X (binaryOp .Add) rCat:=by
 intro pins s σ H x y v u Q I rx ry h;obtain⟨l,b,xs,zs,rfl,rfl,hH,hB,hz,q⟩:=h;cases rx;cases ry;obtain⟨z,its,n,r,hl,e⟩:=I.lstM hH;obtain⟨z2,its2,n2,r2,hl2,e2⟩:=I.lstM hB;refine PySem.P.add_list e e2 ?_ (by rw[D6,D6];lia);have ea:its.toArray++its2.toArray=(its++its2).toArray:=by simp
 rw[ea];exact⟨.ref _,_,I.lnew (t':=s.toks) (r.append r2) (by rw[B0];lia),rfl,q _ I.fresh⟩
end
section
variable{prog:Program}{w:World}{A:Around}{E:Value->Shared->Prop}{s:Shared}
end
section
variable{X:Cx}
end
end L2
namespace Att
open PySem PySem.W PySem.Calls PyProof.Rows
theorem LZ{P:Params}{h:Heap}:∀(ns:List Int)(vs:List Value),WellAll P h vs (ns.map WData.int)->IntsAre vs ns:=by
 intro ns;induction ns with
 |nil =>
  intro vs w;rw[List.map_nil]at w;cases w;exact .nil
 |cons n ns ih =>
  intro vs w;rw[C9]at w;cases w with
  |cons a b =>
   cases a;exact .cons _ _ (ih _ b)
theorem UD{l:OpenLaw}{n:Nat}(hn:l.most=some n){P:Params}{h:Heap}{args:List WData}{vals:List Value}
  (hpre:l.row.toRowW.claim.pre args=true) (hwl:WellAll P h vals args) :
  ∃a vs ns,vals=[Value.ref a]/\args=[WData.list (ns.map WData.int)]/\h.get? a=some {cls:=.type "list",data:=.seq vs.toArray}/\IntsAre vs ns/\ns.length<=n:=by
 have hsh:WShape.hasAll [] args [.list .int]=true:=(pre_splitW hpre).1;have hc:l.pre.holds [] {args:=args}=true:=(pre_splitW hpre).2;obtain⟨d,r,rfl,h1,h2⟩:=hasAllW_cons hsh;obtain rfl:=hasAllW_nil h2;obtain⟨xs,rfl,h3⟩:=hasW_list h1;obtain⟨ns,rfl⟩:=items_int h3;have hlen:ns.length<=n:=by
  unfold OpenLaw.pre at hc;have h4:(WTm.not (.lt (.lit (.int (n:Int))) (.len (.arg 0)))).holds [] {args:=[.list (ns.map .int)]}=true:=by
   have h4:=(holds_andW hc).1;rw[hn]at h4;exact h4
  have h5:=condW_of h4 (w_not (w_lt w_lit (w_len_list (w_arg rfl))));rw[A9]at h5;refine R6 λq=>?_;have q':(n:Int)<((ns.length:Nat):Int):=by lia
  first
   | (rw[X7 q']at h5;exact absurd h5 A4)
   | (simp at h5;lia)
 cases hwl with
 |cons w1 w2 =>
  cases w2;cases w1 with
  |list ho hall=>exact⟨_,_,ns,rfl,rfl,ho,LZ ns _ hall,hlen⟩
theorem UG(l:OpenLaw)(args:List WData):l.row.toRowW.claim.post args (.bool true) args=true :=
 postW_of (r:=l.row.toRowW) (X:=(true==true))
  (show WShape.has [] (.bool true) .bool=true by first|rfl|decide|simp[WShape.has,WShape.arms,WShape.armsAll])
  (show(WTm.eq .res (.lit (.bool true))).value [] {args:=args,res:=some (.bool true),after:=args}=some (.bool (true==true))from w_eq_bool (w_res rfl) w_lit) rfl
theorem RI{l:OpenLaw}{n:Nat}{q:Program}{loose:List Str}{XP:(Str->Option Value)->Heap->Prop}{YP:World->Heap->Prop}{d:DefRec}
  (hn:l.most=some n) (hdf:d.params.defaults=[])
  (call:∀(w:World)(s₀ s₁:Shared)(mg mb:Str->Option Value)(fa:Addr)(o:Obj)(pm cd doc:Value)(a:Addr)(vs:List Value)(ns:List Int),
   Ground q loose [] XP w s₀ mg mb s₁.heap->YP w s₁.heap ->
   s₁.heap.get? fa=some o->o.data=.func (docDef d.name d.params d.body d.scope pm cd doc)->s₁.heap.CodeRec cd d.name->mg d.name=some (.ref fa) ->
   s₁.heap.get? a=some {cls:=.type "list",data:=.seq vs.toArray}->IntsAre vs ns->ns.length<=n->s₁.gens=#[] ->
   codeAny (model l.prog w) callerA (.call (.ref fa) ⟨[.ref a],[]⟩) (λr s'=>r=.ok (.ret (.bool true))/\OldK s₁.heap s'.heap/\s'.os=s₁.os/\AllBare s'.gens) s₁) :
  WalkO q loose XP YP l.row.toRowW d [] (λf vs=>PySem.call f vs):=by
 intro w s₀ s₁ mg mb G Y fa o pm cd doc dV kV ho hd hcd hD hmg hg args vals as hpre hlay hrd hwl hlo;obtain rfl:dV=.none:=Dflts.none hD hdf;obtain rfl:kV=.none:=Dflts.noKw hD;obtain⟨a,vs,ns,rfl,rfl,hobj,hints,hlen⟩:=UD hn hpre hwl;refine enter_call (A4g (call w s₀ s₁ mg mb fa o pm cd doc a vs ns G Y ho (fd_plain hd) hcd hmg hobj hints hlen hg) λr s' hq=>?_);obtain⟨rfl,h2,h3,h4⟩:=hq;exact⟨.inl ⟨.bool true,.bool true,[],rfl,λ_=>rfl,.bool true,UG l _,λ_=>⟨List.Pairwise.nil,λ_ hm=>(nomatch hm)⟩⟩,h2,h3,h4⟩
section
variable{prog:Program}{w:World}{A:Around}{E:Value->Shared->Prop}{s:Shared}{K:Frag}
end
end Att
namespace L2
open PySem PySem.Spec PyProof.Rows
theorem Oh:∀{vs:List Value}{ns:List Int},IntsAre vs ns->AN (ns.map V.int) vs
 |_,_,.nil=>.nil
 |_,_,.cons n t h=>.cons ⟨t,rfl⟩ (Oh h)
def Only(H:Hp):Prop:=∀b,H b=none\/∃o xs,H b=some (.frz o (.lst xs))
theorem Yd{P:Program}{w:World}{K:PySem.W.Frag}{mg mb:Str->Option Value}{CX:CXT}{k:Nat}{fa a:Addr}{fd:FuncData}{x:Str}{sp:Sp}{s₁:Shared}{vs:List Value}{ns:List Int}
  (KX:K.In s₁.heap) (hns:s₁.heap.Ns mainGlobals mg) (hb:s₁.heap.Ns builtinsNs mb) (hbb:∀x:Str,x≠"__name__" -> mb x=bootBuiltins x) (hlim:s₁.heap.NoLimit) (hg:s₁.gens=#[])
  (ha:s₁.heap.get? a=some {cls:=.type "list",data:=.seq vs.toArray}) (hi:IntsAre vs ns) (hl:ns.length<=sizeLine) (hr:BT k callerA)
  (F:∀base:Heap,K.In base->base.Ns mainGlobals mg->AC P w K mg base CX k fa fd [x] sp) (hbind:∀(s:Shared)(u:Value),BindsTo s fd ⟨[u],[]⟩ [(x,u)])
  (hsp:∀H:Hp,Only H->SqL K H a (ns.map V.int)->sp [.ref a] H (λv _=>v=.bl true) λ_ _ _=>False)
  (hCX:∀H e s',CX [] H s₁ (λ_ _ _=>False) e s'->False) :
  codeAny (model P w) callerA (.call (.ref fa) ⟨[.ref a],[]⟩) (λr s'=>r=.ok (.ret (.bool true))/\OldK s₁.heap s'.heap/\s'.os=s₁.os/\AllBare s'.gens) s₁:=by
 have rv:=Oh hi;have lenV:=hi.length;have core:∀H:Hp,Only H->SqL K H a (ns.map V.int)->HOk P w H s₁.heap->(∀b,H b≠none->b=a)->(H a≠none->K.lookup a=none) ->
   codeAny (model P w) callerA (.call (.ref fa) ⟨[.ref a],[]⟩) (λr s'=>r=.ok (.ret (.bool true))/\OldK s₁.heap s'.heap/\s'.os=s₁.os/\AllBare s'.gens) s₁:=by
  intro H hO hS hok hA hK;have base_of:∀{b:Addr}{o:Obj},s₁.heap.get? b=some o->H b=none->(Qf s₁.heap H).get? b=some o:=λe n=>Yl e n;have noA:∀{b:Addr}{o:Obj}{es:Array DictEntry}{ep:Nat},s₁.heap.get? b=some o->o.data=.dict es ep->H b=none:=λ{b o es ep} e d=>by
   cases q:H b with
   |none=>rfl
   |some u =>
    have e':b=a:=hA b (by rw[q];simp);subst e';rw[ha]at e;cases e;have d':Data.seq vs.toArray _=Data.dict es ep:=d;cases d'
  have nsK:∀{b:Addr}{m:Str->Option Value},s₁.heap.Ns b m->(Qf s₁.heap H).Ns b m:=λ{b m} ⟨o,es,ep,e,d,r⟩=>⟨o,es,ep,base_of e (noA e d),d,r⟩
  have hKb:K.In (Qf s₁.heap H):=λb o e=>base_of (KX b o e) (by
   cases q:H b with
   |none=>rfl
   |some u =>
    have e':b=a:=hA b (by rw[q];simp);subst e';rw[hK (by rw[q];simp)]at e;cases e)
  have hM:Mod K mg (Qf s₁.heap H):=⟨hKb,nsK hns,⟨mb,nsK hb,hbb⟩,let ⟨mc,h1,h2⟩:=hlim;⟨mc,nsK h1,h2⟩⟩
  have e0:LC P w K mg (Qf s₁.heap H) callerA [] s₁ H:=⟨rfl,hM,λb o e=>of_hidT e,X0 (Vj _ _),trivial,λb hb=>absurd (show b∈([]:List Addr)from hb) A5,hok,.of_eq hg⟩
  refine A4g ((F _ hKb (nsK hns)).run callerA [] s₁ H ⟨[.ref a],[]⟩ [.ref a] [.ref a] _ _ hr e0 (hbind s₁ (.ref a)) (.cons rfl .nil) (hsp H hO hS)) λr s' h=>?_;cases r with
  |error e=>exact(hCX H e s' h).elim
  |ok fl =>
   cases fl with
   |next=>exact False.elim h
   |brk=>exact False.elim h
   |cont=>exact False.elim h
   |ret u =>
    obtain⟨v,H',os,bare,un,hok',r',q⟩:=h;have q':v=.bl true:=q;subst q';obtain rfl:u=Value.bool true:=r';refine⟨rfl,OldK.of_keep λb o e=>?_,os,bare⟩;cases q:H b with
    |none=>exact un.keep b o e q (by intro z;exact absurd (show b∈([]:List Addr)from z) A5) A5
    |some u =>
     rcases hO b with z|⟨ob,xs,z⟩
     ·rw[q]at z;cases z
     ·have z2:=un.frzs b ob _ z;obtain⟨e1,_⟩:=hok b _ z;obtain⟨e2,_⟩:=hok' b _ z2;rw[e]at e1;cases e1;exact e2
 cases hk:K.lookup a with
 |some o =>
  have e:=KX a o hk;rw[ha]at e;cases e;refine core (λ_=>none) (λ_=>.inl rfl) (.inr ⟨_,vs.toArray,_,hk,rfl,rfl,rfl,by rw[D6,lenV];exact hl,by simpa using rv⟩) (λb u z=>by have z':(none:Option HO)=some u:=z;cases z') (λb z=>absurd rfl z) λz=>absurd rfl z
 |none =>
  refine core (λb=>if b=a then some (.frz {cls:=.type "list",data:=.seq vs.toArray} (.lst (ns.map V.int)))else none) (λb=>?_) (.inl (.inr ⟨{cls:=.type "list",data:=.seq vs.toArray},X9 rfl⟩)) (λb u z=>?_) (λb z=>?_) λ_=>hk
  ·by_cases hb:b=a
   ·exact .inr ⟨_,_,X9 hb⟩
   ·exact .inl (X8 hb)
  ·by_cases hb:b=a
   ·have z':=(X9 hb).symm.trans z;cases z';subst hb;exact⟨ha,by rw[A9];exact hl,vs,_,rv,ha⟩
   ·have z':=(X8 hb).symm.trans z;cases z'
  ·by_cases hb:b=a
   ·exact hb
   ·exact absurd (X8 hb) z
theorem Tg{l:PySem.W.OpenLaw}{n k:Nat}{q:Program}{loose:List Str}{XP:(Str->Option Value)->Heap->Prop}{YP:World->Heap->Prop}{d:DefRec}{K:Params->PySem.W.Frag}{CX:World->CXT}{sp:World->Sp}{x:Str}
  (hn:l.most=some n) (hn2:n<=sizeLine) (hdf:d.params.defaults=[]) (hr:BT k callerA)
  (hY:∀(w:World)(h:Heap),YP w h->(K w.params).In h)
  (F:∀(w:World)(mg:Str->Option Value)(fa:Addr)(h:Heap),(K w.params).In h->h.Ns mainGlobals mg->mg d.name=some (.ref fa) ->
   ∃fd:FuncData,(∀(s:Shared)(u:Value),BindsTo s fd ⟨[u],[]⟩ [(x,u)]) /\
    ∀base:Heap,(K w.params).In base->base.Ns mainGlobals mg->AC l.prog w (K w.params) mg base (CX w) k fa fd [x] (sp w))
  (hsp:∀(w:World)(H:Hp)(a:Addr)(ns:List Int),ns.length<=n->Only H->SqL (K w.params) H a (ns.map V.int)->sp w [.ref a] H (λv _=>v=.bl true) λ_ _ _=>False)
  (hCX:∀(w:World)(H:Hp)(s:Shared)(e:Value)(s':Shared),CX w [] H s (λ_ _ _=>False) e s'->False) :
  PySem.W.WalkO q loose XP YP l.row.toRowW d [] (λf vs=>PySem.call f vs):=by
 refine Att.RI hn hdf λw s₀ s₁ mg mb fa o pm cd doc a vs ns G Y ho hd hcd hmg hobj hints hlen hg=>?_;have KX:=hY w _ Y;obtain⟨fd,hb,hF⟩:=F w mg fa _ KX G.T.g hmg;exact Yd KX G.T.g G.T.b G.T.builtins G.T.nolimit hg hobj hints (C6 hlen hn2) hr hF hb (λH hO hS=>hsp w H a ns hlen hO hS) λH e s'=>hCX w H s₁ e s'
end L2
/- THE LAST THEOREM (shape;LID,My.* are yours):
 My.Adr: a structure of the addresses that your layer names (classes,functions);My.Txt K t: a structure (Prop) of the equations over K;
 My.txt_mk:{K} {implicit addresses ..} (e1:nsIn K mainGlobals "law" = some (some (.ref f))) (e2:K.lookup f=some ⟨oc,od,.func (fnOf "law" "law" params body scope dV kV doc pm an cdv ct),sl⟩) (e3:codeIn K cdv "law" = true) ..:∃t,My.Txt K t
set_option maxRecDepth 100000 in
set_option maxHeartbeats 0 in
theorem PySem.Challenge.cw_LID_holds:PySem.Challenge.rw_LID.Holds:=by
 w_on;o_law;k_head;(case hw=>w_witness2)
 k_fill
 refine L2.Tg (l:=PySem.Challenge.rw_LID) (n:=63) (k:=40) (x:="script") (CX:=λw=>..) (sp:=λ_=>My.sp_law) rfl A4 rfl ⟨rfl,by decide,by decide⟩ (λw h Y=>PySem.W.kIn_of Y) ?F ?S ?C
 case F =>
  intro w mg fa h KX G hmg;have T:∃t,My.Txt (L2.KOf KX) t:=by
   dsimp only[L2.KOf]                          
   (case e1=>PySem.W.k_is)                    
   (case e2=>PySem.W.k_is)
   ..
  obtain⟨t,T⟩:=T;have e0:=hmg.symm.trans (K6 KX G T.law);cases e0                                       
 case S=>exact λw H a ns hl hO hS=>..
 case C=>exact ..
(the tactic k_is has no namespace: write k_is) -/
namespace L2
open PySem PySem.Spec PyProof.Rows
def Co(s:Stmt)(j:Nat):Stmt:=match s with
 |.ClassDef _ _ _ body _ _ _ _ _ _ _=>body.getD j (.Pass ⟨0,0,0,0⟩)
 |_=>.Pass ⟨0,0,0,0⟩
def JQ(s:Stmt):Arguments:=match s with
 |.FunctionDef _ a _ _ _ _ _ _ _ _=>a
 |_=>{posonlyargs:=[],args:=[],vararg:=none,kwonlyargs:=[],kw_defaults:=[],kwarg:=none,defaults:=[]}
def Fu(s:Stmt):List Stmt:=match s with
 |.FunctionDef _ _ b _ _ _ _ _ _ _=>b
 |_=>[]
def Ai(s:Stmt):Scope:=match s with
 |.FunctionDef _ _ _ _ _ _ sc _ _ _=>sc
 |_=>{kind:=.function,names:=[],isGenerator:=false,isCoroutine:=false}
abbrev CX0:CXT:=λ_ _ _ _ _ _=>False
abbrev E0:XK:=λ_ _ _=>False
theorem Ao{X:Cx}:FO CX0 X E0:=λ_ _ _ _ _ _ _ h=>h.elim
structure Fun(K:PySem.W.Frag)(x qual:Str)(st:Stmt)(f:Addr)(fd:FuncData):Prop where
 ex:∃(oc:Value)(od:Option Addr)(kV doc pm:Value)(an:Option Addr)(cdv ct:Value)(osl:Array (Option Value)),
  fd=PySem.W.fnOf x qual (JQ st) (Fu st) (Ai st) .none kV doc pm an cdv ct/\K.lookup f=some ⟨oc,od,.func fd,osl⟩/\PySem.W.codeIn K cdv qual=true
 kp:keepIn K (.ref f)=true
section
variable{P:Program}{w:World}{K:PySem.W.Frag}{mg:Str->Option Value}{base:Heap}
theorem Fun.ok{x qual:Str}{st:Stmt}{f:Addr}{fd:FuncData}{N ps:List Str}{k:Nat}{sp:Sp}(F:Fun K x qual st f fd)(S:Ap N ps (Ai st))(len:∀vs H Q E,sp vs H Q E->vs.length=ps.length)
  (hbody:∀(cdv:Value)(A:Around)(outer:List Env)(s:Shared)(H:Hp)(vs:List V)(Q:VK)(E:XK),BT k (A.deeper (envOfC qual (Ai st) s.heap.objs.size f cdv))->sp vs H Q E ->
   ∃t,PSs (Ix CX0 P w K mg base N qual (Ai st) f cdv A outer s H E).nox (Fu st) t/\t {nx:=λ_ H'=>Q .non H',rt:=Q} (Fn N vs) H):AC P w K mg base CX0 (k+1) f fd ps sp:=by
 obtain⟨oc,od,kV,doc,pm,an,cdv,ct,osl,rfl,lk,hcd⟩:=F.ex;refine fn_of lk hcd S len λA outer s H vs Q E hr hsp=>?_;obtain⟨t,h,q⟩:=hbody cdv A outer s H vs Q E hr hsp;exact⟨t,h.nox,q⟩
theorem Fun.binds{x qual:Str}{st:Stmt}{f:Addr}{fd:FuncData}{ps:List Str}(F:Fun K x qual st f fd)
  (h:∀(kV doc pm:Value)(an:Option Addr)(cdv ct:Value)(us:List Value),us.length=ps.length->bindArgs (PySem.W.fnOf x qual (JQ st) (Fu st) (Ai st) .none kV doc pm an cdv ct) ⟨us,[]⟩=pure (ps.zip us)):BN K fd ps []:=by
 obtain⟨oc,od,kV,doc,pm,an,cdv,ct,osl,rfl,lk,hcd⟩:=F.ex;exact .all (h kV doc pm an cdv ct)
theorem SO {x qual:Str} {st:Stmt} {f:Addr} {oc:Value} {od an:Option Addr} {osl:Array (Option Value)} {kV doc pm cdv ct:Value} (l:K.lookup f=some ⟨oc,od,.func (PySem.W.fnOf x qual (JQ st) (Fu st) (Ai st) .none kV doc pm an cdv ct),osl⟩)
  (c:PySem.W.codeIn K cdv qual=true) (k:keepIn K (.ref f)=true):Fun K x qual st f (PySem.W.fnOf x qual (JQ st) (Fu st) (Ai st) .none kV doc pm an cdv ct):=⟨⟨oc,od,kV,doc,pm,an,cdv,ct,osl,rfl,l,c⟩,k⟩
end
theorem Iu{A:Around}{k:Nat}(hr:BT k A):A.units+1<cLine:=V3 (Nat.add_le_add_left (by decide:1<=64) _) hr.units
section
variable{X:Cx}
theorem pv(i:Nat){x:Str}{pos:Pos}(hN:X.N[i]?=some x:=by rfl)(hv:Vis X.env.scope x:=by first|exact Or.inl rfl|exact Or.inr (Or.inl rfl)|exact Or.inr (Or.inr rfl))(hd:(x==("__debug__" : Str))=false:=by decide)
  (hcd:(x==("__classdict__" : Str))=false:=by decide):PE X (.Name x pos) (Pf i):=pe_var hN hv hd hcd
end
theorem AS{A B:Prop}(h:B):if false=true then A else B:=by
 rw[X8 D4];exact h
theorem Bq{A B:Prop}(h:A):if true=true then A else B:=by
 rw[X9 rfl];exact h
theorem Ls{c A B:Prop}[Decidable c](h1:c->A)(h2:¬c->B):if c then A else B:=by
 by_cases h:c
 ·rw[X9 h];exact h1 h
 ·rw[X8 h];exact h2 h
theorem Ua{c A B:Prop}[Decidable c](hc:c)(h:B):if(!decide c)=true then A else B:=by
 rw[X7 hc];exact AS h
def Az(H H':Hp):Prop:=∀b o,H b=some o->H' b=some o
theorem Az.refl(H:Hp):Az H H:=λ_ _ h=>h
theorem Az.trans{H H1 H2:Hp}(a:Az H H1)(b:Az H1 H2):Az H H2:=λc o h=>b c o (a c o h)
theorem Az.seq{K:PySem.W.Frag}{H H':Hp}{a:Addr}{xs:List V}(e:Az H H')(h:SqL K H a xs):SqL K H' a xs:=by
 rcases h with (h|⟨o,h⟩)|h
 ·exact .inl (.inl (e _ _ h))
 ·exact .inl (.inr ⟨o,e _ _ h⟩)
 ·exact .inr h
structure RP(hid fs:List Addr)(h h':Heap):Prop where
 keep:∀b o,h.get? b=some o->b∉hid->h'.get? b=some o
 slot:∀b o,b∈fs->h.get? b=some o->∃sl,h'.get? b=some {o with slots:=sl}
 sub:∀b,b∈fs->b∈hid
def Jd(a T:Addr)(cls fl:Value)(h:Heap):Prop :=
 ∃(oe:Obj)(vs:Array Value)(oT:Obj)(ts:Array Value),h.get? a=some oe/\oe.cls=cls/\oe.data=.fields vs/\vs[1]?=some (.ref T)/\vs[2]?=some .none/\T≠a/\h.get? T=some oT/\oT.data=.fields ts/\ts[3]?=some fl
def YV(a:Addr)(cls:Value)(h:Heap):Prop:=∃(oe:Obj)(vs:Array Value),h.get? a=some oe/\oe.cls=cls/\oe.data=.fields vs/\vs[1]?=some .none/\vs[2]?=some .none
def LP(a D:Addr)(h:Heap):Prop:=∃o,h.get? a=some o/\o.cls=.ref D/\∃vs,o.data=.fields vs/\vs[2]?=some .none
theorem Jd.exc{a T D:Addr}{fl:Value}{h:Heap}(x:Jd a T (.ref D) fl h):LP a D h:=by
 obtain⟨oe,vs,_,_,e1,e2,e3,_,e5,_⟩:=x;exact⟨oe,e1,e2,vs,e3,e5⟩
theorem LP.not{a D:Addr}{h:Heap}(x:LP a D h):∃o,h.get? a=some o/\o.cls=.ref D/\notCls o=true:=by
 obtain⟨o,e,c,vs,d,_⟩:=x;exact⟨o,e,c,by unfold notCls;rw[d]⟩
section
variable{M:Model}{A:Around}{E:Value->Shared->Prop}{s:Shared}{b0:Heap}{env:Env}{outer:List Env}{L a T:Addr}{cls fl:Value}{Q:Unit->Shared->Prop}
theorem OJ{oe:Obj}{vs:Array Value}{head:Value}{hn:Bool}(hfr:A.frames=some (env::outer))(hl:s.heap.FunFrames b0 (env::outer))(hf:env.frame=some L)(he:s.heap.get? a=some oe)(hd:oe.data=.fields vs)(h2:vs[2]?=some .none)
  (k:∀h' T',Jd a T' oe.cls (rawInt L) h'->s.heap.get? T'=none->RP (a::frs (env::outer)) (frs (env::outer)) s.heap h'->Q () {s with heap:=h'}) :
  wpAny M A (do let x <-frameOf env;let pl <-entryPlaceOf L hn;let b <-EntryCells.newEntry head x .none (rawInt L) .none pl;setField (.ref a) 1 b) Q E s:=by
 refine X5 (wpAny_frameOf_fun hfr hl hf λg hs=>X5 (wpAny_entryPlaceOf λpl hp=>?_));unfold EntryCells.newEntry newFields;refine X5 (A7b ?_ (hp.sizeOk5 _ _ _ _ _));have na:a∉frs (env::outer):=λz=>by
  obtain⟨_,o,ho,hn⟩:=hl.mem z;rw[he]at ho;cases ho;exact hn vs hd
 have e1:g.get? a=some oe:=(hs.2.1 a na).trans he;have sz:1<vs.size:=by
  have:=(F6.mp h2).1;omega
 have nT:g.objs.size≠a:=Z8 (C8 e1);have gn:∀b o,s.heap.get? b=some o->∃o',g.get? b=some o':=λb o q=>by
  by_cases z:b∈frs (env::outer)
  ·obtain⟨sl,e⟩:=hs.2.2 b o q;exact⟨_,e⟩
  ·exact⟨o,(hs.2.1 b z).trans q⟩
 refine A6d (B5 _ e1) hd sz (k _ g.objs.size ⟨_,_,_,_,R0 _ (B5 _ e1) (A5e (A3a hd _)),Obj.cls_mapFields _ _,A3a hd _,?_,?_,nT,(M6 _ _ nT.symm).trans (D0 _ rfl),rfl,?_⟩ ?_ ?_)
 ·simp[sz]
 ·rw[Array.getElem?_setIfInBounds_ne A4];exact h2
 ·first|(simp;done)|(rcases hp with rfl|⟨_,_,_,_,_,_,_,rfl⟩<;>simp)
 ·cases q:s.heap.get? g.objs.size with
  |none=>rfl
  |some o =>
   obtain⟨o',q'⟩:=gn _ _ q;exact absurd (C8 q') (O7 _)
 ·have kp:∀(x:Obj)(f:Obj->Obj) b o,g.get? b=some o->b≠a->((g.push x).update a f).get? b=some o:=λx f b o q z=>(M6 _ _ (A0c z)).trans (B5 _ q);refine⟨λb o q z=>kp _ _ b o ((hs.2.1 b λm=>z (.tail _ m)).trans q) λy=>z (y▸.head _),λb o m q=>?_,λb m=>.tail _ m⟩;obtain⟨sl,e⟩:=hs.2.2 b o q;exact⟨sl,kp _ _ b _ e λy=>na (y▸m)⟩
theorem QU(hfr:A.frames=some (env::outer))(hl:s.heap.FunFrames b0 (env::outer))(hf:env.frame=some L)(hx:YV a cls s.heap\/Jd a T cls .none s.heap)
  (k:∀h' T',Jd a T' cls (rawInt L) h'->s.heap.get? T'=none->RP (a::T::frs (env::outer)) (frs (env::outer)) s.heap h'->Q () {s with heap:=h'}):wpAny M A (noteFrame (.ref a) env) Q E s:=by
 unfold noteFrame;simp only[hf];rcases hx with ⟨oe,vs,e1,rfl,e3,e4,e5⟩|⟨oe,vs,oT,ts,e1,rfl,e3,e4,e5,e6,e7,e8,e9⟩
 ·refine X5 (A5b e1 e3 e4 ?_);rw[X8 A4];refine OJ hfr hl hf e1 e3 e5 λh' T' f n nr=>k h' T' f n ⟨λb o q z=>nr.keep b o q λm=>z ?_,nr.slot,λb m=>.tail _ (.tail _ m)⟩;rcases C2.mp m with y|y
  ·exact y▸.head _
  ·exact .tail _ (.tail _ y)
 ·refine X5 (A5b e1 e3 e4 ?_);rw[X9 (show(Value.ref T != Value.none)=true from by simp)];refine X5 (A5b e7 e8 e9 ?_);rw[X8 (by simp[rawInt])];refine X5 (A6d e7 e8 (F6.mp e9).1 ?_);have ot:∀b,b≠T->(s.heap.update T (Obj.mapFields (·.setIfInBounds 3 Value.none))).get? b=s.heap.get? b:=λb z=>M6 _ _ (A0c z);have nf:∀b o,s.heap.get? b=some o->(∀vs,o.data≠.fields vs)->b≠T:=λb o q d z=>by
   rw[z,e7]at q;cases q;exact d ts e8
  have fT:∀b,b∈frs (env::outer)->b≠T:=λb m=>by
   obtain⟨_,o,ho,d⟩:=hl.mem m;exact nf b o ho d
  refine OJ (s:={s with heap:=s.heap.update T (Obj.mapFields (·.setIfInBounds 3 Value.none))}) hfr (hl.of_keeps λb o q d=>⟨o,(ot b (nf b o q d)).trans q,rfl⟩) hf ((ot a (A0c e6)).trans e1) e3 e5 λh' T' f n nr=>k h' T' f ?_ ⟨λb o q z=>?_,λb o m q=>nr.slot b o m ((ot b (fT b m)).trans q),λb m=>.tail _ (.tail _ m)⟩
  ·by_cases z:T'=T
   ·rw[z,R0 _ e7 (A5e (A3a e8 _))]at n;cases n
   ·rw[<-ot T' z];exact n
  ·refine nr.keep b o ((ot b λy=>z (y▸.tail _ (.head _))).trans q) λm=>z ?_;rcases C2.mp m with y|y
   ·exact y▸.head _
   ·exact .tail _ (.tail _ y)
theorem Jr {fr:Option Addr} (hx:Jd a T cls fl s.heap) (k:∀h',Jd a T cls (fr.elim .none λf=>rawInt f) h'->(∀b o,s.heap.get? b=some o->b≠T->h'.get? b=some o)->Q () {s with heap:=h'}):wpAny M A (setFlight (.ref a) fr) Q E s:=by
 obtain⟨oe,vs,oT,ts,e1,rfl,e3,e4,e5,e6,e7,e8,e9⟩:=hx;unfold setFlight;refine X5 (A5b e1 e3 e4 ?_);rw[X9 (show(Value.ref T != Value.none)=true from by simp)];have z:=(F6.mp e9).1;refine A6d e7 e8 z (k _ ⟨oe,vs,_,_,(M6 _ _ e6).trans e1,rfl,e3,e4,e5,e6,R0 _ e7 (A5e (A3a e8 _)),A3a e8 _,by simp[z]⟩ λb o q y=>(M6 _ _ (A0c y)).trans q)
theorem OB(hfr:A.frames=some (env::outer))(hl:s.heap.FunFrames b0 (env::outer))(hf:env.frame=some L)(hx:YV a cls s.heap\/Jd a T cls .none s.heap)
  (k:∀h' T',Jd a T' cls .none h'->s.heap.get? T'=none->RP (a::T::frs (env::outer)) (frs (env::outer)) s.heap h'->Q () {s with heap:=h'}):wpAny M A (leaving env (.ref a)) Q E s:=by
 unfold leaving;refine X5 (QU hfr hl hf hx λh1 T' f n nr=>Jr (s:={s with heap:=h1}) f λh2 f2 kp=>k h2 T' f2 n ⟨λb o q z=>kp b o (nr.keep b o q z) λy=>?_,λb o m q=>?_,nr.sub⟩)
 ·rw[y,n]at q;cases q
 ·obtain⟨sl,e⟩:=nr.slot b o m q;exact⟨sl,kp b _ e λy=>by rw[y,n]at q;cases q⟩
end
section
variable{κ:Type}[DecidableEq κ]
def Bv(kvs:List (κ×V))(k:κ):Option V:=(kvs.find? λkv=>decide (kv.1=k)).map (·.2)
def CK(kvs:List (κ×V))(k:κ)(v:V):List (κ×V) :=
 if(kvs.any λkv=>decide (kv.1=k))=true then kvs.map (λkv=>if kv.1=k then(kv.1,v)else kv)else kvs++[(k,v)]
theorem BC{p:κ×V}{r:List (κ×V)}{k:κ}(e:p.1=k):Bv (p::r) k=some p.2:=by simp[Bv,P2,e]
theorem Bm{p:κ×V}{r:List (κ×V)}{k:κ}(e:¬p.1=k):Bv (p::r) k=Bv r k:=by simp[Bv,P2,e]
theorem EL(k:κ):∀kvs:List (κ×V),(kvs.any λkv=>decide (kv.1=k))=(Bv kvs k).isSome
 |[]=>rfl
 |p::r=>by
  rw[W4];by_cases e:p.1=k
  ·simp only[BC e,X7 e,Bool.true_or,Option.isSome_some]
  ·rw[Bm e,X6 e,Bool.false_or];exact EL k r
theorem Qy(k j:κ)(y:V):∀kvs:List (κ×V),Bv (kvs.map λkv=>if kv.1=k then(kv.1,y)else kv) j=(Bv kvs j).map λx=>if j=k then y else x
 |[]=>rfl
 |p::r=>by
  have ih:=Qy k j y r;rw[C9];by_cases h:p.1=k
  ·rw[X9 h];by_cases e:p.1=j
   ·rw[BC (p:=(p.1,y)) e,BC e,Y5,X9 (e.symm.trans h)]
   ·rw[Bm (p:=(p.1,y)) e,Bm e,ih]
  ·rw[X8 h];by_cases e:p.1=j
   ·rw[BC (p:=p) e,BC e,Y5,X8 (λz=>h (e.trans z))]
   ·rw[Bm (p:=p) e,Bm e,ih]
theorem Oi(k j:κ)(y:V):∀kvs:List (κ×V),Bv kvs k=none->Bv (kvs++[(k,y)]) j=if j=k then some y else Bv kvs j
 |[],_=>by
  by_cases e:k=j
  ·rw[X9 e.symm];exact BC (p:=(k,y)) e
  ·rw[X8 (λz=>e z.symm)];exact Bm (p:=(k,y)) e
 |p::r,hn=>by
  rw[List.cons_append];have hk:¬p.1=k:=λz=>by rw[BC z]at hn;cases hn
  rw[Bm hk]at hn;have ih:=Oi k j y r hn;by_cases e:p.1=j
  ·rw[BC e,BC e,X8 (λz=>hk (e.trans z))]
  ·rw[Bm e,Bm e,ih]
theorem FR(kvs:List (κ×V))(k j:κ)(y:V):Bv (CK kvs k y) j=if j=k then some y else Bv kvs j:=by
 unfold CK;by_cases a:(kvs.any λkv=>decide (kv.1=k))=true
 ·rw[X9 a,Qy];rw[EL]at a;by_cases e:j=k
  ·obtain⟨x,hx⟩:=Option.isSome_iff_exists.mp a;rw[X9 e,e,hx,Y5,X9 rfl]
  ·rw[X8 e];cases Bv kvs j with
   |none=>rfl
   |some x=>rw[Y5,X8 e]
 ·rw[X8 a];refine Oi k j y kvs ?_;rw[EL]at a;cases q:Bv kvs k with
  |none=>rfl
  |some x=>rw[q]at a;exact(a rfl).elim
theorem Ip(kvs:List (κ×V))(k:κ)(v:V):(CK kvs k v).length<=kvs.length+1:=by
 unfold CK;split
 ·rw[A9];lia
 ·rw[B0,D1,List.length_nil];lia
theorem JC{kvs:List (κ×V)}{k:κ}(v:V)(h:Bv kvs k=none):CK kvs k v=kvs++[(k,v)]:=by
 unfold CK;rw[EL,h];exact X8 A4
theorem GP.isSome_eq{o:Option V}{u:Option Value}(r:GP o u):o.isSome=u.isSome:=by
 cases o with
 |none=>cases u with
  |none=>rfl
  |some _=>exact(show False from r).elim
 |some _=>cases u with
  |none=>exact(show False from r).elim
  |some _=>rfl
theorem GP.getD{o:Option V}{u:Option Value}{d:V}{d':Value}(r:GP o u)(rd:AY d d'):AY (o.getD d) (u.getD d'):=by
 cases o with
 |none=>cases u with
  |none=>exact rd
  |some _=>exact(show False from r).elim
 |some _=>cases u with
  |none=>exact(show False from r).elim
  |some _=>exact r
theorem KV.val{kvs:List (κ×V)}{vs:List (κ×Value)}(r:KV kvs vs)(k:κ):GP (Bv kvs k) (valueAt vs k):=by
 unfold KV at r;induction r with
 |nil=>exact True.intro
 |@cons p q ps qs h t ih =>
  obtain⟨h1,h2⟩:=h;by_cases e:p.1=k
  ·have e':q.1=k:=h1.symm.trans e;have b:valueAt (q::qs) k=some q.2:=by simp[valueAt,P2,e']
   rw[BC e,b];exact h2
  ·have e':¬q.1=k:=λz=>e (h1.trans z);have b:valueAt (q::qs) k=valueAt qs k:=by simp[valueAt,P2,e']
   rw[Bm e,b];exact ih
theorem KV.any{kvs:List (κ×V)}{vs:List (κ×Value)}(r:KV kvs vs)(k:κ):(kvs.any λkv=>decide (kv.1=k))=vs.any λkv=>decide (kv.1=k):=by
 unfold KV at r;induction r with
 |nil=>rfl
 |cons h t ih=>rw[W4,W4,ih,h.1]
theorem KV.repl{kvs:List (κ×V)}{vs:List (κ×Value)}(r:KV kvs vs)(k:κ){y:V}{u:Value}(ry:AY y u) :
  KV (kvs.map λkv=>if kv.1=k then(kv.1,y)else kv) (vs.map λkv=>if kv.1=k then(kv.1,u)else kv):=by
 unfold KV at r⊢;induction r with
 |nil=>exact .nil
 |@cons p q ps qs h t ih =>
  rw[C9,C9];refine .cons ?_ ih;obtain⟨h1,h2⟩:=h;by_cases e:p.1=k
  ·rw[X9 e,X9 (h1.symm.trans e)];exact⟨h1,ry⟩
  ·rw[X8 e,X8 (λz=>e (h1.trans z))];exact⟨h1,h2⟩
theorem KV.put{kvs:List (κ×V)}{vs:List (κ×Value)}(r:KV kvs vs)(k:κ){y:V}{u:Value}(ry:AY y u):KV (CK kvs k y) (stored vs k u):=by
 unfold CK stored;rw[r.any k];by_cases e:(vs.any λkv=>decide (kv.1=k))=true
 ·rw[X9 e,X9 e];exact r.repl k ry
 ·rw[X8 e,X8 e];exact A2h r ⟨rfl,ry⟩
theorem KV.length{kvs:List (κ×V)}{vs:List (κ×Value)}(r:KV kvs vs):kvs.length=vs.length:=A0b r
end
theorem Rq{P:Program}{w:World}{k:Key}{u:Value}(r:AY (kV k) u):(BZ P w).is k u=true:=by
 cases k with
 |inl i=>obtain⟨t,e⟩:=(show ∃t,u=Value.int i t from r);subst e;exact Rj P w i t
 |inr x=>obtain⟨t,e⟩:=(show ∃t,u=Value.str x t from r);subst e;exact Ri P w x t
theorem OE{P:Program}{w:World}:∀{ks:List Key}{us:List Value},AN (ks.map kV) us->ItemsAre (BZ P w) ks us
 |[],_,r=>by rw[List.map_nil]at r;cases r;exact .nil
 |k::ks,_,r=>by
  rw[C9]at r;cases r with
  |cons h t=>exact .cons (Rq h) (OE t)
abbrev KT(H:Hp):List (List Key×V)->List (List Key×Addr×Value)->Prop:=Paired λp q=>p.1=q.1/\H q.2.1=some (.tup (p.1.map kV))/\AY p.2 q.2.2
theorem KT.val{H:Hp}{kvs:List (List Key×V)}{xs:List (List Key×Addr×Value)}(r:KT H kvs xs)(k:List Key):GP (Bv kvs k) ((atKey xs k).map (·.2)):=by
 induction r with
 |nil=>exact True.intro
 |@cons p q ps qs h t ih =>
  obtain⟨h1,_,h2⟩:=h;by_cases e:p.1=k
  ·have e':q.1=k:=h1.symm.trans e;have b:atKey (q::qs) k=some q.2:=by simp[atKey,P2,e']
   rw[BC e,b];exact h2
  ·have e':¬q.1=k:=λz=>e (h1.trans z);have b:atKey (q::qs) k=atKey qs k:=by simp[atKey,P2,e']
   rw[Bm e,b];exact ih
theorem KT.repl{H:Hp}{kvs:List (List Key×V)}{xs:List (List Key×Addr×Value)}(r:KT H kvs xs)(k:List Key){y:V}{u:Value}(ry:AY y u) :
  KT H (kvs.map λkv=>if kv.1=k then(kv.1,y)else kv) (xs.map (putAt k u)):=by
 induction r with
 |nil=>exact .nil
 |@cons p q ps qs h t ih =>
  rw[C9,C9];refine .cons ?_ ih;obtain⟨h1,h2,h3⟩:=h;unfold putAt;by_cases e:p.1=k
  ·rw[X9 e,X9 (h1.symm.trans e)];exact⟨h1,h2,ry⟩
  ·rw[X8 e,X8 (λz=>e (h1.trans z))];exact⟨h1,h2,h3⟩
theorem KT.put{H:Hp}{kvs:List (List Key×V)}{xs:List (List Key×Addr×Value)}(r:KT H kvs xs)(k:List Key){b:Addr}{y:V}{u:Value}(hb:H b=some (.tup (k.map kV)))(ry:AY y u) :
  KT H (CK kvs k y) (storedH xs k b u):=by
 have e:(kvs.any λkv=>decide (kv.1=k))=(atKey xs k).isSome:=by
  rw[EL,(r.val k).isSome_eq,Z7]
 unfold CK storedH;rw[e];by_cases q:(atKey xs k).isSome=true
 ·rw[X9 q,X9 q];exact r.repl k ry
 ·rw[X8 q,X8 q];exact A2h r ⟨rfl,hb,ry⟩
theorem KT.keeps{H H':Hp}{kvs:List (List Key×V)}{xs:List (List Key×Addr×Value)}(r:KT H kvs xs)(ht:∀b ys,H b=some (.tup ys)->H' b=some (.tup ys)):KT H' kvs xs :=
 Paired.mapP r λ_ _ z=>⟨z.1,ht _ _ z.2.1,z.2.2⟩
section
variable{P:Program}{w:World}{H:Hp}{h:Heap}{a:Addr}
theorem rd_of{u:HO}(ok:HOk P w H h)(e:Rd H a u):Bl P w H h a u:=e.ok ok
theorem ON{kvs:List (Key×V)}(ok:HOk P w H h)(e:Rd H a (.dK kvs)):kvs.length<=sizeLine/\(a==sysModules)=false/\∃vs,KV kvs vs/\h.DictOf (BZ P w) a vs :=
 show Bl P w H h a (.dK kvs)from rd_of ok e
theorem dk_of{kvs:List (Key×V)}(ok:HOk P w H h)(e:H a=some (.dK kvs)):kvs.length<=sizeLine/\(a==sysModules)=false/\∃vs,KV kvs vs/\h.DictOf (BZ P w) a vs:=ON ok (.inl e)
theorem Ni{ks:List Key}(ok:HOk P w H h)(e:H a=some (.tup (ks.map kV))):(tupleKind (BZ P w)).is h ks a:=by
 obtain⟨_,its,r,o,h1,h2,n,h3⟩:=(show Bl P w H h a (.tup (ks.map kV))from ok a _ e)
 exact⟨o,its.toArray,n,h1,h2,h3,by simpa using OE r⟩
theorem OL{kvs:List (List Key×V)}(ok:HOk P w H h)(e:Rd H a (.dT kvs)):kvs.length<=sizeLine/\(a==sysModules)=false /\
  ∃xs,KT H kvs xs/\h.DictOfH (tupleKind (BZ P w)) a xs:=by
 obtain⟨z,y,xs,r,o,es,ep,h1,h2,h3,h4,h5⟩:=(show Bl P w H h a (.dT kvs)from rd_of ok e)
 refine⟨z,y,xs,r,o,es,ep,h1,h2,h3,h4,λx hx=>?_,h5⟩;have all:∀{l:List (List Key×V)}{m:List (List Key×Addr×Value)},KT H l m->∀x∈m,(tupleKind (BZ P w)).is h x.1 x.2.1:=by
  intro l m q;induction q with
  |nil=>intro x hx;exact nomatch hx
  |@cons p q ps qs hq t ih =>
   intro x hx;rcases C2.mp hx with e|hx
   ·subst e;exact Ni ok (by rw[<-hq.1];exact hq.2.1)
   ·exact ih x hx
 exact all r x hx
theorem dt_of{kvs:List (List Key×V)}(ok:HOk P w H h)(e:H a=some (.dT kvs)):kvs.length<=sizeLine/\(a==sysModules)=false /\
  ∃xs,KT H kvs xs/\h.DictOfH (tupleKind (BZ P w)) a xs:=OL ok (.inl e)
end
def GX(H:Hp)(a:Addr)(y:V)(r:Option V):Prop :=
 (∃kvs k,Rd H a (.dK kvs)/\y=kV k/\r=Bv kvs k)\/∃kvs k b,Rd H a (.dT kvs)/\y=.ref b/\H b=some (.tup (k.map kV))/\r=Bv kvs k
def Md(H:Hp)(a:Addr)(y v:V)(H':Hp):Prop :=
 (∃kvs k,H a=some (.dK kvs)/\y=kV k/\kvs.length<sizeLine/\H'=upd H a (.dK (CK kvs k v))) \/
 ∃kvs k b,H a=some (.dT kvs)/\y=.ref b/\H b=some (.tup (k.map kV))/\kvs.length<sizeLine/\H'=upd H a (.dT (CK kvs k v))
theorem GX.k{H:Hp}{a:Addr}{kvs:List (Key×V)}{k:Key}(e:H a=some (.dK kvs)):GX H a (kV k) (Bv kvs k):=.inl ⟨kvs,k,.inl e,rfl,rfl⟩
theorem GX.t{H:Hp}{a b:Addr}{kvs:List (List Key×V)}{k:List Key}(e:H a=some (.dT kvs))(eb:H b=some (.tup (k.map kV))):GX H a (.ref b) (Bv kvs k):=.inr ⟨kvs,k,b,.inl e,rfl,eb,rfl⟩
theorem Md.k{H:Hp}{a:Addr}{kvs:List (Key×V)}{k:Key}{v:V}(e:H a=some (.dK kvs))(hl:kvs.length<sizeLine):Md H a (kV k) v (upd H a (.dK (CK kvs k v))):=.inl ⟨kvs,k,e,rfl,hl,rfl⟩
theorem Md.t{H:Hp}{a b:Addr}{kvs:List (List Key×V)}{k:List Key}{v:V}(e:H a=some (.dT kvs))(eb:H b=some (.tup (k.map kV)))(hl:kvs.length<sizeLine) :
  Md H a (.ref b) v (upd H a (.dT (CK kvs k v))):=.inr ⟨kvs,k,b,e,rfl,eb,hl,rfl⟩
section
variable{X:Cx}{pins:List (Addr×Obj)}{σ:St}{H:Hp}{s:Shared}{a:Addr}{y v:V}{u r:Value}{o:Option V}{A:Around}{E:Value->Shared->Prop}
theorem Inv.big(I:Inv X pins σ H s):sysModules<s.heap.objs.size:=by
 have h:mainGlobals<s.heap.objs.size:=(I.mod.glob.keeps I.bk).lt;exact S9 A4 h
theorem Vr{Q:Value->Shared->Prop}(hu:A.units+1<cLine)(I:Inv X pins σ H s)(g:GX H a y (some v))(ry:AY y u)(h:∀w' s',Inv X pins σ H s'->AY v w'->Q w' s') :
  wpAny (model X.prog X.w) A (getItem (.ref a) u) Q E s:=by
 rcases g with ⟨kvs,k,e,ey,l⟩|⟨kvs,k,b,e,ey,eb,l⟩
 ·subst ey;obtain⟨z,hd,vs,rel,dd⟩:=ON I.hok e;obtain⟨w',hw,rw'⟩:=GP.some_of (v:=v) (o:=valueAt vs k) (by rw[l];exact rel.val k);exact wpAny_getItem_of (Rq ry) dd.mapOf hw (h w' _ (I.tok _) rw')
 ·subst ey;cases(show u=Value.ref b from ry);obtain⟨z,hd,xs,rel,dd⟩:=OL I.hok e;obtain⟨w',hw,rw'⟩:=GP.some_of (v:=v) (o:=(atKey xs k).map (·.2)) (by rw[l];exact rel.val k);obtain⟨p,hp,hp2⟩:=F0.mp hw;refine wpAny_getItem_heap (A6e hu) (Ni I.hok eb) dd hp ?_;rw[hp2];exact h w' _ (I.tok _) rw'
theorem d_notIn{Q:Value->Shared->Prop}(hu:A.units+1<cLine)(I:Inv X pins σ H s)(g:GX H a y o)(ry:AY y u)(h:∀s',Inv X pins σ H s'->Q (.bool (!o.isSome)) s') :
  wpAny (model X.prog X.w) A (compareOp .NotIn u (.ref a)) Q E s:=by
 rcases g with ⟨kvs,k,e,ey,l⟩|⟨kvs,k,b,e,ey,eb,l⟩
 ·subst ey;obtain⟨z,hd,vs,rel,dd⟩:=ON I.hok e;refine wpAny_notIn_of (Rq ry) hd dd.mapOf ?_;rw[<-(rel.val k).isSome_eq,<-l];exact h _ (I.tok _)
 ·subst ey;cases(show u=Value.ref b from ry);obtain⟨z,hd,xs,rel,dd⟩:=OL I.hok e;refine wpAny_notIn_heap (A6e hu) (Ni I.hok eb) hd dd ?_;have q:=(rel.val k).isSome_eq;rw[Z7]at q;rw[<-q,<-l];exact h _ (I.tok _)
theorem Qp{h':Heap}{t':Nat}{ob:HO}(I:Inv X pins σ H s)(mu:Mut (H a))(hs:Heap.SameBut a s.heap h')(he:∃q,h'.get? a=some q)(new:Bl X.prog X.w (upd H a ob) h' a ob) :
  Inv X pins σ (upd H a ob) {s with heap:=h',toks:=t'} :=
 I.write (x:=a) (e:=a) mu (.inl rfl) (λb q hb z=>(hs.2 b hb).trans z) he new
theorem dk_new{P:Program}{w:World}{H':Hp}{h':Heap}{kvs:List (Key×V)}{vs:List (Key×Value)}(z:kvs.length<=sizeLine)(hd:(a==sysModules)=false)(rel:KV kvs vs)(dd:h'.DictOf (BZ P w) a vs) :
  Bl P w H' h' a (.dK kvs):=⟨z,hd,vs,rel,dd⟩
theorem Vq{H':Hp}{Q:Unit->Shared->Prop}(hu:A.units+1<cLine)(I:Inv X pins σ H s)(g:Md H a y v H')(ry:AY y u)(rv:AY v r)(h:∀s',Inv X pins σ H' s'->Q () s') :
  wpAny (model X.prog X.w) A (setItem (.ref a) u r) Q E s:=by
 rcases g with ⟨kvs,k,e,ey,l,eH⟩|⟨kvs,k,b,e,ey,eb,l,eH⟩
 ·subst ey eH;obtain⟨z,hd,vs,rel,dd⟩:=dk_of I.hok e;have hz:vs.length<=sizeLine:=by rw[<-rel.length];exact z
  have hl:(CK kvs k v).length<=sizeLine:=by have:=Ip kvs k v;lia
  refine wpAny_setItem_pairs (hsz:=hz) (Rq ry) dd λh' dd' hs=>h _ ?_;have he:∃q,h'.get? a=some q:=let ⟨q,_,_,hq,_⟩:=dd';⟨q,hq⟩;exact Qp I (by rw[e];exact True.intro) hs he (dk_new hl hd (rel.put k rv) dd')
 ·subst ey eH;cases(show u=Value.ref b from ry);obtain⟨z,hd,xs,rel,dd⟩:=dt_of I.hok e;have hz:xs.length<=sizeLine:=by rw[<-A0b rel];exact z
  have hl:(CK kvs k v).length<=sizeLine:=by have:=Ip kvs k v;lia
  refine wpAny_setItem_heap (hsz:=hz) (A6e hu) (Ni I.hok eb) dd λh' dd' hs=>h _ ?_;obtain⟨q,es,ep,hq,h2,h3,h4,_,h5⟩:=dd';refine Qp I (by rw[e];exact True.intro) hs ⟨q,hq⟩ ⟨hl,hd,_,(rel.put k eb rv).keeps λc ys ec=>?_,q,es,ep,hq,h2,h3,h4,h5⟩;rw[At (AM ec e (λz=>nomatch z))];exact ec
end
section
variable{X:Cx}{pins:List (Addr×Obj)}{σ:St}{H:Hp}{s:Shared}{a:Addr}{kvs:List (Key×V)}{k:Key}{u:Value}{A:Around}{E:Value->Shared->Prop}
end
def NoSl(i:Expr):Prop:=∀ov iv,subscripted i false ov iv=operate [ov,iv] (getItem ov iv)
theorem subD_of{prog:Program}{w:World}{A:Around}{E:Value->Shared->Prop}{s:Shared}{env:Env}{value slice:Expr}{pos:Pos}{T id:String}{Q:Value->Shared->Prop}
  (hl:typeLookup (.type T) "__getitem__" = pure (some (.builtin id))) (hs:NoSl slice)
  (h:wpAny (model prog w) A (eval value env) (λo s₁=>wpAny (model prog w) A (eval slice env) (λi s₂=>s₂.TypeIs o T/\wpAny (model prog w) A (getItem o i) Q E s₂) E s₁) E s) :
  wpAny (model prog w) A (eval (.Subscript value slice pos) env) Q E s:=by
 refine Subscript_ (A0g h (λo s₁ h₁=>A0g h₁ (λi s₂ h₂=>?_) λ_ _ x=>x) λ_ _ x=>x);obtain⟨hT,h₂⟩:=h₂;unfold subscriptTail;refine X5 ?_;rw[getitemInPython_of_ne hT.not_modules];refine X5 (A6b hT hl ?_);have fin:wpAny (model prog w) A (subscripted slice false o i) (λr s₃=>wpAny (model prog w) A (letTemporaryGo value o r >>= λ_=>pure r) Q E s₃) E s₂:=by
  rw[hs o i];exact wpAny_operating (A0g h₂ (λr s₃ h₃=>X5 (wpAny_letTemporaryGo (K5 h₃))) λ_ _ x=>x)
 first
  |exact K5 (X5 fin)
  |exact X5 (K5 (X5 fin))
  |exact X5 fin
theorem Rx{X:Cx}{pins:List (Addr×Obj)}{σ:St}{H:Hp}{s:Shared}{a:Addr}{y:V}{o:Option V}(I:Inv X pins σ H s)(g:GX H a y o):s.TypeIs (.ref a) "dict" := by
 rcases g with ⟨kvs,k,e,_,_⟩|⟨kvs,k,b,e,_,_,_⟩
 ·obtain⟨_,_,vs,_,dd⟩:=ON I.hok e;exact dd.typeIs
 ·obtain⟨_,_,xs,_,dd⟩:=OL I.hok e;exact dd.typeIs
def tDGet(td ty:TE):TE:=fun σ H Q=>td σ H λx H1=>ty σ H1 λy H2=>∃a v,x=.ref a/\GX H2 a y (some v)/\Q v H2
def tDNotIn(ty td:TE):TE:=fun σ H Q=>ty σ H λy H1=>td σ H1 λx H2=>∃a o,x=.ref a/\GX H2 a y o/\Q (.bl (!o.isSome)) H2
def sDPut(td ty tv:TE):TS:=λD σ H=>tv σ H λv H1=>td σ H1 λx H2=>ty σ H2 λy H3=>∃a H4,x=.ref a/\Md H3 a y v H4/\D.nx σ H4
section
variable{X:Cx}{o i e value:Expr}{pos pos' tpos:Pos}{td ty tv:TE}
theorem pe_dget(hu:X.A.units+1<cLine)(ho:PE X o td)(hi:PE X i ty)(hs:NoSl i):PE X (.Subscript o i pos) (tDGet td ty):=by
 intro pins s σ H Q I h;refine subD_of PySem.F.slot_dict_getitem.lookup hs (thn (ho pins s σ H _ I h) λu s1 ⟨x,H1,I1,rx,q1⟩=>thn (hi pins s1 σ H1 _ I1 q1) λiv s2 ⟨y,H2,I2,ry,a,v,ex,g,q2⟩=>?_);subst ex;obtain rfl:u=Value.ref a:=rx;exact⟨Rx I2 g,Vr hu I2 g ry λw' s3 I3 rw'=>⟨v,H2,I3,rw',q2⟩⟩
theorem UJ(hu:X.A.units+1<cLine)(hi:PE X i ty)(ho:PE X o td):PC X .NotIn i o (tDNotIn ty td):=by
 intro pins s σ H Q I h;refine thn (hi pins s σ H _ I h) λiv s1 ⟨y,H1,I1,ry,q1⟩=>thn (ho pins s1 σ H1 _ I1 q1) λu s2 ⟨x,H2,I2,rx,a,ov,ex,g,q2⟩=>?_;subst ex;obtain rfl:u=Value.ref a:=rx;exact d_notIn hu I2 g ry λs3 I3=>⟨.bl (!ov.isSome),H2,I3,rfl,q2⟩
theorem IC(hu:X.A.units+1<cLine)(ho:PE X o td)(hi:PE X i ty)(hv:PE X value tv)(hs:swapsWith value (some (.Subscript o i pos')) pos.line X.env=pure false) :
  PS X (.Assign [.Subscript o i pos'] value pos) (sDPut td ty tv):=by
 intro pins s σ H D I h;refine wpAny_Assign_Subscript (thn (hv pins s σ H _ I h) λr s1 ⟨v,H1,I1,rv,q1⟩=>thn (ho pins s1 σ H1 _ I1 q1) λu s2 ⟨x,H2,I2,rx,q2⟩=>thn (hi pins s2 σ H2 _ I2 q2) λiv s3 ⟨y,H3,I3,ry,a,H4,ex,g,q3⟩=>?_) hs;subst ex;obtain rfl:u=Value.ref a:=rx;exact Vq hu I3 g ry rv λs4 I4=>⟨σ,H4,I4,q3⟩
end
theorem Yv{P:Program}{w:World}{H:Hp}(h:Heap)(hb:sysModules<h.objs.size):Bl P w H (h.push {cls:=.type "dict",data:=.dict #[]}) h.objs.size (.dK []) :=
 ⟨G9 _,beq_eq_false_iff_ne.mpr (A0c (F3 hb)),[],.nil,Heap.DictOf.new h⟩
theorem Yu{P:Program}{w:World}{H:Hp}(h:Heap)(hb:sysModules<h.objs.size):Bl P w H (h.push {cls:=.type "dict",data:=.dict #[]}) h.objs.size (.dT []) :=
 ⟨G9 _,beq_eq_false_iff_ne.mpr (A0c (F3 hb)),[],.nil,_,#[],0,D0 _ rfl,⟨rfl,rfl,rfl⟩,rfl,rfl,V4⟩
def tDNewK:TE:=λ_ H Q=>∀p,H p=none->Q (.ref p) (upd H p (.dK []))
def tDNewT:TE:=λ_ H Q=>∀p,H p=none->Q (.ref p) (upd H p (.dT []))
section
variable{X:Cx}{pos:Pos}
theorem MM:PE X (.Dict [] [] pos) tDNewK:=λpins s σ H Q I h =>
 wpAny_Dict_empty ⟨.ref s.heap.objs.size,_,I.laid (a:=s.heap.objs.size) (o:=.dK []) (t':=s.toks) (λ_ _ q=>B5 _ q) (B1 _) (Yv s.heap I.big),rfl,h _ (I.hok.fresh (B1 _))⟩
theorem Wo:PE X (.Dict [] [] pos) tDNewT:=λpins s σ H Q I h =>
 wpAny_Dict_empty ⟨.ref s.heap.objs.size,_,I.laid (a:=s.heap.objs.size) (o:=.dT []) (t':=s.toks) (λ_ _ q=>B5 _ q) (B1 _) (Yu s.heap I.big),rfl,h _ (I.hok.fresh (B1 _))⟩
end
structure M1(X:Cx)(o:Expr)(m:Str)(apos:Pos)(e:Expr)(cpos:Pos):Prop where
 base:attributeBase o m X.env (eval o X.env)=eval o X.env
 few:((backTo cpos (starEach [e] X.env)).all (λx=>!x.1) && (backToKw cpos (keywordEach [] X.env)).all (λx=>x.1.isSome)
  && decide (([e]:List Expr).length+([]:List Keyword).length+(if([]:List Keyword).isEmpty then 0 else 1)<30))=true
 line:(apos.endLine==cpos.line)=true
 trees:backTo cpos (starEach [e] X.env)=[(false,eval e X.env)]
def IsD(H:Hp)(a:Addr):Prop:=(∃kvs,Rd H a (.dK kvs))\/∃kvs,Rd H a (.dT kvs)
theorem isD_at{X:Cx}{pins:List (Addr×Obj)}{σ:St}{H:Hp}{s:Shared}{a:Addr}(I:Inv X pins σ H s)(d:IsD H a) :
  s.TypeIs (.ref a) "dict" /\ (∀b,Value.ref a=.ref b->∃ob,s.heap.get? b=some ob/\ob.dict=none)/\(a==sysModules)=false:=by
 rcases d with ⟨kvs,e⟩|⟨kvs,e⟩
 ·obtain⟨_,hd,vs,_,dd⟩:=ON I.hok e;refine⟨dd.typeIs,λb q=>?_,hd⟩;cases q;obtain⟨ob,_,_,h1,h2,_⟩:=dd;exact⟨ob,h1,h2.2.1⟩
 ·obtain⟨_,hd,xs,_,dd⟩:=OL I.hok e;refine⟨dd.typeIs,λb q=>?_,hd⟩;cases q;obtain⟨ob,_,_,h1,h2,_⟩:=dd;exact⟨ob,h1,h2.2.1⟩
section
variable{X:Cx}{pins:List (Addr×Obj)}{σ:St}{H:Hp}{s:Shared}{a:Addr}{y d:V}{u r:Value}{o:Option V}{A:Around}{E:Value->Shared->Prop}
theorem d_get1{Q:Value->Shared->Prop}(hu:A.units+1<cLine)(I:Inv X pins σ H s)(g:GX H a y o)(ry:AY y u)(h:∀w' s',Inv X pins σ H s'->AY (o.getD .non) w'->Q w' s') :
  wpAny (model X.prog X.w) A (call (.builtin "dict.get") [.ref a,u]) Q E s:=by
 rcases g with ⟨kvs,k,e,ey,l⟩|⟨kvs,k,b,e,ey,eb,l⟩
 ·subst ey;obtain⟨z,hd,vs,rel,dd⟩:=ON I.hok e;refine call_meetsIn A3f dd.typeIs A7a (A6f _ _) (meets_dict_get (BZ X.prog X.w) a (Rq ry) hd) ⟨_,dd.mapOf,h _ _ (I.tok _) ?_⟩;rw[l];exact(rel.val k).getD rfl
 ·subst ey;cases(show u=Value.ref b from ry);obtain⟨z,hd,xs,rel,dd⟩:=OL I.hok e;refine call_meetsIn A3f dd.typeIs A7a (A6f _ _) (meetsH_dict_get (tupleKind (BZ X.prog X.w)) a b hd) ⟨A6e hu,k,xs,Ni I.hok eb,dd,h _ _ (I.tok _) ?_⟩;rw[l];exact(rel.val k).getD rfl
end
def tDGet1(td ty:TE):TE:=fun σ H Q=>td σ H λx H1=>∃a,x=.ref a/\IsD H1 a/\ty σ H1 λy H2=>∃o,GX H2 a y o/\Q (o.getD .non) H2
section
variable{X:Cx}{o e f:Expr}{apos cpos:Pos}{td ty tx:TE}
theorem MN(hu:X.A.units+1<cLine)(ho:PE X o td)(he:PE X e ty)(m:M1 X o "get" apos e cpos):PE X (.Call (.Attribute o "get" apos) [e] [] cpos) (tDGet1 td ty):=by
 intro pins s σ H Q I h;refine wpAny_Call_method m.base m.few m.line PySem.F.plainAttrs_dict A3f PySem.F.type_dict_get (thn (ho pins s σ H _ I h) λu s1 ⟨x,H1,I1,rx,a,ex,d,q1⟩=>?_);subst ex;obtain rfl:u=Value.ref a:=rx;obtain⟨t1,t2,_⟩:=isD_at I1 d;refine⟨t1,t2,?_⟩;rw[m.trees];refine A8a rfl (A5g (A8h (thn (he pins s1 σ H1 _ I1 q1) λiv s2 ⟨y,H2,I2,ry,ov,g,q2⟩=>Calls.spliced_nil ?_)));exact d_get1 hu I2 g ry λw' s3 I3 rw'=>⟨_,H2,I3,rw',q2⟩
end
section
variable{X:Cx}{pins:List (Addr×Obj)}{σ:St}{H:Hp}{s:Shared}{a:Addr}{kvs:List (Key×V)}{A:Around}{E:Value->Shared->Prop}
end
section
variable{X:Cx}{pins:List (Addr×Obj)}{σ:St}{H:Hp}{s:Shared}{a:Addr}{y:V}{u:Value}{A:Around}{E:Value->Shared->Prop}
end
section
variable{X:Cx}
end
section
variable{κ:Type}[DecidableEq κ]
theorem Vz{kvs:List (κ×V)}{k:κ}(h:Bv kvs k=none):¬k∈kvs.map (·.1):=by
 intro m;obtain⟨p,hp,e⟩:=D5.mp m;have q:(kvs.any λkv=>decide (kv.1=k))=true:=List.any_eq_true.mpr ⟨p,hp,X7 e⟩;rw[EL,h]at q;exact absurd q A5
theorem TM:∀{l:List κ}{k:κ},l.Nodup->¬k∈l->(l++[k]).Nodup
 |[],k,_,_=>by simp
 |a::r,k,h,hk=>by
  obtain⟨h1,h2⟩:=Q5.mp h;show(a::(r++[k])).Nodup;refine Q5.mpr ⟨λm=>?_,TM h2 λm=>hk (C2.mpr (Or.inr m))⟩;rcases C7.mp m with q|q
  ·exact h1 q
  ·exact hk (C2.mpr (Or.inl (C4.mp q).symm))
theorem nd_putK{kvs:List (κ×V)}{k:κ}(v:V)(hn:(kvs.map (·.1)).Nodup)(h:Bv kvs k=none):((CK kvs k v).map (·.1)).Nodup:=by
 rw[JC v h,C1];exact TM hn (Vz h)
end
theorem Bl.be{P:Program}{w:World}{H:Hp}{h:Heap}{a:Addr}{o:HO}(x:Bl P w H h a o):∃u,h.get? a=some u:=by
 cases o with
 |lst xs=>obtain⟨_,_,_,_,e⟩:=x;exact⟨_,e⟩
 |tup xs=>obtain⟨_,_,_,u,e,_⟩:=x;exact⟨u,e⟩
 |dK kvs=>obtain⟨_,_,_,_,u,_,_,e,_⟩:=x;exact⟨u,e⟩
 |dT kvs=>obtain⟨_,_,_,_,u,_,_,e,_⟩:=x;exact⟨u,e⟩
 |set S n=>obtain⟨u,_,_,_,e,_⟩:=x;exact⟨u,e⟩
 |ins C dx fs=>obtain⟨_,_,_,e,_⟩:=x;exact⟨_,e⟩
 |own y=>exact x
 |xd fs=>obtain⟨_,⟨u,_,_,e,_⟩,_⟩:=x;exact⟨u,e⟩
 |rng lo hi=>obtain⟨_,_,_,e⟩:=x;exact⟨_,e⟩
 |frz ob u=>exact⟨_,x.1⟩
 |tbl ps=>exact⟨_,x⟩
 |met f y=>exact⟨_,x⟩
 |ext φ=>exact x.2.1
theorem Nj{P:Program}{w:World}{H:Hp}{h h':Heap}{hid fs:List Addr}(hok:HOk P w H h)(n:RP hid fs h h')(free:∀b,b∈hid->H b=none):HOk P w H h':=λb u q =>
 (hok b u q).stay (λc v hc r=>n.keep c v r λm=>by
  have z:=free c m;rcases hc with rfl|hc
  ·rw[q]at z;cases z
  ·rw[hc]at z;cases z) (λ_ z=>z) λ_ _ z=>z
theorem Pc{gs hid fs:List Addr}{H0 H:Hp}{g h h':Heap}(u:Un gs [] H0 H g h)(n:RP hid fs h h')(out:∀b,b∈hid->b∈fs\/g.get? b=none)(inn:∀b,b∈fs->b∈gs\/g.get? b=none):Un gs [] H0 H g h' where
 keep:=λb o q m hb hx=>n.keep b o (u.keep b o q m hb hx) λz=>by
  rcases out b z with y|y
  ·rcases inn b y with y|y
   ·exact hb y
   ·rw[q]at y;cases y
  ·rw[q]at y;cases y
 slot:=λb o q m hb hx=>by
  obtain⟨sl,e⟩:=u.slot b o q m hb hx;by_cases z:b∈hid
  ·rcases out b z with y|y
   ·obtain⟨sl',e'⟩:=n.slot b _ y e;exact⟨sl',e'⟩
   ·rw[q]at y;cases y
  ·exact⟨sl,n.keep b _ e z⟩
 free:=u.free
 there:=λb o q hx=>by
  obtain⟨o',e⟩:=u.there b o q hx;by_cases z:b∈hid
  ·rcases out b z with y|y
   ·obtain⟨sl',e'⟩:=n.slot b _ y e;exact⟨_,e'⟩
   ·rw[q]at y;cases y
  ·exact⟨_,n.keep b _ e z⟩
 tups:=u.tups
 frzs:=u.frzs
 tbls:=u.tbls
abbrev FlyT(a T:Addr)(cls:Value)(h:Heap):Prop:=Jd a T cls .none h
def CXE(P:Program)(w:World):CXT:=λouter H s E e s' =>
 ∃(a T:Addr)(cls:Value)(H':Hp),e=.ref a/\s'.os=s.os/\AllBare s'.gens/\Un (frs outer) [] H H' s.heap s'.heap/\HOk P w H' s'.heap /\
  FlyT a T cls s'.heap/\s.heap.get? a=none/\s.heap.get? T=none/\H' a=none/\H' T=none/\E cls none H'
section
variable{P:Program}{w:World}{K:PySem.W.Frag}{mg:Str->Option Value}{base:Heap}{N:List Str}{qual:Str}{scope:Scope}{f:Addr}{cd:Value}{A:Around}{outer:List Env}{s:Shared}{H:Hp}{E:XK}
def YT(X:Cx)(E:XK):Prop:=∀(pins:List (Addr×Obj))(σ:St)(H:Hp)(s:Shared)(e:Addr)(cls:Value)(args:List Value)(h':Heap),Inv X pins σ H s->Heap.MadeExcOf s.heap h' e cls args->E cls none H->X.xe (.ref e) {s with heap:=h'}
theorem Inv.gk{X:Cx}{pins:List (Addr×Obj)}{σ:St}{H:Hp}{s:Shared}(I:Inv X pins σ H s)(hx:X.ex=[]):∀b o,X.s₀.heap.get? b=some o->∃o',s.heap.get? b=some o':=λb o q=>I.base.there b o q (by rw[hx];simp)
theorem Inv.gn{X:Cx}{pins:List (Addr×Obj)}{σ:St}{H:Hp}{s:Shared}(I:Inv X pins σ H s)(hx:X.ex=[]){b:Addr}(q:s.heap.get? b=none):X.s₀.heap.get? b=none:=by
 cases e:X.s₀.heap.get? b with
 |none=>rfl
 |some o =>
  obtain⟨o',e'⟩:=I.gk hx b o e;rw[q]at e';cases e'
theorem Inv.ownNew{X:Cx}{pins:List (Addr×Obj)}{σ:St}{H:Hp}{s:Shared}(I:Inv X pins σ H s):X.s₀.heap.get? X.env.locals=none:=M8 I.ok.above
theorem Inv.frsOut{X:Cx}{pins:List (Addr×Obj)}{σ:St}{H:Hp}{s:Shared}(I:Inv X pins σ H s):∀b,b∈frs X.stack->b∈frs X.outer\/X.s₀.heap.get? b=none:=λb hb=>by
 rcases C2.mp (I.stkSub b hb)with z|z
 ·right;rw[z];exact I.ownNew
 ·exact .inl z
theorem TD:YT (Ix (CXE P w) P w K mg base N qual scope f cd A outer s H E) E:=by
 intro pins σ H1 s1 e cls args h' I hx hE;obtain⟨t,e1,_⟩:=hx.there;refine OB (s:={s1 with heap:=h'}) (T:=e) I.ok.frames (I.stack.of_keeps λb o q d=>⟨o,hx.keeps b o q,rfl⟩) rfl (.inl ⟨_,_,e1,rfl,rfl,rfl,rfl⟩) λh2 T fl n nr=>?_;have h1:∀b o,s1.heap.get? b=some o->b≠e:=λb o q z=>by
  rw[z,hx.new]at q;cases q
 have h3:∀b o,s1.heap.get? b=some o->b≠T:=λb o q z=>by
  have:=hx.keeps b o q;rw[z,show h'.get? T=none from n]at this;cases this
 have he:∀b o,s1.heap.get? b=some o->b≠e/\b≠T:=λb o q=>⟨h1 b o q,h3 b o q⟩
 have nr':RP (frs (Ix (CXE P w) P w K mg base N qual scope f cd A outer s H E).stack) (frs (Ix (CXE P w) P w K mg base N qual scope f cd A outer s H E).stack) s1.heap h2:=⟨λb o q z=>nr.keep b o (hx.keeps b o q) λm=>by
   rcases C2.mp m with y|y
   ·exact(he b o q).1 y
   ·rcases C2.mp y with y|y
    ·exact(he b o q).1 y
    ·exact z y,λb o m q=>nr.slot b o m (hx.keeps b o q),λ_ z=>z⟩
 have hn:∀b,(∀o,s1.heap.get? b≠some o)->s.heap.get? b=none/\H1 b=none:=λb z=>⟨I.gn rfl (by
  cases q:s1.heap.get? b with
  |none=>rfl
  |some o=>exact absurd q (z o)),by
  cases q:H1 b with
  |none=>rfl
  |some u =>
   obtain⟨v,y⟩:=(I.hok b u q).be;exact absurd y (z v)⟩
 have hE1:=hn e λo q=>(he e o q).1 rfl;have hT1:=hn T λo q=>(he T o q).2 rfl;exact⟨e,T,cls,H1,rfl,I.os,I.bare,Pc I.base nr' (λb z=>.inl z) I.frsOut,Nj I.hok nr' I.stkFree,fl,hE1.1,hT1.1,hE1.2,hT1.2,hE⟩
theorem Ww:FO (CXE P w) (Ix (CXE P w) P w K mg base N qual scope f cd A outer s H E) E:=by
 intro pins σ H1 s1 e s' I h;obtain⟨a,T,cls,H',rfl,os,bare,un,hok,fl,na,nT,ha,hT,hE⟩:=h;have J:Inv (Ix (CXE P w) P w K mg base N qual scope f cd A outer s H E) pins σ H' s':=I.call' (ch:=[]) os un hok bare (λb z=>absurd z A5);refine OB J.ok.frames J.stack rfl (.inr fl) λh2 T2 fl2 n2 nr=>?_;have ga:=I.gn rfl na;have gT:=I.gn rfl nT;have hid:∀b,b∈a::T::frs (Ix (CXE P w) P w K mg base N qual scope f cd A outer s H E).stack->b∈frs (Ix (CXE P w) P w K mg base N qual scope f cd A outer s H E).stack\/(s.heap.get? b=none/\H' b=none):=λb z=>by
  rcases C2.mp z with rfl|z
  ·exact .inr ⟨ga,ha⟩
  ·rcases C2.mp z with rfl|z
   ·exact .inr ⟨gT,hT⟩
   ·exact .inl z
 have nT2:H' T2=none:=by
  cases q:H' T2 with
  |none=>rfl
  |some u =>
   obtain⟨v,y⟩:=(J.hok T2 u q).be;rw[n2]at y;cases y
 refine⟨a,T2,cls,H',rfl,J.os,J.bare,Pc J.base nr (λb z=>(hid b z).imp id (·.1)) J.frsOut,Nj J.hok nr (λb z=>?_),fl2,ga,J.gn rfl n2,ha,nT2,hE⟩;rcases hid b z with y|y
 ·exact J.stkFree b y
 ·exact y.2
theorem Fun.okE{x:Str}{st:Stmt}{fd:FuncData}{ps:List Str}{k:Nat}{sp:Sp}(F:Fun K x qual st f fd)(S:Ap N ps (Ai st))(len:∀vs H Q E,sp vs H Q E->vs.length=ps.length)
  (hbody:∀(cdv:Value)(A:Around)(outer:List Env)(s:Shared)(H:Hp)(vs:List V)(Q:VK)(E:XK),BT k (A.deeper (envOfC qual (Ai st) s.heap.objs.size f cdv))->sp vs H Q E ->
   ∃t,PSs (Ix (CXE P w) P w K mg base N qual (Ai st) f cdv A outer s H E) (Fu st) t/\t {nx:=λ_ H'=>Q .non H',rt:=Q} (Fn N vs) H):AC P w K mg base (CXE P w) (k+1) f fd ps sp:=by
 obtain⟨oc,od,kV,doc,pm,an,cdv,ct,osl,rfl,lk,hcd⟩:=F.ex;exact fn_of lk hcd S len λA outer s H vs Q E hr hsp=>hbody cdv A outer s H vs Q E hr hsp
end
def vmro:List Value:=[.type "ValueError",.type "Exception",.type "BaseException",.type "object"]
abbrev GW(K:PySem.W.Frag)(C:Addr):Prop:=excIn K C vmro "ValueError.__new__" = true
theorem Qn{K:PySem.W.Frag}{h:Heap}{C:Addr}{bmB:List Value}{newId:String}(X:K.In h)(q:excIn K C bmB newId=true) :
  ∃(bm:List Value)(N:Addr)(nm qn:Str)(bs:List Value)(hd:Bool)(sn:List Str)(sub:List Value)(ab:Bool)(col:Option Bool)(dd:Option Addr)(k0 k1 k2 k3 k5:Option Value)(mN:Str->Option Value),
   h.get? C=some (excClassObj nm qn C N bs bm hd sn sub ab col dd k0 k1 k2 k3 k5 newId)/\h.Ns N mN/\mN "__init__" = none/\OwnTail h bmB bm/\∀v,mroIn K C v=some ((Value.ref C::bm).contains v):=by
 unfold excIn at q;split at q
 case h_2=>cases q
 rename_i dd cd sl ho;split at q
 case h_2=>cases q
 rename_i C' bm k0 k1 k2 k3 n k5 hm hs;simp only[N8,A5h,Bool.not_eq_true']at q;obtain⟨⟨⟨⟨⟨q1,q2⟩,q3⟩,q4⟩,q5⟩,q6⟩:=q;subst q1 q2;have mro:∀v,mroIn K C' v=some ((Value.ref C'::bm).contains v):=λv=>by
  unfold mroIn clsIn;rw[ho];show(if cd.mro.isEmpty=true then none else some (cd.mro.contains v))=_;rw[hm];rfl
 obtain⟨nm,bs,mr,ns,qn,hd,sn,sub,ab,col,del⟩:=cd;dsimp only at hm q3 q5 q6;subst hm;subst q3;obtain⟨l⟩:=sl;dsimp only at hs;subst hs;exact⟨bm,ns,nm,qn,bs,hd,sn,sub,ab,col,dd,k0,k1,k2,k3,k5,_,X _ _ ho,.of_isNs (PySem.W.isNs_of_in X q5),PySem.W.nsMap_none_of_in X q5 q6,PySem.W.tail_of_in X q4,mro⟩
section
variable{X:Cx}{C:Addr}{x:Str}{np cpos pos:Pos}{e:Expr}{es:List Expr}{t:TA}{E:XK}
def tRaise(C:Addr)(E:XK)(t:TA):TS:=λ_ σ H=>t σ H λvs H1=>vs.length<=100/\E (.ref C) none H1
theorem QR(hx:YT X E)(hc:X.calm=true)(hg:Gl X x)(hm:X.mg x=some (.ref C))(hC:GW X.K C)(ha:PA X (e::es) t)
  (hdb:(x==("__debug__" : Str))=false:=by decide) (he:starEach (e::es) X.env=(false,eval e X.env)::starEach es X.env:=by rfl) (hpl:(backTo cpos (starEach es X.env)).any (·.1)=false:=by rfl) :
  PS X (.Raise (some (.Call (.Name x np) (e::es) [] cpos)) none pos) (tRaise C E t):=by
 intro pins s σ H D I h;obtain⟨bm,N,nm,qn,bs,hd,sn,sub,ab,col,dd,k0,k1,k2,k3,k5,mN,hO,hN,hi,hT,hM⟩:=Qn I.mod.kin hC;have hbase:bm.contains (.type "BaseException")=true:=hT.hasType A4;refine wpAny_Raise_call_subU (C:=C) (nm:=nm) (q:=qn) (N:=N) (bs:=bs) (bm:=bm) (hdct:=hd) (sn:=sn) (sub:=sub) (ab:=ab) (col:=col) (dd:=dd) (k0:=k0) (k1:=k1) (k2:=k2) (k3:=k3) (k5:=k5) (newId:="ValueError.__new__") (mN:=mN)
  PySem.F.excBase_ValueError A4 PySem.F.excBase_ValueError hbase (I.ok.hd hc) (by rw[he];show(false || (backTo cpos (starEach es X.env)).any (·.1))=false;rw[hpl];rfl) hi (GK I hg hm ⟨rfl,?_⟩ hdb)
 have hA:=ha cpos pins s σ H _ I h;rw[he]at hA⊢;refine A5g (thn hA λus s1 ⟨vs,H1,I1,r1,hl,q1⟩=>?_);have k:∀b o,X.base.get? b=some o->s1.heap.get? b=some o:=I1.bk;refine⟨rfl,?_,k _ _ hO,hN.keeps k,hT.keeps k,λh' e' hx'=>hx pins σ H1 s1 e' _ _ h' I1 hx' q1⟩;show us.length<=sizeLine;rw[<-r1.length];exact C6 hl A4
end
def JT(CX:CXT)(X:Cx)(E:XK)(S:St->Prop):Prop:=∀(pins:List (Addr×Obj))(σ:St)(H:Hp)(s:Shared)(e:Value)(s':Shared),S σ->Inv X pins σ H s->CX X.stack H s E e s'->X.xe e s'
def VH(S:St->Prop)(sp:Sp)(dvs:List V)(E:XK)(t:TA):TE:=fun σ H Q=>S σ/\t σ H λvs H1=>sp (vs++dvs) H1 Q E
section
variable{X:Cx}{CX:CXT}{k:Nat}{f:Addr}{fd:FuncData}{ps:List Str}{sp:Sp}{dvs:List V}{ds:List Value}{E:XK}{x:Str}{p pos:Pos}{e:Expr}{es:List Expr}{t:TA}{S:St->Prop}
theorem run_fnS{pins:List (Addr×Obj)}{σ:St}{H:Hp}{s:Shared}{Q:VK}{us:List Value}{vs:List V}(F:AC X.prog X.w X.K X.mg X.base CX k f fd ps sp)(hr:BT k X.A)(hb:BN X.K fd ps ds)(hd:AN dvs ds)(hx:JT CX X E S)
  (hS:S σ) (I:Inv X pins σ H s) (r:AN vs us) (h:sp (vs++dvs) H Q E):wpAny (model X.prog X.w) X.A (call (.ref f) us) (EP X pins σ Q) X.xe s:=by
 have r2:AN (vs++dvs) (us++ds):=r.append hd;have hl:(us++ds).length=ps.length:=r2.length.symm.trans (F.len _ _ _ _ h);refine A6c (A4g (F.run X.A X.stack s H ⟨us,[]⟩ (us++ds) (vs++dvs) Q E hr I.env0 (hb s us I.kIn hl) r2 h) ?_);intro r s' hq;rcases r with e|(_|_|_|_)
 ·exact hx pins σ H s e s' hS I hq
 all_goals first
  |exact I.after hq
  |exact hq.elim
theorem Wr(F:AC X.prog X.w X.K X.mg X.base CX k f fd ps sp)(hr:BT k X.A)(hg:Gl X x)(hm:X.mg x=some (.ref f))(hk:keepIn X.K (.ref f)=true)(hb:BN X.K fd ps ds)(hd:AN dvs ds)(hx:JT CX X E S)
  (ha:PA X (e::es) t) (hdb:(x==("__debug__" : Str))=false:=by decide) (he:starEach (e::es) X.env=(false,eval e X.env)::starEach es X.env:=by rfl) (hpl:(backTo pos (starEach es X.env)).any (·.1)=false:=by rfl) :
  PE X (.Call (.Name x p) (e::es) [] pos) (VH S sp dvs E t):=by
 intro pins s σ H Q I h;obtain⟨hS,h⟩:=h;refine A1h (GK I hg hm ?_ hdb);refine A5f (h₀:=X.base) I.ok.mod.kin hk ?_ he hpl;exact thn (ha pos pins s σ H _ I h) λus s1 ⟨vs,H1,I1,r,q⟩=>⟨I1.kIn,run_fnS F hr hb hd hx hS I1 r q⟩
end
theorem Inv.re{X:Cx}{pins pins2 pn2:List (Addr×Obj)}{σ:St}{H:Hp}{s:Shared}{A2:Around}{c2:Bool}{xe2:Value->Shared->Prop}(I:Inv X pins σ H s)(hd:c2=true->A2.handled=none)(hf:A2.frames=X.A.frames)
  (hp:∀p,p∈pn2++pins2->p∈X.pn++pins):Inv {X with A:=A2,calm:=c2,xe:=xe2,pn:=pn2} pins2 σ H s :=
 ⟨⟨I.ok.mod,I.ok.kind,I.ok.glob,I.ok.blt,I.ok.above,I.ok.inj,I.ok.has,I.ok.cab,hd,hf.trans I.ok.frames,I.ok.stk,I.ok.exf,I.ok.bs,I.ok.bsz,I.ok.noex,I.ok.exfs,I.ok.funs,I.ok.frf⟩,
  I.os,I.bare,I.base,I.loc,I.cell,I.free,I.freeC,λp z=>I.pin p (hp p z),I.hok,I.len⟩
theorem Inv.un_re{X:Cx}{pins pins2 pn2:List (Addr×Obj)}{σ:St}{H:Hp}{s:Shared}{A2:Around}{c2:Bool}{xe2:Value->Shared->Prop}(I:Inv {X with A:=A2,calm:=c2,xe:=xe2,pn:=pn2} pins2 σ H s)(hd:X.calm=true->X.A.handled=none)
  (hf:X.A.frames=A2.frames) (hp:∀p,p∈X.pn++pins->p∈pn2++pins2):Inv X pins σ H s :=
 ⟨⟨I.ok.mod,I.ok.kind,I.ok.glob,I.ok.blt,I.ok.above,I.ok.inj,I.ok.has,I.ok.cab,hd,hf.trans I.ok.frames,I.ok.stk,I.ok.exf,I.ok.bs,I.ok.bsz,I.ok.noex,I.ok.exfs,I.ok.funs,I.ok.frf⟩,
  I.os,I.bare,I.base,I.loc,I.cell,I.free,I.freeC,λp z=>I.pin p (hp p z),I.hok,I.len⟩
theorem SP.map{X Y:Cx}{p q:List (Addr×Obj)}{D:JU}{f:Flow}{s:Shared}(k:∀σ H,Inv X p σ H s->Inv Y q σ H s)(h:SP X p D f s):SP Y q D f s:=by
 cases f with
 |next=>obtain⟨σ',H',I,z⟩:=h;exact⟨σ',H',k _ _ I,z⟩
 |brk=>obtain⟨σ',H',I,z⟩:=h;exact⟨σ',H',k _ _ I,z⟩
 |cont=>obtain⟨σ',H',I,z⟩:=h;exact⟨σ',H',k _ _ I,z⟩
 |ret u=>obtain⟨v,σ',H',I,r,z⟩:=h;exact⟨v,σ',H',k _ _ I,r,z⟩
def JM(a D:Addr):HO:=.ext (LP a D)
theorem Yj{P:Program}{w:World}{H:Hp}{h:Heap}{a D:Addr}(e:LP a D h):Bl P w H h a (JM a D):=by
 obtain⟨o,e,r⟩:=e;exact⟨⟨o,e,r⟩,⟨o,e⟩,λh1 h2 ⟨o1,e1,r1⟩ k=>⟨o1,k _ e1,r1⟩⟩
theorem Inv.track{X:Cx}{pins:List (Addr×Obj)}{σ:St}{H:Hp}{s:Shared}{a:Addr}{o:HO}(I:Inv X pins σ H s)(ha:H a=none)(h0:X.s₀.heap.get? a=none)(hb:X.base.get? a=none)(hL:X.env.locals≠a)(hc:∀x c,X.env.cells.lookup x=some c->c≠a)
  (hp:∀p,p∈X.pn++pins->p.1≠a) (hs:∀b,b∈X.fs->b≠a) (new:Bl X.prog X.w (upd H a o) s.heap a o):Inv X pins σ (upd H a o) s:=by
 have ne:∀b u,H b=some u->b≠a:=λb u q z=>by rw[z,ha]at q;cases q
 refine⟨I.ok,I.os,I.bare,⟨I.base.keep,I.base.slot,λb u q n x=>?_,I.base.there,λb xs q=>?_,λb u v q=>?_,λb ps q=>?_⟩,I.loc,I.cell,?_,λx c q=>?_,λp z=>?_,λb u q=>?_,I.len⟩
 ·rw[At (λz=>by rw[z,h0]at q;cases q)];exact I.base.free b u q n x
 ·have z:=I.base.tups b xs q;rw[At (ne _ _ z)];exact z
 ·have z:=I.base.frzs b u v q;rw[At (ne _ _ z)];exact z
 ·obtain⟨m,z⟩:=I.base.tbls b ps q;exact⟨m,by rw[At (ne _ _ z)];exact z⟩
 ·rw[At hL];exact I.free
 ·rw[At (hc x c q)];exact I.freeC x c q
 ·obtain⟨e,n,r⟩:=I.pin p z;exact⟨e,by rw[At (hp p z)];exact n,r⟩
 ·by_cases z:b=a
  ·subst z;rw[Ag]at q;cases q;exact new
  ·rw[At z]at q;exact(I.hok b u q).stay (λc v _ r=>r) (λc r=>by rw[At (ne _ _ r)];exact r) λc xs r=>by rw[At (ne _ _ r)];exact r
theorem Inv.gone{X:Cx}{pins:List (Addr×Obj)}{σ:St}{H:Hp}{s:Shared}{h':Heap}{n:Str}{i:Nat}{v:Option Value}{m:Str->Option Value}{tk:Nat}(I:Inv X pins σ H s)(hN:X.N.Nodup)(hi:X.N[i]?=some n)(hl:X.env.scope.names.lookup n=some .local)
  (hl0:∀(i:Nat)(x:Str)(v:V),X.N[i]?=some x->σ[i]?=some (some v)->Vis X.env.scope x->∃u,AY v u/\Look X.env s.heap m x u) (hn':h'.Ns X.env.locals (λx=>if x=n then v else m x)) (sb:Heap.SameBut X.env.locals s.heap h'):Inv X pins (σ.set i none) H {s with heap:=h',toks:=tk}:=by
 have neL:∀b o,X.s₀.heap.get? b=some o->b≠X.env.locals:=λb o e=>F3 (F4 (C8 e) I.ok.above);refine⟨I.ok,I.os,I.bare,⟨λb o e z hb hx=>?_,λb o e z hb hx=>?_,I.base.free,λb o e hx=>?_,I.base.tups,I.base.frzs,I.base.tbls⟩,⟨_,hn',λj y v' e1 e2 e3=>?_⟩,λy c e=>?_,I.free,I.freeC,λp hp=>?_,λb u q=>?_,by simpa using I.len⟩
 ·exact(sb.2 b (neL b o e)).trans (I.base.keep b o e z hb hx)
 ·obtain⟨sl,q⟩:=I.base.slot b o e z hb hx;exact⟨sl,(sb.2 b (neL b o e)).trans q⟩
 ·obtain⟨o',q⟩:=I.base.there b o e hx;exact⟨o',(sb.2 b (neL b o e)).trans q⟩
 ·by_cases hj:j=i
  ·subst hj;rw[T5 (by rw[I.len];exact(B3.mp hi).1)]at e2;cases e2
  ·rw[Z0 (A0c hj)]at e2;obtain⟨u,r,l⟩:=hl0 j y v' e1 e2 e3;refine⟨u,r,?_⟩;have ny:y≠n:=λz=>hj (MQ hN e1 (z▸hi));rcases l with ⟨k,q⟩|⟨k,c,q,z⟩
   ·exact .inl ⟨k,by simp[ny,q]⟩
   ·exact .inr ⟨k,c,q,z.sameBut sb (I.cne y c q)⟩
 ·obtain⟨w',z⟩:=I.cell y c e;exact⟨w',z.sameBut sb (I.cne y c e)⟩
 ·obtain⟨e,z,ne,r⟩:=I.pin p hp;exact⟨(sb.2 p.1 ne).trans e,z,ne,r⟩
 ·have ne:∀c v,H c=some v->c≠X.env.locals:=λc v q z=>by rw[z,I.free]at q;cases q
  refine(I.hok b u q).stay (λc v hc r=>(sb.2 c ?_).trans r) (λ_ z=>z) λ_ _ z=>z;rcases hc with rfl|hc
  ·exact ne _ _ q
  ·exact ne _ _ hc
theorem Vm{K:PySem.W.Frag}{M:Model}{A:Around}{E:Value->Shared->Prop}{s:Shared}{e C D:Addr}{oe:Obj}{Q:Bool->Shared->Prop}(X:K.In s.heap)(hC:GW K C)(hD:GW K D)(hs:mroIn K D (.ref C)=some true)
  (he:s.heap.get? e=some oe) (hcls:oe.cls=.ref D) (hq:Q true s):wpAny M A (excMatches (.ref e) (.ref C)) Q E s:=by
 obtain⟨h,g,d,t,os⟩:=s;obtain⟨bm,N,nm,qn,bs,hd,sn,sub,ab,col,dd,k0,k1,k2,k3,k5,mN,hO,hN,hi,hT,hM⟩:=Qn X hD;have hbase:bm.contains (.type "BaseException")=true:=hT.hasType A4;by_cases z:D=C
 ·subst z;exact wpAny_excMatches_sub_self hO he hcls hbase hq
 ·obtain⟨bm',N',nm',qn',bs',hd',sn',sub',ab',col',dd',k0',k1',k2',k3',k5',mN',hO',hN',hi',hT',hM'⟩:=Qn X hC;have hcB:(Value.ref C::bm').contains (.type "BaseException")=true:=by rw[List.contains_cons,hT'.hasType (X:="BaseException") (b:=true) A4,Bool.or_true]
  have hcC:(Value.ref D::bm).contains (.ref C)=true:=K3 ((hM (.ref C)).symm.trans hs);have f:=tc_notTuple;unfold excMatches
  repeat (first
   | (with_reducible refine wpAny_loadPart_at he ?_;rw[hcls])
   |with_reducible refine wpAny_loadPart_at hO' ?_
   | (with_reducible refine wpAny_isSubtype_exc hO' ?_;rw[hcB])
   | (with_reducible refine wpAny_isSubtype_exc hO ?_;rw[hcC])
   |wp_step)
  exact hq
section
variable{X:Cx}{C:Addr}{x n:Str}{np hpos pos:Pos}{i:Nat}{b₀:Stmt}{suite body:List Stmt}{S:St->Prop}{tb:XK->TS}{th:TS}
theorem land{pins pins':List (Addr×Obj)}{σ:St}{H1:Hp}{s1 s':Shared}{e:Value}{E1:XK}{Q:Flow->Shared->Prop}{nm:Option Str}{xe1:Value->Shared->Prop}
  (hstk:X.stack=X.env::X.outer) (hfr:X.env.frame=some X.env.locals) (hex:X.ex=[]) (hg:Gl X x) (hm:X.mg x=some (.ref C)) (hC:GW X.K C) (hcalm:X.calm=true)
  (hE1:∀cls d H',E1 cls d H'->∃D,cls=.ref D/\GW X.K D/\mroIn X.K D (.ref C)=some true)
  (J0:Inv {X with xe:=xe1,pn:=X.pn++pins} pins' σ H1 s1) (hcx:CXE X.prog X.w X.stack H1 s1 E1 e s')
  (go:∀(a D:Addr)(H':Hp)(s2:Shared),e=.ref a->E1 (.ref D) none H'->H' a=none->LP a D s2.heap->X.s₀.heap.get? a=none->X.base.get? a=none->X.env.locals≠a->(∀x c,X.env.cells.lookup x=some c->c≠a) ->
   (∀p,p∈X.pn++pins->p.1≠a)->(∀b,b∈X.fs->b≠a)->Inv X pins σ H' s2 ->
   (∀(Q':Unit->Shared->Prop)(E':Value->Shared->Prop),(∀s3,Inv X pins σ H' s3->LP a D s3.heap->Q' () s3)->wpAny (model X.prog X.w) (X.A.mark (some (.ref a))) (setFlight (.ref a) none) Q' E' s2) ->
   codeAny (model X.prog X.w) (X.A.mark (some (.ref a))) (.handlers (.ref a) [.ExceptHandler none nm (b₀::suite) hpos] X.env) (λr s₂=>match r with
     |.ok f=>(match nm with
      |none=>Q f s₂
      |some n=>wpAny (model X.prog X.w) X.A (do bindName X.env n .none;unbindBehindTheSuite X.env n hpos) (λ_ s₃=>Q f s₃) X.xe s₂)
     |.error x=>cameBackBy (model X.prog X.w) X.A X.env X.xe x s₂) s2)
  (hdb:(x==("__debug__" : Str))=false:=by decide) :
  wpAny (model X.prog X.w) X.A (noteFrame e X.env) (λ_ s₂=>wpAny (model X.prog X.w) X.A (setFlight e none) (λ_ s₃=>wpAny (model X.prog X.w) X.A (handleBy e X.env [.ExceptHandler (some (.Name x np)) nm (b₀::suite) hpos]) Q X.xe s₃) X.xe s₂) X.xe s':=by
 obtain⟨a,T,cls,H',rfl,os,bare,un,hok,fl,na,nT,ha,hT,hE⟩:=hcx;obtain⟨D,rfl,hD,hDC⟩:=hE1 _ _ _ hE;have hpin:∀p,p∈X.pn++pins->p.1≠a:=λp hp z=>by
  have q:=(J0.pin p (O0 _ hp)).1;rw[z,na]at q;cases q
 have I0:Inv X pins σ H1 s1:=J0.un_re J0.ok.hd rfl (λp hp=>O0 _ hp);have J:Inv X pins σ H' s':=I0.call' (ch:=[]) os un hok bare (λb z=>absurd z A5);have fr:=J.stack;have sub:∀b,b∈frs X.stack->b∈a::T::frs X.stack:=λb z=>.tail _ (.tail _ z);have hf2:X.A.frames=some (X.env::X.outer):=J.ok.frames.trans (by rw[hstk]);have free:∀b,b∈a::T::frs X.stack->H' b=none:=λb z=>by
  rcases C2.mp z with rfl|z
  ·exact ha
  ·rcases C2.mp z with rfl|z
   ·exact hT
   ·exact J.stkFree b z
 have g0:∀{b},s1.heap.get? b=none->X.s₀.heap.get? b=none:=λq=>I0.gn hex q;have out:∀b,b∈a::T::frs X.stack->b∈frs X.stack\/X.s₀.heap.get? b=none:=λb z=>by
  rcases C2.mp z with rfl|z
  ·exact .inr (g0 na)
  ·rcases C2.mp z with rfl|z
   ·exact .inr (g0 nT)
   ·exact .inl z
 have out1:∀b,b∈a::T::frs X.stack->b∈frs X.stack\/s1.heap.get? b=none:=λb z=>by
  rcases C2.mp z with rfl|z
  ·exact .inr na
  ·rcases C2.mp z with rfl|z
   ·exact .inr nT
   ·exact .inl z
 have over:∀h2,RP (a::T::frs X.stack) (frs X.stack) s'.heap h2->Inv X pins σ H' {s' with heap:=h2}:=λh2 nr =>
  I0.call' (s':={s' with heap:=h2}) (ch:=[]) os (Pc un nr out1 λb z=>.inl z) (Nj hok nr free) bare (λb z=>absurd z A5)
 have fr':=fr;rw[hstk]at fr';have efs:frs X.stack=frs (X.env::X.outer):=by rw[hstk]
 refine QU hf2 fr' hfr (.inr fl) λh4 T4 fl4 n4 nr4=>?_;rw[<-efs]at nr4;have kn:∀{h2},(∀b o,h4.get? b=some o->b≠T4->h2.get? b=some o)->RP (a::T::frs X.stack) (frs X.stack) s'.heap h2:=λkp=>by
  have ne:∀b o,s'.heap.get? b=some o->b≠T4:=λb o q y=>by
   rw[y,n4]at q;cases q
  refine⟨λb o q z=>kp b o (nr4.keep b o q z) (ne b o q),λb o m q=>?_,nr4.sub⟩;obtain⟨sl,e⟩:=nr4.slot b o m q;exact⟨sl,kp b _ e (ne b o q)⟩
 refine Jr (s:={s' with heap:=h4}) fl4 λh5 fw5 kp5=>?_;have J5:=over h5 (kn kp5);obtain⟨oe5,_,_,_,q5,c5,_⟩:=id fw5;have M5:Inv {X with A:=X.A.mark (some (.ref a)),calm:=false,xe:=λ_ _=>False,pn:=X.pn} pins σ H' {s' with heap:=h5}:=J5.re (λz=>nomatch z) rfl (λ_ z=>z);refine wpAny_handleBy_cons (codeAny_handlers_test (GK (X:={X with A:=X.A.mark (some (.ref a)),calm:=false,xe:=λ_ _=>False,pn:=X.pn}) M5 hg hm ?_ hdb)) (by intro q;cases q);refine Vm M5.kIn hC hD hDC q5 c5 ?_;have nL:∀{b o},s1.heap.get? b=some o->b≠a:=λq z=>by rw[z,na]at q;cases q
 refine go a D H' {s' with heap:=h5} rfl hE ha fw5.exc (g0 na) ?_ ?_ ?_ hpin ?_ J5 ?_
 ·cases q:X.base.get? a with
  |none=>rfl
  |some o =>
   have:=I0.bk a o q;rw[na]at this;cases this
 ·obtain⟨m,⟨o,_,_,q,_⟩,_⟩:=I0.loc;exact nL q
 ·intro y c q;obtain⟨v,o,ho,_⟩:=I0.cell y c q;exact nL ho
 ·intro b hb;obtain⟨_,o,ho,_⟩:=I0.funs.mem hb;exact nL ho
 ·intro Q' E' hk;refine Jr (s:={s' with heap:=h5}) fw5 λh6 fw6 kp6=>hk _ (over h6 (kn λb o q y=>kp6 b o (kp5 b o q y) y)) fw6.exc
abbrev Oj(X:Cx)(pins:List (Addr×Obj))(D:JU)(hs:List ExceptHandler):Value->Shared->Prop:=λe s₁ =>
 wpAny (model X.prog X.w) X.A (noteFrame e X.env) (λ_ s₂=>wpAny (model X.prog X.w) X.A (setFlight e none) (λ_ s₃=>wpAny (model X.prog X.w) X.A (handleBy e X.env hs) (SP X pins D) X.xe s₃) X.xe s₂) X.xe s₁
def tTry(K:PySem.W.Frag)(C:Addr)(S:St->Prop)(tb:XK->TS)(th:TS):TS:=λD σ H =>
 tb (λcls _ H'=>∃D',cls=.ref D'/\GW K D'/\mroIn K D' (.ref C)=some true/\∀σ',S σ'->th D σ' H') D σ H
theorem ps_try(hstk:X.stack=X.env::X.outer)(hfr:X.env.frame=some X.env.locals)(hex:X.ex=[])(hcalm:X.calm=true)(hg:Gl X x)(hm:X.mg x=some (.ref C))(hC:GW X.K C)
  (hb:∀(xe:Value->Shared->Prop)(pn:List (Addr×Obj))(E1:XK),JT (CXE X.prog X.w) {X with xe:=xe,pn:=pn} E1 S->PSs {X with xe:=xe,pn:=pn} body (tb E1))
  (hth:∀(a:Addr),PSs {X with A:=X.A.mark (some (.ref a)),calm:=false,xe:=λ_ _=>False,pn:=X.pn} (b₀::suite) th) (hdb:(x==("__debug__" : Str))=false:=by decide) :
  PS X (.Try body [.ExceptHandler (some (.Name x np)) none (b₀::suite) hpos] [] [] pos) (tTry X.K C S tb th):=by
 intro pins s σ H D I h;refine wpAny_Try_except ?_;have I1:Inv {X with xe:=Oj X pins D [.ExceptHandler (some (.Name x np)) none (b₀::suite) hpos],pn:=X.pn++pins} [] σ H s :=
  I.re I.ok.hd rfl (λp z=>by simpa using z)
 refine A0g (hb (Oj X pins D [.ExceptHandler (some (.Name x np)) none (b₀::suite) hpos]) (X.pn++pins) _ ?pass [] s σ H D I1 h) (λf s1 q=>?_) (λe s1 q=>q)
 case pass =>
  intro pins' σ' H1 s1 e s' hS J hcx;refine land (pins:=pins) hstk hfr hex hg hm hC hcalm (λcls d H' ⟨D',z,a,b,_⟩=>⟨D',z,a,b⟩) J hcx (λa D' H' s2 _ hE ha ho _ _ _ _ _ _ J5 hset=>?_) hdb;obtain⟨D2,z,_,_,k⟩:=hE;refine codeAny_handlers_suite (hset _ _ λs3 J3 L3=>?_);have J6:Inv {X with A:=X.A.mark (some (.ref a)),calm:=false,xe:=λ_ _=>False,pn:=X.pn} pins σ' H' s3:=J3.re (λz=>nomatch z) rfl (λ_ z=>z);refine A0g (hth a pins s3 σ' H' D J6 (k σ' hS)) (λf s4 q=>?_) (λ_ _ z=>z.elim);exact q.map fun σ4 H4 (J4:Inv {X with A:=X.A.mark (some (.ref a)),calm:=false,xe:=λ_ _=>False,pn:=X.pn} pins σ4 H4 s4)=>J4.un_re J3.ok.hd rfl (λ_ z=>z)
 have back:∀σ H,Inv {X with xe:=Oj X pins D [.ExceptHandler (some (.Name x np)) none (b₀::suite) hpos],pn:=X.pn++pins} [] σ H s1->Inv X pins σ H s1 :=
  fun σ H J=>J.un_re J.ok.hd rfl (λp z=>by simpa using z)
 cases f with
 |next=>exact A5a (q.map back)
 |brk=>exact q.map back
 |cont=>exact q.map back
 |ret u=>exact q.map back
def tTryAsH(K:PySem.W.Frag)(C:Addr)(i:Nat)(S:St->Prop)(tb:XK->TS)(th:Addr->TS):TS:=λD σ H =>
 tb (λcls _ H'=>∃D',cls=.ref D'/\GW K D'/\mroIn K D' (.ref C)=some true/\∀σ' a,S σ'->H' a=none ->
  th a {nx:=fun σ2 H2=>D.nx (σ2.set i none) H2,rt:=D.rt,bk:=fun σ2 H2=>D.bk (σ2.set i none) H2,ct:=fun σ2 H2=>D.ct (σ2.set i none) H2} (σ'.set i (some (.ref a))) (upd H' a (JM a D'))) D σ H
theorem Ou{th:Addr->TS}(hstk:X.stack=X.env::X.outer)(hfr:X.env.frame=some X.env.locals)(hex:X.ex=[])(hcalm:X.calm=true)(hg:Gl X x)(hm:X.mg x=some (.ref C))(hC:GW X.K C)(hN:X.N.Nodup)(hi:X.N[i]?=some n)(hl:X.env.scope.names.lookup n=some .local)
  (hb:∀(xe:Value->Shared->Prop)(pn:List (Addr×Obj))(E1:XK),JT (CXE X.prog X.w) {X with xe:=xe,pn:=pn} E1 S->PSs {X with xe:=xe,pn:=pn} body (tb E1))
  (hth:∀(a:Addr),PSs {X with A:=X.A.mark (some (.ref a)),calm:=false,xe:=λ_ _=>False,pn:=X.pn} (b₀::suite) (th a)) (hdb:(x==("__debug__" : Str))=false:=by decide) :
  PS X (.Try body [.ExceptHandler (some (.Name x np)) (some n) (b₀::suite) hpos] [] [] pos) (tTryAsH X.K C i S tb th):=by
 intro pins s σ H D I h;refine wpAny_Try_except ?_;have I1:Inv {X with xe:=Oj X pins D [.ExceptHandler (some (.Name x np)) (some n) (b₀::suite) hpos],pn:=X.pn++pins} [] σ H s :=
  I.re I.ok.hd rfl (λp z=>by simpa using z)
 refine A0g (hb (Oj X pins D [.ExceptHandler (some (.Name x np)) (some n) (b₀::suite) hpos]) (X.pn++pins) _ ?pass [] s σ H D I1 h) (λf s1 q=>?_) (λe s1 q=>q)
 case pass =>
  intro pins' σ' H1 s1 e s' hS J hcx;refine land (pins:=pins) hstk hfr hex hg hm hC hcalm (λcls d H' ⟨D',z,a,b,_⟩=>⟨D',z,a,b⟩) J hcx (λa D' H' s2 _ hE ha ho g0 gb nL nC nP nF J5 hset=>?_) hdb;obtain⟨D2,z,_,_,k⟩:=hE;cases z;refine codeAny_handlers_suite_as (hset _ _ λs3 J3 L3=>?_);have J4:=J3.track (o:=JM a D') ha g0 gb nL nC nP nF (Yj L3);refine Mw J4 hN hi (.inl hl) (v:=.ref a) rfl (λs4 K4=>?_) (.inr hl);have J6:Inv {X with A:=X.A.mark (some (.ref a)),calm:=false,xe:=λ_ _=>False,pn:=X.pn} pins (σ'.set i (some (.ref a))) (upd H' a (JM a D')) s4:=K4.re (λz=>nomatch z) rfl (λ_ z=>z);refine A0g (hth a pins s4 _ _ _ J6 (k σ' a hS ha)) (λf s5 q=>?_) (λ_ _ z=>z.elim);have gone:∀{σ5:St}{H5:Hp},Inv {X with A:=X.A.mark (some (.ref a)),calm:=false,xe:=λ_ _=>False,pn:=X.pn} pins σ5 H5 s5->∀{Q:Unit->Shared->Prop},(∀s6,Inv X pins (σ5.set i none) H5 s6->Q () s6) ->
    wpAny (model X.prog X.w) X.A (do bindName X.env n .none;unbindBehindTheSuite X.env n hpos) Q X.xe s5:=λ{σ5 H5} J7 Q hq=>by
   have J8:Inv X pins σ5 H5 s5:=J7.un_re J3.ok.hd rfl (λ_ z=>z);obtain⟨m,hn,hl0⟩:=id J8.loc;exact wpAny_nameGoes_keeps hl hn (by rw[J8.ok.kind];rfl) λh' v hn' sb=>hq _ (J8.gone hN hi hl hl0 hn' sb)
  cases f with
  |next=>obtain⟨σ5,H5,J7,q⟩:=q;exact gone J7 λs6 J8=>⟨_,H5,J8,q⟩
  |brk=>obtain⟨σ5,H5,J7,q⟩:=q;exact gone J7 λs6 J8=>⟨_,H5,J8,q⟩
  |cont=>obtain⟨σ5,H5,J7,q⟩:=q;exact gone J7 λs6 J8=>⟨_,H5,J8,q⟩
  |ret u=>obtain⟨v,σ5,H5,J7,r,q⟩:=q;exact gone J7 λs6 J8=>⟨v,_,H5,J8,r,q⟩
 have back:∀σ H,Inv {X with xe:=Oj X pins D [.ExceptHandler (some (.Name x np)) (some n) (b₀::suite) hpos],pn:=X.pn++pins} [] σ H s1->Inv X pins σ H s1 :=
  fun σ H J=>J.un_re J.ok.hd rfl (λp z=>by simpa using z)
 cases f with
 |next=>exact A5a (q.map back)
 |brk=>exact q.map back
 |cont=>exact q.map back
 |ret u=>exact q.map back
end
structure RN(k:Nat)(A:Around):Prop where
 dp:A.depth+3*k+5<recursionLimit
 un:A.units+16*k+200<cLine
theorem BT.marked{k:Nat}{A:Around}(r:BT k A)(e:Option Value):RN k (A.mark e):=⟨r.dp,r.un⟩
structure Uv(P:Program)(w:World)(K:PySem.W.Frag)(mg:Str->Option Value)(base:Heap)(k:Nat)(f:Addr)(fd:FuncData)(ps:List Str)(sp:Sp):Prop where
 len:∀vs H Q E,sp vs H Q E->vs.length=ps.length
 run:∀(A:Around)(outer:List Env)(s:Shared)(H:Hp)(args:Args)(us:List Value)(vs:List V)(Q:VK),RN k A->LC P w K mg base A outer s H->BindsTo s fd args (ps.zip us)->AN vs us->sp vs H Q E0 ->
  codeAny (model P w) A (.call (.ref f) args) (CR CX0 outer P w H s Q E0) s
section
variable{P:Program}{w:World}{K:PySem.W.Frag}{mg:Str->Option Value}{base:Heap}
theorem Fun.okH{x qual:Str}{st:Stmt}{f:Addr}{fd:FuncData}{N ps:List Str}{k:Nat}{sp:Sp}(F:Fun K x qual st f fd)(S:Ap N ps (Ai st))(len:∀vs H Q E,sp vs H Q E->vs.length=ps.length)
  (hbody:∀(cdv:Value)(A:Around)(outer:List Env)(s:Shared)(H:Hp)(vs:List V)(Q:VK),RN k (A.deeper (envOfC qual (Ai st) s.heap.objs.size f cdv))->sp vs H Q E0 ->
   ∃t,PSs {Ix CX0 P w K mg base N qual (Ai st) f cdv A outer s H E0 with calm:=false,xe:=λ_ _=>False} (Fu st) t/\t {nx:=λ_ H'=>Q .non H',rt:=Q} (Fn N vs) H):Uv P w K mg base (k+1) f fd ps sp:=by
 obtain⟨oc,od,kV,doc,pm,an,cdv,ct,osl,rfl,lk,hcd⟩:=F.ex;refine⟨len,λA outer s H args us vs Q hr e0 hb r hsp=>?_⟩;have hl:=len _ _ _ _ hsp;have KX:K.In s.heap:=e0.mod.kin.keeps λb o e=>(e0.bs b o e).1;have lim:s.heap.NoLimit:=e0.mod.nolimit.keeps λb o e=>(e0.bs b o e).1;refine codeAny_call_function (by have:=hr.dp;lia) (KX _ _ lk) rfl S.co S.gen rfl (codeRec_of KX hcd) (hb _ _ _ _ ?_);refine wpAny_newFunctionEnv_cells S.kind (λ⟨y,v⟩ hy=>?_) λenv he s1 z=>?_
 ·rcases S.par y (Y6 hy).1 with q|q
  ·exact .inl q
  ·exact .inr ⟨q,A6h _ _ _ (.inl q)⟩
 subst he;refine⟨lim.keeps z.toInCall.keep,codeAny_func ?_⟩;obtain⟨t,ht,hq⟩:=hbody cdv A outer s H vs Q ⟨by have:=hr.dp;show A.depth+1+3*k+5<_;lia,by have:=hr.un;show A.units+3+16*k+200<_;lia⟩ hsp;have I:Inv (Ix CX0 P w K mg base N qual (Ai st) f cdv {A with handled:=none} outer s H E0) [] (Fn N vs) H s1:=OF S rfl ⟨e0.frames,e0.mod,e0.bs,e0.bsz,e0.funs,e0.frf,e0.hok,e0.bare⟩ hl r z;have J:Inv {Ix CX0 P w K mg base N qual (Ai st) f cdv A outer s H E0 with calm:=false,xe:=λ_ _=>False} [] (Fn N vs) H s1:=I.re (A2:=A.deeper (envOfC qual (Ai st) s.heap.objs.size f cdv)) (c2:=false) (λz=>nomatch z) rfl (λ_ z=>z);refine A0g (ht [] s1 (Fn N vs) H _ J hq) (λfl s' hs=>?_) λ_ _ z=>z.elim;cases fl with
 |ret u =>
  obtain⟨v,σ',H',J,rv,q⟩:=hs;exact⟨v,H',J.os,J.bare,J.base,J.hok,rv,q⟩
 |next =>
  obtain⟨σ',H',J,q⟩:=hs;exact⟨.non,H',J.os,J.bare,J.base,J.hok,rfl,q⟩
 |brk=>obtain⟨_,_,_,q⟩:=hs;exact q.elim
 |cont=>obtain⟨_,_,_,q⟩:=hs;exact q.elim
end
section
variable{X:Cx}{k:Nat}{f:Addr}{fd:FuncData}{ps:List Str}{sp:Sp}{x:Str}{p pos:Pos}{e:Expr}{es:List Expr}{t:TA}
theorem Ws(F:Uv X.prog X.w X.K X.mg X.base k f fd ps sp)(hr:RN k X.A)(hg:Gl X x)(hm:X.mg x=some (.ref f))(hk:keepIn X.K (.ref f)=true)(hb:BN X.K fd ps [])
  (ha:PA X (e::es) t) (hdb:(x==("__debug__" : Str))=false:=by decide) (he:starEach (e::es) X.env=(false,eval e X.env)::starEach es X.env:=by rfl) (hpl:(backTo pos (starEach es X.env)).any (·.1)=false:=by rfl) :
  PE X (.Call (.Name x p) (e::es) [] pos) (Tr sp [] E0 t):=by
 intro pins s σ H Q I h;refine A1h (GK I hg hm ?_ hdb);refine A5f (h₀:=X.base) I.ok.mod.kin hk ?_ he hpl;refine thn (ha pos pins s σ H _ I h) λus s1 ⟨vs,H1,I1,r,q⟩=>⟨I1.kIn,?_⟩
 have q:sp (vs++[]) H1 Q E0:=q;rw[M2]at q;have hl:us.length=ps.length:=r.length.symm.trans (F.len _ _ _ _ q);have hb1:=hb s1 us I1.kIn (by rw[M2];exact hl);rw[M2]at hb1;refine A6c (A4g (F.run X.A X.stack s1 H1 ⟨us,[]⟩ us vs Q hr I1.env0 hb1 r q) ?_);intro r s' hq;rcases r with e|(_|_|_|_)
 all_goals first
  |exact I1.after hq
  |exact hq.elim
end
section
variable{X:Cx}{tg:Expr}
def Its(x:Str):It:=⟨λi _=>i<x.cps.size,λi H v H'=>H'=H/\∃c,x.cps[i]?=some c/\v=.str ⟨#[c]⟩,λi _=>i=x.cps.size⟩
theorem QA{P:Program}{w:World}{K:PySem.W.Frag}(it:Addr)(x:Str)(t:Tok)(T:String)(hn:["enumerate","zip","dict_itemiterator","dict_reverseitemiterator","odict_iterator","itertools.zip_longest","itertools.pairwise"].contains T=false)
  (W:∀A:Around,A.handled=none->Walks P w A it [it] [it] x.cps.size (SignAt x) (λi h=>h.IsStrIter it T x t i))
  (hself:∀(A:Around)(i:Nat)(s:Shared)(Q:Value->Shared->Prop)(E:Value->Shared->Prop),s.heap.IsStrIter it T x t i->Q (.ref it) s->wpAny (model P w) A (pyIter (.ref it)) Q E s):Qw P w K tg (Its x) [it] it (λi h=>h.IsStrIter it T x t i) where
 mem:=by simp
 obj:=λi h st b hb=>by
  have e:b=it:=by simpa using hb
  subst e;obtain⟨o,e,c,d⟩:=st;exact⟨o,e,λv z=>by rw[d]at z;cases z⟩
 keep:=λi h h' ⟨o,e,r⟩ k=>⟨o,k it A5 o e,r⟩
 item:=by
  intro X hP hw hK hc i pins s σ H E I hf st hg;subst hP hw hK;obtain⟨f0,f1,f2,f3,f4,f5⟩:=hf it A5;refine(W X.A (I.ok.hd hc)).item i s _ _ hg st λv h' tk hv st' kk=>?_;obtain⟨c,u,hc',rfl⟩:=hv;have I1:Inv X pins σ H {s with heap:=h',toks:=tk}:=I.turned (λb o hb e=>kk b o (by simpa using hb) e) f0 f1 f3 f4 f5;obtain⟨o,e,oc,od⟩:=id st';exact⟨_,rfl,Rr (s:={s with heap:=h',toks:=tk}) e oc od hn ⟨.str ⟨#[c]⟩,H,I1,⟨u,rfl⟩,⟨rfl,c,hc',rfl⟩,st',λb hb=>(hf b hb).1⟩⟩
 done:=by
  intro X hP hw hK hc i pins s σ H E I hf st hg;subst hP hw hK;obtain⟨f0,f1,f2,f3,f4,f5⟩:=hf it A5;have z:i=x.cps.size:=hg;subst z;exact(W X.A (I.ok.hd hc)).done s _ _ st λh' tk kk=>⟨rfl,I.turned (λb o hb e=>kk b o (by simpa using hb) e) f0 f1 f3 f4 f5⟩
 self:=hself
def iStr(tl:TE):TI:=fun σ H R=>tl σ H λv H1=>∃x,v=.str x/\R (Its x) H1
theorem Wg{l:Expr}{tl:TE}(hl:PE X l tl):PI X tg l (iStr tl):=by
 intro pins s σ H R I h;refine thn (hl pins s σ H _ I h) λv s1 ⟨y,H1,I1,r1,q1⟩=>?_;obtain⟨x,rfl,q⟩:=q1;obtain⟨t,rfl⟩:=r1;have fp:∀b,b∈[s1.heap.objs.size]->Dc X pins H1 b:=λb hb=>by
  have e:b=s1.heap.objs.size:=by simpa using hb
  subst e;exact I1.fpOk (B1 _) (I1.hok.fresh (B1 _))
 cases ha:x.cps.all (· < 128)with
 |true =>
  refine wpAny_pyIter_ascii ha ?_;refine⟨s1.heap.objs.size,[s1.heap.objs.size],_,_,H1,rfl,I1.kept (t':=s1.toks) λb o e=>B5 _ e,QA _ x t "str_ascii_iterator" A4 (λA hA=>Walks.strAscii hA _ x t) (λ_ _ _ _ _ st h=>wpAny_pyIter_striter_ascii st h),⟨_,D0 _ rfl,rfl,rfl⟩,fp,q⟩
 |false =>
  refine wpAny_pyIter_wide ha ?_;refine⟨s1.heap.objs.size,[s1.heap.objs.size],_,_,H1,rfl,I1.kept (t':=s1.toks) λb o e=>B5 _ e,QA _ x t "str_iterator" A4 (λA hA=>Walks.strWide hA _ x t) (λ_ _ _ _ _ st h=>wpAny_pyIter_striter_wide st h),⟨_,D0 _ rfl,rfl,rfl⟩,fp,q⟩
theorem for_str{x:Str}{g:TG}{tb:TS}{D:JU}{σ:St}{H:Hp}(Pv:Nat->St->Hp->Prop)(h0:Pv 0 σ H)
  (hs:∀i c σ H,x.cps[i]?=some c->Pv i σ H->g (.str ⟨#[c]⟩) σ H fun σ2 H2=>tb {D with nx:=Pv (i+1),ct:=Pv (i+1),bk:=D.nx} σ2 H2) (hd:∀σ H,Pv x.cps.size σ H->D.nx σ H) :
  ∃W:Nat->Nat->St->Hp->Prop,(∃m,W 0 m σ H)/\∀i m σ H,W i m σ H ->
   ((Its x).stop i H/\D.nx σ H)\/((Its x).go i H/\∃N:St->Hp->Prop,(∀σ' H',N σ' H'->∃m',m'<m/\W (i+1) m' σ' H')/\∀v H',(Its x).yld i H v H'->g v σ H' fun σ2 H2=>tb {D with nx:=N,ct:=N,bk:=D.nx} σ2 H2):=by
 refine⟨λi m σ H=>m=x.cps.size-i/\i<=x.cps.size/\Pv i σ H,⟨x.cps.size,by simp,G9 _,h0⟩,?_⟩;rintro i m σ H ⟨rfl,hi,p⟩;by_cases hlt:i<x.cps.size
 ·refine .inr ⟨hlt,Pv (i+1),fun σ' H' p'=>⟨x.cps.size-(i+1),by lia,rfl,hlt,p'⟩,λv H' y=>?_⟩;obtain⟨e,c,hc,rfl⟩:=y;subst e;exact hs i c σ _ hc p
 ·have e:i=x.cps.size:=by lia
  subst e;exact .inl ⟨rfl,hd σ H p⟩
def rSlS:V->Option Int->Option Int->Hp->VK->Prop:=λx lo hi H Q=>∃z,x=.str z/\z.length<=sizeLine/\Q (.str (Txt.slice z lo hi)) H
theorem sl_str:SlR X rSlS:=by
 intro pins s σ H x v vl vu lo hi sl Q I rx hs pl pu h;obtain⟨z,rfl,hz,q⟩:=h;obtain⟨t,rfl⟩:=rx;refine⟨"str",_,F.slot_str_getitem.lookup,typeIs_str _ _ _,?_⟩;obtain⟨o,ho,hc,hd⟩:=hs;have fin:∀t' k,EP X pins σ Q (.str (Txt.slice z lo hi) t') {s with toks:=k}:=λt' k=>⟨.str _,H,I.tok k,⟨t',rfl⟩,q⟩
 have le:=C6 (Txt.slice_le z lo hi) hz;cases pl with
 |none =>
  cases pu with
  |none=>exact A5c (l:=none) (u:=none) (st:=none) ⟨o,ho,hc,hd⟩ rfl (A8b ⟨le,fin⟩)
  |int j uj=>exact A5c (l:=none) (u:=some (j,uj)) (st:=none) ⟨o,ho,hc,hd⟩ rfl (A8b ⟨le,fin⟩)
 |int i ui =>
  cases pu with
  |none=>exact A5c (l:=some (i,ui)) (u:=none) (st:=none) ⟨o,ho,hc,hd⟩ rfl (A8b ⟨le,fin⟩)
  |int j uj=>exact A5c (l:=some (i,ui)) (u:=some (j,uj)) (st:=none) ⟨o,ho,hc,hd⟩ rfl (A8b ⟨le,fin⟩)
theorem NY:MtR X "str.startswith" (λx xs H Q=>∃a b,x=.str a/\xs=[.str b]/\Q (.bl (Txt.startswith a b)) H):=by
 intro pins s σ H x xs v us Q I rx r h;obtain⟨a,b,rfl,rfl,q⟩:=h;obtain⟨t,rfl⟩:=rx;cases r with
 |cons r1 r2 =>
  cases r2;obtain⟨u,rfl⟩:=r1;exact SC.startswith ⟨.bl _,H,I,rfl,q⟩
theorem Jc:Ew X (.type "int") (λxs H Q=>∃x n,xs=[.str x]/\PySem.intText? x=some n/\x.length<=640/\Q (.int n) H):=by
 intro pins s σ H xs us Q I r h;obtain⟨x,n,rfl,hn,hl,q⟩:=h;cases r with
 |cons r1 r2 =>
  cases r2;obtain⟨t,rfl⟩:=r1;exact PySem.W.KIN.call_text hn hl ⟨.int n,H,I.tok _,⟨_,rfl⟩,q⟩
theorem YA(hc:X.calm=true):Ew X (.builtin "all") (λxs H Q=>∃(p:Addr)(bs:List Bool),xs=[.ref p]/\SqL X.K H p (bs.map V.bl)/\Q (.bl (bs.all id)) H):=by
 intro pins s σ H xs us Q I r h;obtain⟨p,bs,rfl,hq,q⟩:=h;cases r with
 |cons r1 r2 =>
  cases r2;cases(show _=Value.ref p from r1);obtain⟨its,rv,pl,hz⟩:=I.list hq;have hne:p≠s.heap.objs.size:=F3 (by obtain⟨o,n,e,_⟩:=pl;exact C8 e);refine call_all_walk (A4c pl.isList ?_);have vals:∀(i:Nat) v,its[i]?=some v->∃b,bs[i]?=some b/\v=.bool b:=λi v e=>by
   cases eb:bs[i]? with
   |none =>
    have:its[i]?=none:=rv.none_of (by rw[B7,eb];rfl);rw[e]at this;cases this
   |some b =>
    obtain⟨u,hu,ru⟩:=rv.get (i:=i) (x:=V.bl b) (by rw[B7,eb];rfl);rw[e]at hu;cases hu;exact⟨b,rfl,ru⟩
  refine⟨s.heap.objs.size,_,_,_,_,_,λi=>bs.getD i true,rfl,Walks.list (A:=X.A.in1) (I.ok.hd hc) s.heap.objs.size p hne its.toArray,⟨⟨_,D0 _ rfl,rfl,rfl⟩,?_⟩,?_,?_⟩
  ·exact pl.isList.at λo e=>B5 _ e
  ·intro i v s2 Q2 E2 hP hQ;obtain⟨b,eb,rfl⟩:=vals i v (by simpa using hP);have e2:bs.getD i true=b:=by rw[C0,eb];rfl
   have hQ:Q2 (bs.getD i true) s2:=hQ;rw[e2]at hQ;exact A1c hQ
  ·intro h' tk kk;have I2:Inv X pins σ H {s with heap:=h',toks:=tk}:=I.kept λb o e=>kk b o (by intro z;exact F3 (C8 e) (by simpa using z)) (B5 _ e);have len:its.toArray.size=bs.length:=by rw[D6,<-rv.length,A9]
   have e3:(List.range its.toArray.size).all (λi=>bs.getD i true)=bs.all id:=by
    rw[len,O2,N7,N7];constructor
    ·intro z b hb;obtain⟨i,hi,e⟩:=Y9.mp hb;have:=z i (M0.mpr hi);rw[C0,C3 hi,e]at this;exact this
    ·intro z i hi;have hi':=M0.mp hi;rw[C0,C3 hi'];exact z _ (N6 hi')
   rw[e3];exact⟨.bl _,H,I2,rfl,q⟩
end
section
variable{X:Cx}{iter:Expr}{ti:TE}{x G:Str}{px px1 px2 cpos pos:Pos}{scope:Scope}{g:Str}
end
structure RT(K:PySem.W.Frag)(D:Addr):Prop where
 hd:hasDictIn K D=true
 ga:findIn K (.ref D) "__getattribute__" = some (some (.builtin "BaseException.__getattribute__"))
 gt:findIn K (.ref D) "__getattr__" = some none
 cl:findIn K (.ref D) "__class__" = some (some (.builtin "object.__class__"))
 sp:specialIn K (.builtin "object.__class__") "__get__" = some (some (.builtin "getset_descriptor.__get__"))
 tk:takesIn K (.builtin "object.__class__")=some true
 mo:mroIn K D (.type "object")=some true
 mb:mroIn K D (.type "BaseException")=some true
section
variable{K:PySem.W.Frag}{prog:Program}{w:World}{A:Around}{E:Value->Shared->Prop}{s:Shared}{a D:Addr}{o:Obj}
open PySem.W Builtin Builtin.ObjectAttr Builtin.Getset_descriptor
theorem Ys{M:Model}{h:Heap}(X:K.In h)(f:RT K D):Looks M h (find (.ref a) (.ref D) "__class__") (.bind (.builtin "getset_descriptor.__get__") (.builtin "object.__class__")) :=
 (looks_findIn X f.cl).andThen ((looks_specialIn X f.sp).andThen ((show Looks M h (dataDescriptor? (some (.builtin "object.__class__")) (some (.builtin "getset_descriptor.__get__"))) (some (.builtin "getset_descriptor.__get__",.builtin "object.__class__"))from(looks_takesIn X f.tk).andThen .now).andThen (Looks.tag .now)))
theorem exc_get{R:Result->Shared->Prop}{tp:Value}(X:K.In s.heap)(f:RT K D)(he:s.heap.get? a=some o)(hc:o.cls=.ref D)(hq:R (.ok (.ret (.ref D))) s) :
  codeAny (model prog w) A (.call (.builtin "getset_descriptor.__get__") ⟨[.builtin "object.__class__",.ref a,tp],[]⟩) R s:=by
 obtain⟨h,g,d,t,os⟩:=s;have L0:Looks (model prog w) h (typeOf (.ref a)) (.ref D):=hc▸(Looks.ld he).andThen .now;have L1:=looks_mroIn (M:=model prog w) X f.mo;refine codeAny_call_builtin KF.slot_gs.plain KF.entry_gs (KF.slot_gs.check _ _ _ _ _ _ _ _ KF.type_class (KF.args_gs _ _ _) ?_);unfold Builtin.«getset_descriptor.__get__» descrGet;rw[dga_obj];refine X5 (K5 ?_);unfold descrGetter descrCheckInstance descrNameAndClass isInstance;simp only[KF.owner_class]
 repeat lk
 refine⟨Code.quiet_builtin _ A1,codeAny_builtin KF.entry_class ?_⟩;unfold Builtin.«object.__class__» shownTypeOf
 repeat lk
 exact hq
theorem Vn{Q:Option Value->Shared->Prop}(X:K.In s.heap)(f:RT K D)(he:s.heap.get? a=some o)(hc:o.cls=.ref D)(hq:Q (some (.ref D)) {s with toks:=s.toks+1}) :
  wpAny (model prog w) A (getAttr? (.ref a) "__class__") Q E s:=by
 obtain⟨h,g,d,t,os⟩:=s;have L0:Looks (model prog w) h (typeOf (.ref a)) (.ref D):=hc▸(Looks.ld he).andThen .now;have L1:=looks_findIn (M:=model prog w) X f.ga;have L2:=looks_findIn (M:=model prog w) X f.gt;have L3:=Ys (M:=model prog w) (a:=a) X f;have L4:Looks (model prog w) h (isInstance (.ref a) (.type "BaseException")) true:=L0.andThen (looks_mroIn X f.mb);unfold getAttr? getAttrBy? getAttrBy;refine X5 (wpAny_mkText (X5 (A8g (A4a (X5 (L0.at (X5 (L1.at ?_))))))));dsimp only;have n0:(Value.builtin "BaseException.__getattribute__" == Value.builtin "object.__getattribute__")=false:=by decide +kernel
 rw[X8 (by rw[n0,Bool.and_false];exact D4)];unfold getAttrByItsOwn hookBefore;rw[X9 (by rfl)];refine X5 (L2.at ?_);refine X5 (A8g (A4a ?_));unfold callGetattribute;rw[X8 A4];unfold boundAndCalled;refine X5 (wpAny_of_eq (PySem.F.excAttr_ValueError.ga.bind (.ref a)) ?_);dsimp only;refine A6c (codeAny_call_builtin PySem.F.excAttr_ValueError.ga.plain PySem.F.entry_bexc_ga ?_);have hk:builtinKind "BaseException.__getattribute__" = some .slot:=by decide +kernel
 have hsp:splitId "BaseException.__getattribute__" = some ("BaseException","__getattribute__"):=by decide +kernel
 have har:=PySem.F.args_bexc_ga (.ref a) (.str "__class__" t);simp only[checkBuiltinCall,hk,hsp];refine X5 (L4.at ?_);rw[X8 A4];refine wpAny_of_eq (a:=()) har ?_;unfold Builtin.«object.__getattribute__»;dsimp only at L3
 repeat ((fail_if_success (with_reducible show wpAny _ _ (call _ _) _ _ _));lk)
 refine A6c (exc_get (s:=⟨h,g,d,t+1,os⟩) X f he hc ?_);dsimp only
 repeat lk
 exact hq
end
inductive TyX(K:PySem.W.Frag)(H:Hp):V->Value->Prop where
 |of {x:V} {t:Value} (h:LA K H x t):TyX K H x t
 |exc {a D:Addr} (e:H a=some (JM a D)) (f:RT K D):TyX K H (.ref a) (.ref D)
theorem Yf{K:PySem.W.Frag}{a D:Addr}(f:RT K D):PySem.W.KitX K (.ref a) (.ref D) (λh=>∃o,h.get? a=some o/\o.cls=.ref D/\notCls o=true) where
 ty:=λM h X ⟨o,e,c,_⟩=>c▸(PySem.W.Looks.ld e).andThen .now
 it:=λM h X _=>by
  obtain⟨cd,hc,_⟩:=any_some f.hd;unfold clsIn at hc;split at hc
  ·rename_i c' d' cd' sl' ho;intro A' Q' E' s' k q;unfold isType loadHead;exact X5 (wpAny_loadPart (k _ _ (X _ _ ho)) (K5 q))
  ·cases hc
 ne:=λh tp dd its n sl X htp=>by
  obtain⟨cd,hc,_⟩:=any_some f.hd;refine Bool.eq_false_iff.mpr λq=>?_;have e:D=tp:=Value.ref.inj (beq_iff_eq.mp q);subst e;unfold clsIn at hc;split at hc
  ·rename_i c' d' cd' sl' ho;have z:=(X _ _ ho).symm.trans htp;cases z
  ·cases hc
 ca:=λX ⟨o,e,c,_⟩ k=>Vn X f e c k
def clsV:V->Option Value
 |.ty n=>some (.type n)
 |.ref C=>some (.ref C)
 |_=>none
theorem Ba{X:Cx}:Ew X (.builtin "isinstance") (λxs H Q=>∃x c cv t b,xs=[x,c]/\clsV c=some cv/\TyX X.K H x t/\kitOne X.K t cv=some b/\Q (.bl b) H):=by
 intro pins s σ H xs us Q I r h;obtain⟨x,c,cv,t,b,rfl,hc,ty,hk,q⟩:=h;cases r with
 |@cons _ u _ _ rx rr =>
  cases rr with
  |@cons _ v _ _ rc rn =>
   cases rn;have ev:v=cv:=by
    cases c with
    |ty n=>cases hc;exact rc
    |ref C=>cases hc;exact rc
    |_=>cases hc
   subst ev;cases ty with
   |of ty=>exact Vh I rx ty hk λtk=>⟨.bl b,H,I.tok tk,rfl,q⟩
   |@exc a D e f =>
    cases(show u=Value.ref a from rx);obtain⟨p,_,_⟩:=(show Bl X.prog X.w H s.heap a (JM a D)from I.hok a _ e)
    exact A1a (Yf f) I.kIn (LP.not p) hk (λz=>nomatch z) λtk=>⟨.bl b,H,I.tok tk,rfl,q⟩
section
variable{X:Cx}{c:Expr}{a b:List Stmt}{tc:TT}{t u:TS}{pos:Pos}
end
def FN(env:Env)(a:List (Str×Addr))(x:Str×NameKind):List (Str×Addr):=if(x.2==NameKind.free)=true then(x.1,(env.cells.lookup x.1).getD 0)::a else a
def SX(env:Env)(l:List (Str×NameKind)):List (Str×Addr):=l.foldl (FN env) []
theorem SQ{α β:Type}{l:List α}{f:α->β->Sem (ForInStep β)}{g:β->α->β}(h:∀x∈l,∀b,f x b=pure (.yield (g b x))):∀b,forIn l b f=pure (l.foldl g b):=by
 induction l with
 |nil=>intro b;rfl
 |cons x l ih =>
  intro b;rw[List.forIn_cons,h x D7,pure_bind];exact ih (λy hy=>h y (B9 _ hy)) _
theorem Nt{scope:Scope}{env:Env}(h:∀y∈scope.names,y.2=.free->∃c,env.cells.lookup y.1=some c):closureFor scope env=pure (SX env scope.names):=by
 simp only[closureFor];rw[SQ (g:=FN env) (λx hx c=>by
  obtain⟨n,k⟩:=x;by_cases hk:k=.free
  ·subst hk;obtain⟨a,ha⟩:=h _ hx rfl;have e:cellOf env n=pure a:=by unfold cellOf;rw[show env.cells.lookup n=some a from ha]
   simp only[FN,beq_self_eq_true,if_true,e,show env.cells.lookup n=some a from ha,Option.getD_some];rfl
  ·have hb:(k==NameKind.free)=false:=by simpa using hk
   simp only[FN,hb,F8,A2b])]
 rfl
theorem OP(env:Env){y:Str}{c:Addr}:∀(l:List (Str×NameKind))(a:List (Str×Addr)),(l.foldl (FN env) a).lookup y=some c->a.lookup y=some c\/((y,NameKind.free)∈l/\c=(env.cells.lookup y).getD 0)
 |[],a,h=>.inl h
 | (n,k)::r,a,h=>by
  rw[Q6]at h;rcases OP env r _ h with z|⟨z,e⟩
  ·unfold FN at z;split at z
   ·rename_i hk;have hk':k=.free:=by simpa using hk
    rw[O8]at z;split at z
    ·rename_i hy;have hy':y=n:=by simpa using hy
     subst hy' hk';exact .inr ⟨D7,(K3 z).symm⟩
    ·exact .inl z
   ·exact .inl z
  ·exact .inr ⟨B9 _ z,e⟩
theorem RC(env:Env){y:Str}:∀(l:List (Str×NameKind))(a:List (Str×Addr)),(∃c,a.lookup y=some c)->∃c,(l.foldl (FN env) a).lookup y=some c
 |[],_,h=>h
 | (n,k)::r,a,h=>by
  rw[Q6];refine RC env r _ ?_;unfold FN;split
  ·rw[O8];split
   ·exact⟨_,rfl⟩
   ·exact h
  ·exact h
theorem SV(env:Env){y:Str}:∀(l:List (Str×NameKind))(a:List (Str×Addr)),(y,NameKind.free)∈l->∃c,(l.foldl (FN env) a).lookup y=some c
 |[],_,h=>by simp at h
 | (n,k)::r,a,h=>by
  rw[Q6];rcases C2.mp h with e|h
  ·cases e;refine RC env r _ ⟨(env.cells.lookup y).getD 0,?_⟩;unfold FN;simp only[beq_self_eq_true,if_true,O8]
  ·exact SV env r _ h
theorem MF{env:Env}{y:Str}:∀{names:List (Str×NameKind)},(∀z∈names,z.2≠.cell) ->
  ((names.map λ(n,k)=>if(k==NameKind.free && env.scope.kind==.function && env.kindOf n==some .cell)then(n,NameKind.cell)else(n,k)).lookup y=some .cell \/
   (names.map λ(n,k)=>if(k==NameKind.free && env.scope.kind==.function && env.kindOf n==some .cell)then(n,NameKind.cell)else(n,k)).lookup y=some .free)->(y,NameKind.free)∈names
 |[],_,h=>by simp at h
 | (n,k)::r,hc,h=>by
  have ih:=@MF env y r (λz hz=>hc z (B9 _ hz));have h':List.lookup y ((if(k==NameKind.free && env.scope.kind==.function && env.kindOf n==some .cell)=true then(n,NameKind.cell)else(n,k))::(r.map λ(n,k)=>if(k==NameKind.free && env.scope.kind==.function && env.kindOf n==some .cell)then(n,NameKind.cell)else(n,k)))=some .cell \/
   List.lookup y ((if(k==NameKind.free && env.scope.kind==.function && env.kindOf n==some .cell)=true then(n,NameKind.cell)else(n,k))::(r.map λ(n,k)=>if(k==NameKind.free && env.scope.kind==.function && env.kindOf n==some .cell)then(n,NameKind.cell)else(n,k)))=some .free:=h
  clear h;by_cases hb:(k==NameKind.free && env.scope.kind==.function && env.kindOf n==some .cell)=true
  ·rw[X9 hb]at h';have hk:k=.free:=by
    simp only[N8,A5h]at hb;exact hb.1.1
   simp only[O8]at h';cases hy:y==n with
   |true =>
    have:y=n:=by simpa using hy
    subst this hk;exact D7
   |false =>
    rw[hy]at h';exact B9 _ (ih h')
  ·rw[X8 hb]at h';simp only[O8]at h';cases hy:y==n with
   |true =>
    rw[hy]at h';have:y=n:=by simpa using hy
    subst this;rcases h' with z|z
    ·exact absurd (K3 z) (hc (y,k) D7)
    ·cases K3 z;exact D7
   |false =>
    rw[hy]at h';exact B9 _ (ih h')
theorem JA{env:Env}{y:Str}:∀{names:List (Str×NameKind)},names.lookup y=some .free ->
  ((names.map λ(n,k)=>if(k==NameKind.free && env.scope.kind==.function && env.kindOf n==some .cell)then(n,NameKind.cell)else(n,k)).lookup y=some .cell \/
   (names.map λ(n,k)=>if(k==NameKind.free && env.scope.kind==.function && env.kindOf n==some .cell)then(n,NameKind.cell)else(n,k)).lookup y=some .free)
 |[],h=>by simp at h
 | (n,k)::r,h=>by
  have ih:=@JA env y r;show List.lookup y ((if(k==NameKind.free && env.scope.kind==.function && env.kindOf n==some .cell)=true then(n,NameKind.cell)else(n,k))::(r.map λ(n,k)=>if(k==NameKind.free && env.scope.kind==.function && env.kindOf n==some .cell)then(n,NameKind.cell)else(n,k)))=some .cell \/
   List.lookup y ((if(k==NameKind.free && env.scope.kind==.function && env.kindOf n==some .cell)=true then(n,NameKind.cell)else(n,k))::(r.map λ(n,k)=>if(k==NameKind.free && env.scope.kind==.function && env.kindOf n==some .cell)then(n,NameKind.cell)else(n,k)))=some .free
  rw[O8]at h;by_cases hb:(k==NameKind.free && env.scope.kind==.function && env.kindOf n==some .cell)=true
  ·rw[X9 hb];simp only[O8];cases hy:y==n with
   |true=>exact .inl rfl
   |false=>rw[hy]at h;exact ih h
  ·rw[X8 hb];simp only[O8];cases hy:y==n with
   |true=>rw[hy]at h;exact .inr h
   |false=>rw[hy]at h;exact ih h
section
variable{prog:Program}{w:World}{A:Around}{R:Result->Shared->Prop}{s:Shared}
abbrev Tp(ifs:List Expr)(env:Env):Sem Bool:=forIn ifs true λc r=>if r=true then do let ok <-isTrue c env (eval c env);pure (ForInStep.yield ok)else pure (ForInStep.yield r)
theorem Rz{elt target iter:Expr}{ifs:List Expr}{scope:Scope}{pos:Pos}{it acc:Value}{env:Env}(I:Nat->Shared->Prop)
  (turn:∀n s,I n s->wpAny (model prog w) A (pyNext it) (λr s₁=>match r with
   |none=>R (.ok .next) s₁
   |some v=>wpAny (model prog w) A (letOwnedTupleGo target it v) (λ_ s₀=>wpAny (model prog w) A (assign target env v) (λ_ s₂ =>
     wpAny (model prog w) A (Tp ifs env) (λok s₃ =>
      if ok=true then wpAny (model prog w) A (eval elt env) (λx s₄ =>
       wpAny (model prog w) A (call (.builtin "list.append") [acc,x]) (λ_ s₅=>∃m,m<n/\I m s₅) (λ_ _=>False) s₄) (λ_ _=>False) s₃
      else ∃m,m<n/\I m s₃) (λ_ _=>False) s₂) (λ_ _=>False) s₀) (λ_ _=>False) s₁) (λ_ _=>False) s)
  (n:Nat) (h:I n s):codeAny (model prog w) A (.compLoop (.ListComp elt [⟨target,iter,ifs,0⟩] scope pos) 0 it acc env) R s:=by
 refine codeAny_loop rfl I (λn s hI=>?_) n h;show wpAny _ A ((compTurn (.ListComp elt [⟨target,iter,ifs,0⟩] scope pos) 0 it acc env).onRaise (λx=>do noteFrame x env;theTreesLotGoes x)) _ _ s;refine wpAny_noted ?_;rw[compTurn_list];refine X5 (A8f (X5 (A0g (turn n s hI) (λr s₁ h₁=>?_) λ_ _ h'=>h'.elim)));cases r with
 |none=>exact K5 h₁
 |some v =>
  refine X5 (A0g h₁ (λ_ s₀ h₀=>?_) λ_ _ h'=>h'.elim);refine X5 (A0g h₀ (λ_ s₂ h₂=>X5 (A0g h₂ (λok s₃ h₃=>?_) λ_ _ h'=>h'.elim)) λ_ _ h'=>h'.elim);cases ok with
  |false=>exact K5 ⟨rfl,h₃⟩
  |true =>
   exact X5 (X5 (A0g h₃ (λx s₄ h₄=>X5 (A0g h₄ (λ_ s₅ h₅=>K5 (K5 ⟨rfl,h₅⟩)) λ_ _ h'=>h'.elim)) λ_ _ h'=>h'.elim))
end
def Ma(cs:List Nat)(σ:St):St:=cs.map λj=>(σ[j]?).getD none
def cxC(X:Cx)(scope:Scope)(N:List Str)(s:Shared)(H:Hp)(ex:List Addr):Cx :=
 {X with N:=N,s₀:=s,H₀:=H,env:=compEnvC scope (SX X.env scope.names) s.heap.objs.size X.env,outer:=X.stack,stack:=X.stack,ex:=ex,fn:=λ_=>false,pn:=[],xe:=λ_ _=>False}
def PTs(X:Cx)(ifs:List Expr)(t:TT):Prop :=
 ∀(pins:List (Addr×Obj))(s:Shared)(σ:St)(H:Hp)(Q:Bool->Hp->Prop),Inv X pins σ H s->t σ H Q->wpAny (model X.prog X.w) X.A (Tp ifs X.env) (TP X pins σ Q) X.xe s
def tYes:TT:=λ_ H Q=>Q true H
theorem CS{X:Cx}:PTs X [] tYes:=λ_ _ _ H _ I h=>wpAny_tests_nil ⟨H,I,h⟩
structure Cd(X:Cx)(scope:Scope)(N:List Str)(k:Nat)(cs:List Nat):Prop where
 cell:∀y∈scope.names,y.2≠.cell
 kind:scope.kind=.function
 names:∀y∈scope.names,y.2=.local->scope.names.lookup y.1=some .local
 free:∀y∈scope.names,y.2=.free->X.env.scope.names.lookup y.1=some .cell\/X.env.scope.names.lookup y.1=some .free
 len:N.length=k+cs.length
 cap:∀j,j<cs.length->∃x,N[k+j]?=some x/\X.N[cs.getD j 0]?=some x/\scope.names.lookup x=some .free
def GY(k:Nat)(cs:List Nat)(g:TG)(tc:TT)(te:TE)(J:It)(σ:St)(H1:Hp)(fin:List V->Hp->Prop):Prop :=
 ∃W:Nat->Nat->List V->Hp->Prop,(∃m,W 0 m [] H1)/\∀i m acc H,W i m acc H ->
  (J.stop i H/\fin acc H)\/(J.go i H/\∃Nx:List V->Hp->Prop,(∀acc' H',Nx acc' H'->∃m',m'<m/\W (i+1) m' acc' H')/\∀x H',J.yld i H x H'->g x (List.replicate k none++Ma cs σ) H' fun σ2 H2=>(∃ts:St,ts.length=k/\σ2=ts++Ma cs σ)/\acc.length<sizeLine /\
   tc σ2 H2 λb H3=>if b=true then te σ2 H3 λv H4=>Nx (acc++[v]) H4 else Nx acc H3)
def tComp(k:Nat)(cs:List Nat)(wi:TI)(g:TG)(tc:TT)(te:TE):TE:=fun σ H Q=>wi σ H λJ H1=>GY k cs g tc te J σ H1 λacc H2=>∀p,H2 p=none->Q (.ref p) (upd H2 p (.lst acc))
section
variable{X:Cx}{tg iter elt:Expr}{ifs:List Expr}{scope:Scope}{pos:Pos}{wi:TI}{g:TG}{tc:TT}{te:TE}{N:List Str}{k:Nat}{cs:List Nat}
theorem Inv.block{pins:List (Addr×Obj)}{σ:St}{H:Hp}{s s':Shared}{ex:List Addr}(S:Cd X scope N k cs)(I:Inv X pins σ H s)
  (hex:∀b∈ex,Dc X pins H b/\∃o,s.heap.get? b=some o) (hos:s'.os=s.os) (hg:AllBare s'.gens) (hk:∀b o,s.heap.get? b=some o->s'.heap.get? b=some o) (hn:∃m,s'.heap.Ns s.heap.objs.size m) :
  Inv (cxC X scope N s H ex) [] (List.replicate k none++Ma cs σ) H s':=by
 have lk:∀{x c},(SX X.env scope.names).lookup x=some c->X.env.cells.lookup x=some c:=λ{x c} h=>by
  rcases OP X.env _ _ h with z|⟨z,e⟩
  ·simp at z
  ·obtain⟨a,ha⟩:=I.ok.has x (S.free _ z rfl);rw[e,ha];rfl
 have nex:∀b,b∈ex->b≠s.heap.objs.size:=λb hb z=>by
  obtain⟨_,o,ho⟩:=hex b hb;exact absurd (C8 ho) (by rw[z];exact O7 _)
 refine⟨⟨I.ok.mod,S.kind,I.ok.glob,I.ok.blt,B1 _,λx y c h1 h2=>I.ok.inj x y c (lk h1) (lk h2),λx hx=>?_,λx c h _=>(nomatch h),I.ok.hd,I.ok.frames,.inl rfl,λb hb=>⟨nex b hb,λx c h=>?_⟩,I.bs,?_,λb o e hb=>?_,λb hb hf=>?_,I.stack,I.stkFree⟩,
  hos,hg,Un.kept hk,?_,λx c h=>?_,I.hok.fresh (B1 _),λx c h=>I.freeC x c (lk h),λp hp=>absurd (show p∈([]:List (Addr×Obj))from hp) A5,I.hok.kept hk,?_⟩
 ·exact SV X.env _ _ (MF S.cell hx)
 ·exact(hex b hb).1.2.2.2.2.1 x c (lk h)
 ·exact C6 I.ok.bsz I.sz
 ·rcases(hex b hb).1.2.2.2.1 with z|z
  ·exact I.ok.noex b o e z
  ·exact absurd (F4 (C8 e) (C6 I.ok.bsz z)) (O7 _)
 ·rcases C2.mp (I.stkSub b hf)with z|z
  ·exact(hex b hb).1.2.1 z
  ·exact(hex b hb).1.2.2.1 z
 ·obtain⟨m,hm⟩:=hn;obtain⟨mo,hmo,hlo⟩:=I.loc;refine⟨m,hm,λi x v h1 h2 h3=>?_⟩;have hi:k<=i:=by
   by_cases z:i<k
   ·rw[F7 (by simpa using z),W6,X9 z]at h2;cases h2
   ·lia
  obtain⟨j,rfl⟩:∃j,i=k+j:=⟨i-k,by lia⟩
  rw[F1 A5,N4,S8]at h2;unfold Ma at h2;rw[B7]at h2;have hj:j<cs.length:=by
   by_cases z:j<cs.length
   ·exact z
   ·rw[N5 A0]at h2;cases h2
  obtain⟨x',e1,e2,e3⟩:=S.cap j hj;rw[show N[k+j]?=some x from h1]at e1;cases e1;rw[C3 hj]at h2;have h2':(σ[cs[j]]?).getD none=some v:=K3 h2;rw[C0,C3 hj]at e2;have h4:σ[cs[j]]?=some (some v):=by
   cases q:σ[cs[j]]? with
   |none=>rw[q]at h2';cases h2'
   |some w=>rw[q]at h2';rw[show w=some v from h2']
  have kO:=S.free (x,.free) (A2a e3) rfl;obtain⟨u,ru,l⟩:=hlo _ x v e2 h4 (.inr kO);refine⟨u,ru,?_⟩;rcases l with ⟨z,_⟩|⟨_,c,hc',z⟩
  ·have z':X.env.scope.names.lookup x=some .local:=z;rcases kO with q|q<;>· rw[z']at q;cases q
  ·obtain⟨c',h5⟩:=SV X.env _ [] (A2a e3);have h6:=lk h5;rw[hc']at h6;cases h6;obtain⟨o,ho,hd⟩:=z;exact .inr ⟨JA e3,c,h5,o,hk _ _ ho,hd⟩
 ·obtain⟨v,o,ho,hd⟩:=I.cell x c (lk h);exact⟨v,o,hk _ _ ho,hd⟩
 ·show(List.replicate k none++Ma cs σ).length=N.length;rw[B0,N4,S.len];unfold Ma;rw[A9]
end
structure YH(C:Cx->Prop)(P:Program)(w:World)(K:PySem.W.Frag)(tg:Expr)(J:It)(fp:List Addr)(it:Addr)(tn:Nat->Heap->Prop):Prop where
 obj:∀i h,tn i h->∀b∈fp,∃o,h.get? b=some o/\∀v,o.data≠.cell v
 keep:∀i h h',tn i h->(∀b∈fp,∀o,h.get? b=some o->h'.get? b=some o)->tn i h'
 item:∀(X:Cx),C X->X.prog=P->X.w=w->X.K=K->∀(i:Nat)(pins:List (Addr×Obj))(s:Shared)(σ:St)(H:Hp)(E:Value->Shared->Prop),Inv X pins σ H s->(∀b∈fp,Dc X pins H b)->tn i s.heap->J.go i H ->
  wpAny (model P w) X.A (pyNext (.ref it)) (λr s1=>∃u,r=some u/\wpAny (model P w) X.A (letOwnedTupleGo tg (.ref it) u) (λ_ s2=>∃x H',Inv X pins σ H' s2/\AY x u/\J.yld i H x H'/\tn (i+1) s2.heap/\∀b∈fp,H' b=none) E s1) E s
 done:∀(X:Cx),C X->X.prog=P->X.w=w->X.K=K->∀(i:Nat)(pins:List (Addr×Obj))(s:Shared)(σ:St)(H:Hp)(E:Value->Shared->Prop),Inv X pins σ H s->(∀b∈fp,Dc X pins H b)->tn i s.heap->J.stop i H ->
  wpAny (model P w) X.A (pyNext (.ref it)) (λr s1=>r=none/\Inv X pins σ H s1) E s
 self:∀(A:Around)(i:Nat)(s:Shared)(Q:Value->Shared->Prop)(E:Value->Shared->Prop),tn i s.heap->Q (.ref it) s->wpAny (model P w) A (pyIter (.ref it)) Q E s
theorem Qw.q{P:Program}{w:World}{K:PySem.W.Frag}{tg:Expr}{J:It}{fp:List Addr}{it:Addr}{tn:Nat->Heap->Prop}(T:Qw P w K tg J fp it tn):YH (λX=>X.calm=true) P w K tg J fp it tn :=
 ⟨T.obj,T.keep,λX c p w k=>T.item X p w k c,λX c p w k=>T.done X p w k c,T.self⟩
section
variable{X:Cx}{tg iter elt:Expr}{ifs:List Expr}{scope:Scope}{pos:Pos}{wi:TI}{g:TG}{tc:TT}{te:TE}{N:List Str}{k:Nat}{cs:List Nat}{fin:List V->Hp->Prop}
theorem Vs{pins:List (Addr×Obj)}{σ:St}{H2:Hp}{sD s1:Shared}{it D:Addr}{fp:List Addr}{tn:Nat->Heap->Prop}{J:It}{n0:Nat}{RR:Result->Shared->Prop}{Cq:Cx->Prop}(hc:∀s H ex,Cq (cxC X scope N s H ex))(S:Cd X scope N k cs)
  (hg:∀s H ex,PG (cxC X scope N s H ex) tg g) (ht:∀s H ex,PTs (cxC X scope N s H ex) ifs tc) (he:∀s H ex,PE (cxC X scope N s H ex) elt te)
  (ID:Inv X pins σ H2 sD) (hD:sD.heap.get? D=some {cls:=.type "list",data:=.seq ([]:List Value).toArray n0}) (hD0:X.s₀.heap.objs.size<=D) (fD:Dc X pins H2 D) (nfp:D∉fp)
  (T:YH Cq X.prog X.w X.K tg J fp it tn) (st:tn 0 sD.heap) (f2:∀b∈fp,Dc X pins H2 b) (hb:GY k cs g tc te J σ H2 fin)
  (hos:s1.os=sD.os) (hgn:AllBare s1.gens) (hk:∀b o,sD.heap.get? b=some o->s1.heap.get? b=some o) (hn:∃m,s1.heap.Ns sD.heap.objs.size m)
  (hRR:∀(H':Hp)(acc:List V)(s4:Shared),fin acc H'->H' D=none->Inv X pins σ (upd H' D (.lst acc)) s4->(∃m,s4.heap.Ns sD.heap.objs.size m)->Dc X pins (upd H' D (.lst acc)) sD.heap.objs.size->RR (.ok .next) s4) :
  codeAny (model X.prog X.w) X.A (.compLoop (.ListComp elt [⟨tg,iter,ifs,0⟩] scope pos) 0 (.ref it) (.ref D) (compEnvC scope (SX X.env scope.names) sD.heap.objs.size X.env)) RR s1:=by
 obtain⟨W,⟨m0,w0⟩,turn⟩:=hb;have hobj:∀b,b∈D::fp->∃o,sD.heap.get? b=some o:=λb hb=>by
  rcases C2.mp hb with rfl|z
  ·exact⟨_,hD⟩
  ·obtain⟨o,e,_⟩:=T.obj _ _ st b z;exact⟨o,e⟩
 have hexx:∀b∈D::fp,Dc X pins H2 b/\∃o,sD.heap.get? b=some o:=λb hb=>⟨by
  rcases C2.mp hb with rfl|z
  ·exact fD
  ·exact f2 b z,hobj b hb⟩
 have neC:∀b,b∈D::fp->b≠sD.heap.objs.size:=λb hb z=>by
  obtain⟨o,e⟩:=hobj b hb;exact absurd (C8 e) (by rw[z];exact O7 _)
 have nfr:∀b,b∈D::fp->b∉frs X.stack:=λb hb hf=>by
  rcases C2.mp (ID.stkSub b hf)with z|z
  ·exact(hexx b hb).1.2.1 z
  ·exact(hexx b hb).1.2.2.1 z
 have I0:=ID.block S hexx hos hgn hk hn;have I0ok:=I0.ok;have cells:∀b,b∈D::fp->∀x c,(SX X.env scope.names).lookup x=some c->c≠b:=λb hb x c h=>(I0ok.exf b hb).2 x c h;have fpok:∀{H':Hp}{pl:List (Addr×Obj)},(∀b∈fp,H' b=none)->(∀p∈pl,p.1=D)->∀b∈fp,Dc (cxC X scope N sD H2 (D::fp)) pl H' b:=λhn hp b hb =>
  ⟨hn b hb,neC b (.tail _ hb),nfr b (.tail _ hb),.inl (.tail _ hb),cells b (.tail _ hb),λp hp' z=>nfp (by
   have:=hp p hp';rw[<-this,z];exact hb)⟩
 refine Rz (λn s'=>∃(i:Nat)(acc:List V)(its:List Value)(nn:Nat)(H':Hp),Inv (cxC X scope N sD H2 (D::fp)) [] (List.replicate k none++Ma cs σ) H' s'/\tn i s'.heap/\(∀b∈fp,H' b=none)/\H' D=none/\acc.length<=sizeLine/\AN acc its /\
  s'.heap.get? D=some {cls:=.type "list",data:=.seq its.toArray nn}/\W i n acc H') ?_ m0
  ⟨0,[],[],n0,H2,I0,T.keep _ _ _ st (λb _ o e=>hk b o e),λb hb=>(f2 b hb).1,fD.1,G9 _,.nil,hk _ _ hD,w0⟩
 rintro n s3 ⟨i,acc,its,nn,H3,I3,st3,fr3,nD3,hl3,v3,e3,w3⟩;have I3p:Inv (cxC X scope N sD H2 (D::fp)) [(D,{cls:=.type "list",data:=.seq its.toArray nn})] (List.replicate k none++Ma cs σ) H3 s3:=I3.pins_of λp hp=>by
  rw[C4]at hp;subst hp;exact⟨e3,nD3,neC D (.head _),nfr D (.head _),λv z=>by cases z⟩
 have one:∀p∈[((D,{cls:=.type "list",data:=.seq its.toArray nn}):Addr×Obj)],p.1=D:=λp hp=>by
  rw[C4]at hp;subst hp;rfl
 rcases turn i n acc H3 w3 with ⟨stop,qf⟩|⟨go,Nx,hNx,step⟩
 ·refine thn (T.done (cxC X scope N sD H2 (D::fp)) (hc _ _ _) rfl rfl rfl i _ s3 _ H3 _ I3p (fpok fr3 one) st3 stop) λr s4 ⟨hr,I4⟩=>?_;subst hr;have IX:Inv X pins σ H3 s4:=ID.call' (ch:=D::fp) I4.os I4.base I4.hok I4.bare λb hb=>⟨(hexx b hb).1.2.2.2.1,(hexx b hb).1.2.1,(hexx b hb).1.2.2.2.2.1,(hexx b hb).1.2.2.2.2.2⟩
  have p4:=(I4.pin (D,{cls:=.type "list",data:=.seq its.toArray nn}) (by show _∈[]++[_];simp)).1;have IY:Inv X pins σ (upd H3 D (.lst acc)) s4:=by
   refine IX.track nD3 (M8 hD0) (M8 (C6 ID.ok.bsz hD0)) (A0c fD.2.1) fD.2.2.2.2.1 fD.2.2.2.2.2 (λb hb z=>fD.2.2.1 (z▸hb)) ?_;exact⟨hl3,its,nn,v3,p4⟩
  refine hRR H3 acc s4 qf nD3 IY ?_ (ID.fpOk (B1 _) ?_)
  ·obtain⟨m,hm,_⟩:=I4.loc;exact⟨m,hm⟩
  ·rw[At (A0c (neC D (.head _)))];exact I4.free
 ·refine thn (T.item (cxC X scope N sD H2 (D::fp)) (hc _ _ _) rfl rfl rfl i _ s3 _ H3 (λ_ _=>False) I3p (fpok fr3 one) st3 go) λr s4 ⟨u,hr,h4⟩=>?_;subst hr;refine thn h4 λ_ s5 ⟨x,H5,I5,r5,y5,st5,fr5⟩=>?_;have I5':=I5.pinned (fpok fr5 one) (T.obj _ _ st5);refine thn (hg sD H2 (D::fp) _ s5 _ H5 x u _ I5' r5 (step x H5 y5)) λ_ s6 ⟨σ6,H6,I6,⟨ts,tl,eσ⟩,hz6,q6⟩=>?_;refine thn (ht sD H2 (D::fp) _ s6 σ6 H6 _ I6 q6) λb s7 ⟨H7,I7,q7⟩=>?_;have weak:∀{pl:List (Addr×Obj)}{H':Hp}{s':Shared},Inv (cxC X scope N sD H2 (D::fp)) pl σ6 H' s'->Inv (cxC X scope N sD H2 (D::fp)) [] (List.replicate k none++Ma cs σ) H' s':=λ{pl H' s'} J=>by
   refine(J.weak (σ':=List.replicate k none++Ma cs σ) ?_ λj v e=>?_).pins_of λp hp=>absurd hp A5
   ·rw[eσ,B0,B0,N4,tl]
   ·by_cases z:j<k
    ·rw[F7 (by simpa using z),W6,X9 z]at e;cases e
    ·rw[F1 (by rw[N4];lia),N4]at e;rw[eσ,F1 A0,tl];exact e
  have later:∀{pl:List (Addr×Obj)}{σ':St}{H':Hp}{s':Shared},Inv (cxC X scope N sD H2 (D::fp)) (pl++Lf fp s5.heap) σ' H' s'->tn (i+1) s'.heap/\∀b∈fp,H' b=none:=λ{pl σ' H' s'} J =>
   ⟨T.keep _ _ _ st5 λb hb o e=>(J.pin (b,o) (F9 _ (F9 _ (GJ hb e)))).1,λb hb=>by
    obtain⟨o,e,_⟩:=T.obj _ _ st5 b hb;exact(J.pin (b,o) (F9 _ (F9 _ (GJ hb e)))).2.1⟩
  cases b with
  |false =>
   have q7':Nx acc H7:=by simpa using q7
   obtain⟨m',hm,w7⟩:=hNx _ _ q7';rw[X8 D4];have p7:=I7.pin (D,{cls:=.type "list",data:=.seq its.toArray nn}) (F9 _ (O0 _ (C4.mpr rfl)));exact⟨m',hm,i+1,acc,its,nn,H7,weak I7,(later I7).1,(later I7).2,p7.2.1,hl3,v3,p7.1,w7⟩
  |true =>
   rw[X9 rfl]at q7;rw[X9 rfl];refine thn (he sD H2 (D::fp) _ s7 σ6 H7 _ I7 q7) λy s8 ⟨v,H8,I8,r8,q8⟩=>?_;obtain⟨m',hm,w8⟩:=hNx _ _ q8;have p8:=I8.pin (D,{cls:=.type "list",data:=.seq its.toArray nn}) (F9 _ (O0 _ (C4.mpr rfl)));have hlen:=v3.length;refine call_meets F.slot_list_append ⟨_,p8.1,rfl⟩ F.entry_list_append (F.args_list_append_2 _ _) (PySem.list_append D its.toArray nn y (by rw[D6];lia)) ⟨p8.1,?_⟩;have q:=PySem.IsL.update p8.1 (·.push y);have eq:its.toArray.push y=(its++[y]).toArray:=by simp
   dsimp only at q;rw[eq]at q;have I8':Inv (cxC X scope N sD H2 (D::fp)) ([]++Lf fp s5.heap) σ6 H8 s8:=I8.pins_of λp hp=>I8.pin p (F9 _ (F9 _ hp));have I9:=I8'.turned (t':=s8.toks) (it:=D) (h':=s8.heap.update D (Obj.mapSeq (·.push y))) (λb o hb e=>(M6 s8.heap (Obj.mapSeq (·.push y)) (A0c hb)).trans e) p8.2.1 (neC D (.head _)) (.inl (.head _)) (cells D (.head _))
    (λp hp z=>nfp (by
     have:=(Ow (fp:=fp) (h:=s5.heap) (p:=p) (by simpa[cxC] using hp)).1;rw[z]at this;exact this))
   refine⟨m',hm,i+1,acc++[v],its++[y],_,H8,weak I9,(later I9).1,(later I9).2,p8.2.1,?_,v3.append (.cons r8 .nil),q,w8⟩;rw[B0,D8];lia
theorem Nq{pins:List (Addr×Obj)}{σ:St}{H2:Hp}{s2:Shared}{it:Addr}{fp:List Addr}{tn:Nat->Heap->Prop}{J:It}{RR:Value->Addr->Result->Shared->Prop}{E:Value->Shared->Prop}{Cq:Cx->Prop}(hc:∀s H ex,Cq (cxC X scope N s H ex))(S:Cd X scope N k cs)
  (hg:∀s H ex,PG (cxC X scope N s H ex) tg g) (ht:∀s H ex,PTs (cxC X scope N s H ex) ifs tc) (he:∀s H ex,PE (cxC X scope N s H ex) elt te)
  (I2:Inv X pins σ H2 s2) (T:YH Cq X.prog X.w X.K tg J fp it tn) (st:tn 0 s2.heap) (f2:∀b∈fp,Dc X pins H2 b) (hb:GY k cs g tc te J σ H2 fin)
  (hRR:∀(D C:Addr)(H':Hp)(acc:List V)(s4:Shared),fin acc H'->H' D=none->Inv X pins σ (upd H' D (.lst acc)) s4->(∃m,s4.heap.Ns C m)->Dc X pins (upd H' D (.lst acc)) C->RR (.ref D) C (.ok .next) s4) :
  wpAny (model X.prog X.w) X.A (newList []) (λacc s₃=>wpAny (model X.prog X.w) X.A (newFunctionEnv scope X.env.globals (SX X.env scope.names) [] X.env.qual none .none (some X.env)) (λcenv s₄ =>
   codeAny (model X.prog X.w) X.A (.compStart (.ListComp elt [⟨tg,iter,ifs,0⟩] scope pos) 0 (.ref it) acc {cenv with scope:=relabel scope X.env}) (RR acc cenv.locals) s₄) E s₃) E s2:=by
 refine A7b (wpAny_newFunctionEnv S.cell (by intro y hy;simp at hy) (λh₁ hns₁ hsb₁=>?_) S.kind);dsimp only at hns₁ hsb₁⊢;have keepD:∀b o,s2.heap.get? b=some o->(s2.heap.push {cls:=.type "list",dict:=none,data:=.seq ([]:List Value).toArray}).get? b=some o:=λb o e=>B5 _ e;have ID:Inv X pins σ H2 {s2 with heap:=s2.heap.push {cls:=.type "list",dict:=none,data:=.seq ([]:List Value).toArray} }:=I2.kept (t':=s2.toks) keepD;have hD:(s2.heap.push {cls:=.type "list",dict:=none,data:=.seq ([]:List Value).toArray}).get? s2.heap.objs.size=some {cls:=.type "list",data:=.seq ([]:List Value).toArray}:=D0 _ rfl;have nfp:s2.heap.objs.size∉fp:=λz=>by
  obtain⟨o,e,_⟩:=T.obj _ _ st _ z;exact absurd (C8 e) (O7 _)
 have stD:tn 0 (s2.heap.push {cls:=.type "list",dict:=none,data:=.seq ([]:List Value).toArray}):=T.keep _ _ _ st λb _ o e=>keepD b o e;have hk:∀b o,(s2.heap.push {cls:=.type "list",dict:=none,data:=.seq ([]:List Value).toArray}).get? b=some o->h₁.get? b=some o:=λb o e=>hsb₁.extBut b o (F3 (C8 e)) (B5 _ e);have loop:∀s₃:Shared,s₃={s2 with heap:=h₁,toks:=s2.toks+([]:List (Str×Value)).length} ->
   codeAny (model X.prog X.w) X.A (.compLoop (.ListComp elt [⟨tg,iter,ifs,0⟩] scope pos) 0 (.ref it) (.ref s2.heap.objs.size) (compEnvC scope (SX X.env scope.names) (s2.heap.push {cls:=.type "list",dict:=none,data:=.seq ([]:List Value).toArray}).objs.size X.env))
    (RR (.ref s2.heap.objs.size) (s2.heap.push {cls:=.type "list",dict:=none,data:=.seq ([]:List Value).toArray}).objs.size) s₃:=by
  rintro s₃ rfl;exact Vs (sD:={s2 with heap:=s2.heap.push {cls:=.type "list",dict:=none,data:=.seq ([]:List Value).toArray} }) hc S hg ht he ID hD I2.sz (I2.fpOk (B1 _) I2.fresh) nfp T stD f2 hb rfl I2.bare hk ⟨_,hns₁⟩ λH' acc s4=>hRR _ _ H' acc s4
 exact codeAny_compStart_list (loop _ rfl) (T.self _ 0 _ _ _ (T.keep _ _ _ stD λb _ o e=>hk b o e) (loop _ rfl))
theorem Dt(hc:X.calm=true)(S:Cd X scope N k cs)(hi:PI X tg iter wi)(hg:∀s H ex,PG (cxC X scope N s H ex) tg g)(ht:∀s H ex,PTs (cxC X scope N s H ex) ifs tc)(he:∀s H ex,PE (cxC X scope N s H ex) elt te)
  (hs:∀x,foldedSetIterable iter X.env x=pure x:=by intro _;rfl):PE X (.ListComp elt [⟨tg,iter,ifs,0⟩] scope pos) (tComp k cs wi g tc te):=by
 intro pins s σ H Q I h;rw[eval_ListComp];refine wpAny_comprehension_free (use:=none) rfl hs (Nt λy hy hf=>I.ok.has _ (S.free y hy hf)) S.kind S.names (thn (hi pins s σ H _ I h) λv s1 h1=>thn h1 λitv s2 h2=>?_);obtain⟨it,fp,tn,J,H2,rfl,I2,T,st2,f2,hb⟩:=h2;refine Nq (RR:=λacc C=>compPost (model X.prog X.w) X.A X.xe none (EP X pins σ Q) acc C) (Cq:=λX=>X.calm=true) (λ_ _ _=>hc) S hg ht he I2 T.q st2 f2 hb λD C H' acc s4 qf nD J4 hn fC=>?_;obtain⟨m,hm⟩:=hn;refine⟨m,hm,λh' sb=>⟨.ref D,upd H' D (.lst acc),?_,rfl,qf D nD⟩⟩;exact J4.turned (t':=s4.toks) (it:=C) (λb o hb e=>(sb.2 b hb).trans e) fC.1 fC.2.1 fC.2.2.2.1 fC.2.2.2.2.1 fC.2.2.2.2.2
def VE(i k:Nat)(cs:List Nat)(wi:TI)(g:TG)(tc:TT)(te:TE):TS:=λD σ H=>wi σ H λJ H1=>GY k cs g tc te J σ H1 λacc H2=>∀p,H2 p=none->D.nx (σ.set i (some (.ref p))) (upd H2 p (.lst acc))
theorem Sj{i:Nat}{y:Str}{py spos:Pos}(hc:X.calm=true)(hN:X.N.Nodup)(hi':X.N[i]?=some y)(hy:X.env.scope.names.lookup y=some .local)(S:Cd X scope N k cs)(hi:PI X tg iter wi)
  (hg:∀s H ex,PG (cxC X scope N s H ex) tg g) (ht:∀s H ex,PTs (cxC X scope N s H ex) ifs tc) (he:∀s H ex,PE (cxC X scope N s H ex) elt te)
  (hsw:swapsWith (.ListComp elt [⟨tg,iter,ifs,0⟩] scope pos) (some (.Name y py)) spos.line X.env=pure true:=by rfl) (hs:∀x,foldedSetIterable iter X.env x=pure x:=by intro _;rfl) :
  PS X (.Assign [.Name y py] (.ListComp elt [⟨tg,iter,ifs,0⟩] scope pos) spos) (VE i k cs wi g tc te):=by
 intro pins s σ H D I h;rw[exec_Assign_Name_used _ _ _ _ hsw];refine X5 (A8f (X5 ?_));show wpAny _ X.A (do let _ <-comprehension (.ListComp elt [⟨tg,iter,ifs,0⟩] scope pos) scope X.env _ (newList []) false (eval iter X.env) (some (assign (.Name y py) X.env))) _ _ s;refine X5 (A0g (wpAny_comprehension_free (use:=some (assign (.Name y py) X.env)) (Q:=λ_ s'=>SP X pins D .next s') rfl hs (Nt λy hy hf=>I.ok.has _ (S.free y hy hf)) S.kind S.names
  (thn (hi pins s σ H _ I h) λv s1 h1=>thn h1 λitv s2 h2=>?_)) (λ_ s' hq=>K5 (K5 hq)) λ_ _ e=>e)
 obtain⟨it,fp,tn,J,H2,rfl,I2,T,st2,f2,hb⟩:=h2;refine Nq (RR:=λacc C=>compPost (model X.prog X.w) X.A X.xe (some (assign (.Name y py) X.env)) (λ_ s'=>SP X pins D .next s') acc C) (Cq:=λX=>X.calm=true) (λ_ _ _=>hc) S hg ht he I2 T.q st2 f2 hb λL C H' acc s4 qf nD J4 hn fC=>?_;obtain⟨m,hm⟩:=hn;show wpAny _ X.A (assign (.Name y py) X.env (.ref L)) _ _ _;refine wpAny_assign_Name (Oo J4 hN hi' (.inl hy) (v:=.ref L) rfl (λs5 J5 hsb=>?_) (.inr hy));obtain⟨a,sb,ha⟩:=hsb;have nCa:C≠a:=by
  rcases ha with z|z
  ·rw[z];exact fC.2.1
  ·exact λq=>fC.2.2.2.2.1 y a z q.symm
 refine⟨m,hm.sameBut sb nCa,λh' sb'=>⟨σ.set i (some (.ref L)),upd H' L (.lst acc),?_,qf L nD⟩⟩;exact J5.turned (t':=s5.toks) (it:=C) (λb o hb e=>(sb'.2 b hb).trans e) fC.1 fC.2.1 fC.2.2.2.1 fC.2.2.2.2.1 fC.2.2.2.2.2
end
section
variable{K:PySem.W.Frag}{k:Nat}{cs:List Nat}{g:TG}{tc:TT}{te:TE}{σ:St}{H:Hp}{fin:List V->Hp->Prop}
abbrev Bt(k:Nat)(cs:List Nat)(g:TG)(tc:TT)(te:TE)(σ:St)(x:V)(acc:List V)(H:Hp)(Nx:List V->Hp->Prop):Prop :=
 g x (List.replicate k none++Ma cs σ) H fun σ2 H2=>(∃ts:St,ts.length=k/\σ2=ts++Ma cs σ)/\acc.length<sizeLine/\tc σ2 H2 λb H3=>if b=true then te σ2 H3 λv H4=>Nx (acc++[v]) H4 else Nx acc H3
theorem IA{a:Addr}{xs:List V}(Pv:Nat->List V->Hp->Prop)(h0:Pv 0 [] H)(hl:∀i acc H,i<=xs.length->Pv i acc H->SqL K H a xs)
  (hs:∀i x acc H,xs[i]?=some x->Pv i acc H->Bt k cs g tc te σ x acc H (Pv (i+1))) (hd:∀acc H,Pv xs.length acc H->fin acc H):GY k cs g tc te (Itl K a) σ H fin:=by
 refine⟨λi m acc H=>m=xs.length-i/\i<=xs.length/\Pv i acc H,⟨xs.length,by simp,G9 _,h0⟩,?_⟩;rintro i m acc H ⟨rfl,hi,p⟩;have q:=hl i acc H hi p;by_cases hlt:i<xs.length
 ·refine .inr ⟨⟨xs,xs[i],q,by simp[hlt]⟩,Pv (i+1),λacc' H' p'=>⟨xs.length-(i+1),by lia,rfl,hlt,p'⟩,λx H' y=>?_⟩;obtain⟨e,y⟩:=y;subst e;exact hs i x acc _ (y xs q) p
 ·have e:i=xs.length:=by lia
  subst e;exact .inl ⟨⟨xs,q,B1 _⟩,hd acc H p⟩
theorem Qr{a:Addr}{xs:List V}(Pv:Nat->List V->Hp->Prop)(h0:Pv 0 [] H)(hl:∀i acc H,i<=xs.length->Pv i acc H->SqT K H a xs)
  (hs:∀i x acc H,xs[i]?=some x->Pv i acc H->Bt k cs g tc te σ x acc H (Pv (i+1))) (hd:∀acc H,Pv xs.length acc H->fin acc H):GY k cs g tc te (Itt K a) σ H fin:=by
 refine⟨λi m acc H=>m=xs.length-i/\i<=xs.length/\Pv i acc H,⟨xs.length,by simp,G9 _,h0⟩,?_⟩;rintro i m acc H ⟨rfl,hi,p⟩;have q:=hl i acc H hi p;by_cases hlt:i<xs.length
 ·refine .inr ⟨⟨xs,xs[i],q,by simp[hlt]⟩,Pv (i+1),λacc' H' p'=>⟨xs.length-(i+1),by lia,rfl,hlt,p'⟩,λx H' y=>?_⟩;obtain⟨e,y⟩:=y;subst e;exact hs i x acc _ (y xs q) p
 ·have e:i=xs.length:=by lia
  subst e;exact .inl ⟨⟨xs,q,B1 _⟩,hd acc H p⟩
end
section
variable{prog:Program}{w:World}{A:Around}{E:Value->Shared->Prop}{s:Shared}
theorem JF{I t:Addr}{k:Nat}{vs:Array Value}{v:Value}{Q:Value->Shared->Prop}(hI:s.heap.IsTupleIter I t k)(hV:s.heap.IsTuple t vs)(hv:vs[k]?=some v)
  (q:∀g,g.IsTupleIter I t (k+1)->Heap.SameBut I s.heap g->Q v {s with heap:=g}):wpAny (model prog w) A (Builtin.SmallTypes.nextOf (.ref I)) Q E s:=by
 obtain⟨oI,eI,cI,dI⟩:=id hI;obtain⟨oV,eV,_,nV,dV⟩:=hV;unfold Builtin.SmallTypes.nextOf;refine X5 (wpAny_callSpecial?_slot (name:=Str.ofString "__next__") hI.typeIs A4d (A7f A4d hI.typeIs F.entry_tuple_iterator_next ?_ (F.args_tuple_iterator_next_1 _)));show wpAny _ _ (field (.ref I) 0 >>= _) _ _ s;refine X5 (A5b eI dI (x:=.ref t) rfl ?_);show wpAny _ _ (if(Value.ref t==Value.none)=true then _ else _) _ _ s;rw[X8 (λz:(Value.ref t==Value.none)=true=>D4 z)];show wpAny _ _ (field (.ref I) 1 >>= _) _ _ s;refine X5 (A5b eI dI (x:=.int k 0) rfl ?_);show wpAny _ _ (seqItems? (.ref t) >>= _) _ _ s;refine X5 (A8d eV dV ?_);simp only[L8,hv];refine X5 (A6d eI dI A5 (K5 ⟨v,rfl,K5 (q _ ?_ (Heap.SameBut.update ..))⟩));exact⟨_,R0 _ eI (A5e (A3a dI _)),(Obj.cls_mapFields ..).trans cI,by rw[A3a dI];simp[rawInt]⟩
theorem Lj{I t:Addr}{k:Nat}{vs:Array Value}{Q:Value->Shared->Prop}(hA:A.handled=none)(hI:s.heap.IsTupleIter I t k)(hV:s.heap.IsTuple t vs)(hv:vs[k]?=none)
  (q:∀g e,Heap.ExtBut I s.heap g->(∃o,g.get? e=some o/\o.cls=.type "StopIteration")->E (.ref e) {s with heap:=g}):wpAny (model prog w) A (Builtin.SmallTypes.nextOf (.ref I)) Q E s:=by
 obtain⟨oI,eI,cI,dI⟩:=id hI;obtain⟨oV,eV,_,nV,dV⟩:=hV;unfold Builtin.SmallTypes.nextOf;refine X5 (wpAny_callSpecial?_slot (name:=Str.ofString "__next__") hI.typeIs A4d (A7f A4d hI.typeIs F.entry_tuple_iterator_next ?_ (F.args_tuple_iterator_next_1 _)));show wpAny _ _ (field (.ref I) 0 >>= _) _ _ s;refine X5 (A5b eI dI (x:=.ref t) rfl ?_);show wpAny _ _ (if(Value.ref t==Value.none)=true then _ else _) _ _ s;rw[X8 (λz:(Value.ref t==Value.none)=true=>D4 z)];show wpAny _ _ (field (.ref I) 1 >>= _) _ _ s;refine X5 (A5b eI dI (x:=.int k 0) rfl ?_);show wpAny _ _ (seqItems? (.ref t) >>= _) _ _ s;refine X5 (A8d eV dV ?_);simp only[L8,hv];refine X5 (A4e (X5 (A6d eI dI A5 ?_)));show wpAny _ _ (newExc (.type "StopIteration") [] >>= _) _ _ _;refine X5 ?_;simp only[newExc,newTuple];refine X5 (A7b ?_ (by size_fits));refine X5 (m:=firstArgMember _ _) (wpAny_of_eq (a:=Value.none) (by first|rfl|(simp only[firstArgMember];rfl)) (A7b ?_ (by size_fits)));simp only[raiseNew];refine X5 (wpAny_handled ?_)
 first|rw[show A.in1.handled=none from hA]|rw[hA]
 refine X5 (K5 (wpAny_throw (q _ _ (((Heap.SameBut.update ..).extBut.push _).push _) ⟨_,D0 _ rfl,rfl⟩)))
def Gd:Bool->Heap->Addr->Addr->Nat->Prop
 |true,h,I,l,k=>h.IsTupleIter I l k
 |false,h,I,l,k=>h.IsListIter I l k
def Gc:Bool->Heap->Addr->Array Value->Prop
 |true,h,l,vs=>h.IsTuple l vs
 |false,h,l,vs=>h.IsList l vs
def SqX(K:PySem.W.Frag):Bool->Hp->Addr->List V->Prop
 |true,H,a,xs=>SqT K H a xs
 |false,H,a,xs=>SqL K H a xs
theorem Gd.move{b:Bool}{h g:Heap}{I l:Addr}{k:Nat}(x:Gd b h I l k)(e:∀o,h.get? I=some o->g.get? I=some o):Gd b g I l k:=by
 cases b with
 |true=>obtain⟨o,ho,r⟩:=x;exact⟨o,e _ ho,r⟩
 |false=>obtain⟨o,ho,r⟩:=x;exact⟨o,e _ ho,r⟩
theorem Gd.there{b:Bool}{h:Heap}{I l:Addr}{k:Nat}(x:Gd b h I l k):∃o,h.get? I=some o/\∀v,o.data≠.cell v:=by
 cases b with
 |true=>obtain⟨o,ho,_,d⟩:=x;exact⟨o,ho,λv z=>by rw[d]at z;cases z⟩
 |false=>obtain⟨o,ho,_,d⟩:=x;exact⟨o,ho,λv z=>by rw[d]at z;cases z⟩
theorem Gc.move{b:Bool}{h g:Heap}{l:Addr}{vs:Array Value}(x:Gc b h l vs)(e:∀o,h.get? l=some o->g.get? l=some o):Gc b g l vs:=by
 cases b with
 |true=>obtain⟨o,ho,r⟩:=x;exact⟨o,e _ ho,r⟩
 |false=>obtain⟨o,ho,r⟩:=x;exact⟨o,e _ ho,r⟩
theorem LS{b:Bool}{I l:Addr}{k:Nat}{vs:Array Value}{v:Value}{Q:Value->Shared->Prop}(hI:Gd b s.heap I l k)(hV:Gc b s.heap l vs)(hv:vs[k]?=some v)
  (q:∀g,Gd b g I l (k+1)->Heap.SameBut I s.heap g->Q v {s with heap:=g}):wpAny (model prog w) A (Builtin.SmallTypes.nextOf (.ref I)) Q E s:=by
 cases b with
 |true=>exact JF hI hV hv q
 |false=>exact wpAny_nextOf_list_item hI hV hv q
theorem MU{b:Bool}{I l:Addr}{k:Nat}{vs:Array Value}{Q:Value->Shared->Prop}(hA:A.handled=none)(hI:Gd b s.heap I l k)(hV:Gc b s.heap l vs)(hv:vs[k]?=none)
  (q:∀g e,Heap.ExtBut I s.heap g->(∃o,g.get? e=some o/\o.cls=.type "StopIteration")->E (.ref e) {s with heap:=g}):wpAny (model prog w) A (Builtin.SmallTypes.nextOf (.ref I)) Q E s:=by
 cases b with
 |true=>exact Lj hA hI hV hv q
 |false=>exact wpAny_nextOf_list_end hA hI hV hv q
theorem Jm{b:Bool}{l:Addr}{vs:Array Value}{Q:Value->Shared->Prop}(hV:Gc b s.heap l vs)
  (q:∀g,Gd b g s.heap.objs.size l 0->g.objs.size=s.heap.objs.size+1->(∀c o,s.heap.get? c=some o->g.get? c=some o)->Q (.ref s.heap.objs.size) {s with heap:=g}):wpAny (model prog w) A (pyIter (.ref l)) Q E s:=by
 cases b with
 |true=>exact wpAny_pyIter_tuple hV (q _ ⟨_,D0 _ rfl,rfl,rfl⟩ (R4 ..) λc o e=>B5 _ e)
 |false=>exact A4c hV (q _ ⟨_,D0 _ rfl,rfl,rfl⟩ (R4 ..) λc o e=>B5 _ e)
theorem Inv.turnedL{X:Cx}{pins:List (Addr×Obj)}{σ:St}{H:Hp}{s:Shared}{g:Heap}{tk:Nat}{ch:List Addr}(I:Inv X pins σ H s)(k:∀b o,b∉ch->s.heap.get? b=some o->g.get? b=some o)(hch:∀b∈ch,Dc X pins H b):Inv X pins σ H {s with heap:=g,toks:=tk}:=by
 have nch:∀b u,H b=some u->b∉ch:=λb u e z=>by rw[(hch b z).1]at e;cases e
 refine I.step (g':=s.gens) (d':=s.drawn) (ch:=ch) (λb hb=>⟨(hch b hb).2.2.2.1,(hch b hb).2.1,(hch b hb).2.2.2.2.1,(hch b hb).2.2.2.2.2⟩) (λb o _ _ hc e _=>k b o hc e) (λb o _ _ hc e _=>⟨o.slots,k b o hc e⟩) (λ_ _ _ _ n=>n)
  (λb o hc e=>⟨o,k b o hc e⟩) (λ_ _ e=>e) (λ_ _ _ e=>e) (λb ps e=>⟨#[],by rw[e];simp⟩) (λm hm=>?_) (λb u e=>?_) I.bare
 ·obtain⟨o,es,ep,ho,r⟩:=hm;exact⟨o,es,ep,k _ o (λz=>(hch _ z).2.1 rfl) ho,r⟩
 ·refine(I.hok b u e).stay (λc v hc q=>k c v ?_ q) (λ_ q=>q) λ_ _ q=>q;rcases hc with z|z
  ·rw[z];exact nch b u e
  ·exact nch c _ z
theorem Inv.pair{X:Cx}{pins:List (Addr×Obj)}{σ:St}{H:Hp}{s:Shared}{g:Heap}{tk n:Nat}{ch:List Addr}{x y:V}{u v:Value}(I:Inv X pins σ H s)(k:∀b o,b∉ch->s.heap.get? b=some o->g.get? b=some o)(hch:∀b∈ch,Dc X pins H b)
  (rx:AY x u) (ry:AY y v) (e:g.get? s.heap.objs.size=some {cls:=.type "tuple",data:=.seq #[u,v] n}):H s.heap.objs.size=none/\Inv X pins σ (upd H s.heap.objs.size (.tup [x,y])) {s with heap:=g,toks:=tk}:=by
 have f:=I.fpOk (B1 _) I.fresh;refine⟨f.1,(I.turnedL (tk:=tk) k hch).track f.1 (M8 I.sz) (M8 (C6 I.ok.bsz I.sz)) (A0c f.2.1) f.2.2.2.2.1 f.2.2.2.2.2 (λb hb z=>f.2.2.1 (z▸hb)) ?_⟩;exact⟨by show 2<=sizeLine;decide,[u,v],.cons rx (.cons ry .nil),_,e,rfl,n,rfl⟩
theorem Inv.sq{X:Cx}{pins:List (Addr×Obj)}{σ:St}{H:Hp}{s:Shared}{b:Bool}{a:Addr}{xs:List V}(I:Inv X pins σ H s)(h:SqX X.K b H a xs):∃its:List Value,AN xs its/\Gc b s.heap a its.toArray:=by
 cases b with
 |true =>
  obtain⟨its,r,p,_⟩:=I.tuple h;exact⟨its,r,p⟩
 |false =>
  obtain⟨its,r,p,_⟩:=I.list h;exact⟨its,r,p.isList⟩
theorem Inv.sq_inj{X:Cx}{pins:List (Addr×Obj)}{σ:St}{H:Hp}{s:Shared}{b:Bool}{a:Addr}{xs ys:List V}(I:Inv X pins σ H s)(h:SqX X.K b H a xs)(h':SqX X.K b H a ys):xs=ys:=by
 cases b with
 |true=>exact I.tuple_inj h h'
 |false=>exact I.list_inj h h'
end
theorem Gc.obj{b:Bool}{h:Heap}{l:Addr}{vs:Array Value}(x:Gc b h l vs):∃o,h.get? l=some o:=by
 cases b with
 |true=>obtain⟨o,e,_⟩:=x;exact⟨o,e⟩
 |false=>obtain⟨o,e,_⟩:=x;exact⟨o,e⟩
theorem Vo(g1:Heap)(n:Nat)(e1:g1.objs.size=n+1):∃g2,g2=g1.push {cls:=.type "enumerate",data:=.fields #[.none,.bool false,.ref n,rawInt 0,.none,.none]}/\IsEnum g2 (n+1) n 0 .none/\∀a o,g1.get? a=some o->g2.get? a=some o:=by
 refine⟨_,rfl,?_,λa o e=>B5 _ e⟩;have q:=D0 g1 (o:={cls:=.type "enumerate",data:=.fields #[.none,.bool false,.ref n,rawInt 0,.none,.none]}) rfl;rw[e1]at q;exact q
set_option maxHeartbeats 1000000 in
theorem SE{b:Bool}(l:Addr)(xs:Array Value):Meets (Builtin.«enumerate.__new__» ⟨[.type "enumerate",.ref l],[]⟩) (λ_ R s=>Gc b s.heap l xs /\
   ∀g,IsEnum g (s.heap.objs.size+1) s.heap.objs.size 0 .none->Gd b g s.heap.objs.size l 0->(∀a o,s.heap.get? a=some o->g.get? a=some o)->R (.ok (.ret (.ref (s.heap.objs.size+1)))) {s with heap:=g}) :=
 .of_wp λprog w A R s h=>by
  obtain⟨hp,g,d,tk,os⟩:=s;obtain⟨hl,h⟩:=h;obtain⟨ol,eol⟩:=hl.obj;have hsub:=sub_enumerate;have fin:∀g1,Gd b g1 hp.objs.size l 0->g1.objs.size=hp.objs.size+1->(∀c o,hp.get? c=some o->g1.get? c=some o)->∃v,Fin.done (Flow.ret (.ref g1.objs.size))=Fin.done (Flow.ret v)/\R (.ok (.ret v)) ⟨g1.push {cls:=.type "enumerate",data:=.fields #[.none,.bool false,.ref hp.objs.size,rawInt 0,.none,.none]},g,d,tk,os⟩:=λg1 i1 z1 k1=>by
   obtain⟨g2,e2,a1,k2⟩:=Vo g1 hp.objs.size z1;refine⟨_,rfl,?_⟩;have key:=h g2 a1 (i1.move λo e=>k2 _ o e) λa o e=>k2 _ _ (k1 _ _ e);dsimp only at key;rw[e2,<-z1]at key;exact key
  wp_walk using AutoSeq1.wpAny_loadPart' eol
  refine wpAny_stack_any λst=>K5 ?_;split
  ·rename_i c' _ _ _ _ _;cases(c'==Value.type "enumerate")
   ·wp_walk using AutoSeq1.wpAny_loadPart' eol,Jm hl
    intro g1 i1 z1 k1
    wp_walk
    exact fin g1 i1 z1 k1
   ·wp_walk using AutoSeq1.wpAny_loadPart' eol,Jm hl
    intro g1 i1 z1 k1
    wp_walk
    exact fin g1 i1 z1 k1
  ·wp_walk using AutoSeq1.wpAny_loadPart' eol,Jm hl
   intro g1 i1 z1 k1
   wp_walk
   exact fin g1 i1 z1 k1
theorem OM{prog:Program}{w:World}{A:Around}{b:Bool}(hA:A.handled=none)(I l:Addr)(ne:l≠I)(vs:Array Value) :
  Draws prog w A I [I,l] vs.size (λk v=>vs[k]?=some v) (λk h=>Gd b h I l k/\Gc b h l vs) where
 live:=λ_ _ st=>let ⟨o,ho,_⟩:=st.1.there;⟨o,ho⟩
 frame:=λ_ _ _ st hk=>⟨st.1.move λo e=>hk I A5 o e,st.2.move λo e=>hk l A5 o e⟩
 item:=λk s Q E hi st hQ=>LS st.1 st.2 (v:=vs[k]) (by simp[hi]) λg hI sb=>hQ _ g s.toks (by simp[hi]) ⟨hI,st.2.move λo e=>(sb.2 l ne).trans e⟩ sb
 done:=λs Q E st hE=>MU hA st.1 st.2 A5 hE
def Ite(K:PySem.W.Frag)(b:Bool)(l:Addr):It :=
 ⟨λi H=>∃xs x,SqX K b H l xs/\xs[i]?=some x,
  λi H v H'=>∃(T:Addr)(x:V),v=.ref T/\H T=none/\H'=upd H T (.tup [.int i,x])/\∀xs,SqX K b H l xs->xs[i]?=some x,
  λi H=>∃xs,SqX K b H l xs/\xs.length=i⟩
theorem Uz{P:Program}{w:World}{K:PySem.W.Frag}{es:List Expr}{n:Nat}{tpos:Pos}{b:Bool}{e I l:Addr}(eI:e≠I)(le:l≠e)(lI:l≠I) :
  Qw P w K (.Tuple es n tpos) (Ite K b l) [e,I] e (λk h=>(∃old,IsEnum h e I k old)/\Gd b h I l k) where
 mem:=by simp
 obj:=λk h st a ha=>by
  obtain⟨⟨old,he⟩,hI⟩:=st;simp only[C2,L9,A3d]at ha;rcases ha with rfl|rfl
  ·exact⟨_,he,λv t=>by cases t⟩
  ·exact hI.there
 keep:=λk h h' st kp=>by
  obtain⟨⟨old,he⟩,hI⟩:=st;exact⟨⟨old,kp e A5 _ he⟩,hI.move λo t=>kp I A5 o t⟩
 item:=by
  intro X hP hw hK hc k pins s σ H E J hf st hg;subst hP hw hK;obtain⟨⟨old,he⟩,hI⟩:=st;obtain⟨xs,x,sx,hx⟩:=hg;obtain⟨us,ru,ou⟩:=J.sq sx;have lu:=ru.length;have hk:k<xs.length:=(B3.mp hx).1;refine wpAny_pyNext_enum_itemD (OM (b:=b) (A:=X.A.in1) (J.ok.hd hc) I l lI us.toArray) he ⟨hI,ou⟩ (by simp;lia) eI (by simp[eI,A0c le]) λu g tk hu gE gS gT gs gk=>⟨_,rfl,?_⟩
  obtain⟨u',hu',rxu⟩:=ru.get hx;have eu:u=u':=by
   have:us[k]?=some u:=by simpa using hu
   rw[hu']at this;exact(K3 this).symm
  subst eu;refine wpAny_letOwnedTupleGo_enum (s:={s with heap:=g,toks:=tk+1}) gE λg2 gE2 sb=>?_;have elt:e<s.heap.objs.size:=C8 he;have kk:∀a o,a∉[e,I]->s.heap.get? a=some o->g2.get? a=some o:=λa o ha t=>(sb.2 a (λz=>ha (by simp[z]))).trans (gk a o (λz=>ha (by simp[z])) (λz=>ha (by simp[z])) t);obtain⟨nT,J2⟩:=J.pair (tk:=tk+1) (x:=.int k) (u:=.int k tk) kk hf ⟨tk,rfl⟩ rxu ((sb.2 _ (Z8 elt)).trans gT);refine⟨.ref s.heap.objs.size,_,J2,rfl,⟨_,x,rfl,nT,rfl,λxs' q'=>by rw[J.sq_inj q' sx];exact hx⟩,⟨⟨_,by simpa using gE2⟩,gS.1.move λo t=>(sb.2 I (A0c eI)).trans t⟩,λa ha=>?_⟩;have t:=(hf a ha).1;have lt:a≠s.heap.objs.size:=by
   simp only[C2,L9,A3d]at ha;rcases ha with z|z<;>subst z
   ·exact F3 elt
   ·obtain⟨o,t,_⟩:=hI.there;exact F3 (C8 t)
  rw[At lt];exact t
 done:=by
  intro X hP hw hK hc k pins s σ H E J hf st hg;subst hP hw hK;obtain⟨⟨old,he⟩,hI⟩:=st;obtain⟨xs,sx,hend⟩:=hg;obtain⟨us,ru,ou⟩:=J.sq sx;have lu:=ru.length;have ek:k=us.toArray.size:=by simp;lia
  refine wpAny_pyNext_enum_endD (OM (b:=b) (A:=X.A.in1) (J.ok.hd hc) I l lI us.toArray) he ⟨ek▸hI,ou⟩ λg gk=>⟨rfl,?_⟩
  exact J.turnedL (tk:=s.toks) (ch:=[e,I]) (λa o ha t=>gk a o (λz=>ha (by simp[z])) t) hf
 self:=λA i s Q E st h=>by
  obtain⟨⟨old,he⟩,_⟩:=st;exact wpAny_pyIter_enum he h
section
variable{X:Cx}{es:List Expr}{n:Nat}{tpos p pos:Pos}{e1 e2:Expr}{t:TA}
theorem Gc.lt{b:Bool}{h:Heap}{l:Addr}{vs:Array Value}(x:Gc b h l vs):l<h.objs.size:=by
 cases b with
 |true=>obtain⟨o,e,_⟩:=x;exact C8 e
 |false=>obtain⟨o,e,_⟩:=x;exact C8 e
def iEnum(b:Bool)(K:PySem.W.Frag)(t:TA):TI:=fun σ H R=>t σ H λvs H1=>∃(l:Addr),vs=[.ref l]/\(∃xs,SqX K b H1 l xs)/\R (Ite K b l) H1
theorem Ml(b:Bool)(hg:Gl X "enumerate")(hm:X.mg "enumerate" = none)(ha:PA X [e1] t)(hs:starEach [e1] X.env=[(false,eval e1 X.env)]:=by rfl) :
  PI X (.Tuple es n tpos) (.Call (.Name "enumerate" p) [e1] [] pos) (iEnum b X.K t):=by
 intro pins s σ H R I h;refine Call_ (Iq I hg hm PyProof.Rows.boot_enumerate (A2d (thn (ha pos pins s σ H _ I h) λus s1 ⟨vs,H1,I1,r1,q1⟩=>?_) hs rfl));obtain⟨l,rfl,⟨xs,sx⟩,q⟩:=q1;obtain⟨u,rfl,ru⟩:=r1.one;cases(show u=Value.ref l from ru);obtain⟨ul,_,ol⟩:=I1.sq sx;refine callType_new F.called_enumerate A4 (F.typeCall_enumerate_1 _) (F.newCall_enumerate_1 _) (λobj=>F.args_object_init_2 obj _) F.entry_enumerate_new (SE (b:=b) l ul.toArray) ⟨ol,λg gE gi gk=>?_⟩;refine⟨⟨_,gE,rfl⟩,wpAny_pyIter_enum (s:={s1 with heap:=g}) gE ?_⟩;have ll:=ol.lt;refine⟨s1.heap.objs.size+1,_,_,_,H1,rfl,I1.kept (t':=s1.toks) gk,Uz (e:=s1.heap.objs.size+1) (I:=s1.heap.objs.size) (l:=l) (Nat.succ_ne_self _) (F3 (V8 ll)) (F3 ll),⟨⟨_,gE⟩,gi⟩,λa ha=>?_,q⟩;have le:s1.heap.objs.size<=a:=by
  simp only[C2,L9,A3d]at ha;rcases ha with t|t<;>rw[t]<;>first|exact B1 _|exact Nat.le_add_right _ _
 exact I1.fpOk le (I1.hok.fresh le)
end
section
variable{K:PySem.W.Frag}{b c:Bool}{l m:Addr}{xs ys:List V}{σ:St}{H:Hp}
theorem Iv{K:PySem.W.Frag}{i j:Nat}{T:Addr}{x y:V}{σ:St}{H:Hp}{Q:St->Hp->Prop}(h:H T=some (.tup [x,y]))(q:Q ((σ.set i (some x)).set j (some y)) H):gTup K 2 (Yn (Rs i) (Yn (Rs j) gNil)) (.ref T) σ H Q :=
 ⟨T,_,rfl,SqT.of h,rfl,x,_,rfl,y,_,rfl,rfl,q⟩
theorem JP{g:TG}{tb:TS}{D:JU}(Pv:Nat->St->Hp->Prop)(h0:Pv 0 σ H)(hl:∀i σ H,i<=xs.length->Pv i σ H->SqX K b H l xs)
  (hs:∀i x σ H T,xs[i]?=some x->Pv i σ H->H T=none->g (.ref T) σ (upd H T (.tup [.int i,x])) fun σ2 H2=>tb {D with nx:=Pv (i+1),ct:=Pv (i+1),bk:=D.nx} σ2 H2) (hd:∀σ H,Pv xs.length σ H->D.nx σ H) :
  ∃W:Nat->Nat->St->Hp->Prop,(∃m,W 0 m σ H)/\∀i m σ H,W i m σ H ->
   ((Ite K b l).stop i H/\D.nx σ H)\/((Ite K b l).go i H/\∃N:St->Hp->Prop,(∀σ' H',N σ' H'->∃m',m'<m/\W (i+1) m' σ' H')/\∀x H',(Ite K b l).yld i H x H'->g x σ H' fun σ2 H2=>tb {D with nx:=N,ct:=N,bk:=D.nx} σ2 H2):=by
 refine⟨λi m σ H=>m=xs.length-i/\i<=xs.length/\Pv i σ H,⟨xs.length,by simp,G9 _,h0⟩,?_⟩;rintro i m σ H ⟨rfl,hi,p⟩;have q:=hl i σ H hi p;by_cases hlt:i<xs.length
 ·refine .inr ⟨⟨xs,xs[i],q,by simp[hlt]⟩,Pv (i+1),fun σ' H' p'=>⟨xs.length-(i+1),by lia,rfl,hlt,p'⟩,λx H' y=>?_⟩;obtain⟨T,z,rfl,nT,rfl,hz⟩:=y;exact hs i z σ _ T (hz xs q) p nT
 ·have e:i=xs.length:=by lia
  subst e;exact .inl ⟨⟨xs,q,rfl⟩,hd σ H p⟩
variable{k:Nat}{cs:List Nat}{g:TG}{tc:TT}{te:TE}{fin:List V->Hp->Prop}
theorem blk_str{x:Str}(Pv:Nat->List V->Hp->Prop)(h0:Pv 0 [] H)(hs:∀i ch acc H,x.cps.toList[i]?=some ch->Pv i acc H->Bt k cs g tc te σ (.str ⟨#[ch]⟩) acc H (Pv (i+1)))(hd:∀acc H,Pv x.cps.toList.length acc H->fin acc H):GY k cs g tc te (Its x) σ H fin:=by
 have e0:x.cps.toList.length=x.cps.size:=by simp
 refine⟨λi m acc H=>m=x.cps.size-i/\i<=x.cps.size/\Pv i acc H,⟨x.cps.size,by simp,G9 _,h0⟩,?_⟩;rintro i m acc H ⟨rfl,hi,p⟩;by_cases hlt:i<x.cps.size
 ·refine .inr ⟨hlt,Pv (i+1),λacc' H' p'=>⟨x.cps.size-(i+1),by lia,rfl,hlt,p'⟩,λv H' y=>?_⟩;obtain⟨e,ch,hch,rfl⟩:=y;subst e;exact hs i ch acc _ (by simpa using hch) p
 ·have e:i=x.cps.size:=by lia
  subst e;exact .inl ⟨rfl,hd acc H (by rw[e0];exact p)⟩
end
theorem rm{a b:Nat}{A:Around}(h:BT b A)(hle:a<=b:=by first|decide|lia):BT a A:=h.mono hle
structure Cal(P:Program)(w:World)(K:PySem.W.Frag)(mg:Str->Option Value)(base:Heap)(CX:CXT)(k:Nat)(x:Str)(ps:List Str)(sp:Sp):Prop where
 ex:∃(f:Addr)(fd:FuncData),AC P w K mg base CX k f fd ps sp/\mg x=some (.ref f)/\keepIn K (.ref f)=true/\BN K fd ps []
structure Cw(P:Program)(w:World)(K:PySem.W.Frag)(mg:Str->Option Value)(base:Heap)(CX:CXT)(k:Nat)(C:Addr)(m:Str)(ps:List Str)(sp:Sp):Prop where
 ex:∃(f:Addr)(fd:FuncData),AC P w K mg base CX k f fd ps sp/\RQ K C m f/\BN K fd ps []
 cl:Cls K C
structure CalC(P:Program)(w:World)(K:PySem.W.Frag)(mg:Str->Option Value)(base:Heap)(CX:CXT)(k:Nat)(x:Str)(C:Addr)(ps:List Str)(sp:Sp):Prop where
 ex:∃(f:Addr)(fd:FuncData),AC P w K mg base CX k f fd ps sp/\Mk K C f/\mg x=some (.ref C)/\BN K fd ps []
section
variable{X:Cx}{CX:CXT}{k:Nat}{C:Addr}{ps:List Str}{sp:Sp}{E:XK}{x m:Str}{p pos apos:Pos}{e o:Expr}{es:List Expr}{ta:TE}{t:TA}
theorem Aq(c:Cal X.prog X.w X.K X.mg X.base CX k x ps sp)(hr:BT k X.A)(hg:Gl X x)(hx:FO CX X E)(ha:PA X (e::es) t)(hdb:(x==("__debug__" : Str))=false:=by decide)
  (he:starEach (e::es) X.env=(false,eval e X.env)::starEach es X.env:=by rfl) (hpl:(backTo pos (starEach es X.env)).any (·.1)=false:=by rfl):PE X (.Call (.Name x p) (e::es) [] pos) (Tr sp [] E t):=by
 obtain⟨f,fd,F,hm,hk,hb⟩:=c.ex;exact pe_call F hr hg hm hk hb .nil hx ha hdb he hpl
theorem AE{pl:Sem Bool}(he:PE X o ta)(c:Cw X.prog X.w X.K X.mg X.base CX k C m ps sp)(hr:BT k X.A)(hx:FO CX X E)(ha:PA X (e::es) t)
  (hst:starEach (e::es) X.env=(false,eval e X.env)::starEach es X.env:=by rfl) (hpl:(backTo pos (starEach es X.env)).any (·.1)=false:=by rfl)
  (ht:eval (.Call (.Attribute o m apos) (e::es) [] pos) X.env=(do
   let ov <-eval o X.env;standAt apos.atName;let (f,first) <-holding [ov] (getMethod ov m pl);callWith pos f first (backTo pos (starEach (e::es) X.env)) (backToKw pos (keywordEach [] X.env))):=by rfl):PE X (.Call (.Attribute o m apos) (e::es) [] pos) (tMeth C m sp [] E ta t):=by
 obtain⟨f,fd,F,hm,hb⟩:=c.ex;exact pe_meth he c.cl hm F hr hb .nil hx ha hst hpl ht
theorem Wt(c:CalC X.prog X.w X.K X.mg X.base CX k x C ps sp)(hr:BT (k+1) X.A)(hg:Gl X x)(hx:FO CX X E)(hdb:(x==("__debug__" : Str))=false:=by decide):PE X (.Call (.Name x p) [] [] pos) (tMake C sp [] E tNil):=by
 obtain⟨f,fd,F,M,hm,hb⟩:=c.ex;exact Wl M F hr hg hm hb .nil hx hdb
theorem BO{i:Int}(hg:Gl X x)(hm:∃tk,X.mg x=some (.int i tk))(hd:(x==("__debug__" : Str))=false:=by decide):PE X (.Name x pos) (tC (.int i)):=by
 obtain⟨tk,hm⟩:=hm;exact Px hg hm ⟨tk,rfl⟩ hd
theorem EA{z:Str}(hg:Gl X x)(hm:∃tk,X.mg x=some (.str z tk))(hd:(x==("__debug__" : Str))=false:=by decide):PE X (.Name x pos) (tC (.str z)):=by
 obtain⟨tk,hm⟩:=hm;exact Px hg hm ⟨tk,rfl⟩ hd
theorem Cn{a:Addr}(hg:Gl X x)(hm:X.mg x=some (.ref a))(hd:(x==("__debug__" : Str))=false:=by decide):PE X (.Name x pos) (tC (.ref a)):=Px hg hm rfl hd
end
def cOk(So:Scope)(No:List Str)(scope:Scope)(N:List Str)(k:Nat)(cs:List Nat):Bool :=
 scope.names.all (λy=>y.2 != .cell) && (scope.kind==.function && (scope.names.all (λy=>y.2 != .local || scope.names.lookup y.1==some .local) && (scope.names.all (λy=>y.2 != .free || (So.names.lookup y.1==some .cell || So.names.lookup y.1==some .free)) &&
  (N.length==k+cs.length && (List.range cs.length).all λj=>match N[k+j]?,No[cs.getD j 0]? with
   |some x,some y=>x==y && scope.names.lookup x==some .free
   |_,_=>false))))
theorem Cd.of{X:Cx}{So:Scope}{No:List Str}{scope:Scope}{N:List Str}{k:Nat}{cs:List Nat}(hS:X.env.scope=So)(hN:X.N=No)(h:cOk So No scope N k cs=true):Cd X scope N k cs:=by
 subst hS hN;unfold cOk at h;simp only[N8,N7,bne_iff_ne,ne_eq,Bool.or_eq_true,A5h,M0]at h;obtain⟨h1,h2,h3,h4,h5,h6⟩:=h;refine⟨h1,h2,λy hy e=>?_,λy hy e=>?_,h5,λj hj=>?_⟩
 ·rcases h3 y hy with z|z
  ·exact absurd e z
  ·exact z
 ·rcases h4 y hy with z|z
  ·exact absurd e z
  ·exact z
 ·have z:=h6 j hj;split at z
  ·rename_i x y e1 e2;simp only[N8,A5h]at z;obtain⟨z1,z2⟩:=z;subst z1;exact⟨x,e1,e2,z2⟩
  ·cases z
theorem LQ{σ:St}{H:Hp}{A B:Hp->Prop}(h:A H):tYes σ H λb H3=>if b=true then A H3 else B H3:=by
 show if true=true then A H else B H;exact Bq h
theorem Qv{tb:TE}{σ:St}{H:Hp}{Q:VK}{b1 b2:Bool}(h2:b1=true->∀Q':VK,Q' (.bl b2) H->tb σ H Q')(q:Q (.bl (b1 && b2)) H):∃c,V.bl b1=.bl c/\if c=true then tb σ H Q else Q (.bl false) H:=by
 cases b1 with
 |true=>exact⟨true,rfl,Bq (h2 rfl Q q)⟩
 |false=>exact⟨false,rfl,AS q⟩
theorem VD{u:TT}{σ:St}{H:Hp}{Q:Bool->Hp->Prop}{b1 b2:Bool}(h2:b1=true->∀Q':Bool->Hp->Prop,Q' b2 H->u σ H Q')(q:Q (b1 && b2) H):if b1=true then u σ H Q else Q false H:=by
 cases b1 with
 |true=>exact Bq (h2 rfl Q q)
 |false=>exact AS q
section
variable{X:Cx}{scope:Scope}{N:List Str}{s:Shared}{H:Hp}{ex:List Addr}{x y:Str}{px py pos:Pos}{k:Nat}
theorem Cf{i:Nat}(hN:N.Nodup)(hi:N[i]?=some x)(hl:(relabel scope X.env).names.lookup x=some .local):PG (cxC X scope N s H ex) (.Name x pos) (Rs i):=AD (X:=cxC X scope N s H ex) hN hi (.inl hl) (.inr hl)
end
section
variable{X:Cx}
theorem JJ:MtR X "str.partition" (λx xs H Q=>∃a b,x=.str a/\xs=[.str b]/\(b.length==0)=false/\a.length<=100000/\∀p,H p=none->Q (.ref p) (upd H p (.tup [.str (Txt.partition a b).1,.str (Txt.partition a b).2.1,.str (Txt.partition a b).2.2]))):=by
 intro pins s σ H x xs v us Q I rx r h;obtain⟨a,b,rfl,rfl,hb,ha,q⟩:=h;obtain⟨t,rfl⟩:=rx;obtain⟨u,rfl,hu⟩:=r.one;obtain⟨tb,rfl⟩:=hu;have fin:∀(its:List Value)(tk:Nat),AN [.str (Txt.partition a b).1,.str (Txt.partition a b).2.1,.str (Txt.partition a b).2.2] its->EP X pins σ Q (.ref s.heap.objs.size) {s with heap:=s.heap.push {cls:=.type "tuple",data:=.seq its.toArray},toks:=tk}:=λits tk hv =>
  ⟨.ref _,_,I.laid (t':=tk) (o:=.tup [.str (Txt.partition a b).1,.str (Txt.partition a b).2.1,.str (Txt.partition a b).2.2]) (λ_ _ e=>B5 _ e) (B1 _) ⟨by show 3<=sizeLine;decide,its,hv,_,D0 _ rfl,rfl,_,rfl⟩,rfl,q _ I.fresh⟩
 refine call_meets F.slot_str_partition (typeIs_str _ _ _) F.entry_str_partition (F.args_str_partition_2 _ _) (meets_str_partition a b t tb hb (C6 ha A4)) ?_;show EP X pins σ Q _ _;cases e:Builtin.Str.occurrences a b 0 a.length 1 with
 |nil =>
  refine fin _ _ ?_;unfold Txt.partition;rw[e];exact .cons ⟨_,rfl⟩ (.cons ⟨_,rfl⟩ (.cons ⟨_,rfl⟩ .nil))
 |cons i l =>
  refine fin _ _ ?_;unfold Txt.partition;rw[e];exact .cons ⟨_,rfl⟩ (.cons ⟨_,rfl⟩ (.cons ⟨_,rfl⟩ .nil))
theorem AN.tstrs:∀{l:List Str}{its:List Value},AN (l.map V.str) its->∃ts:List (Str×Tok),its=strValues ts/\ts.map (·.1)=l
 |[],_,.nil=>⟨[],rfl,rfl⟩
 |x::r,_,.cons ⟨t,e⟩ rr=>by
  obtain⟨ts,e1,e2⟩:=AN.tstrs rr;subst e e1;exact⟨(x,t)::ts,rfl,by rw[C9,e2]⟩
theorem PX:MtR X "str.join" (λx xs H Q=>∃(sep:Str)(p:Addr)(l:List Str),x=.str sep/\xs=[.ref p]/\SqL X.K H p (l.map V.str)/\JoinOk sep l=true/\Q (.str (Str.join sep l)) H):=by
 intro pins s σ H x xs v us Q I rx r h;obtain⟨sep,p,l,rfl,rfl,hl,hok,q⟩:=h;obtain⟨t,rfl⟩:=rx;obtain⟨u,rfl,hu⟩:=r.one;cases(show u=Value.ref p from hu);obtain⟨its,rv,pl,_⟩:=I.list hl;obtain⟨ts,rfl,e⟩:=AN.tstrs rv;refine SC.join (texts:=l) pl.isList e hok λt' k=>⟨.str _,H,I.tok k,⟨t',rfl⟩,?_⟩
 have:Txt.join sep l=Str.join sep l:=StrLaws.glued_eq_join sep l;rw[this];exact q
end
end L2
namespace L2
open PySem
section
variable{X:Cx}{es es':List Expr}{t t':TA}{pos:Pos}
theorem AX{i:Int}{j}(hr:PA X es t):PA X (.Constant (.int i) j pos::es) (On (tC (.int i)) t):=Aa Af hr
theorem BL{z:Str}{j}(hr:PA X es t):PA X (.Constant (.str z) j pos::es) (On (tC (.str z)) t):=Aa Bn hr
theorem BE{x1}(h:PA X es' t')(hr:PA X es t):PA X (.Tuple es' x1 pos::es) (On (tTup t') t):=Aa (Ck h) hr
theorem BH{op:Operator}{r:R2}{a b:Expr}{ta tb:TE}(ho:OpR X (binaryOp op) r)(ha:PE X a ta)(hb:PE X b tb)(hr:PA X es t):PA X (.BinOp a op b pos::es) (On (tOp r ta tb) t):=Aa (AA ho ha hb) hr
theorem DT{K:PySem.W.Frag}(h:X.K=K):IxR X (Pt K):=h▸Ax
theorem Yh{K:PySem.W.Frag}(h:X.K=K):IxR X (rIxL K):=h▸AI
end
theorem JN{P:Prop}(h:∀G:Prop,(P->G)->G):P:=h P id
theorem xq1{α:Sort _}{a:α}{P Q:α->Prop}(h:P a)(k:Q a):∃x,P x/\Q x:=⟨a,h,k⟩
theorem xq2{α β:Sort _}{a:α}{b:β}{P Q R:α->β->Prop}(h:P a b)(h':Q a b)(k:R a b):∃x y,P x y/\Q x y/\R x y:=⟨a,b,h,h',k⟩
theorem xq4{α β γ δ:Sort _}{a:α}{b:β}{c:γ}{d:δ}{P Q R S T:α->β->γ->δ->Prop}(h:P a b c d)(h':Q a b c d)(h'':R a b c d)(h3:S a b c d)(k:T a b c d):∃x y z w,P x y z w/\Q x y z w/\R x y z w/\S x y z w/\T x y z w:=⟨a,b,c,d,h,h',h'',h3,k⟩
theorem xq5{K:PySem.W.Frag}{f:Str}{H:Hp}{a C dx:Addr}{fs:List (Str×V)}{v:V}{Q:V->Prop}(h:H a=some (.ins C dx fs))(h2:Cls K C)(h3:Dz K C f)(h4:fs.lookup f=some v)(k:Q v):∃b C dx fs w,V.ref a=.ref b/\H b=some (.ins C dx fs)/\Cls K C/\Dz K C f/\fs.lookup f=some w/\Q w:=⟨a,C,dx,fs,v,rfl,h,h2,h3,h4,k⟩
theorem xw2{α β:Sort _}{a:α}{b:β}{P:α->Prop}{Q:α->β->Prop}{K:α->β->Prop}(h1:P a)(h2:Q a b)(k:K a b):∃x0,P x0/\∃x1,Q x0 x1/\K x0 x1:=⟨a,h1,b,h2,k⟩
theorem xw3{α β γ:Sort _}{a:α}{b:β}{c:γ}{P:α->Prop}{Q:α->β->Prop}{R:α->β->γ->Prop}{K:α->β->γ->Prop}(h1:P a)(h2:Q a b)(h3:R a b c)(k:K a b c):∃x0,P x0/\∃x1,Q x0 x1/\∃x2,R x0 x1 x2/\K x0 x1 x2:=⟨a,h1,b,h2,c,h3,k⟩
theorem xwb{α β γ:Sort _}{a:α}{b:β}{c:γ}{P:α->Prop}{Q:α->β->γ->Prop}{R:α->β->γ->Prop}{K:α->β->γ->Prop}(h1:P a)(h2:Q a b c)(h3:R a b c)(k:K a b c):∃x0,P x0/\∃x1 x2,Q x0 x1 x2/\R x0 x1 x2/\K x0 x1 x2:=⟨a,h1,b,c,h2,h3,k⟩
theorem xwi{α β γ δ ε:Sort _}{a:α}{b:β}{c:γ}{d:δ}{e:ε}{P:α->Prop}{Q:α->β->γ->δ->ε->Prop}{R:α->β->γ->δ->ε->Prop}{S:α->β->γ->δ->ε->Prop}{T:α->β->γ->δ->ε->Prop}{K:α->β->γ->δ->ε->Prop}(h1:P a)(h2:Q a b c d e)(h3:R a b c d e)(h4:S a b c d e)(h5:T a b c d e)(k:K a b c d e):∃x0,P x0/\∃x1 x2 x3 x4,Q x0 x1 x2 x3 x4/\R x0 x1 x2 x3 x4/\S x0 x1 x2 x3 x4/\T x0 x1 x2 x3 x4/\K x0 x1 x2 x3 x4:=⟨a,h1,b,c,d,e,h2,h3,h4,h5,k⟩
theorem xwf{α β γ δ ε ζ:Sort _}{a:α}{b:β}{c:γ}{d:δ}{e:ε}{f:ζ}{P:α->Prop}{Q:α->β->γ->δ->ε->ζ->Prop}{R:α->β->γ->δ->ε->ζ->Prop}{S:α->β->γ->δ->ε->ζ->Prop}{T:α->β->γ->δ->ε->ζ->Prop}{U:α->β->γ->δ->ε->ζ->Prop}{K:α->β->γ->δ->ε->ζ->Prop}(h1:P a)(h2:Q a b c d e f)(h3:R a b c d e f)(h4:S a b c d e f)(h5:T a b c d e f)(h6:U a b c d e f)(k:K a b c d e f):∃x0,P x0/\∃x1 x2 x3 x4 x5,Q x0 x1 x2 x3 x4 x5/\R x0 x1 x2 x3 x4 x5/\S x0 x1 x2 x3 x4 x5/\T x0 x1 x2 x3 x4 x5/\U x0 x1 x2 x3 x4 x5/\K x0 x1 x2 x3 x4 x5:=⟨a,h1,b,c,d,e,f,h2,h3,h4,h5,h6,k⟩
theorem xwn{α β γ δ ε:Sort _}{a:α}{b:β}{c:γ}{d:δ}{e:ε}{P:α->Prop}{Q:α->β->γ->δ->Prop}{R:α->β->γ->δ->Prop}{S:α->β->γ->δ->Prop}{T:α->β->γ->δ->ε->Prop}{K:α->β->γ->δ->ε->Prop}(h1:P a)(h2:Q a b c d)(h3:R a b c d)(h4:S a b c d)(h5:T a b c d e)(k:K a b c d e):∃x0,P x0/\∃x1 x2 x3,Q x0 x1 x2 x3/\R x0 x1 x2 x3/\S x0 x1 x2 x3/\∃x4,T x0 x1 x2 x3 x4/\K x0 x1 x2 x3 x4:=⟨a,h1,b,c,d,h2,h3,h4,e,h5,k⟩
theorem xwj{α β γ δ ε ζ:Sort _}{a:α}{b:β}{c:γ}{d:δ}{e:ε}{f:ζ}{P:α->Prop}{Q:α->β->Prop}{R:α->β->γ->δ->ε->ζ->Prop}{S:α->β->γ->δ->ε->ζ->Prop}{T:α->β->γ->δ->ε->ζ->Prop}{U:α->β->γ->δ->ε->ζ->Prop}{K:α->β->γ->δ->ε->ζ->Prop}(h1:P a)(h2:Q a b)(h3:R a b c d e f)(h4:S a b c d e f)(h5:T a b c d e f)(h6:U a b c d e f)(k:K a b c d e f):∃x0,P x0/\∃x1,Q x0 x1/\∃x2 x3 x4 x5,R x0 x1 x2 x3 x4 x5/\S x0 x1 x2 x3 x4 x5/\T x0 x1 x2 x3 x4 x5/\U x0 x1 x2 x3 x4 x5/\K x0 x1 x2 x3 x4 x5:=⟨a,h1,b,h2,c,d,e,f,h3,h4,h5,h6,k⟩
theorem Bw{A B:TS}{D:JU}{σ:St}{H:Hp}(h:let r:=B D;let s:=σ;∀k:St->Hp->Prop,(∀{σ H},r σ H->k σ H)->let E:JU:={D with nx:=k};A E s H):VF A B D σ H:=h _ λz=>z
end L2
namespace Nu
open PySem PySem.NumText PyProof.Rows
theorem ext{a b:Str}(h:a.cps.toList=b.cps.toList):a=b:=by
 obtain⟨⟨l⟩⟩:=a;obtain⟨⟨r⟩⟩:=b;cases h;rfl
theorem len(x:Str):x.length=x.cps.toList.length:=by simp[Str.length]
theorem cutFrom(x:Str)(i:Int)(h0:0<=i):(Txt.slice x (some i) none).cps.toList=x.cps.toList.drop i.toNat:=by
 by_cases h:i<=x.length
 ·rw[slice_from_eq (x:=x) (i:=i) (b:=(x.length:Int)) h0 h rfl];show((x.cps.toList.drop i.toNat).take _)=_;refine Y1 ?_;rw[List.length_drop,<-len];omega
 ·rw[slice_beyond (x:=x) (i:=i) A6];rw[List.drop_eq_nil_of_le (by rw[<-len];omega)];rfl
theorem cut1'(x:Str):(Txt.slice x (some 1) none).cps.toList=x.cps.toList.drop 1:=cutFrom x 1 A4
def neg:List Nat->Bool
 |45::_=>true
 |_=>false
def fig:List Nat->List Nat
 |45::r=>r
 |cs=>cs
theorem PH(cs:List Nat):neg cs=true↔cs.take 1=[45]:=by
 cases cs with
 |nil=>simp[neg]
 |cons c r =>
  by_cases h:c=45
  ·subst h;simp[neg]
  ·simp[neg,h]
theorem Np{cs:List Nat}(h:neg cs=true):fig cs=cs.drop 1/\cs=45::fig cs:=by
 cases cs with
 |nil=>simp[neg]at h
 |cons c r =>
  by_cases z:c=45
  ·subst z;exact⟨rfl,rfl⟩
  ·simp[neg,z]at h
theorem GL{cs:List Nat}(h:neg cs=false):fig cs=cs:=by
 cases cs with
 |nil=>rfl
 |cons c r =>
  by_cases z:c=45
  ·subst z;simp[neg]at h
  ·simp[fig,z]
def dig(c:Nat):Bool:=decide (48<=c) && decide (c<=57)
def due(cs:List Nat):Option Int :=
 if fig cs=[]\/30<(fig cs).length\/((fig cs).head?=some 48/\cs≠[48])then none
 else if(fig cs).all dig=true then some (if neg cs=true then -((digitsVal (fig cs):Nat):Int)else((digitsVal (fig cs):Nat):Int))else none
theorem all_dig{cs:List Nat}(h:cs.all dig=true):AllDigits cs:=λc hc=>by
 have:=N7.mp h c hc;simp[dig]at this;exact this
theorem Yk{x:Str}{n:Int}(h:due x.cps.toList=some n):PySem.intText? x=some n:=by
 unfold due at h;split at h
 ·cases h
 ·rename_i hc;split at h
  ·rename_i ha;have hd:=all_dig ha;have hne:fig x.cps.toList≠[]:=λz=>hc (.inl z);have hl:(fig x.cps.toList).length<=30:=R6 λz=>hc (.inr (.inl z));cases hn:neg x.cps.toList with
   |true =>
    rw[hn]at h;obtain⟨_,e⟩:=Np hn;have:=intText_neg (x:=x) e hd hne (by rw[len,e,D1];omega);rw[this]
    simpa using h
   |false =>
    rw[hn]at h;rw[GL hn]at hd hne hl h;rw[intText_digits (x:=x) hd hne (by rw[len];omega)]
    simpa using h
  ·cases h
theorem Vp(c:Nat):decide (c∈(Str.ofString "0123456789").cps.toList)=dig c:=by
 have e:(Str.ofString "0123456789").cps.toList=[48,49,50,51,52,53,54,55,56,57]:=by decide +kernel
 rw[e,O2];simp[dig];omega
theorem OG(c:Nat):(!(Builtin.Str.occurrences (Str.ofString "0123456789") ⟨#[c]⟩ 0 (Str.ofString "0123456789").length 1).isEmpty)=dig c:=by
 rw[StrLaws.found_one,Vp]
theorem starts(x:Str):Txt.startswith x (Str.ofString "-")=neg x.cps.toList:=by
 have e1:(Str.ofString "-").cps=#[45]:=by decide +kernel
 have e2:(Str.ofString "-").length=1:=by decide +kernel
 unfold Txt.startswith Builtin.Str.subAt;rw[e1,e2];obtain⟨⟨l⟩⟩:=x;cases l with
 |nil=>rfl
 |cons c r =>
  have h1:(decide (0+1<=(⟨⟨c::r⟩⟩:Str).length))=true:=by simp[Str.length]
  rw[h1,Bool.true_and,O2,PH,A5h];constructor
  ·intro z;have:=A0e Array.toList z
   simpa using this
  ·intro z;apply W9.mp
   simpa using z
end Nu
namespace Tx
open PySem PySem.Builtin PySem.Builtin.Str PyProof.Rows
theorem AJ(a b:Str):(a++b).cps.toList=a.cps.toList++b.cps.toList:=cps_toList_append a b
def jl(sep:List Nat):List (List Nat)->List Nat
 |[]=>[]
 |[x]=>x
 |x::y::r=>x++sep++jl sep (y::r)
theorem JR(sep:Str):∀ts:List Str,(Str.join sep ts).cps.toList=jl sep.cps.toList (ts.map λt=>t.cps.toList)
 |[]=>rfl
 |[x]=>rfl
 |x::y::r=>by
  have e:Str.join sep (x::y::r)=x++sep++Str.join sep (y::r):=rfl;rw[e,AJ,AJ,JR sep (y::r)];rfl
theorem Uk{c:Nat}:∀{x y A B:List Nat},c∉x->c∉y->x++c::A=y++c::B->x=y/\A=B
 |[],[],A,B,_,_,h=>⟨rfl,by simpa using h⟩
 |[],y::ys,A,B,_,hy,h=>by
  simp at h;exact absurd (by rw[h.1];exact D7) hy
 |x::xs,[],A,B,hx,_,h=>by
  simp at h;exact absurd (by rw[<-h.1];exact D7) hx
 |x::xs,y::ys,A,B,hx,hy,h=>by
  simp at h;obtain⟨e,h⟩:=h;obtain⟨e2,e3⟩:=Uk (x:=xs) (y:=ys) (λz=>hx (B9 _ z)) (λz=>hy (B9 _ z)) h;exact⟨by rw[e,e2],e3⟩
theorem Fq(c:Nat)(a b:Str)(h:c∉a.cps.toList):Txt.partition (a++⟨#[c]⟩++b) ⟨#[c]⟩=(a,⟨#[c]⟩,b):=by
 have hin:c∈(a++⟨#[c]⟩++b).cps.toList:=by rw[AJ,AJ];simp
 have hs:=StrLaws.partition_sum (a++⟨#[c]⟩++b) ⟨#[c]⟩;have hh:=partition_head (a++⟨#[c]⟩++b) ⟨#[c]⟩;have ho:=StrLaws.found_one (a++⟨#[c]⟩++b) c;rw[X7 hin]at ho;have hp2:(Txt.partition (a++⟨#[c]⟩++b) ⟨#[c]⟩).2.1=⟨#[c]⟩:=by
  unfold Txt.partition;cases e:occurrences (a++⟨#[c]⟩++b) ⟨#[c]⟩ 0 (a++⟨#[c]⟩++b).length 1 with
  |nil=>rw[e]at ho;simp at ho
  |cons i l=>rfl
 have hp1:c∉(Txt.partition (a++⟨#[c]⟩++b) ⟨#[c]⟩).1.cps.toList:=by
  rcases hh with ⟨_,no⟩|⟨i,e,hA,no⟩
  ·obtain⟨j,hj⟩:=R3 hin;exact absurd ((StrLaws.subAt_one _ c j).mpr hj) (no j)
  ·rw[e];exact StrLaws.part_free _ c 0 i (by have:i+1<=_:=hA.1;lia) λk _ hk=>no k hk
 have e:(Txt.partition (a++⟨#[c]⟩++b) ⟨#[c]⟩).1.cps.toList++(Txt.partition (a++⟨#[c]⟩++b) ⟨#[c]⟩).2.1.cps.toList++(Txt.partition (a++⟨#[c]⟩++b) ⟨#[c]⟩).2.2.cps.toList=a.cps.toList++[c]++b.cps.toList:=by
  have e0:=A0e (λz:Str=>z.cps.toList) hs;rw[AJ,AJ,AJ,AJ]at e0;exact e0
 rw[hp2]at e;have e':(Txt.partition (a++⟨#[c]⟩++b) ⟨#[c]⟩).1.cps.toList++c::(Txt.partition (a++⟨#[c]⟩++b) ⟨#[c]⟩).2.2.cps.toList=a.cps.toList++c::b.cps.toList:=by simpa using e
 obtain⟨e1,e2⟩:=Uk hp1 h e';exact Prod.ext (Nu.ext e1) (Prod.ext hp2 (Nu.ext e2))
end Tx
namespace Tx
open PySem PySem.Builtin PySem.Builtin.Str PyProof.Rows
theorem Qd:∀ts:List (List Nat),jl [] ts=ts.flatten
 |[]=>rfl
 |[x]=>by simp[jl]
 |x::y::r=>by
  show x++[]++jl [] (y::r)=_;rw[Qd (y::r)];simp
theorem Uc(sep:Str)(m:Nat):∀(l:List Str)(acc:Nat),(∀t∈l,t.length<=m)->l.foldl (λa t=>a+t.length+sep.length) acc<=acc+l.length*(m+sep.length)
 |[],acc,_=>by simp
 |t::r,acc,h=>by
  have h1:=h t D7;have h2:=Uc sep m r (acc+t.length+sep.length) λz hz=>h z (B9 _ hz);rw[Q6,D1,Nat.succ_mul];lia
theorem Qc{sep:Str}{l:List Str}(m:Nat)(h:∀t∈l,t.length<=m)(hs:l.length*(m+sep.length)<=100000):JoinOk sep l=true:=by
 unfold JoinOk;have h2:=Uc sep m l 0 h;have e:l.toArray.foldl (λa t=>a+t.length+sep.length) 0=l.foldl (λa t=>a+t.length+sep.length) 0:=by simp
 rw[e];have:tooLong (l.foldl (λa t=>a+t.length+sep.length) 0)=false:=by
  unfold tooLong;refine X6 ?_;have:(100000:Nat)<=sizeLine:=by decide
  lia
 rw[this];rfl
theorem Qt(a b:Str):(a++b).length=a.length+b.length:=by
 rw[Nu.len,Nu.len,Nu.len,AJ,B0]
end Tx
namespace Tx
open PySem PySem.Builtin PySem.Builtin.Str PyProof.Rows
end Tx
namespace Tn
open PySem PySem.Builtin PySem.NumText PyProof.Rows
def dg(m:Nat):List Nat:=(Nat.toDigits 10 m).map Char.toNat
theorem dchar:∀d:Nat,d<10->(Nat.digitChar d).toNat=48+d:=by decide
theorem Iw{m:Nat}(h:m<10):dg m=[48+m]:=by
 unfold dg;rw[Nat.toDigits_of_lt_base h,C9,dchar m h];rfl
theorem ST{m:Nat}(h:10<=m):dg m=dg (m/10)++[48+m%10]:=by
 have hm:m%10<10:=J9 m A4;have t:Nat.toDigits 10 (m/10)++Nat.toDigits 10 (m%10)=Nat.toDigits 10 (10*(m/10)+m%10):=Nat.toDigits_append_toDigits A4 A6 hm;rw[P1]at t;have e:dg m=dg (m/10)++dg (m%10):=by
  unfold dg;rw[<-t,C1]
 rw[e,Iw hm]
theorem Lx(m:Nat):(dg m).all Nu.dig=true:=by
 induction m using Nat.strongRecOn with
 |_ m ih =>
  by_cases h:m<10
  ·rw[Iw h];simp[Nu.dig];omega
  ·have hm:m%10<10:=J9 m A4;rw[ST A6,List.all_append,ih (m/10) A6];simp[Nu.dig];omega
theorem GM:∀(k m:Nat),m<10^(k+1)->(dg m).length<=k+1
 |0,m,h=>by
  rw[Iw (by simpa using h)];exact B1 1
 |k+1,m,h=>by
  by_cases h10:m<10
  ·rw[Iw h10];show 1<=_;omega
  ·rw[ST A6,B0];have:=GM k (m/10) (by rw[T7 A4,<-Y0];exact h);show _+1<=_;omega
theorem IO(m:Nat)(h:1<=m):∃c r,dg m=c::r/\c≠48/\c≠45:=by
 induction m using Nat.strongRecOn with
 |_ m ih =>
  by_cases h10:m<10
  ·exact⟨48+m,[],Iw h10,by omega,by omega⟩
  ·obtain⟨c,r,e,n1,n2⟩:=ih (m/10) A6 A6;exact⟨c,r++[48+m%10],by rw[ST A6,e];rfl,n1,n2⟩
theorem Qo(m:Nat):digitsVal (dg m)=m:=PySem.W.KIN.val_back m
theorem VC(m:Nat):(Str.ofString (toString ((m:Nat):Int))).cps.toList=dg m:=PySem.W.KIN.signs_num m
theorem dg_inj{m n:Nat}(h:dg m=dg n):m=n:=by rw[<-Qo m,h,Qo]
theorem dg_due{m:Nat}(h1:1<=m)(h2:m<10^13):Nu.due (dg m)=some (m:Int):=by
 obtain⟨c,r,e,n1,n2⟩:=IO m h1;have hn:Nu.neg (dg m)=false:=by
  rw[e];cases hh:Nu.neg (c::r)with
  |false=>rfl
  |true =>
   have:=(Nu.PH (c::r)).mp hh;simp at this;exact absurd this n2
 have hl:=GM 12 m h2;unfold Nu.due;rw[Nu.GL hn,X8,X9 (Lx m),hn,X8 A4,Qo];rintro(z|z|⟨z,_⟩)
 ·rw[e]at z;cases z
 ·omega
 ·rw[e]at z;injection z with z
  exact n1 z
theorem OA{m:Nat}(h:m<10^30):((m:Nat):Int).natAbs.log2<1920:=by
 rw[Int.natAbs_natCast];by_cases h0:m=0
 ·subst h0;decide
 ·have:m.log2<100:=(Nat.log2_lt h0).mpr (F4 h A4);omega
end Tn
namespace L2
open PySem PySem.Spec PyProof.Rows
def tFstr2(ta tb:TE):TE:=fun σ H Q=>ta σ H λx H1=>∃i:Int,x=.int i/\i.natAbs.log2<1920/\tb σ H1 λy H2=>∃z:Str,y=.str z/\z.length<=100000/\Q (.str (Str.ofString (toString i)++z)) H2
section
variable{X:Cx}
theorem JS(x:Str):Str.empty++x=x:=Nu.ext (by rw[cps_toList_append];rfl)
theorem Wn{a b:Expr}{ta tb:TE}{p q pos:Pos}(ha:PE X a ta)(hb:PE X b tb):PE X (.JoinedStr [.FormattedValue a (-1) none p,.FormattedValue b (-1) none q] pos) (tFstr2 ta tb):=by
 intro pins s σ H Q I h;refine JoinedStr_many (A1g (A2e (thn (ha pins s σ H _ I h) λv s1 ⟨x,H1,I1,rx,i,ex,hz,q1⟩=>?_)));subst ex;obtain⟨t,rfl⟩:=rx;have hl:(Str.ofString (toString i)).length<=1921:=A1f hz;refine A4h hz ⟨?_,?_⟩
 ·rw[JS];exact C6 hl A4
 ·refine A1g (A2e (thn (hb pins _ σ H1 _ (I1.tok _) q1) λv s2 ⟨y,H2,I2,ry,z,ez,hz2,q2⟩=>?_));subst ez;obtain⟨t',rfl⟩:=ry;have hs:(Str.empty++Str.ofString (toString i)++z).length<=sizeLine:=by
   rw[JS,A4b];exact C6 (Q0 hl hz2) A4
  refine formatField_str (λt2 tk=>⟨hs,joinParts_nil ?_ hs⟩) (C6 hz2 A4);rw[JS];exact⟨.str _,H2,(I2.tok _).tok _,⟨_,rfl⟩,q2⟩
end
def tFstr4(ta tc tb td:TE):TE:=fun σ H Q=>ta σ H λx H1=>∃i:Int,x=.int i/\i.natAbs.log2<1920/\tc σ H1 λy H2=>∃z:Str,y=.str z/\z.length<=1000/\tb σ H2 λx2 H3=>∃j:Int,x2=.int j/\j.natAbs.log2<1920/\td σ H3 λy2 H4=>∃z2:Str,y2=.str z2/\z2.length<=1000/\Q (.str (Str.ofString (toString i)++z++Str.ofString (toString j)++z2)) H4
section
variable{X:Cx}
theorem QS{a b c d:Expr}{ta tb tc td:TE}{p q pos:Pos}(ha:PE X a ta)(hc:PE X c tc)(hb:PE X b tb)(hd:PE X d td):PE X (.JoinedStr [.FormattedValue a (-1) none p,c,.FormattedValue b (-1) none q,d] pos) (tFstr4 ta tc tb td):=by
 intro pins s σ H Q I h;refine JoinedStr_many (A1g (A2e (thn (ha pins s σ H _ I h) λv s1 ⟨x,H1,I1,rx,i,ex,hz,q1⟩=>?_)));subst ex;obtain⟨t,rfl⟩:=rx;have hl:(Str.ofString (toString i)).length<=1921:=A1f hz;refine A4h hz ⟨?_,?_⟩
 ·rw[JS];exact C6 hl A4
 refine A1g (thn (hc pins _ σ H1 _ (I1.tok _) q1) λv s2 ⟨y,H2,I2,ry,z,ez,hz2,q2⟩=>?_);subst ez;obtain⟨t',rfl⟩:=ry;have hs:(Str.empty++Str.ofString (toString i)++z).length<=3000:=by
  rw[JS,A4b];exact C6 (Q0 hl hz2) A4
 refine⟨C6 hs A4,?_⟩;refine A1g (A2e (thn (hb pins _ σ H2 _ I2 q2) λv s3 ⟨x3,H3,I3,rx3,j,ex3,hz3,q3⟩=>?_));subst ex3;obtain⟨t3,rfl⟩:=rx3;have hl3:(Str.ofString (toString j)).length<=1921:=A1f hz3;have hs3:(Str.empty++Str.ofString (toString i)++z++Str.ofString (toString j)).length<=5000:=by
  rw[A4b];exact C6 (Q0 hs hl3) A4
 refine A4h hz3 ⟨C6 hs3 A4,?_⟩;refine A1g (thn (hd pins _ σ H3 _ (I3.tok _) q3) λv s4 ⟨y4,H4,I4,ry4,z4,ez4,hz4,q4⟩=>?_);subst ez4;obtain⟨t4,rfl⟩:=ry4;have hs4:(Str.empty++Str.ofString (toString i)++z++Str.ofString (toString j)++z4).length<=sizeLine:=by
  rw[A4b];exact C6 (Q0 hs3 hz4) A4
 refine⟨hs4,joinParts_nil ?_ hs4⟩;rw[JS];exact⟨.str _,H4,I4.tok _,⟨_,rfl⟩,q4⟩
theorem WQ:MtR X "str.index" (λx xs H Q=>∃(a b:Str)(i:Nat)(r:List Nat),x=.str a/\xs=[.str b]/\Builtin.Str.occurrences a b 0 a.length 1=i::r/\Q (.int (i:Int)) H):=by
 intro pins s σ H x xs v us Q I rx r h;obtain⟨a,b,i,rr,rfl,rfl,ho,q⟩:=h;obtain⟨t,rfl⟩:=rx;cases r with
 |cons r1 r2 =>
  cases r2;obtain⟨u,rfl⟩:=r1;exact call_gives PySem.F.slot_str_index (typeIs_str _ _ _) PySem.F.entry_str_index (PySem.F.args_str_index_2 _ _) (gives_str_index a b t u i rr ho) ⟨.int _,H,I.tok _,⟨_,rfl⟩,q⟩
end
section
variable{K:PySem.W.Frag}{b:Bool}{l:Addr}{xs:List V}{σ:St}{H:Hp}{k:Nat}{cs:List Nat}{g:TG}{tc:TT}{te:TE}{fin:List V->Hp->Prop}
end
section
variable{X:Cx}
theorem pe_fldK{K:PySem.W.Frag}{e:Expr}{f:Str}{ta:TE}{pos:Pos}(hK:X.K=K)(he:PE X e ta)(hb:attributeBase e f X.env (eval e X.env)=eval e X.env):PE X (.Attribute e f pos) (tFld K ta f):=hK▸AT he hb
end
section
variable{X:Cx}
theorem LG(ns:List Int):∀k,k<=ns.length->preSum (λi=>ns.getD i 0) k=(ns.take k).sum
 |0,_=>by simp[preSum]
 |k+1,h=>by
  have h':k<ns.length:=h;show preSum _ k+ns.getD k 0=_;rw[LG ns k (M4 h'),D3,C3 h',C0,C3 h',U7];show _+ns[k]=_+(ns[k]+0)
  rw[Y3]
theorem Ff{ns:List Int}{its:List Value}(rv:AN (ns.map V.int) its):∀(i:Nat) v,its.toArray[i]?=some v->∃t,v=.int (ns.getD i 0) t:=λi v e=>by
 have e:its[i]?=some v:=by simpa using e
 cases eb:ns[i]? with
 |none =>
  have:its[i]?=none:=rv.none_of (by rw[B7,eb];rfl);rw[e]at this;cases this
 |some b =>
  obtain⟨u,hu,ru⟩:=rv.get (i:=i) (x:=V.int b) (by rw[B7,eb];rfl);rw[e]at hu;cases hu;rw[C0,eb];obtain⟨t,rfl⟩:=ru;exact⟨t,rfl⟩
theorem Nv(hc:X.calm=true):Ew X (.builtin "sum") (λxs H Q=>∃(p:Addr)(ns:List Int),xs=[.ref p]/\SqL X.K H p (ns.map V.int)/\Q (.int ns.sum) H):=by
 intro pins s σ H xs us Q I r h;obtain⟨p,ns,rfl,hq,q⟩:=h;cases r with
 |cons r1 r2 =>
  cases r2;cases(show _=Value.ref p from r1);obtain⟨its,rv,pl,hz⟩:=I.list hq;have hlt:p<s.heap.objs.size:=by obtain⟨o,n,e,_⟩:=pl;exact C8 e
  have hne:p≠s.heap.objs.size:=F3 hlt;have len:its.toArray.size=ns.length:=by rw[D6,<-rv.length,A9]
  refine call_sum_walkAnyS (A4c pl.isList ?_);refine⟨s.heap.objs.size,_,_,_,_,_,_,λi=>ns.getD i 0,rfl,(Walks.list (A:=X.A.in1) (I.ok.hd hc) s.heap.objs.size p hne its.toArray).toS,⟨⟨_,D0 _ rfl,rfl,rfl⟩,?_⟩,?_,Ff rv,?_⟩
  ·exact pl.isList.at λo e=>B5 _ e
  ·intro b hb;show b<(s.heap.push _).objs.size;rw[R4];rcases C2.mp hb with rfl|hb
   ·exact U1 _
   ·rcases C2.mp hb with rfl|hb
    ·exact V8 hlt
    ·cases hb
  ·intro s' t' mv;have I2:Inv X pins σ H {s with heap:=s'.heap,toks:=s'.toks}:=I.kept λb o e=>mv.heap b o (by intro z;exact F3 (C8 e) (by simpa using z)) (B5 _ e);have es:s'={s with heap:=s'.heap,toks:=s'.toks}:=by
    obtain⟨m1,m2,m3,m4,m5⟩:=mv;cases s';simp only at m2 m3 m4;subst m2;subst m3;subst m4;rfl
   rw[es,len,LG ns _ (B1 _),F2];exact⟨.int ns.sum,H,I2,⟨t',rfl⟩,q⟩
theorem Lz(hc:X.calm=true):Ew X (.builtin "min") (λxs H Q=>∃(p:Addr)(ns:List Int),xs=[.ref p]/\SqL X.K H p (ns.map V.int)/\ns≠[]/\∀m∈ns,(∀x∈ns,m<=x)->Q (.int m) H):=by
 intro pins s σ H xs us Q I r h;obtain⟨p,ns,rfl,hq,ne,q⟩:=h;cases r with
 |cons r1 r2 =>
  cases r2;cases(show _=Value.ref p from r1);obtain⟨its,rv,pl,hz⟩:=I.list hq;have hlt:p<s.heap.objs.size:=by obtain⟨o,n,e,_⟩:=pl;exact C8 e
  have hne:p≠s.heap.objs.size:=F3 hlt;have len:its.toArray.size=ns.length:=by rw[D6,<-rv.length,A9]
  have pos:0<ns.length:=List.length_pos_iff.mpr ne;refine call_min_walk (A4c pl.isList ?_);refine⟨s.heap.objs.size,_,_,_,_,_,_,rfl,(Walks.list (A:=X.A.in1) (I.ok.hd hc) s.heap.objs.size p hne its.toArray),⟨⟨_,D0 _ rfl,rfl,rfl⟩,?_⟩,?_,by rw[len];exact pos,CmpOf.ints_lt (λi=>ns.getD i 0) (Ff rv),?_⟩
  ·exact pl.isList.at λo e=>B5 _ e
  ·intro b hb;show b<(s.heap.push _).objs.size;rw[R4];rcases C2.mp hb with rfl|hb
   ·exact U1 _
   ·rcases C2.mp hb with rfl|hb
    ·exact V8 hlt
    ·cases hb
  ·intro v h' tk hP kk;have I2:Inv X pins σ H {s with heap:=h',toks:=tk}:=I.kept λb o e=>kk b o (by intro z;exact F3 (C8 e) (by simpa using z)) (B5 _ e);obtain⟨t,rfl⟩:=Ff rv _ _ hP;obtain⟨b1,b2⟩:=argBest_lt (λi=>ns.getD i 0) (its.toArray.size-1);generalize argBest (λi j=>decide (ns.getD i 0<ns.getD j 0)) (its.toArray.size-1)=z at b1 b2 hP⊢;rw[len]at b1 b2;have hz2:z<ns.length:=by lia
   have ez:ns.getD z 0=ns[z]:=by rw[C0,C3 hz2];rfl
   refine⟨.int _,H,I2,⟨t,rfl⟩,q _ (by rw[ez];exact N6 hz2) λx hx=>?_⟩;obtain⟨j,hj,e⟩:=Y9.mp hx;have:=b2 j A0;have ej:ns.getD j 0=x:=by rw[C0,C3 hj,<-e];rfl
   rw[<-ej];exact this
theorem OQ(hc:X.calm=true):Ew X (.builtin "max") (λxs H Q=>∃(p:Addr)(ns:List Int),xs=[.ref p]/\SqL X.K H p (ns.map V.int)/\ns≠[]/\∀m∈ns,(∀x∈ns,x<=m)->Q (.int m) H):=by
 intro pins s σ H xs us Q I r h;obtain⟨p,ns,rfl,hq,ne,q⟩:=h;cases r with
 |cons r1 r2 =>
  cases r2;cases(show _=Value.ref p from r1);obtain⟨its,rv,pl,hz⟩:=I.list hq;have hlt:p<s.heap.objs.size:=by obtain⟨o,n,e,_⟩:=pl;exact C8 e
  have hne:p≠s.heap.objs.size:=F3 hlt;have len:its.toArray.size=ns.length:=by rw[D6,<-rv.length,A9]
  have pos:0<ns.length:=List.length_pos_iff.mpr ne;refine call_max_walk (A4c pl.isList ?_);refine⟨s.heap.objs.size,_,_,_,_,_,_,rfl,(Walks.list (A:=X.A.in1) (I.ok.hd hc) s.heap.objs.size p hne its.toArray),⟨⟨_,D0 _ rfl,rfl,rfl⟩,?_⟩,?_,by rw[len];exact pos,CmpOf.ints_gt (λi=>ns.getD i 0) (Ff rv),?_⟩
  ·exact pl.isList.at λo e=>B5 _ e
  ·intro b hb;show b<(s.heap.push _).objs.size;rw[R4];rcases C2.mp hb with rfl|hb
   ·exact U1 _
   ·rcases C2.mp hb with rfl|hb
    ·exact V8 hlt
    ·cases hb
  ·intro v h' tk hP kk;have I2:Inv X pins σ H {s with heap:=h',toks:=tk}:=I.kept λb o e=>kk b o (by intro z;exact F3 (C8 e) (by simpa using z)) (B5 _ e);obtain⟨t,rfl⟩:=Ff rv _ _ hP;obtain⟨b1,b2⟩:=argBest_gt (λi=>ns.getD i 0) (its.toArray.size-1);generalize argBest (λi j=>decide (ns.getD i 0 > ns.getD j 0)) (its.toArray.size-1)=z at b1 b2 hP⊢;rw[len]at b1 b2;have hz2:z<ns.length:=by lia
   have ez:ns.getD z 0=ns[z]:=by rw[C0,C3 hz2];rfl
   refine⟨.int _,H,I2,⟨t,rfl⟩,q _ (by rw[ez];exact N6 hz2) λx hx=>?_⟩;obtain⟨j,hj,e⟩:=Y9.mp hx;have:=b2 j A0;have ej:ns.getD j 0=x:=by rw[C0,C3 hj,<-e];rfl
   rw[<-ej];exact this
end
theorem YG(ns ms:List Int):((List.range (min ns.length ms.length)).all (λj=>ns.getD j 0==ms.getD j 0) && ns.length==ms.length)=decide (ns=ms):=by
 rw[O2,N8,N7,A5h,decide_eq_true_iff];constructor
 ·rintro⟨h1,h2⟩;refine List.ext_getElem h2 λi h3 h4=>?_;have:=h1 i (M0.mpr A0);rw[A5h,C0,C0,C3 h3,C3 h4]at this;exact this
 ·rintro rfl;exact⟨λx _=>beq_iff_eq.mpr rfl,rfl⟩
section
variable{X:Cx}
theorem UA{H:Hp}{ns:List Int}{its:List Value}(rv:AN (ns.map V.int) its){A:Around}{s:Shared}{ms:List Int}{jts:List Value}(rw':AN (ms.map V.int) jts)(j:Nat)(h1:j<its.toArray.size)(h2:j<jts.toArray.size):PySem.SeqAt.EqAt A s its.toArray[j] jts.toArray[j] (ns.getD j 0==ms.getD j 0):=by
 obtain⟨t,e⟩:=Ff rv j _ (B4 h1);obtain⟨u,e2⟩:=Ff rw' j _ (B4 h2);rw[e,e2];exact PySem.SeqAt.EqAt.int_int _ t _ u
theorem UN(hu:X.A.units+64<cLine):OpR X (compareOp .Eq) (λx y H Q=>∃(a b:Addr)(ns ms:List Int),x=.ref a/\y=.ref b/\SqT X.K H a (ns.map V.int)/\SqT X.K H b (ms.map V.int)/\Q (.bl (decide (ns=ms))) H):=by
 intro pins s σ H x y v u Q I rx ry h;obtain⟨a,b,ns,ms,rfl,rfl,h1,h2,q⟩:=h;cases rx;cases ry;obtain⟨xs,r1,p1,_⟩:=I.tuple h1;obtain⟨ys,r2,p2,_⟩:=I.tuple h2;refine PySem.SeqAt.eq_tupleAt p1 p2 A0 (λj k1 k2=>UA (H:=H) r1 r2 j k1 k2) ?_;rw[D6,D6,<-r1.length,<-r2.length,A9,A9,YG];exact⟨.bl _,H,I,rfl,q⟩
end
section
variable{prog:Program}{w:World}{κ:Type}[DecidableEq κ]{knd:HeapKind prog w κ}{A:Around}{E:Value->Shared->Prop}{s:Shared}
end
section
variable{X:Cx}{pins:List (Addr×Obj)}{σ:St}{H:Hp}{s:Shared}{a:Addr}{y v:V}{u r:Value}{o:Option V}{A:Around}{E:Value->Shared->Prop}
end
section
variable{X:Cx}{o e f:Expr}{apos cpos:Pos}{td ty tx:TE}
end
section
variable{prog:Program}{w:World}{A:Around}{E:Value->Shared->Prop}{s:Shared}{d it:Addr}{o:Obj}{es:Array DictEntry}{ep i:Nat}
end
section
variable{X:Cx}
end
abbrev NE:=Sum Int (List Int)
abbrev NK:=List NE
def isR:NE->Bool
 |.inl _=>false
 |.inr _=>true
section
variable(P:Program)(w:World)
inductive Cc(h:Heap):NK->List Value->Prop
 |nil:Cc h [] []
 |int {i:Int} {v:Value} {ks:NK} {vs:List Value} (e:(intKind P w).is i v=true) (r:Cc h ks vs):Cc h (.inl i::ks) (v::vs)
 |tup {ps:List Int} {b:Addr} {ks:NK} {vs:List Value} (e:IsTupleKey (intKind P w) h ps b) (r:Cc h ks vs):Cc h (.inr ps::ks) (.ref b::vs)
structure FQ(sh:List Bool)(h:Heap)(k:NK)(a:Addr):Prop where
 shape:k.map isR=sh
 ex:∃o its n,h.get? a=some o/\o.cls=.type "tuple" /\ o.data=.seq its n/\Cc P w h k its.toList
def LM:NE->Int
 |.inl i=>(intKind P w).hash i
 |.inr ps=>tupleKeyHash (intKind P w) ps
def LN:NE->Nat
 |.inl _=>1
 |.inr ps=>ps.length+1
def WN(k:NK):Int:=reduceHash (Builtin.Tuple.tupleHashOf (k.map (LM P w)))
def WO(k:NK):Nat:=(k.map LN).sum+1
end
section
variable{P:Program}{w:World}{sh:List Bool}{h h':Heap}
theorem Cc.inj{x y:NK}{vs:List Value}(hx:Cc P w h x vs):Cc P w h y vs->x.map isR=y.map isR->x=y:=by
 induction hx generalizing y with
 |nil=>intro hy _;cases hy;rfl
 |int e r ih =>
  intro hy hs;cases hy with
  |int e' r' =>
   rw[C9,C9]at hs;rw[(intKind P w).inj _ _ _ e e',ih r' (A3e hs).2]
  |tup e' r'=>cases hs
 |tup e r ih =>
  intro hy hs;cases hy with
  |int e' r'=>cases hs
  |tup e' r' =>
   rw[C9,C9]at hs;rw[e.inj e',ih r' (A3e hs).2]
theorem Cc.keep{x:NK}{vs:List Value}(hx:Cc P w h x vs)(k:∀ps b,IsTupleKey (intKind P w) h ps b->IsTupleKey (intKind P w) h' ps b):Cc P w h' x vs:=by
 induction hx with
 |nil=>exact .nil
 |int e r ih=>exact .int e ih
 |tup e r ih=>exact .tup (k _ _ e) ih
theorem FQ.ty{s:Shared}{k:NK}{a:Addr}(x:FQ P w sh s.heap k a):s.TypeIs (.ref a) "tuple" := by
 obtain⟨o,_,_,ho,hc,_⟩:=x.ex;exact⟨o,ho,hc⟩
variable{A:Around}{E:Value->Shared->Prop}{s:Shared}
theorem UO{k:NK}{a:Addr}{Q:Int->Shared->Prop}(hu:A.units+1<cLine)(hk:FQ P w sh s.heap k a)(q:Q (WN P w k) {s with toks:=s.toks+WO k}):wpAny (model P w) A (pyHash (.ref a)) Q E s:=by
 have ty:=hk.ty;obtain⟨_,o,its,n,ho,_,hd,hi⟩:=hk;unfold pyHash
 first|unfold pyHashByItsType|skip
 first|refine X5 (wpAny_cRoomFor_or (.inr A0) ?_)|skip
 refine X5 (A6b ty PySem.F.slot_tuple_hash.lookup ?_);show wpAny _ _ (if(some (Value.builtin "tuple.__hash__")==some Value.none)=true then _ else _) Q E s;rw[X8 (by rw[beq_builtin_none];exact D4)];refine X5 (A6b ty PySem.F.slot_tuple_hash.lookup ?_);show wpAny _ _ (callSpecialIfBoundUnlessNone? (.ref a) "__hash__" _ >>= _) Q E s;refine X5 (wpAny_callSpecialIfBoundUnlessNone?_slot ty PySem.F.slot_tuple_hash (A7f PySem.F.slot_tuple_hash ty PySem.F.entry_tuple_hash ?_ (PySem.F.args_tuple_hash_1 _)));show wpAny _ _ (Builtin.Tuple.tupleItemsOf (.ref a) >>= _) _ _ s;refine X5 (A9a ho hd (X5 ?_));rw[<-Z6];refine A7g _ (λrest (b:Array Int) s'=>∃dn lf,k=dn++lf/\Cc P w s.heap lf rest/\b.toList=dn.map (LM P w)/\s'={s with toks:=s.toks+(dn.map LN).sum}) _ ?_ ?_ _ _ ⟨[],k,rfl,hi,rfl,rfl⟩
 ·rintro x rest b s' ⟨dn,lf,rfl,hl,hb,rfl⟩;cases hl with
  |@int i v ks vs e r =>
   refine X5 ((intKind P w).pyHash e ?_);have fin:∃d l,dn++Sum.inl i::ks=d++l/\Cc P w s.heap l rest/\(b.push ((intKind P w).hash i)).toList=d.map (LM P w)/\({s with toks:=s.toks+(dn.map LN).sum+1}:Shared)={s with toks:=s.toks+(d.map LN).sum}:=⟨dn++[.inl i],ks,by simp,r,by simp[hb,LM],by simp[LN,U2]⟩
   first|exact K5 fin|exact X5 (K5 (K5 fin))
  |@tup ps c ks vs e r =>
   refine X5 (wpAny_pyHash_tuple (by show A.units+1<cLine;exact hu) e ?_);have fin:∃d l,dn++Sum.inr ps::ks=d++l/\Cc P w s.heap l rest/\(b.push (tupleKeyHash (intKind P w) ps)).toList=d.map (LM P w)/\({s with toks:=s.toks+(dn.map LN).sum+(ps.length+1)}:Shared)={s with toks:=s.toks+(d.map LN).sum}:=⟨dn++[.inr ps],ks,by simp,r,by simp[hb,LM],by simp[LN,U2]⟩
   first|exact K5 fin|exact X5 (K5 (K5 fin))
 ·rintro b s' ⟨dn,lf,rfl,hl,hb,rfl⟩;cases hl;rw[M2]at q;show wpAny _ _ (retInt (Builtin.Tuple.tupleHashOf b.toList)) _ _ _;rw[hb];refine wpAny_ret_mkInt ?_;unfold WN WO reduceHash at q;show wpAny _ _ (if(decide (-(2:Int)^63<=Builtin.Tuple.tupleHashOf (dn.map (LM P w))) && decide (Builtin.Tuple.tupleHashOf (dn.map (LM P w))<2^63))=true then _ else _) Q E _;split at q
  ·rename_i z;rw[X9 z];exact K5 (by simpa[U2] using q)
  ·rename_i z;rw[X8 z];exact X5 (A4e (K5 (by simpa[U2] using q)))
theorem PF{x y:NK}{a b:Addr}{R:Fin->Shared->Prop}(hu:A.units<cLine)(hx:FQ P w sh s.heap x a)(hy:FQ P w sh s.heap y b)(q:R (.done (.ret (.bool (decide (x=y))))) s):wpAny (model P w) A (Builtin.«tuple.__eq__» ⟨[.ref a,.ref b],[]⟩) R E s:=by
 have tb:=hy.ty;obtain⟨sx,oa,xs,na,hoa,_,hda,hia⟩:=hx;obtain⟨sy,ob,ys,nb,hob,_,hdb,hib⟩:=hy;show wpAny _ _ (isInstance (.ref b) (.type "tuple") >>= _) _ _ s;refine X5 (wpAny_isInstance tb A8c ?_);simp only[M9,F8,A2b];refine X5 (A9a hoa hda (X5 (A9a hob hdb (X5 ?_))));refine A7g _ (λrest r s'=>r.1=none/\s'=s/\∃x' y' us vs,rest=List.zip us vs/\Cc P w s.heap x' us/\Cc P w s.heap y' vs/\x'.map isR=y'.map isR/\decide (x'=y')=decide (x=y)/\(us.length==vs.length)=(xs.size==ys.size)) _ ?_ ?_ _ _ ⟨rfl,rfl,x,y,xs.toList,ys.toList,rfl,hia,hib,sx.trans sy.symm,rfl,by simp⟩
 ·rintro⟨u,v⟩ rest r s' ⟨hr,rfl,x',y',us,vs,hz,hx',hy',hsh,hdec,hlen⟩;cases hx' with
  |nil=>simp at hz
  |@int i1 u' ks us' e1 r1 =>
   cases hy' with
   |nil=>simp at hz
   |@int i2 v' ks' vs' e2 r2 =>
    simp only[List.zip_cons_cons,List.cons.injEq,Prod.mk.injEq]at hz;obtain⟨⟨rfl,rfl⟩,rfl⟩:=hz;rw[C9,C9]at hsh;refine X5 ((intKind P w).eqBool e1 e2 ?_);by_cases hk:i1=i2
    ·subst hk;rw[X7 rfl];simp only[M9,F8,A2b];refine K5 ⟨rfl,rfl,ks,ks',us',vs',rfl,r1,r2,(A3e hsh).2,?_,by simpa using hlen⟩;rw[<-hdec];exact decide_eq_decide.mpr ⟨λz=>by rw[z],λz=>(A3e z).2⟩
    ·rw[X6 hk];simp only[Bool.not_false,if_true];have hf:decide (x=y)=false:=by rw[<-hdec];exact X6 λz=>hk (Sum.inl.inj (A3e z).1)
     rw[hf]at q;exact X5 (K5 (K5 (K5 q)))
   |tup e2 r2=>cases hsh
  |@tup ps1 c1 ks us' e1 r1 =>
   cases hy' with
   |nil=>simp at hz
   |int e2 r2=>cases hsh
   |@tup ps2 c2 ks' vs' e2 r2 =>
    simp only[List.zip_cons_cons,List.cons.injEq,Prod.mk.injEq]at hz;obtain⟨⟨rfl,rfl⟩,rfl⟩:=hz;rw[C9,C9]at hsh;refine X5 (wpAny_eqBool_tuple hu e1 e2 ?_);by_cases hk:ps1=ps2
    ·subst hk;rw[X7 rfl];simp only[M9,F8,A2b];refine K5 ⟨rfl,rfl,ks,ks',us',vs',rfl,r1,r2,(A3e hsh).2,?_,by simpa using hlen⟩;rw[<-hdec];exact decide_eq_decide.mpr ⟨λz=>by rw[z],λz=>(A3e z).2⟩
    ·rw[X6 hk];simp only[Bool.not_false,if_true];have hf:decide (x=y)=false:=by rw[<-hdec];exact X6 λz=>hk (Sum.inr.inj (A3e z).1)
     rw[hf]at q;exact X5 (K5 (K5 (K5 q)))
 ·rintro⟨r1,r2⟩ s' ⟨hr,rfl,x',y',us,vs,hz,hx',hy',hsh,hdec,hlen⟩;simp only at hr;subst hr;refine K5 ?_;have hfin:(xs.size==ys.size)=decide (x=y):=by
   rw[<-hdec,<-hlen];cases hx' with
   |nil =>
    cases hy' with
    |nil=>simp
    |int _ _=>cases hsh
    |tup _ _=>cases hsh
   |int _ _ =>
    cases hy' with
    |nil=>cases hsh
    |int _ _=>simp at hz
    |tup _ _=>cases hsh
   |tup _ _ =>
    cases hy' with
    |nil=>cases hsh
    |int _ _=>cases hsh
    |tup _ _=>simp at hz
  show R (.done (.ret (.bool (xs.size==ys.size)))) s';rw[hfin];exact q
theorem nest_eq{x y:NK}{a b:Addr}{Q:Bool->Shared->Prop}(hu:A.units+1<cLine)(hx:FQ P w sh s.heap x a)(hy:FQ P w sh s.heap y b)(q:Q (decide (x=y)) s):wpAny (model P w) A (eqBool (.ref a) (.ref b)) Q E s:=by
 unfold eqBool
 try with_reducible refine A4a ?_
 show wpAny _ _ (if(Value.ref a==Value.ref b)=true then _ else _) Q E s;by_cases hab:(Value.ref a==Value.ref b)=true
 ·rw[X9 hab];have e:a=b:=by have:=eq_of_beq hab;injection this
  subst e;have:x=y:=by
   obtain⟨s1,o,its,n,ho,_,hd,hi⟩:=hx;obtain⟨s2,o',its',n',ho',_,hd',hi'⟩:=hy;obtain rfl:o=o':=K3 (ho.symm.trans ho');rw[hd]at hd';injection hd' with h1 _
   subst h1;exact hi.inj hi' (s1.trans s2.symm)
  subst this;exact X5 (A4e (K5 (by simpa using q)))
 ·rw[X8 hab];exact X5 (wpAny_richCompare_same_room (op:=.Eq) hx.ty hy.ty PySem.F.slot_tuple_eq (A7f PySem.F.slot_tuple_eq hx.ty PySem.F.entry_tuple_eq (PF (by show A.units+1<cLine;exact hu) hx hy ⟨_,rfl,(λe=>nomatch e),A1c q⟩) (PySem.F.args_tuple_eq_2 _ _)) A0)
theorem UF{n:Nat}{ps:List Int}{a:Addr}{Q:Bool->Shared->Prop}(hk:IsTupleKey (intKind P w) s.heap ps a)(q:Q true s):wpAny (model P w) A (eqIsQuiet (n+1) (.ref a)) Q E s:=by
 have ty:=hk.typeIs;obtain⟨o,its,m,ho,_,hd,hi⟩:=hk;unfold eqIsQuiet;refine X5 (A6b ty PySem.F.slot_tuple_eq.lookup ?_);show wpAny _ _ (isInstance (.ref a) (.type "tuple") >>= _) _ _ s;refine X5 (wpAny_isInstance ty A8c ?_);simp only[M9,F8,A2b];refine X5 (A8d ho hd (X5 ?_));show wpAny _ _ (forIn its _ _) _ _ s;rw[<-Z6];refine A7g _ (λrest r s'=>r.1=none/\s'=s/\∀v∈rest,carriedByValue v=true) _ ?_ ?_ _ _ ⟨rfl,rfl,hi.byValue⟩
 ·rintro v rest r s' ⟨hr,rfl,hall⟩;rw[eqIsQuiet_byValue _ (hall v D7)];refine X5 (K5 ?_);simp only[M9,F8,A2b];exact K5 ⟨rfl,rfl,λu hv=>hall u (B9 _ hv)⟩
 ·rintro⟨r1,r2⟩ s' ⟨hr,rfl,_⟩;simp only at hr;subst hr;exact K5 q
theorem Sr{x:NK}{a:Addr}{Q:Bool->Shared->Prop}(hk:FQ P w sh s.heap x a)(q:Q true s):wpAny (model P w) A (eqIsQuiet 8 (.ref a)) Q E s:=by
 have ty:=hk.ty;obtain⟨_,o,its,m,ho,_,hd,hi⟩:=hk;unfold eqIsQuiet;refine X5 (A6b ty PySem.F.slot_tuple_eq.lookup ?_);show wpAny _ _ (isInstance (.ref a) (.type "tuple") >>= _) _ _ s;refine X5 (wpAny_isInstance ty A8c ?_);simp only[M9,F8,A2b];refine X5 (A8d ho hd (X5 ?_));show wpAny _ _ (forIn its _ _) _ _ s;rw[<-Z6];refine A7g _ (λrest r s'=>r.1=none/\s'=s/\∃x',Cc P w s.heap x' rest) _ ?_ ?_ _ _ ⟨rfl,rfl,x,hi⟩
 ·rintro v rest r s' ⟨hr,rfl,x',hx'⟩;cases hx' with
  |int e r1 =>
   rw[eqIsQuiet_byValue _ ((intKind P w).byValue _ _ e)];refine X5 (K5 ?_);simp only[M9,F8,A2b];exact K5 ⟨rfl,rfl,_,r1⟩
  |tup e r1 =>
   refine X5 (UF (n:=6) e ?_);simp only[M9,F8,A2b];exact K5 ⟨rfl,rfl,_,r1⟩
 ·rintro⟨r1,r2⟩ s' ⟨hr,rfl,_⟩;simp only at hr;subst hr;exact K5 q
end
def JG(P:Program)(w:World)(sh:List Bool):HeapKind P w NK where
 is:=FQ P w sh
 hash:=WN P w
 draws:=WO
 room:=λA=>A.units+1<cLine
 inj:=λhx hy=>by
  obtain⟨s1,o,its,n,ho,_,hd,hi⟩:=hx;obtain⟨s2,o',its',n',ho',_,hd',hi'⟩:=hy;obtain rfl:o=o':=K3 (ho.symm.trans ho');rw[hd]at hd';injection hd' with h1 _
  subst h1;exact hi.inj hi' (s1.trans s2.symm)
 keeps:=λ{h h' k a d o es ep} hx ho hd hs=>by
  obtain⟨s1,o',its,n,ho',hc,hd',hi⟩:=hx;have ne:a≠d:=by
   rintro rfl;obtain rfl:o'=o:=K3 (ho'.symm.trans ho);rw[hd]at hd';exact nomatch hd'
  exact⟨s1,o',its,n,(hs.2 a ne).trans ho',hc,hd',hi.keep λps b e=>e.keeps ho hd hs⟩
 pyHash:=λhu hk q=>UO hu hk q
 eqBool:=λhu hx hy q=>nest_eq hu hx hy q
 quiet:=λhk q=>Sr hk q
def NEl(H:Hp):NE->V->Prop
 |.inl i,v=>v=.int i
 |.inr ps,v=>∃t,v=.ref t/\H t=some (.tup (ps.map V.int))
def FP(H:Hp)(b:Addr)(k:NK):Prop:=∃vs,H b=some (.tup vs)/\Paired (NEl H) k vs
abbrev KN(H:Hp):List (NK×V)->List (NK×Addr×Value)->Prop:=Paired λp q=>p.1=q.1/\FP H q.2.1 p.1/\AY p.2 q.2.2
def UE(P:Program)(w:World)(sh:List Bool)(a:Addr)(xs:List (NK×Addr×Value)):Heap->Prop:=λh=>∃o es ep,h.get? a=some o/\o.ExactDict/\o.data=.dict es ep/\es.toList=xs.map (entryOfKey (JG P w sh))
structure Bp(P:Program)(w:World)(sh:List Bool)(H:Hp)(a:Addr)(kvs:List (NK×V)):Prop where
 ex:∃xs,H a=some (.ext (UE P w sh a xs))/\KN H kvs xs/\(xs.map (·.1)).Nodup/\(∀x∈xs,x.1.map isR=sh)/\kvs.length<=sizeLine/\(a==sysModules)=false
section
variable{P:Program}{w:World}{sh:List Bool}{H H':Hp}{h h':Heap}{a b:Addr}{k:NK}{kvs:List (NK×V)}
theorem FP.keep(ht:∀b ys,H b=some (.tup ys)->H' b=some (.tup ys))(e:FP H b k):FP H' b k:=by
 obtain⟨vs,e,r⟩:=e;refine⟨vs,ht _ _ e,Paired.imp' (λx v z=>?_) r⟩;cases x with
 |inl i=>exact z
 |inr ps =>
  obtain⟨t,z1,z2⟩:=z;exact⟨t,z1,ht _ _ z2⟩
theorem KN.keep{xs:List (NK×Addr×Value)}(ht:∀b ys,H b=some (.tup ys)->H' b=some (.tup ys))(r:KN H kvs xs):KN H' kvs xs:=Paired.imp' (λp q z=>⟨z.1,z.2.1.keep ht,z.2.2⟩) r
theorem Bp.keep(n:Bp P w sh H a kvs)(ht:∀b ys,H b=some (.tup ys)->H' b=some (.tup ys))(ha:∀o,H a=some o->H' a=some o):Bp P w sh H' a kvs:=by
 obtain⟨xs,e,r,z⟩:=n.ex;exact⟨xs,ha _ e,KN.keep ht r,z⟩
theorem Vi{ps:List Int}{us:List Value}(r:AN (ps.map V.int) us):ItemsAre (intKind P w) ps us:=by
 induction ps generalizing us with
 |nil=>cases r;exact .nil
 |cons i ps ih =>
  cases r with
  |cons r1 r2 =>
   obtain⟨t,rfl⟩:=(show ∃t,_=Value.int i t from r1)
   exact .cons (by show Value.isInt i (.int i t)=true;simp[Value.isInt]) (ih r2)
theorem int_key(ok:HOk P w H h){ps:List Int}(e:H a=some (.tup (ps.map V.int))):IsTupleKey (intKind P w) h ps a:=by
 obtain⟨_,its,r,o,h1,h2,n,h3⟩:=(show Bl P w H h a (.tup (ps.map V.int))from ok a _ e)
 exact⟨o,its.toArray,n,h1,h2,h3,by simpa using Vi r⟩
theorem PB(ok:HOk P w H h)(e:FP H b k)(hs:k.map isR=sh):FQ P w sh h k b:=by
 obtain⟨vs,e,r⟩:=e;obtain⟨_,its,rv,o,h1,h2,n,h3⟩:=(show Bl P w H h b (.tup vs)from ok b _ e)
 refine⟨hs,o,its.toArray,n,h1,h2,h3,?_⟩;have go:∀{k:NK}{vs:List V}{us:List Value},Paired (NEl H) k vs->AN vs us->Cc P w h k us:=by
  intro k vs us r;induction r generalizing us with
  |nil=>intro rv;cases rv;exact .nil
  |@cons x v ks vs hx t ih =>
   intro rv;cases rv with
   |cons r1 r2 =>
    cases x with
    |inl i =>
     have hx:v=.int i:=hx;subst hx;obtain⟨tk,rfl⟩:=(show ∃t,_=Value.int i t from r1)
     exact .int (by show Value.isInt i (.int i tk)=true;simp[Value.isInt]) (ih r2)
    |inr ps =>
     obtain⟨tt,rfl,h4⟩:=hx;cases(show _=Value.ref tt from r1);exact .tup (int_key ok h4) (ih r2)
 simpa using go r rv
theorem PD(ok:HOk P w H h)(n:Bp P w sh H a kvs):∃xs,H a=some (.ext (UE P w sh a xs))/\KN H kvs xs/\h.DictOfH (JG P w sh) a xs/\(∀x∈xs,x.1.map isR=sh)/\kvs.length<=sizeLine/\(a==sysModules)=false:=by
 obtain⟨xs,e,r,nd,hs,z,y⟩:=n.ex;obtain⟨⟨o,es,ep,h1,h2,h3,h4⟩,_⟩:=(show Bl P w H h a (.ext _)from ok a _ e)
 refine⟨xs,e,r,⟨o,es,ep,h1,h2,h3,h4,λx hx=>?_,nd⟩,hs,z,y⟩;have all:∀{l:List (NK×V)}{m:List (NK×Addr×Value)},KN H l m->∀x∈m,FP H x.2.1 x.1:=by
  intro l m q;induction q with
  |nil=>intro x hx;exact nomatch hx
  |@cons p q ps qs hq t ih =>
   intro x hx;rcases C2.mp hx with e|hx
   ·subst e;rw[<-hq.1];exact hq.2.1
   ·exact ih x hx
 exact PB ok (all r x hx) (hs x hx)
theorem KN.val{xs:List (NK×Addr×Value)}(r:KN H kvs xs)(k:NK):GP (Bv kvs k) ((atKey xs k).map (·.2)):=by
 induction r with
 |nil=>exact True.intro
 |@cons p q ps qs h t ih =>
  obtain⟨h1,_,h2⟩:=h;by_cases e:p.1=k
  ·rw[BC e,show atKey (q::qs) k=some q.2 by simp[atKey,P2,h1.symm.trans e]];exact h2
  ·have e':¬q.1=k:=λz=>e (h1.trans z);rw[Bm e,show atKey (q::qs) k=atKey qs k by simp[atKey,P2,e']];exact ih
theorem KN.put{xs:List (NK×Addr×Value)}(r:KN H kvs xs)(k:NK){y:V}{u:Value}(hb:FP H b k)(ry:AY y u):KN H (CK kvs k y) (storedH xs k b u):=by
 have e:(kvs.any λkv=>decide (kv.1=k))=(atKey xs k).isSome:=by rw[EL,(r.val k).isSome_eq,Z7]
 unfold CK storedH;rw[e];by_cases q:(atKey xs k).isSome=true
 ·rw[X9 q,X9 q];clear e q;induction r with
  |nil=>exact .nil
  |@cons p q ps qs h t ih =>
   refine .cons ?_ ih;obtain⟨h1,h2,h3⟩:=h;unfold putAt;dsimp only;by_cases z:p.1=k
   ·rw[X9 z,X9 (h1.symm.trans z)];exact⟨h1,h2,ry⟩
   ·rw[X8 z,X8 λq=>z (h1.trans q)];exact⟨h1,h2,h3⟩
 ·rw[X8 q,X8 q];exact A2h r ⟨rfl,hb,ry⟩
end
def tDNewN(P:Program)(w:World)(sh:List Bool):TE:=λ_ H Q=>∀p H',H p=none->Az H H'->Bp P w sh H' p []->Q (.ref p) H'
def tDGetN(P:Program)(w:World)(sh:List Bool)(td ty:TE):TE:=fun σ H Q=>td σ H λx H1=>∃a,x=.ref a/\(∃kvs,Bp P w sh H1 a kvs)/\ty σ H1 λy H2=>∃b k kvs,y=.ref b/\Bp P w sh H2 a kvs/\FP H2 b k/\k.map isR=sh/\Q ((Bv kvs k).getD .non) H2
def sDPutN(P:Program)(w:World)(sh:List Bool)(td ty tv:TE):TS:=λD σ H=>tv σ H λv H1=>td σ H1 λx H2=>ty σ H2 λy H3=>∃a b k kvs,x=.ref a/\y=.ref b/\Bp P w sh H3 a kvs/\FP H3 b k/\k.map isR=sh/\kvs.length<sizeLine/\∀H4,(∀c o,H3 c=some o->c≠a->H4 c=some o)->Bp P w sh H4 a (CK kvs k v)->D.nx σ H4
section
variable{X:Cx}{sh:List Bool}
theorem QZ{xs:List (NK×Addr×Value)}{H:Hp}{h:Heap}{a:Addr}(r:UE X.prog X.w sh a xs h):Bl X.prog X.w H h a (.ext (UE X.prog X.w sh a xs)):=by
 obtain⟨o,es,ep,h1,h2,h3,h4⟩:=id r;refine⟨r,⟨o,h1⟩,λg1 g2 hp hk=>?_⟩;obtain⟨o',es',ep',i1,i2,i3,i4⟩:=hp;exact⟨o',es',ep',hk o' i1,i2,i3,i4⟩
theorem QT{pos:Pos}:PE X (.Dict [] [] pos) (tDNewN X.prog X.w sh):=λpins s σ H Q I h=>by
 have fr:=I.hok.fresh (B1 s.heap.objs.size);have lo:(s.heap.objs.size==sysModules)=false:=beq_eq_false_iff_ne.mpr (A0c (F3 I.big));refine wpAny_Dict_empty ⟨.ref s.heap.objs.size,upd H s.heap.objs.size (.ext (UE X.prog X.w sh s.heap.objs.size [])),I.laid (a:=s.heap.objs.size) (t':=s.toks) (λ_ _ q=>B5 _ q) (B1 _) (QZ ⟨_,#[],0,D0 _ rfl,⟨rfl,rfl,rfl⟩,rfl,rfl⟩),rfl,h _ _ fr (λb o e=>by rw[At (As e fr)];exact e) ⟨[],Ag,.nil,V4,(λx hx=>by simp at hx),G9 _,lo⟩⟩
variable{o e:Expr}{apos cpos:Pos}{td ty:TE}
theorem Wp(hu:X.A.units+64<cLine)(ho:PE X o td)(he:PE X e ty)(m:M1 X o "get" apos e cpos):PE X (.Call (.Attribute o "get" apos) [e] [] cpos) (tDGetN X.prog X.w sh td ty):=by
 intro pins s σ H Q I h;refine wpAny_Call_method m.base m.few m.line PySem.F.plainAttrs_dict A3f PySem.F.type_dict_get (thn (ho pins s σ H _ I h) λu s1 ⟨x,H1,I1,rx,a,ex,⟨kvs,d⟩,q1⟩=>?_);subst ex;obtain rfl:u=Value.ref a:=rx;obtain⟨xs,_,_,dd,_⟩:=PD I1.hok d;refine⟨dd.typeIs,λb q=>?_,?_⟩
 ·cases q;obtain⟨ob,_,_,h1,h2,_⟩:=dd;exact⟨ob,h1,h2.2.1⟩
 rw[m.trees];refine A8a rfl (A5g (A8h (thn (he pins s1 σ H1 _ I1 q1) λiv s2 ⟨y,H2,I2,ry,b,k,kvs2,ey,n2,kb,hs,q2⟩=>Calls.spliced_nil ?_)));subst ey;cases(show iv=Value.ref b from ry);obtain⟨xs2,_,r2,d2,_,_,lo⟩:=PD I2.hok n2;refine call_meetsIn A3f d2.typeIs A7a (A6f _ _) (meetsH_dict_get (JG X.prog X.w sh) a b lo) ⟨by show X.A.units+1+1<cLine;lia,k,xs2,PB I2.hok kb hs,d2,_,H2,I2.tok _,(KN.val r2 k).getD (d:=.non) rfl,q2⟩
variable{i value:Expr}{pos pos':Pos}{tv:TE}
theorem Wf(hu:X.A.units+64<cLine)(ho:PE X o td)(hi:PE X i ty)(hv:PE X value tv)(hs:swapsWith value (some (.Subscript o i pos')) pos.line X.env=pure false):PS X (.Assign [.Subscript o i pos'] value pos) (sDPutN X.prog X.w sh td ty tv):=by
 intro pins s σ H D I h;refine wpAny_Assign_Subscript (thn (hv pins s σ H _ I h) λr s1 ⟨v,H1,I1,rv,q1⟩=>thn (ho pins s1 σ H1 _ I1 q1) λu s2 ⟨x,H2,I2,rx,q2⟩=>thn (hi pins s2 σ H2 _ I2 q2) λiv s3 ⟨y,H3,I3,ry,a,b,k,kvs,ex,ey,n3,kb,ks,lt,q3⟩=>?_) hs;subst ex ey;obtain rfl:u=Value.ref a:=rx;cases(show iv=Value.ref b from ry);obtain⟨xs,e3,rel,dd,hsh,z,lo⟩:=PD I3.hok n3;have hz:xs.length<=sizeLine:=by rw[<-A0b rel];exact z
 have hl:(CK kvs k v).length<=sizeLine:=by have:=Ip kvs k v;lia
 refine wpAny_setItem_heap (knd:=JG X.prog X.w sh) (hsz:=hz) (by show X.A.units+1+1<cLine;lia) (PB I3.hok kb ks) dd λh' dd' hsb=>?_;obtain⟨ob,es,ep,hq,h2,h3,h4,_,h5⟩:=dd';have tk:∀c ys,H3 c=some (.tup ys)->upd H3 a (.ext (UE X.prog X.w sh a (storedH xs k b r))) c=some (.tup ys):=λc ys ec=>by
  rw[At (AM ec e3 (λz=>nomatch z))];exact ec
 refine⟨σ,_,Qp I3 (by rw[e3];exact True.intro) hsb ⟨ob,hq⟩ (QZ ⟨ob,es,ep,hq,h2,h3,h4⟩),q3 _ (λc o ec ne=>by rw[At ne];exact ec) ⟨_,Ag,KN.keep tk (KN.put rel k kb rv),h5,λx hx=>?_,hl,lo⟩⟩;unfold storedH at hx;split at hx
 ·obtain⟨y,hy,rfl⟩:=D5.mp hx;unfold putAt;split
  ·exact hsh y hy
  ·exact hsh y hy
 ·rcases C7.mp hx with w|w
  ·exact hsh x w
  ·rw[C4]at w;subst w;exact ks
end
end L2
namespace L2
open PySem PySem.W PyProof.Rows
section
variable{rk:Nat->Int}{n:Nat}
structure YU(n:Nat)(p:Array Nat):Prop where
 sz:p.size=n
 pm:p.Perm (List.range n).toArray
def kk(rk:Nat->Int)(p:Array Nat)(i:Nat):Int:=rk (p.getD i 0)
def Up(rk:Nat->Int)(p:Array Nat)(m:Nat):Prop:=∀i j,i<=j->j<m->kk rk p i<=kk rk p j
end
end L2
namespace L2
open PySem PySem.W PySem.Spec PyProof.Rows
def Ca:List Int->List Int->Bool
 |[],[]=>false
 |[],_::_=>true
 |_::_,[]=>false
 |a::as,b::bs=>if a=b then Ca as bs else decide (a<b)
theorem Ng:∀a,Ca a a=false
 |[]=>rfl
 |a::as=>by unfold Ca;rw[X9 rfl];exact Ng as
theorem JL:∀{a b c:List Int},Ca a c=true->Ca a b=true\/Ca b c=true
 |[],[],_,h=>.inr h
 |[],_::_,_,_=>.inl rfl
 |_::_,_,[],h=>by cases h
 |a::as,[],c::cs,_=>.inr rfl
 |a::as,b::bs,c::cs,h=>by
  unfold Ca at h⊢;by_cases ac:a=c
  ·subst ac;rw[X9 rfl]at h;by_cases ab:a=b
   ·subst ab;rw[X9 rfl,X9 rfl];exact JL h
   ·rw[X8 ab,X8 (λz=>ab z.symm)];rcases Int.lt_or_gt_of_ne ab with z|z
    ·exact .inl (X7 z)
    ·exact .inr (X7 z)
  ·rw[X8 ac]at h;have h:=A0f h;by_cases ab:a=b
   ·subst ab;rw[X8 ac];exact .inr (X7 h)
   ·rw[X8 ab];by_cases z:a<b
    ·exact .inl (X7 z)
    ·by_cases bc:b=c
     ·lia
     ·rw[X8 bc];exact .inr (X7 A0)
theorem Rm:∀{a b:List Int},Ca a b=false->Ca b a=false->a=b
 |[],[],_,_=>rfl
 |[],_::_,h,_=>by cases h
 |_::_,[],_,h=>by cases h
 |a::as,b::bs,h,h'=>by
  unfold Ca at h h';by_cases ab:a=b
  ·subst ab;rw[X9 rfl]at h h';rw[Rm h h']
  ·rw[X8 ab]at h;rw[X8 (λz=>ab z.symm)]at h';have:=of_decide_eq_false h;have:=of_decide_eq_false h';lia
theorem Yc{a b:List Int}(h:Ca a b=true):Ca b a=false:=by
 cases e:Ca b a with
 |false=>rfl
 |true =>
  rcases JL (b:=b) (show Ca a b=true from h)with z|z
  ·
   have:Ca a a=true\/Ca a a=false:=by cases Ca a a<;>simp
   exact absurd (lexI_two h e) A5
  ·rw[Ng]at z;cases z
where lexI_two:∀{a b:List Int},Ca a b=true->Ca b a=true->false=true
 |[],[],h,_=>h
 |[],_::_,_,h=>h
 |_::_,[],h,_=>h
 |a::as,b::bs,h,h'=>by
  unfold Ca at h h';by_cases ab:a=b
  ·subst ab;rw[X9 rfl]at h h';exact lexI_two h h'
  ·rw[X8 ab]at h;rw[X8 (λz=>ab z.symm)]at h';have:=A0f h;have:=A0f h';lia
def QM(rows:List (List Int))(i:Nat):Int:=((rows.countP λr=>Ca r (rows.getD i []):Nat):Int)
theorem OO{α:Type}{p q:α->Bool}:∀{l:List α}{x:α},x∈l->(∀y,p y=true->q y=true)->p x=false->q x=true->l.countP p<l.countP q
 |y::l,x,hx,h,hp,hq=>by
  rw[W7,W7];have le:l.countP p<=l.countP q:=List.countP_mono_left λz _=>h z;rcases C2.mp hx with rfl|hx
  ·rw[hp,hq];simp only[F8,A2b,if_true];lia
  ·have:=OO hx h hp hq;by_cases py:p y=true
   ·rw[py,h y py];lia
   ·rw[X8 py];split<;>lia
theorem Wd{rows:List (List Int)}{i j:Nat}(hi:i<rows.length):decide (QM rows i<QM rows j)=Ca (rows.getD i []) (rows.getD j []):=by
 have mi:rows.getD i []∈rows:=by
  rw[C0,C3 hi];exact N6 hi
 unfold QM;generalize rows.getD i []=a at *
 generalize rows.getD j []=b;cases h:Ca a b with
 |true =>
  refine X7 ?_;have:=OO (p:=λr=>Ca r a) (q:=λr=>Ca r b) mi (λy hy=>?_) (Ng a) h
  ·lia
  ·rcases JL (b:=b) hy with z|z
   ·exact z
   ·rw[Yc h]at z;cases z
 |false =>
  refine X6 ?_;have:=List.countP_mono_left (l:=rows) (p:=λr=>Ca r b) (q:=λr=>Ca r a) λy _ hy=>?_
  ·lia
  ·rcases JL (b:=a) hy with z|z
   ·exact z
   ·rw[h]at z;cases z
section
variable{prog:Program}{w:World}{A:Around}{E:Value->Shared->Prop}
theorem TR{b:Bool}{Q:Bool->Shared->Prop}{s:Shared}:∀{xs ys:List Int}{us vs:List Value}{i:Nat},AN (xs.map V.int) us->AN (ys.map V.int) vs->Q (Ca xs ys) s->KatLex prog w A b (decide (xs.length<ys.length)) Q (us.zip vs) i s
 |[],[],_,_,i,.nil,.nil,q=>q
 |[],y::ys,_,_,i,.nil,.cons _ _,q=>by
  show Q (decide (0<ys.length+1)) s;rw[X7 (Nat.succ_pos _)];exact q
 |x::xs,[],_,_,i,.cons _ _,.nil,q=>by
  show Q (decide (xs.length+1<0)) s;rw[X6 (L6 _)];exact q
 |x::xs,y::ys,u::us,v::vs,i,.cons r1 t1,.cons r2 t2,q=>by
  obtain⟨t,rfl⟩:=(show ∃t,u=.int x t from r1)
  obtain⟨t',rfl⟩:=(show ∃t,v=.int y t from r2)
  refine wpAny_eqBool_int ?_;unfold Ca at q;by_cases e:x=y
  ·subst e;rw[X9 rfl]at q;simp only[beq_self_eq_true,if_true];have h:=TR (b:=b) (i:=i+1) t1 t2 q;rw[show decide ((x::xs).length<(x::ys).length)=decide (xs.length<ys.length) by simp];exact h
  ·rw[X8 e]at q;have e':(x==y)=false:=by simpa using e
   simp only[e',F8,A2b];cases b && i==0 with
   |true=>exact oneLt_int q
   |false =>
    exact kat_one _ _ (wpAny_lt_int q)
end
section
variable{X:Cx}
theorem Tm{H:Hp}{h:Heap}(ok:HOk X.prog X.w H h){items:List (Addr×List Int)}(hq:∀q∈items,H q.1=some (.tup (q.2.map V.int))/\q.2≠[]){i:Nat}(hi:i<items.length) :
  ∃(b:Addr)(o:Obj)(us:List Value)(m:Nat),(items.map λq=>Value.ref q.1).getD i Value.none=.ref b/\h.get? b=some o/\o.cls=.type "tuple" /\ o.data=.seq us.toArray m/\AN (((items.map (·.2)).getD i []).map V.int) us:=by
 have hm:=N6 hi;obtain⟨h1,h2⟩:=hq _ hm;obtain⟨_,its,r,o,e,c,n,d⟩:=(show Bl X.prog X.w H h _ (.tup _)from ok _ _ h1)
 refine⟨_,o,its,n,?_,e,c,d,?_⟩
 ·rw[C0,B7,C3 hi];rfl
 ·rw[C0,B7,C3 hi];exact r
theorem OI{H:Hp}{h:Heap}(ok:HOk X.prog X.w H h):∀{items:List (Addr×List Int)},(∀q∈items,H q.1=some (.tup (q.2.map V.int))/\q.2≠[])->∃fs:List Value,KatTups h (items.map λq=>Value.ref q.1) fs/\fs.length=items.length/\∀v∈fs,∃x t,v=.int x t
 |[],_=>⟨[],.nil,rfl,λv hv=>nomatch hv⟩
 |q::items,hq=>by
  obtain⟨fs,h1,h2,h3⟩:=OI ok λq' hq'=>hq q' (B9 _ hq');obtain⟨e,ne⟩:=hq q (D7 ..);obtain⟨_,its,r,o,e1,c,n,d⟩:=(show Bl X.prog X.w H h _ (.tup _)from ok _ _ e)
  match hx:q.2,ne with
  |x::xs,_ =>
   rw[hx]at r;cases r with
   |@cons _ u _ us r1 r2 =>
    obtain⟨t,rfl⟩:=(show ∃t,u=.int x t from r1)
    refine⟨.int x t::fs,.cons e1 c d A5 h1,by rw[D1,D1,h2],λv hv=>?_⟩;rcases C2.mp hv with rfl|hv
    ·exact⟨x,t,rfl⟩
    ·exact h3 v hv
end
section
variable{X:Cx}
end
end L2
namespace L2
open PySem PySem.W PySem.Spec PyProof.Rows
section
variable{prog:Program}{w:World}{A:Around}{E:Value->Shared->Prop}{s:Shared}{r d:Addr}{o:Obj}{es:Array DictEntry}{ep:Nat}
end
section
variable{X:Cx}{o:Expr}{apos cpos:Pos}{td:TE}
end
section
variable{X:Cx}
end
end L2
namespace L2
open PySem PySem.W PySem.Spec PyProof.Rows
theorem AC.up{P:Program}{w:World}{K:PySem.W.Frag}{mg:Str->Option Value}{base:Heap}{CX:CXT}{k:Nat}{f:Addr}{fd:FuncData}{ps:List Str}{sp:Sp}(F:AC P w K mg base CX0 k f fd ps sp):AC P w K mg base CX k f fd ps sp :=
 ⟨F.len,λA outer s H args us vs Q E hr e hb r h=>A4g (F.run A outer s H args us vs Q E hr e hb r h) λr s' q=>by
  rcases r with e|(_|_|_|_)
  ·exact q.elim
  all_goals exact q⟩
theorem AC.or{P:Program}{w:World}{K:PySem.W.Frag}{mg:Str->Option Value}{base:Heap}{CX:CXT}{k:Nat}{f:Addr}{fd:FuncData}{ps:List Str}{sp sp':Sp}(F:AC P w K mg base CX k f fd ps sp)(F':AC P w K mg base CX k f fd ps sp'):AC P w K mg base CX k f fd ps (λvs H Q E=>sp vs H Q E\/sp' vs H Q E) :=
 ⟨λvs H Q E h=>h.elim (F.len vs H Q E) (F'.len vs H Q E),λA outer s H args us vs Q E hr e hb r h=>h.elim (F.run A outer s H args us vs Q E hr e hb r) (F'.run A outer s H args us vs Q E hr e hb r)⟩
def isT:Value->Bool
 |.bool b=>b
 |_=>false
theorem Pb:∀{bs:List Bool}{its:List Value},AN (bs.map V.bl) its->its=bs.map Value.bool
 |[],_,.nil=>rfl
 |b::bs,_,.cons r t=>by
  cases(show _=Value.bool b from r);rw[Pb t];rfl
theorem eq_isT(b:Bool):PySem.MeetsSeq.EqGives (.bool b) (.bool true) b:=λP w A E s Q q=>SeqAt.EqAt.bool_bool b true P w E Q (by
 cases b<;>exact q)
theorem Ud{bs:List Bool}{y:Value}(hy:y∈bs.map Value.bool):PySem.MeetsSeq.EqGives y (.bool true) (isT y):=by
 obtain⟨b,_,rfl⟩:=D5.mp hy;exact eq_isT b
theorem Uh:∀bs:List Bool,(bs.map Value.bool).countP isT=bs.countP id
 |[]=>rfl
 |b::bs=>by
  rw[C9,W7,W7,Uh bs];rfl
structure CalH(P:Program)(w:World)(K:PySem.W.Frag)(mg:Str->Option Value)(base:Heap)(k:Nat)(x:Str)(ps:List Str)(sp:Sp):Prop where
 ex:∃(f:Addr)(fd:FuncData),Uv P w K mg base k f fd ps sp/\mg x=some (.ref f)/\keepIn K (.ref f)=true/\BN K fd ps []
section
variable{X:Cx}{CX:CXT}{k:Nat}{ps:List Str}{sp:Sp}{E:XK}{x:Str}{p pos:Pos}{e:Expr}{es:List Expr}{t:TA}{S:St->Prop}
theorem TH(c:Cal X.prog X.w X.K X.mg X.base CX k x ps sp)(hr:BT k X.A)(hg:Gl X x)(hx:JT CX X E S)(ha:PA X (e::es) t)(hdb:(x==("__debug__" : Str))=false:=by decide)
  (he:starEach (e::es) X.env=(false,eval e X.env)::starEach es X.env:=by rfl) (hpl:(backTo pos (starEach es X.env)).any (·.1)=false:=by rfl):PE X (.Call (.Name x p) (e::es) [] pos) (VH S sp [] E t):=by
 obtain⟨f,fd,h1,h2,h3,h4⟩:=c;exact Wr h1 hr hg h2 h3 h4 .nil hx ha hdb he hpl
theorem TJ(c:CalH X.prog X.w X.K X.mg X.base k x ps sp)(hr:RN k X.A)(hg:Gl X x)(ha:PA X (e::es) t)(hdb:(x==("__debug__" : Str))=false:=by decide)
  (he:starEach (e::es) X.env=(false,eval e X.env)::starEach es X.env:=by rfl) (hpl:(backTo pos (starEach es X.env)).any (·.1)=false:=by rfl):PE X (.Call (.Name x p) (e::es) [] pos) (Tr sp [] E0 t):=by
 obtain⟨f,fd,h1,h2,h3,h4⟩:=c.ex;exact Ws h1 hr hg h2 h3 h4 ha hdb he hpl
end
section
variable{X:Cx}
theorem UV:MtR X "list.count" (λx xs H Q=>∃(l:Addr)(bs:List Bool),x=.ref l/\xs=[.bl true]/\H l=some (.lst (bs.map V.bl))/\Q (.int (bs.countP id:Nat)) H):=by
 intro pins s σ H x xs v us Q I rx r h;obtain⟨l,bs,rfl,rfl,hH,q⟩:=h;cases rx;obtain⟨u,rfl,hu⟩:=r.one;cases hu;obtain⟨z,its,k,rv,hl,e⟩:=I.lstM hH;have ei:=Pb rv;subst ei;refine call_meets F.slot_list_count ⟨_,e,rfl⟩ F.entry_list_count (F.args_list_count_2 _ _) (MeetsSeq.list_count l _ k (.bool true) isT (λy hy=>Ud (by simpa using hy))) ⟨e,?_⟩;refine⟨.int _,H,I.tok _,⟨_,rfl⟩,?_⟩;rw[List.toList_toArray,Uh];exact q
theorem UU:MtR X "list.index" (λx xs H Q=>∃(l:Addr)(bs:List Bool)(j:Nat),x=.ref l/\xs=[.bl true]/\H l=some (.lst (bs.map V.bl))/\bs.length<1000/\bs[j]?=some true/\(∀m,m<j->bs[m]?=some false)/\Q (.int (j:Nat)) H):=by
 intro pins s σ H x xs v us Q I rx r h;obtain⟨l,bs,j,rfl,rfl,hH,hl',hj,hm,q⟩:=h;cases rx;obtain⟨u,rfl,hu⟩:=r.one;cases hu;obtain⟨z,its,k,rv,hl,e⟩:=I.lstM hH;have ei:=Pb rv;subst ei;have jl:j<bs.length:=(B3.mp hj).1;refine call_meets F.slot_list_index ⟨_,e,rfl⟩ F.entry_list_index (F.args_list_index_2 _ _) (MeetsSeq.list_index l _ k (.bool true) isT (λy hy=>Ud (by simpa using hy)) j (by simpa using jl) A0 ?_ ?_) ⟨e,?_⟩
 ·have:=(B3.mp hj).2;simp[isT,this]
 ·intro m h1 h2;have:=(B3.mp (hm m h2)).2;simp[isT,this]
 ·exact⟨.int _,H,I.tok _,⟨_,rfl⟩,q⟩
end
section
variable{X:Cx}
end
section
variable{X:Cx}
end
section
variable{X:Cx}
end
end L2
namespace L2
open PySem PySem.W PySem.Spec PyProof.Rows
def LF:Sp:=λvs H Q _=>∃(t:Addr)(x y:Int)(r:List Int),vs=[.ref t]/\H t=some (.tup ((x::y::r).map V.int))/\∀u,H u=none->Q (.ref u) (upd H u (.tup [.int y,.int x]))
structure It3 where
 a:Addr
 x:Int
 y:Int
 r:List Int
def It3.ns(q:It3):List Int:=q.x::q.y::q.r
section
variable{X:Cx}{pins:List (Addr×Obj)}{σ:St}{H H':Hp}{s:Shared}{k:Nat}{f b:Addr}{fd:FuncData}{ps:List Str}
theorem Dc.stay(fp:Dc X pins H b)(hn:H' b=none):Dc X pins H' b:=⟨hn,fp.2⟩
theorem Dc.turn{h':Heap}{t':Nat}(fp:Dc X pins H b)(I:Inv X pins σ H s)(kp:∀c o,c≠b->s.heap.get? c=some o->h'.get? c=some o):Inv X pins σ H {s with heap:=h',toks:=t'} :=
 I.turned kp fp.1 fp.2.1 fp.2.2.2.1 fp.2.2.2.2.1 fp.2.2.2.2.2
theorem Dc.nost(fp:Dc X pins H b)(I:Inv X pins σ H s):b∉frs X.stack:=λz=>by
 rcases C2.mp (I.stkSub b z)with y|y
 ·exact fp.2.1 y
 ·exact fp.2.2.1 y
theorem TX{A2:Around}{P:PySem.Fin->Shared->Prop}{E:Value->Shared->Prop}(I:Inv X pins σ H s){a kS:Addr}{e1 c:Nat}{ks out:Array Value}{st:SortSt}(fa:Dc X pins H a)(fS:Dc X pins H kS)(nka:kS≠a)(hk:s.heap.get? kS=some (seqObj "list" ks c))(ha:s.heap.get? a=some (seqObj "list" #[] e1))(eo:(arrOf st).map (·.2)=out)(hf:failedOf st=none)(hz:out.size<=sizeLine)(kz:ks.size<=sizeLine)
  (fin:∀(h':Heap)(c':Nat),Inv X pins σ H {s with heap:=h'}->h'.get? a=some (seqObj "list" out c')->P (.done (.ret .none)) {s with heap:=h'}):wpAny (model X.prog X.w) A2 (ksk_tail a false e1 (.ref kS) st) P E s:=by
 unfold ksk_tail;have I1:Inv X pins σ H {s with heap:=s.heap.update kS (Obj.mapSeq λ_=>#[])}:=fS.turn (t':=s.toks) I λb o hb e=>by rw[O3 _ _ _ _ hb];exact e
 have ha1:(s.heap.update kS (Obj.mapSeq λ_=>#[])).get? a=some (seqObj "list" #[] e1):=by rw[O3 _ _ _ _ (A0c nka)];exact ha
 refine X5 (listUpdate_at hk rfl (X5 (wpAny_letGo (X5 (seqEpoch_at ha1 rfl (X5 (listUpdate_at ha1 rfl ?_ (hsz2:=?_))))))) (hsz:=kz))
 ·rw[hf];simp only[bne_self_eq_false,F8,A2b];rw[eo];refine K5 (fin _ _ (fa.turn (s:={s with heap:=s.heap.update kS (Obj.mapSeq λ_=>#[])}) (t':=s.toks) I1 λb o hb e=>by rw[O3 _ _ _ _ hb];exact e) (get?_update_seq ha1 _))
 ·simp only[F8,A2b];rw[eo];exact R1 hz
end
end L2
namespace PyProof.Rows
open PySem
def Qg:Bool->Keyed->Array Keyed->Nat->Nat->Nat->StateT SortSt Sem (Option Nat):=sortPriv% PySem.Builtin.gallop
section
variable{prog:Program}{w:World}{A:Around}{E:Value->Shared->Prop}{s:Shared}
def beyE(left:Bool)(key:Keyed)(arr:Array Keyed)(base i:Nat):StateT SortSt Sem (Option Bool):=elem' arr (base+i) >>= λx=>if left=true then lt' x key else lt' key x >>= λr=>pure (r.map λb=>!b)
def BeyOk(prog:Program)(w:World)(A:Around)(E:Value->Shared->Prop)(s:Shared)(left:Bool)(key:Keyed)(st:SortSt)(x:Keyed)(b:Bool):Prop :=
 (left=true->∀Q:Option Bool->SortSt->Prop,Q (some b) st->wpS (model prog w) A E s (lt' x key) Q st)/\(left=false->∀Q:Option Bool->SortSt->Prop,Q (some (!b)) st->wpS (model prog w) A E s (lt' key x) Q st)
theorem Ny{left:Bool}{key:Keyed}{arr:Array Keyed}{base n i:Nat}{st:SortSt}{B:Nat->Bool}{Q:Option Bool->SortSt->Prop}(hz:base+n<=arr.size)(hB:∀i x,i<n->arr[base+i]?=some x->BeyOk prog w A E s left key st x (B i))(hi:i<n)(h:Q (some (B i)) st):wpS (model prog w) A E s (beyE left key arr base i) Q st:=by
 unfold beyE;have hl:base+i<arr.size:=by omega
 refine K0 ?_;rw[elem'_eq,B4 hl];refine K2 ?_;obtain⟨h1,h2⟩:=hB i arr[base+i] hi (B4 hl);cases left with
 |true =>
  rw[X9 rfl];exact h1 rfl _ h
 |false =>
  rw[X8 A5];refine K0 (h2 rfl _ (K2 ?_));show Q (some (!!B i)) st;rw[Bool.not_not];exact h
theorem up_ok{γ:Type}{f:Nat->(Option γ×Nat×Nat)->StateT SortSt Sem (ForInStep (Option γ×Nat×Nat))}{m n:Nat}{C:Nat->Bool}{st:SortSt}(h1:m<=n+1)
  (hs:∀x l o Q',(m<=o->Q' (.done (none,l,o)) st)->(o<m->C o=true->Q' (.yield (none,o,2*o+1)) st)->(o<m->C o=false->Q' (.done (none,l,o)) st)->wpS (model prog w) A E s (f x (none,l,o)) Q' st) :
  wpS (model prog w) A E s (forIn [0:n] (none,0,1) f) (λr st'=>st'=st/\∃l o,r=(none,l,o)/\l<o/\(l=0\/(l<m/\C l=true))/\(m<=o\/C o=false)) st:=by
 refine A0h (I:=λx r st'=>st'=st/\∃l o,r=(none,l,o)/\x<o/\l<o/\(l=0\/(l<m/\C l=true))) ?_ ?_ ⟨rfl,0,1,rfl,by omega,by omega,.inl rfl⟩
 ·rintro x c st' _ _ ⟨rfl,l,o,rfl,hx,hl,hc⟩;refine hs x l o _ (λz=>?_) (λz y=>?_) (λz y=>?_)
  ·exact⟨rfl,l,o,rfl,hl,hc,.inl z⟩
  ·exact⟨rfl,o,2*o+1,rfl,by omega,by omega,.inr ⟨z,y⟩⟩
  ·exact⟨rfl,l,o,rfl,hl,hc,.inr y⟩
 ·rintro c st' ⟨rfl,l,o,rfl,hx,hl,hc⟩;exact⟨rfl,l,o,rfl,hl,hc,.inl A6⟩
theorem YD{γ:Type}{f:Nat->(Option γ×Nat×Nat)->StateT SortSt Sem (ForInStep (Option γ×Nat×Nat))}{n lo hi:Nat}{B:Nat->Bool}{st:SortSt}(hn:hi<=n)(hl:lo<=hi)(mono:∀i j,i<=j->j<n->B j=true->B i=true)(h1:∀i,i<lo->B i=true)(h2:∀i,hi<=i->i<n->B i=false)
  (hs:∀x l h Q',(h<=l->Q' (.done (none,l,h)) st)->(l<h->h<=n->B (l+(h-l)/2)=true->Q' (.yield (none,l+(h-l)/2+1,h)) st)->(l<h->h<=n->B (l+(h-l)/2)=false->Q' (.yield (none,l,l+(h-l)/2)) st)->(l<h->h<=n)->wpS (model prog w) A E s (f x (none,l,h)) Q' st) :
  wpS (model prog w) A E s (forIn [0:n] (none,lo,hi) f) (λr st'=>st'=st/\∃l h,r=(none,l,h)/\h<=n/\(∀i,i<h->B i=true)/\(∀i,h<=i->i<n->B i=false)) st:=by
 refine A0h (I:=λx r st'=>st'=st/\∃l h,r=(none,l,h)/\l<=h/\h-l<=n-x/\h<=n/\(∀i,i<l->B i=true)/\(∀i,h<=i->i<n->B i=false)) ?_ ?_ ⟨rfl,lo,hi,rfl,hl,by omega,hn,h1,h2⟩
 ·rintro x c st' _ hx ⟨rfl,l,h,rfl,lh,me,hh,i1,i2⟩;refine hs x l h _ (λz=>?_) (λz _ y=>?_) (λz _ y=>?_) (λ_=>hh)
  ·exact⟨rfl,l,h,rfl,hh,λi hi=>i1 i A6,i2⟩
  ·exact⟨rfl,_,h,rfl,by omega,by omega,hh,λi hi=>mono i _ A6 A6 y,i2⟩
  ·refine⟨rfl,l,_,rfl,by omega,by omega,by omega,i1,λi hi hn=>?_⟩;cases e:B i with
   |false=>rfl
   |true=>rw[mono _ i hi hn e]at y;cases y
 ·rintro c st' ⟨rfl,l,h,rfl,lh,me,hh,i1,i2⟩;exact⟨rfl,l,h,rfl,hh,λi hi=>i1 i A6,i2⟩
theorem OH{left:Bool}{key:Keyed}{arr:Array Keyed}{base n hint:Nat}{st:SortSt}{B:Nat->Bool}{Q:Option Nat->SortSt->Prop}(hz:base+n<=arr.size)(hh:hint<n)(hB:∀i x,i<n->arr[base+i]?=some x->BeyOk prog w A E s left key st x (B i))(mono:∀i j,i<=j->j<n->B j=true->B i=true)(k:∀h,h<=n->(∀i,i<h->B i=true)->(∀i,h<=i->i<n->B i=false)->Q (some h) st):wpS (model prog w) A E s (Qg left key arr base n hint) Q st:=by
 have monoF:∀i j,i<=j->j<n->B i=false->B j=false:=λi j h1 h2 z=>by
  cases e:B j with
  |false=>rfl
  |true=>rw[mono i j h1 h2 e]at z;cases z
 refine K0 ?_;refine Ny (i:=hint) hz hB hh ?_;dsimp only;cases hb:B hint with
 |true =>
  rw[X9 rfl];refine K0 (A2c (up_ok (m:=n-hint) (C:=λo=>B (hint+o)) A6 ?_) ?_)
  ·intro x l o Q' q1 q2 q3;dsimp only;by_cases z:o ≥ n-hint
   ·rw[X9 z];exact K2 (q1 z)
   rw[X8 z];refine K0 (Ny (i:=hint+o) hz hB A6 ?_);dsimp only;cases e:B (hint+o)with
   |true=>exact K2 (q2 A6 e)
   |false=>exact K2 (q3 A6 e)
  ·rintro r st' ⟨rfl,l,o,rfl,lo,hl,ho⟩;dsimp only;refine K0 (A2c (YD (lo:=hint+l+1) (hi:=hint+min o (n-hint)) A6 ?_ mono ?_ ?_ ?_) ?_)
   ·rcases hl with z|z<;>omega
   ·intro i hi;rcases hl with z|z
    ·exact mono i hint A6 hh hb
    ·exact mono i (hint+l) A6 A6 z.2
   ·intro i hi hn;rcases ho with z|z
    ·omega
    ·by_cases y:n-hint<=o
     ·omega
     ·exact monoF (hint+o) i A6 hn z
   ·intro x l h Q' q1 q2 q3 q4;dsimp only;by_cases z:l ≥ h
    ·rw[X9 z];exact K2 (q1 z)
    rw[X8 z];have:=q4 A6;refine K0 (Ny (i:=l+(h-l)/2) hz hB A6 ?_);dsimp only;cases e:B (l+(h-l)/2)with
    |true=>exact K2 (q2 A6 this e)
    |false=>exact K2 (q3 A6 this e)
   ·rintro r st' ⟨rfl,l',h,rfl,hn,i1,i2⟩;exact K2 (k h hn i1 i2)
 |false =>
  rw[X8 A5];refine K0 (A2c (up_ok (m:=hint+1) (C:=λo=>!B (hint-o)) A6 ?_) ?_)
  ·intro x l o Q' q1 q2 q3;dsimp only;by_cases z:o ≥ hint+1
   ·rw[X9 z];exact K2 (q1 z)
   rw[X8 z];refine K0 (Ny (i:=hint-o) hz hB A6 ?_);dsimp only;cases e:B (hint-o)with
   |true=>exact K2 (q3 A6 (by rw[e];rfl))
   |false=>exact K2 (q2 A6 (by rw[e];rfl))
  ·rintro r st' ⟨rfl,l,o,rfl,lo,hl,ho⟩;dsimp only;have hlF:B (hint-l)=false:=by
    rcases hl with z|z
    ·rw[z];exact hb
    ·simpa using z.2
   refine K0 (A2c (YD (lo:=hint+1-min o (hint+1)) (hi:=hint-l) A6 ?_ mono ?_ ?_ ?_) ?_)
   ·rcases hl with z|z<;>omega
   ·intro i hi;rcases ho with z|z
    ·omega
    ·by_cases y:hint+1<=o
     ·omega
     ·have z:B (hint-o)=true:=by simpa using z
      exact mono i (hint-o) A6 A6 z
   ·intro i hi hn;exact monoF (hint-l) i hi hn hlF
   ·intro x l h Q' q1 q2 q3 q4;dsimp only;by_cases z:l ≥ h
    ·rw[X9 z];exact K2 (q1 z)
    rw[X8 z];have:=q4 A6;refine K0 (Ny (i:=l+(h-l)/2) hz hB A6 ?_);dsimp only;cases e:B (l+(h-l)/2)with
    |true=>exact K2 (q2 A6 this e)
    |false=>exact K2 (q3 A6 this e)
   ·rintro r st' ⟨rfl,l',h,rfl,hn,i1,i2⟩;exact K2 (k h hn i1 i2)
end
end PyProof.Rows
namespace PyProof.Rows
open PySem
def SoA(rk:Keyed->Nat)(a:Array Keyed):Prop:=∀(i j:Nat)(x y:Keyed),i<=j->a[i]?=some x->a[j]?=some y->rk x<=rk y
structure MI(rk:Keyed->Nat)(a b out:Array Keyed)(ia ib:Nat):Prop where
 pm:out.toList.Perm (a.toList.take ia++b.toList.take ib)
 so:out.toList.Pairwise (λx y=>rk x<=rk y)
 ba:∀o∈out.toList,∀i x,ia<=i->a[i]?=some x->rk o<=rk x
 bb:∀o∈out.toList,∀i x,ib<=i->b[i]?=some x->rk o<=rk x
section
variable{rk:Keyed->Nat}{a b out:Array Keyed}{ia ib:Nat}
theorem MI.nil:MI rk a b #[] 0 0:=⟨by simp,by simp,λo h=>by simp at h,λo h=>by simp at h⟩
theorem Om{a:Array Keyed}{i:Nat}{x:Keyed}(h:a[i]?=some x):a.toList.take (i+1)=a.toList.take i++[x]:=by
 rw[D3,G7,h];rfl
theorem MI.pushA{x:Keyed}(h:MI rk a b out ia ib)(sa:SoA rk a)(e:a[ia]?=some x)(le:∀j y,ib<=j->b[j]?=some y->rk x<=rk y):MI rk a b (out.push x) (ia+1) ib:=by
 have me:∀o,o∈(out.push x).toList->o∈out.toList\/o=x:=λo ho=>by
  rw[J1,C7,C4]at ho;exact ho
 refine⟨?_,?_,λo ho i y hi ey=>?_,λo ho i y hi ey=>?_⟩
 ·rw[J1,Om e,M3];refine(h.pm.append_right _).trans ?_;rw[M3];exact List.Perm.append_left _ List.perm_append_comm
 ·rw[J1,N9];refine⟨h.so,by simp,λo ho y hy=>?_⟩;rw[C4.mp hy];exact h.ba o ho ia x (B1 _) e
 ·rcases me o ho with z|rfl
  ·exact h.ba o z i y A0 ey
  ·exact sa ia i _ y A0 e ey
 ·rcases me o ho with z|rfl
  ·exact h.bb o z i y hi ey
  ·exact le i y hi ey
theorem MI.pushB{x:Keyed}(h:MI rk a b out ia ib)(sb:SoA rk b)(e:b[ib]?=some x)(le:∀j y,ia<=j->a[j]?=some y->rk x<=rk y):MI rk a b (out.push x) ia (ib+1):=by
 have me:∀o,o∈(out.push x).toList->o∈out.toList\/o=x:=λo ho=>by
  rw[J1,C7,C4]at ho;exact ho
 refine⟨?_,?_,λo ho i y hi ey=>?_,λo ho i y hi ey=>?_⟩
 ·rw[J1,Om e,<-M3];exact h.pm.append_right _
 ·rw[J1,N9];refine⟨h.so,by simp,λo ho y hy=>?_⟩;rw[C4.mp hy];exact h.bb o ho ib x (B1 _) e
 ·rcases me o ho with z|rfl
  ·exact h.ba o z i y hi ey
  ·exact le i y hi ey
 ·rcases me o ho with z|rfl
  ·exact h.bb o z i y A0 ey
  ·exact sb ib i _ y A0 e ey
theorem Rw{a:Array Keyed}{i k:Nat}(h:i+k<a.size):a.extract i (i+(k+1))=(a.extract i (i+k)).push a[i+k]:=by
 apply W9.mp;rw[J1,R5,R5];simp only[List.extract,S8];rw[D3];congr 1;rw[List.getElem?_drop,G7,B4 h];rfl
theorem MI.addA(sa:SoA rk a)(h:MI rk a b out ia ib):∀{k:Nat},ia+k<=a.size->(∀i x,ia<=i->i<ia+k->a[i]?=some x->∀j y,ib<=j->b[j]?=some y->rk x<=rk y)->MI rk a b (out++a.extract ia (ia+k)) (ia+k) ib
 |0,_,_=>by rw[Nat.add_zero,Q8 A0,O9];exact h
 |k+1,hk,le=>by
  have hl:ia+k<a.size:=by lia
  have:=(MI.addA sa h (k:=k) A0 (λi x h1 h2=>le i x h1 A0)).pushA sa (B4 hl) (le _ _ A0 A0 (B4 hl));rw[Rw hl,W0];exact this
theorem MI.addB(sb:SoA rk b)(h:MI rk a b out ia ib):∀{k:Nat},ib+k<=b.size->(∀i x,ib<=i->i<ib+k->b[i]?=some x->∀j y,ia<=j->a[j]?=some y->rk x<=rk y)->MI rk a b (out++b.extract ib (ib+k)) ia (ib+k)
 |0,_,_=>by rw[Nat.add_zero,Q8 A0,O9];exact h
 |k+1,hk,le=>by
  have hl:ib+k<b.size:=by lia
  have:=(MI.addB sb h (k:=k) A0 (λi x h1 h2=>le i x h1 A0)).pushB sb (B4 hl) (le _ _ A0 A0 (B4 hl));rw[Rw hl,W0];exact this
structure Mgd(rk:Keyed->Nat)(a b out:Array Keyed):Prop where
 pm:out.toList.Perm (a.toList++b.toList)
 so:out.toList.Pairwise (λx y=>rk x<=rk y)
theorem MI.whole(h:MI rk a b out a.size b.size):Mgd rk a b out:=by
 refine⟨?_,h.so⟩;have:=h.pm;rw[show a.size=a.toList.length from C5.symm,show b.size=b.toList.length from C5.symm,F2,F2]at this;exact this
theorem MI.doneA(sa:SoA rk a)(h:MI rk a b out ia b.size)(ha:ia<=a.size):Mgd rk a b (out++a.extract ia a.size++b.extract b.size b.size):=by
 have h1:=MI.addA sa h (k:=a.size-ia) A0 λi x _ _ _ j y hj ey=>by
  rw[Y4 A0]at ey;cases ey
 rw[show ia+(a.size-ia)=a.size by lia]at h1;have e:b.extract b.size b.size=#[]:=by simp
 rw[e,O9];exact h1.whole
theorem MI.doneB(sb:SoA rk b)(h:MI rk a b out a.size ib)(hb:ib<=b.size):Mgd rk a b (out++a.extract a.size a.size++b.extract ib b.size):=by
 have e:a.extract a.size a.size=#[]:=by simp
 rw[e,O9];have h1:=MI.addB sb h (k:=b.size-ib) A0 λi x _ _ _ j y hj ey=>by
  rw[Y4 A0]at ey;cases ey
 rw[show ib+(b.size-ib)=b.size by lia]at h1;exact h1.whole
theorem MI.lastA(sa:SoA rk a)(sb:SoA rk b)(h:MI rk a b out ia ib)(ha:ia<=a.size)(hb:ib<=b.size)(le:∀i x,ib<=i->b[i]?=some x->∀j y,ia<=j->a[j]?=some y->rk x<=rk y):Mgd rk a b (out++b.extract ib b.size++a.extract ia a.size):=by
 have h1:=MI.addB sb h (k:=b.size-ib) A0 λi x h1 _=>le i x h1;rw[show ib+(b.size-ib)=b.size by lia]at h1;have h2:=MI.addA sa h1 (k:=a.size-ia) A0 λi x _ _ _ j y hj ey=>by
  rw[Y4 A0]at ey;cases ey
 rw[show ia+(a.size-ia)=a.size by lia]at h2;exact h2.whole
end
end PyProof.Rows
namespace PyProof.Rows
open PySem
section
variable{prog:Program}{w:World}{A:Around}{E:Value->Shared->Prop}{s:Shared}{rk:Keyed->Nat}{S:Keyed->Prop}{κ:SortKind}
def NF(prog:Program)(w:World)(A:Around)(E:Value->Shared->Prop)(s:Shared)(rk:Keyed->Nat)(S:Keyed->Prop)(κ:SortKind):Prop:=∀x y st (Q:Option Bool->SortSt->Prop),S x->S y->kindOf st=κ->Q (some (decide (rk x<rk y))) st->wpS (model prog w) A E s (lt' x y) Q st
def DP(st st':SortSt):Prop:=∃g,st'=SortSt.mk' (kindOf st) (arrOf st) (pendingOf st) g (failedOf st)
theorem DP.refl(st:SortSt):DP st st:=⟨gallopOf st,rfl⟩
theorem DP.kind{st st':SortSt}(h:DP st st'):kindOf st'=kindOf st:=by
 obtain⟨g,rfl⟩:=h;rfl
theorem CJ{arr:Array Keyed}{i:Nat}{x:Keyed}{st:SortSt}{Q:Keyed->SortSt->Prop}(e:arr[i]?=some x)(h:Q x st):wpS (model prog w) A E s (elem' arr i) Q st:=by
 rw[elem'_eq,e];exact K2 h
theorem Lu{key:Keyed}{arr:Array Keyed}{base n hint:Nat}{st:SortSt}{Q:Option Nat->SortSt->Prop}(hl:NF prog w A E s rk S κ)(hk:kindOf st=κ)(Sk:S key)(Sa:∀(i:Nat) x,base<=i->i<base+n->arr[i]?=some x->S x)(so:∀(i j:Nat) x y,base<=i->i<=j->j<base+n->arr[i]?=some x->arr[j]?=some y->rk x<=rk y)(hz:base+n<=arr.size)(hh:hint<n)
  (k:∀h,h<=n->(∀(i:Nat) x,base<=i->i<base+h->arr[i]?=some x->rk x<=rk key)->(∀(i:Nat) x,base+h<=i->i<base+n->arr[i]?=some x->rk key<rk x)->Q (some h) st):wpS (model prog w) A E s (Qg false key arr base n hint) Q st:=by
 refine OH (B:=λi=>(arr[base+i]?).any λx=>!decide (rk key<rk x)) hz hh (λi x hi e=>?_) (λi j ij jn z=>?_) λh hn h1 h2=>?_
 ·refine⟨(λz=>by cases z),λ_ Q' q=>hl _ _ _ _ Sk (Sa _ x A6 A6 e) hk ?_⟩;have:(some (decide (rk key<rk x)))=some (!((arr[base+i]?).any λx=>!decide (rk key<rk x))):=by rw[e];simp
  rw[this];exact q
 ·have e1:arr[base+i]?=some arr[base+i]:=B4 A6;have e2:arr[base+j]?=some arr[base+j]:=B4 A6;have:=so _ _ _ _ A6 (by omega:base+i<=base+j) A6 e1 e2;simp only[e1,e2,Option.any_some,Bool.not_eq_true',decide_eq_false_iff_not]at z⊢;omega
 ·refine k h hn (λi x b1 b2 e=>?_) (λi x b1 b2 e=>?_)
  ·have:=h1 (i-base) A6;rw[show base+(i-base)=i by omega,e]at this;simp only[Option.any_some,Bool.not_eq_true',decide_eq_false_iff_not]at this;omega
  ·have:=h2 (i-base) A6 A6;rw[show base+(i-base)=i by omega,e]at this
   simpa using this
theorem Nl{key:Keyed}{arr:Array Keyed}{base n hint:Nat}{st:SortSt}{Q:Option Nat->SortSt->Prop}(hl:NF prog w A E s rk S κ)(hk:kindOf st=κ)(Sk:S key)(Sa:∀(i:Nat) x,base<=i->i<base+n->arr[i]?=some x->S x)(so:∀(i j:Nat) x y,base<=i->i<=j->j<base+n->arr[i]?=some x->arr[j]?=some y->rk x<=rk y)(hz:base+n<=arr.size)(hh:hint<n)
  (k:∀h,h<=n->(∀(i:Nat) x,base<=i->i<base+h->arr[i]?=some x->rk x<rk key)->(∀(i:Nat) x,base+h<=i->i<base+n->arr[i]?=some x->rk key<=rk x)->Q (some h) st):wpS (model prog w) A E s (Qg true key arr base n hint) Q st:=by
 refine OH (B:=λi=>(arr[base+i]?).any λx=>decide (rk x<rk key)) hz hh (λi x hi e=>?_) (λi j ij jn z=>?_) λh hn h1 h2=>?_
 ·refine⟨λ_ Q' q=>hl _ _ _ _ (Sa _ x A6 A6 e) Sk hk ?_,λz=>by cases z⟩;have:(some (decide (rk x<rk key)))=some ((arr[base+i]?).any λx=>decide (rk x<rk key)):=by rw[e];simp
  rw[this];exact q
 ·have e1:arr[base+i]?=some arr[base+i]:=B4 A6;have e2:arr[base+j]?=some arr[base+j]:=B4 A6;have:=so _ _ _ _ A6 (by omega:base+i<=base+j) A6 e1 e2;simp only[e1,e2,Option.any_some,decide_eq_true_eq]at z⊢;omega
 ·refine k h hn (λi x b1 b2 e=>?_) (λi x b1 b2 e=>?_)
  ·have:=h1 (i-base) A6;rw[show base+(i-base)=i by omega,e]at this
   simpa using this
  ·have:=h2 (i-base) A6 A6;rw[show base+(i-base)=i by omega,e]at this
   simpa using this
end
end PyProof.Rows
namespace PyProof.Rows
open PySem
def WX:Array Keyed->Array Keyed->StateT SortSt Sem (Array Keyed):=sortPriv% PySem.Builtin.mergeLo
structure Lv(rk:Keyed->Nat)(a b out:Array Keyed)(ia ib:Nat):Prop where
 mi:MI rk a b out ia ib
 la:ia+1<a.size
 lb:ib<b.size
section
variable{prog:Program}{w:World}{A:Around}{E:Value->Shared->Prop}{s:Shared}{rk:Keyed->Nat}{S:Keyed->Prop}{κ:SortKind}
theorem wpI{M:Model}{α:Type}{c:Prop}[Decidable c]{p q:StateT SortSt Sem α}{Q:α->SortSt->Prop}{st:SortSt}(h1:c->wpS M A E s p Q st)(h2:¬c->wpS M A E s q Q st):wpS M A E s (if c then p else q) Q st:=by
 by_cases h:c
 ·rw[X9 h];exact h1 h
 ·rw[X8 h];exact h2 h
theorem wpE{M:Model}{α:Type}{x y:Nat}{p q:StateT SortSt Sem α}{Q:α->SortSt->Prop}{st:SortSt}(h1:x=y->wpS M A E s p Q st)(h2:x≠y->wpS M A E s q Q st):wpS M A E s (if(x==y)=true then p else q) Q st:=wpI (λz=>h1 (eq_of_beq z)) λz=>h2 λe=>z (beq_iff_eq.mpr e)
theorem wpJ{M:Model}{α β:Type}{c:Prop}[Decidable c]{jp:Unit->β->StateT SortSt Sem α}{x y:β}{Q:α->SortSt->Prop}{st:SortSt}(h:∀m,wpS M A E s (jp () m) Q st):wpS M A E s (if c then jp () x else jp () y) Q st:=wpI (λ_=>h x) λ_=>h y
theorem wpC{M:Model}{α:Type}{m:StateT SortSt Sem α}{Q:α->SortSt->Prop}{st:SortSt}(P:(α->SortSt->Prop)->SortSt->Prop)(h:P Q st)(k:P Q st->wpS M A E s m Q st):wpS M A E s m Q st:=k h
theorem wpR{M:Model}{α:Type}{m:StateT SortSt Sem α}{Q:α->SortSt->Prop}{st:SortSt}(F:(α->SortSt->Prop)->Prop)(h:F Q)(k:∀R,F R->wpS M A E s m R st):wpS M A E s m Q st:=k Q h
theorem SA{a b:Array Keyed}{st:SortSt}{Q:Array Keyed->SortSt->Prop}(hl:NF prog w A E s rk S κ)(hk:kindOf st=κ)(na:1<=a.size)(nb:1<=b.size)(Sa:∀(i:Nat) x,a[i]?=some x->S x)(Sb:∀(i:Nat) x,b[i]?=some x->S x)(sa:SoA rk a)(sb:SoA rk b)(first:∀x y,b[0]?=some x->a[0]?=some y->rk x<=rk y)(last:∀(i:Nat) x y,b[i]?=some x->a[a.size-1]?=some y->rk x<=rk y)(k:∀out st',Mgd rk a b out->DP st st'->Q out st'):wpS (model prog w) A E s (WX a b) Q st:=by
 have atA:∀{i:Nat},i<a.size->∃x,a[i]?=some x:=λ{i} h=>⟨_,B4 h⟩
 have atB:∀{i:Nat},i<b.size->∃x,b[i]?=some x:=λ{i} h=>⟨_,B4 h⟩
 have lastL:∀{ia:Nat},ia+1=a.size->∀{ib:Nat}(i:Nat) x,ib<=i->b[i]?=some x->∀(j:Nat) y,ia<=j->a[j]?=some y->rk x<=rk y:=λ{ia} e {ib} i x _ ex j y hj ey=>by
  have jl:=(F6.mp ey).1;have:j=a.size-1:=by omega
  subst this;exact last i x y ex ey
 refine K0 (wpS_lift (A4e ⟨rfl,?_⟩));obtain⟨x0,e0⟩:=atB nb;refine K0 (CJ e0 ?_);have m0:MI rk a b #[x0] 0 1:=by
  have:=MI.pushB (MI.nil (rk:=rk) (a:=a) (b:=b)) sb e0 λj y _ ey=>by
   obtain⟨y0,f0⟩:=atA na;exact C6 (first _ _ e0 f0) (sa 0 j _ _ (G9 _) f0 ey)
  exact this
 refine wpE (λz1=>?_) λz1=>?_
 ·refine K2 (k _ _ ?_ (DP.refl st));rw[z1]at m0;have:=m0.doneA sa (G9 _);rw[<-z1]at this⊢;exact this
 refine wpE (λz2=>?_) λz2=>?_
 ·exact K2 (k _ _ (m0.lastA sa sb (G9 _) nb (lastL z2)) (DP.refl st))
 have z1:1<b.size:=by lia
 have z2:0+1<a.size:=by lia
 refine K0 (A6g ?_);refine K0 (A2c (A0h (I:=λx r st'=>DP st st'/\∃out ia ib g,r=(none,out,ia,ib,g)/\Lv rk a b out ia ib/\x<=ia+ib) (Q:=λr st'=>DP st st'/\∃o t,r=(some o,t)/\Mgd rk a b o) ?_ ?_ ⟨DP.refl st,_,_,_,_,rfl,⟨m0,z2,z1⟩,G9 _⟩) ?_)
 ·rintro x c st1 _ hx ⟨sy,out,ia,ib,g,rfl,lv,le⟩;have hk1:kindOf st1=κ:=by rw[sy.kind,hk]
  refine K0 (A2c (A0h (I:=λx r st'=>st'=st1/\∃out' ia' ib' ac bc,r=(none,out',ia',ib',ac,bc)/\Lv rk a b out' ia' ib'/\ia+ib+x<=ia'+ib') (Q:=λr st'=>st'=st1/\((∃o t,r=(some o,t)/\Mgd rk a b o)\/∃out' ia' ib' ac bc,r=(none,out',ia',ib',ac,bc)/\Lv rk a b out' ia' ib'/\ia+ib+1<=ia'+ib')) ?_ ?_ ⟨rfl,out,ia,ib,0,0,rfl,lv,B1 _⟩) ?_)
  ·rintro x' c' st2 _ hx' ⟨rfl,out',ia',ib',ac,bc,rfl,lv',le'⟩;obtain⟨mi0,la0,lb0⟩:=lv';obtain⟨y,ey⟩:=atB lb0;obtain⟨z,ez⟩:=atA (Nat.lt_of_succ_lt la0);refine K0 (CJ ey (K0 (CJ ez (K0 (hl _ _ _ _ (Sb _ _ ey) (Sa _ _ ez) hk1 ?_)))));by_cases lt:rk y<rk z
   ·rw[X7 lt];have mi:=mi0.pushB sb ey λj y' hj ey'=>by
     have:=sa _ _ _ _ hj ez ey';lia
    refine wpI (λ_=>K0 (CJ ey (wpE (λq=>K2 ⟨rfl,.inl ⟨_,_,rfl,?_⟩⟩) λq=>?_))) λh=>absurd rfl h
    ·rw[q]at mi⊢;exact mi.doneA sa A0
    have lv2:Lv rk a b (out'.push y) ia' (ib'+1):=⟨mi,la0,by lia⟩
    exact wpI (λ_=>K2 ⟨rfl,.inr ⟨_,_,_,_,_,rfl,lv2,by lia⟩⟩) λ_=>K2 ⟨rfl,_,_,_,_,_,rfl,lv2,by lia⟩
   ·rw[X6 lt];have mi:=mi0.pushA sa ez λj y' hj ey'=>by
     have:=sb _ _ _ _ hj ey ey';lia
    refine wpI (λh=>nomatch h) λ_=>K0 (CJ ez (wpE (λq=>K2 ⟨rfl,.inl ⟨_,_,rfl,mi.lastA sa sb A0 (M4 lb0) (lastL q)⟩⟩) λq=>?_));have lv2:Lv rk a b (out'.push z) (ia'+1) ib':=⟨mi,by lia,lb0⟩
    exact wpI (λ_=>K2 ⟨rfl,.inr ⟨_,_,_,_,_,rfl,lv2,by lia⟩⟩) λ_=>K2 ⟨rfl,_,_,_,_,_,rfl,lv2,by lia⟩
  ·rintro c' st2 ⟨rfl,out',ia',ib',ac,bc,rfl,lv',le'⟩;have:=lv'.la;have:=lv'.lb;lia
  rintro r st2 ⟨rfl,⟨o,t,rfl,mg⟩|⟨out',ia',ib',ac,bc,rfl,lv',le'⟩⟩
  ·exact K2 ⟨sy,_,_,rfl,mg⟩
  refine K0 (wpS_lift (A4e ⟨rfl,?_⟩));refine K0 (A2c (A0h (I:=λx r st'=>DP st st'/\∃out2 ia2 ib2 g2 ac2 bc2,r=(none,out2,ia2,ib2,g2,ac2,bc2)/\Lv rk a b out2 ia2 ib2/\ia'+ib'+x<=ia2+ib2) (Q:=λr st'=>DP st st'/\((∃o t,r=(some o,t)/\Mgd rk a b o)\/∃out2 ia2 ib2 g2 ac2 bc2,r=(none,out2,ia2,ib2,g2,ac2,bc2)/\Lv rk a b out2 ia2 ib2/\ia'+ib'<=ia2+ib2)) ?_ ?_ ⟨sy,out',ia',ib',_,_,_,rfl,lv',B1 _⟩) ?_)
  ·rintro x2 c2 st3 _ hx2 ⟨sy2,out2,ia2,ib2,g2,ac2,bc2,rfl,lv2,le2⟩;dsimp -zeta only
   extract_lets s1 out3 s2 ia3 s3 ib3 s4 m3 s5 ac3 bc3 ib4 jp m4
   refine wpR (λR=>(∀o t st',Mgd rk a b o->DP st st'->R (.done (some o,t)) st')/\∀o i j g p q st',Lv rk a b o i j->ia'+ib'+(x2+1)<=i+j->DP st st'->R (.done (none,o,i,j,g,p,q)) st'/\R (.yield (none,o,i,j,g,p,q)) st') ⟨λo t st' m s=>⟨s,.inl ⟨_,_,rfl,m⟩⟩,λo i j g p q st' l e s=>⟨⟨s,.inr ⟨_,_,_,_,_,_,rfl,l,by lia⟩⟩,s,_,_,_,_,_,_,rfl,l,e⟩⟩ λR ⟨Rd,Rn⟩=>?_;refine wpJ λm=>?_;have sy3:DP st (SortSt.mk' (kindOf st3) (arrOf st3) (pendingOf st3) m (failedOf st3)):=by
    obtain⟨gg,rfl⟩:=sy2;exact⟨_,rfl⟩
   have hk3:=sy3.kind.trans hk;obtain⟨mi0,la2,lb2⟩:=lv2;obtain⟨y,ey⟩:=atB lb2;refine K0 (A3c (K0 (CJ ey (K0 (Lu hl hk3 (Sb _ _ ey) (λi x _ _ e=>Sa i x e) (λi j x y _ h _=>sa i j x y h) A0 A0 λkk hkk h1 h2=>?_)))));dsimp -zeta only
   extract_lets ac4 jp2 out4 ia4
   have h2:∀(i:Nat) x,ia2+kk<=i->a[i]?=some x->rk y<rk x:=λi x hi ex=>h2 i x hi (by have:=(F6.mp ex).1;lia) ex;refine wpC (λQ st=>∀o i,MI rk a b o i ib2->i+1<a.size->ia2<=i->(∀(i':Nat) x,i<=i'->a[i']?=some x->rk y<rk x)->wpS (model prog w) A E s (jp2 () o i) Q st) (λo i mi2 li lei gt=>?_) λhj2=>?_
   ·have mi3:=mi2.pushB sb ey λj y' hj ey'=>M4 (gt j y' hj ey');refine K0 (CJ ey (wpE (λq3=>K2 (Rd _ _ _ ?_ sy3)) λq3=>?_))
    ·have q3:ib2+1=b.size:=q3;show Mgd rk a b (o.push y++a.extract i a.size++b.extract (ib2+1) b.size);rw[q3]at mi3⊢;exact mi3.doneA sa A0
    have q3:ib2+1≠b.size:=q3;obtain⟨z,ez⟩:=atA (i:=i) A0;refine K0 (CJ ez (K0 (Nl hl hk3 (Sa _ _ ez) (λi x _ _ e=>Sb i x e) (λi j x y _ h _=>sb i j x y h) (by show ib2+1+(b.size-(ib2+1))<=b.size;lia) (by show 0<b.size-(ib2+1);lia) λk2 hk2 h3 h4=>?_)));dsimp -zeta only
    extract_lets bc4 ia5 jp3 out5 ib5
    have hk2:k2<=b.size-(ib2+1):=hk2;have h4:∀(j:Nat) x,ib2+1+k2<=j->b[j]?=some x->rk z<=rk x:=λj x hj ex=>h4 j x hj (by have:=(F6.mp ex).1;show j<ib2+1+(b.size-(ib2+1));lia) ex;refine wpC (λQ st=>∀o j,MI rk a b o i j->ib2+1<=j->j<b.size->(∀(j':Nat) x,j<=j'->b[j']?=some x->rk z<=rk x)->wpS (model prog w) A E s (jp3 () o j) Q st) (λo j mi4 lj ljb ge=>?_) λhj3=>?_
    ·have mi5:=mi4.pushA sa ez ge;refine K0 (CJ ez (wpE (λq5=>K2 (Rd _ _ _ (mi5.lastA sa sb A0 A0 (lastL q5)) sy3)) λq5=>?_));have lv3:Lv rk a b _ (i+1) j:=⟨mi5,by lia,ljb⟩
     exact wpI (λ_=>K2 (Rn _ _ _ _ _ _ _ lv3 A0 sy3).1) λ_=>K2 (Rn _ _ _ _ _ _ _ lv3 A0 sy3).2
    ·clear_value jp3
     refine wpI (λzk=>?_) λzk=>?_
     ·have mi4:=MI.addB sb mi3 (k:=k2) A0 λi x h1' h2' ex j y' hj ey'=>C6 (M4 (h3 i x h1' h2' ex)) (sa _ _ _ _ hj ez ey');refine wpE (λq4=>K2 (Rd _ _ _ ?_ sy3)) λq4=>hj3 _ _ mi4 A0 (by have q4:ib2+1+k2≠b.size:=q4;lia) h4;have q4:ib2+1+k2=b.size:=q4;show Mgd rk a b (o.push y++b.extract (ib2+1) (ib2+1+k2)++a.extract i a.size++b.extract (ib2+1+k2) b.size);have mi4':=mi4;rw[q4]at mi4'⊢;exact mi4'.doneA sa A0
     ·have zk:k2=0:=by lia
      subst zk;exact hj3 _ _ mi3 (B1 _) A0 h4
   ·clear_value jp2
    refine wpI (λzk=>?_) λzk=>?_
    ·have mi2:=MI.addA sa mi0 (k:=kk) A0 λi x h1' h2' ex j y' hj ey'=>C6 (h1 i x h1' h2' ex) (sb _ _ _ _ hj ey ey');refine wpE (λq1=>K2 (Rd _ _ _ (mi2.lastA sa sb A0 A0 (lastL q1)) sy3)) λq1=>wpE (λq2=>K2 (Rd _ _ _ ?_ sy3)) λq2=>hj2 _ _ mi2 (by have q1:ia2+kk+1≠a.size:=q1;have q2:ia2+kk≠a.size:=q2;lia) A0 h2;have q2:ia2+kk=a.size:=q2;show Mgd rk a b (out2++a.extract ia2 (ia2+kk)++a.extract (ia2+kk) a.size++b.extract ib2 b.size);have mi2':=mi2;rw[q2]at mi2'⊢;exact mi2'.doneB sb A0
    ·have zk:kk=0:=by lia
     subst zk;exact hj2 _ _ mi0 la2 (B1 _) h2
  ·rintro c2 st3 ⟨sy2,out2,ia2,ib2,g2,ac2,bc2,rfl,lv2,le2⟩;have:=lv2.la;have:=lv2.lb;lia
  rintro r st3 ⟨sy2,⟨o,t,rfl,mg⟩|⟨out2,ia2,ib2,g2,ac2,bc2,rfl,lv2,le2⟩⟩
  ·exact K2 ⟨sy2,_,_,rfl,mg⟩
  refine K0 (A3c (K2 ?_));refine⟨?_,_,_,_,_,rfl,lv2,by show x+1<=ia2+ib2;lia⟩;obtain⟨gg,rfl⟩:=sy2;exact⟨_,rfl⟩
 ·rintro c st1 ⟨sy,out,ia,ib,g,rfl,lv,le⟩;have:=lv.la;have:=lv.lb;lia
 ·rintro r st1 ⟨sy,o,t,rfl,mg⟩;exact K2 (k _ _ mg sy)
end
end PyProof.Rows
namespace PyProof.Rows
open PySem
structure MH(rk:Keyed->Nat)(a b out:Array Keyed)(na nb:Nat):Prop where
 pm:out.toList.Perm (a.toList.drop na++b.toList.drop nb)
 so:out.toList.Pairwise (λx y=>rk y<=rk x)
 ba:∀o∈out.toList,∀i x,i<na->a[i]?=some x->rk x<=rk o
 bb:∀o∈out.toList,∀i x,i<nb->b[i]?=some x->rk x<=rk o
section
variable{rk:Keyed->Nat}{a b out:Array Keyed}{na nb:Nat}
theorem MH.nil:MH rk a b #[] a.size b.size:=by
 refine⟨?_,by simp,λo h=>by simp at h,λo h=>by simp at h⟩;rw[show a.size=a.toList.length from C5.symm,show b.size=b.toList.length from C5.symm,List.drop_length,List.drop_length];exact A6a _
theorem Lw{a:Array Keyed}{i:Nat}{x:Keyed}(h:a[i]?=some x):a.toList.drop i=x::a.toList.drop (i+1):=by
 obtain⟨hl,e⟩:=F6.mp h;rw[R7 (by rw[C5];exact hl),P5,e]
theorem MH.pushA{x:Keyed}(h:MH rk a b out (na+1) nb)(sa:SoA rk a)(e:a[na]?=some x)(le:∀j y,j<nb->b[j]?=some y->rk y<=rk x):MH rk a b (out.push x) na nb:=by
 have me:∀o,o∈(out.push x).toList->o∈out.toList\/o=x:=λo ho=>by
  rw[J1,C7,C4]at ho;exact ho
 refine⟨?_,?_,λo ho i y hi ey=>?_,λo ho i y hi ey=>?_⟩
 ·rw[J1,Lw e,List.cons_append];exact List.perm_append_singleton x _ |>.trans (h.pm.cons x)
 ·rw[J1,N9];refine⟨h.so,by simp,λo ho y hy=>?_⟩;rw[C4.mp hy];exact h.ba o ho na x A0 e
 ·rcases me o ho with z|rfl
  ·exact h.ba o z i y A0 ey
  ·exact sa i na y _ A0 ey e
 ·rcases me o ho with z|rfl
  ·exact h.bb o z i y hi ey
  ·exact le i y hi ey
theorem MH.pushB{x:Keyed}(h:MH rk a b out na (nb+1))(sb:SoA rk b)(e:b[nb]?=some x)(le:∀j y,j<na->a[j]?=some y->rk y<=rk x):MH rk a b (out.push x) na nb:=by
 have me:∀o,o∈(out.push x).toList->o∈out.toList\/o=x:=λo ho=>by
  rw[J1,C7,C4]at ho;exact ho
 refine⟨?_,?_,λo ho i y hi ey=>?_,λo ho i y hi ey=>?_⟩
 ·rw[J1,Lw e];exact(List.perm_append_singleton x _).trans ((h.pm.cons x).trans List.perm_middle.symm)
 ·rw[J1,N9];refine⟨h.so,by simp,λo ho y hy=>?_⟩;rw[C4.mp hy];exact h.bb o ho nb x A0 e
 ·rcases me o ho with z|rfl
  ·exact h.ba o z i y hi ey
  ·exact le i y hi ey
 ·rcases me o ho with z|rfl
  ·exact h.bb o z i y A0 ey
  ·exact sb i nb y _ A0 ey e
theorem Rv{a:Array Keyed}{i j:Nat}{x:Keyed}(h:a[i]?=some x)(ij:i<j):(a.extract i j).reverse=(a.extract (i+1) j).reverse.push x:=by
 apply W9.mp;rw[J1,U5,U5,R5,R5];simp only[List.extract];rw[Lw h,show j-i=(j-(i+1))+1 by lia,List.take_succ_cons,List.reverse_cons]
theorem MH.addA(sa:SoA rk a){n:Nat}(h:MH rk a b out n nb)(hn:n<=a.size):∀{k t:Nat},t+k=n->(∀i x,t<=i->i<n->a[i]?=some x->∀j y,j<nb->b[j]?=some y->rk y<=rk x)->MH rk a b (out++(a.extract t n).reverse) t nb
 |0,t,e,_=>by
  have:t=n:=by lia
  subst this;rw[Q8 A0,Array.reverse_empty,O9];exact h
 |k+1,t,e,le=>by
  have hl:t<a.size:=by lia
  have ex:a[t]?=some a[t]:=B4 hl;have:=(MH.addA sa h hn (k:=k) (t:=t+1) A0 (λi x h1 h2=>le i x A0 h2)).pushA sa ex (le t _ (B1 _) A0 ex);rw[Rv ex A0,W0];exact this
theorem MH.addB(sb:SoA rk b){n:Nat}(h:MH rk a b out na n)(hn:n<=b.size):∀{k t:Nat},t+k=n->(∀i x,t<=i->i<n->b[i]?=some x->∀j y,j<na->a[j]?=some y->rk y<=rk x)->MH rk a b (out++(b.extract t n).reverse) na t
 |0,t,e,_=>by
  have:t=n:=by lia
  subst this;rw[Q8 A0,Array.reverse_empty,O9];exact h
 |k+1,t,e,le=>by
  have hl:t<b.size:=by lia
  have ex:b[t]?=some b[t]:=B4 hl;have:=(MH.addB sb h hn (k:=k) (t:=t+1) A0 (λi x h1 h2=>le i x A0 h2)).pushB sb ex (le t _ (B1 _) A0 ex);rw[Rv ex A0,W0];exact this
theorem MH.whole(h:MH rk a b out 0 0):Mgd rk a b out.reverse:=by
 refine⟨?_,?_⟩
 ·rw[U5];exact(List.reverse_perm _).trans h.pm
 ·rw[U5,List.pairwise_reverse];exact h.so
theorem MH.doneA(sa:SoA rk a)(h:MH rk a b out na 0)(hn:na<=a.size):Mgd rk a b (a.extract 0 na++b.extract 0 0++out.reverse):=by
 have h1:=(MH.addA sa h hn (k:=na) (t:=0) A0 λi x _ _ _ j y hj=>absurd hj A0).whole;have e:b.extract 0 0=#[]:=by simp
 rw[e,O9];rw[U6,U0]at h1;exact h1
theorem MH.doneB(sb:SoA rk b)(h:MH rk a b out 0 nb)(hn:nb<=b.size):Mgd rk a b (a.extract 0 0++b.extract 0 nb++out.reverse):=by
 have h1:=(MH.addB sb h hn (k:=nb) (t:=0) A0 λi x _ _ _ j y hj=>absurd hj A0).whole;have e:a.extract 0 0=#[]:=by simp
 rw[e,Array.empty_append];rw[U6,U0]at h1;exact h1
theorem MH.firstB(sa:SoA rk a)(sb:SoA rk b)(h:MH rk a b out na nb)(ha:na<=a.size)(hb:nb<=b.size)(le:∀i x,i<na->a[i]?=some x->∀j y,j<nb->b[j]?=some y->rk y<=rk x):Mgd rk a b (b.extract 0 nb++a.extract 0 na++out.reverse):=by
 have h1:=MH.addA sa h ha (k:=na) (t:=0) A0 λi x _ h2=>le i x h2;have h2:=(MH.addB sb h1 hb (k:=nb) (t:=0) A0 λi x _ _ _ j y hj=>absurd hj A0).whole;rw[U6,U6,U0,U0,<-Array.append_assoc]at h2;exact h2
end
end PyProof.Rows
namespace PyProof.Rows
open PySem
def WY:Array Keyed->Array Keyed->StateT SortSt Sem (Array Keyed):=sortPriv% PySem.Builtin.mergeHi
structure LvH(rk:Keyed->Nat)(a b out:Array Keyed)(na nb:Nat):Prop where
 mh:MH rk a b out na nb
 la:1<=na
 ka:na<=a.size
 lb:2<=nb
 kb:nb<=b.size
section
variable{prog:Program}{w:World}{A:Around}{E:Value->Shared->Prop}{s:Shared}{rk:Keyed->Nat}{S:Keyed->Prop}{κ:SortKind}
theorem SB{a b:Array Keyed}{st:SortSt}{Q:Array Keyed->SortSt->Prop}(hl:NF prog w A E s rk S κ)(hk:kindOf st=κ)(na:1<=a.size)(nb:1<=b.size)(Sa:∀(i:Nat) x,a[i]?=some x->S x)(Sb:∀(i:Nat) x,b[i]?=some x->S x)(sa:SoA rk a)(sb:SoA rk b)(first:∀x y,b[0]?=some x->a[0]?=some y->rk x<=rk y)(last:∀(i:Nat) x y,b[i]?=some x->a[a.size-1]?=some y->rk x<=rk y)(k:∀out st',Mgd rk a b out->DP st st'->Q out st'):wpS (model prog w) A E s (WY a b) Q st:=by
 have atA:∀{i:Nat},i<a.size->∃x,a[i]?=some x:=λ{i} h=>⟨_,B4 h⟩
 have atB:∀{i:Nat},i<b.size->∃x,b[i]?=some x:=λ{i} h=>⟨_,B4 h⟩
 obtain⟨f0,ef0⟩:=atA na;have firstL:∀{nb:Nat},nb=1->∀{na:Nat}(i:Nat) x,i<na->a[i]?=some x->∀(j:Nat) y,j<nb->b[j]?=some y->rk y<=rk x:=λ{nb} e {na} i x _ ex j y hj ey=>by
  have:j=0:=by lia
  subst this;exact C6 (first _ _ ey ef0) (sa 0 i _ _ (G9 _) ef0 ex)
 refine K0 (wpS_lift (A4e ⟨rfl,?_⟩));obtain⟨x0,e0⟩:=atA (i:=a.size-1) A0;refine K0 (CJ e0 ?_);have m0:MH rk a b #[x0] (a.size-1) b.size:=by
  have:=MH.pushA (na:=a.size-1) (show MH rk a b #[] (a.size-1+1) b.size by rw[S5 na];exact MH.nil) sa e0 λj y _ ey=>last j y x0 ey e0;exact this
 refine wpE (λz1=>K2 (k _ _ ?_ (DP.refl st))) λz1=>wpE (λz2=>K2 (k _ _ (m0.firstB sa sb A0 (B1 _) (firstL z2)) (DP.refl st))) λz2=>?_
 ·rw[z1]at m0⊢;exact m0.doneB sb (B1 _)
 refine K0 (A6g ?_);refine K0 (A2c (A0h (I:=λx r st'=>DP st st'/\∃na nb out g,r=(none,na,nb,out,g)/\LvH rk a b out na nb/\na+nb+x<=a.size+b.size) (Q:=λr st'=>DP st st'/\∃o t,r=(some o,t)/\Mgd rk a b o) ?_ ?_ ⟨DP.refl st,_,_,_,_,rfl,⟨m0,by lia,by lia,by lia,B1 _⟩,by lia⟩) ?_)
 ·rintro x c st1 _ hx ⟨sy,na1,nb1,out,g,rfl,lv,le⟩;have hk1:kindOf st1=κ:=by rw[sy.kind,hk]
  refine K0 (A2c (A0h (I:=λx r st'=>st'=st1/\∃na' nb' out' ac bc,r=(none,na',nb',out',ac,bc)/\LvH rk a b out' na' nb'/\na'+nb'+x<=na1+nb1) (Q:=λr st'=>st'=st1/\((∃o t,r=(some o,t)/\Mgd rk a b o)\/∃na' nb' out' ac bc,r=(none,na',nb',out',ac,bc)/\LvH rk a b out' na' nb'/\na'+nb'+1<=na1+nb1)) ?_ ?_ ⟨rfl,na1,nb1,out,0,0,rfl,lv,B1 _⟩) ?_)
  ·rintro x' c' st2 _ hx' ⟨rfl,na',nb',out',ac,bc,rfl,lv',le'⟩;obtain⟨mh,la',ka',lb',kb'⟩:=lv';obtain⟨y,ey⟩:=atB (i:=nb'-1) A0;obtain⟨z,ez⟩:=atA (i:=na'-1) A0;refine K0 (CJ ey (K0 (CJ ez (K0 (hl _ _ _ _ (Sb _ _ ey) (Sa _ _ ez) hk1 ?_)))));by_cases lt:rk y<rk z
   ·rw[X7 lt];have mi:=(show MH rk a b out' (na'-1+1) nb' by rw[S5 la'];exact mh).pushA sa ez λj y' hj ey'=>by
     have:=sb j (nb'-1) _ _ A0 ey' ey;lia
    refine wpI (λ_=>K0 (CJ ez (wpE (λq=>K2 ⟨rfl,.inl ⟨_,_,rfl,?_⟩⟩) λq=>?_))) λh=>absurd rfl h
    ·rw[q]at mi⊢;exact mi.doneB sb A0
    have lv2:LvH rk a b (out'.push z) (na'-1) nb':=⟨mi,by lia,by lia,by lia,by lia⟩
    exact wpI (λ_=>K2 ⟨rfl,.inr ⟨_,_,_,_,_,rfl,lv2,by lia⟩⟩) λ_=>K2 ⟨rfl,_,_,_,_,_,rfl,lv2,by lia⟩
   ·rw[X6 lt];have mi:=(show MH rk a b out' na' (nb'-1+1) by rw[S5 A0];exact mh).pushB sb ey λj y' hj ey'=>by
     have:=sa j (na'-1) _ _ A0 ey' ez;lia
    refine wpI (λh=>nomatch h) λ_=>K0 (CJ ey (wpE (λq=>K2 ⟨rfl,.inl ⟨_,_,rfl,mi.firstB sa sb A0 A0 (firstL q)⟩⟩) λq=>?_));have lv2:LvH rk a b (out'.push y) na' (nb'-1):=⟨mi,by lia,by lia,by lia,by lia⟩
    exact wpI (λ_=>K2 ⟨rfl,.inr ⟨_,_,_,_,_,rfl,lv2,by lia⟩⟩) λ_=>K2 ⟨rfl,_,_,_,_,_,rfl,lv2,by lia⟩
  ·rintro c' st2 ⟨rfl,na',nb',out',ac,bc,rfl,lv',le'⟩;have:=lv'.la;have:=lv'.lb;have:=lv.ka;have:=lv.kb;lia
  rintro r st2 ⟨rfl,⟨o,t,rfl,mg⟩|⟨na',nb',out',ac,bc,rfl,lv',le'⟩⟩
  ·exact K2 ⟨sy,_,_,rfl,mg⟩
  refine K0 (wpS_lift (A4e ⟨rfl,?_⟩));refine K0 (A2c (A0h (I:=λx r st'=>DP st st'/\∃na2 nb2 out2 g2 ac2 bc2,r=(none,na2,nb2,out2,g2,ac2,bc2)/\LvH rk a b out2 na2 nb2/\na2+nb2+x<=na'+nb') (Q:=λr st'=>DP st st'/\((∃o t,r=(some o,t)/\Mgd rk a b o)\/∃na2 nb2 out2 g2 ac2 bc2,r=(none,na2,nb2,out2,g2,ac2,bc2)/\LvH rk a b out2 na2 nb2/\na2+nb2<=na'+nb')) ?_ ?_ ⟨sy,na',nb',out',_,_,_,rfl,lv',B1 _⟩) ?_)
  ·rintro x2 c2 st3 _ hx2 ⟨sy2,na2,nb2,out2,g2,ac2,bc2,rfl,lv2,le2⟩;dsimp -zeta only
   extract_lets s1 na3 s2 nb3 s3 out3 s4 m3 s5 ac3 bc3 nb4 jp m4
   refine wpR (λR=>(∀o t st',Mgd rk a b o->DP st st'->R (.done (some o,t)) st')/\∀i j o g p q st',LvH rk a b o i j->i+j+(x2+1)<=na'+nb'->DP st st'->R (.done (none,i,j,o,g,p,q)) st'/\R (.yield (none,i,j,o,g,p,q)) st') ⟨λo t st' m s=>⟨s,.inl ⟨_,_,rfl,m⟩⟩,λi j o g p q st' l e s=>⟨⟨s,.inr ⟨_,_,_,_,_,_,rfl,l,by lia⟩⟩,s,_,_,_,_,_,_,rfl,l,e⟩⟩ λR ⟨Rd,Rn⟩=>?_;refine wpJ λm=>?_;have sy3:DP st (SortSt.mk' (kindOf st3) (arrOf st3) (pendingOf st3) m (failedOf st3)):=by
    obtain⟨gg,rfl⟩:=sy2;exact⟨_,rfl⟩
   have hk3:=sy3.kind.trans hk;obtain⟨mh,la2,ka2,lb2,kb2⟩:=lv2;obtain⟨y,ey⟩:=atB (i:=nb2-1) A0;refine K0 (A3c (K0 (CJ ey (K0 (Lu hl hk3 (Sb _ _ ey) (λi x _ _ e=>Sa i x e) (λi j x y _ h _=>sa i j x y h) (by show 0+na2<=a.size;lia) (by show na2-1<na2;lia) λt1 ht1 h1 h2=>?_)))));dsimp -zeta only
   extract_lets k4 ac4 jp2 out4 na4
   have ht1:t1<=na2:=ht1;have h1:∀(j:Nat) x,j<t1->a[j]?=some x->rk x<=rk y:=λj x hj ex=>h1 j x (G9 _) A0 ex;refine wpC (λQ st=>∀i o,MH rk a b o i nb2->1<=i->i<=na2->(∀(j:Nat) x,j<i->a[j]?=some x->rk x<=rk y)->wpS (model prog w) A E s (jp2 () i o) Q st) (λi o mi2 li lei ge=>?_) λhj2=>?_
   ·have mi3:=(show MH rk a b _ i (nb2-1+1) by rw[S5 A0];exact mi2).pushB sb ey λj y' hj ey'=>ge j y' hj ey';refine K0 (CJ ey (wpE (λq3=>K2 (Rd _ _ _ (mi3.firstB sa sb A0 (by show nb2-1<=b.size;lia) (firstL q3)) sy3)) λq3=>?_));have q3:nb2-1≠1:=q3;obtain⟨z,ez⟩:=atA (i:=i-1) A0;refine K0 (CJ ez (K0 (Nl hl hk3 (Sa _ _ ez) (λi x _ _ e=>Sb i x e) (λi j x y _ h _=>sb i j x y h) (by show 0+(nb2-1)<=b.size;lia) (by show nb2-1-1<nb2-1;lia) λt2 ht2 h3 h4=>?_)));dsimp -zeta only
    extract_lets k5 bc4 na5 jp3 out5 nb5
    have ht2:t2<=nb2-1:=ht2;have h3:∀(j:Nat) x,j<t2->b[j]?=some x->rk x<=rk z:=λj x hj ex=>M4 (h3 j x (G9 _) A0 ex);refine wpC (λQ st=>∀j o,MH rk a b o i j->2<=j->j<=nb2-1->(∀(j':Nat) x,j'<j->b[j']?=some x->rk x<=rk z)->wpS (model prog w) A E s (jp3 () j o) Q st) (λj o mi4 lj ljb gz=>?_) λhj3=>?_
    ·have mi5:=(show MH rk a b _ (i-1+1) j by rw[S5 li];exact mi4).pushA sa ez λj' y' hj ey'=>gz j' y' hj ey';refine K0 (CJ ez (wpE (λq5=>K2 (Rd _ _ _ ?_ sy3)) λq5=>?_))
     ·have q5:i-1=0:=q5;show Mgd rk a b (a.extract 0 (i-1)++b.extract 0 j++(o.push z).reverse);rw[q5]at mi5⊢;exact mi5.doneB sb A0
     have q5:i-1≠0:=q5;have lv3:LvH rk a b _ (i-1) j:=⟨mi5,by lia,by lia,lj,by lia⟩
     exact wpI (λ_=>K2 (Rn _ _ _ _ _ _ _ lv3 A0 sy3).1) λ_=>K2 (Rn _ _ _ _ _ _ _ lv3 A0 sy3).2
    ·clear_value jp3
     refine wpI (λzk=>?_) λzk=>?_
     ·have zk:nb2-1-t2 > 0:=zk;have mi4:=MH.addB sb mi3 A0 (k:=nb2-1-t2) (t:=t2) A0 λi' x h1' h2' ex j y' hj ey'=>C6 (sa j (i-1) _ _ A0 ey' ez) (h4 i' x A0 (by show i'<0+(nb2-1);lia) ex);refine wpE (λq4=>K2 (Rd _ _ _ (mi4.firstB sa sb A0 (by show t2<=b.size;lia) (firstL q4)) sy3)) λq4=>wpE (λq6=>K2 (Rd _ _ _ ?_ sy3)) λq6=>hj3 _ _ mi4 (by have q4:t2≠1:=q4;have q6:t2≠0:=q6;show 2<=t2;lia) ht2 h3;have q6:t2=0:=q6;show Mgd rk a b (a.extract 0 i++b.extract 0 t2++(o.push y++(b.extract t2 (nb2-1)).reverse).reverse);subst q6;exact mi4.doneA sa A0
     ·have zk:¬nb2-1-t2 > 0:=zk;have zk:t2=nb2-1:=by lia
      subst zk;exact hj3 _ _ mi3 (by show 2<=nb2-1;lia) (B1 _) h3
   ·clear_value jp2
    refine wpI (λzk=>?_) λzk=>?_
    ·have zk:na2-t1 > 0:=zk;have mi2:=MH.addA sa mh A0 (k:=na2-t1) (t:=t1) A0 λi x h1' h2' ex j y' hj ey'=>C6 (sb j (nb2-1) _ _ A0 ey' ey) (M4 (h2 i x A0 (by show i<0+na2;lia) ex));refine wpE (λq1=>K2 (Rd _ _ _ ?_ sy3)) λq1=>hj2 _ _ mi2 (by have q1:t1≠0:=q1;show 1<=t1;lia) ht1 h1;have q1:t1=0:=q1;show Mgd rk a b (a.extract 0 t1++b.extract 0 nb2++(out2++(a.extract t1 na2).reverse).reverse);subst q1;exact mi2.doneB sb A0
    ·have zk:¬na2-t1 > 0:=zk;have zk:t1=na2:=by lia
     subst zk;exact hj2 _ _ mh la2 (B1 _) h1
  ·rintro c2 st3 ⟨sy2,na2,nb2,out2,g2,ac2,bc2,rfl,lv2,le2⟩;have:=lv2.la;have:=lv2.lb;have:=lv'.ka;have:=lv'.kb;lia
  rintro r st3 ⟨sy2,⟨o,t,rfl,mg⟩|⟨na2,nb2,out2,g2,ac2,bc2,rfl,lv2,le2⟩⟩
  ·exact K2 ⟨sy2,_,_,rfl,mg⟩
  refine K0 (A3c (K2 ?_));refine⟨?_,_,_,_,_,rfl,lv2,by show na2+nb2+(x+1)<=a.size+b.size;lia⟩;obtain⟨gg,rfl⟩:=sy2;exact⟨_,rfl⟩
 ·rintro c st1 ⟨sy,na1,nb1,out,g,rfl,lv,le⟩;have:=lv.la;have:=lv.lb;lia
 ·rintro r st1 ⟨sy,o,t,rfl,mg⟩;exact K2 (k _ _ mg sy)
end
end PyProof.Rows
namespace PyProof.Rows
open PySem
theorem TV(t:Nat):∀(l:List Keyed)(n:Nat)(arr:Array Keyed),t+n+l.length<=arr.size->((l.zipIdx n).foldl (λa (p:Keyed×Nat)=>a.setIfInBounds (t+p.2) p.1) arr).toList=arr.toList.take (t+n)++l++arr.toList.drop (t+n+l.length)
 |[],n,arr,h=>by simp
 |x::l,n,arr,h=>by
  rw[D1]at h;rw[List.zipIdx_cons,Q6,TV t l (n+1) _ (by rw[Array.size_setIfInBounds];lia)];have hl:t+n<arr.toList.length:=by rw[C5];lia
  rw[Array.toList_setIfInBounds,D1];have e1:(arr.toList.set (t+n) x).take (t+(n+1))=arr.toList.take (t+n)++[x]:=by
   rw[show t+(n+1)=(t+n)+1 by lia,D3,List.take_set_of_le (B1 _),T5 hl];rfl
  have e2:(arr.toList.set (t+n) x).drop (t+(n+1)+l.length)=arr.toList.drop (t+n+(l.length+1)):=by
   rw[List.drop_set_of_lt A0];congr 1;lia
  rw[e1,e2];simp
theorem Vb{t:Nat}{m arr:Array Keyed}(h:t+m.size<=arr.size):(m.toList.zipIdx.foldl (λa (p:Keyed×Nat)=>a.setIfInBounds (t+p.2) p.1) arr).toList=arr.toList.take t++m.toList++arr.toList.drop (t+m.size):=by
 have:=TV t m.toList 0 arr (by rw[C5];lia);rw[C5]at this;exact this
end PyProof.Rows
namespace PyProof.Rows
open PySem
def SoR(rk:Keyed->Nat)(arr:Array Keyed)(lo hi:Nat):Prop:=∀(i j:Nat)(x y:Keyed),lo<=i->i<=j->j<hi->arr[i]?=some x->arr[j]?=some y->rk x<=rk y
structure Mgr(rk:Keyed->Nat)(arr arr':Array Keyed)(lo hi:Nat):Prop where
 pm:arr'.toList.Perm arr.toList
 out:∀i:Nat,i<lo\/hi<=i->arr'[i]?=arr[i]?
 so:SoR rk arr' lo hi
section
variable{prog:Program}{w:World}{A:Around}{E:Value->Shared->Prop}{s:Shared}{rk:Keyed->Nat}{S:Keyed->Prop}{κ:SortKind}
theorem SoR.ext{arr:Array Keyed}{lo hi:Nat}(h:SoR rk arr lo hi)(hz:hi<=arr.size):SoA rk (arr.extract lo hi):=λi j x y ij ex ey=>by
 have jl:=(F6.mp ey).1;rw[S7]at jl;rw[T6]at ex ey;rw[X9 A0]at ex ey;exact h (lo+i) (lo+j) x y A0 A0 A0 ex ey
theorem SoR.join{arr:Array Keyed}{lo mid hi:Nat}(h1:SoR rk arr lo mid)(h2:SoR rk arr mid hi)(h:∀(i j:Nat) x y,lo<=i->i<mid->mid<=j->j<hi->arr[i]?=some x->arr[j]?=some y->rk x<=rk y):SoR rk arr lo hi:=λi j x y li ij jh ex ey=>by
 by_cases a:j<mid
 ·exact h1 i j x y li ij a ex ey
 ·by_cases b:i<mid
  ·exact h i j x y li b A0 jh ex ey
  ·exact h2 i j x y A0 ij jh ex ey
theorem Mgr.same{arr:Array Keyed}{lo hi:Nat}(h:SoR rk arr lo hi):Mgr rk arr arr lo hi:=⟨A6a _,λ_ _=>rfl,h⟩
theorem laid_at{t:Nat}{m arr arr':Array Keyed}(h:t+m.size<=arr.size)(e:arr'.toList=arr.toList.take t++m.toList++arr.toList.drop (t+m.size))(i:Nat):arr'[i]?=if t<=i/\i<t+m.size then m[i-t]? else arr[i]?:=by
 rw[<-G7,e];have l1:(arr.toList.take t).length=t:=by rw[L5,C5];lia
 have l2:(arr.toList.take t++m.toList).length=t+m.size:=by rw[B0,l1,C5]
 by_cases a:i<t
 ·rw[X8 A0,M3,F7 A0,List.getElem?_take,X9 a,G7]
 ·by_cases b:i<t+m.size
  ·rw[X9 A0,F7 A0,F1 A0,l1,G7]
  ·rw[X8 A0,F1 A0,l2,List.getElem?_drop,show t+m.size+(i-(t+m.size))=i by lia,G7]
theorem WV{arr arr' m:Array Keyed}{lo t mid u hi:Nat}(b1:lo<=t)(b2:t<mid)(b3:mid<u)(b4:u<=hi)(hz:hi<=arr.size)(h1:SoR rk arr lo mid)(h2:SoR rk arr mid hi)(low:∀(i j:Nat) x y,lo<=i->i<t->mid<=j->j<hi->arr[i]?=some x->arr[j]?=some y->rk x<=rk y)(high:∀(i j:Nat) x y,lo<=i->i<mid->u<=j->j<hi->arr[i]?=some x->arr[j]?=some y->rk x<=rk y)(mg:Mgd rk (arr.extract t mid) (arr.extract mid u) m)(e:arr'.toList=arr.toList.take t++m.toList++arr.toList.drop (t+m.size)):Mgr rk arr arr' lo hi:=by
 have ms:m.size=u-t:=by
  have:=mg.pm.length_eq;rw[B0,C5,C5,C5,S7,S7]at this;lia
 have tm:t+m.size=u:=by lia
 have at':=laid_at (t:=t) (m:=m) (arr:=arr) (arr':=arr') A0 e;have ml:arr.extract t mid++arr.extract mid u=arr.extract t u:=by
  rw[Array.extract_append_extract];congr 1<;>lia
 have inm:∀{i:Nat}{x:Keyed},m[i]?=some x->∃j,t<=j/\j<u/\arr[j]?=some x:=λ{i x} ex=>by
  have hm:x∈m.toList:=by rw[<-G7]at ex;exact D9 ex
  have:=mg.pm.mem_iff.mp hm;rw[<-Array.toList_append,ml]at this;obtain⟨j,hj⟩:=R3 this;rw[G7,T6]at hj;split at hj
  ·exact⟨t+j,by lia,by lia,hj⟩
  ·cases hj
 refine⟨?_,λi hi'=>?_,λi j x y li ij jh ex ey=>?_⟩
 ·rw[e];have:arr.toList=arr.toList.take t++(arr.extract t u).toList++arr.toList.drop (t+m.size):=by
   rw[R5,tm,M3];simp only[List.extract];have:(arr.toList.drop t).take (u-t)++arr.toList.drop u=arr.toList.drop t:=by
    have:=P0 (u-t) (arr.toList.drop t);rw[List.drop_drop,show t+(u-t)=u by lia]at this;exact this
   rw[this,P0]
  rw (occs:=.pos [3]) [this];refine List.Perm.append_right _ (List.Perm.append_left _ ?_);rw[<-ml,Array.toList_append];exact mg.pm
 ·rw[at',X8 A0]
 ·rw[at']at ex ey;by_cases ci:t<=i/\i<t+m.size
  ·rw[X9 ci]at ex;by_cases cj:t<=j/\j<t+m.size
   ·rw[X9 cj]at ey;by_cases q:i=j
    ·subst q;rw[ex]at ey;cases ey;exact B1 _
    ·have:=List.pairwise_iff_getElem.mp mg.so (i-t) (j-t) (by rw[C5];lia) (by rw[C5];lia) A0;obtain⟨_,f1⟩:=F6.mp ex;obtain⟨_,f2⟩:=F6.mp ey;rw[P5,P5,f1,f2]at this;exact this
   ·rw[X8 cj]at ey;obtain⟨k,k1,k2,ek⟩:=inm ex;by_cases q:k<mid
    ·exact high k j x y A0 q A0 jh ek ey
    ·exact h2 k j x y A0 A0 jh ek ey
  ·rw[X8 ci]at ex;by_cases cj:t<=j/\j<t+m.size
   ·rw[X9 cj]at ey;obtain⟨k,k1,k2,ek⟩:=inm ey;by_cases q:k<mid
    ·exact h1 i k x y li A0 q ex ek
    ·exact low i k x y li A0 A0 A0 ex ek
   ·rw[X8 cj]at ey;by_cases q:i<t
    ·by_cases r:j<mid
     ·exact h1 i j x y li ij r ex ey
     ·exact low i j x y li q A0 jh ex ey
    ·exact h2 i j x y A0 ij jh ex ey
end
end PyProof.Rows
namespace PyProof.Rows
open PySem
section
variable{prog:Program}{w:World}{A:Around}{E:Value->Shared->Prop}{s:Shared}{rk:Keyed->Nat}{S:Keyed->Prop}{κ:SortKind}
theorem Vx{st st':SortSt}{Q:PUnit->SortSt->Prop}(h:Q ⟨⟩ st'):wpS (model prog w) A E s (set st':StateT SortSt Sem PUnit) Q st:=by
 unfold wpS;rw[StateT.run_set];exact K5 ⟨rfl,h⟩
theorem SD{st:SortSt}{Q:Bool->SortSt->Prop}{i sa na pw sb nb pw':Nat}(hl:NF prog w A E s rk S κ)(hk:kindOf st=κ)(hf:failedOf st=none)(e1:(pendingOf st)[i]?=some (sa,na,pw))(e2:(pendingOf st)[i+1]?=some (sb,nb,pw'))(hab:sb=sa+na)(na1:1<=na)(nb1:1<=nb)(hz:sb+nb<=(arrOf st).size)(Sall:∀(i:Nat) x,(arrOf st)[i]?=some x->S x)(s1:SoR rk (arrOf st) sa sb)(s2:SoR rk (arrOf st) sb (sb+nb))
  (k:∀st',kindOf st'=κ->failedOf st'=none->pendingOf st'=((pendingOf st).setIfInBounds i (sa,na+nb,pw)).eraseIdxIfInBounds (i+1)->Mgr rk (arrOf st) (arrOf st') sa (sb+nb)->Q true st'):wpS (model prog w) A E s (mergeAt' i) Q st:=by
 subst hab;have at':∀{j:Nat},j<(arrOf st).size->∃x,(arrOf st)[j]?=some x:=λ{j} h=>⟨_,B4 h⟩
 refine K0 (A6g ?_);rw[e1,e2];dsimp only;refine K0 (Vx ?_);obtain⟨y0,ey0⟩:=at' (j:=sa+na) A0;refine K0 (CJ ey0 (K0 (Lu hl hk (Sall _ _ ey0) (λi x _ _ e=>Sall i x e) (λi j x y h1 h2 h3=>s1 i j x y h1 h2 h3) (show sa+na<=(arrOf st).size by lia) A0 λkk hkk h1 h2=>?_)));dsimp only;by_cases q1:(na-kk==0)=true
 ·rw[X9 q1];have q1:na-kk=0:=by simpa using q1
  refine K2 (k _ hk hf rfl (Mgr.same (s1.join s2 λi j x y a1 a2 a3 a4 ex ey=>?_)));exact C6 (h1 i x a1 A0 ex) (s2 _ _ _ _ (B1 _) a3 a4 ey0 ey)
 rw[X8 q1];have q1:¬na-kk=0:=λz=>q1 (by simpa using z);obtain⟨xl,exl⟩:=at' (j:=sa+kk+(na-kk)-1) A0;refine K0 (CJ exl (K0 (Nl hl hk (Sall _ _ exl) (λi x _ _ e=>Sall i x e) (λi j x y h1 h2 h3=>s2 i j x y h1 h2 h3) (show sa+na+nb<=(arrOf st).size by lia) A0 λt2 ht2 h3 h4=>?_)));dsimp only;have low:∀(i j:Nat) x y,sa<=i->i<sa+kk->sa+na<=j->j<sa+na+nb->(arrOf st)[i]?=some x->(arrOf st)[j]?=some y->rk x<=rk y:=λi j x y a1 a2 a3 a4 ex ey=>C6 (h1 i x a1 a2 ex) (s2 _ _ _ _ (B1 _) a3 a4 ey0 ey);have high:∀(i j:Nat) x y,sa<=i->i<sa+na->sa+na+t2<=j->j<sa+na+nb->(arrOf st)[i]?=some x->(arrOf st)[j]?=some y->rk x<=rk y:=λi j x y a1 a2 a3 a4 ex ey=>C6 (s1 i _ x xl a1 A0 A0 ex exl) (h4 j y a3 a4 ey);by_cases q2:(t2==0)=true
 ·rw[X9 q2];have q2:t2=0:=by simpa using q2
  subst q2;exact K2 (k _ hk hf rfl (Mgr.same (s1.join s2 λi j x y a1 a2 a3 a4 ex ey=>high i j x y a1 a2 a3 a4 ex ey)))
 rw[X8 q2];have q2:¬t2=0:=λz=>q2 (by simpa using z);have sx:SoA rk ((arrOf st).extract (sa+kk) (sa+na)):=SoR.ext (λi j x y a1 a2 a3=>s1 i j x y A0 a2 a3) A0;have sy:SoA rk ((arrOf st).extract (sa+na) (sa+na+t2)):=SoR.ext (λi j x y a1 a2 a3=>s2 i j x y A0 a2 A0) A0;have zx:((arrOf st).extract (sa+kk) (sa+na)).size=na-kk:=by rw[S7];lia
 have zy:((arrOf st).extract (sa+na) (sa+na+t2)).size=t2:=by rw[S7];lia
 have ax:∀{j:Nat}{x:Keyed},((arrOf st).extract (sa+kk) (sa+na))[j]?=some x->(arrOf st)[sa+kk+j]?=some x/\j<na-kk:=λ{j x} e=>by
  have:=(F6.mp e).1;rw[T6,X9 A0]at e;exact⟨e,by lia⟩
 have ay:∀{j:Nat}{x:Keyed},((arrOf st).extract (sa+na) (sa+na+t2))[j]?=some x->(arrOf st)[sa+na+j]?=some x/\j<t2:=λ{j x} e=>by
  have:=(F6.mp e).1;rw[T6,X9 A0]at e;exact⟨e,by lia⟩
 have fst:∀x y,((arrOf st).extract (sa+na) (sa+na+t2))[0]?=some x->((arrOf st).extract (sa+kk) (sa+na))[0]?=some y->rk x<=rk y:=λx y ex ey=>by
  have e:=(ay ex).1;rw[Nat.add_zero,ey0]at e;cases e;exact M4 (h2 _ y A0 A0 (ax ey).1)
 have lst:∀(i:Nat) x y,((arrOf st).extract (sa+na) (sa+na+t2))[i]?=some x->((arrOf st).extract (sa+kk) (sa+na))[((arrOf st).extract (sa+kk) (sa+na)).size-1]?=some y->rk x<=rk y:=λi x y ex ey=>by
  have e:=(ax ey).1;rw[zx,show sa+kk+(na-kk-1)=sa+kk+(na-kk)-1 by lia,exl]at e;cases e;exact M4 (h3 _ x A0 (by have:=(ay ex).2;lia) (ay ex).1)
 have fin:∀(m:Array Keyed)(st1:SortSt),Mgd rk ((arrOf st).extract (sa+kk) (sa+na)) ((arrOf st).extract (sa+na) (sa+na+t2)) m->DP (SortSt.mk' (kindOf st) (arrOf st) (((pendingOf st).setIfInBounds i (sa,na+nb,pw)).eraseIdxIfInBounds (i+1)) (gallopOf st) (failedOf st)) st1->wpS (model prog w) A E s (do modify λs=>setArr s (m.toList.zipIdx.foldl (λa (p:Keyed×Nat)=>a.setIfInBounds (sa+kk+p.2) p.1) (arrOf s));pure (failedOf (<-get)).isNone) Q st1:=λm st1 mg sy1=>by
  obtain⟨g,rfl⟩:=sy1;refine K0 (A3c (K0 (A6g (K2 ?_))));show Q (failedOf st).isNone _;rw[hf];have ms:m.size=na-kk+t2:=by
   have:=mg.pm.length_eq;rw[B0,C5,C5,C5,zx,zy]at this;exact this
  refine k _ hk rfl rfl (WV (t:=sa+kk) (mid:=sa+na) (u:=sa+na+t2) A0 A0 A0 A0 A0 s1 s2 low high mg (Vb (show sa+kk+m.size<=(arrOf st).size by lia)))
 by_cases q3:na-kk<=t2
 ·rw[X9 q3];exact K0 (SA hl hk (show 1<=((arrOf st).extract (sa+kk) (sa+na)).size by rw[zx];lia) (show 1<=((arrOf st).extract (sa+na) (sa+na+t2)).size by rw[zy];lia) (λi x e=>Sall _ x (ax e).1) (λi x e=>Sall _ x (ay e).1) sx sy fst lst fin)
 ·rw[X8 q3];exact K0 (SB hl hk (show 1<=((arrOf st).extract (sa+kk) (sa+na)).size by rw[zx];lia) (show 1<=((arrOf st).extract (sa+na) (sa+na+t2)).size by rw[zy];lia) (λi x e=>Sall _ x (ax e).1) (λi x e=>Sall _ x (ay e).1) sx sy fst lst fin)
end
end PyProof.Rows
namespace PyProof.Rows
open PySem
structure Rea(arr arr':Array Keyed)(lo hi:Nat):Prop where
 pm:arr'.toList.Perm arr.toList
 out:∀i:Nat,i<lo\/hi<=i->arr'[i]?=arr[i]?
section
variable{prog:Program}{w:World}{A:Around}{E:Value->Shared->Prop}{s:Shared}{rk:Keyed->Nat}{S:Keyed->Prop}{κ:SortKind}
theorem Rea.refl(arr:Array Keyed)(lo hi:Nat):Rea arr arr lo hi:=⟨A6a _,λ_ _=>rfl⟩
theorem Rea.size{arr arr':Array Keyed}{lo hi:Nat}(h:Rea arr arr' lo hi):arr'.size=arr.size:=by
 have:=h.pm.length_eq;rw[C5,C5]at this;exact this
theorem Rea.all{arr arr':Array Keyed}{lo hi:Nat}(h:Rea arr arr' lo hi)(Sa:∀(i:Nat) x,arr[i]?=some x->S x)(i:Nat)(x:Keyed)(e:arr'[i]?=some x):S x:=by
 rw[<-G7]at e;obtain⟨j,hj⟩:=R3 (h.pm.mem_iff.mp (D9 e));rw[G7]at hj;exact Sa j x hj
theorem Rea.trans{a b c:Array Keyed}{lo hi:Nat}(h:Rea a b lo hi)(h2:Rea b c lo hi):Rea a c lo hi:=⟨h2.pm.trans h.pm,λi hi=>(h2.out i hi).trans (h.out i hi)⟩
theorem ins_ok{arr:Array Keyed}{lo k l hi:Nat}{key:Keyed}(hk:lo+k<hi)(hz:hi<=arr.size)(lk:l<=k)(ek:arr[lo+k]?=some key)(so:SoR rk arr lo (lo+k))(h1:∀(i:Nat) x,lo<=i->i<lo+l->arr[i]?=some x->rk x<=rk key)(h2:∀(i:Nat) x,lo+l<=i->i<lo+k->arr[i]?=some x->rk key<=rk x):Rea arr (bubble arr (lo+k) (lo+k-(lo+l))) lo hi/\SoR rk (bubble arr (lo+k) (lo+k-(lo+l))) lo (lo+k+1):=by
 have g:=getElem?_bubble (xs:=arr) (src:=lo+k) A6 (lo+k-(lo+l)) A6;rw[show lo+k-(lo+k-(lo+l))=lo+l by omega]at g;refine⟨⟨V6.mp (bubble_perm _ _ _),λi hi'=>?_⟩,λi j x y li ij jh ex ey=>?_⟩
 ·rw[g,X8 A6,X8 A6]
 ·rw[g]at ex ey;by_cases ci:i=lo+l
  ·rw[X9 ci,ek]at ex;cases ex;by_cases cj:j=lo+l
   ·rw[X9 cj,ek]at ey;cases ey;exact B1 _
   ·rw[X8 cj,X9 A6]at ey;exact h2 (j-1) y A6 A6 ey
  ·rw[X8 ci]at ex;by_cases di:lo+l<i/\i<=lo+k
   ·rw[X9 di]at ex;rw[X8 A6,X9 A6]at ey;exact so (i-1) (j-1) x y A6 A6 A6 ex ey
   ·rw[X8 di]at ex;by_cases cj:j=lo+l
    ·rw[X9 cj,ek]at ey;cases ey;exact h1 i x li A6 ex
    ·rw[X8 cj]at ey;by_cases dj:lo+l<j/\j<=lo+k
     ·rw[X9 dj]at ey;exact so i (j-1) x y li A6 A6 ex ey
     ·rw[X8 dj]at ey;exact so i j x y li ij A6 ex ey
end
end PyProof.Rows
namespace PyProof.Rows
open PySem
section
variable{prog:Program}{w:World}{A:Around}{E:Value->Shared->Prop}{s:Shared}{rk:Keyed->Nat}{S:Keyed->Prop}{κ:SortKind}
theorem IL{st:SortSt}{i j:Nat}{x y:Keyed}{Q:Option Bool->SortSt->Prop}(hl:NF prog w A E s rk S κ)(hk:kindOf st=κ)(ex:(arrOf st)[i]?=some x)(ey:(arrOf st)[j]?=some y)(Sx:S x)(Sy:S y)(h:Q (some (decide (rk x<rk y))) st):wpS (model prog w) A E s (ltAt' i j) Q st:=by
 rw[ltAt'_eq];exact K0 (A6g (K0 (CJ ex (K0 (CJ ey (hl _ _ _ _ Sx Sy hk h))))))
theorem move_ok{st:SortSt}{src dst:Nat}{Q:Unit->SortSt->Prop}(h:Q () (setArr st (bubble (arrOf st) src (src-dst)))):wpS (model prog w) A E s (moveDown' src dst) Q st:=by
 rw[moveDown'_eq];exact A3c h
theorem Ob{st:SortSt}{Q:Bool->SortSt->Prop}{lo n ok:Nat}(hl:NF prog w A E s rk S κ)(hk:kindOf st=κ)(hz:lo+n<=(arrOf st).size)(hok:ok<=n)(Sall:∀(i:Nat) x,(arrOf st)[i]?=some x->S x)(so:SoR rk (arrOf st) lo (lo+ok))(k:∀arr',Rea (arrOf st) arr' lo (lo+n)->SoR rk arr' lo (lo+n)->Q true (setArr st arr')):wpS (model prog w) A E s (binarySort' lo n ok) Q st:=by
 refine K0 (A2c (A0h (I:=λx c st'=>c=(none,())/\∃arr',st'=setArr st arr'/\Rea (arrOf st) arr' lo (lo+n)/\SoR rk arr' lo (lo+x)) (Q:=λc st'=>c=(none,())/\∃arr',st'=setArr st arr'/\Rea (arrOf st) arr' lo (lo+n)/\SoR rk arr' lo (lo+n)) ?_ ?_ ⟨rfl,arrOf st,rfl,Rea.refl _ _ _,?_⟩) ?_)
 ·rintro x c st' hx1 hx ⟨rfl,arr',rfl,re,so'⟩;have sz:=re.size;obtain⟨key,ek⟩:∃key,arr'[lo+x]?=some key:=⟨_,B4 A0⟩
  refine K0 (A2c (A0h (I:=λy r st''=>st''=setArr st arr'/\∃l h,r=(none,l,h)/\l<=h/\h-l<=x-y/\h<=x/\(∀(i:Nat) z,lo<=i->i<lo+l->arr'[i]?=some z->rk z<=rk key)/\(∀(i:Nat) z,lo+h<=i->i<lo+x->arr'[i]?=some z->rk key<=rk z)) (Q:=λr st''=>st''=setArr st arr'/\∃l h,r=(none,l,h)/\l<=x/\(∀(i:Nat) z,lo<=i->i<lo+l->arr'[i]?=some z->rk z<=rk key)/\(∀(i:Nat) z,lo+l<=i->i<lo+x->arr'[i]?=some z->rk key<=rk z)) ?_ ?_ ⟨rfl,0,x,rfl,by lia,by lia,by lia,λi z h1 h2=>absurd h2 A0,λi z h1 h2=>absurd h2 A0⟩) ?_)
  ·rintro y r st'' _ hy ⟨rfl,l,h,rfl,lh,me,hh,i1,i2⟩;dsimp only;by_cases z:l ≥ h
   ·rw[X9 z];exact K2 ⟨rfl,l,h,rfl,by lia,i1,λi z' a b=>i2 i z' A0 b⟩
   rw[X8 z];obtain⟨v,ev⟩:∃v,arr'[lo+(l+h)/2]?=some v:=⟨_,B4 A0⟩
   refine K0 (IL hl hk ek ev (re.all Sall _ _ ek) (re.all Sall _ _ ev) ?_);dsimp only;by_cases lt:rk key<rk v
   ·rw[X7 lt,X9 rfl];exact K2 ⟨rfl,l,(l+h)/2,rfl,by lia,by lia,by lia,i1,λi z' a b e=>by
     have:=so' _ i _ _ A0 a A0 ev e;lia⟩
   ·rw[X6 lt,X8 A5];exact K2 ⟨rfl,(l+h)/2+1,h,rfl,by lia,by lia,hh,λi z' a b e=>by
     have:=so' i (lo+(l+h)/2) _ _ a A0 A0 e ev;lia,i2⟩
  ·rintro r st'' ⟨rfl,l,h,rfl,lh,me,hh,i1,i2⟩;exact⟨rfl,l,h,rfl,by lia,i1,λi z' a b=>i2 i z' A0 b⟩
  ·rintro r st'' ⟨rfl,l,h,rfl,lx,i1,i2⟩;dsimp only;have fin:=ins_ok (hi:=lo+n) A0 A0 lx ek so' i1 i2;exact K0 (move_ok (K2 ⟨rfl,_,rfl,re.trans fin.1,fin.2⟩))
 ·rintro c st' ⟨rfl,arr',rfl,re,so'⟩;exact⟨rfl,arr',rfl,re,λi j x y a b d=>so' i j x y a b A0⟩
 ·intro i j x y a b d ex ey;by_cases z:j<lo+ok
  ·exact so i j x y a b z ex ey
  ·have:i=j:=by lia
   subst this;rw[ex]at ey;cases ey;exact B1 _
 ·rintro c st' ⟨rfl,arr',rfl,re,so'⟩;exact K2 (k arr' re so')
end
end PyProof.Rows
namespace PyProof.Rows
open PySem
def DeR(rk:Keyed->Nat)(arr:Array Keyed)(lo hi:Nat):Prop:=∀(i j:Nat)(x y:Keyed),lo<=i->i<=j->j<hi->arr[i]?=some x->arr[j]?=some y->rk y<=rk x
def EqR(rk:Keyed->Nat)(arr:Array Keyed)(lo hi:Nat):Prop:=∀(i j:Nat)(x y:Keyed),lo<=i->i<hi->lo<=j->j<hi->arr[i]?=some x->arr[j]?=some y->rk x=rk y
def Kr(rk:Keyed->Nat)(arr arr':Array Keyed):Prop:=∀(k:Nat)(x':Keyed),arr'[k]?=some x'->∃x,arr[k]?=some x/\rk x'=rk x
section
variable{prog:Program}{w:World}{A:Around}{E:Value->Shared->Prop}{s:Shared}{rk:Keyed->Nat}{S:Keyed->Prop}{κ:SortKind}
theorem SoR.one{arr:Array Keyed}{lo:Nat}:SoR rk arr lo (lo+1):=λi j x y a b c ex ey=>by
 have:i=j:=by lia
 subst this;rw[ex]at ey;cases ey;exact B1 _
theorem EqR.one{arr:Array Keyed}{lo:Nat}:EqR rk arr (lo+1-(0+1)) (lo+1):=λi j x y a b c d ex ey=>by
 have:i=j:=by lia
 subst this;rw[ex]at ey;cases ey;rfl
theorem SoR.snoc{arr:Array Keyed}{lo hi:Nat}{x y:Keyed}(h:SoR rk arr lo hi)(l:lo<hi)(ex:arr[hi]?=some x)(ey:arr[hi-1]?=some y)(le:rk y<=rk x):SoR rk arr lo (hi+1):=λi j a b li ij jh ea eb=>by
 by_cases z:j<hi
 ·exact h i j a b li ij z ea eb
 ·have:j=hi:=by lia
  subst this;rw[ex]at eb;cases eb;by_cases q:i=j
  ·subst q;rw[ex]at ea;cases ea;exact B1 _
  ·exact C6 (h i (j-1) a y li A0 A0 ea ey) le
theorem DeR.snoc{arr:Array Keyed}{lo hi:Nat}{x y:Keyed}(h:DeR rk arr lo hi)(l:lo<hi)(ex:arr[hi]?=some x)(ey:arr[hi-1]?=some y)(le:rk x<=rk y):DeR rk arr lo (hi+1):=λi j a b li ij jh ea eb=>by
 by_cases z:j<hi
 ·exact h i j a b li ij z ea eb
 ·have:j=hi:=by lia
  subst this;rw[ex]at eb;cases eb;by_cases q:i=j
  ·subst q;rw[ex]at ea;cases ea;exact B1 _
  ·exact C6 le (h i (j-1) a y li A0 A0 ea ey)
theorem EqR.snoc{arr:Array Keyed}{lo hi:Nat}{x y:Keyed}(h:EqR rk arr lo hi)(l:lo<hi)(ex:arr[hi]?=some x)(ey:arr[hi-1]?=some y)(le:rk x=rk y):EqR rk arr lo (hi+1):=by
 have key:∀(i:Nat) a,lo<=i->i<hi+1->arr[i]?=some a->rk a=rk y:=λi a li ih ea=>by
  by_cases z:i<hi
  ·exact h i (hi-1) a y li z A0 A0 ea ey
  ·have:i=hi:=by lia
   subst this;rw[ex]at ea;cases ea;exact le
 exact λi j a b li ih lj jh ea eb=>(key i a li ih ea).trans (key j b lj jh eb).symm
theorem DeR.kr{arr arr':Array Keyed}{lo hi:Nat}(h:DeR rk arr lo hi)(k:Kr rk arr arr'):DeR rk arr' lo hi:=λi j a b li ij jh ea eb=>by
 obtain⟨a',e1,q1⟩:=k i a ea;obtain⟨b',e2,q2⟩:=k j b eb;rw[q1,q2];exact h i j a' b' li ij jh e1 e2
theorem EqR.mir{arr:Array Keyed}{lo hi:Nat}(h:EqR rk arr lo hi)(hz:hi<=arr.size):Kr rk arr (mirror arr lo hi ((hi-lo)/2)):=λk x' e=>by
 have g:=getElem?_mirror_all (xs:=arr) (i:=lo) hz k;rw[g]at e;split at e
 ·rename_i q;obtain⟨x,ex⟩:∃x,arr[k]?=some x:=⟨_,B4 A0⟩
  exact⟨x,ex,h _ _ _ _ A0 A0 q.1 q.2 e ex⟩
 ·exact⟨x',e,rfl⟩
theorem Mm{arr:Array Keyed}{i j lo hi:Nat}(li:lo<=i)(jh:j<=hi)(hz:hi<=arr.size):Rea arr (mirror arr i j ((j-i)/2)) lo hi:=⟨V6.mp (mirror_perm _ _ _ _),λk hk=>by
 rw[getElem?_mirror_all A0];by_cases q:i<=k/\k<j
 ·lia
 ·rw[X8 q]⟩
theorem DeR.mir{arr:Array Keyed}{lo hi:Nat}(h:DeR rk arr lo hi)(hz:hi<=arr.size):SoR rk (mirror arr lo hi ((hi-lo)/2)) lo hi:=λi j a b li ij jh ea eb=>by
 rw[getElem?_mirror_all hz,X9 A0]at ea eb;exact h _ _ b a A0 A0 A0 eb ea
theorem Pr{st:SortSt}{i j:Nat}{Q:Unit->SortSt->Prop}(h:Q () (setArr st (mirror (arrOf st) i j ((j-i)/2)))):wpS (model prog w) A E s (reverseSlice' i j) Q st:=by
 rw[reverseSlice'_eq];exact A3c h
theorem Ry{st:SortSt}{Q:Option Nat->SortSt->Prop}{lo nrem:Nat}(hl:NF prog w A E s rk S κ)(hk:kindOf st=κ)(hz:lo+nrem<=(arrOf st).size)(h1:1<=nrem)(Sall:∀(i:Nat) x,(arrOf st)[i]?=some x->S x)
  (k:∀arr' m,Rea (arrOf st) arr' lo (lo+nrem)->1<=m->m<=nrem->SoR rk arr' lo (lo+m)->Q (some m) (setArr st arr')):wpS (model prog w) A E s (countRun' lo nrem) Q st:=by
 refine K0 (A2c (A0h (I:=λx c st'=>st'=setArr st (arrOf st)/\c=(none,x)/\SoR rk (arrOf st) lo (lo+x)) (Q:=λc st'=>st'=setArr st (arrOf st)/\∃n,c=(none,n)/\1<=n/\n<=nrem/\SoR rk (arrOf st) lo (lo+n)/\(n=nrem\/∀x y,(arrOf st)[lo+n]?=some x->(arrOf st)[lo+n-1]?=some y->rk x<rk y)) ?_ ?_ ⟨rfl,rfl,?_⟩) ?_)
 ·rintro x c st' hx1 hx ⟨rfl,rfl,so⟩;obtain⟨a,ea⟩:∃a,(arrOf st)[lo+x]?=some a:=⟨_,B4 A0⟩
  obtain⟨b,eb⟩:∃b,(arrOf st)[lo+x-1]?=some b:=⟨_,B4 A0⟩
  refine K0 (IL hl hk ea eb (Sall _ _ ea) (Sall _ _ eb) (wpI (λlt=>K2 ⟨rfl,x,rfl,by lia,by lia,so,.inr λp q ep eq=>by rw[ea]at ep;rw[eb]at eq;cases ep;cases eq;exact A0f lt⟩) λlt=>?_));have lt:=λz=>lt (X7 z);exact K2 ⟨rfl,rfl,so.snoc A0 ea eb A0⟩
 ·rintro c st' ⟨rfl,rfl,so⟩;rw[Nat.max_eq_right A0]at so⊢;exact⟨rfl,nrem,rfl,h1,B1 _,so,.inl rfl⟩
 ·exact SoR.one
 ·rintro c st' ⟨rfl,n,rfl,n1,n2,so,fall⟩;refine wpE (λq1=>K2 (k (arrOf st) n (Rea.refl _ _ _) n1 n2 so)) λq1=>?_;have fall:=fall.resolve_left q1;obtain⟨a,ea⟩:∃a,(arrOf st)[lo+n]?=some a:=⟨_,B4 A0⟩
  obtain⟨b,eb⟩:∃b,(arrOf st)[lo+n-1]?=some b:=⟨_,B4 A0⟩
  have flt:=fall a b ea eb;dsimp -zeta only
  extract_lets n_ q_ jp
  refine wpC (λQ _=>∀ar,Rea (arrOf st) ar lo (lo+nrem)->DeR rk ar lo (lo+n+1)->wpS (model prog w) A E s (jp ()) Q (setArr st ar)) (λar re0 de0=>?_) λhj=>?_
  ·refine K0 (wpS_lift (A4e ⟨rfl,?_⟩));refine K0 (A2c (A0h (I:=λx c st'=>∃arr' neq,st'=setArr st arr'/\c=(none,x,neq)/\Rea (arrOf st) arr' lo (lo+nrem)/\neq+1<=x/\DeR rk arr' lo (lo+x)/\EqR rk arr' (lo+x-(neq+1)) (lo+x)) (Q:=λc st'=>∃arr' n neq,st'=setArr st arr'/\c=(none,n,neq)/\Rea (arrOf st) arr' lo (lo+nrem)/\1<=n/\n<=nrem/\neq+1<=n/\DeR rk arr' lo (lo+n)/\EqR rk arr' (lo+n-(neq+1)) (lo+n)) ?_ ?_ ⟨ar,0,rfl,rfl,re0,by lia,de0,EqR.one (lo:=lo+n)⟩) ?_)
   ·rintro x c st' hx1 hx ⟨arr',neq,rfl,rfl,re',nq,de',eq'⟩;have hzz:lo+nrem<=arr'.size:=by rw[Rea.size re'];exact hz
    obtain⟨a,ea⟩:∃a,arr'[lo+x]?=some a:=⟨_,B4 A0⟩
    obtain⟨b,eb⟩:∃b,arr'[lo+x-1]?=some b:=⟨_,B4 A0⟩
    refine K0 (IL hl hk ea eb (Rea.all re' Sall _ _ ea) (Rea.all re' Sall _ _ eb) (wpI (λlt=>?_) λlt=>?_))
    ·have dn:DeR rk arr' lo (lo+x+1):=de'.snoc A0 ea eb (M4 (A0f lt));exact wpI (λq=>K0 (Pr (K2 ⟨_,0,rfl,rfl,Rea.trans re' (Mm A0 A0 hzz),by lia,dn.kr (eq'.mir A0),EqR.one (lo:=lo+x)⟩))) λq=>K2 ⟨arr',0,rfl,rfl,re',by lia,dn,EqR.one (lo:=lo+x)⟩
    ·have lt:=λz=>lt (X7 z);refine K0 (IL hl hk eb ea (Rea.all re' Sall _ _ eb) (Rea.all re' Sall _ _ ea) (wpI (λgt=>K2 ⟨arr',x,neq,rfl,rfl,re',by lia,by lia,nq,de',eq'⟩) λgt=>?_));have gt:=λz=>gt (X7 z);refine K2 ⟨arr',neq+1,rfl,rfl,re',by lia,de'.snoc A0 ea eb A0,?_⟩;have:=eq'.snoc A0 ea eb A0;rw[show lo+(x+1)-(neq+1+1)=lo+x-(neq+1) by lia];exact this
   ·rintro c st' ⟨arr',neq,rfl,rfl,re',nq,de',eq'⟩;rw[Nat.max_eq_right (by show n+1<=nrem;lia)]at nq de' eq'⊢;exact⟨arr',nrem,neq,rfl,rfl,re',h1,B1 _,nq,de',eq'⟩
   ·rintro c st' ⟨arr',n',neq,rfl,rfl,re',n1,n2,nq,de',eq'⟩;have hzz:lo+nrem<=arr'.size:=by rw[Rea.size re'];exact hz
    dsimp -zeta only
    extract_lets r_ s_ n_ q_ jp2
    refine wpC (λQ _=>∀ar,Rea (arrOf st) ar lo (lo+nrem)->DeR rk ar lo (lo+n')->wpS (model prog w) A E s (jp2 ()) Q (setArr st ar)) (λar reM deM=>?_) λhj2=>?_
    ·have reT:Rea (arrOf st) (mirror ar lo (lo+n') ((lo+n'-lo)/2)) lo (lo+nrem):=Rea.trans reM (Mm (B1 _) A0 (by rw[Rea.size reM];exact hz));have so0:=DeR.mir deM (by rw[Rea.size reM];lia);refine K0 (Pr ?_);show wpS _ _ _ _ _ _ (setArr st (mirror ar lo (lo+n') ((lo+n'-lo)/2)));generalize mirror ar lo (lo+n') ((lo+n'-lo)/2)=arM at reT so0;refine K0 (A2c (A0h (I:=λx c st'=>st'=setArr st arM/\c=(none,x)/\SoR rk arM lo (lo+x)) (Q:=λc st'=>st'=setArr st arM/\∃n,c=(none,n)/\1<=n/\n<=nrem/\SoR rk arM lo (lo+n)) ?_ ?_ ⟨rfl,rfl,so0⟩) ?_)
     ·rintro x c st' hx1 hx ⟨rfl,rfl,so⟩;have hzz:lo+nrem<=arM.size:=by rw[Rea.size reT];exact hz
      obtain⟨a,ea⟩:∃a,arM[lo+x]?=some a:=⟨_,B4 A0⟩
      obtain⟨b,eb⟩:∃b,arM[lo+x-1]?=some b:=⟨_,B4 A0⟩
      refine K0 (IL hl hk ea eb (Rea.all reT Sall _ _ ea) (Rea.all reT Sall _ _ eb) (wpI (λlt=>K2 ⟨rfl,x,rfl,by lia,by lia,so⟩) λlt=>?_));have lt:=λz=>lt (X7 z);exact K2 ⟨rfl,rfl,so.snoc A0 ea eb A0⟩
     ·rintro c st' ⟨rfl,rfl,so⟩;rw[Nat.max_eq_right n2]at so⊢;exact⟨rfl,nrem,rfl,h1,B1 _,so⟩
     ·rintro c st' ⟨rfl,m,rfl,m1,m2,so⟩;exact K2 (k _ m reT m1 m2 so)
    ·clear_value jp2
     exact wpI (λq=>K0 (Pr (hj2 (mirror arr' (lo+n'-(neq+1)) (lo+n') ((lo+n'-(lo+n'-(neq+1)))/2)) (Rea.trans re' (Mm A0 A0 hzz)) (de'.kr (eq'.mir A0))))) λq=>hj2 arr' re' de'
  ·clear_value jp
   refine wpI (λq2=>?_) λq2=>?_
   ·obtain⟨z,ez⟩:∃z,(arrOf st)[lo]?=some z:=⟨_,B4 A0⟩
    refine K0 (IL hl hk ez eb (Sall _ _ ez) (Sall _ _ eb) (wpI (λ_=>K2 (k (arrOf st) n (Rea.refl _ _ _) n1 n2 so)) λrose=>?_));have rose:=λz=>rose (X7 z);have eqa:EqR rk (arrOf st) lo (lo+n):=by
     have key:∀(i:Nat) x,lo<=i->i<lo+n->(arrOf st)[i]?=some x->rk x=rk b:=λi x li ih ex=>by
      have:=so lo i z x (B1 _) li ih ez ex;have:=so i (lo+n-1) x b li A0 A0 ex eb;lia
     exact λi j x y li ih lj jh ex ey=>(key i x li ih ex).trans (key j y lj jh ey).symm
    exact K0 (Pr (hj _ (Mm (B1 _) A0 hz) (DeR.kr (DeR.snoc (λi j x y li ij jh ex ey=>X0 (eqa j i y x A0 jh li A0 ey ex)) A0 ea eb (M4 flt)) (eqa.mir A0))))
   ·refine hj (arrOf st) (Rea.refl _ _ _) (DeR.snoc (λi j x y li ij jh ex ey=>?_) A0 ea eb (M4 flt));have:i=j:=by lia
    subst this;rw[ex]at ey;cases ey;exact B1 _
end
end PyProof.Rows
namespace PyProof.Rows
open PySem
def CH(rk:Keyed->Nat)(arr:Array Keyed):List (Nat×Nat×Nat)->Nat->Nat->Prop
 |[],a,b=>a=b
 |r::l,a,b=>r.1=a/\1<=r.2.1/\SoR rk arr a (a+r.2.1)/\CH rk arr l (a+r.2.1) b
section
variable{prog:Program}{w:World}{A:Around}{E:Value->Shared->Prop}{s:Shared}{rk:Keyed->Nat}{S:Keyed->Prop}{κ:SortKind}
theorem CH.le{arr:Array Keyed}:∀{l:List (Nat×Nat×Nat)}{a b:Nat},CH rk arr l a b->a+l.length<=b
 |[],a,b,h=>X0 h
 |r::l,a,b,h=>by
  have:=CH.le h.2.2.2;have:=h.2.1;rw[D1];lia
theorem CH.app{arr:Array Keyed}:∀{l l2:List (Nat×Nat×Nat)}{a b c:Nat},CH rk arr l a b->CH rk arr l2 b c->CH rk arr (l++l2) a c
 |[],l2,a,b,c,h,h2=>by
  cases(show a=b from h);exact h2
 |r::l,l2,a,b,c,h,h2=>⟨h.1,h.2.1,h.2.2.1,CH.app h.2.2.2 h2⟩
theorem CH.cut{arr:Array Keyed}:∀{l l2:List (Nat×Nat×Nat)}{a c:Nat},CH rk arr (l++l2) a c->∃b,CH rk arr l a b/\CH rk arr l2 b c
 |[],l2,a,c,h=>⟨a,rfl,h⟩
 |r::l,l2,a,c,h=>by
  obtain⟨b,h1,h2⟩:=CH.cut h.2.2.2;exact⟨b,⟨h.1,h.2.1,h.2.2.1,h1⟩,h2⟩
theorem CH.out{arr arr':Array Keyed}:∀{l:List (Nat×Nat×Nat)}{a b:Nat},CH rk arr l a b->(∀i:Nat,a<=i->i<b->arr'[i]?=arr[i]?)->CH rk arr' l a b
 |[],a,b,h,k=>h
 |r::l,a,b,h,k=>by
  have:=CH.le h.2.2.2;refine⟨h.1,h.2.1,λi j x y li ij jh ex ey=>?_,CH.out h.2.2.2 λi p q=>k i A0 q⟩;rw[k _ A0 A0]at ex ey;exact h.2.2.1 i j x y li ij jh ex ey
theorem CH.last{arr:Array Keyed}{f:Nat×Nat×Nat->Nat×Nat×Nat}(hf:∀r,(f r).1=r.1/\(f r).2.1=r.2.1):∀{l:List (Nat×Nat×Nat)}{a b k:Nat},CH rk arr l a b->CH rk arr (l.modify k f) a b
 |[],a,b,k,h=>by
  rw[List.modify_nil];exact h
 |r::l,a,b,0,h=>by
  rw[List.modify_zero_cons];refine⟨(hf r).1.trans h.1,?_,?_,?_⟩
  ·rw[(hf r).2];exact h.2.1
  ·rw[(hf r).2];exact h.2.2.1
  ·rw[(hf r).2];exact h.2.2.2
 |r::l,a,b,k+1,h=>by
  rw[List.modify_succ_cons];exact⟨h.1,h.2.1,h.2.2.1,CH.last hf h.2.2.2⟩
theorem two_of{α:Type}{l:List α}{i:Nat}{x y:α}(e1:l[i]?=some x)(e2:l[i+1]?=some y):∃l1 l2,l=l1++x::y::l2/\l1.length=i:=by
 have h1:=(B3.mp e1).1;have h2:=(B3.mp e2).1;refine⟨l.take i,l.drop (i+2),?_,by rw[L5];lia⟩;have d1:l.drop i=x::l.drop (i+1):=by
  rw[R7 h1,(B3.mp e1).2]
 have d2:l.drop (i+1)=y::l.drop (i+2):=by
  rw[R7 h2,(B3.mp e2).2]
 rw[<-d2,<-d1,P0]
theorem Wi{p:Array (Nat×Nat×Nat)}{i:Nat}{x y z:Nat×Nat×Nat}{l1 l2:List (Nat×Nat×Nat)}(e:p.toList=l1++x::y::l2)(li:l1.length=i):((p.setIfInBounds i z).eraseIdxIfInBounds (i+1)).toList=l1++z::l2:=by
 subst li;have e1:(p.setIfInBounds l1.length z).toList=l1++z::y::l2:=by
  rw[Array.toList_setIfInBounds,e,List.set_append_right _ _ (B1 _),V1];rfl
 have sz:(p.setIfInBounds l1.length z).size=l1.length+2+l2.length:=by
  rw[<-C5,e1,B0,D1,D1];lia
 unfold Array.eraseIdxIfInBounds;rw[dif_pos A0,Array.toList_eraseIdx,e1,List.eraseIdx_append_of_length_le A0,S8];rfl
structure Srn(rk:Keyed->Nat)(κ:SortKind)(a0:Array Keyed)(lo:Nat)(st:SortSt):Prop where
 kind:kindOf st=κ
 fail:failedOf st=none
 pm:(arrOf st).toList.Perm a0.toList
 runs:CH rk (arrOf st) (pendingOf st).toList 0 lo
theorem Srn.size{a0:Array Keyed}{lo:Nat}{st:SortSt}(h:Srn rk κ a0 lo st):(arrOf st).size=a0.size:=by
 have:=h.pm.length_eq;rw[C5,C5]at this;exact this
theorem Srn.all{a0:Array Keyed}{lo:Nat}{st:SortSt}(h:Srn rk κ a0 lo st)(Sa:∀(i:Nat) x,a0[i]?=some x->S x)(i:Nat)(x:Keyed)(e:(arrOf st)[i]?=some x):S x:=by
 rw[<-G7]at e;obtain⟨j,hj⟩:=R3 (h.pm.mem_iff.mp (D9 e));rw[G7]at hj;exact Sa j x hj
theorem Nc{st:SortSt}{Q:Bool->SortSt->Prop}{i lo:Nat}{a0:Array Keyed}(hl:NF prog w A E s rk S κ)(h:Srn rk κ a0 lo st)(Sa:∀(i:Nat) x,a0[i]?=some x->S x)(hi:i+1<(pendingOf st).size)(hlo:lo<=a0.size)
  (k:∀st',Srn rk κ a0 lo st'->(pendingOf st').size+1=(pendingOf st).size->(∀j:Nat,lo<=j->(arrOf st')[j]?=(arrOf st)[j]?)->Q true st'):wpS (model prog w) A E s (mergeAt' i) Q st:=by
 obtain⟨⟨sa,na,pa⟩,e1⟩:∃x,(pendingOf st)[i]?=some x:=⟨_,B4 A0⟩
 obtain⟨⟨sb,nb,pb⟩,e2⟩:∃x,(pendingOf st)[i+1]?=some x:=⟨_,B4 hi⟩
 obtain⟨l1,l2,el,li⟩:=two_of (l:=(pendingOf st).toList) (by rw[G7];exact e1) (by rw[G7];exact e2);have rn:=h.runs;rw[el]at rn;obtain⟨c,r1,rn⟩:=rn.cut;obtain⟨q1,n1,s1,rn⟩:=rn;obtain⟨q2,n2,s2,rn⟩:=rn;dsimp only at q1 n1 s1 q2 n2 s2 rn;subst q1;have r1le:=r1.le;have rnle:=rn.le;have sz:=h.size;refine SD hl h.kind h.fail e1 e2 q2 n1 n2 A0 (h.all Sa) (q2▸s1) (q2▸s2) λst' k1 k2 k3 mg=>?_;have pl:=Wi (z:=(sa,na+nb,pa)) el li;rw[<-k3]at pl;refine k st' ⟨k1,k2,mg.pm.trans h.pm,?_⟩ ?_ λj hj=>mg.out j (.inr A0)
 ·rw[pl];refine CH.app (CH.out r1 λj _ hj=>mg.out j (.inl hj)) ⟨rfl,by show 1<=na+nb;lia,?_,?_⟩
  ·have:=mg.so;rw[q2,U2]at this;exact this
  ·show CH rk (arrOf st') l2 (sa+(na+nb)) lo;rw[<-U2];exact CH.out rn λj hj _=>mg.out j (.inr A0)
 ·have a1:=A0e List.length pl;have a2:=A0e List.length el;rw[C5,B0,D1]at a1;rw[C5,B0,D1,D1]at a2;lia
end
end PyProof.Rows
namespace PyProof.Rows
open PySem
section
variable{prog:Program}{w:World}{A:Around}{E:Value->Shared->Prop}{s:Shared}{rk:Keyed->Nat}{S:Keyed->Prop}{κ:SortKind}
theorem Srn.push{a0:Array Keyed}{lo n pw:Nat}{st:SortSt}(h:Srn rk κ a0 lo st)(n1:1<=n)(so:SoR rk (arrOf st) lo (lo+n)):Srn rk κ a0 (lo+n) (setPending st ((pendingOf st).push (lo,n,pw))) :=
 ⟨h.kind,h.fail,h.pm,by
  show CH rk (arrOf st) ((pendingOf st).push (lo,n,pw)).toList 0 (lo+n);rw[J1];exact CH.app h.runs ⟨rfl,n1,so,rfl⟩⟩
theorem Srn.last{a0:Array Keyed}{lo k:Nat}{st:SortSt}{f:Nat×Nat×Nat->Nat×Nat×Nat}(hf:∀r,(f r).1=r.1/\(f r).2.1=r.2.1)(h:Srn rk κ a0 lo st):Srn rk κ a0 lo (setPending st ((pendingOf st).modify k f)) :=
 ⟨h.kind,h.fail,h.pm,by
  show CH rk (arrOf st) ((pendingOf st).modify k f).toList 0 lo;rw[Array.toList_modify];exact CH.last hf h.runs⟩
theorem QF{st:SortSt}{Q:Unit->SortSt->Prop}(hl:NF prog w A E s rk S κ)(hk:kindOf st=κ)(hf:failedOf st=none)(hp:pendingOf st=#[])(Sa:∀(i:Nat) x,(arrOf st)[i]?=some x->S x)
  (k:∀st',failedOf st'=none->(arrOf st').toList.Perm (arrOf st).toList->SoR rk (arrOf st') 0 (arrOf st).size->Q () st'):wpS (model prog w) A E s sortRuns' Q st:=by
 have h0:Srn rk κ (arrOf st) 0 st:=⟨hk,hf,A6a _,by rw[hp];rfl⟩
 generalize e0:arrOf st=a0 at h0 Sa k;rw[sortRuns'_eq];refine K0 (A6g ?_);dsimp only;have esz:(arrOf st).size=a0.size:=by rw[e0]
 simp only[esz];generalize minRun' a0.size a0.size 0=mr;refine K0 (A2c (A0h (I:=λx c st'=>∃lo,c=(none,lo)/\Srn rk κ a0 lo st'/\lo<=a0.size/\(x<=lo\/a0.size<=lo)) (Q:=λc st'=>c=(none,a0.size)/\Srn rk κ a0 a0.size st') ?step ?fin ⟨0,rfl,h0,by lia,by lia⟩) ?post)
 case fin =>
  rintro c st' ⟨lo,rfl,hS,l1,l2⟩;have:lo=a0.size:=by lia
  subst this;exact⟨rfl,hS⟩
 case step =>
  rintro x c st' _ hx ⟨lo,rfl,hS,l1,l2⟩;dsimp only;by_cases ge:lo ≥ a0.size
  ·rw[X9 ge];have:lo=a0.size:=by lia
   subst this;exact K2 ⟨rfl,hS⟩
  rw[X8 ge];have sz:=hS.size;have rest:∀(n:Nat)(st2:SortSt),Srn rk κ a0 lo st2->1<=n->lo+n<=a0.size->SoR rk (arrOf st2) lo (lo+n)->∃lo',((none,lo+n):Option Unit×Nat)=(none,lo')/\Srn rk κ a0 lo' (setPending st2 ((pendingOf st2).push (lo,n,0)))/\lo'<=a0.size/\(x+1<=lo'\/a0.size<=lo'):=λn st2 h2 n1 nl so=>⟨lo+n,rfl,h2.push n1 so,nl,by lia⟩
  refine K0 (Ry hl hS.kind (show lo+(a0.size-lo)<=(arrOf st').size by lia) A0 (hS.all Sa) λarr' m re m1 m2 so=>?_);dsimp only;have hS1:Srn rk κ a0 lo (setArr st' arr'):=⟨hS.kind,hS.fail,re.pm.trans hS.pm,CH.out hS.runs λi _ h=>re.out i (.inl h)⟩
  by_cases few:m<mr
  ·rw[X9 few];refine K0 (wpS_lift (A4e ⟨rfl,?_⟩));refine K0 (Ob hl hS1.kind (show lo+min (a0.size-lo) mr<=(arrOf (setArr st' arr')).size by rw[hS1.size];lia) A0 (hS1.all Sa) so λarr2 re2 so2=>?_);have hS2:Srn rk κ a0 lo (setArr st' arr2):=⟨hS.kind,hS.fail,re2.pm.trans hS1.pm,CH.out hS1.runs λi _ h=>re2.out i (.inl h)⟩
   generalize hn:min (a0.size-lo) mr=n at so2⊢;have n1:1<=n:=by lia
   have nl:lo+n<=a0.size:=by lia
   simp only[M9,F8,A2b];have so2:SoR rk (arrOf (setArr st' arr2)) lo (lo+n):=so2;generalize setArr st' arr2=st2 at hS2 so2⊢;refine K0 (A6g ?_);cases hb:(pendingOf st2).back? with
   |none =>
    dsimp only;exact K0 (A3c (K2 (rest n st2 hS2 n1 nl so2)))
   |some r =>
    obtain⟨s1,n1',p1⟩:=r;dsimp only;refine K0 (A2c (A0h (I:=λ_ c st3=>c=(none,())/\Srn rk κ a0 lo st3/\SoR rk (arrOf st3) lo (lo+n)) (Q:=λc st3=>c=(none,())/\Srn rk κ a0 lo st3/\SoR rk (arrOf st3) lo (lo+n)) ?_ (λc st3 h=>h) ⟨rfl,hS2,so2⟩) ?_)
    ·rintro y c st3 _ _ ⟨rfl,h3,so3⟩;refine K0 (A6g ?_);by_cases g:(pendingOf st3).size > 1
     ·rw[X9 g];obtain⟨⟨sx,nx,older⟩,e⟩:∃x,(pendingOf st3)[(pendingOf st3).size-2]?=some x:=⟨_,B4 A0⟩
      rw[e];dsimp only;split
      ·exact K2 ⟨rfl,h3,so3⟩
      ·refine K0 (Nc hl h3 Sa A0 l1 λst4 h4 _ keep=>?_);simp only[M9,F8,A2b];refine K2 ⟨rfl,h4,λi j x y li ij jh ex ey=>?_⟩;rw[keep _ A0]at ex ey;exact so3 i j x y li ij jh ex ey
     ·rw[X8 g];exact K2 ⟨rfl,h3,so3⟩
    ·rintro c st3 ⟨rfl,h3,so3⟩;dsimp only;exact K0 (A3c (K0 (A3c (K2 (rest n _ (Srn.last (λr=>⟨rfl,rfl⟩) h3) n1 nl so3)))))
  ·rw[X8 few];have so2:SoR rk (arrOf (setArr st' arr')) lo (lo+m):=so;have hS2:=hS1;generalize setArr st' arr'=st2 at hS2 so2⊢;have n1:1<=m:=m1;have nl:lo+m<=a0.size:=by lia
   generalize m=n at so2 n1 nl⊢;refine K0 (A6g ?_);cases hb:(pendingOf st2).back? with
   |none =>
    dsimp only;exact K0 (A3c (K2 (rest n st2 hS2 n1 nl so2)))
   |some r =>
    obtain⟨s1,n1',p1⟩:=r;dsimp only;refine K0 (A2c (A0h (I:=λ_ c st3=>c=(none,())/\Srn rk κ a0 lo st3/\SoR rk (arrOf st3) lo (lo+n)) (Q:=λc st3=>c=(none,())/\Srn rk κ a0 lo st3/\SoR rk (arrOf st3) lo (lo+n)) ?_ (λc st3 h=>h) ⟨rfl,hS2,so2⟩) ?_)
    ·rintro y c st3 _ _ ⟨rfl,h3,so3⟩;refine K0 (A6g ?_);by_cases g:(pendingOf st3).size > 1
     ·rw[X9 g];obtain⟨⟨sx,nx,older⟩,e⟩:∃x,(pendingOf st3)[(pendingOf st3).size-2]?=some x:=⟨_,B4 A0⟩
      rw[e];dsimp only;split
      ·exact K2 ⟨rfl,h3,so3⟩
      ·refine K0 (Nc hl h3 Sa A0 l1 λst4 h4 _ keep=>?_);simp only[M9,F8,A2b];refine K2 ⟨rfl,h4,λi j x y li ij jh ex ey=>?_⟩;rw[keep _ A0]at ex ey;exact so3 i j x y li ij jh ex ey
     ·rw[X8 g];exact K2 ⟨rfl,h3,so3⟩
    ·rintro c st3 ⟨rfl,h3,so3⟩;dsimp only;exact K0 (A3c (K0 (A3c (K2 (rest n _ (Srn.last (λr=>⟨rfl,rfl⟩) h3) n1 nl so3)))))
 case post =>
  rintro c st' ⟨rfl,hS⟩;dsimp only;refine K0 (A2c (A0h (I:=λx c st''=>c=(none,())/\Srn rk κ a0 a0.size st''/\((pendingOf st'').size<=1\/(pendingOf st'').size+x<=a0.size)) (Q:=λc st''=>c=(none,())/\Srn rk κ a0 a0.size st''/\(pendingOf st'').size<=1) ?_ ?_ ⟨rfl,hS,?_⟩) ?_)
  ·rintro x c st'' _ hx ⟨rfl,h1,h2⟩;refine K0 (A6g ?_);by_cases q:(pendingOf st'').size<=1
   ·rw[X9 q];exact K2 ⟨rfl,h1,q⟩
   rw[X8 q];have go:∀i,i+1<(pendingOf st'').size->wpS (model prog w) A E s (mergeAt' i) (λb st4=>b=true/\Srn rk κ a0 a0.size st4/\(pendingOf st4).size+(x+1)<=a0.size) st'':=λi hi=>Nc hl h1 Sa hi (B1 _) λst4 h4 h5 _=>⟨rfl,h4,by lia⟩
   refine K0 (A2c (go _ ?_) λb st4 h=>?_)
   ·repeat' split
    all_goals lia
   ·obtain⟨rfl,h4,h5⟩:=h;simp only[M9,F8,A2b];exact K2 ⟨rfl,h4,.inr h5⟩
  ·rintro c st'' ⟨rfl,h1,h2⟩;exact⟨rfl,h1,by lia⟩
  ·have:=hS.runs.le;rw[C5]at this;exact .inr A0
  ·rintro c st'' ⟨rfl,h1,h2⟩;refine K2 (k st'' h1.fail h1.pm ?_);have rn:=h1.runs;have lz:(pendingOf st'').toList.length<=1:=by rw[C5];exact h2
   generalize (pendingOf st'').toList=l at rn lz
   match l,rn,lz with
   |[],rn,_ =>
    have z:0=a0.size:=rn;exact λi j x y _ _ h=>absurd h A0
   |[r],rn,_ =>
    obtain⟨q1,q2,q3,q4⟩:=rn;have:0+r.2.1=a0.size:=q4;rw[this]at q3;exact q3
end
end PyProof.Rows
namespace L2
open PySem PySem.W PySem.Spec PyProof.Rows
theorem UI{α β:Type}{f:β->α}{l' l:List α}(h:l'.Perm l):∀p:List β,p.map f=l->∃p':List β,p'.Perm p/\p'.map f=l':=by
 induction h with
 |nil=>exact λp e=>⟨p,A6a _,e⟩
 |cons x _ ih =>
  intro p e;cases p with
  |nil=>cases e
  |cons i p =>
   rw[C9]at e;injection e with e1 e2
   obtain⟨p',h1,h2⟩:=ih p e2;exact⟨i::p',h1.cons i,by rw[C9,h2,e1]⟩
 |swap x y l =>
  intro p e
  match p,e with
  |i::j::p,e =>
   rw[C9,C9]at e;injection e with e1 e2
   injection e2 with e2 e3
   exact⟨j::i::p,List.Perm.swap i j p,by rw[C9,C9,e1,e2,e3]⟩
 |trans _ _ ih1 ih2 =>
  intro p e;obtain⟨p1,h1,h2⟩:=ih2 p e;obtain⟨p2,h3,h4⟩:=ih1 p1 h2;exact⟨p2,h3.trans h1,h4⟩
section
variable{prog:Program}{w:World}{A:Around}{E:Value->Shared->Prop}{s:Shared}{ks vs:List Value}{κ:SortKind}
theorem run_any{Q:SortSt->Shared->Prop}{rk:Nat->Int}{rk':Keyed->Nat}(lk:ks.length=vs.length)(hr:∀i,i<vs.length->rk i=(rk' (kas_item (ks.toArray.zip vs.toArray) i):Int))(hc:∀i j C,i<vs.length->j<vs.length->C (decide (rk i<rk j)) s->kas_ask prog w A κ ks i j C s)
  (k:∀p st',YU vs.length p->Up rk p vs.length->failedOf st'=none->arrOf st'=p.map (kas_item (ks.toArray.zip vs.toArray))->Q st' s):wpAny (model prog w) A ((sortRuns').run (SortSt.mk' κ (ks.toArray.zip vs.toArray) #[] 7 none)) (λr s'=>Q r.2 s') E s:=by
 have sz:(ks.toArray.zip vs.toArray).size=vs.length:=by simp[lk]
 have whole:((List.range vs.length).map (kas_item (ks.toArray.zip vs.toArray)))=(ks.toArray.zip vs.toArray).toList:=by
  have e:=kas_range (ks.toArray.zip vs.toArray);rw[sz]at e;rw[<-A0e Array.toList e];simp
 have fst:∀i,i<vs.length->(kas_item (ks.toArray.zip vs.toArray) i).1=ks.getD i Value.none:=λi hi=>by
  have h1:i<ks.length:=by rw[lk];exact hi
  unfold kas_item;rw[V2,B4 (by rw[sz];exact hi),C0,C3 h1];simp
 have hl:NF prog w A E s rk' (λx=>∃i,i<vs.length/\x=kas_item (ks.toArray.zip vs.toArray) i) κ:=by
  rintro x y st Q' ⟨i,hi,rfl⟩ ⟨j,hj,rfl⟩ hk q;rw[lt'_eq];refine K0 (A6g ?_);rw[hk];have c:=hc i j (λb s'=>s'=s/\b=decide (rk i<rk j)) hi hj ⟨rfl,rfl⟩;unfold kas_ask at c;rw[<-fst i hi,<-fst j hj]at c;refine K0 (wpS_lift (A8g (A0g c (λb s' h=>?_) λ_ _ x=>x.elim)));obtain⟨rfl,rfl⟩:=h;refine⟨rfl,?_⟩;refine K2 ?_;have e:decide (rk i<rk j)=decide (rk' (kas_item (ks.toArray.zip vs.toArray) i)<rk' (kas_item (ks.toArray.zip vs.toArray) j)):=by
   rw[hr i hi,hr j hj];exact decide_eq_decide.mpr Int.ofNat_lt
  rw[e];exact q
 have run:=QF (st:=SortSt.mk' κ (ks.toArray.zip vs.toArray) #[] 7 none) (Q:=λ_ st'=>Q st' s) hl rfl rfl rfl (λi x e=>?_) λst' hf pm so=>?_
 ·exact A0g run (λr s' h=>by obtain⟨rfl,q⟩:=h;exact q) λ_ _ e=>e
 ·have hi:i<vs.length:=by
   have:=(F6.mp e).1;rw[sz]at this;exact this
  refine⟨i,hi,?_⟩;have e:(ks.toArray.zip vs.toArray)[i]?=some x:=e;unfold kas_item;rw[V2,e];rfl
 ·have pm:(arrOf st').toList.Perm (ks.toArray.zip vs.toArray).toList:=pm;obtain⟨p,h1,h2⟩:=UI pm _ whole;have lp:p.length=vs.length:=by rw[h1.length_eq,O1]
  have ea:arrOf st'=p.toArray.map (kas_item (ks.toArray.zip vs.toArray)):=by
   apply W9.mp;rw[Array.toList_map];exact h2.symm
  refine k p.toArray st' ⟨by simpa using lp,V6.mpr (by simpa using h1)⟩ (λi j ij hj=>?_) hf ea;have so:SoR rk' (arrOf st') 0 vs.length:=by
   rw[<-sz];exact so
  have at':∀{i:Nat},i<vs.length->p.toArray.getD i 0<vs.length/\(arrOf st')[i]?=some (kas_item (ks.toArray.zip vs.toArray) (p.toArray.getD i 0)):=λ{i} hi=>by
   have hp:i<p.length:=by rw[lp];exact hi
   have e:p.toArray.getD i 0=p[i]:=by simp[Array.getD,hp]
   rw[e];refine⟨by simpa using h1.mem_iff.mp (N6 hp),?_⟩;rw[ea,Array.getElem?_map,List.getElem?_toArray,C3 hp];rfl
  obtain⟨a1,a2⟩:=at' (i:=i) A0;obtain⟨b1,b2⟩:=at' hj;unfold kk;rw[hr _ a1,hr _ b1];exact Int.ofNat_le.mpr (so i j _ _ (G9 _) ij hj a2 b2)
end
def SL(H:Hp)(v:Value):List Int:=match v with
 |.ref u=>(match H u with
  |some (.tup vs)=>vs.filterMap λv=>(match v with|.int n=>some n|_=>none)
  |_=>[])
 |_=>[]
theorem Vd{H:Hp}{u:Addr}{ns:List Int}(h:H u=some (.tup (ns.map V.int))):SL H (.ref u)=ns:=by
 unfold SL;dsimp only;rw[h];dsimp only;clear h;induction ns with
 |nil=>rfl
 |cons n ns ih =>
  rw[C9,V0];dsimp only;rw[ih]
def rkK(H:Hp)(rows:List (List Int))(x:Keyed):Nat:=rows.countP λr=>Ca r (SL H x.1)
theorem rkK_of{H:Hp}{items:List (Addr×List Int)}(ht:∀q∈items,H q.1=some (.tup (q.2.map V.int))){vs:List Value}(lv:vs.length=items.length){i:Nat}(hi:i<items.length):QM (items.map (·.2)) i=(rkK H (items.map (·.2)) (kas_item ((items.map λq=>Value.ref q.1).toArray.zip vs.toArray) i):Int):=by
 have e:(kas_item ((items.map λq=>Value.ref q.1).toArray.zip vs.toArray) i).1=.ref items[i].1:=by
  unfold kas_item;rw[V2,B4 (by simp;lia)];simp
 unfold QM rkK;rw[e,Vd (ht _ (N6 hi)),C0,B7,C3 hi];rfl
section
variable{prog:Program}{w:World}{A:Around}{E:Value->Shared->Prop}
end
section
variable{X:Cx}
end
section
variable{X:Cx}{pins:List (Addr×Obj)}{σ:St}{H H':Hp}{s:Shared}{k:Nat}{f b:Addr}{fd:FuncData}{ps:List Str}
theorem Yg {A2:Around} {P:PySem.Fin->Shared->Prop} {E:Value->Shared->Prop} (F:AC X.prog X.w X.K X.mg X.base CX0 k f fd ps LF) (hb:BN X.K fd ps []) (hr:BT k A2) (hfr:∀s H,LC X.prog X.w X.K X.mg X.base X.A X.stack s H->LC X.prog X.w X.K X.mg X.base A2 X.stack s H) (I:Inv X pins σ H s) {a:Addr} {items:List It3} {n:Nat} (ho:s.heap.get? a=some (seqObj "list" (items.map λq=>Value.ref q.a).toArray n)) (fa:Dc X pins H a) (hit:∀q∈items,H q.a=some (.tup (q.ns.map V.int))) (h64:items.length<=100000)
  (fin:∀(p:Array Nat)(H':Hp)(s':Shared)(c:Nat),YU items.length p->Up (QM (items.map λq=>[q.y,q.x])) p items.length->Inv X pins σ H' s'->(∀b u,H b=some u->H' b=some u)->H' a=none->s'.heap.get? a=some (seqObj "list" (p.toList.map λi=>(items.map λq=>Value.ref q.a).getD i Value.none).toArray c)->P (.done (.ret .none)) s') :
  wpAny (model X.prog X.w) A2 (ksk_tree a (.ref f) false) P E s:=by
 have len:(items.map λq=>Value.ref q.a).length=items.length:=A9 _;have ln:items.length<=sizeLine:=C6 h64 A4;unfold ksk_tree;refine X5 (listItems_at ho rfl (X5 (listUpdate_at ho rfl ?_)));have ⟨e1,he1⟩:∃e1,(s.heap.update a (Obj.mapSeq λ_=>#[])).get? a=some (seqObj "list" #[] e1):=⟨_,get?_update_seq ho _⟩
 have I1:Inv X pins σ H {s with heap:=s.heap.update a (Obj.mapSeq λ_=>#[])}:=fa.turn (t':=s.toks) I λc o hc e=>by rw[O3 _ _ _ _ hc];exact e
 generalize s.heap.update a (Obj.mapSeq λ_=>#[])=h1 at he1 I1⊢;refine X5 (seqEpoch_at he1 rfl (X5 (wpAny_newTuple (X5 (wpAny_newList (A4a ?_))))));have I2:Inv X pins σ H {s with heap:=h1.push (seqObj "tuple" (items.map λq=>Value.ref q.a).toArray 0)}:=I1.kept (t':=s.toks) λb o e=>B5 _ e;have he2:=B5 (seqObj "tuple" (items.map λq=>Value.ref q.a).toArray 0) he1;show wpAny (model X.prog X.w) A2 (ksk_rest a (.ref f) false (items.map λq=>Value.ref q.a).toArray e1 (.ref (h1.push (seqObj "tuple" (items.map λq=>Value.ref q.a).toArray 0)).objs.size)) P E {s with heap:=(h1.push (seqObj "tuple" (items.map λq=>Value.ref q.a).toArray 0)).push (seqObj "list" #[] 0)};generalize h1.push (seqObj "tuple" (items.map λq=>Value.ref q.a).toArray 0)=h2 at I2 he2⊢;have fS:Dc X pins H h2.objs.size:=I2.fpOk (B1 _) (I2.hok.fresh (B1 _));have he3:=B5 (seqObj "list" #[] 0) he2;have hk3:(h2.push (seqObj "list" #[] 0)).get? h2.objs.size=some (seqObj "list" #[] 0):=D0 _ rfl;have I3:Inv X pins σ H {s with heap:=h2.push (seqObj "list" #[] 0)}:=I2.kept (t':=s.toks) λb o e=>B5 _ e;have nka:h2.objs.size≠a:=Z8 (C8 he2);generalize h2.push (seqObj "list" #[] 0)=h3 at he3 hk3 I3⊢;generalize h2.objs.size=kS at fS hk3 nka⊢;unfold ksk_rest;refine X5 (A4e ?_);rw[List.forIn_toArray];refine X5 (ksk_fold (λj s'=>∃(H':Hp)(us:List Addr)(c:Nat),Inv X pins σ H' s'/\(∀b u,H b=some u->H' b=some u)/\H' a=none/\H' kS=none/\s'.heap.get? kS=some (seqObj "list" (us.map Value.ref).toArray c)/\s'.heap.get? a=some (seqObj "list" #[] e1)/\us.length=j/\∀(i:Nat) u q,us[i]?=some u->items[i]?=some q->H' u=some (.tup ([q.y,q.x].map V.int))) (items.map λq=>Value.ref q.a) 0 _ ⟨H,[],0,I3,λb u e=>e,fa.1,fS.1,hk3,he3,rfl,λi u q e=>(nomatch e)⟩ ?_ ?_)
 ·rintro j x ⟨hp,gn,dr,tk,os⟩ hx ⟨H',us,c,I',kp,na,nk,hk,ha,lu,hus⟩;have jl:j<items.length:=by have:=(B3.mp hx).1;rw[len]at this;exact this
  rw[B7]at hx;obtain⟨q,eq,rfl⟩:=F0.mp hx;rw[O4]at lu⊢;have fa':=fa.stay na;have fS':=fS.stay nk;have tq:=kp _ _ (hit q (D9 eq));have sp0:LF [V.ref q.a] H' (λv H''=>∃u,v=.ref u/\H' u=none/\H''=upd H' u (.tup [.int q.y,.int q.x])) E0:=⟨q.a,q.x,q.y,q.r,rfl,tq,λu hu=>⟨u,rfl,hu,rfl⟩⟩
  refine X5 (A8g (A6c (A4g (F.run A2 X.stack _ H' ⟨[Value.ref q.a],[]⟩ ([Value.ref q.a]++[]) [V.ref q.a] _ E0 hr (hfr _ _ I'.env0) (hb _ [Value.ref q.a] I'.kIn (F.len _ _ _ _ sp0)) (show AN [V.ref q.a] [Value.ref q.a]from .cons rfl .nil) sp0) λr s'' hq=>?_)));cases r with
  |error e=>exact hq.elim
  |ok fl =>
   cases fl with
   |next=>exact hq.elim
   |brk=>exact hq.elim
   |cont=>exact hq.elim
   |ret u =>
    obtain⟨v,H2,os2,bare2,un,hok2,rv,u',rfl,hu',rfl⟩:=hq;obtain⟨hh,g2,d2,t2,os'⟩:=s'';obtain rfl:os'=os:=os2;cases(show _=Value.ref u' from rv);have I4:=I'.call (h':=hh) (g':=g2) (d':=d2) (t':=t2) (ch:=[]) un hok2 bare2 (λb z=>absurd z A5);have hk4:hh.get? kS=_:=un.keep _ _ hk nk (fS'.nost I') A5;have ha4:hh.get? a=_:=un.keep _ _ ha na (fa'.nost I') A5;have np:∀{b:Addr}{o:HO},H' b=some o->upd H' u' (.tup [.int q.y,.int q.x]) b=some o:=λ{b o} e=>by rw[At (As e hu')];exact e
    have na4:upd H' u' (.tup [.int q.y,.int q.x]) a=none:=un.free _ _ ha na A5;have nk4:upd H' u' (.tup [.int q.y,.int q.x]) kS=none:=un.free _ _ hk nk A5;have ⟨c2,hk5⟩:∃c2,(hh.update kS (Obj.mapSeq (·.push (.ref u')))).get? kS=some (seqObj "list" ((us.map Value.ref).toArray.push (.ref u')) c2):=⟨_,get?_update_seq hk4 _⟩
    refine X5 (listUpdate_at hk4 rfl (K5 ⟨rfl,upd H' u' (.tup [.int q.y,.int q.x]),us++[u'],c2,(fS'.stay nk4).turn (t':=t2) I4 λb o hb e=>by rw[O3 _ _ _ _ hb];exact e,λb o e=>np (kp b o e),na4,nk4,?_,?_,by rw[B0,lu];rfl,λi u2 q2 eu eq2=>?_⟩) (hsz2:=?_))
    ·show(hh.update kS _).get? kS=_;rw[hk5];simp
    ·show(hh.update kS _).get? a=_;rw[O3 _ _ _ _ (A0c nka)];exact ha4
    ·by_cases hi:i<j
     ·rw[F7 A0]at eu;exact np (hus i u2 q2 eu eq2)
     ·have:i=j:=by
       have:=(B3.mp eu).1;rw[B0,lu]at this;have:i<j+1:=this;lia
      subst this;rw[F1 A0,lu,V1]at eu;cases eu;rw[eq]at eq2;cases eq2;exact Ag
    ·simp;lia
 ·rintro⟨hp,gn,dr,tk,os⟩ ⟨H',us,c,I',kp,na,nk,hk,ha,lu,hus⟩;rw[O4,len]at lu;have fa':=fa.stay na;have fS':=fS.stay nk;have lk:(us.map Value.ref).length=(items.map λq=>Value.ref q.a).length:=by rw[A9,len,lu]
  refine X5 (listItems_at hk rfl ?_);unfold ksk_end;dsimp only;simp only[F8,A2b];have sz:(items.map λq=>Value.ref q.a).toArray.size=items.length:=by rw[D6,len]
  by_cases few:(items.map λq=>Value.ref q.a).toArray.size<2
  ·rw[X9 few,X9 few];refine X5 (K5 ?_);rw[StateT.run_pure];refine X5 (K5 ?_);dsimp only;have eo:(arrOf (SortSt.mk' general' ((us.map Value.ref).toArray.zip (items.map λq=>Value.ref q.a).toArray) #[] 7 none)).map (·.2)=((List.range items.length).toArray.toList.map λi=>(items.map λq=>Value.ref q.a).getD i Value.none).toArray:=by
    rw[sz]at few;clear hit fin ho hus I' hk;show((us.map Value.ref).toArray.zip (items.map λq=>Value.ref q.a).toArray).map (·.2)=_
    match items,us,lu,few with
    |[],[],_,_=>simp
    |[v],[u],_,_=>simp
   refine TX (c:=c) I' fa' fS' nka hk ha eo rfl (by simp;lia) (by simp;lia) λh' c' I5 h5=>fin (List.range items.length).toArray H' _ c' ⟨by simp,Array.Perm.refl _⟩ (λi j ij hj=>by rw[sz]at few;have e:i=j:=A0;rw[e];exact P4 _) I5 kp na h5
  ·rw[X8 few,X8 few];have two:2<=items.length:=by lia
   have ktup:∀q∈(us.zip (items.map λq=>[q.y,q.x])),H' q.1=some (.tup (q.2.map V.int))/\q.2≠[]:=λq hq=>by
    obtain⟨i,hi⟩:=R3 hq;rw[List.getElem?_zip_eq_some,B7]at hi;obtain⟨h1,h2⟩:=hi;obtain⟨it,e1,e2⟩:=F0.mp h2;rw[<-e2];exact⟨hus i q.1 it h1 e1,by simp⟩
   have z1:((us.zip (items.map λq=>[q.y,q.x])).map λq=>Value.ref q.1)=us.map Value.ref:=by
    show List.map (Value.ref ∘ Prod.fst) _=_;rw[<-O5];rw[List.map_fst_zip (by rw[A9,lu];exact B1 _)]
   have zl:(us.zip (items.map λq=>[q.y,q.x])).length=items.length:=by rw[List.length_zip,A9,lu,Nat.min_self]
   have z2:((us.zip (items.map λq=>[q.y,q.x])).map (·.2))=items.map λq=>[q.y,q.x]:=List.map_snd_zip (by rw[A9,lu];exact B1 _);obtain⟨fs,k1,k2,k3⟩:=OI I'.hok ktup;rw[z1]at k1;refine X5 (kat_kind (T:=.type "int") k1 (by rw[k2,zl];lia) (λv hv=>?_) rfl ?_)
   ·obtain⟨x,t,rfl⟩:=k3 v hv;exact .now
   have kroom:(us.map Value.ref).toArray.size<=sizeLine:=by simp;lia
   refine X5 (A0g (run_any (ks:=us.map Value.ref) (vs:=items.map λq=>Value.ref q.a) (κ:=tuples' true) (rk:=QM (items.map λq=>[q.y,q.x])) (rk':=rkK H' (items.map λq=>[q.y,q.x])) (Q:=λst' s'=>s'={heap:=hp,gens:=gn,drawn:=dr,toks:=tk,os:=os}/\failedOf st'=none/\∃p,YU items.length p/\Up (QM (items.map λq=>[q.y,q.x])) p items.length/\arrOf st'=p.map (kas_item ((us.map Value.ref).toArray.zip (items.map λq=>Value.ref q.a).toArray))) lk ?_ ?_ λp st' h1 h2 h3 h4=>⟨rfl,h3,p,by rw[len]at h1;exact h1,by rw[len]at h2;exact h2,h4⟩) ?_ λ_ _ e=>e)
   ·intro i hi;rw[len]at hi;have:=rkK_of (H:=H') (items:=us.zip (items.map λq=>[q.y,q.x])) (λq hq=>(ktup q hq).1) (vs:=items.map λq=>Value.ref q.a) (by rw[len,zl]) (i:=i) (by rw[zl];exact hi);rw[z1,z2]at this;exact this
   ·intro i j C hi hj cc;rw[len]at hi hj;obtain⟨b,o,vs1,m,e1,e2,e3,e4,e5⟩:=Tm I'.hok ktup (i:=i) (by rw[zl];exact hi);obtain⟨b',o',vs2,m',f1,f2,f3,f4,f5⟩:=Tm I'.hok ktup (i:=j) (by rw[zl];exact hj);rw[z1]at e1 f1;rw[z2]at e5 f5;unfold kas_ask;rw[e1,f1];refine kat_lt e2 e4 f2 f4 ?_;rw[Wd (by rw[A9];exact hi)]at cc;have:=TR (prog:=X.prog) (w:=X.w) (A:=A2) (b:=true) (i:=0) e5 f5 cc;have l1:=e5.length;have l2:=f5.length;rw[A9]at l1 l2;rw[D6,D6,<-l1,<-l2];exact this
   rintro⟨⟨⟩,st'⟩ s' ⟨rfl,hf,p,pn,up,ea⟩;dsimp only at hf ea⊢;have eo:=kat_snds lk ea;refine TX (c:=c) I' fa' fS' nka hk ha eo hf (by simp only[D6,A9,C5,pn.sz];exact ln) kroom λh' c' I5 h5=>fin p H' _ c' pn up I5 kp na h5
def ND(out:List It3):Prop:=out.Pairwise λp q=>Ca [q.y,q.x] [p.y,p.x]=false
theorem SK {Q:VK} (F:AC X.prog X.w X.K X.mg X.base CX0 k f fd ps LF) (hb:BN X.K fd ps []) (hr:BT (k+2) X.A) (I:Inv X pins σ H s) {p:Addr} {items:List It3} (hq:SqL X.K H p (items.map λq=>V.ref q.a)) (hit:∀q∈items,H q.a=some (.tup (q.ns.map V.int))) (h64:items.length<=100000)
  (q:∀(L:Addr)(out:List It3)(H':Hp),(∀b u,H b=some u->H' b=some u)->H' L=none->out.Perm items->ND out->Q (.ref L) (upd H' L (.lst (out.map λq=>V.ref q.a)))) :
  wpAny (model X.prog X.w) X.A (call (.builtin "sorted") [.ref p] [("key",.ref f)]) (EP X pins σ Q) X.xe s:=by
 obtain⟨its,rv,pl,hz⟩:=I.list hq;have ei:its=items.map λq=>Value.ref q.a:=by
  clear pl hz q hq h64 hit;induction items generalizing its with
  |nil=>cases rv;rfl
  |cons it items ih =>
   cases rv with
   |cons a1 a2 =>
    cases(show _=Value.ref it.a from a1);rw[C9,ih _ a2]
 subst ei;have len:(items.map λq=>Value.ref q.a).length=items.length:=A9 _;have ln:items.length<=sizeLine:=C6 h64 A4;refine PyProof.Rows.call_function_entry_kw kind_sorted plain_sorted entry_sorted (ksk_s1 _ _) ?_;unfold Builtin.«sorted»;refine X5 (m:=checkCount "sorted" 1 1 _) (K5 (X5 (collect_list pl.isList (X5 (wpAny_newList ?_ (by rw[len];exact ln))) (by rw[len];exact ln))));have sz1:((s.heap.push (seqObj "list" #[] 0)).update s.heap.objs.size (Obj.mapSeq (· ++ (items.map λq=>Value.ref q.a).toArray))).objs.size=s.heap.objs.size+1:=by
  rw[Heap.size_update];exact size_push' ..
 have at1:(((s.heap.push (seqObj "list" #[] 0)).update s.heap.objs.size (Obj.mapSeq (· ++ (items.map λq=>Value.ref q.a).toArray))).push (seqObj "list" (items.map λq=>Value.ref q.a).toArray 0)).get? (s.heap.objs.size+1)=some (seqObj "list" (items.map λq=>Value.ref q.a).toArray 0):=by
  have:=D0 ((s.heap.push (seqObj "list" #[] 0)).update s.heap.objs.size (Obj.mapSeq (· ++ (items.map λq=>Value.ref q.a).toArray))) (show(seqObj "list" (items.map λq=>Value.ref q.a).toArray 0).isFreed=false from rfl);rw[sz1]at this;exact this
 have keep1:∀b o,s.heap.get? b=some o->(((s.heap.push (seqObj "list" #[] 0)).update s.heap.objs.size (Obj.mapSeq (· ++ (items.map λq=>Value.ref q.a).toArray))).push (seqObj "list" (items.map λq=>Value.ref q.a).toArray 0)).get? b=some o:=λb o e =>
  B5 _ (by rw[O3 _ _ _ _ (F3 (C8 e))];exact B5 _ e)
 show wpAny (model X.prog X.w) _ _ _ _ {s with heap:=(((s.heap.push (seqObj "list" #[] 0)).update s.heap.objs.size (Obj.mapSeq (· ++ (items.map λq=>Value.ref q.a).toArray))).push (seqObj "list" (items.map λq=>Value.ref q.a).toArray 0))};rw[sz1];have I1:Inv X pins σ H {s with heap:=(((s.heap.push (seqObj "list" #[] 0)).update s.heap.objs.size (Obj.mapSeq (· ++ (items.map λq=>Value.ref q.a).toArray))).push (seqObj "list" (items.map λq=>Value.ref q.a).toArray 0))}:=I.kept (t':=s.toks) keep1;have fD:Dc X pins H (s.heap.objs.size+1):=I.fpOk (P3 _) (I.hok.fresh (P3 _));generalize ((s.heap.push (seqObj "list" #[] 0)).update s.heap.objs.size (Obj.mapSeq (· ++ (items.map λq=>Value.ref q.a).toArray))).push (seqObj "list" (items.map λq=>Value.ref q.a).toArray 0)=h1 at at1 I1⊢;refine X5 (A4a (PyProof.Rows.wpAny_call_entry_kw slot_list_sort ⟨_,at1,rfl⟩ entry_list_sort ?_ (ksk_l1 _ _)));rw[ksk_t1];refine Yg F hb hr.in1.in1 (λs H e=>e.in1.in1) I1 at1 fD hit h64 λpm H' s' c pn up I' kp na ha=>⟨_,rfl,K5 ⟨_,rfl,?_⟩⟩
 have pl2:pm.toList.Perm (List.range items.length):=by simpa using pn.pm.toList
 have sz:pm.size=items.length:=pn.sz;have lt:∀i∈pm.toList,i<items.length:=λi hi=>by simpa using (pl2.mem_iff).mp hi
 let d:It3:=⟨0,0,0,[]⟩
 have out:(pm.toList.map λi=>items.getD i d).Perm items:=by
  refine(pl2.map _).trans ?_;refine List.Perm.of_eq (List.ext_getElem? λi=>?_);rw[B7];by_cases hi:i<items.length
  ·rw[P7 hi,C3 hi];show some (items.getD i d)=_;rw[C0,C3 hi];rfl
  ·rw[N5 (by simpa using hi),N5 A0];rfl
 have rows:ND (pm.toList.map λi=>items.getD i d):=by
  refine List.pairwise_iff_getElem.mpr λi j hi hj ij=>?_;rw[A9,C5,sz]at hi hj;have u:=up i j (M4 ij) hj;have gi:pm.getD i 0=pm[i]'A0:=by simp[Array.getD,sz,hi]
  have gj:pm.getD j 0=pm[j]'A0:=by simp[Array.getD,sz,hj]
  have li:=lt _ (N6 (l:=pm.toList) (n:=i) (by rw[C5];lia));have lj:=lt _ (N6 (l:=pm.toList) (n:=j) (by rw[C5];lia));rw[P5]at li lj;unfold kk at u;rw[gi,gj]at u;rw[W5,W5,P5,P5];generalize pm[i]=a at *
  generalize pm[j]=b at *
  have:=Wd (rows:=items.map λq=>[q.y,q.x]) (i:=b) (j:=a) (by rw[A9];exact lj);rw[X6 A0]at this;have gd:∀{c:Nat},c<items.length->(items.map λq=>[q.y,q.x]).getD c []=[(items.getD c d).y,(items.getD c d).x]:=λ{c} hc=>by
   rw[C0,B7,C0,C3 hc];rfl
  rw[gd lj,gd li]at this;exact this.symm
 refine⟨.ref (s.heap.objs.size+1),_,I'.track (o:=.lst ((pm.toList.map λi=>items.getD i d).map λq=>V.ref q.a)) na (M8 (C6 I.sz (P3 _))) (M8 (C6 I.ok.bsz (C6 I.sz (P3 _)))) (A0c fD.2.1) fD.2.2.2.2.1 fD.2.2.2.2.2 (λb hb z=>fD.2.2.1 (z▸hb)) ⟨by rw[A9,A9,C5,sz];exact ln,_,c,?_,ha⟩,rfl,q (s.heap.objs.size+1) _ H' kp na out rows⟩;have:∀{l:List Nat},(∀i∈l,i<items.length)->AN ((l.map λi=>items.getD i d).map λq=>V.ref q.a) (l.map λi=>(items.map λq=>Value.ref q.a).getD i Value.none):=by
  intro l;induction l with
  |nil=>intro _;exact .nil
  |cons i l ih =>
   intro hl;refine .cons ?_ (ih λj hj=>hl j (B9 _ hj));have hi:=hl i (D7 ..);show AY (V.ref (items.getD i d).a) ((items.map λq=>Value.ref q.a).getD i Value.none);rw[C0,C0,B7,C3 hi];rfl
 exact this lt
def tSortA(K:PySem.W.Frag)(t:TA):TE:=fun σ H Q=>t σ H λvs H1=>∃(p:Addr)(items:List It3),vs=[.ref p]/\SqL K H1 p (items.map λq=>V.ref q.a)/\items.length<=100000/\(∀q∈items,H1 q.a=some (.tup (q.ns.map V.int)))/\∀(L:Addr)(out:List It3)(H':Hp),(∀b u,H1 b=some u->H' b=some u)->H' L=none->out.Perm items->ND out->Q (.ref L) (upd H' L (.lst (out.map λq=>V.ref q.a)))
theorem ML{ky:Str}{e:Expr}{t:TA}{p kp kpos pos:Pos}(c:Cal X.prog X.w X.K X.mg X.base CX0 k ky ps LF)(hr:BT (k+2) X.A)(hg:Gl X "sorted")(hm:X.mg "sorted" = none)(hgk:Gl X ky)(ha:PA X [e] t)(hd:(ky==("__debug__" : Str))=false:=by decide)
  (he:backTo pos (starEach [e] X.env)=(false,eval e X.env)::backTo pos (starEach [] X.env):=by rfl) (hp1:(backTo pos (starEach [e] X.env)).any (·.1)=false:=by rfl):PE X (.Call (.Name "sorted" p) [e] [⟨some "key",.Name ky kp,kpos⟩] pos) (tSortA X.K t):=by
 intro pins s σ H Q I h;obtain⟨f,fd,F,hmk,hkp,hb⟩:=c.ex;refine A1h (Iq I hg hm PyProof.Rows.boot_sorted ?_);refine PyProof.Rows.callWith_kw (thn (ha pos pins s σ H _ I h) λus s1 ⟨vs,H1,I1,r1,q1⟩=>?_) he hp1 rfl rfl;obtain⟨p',items,rfl,hq,h64,hit,q⟩:=q1;refine thn (pk_cons (nm:=some "key") (kpos:=kpos) (Cn (pos:=kp) hgk hmk hd) pk_nil pos pins s1 σ H1 (λzs H2=>zs=[.ref f]/\H2=H1) I1 ⟨rfl,rfl⟩) λws s2 ⟨zs,H2,I2,rz,e1,e2⟩=>?_;subst e1;subst e2;cases r1 with
 |cons a1 a2 =>
  cases a2;cases(show _=Value.ref p' from a1);cases rz with
  |cons b1 b2 =>
   cases b2;cases(show _=Value.ref f from b1);exact SK F hb hr I2 hq hit h64 q
end
section
variable{prog:Program}{w:World}{A:Around}{E:Value->Shared->Prop}{s:Shared}{r d:Addr}{o:Obj}{es:Array DictEntry}{ep:Nat}
end
section
variable{X:Cx}
end
end L2
namespace L2
open PySem PySem.W PySem.Spec PyProof.Rows
section
variable{prog:Program}{w:World}{A:Around}{E:Value->Shared->Prop}{s:Shared}{v l:Addr}{its:Array Value}
end
section
variable{X:Cx}{e:Expr}{t:TA}{p p2 pos pos2:Pos}
end
section
variable{prog:Program}{w:World}{d:Addr}{o:Obj}{es:Array DictEntry}{ep:Nat}
end
section
variable{X:Cx}
end
def tFstr5(ta tc tb td te:TE):TE:=fun σ H Q=>ta σ H λx H1=>∃i:Int,x=.int i/\i.natAbs.log2<1920/\tc σ H1 λy H2=>∃z:Str,y=.str z/\z.length<=1000/\tb σ H2 λx2 H3=>∃j:Int,x2=.int j/\j.natAbs.log2<1920/\td σ H3 λy2 H4=>∃z2:Str,y2=.str z2/\z2.length<=1000/\te σ H4 λy3 H5=>∃z3:Str,y3=.str z3/\z3.length<=100000/\Q (.str (Str.ofString (toString i)++z++Str.ofString (toString j)++z2++z3)) H5
section
variable{X:Cx}
theorem Wm{a b c d e:Expr}{ta tb tc td te:TE}{p q r pos:Pos}(ha:PE X a ta)(hc:PE X c tc)(hb:PE X b tb)(hd:PE X d td)(he:PE X e te):PE X (.JoinedStr [.FormattedValue a (-1) none p,c,.FormattedValue b (-1) none q,d,.FormattedValue e (-1) none r] pos) (tFstr5 ta tc tb td te):=by
 intro pins s σ H Q I h;refine JoinedStr_many (A1g (A2e (thn (ha pins s σ H _ I h) λv s1 ⟨x,H1,I1,rx,i,ex,hz,q1⟩=>?_)));subst ex;obtain⟨t,rfl⟩:=rx;have hl:(Str.ofString (toString i)).length<=1921:=A1f hz;refine A4h hz ⟨?_,?_⟩
 ·rw[JS];exact C6 hl A4
 refine A1g (thn (hc pins _ σ H1 _ (I1.tok _) q1) λv s2 ⟨y,H2,I2,ry,z,ez,hz2,q2⟩=>?_);subst ez;obtain⟨t',rfl⟩:=ry;have hs:(Str.empty++Str.ofString (toString i)++z).length<=3000:=by
  rw[JS,A4b];exact C6 (Q0 hl hz2) A4
 refine⟨C6 hs A4,?_⟩;refine A1g (A2e (thn (hb pins _ σ H2 _ I2 q2) λv s3 ⟨x3,H3,I3,rx3,j,ex3,hz3,q3⟩=>?_));subst ex3;obtain⟨t3,rfl⟩:=rx3;have hl3:(Str.ofString (toString j)).length<=1921:=A1f hz3;have hs3:(Str.empty++Str.ofString (toString i)++z++Str.ofString (toString j)).length<=5000:=by
  rw[A4b];exact C6 (Q0 hs hl3) A4
 refine A4h hz3 ⟨C6 hs3 A4,?_⟩;refine A1g (thn (hd pins _ σ H3 _ (I3.tok _) q3) λv s4 ⟨y4,H4,I4,ry4,z4,ez4,hz4,q4⟩=>?_);subst ez4;obtain⟨t4,rfl⟩:=ry4;have hs4:(Str.empty++Str.ofString (toString i)++z++Str.ofString (toString j)++z4).length<=6000:=by
  rw[A4b];exact C6 (Q0 hs3 hz4) A4
 refine⟨C6 hs4 A4,?_⟩;refine A1g (A2e (thn (he pins _ σ H4 _ I4 q4) λv s5 ⟨y5,H5,I5,ry5,z5,ez5,hz5,q5⟩=>?_));subst ez5;obtain⟨t5,rfl⟩:=ry5;have hs5:(Str.empty++Str.ofString (toString i)++z++Str.ofString (toString j)++z4++z5).length<=sizeLine:=by
  rw[A4b];exact C6 (Q0 hs4 hz5) A4
 refine formatField_str (λt2 tk=>⟨hs5,joinParts_nil ?_ hs5⟩) (C6 hz5 A4);rw[JS];exact⟨.str _,H5,(I5.tok _).tok _,⟨_,rfl⟩,q5⟩
def rMulS:R2:=λx y H Q=>∃(z:Str)(k:Int),x=.str z/\y=.int k/\(k=0\/k=1)/\Q (.str (if k=1 then z else Str.empty)) H
theorem op_mulS:OpR X (binaryOp .Mult) rMulS:=by
 intro pins s σ H x y v u Q I rx ry h;obtain⟨z,k,rfl,rfl,hk,q⟩:=h;obtain⟨t,rfl⟩:=rx;obtain⟨t',rfl⟩:=ry;rcases hk with rfl|rfl
 ·refine PySem.P.mul_str_none A4 A4 ?_;exact⟨.str _,H,I.tok _,⟨_,rfl⟩,q⟩
 ·refine PySem.P.mul_str A4 (λ_ h=>by simp at h) (λ_ h=>by simp at h) ?_;rw[X8 A4,X9 A5];exact⟨.str _,H,I,⟨_,rfl⟩,q⟩
end
end L2
namespace L2
open PySem PySem.W PySem.Spec PyProof.Rows
def Itv(K:PySem.W.Frag)(a:Addr)(xs:List V):It :=
 ⟨λi H=>SqL K H a xs/\i<xs.length,λi H x H'=>H'=H/\xs[xs.length-1-i]?=some x,λi H=>SqL K H a xs/\i=xs.length⟩
theorem VA{P:Program}{w:World}{K:PySem.W.Frag}{tg:Expr}(a it:Addr)(xs:List V)(ne:a≠it):Qw P w K tg (Itv K a xs) [it] it (λi h=>h.IsRevIter it a ((xs.length:Int)-1-(i:Int))) where
 mem:=by simp
 obj:=λi h st b hb=>by
  have e:b=it:=by simpa using hb
  subst e;obtain⟨o,e,c,d⟩:=st;exact⟨o,e,λv z=>by rw[d]at z;cases z⟩
 keep:=λi h h' st k=>st.at λo e=>k it A5 o e
 item:=by
  intro X hP hw hK hc i pins s σ H E I hf st hg;subst hP hw hK;obtain⟨hq,hi⟩:=hg;obtain⟨its,rv,p,hz⟩:=I.list hq;have hl:=rv.length;have sz:its.toArray.size=xs.length:=by simp;lia
  have ex:xs[xs.length-1-i]?=some (xs[xs.length-1-i]'A0):=C3 A0;generalize xs[xs.length-1-i]'A0=x at ex;obtain⟨u,hu,ru⟩:=rv.get ex;obtain⟨f0,f1,f2,f3,f4,f5⟩:=hf it A5;refine(Walks.listRev (I.ok.hd hc) it a ne its.toArray).item i s _ _ (by rw[sz];exact hi) ⟨by rw[sz];exact M4 hi,by rw[sz];exact st,p.isList⟩ λv h' tk hv st' kk=>?_;have ev:v=u:=by
   have hv:its.toArray[its.toArray.size-1-i]?=some v:=hv;rw[sz]at hv;have:its[xs.length-1-i]?=some v:=by simpa using hv
   rw[hu]at this;exact(K3 this).symm
  subst ev;have I1:Inv X pins σ H {s with heap:=h',toks:=tk}:=I.turned (λb o hb e=>kk b o (by simpa using hb) e) f0 f1 f3 f4 f5;have st2:h'.IsRevIter it a ((xs.length:Int)-1-((i+1:Nat):Int)):=by
   have:=st'.2.1;rw[sz]at this;exact this
  obtain⟨o,e,c,d⟩:=id st2;exact⟨v,rfl,Rr (s:={s with heap:=h',toks:=tk}) e c d A4 ⟨x,H,I1,ru,⟨rfl,ex⟩,st2,λb hb=>(hf b hb).1⟩⟩
 done:=by
  intro X hP hw hK hc i pins s σ H E I hf st hg;subst hP hw hK;obtain⟨hq,hi⟩:=hg;obtain⟨its,rv,p,hz⟩:=I.list hq;have hl:=rv.length;have sz:its.toArray.size=xs.length:=by simp;lia
  obtain⟨f0,f1,f2,f3,f4,f5⟩:=hf it A5;subst hi;exact(Walks.listRev (I.ok.hd hc) it a ne its.toArray).done s _ _ ⟨B1 _,by rw[sz];exact st,p.isList⟩ λh' tk kk=>⟨rfl,I.turned (λb o hb e=>kk b o (by simpa using hb) e) f0 f1 f3 f4 f5⟩
 self:=λ_ _ _ _ _ st h=>wpAny_pyIter_revIter st h
section
variable{X:Cx}{tg e:Expr}{t:TA}{p pos:Pos}
def iRev(K:PySem.W.Frag)(t:TA):TI:=fun σ H R=>t σ H λvs H1=>∃(l:Addr)(xs:List V),vs=[.ref l]/\SqL K H1 l xs/\R (Itv K l xs) H1
theorem pi_rev(hg:Gl X "reversed")(hm:X.mg "reversed" = none)(ha:PA X [e] t)(he:starEach [e] X.env=(false,eval e X.env)::starEach [] X.env:=by rfl)(hp:(backTo pos (starEach [] X.env)).any (·.1)=false:=by rfl) :
  PI X tg (.Call (.Name "reversed" p) [e] [] pos) (iRev X.K t):=by
 intro pins s σ H R I h;refine A1h (Iq I hg hm PyProof.Rows.boot_reversed ?_);refine A2d (thn (ha pos pins s σ H _ I h) λus s1 ⟨vs,H1,I1,r1,q1⟩=>?_) he hp;obtain⟨l,ys,rfl,hl,q⟩:=q1;obtain⟨u,rfl,ru⟩:=LE r1;cases ru;obtain⟨its,rv,pl,hz⟩:=I1.list hl;refine call_reversed_list pl.isList ?_;have sz:its.toArray.size=ys.length:=by have:=rv.length;simp;lia
 have lt:l<s1.heap.objs.size:=by
  obtain⟨o,ho,_⟩:=pl.isList;exact C8 ho
 have at1:(s1.heap.push (revObj l ((its.toArray.size:Int)-1))).get? s1.heap.objs.size=some (revObj l ((its.toArray.size:Int)-1)):=D0 _ rfl;have st:(s1.heap.push (revObj l ((its.toArray.size:Int)-1))).IsRevIter s1.heap.objs.size l ((ys.length:Int)-1-((0:Nat):Int)):=by
  have:((its.toArray.size:Int)-1)=(ys.length:Int)-1-((0:Nat):Int):=by rw[sz];lia
  exact⟨_,at1,rfl,by rw[<-this];rfl⟩
 refine wpAny_pyIter_revIter st ?_;refine⟨s1.heap.objs.size,[s1.heap.objs.size],_,_,H1,rfl,I1.kept (t':=s1.toks) λb o e=>B5 _ e,VA l _ ys (F3 lt),st,λb hb=>?_,q⟩;have e:b=s1.heap.objs.size:=by simpa using hb
 subst e;exact I1.fpOk (B1 _) (I1.hok.fresh (B1 _))
end
theorem for_rev{K:PySem.W.Frag}{a:Addr}{xs:List V}{g:TG}{tb:TS}{D:JU}{σ:St}{H:Hp}(Pv:Nat->St->Hp->Prop)(h0:Pv 0 σ H)(hl:∀i σ H,i<=xs.length->Pv i σ H->SqL K H a xs)
  (hs:∀i x σ H,i<xs.length->xs[xs.length-1-i]?=some x->Pv i σ H->g x σ H fun σ2 H2=>tb {D with nx:=Pv (i+1),ct:=Pv (i+1),bk:=D.nx} σ2 H2) (hd:∀σ H,Pv xs.length σ H->D.nx σ H) :
  ∃W:Nat->Nat->St->Hp->Prop,(∃m,W 0 m σ H)/\∀i m σ H,W i m σ H ->
   ((Itv K a xs).stop i H/\D.nx σ H)\/((Itv K a xs).go i H/\∃N:St->Hp->Prop,(∀σ' H',N σ' H'->∃m',m'<m/\W (i+1) m' σ' H')/\∀x H',(Itv K a xs).yld i H x H'->g x σ H' fun σ2 H2=>tb {D with nx:=N,ct:=N,bk:=D.nx} σ2 H2):=by
 refine⟨λi m σ H=>m=xs.length-i/\i<=xs.length/\Pv i σ H,⟨xs.length,by simp,G9 _,h0⟩,?_⟩;rintro i m σ H ⟨rfl,hi,p⟩;have q:=hl i σ H hi p;by_cases hlt:i<xs.length
 ·refine .inr ⟨⟨q,hlt⟩,Pv (i+1),fun σ' H' p'=>⟨xs.length-(i+1),by lia,rfl,hlt,p'⟩,λx H' y=>?_⟩;obtain⟨e,y⟩:=y;subst e;exact hs i x σ _ hlt y p
 ·have e:i=xs.length:=by lia
  subst e;exact .inl ⟨⟨q,rfl⟩,hd σ H p⟩
end L2
namespace J
open PySem L2
def top(i:Nat):Stmt:=PySem.Challenge.pw_jumpfield_k85_far_runs.main.body.getD i (.Pass ⟨0,0,0,0⟩)
abbrev Jj:Stmt:=top 19
abbrev Su:List Str:=["thing"]
abbrev Fa:List Str:=["thing"]
theorem QI:Ap Su Fa (Ai Jj):=⟨rfl,rfl,rfl,by decide +kernel,rfl,by decide +kernel,by decide +kernel⟩
abbrev Gg:Stmt:=top 20
abbrev PJ:List Str:=["text"]
abbrev Gw:List Str:=["text"]
theorem NH:Ap PJ Gw (Ai Gg):=⟨rfl,rfl,rfl,by decide +kernel,rfl,by decide +kernel,by decide +kernel⟩
abbrev Ed:Stmt:=top 21
abbrev LT:List Str:=["text"]
abbrev Em:List Str:=["text"]
theorem JV:Ap LT Em (Ai Ed):=⟨rfl,rfl,rfl,by decide +kernel,rfl,by decide +kernel,by decide +kernel⟩
abbrev DR:Stmt:=top 22
abbrev Jb:List Str:=["signs"]
abbrev FH:List Str:=["signs"]
theorem MD:Ap Jb FH (Ai DR):=⟨rfl,rfl,rfl,by decide +kernel,rfl,by decide +kernel,by decide +kernel⟩
abbrev Jk:Stmt:=top 25
abbrev Sv:List Str:=["thing"]
abbrev Fb:List Str:=["thing"]
theorem QJ:Ap Sv Fb (Ai Jk):=⟨rfl,rfl,rfl,by decide +kernel,rfl,by decide +kernel,by decide +kernel⟩
abbrev Fv:Stmt:=top 28
abbrev NP:List Str:=["box","dx","dy"]
abbrev CL:List Str:=["box","dx","dy"]
theorem MA:Ap NP CL (Ai Fv):=⟨rfl,rfl,rfl,by decide +kernel,rfl,by decide +kernel,by decide +kernel⟩
abbrev Ct:Stmt:=top 29
abbrev DX:List Str:=["boxes","left","top","right","bottom"]
abbrev Fs:List Str:=["boxes"]
theorem Dn:Ap DX Fs (Ai Ct):=⟨rfl,rfl,rfl,by decide +kernel,rfl,by decide +kernel,by decide +kernel⟩
abbrev Fy:Stmt:=top 34
abbrev NR:List Str:=["box","limit"]
abbrev CM:List Str:=["box","limit"]
theorem MC:Ap NR CM (Ai Fy):=⟨rfl,rfl,rfl,by decide +kernel,rfl,by decide +kernel,by decide +kernel⟩
abbrev Ji:Stmt:=top 35
abbrev Ss:List Str:=["grove","field"]
abbrev CY:List Str:=["grove","field"]
theorem QH:Ap Ss CY (Ai Ji):=⟨rfl,rfl,rfl,by decide +kernel,rfl,by decide +kernel,by decide +kernel⟩
abbrev Gj:Stmt:=top 36
abbrev PM:List Str:=["grove"]
abbrev GC:List Str:=["grove"]
theorem NI:Ap PM GC (Ai Gj):=⟨rfl,rfl,rfl,by decide +kernel,rfl,by decide +kernel,by decide +kernel⟩
abbrev JZ:Stmt:=top 37
abbrev UP:List Str:=["grove","square","level","parts","bare"]
abbrev Lg:List Str:=["grove","square"]
theorem Gf:Ap UP Lg (Ai JZ):=⟨rfl,rfl,rfl,by decide +kernel,rfl,by decide +kernel,by decide +kernel⟩
abbrev La:Stmt:=top 38
abbrev UQ:List Str:=["grove","square","kept"]
abbrev IH:List Str:=["grove","square"]
theorem Jh:Ap UQ IH (Ai La):=⟨rfl,rfl,rfl,by decide +kernel,rfl,by decide +kernel,by decide +kernel⟩
abbrev Fo:Stmt:=top 39
abbrev LI:List Str:=["grove","square","inner"]
abbrev Ij:List Str:=["grove","square"]
theorem Jv:Ap LI Ij (Ai Fo):=⟨rfl,rfl,rfl,by decide +kernel,rfl,by decide +kernel,by decide +kernel⟩
abbrev DD:Stmt:=top 40
abbrev Ll:List Str:=["grove","square","bare","place","quarter","part_place","part"]
abbrev DI:List Str:=["grove","square"]
theorem Bs:Ap Ll DI (Ai DD):=⟨rfl,rfl,rfl,by decide +kernel,rfl,by decide +kernel,by decide +kernel⟩
abbrev EO:Stmt:=top 41
abbrev MV:List Str:=["grove","field","box","wide"]
abbrev Du:List Str:=["grove","field","box"]
theorem DY:Ap MV Du (Ai EO):=⟨rfl,rfl,rfl,by decide +kernel,rfl,by decide +kernel,by decide +kernel⟩
abbrev Jz:Stmt:=top 43
abbrev WL:List Str:=["grove","field","box","state","has_places","wide","solid"]
abbrev Ik:List Str:=["grove","field","box","state"]
theorem De:Ap WL Ik (Ai Jz):=⟨rfl,rfl,rfl,by decide +kernel,rfl,by decide +kernel,by decide +kernel⟩
abbrev Ic:Stmt:=top 44
abbrev Rc:List Str:=["box"]
abbrev Ft:List Str:=["box"]
theorem Pp:Ap Rc Ft (Ai Ic):=⟨rfl,rfl,rfl,by decide +kernel,rfl,by decide +kernel,by decide +kernel⟩
abbrev Lb:Stmt:=top 45
abbrev UR:List Str:=["grove","field","box","reach","left","top","size"]
abbrev II:List Str:=["grove","field","box"]
theorem EM:Ap UR II (Ai Lb):=⟨rfl,rfl,rfl,by decide +kernel,rfl,by decide +kernel,by decide +kernel⟩
abbrev Mj:Stmt:=top 46
abbrev cK:List Str:=["grove","inner","outer","part","known","size","key","square"]
abbrev Gz:List Str:=["grove","inner","outer","part","known"]
theorem FU:Ap cK Gz (Ai Mj):=⟨rfl,rfl,rfl,by decide +kernel,rfl,by decide +kernel,by decide +kernel⟩
abbrev CA:Stmt:=top 47
abbrev Lk:List Str:=["grove","key","half","known","inners","outers","part","columns","rows","made","place","column","row","quarter_part"]
abbrev CD:List Str:=["grove","key","half","known"]
theorem AG:Ap Lk CD (Ai CA):=⟨rfl,rfl,rfl,by decide +kernel,rfl,by decide +kernel,by decide +kernel⟩
abbrev Ee:Stmt:=top 48
abbrev LU:List Str:=["start","stop","half"]
abbrev CU:List Str:=["start","stop","half"]
theorem JW:Ap LU CU (Ai Ee):=⟨rfl,rfl,rfl,by decide +kernel,rfl,by decide +kernel,by decide +kernel⟩
abbrev Lc:Stmt:=top 51
abbrev US:List Str:=["cell"]
abbrev IJ:List Str:=["cell"]
theorem Sh:Ap US IJ (Ai Lc):=⟨rfl,rfl,rfl,by decide +kernel,rfl,by decide +kernel,by decide +kernel⟩
abbrev Gi:Stmt:=top 52
abbrev Sw:List Str:=["grove","field","reach","cells"]
abbrev GB:List Str:=["grove","field"]
theorem Df:Ap Sw GB (Ai Gi):=⟨rfl,rfl,rfl,by decide +kernel,rfl,by decide +kernel,by decide +kernel⟩
abbrev ET:Stmt:=top 53
abbrev MY:List Str:=["grove","square","left","top","cells","level","half","place","quarter"]
abbrev BQ:List Str:=["grove","square","left","top","cells"]
theorem BI:Ap MY BQ (Ai ET):=⟨rfl,rfl,rfl,by decide +kernel,rfl,by decide +kernel,by decide +kernel⟩
abbrev ME:Stmt:=top 54
abbrev WM:List Str:=["grove","field","box","reach"]
abbrev MO:List Str:=["grove","field"]
theorem JX:Ap WM MO (Ai ME):=⟨rfl,rfl,rfl,by decide +kernel,rfl,by decide +kernel,by decide +kernel⟩
abbrev Ib:Stmt:=top 61
abbrev Rb:List Str:=["text","runs","figures","sign"]
abbrev Ii:List Str:=["text"]
theorem Cy:Ap Rb Ii (Ai Ib):=⟨rfl,rfl,rfl,by decide +kernel,rfl,by decide +kernel,by decide +kernel⟩
abbrev Fw:Stmt:=top 62
abbrev NQ:List Str:=["figures"]
abbrev FG:List Str:=["figures"]
theorem MB:Ap NQ FG (Ai Fw):=⟨rfl,rfl,rfl,by decide +kernel,rfl,by decide +kernel,by decide +kernel⟩
abbrev Ex:Stmt:=top 63
abbrev JH:List Str:=["runs"]
abbrev Gu:List Str:=["runs"]
theorem NG:Ap JH Gu (Ai Ex):=⟨rfl,rfl,rfl,by decide +kernel,rfl,by decide +kernel,by decide +kernel⟩
abbrev ES:Stmt:=top 64
abbrev MX:List Str:=["runs","merged","amount","sign"]
abbrev EZ:List Str:=["runs"]
theorem CP:Ap MX EZ (Ai ES):=⟨rfl,rfl,rfl,by decide +kernel,rfl,by decide +kernel,by decide +kernel⟩
abbrev Ia:Stmt:=top 65
abbrev Ra:List Str:=["amount","sign"]
abbrev Ih:List Str:=["amount","sign"]
theorem Po:Ap Ra Ih (Ai Ia):=⟨rfl,rfl,rfl,by decide +kernel,rfl,by decide +kernel,by decide +kernel⟩
abbrev EQ:Stmt:=top 68
abbrev MW:List Str:=["grove","text","parts","place","x","y"]
abbrev EY:List Str:=["grove","text"]
theorem Ce:Ap MW EY (Ai EQ):=⟨rfl,rfl,rfl,by decide +kernel,rfl,by decide +kernel,by decide +kernel⟩
abbrev Gh:Stmt:=top 69
abbrev PL:List Str:=["word","number"]
abbrev Gy:List Str:=["word"]
theorem IU:Ap PL Gy (Ai Gh):=⟨rfl,rfl,rfl,by decide +kernel,rfl,by decide +kernel,by decide +kernel⟩
abbrev Eh:Stmt:=top 70
abbrev LX:List Str:=["grove","x","y","runs","field","right","down","amount","sign"]
abbrev Ep:List Str:=["grove","x","y","runs"]
theorem AQ:Ap LX Ep (Ai Eh):=⟨rfl,rfl,rfl,by decide +kernel,rfl,by decide +kernel,by decide +kernel⟩
abbrev Ef:Stmt:=top 71
abbrev LV:List Str:=["grove","field","cells","box","left","top","runs"]
abbrev En:List Str:=["grove","field"]
theorem Bz:Ap LV En (Ai Ef):=⟨rfl,rfl,rfl,by decide +kernel,rfl,by decide +kernel,by decide +kernel⟩
abbrev Eg:Stmt:=top 72
abbrev LW:List Str:=["cells","left","top","runs","right","down","x","y","state"]
abbrev Eo:List Str:=["cells","left","top"]
theorem AO:Ap LW Eo (Ai Eg):=⟨rfl,rfl,rfl,by decide +kernel,rfl,by decide +kernel,by decide +kernel⟩
abbrev Ld:Stmt:=top 74
abbrev UT:List Str:=["_law_script","_law_k"]
abbrev Lh:List Str:=["_law_script","_law_k"]
theorem Si:Ap UT Lh (Ai Ld):=⟨rfl,rfl,rfl,by decide +kernel,rfl,by decide +kernel,by decide +kernel⟩
abbrev Gk:Stmt:=top 75
abbrev PN:List Str:=["_law_found"]
abbrev GD:List Str:=["_law_found"]
theorem NJ:Ap PN GD (Ai Gk):=⟨rfl,rfl,rfl,by decide +kernel,rfl,by decide +kernel,by decide +kernel⟩
abbrev Jl:Stmt:=top 76
abbrev Sz:List Str:=["_law_cell","_law_k","_law_value"]
abbrev Fe:List Str:=["_law_cell","_law_k"]
theorem GZ:Ap Sz Fe (Ai Jl):=⟨rfl,rfl,rfl,by decide +kernel,rfl,by decide +kernel,by decide +kernel⟩
abbrev Ie:Stmt:=top 77
abbrev Rf:List Str:=["_law_cell"]
abbrev Il:List Str:=["_law_cell"]
theorem Pq:Ap Rf Il (Ai Ie):=⟨rfl,rfl,rfl,by decide +kernel,rfl,by decide +kernel,by decide +kernel⟩
abbrev Gm:Stmt:=top 78
abbrev PP:List Str:=["_law_cell","_law_k","_law_bits_here"]
abbrev GE:List Str:=["_law_cell","_law_k","_law_bits_here"]
theorem NL:Ap PP GE (Ai Gm):=⟨rfl,rfl,rfl,by decide +kernel,rfl,by decide +kernel,by decide +kernel⟩
abbrev Ey:Stmt:=top 79
abbrev JI:List Str:=["_law_grove","_law_square","_law_known"]
abbrev Dv:List Str:=["_law_grove","_law_square","_law_known"]
theorem IV:Ap JI Dv (Ai Ey):=⟨rfl,rfl,rfl,by decide +kernel,rfl,by decide +kernel,by decide +kernel⟩
abbrev FC:Stmt:=top 80
abbrev NV:List Str:=["_law_cell","_law_k","_law_bits_here"]
abbrev FL:List Str:=["_law_cell","_law_k"]
theorem EN:Ap NV FL (Ai FC):=⟨rfl,rfl,rfl,by decide +kernel,rfl,by decide +kernel,by decide +kernel⟩
abbrev FA:Stmt:=top 81
abbrev NT:List Str:=["_law_cell","_law_k","_law_amount"]
abbrev FJ:List Str:=["_law_cell","_law_k"]
theorem Do:Ap NT FJ (Ai FA):=⟨rfl,rfl,rfl,by decide +kernel,rfl,by decide +kernel,by decide +kernel⟩
abbrev Ej:Stmt:=top 82
abbrev GR:List Str:=["_law_run"]
abbrev CV:List Str:=["_law_run"]
theorem JY:Ap GR CV (Ai Ej):=⟨rfl,rfl,rfl,by decide +kernel,rfl,by decide +kernel,by decide +kernel⟩
abbrev Fz:Stmt:=top 83
abbrev NS:List Str:=["_law_left","_law_top","_law_runs","_law_strips_here","_law_x","_law_y","_law_amount","_law_sign"]
abbrev FI:List Str:=["_law_left","_law_top","_law_runs"]
theorem Bj:Ap NS FI (Ai Fz):=⟨rfl,rfl,rfl,by decide +kernel,rfl,by decide +kernel,by decide +kernel⟩
abbrev FB:Stmt:=top 84
abbrev NU:List Str:=["_law_strips_here","_law_x","_law_y","_law_amount","_law_state"]
abbrev FK:List Str:=["_law_strips_here"]
theorem Cs:Ap NU FK (Ai FB):=⟨rfl,rfl,rfl,by decide +kernel,rfl,by decide +kernel,by decide +kernel⟩
abbrev Dr:Stmt:=top 85
abbrev Im:List Str:=["_law_strips_here","_law_left","_law_y","_law_x","_law_words","_law_strip"]
abbrev Fc:List Str:=["_law_strips_here"]
theorem Bg:Ap Im Fc (Ai Dr):=⟨rfl,rfl,rfl,by decide +kernel,rfl,by decide +kernel,by decide +kernel⟩
abbrev Id:Stmt:=top 86
abbrev Re:List Str:=["_law_e","_law_kinds","_law_words"]
abbrev DV:List Str:=["_law_e"]
theorem BX:Ap Re DV (Ai Id):=⟨rfl,rfl,rfl,by decide +kernel,rfl,by decide +kernel,by decide +kernel⟩
abbrev EU:Stmt:=top 87
abbrev MZ:List Str:=["_law_grove","_law_text","_law_found","_law_e"]
abbrev Fd:List Str:=["_law_grove","_law_text"]
theorem DZ:Ap MZ Fd (Ai EU):=⟨rfl,rfl,rfl,by decide +kernel,rfl,by decide +kernel,by decide +kernel⟩
abbrev Ei:Stmt:=top 88
abbrev LY:List Str:=["_law_grove","_law_field","_law_found","_law_e"]
abbrev Er:List Str:=["_law_grove","_law_field"]
theorem DC:Ap LY Er (Ai Ei):=⟨rfl,rfl,rfl,by decide +kernel,rfl,by decide +kernel,by decide +kernel⟩
abbrev QK:Stmt:=top 89
abbrev WK:List Str:=["_law_script","_law_bits_here","_law_left","_law_top","_law_runs","_law_k","_law_strips_here","_law_grove","_law_word_here","_law_field","_law_due","_law_x","_law_y","_law_amount","_law_state","_law_many","_law_shown"]
abbrev p_law:List Str:=["_law_script"]
theorem BW:Ap WK p_law (Ai QK):=⟨rfl,rfl,rfl,by decide +kernel,rfl,by decide +kernel,by decide +kernel⟩
abbrev Gq:Stmt:=Co (top 30) 0
abbrev PV:List Str:=["self","state","level","bare"]
abbrev GH:List Str:=["self"]
theorem DQ:Ap PV GH (Ai Gq):=⟨rfl,rfl,rfl,by decide +kernel,rfl,by decide +kernel,by decide +kernel⟩
abbrev Gp:Stmt:=Co (top 30) 1
abbrev PU:List Str:=["self","parts","level","number"]
abbrev EC:List Str:=["self","parts","level"]
theorem IW:Ap PU EC (Ai Gp):=⟨rfl,rfl,rfl,by decide +kernel,rfl,by decide +kernel,by decide +kernel⟩
abbrev EW:Stmt:=Co (top 30) 2
abbrev Nb:List Str:=["self","parts","number"]
abbrev BF:List Str:=["self","parts"]
theorem GQ:Ap Nb BF (Ai EW):=⟨rfl,rfl,rfl,by decide +kernel,rfl,by decide +kernel,by decide +kernel⟩
abbrev Cu:Stmt:=Co (top 30) 3
abbrev Io:List Str:=["self","square"]
abbrev Br:List Str:=["self","square"]
theorem GT:Ap Io Br (Ai Cu):=⟨rfl,rfl,rfl,by decide +kernel,rfl,by decide +kernel,by decide +kernel⟩
abbrev Go:Stmt:=Co (top 30) 4
abbrev PR:List Str:=["self","state"]
abbrev GG:List Str:=["self","state"]
theorem NN:Ap PR GG (Ai Go):=⟨rfl,rfl,rfl,by decide +kernel,rfl,by decide +kernel,by decide +kernel⟩
abbrev FD:Stmt:=Co (top 30) 6
abbrev NW:List Str:=["self","level","state","square","below"]
abbrev CN:List Str:=["self","level","state"]
theorem Dp:Ap NW CN (Ai FD):=⟨rfl,rfl,rfl,by decide +kernel,rfl,by decide +kernel,by decide +kernel⟩
abbrev DG:Stmt:=Co (top 30) 7
abbrev Lp:List Str:=["self","square"]
abbrev AR:List Str:=["self","square"]
theorem Jy:Ap Lp AR (Ai DG):=⟨rfl,rfl,rfl,by decide +kernel,rfl,by decide +kernel,by decide +kernel⟩
abbrev DF:Stmt:=Co (top 30) 8
abbrev Ln:List Str:=["self","square"]
abbrev DJ:List Str:=["self","square"]
theorem Jx:Ap Ln DJ (Ai DF):=⟨rfl,rfl,rfl,by decide +kernel,rfl,by decide +kernel,by decide +kernel⟩
abbrev DE:Stmt:=Co (top 30) 9
abbrev Lm:List Str:=["self","square"]
abbrev CF:List Str:=["self","square"]
theorem Jw:Ap Lm CF (Ai DE):=⟨rfl,rfl,rfl,by decide +kernel,rfl,by decide +kernel,by decide +kernel⟩
abbrev EV:Stmt:=Co (top 30) 10
abbrev Na:List Str:=["self","square"]
abbrev Dw:List Str:=["self","square"]
theorem LR:Ap Na Dw (Ai EV):=⟨rfl,rfl,rfl,by decide +kernel,rfl,by decide +kernel,by decide +kernel⟩
abbrev CQ:Stmt:=Co (top 30) 11
abbrev GS:List Str:=["self","square","amount"]
abbrev Cg:List Str:=["self","square"]
theorem Cz:Ap GS Cg (Ai CQ):=⟨rfl,rfl,rfl,by decide +kernel,rfl,by decide +kernel,by decide +kernel⟩
abbrev Gn:Stmt:=Co (top 30) 12
abbrev PQ:List Str:=["self","square"]
abbrev GF:List Str:=["self","square"]
theorem NM:Ap PQ GF (Ai Gn):=⟨rfl,rfl,rfl,by decide +kernel,rfl,by decide +kernel,by decide +kernel⟩
abbrev DS:Stmt:=Co (top 30) 13
abbrev NX:List Str:=["self","square","box"]
abbrev Ch:List Str:=["self","square"]
theorem Dq:Ap NX Ch (Ai DS):=⟨rfl,rfl,rfl,by decide +kernel,rfl,by decide +kernel,by decide +kernel⟩
abbrev CC:Stmt:=Co (top 30) 14
abbrev Lo:List Str:=["self","square","level","half","boxes","place","quarter","box"]
abbrev CG:List Str:=["self","square"]
theorem Bk:Ap Lo CG (Ai CC):=⟨rfl,rfl,rfl,by decide +kernel,rfl,by decide +kernel,by decide +kernel⟩
structure Ad where
 c_Grove:Addr
 x_FieldError:Addr
 x_NoNumber:Addr
 x_NoRule:Addr
 x_Restless:Addr
 x_NoSquare:Addr
 x_NoLevel:Addr
 x_NoState:Addr
 x_NoBox:Addr
 x_TooFar:Addr
 x_TooMany:Addr
 x_NoSteps:Addr
 x_NoPattern:Addr
 x_NoName:Addr
 x_NoRow:Addr
structure Top(K:PySem.W.Frag)(mg:Str->Option Value)(a:Ad):Prop where
 b_abs:mg "abs" = none
 b_all:mg "all" = none
 b_bool:mg "bool" = none
 b_enumerate:mg "enumerate" = none
 b_int:mg "int" = none
 b_isinstance:mg "isinstance" = none
 b_len:mg "len" = none
 b_max:mg "max" = none
 b_min:mg "min" = none
 b_range:mg "range" = none
 b_reversed:mg "reversed" = none
 b_sorted:mg "sorted" = none
 b_str:mg "str" = none
 b_sum:mg "sum" = none
 b_tuple:mg "tuple" = none
 k_FIGURES:∃t,mg "FIGURES" = some (.str (Str.ofString "0123456789") t)
 k_MOST_FIGURES:∃t,mg "MOST_FIGURES" = some (.int 30 t)
 k_STATES:∃t,mg "STATES" = some (.int 8 t)
 k_TOP_LEVEL:∃t,mg "TOP_LEVEL" = some (.int 48 t)
 k_LIMIT:∃t,mg "LIMIT" = some (.int 1099511627776 t)
 k_LEAST_LEVEL:∃t,mg "LEAST_LEVEL" = some (.int 1 t)
 k_MOST_CELLS:∃t,mg "MOST_CELLS" = some (.int 4096 t)
 k_BLANK_SIGN:∃t,mg "BLANK_SIGN" = some (.str (Str.ofString ".") t)
 k_ROW_SIGN:∃t,mg "ROW_SIGN" = some (.str (Str.ofString "/") t)
 k_STATE_SIGNS:∃t,mg "STATE_SIGNS" = some (.str (Str.ofString ".ABCDEFG") t)
 k_RUN_SIGNS:∃t,mg "RUN_SIGNS" = some (.str (Str.ofString ".ABCDEFG/") t)
 k_MOST_AMOUNT_FIGURES:∃t,mg "MOST_AMOUNT_FIGURES" = some (.int 13 t)
 k_MOST_PLACE:∃t,mg "MOST_PLACE" = some (.int 9999999999999 t)
 m_Grove:mg "Grove" = some (.ref a.c_Grove)
 cl_Grove:Cls K a.c_Grove
 na_Grove_levels:Dz K a.c_Grove "levels"
 na_Grove_parts:Dz K a.c_Grove "parts"
 na_Grove_numbers:Dz K a.c_Grove "numbers"
 na_Grove_bares:Dz K a.c_Grove "bares"
 na_Grove_amounts:Dz K a.c_Grove "amounts"
 na_Grove_boxes:Dz K a.c_Grove "boxes"
 b_ValueError:mg "ValueError" = none
 mx_FieldError:mg "FieldError" = some (.ref a.x_FieldError)
 mx_NoNumber:mg "NoNumber" = some (.ref a.x_NoNumber)
 mx_NoRule:mg "NoRule" = some (.ref a.x_NoRule)
 mx_Restless:mg "Restless" = some (.ref a.x_Restless)
 mx_NoSquare:mg "NoSquare" = some (.ref a.x_NoSquare)
 mx_NoLevel:mg "NoLevel" = some (.ref a.x_NoLevel)
 mx_NoState:mg "NoState" = some (.ref a.x_NoState)
 mx_NoBox:mg "NoBox" = some (.ref a.x_NoBox)
 mx_TooFar:mg "TooFar" = some (.ref a.x_TooFar)
 mx_TooMany:mg "TooMany" = some (.ref a.x_TooMany)
 mx_NoSteps:mg "NoSteps" = some (.ref a.x_NoSteps)
 mx_NoPattern:mg "NoPattern" = some (.ref a.x_NoPattern)
 mx_NoName:mg "NoName" = some (.ref a.x_NoName)
 mx_NoRow:mg "NoRow" = some (.ref a.x_NoRow)
 ec_TooFar:GW K a.x_TooFar
 ec_TooMany:GW K a.x_TooMany
 ec_NoNumber:GW K a.x_NoNumber
 ec_FieldError:GW K a.x_FieldError
 ef_TooFar:RT K a.x_TooFar
 mr_TooFar:mroIn K a.x_TooFar (.ref a.x_FieldError)=some true
 kv_TooFar:kitOne K (.ref a.x_TooFar) (.type "ValueError")=some true
 ki_TooFar_NoNumber:kitOne K (.ref a.x_TooFar) (.ref a.x_NoNumber)=some false
 ki_TooFar_NoRule:kitOne K (.ref a.x_TooFar) (.ref a.x_NoRule)=some false
 ki_TooFar_Restless:kitOne K (.ref a.x_TooFar) (.ref a.x_Restless)=some false
 ki_TooFar_NoSquare:kitOne K (.ref a.x_TooFar) (.ref a.x_NoSquare)=some false
 ki_TooFar_NoLevel:kitOne K (.ref a.x_TooFar) (.ref a.x_NoLevel)=some false
 ki_TooFar_NoState:kitOne K (.ref a.x_TooFar) (.ref a.x_NoState)=some false
 ki_TooFar_NoBox:kitOne K (.ref a.x_TooFar) (.ref a.x_NoBox)=some false
 ki_TooFar_TooFar:kitOne K (.ref a.x_TooFar) (.ref a.x_TooFar)=some true
 ki_TooFar_TooMany:kitOne K (.ref a.x_TooFar) (.ref a.x_TooMany)=some false
 ki_TooFar_NoSteps:kitOne K (.ref a.x_TooFar) (.ref a.x_NoSteps)=some false
 ki_TooFar_NoPattern:kitOne K (.ref a.x_TooFar) (.ref a.x_NoPattern)=some false
 ki_TooFar_NoName:kitOne K (.ref a.x_TooFar) (.ref a.x_NoName)=some false
 ki_TooFar_NoRow:kitOne K (.ref a.x_TooFar) (.ref a.x_NoRow)=some false
 ef_TooMany:RT K a.x_TooMany
 mr_TooMany:mroIn K a.x_TooMany (.ref a.x_FieldError)=some true
 kv_TooMany:kitOne K (.ref a.x_TooMany) (.type "ValueError")=some true
 ki_TooMany_NoNumber:kitOne K (.ref a.x_TooMany) (.ref a.x_NoNumber)=some false
 ki_TooMany_NoRule:kitOne K (.ref a.x_TooMany) (.ref a.x_NoRule)=some false
 ki_TooMany_Restless:kitOne K (.ref a.x_TooMany) (.ref a.x_Restless)=some false
 ki_TooMany_NoSquare:kitOne K (.ref a.x_TooMany) (.ref a.x_NoSquare)=some false
 ki_TooMany_NoLevel:kitOne K (.ref a.x_TooMany) (.ref a.x_NoLevel)=some false
 ki_TooMany_NoState:kitOne K (.ref a.x_TooMany) (.ref a.x_NoState)=some false
 ki_TooMany_NoBox:kitOne K (.ref a.x_TooMany) (.ref a.x_NoBox)=some false
 ki_TooMany_TooFar:kitOne K (.ref a.x_TooMany) (.ref a.x_TooFar)=some false
 ki_TooMany_TooMany:kitOne K (.ref a.x_TooMany) (.ref a.x_TooMany)=some true
 ki_TooMany_NoSteps:kitOne K (.ref a.x_TooMany) (.ref a.x_NoSteps)=some false
 ki_TooMany_NoPattern:kitOne K (.ref a.x_TooMany) (.ref a.x_NoPattern)=some false
 ki_TooMany_NoName:kitOne K (.ref a.x_TooMany) (.ref a.x_NoName)=some false
 ki_TooMany_NoRow:kitOne K (.ref a.x_TooMany) (.ref a.x_NoRow)=some false
structure Sq where
 parts:List Int
 lev:Int
abbrev Gv:=List Sq
structure GA where
 p:Addr
 dx:Addr
 lv:Addr
 pt:Addr
 nm:Addr
 br:Addr
 am:Addr
 bx:Addr
def fl6(g:GA):List (Str×V):=Ci "boxes" (.ref g.bx) (Ci "amounts" (.ref g.am) (Ci "bares" (.ref g.br) (Ci "numbers" (.ref g.nm) (Ci "parts" (.ref g.pt) (Ci "levels" (.ref g.lv) [])))))
theorem Fh(g:GA):(fl6 g).lookup ("levels" : Str)=some (V.ref g.lv):=by
 unfold fl6;rw[Ay,X8 A1,Ay,X8 A1,Ay,X8 A1,Ay,X8 A1,Ay,X8 A1,Ay,X9 rfl]
theorem Et(g:GA):(fl6 g).lookup ("parts" : Str)=some (V.ref g.pt):=by
 unfold fl6;rw[Ay,X8 A1,Ay,X8 A1,Ay,X8 A1,Ay,X8 A1,Ay,X9 rfl]
theorem Yp(g:GA):(fl6 g).lookup ("numbers" : Str)=some (V.ref g.nm):=by
 unfold fl6;rw[Ay,X8 A1,Ay,X8 A1,Ay,X8 A1,Ay,X9 rfl]
theorem Js(g:GA):(fl6 g).lookup ("bares" : Str)=some (V.ref g.br):=by
 unfold fl6;rw[Ay,X8 A1,Ay,X8 A1,Ay,X9 rfl]
theorem SR(g:GA):(fl6 g).lookup ("amounts" : Str)=some (V.ref g.am):=by
 unfold fl6;rw[Ay,X8 A1,Ay,X9 rfl]
theorem Yq(g:GA):(fl6 g).lookup ("boxes" : Str)=some (V.ref g.bx):=by
 unfold fl6;rw[Ay,X9 rfl]
theorem DL(g:GA){m:Str}(h1:¬m=("boxes" : Str))(h2:¬m=("amounts" : Str))(h3:¬m=("bares" : Str))(h4:¬m=("numbers" : Str))(h5:¬m=("parts" : Str))(h6:¬m=("levels" : Str)):(fl6 g).lookup m=none:=by
 unfold fl6;rw[Ay,X8 h1,Ay,X8 h2,Ay,X8 h3,Ay,X8 h4,Ay,X8 h5,Ay,X8 h6];rfl
theorem Pz(g:GA):(fl6 g).lookup ("kept" : Str)=none:=DL g A1 A1 A1 A1 A1 A1
theorem Dh(g:GA):(fl6 g).lookup ("linked" : Str)=none:=DL g A1 A1 A1 A1 A1 A1
theorem MT(g:GA):(fl6 g).lookup ("check_square" : Str)=none:=DL g A1 A1 A1 A1 A1 A1
theorem no_leaf(g:GA):(fl6 g).lookup ("leaf" : Str)=none:=DL g A1 A1 A1 A1 A1 A1
theorem Db(g:GA):(fl6 g).lookup ("level_of" : Str)=none:=DL g A1 A1 A1 A1 A1 A1
theorem QV(g:GA):(fl6 g).lookup ("solid" : Str)=none:=DL g A1 A1 A1 A1 A1 A1
theorem QW(g:GA):(fl6 g).lookup ("quarters" : Str)=none:=DL g A1 A1 A1 A1 A1 A1
theorem MR(g:GA):(fl6 g).lookup ("state_of" : Str)=none:=DL g A1 A1 A1 A1 A1 A1
def kOf(ps:List Int):List Key:=ps.map Sum.inl
theorem kOf_v(ps:List Int):(kOf ps).map kV=ps.map V.int:=by unfold kOf;rw[O5];rfl
theorem TY:∀{ps qs:List Int},kOf ps=kOf qs->ps=qs
 |[],[],_=>rfl
 |[],_::_,h=>by cases h
 |_::_,[],h=>by cases h
 |x::r,y::t,h=>by
  have h:Sum.inl x::kOf r=(Sum.inl y:Key)::kOf t:=h;injection h with h1 h2
  injection h1 with h1
  rw[h1,TY h2]
def Ir:Nat->Gv->List (List Key×V)
 |_,[]=>[]
 |n,q::r=>(kOf q.parts,.int (n:Int))::Ir (n+1) r
theorem Ro:∀(G:Gv)(n:Nat),(Ir n G).length=G.length
 |[],_=>rfl
 |q::r,n=>by show(Ir (n+1) r).length+1=r.length+1;rw[Ro r]
theorem OC(q:Sq):∀(G:Gv)(n:Nat),Ir n (G++[q])=Ir n G++[(kOf q.parts,.int ((n+G.length:Nat):Int))]
 |[],_=>rfl
 |p::r,n=>by
  show(kOf p.parts,V.int (n:Int))::Ir (n+1) (r++[q])=_;rw[OC q r (n+1)];show _=(kOf p.parts,V.int (n:Int))::(Ir (n+1) r++[(kOf q.parts,V.int ((n+(r.length+1):Nat):Int))]);rw[show n+1+r.length=n+(r.length+1) by lia]
theorem Qa(ps:List Int):∀(G:Gv)(n:Nat),(∃(i:Nat)(q:Sq),G[i]?=some q/\q.parts=ps/\Bv (Ir n G) (kOf ps)=some (.int ((n+i:Nat):Int)))\/(Bv (Ir n G) (kOf ps)=none/\∀q∈G,q.parts≠ps)
 |[],n=>.inr ⟨rfl,λq hq=>by simp at hq⟩
 |p::r,n=>by
  by_cases e:p.parts=ps
  ·exact .inl ⟨0,p,rfl,e,BC (by rw[e])⟩
  ·have ne:¬(kOf p.parts,V.int (n:Int)).1=kOf ps:=λz=>e (TY z);rcases Qa ps r (n+1)with ⟨i,q,h1,h2,h3⟩|⟨h1,h2⟩
   ·refine .inl ⟨i+1,q,h1,h2,?_⟩;show Bv ((kOf p.parts,V.int (n:Int))::Ir (n+1) r) (kOf ps)=_;rw[Bm ne,h3,show n+1+i=n+(i+1) by lia]
   ·refine .inr ⟨?_,λq hq=>?_⟩
    ·show Bv ((kOf p.parts,V.int (n:Int))::Ir (n+1) r) (kOf ps)=_;rw[Bm ne,h1]
    ·rcases C2.mp hq with rfl|hq
     ·exact e
     ·exact h2 q hq
def TupAt(H:Hp)(t:Addr)(q:Sq):Prop:=H t=some (.tup (q.parts.map V.int))
structure AL(a:Ad)(H:Hp)(g:GA)(G:Gv):Prop where
 hp:H g.p=some (.ins a.c_Grove g.dx (fl6 g))
 lv:H g.lv=some (.lst (G.map λq=>.int q.lev))
 pt:∃ts:List Addr,H g.pt=some (.lst (ts.map V.ref))/\Paired (TupAt H) ts G
 nm:H g.nm=some (.dT (Ir 0 G))
 ne:g.lv≠g.pt
def Fr(g:GA)(H H':Hp):Prop:=∀b o,H b=some o->b≠g.lv->b≠g.pt->b≠g.nm->H' b=some o
theorem Fr.refl(g:GA)(H:Hp):Fr g H H:=λ_ _ e _ _ _=>e
theorem Fr.trans{g:GA}{H1 H2 H3:Hp}(h:Fr g H1 H2)(h2:Fr g H2 H3):Fr g H1 H3:=λb o e n1 n2 n3=>h2 b o (h b o e n1 n2 n3) n1 n2 n3
theorem Az.fr{g:GA}{H1 H2:Hp}(h:Az H1 H2):Fr g H1 H2:=λb o e _ _ _=>h b o e
theorem PairedM.imp{α β:Type}{F G:α->β->Prop}(h:∀x y,F x y->G x y):∀{l:List α}{m:List β},Paired F l m->Paired G l m
 |_,_,.nil=>.nil
 |_,_,.cons r t=>.cons (h _ _ r) (PairedM.imp h t)
theorem PairedM.get{α β:Type}{F:α->β->Prop}:∀{l:List α}{m:List β}{i:Nat}{y:β},Paired F l m->m[i]?=some y->∃x,l[i]?=some x/\F x y
 |_,_,_,_,.nil,e=>by simp at e
 |_,_,0,_,.cons r _,e=>by simp at e;subst e;exact⟨_,rfl,r⟩
 |_,_,i+1,y,.cons _ t,e=>by
  obtain⟨x,h1,h2⟩:=PairedM.get (i:=i) (y:=y) t (by simpa using e);exact⟨x,by simpa using h1,h2⟩
theorem Ak{H:Hp}{p:Addr}{o:HO}(h:H p=none):Az H (upd H p o):=λb u e=>by
 rw[At (As e h)];exact e
theorem AL.same{a:Ad}{H H':Hp}{g:GA}{G:Gv}(s:Az H H')(h:AL a H g G):AL a H' g G:=by
 obtain⟨h1,h2,⟨ts,h3,h4⟩,h5,h6⟩:=h;exact⟨s _ _ h1,s _ _ h2,⟨ts,s _ _ h3,PairedM.imp (λt q z=>s _ _ z) h4⟩,s _ _ h5,h6⟩
theorem AL.put{a:Ad}{H:Hp}{g:GA}{G:Gv}{l:Addr}{xs:List V}{o:HO}(hl:H l=some (.lst xs))(n1:l≠g.lv)(n2:l≠g.pt)(h:AL a H g G):AL a (upd H l o) g G:=by
 obtain⟨h1,h2,⟨ts,h3,h4⟩,h5,h6⟩:=h;have other:∀{b v},H b=some v->v≠.lst xs->upd H l o b=some v:=λ{b v} e n=>by rw[At (AM e hl n)];exact e
 exact⟨other h1 A3,by rw[At (A0c n1)];exact h2,⟨ts,by rw[At (A0c n2)];exact h3,PairedM.imp (λt q z=>other z A3) h4⟩,other h5 A3,h6⟩
def Al(G:Gv)(x:Nat)(l:Int):Prop:=∃q,G[x]?=some q/\q.lev=l
structure GOk(G:Gv):Prop where
 leaf:∀s:Nat,s<8->G[s]?=some ⟨[(s:Int)],0⟩
 node:∀(i:Nat) q,G[i]?=some q->8<=i->∃x y z w:Nat,q.parts=[(x:Int),(y:Int),(z:Int),(w:Int)]/\(Al G x (q.lev-1)/\Al G y (q.lev-1)/\Al G z (q.lev-1)/\Al G w (q.lev-1))/\1<=q.lev/\q.lev<=48
 nd:(G.map Sq.parts).Nodup
theorem Al.lt{G:Gv}{x:Nat}{l:Int}(h:Al G x l):x<G.length:=by
 obtain⟨q,h,_⟩:=h;exact(B3.mp h).1
theorem Mp{G r:Gv}{x:Nat}{q:Sq}(h:G[x]?=some q):(G++r)[x]?=some q:=by
 rw[F7 (B3.mp h).1];exact h
theorem Al.app{G r:Gv}{x:Nat}{l:Int}(h:Al G x l):Al (G++r) x l:=by
 obtain⟨q,h,e⟩:=h;exact⟨q,Mp h,e⟩
theorem GOk.lev{G:Gv}(h:GOk G){i:Nat}{q:Sq}(e:G[i]?=some q):0<=q.lev/\q.lev<=48:=by
 by_cases h8:i<8
 ·rw[h.leaf i h8]at e;cases e;exact⟨P4 0,by show(0:Int)<=48;decide⟩
 ·obtain⟨x,y,z,w,_,_,h1,h2⟩:=h.node i q e A0;exact⟨by lia,h2⟩
theorem GOk.snoc{G:Gv}(h:GOk G){x y z w:Nat}{l:Int}(hx:Al G x l)(hy:Al G y l)(hz:Al G z l)(hw:Al G w l)(h47:l<=47)(new:∀q∈G,q.parts≠[(x:Int),(y:Int),(z:Int),(w:Int)]):GOk (G++[⟨[(x:Int),(y:Int),(z:Int),(w:Int)],l+1⟩]) where
 leaf:=λs hs=>Mp (h.leaf s hs)
 node:=λi q e hi=>by
  by_cases hl:i<G.length
  ·rw[F7 hl]at e;obtain⟨x,y,z,w,h1,⟨a1,a2,a3,a4⟩,h3⟩:=h.node i q e hi;exact⟨x,y,z,w,h1,⟨a1.app,a2.app,a3.app,a4.app⟩,h3⟩
  ·rw[F1 A0]at e;have:i-G.length=0:=by
    by_cases z:i-G.length=0
    ·exact z
    ·rw[N5 (by rw[D8];lia)]at e;cases e
   rw[this]at e;cases e;obtain⟨q0,e0,l0⟩:=hx;have:=(h.lev e0).1;have el:l+1-1=l:=by lia
   refine⟨x,y,z,w,rfl,?_,?_,?_⟩
   ·show Al _ x (l+1-1)/\Al _ y (l+1-1)/\Al _ z (l+1-1)/\Al _ w (l+1-1);rw[el];exact⟨Al.app ⟨q0,e0,l0⟩,hy.app,hz.app,hw.app⟩
   ·show 1<=l+1;lia
   ·show l+1<=48;lia
 nd:=by
  rw[C1,X1];refine⟨h.nd,by simp,λp hp p' hp'=>?_⟩;obtain⟨q,hq,rfl⟩:=D5.mp hp;rw[show p'=[(x:Int),(y:Int),(z:Int),(w:Int)] by simpa using hp'];exact new q hq
theorem GOk.one{G:Gv}(h:GOk G){i j:Nat}{p q:Sq}(hi:G[i]?=some p)(hj:G[j]?=some q)(e:p.parts=q.parts):i=j:=by
 have li:=(B3.mp hi).1;have lj:=(B3.mp hj).1;have h1:(G.map Sq.parts)[i]'(by rw[A9];exact li)=(G.map Sq.parts)[j]'(by rw[A9];exact lj):=by
  rw[W5,W5,(B3.mp hi).2,(B3.mp hj).2,e]
 exact(List.getElem_inj h.nd).mp h1
seal L2.PA L2.PE L2.PS L2.PSs L2.PT L2.PW
theorem LK{n:Nat}(h:n<=10000000):n<=sizeLine:=C6 h A4
theorem Bu{n:Nat}(h:n<10000000):n<sizeLine:=F4 h A4
theorem TW(K:PySem.W.Frag):kitOne K (.type "int") (.type "int")=some true/\kitOne K (.type "int") (.type "bool")=some false:=⟨by kernel_rfl,by kernel_rfl⟩
section
variable{P:Program}{w:World}{K:PySem.W.Frag}{mg:Str->Option Value}{base:Heap}{a:Ad}
inductive SpIW(vs:List V)(H:Hp)(Q:VK):Prop
 |mk (i:Int) (_:vs=[.int i]) (_:Q (.bl true) H):SpIW vs H Q
def VS:Sp:=λvs H Q _=>SpIW vs H Q
theorem ok_iw{f:Addr}{fd:FuncData}(F:Fun K "is_whole" "is_whole" Jj f fd)(T:Top K mg a):AC P w K mg base CX0 1 f fd Fa VS:=by
 refine F.ok QI (λvs H Q E h=>?_) (λcdv A outer s H vs Q E hr h=>?_)
 ·obtain⟨i,rfl,_⟩:=h;rfl
 ·obtain⟨i,rfl,k⟩:=h;exact⟨_,(Ae (An (FF (Aw Ba rfl T.b_isinstance K1 (Aa (pv 0) (Aa (EB (v:=.ty "int") rfl T.b_int A2f rfl) Ac))) (Jn (Wk (Aw Ba rfl T.b_isinstance K1 (Aa (pv 0) (Aa (EB (v:=.ty "bool") rfl T.b_bool PyProof.Rows.boot_bool rfl) Ac)))))))),(xq1 rfl ⟨_,_,_,.type "int",true,rfl,rfl,.of (.int i),(TW K).1,true,rfl,Bq (xq1 rfl ⟨_,_,_,.type "int",false,rfl,rfl,.of (.int i),(TW K).2,false,rfl,k⟩)⟩)⟩
inductive SpIS(vs:List V)(H:Hp)(Q:VK):Prop
 |mk (i:Int) (_:vs=[.int i]) (_:0<=i) (_:i<8) (_:Q (.bl true) H):SpIS vs H Q
def VT:Sp:=λvs H Q _=>SpIS vs H Q
theorem ok_is{f:Addr}{fd:FuncData}(F:Fun K "is_state" "is_state" Jk f fd)(T:Top K mg a)(aM:Cal P w K mg base CX0 1 "is_whole" Fa VS):AC P w K mg base CX0 2 f fd Fb VT:=by
 refine F.ok QJ (λvs H Q E h=>?_) (λcdv A outer s H vs Q E hr h=>?_)
 ·obtain⟨i,rfl,_⟩:=h;rfl
 ·obtain⟨i,rfl,h0,h1,k⟩:=h;refine⟨_,(Ae (An (FF (Aq aM (rm hr) rfl Ao (Aa (pv 0) Ac)) (Jn (Wq JE Ja Af (pv 0) (BO rfl T.k_STATES)))))),?_⟩
  try dsimp only[cxK]
  refine xq1 rfl ⟨i,rfl,true,rfl,Bq (xwb rfl rfl rfl (xq1 rfl ?_))⟩;rw[X7 h0];refine Bq (xq2 rfl rfl ?_);show Q (.bl (decide (i<8))) H;rw[X7 h1];exact k
inductive YO(a:Ad)(vs:List V)(H:Hp)(Q:VK):Prop
 |mk (g:GA) (G:Gv) (t:Addr) (ps:List Int) (l:Int) (_:vs=[.ref g.p,.ref t,.int l]) (_:AL a H g G) (_:H t=some (.tup (ps.map V.int))) (_:(∀q∈G,q.parts≠ps)) (_:G.length<9000000) (_:∀H',Fr g H H'->AL a H' g (G++[⟨ps,l⟩])->Q (.int (G.length:Int)) H'):YO a vs H Q
def Pj(a:Ad):Sp:=λvs H Q _=>YO a vs H Q
theorem ok_kept{f:Addr}{fd:FuncData}(F:Fun K "kept" "Grove.kept" Gp f fd)(T:Top K mg a):AC P w K mg base CX0 1 f fd EC (Pj a):=by
 refine F.ok IW (λvs H Q E h=>?_) (λcdv A outer s H vs Q E hr h=>?_)
 ·obtain⟨g,G,t,ps,l,rfl,_⟩:=h;rfl
 ·obtain⟨g,G,t,ps,l,rfl,hg,ht,new,few,k⟩:=h;obtain⟨h1,h2,⟨ts,h3,h4⟩,h5,h6⟩:=hg;have lt:ts.length=G.length:=A0b h4;refine⟨_,(Ab (Aj (i:=3) IW.nd rfl (Or.inl rfl) (Aw Dx rfl T.b_len A3b (Aa (AT (pv 0) rfl) Ac))) (Ab (IC (Iu hr) (AT (pv 0) rfl) (pv 1) (pv 3) rfl) (Ab (Be (BV K7 K9 A0a Bh (AT (pv 0) rfl) (Aa (pv 2) Ac))) (Ab (Be (BV K7 K9 A0a Bh (AT (pv 0) rfl) (Aa (pv 1) Ac))) (Ae (An (pv 3))))))),?_⟩
  try dsimp only[cxK]
  refine xwf rfl rfl h1 T.cl_Grove T.na_Grove_levels (Fh g) ⟨g.lv,(xq1 rfl ⟨.inl (SqL.of h2),?_⟩)⟩;rw[A9];have ne1:g.p≠g.nm:=AM h1 h5 A3;have ne2:g.lv≠g.nm:=AM h2 h5 A3;have ne3:g.pt≠g.nm:=AM h3 h5 A3;have ne4:g.p≠g.lv:=AM h1 h2 A3;have ne5:g.p≠g.pt:=AM h1 h3 A3;have vn:Bv (Ir 0 G) (kOf ps)=none:=by
   rcases Qa ps G 0 with ⟨i,q,e1,e2,_⟩|⟨e,_⟩
   ·exact absurd e2 (new q (D9 e1))
   ·exact e
  refine xw2 rfl rfl (xq5 h1 T.cl_Grove T.na_Grove_numbers (Yp g) (xq1 rfl ⟨g.nm,(xq1 rfl ⟨Md.t (k:=kOf ps) h5 (by rw[kOf_v];exact ht) (by rw[Ro];exact Bu A0),?_⟩)⟩));rw[JC _ vn];have e5:Ir 0 G++[(kOf ps,V.int (G.length:Int))]=Ir 0 (G++[⟨ps,l⟩]):=by rw[OC,O4]
  rw[e5];generalize hH1:upd H g.nm (.dT (Ir 0 (G++[⟨ps,l⟩])))=H1;have k1:∀b o,H b=some o->b≠g.nm->H1 b=some o:=λb o e n=>by rw[<-hH1,At n];exact e
  have n1:H1 g.nm=some (.dT (Ir 0 (G++[⟨ps,l⟩]))):=by rw[<-hH1];exact Ag
  refine xwf rfl rfl (k1 _ _ h1 ne1) T.cl_Grove T.na_Grove_levels (Fh g) ⟨.inl ⟨rfl,_,SqL.of (k1 _ _ h2 ne2)⟩,(xq1 rfl ⟨g.lv,(xq2 rfl rfl ⟨k1 _ _ h2 ne2,by rw[A9];exact Bu A0,?_⟩)⟩)⟩;generalize hH2:upd H1 g.lv (.lst ((G.map λq=>V.int q.lev)++[.int l]))=H2;have k2:∀b o,H1 b=some o->b≠g.lv->H2 b=some o:=λb o e n=>by rw[<-hH2,At n];exact e
  have n2:H2 g.lv=some (.lst ((G++[(⟨ps,l⟩:Sq)]).map λq=>V.int q.lev)):=by rw[<-hH2,Ag,C1];rfl
  have h3':=k2 _ _ (k1 _ _ h3 ne3) (A0c h6);refine xwf rfl rfl (k2 _ _ (k1 _ _ h1 ne1) ne4) T.cl_Grove T.na_Grove_parts (Et g) ⟨.inl ⟨rfl,_,SqL.of h3'⟩,(xq1 rfl ⟨g.pt,(xq2 rfl rfl ⟨h3',by rw[A9,lt];exact Bu A0,?_⟩)⟩)⟩;generalize hH3:upd H2 g.pt (.lst (ts.map V.ref++[.ref t]))=H3;have k3:∀b o,H2 b=some o->b≠g.pt->H3 b=some o:=λb o e n=>by rw[<-hH3,At n];exact e
  have n3:H3 g.pt=some (.lst ((ts++[t]).map V.ref)):=by rw[<-hH3,Ag,C1];rfl
  have fr:Fr g H H3:=λb o e m1 m2 m3=>k3 _ _ (k2 _ _ (k1 _ _ e m3) m1) m2;have tp:∀(c:Addr)(xs:List V),H c=some (.tup xs)->H3 c=some (.tup xs):=λc xs e=>fr _ _ e (AM e h2 A3) (AM e h3 A3) (AM e h5 A3);refine xq1 rfl (k H3 fr ⟨fr _ _ h1 ne4 ne5 ne1,k3 _ _ n2 h6,⟨ts++[t],n3,A2h (PairedM.imp (λc q z=>tp c _ z) h4) (tp t _ ht)⟩,k3 _ _ (k2 _ _ n1 (A0c ne2)) (A0c ne3),h6⟩)
structure AU(G G':Gv)(n:Nat):Prop where
 ok:GOk G'
 pre:∃r,G'=G++r
 few:G'.length<=G.length+n
theorem AU.refl{G:Gv}(h:GOk G):AU G G 0:=⟨h,⟨[],by simp⟩,B1 _⟩
theorem AU.trans{G G' G'':Gv}{n m:Nat}(h:AU G G' n)(h2:AU G' G'' m):AU G G'' (n+m):=by
 obtain⟨r,e⟩:=h.pre;obtain⟨t,e2⟩:=h2.pre;have f1:=h.few;have f2:=h2.few;exact⟨h2.ok,⟨r++t,by rw[e2,e,M3]⟩,by lia⟩
theorem AU.get{G G':Gv}{n x:Nat}{q:Sq}(h:AU G G' n)(e:G[x]?=some q):G'[x]?=some q:=by
 obtain⟨r,e2⟩:=h.pre;rw[e2];exact Mp e
theorem AU.lev{G G':Gv}{n x:Nat}{l:Int}(h:AU G G' n)(e:Al G x l):Al G' x l:=by
 obtain⟨q,e,z⟩:=e;exact⟨q,h.get e,z⟩
inductive YL(a:Ad)(vs:List V)(H:Hp)(Q:VK):Prop
 |mk (g:GA) (G:Gv) (t:Addr) (x y z w:Nat) (l:Int) (_:vs=[.ref g.p,.ref t]) (_:AL a H g G) (_:GOk G) (_:H t=some (.tup [.int x,.int y,.int z,.int w])) (_:(Al G x l/\Al G y l/\Al G z l/\Al G w l)) (_:l<=47) (_:G.length<9000000) (_:∀(n:Nat)(G':Gv)(H':Hp),Fr g H H'->AL a H' g G'->AU G G' 1->G'[n]?=some ⟨[(x:Int),(y:Int),(z:Int),(w:Int)],l+1⟩->Q (.int n) H'):YL a vs H Q
def Jg(a:Ad):Sp:=λvs H Q _=>YL a vs H Q
theorem ok_link{f:Addr}{fd:FuncData}(F:Fun K "linked" "Grove.linked" EW f fd)(T:Top K mg a)(aL:Cw P w K mg base CX0 1 a.c_Grove "kept" EC (Pj a)):AC P w K mg base CX0 2 f fd BF (Jg a):=by
 refine F.ok GQ (λvs H Q E h=>?_) (λcdv A outer s H vs Q E hr h=>?_)
 ·obtain⟨g,G,t,x,y,z,w,l,rfl,_⟩:=h;rfl
 ·obtain⟨g,G,t,x,y,z,w,l,rfl,hg,ok,ht,⟨hx,hy,hz,hw⟩,h47,few,k⟩:=h;have hg0:=hg;obtain⟨h1,h2,⟨ts,h3,h4⟩,h5,h6⟩:=hg;refine⟨_,(Ab (Aj (i:=2) GQ.nd rfl (Or.inl rfl) (MN (Iu hr) (AT (pv 0) rfl) (pv 1) ⟨rfl,rfl,rfl,rfl⟩)) (Ab (AB (Ar MP (pv 2) Ig (Av _)) (Ae (An (AE (pv 0) aL (rm hr) Ao (Aa (pv 1) (BH AV (Am AI (AT (pv 0) rfl) (Am Ax (pv 1) Af (λ_ _=>rfl)) (λ_ _=>rfl)) Af Ac))))) Au) (Ae (An (pv 2))))),?_⟩
  try dsimp only[cxK]
  refine xwf rfl rfl h1 T.cl_Grove T.na_Grove_numbers (Yp g) ⟨g.nm,rfl,.inr ⟨_,.inl h5⟩,(xq1 rfl ⟨_,GX.t (k:=kOf [(x:Int),(y:Int),(z:Int),(w:Int)]) h5 (by rw[kOf_v];exact ht),?_⟩)⟩;rcases Qa [(x:Int),(y:Int),(z:Int),(w:Int)] G 0 with ⟨i,q,e1,e2,e3⟩|⟨e,new⟩
  ·rw[e3];refine xq1 rfl ⟨rfl,(xq1 rfl (AS (xq1 rfl ?_)))⟩;rw[O4];refine k i G H (Fr.refl g H) hg0 ⟨ok,⟨[],by simp⟩,by lia⟩ ?_;have h8:8<=i:=by
    refine R6 λz'=>?_;rw[ok.leaf i z']at e1;cases e1;cases e2
   obtain⟨x',y',z',w',p1,⟨lx,_⟩,_⟩:=ok.node i q e1 h8;have exx:x'=x:=by
    rw[p1]at e2;injection e2 with e2 _
    exact K8 e2
   rw[exx]at lx;obtain⟨qa,a1,a2⟩:=lx;obtain⟨qb,b1,b2⟩:=hx;rw[a1]at b1;cases b1;have el:q.lev=l+1:=by lia
   rw[e1];cases q with
   |mk pp ll=>cases e2;cases el;rfl
  ·rw[e];refine xq1 rfl ⟨rfl,(xq1 rfl (Bq ?_))⟩;obtain⟨q,e1,e2⟩:=id hx;refine xwn rfl rfl h1 (Pz g) rfl (xwf rfl rfl h1 T.cl_Grove T.na_Grove_levels (Fh g) (xwi rfl rfl rfl (SqT.of ht) (Ah (j:=0) rfl) (xq4 rfl rfl (SqL.of h2) (Ah (by rw[B7,e1];rfl)) (xq2 rfl rfl ?_))));refine⟨g,G,t,[(x:Int),(y:Int),(z:Int),(w:Int)],l+1,by rw[<-e2];rfl,hg0,ht,new,few,λH' fr hg'=>?_⟩;refine k G.length _ H' fr hg' ⟨ok.snoc hx hy hz hw h47 new,⟨_,rfl⟩,by rw[B0];exact B1 _⟩ ?_;rw[F1 (B1 _),V1];rfl
inductive SpChk(a:Ad)(vs:List V)(H:Hp)(Q:VK):Prop
 |mk (g:GA) (G:Gv) (i:Nat) (_:vs=[.ref g.p,.int i]) (_:AL a H g G) (_:i<G.length) (_:Q .non H):SpChk a vs H Q
def QD(a:Ad):Sp:=λvs H Q _=>SpChk a vs H Q
theorem ok_chk{f:Addr}{fd:FuncData}(F:Fun K "check_square" "Grove.check_square" Cu f fd)(T:Top K mg a)(aM:Cal P w K mg base CX0 1 "is_whole" Fa VS):AC P w K mg base CX0 2 f fd Br (QD a):=by
 refine F.ok GT (λvs H Q E h=>?_) (λcdv A outer s H vs Q E hr h=>?_)
 ·obtain⟨g,G,i,rfl,_⟩:=h;rfl
 ·obtain⟨g,G,i,rfl,hg,hi,k⟩:=h;refine⟨_,(Ae (AB (PW.pt (EX (Cj (BK (Aq aM (rm hr) rfl Ao (Aa (pv 1) Ac)))) (DH (Cj (MJ JE Ja Af (pv 1) (Aw Dx rfl T.b_len A3b (Aa (AT (pv 0) rfl) Ac))))))) (Ae AZ) Au)),?_⟩
  try dsimp only[cxK]
  refine⟨_,rfl,_,rfl,true,rfl,AS ⟨_,rfl,_,_,rfl,rfl,_,rfl,?_⟩⟩;rw[X7 (by lia:(0:Int)<=(i:Int))];refine Bq (xwf rfl rfl hg.hp T.cl_Grove T.na_Grove_levels (Fh g) ⟨g.lv,(xq1 rfl ⟨.inl (SqL.of hg.lv),(xq2 rfl rfl (xq1 rfl ?_))⟩)⟩);rw[A9,X7 (by lia:(i:Int)<(G.length:Int))];exact AS k
inductive YM(a:Ad)(vs:List V)(H:Hp)(Q:VK):Prop
 |mk (p:Addr) (i:Int) (_:vs=[.ref p,.int i]) (_:0<=i) (_:i<8) (_:Q (.int i) H):YM a vs H Q
def Sd(a:Ad):Sp:=λvs H Q _=>YM a vs H Q
theorem ok_leaf{f:Addr}{fd:FuncData}(F:Fun K "leaf" "Grove.leaf" Go f fd)(T:Top K mg a)(aJ:Cal P w K mg base CX0 2 "is_state" Fb VT):AC P w K mg base CX0 3 f fd GG (Sd a):=by
 refine F.ok NN (λvs H Q E h=>?_) (λcdv A outer s H vs Q E hr h=>?_)
 ·obtain⟨g,i,rfl,_⟩:=h;rfl
 ·obtain⟨g,i,rfl,h0,h1,k⟩:=h;exact⟨_,(Ab (AB (Cj (BK (Aq aJ (rm hr) rfl Ao (Aa (pv 1) Ac)))) (Ae AZ) Au) (Ae (An (pv 1)))),(xq1 rfl ⟨i,rfl,h0,h1,true,rfl,AS (xq1 rfl k)⟩)⟩
inductive SpLev(a:Ad)(vs:List V)(H:Hp)(Q:VK):Prop
 |mk (g:GA) (G:Gv) (i:Nat) (q:Sq) (_:vs=[.ref g.p,.int i]) (_:AL a H g G) (_:G[i]?=some q) (_:Q (.int q.lev) H):SpLev a vs H Q
def IT(a:Ad):Sp:=λvs H Q _=>SpLev a vs H Q
theorem ok_lev{f:Addr}{fd:FuncData}(F:Fun K "level_of" "Grove.level_of" DG f fd)(T:Top K mg a)(a8:Cw P w K mg base CX0 2 a.c_Grove "check_square" Br (QD a)):AC P w K mg base CX0 3 f fd AR (IT a):=by
 refine F.ok Jy (λvs H Q E h=>?_) (λcdv A outer s H vs Q E hr h=>?_)
 ·obtain⟨g,G,i,q,rfl,_⟩:=h;rfl
 ·obtain⟨g,G,i,q,rfl,hg,hi,k⟩:=h;refine⟨_,(Ab (Be (AE (pv 0) a8 (rm hr) Ao (Aa (pv 1) Ac))) (Ae (An (Am AI (AT (pv 0) rfl) (pv 1) (λ_ _=>rfl))))),?_⟩
  try dsimp only[cxK]
  refine xwn rfl rfl hg.hp (MT g) rfl ⟨g,G,i,rfl,hg,(B3.mp hi).1,?_⟩;exact xwf rfl rfl hg.hp T.cl_Grove T.na_Grove_levels (Fh g) (xwi rfl rfl rfl (SqL.of hg.lv) (Ah (by rw[B7,hi];rfl)) k)
inductive SpQua(a:Ad)(vs:List V)(H:Hp)(Q:VK):Prop
 |mk (g:GA) (G:Gv) (i:Nat) (q:Sq) (_:vs=[.ref g.p,.int i]) (_:AL a H g G) (_:G[i]?=some q) (_:q.lev≠0) (_:∀t,H t=some (.tup (q.parts.map V.int))->Q (.ref t) H):SpQua a vs H Q
def VP(a:Ad):Sp:=λvs H Q _=>SpQua a vs H Q
theorem ok_qua{f:Addr}{fd:FuncData}(F:Fun K "quarters" "Grove.quarters" DF f fd)(T:Top K mg a)(a6:Cw P w K mg base CX0 3 a.c_Grove "level_of" AR (IT a)):AC P w K mg base CX0 4 f fd DJ (VP a):=by
 refine F.ok Jx (λvs H Q E h=>?_) (λcdv A outer s H vs Q E hr h=>?_)
 ·obtain⟨g,G,i,q,rfl,_⟩:=h;rfl
 ·obtain⟨g,G,i,q,rfl,hg,hi,h0,k⟩:=h;refine⟨_,(Ab (AB (Ar BS (AE (pv 0) a6 (rm hr) Ao (Aa (pv 1) Ac)) Af (Av _)) (Ae AZ) Au) (Ae (An (Am AI (AT (pv 0) rfl) (pv 1) (λ_ _=>rfl))))),?_⟩
  try dsimp only[cxK]
  refine xwn rfl rfl hg.hp (Db g) rfl ⟨g,G,i,q,rfl,hg,hi,rfl,(xq1 rfl ?_)⟩;rw[X6 (by intro z;injection z with z;exact h0 z)];obtain⟨ts,h3,h4⟩:=hg.pt;obtain⟨t,et,ht⟩:=PairedM.get h4 hi;exact AS (xwf rfl rfl hg.hp T.cl_Grove T.na_Grove_parts (Et g) (xwi rfl rfl rfl (SqL.of h3) (Ah (by rw[B7,et];rfl)) (k t ht)))
inductive SpSta(a:Ad)(vs:List V)(H:Hp)(Q:VK):Prop
 |mk (g:GA) (G:Gv) (i:Nat) (q:Sq) (_:vs=[.ref g.p,.int i]) (_:AL a H g G) (_:G[i]?=some q) (_:q.lev=0) (_:Q (.int i) H):SpSta a vs H Q
def Ts(a:Ad):Sp:=λvs H Q _=>SpSta a vs H Q
theorem ok_sta{f:Addr}{fd:FuncData}(F:Fun K "state_of" "Grove.state_of" DE f fd)(T:Top K mg a)(a6:Cw P w K mg base CX0 3 a.c_Grove "level_of" AR (IT a)):AC P w K mg base CX0 4 f fd CF (Ts a):=by
 refine F.ok Jw (λvs H Q E h=>?_) (λcdv A outer s H vs Q E hr h=>?_)
 ·obtain⟨g,G,i,q,rfl,_⟩:=h;rfl
 ·obtain⟨g,G,i,q,rfl,hg,hi,h0,k⟩:=h;refine⟨_,(Ab (AB (Ar JD (AE (pv 0) a6 (rm hr) Ao (Aa (pv 1) Ac)) Af (Av _)) (Ae AZ) Au) (Ae (An (pv 1)))),?_⟩
  try dsimp only[cxK]
  refine xwn rfl rfl hg.hp (Db g) rfl ⟨g,G,i,q,rfl,hg,hi,rfl,(xq1 rfl ?_)⟩;rw[h0];exact Ua rfl (xq1 rfl k)
end
def Sol(G:Gv)(s:Nat):Nat->Nat->Prop
 |0,n=>n=s
 |l+1,n=>∃m:Nat,Sol G s l m/\G[n]?=some ⟨[(m:Int),(m:Int),(m:Int),(m:Int)],(l:Int)+1⟩
theorem Sol.lev{G:Gv}(h:GOk G){s:Nat}(hs:s<8):∀{l n:Nat},Sol G s l n->Al G n l
 |0,n,e=>by
  have e:n=s:=e;subst e;exact⟨_,h.leaf n hs,rfl⟩
 |l+1,n,e=>by
  obtain⟨m,_,e⟩:=e;exact⟨_,e,rfl⟩
theorem Sol.goes{G G':Gv}{k:Nat}(h:AU G G' k){s:Nat}:∀{l n:Nat},Sol G s l n->Sol G' s l n
 |0,n,e=>e
 |l+1,n,e=>by
  obtain⟨m,e1,e2⟩:=e;exact⟨m,Sol.goes h e1,h.get e2⟩
section
variable{P:Program}{w:World}{K:PySem.W.Frag}{mg:Str->Option Value}{base:Heap}{a:Ad}
inductive Um(a:Ad)(vs:List V)(H:Hp)(Q:VK):Prop
 |mk (g:GA) (G:Gv) (l s:Nat) (_:vs=[.ref g.p,.int l,.int s]) (_:AL a H g G) (_:GOk G) (_:l<=48) (_:s<8) (_:G.length<8000000) (_:∀(n:Nat)(G':Gv)(H':Hp),Fr g H H'->AL a H' g G'->AU G G' l->Sol G' s l n->Q (.int n) H'):Um a vs H Q
def Jt(a:Ad):Sp:=λvs H Q _=>Um a vs H Q
theorem Wy{f:Addr}{fd:FuncData}(F:Fun K "solid" "Grove.solid" FD f fd)(T:Top K mg a)(aM:Cal P w K mg base CX0 1 "is_whole" Fa VS)(bL:Cw P w K mg base CX0 3 a.c_Grove "leaf" GG (Sd a))(a7:Cw P w K mg base CX0 2 a.c_Grove "linked" BF (Jg a)):AC P w K mg base CX0 4 f fd CN (Jt a):=by
 refine F.ok Dp (λvs H Q E h=>?_) (λcdv A outer s H vs Q E hr h=>?_)
 ·obtain⟨g,G,l,s,rfl,_⟩:=h;rfl
 ·obtain⟨g,G,l,st,rfl,hg,ok,h48,h8,few,k⟩:=h;refine⟨_,(Ab (AB (PW.pt (EX (Cj (BK (Aq aM (rm hr) rfl Ao (Aa (pv 1) Ac)))) (DH (Cj (MJ JE JE Af (pv 1) (BO rfl T.k_TOP_LEVEL)))))) (Ae AZ) Au) (Ab (Aj (i:=3) Dp.nd rfl (Or.inl rfl) (AE (pv 0) bL (rm hr) Ao (Aa (pv 2) Ac))) (Ab (Cv A0d rfl (IF rfl T.b_range (Aa (pv 1) Ac)) (AD (i:=4) Dp.nd rfl (Or.inl rfl)) (Ae (Aj (i:=3) Dp.nd rfl (Or.inl rfl) (AE (pv 0) a7 (rm hr) Ao (BE (Aa (pv 3) (Aa (pv 3) (Aa (pv 3) (Aa (pv 3) Ac)))) Ac))))) (Ae (An (pv 3)))))),?_⟩
  try dsimp only[cxK]
  refine⟨_,rfl,_,rfl,true,rfl,AS ⟨_,rfl,_,_,rfl,rfl,_,rfl,?_⟩⟩;rw[X7 (by lia:(0:Int)<=(l:Int))];refine Bq (xq2 rfl rfl (xq1 rfl ?_));rw[X7 (by lia:(l:Int)<=(48:Int))];refine AS (xwn rfl rfl hg.hp (no_leaf g) rfl ⟨g.p,(st:Int),rfl,by lia,by lia,?_⟩);refine xw2 rfl rfl ⟨by lia,by lia,?_⟩;rw[L8];refine FW (n:=l) (λi σ H2=>∃(G':Gv)(m:Nat)(u4:Option V),σ=[some (.ref g.p),some (.int l),some (.int st),some (.int m),u4]/\Fr g H H2/\AL a H2 g G'/\AU G G' i/\Sol G' st i m) ⟨G,st,none,rfl,Fr.refl g H,hg,AU.refl ok,rfl⟩ ?_ ?_
  ·rintro i σ H2 hi ⟨G',m,u4,rfl,fr,hg2,go,so⟩;have lf:=go.few;have lm:=Sol.lev go.ok h8 so;refine xwn rfl rfl hg2.hp (Dh g) rfl (xw3 rfl rfl rfl ⟨(by show 4<=sizeLine;decide),λt ht=>?_⟩);have s3:=Ak (o:=.tup [.int m,.int m,.int m,.int m]) ht;refine⟨g,G',t,m,m,m,m,(i:Int),rfl,hg2.same s3,go.ok,Ag,⟨lm,lm,lm,lm⟩,by lia,by lia,λn G'' H' fr' hg' go' e=>?_⟩;exact⟨G'',n,(xq1 rfl ⟨(fr.trans (Az.fr s3)).trans fr',hg',go.trans go',m,Sol.goes go' so,e⟩)⟩
  ·rintro σ H2 ⟨G',m,u4,rfl,fr,hg2,go,so⟩;exact xq1 rfl (k m G' H2 fr hg2 go so)
end
end J
namespace J
open PySem L2
def bareN:Nat->Nat
 |0=>0
 |j+1=>8+j
def Dj(n:Nat):Gv:=(List.range n).map λ(s:Nat)=>(⟨[(s:Int)],0⟩:Sq)
def Fj(n:Nat):Gv:=(List.range n).map λ(j:Nat)=>(⟨[(bareN j:Int),(bareN j:Int),(bareN j:Int),(bareN j:Int)],(j:Int)+1⟩:Sq)
def G0:Gv:=Dj 8++Fj 48
theorem SI(n:Nat):Dj (n+1)=Dj n++[⟨[(n:Int)],0⟩]:=by unfold Dj;rw[N3,C1];rfl
theorem Nz(n:Nat):Fj (n+1)=Fj n++[⟨[(bareN n:Int),(bareN n:Int),(bareN n:Int),(bareN n:Int)],(n:Int)+1⟩]:=by unfold Fj;rw[N3,C1];rfl
theorem EI(n:Nat):(Dj n).length=n:=by unfold Dj;rw[A9,O1]
theorem OX(n:Nat):(Fj n).length=n:=by unfold Fj;rw[A9,O1]
theorem Vu{i j:Nat}(h:bareN i=bareN j):i=j:=by
 cases i<;>cases j
 ·rfl
 ·have:0=8+_:=h;lia
 ·have:8+_=0:=h;lia
 ·have:8+_=8+_:=h;lia
theorem Va(n:Nat):∀q∈Dj n,q.parts≠[(n:Int)]:=λq hq z=>by
 obtain⟨s,hs,rfl⟩:=D5.mp hq;have:=M0.mp hs;injection z with z _
 have:s=n:=K8 z;lia
theorem OW(n:Nat):∀q∈Dj 8++Fj n,q.parts≠[(bareN n:Int),(bareN n:Int),(bareN n:Int),(bareN n:Int)]:=λq hq z=>by
 rcases C7.mp hq with hq|hq
 ·obtain⟨s,hs,rfl⟩:=D5.mp hq;cases z
 ·obtain⟨s,hs,rfl⟩:=D5.mp hq;have:=M0.mp hs;injection z with z _
  have:=Vu (K8 z);lia
theorem Qi:G0.length=56:=by unfold G0;rw[B0,EI,OX]
theorem Qk(j:Nat)(h:j<48):G0[8+j]?=some ⟨[(bareN j:Int),(bareN j:Int),(bareN j:Int),(bareN j:Int)],(j:Int)+1⟩:=by
 unfold G0;rw[F1 (by rw[EI];lia),EI,show 8+j-8=j by lia];unfold Fj;rw[B7,P7 h];rfl
theorem Qj(s:Nat)(h:s<8):G0[s]?=some ⟨[(s:Int)],0⟩:=by
 unfold G0;rw[F7 (by rw[EI];exact h)];unfold Dj;rw[B7,P7 h];rfl
theorem Yo(j:Nat)(h:j<=48):Al G0 (bareN j) (j:Int):=by
 cases j with
 |zero=>exact⟨_,Qj 0 A4,rfl⟩
 |succ j=>exact⟨_,Qk j A0,rfl⟩
theorem g0_nd:∀n,((Dj 8++Fj n).map Sq.parts).Nodup
 |0=>by decide
 |n+1=>by
  rw[Nz,<-M3,C1,X1];refine⟨g0_nd n,by simp,λp hp p' hp'=>?_⟩;obtain⟨q,hq,rfl⟩:=D5.mp hp;rw[show p'=[(bareN n:Int),(bareN n:Int),(bareN n:Int),(bareN n:Int)] by simpa using hp'];exact OW n q hq
theorem g0_ok:GOk G0 where
 leaf:=Qj
 node:=λi q e h8=>by
  have hi:i<56:=by rw[<-Qi];exact(B3.mp e).1
  obtain⟨j,rfl⟩:∃j,i=8+j:=⟨i-8,by lia⟩
  rw[Qk j A0]at e;cases e;have:=Yo j A0;refine⟨bareN j,bareN j,bareN j,bareN j,rfl,?_,?_,?_⟩
  ·show Al G0 _ ((j:Int)+1-1)/\Al G0 _ ((j:Int)+1-1)/\Al G0 _ ((j:Int)+1-1)/\Al G0 _ ((j:Int)+1-1);rw[show(j:Int)+1-1=(j:Int) by lia];exact⟨this,this,this,this⟩
  ·show 1<=(j:Int)+1;lia
  ·show(j:Int)+1<=48;lia
 nd:=g0_nd 48
def amK(n:Nat):List (Key×V):=(List.range n).map λ(s:Nat)=>(Sum.inl (s:Int),V.int (if(1:Int)<(s:Int)then 1 else(s:Int)))
theorem RK(n:Nat):amK (n+1)=amK n++[(Sum.inl (n:Int),V.int (if(1:Int)<(n:Int)then 1 else(n:Int)))]:=by unfold amK;rw[N3,C1];rfl
theorem amK_len(n:Nat):(amK n).length=n:=by unfold amK;rw[A9,O1]
theorem Ti{κ:Type}[DecidableEq κ]{k:κ}:∀{l m:List (κ×V)},Bv l k=none->Bv (l++m) k=Bv m k
 |[],_,_=>rfl
 |p::r,m,h=>by
  by_cases e:p.1=k
  ·rw[BC e]at h;cases h
  ·rw[Bm e]at h;show Bv (p::(r++m)) k=_;rw[Bm e];exact Ti h
theorem RL(n:Nat):∀m,n<=m->Bv (amK n) (Sum.inl (m:Int))=none:=by
 induction n with
 |zero=>intro m _;rfl
 |succ n ih =>
  intro m hm;rw[RK,Ti (ih m A0),Bm (by intro z;injection z with z;have:=K8 z;lia)];rfl
def Dk(n:Nat):List Int:=(List.range (n+1)).map λj=>((bareN j:Nat):Int)
theorem NB(n:Nat):Dk (n+1)=Dk n++[((bareN (n+1):Nat):Int)]:=by unfold Dk;rw[N3,C1];rfl
theorem SZ(n:Nat):(Dk n).getLast?=some ((bareN n:Nat):Int):=by
 cases n with
 |zero=>rfl
 |succ n=>rw[NB,List.getLast?_append];rfl
theorem YF{xs:List V}{x:V}(h:xs.getLast?=some x):atI xs (-1)=some x:=by
 obtain⟨ys,rfl⟩:=List.getLast?_eq_some_iff.mp h;unfold atI ixN;rw[X8 A4,X9 (by rw[B0,D8];lia)];show(ys++[x])[((-1:Int)+((ys++[x]).length:Nat)).toNat]?=some x;rw[B0,D8,show((-1:Int)+((ys.length+1:Nat):Int)).toNat=ys.length by lia,F1 (B1 _),V1];rfl
seal L2.PA L2.PE L2.PS L2.PSs L2.PT L2.PW
structure RO(a:Ad)(H H':Hp)(g:GA)(G:Gv)(B:List Int)(am:List (Key×V)):Prop where
 kp:∀b o,H b=some o->b≠g.p->H' b=some o
 at':AL a H' g G
 br:H' g.br=some (.lst (B.map V.int))
 am:H' g.am=some (.dK am)
 bx:H' g.bx=some (.dK [])
 fresh:H g.lv=none/\H g.pt=none/\H g.nm=none/\H g.br=none/\H g.am=none/\H g.bx=none
 n1:g.br≠g.lv
 n2:g.br≠g.pt
 n3:g.am≠g.bx
section
variable{P:Program}{w:World}{K:PySem.W.Frag}{mg:Str->Option Value}{base:Heap}{a:Ad}
inductive Us(a:Ad)(vs:List V)(H:Hp)(Q:VK):Prop
 |mk (p dx:Addr) (_:vs=[.ref p]) (_:H p=some (.ins a.c_Grove dx [])) (_:∀(g:GA)(H':Hp),g.p=p->RO a H H' g G0 (Dk 48) (amK 8)->Q .non H'):Us a vs H Q
def Pk(a:Ad):Sp:=λvs H Q _=>Us a vs H Q
theorem WE{f:Addr}{fd:FuncData}(F:Fun K "__init__" "Grove.__init__" Gq f fd)(T:Top K mg a)(aL:Cw P w K mg base CX0 1 a.c_Grove "kept" EC (Pj a)):AC P w K mg base CX0 2 f fd GH (Pk a):=by
 refine F.ok DQ (λvs H Q E h=>?_) (λcdv A outer s H vs Q E hr h=>?_)
 ·obtain⟨p,dx,rfl,_⟩:=h;rfl
 ·obtain⟨p,dx,rfl,hp,k⟩:=h;refine⟨_,(Ab (Le (pv 0) (BP Ac) rfl) (Ab (Le (pv 0) (BP Ac) rfl) (Ab (Le (pv 0) Wo rfl) (Ab (Le (pv 0) (BP (AX Ac)) rfl) (Ab (Le (pv 0) MM rfl) (Ab (Le (pv 0) MM rfl) (Ab (Cv A0d rfl (IF rfl T.b_range (Aa (BO rfl T.k_STATES) Ac)) (AD (i:=1) DQ.nd rfl (Or.inl rfl)) (Ab (Be (AE (pv 0) aL (rm hr) Ao (BE (Aa (pv 1) Ac) (AX Ac)))) (Ae (IC (Iu hr) (AT (pv 0) rfl) (pv 1) (Aw (Ga rfl) rfl T.b_min A1b (Aa (pv 1) (AX Ac))) rfl)))) (Ae (Cv A0d rfl (UH rfl T.b_range (AX (BH AV (BO rfl T.k_TOP_LEVEL) Af Ac))) (AD (i:=2) DQ.nd rfl (Or.inl rfl)) (Ab (Aj (i:=3) DQ.nd rfl (Or.inl rfl) (Am AI (AT (pv 0) rfl) (FV DB Af) (λ_ _=>rfl))) (Ae (Be (BV K7 K9 A0a Bh (AT (pv 0) rfl) (Aa (AE (pv 0) aL (rm hr) Ao (BE (Aa (pv 3) (Aa (pv 3) (Aa (pv 3) (Aa (pv 3) Ac)))) (Aa (pv 2) Ac))) Ac)))))))))))))),?_⟩
  try dsimp only[cxK]
  have stp:∀{Hk:Hp}{x:Addr}{o:HO}{fs fs':List (Str×V)},Hk p=some (.ins a.c_Grove dx fs)->Hk x=none->(∀b v,Hk b=some v->b≠p->upd (upd Hk x o) p (.ins a.c_Grove dx fs') b=some v)/\upd (upd Hk x o) p (.ins a.c_Grove dx fs') x=some o/\upd (upd Hk x o) p (.ins a.c_Grove dx fs') p=some (.ins a.c_Grove dx fs')/\upd Hk x o p=some (.ins a.c_Grove dx fs):=λ{Hk x o fs fs'} e1 e2=>by
   have n:x≠p:=λz=>by rw[z,e1]at e2;cases e2
   exact⟨λb v e nb=>by rw[At nb,At (As e e2)];exact e,by rw[At n];exact Ag,Ag,by rw[At (A0c n)];exact e1⟩
  refine Bw ?_;intro r_k_ s_k_ k_ hk_ E_k_;refine⟨(by show 0<=sizeLine;decide),λlv hlv=>?_⟩;obtain⟨k1,x1,p1,q1⟩:=stp (o:=.lst []) (fs':=Ci "levels" (.ref lv) []) hp hlv;refine xq1 rfl ⟨p,_,dx,[],rfl,q1,T.cl_Grove,T.na_Grove_levels,(by show 0<1000;decide),?_⟩;show k_ _ _;generalize upd (upd H lv _) p _=H1 at k1 x1 p1⊢;refine hk_ ?_;refine Bw ?_;intro r_k_ s_k_ k_ hk_ E_k_;refine⟨(by show 0<=sizeLine;decide),λpt hpt=>?_⟩;obtain⟨k2,x2,p2,q2⟩:=stp (o:=.lst []) (fs':=Ci "parts" (.ref pt) (Ci "levels" (.ref lv) [])) p1 hpt;refine xq1 rfl ⟨p,_,dx,(xq1 rfl ⟨q2,T.cl_Grove,T.na_Grove_parts,(by show 1<1000;decide),?_⟩)⟩;show k_ _ _;generalize upd (upd H1 pt _) p _=H2 at k2 x2 p2⊢;refine hk_ ?_;refine Bw ?_;intro r_k_ s_k_ k_ hk_ E_k_;intro nm hnm;obtain⟨k3,x3,p3,q3⟩:=stp (o:=.dT []) (fs':=Ci "numbers" (.ref nm) (Ci "parts" (.ref pt) (Ci "levels" (.ref lv) []))) p2 hnm;refine xq1 rfl ⟨p,_,dx,(xq1 rfl ⟨q3,T.cl_Grove,T.na_Grove_numbers,(by show 2<1000;decide),?_⟩)⟩;show k_ _ _;generalize upd (upd H2 nm _) p _=H3 at k3 x3 p3⊢;refine hk_ ?_;refine Bw ?_;intro r_k_ s_k_ k_ hk_ E_k_;refine⟨(by show 1<=sizeLine;decide),λbr hbr=>?_⟩;obtain⟨k4,x4,p4,q4⟩:=stp (o:=.lst [.int 0]) (fs':=Ci "bares" (.ref br) (Ci "numbers" (.ref nm) (Ci "parts" (.ref pt) (Ci "levels" (.ref lv) [])))) p3 hbr;refine xq1 rfl ⟨p,_,dx,(xq1 rfl ⟨q4,T.cl_Grove,T.na_Grove_bares,(by show 3<1000;decide),?_⟩)⟩;show k_ _ _;generalize upd (upd H3 br _) p _=H4 at k4 x4 p4⊢;refine hk_ ?_;refine Bw ?_;intro r_k_ s_k_ k_ hk_ E_k_;intro am ham;obtain⟨k5,x5,p5,q5⟩:=stp (o:=.dK []) (fs':=Ci "amounts" (.ref am) (Ci "bares" (.ref br) (Ci "numbers" (.ref nm) (Ci "parts" (.ref pt) (Ci "levels" (.ref lv) []))))) p4 ham;refine xq1 rfl ⟨p,_,dx,(xq1 rfl ⟨q5,T.cl_Grove,T.na_Grove_amounts,(by show 4<1000;decide),?_⟩)⟩;show k_ _ _;generalize upd (upd H4 am _) p _=H5 at k5 x5 p5⊢;refine hk_ ?_;refine Bw ?_;intro r_k_ s_k_ k_ hk_ E_k_;intro bx hbx;obtain⟨k6,x6,p6,q6⟩:=stp (o:=.dK []) (fs':=fl6 ⟨p,dx,lv,pt,nm,br,am,bx⟩) p5 hbx;refine xq1 rfl ⟨p,_,dx,(xq1 rfl ⟨q6,T.cl_Grove,T.na_Grove_boxes,(by show 5<1000;decide),?_⟩)⟩;show k_ _ (upd (upd H5 bx (.dK [])) p (.ins a.c_Grove dx (fl6 ⟨p,dx,lv,pt,nm,br,am,bx⟩)));generalize upd (upd H5 bx _) p _=H6 at k6 x6 p6⊢;refine hk_ ?_;have f26:∀b v,H1 b=some v->b≠p->H6 b=some v:=λb v e n=>k6 _ _ (k5 _ _ (k4 _ _ (k3 _ _ (k2 _ _ e n) n) n) n) n;have f36:∀b v,H2 b=some v->b≠p->H6 b=some v:=λb v e n=>k6 _ _ (k5 _ _ (k4 _ _ (k3 _ _ e n) n) n) n;have f46:∀b v,H3 b=some v->b≠p->H6 b=some v:=λb v e n=>k6 _ _ (k5 _ _ (k4 _ _ e n) n) n;have f56:∀b v,H4 b=some v->b≠p->H6 b=some v:=λb v e n=>k6 _ _ (k5 _ _ e n) n;have np:∀{Hk:Hp}{x:Addr}{fs:List (Str×V)},Hk p=some (.ins a.c_Grove dx fs)->Hk x=none->x≠p:=λ{Hk x fs} e1 e2 z=>by rw[z,e1]at e2;cases e2
  have no:∀{Hk Hm:Hp}{x y:Addr}{v:HO},Hk x=some v->Hk y=none->x≠y:=λ{Hk Hm x y v} e1 e2=>As e1 e2;have nlv:=np hp hlv;have npt:=np p1 hpt;have nnm:=np p2 hnm;have nbr:=np p3 hbr;have nam:=np p4 ham;have nbx:=np p5 hbx;have y1:=f26 _ _ x1 nlv;have y2:=f36 _ _ x2 npt;have y3:=f46 _ _ x3 nnm;have y4:=f56 _ _ x4 nbr;have y5:=k6 _ _ x5 nam;have back:∀{Hk:Hp}{x:Addr},(∀b v,H b=some v->b≠p->Hk b=some v)->x≠p->Hk x=none->H x=none:=λ{Hk x} kp n e=>by
   cases h:H x with
   |none=>rfl
   |some v=>rw[kp _ _ h n]at e;cases e
  have c2:∀b v,H b=some v->b≠p->H2 b=some v:=λb v e n=>k2 _ _ (k1 _ _ e n) n;have c3:∀b v,H b=some v->b≠p->H3 b=some v:=λb v e n=>k3 _ _ (c2 _ _ e n) n;have c4:∀b v,H b=some v->b≠p->H4 b=some v:=λb v e n=>k4 _ _ (c3 _ _ e n) n;have c5:∀b v,H b=some v->b≠p->H5 b=some v:=λb v e n=>k5 _ _ (c4 _ _ e n) n;have c6:∀b v,H b=some v->b≠p->H6 b=some v:=λb v e n=>k6 _ _ (c5 _ _ e n) n;have d1:lv≠pt:=As x1 hpt;have d2:br≠lv:=A0c (As (k3 _ _ (k2 _ _ x1 nlv) nlv) hbr);have d3:br≠pt:=A0c (As (k3 _ _ x2 npt) hbr);have d4:am≠bx:=As x5 hbx;have N0:RO a H H6 ⟨p,dx,lv,pt,nm,br,am,bx⟩ (Dj 0) (Dk 0) (amK 0):=⟨c6,⟨p6,y1,⟨[],y2,.nil⟩,y3,d1⟩,y4,y5,x6,⟨hlv,back k1 npt hpt,back c2 nnm hnm,back c3 nbr hbr,back c4 nam ham,back c5 nbx hbx⟩,d2,d3,d4⟩
  have k':=k ⟨p,dx,lv,pt,nm,br,am,bx⟩;have gp:(⟨p,dx,lv,pt,nm,br,am,bx⟩:GA).p=p:=rfl;generalize (⟨p,dx,lv,pt,nm,br,am,bx⟩:GA)=g at N0 k' gp;subst gp;clear k p6 q6 q5 q4 q3 q2 q1 y1 y2 y3 y4 y5 x6 c6 c5 c4 c3 c2 f26 f36 f46 f56 k1 k2 k3 k4 k5 k6 x1 x2 x3 x4 x5 p1 p2 p3 p4 p5 d1 d2 d3 d4 nlv npt nnm nbr nam nbx hbx ham hbr hnm hpt hlv back no np stp;refine⟨8,rfl,by decide,by decide,?_⟩;refine FW (n:=8) (λi σ H7=>∃u1:Option V,σ=[some (.ref g.p),u1,none,none]/\RO a H H7 g (Dj i) (Dk 0) (amK i)) ⟨none,rfl,N0⟩ ?_ ?_
  ·rintro i σ H7 hi ⟨u1,rfl,N⟩;obtain⟨kp,at',hbr,ham,hbx,fresh,n1,n2,n3⟩:=N;have cl:(i:Int)=0+(i:Int):=(Int.zero_add _).symm;refine xq1 rfl ⟨g.p,g.dx,(xq1 rfl ⟨at'.hp,Pz g,(xq1 rfl ⟨(by show 1<=sizeLine;decide),λt ht=>?_⟩)⟩)⟩;have s1:=Ak (o:=.tup [.int (0+(i:Int))]) ht;refine⟨g,Dj i,t,[0+(i:Int)],0,rfl,at'.same s1,Ag,by rw[<-cl];exact Va i,by rw[EI];lia,λH8 fr at8=>?_⟩;rw[<-cl,<-SI]at at8;have fr':Fr g H7 H8:=(Az.fr s1).trans fr;obtain⟨ts,h3,h4⟩:=at'.pt;have kd:∀(b:Addr)(kvs:List (Key×V)),H7 b=some (.dK kvs)->H8 b=some (.dK kvs):=λb kvs e=>fr' _ _ e (AM e at'.lv A3) (AM e h3 A3) (AM e at'.nm A3);have ham8:=kd _ _ ham;refine xq1 rfl ⟨_,_,rfl,(xwf rfl rfl at8.hp T.cl_Grove T.na_Grove_amounts (SR g) (xq1 rfl ⟨g.am,(xq1 rfl ⟨Md.k (k:=Sum.inl (0+(i:Int))) ham8 (by rw[amK_len];exact Bu A0),?_⟩)⟩))⟩;rw[<-cl,JC _ (RL i i (B1 _)),<-RK];have other:∀{b:Addr}{v:HO},H8 b=some v->b≠g.am->upd H8 g.am (.dK (amK (i+1))) b=some v:=λ{b v} e n=>by rw[At n];exact e
   have na:∀{b:Addr}{v:HO},H8 b=some v->v≠.dK (amK i)->b≠g.am:=λ{b v} e n=>AM e ham8 n;obtain⟨ts8,h38,h48⟩:=at8.pt;refine xq1 rfl ⟨?_,⟨other at8.hp (na at8.hp A3),other at8.lv (na at8.lv A3),⟨ts8,other h38 (na h38 A3),PairedM.imp (λc q z=>other z (na z A3)) h48⟩,other at8.nm (na at8.nm A3),at8.ne⟩,?_,Ag,?_,fresh,n1,n2,n3⟩
   ·intro b v e nb;have e8:H8 b=some v:=fr' _ _ (kp _ _ e nb) (As e fresh.1) (As e fresh.2.1) (As e fresh.2.2.1);exact other e8 (As e fresh.2.2.2.2.1)
   ·have e8:H8 g.br=_:=fr' _ _ hbr n1 n2 (AM hbr at'.nm A3);exact other e8 (na e8 A3)
   ·exact other (kd _ _ hbx) (A0c n3)
  ·rintro σ H7 ⟨u1,rfl,N⟩;refine xq2 rfl rfl ⟨1,49,rfl,⟨by decide,by decide,by decide,by decide⟩,?_⟩;have N0:RO a H H7 g (Dj 8++Fj 0) (Dk 0) (amK 8):=by rw[show Dj 8++Fj 0=Dj 8 from M2 _];exact N
   clear N;refine FW (lo:=1) (n:=48) (λj σ H8=>∃u2 u3:Option V,σ=[some (.ref g.p),u1,u2,u3]/\RO a H H8 g (Dj 8++Fj j) (Dk j) (amK 8)) ⟨none,none,rfl,N0⟩ ?_ ?_
   ·rintro j σ H8 hj ⟨u2,u3,rfl,N⟩;obtain⟨kp,at',hbr,ham,hbx,fresh,n1,n2,n3⟩:=N;refine xwf rfl rfl at'.hp T.cl_Grove T.na_Grove_bares (Js g) (xwi rfl rfl rfl (SqL.of hbr) (YF (by rw[List.getLast?_map,SZ];rfl)) ?_);refine xwf rfl rfl at'.hp T.cl_Grove T.na_Grove_bares (Js g) ⟨.inl ⟨rfl,_,SqL.of hbr⟩,(xq1 rfl ⟨g.p,g.dx,(xq1 rfl ⟨at'.hp,Pz g,(xw3 rfl rfl rfl (xq1 rfl ⟨(by show 4<=sizeLine;decide),λt ht=>(xq1 rfl ?_)⟩))⟩)⟩)⟩;have s1:=Ak (o:=.tup [.int (bareN j:Int),.int (bareN j:Int),.int (bareN j:Int),.int (bareN j:Int)]) ht;have ln:(Dj 8++Fj j).length=8+j:=by rw[B0,EI,OX]
    refine⟨g,Dj 8++Fj j,t,[(bareN j:Int),(bareN j:Int),(bareN j:Int),(bareN j:Int)],1+(j:Int),rfl,at'.same s1,Ag,OW j,by rw[ln];lia,λH9 fr at9=>?_⟩;rw[show(1:Int)+(j:Int)=(j:Int)+1 by lia,M3,<-Nz]at at9;have fr':Fr g H8 H9:=(Az.fr s1).trans fr;obtain⟨ts,h3,h4⟩:=at'.pt;have kd:∀(b:Addr)(kvs:List (Key×V)),H8 b=some (.dK kvs)->H9 b=some (.dK kvs):=λb kvs e=>fr' _ _ e (AM e at'.lv A3) (AM e h3 A3) (AM e at'.nm A3);have hbr9:H9 g.br=_:=fr' _ _ hbr n1 n2 (AM hbr at'.nm A3);refine⟨g.br,(xq2 rfl rfl ⟨hbr9,by rw[A9];unfold Dk;rw[A9,O1];exact Bu A0,?_⟩)⟩;have eb:(Dk j).map V.int++[V.int ((Dj 8++Fj j).length:Int)]=(Dk (j+1)).map V.int:=by rw[NB,C1,ln];rfl
    rw[eb];have other:∀{b:Addr}{v:HO},H9 b=some v->v≠.lst ((Dk j).map V.int)->upd H9 g.br (.lst ((Dk (j+1)).map V.int)) b=some v:=λ{b v} e n=>by rw[At (AM e hbr9 n)];exact e
    refine⟨_,_,rfl,?_,at9.put hbr9 n1 n2,Ag,other (kd _ _ ham) A3,other (kd _ _ hbx) A3,fresh,n1,n2,n3⟩;intro b v e nb;rw[At (As e fresh.2.2.2.1)];exact fr' _ _ (kp _ _ e nb) (As e fresh.1) (As e fresh.2.1) (As e fresh.2.2.1)
   ·rintro σ H8 ⟨u2,u3,rfl,N⟩;exact k' H8 rfl N
end
end J
namespace J
open PySem L2
theorem Al.uniq{G:Gv}{i:Nat}{l m:Int}(h:Al G i l)(h2:Al G i m):l=m:=by
 obtain⟨q,e,z⟩:=h;obtain⟨p,e2,z2⟩:=h2;rw[e]at e2;cases e2;exact z.symm.trans z2
theorem PZ{G:Gv}(ok:GOk G){i:Nat}(h:Al G i 0):i<8:=by
 obtain⟨q,e,z⟩:=h;refine Nat.lt_of_not_le λn=>?_;obtain⟨_,_,_,_,_,_,l1,_⟩:=ok.node i q e n;lia
structure Cb(G:Gv)(n i:Nat)(q:Sq)(x y z w:Nat):Prop where
 g:G[i]?=some q
 ps:q.parts=[(x:Int),(y:Int),(z:Int),(w:Int)]
 lev:q.lev=(n:Int)+1
 hx:Al G x n
 hy:Al G y n
 hz:Al G z n
 hw:Al G w n
theorem AK{G:Gv}(ok:GOk G){n i:Nat}(h:Al G i ((n+1:Nat):Int)):∃q x y z w,Cb G n i q x y z w:=by
 obtain⟨q,e,el⟩:=h;have n8:8<=i:=by
  refine R6 λl8=>?_;rw[ok.leaf i l8]at e;cases e;have:(0:Int)=((n+1:Nat):Int):=el;lia
 obtain⟨x,y,z,w,ep,⟨hx,hy,hz,hw⟩,_,_⟩:=ok.node i q e n8;have en:q.lev-1=(n:Int):=by lia
 rw[en]at hx hy hz hw;exact⟨q,x,y,z,w,e,ep,by lia,hx,hy,hz,hw⟩
theorem Cb.app{G G':Gv}{k n i:Nat}{q:Sq}{x y z w:Nat}(go:AU G G' k)(h:Cb G n i q x y z w):Cb G' n i q x y z w:=⟨go.get h.g,h.ps,h.lev,go.lev h.hx,go.lev h.hy,go.lev h.hz,go.lev h.hw⟩
def Bf(G:Gv):Nat->Nat->Int
 |0,i=>if i=0 then 0 else 1
 |n+1,i=>match G[i]? with
  |some q=>(q.parts.map λp=>Bf G n p.toNat).sum
  |none=>0
theorem DM{G:Gv}{n i:Nat}{q:Sq}{x y z w:Nat}(h:Cb G n i q x y z w):Bf G (n+1) i=([x,y,z,w].map λk=>Bf G n k).sum:=by
 rw[show Bf G (n+1) i=(match G[i]? with|some q=>(q.parts.map λ(p:Int)=>Bf G n p.toNat).sum|none=>0)from rfl,h.g];show(q.parts.map λ(p:Int)=>Bf G n p.toNat).sum=_;rw[h.ps];rfl
theorem Iy{G G':Gv}{k:Nat}(ok:GOk G)(go:AU G G' k):∀(n i:Nat),Al G i (n:Int)->Bf G' n i=Bf G n i
 |0,i,_=>rfl
 |n+1,i,h=>by
  obtain⟨q,x,y,z,w,nd⟩:=AK ok h;rw[DM nd,DM (nd.app go)];show Bf G' n x+(Bf G' n y+(Bf G' n z+(Bf G' n w+0)))=_;rw[Iy ok go n x nd.hx,Iy ok go n y nd.hy,Iy ok go n z nd.hz,Iy ok go n w nd.hw];rfl
theorem DU(G:Gv):∀(n i:Nat),0<=Bf G n i
 |0,i=>by
  show 0<=if i=0 then(0:Int)else 1;split<;>lia
 |n+1,i=>by
  unfold Bf;split
  ·rename_i q _;have:∀l:List Int,0<=(l.map λp=>Bf G n p.toNat).sum:=by
    intro l;induction l with
    |nil=>exact P4 0
    |cons p r ih=>rw[C9,U3];have:=DU G n p.toNat;lia
   exact this _
  ·exact P4 0
theorem IN:∀(n:Nat)(l:List Nat),l.Nodup->(∀x∈l,x<n)->l.length<=n
 |0,l,_,h=>by
  cases l with
  |nil=>exact B1 0
  |cons x r=>exact absurd (h x D7) (L6 _)
 |n+1,l,nd,h=>by
  by_cases hm:n∈l
  ·have:=IN n (l.erase n) (nd.erase n) λx hx=>by
    have h1:=(nd.mem_erase_iff).mp hx;have:=h x h1.2;have:=h1.1;lia
   rw[List.length_erase_of_mem hm]at this;lia
  ·have:=IN n l nd λx hx=>by
    have:=h x hx;have:x≠n:=λz=>hm (z▸hx);lia
   lia
structure Fl(G:Gv)(ks:List (Key×V)):Prop where
 nd:(ks.map Prod.fst).Nodup
 lt:∀k∈ks.map Prod.fst,∃i:Nat,i<G.length/\k=Sum.inl (i:Int)
theorem Fl.len{G:Gv}{ks:List (Key×V)}(h:Fl G ks):ks.length<=G.length:=by
 let f:Key->Nat:=λk=>match k with|.inl i=>i.toNat|.inr _=>0
 have:=IN G.length ((ks.map Prod.fst).map f) (by
  rw[F5,M7];refine A4f (λ{a b} ha hb hne z=>hne ?_) (F5.mp h.nd);obtain⟨i,_,rfl⟩:=h.lt a ha;obtain⟨j,_,rfl⟩:=h.lt b hb;have:(i:Int).toNat=(j:Int).toNat:=z;rw[L8,L8]at this;rw[this]) (λx hx=>by
  obtain⟨k,hk,rfl⟩:=D5.mp hx;obtain⟨i,hi,rfl⟩:=h.lt k hk;show(i:Int).toNat<_;rw[L8];exact hi)
 rw[A9,A9]at this;exact this
theorem Fl.app{G G':Gv}{ks:List (Key×V)}(le:G.length<=G'.length)(h:Fl G ks):Fl G' ks:=⟨h.nd,λk hk=>by
 obtain⟨i,hi,e⟩:=h.lt k hk;exact⟨i,by lia,e⟩⟩
theorem Fl.put{G:Gv}{ks:List (Key×V)}(h:Fl G ks){i:Nat}(hi:i<G.length)(v:V):Fl G (CK ks (Sum.inl (i:Int)) v):=by
 unfold CK;by_cases a:(ks.any λkv=>decide (kv.1=Sum.inl (i:Int)))=true
 ·rw[X9 a];have e:(ks.map λkv=>if kv.1=Sum.inl (i:Int)then(kv.1,v)else kv).map Prod.fst=ks.map Prod.fst:=by
   rw[O5];refine R8 λkv _=>?_;show(if kv.1=Sum.inl (i:Int)then(kv.1,v)else kv).1=kv.1;split<;>rfl
  exact⟨by rw[e];exact h.nd,by rw[e];exact h.lt⟩
 ·rw[X8 a];refine⟨?_,λk hk=>?_⟩
  ·rw[C1,X1];refine⟨h.nd,by simp,λk hk k' hk' z=>a ?_⟩;have:k'=Sum.inl (i:Int):=by simpa using hk'
   subst this;subst z;obtain⟨kv,h1,h2⟩:=D5.mp hk;exact List.any_eq_true.mpr ⟨kv,h1,X7 h2⟩
  ·rw[C1]at hk;rcases C7.mp hk with z|z
   ·exact h.lt k z
   ·exact⟨i,hi,by simpa using z⟩
structure Qx(G:Gv)(ks:List (Key×V)):Prop where
 keys:Fl G ks
 leaf:∀s:Nat,s<8->∃v,Bv ks (Sum.inl (s:Int))=some v
 val:∀(i:Nat) v,Bv ks (Sum.inl (i:Int))=some v->∃l:Nat,Al G i l/\v=.int (Bf G l i)
theorem Qx.app{G G':Gv}{k:Nat}{ks:List (Key×V)}(ok:GOk G)(go:AU G G' k)(h:Qx G ks):Qx G' ks:=⟨h.keys.app (by obtain⟨r,e⟩:=go.pre;rw[e,B0];lia),h.leaf,λi v e=>by
 obtain⟨l,h1,h2⟩:=h.val i v e;exact⟨l,go.lev h1,by rw[Iy ok go l i h1];exact h2⟩⟩
theorem Qx.put{G:Gv}{ks:List (Key×V)}(h:Qx G ks){i l:Nat}(hl:Al G i l):Qx G (CK ks (Sum.inl (i:Int)) (.int (Bf G l i))):=⟨h.keys.put hl.lt _,λs hs=>by
 rw[FR];split
 ·exact⟨_,rfl⟩
 ·exact h.leaf s hs,λj v e=>by
 rw[FR]at e;split at e
 ·rename_i z;injection z with z
  have:j=i:=K8 z;subst this;cases e;exact⟨l,hl,rfl⟩
 ·exact h.val j v e⟩
theorem am0:Qx G0 (amK 8) where
 keys:=⟨by decide +kernel,λk hk=>by
  obtain⟨p,hp,rfl⟩:=D5.mp hk;obtain⟨s,hs,rfl⟩:=D5.mp hp;have:=M0.mp hs;exact⟨s,by rw[Qi];lia,rfl⟩⟩
 leaf:=λs hs=>by
  match s,hs with
  |0,_=>exact⟨_,rfl⟩
  |1,_=>exact⟨_,rfl⟩
  |2,_=>exact⟨_,rfl⟩
  |3,_=>exact⟨_,rfl⟩
  |4,_=>exact⟨_,rfl⟩
  |5,_=>exact⟨_,rfl⟩
  |6,_=>exact⟨_,rfl⟩
  |7,_=>exact⟨_,rfl⟩
 val:=λi v e=>by
  have hi:i<8:=by
   refine Nat.lt_of_not_le λz=>?_;rw[RL 8 i z]at e;cases e
  refine⟨0,⟨_,Qj i hi,rfl⟩,?_⟩
  match i,hi with
  |0,_=>cases e;rfl
  |1,_=>cases e;rfl
  |2,_=>cases e;rfl
  |3,_=>cases e;rfl
  |4,_=>cases e;rfl
  |5,_=>cases e;rfl
  |6,_=>cases e;rfl
  |7,_=>cases e;rfl
structure Bx where
 l:Int
 t:Int
 w:Int
 h:Int
def Bx.ns(b:Bx):List Int:=[b.l,b.t,b.w,b.h]
def shB(half:Int)(k:Nat)(b:Bx):Bx:=⟨b.l+half*((k:Int)%2),b.t+half*((k:Int)/2),b.w,b.h⟩
def Dm(half:Int):Nat->List (Option Bx)->List Bx
 |_,[]=>[]
 |k,none::r=>Dm half (k+1) r
 |k,some b::r=>shB half k b::Dm half (k+1) r
def mnL(l:List Int):Int:=l.min?.getD 0
def mxL(l:List Int):Int:=l.max?.getD 0
def Nh(bs:List Bx):Bx:=⟨mnL (bs.map (·.l)),mnL (bs.map (·.t)),mxL (bs.map λb=>b.l+b.w)-mnL (bs.map (·.l)),mxL (bs.map λb=>b.t+b.h)-mnL (bs.map (·.t))⟩
def NO(half:Int)(obs:List (Option Bx)):Option Bx:=match Dm half 0 obs with
 |[]=>none
 |b::r=>some (Nh (b::r))
def BB(G:Gv):Nat->Nat->Option Bx
 |0,i=>if i=0 then none else some ⟨0,0,1,1⟩
 |n+1,i=>match G[i]? with
  |some q=>NO (2^n) (q.parts.map λ(p:Int)=>BB G n p.toNat)
  |none=>none
theorem WR{l:List Int}{m:Int}(h:m∈l)(h2:∀x∈l,m<=x):m=mnL l:=by
 unfold mnL;rw[List.min?_eq_some_iff.mpr ⟨h,h2⟩];rfl
theorem WP{l:List Int}{m:Int}(h:m∈l)(h2:∀x∈l,x<=m):m=mxL l:=by
 unfold mxL;rw[List.max?_eq_some_iff.mpr ⟨h,h2⟩];rfl
theorem EK{G:Gv}{n i:Nat}{q:Sq}{x y z w:Nat}(h:Cb G n i q x y z w):BB G (n+1) i=NO (2^n) [BB G n x,BB G n y,BB G n z,BB G n w]:=by
 rw[show BB G (n+1) i=(match G[i]? with|some q=>NO (2^n) (q.parts.map λ(p:Int)=>BB G n p.toNat)|none=>none)from rfl,h.g];show NO (2^n) (q.parts.map λ(p:Int)=>BB G n p.toNat)=_;rw[h.ps];rfl
theorem Gb{G G':Gv}{k:Nat}(ok:GOk G)(go:AU G G' k):∀(n i:Nat),Al G i (n:Int)->BB G' n i=BB G n i
 |0,i,_=>rfl
 |n+1,i,h=>by
  obtain⟨q,x,y,z,w,nd⟩:=AK ok h;rw[EK nd,EK (nd.app go),Gb ok go n x nd.hx,Gb ok go n y nd.hy,Gb ok go n z nd.hz,Gb ok go n w nd.hw]
theorem Ov{half:Int}:∀{obs:List (Option Bx)},NO half obs=none ↔ ∀o∈obs,o=none:=by
 intro obs;have g:∀(obs:List (Option Bx))(k:Nat),Dm half k obs=[] ↔ ∀o∈obs,o=none:=by
  intro obs;induction obs with
  |nil=>intro k;exact⟨λ_ o ho=>by simp at ho,λ_=>rfl⟩
  |cons o r ih =>
   intro k;cases o with
   |none =>
    rw[show Dm half k (none::r)=Dm half (k+1) r from rfl,ih (k+1)];exact⟨λh o ho=>by rcases C2.mp ho with z|z;exact z;exact h o z,λh o ho=>h o (B9 _ ho)⟩
   |some b=>exact⟨λh=>(by cases h),λh=>(by cases h (some b) D7)⟩
 rw[<-g obs 0];unfold NO;constructor
 ·intro h;split at h
  ·assumption
  ·cases h
 ·intro h;rw[h]
theorem IR{G:Gv}(ok:GOk G):∀(n i:Nat),Al G i (n:Int)->(BB G n i=none↔Bf G n i=0)
 |0,i,_=>by
  show(if i=0 then none else some (⟨0,0,1,1⟩:Bx))=none↔(if i=0 then(0:Int)else 1)=0;split
  ·exact⟨λ_=>rfl,λ_=>rfl⟩
  ·exact⟨λh=>(by cases h),λh=>A0⟩
 |n+1,i,h=>by
  obtain⟨q,x,y,z,w,nd⟩:=AK ok h;rw[EK nd,DM nd,Ov];show _↔Bf G n x+(Bf G n y+(Bf G n z+(Bf G n w+0)))=0;have ex:=IR ok n x nd.hx;have ey:=IR ok n y nd.hy;have ez:=IR ok n z nd.hz;have ew:=IR ok n w nd.hw;have nx:=DU G n x;have ny:=DU G n y;have nz:=DU G n z;have nw:=DU G n w;constructor
  ·intro h;rw[ex.mp (h _ A5),ey.mp (h _ A5),ez.mp (h _ A5),ew.mp (h _ A5)];rfl
  ·intro h o ho;simp only[C2,L9,A3d]at ho;rcases ho with rfl|rfl|rfl|rfl
   ·exact ex.mpr A0
   ·exact ey.mpr A0
   ·exact ez.mpr A0
   ·exact ew.mpr A0
theorem Qh{G r:Gv}(e:G=G0++r)(j:Nat)(h:j<48):G[8+j]?=some ⟨[(bareN j:Int),(bareN j:Int),(bareN j:Int),(bareN j:Int)],(j:Int)+1⟩:=by
 rw[e];exact Mp (Qk j h)
theorem IB{G:Gv}(ok:GOk G){r:Gv}(e:G=G0++r):∀(n i:Nat),n<=48->Al G i (n:Int)->(BB G n i=none↔i=bareN n)
 |0,i,_,_=>by
  show(if i=0 then none else some (⟨0,0,1,1⟩:Bx))=none↔i=0;split
  ·rename_i z;exact⟨λ_=>z,λ_=>rfl⟩
  ·rename_i z;exact⟨λh=>(by cases h),λh=>absurd h z⟩
 |n+1,i,hn,h=>by
  obtain⟨q,x,y,z,w,nd⟩:=AK ok h;rw[EK nd,Ov];have ex:=IB ok e n x A0 nd.hx;have ey:=IB ok e n y A0 nd.hy;have ez:=IB ok e n z A0 nd.hz;have ew:=IB ok e n w A0 nd.hw;have hb:=Qh e n A0;constructor
  ·intro h;have hx:=ex.mp (h _ A5);have hy:=ey.mp (h _ A5);have hz:=ez.mp (h _ A5);have hw:=ew.mp (h _ A5);show i=8+n;refine ok.one nd.g hb ?_;rw[nd.ps,hx,hy,hz,hw]
  ·intro h;have h:i=8+n:=h;have g:=nd.g;rw[h,hb]at g;cases g;have p:=nd.ps;have p:[(bareN n:Int),(bareN n:Int),(bareN n:Int),(bareN n:Int)]=[(x:Int),(y:Int),(z:Int),(w:Int)]:=p;injection p with p1 p
   injection p with p2 p
   injection p with p3 p
   injection p with p4 p
   intro o ho;simp only[C2,L9,A3d]at ho;rcases ho with rfl|rfl|rfl|rfl
   ·exact ex.mpr (K8 p1).symm
   ·exact ey.mpr (K8 p2).symm
   ·exact ez.mpr (K8 p3).symm
   ·exact ew.mpr (K8 p4).symm
structure BxOk(G:Gv)(H:Hp)(ks:List (Key×V)):Prop where
 keys:Fl G ks
 val:∀(i:Nat) v,Bv ks (Sum.inl (i:Int))=some v->∃(l:Nat)(b:Bx)(t:Addr),Al G i l/\BB G l i=some b/\v=.ref t/\H t=some (.tup (b.ns.map V.int))
structure AF(a:Ad)(H:Hp)(g:GA)(G:Gv):Prop where
 at':AL a H g G
 ok:GOk G
 g0:∃r,G=G0++r
 br:H g.br=some (.lst ((Dk 48).map V.int))
 am:∃ks,H g.am=some (.dK ks)/\Qx G ks
 bx:∃ks,H g.bx=some (.dK ks)/\BxOk G H ks
 n1:g.br≠g.lv
 n2:g.br≠g.pt
 n3:g.am≠g.bx
theorem AF.new{a:Ad}{H H':Hp}{g:GA}(h:RO a H H' g G0 (Dk 48) (amK 8)):AF a H' g G0:=⟨h.at',g0_ok,⟨[],by simp⟩,h.br,⟨_,h.am,am0⟩,⟨_,h.bx,⟨by simp,λk hk=>by simp at hk⟩,λi v e=>by cases e⟩,h.n1,h.n2,h.n3⟩
theorem AF.ne_am{a:Ad}{H:Hp}{g:GA}{G:Gv}(h:AF a H g G){b:Addr}{o:HO}(e:H b=some o)(n:∀ks,o≠.dK ks):b≠g.am/\b≠g.bx:=by
 obtain⟨ks,h1,_⟩:=h.am;obtain⟨ks',h2,_⟩:=h.bx;exact⟨AM e h1 (n _),AM e h2 (n _)⟩
theorem AF.same{a:Ad}{H H':Hp}{g:GA}{G:Gv}(s:Az H H')(h:AF a H g G):AF a H' g G:=by
 obtain⟨at',ok,g0,br,⟨ks,h1,h2⟩,⟨ks',h3,h4⟩,n1,n2,n3⟩:=h;refine⟨at'.same s,ok,g0,s _ _ br,⟨ks,s _ _ h1,h2⟩,⟨ks',s _ _ h3,h4.keys,λi v e=>?_⟩,n1,n2,n3⟩;obtain⟨l,b,t,e1,e2,e3,e4⟩:=h4.val i v e;exact⟨l,b,t,e1,e2,e3,s _ _ e4⟩
theorem AU.le{G G':Gv}{k:Nat}(go:AU G G' k):G.length<=G'.length:=by
 obtain⟨r,e⟩:=go.pre;rw[e,B0];lia
theorem AF.fr{a:Ad}{H H':Hp}{g:GA}{G G':Gv}{m:Nat}(h:AF a H g G)(f:Fr g H H')(at2:AL a H' g G')(go:AU G G' m):AF a H' g G':=by
 obtain⟨at',ok,⟨r,g0⟩,br,⟨ks,h1,h2⟩,⟨ks',h3,h4⟩,n1,n2,n3⟩:=h;obtain⟨us,hp,_⟩:=at'.pt;have keep:∀{b:Addr}{o:HO},H b=some o->(∀l,o≠.lst l)->(∀l,o≠.dT l)->H' b=some o:=λ{b o} e z1 z2=>f _ _ e (AM e at'.lv (z1 _)) (AM e hp (z1 _)) (AM e at'.nm (z2 _));obtain⟨t,et⟩:=go.pre;refine⟨at2,go.ok,⟨r++t,by rw[et,g0,M3]⟩,f _ _ br n1 n2 (AM br at'.nm A3),⟨ks,keep h1 (by intro l z;cases z) (by intro l z;cases z),h2.app ok go⟩,⟨ks',keep h3 (by intro l z;cases z) (by intro l z;cases z),h4.keys.app go.le,λi v e=>?_⟩,n1,n2,n3⟩;obtain⟨l,b,t,e1,e2,e3,e4⟩:=h4.val i v e;exact⟨l,b,t,go.lev e1,by rw[Gb ok go l i e1];exact e2,e3,keep e4 (by intro l z;cases z) (by intro l z;cases z)⟩
theorem AF.put{a:Ad}{H:Hp}{g:GA}{G:Gv}{l:Addr}{xs:List V}{o:HO}(h:AF a H g G)(hl:H l=some (.lst xs))(m1:l≠g.lv)(m2:l≠g.pt)(m3:l≠g.br):AF a (upd H l o) g G:=by
 obtain⟨at',ok,g0,br,⟨ks,h1,h2⟩,⟨ks',h3,h4⟩,n1,n2,n3⟩:=h;have other:∀{b v},H b=some v->v≠.lst xs->upd H l o b=some v:=λ{b v} e n=>by rw[At (AM e hl n)];exact e
 refine⟨at'.put hl m1 m2,ok,g0,by rw[At (A0c m3)];exact br,⟨ks,other h1 A3,h2⟩,⟨ks',other h3 A3,h4.keys,λi v e=>?_⟩,n1,n2,n3⟩;obtain⟨l,b,t,e1,e2,e3,e4⟩:=h4.val i v e;exact⟨l,b,t,e1,e2,e3,other e4 A3⟩
def FrQ(g:GA)(H H':Hp):Prop:=∀b o,H b=some o->b≠g.am->b≠g.bx->H' b=some o
theorem FrQ.refl(g:GA)(H:Hp):FrQ g H H:=λ_ _ e _ _=>e
theorem FrQ.trans{g:GA}{H1 H2 H3:Hp}(h:FrQ g H1 H2)(h2:FrQ g H2 H3):FrQ g H1 H3:=λb o e n1 n2=>h2 b o (h b o e n1 n2) n1 n2
theorem Az.frq{g:GA}{H1 H2:Hp}(h:Az H1 H2):FrQ g H1 H2:=λb o e _ _=>h b o e
theorem AL.dict{a:Ad}{H:Hp}{g:GA}{G:Gv}{d:Addr}{ks:List (Key×V)}{o:HO}(hd:H d=some (.dK ks))(h:AL a H g G):AL a (upd H d o) g G:=by
 obtain⟨h1,h2,⟨ts,h3,h4⟩,h5,h6⟩:=h;have other:∀{b v},H b=some v->v≠.dK ks->upd H d o b=some v:=λ{b v} e n=>by rw[At (AM e hd n)];exact e
 exact⟨other h1 A3,other h2 A3,⟨ts,other h3 A3,PairedM.imp (λt q z=>other z A3) h4⟩,other h5 A3,h6⟩
theorem AF.am_put{a:Ad}{H:Hp}{g:GA}{G:Gv}{ks ks2:List (Key×V)}(h:AF a H g G)(e:H g.am=some (.dK ks))(h2:Qx G ks2):AF a (upd H g.am (.dK ks2)) g G/\FrQ g H (upd H g.am (.dK ks2)):=by
 obtain⟨at',ok,g0,br,⟨_,_,_⟩,⟨ks',h3,h4⟩,n1,n2,n3⟩:=h;have other:∀{b v},H b=some v->v≠.dK ks->upd H g.am (.dK ks2) b=some v:=λ{b v} e' n=>by rw[At (AM e' e n)];exact e'
 refine⟨⟨at'.dict e,ok,g0,other br A3,⟨_,Ag,h2⟩,⟨ks',by rw[At (A0c n3)];exact h3,h4.keys,λi v e=>?_⟩,n1,n2,n3⟩,λb o e' m1 _=>by rw[At m1];exact e'⟩;obtain⟨l,b,t,e1,e2,e3,e4⟩:=h4.val i v e;exact⟨l,b,t,e1,e2,e3,other e4 A3⟩
theorem AF.bx_put{a:Ad}{H:Hp}{g:GA}{G:Gv}{ks ks2:List (Key×V)}(h:AF a H g G)(e:H g.bx=some (.dK ks))(h2:BxOk G H ks2):AF a (upd H g.bx (.dK ks2)) g G/\FrQ g H (upd H g.bx (.dK ks2)):=by
 obtain⟨at',ok,g0,br,⟨ks',h3,h4⟩,⟨_,_,_⟩,n1,n2,n3⟩:=h;have other:∀{b v},H b=some v->v≠.dK ks->upd H g.bx (.dK ks2) b=some v:=λ{b v} e' n=>by rw[At (AM e' e n)];exact e'
 refine⟨⟨at'.dict e,ok,g0,other br A3,⟨ks',by rw[At n3];exact h3,h4⟩,⟨_,Ag,h2.keys,λi v e=>?_⟩,n1,n2,n3⟩,λb o e' _ m1=>by rw[At m1];exact e'⟩;obtain⟨l,b,t,e1,e2,e3,e4⟩:=h2.val i v e;exact⟨l,b,t,e1,e2,e3,other e4 A3⟩
theorem MS(g:GA):(fl6 g).lookup ("counted" : Str)=none:=DL g A1 A1 A1 A1 A1 A1
theorem Ox(g:GA):(fl6 g).lookup ("living" : Str)=none:=DL g A1 A1 A1 A1 A1 A1
theorem QY(g:GA):(fl6 g).lookup ("boxed" : Str)=none:=DL g A1 A1 A1 A1 A1 A1
theorem QX(g:GA):(fl6 g).lookup ("measured" : Str)=none:=DL g A1 A1 A1 A1 A1 A1
theorem no_span(g:GA):(fl6 g).lookup ("span" : Str)=none:=DL g A1 A1 A1 A1 A1 A1
seal L2.PA L2.PE L2.PS L2.PSs L2.PT L2.PW
theorem Cb.mem{G:Gv}{n i:Nat}{q:Sq}{x y z w:Nat}(h:Cb G n i q x y z w){j:Nat}{v:V}(e:(q.parts.map V.int)[j]?=some v):∃k:Nat,v=.int k/\Al G k n/\q.parts[j]?=some (k:Int):=by
 rw[B7]at e;obtain⟨p,hp,rfl⟩:=F0.mp e;have hm:=D9 hp;rw[h.ps]at hm;simp only[C2,L9,A3d]at hm;rcases hm with rfl|rfl|rfl|rfl
 ·exact⟨x,rfl,h.hx,hp⟩
 ·exact⟨y,rfl,h.hy,hp⟩
 ·exact⟨z,rfl,h.hz,hp⟩
 ·exact⟨w,rfl,h.hw,hp⟩
section
variable{P:Program}{w:World}{K:PySem.W.Frag}{mg:Str->Option Value}{base:Heap}{a:Ad}
inductive SpCnt(a:Ad)(n:Nat)(vs:List V)(H:Hp)(Q:VK):Prop
 |mk (g:GA) (G:Gv) (i l:Nat) (_:vs=[.ref g.p,.int i]) (_:AF a H g G) (_:Al G i l) (_:l<n) (_:G.length<9000000) (_:∀H',FrQ g H H'->AF a H' g G->Q (.int (Bf G l i)) H'):SpCnt a n vs H Q
def Tv(a:Ad)(n:Nat):Sp:=λvs H Q _=>SpCnt a n vs H Q
theorem WF{f:Addr}{fd:FuncData}(F:Fun K "counted" "Grove.counted" CQ f fd)(T:Top K mg a)(Me:RQ K a.c_Grove "counted" f)(Bi:BN K fd Cg []):∀n,AC P w K mg base CX0 (n+1) f fd Cg (Tv a n)
 |0=>by
  refine F.ok Cz (λvs H Q E h=>?_) (λcdv A outer s H vs Q E hr h=>?_)
  ·obtain⟨g,G,i,l,rfl,_,_,h0,_⟩:=h;exact absurd h0 (L6 _)
  ·obtain⟨g,G,i,l,rfl,_,_,h0,_⟩:=h;exact absurd h0 (L6 _)
 |n+1=>by
  have aN:Cw P w K mg base CX0 (n+1) a.c_Grove "counted" Cg (Tv a n):=⟨⟨f,fd,WF F T Me Bi n,Me,Bi⟩,T.cl_Grove⟩
  refine F.ok Cz (λvs H Q E h=>?_) (λcdv A outer s H vs Q E hr h=>?_)
  ·obtain⟨g,G,i,l,rfl,_⟩:=h;rfl
  ·obtain⟨g,G,i,l,rfl,fu,hl,ln,few,k⟩:=h;obtain⟨ks,ham,aok⟩:=fu.am;refine⟨_,(Ab (Aj (i:=2) Cz.nd rfl (Or.inl rfl) (MN (Iu hr) (AT (pv 0) rfl) (pv 1) ⟨rfl,rfl,rfl,rfl⟩)) (Ab (AB (Ar MP (pv 2) Ig (Av _)) (Ab (Aj (i:=2) Cz.nd rfl (Or.inl rfl) (Aw (Nv rfl) rfl T.b_sum A7c (Aa (Dt rfl (Cd.of (So:=Ai CQ) (No:=GS) (N:=["quarter","self"]) (k:=1) (cs:=[0]) rfl rfl A1) (Sm (Am AI (AT (pv 0) rfl) (pv 1) (λ_ _=>rfl))) (λ_ _ _=>(Cf (i:=0) A1 rfl rfl)) (λ_ _ _=>CS) (λ_ _ _=>(AE (pv 1) aN (rm hr) Ao (Aa (pv 0) Ac)))) Ac))) (Ae (IC (Iu hr) (AT (pv 0) rfl) (pv 1) (pv 2) rfl))) Au) (Ae (An (pv 2))))),?_⟩
   try dsimp only[cxK]
   refine xwf rfl rfl fu.at'.hp T.cl_Grove T.na_Grove_amounts (SR g) ⟨g.am,rfl,.inl ⟨_,.inl ham⟩,(xq1 rfl ⟨_,GX.k (k:=Sum.inl (i:Int)) ham,?_⟩)⟩;cases e:Bv ks (Sum.inl (i:Int))with
   |some v =>
    obtain⟨l',hl',rfl⟩:=aok.val i v e;have el:l'=l:=K8 (hl'.uniq hl);subst el;exact xq1 rfl ⟨rfl,(xq1 rfl (AS (xq1 rfl (k H (FrQ.refl g H) fu))))⟩
   |none =>
    refine xq1 rfl ⟨rfl,(xq1 rfl (Bq ?_))⟩;cases l with
    |zero =>
     obtain⟨v,ev⟩:=aok.leaf i (PZ fu.ok hl);rw[e]at ev;cases ev
    |succ m =>
     obtain⟨q,x,y,z,w,nd⟩:=AK fu.ok hl;obtain⟨ts,h3,h4⟩:=fu.at'.pt;obtain⟨t,et,ht⟩:=PairedM.get h4 nd.g;have ht:H t=some (.tup (q.parts.map V.int)):=ht;have nt:=fu.ne_am ht (by intro l z;cases z);refine xwf rfl rfl fu.at'.hp T.cl_Grove T.na_Grove_parts (Et g) (xwi rfl rfl rfl (SqL.of h3) (Ah (by rw[B7,et];rfl)) ⟨t,rfl,⟨_,SqT.of ht⟩,?_⟩);refine Qr (xs:=q.parts.map V.int) (λj acc H2=>FrQ g H H2/\AF a H2 g G/\acc=((q.parts.take j).map λ(p:Int)=>Bf G m p.toNat).map V.int) ⟨FrQ.refl g H,fu,rfl⟩ (λj acc H2 _ z=>SqT.of (z.1 _ _ ht nt.1 nt.2)) ?_ ?_
     ·rintro j v acc H2 ev ⟨fr,fu2,rfl⟩;obtain⟨k',rfl,hk,ek⟩:=nd.mem ev;refine⟨⟨[some (.int k')],rfl,rfl⟩,by rw[A9,A9,L5,nd.ps];exact Bu (by show min j 4<10000000;lia),LQ (xq1 rfl ⟨g.p,g.dx,(xq1 rfl ⟨fu2.at'.hp,MS g,(xq1 rfl ⟨g,G,k',m,rfl,fu2,hk,by lia,few,λH3 fr3 fu3=>⟨fr.trans fr3,fu3,?_⟩⟩)⟩)⟩)⟩;rw[D3,ek,C1,C1];rfl
     ·rintro acc H2 ⟨fr,fu2,rfl⟩ qd hq;rw[A9,F2]at *
      have s3:=Ak (o:=.lst ((q.parts.map λ(p:Int)=>Bf G m p.toNat).map V.int)) hq;have fu3:=fu2.same s3;refine⟨qd,q.parts.map λ(p:Int)=>Bf G m p.toNat,rfl,SqL.of Ag,?_⟩;generalize upd H2 qd (.lst ((q.parts.map λ(p:Int)=>Bf G m p.toNat).map V.int))=H3 at s3 fu3⊢;obtain⟨ks3,ham3,aok3⟩:=fu3.am;have lk:=aok3.keys.len;have es:(q.parts.map λ(p:Int)=>Bf G m p.toNat).sum=Bf G (m+1) i:=by
       rw[DM nd,nd.ps];rfl
      rw[es];obtain⟨fu4,fr4⟩:=fu3.am_put ham3 (aok3.put (l:=m+1) hl);exact xw2 rfl rfl (xq5 fu3.at'.hp T.cl_Grove T.na_Grove_amounts (SR g) (xq1 rfl ⟨g.am,(xq1 rfl ⟨Md.k (k:=Sum.inl (i:Int)) ham3 (Bu A0),(xq1 rfl (k _ ((fr.trans (Az.frq s3)).trans fr4) fu4))⟩)⟩))
inductive SpLiv(a:Ad)(vs:List V)(H:Hp)(Q:VK):Prop
 |mk (g:GA) (G:Gv) (i l:Nat) (_:vs=[.ref g.p,.int i]) (_:AF a H g G) (_:Al G i l) (_:G.length<9000000) (_:∀H',FrQ g H H'->AF a H' g G->Q (.int (Bf G l i)) H'):SpLiv a vs H Q
def Tt(a:Ad):Sp:=λvs H Q _=>SpLiv a vs H Q
theorem ok_liv{f:Addr}{fd:FuncData}(F:Fun K "living" "Grove.living" EV f fd)(T:Top K mg a)(a8:Cw P w K mg base CX0 2 a.c_Grove "check_square" Br (QD a))(aN:Cw P w K mg base CX0 50 a.c_Grove "counted" Cg (Tv a 49)):AC P w K mg base CX0 51 f fd Dw (Tt a):=by
 refine F.ok LR (λvs H Q E h=>?_) (λcdv A outer s H vs Q E hr h=>?_)
 ·obtain⟨g,G,i,l,rfl,_⟩:=h;rfl
 ·obtain⟨g,G,i,l,rfl,fu,hl,few,k⟩:=h;refine⟨_,(Ab (Be (AE (pv 0) a8 (rm hr) Ao (Aa (pv 1) Ac))) (Ae (An (AE (pv 0) aN (rm hr) Ao (Aa (pv 1) Ac))))),?_⟩
  try dsimp only[cxK]
  have l48:l<49:=by
   obtain⟨q,e,el⟩:=id hl;have:=(fu.ok.lev e).2;lia
  refine xq1 rfl ⟨g.p,g.dx,(xq1 rfl ⟨fu.at'.hp,MT g,(xq1 rfl ⟨g,G,i,rfl,fu.at',hl.lt,?_⟩)⟩)⟩;exact xq1 rfl ⟨g.p,g.dx,(xq1 rfl ⟨fu.at'.hp,MS g,(xq1 rfl ⟨g,G,i,l,rfl,fu,hl,l48,few,k⟩)⟩)⟩
end
theorem Nk(half:Int):∀(l r:List (Option Bx))(k:Nat),Dm half k (l++r)=Dm half k l++Dm half (k+l.length) r
 |[],r,k=>rfl
 |none::l,r,k=>by
  show Dm half (k+1) (l++r)=Dm half (k+1) l++Dm half (k+(l.length+1)) r;rw[Nk half l r (k+1),show k+1+l.length=k+(l.length+1) by lia]
 |some b::l,r,k=>by
  show shB half k b::Dm half (k+1) (l++r)=shB half k b::(Dm half (k+1) l++Dm half (k+(l.length+1)) r);rw[Nk half l r (k+1),show k+1+l.length=k+(l.length+1) by lia]
theorem JO(half:Int):∀(l:List (Option Bx))(k:Nat),(Dm half k l).length<=l.length
 |[],k=>B1 _
 |none::l,k=>C6 (JO half l (k+1)) (P3 _)
 |some b::l,k=>P8 (JO half l (k+1))
theorem PairedM.getL{α β:Type}{F:α->β->Prop}:∀{l:List α}{m:List β}{i:Nat}{x:α},Paired F l m->l[i]?=some x->∃y,m[i]?=some y/\F x y
 |_,_,_,_,.nil,e=>by simp at e
 |_,_,0,_,.cons r _,e=>by simp at e;subst e;exact⟨_,rfl,r⟩
 |_,_,i+1,x,.cons _ t,e=>by
  obtain⟨y,h1,h2⟩:=PairedM.getL (i:=i) (x:=x) t (by simpa using e);exact⟨y,by simpa using h1,h2⟩
def LD(H:Hp)(t:Addr)(b:Bx):Prop:=H t=some (.tup (b.ns.map V.int))
theorem Mq{β:Type}{K:PySem.W.Frag}{k:Nat}{cs:List Nat}{g:TG}{tc:TT}{te:TE}{σ:St}{H:Hp}{fin:List V->Hp->Prop}{D:Addr->β->Prop}{L:Addr}{ts:List Addr}{bs:List β}(col:β->Int)(hL:H L=some (.lst (ts.map V.ref)))(pr:Paired D ts bs)(few:ts.length<1000)
  (hs:∀t b acc N,D t b->acc.length<sizeLine->N (acc++[.int (col b)]) H->Bt k cs g tc te σ (.ref t) acc H N) (hd:fin ((bs.map col).map V.int) H):GY k cs g tc te (Itl K L) σ H fin:=by
 have ln:ts.length=bs.length:=A0b pr;refine IA (xs:=ts.map V.ref) (λj acc H2=>H=H2/\acc=((bs.take j).map col).map V.int) ⟨rfl,rfl⟩ (λj acc H2 _ z=>z.1▸SqL.of hL) ?_ ?_
 ·rintro j v acc H2 ev ⟨rfl,rfl⟩;rw[B7]at ev;obtain⟨t,et,rfl⟩:=F0.mp ev;obtain⟨b,eb,d⟩:=PairedM.getL pr et;refine hs t b _ _ d (by rw[A9,A9,L5];exact Bu A0) ⟨rfl,?_⟩;rw[D3,eb,C1,C1];rfl
 ·rintro acc H2 ⟨rfl,rfl⟩;rw[A9,ln,F2];exact hd
section
variable{P:Program}{w:World}{K:PySem.W.Frag}{mg:Str->Option Value}{base:Heap}{a:Ad}
inductive Uo(vs:List V)(H:Hp)(Q:VK):Prop
 |mk (t:Addr) (b:Bx) (dx dy:Int) (_:vs=[.ref t,.int dx,.int dy]) (_:LD H t b) (_:∀t',H t'=none->Q (.ref t') (upd H t' (.tup [.int (b.l+dx),.int (b.t+dy),.int b.w,.int b.h]))):Uo vs H Q
def Ju:Sp:=λvs H Q _=>Uo vs H Q
theorem Wz{f:Addr}{fd:FuncData}(F:Fun K "shifted_box" "shifted_box" Fv f fd)(T:Top K mg a):AC P w K mg base CX0 1 f fd CL Ju:=by
 refine F.ok MA (λvs H Q E h=>?_) (λcdv A outer s H vs Q E hr h=>?_)
 ·obtain⟨t,b,dx,dy,rfl,_⟩:=h;rfl
 ·obtain⟨t,b,dx,dy,rfl,ht,k⟩:=h;have ht:H t=some (.tup [.int b.l,.int b.t,.int b.w,.int b.h]):=ht;refine⟨_,(Ae (An (Ck (BH AV (Am Ax (pv 0) Af (λ_ _=>rfl)) (pv 1) (BH AV (Am Ax (pv 0) Af (λ_ _=>rfl)) (pv 2) (Aa (Am Ax (pv 0) Af (λ_ _=>rfl)) (Aa (Am Ax (pv 0) Af (λ_ _=>rfl)) Ac))))))),?_⟩
  try dsimp only[cxK]
  refine xwi rfl rfl rfl (SqT.of ht) (Ah (j:=0) rfl) (xwb rfl rfl rfl (xwi rfl rfl rfl (SqT.of ht) (Ah (j:=1) rfl) (xwb rfl rfl rfl (xwi rfl rfl rfl (SqT.of ht) (Ah (j:=2) rfl) (xwi rfl rfl rfl (SqT.of ht) (Ah (j:=3) rfl) ⟨(by show 4<=sizeLine;decide),λt' n=>k t' n⟩)))))
inductive Ur(vs:List V)(H:Hp)(Q:VK):Prop
 |mk (L:Addr) (ts:List Addr) (bs:List Bx) (_:vs=[.ref L]) (_:H L=some (.lst (ts.map V.ref))) (_:Paired (LD H) ts bs) (_:bs≠[]) (_:ts.length<1000) (_:∀t' H',Az H H'->LD H' t' (Nh bs)->Q (.ref t') H'):Ur vs H Q
def Mi:Sp:=λvs H Q _=>Ur vs H Q
theorem WD{f:Addr}{fd:FuncData}(F:Fun K "least_box" "least_box" Ct f fd)(T:Top K mg a):AC P w K mg base CX0 1 f fd Fs Mi:=by
 refine F.ok Dn (λvs H Q E h=>?_) (λcdv A outer s H vs Q E hr h=>?_)
 ·obtain⟨L,ts,bs,rfl,_⟩:=h;rfl
 ·obtain⟨L,ts,bs,rfl,hL,pr,ne,few,k⟩:=h;have nem:∀col:Bx->Int,bs.map col≠[]:=λcol z=>ne (P6.mp z);refine⟨_,(Ab (Aj (i:=1) Dn.nd rfl (Or.inl rfl) (Aw (Lz rfl) rfl T.b_min A1b (Aa (Dt rfl (Cd.of (So:=Ai Ct) (No:=DX) (N:=["box"]) (k:=1) (cs:=[]) rfl rfl A1) (Cm (pv 0)) (λ_ _ _=>(Cf (i:=0) A1 rfl rfl)) (λ_ _ _=>CS) (λ_ _ _=>(Am (DT (K:=K) rfl) (pv 0) Af (λ_ _=>rfl)))) Ac))) (Ab (Aj (i:=2) Dn.nd rfl (Or.inl rfl) (Aw (Lz rfl) rfl T.b_min A1b (Aa (Dt rfl (Cd.of (So:=Ai Ct) (No:=DX) (N:=["box"]) (k:=1) (cs:=[]) rfl rfl A1) (Cm (pv 0)) (λ_ _ _=>(Cf (i:=0) A1 rfl rfl)) (λ_ _ _=>CS) (λ_ _ _=>(Am (DT (K:=K) rfl) (pv 0) Af (λ_ _=>rfl)))) Ac))) (Ab (Aj (i:=3) Dn.nd rfl (Or.inl rfl) (Aw (OQ rfl) rfl T.b_max A2g (Aa (Dt rfl (Cd.of (So:=Ai Ct) (No:=DX) (N:=["box"]) (k:=1) (cs:=[]) rfl rfl A1) (Cm (pv 0)) (λ_ _ _=>(Cf (i:=0) A1 rfl rfl)) (λ_ _ _=>CS) (λ_ _ _=>(AA AV (Am (DT (K:=K) rfl) (pv 0) Af (λ_ _=>rfl)) (Am (DT (K:=K) rfl) (pv 0) Af (λ_ _=>rfl))))) Ac))) (Ab (Aj (i:=4) Dn.nd rfl (Or.inl rfl) (Aw (OQ rfl) rfl T.b_max A2g (Aa (Dt rfl (Cd.of (So:=Ai Ct) (No:=DX) (N:=["box"]) (k:=1) (cs:=[]) rfl rfl A1) (Cm (pv 0)) (λ_ _ _=>(Cf (i:=0) A1 rfl rfl)) (λ_ _ _=>CS) (λ_ _ _=>(AA AV (Am (DT (K:=K) rfl) (pv 0) Af (λ_ _=>rfl)) (Am (DT (K:=K) rfl) (pv 0) Af (λ_ _=>rfl))))) Ac))) (Ae (An (Ck (Aa (pv 1) (Aa (pv 2) (BH CZ (pv 3) (pv 1) (BH CZ (pv 4) (pv 2) Ac))))))))))),?_⟩
  try dsimp only[cxK]
  refine xq1 rfl ⟨L,rfl,⟨_,SqL.of hL⟩,Mq (·.l) hL pr few (λt b acc N d la nx=>⟨⟨[some (.ref t)],rfl,rfl⟩,la,LQ (xwi rfl rfl rfl (SqT.of d) (Ah (j:=0) rfl) nx)⟩) λq1 h1=>?_⟩;refine⟨q1,(xq1 rfl ⟨SqL.of Ag,nem _,λm1 hm1 hn1=>?_⟩)⟩;obtain rfl:=WR hm1 hn1;have s1:=Ak (o:=.lst ((bs.map (·.l)).map V.int)) h1;generalize upd H q1 (.lst ((bs.map (·.l)).map V.int))=H1 at s1⊢;have hL1:=s1 _ _ hL;have pr1:Paired (LD H1) ts bs:=PairedM.imp (λt b z=>s1 _ _ z) pr;refine xq1 rfl ⟨L,rfl,⟨_,SqL.of hL1⟩,Mq (·.t) hL1 pr1 few (λt b acc N d la nx=>⟨⟨[some (.ref t)],rfl,rfl⟩,la,LQ (xwi rfl rfl rfl (SqT.of d) (Ah (j:=1) rfl) nx)⟩) λq2 h2=>?_⟩;refine⟨q2,(xq1 rfl ⟨SqL.of Ag,nem _,λm2 hm2 hn2=>?_⟩)⟩;obtain rfl:=WR hm2 hn2;have s2:=s1.trans (Ak (o:=.lst ((bs.map (·.t)).map V.int)) h2);generalize upd H1 q2 (.lst ((bs.map (·.t)).map V.int))=H2 at s2⊢;have hL2:=s2 _ _ hL;have pr2:Paired (LD H2) ts bs:=PairedM.imp (λt b z=>s2 _ _ z) pr;refine xq1 rfl ⟨L,rfl,⟨_,SqL.of hL2⟩,Mq (λb=>b.l+b.w) hL2 pr2 few (λt b acc N d la nx=>⟨⟨[some (.ref t)],rfl,rfl⟩,la,LQ (xwi rfl rfl rfl (SqT.of d) (Ah (j:=0) rfl) (xwi rfl rfl rfl (SqT.of d) (Ah (j:=2) rfl) (xq2 rfl rfl nx)))⟩) λq3 h3=>?_⟩;refine⟨q3,(xq1 rfl ⟨SqL.of Ag,nem _,λm3 hm3 hn3=>?_⟩)⟩;obtain rfl:=WP hm3 hn3;have s3:=s2.trans (Ak (o:=.lst ((bs.map λb=>b.l+b.w).map V.int)) h3);generalize upd H2 q3 (.lst ((bs.map λb=>b.l+b.w).map V.int))=H3 at s3⊢;have hL3:=s3 _ _ hL;have pr3:Paired (LD H3) ts bs:=PairedM.imp (λt b z=>s3 _ _ z) pr;refine xq1 rfl ⟨L,rfl,⟨_,SqL.of hL3⟩,Mq (λb=>b.t+b.h) hL3 pr3 few (λt b acc N d la nx=>⟨⟨[some (.ref t)],rfl,rfl⟩,la,LQ (xwi rfl rfl rfl (SqT.of d) (Ah (j:=1) rfl) (xwi rfl rfl rfl (SqT.of d) (Ah (j:=3) rfl) (xq2 rfl rfl nx)))⟩) λq4 h4=>?_⟩;refine⟨q4,(xq1 rfl ⟨SqL.of Ag,nem _,λm4 hm4 hn4=>?_⟩)⟩;obtain rfl:=WP hm4 hn4;have s4:=s3.trans (Ak (o:=.lst ((bs.map λb=>b.t+b.h).map V.int)) h4);generalize upd H3 q4 (.lst ((bs.map λb=>b.t+b.h).map V.int))=H4 at s4⊢;exact xw3 rfl rfl rfl (xwb rfl rfl rfl (xw2 rfl rfl (xq2 rfl rfl ⟨(by show 4<=sizeLine;decide),λt5 h5=>k t5 _ (s4.trans (Ak h5)) Ag⟩)))
inductive SpBox(a:Ad)(n:Nat)(vs:List V)(H:Hp)(Q:VK):Prop
 |mk (g:GA) (G:Gv) (i l:Nat) (_:vs=[.ref g.p,.int i]) (_:AF a H g G) (_:Al G i l) (_:l<n) (_:G.length<9000000) (_:(BB G l i=none->∀H',FrQ g H H'->AF a H' g G->Q .non H')) (_:∀b,BB G l i=some b->∀t H',FrQ g H H'->AF a H' g G->LD H' t b->Q (.ref t) H'):SpBox a n vs H Q
def QE(a:Ad)(n:Nat):Sp:=λvs H Q _=>SpBox a n vs H Q
inductive SpMea(a:Ad)(n:Nat)(vs:List V)(H:Hp)(Q:VK):Prop
 |mk (g:GA) (G:Gv) (i l:Nat) (b:Bx) (_:vs=[.ref g.p,.int i]) (_:AF a H g G) (_:Al G i l) (_:l<n) (_:G.length<9000000) (_:BB G l i=some b) (_:∀t H',FrQ g H H'->AF a H' g G->LD H' t b->Q (.ref t) H'):SpMea a n vs H Q
def spMea(a:Ad)(n:Nat):Sp:=λvs H Q _=>SpMea a n vs H Q
theorem Tl(m:Nat){l:Int}(e:l=(m:Int)+1):(1:Int)*2^(l-1).toNat=2^m:=by
 rw[e,Int.one_mul,show((m:Int)+1-1).toNat=m by lia]
theorem ok_mea{n d:Nat}{f:Addr}{fd:FuncData}(F:Fun K "measured" "Grove.measured" CC f fd)(T:Top K mg a)(hd:1<=d)(aE:Cal P w K mg base CX0 1 "shifted_box" CL Ju)(aT:Cal P w K mg base CX0 1 "least_box" Fs Mi)(aR:Cw P w K mg base CX0 d a.c_Grove "boxed" Ch (QE a n)):AC P w K mg base CX0 (d+1) f fd CG (spMea a (n+1)):=by
 refine F.ok Bk (λvs H Q E h=>?_) (λcdv A outer s H vs Q E hr h=>?_)
 ·obtain⟨g,G,i,l,b,rfl,_⟩:=h;rfl
 ·obtain⟨g,G,i,l,b,rfl,fu,hl,ln,few,eb,k⟩:=h;obtain⟨q0,e0,l0⟩:=id hl;refine⟨_,(Ab (Aj (i:=2) Bk.nd rfl (Or.inl rfl) (Am AI (AT (pv 0) rfl) (pv 1) (λ_ _=>rfl))) (Ab (AB (Ar BS (pv 2) Af (Av _)) (Ae (An (Ck (AX (AX (AX (AX Ac))))))) Au) (Ab (Aj (i:=3) Bk.nd rfl (Or.inl rfl) (AA FM Af (AA CZ (pv 2) Af))) (Ab (Aj (i:=4) Bk.nd rfl (Or.inl rfl) (BP Ac)) (Ab (Cv A0d rfl (Ml true rfl T.b_enumerate (Aa (Am AI (AT (pv 0) rfl) (pv 1) (λ_ _=>rfl)) Ac)) (El rfl (AH (AD (i:=5) Bk.nd rfl (Or.inl rfl)) (AH (AD (i:=6) Bk.nd rfl (Or.inl rfl)) CT))) (Ab (Aj (i:=7) Bk.nd rfl (Or.inl rfl) (AE (pv 0) aR (rm hr) Ao (Aa (pv 6) Ac))) (Ae (AB (Ar op_notN (pv 7) Ig (Av _)) (Ae (Be (BV K7 K9 A0a Bh (pv 4) (Aa (Aq aE (rm hr) rfl Ao (Aa (pv 7) (BH Es (pv 3) (AA BR (pv 5) Af) (BH Es (pv 3) (AA ED (pv 5) Af) Ac)))) Ac)))) Au)))) (Ae (An (Aq aT (rm hr) rfl Ao (Aa (pv 4) Ac))))))))),?_⟩
  try dsimp only[cxK]
  refine⟨_,rfl,g.p,_,g.dx,_,_,rfl,fu.at'.hp,T.cl_Grove,T.na_Grove_levels,Fh g,_,rfl,g.lv,_,(i:Int),.int q0.lev,rfl,rfl,SqL.of fu.at'.lv,Ah (by rw[B7,e0];rfl),?_⟩;cases l with
  |zero =>
   rw[l0];refine xq1 rfl ⟨rfl,(xq1 rfl (Bq ⟨(by show 4<=sizeLine;decide),λt ht=>?_⟩))⟩;have e:b=⟨0,0,1,1⟩:=by
    have eb:(if i=0 then none else some (⟨0,0,1,1⟩:Bx))=some b:=eb;split at eb
    ·cases eb
    ·cases eb;rfl
   subst e;have sm:=Ak (o:=.tup [.int 0,.int 0,.int 1,.int 1]) ht;exact k t _ (Az.frq sm) (fu.same sm) Ag
  |succ m =>
   have l0':q0.lev=(m:Int)+1:=by rw[l0];lia
   refine xq1 rfl ⟨rfl,(xq1 rfl ?_)⟩;rw[X6 (by intro z;injection z with z;lia)];obtain⟨q,x,y,z,w,nd⟩:=AK fu.ok hl;obtain⟨ts,h3,h4⟩:=fu.at'.pt;obtain⟨t,et,ht⟩:=PairedM.get h4 nd.g;have ht:H t=some (.tup (q.parts.map V.int)):=ht;have nt:=fu.ne_am ht (by intro l z;cases z);refine AS (xwb rfl rfl rfl (xq2 rfl rfl ⟨⟨by lia,by have:=(fu.ok.lev e0).2;lia,by decide⟩,?_⟩));rw[show(λ(i j:Int)=>V.int (i*2^j.toNat)) 1 (q0.lev-1)=V.int (2^m)from A0e V.int (Tl m l0')];refine⟨(by show 0<=sizeLine;decide),λL hL=>?_⟩;have m1:L≠g.lv:=A0c (As fu.at'.lv hL);have m2:L≠g.pt:=A0c (As h3 hL);have m3:L≠g.br:=A0c (As fu.br hL);have s1:=Ak (o:=.lst []) hL;have hL1:upd H L (.lst []) L=some (.lst []):=Ag;generalize upd H L (.lst [])=H1 at s1 hL1⊢;have fu1:=fu.same s1;have h31:=s1 _ _ h3;have ht1:=s1 _ _ ht;generalize hobs:[BB G m x,BB G m y,BB G m z,BB G m w]=obs;have lobs:obs.length=4:=by rw[<-hobs];rfl
   have eobs:BB G (m+1) i=NO (2^m) obs:=by rw[EK nd,hobs]
   have gobs:∀(j k:Nat),q.parts[j]?=some (k:Int)->obs[j]?=some (BB G m k):=by
    intro j k e;rw[nd.ps]at e;rw[<-hobs]
    match j,e with
    |0,e=>have e:some (x:Int)=some (k:Int):=e;rw[show x=k from K8 (K3 e)];rfl
    |1,e=>have e:some (y:Int)=some (k:Int):=e;rw[show y=k from K8 (K3 e)];rfl
    |2,e=>have e:some (z:Int)=some (k:Int):=e;rw[show z=k from K8 (K3 e)];rfl
    |3,e=>have e:some (w:Int)=some (k:Int):=e;rw[show w=k from K8 (K3 e)];rfl
    |j+4,e=>simp at e
   refine xwf rfl rfl fu1.at'.hp T.cl_Grove T.na_Grove_parts (Et g) (xwi rfl rfl rfl (SqL.of h31) (Ah (by rw[B7,et];rfl)) ⟨t,rfl,⟨_,SqT.of ht1⟩,?_⟩);refine JP (b:=true) (xs:=q.parts.map V.int) (λj σ H2=>∃(us:List Addr)(u5 u6 u7:Option V),σ=[some (.ref g.p),some (.int i),some (.int q0.lev),some (.int (2^m)),some (.ref L),u5,u6,u7]/\FrQ g H H2/\AF a H2 g G/\H2 L=some (.lst (us.map V.ref))/\Paired (LD H2) us (Dm (2^m) 0 (obs.take j))) ⟨[],none,none,none,rfl,Az.frq s1,fu1,hL1,.nil⟩ (λj σ H2 _ ⟨_,_,_,_,_,fr,_⟩=>SqT.of (fr _ _ ht nt.1 nt.2)) ?_ ?_
   ·rintro j v σ H2 T' ev ⟨us,u5,u6,u7,rfl,fr,fu2,hL2,pr⟩ nT;obtain⟨k',rfl,hk,ek⟩:=nd.mem ev;have eo:=gobs j k' ek;have hj:j<4:=by rw[<-lobs];exact(B3.mp eo).1
    have lu:us.length<=4:=by
     rw[A0b pr];have:=JO (2^m) (obs.take j) 0;rw[L5]at this;lia
    have s2:=Ak (o:=.tup [.int j,.int k']) nT;refine Iv Ag ?_;generalize upd H2 T' (.tup [.int j,.int k'])=H3 at s2⊢;have fu3:=fu2.same s2;have ge:Dm (2^m) 0 (obs.take (j+1))=Dm (2^m) 0 (obs.take j)++Dm (2^m) j [BB G m k']:=by
     rw[D3,eo,Z3,Nk,L5,lobs,O4,Nat.min_eq_left A0]
    have nL:∀{H4:Hp},FrQ g H3 H4->H4 L=some (.lst (us.map V.ref)):=λ{H4} f4=>by
     have:=s2 _ _ hL2;have n:=fu3.ne_am this (by intro l z;cases z);exact f4 _ _ this n.1 n.2
    have nP:∀{H4:Hp},FrQ g H3 H4->Paired (LD H4) us (Dm (2^m) 0 (obs.take j)):=λ{H4} f4=>PairedM.imp (λt b z=>by
     have:=s2 _ _ z;have n:=fu3.ne_am this (by intro l z;cases z);exact f4 _ _ this n.1 n.2) pr
    refine xq1 rfl ⟨g.p,g.dx,(xq1 rfl ⟨fu3.at'.hp,QY g,(xq1 rfl ⟨g,G,k',m,rfl,fu3,hk,by lia,few,λen H4 f4 fu4=>?_,λb' eb' t4 H4 f4 fu4 ht4=>?_⟩)⟩)⟩
    ·refine xq1 rfl ⟨rfl,(xq1 rfl (AS ⟨us,_,_,_,rfl,(fr.trans (Az.frq s2)).trans f4,fu4,nL f4,?_⟩))⟩;rw[ge,en];show Paired _ us (_++[]);rw[M2];exact nP f4
    ·refine xq1 rfl ⟨rfl,(xq1 rfl (Bq ?_))⟩;refine xq1 rfl ⟨.inl ⟨rfl,_,SqL.of (nL f4)⟩,(xw3 rfl rfl rfl (xq2 rfl rfl ⟨A7,(xq2 rfl rfl ⟨.inr ⟨by lia,by lia⟩,(xw2 rfl rfl (xq2 rfl rfl ⟨⟨by decide,by decide⟩,(xq2 rfl rfl ⟨.inr ⟨by lia,by lia⟩,?_⟩)⟩))⟩)⟩))⟩;refine⟨t4,b',_,_,rfl,ht4,λt5 h5=>?_⟩;have s5:=Ak (o:=.tup [.int (b'.l+2^m*((j:Int)%2)),.int (b'.t+2^m*((j:Int)/2)),.int b'.w,.int b'.h]) h5;have ht5:LD (upd H4 t5 (.tup [.int (b'.l+2^m*((j:Int)%2)),.int (b'.t+2^m*((j:Int)/2)),.int b'.w,.int b'.h])) t5 (shB (2^m) j b'):=Ag;generalize upd H4 t5 (.tup [.int (b'.l+2^m*((j:Int)%2)),.int (b'.t+2^m*((j:Int)/2)),.int b'.w,.int b'.h])=H5 at s5 ht5⊢;have hL5:=s5 _ _ (nL f4);have fu5:=fu4.same s5;refine⟨L,(xq2 rfl rfl ⟨hL5,by rw[A9];exact Bu A0,?_⟩)⟩;have other:∀{c:Addr}{l:List V},H5 c=some (.tup l)->upd H5 L (.lst (us.map V.ref++[.ref t5])) c=some (.tup l):=λ{c l} e=>by rw[At (AM e hL5 A3)];exact e
     refine⟨us++[t5],_,_,_,rfl,?_,fu5.put hL5 m1 m2 m3,by rw[Ag,C1];rfl,?_⟩
     ·intro c o e n1 n2;have e5:=s5 _ _ (((fr.trans (Az.frq s2)).trans f4) _ _ e n1 n2);rw[At (As e hL)];exact e5
     ·rw[ge,eb'];exact A2h (PairedM.imp (λc b z=>other (s5 _ _ z)) (nP f4)) (other ht5)
   ·rintro σ H2 ⟨us,u5,u6,u7,rfl,fr,fu2,hL2,pr⟩;rw[A9,show q.parts.length=obs.length by rw[nd.ps,lobs];rfl,F2]at pr;have eb2:NO (2^m) obs=some b:=by rw[<-eobs];exact eb
    have lu:us.length<=4:=by
     rw[A0b pr];have:=JO (2^m) obs 0;lia
    have e3:Dm (2^m) 0 obs≠[]/\Nh (Dm (2^m) 0 obs)=b:=by
     unfold NO at eb2;split at eb2
     ·cases eb2
     ·rename_i b1 r1 eg;rw[eg];exact⟨A3,K3 eb2⟩
    refine xq1 rfl ⟨L,us,_,rfl,hL2,pr,e3.1,by lia,λt' H' s' ht'=>?_⟩;rw[e3.2]at ht';exact k t' H' (fr.trans (Az.frq s')) (fu2.same s') ht'
theorem YE{l:Nat}(h:l<=48):((Dk 48).map V.int)[l]?=some (.int (bareN l:Int)):=by
 unfold Dk;rw[B7,B7,P7 A0];rfl
theorem ok_boxS{n d:Nat}{f:Addr}{fd:FuncData}(F:Fun K "boxed" "Grove.boxed" DS f fd)(T:Top K mg a)(bV:Cw P w K mg base CX0 d a.c_Grove "measured" CG (spMea a n)):AC P w K mg base CX0 (d+1) f fd Ch (QE a n):=by
 refine F.ok Dq (λvs H Q E h=>?_) (λcdv A outer s H vs Q E hr h=>?_)
 ·obtain⟨g,G,i,l,rfl,_⟩:=h;rfl
 ·obtain⟨g,G,i,l,rfl,fu,hl,ln,few,k1,k2⟩:=h;obtain⟨q0,e0,l0⟩:=id hl;have l48:l<=48:=by have:=(fu.ok.lev e0).2;lia
  obtain⟨ks,hbx,bok⟩:=fu.bx;have lk:=bok.keys.len;obtain⟨r,eg⟩:=fu.g0;have bb:=IB fu.ok eg l i l48 hl;refine⟨_,(Ab (AB (Ar BS (pv 1) (Am AI (AT (pv 0) rfl) (Am AI (AT (pv 0) rfl) (pv 1) (λ_ _=>rfl)) (λ_ _=>rfl)) (Av _)) (Ae (An Ig)) Au) (Ab (Aj (i:=2) Dq.nd rfl (Or.inl rfl) (MN (Iu hr) (AT (pv 0) rfl) (pv 1) ⟨rfl,rfl,rfl,rfl⟩)) (Ab (AB (Ar MP (pv 2) Ig (Av _)) (Ab (Aj (i:=2) Dq.nd rfl (Or.inl rfl) (AE (pv 0) bV (rm hr) Ao (Aa (pv 1) Ac))) (Ae (IC (Iu hr) (AT (pv 0) rfl) (pv 1) (pv 2) rfl))) Au) (Ae (An (pv 2)))))),?_⟩
  try dsimp only[cxK]
  refine xw2 rfl rfl (xq5 fu.at'.hp T.cl_Grove T.na_Grove_bares (Js g) (xwf rfl rfl fu.at'.hp T.cl_Grove T.na_Grove_levels (Fh g) (xwi rfl rfl rfl (SqL.of fu.at'.lv) (Ah (by rw[B7,e0];rfl)) (xq4 rfl rfl (SqL.of fu.br) (by rw[l0];exact Ah (YE l48)) ⟨rfl,(xq1 rfl ?_)⟩))));refine Ls (λhc=>?_) (λhc=>?_)
  ·have ei:i=bareN l:=by
    have:=A0f hc;injection this with this
    exact K8 this
   exact k1 (bb.mpr ei) H (FrQ.refl g H) fu
  ·have ne:¬i=bareN l:=λz=>hc (by rw[z];exact X7 rfl);obtain⟨b,eb⟩:∃b,BB G l i=some b:=by
    cases e:BB G l i with
    |none=>exact absurd (bb.mp e) ne
    |some b=>exact⟨b,rfl⟩
   refine xwf rfl rfl fu.at'.hp T.cl_Grove T.na_Grove_boxes (Yq g) ⟨g.bx,rfl,.inl ⟨_,.inl hbx⟩,(xq1 rfl ⟨_,GX.k (k:=Sum.inl (i:Int)) hbx,?_⟩)⟩;cases e:Bv ks (Sum.inl (i:Int))with
   |some v =>
    obtain⟨l',b',t,hl',eb',rfl,ht⟩:=bok.val i v e;have el:l'=l:=K8 (hl'.uniq hl);subst el;rw[eb]at eb';cases eb';exact xq1 rfl ⟨rfl,(xq1 rfl (AS (xq1 rfl (k2 b eb t H (FrQ.refl g H) fu ht))))⟩
   |none =>
    refine xq1 rfl ⟨rfl,(xq1 rfl (Bq (xq1 rfl ⟨g.p,g.dx,(xq1 rfl ⟨fu.at'.hp,QX g,(xq1 rfl ⟨g,G,i,l,b,rfl,fu,hl,ln,few,eb,λt H2 f2 fu2 ht2=>?_⟩)⟩)⟩)))⟩;obtain⟨ks2,hbx2,bok2⟩:=fu2.bx;have lk2:=bok2.keys.len;obtain⟨fu3,f3⟩:=fu2.bx_put hbx2 (ks2:=CK ks2 (Sum.inl (i:Int)) (.ref t)) ⟨bok2.keys.put hl.lt _,λj v ev=>by
     rw[FR]at ev;split at ev
     ·rename_i z;injection z with z
      have:j=i:=K8 z;subst this;cases ev;exact⟨l,b,t,hl,eb,rfl,ht2⟩
     ·exact bok2.val j v ev⟩
    have nt:=fu2.ne_am ht2 (by intro l z;cases z);exact xw2 rfl rfl (xq5 fu2.at'.hp T.cl_Grove T.na_Grove_boxes (Yq g) (xq1 rfl ⟨g.bx,(xq1 rfl ⟨Md.k (k:=Sum.inl (i:Int)) hbx2 (Bu A0),(xq1 rfl (k2 b eb t _ (f2.trans f3) fu3 (f3 _ _ ht2 nt.1 nt.2)))⟩)⟩))
theorem WH{f:Addr}{fd:FuncData}{f':Addr}{fd':FuncData}(F:Fun K "boxed" "Grove.boxed" DS f fd)(F':Fun K "measured" "Grove.measured" CC f' fd')(T:Top K mg a)(Me:RQ K a.c_Grove "boxed" f)(Bi:BN K fd Ch [])(Me':RQ K a.c_Grove "measured" f')(Bi':BN K fd' CG [])
  (aE:Cal P w K mg base CX0 1 "shifted_box" CL Ju) (aT:Cal P w K mg base CX0 1 "least_box" Fs Mi):∀n,AC P w K mg base CX0 (2*n+2) f fd Ch (QE a n)
 |0=>by
  refine F.ok Dq (λvs H Q E h=>?_) (λcdv A outer s H vs Q E hr h=>?_)
  ·obtain⟨g,G,i,l,rfl,_,_,h0,_⟩:=h;exact absurd h0 (L6 _)
  ·obtain⟨g,G,i,l,rfl,_,_,h0,_⟩:=h;exact absurd h0 (L6 _)
 |n+1=>ok_boxS F T ⟨⟨f',fd',ok_mea (d:=2*n+2) F' T A0 aE aT ⟨⟨f,fd,WH F F' T Me Bi Me' Bi' aE aT n,Me,Bi⟩,T.cl_Grove⟩,Me',Bi'⟩,T.cl_Grove⟩
inductive YJ(a:Ad)(vs:List V)(H:Hp)(Q:VK):Prop
 |mk (g:GA) (G:Gv) (i l:Nat) (_:vs=[.ref g.p,.int i]) (_:AF a H g G) (_:Al G i l) (_:G.length<9000000) (_:(BB G l i=none->∀H',FrQ g H H'->AF a H' g G->Q .non H')) (_:∀b,BB G l i=some b->∀t H',FrQ g H H'->AF a H' g G->LD H' t b->Q (.ref t) H'):YJ a vs H Q
def RY(a:Ad):Sp:=λvs H Q _=>YJ a vs H Q
theorem ok_span{f:Addr}{fd:FuncData}(F:Fun K "span" "Grove.span" Gn f fd)(T:Top K mg a)(a8:Cw P w K mg base CX0 2 a.c_Grove "check_square" Br (QD a))(aR:Cw P w K mg base CX0 100 a.c_Grove "boxed" Ch (QE a 49)):AC P w K mg base CX0 101 f fd GF (RY a):=by
 refine F.ok NM (λvs H Q E h=>?_) (λcdv A outer s H vs Q E hr h=>?_)
 ·obtain⟨g,G,i,l,rfl,_⟩:=h;rfl
 ·obtain⟨g,G,i,l,rfl,fu,hl,few,k0,k1⟩:=h;refine⟨_,(Ab (Be (AE (pv 0) a8 (rm hr) Ao (Aa (pv 1) Ac))) (Ae (An (AE (pv 0) aR (rm hr) Ao (Aa (pv 1) Ac))))),?_⟩
  try dsimp only[cxK]
  have l48:l<49:=by
   obtain⟨q,e,el⟩:=id hl;have:=(fu.ok.lev e).2;lia
  refine xq1 rfl ⟨g.p,g.dx,(xq1 rfl ⟨fu.at'.hp,MT g,(xq1 rfl ⟨g,G,i,rfl,fu.at',hl.lt,?_⟩)⟩)⟩;exact xq1 rfl ⟨g.p,g.dx,(xq1 rfl ⟨fu.at'.hp,QY g,(xq1 rfl ⟨g,G,i,l,rfl,fu,hl,l48,few,k0,k1⟩)⟩)⟩
end
def atN(ns:List Int)(k:Int):Int:=ns.getD k.toNat 0
section
variable{P:Program}{w:World}{K:PySem.W.Frag}{mg:Str->Option Value}{base:Heap}{a:Ad}
inductive SpAt(K:PySem.W.Frag)(vs:List V)(H:Hp)(Q:VK):Prop
 |mk (l:Addr) (ns:List Int) (k:Int) (_:vs=[.ref l,.int k]) (_:SqL K H l (ns.map V.int)) (_:0<=k) (_:Q (.int (atN ns k)) H):SpAt K vs H Q
def spAt(K:PySem.W.Frag):Sp:=λvs H Q _=>SpAt K vs H Q
theorem ok_at{f:Addr}{fd:FuncData}(F:Fun K "_law_at" "_law_at" Ld f fd)(T:Top K mg a):AC P w K mg base CX0 1 f fd Lh (spAt K):=by
 refine F.ok Si (λvs H Q E h=>?_) (λcdv A outer s H vs Q E hr h=>?_)
 ·obtain⟨l,ns,k,rfl,_⟩:=h;rfl
 ·obtain⟨l,ns,k,rfl,hS,h0,q⟩:=h;refine⟨_,(Ab (AB (Ar Ja (pv 1) (Aw Dx rfl T.b_len A3b (Aa (pv 0) Ac)) (Av _)) (Ae (An (Am AI (pv 0) (pv 1) (λ_ _=>rfl)))) Au) (Ae (An Af))),?_⟩
  try dsimp only[cxK]
  refine⟨_,rfl,_,rfl,l,_,rfl,.inl hS,_,_,rfl,rfl,_,rfl,?_⟩;obtain⟨n,rfl⟩:=W8 h0;refine Ls (λhc=>?_) (λhc=>?_)
  ·have hc':n<ns.length:=by
    have:=A0f hc;rw[A9]at this;lia
   refine⟨_,rfl,_,rfl,l,_,n,.int ns[n],rfl,rfl,hS,Ah (by rw[B7,C3 hc'];rfl),?_⟩;have e:atN ns (n:Int)=ns[n]:=by
    unfold atN;rw[L8,C0,C3 hc'];rfl
   rw[e]at q;exact q
  ·have hc':ns.length<=n:=by
    have:¬(n:Int)<((ns.map V.int).length:Int):=λz=>hc (X7 z);rw[A9]at this;lia
   have e:atN ns (n:Int)=0:=by
    unfold atN;rw[L8,C0,N5 hc'];rfl
   rw[e]at q;exact q
end
inductive SpLaw(K:PySem.W.Frag)(vs:List V)(H:Hp)(Q:VK):Prop
 |mk (a:Addr) (ns:List Int) (_:vs=[.ref a]) (_:SqL K H a (ns.map V.int)) (_:ns.length<=63) (_:∀H',Q (.bl true) H'):SpLaw K vs H Q
def Tu(K:PySem.W.Frag):Sp:=λvs H Q _=>SpLaw K vs H Q
end J
namespace J
open PySem L2
theorem Fr.tup{a:Ad}{g:GA}{G:Gv}{H H':Hp}{x:Addr}{l:List V}(f:Fr g H H')(h:AL a H g G)(e:H x=some (.tup l)):H' x=some (.tup l):=by
 obtain⟨us,h3,_⟩:=h.pt;exact f _ _ e (AM e h.lv A3) (AM e h3 A3) (AM e h.nm A3)
theorem AU.mono{G G':Gv}{n m:Nat}(h:AU G G' n)(e:n<=m):AU G G' m:=⟨h.ok,h.pre,C6 h.few A0⟩
theorem Gr(l:Nat):(0:Int)<2^l:=Int.pow_pos A4
theorem pow2_lt{l:Nat}(h:l<64):(2:Int)^l<2^64:=by
 have:(2:Nat)^l<2^64:=Nat.pow_lt_pow_right A4 h
 exact_mod_cast this
section
variable{P:Program}{w:World}{K:PySem.W.Frag}{mg:Str->Option Value}{base:Heap}{a:Ad}
end
seal L2.PA L2.PE L2.PS L2.PSs L2.PT L2.PW
theorem IE(l:Nat):(2:Int)^(l+1)=2^l+2^l:=by rw[Y2];lia
def CO(x y w h r:Int):Prop:=-r<=x/\-r<=y/\x+w<=r/\y+h<=r
instance(x y w h r:Int):Decidable (CO x y w h r):=by unfold CO;infer_instance
theorem lies_b(x y w h r:Int):(decide (-r<=x) && (decide (-r<=y) && (decide (x+w<=r) && decide (y+h<=r))))=decide (CO x y w h r):=by
 rw[O2];simp only[N8,decide_eq_true_eq];exact Iff.rfl
structure Wid(G:Gv)(n f w:Nat):Prop where
 ex:∃(q:Sq)(x y z v a b c d:Nat),Cb G n f q x y z v/\G[a]?=some ⟨[(bareN n:Int),(bareN n:Int),(bareN n:Int),(x:Int)],(n:Int)+1⟩/\G[b]?=some ⟨[(bareN n:Int),(bareN n:Int),(y:Int),(bareN n:Int)],(n:Int)+1⟩ /\
  G[c]?=some ⟨[(bareN n:Int),(z:Int),(bareN n:Int),(bareN n:Int)],(n:Int)+1⟩/\G[d]?=some ⟨[(v:Int),(bareN n:Int),(bareN n:Int),(bareN n:Int)],(n:Int)+1⟩/\G[w]?=some ⟨[(a:Int),(b:Int),(c:Int),(d:Int)],(n:Int)+2⟩
theorem Wid.lev{G:Gv}{n f w:Nat}(h:Wid G n f w):Al G w ((n+2:Nat):Int):=by
 obtain⟨q,x,y,z,v,a,b,c,d,nd,ea,eb,ec,ed,ew⟩:=h.ex;exact⟨_,ew,by show(n:Int)+2=_;lia⟩
theorem Wid.app{G G':Gv}{k n f w:Nat}(go:AU G G' k)(h:Wid G n f w):Wid G' n f w:=by
 obtain⟨q,x,y,z,v,a,b,c,d,nd,ea,eb,ec,ed,ew⟩:=h.ex;exact⟨q,x,y,z,v,a,b,c,d,nd.app go,go.get ea,go.get eb,go.get ec,go.get ed,go.get ew⟩
theorem Dy{G r:Gv}(e:G=G0++r){n:Nat}(h:n<=48):Al G (bareN n) (n:Int):=by
 rw[e];exact(Yo n h).app
theorem bareL_at'{l:Nat}(h:l<=48):((Dk 48).map V.int)[l]?=some (.int (bareN l:Int)):=by
 unfold Dk;rw[B7,B7,P7 A0];rfl
section
variable{P:Program}{w:World}{K:PySem.W.Frag}{mg:Str->Option Value}{base:Heap}{a:Ad}
inductive SpLie(vs:List V)(H:Hp)(Q:VK):Prop
 |mk (t:Addr) (x y w h r:Int) (_:vs=[.ref t,.int r]) (_:H t=some (.tup [.int x,.int y,.int w,.int h])) (_:Q (.bl (decide (CO x y w h r))) H):SpLie vs H Q
def QC:Sp:=λvs H Q _=>SpLie vs H Q
theorem ok_lie{f:Addr}{fd:FuncData}(F:Fun K "lies_within" "lies_within" Fy f fd)(T:Top K mg a):AC P w K mg base CX0 1 f fd CM QC:=by
 refine F.ok MC (λvs H Q E h=>?_) (λcdv A outer s H vs Q E hr h=>?_)
 ·obtain⟨t,x,y,w,h,r,rfl,_⟩:=h;rfl
 ·obtain⟨t,x,y,wd,hh,r,rfl,ht,k⟩:=h;rw[<-lies_b]at k;refine⟨_,(Ae (An (FF (BY JE (FV DB (pv 1)) (Am Ax (pv 0) Af (λ_ _=>rfl)) (Av _)) (FF (BY JE (FV DB (pv 1)) (Am Ax (pv 0) Af (λ_ _=>rfl)) (Av _)) (FF (BY JE (AA AV (Am Ax (pv 0) Af (λ_ _=>rfl)) (Am Ax (pv 0) Af (λ_ _=>rfl))) (pv 1) (Av _)) (Jn (BY JE (AA AV (Am Ax (pv 0) Af (λ_ _=>rfl)) (Am Ax (pv 0) Af (λ_ _=>rfl))) (pv 1) (Av _)))))))),?_⟩
  try dsimp only[cxK]
  refine xw3 rfl rfl rfl (xq4 rfl rfl (SqT.of ht) (Ah (j:=0) rfl) (xq2 rfl rfl (Qv (λ_ Q1 q1=>?_) k)));refine xw3 rfl rfl rfl (xq4 rfl rfl (SqT.of ht) (Ah (j:=1) rfl) (xq2 rfl rfl (Qv (λ_ Q2 q2=>?_) q1)));refine xwi rfl rfl rfl (SqT.of ht) (Ah (j:=0) rfl) (xwi rfl rfl rfl (SqT.of ht) (Ah (j:=2) rfl) (xq2 rfl rfl (xwb rfl rfl rfl (Qv (λ_ Q3 q3=>?_) q2))));exact xwi rfl rfl rfl (SqT.of ht) (Ah (j:=1) rfl) (xwi rfl rfl rfl (SqT.of ht) (Ah (j:=3) rfl) (xq2 rfl rfl (xwb rfl rfl rfl q3)))
inductive Uq(a:Ad)(vs:List V)(H:Hp)(Q:VK):Prop
 |mk (g:GA) (G:Gv) (i n:Nat) (_:vs=[.ref g.p,.int i]) (_:AL a H g G) (_:Al G i ((n+1:Nat):Int)) (_:n<48) (_:Q (.int (2^n)) H):Uq a vs H Q
def Ge(a:Ad):Sp:=λvs H Q _=>Uq a vs H Q
theorem WB{f:Addr}{fd:FuncData}(F:Fun K "reach_of" "reach_of" Ji f fd)(T:Top K mg a)(a6:Cw P w K mg base CX0 3 a.c_Grove "level_of" AR (IT a)):AC P w K mg base CX0 4 f fd CY (Ge a):=by
 refine F.ok QH (λvs H Q E h=>?_) (λcdv A outer s H vs Q E hr h=>?_)
 ·obtain⟨g,G,i,n,rfl,_⟩:=h;rfl
 ·obtain⟨g,G,i,n,rfl,hg,⟨q,e,el⟩,n48,k⟩:=h;refine⟨_,(Ae (An (AA FM Af (AA CZ (AE (pv 0) a6 (rm hr) Ao (Aa (pv 1) Ac)) Af)))),?_⟩
  try dsimp only[cxK]
  have en:q.lev=(n:Int)+1:=by rw[el];lia
  refine xwn rfl rfl hg.hp (Db g) rfl ⟨g,G,i,q,rfl,hg,e,(xq2 rfl rfl (xq2 rfl rfl ⟨⟨by lia,by lia,by decide⟩,?_⟩))⟩;show Q (.int (1*2^(q.lev-1).toNat)) H;rw[Tl n en];exact k
inductive Uu(a:Ad)(vs:List V)(H:Hp)(Q:VK):Prop
 |mk (g:GA) (G:Gv) (_:vs=[.ref g.p]) (_:AF a H g G) (_:Q (.int (bareN 1:Int)) H):Uu a vs H Q
def Pm(a:Ad):Sp:=λvs H Q _=>Uu a vs H Q
theorem WI{f:Addr}{fd:FuncData}(F:Fun K "bare_field" "bare_field" Gj f fd)(T:Top K mg a):AC P w K mg base CX0 1 f fd GC (Pm a):=by
 refine F.ok NI (λvs H Q E h=>?_) (λcdv A outer s H vs Q E hr h=>?_)
 ·obtain⟨g,G,rfl,_⟩:=h;rfl
 ·obtain⟨g,G,rfl,fu,k⟩:=h;exact⟨_,(Ae (An (Am AI (AT (pv 0) rfl) (BO rfl T.k_LEAST_LEVEL) (λ_ _=>rfl)))),(xwf rfl rfl fu.at'.hp T.cl_Grove T.na_Grove_bares (Js g) (xq4 rfl rfl (SqL.of fu.br) (Ah (j:=1) (bareL_at' A0)) k))⟩
inductive SpWid(a:Ad)(vs:List V)(H:Hp)(Q:VK):Prop
 |mk (g:GA) (G:Gv) (f n:Nat) (_:vs=[.ref g.p,.int f]) (_:AF a H g G) (_:Al G f ((n+1:Nat):Int)) (_:n<47) (_:G.length<8900000) (_:∀(w:Nat)(G':Gv)(H':Hp),Fr g H H'->AL a H' g G'->AU G G' 5->Wid G' n f w->Q (.int w) H'):SpWid a vs H Q
def VL(a:Ad):Sp:=λvs H Q _=>SpWid a vs H Q
theorem ok_wid{f:Addr}{fd:FuncData}(F:Fun K "widened" "widened" JZ f fd)(T:Top K mg a)(a6:Cw P w K mg base CX0 3 a.c_Grove "level_of" AR (IT a))(a7:Cw P w K mg base CX0 2 a.c_Grove "linked" BF (Jg a)):AC P w K mg base CX0 4 f fd Lg (VL a):=by
 refine F.ok Gf (λvs H Q E h=>?_) (λcdv A outer s H vs Q E hr h=>?_)
 ·obtain⟨g,G,f',n,rfl,_⟩:=h;rfl
 ·obtain⟨g,G,f',n,rfl,fu,hl,n47,few,k⟩:=h;obtain⟨q,x,y,z,v,nd⟩:=AK fu.ok hl;have lq:=nd.lev;obtain⟨ts,h3,h4⟩:=fu.at'.pt;obtain⟨t,et,ht⟩:=PairedM.get h4 nd.g;have ht:H t=some (.tup [.int x,.int y,.int z,.int v]):=by
   have ht:H t=some (.tup (q.parts.map V.int)):=ht;rw[nd.ps]at ht;exact ht
  obtain⟨r,e0⟩:=fu.g0;have lb:=Dy e0 (n:=n) A0;refine⟨_,(Ab (Aj (i:=2) Gf.nd rfl (Or.inl rfl) (AE (pv 0) a6 (rm hr) Ao (Aa (pv 1) Ac))) (Ab (AB (PW.pt (EX (Ar Ja (pv 2) (BO rfl T.k_LEAST_LEVEL) (Av _)) (DH (Ar BS (pv 2) (BO rfl T.k_TOP_LEVEL) (Av _))))) (Ae AZ) Au) (Ab (Aj (i:=3) Gf.nd rfl (Or.inl rfl) (Am AI (AT (pv 0) rfl) (pv 1) (λ_ _=>rfl))) (Ab (Aj (i:=4) Gf.nd rfl (Or.inl rfl) (Am AI (AT (pv 0) rfl) (AA CZ (pv 2) Af) (λ_ _=>rfl))) (Ae (An (AE (pv 0) a7 (rm hr) Ao (BE (Aa (AE (pv 0) a7 (rm hr) Ao (BE (Aa (pv 4) (Aa (pv 4) (Aa (pv 4) (Aa (Am Ax (pv 3) Af (λ_ _=>rfl)) Ac)))) Ac)) (Aa (AE (pv 0) a7 (rm hr) Ao (BE (Aa (pv 4) (Aa (pv 4) (Aa (Am Ax (pv 3) Af (λ_ _=>rfl)) (Aa (pv 4) Ac)))) Ac)) (Aa (AE (pv 0) a7 (rm hr) Ao (BE (Aa (pv 4) (Aa (Am Ax (pv 3) Af (λ_ _=>rfl)) (Aa (pv 4) (Aa (pv 4) Ac)))) Ac)) (Aa (AE (pv 0) a7 (rm hr) Ao (BE (Aa (Am Ax (pv 3) Af (λ_ _=>rfl)) (Aa (pv 4) (Aa (pv 4) (Aa (pv 4) Ac)))) Ac)) Ac)))) Ac)))))))),?_⟩
  try dsimp only[cxK]
  refine xq1 rfl ⟨g.p,g.dx,(xq1 rfl ⟨fu.at'.hp,Db g,(xq1 rfl ⟨g,G,f',q,rfl,fu.at',nd.g,?_⟩)⟩)⟩;refine xwb rfl rfl rfl (xq1 rfl ?_);rw[X6 (by lia:¬q.lev<1)];refine AS (xq1 rfl ⟨rfl,(xq1 rfl ?_)⟩);rw[X6 (by intro z;injection z with z;lia)];refine AS (xwf rfl rfl fu.at'.hp T.cl_Grove T.na_Grove_parts (Et g) (xwi rfl rfl rfl (SqL.of h3) (Ah (by rw[B7,et];rfl)) ?_));refine xwf rfl rfl fu.at'.hp T.cl_Grove T.na_Grove_bares (Js g) (xwb rfl rfl rfl (xq4 rfl rfl (SqL.of fu.br) (by rw[show q.lev-1=(n:Int) by lia];exact Ah (bareL_at' A0)) ?_));refine xq1 rfl ⟨g.p,g.dx,(xq1 rfl ⟨fu.at'.hp,Dh g,?_⟩)⟩;refine xq1 rfl ⟨g.p,g.dx,(xq1 rfl ⟨fu.at'.hp,Dh g,(xw3 rfl rfl rfl (xwi rfl rfl rfl (SqT.of ht) (Ah (j:=0) rfl) ⟨(by show 4<=sizeLine;decide),λt1 ht1=>?_⟩))⟩)⟩;have s1:=Ak (o:=.tup [.int (bareN n:Int),.int (bareN n:Int),.int (bareN n:Int),.int x]) ht1;refine⟨g,G,t1,bareN n,bareN n,bareN n,x,(n:Int),rfl,fu.at'.same s1,fu.ok,Ag,⟨lb,lb,lb,nd.hx⟩,by lia,by lia,λa1 G1 H1 fr1 hg1 go1 e1=>?_⟩;have f1:=(Az.fr s1).trans fr1;have htA:=f1.tup fu.at' ht;have n1:=go1.few;refine xwn rfl rfl hg1.hp (Dh g) rfl (xwj rfl rfl rfl rfl (SqT.of htA) (Ah (j:=1) rfl) (xq1 rfl ⟨(by show 4<=sizeLine;decide),λt2 ht2=>?_⟩));have s2:=Ak (o:=.tup [.int (bareN n:Int),.int (bareN n:Int),.int y,.int (bareN n:Int)]) ht2;refine⟨g,G1,t2,bareN n,bareN n,y,bareN n,(n:Int),rfl,hg1.same s2,go1.ok,Ag,⟨go1.lev lb,go1.lev lb,go1.lev nd.hy,go1.lev lb⟩,by lia,by lia,λa2 G2 H2 fr2 hg2 go2 e2=>?_⟩;have f2:=f1.trans ((Az.fr s2).trans fr2);have htB:=f2.tup fu.at' ht;have n2:=go2.few;have go12:=go1.trans go2;refine xwn rfl rfl hg2.hp (Dh g) rfl (xwi rfl rfl rfl (SqT.of htB) (Ah (j:=2) rfl) (xw2 rfl rfl ⟨(by show 4<=sizeLine;decide),λt3 ht3=>?_⟩));have s3:=Ak (o:=.tup [.int (bareN n:Int),.int z,.int (bareN n:Int),.int (bareN n:Int)]) ht3;refine⟨g,G2,t3,bareN n,z,bareN n,bareN n,(n:Int),rfl,hg2.same s3,go2.ok,Ag,⟨go12.lev lb,go12.lev nd.hz,go12.lev lb,go12.lev lb⟩,by lia,by lia,λa3 G3 H3 fr3 hg3 go3 e3=>?_⟩;have f3:=f2.trans ((Az.fr s3).trans fr3);have htC:=f3.tup fu.at' ht;have n3:=go3.few;have go13:=go12.trans go3;refine xwn rfl rfl hg3.hp (Dh g) rfl (xq4 rfl rfl (SqT.of htC) (Ah (j:=3) rfl) (xw3 rfl rfl rfl ⟨(by show 4<=sizeLine;decide),λt4 ht4=>?_⟩));have s4:=Ak (o:=.tup [.int v,.int (bareN n:Int),.int (bareN n:Int),.int (bareN n:Int)]) ht4;refine⟨g,G3,t4,v,bareN n,bareN n,bareN n,(n:Int),rfl,hg3.same s4,go3.ok,Ag,⟨go13.lev nd.hw,go13.lev lb,go13.lev lb,go13.lev lb⟩,by lia,by lia,λa4 G4 H4 fr4 hg4 go4 e4=>?_⟩;have f4:=f3.trans ((Az.fr s4).trans fr4);have n4:=go4.few;have go14:=go13.trans go4;refine⟨(by show 4<=sizeLine;decide),λt5 ht5=>?_⟩;have s5:=Ak (o:=.tup [.int a1,.int a2,.int a3,.int a4]) ht5;have E1:=(go2.trans (go3.trans go4)).get e1;have E2:=(go3.trans go4).get e2;have E3:=go4.get e3;refine⟨g,G4,t5,a1,a2,a3,a4,(n:Int)+1,rfl,hg4.same s5,go4.ok,Ag,⟨⟨_,E1,rfl⟩,⟨_,E2,rfl⟩,⟨_,E3,rfl⟩,⟨_,e4,rfl⟩⟩,by lia,by lia,λw' G5 H5 fr5 hg5 go5 e5=>?_⟩;have go15:=go14.trans go5;exact k w' G5 H5 (f4.trans ((Az.fr s5).trans fr5)) hg5 go15 ⟨q,x,y,z,v,a1,a2,a3,a4,nd.app go15,go5.get E1,go5.get E2,go5.get E3,go5.get e4,by rw[e5,show(n:Int)+1+1=(n:Int)+2 by lia]⟩
end
structure Mb(G:Gv)(n i:Nat)(qs:Nat->Nat)(ps:Nat->Nat->Nat):Prop where
 node:∃q,Cb G (n+1) i q (qs 0) (qs 1) (qs 2) (qs 3)
 sub:∀k,k<4->∃q,Cb G n (qs k) q (ps k 0) (ps k 1) (ps k 2) (ps k 3)
theorem Mb.app{G G':Gv}{k n i:Nat}{qs:Nat->Nat}{ps:Nat->Nat->Nat}(go:AU G G' k)(h:Mb G n i qs ps):Mb G' n i qs ps:=by
 obtain⟨q,nd⟩:=h.node;exact⟨⟨q,nd.app go⟩,λk hk=>by obtain⟨q,nd⟩:=h.sub k hk;exact⟨q,nd.app go⟩⟩
def f4(x y z w:Nat)(k:Nat):Nat:=match k with|0=>x|1=>y|2=>z|_=>w
theorem deep_of{G:Gv}(ok:GOk G){n i:Nat}(h:Al G i ((n+2:Nat):Int)):∃qs ps,Mb G n i qs ps:=by
 obtain⟨q,x,y,z,w,nd⟩:=AK ok (n:=n+1) h;obtain⟨_,x0,x1,x2,x3,nx⟩:=AK ok nd.hx;obtain⟨_,y0,y1,y2,y3,ny⟩:=AK ok nd.hy;obtain⟨_,z0,z1,z2,z3,nz⟩:=AK ok nd.hz;obtain⟨_,w0,w1,w2,w3,nw⟩:=AK ok nd.hw;refine⟨f4 x y z w,λk=>match k with|0=>f4 x0 x1 x2 x3|1=>f4 y0 y1 y2 y3|2=>f4 z0 z1 z2 z3|_=>f4 w0 w1 w2 w3,⟨q,nd⟩,λk hk=>?_⟩
 match k,hk with
 |0,_=>exact⟨_,nx⟩
 |1,_=>exact⟨_,ny⟩
 |2,_=>exact⟨_,nz⟩
 |3,_=>exact⟨_,nw⟩
theorem Cb.nat{G:Gv}{n i:Nat}{q:Sq}{x y z w:Nat}(h:Cb G n i q x y z w){j:Nat}(hj:j<4):q.parts[j]?=some ((f4 x y z w j:Nat):Int)/\Al G (f4 x y z w j) n:=by
 rw[h.ps]
 match j,hj with
 |0,_=>exact⟨rfl,h.hx⟩
 |1,_=>exact⟨rfl,h.hy⟩
 |2,_=>exact⟨rfl,h.hz⟩
 |3,_=>exact⟨rfl,h.hw⟩
theorem Qm(p:Nat->Nat){j:Nat}(hj:j<4):f4 (p 0) (p 1) (p 2) (p 3) j=p j:=by
 match j,hj with
 |0,_=>rfl
 |1,_=>rfl
 |2,_=>rfl
 |3,_=>rfl
def BA(n:Nat)(ps:Nat->Nat->Nat):Prop:=∀k j,k<4->j<4->j+k≠3->ps k j=bareN n
def LO(G:Gv):Nat->Nat->Nat->Prop
 |0,_,_=>False
 |1,f,r=>r=f
 |n+2,f,r=>∃qs ps,Mb G n f qs ps/\((¬BA n ps/\r=f)\/(BA n ps/\∃m,G[m]?=some ⟨[(ps 0 3:Int),(ps 1 2:Int),(ps 2 1:Int),(ps 3 0:Int)],(n:Int)+1⟩/\LO G (n+1) m r))
section
variable{P:Program}{w:World}{K:PySem.W.Frag}{mg:Str->Option Value}{base:Heap}{a:Ad}
theorem Fq{H:Hp}{g:GA}{G:Gv}(h:AL a H g G){n i:Nat}{q:Sq}{x y z w:Nat}(nd:Cb G n i q x y z w):∃(ts:List Addr)(t:Addr),H g.pt=some (.lst (ts.map V.ref))/\(ts.map V.ref)[i]?=some (.ref t)/\H t=some (.tup [.int x,.int y,.int z,.int w]):=by
 obtain⟨ts,h3,h4⟩:=h.pt;obtain⟨t,et,ht⟩:=PairedM.get h4 nd.g;refine⟨ts,t,h3,by rw[B7,et];rfl,?_⟩;have ht:H t=some (.tup (q.parts.map V.int)):=ht;rw[nd.ps]at ht;exact ht
inductive SpMid(a:Ad)(vs:List V)(H:Hp)(Q:VK):Prop
 |mk (g:GA) (G:Gv) (i n:Nat) (qs:Nat->Nat) (ps:Nat->Nat->Nat) (_:vs=[.ref g.p,.int i]) (_:AL a H g G) (_:GOk G) (_:Mb G n i qs ps) (_:n<47) (_:G.length<8900000) (_:∀(m:Nat)(G':Gv)(H':Hp),Fr g H H'->AL a H' g G'->AU G G' 1->G'[m]?=some ⟨[(ps 0 3:Int),(ps 1 2:Int),(ps 2 1:Int),(ps 3 0:Int)],(n:Int)+1⟩->Q (.int m) H'):SpMid a vs H Q
def VR(a:Ad):Sp:=λvs H Q _=>SpMid a vs H Q
theorem ok_mid{f:Addr}{fd:FuncData}(F:Fun K "middle_of" "middle_of" Fo f fd)(T:Top K mg a)(a7:Cw P w K mg base CX0 2 a.c_Grove "linked" BF (Jg a)):AC P w K mg base CX0 3 f fd Ij (VR a):=by
 refine F.ok Jv (λvs H Q E h=>?_) (λcdv A outer s H vs Q E hr h=>?_)
 ·obtain⟨g,G,i,n,qs,ps,rfl,_⟩:=h;rfl
 ·obtain⟨g,G,i,n,qs,ps,rfl,hg,ok,dp,n47,few,k⟩:=h;obtain⟨q,nd⟩:=dp.node;obtain⟨ts,t,h3,et,ht⟩:=Fq hg nd;refine⟨_,(Ab (Sj (i:=2) rfl Jv.nd rfl rfl (Cd.of (So:=Ai Fo) (No:=LI) (N:=["quarter","grove"]) (k:=1) (cs:=[0]) rfl rfl A1) (Sm (Am AI (AT (pv 0) rfl) (pv 1) (λ_ _=>rfl))) (λ_ _ _=>(Cf (i:=0) A1 rfl rfl)) (λ_ _ _=>CS) (λ_ _ _=>(Am (Yh (K:=K) rfl) (pe_fldK (K:=K) rfl (pv 1) rfl) (pv 0) (λ_ _=>rfl)))) (Ae (An (AE (pv 0) a7 (rm hr) Ao (BE (Aa (Am Ax (Am AI (pv 2) Af (λ_ _=>rfl)) Af (λ_ _=>rfl)) (Aa (Am Ax (Am AI (pv 2) Af (λ_ _=>rfl)) Af (λ_ _=>rfl)) (Aa (Am Ax (Am AI (pv 2) Af (λ_ _=>rfl)) Af (λ_ _=>rfl)) (Aa (Am Ax (Am AI (pv 2) Af (λ_ _=>rfl)) Af (λ_ _=>rfl)) Ac)))) Ac))))),?_⟩
  try dsimp only[cxK]
  refine xwf rfl rfl hg.hp T.cl_Grove T.na_Grove_parts (Et g) (xwi rfl rfl rfl (SqL.of h3) (Ah et) ⟨t,rfl,⟨_,SqT.of ht⟩,?_⟩);have sub:∀k,k<4->∃tk,(ts.map V.ref)[qs k]?=some (.ref tk)/\H tk=some (.tup [.int (ps k 0),.int (ps k 1),.int (ps k 2),.int (ps k 3)]):=λk hk=>by
   obtain⟨qk,ndk⟩:=dp.sub k hk;obtain⟨ts',tk,h3',et',ht'⟩:=Fq hg ndk;rw[h3]at h3';have h3':=HO.lst.inj (K3 h3');exact⟨tk,by rw[h3'];exact et',ht'⟩
  obtain⟨t0,e0,p0⟩:=sub 0 A4;obtain⟨t1,e1,p1⟩:=sub 1 A4;obtain⟨t2,e2,p2⟩:=sub 2 A4;obtain⟨t3,e3,p3⟩:=sub 3 A4;have all:∀(j:Nat)(v:V),[V.int (qs 0:Int),V.int (qs 1:Int),V.int (qs 2:Int),V.int (qs 3:Int)][j]?=some v->∃(k:Nat)(tk:Addr),v=.int (k:Int)/\(ts.map V.ref)[k]?=some (.ref tk)/\[V.ref t0,V.ref t1,V.ref t2,V.ref t3][j]?=some (.ref tk):=λj v ev=>by
   match j,ev with
   |0,ev=>cases ev;exact⟨qs 0,t0,rfl,e0,rfl⟩
   |1,ev=>cases ev;exact⟨qs 1,t1,rfl,e1,rfl⟩
   |2,ev=>cases ev;exact⟨qs 2,t2,rfl,e2,rfl⟩
   |3,ev=>cases ev;exact⟨qs 3,t3,rfl,e3,rfl⟩
   |j+4,ev=>simp at ev
  refine Qr (xs:=[.int (qs 0:Int),.int (qs 1:Int),.int (qs 2:Int),.int (qs 3:Int)]) (λj acc H2=>H=H2/\acc=[V.ref t0,V.ref t1,V.ref t2,V.ref t3].take j) ⟨rfl,rfl⟩ (λj acc H2 _ z=>z.1▸SqT.of ht) ?_ ?_
  ·rintro j v acc H2 ev ⟨rfl,rfl⟩;obtain⟨k',tk,rfl,ek,el⟩:=all j v ev;refine⟨⟨[some (.int k')],rfl,rfl⟩,by rw[L5];exact Bu (by show min j 4<10000000;lia),LQ (xwf rfl rfl hg.hp T.cl_Grove T.na_Grove_parts (Et g) (xwi rfl rfl rfl (SqL.of h3) (Ah ek) ⟨rfl,?_⟩))⟩;rw[D3,el];rfl
  ·rintro acc H2 ⟨rfl,rfl⟩ L hL;have s1:=Ak (o:=.lst [V.ref t0,V.ref t1,V.ref t2,V.ref t3]) hL;have hL1:upd H L (.lst [V.ref t0,V.ref t1,V.ref t2,V.ref t3]) L=some (.lst [V.ref t0,V.ref t1,V.ref t2,V.ref t3]):=Ag;rw[show(List.take [V.int (qs 0:Int),V.int (qs 1:Int),V.int (qs 2:Int),V.int (qs 3:Int)].length [V.ref t0,V.ref t1,V.ref t2,V.ref t3])=[V.ref t0,V.ref t1,V.ref t2,V.ref t3]from rfl];generalize upd H L (.lst [V.ref t0,V.ref t1,V.ref t2,V.ref t3])=H1 at s1 hL1⊢;have hg1:=hg.same s1;refine xwn rfl rfl hg1.hp (Dh g) rfl (xq4 rfl rfl (SqL.of hL1) (Ah (j:=0) rfl) (xq4 rfl rfl (SqT.of (s1 _ _ p0)) (Ah (j:=3) rfl) (xwi rfl rfl rfl (SqL.of hL1) (Ah (j:=1) rfl) (xq4 rfl rfl (SqT.of (s1 _ _ p1)) (Ah (j:=2) rfl) ?_))));refine xwi rfl rfl rfl (SqL.of hL1) (Ah (j:=2) rfl) (xq4 rfl rfl (SqT.of (s1 _ _ p2)) (Ah (j:=1) rfl) (xwi rfl rfl rfl (SqL.of hL1) (Ah (j:=3) rfl) (xq4 rfl rfl (SqT.of (s1 _ _ p3)) (Ah (j:=0) rfl) ⟨(by show 4<=sizeLine;decide),λt4 ht4=>?_⟩)));have s2:=Ak (o:=.tup [.int (ps 0 3),.int (ps 1 2),.int (ps 2 1),.int (ps 3 0)]) ht4;obtain⟨_,n0⟩:=dp.sub 0 A4;obtain⟨_,n1⟩:=dp.sub 1 A4;obtain⟨_,n2⟩:=dp.sub 2 A4;obtain⟨_,n3⟩:=dp.sub 3 A4;exact⟨g,G,t4,ps 0 3,ps 1 2,ps 2 1,ps 3 0,(n:Int),rfl,hg1.same s2,ok,Ag,⟨n0.hw,n1.hz,n2.hy,n3.hx⟩,by lia,by lia,λm G' H' fr hg' go e=>k m G' H' ((Az.fr s1).trans ((Az.fr s2).trans fr)) hg' go e⟩
inductive SpBA(a:Ad)(vs:List V)(H:Hp)(Q:VK):Prop
 |mk (g:GA) (G:Gv) (i n:Nat) (qs:Nat->Nat) (ps:Nat->Nat->Nat) (_:vs=[.ref g.p,.int i]) (_:AF a H g G) (_:Mb G n i qs ps) (_:n<47) (_:(BA n ps->∀H',Az H H'->Q (.bl true) H')) (_:(¬BA n ps->∀H',Az H H'->Q (.bl false) H')):SpBA a vs H Q
def spBA(a:Ad):Sp:=λvs H Q _=>SpBA a vs H Q
theorem ok_ba{f:Addr}{fd:FuncData}(F:Fun K "is_bare_around" "is_bare_around" DD f fd)(T:Top K mg a):AC P w K mg base CX0 1 f fd DI (spBA a):=by
 refine F.ok Bs (λvs H Q E h=>?_) (λcdv A outer s H vs Q E hr h=>?_)
 ·obtain⟨g,G,i,n,qs,ps,rfl,_⟩:=h;rfl
 ·obtain⟨g,G,i,n,qs,ps,rfl,fu,dp,n47,k1,k2⟩:=h;obtain⟨q,nd⟩:=dp.node;have lq:=nd.lev;obtain⟨ts,t,h3,et,ht⟩:=Fq fu.at' nd;refine⟨_,(Ab (Aj (i:=2) Bs.nd rfl (Or.inl rfl) (Am AI (AT (pv 0) rfl) (AA CZ (Am AI (AT (pv 0) rfl) (pv 1) (λ_ _=>rfl)) Af) (λ_ _=>rfl))) (Ab (Cv A0d rfl (Ml true rfl T.b_enumerate (Aa (Am AI (AT (pv 0) rfl) (pv 1) (λ_ _=>rfl)) Ac)) (El rfl (AH (AD (i:=3) Bs.nd rfl (Or.inl rfl)) (AH (AD (i:=4) Bs.nd rfl (Or.inl rfl)) CT))) (Ae (Cv A0d rfl (Ml true rfl T.b_enumerate (Aa (Am AI (AT (pv 0) rfl) (pv 4) (λ_ _=>rfl)) Ac)) (El rfl (AH (AD (i:=5) Bs.nd rfl (Or.inl rfl)) (AH (AD (i:=6) Bs.nd rfl (Or.inl rfl)) CT))) (Ae (AB (PW.pt (MG (Ar JD (pv 6) (pv 2) (Av _)) (JB (Ar JD (pv 5) (AA CZ Af (pv 3)) (Av _))))) (Ae (An IZ)) Au))))) (Ae (An IZ)))),?_⟩
  try dsimp only[cxK]
  refine xwf rfl rfl fu.at'.hp T.cl_Grove T.na_Grove_bares (Js g) (xwf rfl rfl fu.at'.hp T.cl_Grove T.na_Grove_levels (Fh g) (xwi rfl rfl rfl (SqL.of fu.at'.lv) (Ah (by rw[B7,nd.g];rfl)) (xq2 rfl rfl (xq4 rfl rfl (SqL.of fu.br) (by rw[show q.lev-2=(n:Int) by lia];exact Ah (bareL_at' A0)) ?_))));refine xwf rfl rfl fu.at'.hp T.cl_Grove T.na_Grove_parts (Et g) (xwi rfl rfl rfl (SqL.of h3) (Ah et) ⟨t,rfl,⟨_,SqT.of ht⟩,?_⟩);refine JP (b:=true) (xs:=[.int (qs 0:Int),.int (qs 1:Int),.int (qs 2:Int),.int (qs 3:Int)]) (λj σ H2=>Az H H2/\(∃u3 u4 u5 u6:Option V,σ=[some (.ref g.p),some (.int i),some (.int (bareN n:Int)),u3,u4,u5,u6])/\∀k' j',k'<j->k'<4->j'<4->j'+k'≠3->ps k' j'=bareN n) ⟨Az.refl H,⟨none,none,none,none,rfl⟩,λk' j' h=>absurd h (L6 _)⟩ (λj σ H2 _ z=>SqT.of (z.1 _ _ ht)) ?_ ?_
  ·rintro j v σ H2 T' ev ⟨sm,⟨u3,u4,u5,u6,rfl⟩,al⟩ nT;have hj:j<4:=(B3.mp ev).1;have ev':v=.int (qs j:Int):=by
    match j,hj,ev with
    |0,_,ev=>cases ev;rfl
    |1,_,ev=>cases ev;rfl
    |2,_,ev=>cases ev;rfl
    |3,_,ev=>cases ev;rfl
   subst ev';obtain⟨qk,ndk⟩:=dp.sub j hj;have s2:=sm.trans (Ak (o:=.tup [.int j,.int (qs j)]) nT);refine Iv Ag ?_;generalize upd H2 T' (.tup [.int j,.int (qs j)])=H3 at s2⊢;obtain⟨ts3,t3,h33,et3,ht3⟩:=Fq (fu.at'.same s2) ndk;refine xwf rfl rfl ((fu.at'.same s2).hp) T.cl_Grove T.na_Grove_parts (Et g) (xwi rfl rfl rfl (SqL.of h33) (Ah et3) ⟨t3,rfl,⟨_,SqT.of ht3⟩,?_⟩);refine JP (b:=true) (xs:=[.int (ps j 0:Int),.int (ps j 1:Int),.int (ps j 2:Int),.int (ps j 3:Int)]) (λj2 σ H4=>Az H3 H4/\(∃u5 u6:Option V,σ=[some (.ref g.p),some (.int i),some (.int (bareN n:Int)),some (.int j),some (.int (qs j)),u5,u6])/\∀j',j'<j2->j'<4->j'+j≠3->ps j j'=bareN n) ⟨Az.refl H3,⟨_,_,rfl⟩,λj' h=>absurd h (L6 _)⟩ (λj2 σ H4 _ z=>SqT.of (z.1 _ _ ht3)) ?_ ?_
   ·rintro j2 v σ H4 T2 ev ⟨sm2,⟨u5,u6,rfl⟩,al2⟩ nT2;have hj2:j2<4:=(B3.mp ev).1;have ev':v=.int (ps j j2:Int):=by
     match j2,hj2,ev with
     |0,_,ev=>cases ev;rfl
     |1,_,ev=>cases ev;rfl
     |2,_,ev=>cases ev;rfl
     |3,_,ev=>cases ev;rfl
    subst ev';have s4:=sm2.trans (Ak (o:=.tup [.int j2,.int (ps j j2)]) nT2);refine Iv Ag ?_;generalize upd H4 T2 (.tup [.int j2,.int (ps j j2)])=H5 at s4⊢;refine xw2 rfl rfl ⟨rfl,(xq1 rfl ?_)⟩;refine VD (b2:=!decide (V.int (j2:Int)=V.int (3-(j:Int)))) (λ_ Q' q=>(xw2 rfl rfl (xq2 rfl rfl ⟨rfl,(xq1 rfl q)⟩))) ?_;refine Ls (λhc=>?_) (λhc=>?_)
    ·refine k2 (λba=>?_) H5 (s2.trans s4);rw[N8]at hc;have c2:¬j2+j=3:=λz=>by
      have:=hc.2;rw[X7 (show V.int (j2:Int)=V.int (3-(j:Int)) by congr 1;lia)]at this;cases this
     have c1:=hc.1;rw[ba j j2 hj hj2 c2,X7 rfl]at c1;cases c1
    ·refine⟨s4,⟨_,_,rfl⟩,λj' h1 h2 h3'=>?_⟩;rcases W3.mp h1 with h|h
     ·exact al2 j' h h2 h3'
     ·subst h;refine A1e λz=>hc ?_;rw[X6 (show ¬V.int (ps j j':Int)=V.int (bareN n:Int) by intro q;injection q with q;exact z (K8 q)),X6 (show ¬V.int (j':Int)=V.int (3-(j:Int)) by intro q;injection q with q;lia)];rfl
   ·rintro σ H4 ⟨sm2,⟨u5,u6,rfl⟩,al2⟩;refine⟨s2.trans sm2,⟨_,_,_,_,rfl⟩,λk' j' h1 h2 h3' h4=>?_⟩;rcases W3.mp h1 with h|h
    ·exact al k' j' h h2 h3' h4
    ·subst h;exact al2 j' h3' h3' h4
  ·rintro σ H2 ⟨sm,⟨u3,u4,u5,u6,rfl⟩,al⟩;exact k1 (λk' j' h1 h2 h3'=>al k' j' h1 h1 h2 h3') H2 sm
end
section
variable{P:Program}{w:World}{K:PySem.W.Frag}{mg:Str->Option Value}{base:Heap}{a:Ad}
inductive YI(a:Ad)(vs:List V)(H:Hp)(Q:VK):Prop
 |mk (g:GA) (G:Gv) (f n:Nat) (_:vs=[.ref g.p,.int f]) (_:AF a H g G) (_:Al G f ((n+1:Nat):Int)) (_:G.length<8800000) (_:∀(r:Nat)(G':Gv)(H':Hp),Fr g H H'->AF a H' g G'->AU G G' 48->LO G' (n+1) f r->Q (.int r) H'):YI a vs H Q
def Pi(a:Ad):Sp:=λvs H Q _=>YI a vs H Q
theorem ok_trim{f:Addr}{fd:FuncData}(F:Fun K "trimmed" "trimmed" La f fd)(T:Top K mg a)(a6:Cw P w K mg base CX0 3 a.c_Grove "level_of" AR (IT a))(aX:Cal P w K mg base CX0 1 "is_bare_around" DI (spBA a))(bS:Cal P w K mg base CX0 3 "middle_of" Ij (VR a)):AC P w K mg base CX0 4 f fd IH (Pi a):=by
 refine F.ok Jh (λvs H Q E h=>?_) (λcdv A outer s H vs Q E hr h=>?_)
 ·apply JN;intro G_ hG_;obtain⟨g,G,f',n,rfl,_⟩:=h;apply hG_;clear hG_ G_;rfl
 ·apply JN;intro G_ hG_;obtain⟨g,G,f',n,rfl,fu,hl,few,k⟩:=h;obtain⟨q,eq,lq⟩:=id hl;apply hG_;clear hG_ G_;have n48:n+1<=48:=by have:=(fu.ok.lev eq).2;lia
  refine⟨_,(Ab (AB (Ar Ja (AE (pv 0) a6 (rm hr) Ao (Aa (pv 1) Ac)) (BO rfl T.k_LEAST_LEVEL) (Av _)) (Ae AZ) Au) (Ab (Aj (i:=2) Jh.nd rfl (Or.inl rfl) (pv 1)) (Ab (QQ A0d (PW.pt (MG (Ar Dg (Am AI (AT (pv 0) rfl) (pv 2) (λ_ _=>rfl)) (BO rfl T.k_LEAST_LEVEL) (Av _)) (JB (BK (Aq aX (rm hr) rfl Ao (Aa (pv 0) (Aa (pv 2) Ac))))))) (Ae (Aj (i:=2) Jh.nd rfl (Or.inl rfl) (Aq bS (rm hr) rfl Ao (Aa (pv 0) (Aa (pv 2) Ac)))))) (Ae (An (pv 2)))))),?_⟩
  try dsimp only[cxK]
  refine xq1 rfl ⟨g.p,g.dx,(xq1 rfl ⟨fu.at'.hp,Db g,(xq1 rfl ⟨g,G,f',q,rfl,fu.at',eq,(xq2 rfl rfl (xq1 rfl ?_))⟩)⟩)⟩;rw[X6 (by lia:¬q.lev<1)];refine AS (xq1 rfl ?_);refine⟨λm σ H2=>∃(G':Gv)(c:Nat),σ=[some (.ref g.p),some (.int f'),some (.int c)]/\Fr g H H2/\AF a H2 g G'/\AU G G' (n-m)/\m<=n/\Al G' c ((m+1:Nat):Int)/\∀(r:Nat)(G'':Gv)(k:Nat),AU G' G'' k->LO G'' (m+1) c r->LO G'' (n+1) f' r,⟨n,G,f',rfl,Fr.refl g H,fu,(AU.refl fu.ok).mono A0,B1 _,hl,λ_ _ _ _ h=>h⟩,?_⟩;rintro m σ H2 z3_;apply JN;intro G_ hG_;obtain⟨G',c,rfl,fr,fu2,go,mn,lc,tr⟩:=z3_;apply hG_;clear hG_ G_;have gf:=go.few;obtain⟨qc,ec,lqc⟩:=id lc;refine xwf rfl rfl fu2.at'.hp T.cl_Grove T.na_Grove_levels (Fh g) (xwi rfl rfl rfl (SqL.of fu2.at'.lv) (Ah (by rw[B7,ec];rfl)) (xq2 rfl rfl (xq1 rfl ?_)));cases m with
  |zero =>
   rw[X6 (by lia:¬(1:Int)<qc.lev)];exact AS (AS (xq1 rfl (k c G' H2 fr fu2 (go.mono A0) (tr c G' 0 (AU.refl fu2.ok) rfl))))
  |succ m =>
   rw[X7 (by lia:(1:Int)<qc.lev)];obtain⟨qs,ps,dp⟩:=deep_of fu2.ok lc;refine Bq (xw2 rfl rfl ⟨g,G',c,m,qs,ps,rfl,fu2,dp,by lia,λba H3 s3=>⟨true,rfl,Bq ?_⟩,λnba H3 s3=>⟨false,rfl,AS ?_⟩⟩)
   ·refine⟨fun σ' H'=>∃(G2:Gv)(c2:Nat),σ'=[some (.ref g.p),some (.int f'),some (.int c2)]/\Fr g H H'/\AF a H' g G2/\AU G G2 (n-m)/\m<=n/\Al G2 c2 ((m+1:Nat):Int)/\∀(r:Nat)(G'':Gv)(k:Nat),AU G2 G'' k->LO G'' (m+1) c2 r->LO G'' (n+1) f' r,fun σ' H' z=>⟨m,by lia,z⟩,?_⟩;refine xw2 rfl rfl ⟨g,G',c,m,qs,ps,rfl,fu2.at'.same s3,fu2.ok,dp,by lia,by lia,λc2 G2 H4 fr4 hg4 go4 e4=>?_⟩;have fu4:=(fu2.same s3).fr fr4 hg4 go4;refine⟨G2,c2,rfl,fr.trans ((Az.fr s3).trans fr4),fu4,(go.trans go4).mono A0,by lia,⟨_,e4,by show(m:Int)+1=_;lia⟩,λr G'' k' go5 t5=>?_⟩;exact tr r G'' _ (go4.trans go5) ⟨qs,ps,dp.app (go4.trans go5),.inr ⟨ba,c2,go5.get e4,t5⟩⟩
   ·exact xq1 rfl (k c G' H3 (fr.trans (Az.fr s3)) (fu2.same s3) (go.mono A0) (tr c G' 0 (AU.refl fu2.ok) ⟨qs,ps,dp,.inl ⟨nba,rfl⟩⟩))
def NC(G:Gv)(n f:Nat):Nat->Nat->Prop
 |0,w=>w=f
 |k+1,w=>∃u,NC G n f k u/\Wid G (n+k) u w
theorem NC.app{G G':Gv}{m n f:Nat}(go:AU G G' m):∀{k w:Nat},NC G n f k w->NC G' n f k w
 |0,_,h=>h
 |k+1,w,h=>by
  obtain⟨u,h1,h2⟩:=h;exact⟨u,NC.app go h1,h2.app go⟩
inductive SpWO(a:Ad)(vs:List V)(H:Hp)(Q:VK):Prop
 |mk (g:GA) (G:Gv) (f n:Nat) (t:Addr) (x y wd ht:Int) (_:vs=[.ref g.p,.int f,.ref t]) (_:AF a H g G) (_:Al G f ((n+1:Nat):Int)) (_:n<=40) (_:H t=some (.tup [.int x,.int y,.int wd,.int ht])) (_:CO x y wd ht (2^40)) (_:G.length<8700000) (_:∀(k w:Nat)(G':Gv)(H':Hp),Fr g H H'->AF a H' g G'->AU G G' (5*k)->n+k<=40->NC G' n f k w->Al G' w ((n+k+1:Nat):Int)->CO x y wd ht (2^(n+k))->(∀j,j<k->¬CO x y wd ht (2^(n+j)))->Q (.int w) H'):SpWO a vs H Q
def spWO(a:Ad):Sp:=λvs H Q _=>SpWO a vs H Q
theorem ok_wo{f:Addr}{fd:FuncData}(F:Fun K "widened_over" "widened_over" EO f fd)(T:Top K mg a)(aC:Cal P w K mg base CX0 1 "lies_within" CM QC)(a9:Cal P w K mg base CX0 4 "reach_of" CY (Ge a))(bW:Cal P w K mg base CX0 4 "widened" Lg (VL a)):AC P w K mg base CX0 5 f fd Du (spWO a):=by
 refine F.ok DY (λvs H Q E h=>?_) (λcdv A outer s H vs Q E hr h=>?_)
 ·apply JN;intro G_ hG_;obtain⟨g,G,f',n,t,x,y,wd,ht,rfl,_⟩:=h;apply hG_;clear hG_ G_;rfl
 ·apply JN;intro G_ hG_;obtain⟨g,G,f',n,t,x,y,wd,hh,rfl,fu,hl,n40,ht,li,few,k⟩:=h;apply hG_;clear hG_ G_;refine⟨_,(Ab (Aj (i:=3) DY.nd rfl (Or.inl rfl) (pv 1)) (Ab (QQ A0d (Cj (BK (Aq aC (rm hr) rfl Ao (Aa (pv 2) (Aa (Aq a9 (rm hr) rfl Ao (Aa (pv 0) (Aa (pv 3) Ac))) Ac))))) (Ae (Aj (i:=3) DY.nd rfl (Or.inl rfl) (Aq bW (rm hr) rfl Ao (Aa (pv 0) (Aa (pv 3) Ac)))))) (Ae (An (pv 3))))),?_⟩
  try dsimp only[cxK]
  refine xq1 rfl ?_;refine⟨λm σ H2=>∃(G':Gv)(c j:Nat),σ=[some (.ref g.p),some (.int f'),some (.ref t),some (.int c)]/\Fr g H H2/\AF a H2 g G'/\AU G G' (5*j)/\n+j+m=40/\Al G' c ((n+j+1:Nat):Int)/\NC G' n f' j c/\∀i,i<j->¬CO x y wd hh (2^(n+i)),⟨40-n,G,f',0,rfl,Fr.refl g H,fu,AU.refl fu.ok,by lia,hl,rfl,λi hi=>absurd hi (L6 _)⟩,?_⟩;rintro m σ H2 z3_;apply JN;intro G_ hG_;obtain⟨G',c,j,rfl,fr,fu2,go,e40,lc,wn,no⟩:=z3_;apply hG_;clear hG_ G_;have gf:=go.few;have ht2:=fr.tup fu.at' ht;refine xq1 rfl (xq1 rfl (xq1 rfl ⟨g,G',c,n+j,rfl,fu2.at',lc,by lia,t,x,y,wd,hh,_,rfl,ht2,_,rfl,?_⟩));by_cases hL:CO x y wd hh (2^(n+j))
  ·rw[X7 hL];exact AS (xq1 rfl (k j c G' H2 fr fu2 go A0 wn lc hL no))
  ·rw[X6 hL];have m0:m≠0:=λz=>by
    subst z;have:n+j=40:=by lia
    rw[this]at hL;exact hL li
   refine Bq ⟨fun σ' H'=>∃(G2:Gv)(c2 j2:Nat),σ'=[some (.ref g.p),some (.int f'),some (.ref t),some (.int c2)]/\Fr g H H'/\AF a H' g G2/\AU G G2 (5*j2)/\n+j2+(m-1)=40/\Al G2 c2 ((n+j2+1:Nat):Int)/\NC G2 n f' j2 c2/\∀i,i<j2->¬CO x y wd hh (2^(n+i)),fun σ' H' z=>⟨m-1,by lia,z⟩,?_⟩;refine xw2 rfl rfl ⟨g,G',c,n+j,rfl,fu2,lc,by lia,by lia,λc2 G2 H3 fr3 hg3 go3 wi=>?_⟩;refine⟨G2,c2,j+1,rfl,fr.trans fr3,fu2.fr fr3 hg3 go3,(go.trans go3).mono A0,by lia,?_,⟨c,wn.app go3,wi⟩,λi hi=>?_⟩
   ·have:=wi.lev;rw[show n+(j+1)+1=n+j+2 by lia];exact this
   ·rcases W3.mp hi with h|h
    ·exact no i h
    ·rw[h];exact hL
end
end J
namespace J
open PySem L2
def quad(l x y:Nat):Nat:=x/2^l+2*(y/2^l)
theorem EF{l x:Nat}(h:x<2^(l+1)):x/2^l<2:=by
 rw[T7 (Nat.pow_pos A4),Z9,<-Y0];exact h
theorem Ez{l x y:Nat}(hx:x<2^(l+1))(hy:y<2^(l+1)):quad l x y<4:=by
 have h1:=EF hx;have h2:=EF hy;unfold quad;lia
theorem Fp(l:Nat):((2^l:Nat):Int)=(2:Int)^l:=Y7 2 l
section
variable{P:Program}{w:World}{K:PySem.W.Frag}{mg:Str->Option Value}{base:Heap}{a:Ad}
end
structure Cl where
 x:Int
 y:Int
 s:Nat
def ClAt(H:Hp)(t:Addr)(c:Cl):Prop:=H t=some (.tup [.int c.x,.int c.y,.int c.s])
section
variable{P:Program}{w:World}{K:PySem.W.Frag}{mg:Str->Option Value}{base:Heap}{a:Ad}
end
def LB(G:Gv)(n f:Nat):Prop:=n=0\/∃m qs ps,n=m+1/\Mb G m f qs ps/\¬BA m ps
theorem LB.app{G G':Gv}{k n f:Nat}(go:AU G G' k)(h:LB G n f):LB G' n f:=by
 rcases h with h|⟨m,qs,ps,e,d,b⟩
 ·exact .inl h
 ·exact .inr ⟨m,qs,ps,e,d.app go,b⟩
def cellF(G:Gv):Nat->Nat->Nat->Nat->Nat
 |0,i,_,_=>i
 |n+1,i,x,y=>match G[i]? with
  |some q=>cellF G n (q.parts.getD (quad n x y) 0).toNat (x%2^n) (y%2^n)
  |none=>0
theorem Bc(n:Nat):0<2^n:=Nat.pow_pos A4
theorem AW{G:Gv}{n i:Nat}{q:Sq}{a b c d:Nat}(h:Cb G n i q a b c d){x y:Nat}(hx:x<2^(n+1))(hy:y<2^(n+1)):cellF G (n+1) i x y=cellF G n (f4 a b c d (quad n x y)) (x%2^n) (y%2^n):=by
 rw[show cellF G (n+1) i x y=(match G[i]? with|some q=>cellF G n (q.parts.getD (quad n x y) 0).toNat (x%2^n) (y%2^n)|none=>0)from rfl,h.g];show cellF G n (q.parts.getD (quad n x y) 0).toNat _ _=_;have:=(h.nat (Ez hx hy)).1;rw[C0,this];rfl
theorem Iz{G G':Gv}{k:Nat}(ok:GOk G)(go:AU G G' k):∀{n i x y:Nat},Al G i (n:Int)->x<2^n->y<2^n->cellF G' n i x y=cellF G n i x y
 |0,_,_,_,_,_,_=>rfl
 |n+1,i,x,y,h,hx,hy=>by
  obtain⟨q,a,b,c,d,nd⟩:=AK ok h;rw[AW nd hx hy,AW (nd.app go) hx hy];exact Iz ok go (nd.nat (Ez hx hy)).2 (J9 _ (Bc n)) (J9 _ (Bc n))
theorem DO{G r:Gv}(e:G=G0++r)(ok:GOk G):∀{n x y:Nat},n<=48->x<2^n->y<2^n->cellF G n (bareN n) x y=0
 |0,_,_,_,_,_=>rfl
 |n+1,x,y,hn,hx,hy=>by
  obtain⟨q,a,b,c,d,nd⟩:=AK ok (Dy e (n:=n+1) hn);have bn:a=bareN n/\b=bareN n/\c=bareN n/\d=bareN n:=by
   have g:=nd.g;rw[show bareN (n+1)=8+n from rfl,Qh e n A0]at g;cases g;have s:[(bareN n:Int),(bareN n:Int),(bareN n:Int),(bareN n:Int)]=[(a:Int),(b:Int),(c:Int),(d:Int)]:=nd.ps;injection s with s0 s
   injection s with s1 s
   injection s with s2 s
   injection s with s3 s
   exact⟨(K8 s0).symm,(K8 s1).symm,(K8 s2).symm,(K8 s3).symm⟩
  obtain⟨rfl,rfl,rfl,rfl⟩:=bn;rw[AW nd hx hy];have:f4 (bareN n) (bareN n) (bareN n) (bareN n) (quad n x y)=bareN n:=by unfold f4;split<;>rfl
  rw[this];exact DO e ok A0 (J9 _ (Bc n)) (J9 _ (Bc n))
theorem DK{n k x y:Nat}(hk:k<4)(hx:x<2^n)(hy:y<2^n):(x+2^n*(k%2))<2^(n+1)/\(y+2^n*(k/2))<2^(n+1)/\quad n (x+2^n*(k%2)) (y+2^n*(k/2))=k/\(x+2^n*(k%2))%2^n=x/\(y+2^n*(k/2))%2^n=y:=by
 have p:=Bc n;have e:2^(n+1)=2*2^n:=by rw[Y0];lia
 unfold quad;rw[U4 _ _ p,U4 _ _ p,Nat.add_mul_mod_self_left,Nat.add_mul_mod_self_left,P9 hx,P9 hy,Nat.mod_eq_of_lt hx,Nat.mod_eq_of_lt hy,e];generalize 2^n=h at *
 match k,hk with
 |0,_=>exact⟨by lia,by lia,rfl,rfl,rfl⟩
 |1,_=>exact⟨by lia,by lia,rfl,rfl,rfl⟩
 |2,_=>exact⟨by lia,by lia,rfl,rfl,rfl⟩
 |3,_=>exact⟨by lia,by lia,rfl,rfl,rfl⟩
theorem EJ{G:Gv}(ok:GOk G):∀{n i j:Nat},Al G i (n:Int)->Al G j (n:Int)->(∀x y,x<2^n->y<2^n->cellF G n i x y=cellF G n j x y)->i=j
 |0,i,j,_,_,h=>h 0 0 A4 A4
 |n+1,i,j,hi,hj,h=>by
  obtain⟨q,a,b,c,d,nd⟩:=AK ok hi;obtain⟨q',a',b',c',d',nd'⟩:=AK ok hj;have key:∀k,k<4->f4 a b c d k=f4 a' b' c' d' k:=λk hk=>by
   refine EJ ok (nd.nat hk).2 (nd'.nat hk).2 λx y hx hy=>?_;obtain⟨h1,h2,h3,h4,h5⟩:=DK hk hx hy;have:=h _ _ h1 h2;rw[AW nd h1 h2,AW nd' h1 h2,h3,h4,h5]at this;exact this
  have k0:a=a':=key 0 A4;have k1:b=b':=key 1 A4;have k2:c=c':=key 2 A4;have k3:d=d':=key 3 A4;subst k0 k1 k2 k3;exact ok.one nd.g nd'.g (nd.ps.trans nd'.ps.symm)
def fieldF(G:Gv)(n f:Nat)(x y:Int):Nat:=if -(2^n)<=x/\x<2^n/\-(2^n)<=y/\y<2^n then cellF G (n+1) f (x+2^n).toNat (y+2^n).toNat else 0
theorem DA{n:Nat}{x:Int}(h0:-(2^n)<=x)(h1:x<2^n):(x+2^n).toNat<2^(n+1):=by
 have e:=Fp (n+1);rw[IE]at e;lia
theorem FY{G G':Gv}{k n f:Nat}(ok:GOk G)(go:AU G G' k)(h:Al G f ((n+1:Nat):Int))(x y:Int):fieldF G' n f x y=fieldF G n f x y:=by
 unfold fieldF;split
 ·rename_i z;exact Iz ok go h (DA z.1 z.2.1) (DA z.2.2.1 z.2.2.2)
 ·rfl
theorem PY{h X:Nat}(u:Nat)(h1:h*u<=X)(h2:X<h*(u+1)):X/h=u/\X%h=X-h*u:=by
 have e:X/h=u:=Nat.div_eq_of_lt_le (by rw[Z9];exact h1) (by rw[Z9];exact h2);exact⟨e,by have:=P1 X h;rw[e]at this;lia⟩
theorem JK(x n:Nat):x%2^(n+1)%2^n=x%2^n:=Nat.mod_mod_of_dvd x ⟨2,by rw[Y0]⟩
theorem Ly{G:Gv}{n i:Nat}{qs:Nat->Nat}{ps:Nat->Nat->Nat}(h:Mb G n i qs ps){x y:Nat}(hx:x<2^(n+2))(hy:y<2^(n+2)):cellF G (n+2) i x y=cellF G n (ps (quad (n+1) x y) (quad n (x%2^(n+1)) (y%2^(n+1)))) (x%2^n) (y%2^n):=by
 obtain⟨q,nd⟩:=h.node;have qk:=Ez (l:=n+1) hx hy;have hx1:x%2^(n+1)<2^(n+1):=J9 _ (Bc _);have hy1:y%2^(n+1)<2^(n+1):=J9 _ (Bc _);obtain⟨q',nk⟩:=h.sub _ qk;rw[AW nd hx hy,Qm qs qk,AW nk hx1 hy1,Qm (ps _) (Ez hx1 hy1),JK,JK]
theorem bits{h u:Nat}(hu:u<2*h):(u+h)/(2*h)=u/h/\(u+h)%(2*h)/h=1-u/h/\(u+h)%h=u%h/\u/h<2:=by
 have p:0<h:=by lia
 rcases Nat.lt_or_ge u h with z|z
 ·have e1:u/h=0:=P9 z;have e2:(u+h)/(2*h)=0:=P9 A0;have e3:(u+h)%(2*h)=u+h:=Nat.mod_eq_of_lt A0;have e4:(u+h)/h=1:=(PY (X:=u+h) 1 A0 A0).1;exact⟨by rw[e1,e2],by rw[e3,e4,e1],Nat.add_mod_right u h,by lia⟩
 ·have e1:u/h=1:=(PY 1 A0 A0).1;have e2:=PY (h:=2*h) (X:=u+h) 1 A0 A0;have e3:(u+h-2*h*1)/h=0:=P9 A0;exact⟨by rw[e1,e2.1],by rw[e2.2,e3,e1],Nat.add_mod_right u h,by lia⟩
theorem MK(n:Nat):2^(n+1)=2*2^n:=by rw[Y0];lia
theorem WU{G:Gv}(ok:GOk G){n i m:Nat}{qs:Nat->Nat}{ps:Nat->Nat->Nat}(h:Mb G n i qs ps)(em:G[m]?=some ⟨[(ps 0 3:Int),(ps 1 2:Int),(ps 2 1:Int),(ps 3 0:Int)],(n:Int)+1⟩){u v:Nat}(hu:u<2^(n+1))(hv:v<2^(n+1)):cellF G (n+2) i (u+2^n) (v+2^n)=cellF G (n+1) m u v:=by
 have lp:∀k j,k<4->j<4->Al G (ps k j) (n:Int):=λk j hk hj=>by
  obtain⟨q,nk⟩:=h.sub k hk;have:=(nk.nat hj).2;rw[Qm (ps k) hj]at this;exact this
 have nm:Cb G n m _ (ps 0 3) (ps 1 2) (ps 2 1) (ps 3 0):=⟨em,rfl,rfl,lp 0 3 A4 A4,lp 1 2 A4 A4,lp 2 1 A4 A4,lp 3 0 A4 A4⟩
 have e1:=MK n;have e2:2^(n+2)=2*2^(n+1):=MK (n+1);have p:=Bc n;rw[Ly h A0 A0,AW nm hu hv];unfold quad;rw[e1];rw[e1]at hu hv;apply JN;intro G_ hG_;obtain⟨a1,a2,a3,a4⟩:=bits hu;obtain⟨b1,b2,b3,b4⟩:=bits hv;apply hG_;clear hG_ G_;rw[a1,a2,a3,b1,b2,b3];have two:∀{A:Nat},A<2->A=0\/A=1:=λ{A} h=>by lia
 have hu2:=two a4;have hv2:=two b4;rcases hu2 with z|z<;>rcases hv2 with z'|z'<;>rw[z,z']<;>rfl
theorem mid_iff'{m X Y:Nat}{x y:Int}(eX:(X:Int)=x+2^(m+1))(eY:(Y:Int)=y+2^(m+1))(hX:X<2^(m+2))(hY:Y<2^(m+2)):quad m (X%2^(m+1)) (Y%2^(m+1))+quad (m+1) X Y=3↔(-(2^m)<=x/\x<2^m/\-(2^m)<=y/\y<2^m):=by
 have p:=Bc m;have e1:=MK m;have e2:2^(m+2)=2*2^(m+1):=MK (m+1);have c1:=Fp m;have c2:=Fp (m+1);rw[e1]at c2;unfold quad;rw[e1];rw[e2,e1]at hX hY;rw[<-c2]at eX eY;rw[<-c1];generalize 2^m=h at *
 have key:∀{X:Nat}{x:Int},(X:Int)=x+((2*h:Nat):Int)->X<2*(2*h)->(X%(2*h)/h+X/(2*h)=1 ↔ -(h:Int)<=x/\x<(h:Int))/\X%(2*h)/h<2/\X/(2*h)<2:=by
  intro X x e l;have h2:0<2*h:=by lia
  have q2:X/(2*h)<2:=by rw[T7 h2];exact l
  have r2:X%(2*h)<2*h:=J9 _ h2;have q1:X%(2*h)/h<2:=by rw[T7 p];exact r2
  have d2:=P1 X (2*h);have d1:=P1 (X%(2*h)) h;have m1:=J9 (X%(2*h)) p;refine⟨?_,q1,q2⟩;generalize X/(2*h)=u at *
  generalize X%(2*h)/h=v at *
  generalize X%(2*h)%h=t at *
  generalize X%(2*h)=rr at *
  have hu:u=0\/u=1:=by lia
  have hv:v=0\/v=1:=by lia
  rcases hu with rfl|rfl<;>rcases hv with rfl|rfl<;>simp only[Nat.mul_zero,Nat.mul_one,O4]at d1 d2<;>lia
 obtain⟨kx,x1,x2⟩:=key eX hX;obtain⟨ky,y1,y2⟩:=key eY hY;clear key;generalize X%(2*h)/h=A at *
 generalize X/(2*h)=B at *
 generalize Y%(2*h)/h=C at *
 generalize Y/(2*h)=D at *
 constructor
 ·intro z;have zx:=kx.mp A0;have zy:=ky.mp A0;exact⟨zx.1,zx.2,zy.1,zy.2⟩
 ·rintro z0_;apply JN;intro G_ hG_;obtain⟨z1,z2,z3,z4⟩:=z0_;apply hG_;clear hG_ G_;have zx:=kx.mpr ⟨z1,z2⟩;have zy:=ky.mpr ⟨z3,z4⟩;lia
theorem Oy{G r:Gv}(e0:G=G0++r)(ok:GOk G){n i m:Nat}(hn:n<=46){qs:Nat->Nat}{ps:Nat->Nat->Nat}(h:Mb G n i qs ps)(ba:BA n ps)(em:G[m]?=some ⟨[(ps 0 3:Int),(ps 1 2:Int),(ps 2 1:Int),(ps 3 0:Int)],(n:Int)+1⟩)(x y:Int):fieldF G (n+1) i x y=fieldF G n m x y:=by
 have s1:=IE n;have p:=Gr n;unfold fieldF;by_cases hin:-(2^n)<=x/\x<2^n/\-(2^n)<=y/\y<2^n
 ·apply JN;intro G_ hG_;obtain⟨a1,a2,a3,a4⟩:=hin;apply hG_;clear hG_ G_;rw[X9 ⟨by lia,by lia,by lia,by lia⟩,X9 ⟨a1,a2,a3,a4⟩];have hu:=DA a1 a2;have hv:=DA a3 a4;have c:=Fp n;have ex:(x+2^(n+1)).toNat=(x+2^n).toNat+2^n:=by lia
  have ey:(y+2^(n+1)).toNat=(y+2^n).toNat+2^n:=by lia
  rw[ex,ey];exact WU ok h em hu hv
 ·rw[X8 hin];split
  ·rename_i z;apply JN;intro G_ hG_;obtain⟨z1,z2,z3,z4⟩:=z;apply hG_;clear hG_ G_;have hX:=DA z1 z2;have hY:=DA z3 z4;rw[Ly h hX hY];have ne:¬quad n ((x+2^(n+1)).toNat%2^(n+1)) ((y+2^(n+1)).toNat%2^(n+1))+quad (n+1) (x+2^(n+1)).toNat (y+2^(n+1)).toNat=3:=λq=>hin ((mid_iff' (N2 A0) (N2 A0) hX hY).mp q);rw[ba _ _ (Ez hX hY) (Ez (J9 _ (Bc _)) (J9 _ (Bc _))) ne];exact DO e0 ok A0 (J9 _ (Bc _)) (J9 _ (Bc _))
  ·rfl
theorem Mt{G r0:Gv}(e0:G=G0++r0)(ok:GOk G):∀{n f r:Nat},n<=47->Al G f ((n+1:Nat):Int)->LO G (n+1) f r->∃m,m<=n/\Al G r ((m+1:Nat):Int)/\LB G m r/\∀x y,fieldF G m r x y=fieldF G n f x y
 |0,f,r,_,hl,h=>by
  have h:r=f:=h;subst h;exact⟨0,B1 _,hl,.inl rfl,λ_ _=>rfl⟩
 |n+1,f,r,hn,hl,h=>by
  apply JN;intro G_ hG_;obtain⟨qs,ps,d,h⟩:=h;apply hG_;clear hG_ G_;rcases h with ⟨nb,rfl⟩|⟨ba,m,em,h⟩
  ·exact⟨n+1,B1 _,hl,.inr ⟨n,qs,ps,rfl,d,nb⟩,λ_ _=>rfl⟩
  ·obtain⟨k,hk,lk,tk,ek⟩:=Mt e0 ok A0 ⟨_,em,by show(n:Int)+1=_;lia⟩ h;refine⟨k,by lia,lk,tk,λx y=>?_⟩;rw[ek x y,Oy e0 ok A0 d ba em x y]
theorem Ux{G r:Gv}(e0:G=G0++r)(ok:GOk G){n f w:Nat}(hn:n<=46)(h:Wid G n f w)(x y:Int):fieldF G (n+1) w x y=fieldF G n f x y:=by
 apply JN;intro G_ hG_;obtain⟨q,a,b,c,d,w0,w1,w2,w3,nd,ea,eb,ec,ed,ew⟩:=h.ex;apply hG_;clear hG_ G_;have lb:=Dy e0 (n:=n) A0;have lv:∀{p:Nat}{l:List Int},G[p]?=some ⟨l,(n:Int)+1⟩->Al G p ((n+1:Nat):Int):=λ{p l} e=>⟨_,e,by show(n:Int)+1=_;lia⟩
 have dp:Mb G n w (f4 w0 w1 w2 w3) (λk j=>if j+k=3 then f4 a b c d k else bareN n):=by
  refine⟨⟨_,ew,rfl,by show(n:Int)+2=_;lia,lv ea,lv eb,lv ec,lv ed⟩,λk hk=>?_⟩
  match k,hk with
  |0,_=>exact⟨_,ea,rfl,rfl,lb,lb,lb,nd.hx⟩
  |1,_=>exact⟨_,eb,rfl,rfl,lb,lb,nd.hy,lb⟩
  |2,_=>exact⟨_,ec,rfl,rfl,lb,nd.hz,lb,lb⟩
  |3,_=>exact⟨_,ed,rfl,rfl,nd.hw,lb,lb,lb⟩
 have g:=nd.g;have l:=nd.lev;have ps:=nd.ps;refine Oy e0 ok hn dp (λk j _ _ ne=>X8 ne) ?_ x y;rw[g];cases q with
 |mk pp ll=>cases ps;cases l;rfl
theorem Jf{G r:Gv}(e0:G=G0++r)(ok:GOk G){n f:Nat}:∀{k w:Nat},n+k<=46->NC G n f k w->∀x y,fieldF G (n+k) w x y=fieldF G n f x y
 |0,w,_,h,x,y=>by
  have h:w=f:=h;subst h;rfl
 |k+1,w,hk,h,x,y=>by
  obtain⟨u,h1,h2⟩:=h;rw[show n+(k+1)=n+k+1 by lia,Ux e0 ok A0 h2 x y];exact Jf e0 ok A0 h1 x y
theorem Yb{G r:Gv}(e0:G=G0++r)(ok:GOk G){n i:Nat}(hn:n<=48)(h:Al G i (n:Int))(ne:i≠bareN n):∃x y,x<2^n/\y<2^n/\cellF G n i x y≠0:=by
 refine A1e λz=>ne (EJ ok h (Dy e0 hn) λx y hx hy=>?_);rw[DO e0 ok hn hx hy];exact A1e λq=>z ⟨x,y,hx,hy,q⟩
theorem VB{G r:Gv}(e0:G=G0++r)(ok:GOk G){m f:Nat}(hm:m<=46)(h:LB G (m+1) f):∃x y:Int,¬(-(2^m)<=x/\x<2^m/\-(2^m)<=y/\y<2^m)/\fieldF G (m+1) f x y≠0:=by
 rcases h with h|⟨m',qs,ps,e,dp,nb⟩
 ·lia
 ·have:m'=m:=by lia
  subst this;have:∃k j,k<4/\j<4/\j+k≠3/\ps k j≠bareN m':=by
   refine A1e λz=>nb λk j hk hj ne=>A1e λq=>z ⟨k,j,hk,hj,ne,q⟩
  apply JN;intro G_ hG_;obtain⟨k,j,hk,hj,ne,nbare⟩:=this;obtain⟨qk,nk⟩:=dp.sub k hk;apply hG_;clear hG_ G_;have lp:Al G (ps k j) (m':Int):=by
   have:=(nk.nat hj).2;rw[Qm (ps k) hj]at this;exact this
  obtain⟨u,v,hu,hv,hc⟩:=Yb e0 ok A0 lp nbare;apply JN;intro G_ hG_;obtain⟨a1,a2,a3,a4,a5⟩:=DK hj hu hv;obtain⟨b1,b2,b3,b4,b5⟩:=DK (n:=m'+1) hk a1 a2;apply hG_;clear hG_ G_;generalize hX:u+2^m'*(j%2)+2^(m'+1)*(k%2)=X at *
  generalize hY:v+2^m'*(j/2)+2^(m'+1)*(k/2)=Y at *
  have c1:=Fp (m'+1);have c2:=Fp (m'+2);have s2:=IE (m'+1);rw[s2]at c2;refine⟨(X:Int)-2^(m'+1),(Y:Int)-2^(m'+1),λz=>ne ?_,?_⟩
  ·have:=(mid_iff' (X:=X) (Y:=Y) A0 A0 b1 b2).mpr z;rw[b3,b4,b5,a3]at this;exact this
  ·unfold fieldF;rw[X9 ⟨by lia,by lia,by lia,by lia⟩,show((X:Int)-2^(m'+1)+2^(m'+1)).toNat=X by lia,show((Y:Int)-2^(m'+1)+2^(m'+1)).toNat=Y by lia,Ly dp b1 b2,b3,b4,b5,a3];have d1:X%2^m'=u:=by rw[<-JK,b4,a4]
   have d2:Y%2^m'=v:=by rw[<-JK,b5,a5]
   rw[d1,d2];exact hc
theorem SS{G r:Gv}(e0:G=G0++r)(ok:GOk G){n m f f':Nat}(hn:n<=47)(hm:m<=47)(lf:Al G f ((n+1:Nat):Int))(lf':Al G f' ((m+1:Nat):Int))(t:LB G n f)(t':LB G m f')(h:∀x y,fieldF G n f x y=fieldF G m f' x y):n=m/\f=f':=by
 have le:∀{n m f f':Nat},m<=47->LB G m f'->(∀x y,fieldF G n f x y=fieldF G m f' x y)->m<=n:=by
  intro n m f f' hm t' h;refine R6 λz=>?_;obtain⟨k,rfl⟩:∃k,m=k+1:=⟨m-1,by lia⟩
  obtain⟨x,y,out,lv⟩:=VB e0 ok A0 t';rw[<-h x y]at lv;unfold fieldF at lv;split at lv
  ·rename_i q;have:(2:Int)^n<=2^k:=by
    have:=Y8 (show 0<2 by decide) (show n<=k by lia)
    exact_mod_cast this
   exact out ⟨by lia,by lia,by lia,by lia⟩
  ·exact lv rfl
 have e1:=le hm t' h;have e2:=le hn t λx y=>(h x y).symm;have e:n=m:=by lia
 subst e;refine⟨rfl,EJ ok lf lf' λx y hx hy=>?_⟩;have c1:=Fp n;have c2:=Fp (n+1);have s2:=IE n;rw[s2]at c2;have:=h ((x:Int)-2^n) ((y:Int)-2^n);unfold fieldF at this;rw[X9 ⟨by lia,by lia,by lia,by lia⟩,X9 ⟨by lia,by lia,by lia,by lia⟩,show((x:Int)-2^n+2^n).toNat=x by lia,show((y:Int)-2^n+2^n).toNat=y by lia]at this;exact this
def Fix:HO->Prop
 |.tup _=>True
 |.ins _ _ _=>True
 |_=>False
def Fx(l:List Addr)(H H':Hp):Prop:=∀b o,H b=some o->(b∈l->Fix o)->H' b=some o
theorem Fx.refl(l:List Addr)(H:Hp):Fx l H H:=λ_ _ e _=>e
theorem Fx.trans{l:List Addr}{H1 H2 H3:Hp}(h:Fx l H1 H2)(h2:Fx l H2 H3):Fx l H1 H3:=λb o e n=>h2 b o (h b o e n) n
theorem Az.fx{l:List Addr}{H1 H2:Hp}(h:Az H1 H2):Fx l H1 H2:=λb o e _=>h b o e
theorem Fx.mono{l m:List Addr}{H1 H2:Hp}(h:Fx l H1 H2)(s:∀x∈l,x∈m):Fx m H1 H2:=λb o e n=>h b o e λz=>n (s b z)
theorem Fx.get{l:List Addr}{H1 H2:Hp}(h:Fx l H1 H2){b:Addr}{o:HO}(n:b∉l)(e:H1 b=some o):H2 b=some o:=h b o e λz=>absurd z n
theorem Fx.tup{l:List Addr}{H1 H2:Hp}(h:Fx l H1 H2){b:Addr}{xs:List V}(e:H1 b=some (.tup xs)):H2 b=some (.tup xs):=h b _ e λ_=>True.intro
theorem fx_up{H:Hp}{x:Addr}{o o':HO}(e:H x=some o)(n:¬Fix o):Fx [x] H (upd H x o'):=λb u e2 f=>by
 by_cases z:b=x
 ·subst z;rw[e]at e2;cases e2;exact absurd (f (C4.mpr rfl)) n
 ·rw[At z];exact e2
theorem Fr.fx{a:Ad}{g:GA}{G:Gv}{H H':Hp}(h:Fr g H H')(at':AL a H g G):Fx [g.lv,g.pt,g.nm] H H':=λb o e f=>by
 obtain⟨ts,h3,_⟩:=at'.pt;refine h b o e (λz=>?_) (λz=>?_) (λz=>?_)
 ·subst z;rw[at'.lv]at e;cases e;exact f A5
 ·subst z;rw[h3]at e;cases e;exact f A5
 ·subst z;rw[at'.nm]at e;cases e;exact f A5
theorem FrQ.fx{a:Ad}{g:GA}{G:Gv}{H H':Hp}(h:FrQ g H H')(fu:AF a H g G):Fx [g.am,g.bx] H H':=λb o e f=>by
 obtain⟨ks,h1,_⟩:=fu.am;obtain⟨ks',h2,_⟩:=fu.bx;refine h b o e (λz=>?_) (λz=>?_)
 ·subst z;rw[h1]at e;cases e;exact f A5
 ·subst z;rw[h2]at e;cases e;exact f A5
def BM(g:GA):List Addr:=[g.lv,g.pt,g.nm,g.br,g.am,g.bx]
theorem AF.fx{a:Ad}{g:GA}{G:Gv}{H H':Hp}{l:List Addr}(h:AF a H g G)(f:Fx l H H')(n:∀x∈BM g,x∉l):AF a H' g G:=by
 obtain⟨at',ok,g0,br,⟨ks,h1,h2⟩,⟨ks',h3,h4⟩,n1,n2,n3⟩:=h;obtain⟨p1,p2,⟨ts,p3,p4⟩,p5,p6⟩:=at';have m:∀x∈BM g,∀o,H x=some o->H' x=some o:=λx hx o e=>f.get (n x hx) e;refine⟨⟨f _ _ p1 λ_=>True.intro,m _ (by simp[BM]) _ p2,⟨ts,m _ (by simp[BM]) _ p3,PairedM.imp (λt q z=>f.tup z) p4⟩,m _ (by simp[BM]) _ p5,p6⟩,ok,g0,m _ (by simp[BM]) _ br,⟨ks,m _ (by simp[BM]) _ h1,h2⟩,⟨ks',m _ (by simp[BM]) _ h3,h4.keys,λi v e=>?_⟩,n1,n2,n3⟩;obtain⟨l,b,t,e1,e2,e3,e4⟩:=h4.val i v e;exact⟨l,b,t,e1,e2,e3,f.tup e4⟩
theorem Az.noneOf{H H':Hp}(s:Az H H'){x:Addr}(n:H' x=none):H x=none:=by
 cases e:H x with
 |none=>rfl
 |some o=>rw[s _ _ e]at n;cases n
structure Nw(H:Hp)(l:List Addr):Prop where
 nd:l.Nodup
 s:∀x∈l,∃o,H x=some o
theorem AF.nw{a:Ad}{H:Hp}{g:GA}{G:Gv}(h:AF a H g G):Nw H (BM g):=by
 obtain⟨⟨_,h2,⟨ts,h3,_⟩,h5,h6⟩,_,_,h7,⟨ks,h8,_⟩,⟨ks',h9,_⟩,n1,n2,n3⟩:=h;have t:∀{x y:Addr}{o o':HO},H x=some o->H y=some o'->o≠o'->x≠y:=λ{x y o o'} e e' n=>AM e e' n;refine⟨?_,λx hx=>?_⟩
 ·simp only[BM,Q5,C2,L9,A3d,not_or,not_false_eq_true,V4,and_true];exact⟨⟨h6,t h2 h5 A3,A0c n1,t h2 h8 A3,t h2 h9 A3⟩,⟨t h3 h5 A3,A0c n2,t h3 h8 A3,t h3 h9 A3⟩,⟨t h5 h7 A3,t h5 h8 A3,t h5 h9 A3⟩,⟨t h7 h8 A3,t h7 h9 A3⟩,n3⟩
 ·simp only[BM,C2,L9,A3d]at hx;rcases hx with rfl|rfl|rfl|rfl|rfl|rfl
  ·exact⟨_,h2⟩
  ·exact⟨_,h3⟩
  ·exact⟨_,h5⟩
  ·exact⟨_,h7⟩
  ·exact⟨_,h8⟩
  ·exact⟨_,h9⟩
theorem CW{H:Hp}{x y:Addr}{o:HO}(h:upd H x o y=none):H y=none:=by
 by_cases e:y=x
 ·subst e;rw[Ag]at h;cases h
 ·rw[At e]at h;exact h
theorem RO.none{a:Ad}{H H':Hp}{x dx:Addr}{o o':HO}{g:GA}{G:Gv}{B:List Int}{am:List (Key×V)}(N:RO a (upd (upd H dx o) x o') H' g G B am):∀y∈BM g,H y=none:=λy hy=>by
 obtain⟨f1,f2,f3,f4,f5,f6⟩:=N.fresh;simp only[BM,C2,L9,A3d]at hy;rcases hy with rfl|rfl|rfl|rfl|rfl|rfl
 ·exact CW (CW f1)
 ·exact CW (CW f2)
 ·exact CW (CW f3)
 ·exact CW (CW f4)
 ·exact CW (CW f5)
 ·exact CW (CW f6)
theorem ev_test{c:TT}{σ:St}{H:Hp}{Q:Bool->Hp->Prop}(b:Bool)(h:∀Q':Bool->Hp->Prop,Q' b H->c σ H Q')(q:Q b H):c σ H Q:=h Q q
theorem ev_val{t:TE}{σ:St}{H:Hp}{Q:VK}(P:V->Hp->Prop)(h:∀Q':VK,(∀v H',P v H'->Q' v H')->t σ H Q')(q:∀v H',P v H'->Q v H'):t σ H Q:=h Q q
theorem Sol.uniq{G:Gv}(ok:GOk G){s:Nat}:∀{l n m:Nat},Sol G s l n->Sol G s l m->n=m
 |0,n,m,h,h2=>by
  have h:n=s:=h;have h2:m=s:=h2;rw[h,h2]
 |l+1,n,m,h,h2=>by
  obtain⟨a,h1,e1⟩:=h;obtain⟨b,h3,e3⟩:=h2;have:=Sol.uniq ok h1 h3;subst this;exact ok.one e1 e3 rfl
structure Fk(G:Gv)(n i o:Nat)(l t r b:Int)(m:Nat):Prop where
 lev:Al G m (n:Int)
 cell:∀x y:Nat,x<2^n->y<2^n->cellF G n m x y=if(l<=x/\(x:Int)<r)/\(t<=y/\(y:Int)<b)then cellF G n i x y else cellF G n o x y
theorem Fk.app{G G':Gv}{k n i o m:Nat}{l t r b:Int}(ok:GOk G)(go:AU G G' k)(hi:Al G i (n:Int))(ho:Al G o (n:Int))(h:Fk G n i o l t r b m):Fk G' n i o l t r b m:=⟨go.lev h.lev,λx y hx hy=>by rw[Iz ok go h.lev hx hy,Iz ok go hi hx hy,Iz ok go ho hx hy];exact h.cell x y hx hy⟩
def spl(s e h:Int):Nat->Int×Int
 |0=>(s,if h<e then h else e)
 |_=>(if s-h<0 then 0 else s-h,e-h)
theorem Mg{s e:Int}{n x u:Nat}(hx:x<2^(n+1))(hu:x/2^n=u):((spl s e (2^n) u).1<=((x%2^n:Nat):Int)/\((x%2^n:Nat):Int)<(spl s e (2^n) u).2)↔(s<=x/\(x:Int)<e):=by
 have p:(0:Int)<2^n:=Gr n;have e1:(2:Int)^n=((2^n:Nat):Int):=by exact_mod_cast rfl
 have dm:=P1 x (2^n);have lt:=J9 x (Bc n);have hu2:=EF hx;rw[hu]at dm hu2;rw[e1]at p⊢;generalize 2^n=h at *
 match u,hu2 with
 |0,_ =>
  have ex:x%h=x:=by rw[Nat.mul_zero,O4]at dm;exact dm
  show(s<=((x%h:Nat):Int)/\((x%h:Nat):Int)<if(h:Int)<e then(h:Int)else e)↔_;rw[ex];split<;>lia
 |1,_ =>
  have ex:x=h+x%h:=by rw[Nat.mul_one]at dm;exact dm.symm
  show((if s-(h:Int)<0 then(0:Int)else s-h)<=((x%h:Nat):Int)/\((x%h:Nat):Int)<e-h)↔_;split<;>lia
theorem Fk.join{G:Gv}{n i o m:Nat}{l t r b:Int}{qi qo:Sq}{i0 i1 i2 i3 o0 o1 o2 o3:Nat}{ms:Nat->Nat}(ni:Cb G n i qi i0 i1 i2 i3)(no:Cb G n o qo o0 o1 o2 o3)
  (h:∀k,k<4->Fk G n (f4 i0 i1 i2 i3 k) (f4 o0 o1 o2 o3 k) (spl l r (2^n) (k%2)).1 (spl t b (2^n) (k/2)).1 (spl l r (2^n) (k%2)).2 (spl t b (2^n) (k/2)).2 (ms k))
  (em:G[m]?=some ⟨[(ms 0:Int),(ms 1:Int),(ms 2:Int),(ms 3:Int)],(n:Int)+1⟩):Fk G (n+1) i o l t r b m:=by
 have nm:Cb G n m _ (ms 0) (ms 1) (ms 2) (ms 3):=⟨em,rfl,rfl,(h 0 A4).lev,(h 1 A4).lev,(h 2 A4).lev,(h 3 A4).lev⟩
 refine⟨⟨_,em,by show(n:Int)+1=_;lia⟩,λx y hx hy=>?_⟩;have ux:=EF hx;have uy:=EF hy;have q4:quad n x y<4:=by unfold quad;lia
 have c:=(h _ q4).cell (x%2^n) (y%2^n) (J9 _ (Bc n)) (J9 _ (Bc n));have f:f4 (ms 0) (ms 1) (ms 2) (ms 3) (quad n x y)=ms (quad n x y):=by
  match quad n x y,q4 with
  |0,_=>rfl
  |1,_=>rfl
  |2,_=>rfl
  |3,_=>rfl
 have e1:quad n x y%2=x/2^n:=by unfold quad;lia
 have e2:quad n x y/2=y/2^n:=by unfold quad;lia
 rw[AW nm hx hy,f,c,AW ni hx hy,AW no hx hy,e1,e2];have i1:=Mg (s:=l) (e:=r) hx rfl;have i2:=Mg (s:=t) (e:=b) hy rfl;by_cases z:(l<=(x:Int)/\(x:Int)<r)/\(t<=(y:Int)/\(y:Int)<b)
 ·rw[X9 z,X9 ⟨i1.mpr z.1,i2.mpr z.2⟩]
 ·rw[X8 z,X8 λq=>z ⟨i1.mp q.1,i2.mp q.2⟩]
def IS(A B:Int)(n:Nat)(s e:Int):Prop:=(s=0\/s=A%2^n)/\(e=2^n\/e=B%2^n)
theorem IS.spl{A B:Int}{n u:Nat}{s e:Int}(h:IS A B (n+1) s e)(ne:(spl s e (2^n) u).1<(spl s e (2^n) u).2):IS A B n (spl s e (2^n) u).1 (spl s e (2^n) u).2:=by
 have p:(0:Int)<2^n:=Gr n;have e2:(2:Int)^(n+1)=2^n+2^n:=by rw[Y2];lia
 have md:∀C:Int,C%2^n=if C%2^(n+1)<2^n then C%2^(n+1)else C%2^(n+1)-2^n:=λC=>by
  have h0:=U9 C (show(2:Int)^(n+1)≠0 by lia);have h1:=S6 C (show(0:Int)<2^(n+1) by lia);have h2:C%2^n=(C%2^(n+1))%2^n:=(Int.emod_emod_of_dvd C ⟨2,by rw[e2];lia⟩).symm;rw[h2];split
  ·rename_i z;exact V9 h0 z
  ·rename_i z;rw[<-Int.sub_emod_right,V9 A0 A0]
 have a1:=md A;have b1:=md B;have a2:=U9 A (show(2:Int)^(n+1)≠0 by lia);have b2:=U9 B (show(2:Int)^(n+1)≠0 by lia);have a3:=S6 A (show(0:Int)<2^(n+1) by lia);have b3:=S6 B (show(0:Int)<2^(n+1) by lia);obtain⟨h1,h2⟩:=h;unfold IS;rw[a1,b1];rw[e2]at h1 h2 a2 b2 a3 b3⊢;clear a1 b1 md e2;generalize (2:Int)^n=H at *
 generalize A%(H+H)=a at *
 generalize B%(H+H)=c at *
 unfold J.spl at ne⊢;split at ne
 ·dsimp only at ne⊢;split at ne<;>rcases h1 with h1|h1<;>rcases h2 with h2|h2<;>subst h1 h2<;>(constructor<;>split<;>lia)
 ·dsimp only at ne⊢;split at ne<;>rcases h1 with h1|h1<;>rcases h2 with h2|h2<;>subst h1 h2<;>(constructor<;>split<;>lia)
theorem IS.top{A B:Int}{n:Nat}(h0:0<=A)(h1:A<B)(h2:B<=2^n):IS A B n A B:=by
 refine⟨.inr (V9 h0 A0).symm,?_⟩;by_cases e:B=2^n
 ·exact .inl e
 ·exact .inr (V9 A0 A0).symm
def Clo(G:Gv)(S:List Nat):Prop:=∀o∈S,o<8\/∃(n:Nat)(q:Sq)(a b c d:Nat),Cb G n o q a b c d/\a∈S/\b∈S/\c∈S/\d∈S
theorem Clo.app{G G':Gv}{k:Nat}{S:List Nat}(go:AU G G' k)(h:Clo G S):Clo G' S:=λo ho=>by
 rcases h o ho with z|⟨n,q,a,b,c,d,nd,m⟩
 ·exact .inl z
 ·exact .inr ⟨n,q,a,b,c,d,nd.app go,m⟩
theorem cast4'{x y z w a b c d:Nat}(e:[(x:Int),(y:Int),(z:Int),(w:Int)]=[(a:Int),(b:Int),(c:Int),(d:Int)]):x=a/\y=b/\z=c/\w=d:=by
 injection e with e1 e
 injection e with e2 e
 injection e with e3 e
 injection e with e4 e
 exact⟨K8 e1,K8 e2,K8 e3,K8 e4⟩
theorem Clo.get{G:Gv}(ok:GOk G){S:List Nat}(h:Clo G S){n o a b c d:Nat}{q:Sq}(ho:o∈S)(nd:Cb G n o q a b c d):a∈S/\b∈S/\c∈S/\d∈S:=by
 rcases h o ho with z|⟨n',q',a',b',c',d',nd',m⟩
 ·have:=nd.g;rw[ok.leaf o z]at this;cases this;have:=nd.lev;have:(0:Int)=(n:Int)+1:=this;lia
 ·have e:q=q':=K3 (nd.g.symm.trans nd'.g);subst e;obtain⟨rfl,rfl,rfl,rfl⟩:=cast4' (nd.ps.symm.trans nd'.ps);exact m
abbrev shM:List Bool:=[false,false,true]
def kMx(i o:Nat)(l t r b:Int):NK:=[.inl (i:Int),.inl (o:Int),.inr [l,t,r,b]]
theorem Qb{i o i' o':Nat}{l t r b l' t' r' b':Int}(e:kMx i o l t r b=kMx i' o' l' t' r' b'):i=i'/\o=o'/\l=l'/\t=t'/\r=r'/\b=b':=by
 unfold kMx at e;injection e with e1 e
 injection e with e2 e
 injection e with e3 e
 injection e1 with e1
 injection e2 with e2
 injection e3 with e3
 injection e3 with f1 e3
 injection e3 with f2 e3
 injection e3 with f3 e3
 injection e3 with f4 e3
 exact⟨K8 e1,K8 e2,f1,f2,f3,f4⟩
structure Mc where
 s:Nat
 S:List Nat
 A:Int
 R:Int
 T:Int
 B:Int
 ro:Bool
def EE(c:Mc)(i o:Nat):Nat:=if c.ro=true then i else o
def UL(c:Mc)(i o:Nat):Nat:=if c.ro=true then o else i
structure Pd(G:Gv)(c:Mc)(n i o:Nat):Prop where
 li:Al G i (n:Int)
 lo:Al G o (n:Int)
 so:Sol G c.s n (UL c i o)
 mo:EE c i o∈c.S
theorem Pd.go{G G':Gv}{k:Nat}{c:Mc}{n i o:Nat}(h:Pd G c n i o)(go:AU G G' k):Pd G' c n i o:=⟨go.lev h.li,go.lev h.lo,Sol.goes go h.so,h.mo⟩
theorem Pd.lm{G:Gv}{c:Mc}{n i o:Nat}(h:Pd G c n i o):Al G (EE c i o) (n:Int):=by
 unfold EE;split
 ·exact h.li
 ·exact h.lo
theorem f4_in{a b c d k:Nat}{S:List Nat}(hk:k<4)(h:a∈S/\b∈S/\c∈S/\d∈S):f4 a b c d k∈S:=by
 match k,hk with
 |0,_=>exact h.1
 |1,_=>exact h.2.1
 |2,_=>exact h.2.2.1
 |3,_=>exact h.2.2.2
theorem Sol.part{G:Gv}{s n i a b c d:Nat}{q:Sq}(h:Sol G s (n+1) i)(nd:Cb G n i q a b c d){k:Nat}(hk:k<4):Sol G s n (f4 a b c d k):=by
 obtain⟨m,h1,e⟩:=h;have eq:q=_:=K3 (nd.g.symm.trans e);have ps:=nd.ps;rw[eq]at ps;obtain⟨rfl,rfl,rfl,rfl⟩:=cast4' ps
 match k,hk with
 |0,_=>exact h1
 |1,_=>exact h1
 |2,_=>exact h1
 |3,_=>exact h1
theorem Pd.part{G:Gv}(ok:GOk G){c:Mc}(clo:Clo G c.S){n i o:Nat}(h:Pd G c (n+1) i o){qi qo:Sq}{i0 i1 i2 i3 o0 o1 o2 o3:Nat}(ni:Cb G n i qi i0 i1 i2 i3)(no:Cb G n o qo o0 o1 o2 o3){k:Nat}(hk:k<4):Pd G c n (f4 i0 i1 i2 i3 k) (f4 o0 o1 o2 o3 k):=by
 refine⟨(ni.nat hk).2,(no.nat hk).2,?_,?_⟩
 ·have:=h.so;unfold UL at this⊢;by_cases z:c.ro=true
  ·rw[X9 z]at this⊢;exact Sol.part this no hk
  ·rw[X8 z]at this⊢;exact Sol.part this ni hk
 ·have:=h.mo;unfold EE at this⊢;by_cases z:c.ro=true
  ·rw[X9 z]at this⊢;exact f4_in hk (clo.get ok this ni)
  ·rw[X8 z]at this⊢;exact f4_in hk (clo.get ok this no)
structure Ent(G:Gv)(c:Mc)(p:NK×V)(n i o:Nat)(l t r b:Int)(m:Nat):Prop where
 e:p=(kMx i o l t r b,.int m)
 pd:Pd G c n i o
 mx:Fk G n i o l t r b m
 sx:IS c.A c.R n l r
 sy:IS c.T c.B n t b
structure KOk(G:Gv)(c:Mc)(kvs:List (NK×V)):Prop where
 nd:(kvs.map (·.1)).Nodup
 val:∀p∈kvs,∃n i o l t r b m,Ent G c p n i o l t r b m
theorem kok0(G:Gv)(c:Mc):KOk G c []:=⟨V4,λp hp=>by simp at hp⟩
theorem Ent.go{G G':Gv}{k:Nat}{c:Mc}{p:NK×V}{n i o:Nat}{l t r b:Int}{m:Nat}(ok:GOk G)(s8:c.s<8)(go:AU G G' k)(h:Ent G c p n i o l t r b m):Ent G' c p n i o l t r b m:=⟨h.e,h.pd.go go,h.mx.app ok go h.pd.li h.pd.lo,h.sx,h.sy⟩
theorem KOk.go{G G':Gv}{k:Nat}{c:Mc}{kvs:List (NK×V)}(ok:GOk G)(s8:c.s<8)(go:AU G G' k)(h:KOk G c kvs):KOk G' c kvs:=⟨h.nd,λp hp=>by
 obtain⟨n,i,o,l,t,r,b,m,e⟩:=h.val p hp;exact⟨n,i,o,l,t,r,b,m,e.go ok s8 go⟩⟩
theorem Vy{kvs:List (NK×V)}{k:NK}{v:V}(h:Bv kvs k=some v):(k,v)∈kvs:=by
 induction kvs with
 |nil=>cases h
 |cons p r ih =>
  by_cases e:p.1=k
  ·rw[BC e]at h;cases h;rw[<-e];exact D7
  ·rw[Bm e]at h;exact B9 _ (ih h)
theorem KOk.put{G:Gv}{c:Mc}{kvs:List (NK×V)}{n i o:Nat}{l t r b:Int}{m:Nat}(h:KOk G c kvs)(en:Ent G c (kMx i o l t r b,.int m) n i o l t r b m)(no:Bv kvs (kMx i o l t r b)=none):KOk G c (CK kvs (kMx i o l t r b) (.int m))/\(CK kvs (kMx i o l t r b) (.int m)).length=kvs.length+1:=by
 have nd:=nd_putK (.int m) h.nd no;rw[JC _ no]at nd⊢;refine⟨⟨nd,λp hp=>?_⟩,by rw[B0];rfl⟩;rcases C7.mp hp with z|z
 ·exact h.val p z
 ·rw[C4]at z;subst z;exact⟨n,i,o,l,t,r,b,m,en⟩
def lvN(G:Gv)(o:Nat):Nat:=match G[o]? with
 |some q=>q.lev.toNat
 |none=>0
theorem lvN_eq{G:Gv}{o n:Nat}(h:Al G o (n:Int)):lvN G o=n:=by
 obtain⟨q,e,el⟩:=h;unfold lvN;rw[e];show q.lev.toNat=n;rw[el,L8]
def b01(c:Prop)[Decidable c]:Nat:=if c then 0 else 1
theorem Eu(c:Prop)[Decidable c]:b01 c<2:=by unfold b01;split<;>decide
theorem Mr{c d:Prop}[Decidable c][Decidable d](h:b01 c=b01 d):c↔d:=by
 unfold b01 at h;split at h<;>split at h<;>simp_all
def code(G:Gv)(c:Mc)(k:NK):Nat:=match k with
 |[.inl i,.inl o,.inr [l,t,r,b]]=>c.S.idxOf (EE c i.toNat o.toNat)*16+(b01 (l=0)+2*b01 (r=2^lvN G (EE c i.toNat o.toNat))+4*b01 (t=0)+8*b01 (b=2^lvN G (EE c i.toNat o.toNat)))
 |_=>0
theorem Nr(G:Gv)(c:Mc)(i o:Nat)(l t r b:Int):code G c (kMx i o l t r b)=c.S.idxOf (EE c i o)*16+(b01 (l=0)+2*b01 (r=2^lvN G (EE c i o))+4*b01 (t=0)+8*b01 (b=2^lvN G (EE c i o))):=rfl
theorem KOk.len{G:Gv}(ok:GOk G){c:Mc}{kvs:List (NK×V)}(h:KOk G c kvs):kvs.length<=16*c.S.length:=by
 have:=IN (16*c.S.length) ((kvs.map (·.1)).map (code G c)) (by
  rw[F5,M7];refine A4f (λ{x y} hx hy hne z=>hne ?_) (F5.mp h.nd);obtain⟨p,hp,rfl⟩:=D5.mp hx;obtain⟨p',hp',rfl⟩:=D5.mp hy;obtain⟨n,i,o,l,t,r,b,m,e⟩:=h.val p hp;obtain⟨n',i',o',l',t',r',b',m',e'⟩:=h.val p' hp';have e1:=e.e;have e2:=e'.e;subst e1 e2;dsimp only at z⊢;rw[Nr,Nr]at z;have q1:=Eu (l=0);have q2:=Eu (r=2^lvN G (EE c i o));have q3:=Eu (t=0);have q4:=Eu (b=2^lvN G (EE c i o));have q1':=Eu (l'=0);have q2':=Eu (r'=2^lvN G (EE c i' o'));have q3':=Eu (t'=0);have q4':=Eu (b'=2^lvN G (EE c i' o'));have io:c.S.idxOf (EE c i o)=c.S.idxOf (EE c i' o'):=by lia
  have eo:EE c i o=EE c i' o':=by
   have a1:=List.getElem_idxOf (O6 e.pd.mo);have a2:=List.getElem_idxOf (O6 e'.pd.mo);have:c.S[c.S.idxOf (EE c i o)]?=c.S[c.S.idxOf (EE c i' o')]?:=by rw[io]
   rw[C3 (O6 e.pd.mo),C3 (O6 e'.pd.mo),a1,a2]at this;exact K3 this
  have en:n=n':=by
   have h1:=e.pd.lm;rw[eo]at h1;exact K8 (h1.uniq e'.pd.lm)
  subst en;have ei:UL c i o=UL c i' o':=Sol.uniq ok e.pd.so e'.pd.so;obtain⟨rfl,rfl⟩:i=i'/\o=o':=by
   unfold EE at eo;unfold UL at ei;by_cases z:c.ro=true
   ·rw[X9 z,X9 z]at eo ei;exact⟨eo,ei⟩
   ·rw[X8 z,X8 z]at eo ei;exact⟨ei,eo⟩
  clear eo ei io;rw[lvN_eq e.pd.lm]at *
  have z1:=Mr (show b01 (l=0)=b01 (l'=0) by lia);have z2:=Mr (show b01 (r=2^n)=b01 (r'=2^n) by lia);have z3:=Mr (show b01 (t=0)=b01 (t'=0) by lia);have z4:=Mr (show b01 (b=2^n)=b01 (b'=2^n) by lia);have same:∀{x x' u v:Int},(x=u\/x=v)->(x'=u\/x'=v)->(x=u↔x'=u)->x=x':=λ{x x' u v} a1 a2 a3=>by
   rcases a1 with a1|a1
   ·rw[a1,a3.mp a1]
   ·rcases a2 with a2|a2
    ·rw[a2,a3.mpr a2]
    ·rw[a1,a2]
  rw[same e.sx.1 e'.sx.1 z1,same e.sx.2 e'.sx.2 z2,same e.sy.1 e'.sy.1 z3,same e.sy.2 e'.sy.2 z4]) (λx hx=>by
  obtain⟨y,hy,rfl⟩:=D5.mp hx;obtain⟨p,hp,rfl⟩:=D5.mp hy;obtain⟨n,i,o,l,t,r,b,m,e⟩:=h.val p hp;have e1:=e.e;subst e1;dsimp only;rw[Nr];have:=O6 e.pd.mo;have q1:=Eu (l=0);have q2:=Eu (r=2^lvN G (EE c i o));have q3:=Eu (t=0);have q4:=Eu (b=2^lvN G (EE c i o));lia)
 rw[A9,A9]at this;exact this
def Un(G:Gv)(N:Nat)(kvs kvs':List (NK×V)):Prop:=∀(i o:Nat)(l t r b:Int)(N':Nat),Al G o (N':Int)->N<N'->Bv kvs (kMx i o l t r b)=none->Bv kvs' (kMx i o l t r b)=none
theorem Un.refl(G:Gv)(N:Nat)(kvs:List (NK×V)):Un G N kvs kvs:=λ_ _ _ _ _ _ _ _ _ h=>h
theorem Un.trans{G G':Gv}{k N:Nat}{a b c:List (NK×V)}(go:AU G G' k)(h:Un G N a b)(h2:Un G' N b c):Un G N a c:=λi o l t r b' N' h1 hl z=>h2 i o l t r b' N' (go.lev h1) hl (h i o l t r b' N' h1 hl z)
seal L2.PA L2.PE L2.PS L2.PSs L2.PT L2.PW
theorem Fx.fresh{l:List Addr}{H H1 H2:Hp}{x:Addr}(s:Az H H1)(f:Fx (x::l) H1 H2)(n:H x=none):Fx l H H2:=λb o e z=>f b o (s _ _ e) λm=>by
 rcases C2.mp m with rfl|m
 ·rw[n]at e;cases e
 ·exact z m
theorem Bp.fx{P:Program}{w:World}{sh:List Bool}{H H':Hp}{a:Addr}{kvs:List (NK×V)}{l:List Addr}(f:Fx l H H')(n:a∉l)(h:Bp P w sh H a kvs):Bp P w sh H' a kvs:=h.keep (λb ys e=>f.tup e) (λo e=>f.get n e)
theorem Bp.same{P:Program}{w:World}{sh:List Bool}{H H':Hp}{a:Addr}{kvs:List (NK×V)}(s:Az H H')(h:Bp P w sh H a kvs):Bp P w sh H' a kvs:=h.keep (λb ys e=>s _ _ e) (λo e=>s _ _ e)
def frM(g:GA)(kn:Addr):List Addr:=[g.lv,g.pt,g.nm,kn]
section
variable{P:Program}{w:World}{K:PySem.W.Frag}{mg:Str->Option Value}{base:Heap}{a:Ad}
inductive Ul(vs:List V)(H:Hp)(Q:VK):Prop
 |mk (s e h:Int) (_:vs=[.int s,.int e,.int h]) (_:∀(c0 c1 cc:Addr)(H':Hp),Az H H'->H' cc=some (.tup [.ref c0,.ref c1])->H' c0=some (.tup [.int (spl s e h 0).1,.int (spl s e h 0).2])->H' c1=some (.tup [.int (spl s e h 1).1,.int (spl s e h 1).2])->Q (.ref cc) H'):Ul vs H Q
def Mh:Sp:=λvs H Q _=>Ul vs H Q
theorem Wx{f:Addr}{fd:FuncData}(F:Fun K "split_stretch" "split_stretch" Ee f fd)(T:Top K mg a):AC P w K mg base CX0 1 f fd CU Mh:=by
 refine F.ok JW (λvs H Q E h=>?_) (λcdv A outer s H vs Q E hr h=>?_)
 ·obtain⟨s',e,h',rfl,_⟩:=h;rfl
 ·obtain⟨st,en,hf,rfl,k⟩:=h;refine⟨_,(Ae (An (Ck (BE (Aa (pv 0) (Aa (Aw (Ga rfl) rfl T.b_min A1b (Aa (pv 1) (Aa (pv 2) Ac))) Ac)) (BE (Aa (Aw (IP rfl) rfl T.b_max A2g (BH CZ (pv 0) (pv 2) (AX Ac))) (BH CZ (pv 1) (pv 2) Ac)) Ac))))),?_⟩
  try dsimp only[cxK]
  refine xw3 rfl rfl rfl ⟨_,_,rfl,(by show 2<=sizeLine;decide),λc0 h0=>?_⟩;have s1:=Ak (o:=.tup [.int st,.int (if hf<en then hf else en)]) h0;have e1:upd H c0 (.tup [.int st,.int (if hf<en then hf else en)]) c0=some (.tup [.int (spl st en hf 0).1,.int (spl st en hf 0).2]):=Ag;show ∃_,_;generalize upd H c0 (.tup [.int st,.int (if hf<en then hf else en)])=H1 at s1 e1⊢;refine xw2 rfl rfl (xq2 rfl rfl ⟨_,_,rfl,(xw2 rfl rfl (xq2 rfl rfl ⟨(by show 2<=sizeLine;decide),λc1 h1=>⟨(by show 2<=sizeLine;decide),λcc hcc=>?_⟩⟩))⟩);have s2:=Ak (o:=.tup [.int (if 0 > st-hf then 0 else st-hf),.int (en-hf)]) h1;have s3:=Ak (o:=.tup [.ref c0,.ref c1]) hcc;exact k c0 c1 cc _ (s1.trans (s2.trans s3)) Ag (s3 _ _ (s2 _ _ e1)) (s3 _ _ Ag)
inductive SpMQ(a:Ad)(P:Program)(w:World)(n:Nat)(vs:List V)(H:Hp)(Q:VK):Prop
 |mk (g:GA) (G:Gv) (c:Mc) (kn tk tp:Addr) (kvs:List (NK×V)) (i o N:Nat) (l t r b:Int) (_:vs=[.ref g.p,.ref tk,.int (2^N),.ref kn]) (_:AF a H g G) (_:Bp P w shM H kn kvs) (_:kn∉BM g) (_:H tk=some (.tup [.int i,.int o,.ref tp])) (_:H tp=some (.tup [.int l,.int t,.int r,.int b])) (_:KOk G c kvs) (_:Clo G c.S) (_:c.s<8) (_:Pd G c (N+1) i o) (_:N<n) (_:N<=47) (_:(0<=l/\0<=t/\r<=2^(N+1)/\b<=2^(N+1))) (_:IS c.A c.R (N+1) l r) (_:IS c.T c.B (N+1) t b) (_:(G.length+16*c.S.length<8000000+kvs.length/\16*c.S.length<4000000)) (_:∀(m:Nat)(G':Gv)(kvs':List (NK×V))(H':Hp),Fx (frM g kn) H H'->AF a H' g G'->Bp P w shM H' kn kvs'->KOk G' c kvs'->kvs.length<=kvs'.length->AU G G' (kvs'.length-kvs.length+1)->Un G N kvs kvs'->Fk G' (N+1) i o l t r b m->Q (.int m) H'):SpMQ a P w n vs H Q
def spMQ(a:Ad)(P:Program)(w:World)(n:Nat):Sp:=λvs H Q _=>SpMQ a P w n vs H Q
inductive SpMxd(a:Ad)(P:Program)(w:World)(n:Nat)(vs:List V)(H:Hp)(Q:VK):Prop
 |mk (g:GA) (G:Gv) (c:Mc) (kn tp:Addr) (kvs:List (NK×V)) (i o N:Nat) (l t r b:Int) (_:vs=[.ref g.p,.int i,.int o,.ref tp,.ref kn]) (_:AF a H g G) (_:Bp P w shM H kn kvs) (_:kn∉BM g) (_:H tp=some (.tup [.int l,.int t,.int r,.int b])) (_:KOk G c kvs) (_:Clo G c.S) (_:c.s<8) (_:Pd G c N i o) (_:N<n) (_:N<=48) (_:(0<=l/\0<=t/\r<=2^N/\b<=2^N)) (_:(l<r->IS c.A c.R N l r)) (_:(t<b->IS c.T c.B N t b)) (_:(G.length+16*c.S.length<8000000+kvs.length/\16*c.S.length<4000000)) (_:∀(m:Nat)(G':Gv)(kvs':List (NK×V))(H':Hp),Fx (frM g kn) H H'->AF a H' g G'->Bp P w shM H' kn kvs'->KOk G' c kvs'->kvs.length<=kvs'.length->AU G G' (kvs'.length-kvs.length)->Un G N kvs kvs'->Fk G' N i o l t r b m->Q (.int m) H'):SpMxd a P w n vs H Q
def Op(a:Ad)(P:Program)(w:World)(n:Nat):Sp:=λvs H Q _=>SpMxd a P w n vs H Q
theorem ok_mixS{n d:Nat}{f:Addr}{fd:FuncData}(F:Fun K "mixed" "mixed" Mj f fd)(T:Top K mg a)(bX:Cal P w K mg base CX0 d "mixed_quarters" CD (spMQ a P w n)):AC P w K mg base CX0 (d+1) f fd Gz (Op a P w (n+1)):=by
 refine F.ok FU (λvs H Q E h=>?_) (λcdv A outer s H vs Q E hr h=>?_)
 ·obtain⟨g,G,c,kn,tp,kvs,i,o,N,l,t,r,b,rfl,_⟩:=h;rfl
 ·obtain⟨g,G,c,kn,tp,kvs,i,o,N,l,t,r,b,rfl,fu,na,nk,htp,kok,clo,s8,pd,Nn,N48,bd,sx,sy,few,k⟩:=h;refine⟨_,(Ab (AB (PW.pt (EX (Ar op_ge (Am Ax (pv 3) Af (λ_ _=>rfl)) (Am Ax (pv 3) Af (λ_ _=>rfl)) (Av _)) (DH (Ar op_ge (Am Ax (pv 3) Af (λ_ _=>rfl)) (Am Ax (pv 3) Af (λ_ _=>rfl)) (Av _))))) (Ae (An (pv 2))) Au) (Ab (Aj (i:=5) FU.nd rfl (Or.inl rfl) (AA FM Af (Am AI (AT (pv 0) rfl) (pv 1) (λ_ _=>rfl)))) (Ab (AB (PW.pt (EX (Ar BS (pv 1) (pv 2) (Av _)) (DH (Ar (UN hr.units) (pv 3) (Ck (AX (AX (Aa (pv 5) (Aa (pv 5) Ac))))) (Av _))))) (Ae (An (pv 1))) Au) (Ab (Aj (i:=6) FU.nd rfl (Or.inl rfl) (Ck (Aa (pv 1) (Aa (pv 2) (Aa (pv 3) Ac))))) (Ab (Aj (i:=7) FU.nd rfl (Or.inl rfl) (Wp (sh:=[false,false,true]) hr.units (pv 4) (pv 6) ⟨rfl,rfl,rfl,rfl⟩)) (Ab (AB (Ar MP (pv 7) Ig (Av _)) (Ab (Aj (i:=7) FU.nd rfl (Or.inl rfl) (Aq bX (rm hr) rfl Ao (Aa (pv 0) (Aa (pv 6) (BH ED (pv 5) Af (Aa (pv 4) Ac)))))) (Ae (Wf (sh:=[false,false,true]) hr.units (pv 4) (pv 6) (pv 7) rfl))) Au) (Ae (An (pv 7))))))))),?_⟩
  try dsimp only[cxK]
  have li:=pd.li;have lo:=pd.lo;have back:∀{m:Nat}{H':Hp},Az H H'->Fk G N i o l t r b m->Q (.int m) H':=λ{m H'} s' mx=>k m G kvs H' (Az.fx s') (fu.same s') (Bp.same s' na) kok (B1 _) ((AU.refl fu.ok).mono A0) (Un.refl _ _ _) mx;refine ev_test (c:=tOr (Tq (tOp (rI0 λi j=>V.bl (decide (j<=i))) (tOp (Pt K) (Pf 3) (tC (V.int 0))) (tOp (Pt K) (Pf 3) (tC (V.int 2))))) (Tq (tOp (rI0 λi j=>V.bl (decide (j<=i))) (tOp (Pt K) (Pf 3) (tC (V.int 1))) (tOp (Pt K) (Pf 3) (tC (V.int 3)))))) (decide (r<=l) || decide (b<=t)) (λQ' q'=>?_) ?_
  ·refine xwi rfl rfl rfl (SqT.of htp) (Ah (j:=0) rfl) (xwi rfl rfl rfl (SqT.of htp) (Ah (j:=2) rfl) (xq2 rfl rfl (xq1 rfl ?_)));revert q';generalize decide (r<=l)=b1;cases b1
   ·intro q';exact AS (xwi rfl rfl rfl (SqT.of htp) (Ah (j:=1) rfl) (xwi rfl rfl rfl (SqT.of htp) (Ah (j:=3) rfl) (xq2 rfl rfl (xq1 rfl (q')))))
   ·intro q';exact Bq q'
  refine Ls (λhc=>?_) (λhc=>?_)
  ·refine xq1 rfl (back (Az.refl H) ⟨lo,λx y _ _=>?_⟩);rw[X8];rcases(Bool.or_eq_true _ _).mp hc with z|z
   ·have:=A0f z;lia
   ·have:=A0f z;lia
  have hl:l<r:=by
   refine Int.lt_of_not_ge λz=>hc ?_;rw[X7 (show r<=l from z)];rfl
  have ht:t<b:=by
   refine Int.lt_of_not_ge λz=>hc ?_;rw[X7 (show b<=t from z),Bool.or_true]
  clear hc;obtain⟨qi,ei,eli⟩:=id li;refine⟨_,rfl,g.p,_,g.dx,_,_,rfl,fu.at'.hp,T.cl_Grove,T.na_Grove_levels,Fh g,_,rfl,g.lv,_,(i:Int),.int qi.lev,rfl,rfl,SqL.of fu.at'.lv,Ah (by rw[B7,ei];rfl),?_⟩;rw[eli];refine xq2 rfl rfl ⟨⟨by lia,by lia,by decide⟩,?_⟩;have e1:(1:Int)*2^((N:Int)).toNat=2^N:=by rw[Int.one_mul,L8]
  show(VF _ _) _ [some (.ref g.p),some (.int i),some (.int o),some (.ref tp),some (.ref kn),some (.int (1*2^((N:Int)).toNat)),none,none] H;rw[e1];refine xw2 rfl rfl ⟨rfl,(xq1 rfl (Ls (λhio=>?_) (λ_=>?_)))⟩
  ·have hio:=A0f hio;injection hio with hio
   obtain rfl:i=o:=K8 hio;exact Bq (xq1 rfl (back (Az.refl H) ⟨li,λx y _ _=>by split<;>rfl⟩))
  refine xw3 rfl rfl rfl ⟨(by show 4<=sizeLine;decide),λt1 ht1=>?_⟩;have s1:=Ak (o:=.tup [.int 0,.int 0,.int (2^N),.int (2^N)]) ht1;have h1:upd H t1 (.tup [.int 0,.int 0,.int (2^N),.int (2^N)]) t1=some (.tup [.int 0,.int 0,.int (2^N),.int (2^N)]):=Ag;show ∃_,_;generalize upd H t1 (.tup [.int 0,.int 0,.int (2^N),.int (2^N)])=H1 at s1 h1⊢;refine⟨tp,t1,[l,t,r,b],[0,0,2^N,2^N],rfl,rfl,SqT.of (s1 _ _ htp),SqT.of h1,(xq1 rfl (Ls (λhe=>?_) (λhe=>?_)))⟩
  ·have he:=A0f he;injection he with z1 he
   injection he with z2 he
   injection he with z3 he
   injection he with z4 he
   refine xq1 rfl (back s1 ⟨li,λx y hx hy=>?_⟩);have px:(x:Int)<2^N:=by have:(x:Int)<((2^N:Nat):Int):=A0;rw[Y7]at this;exact this
   have py:(y:Int)<2^N:=by have:(y:Int)<((2^N:Nat):Int):=A0;rw[Y7]at this;exact this
   rw[X9 (by subst z1 z2 z3 z4;exact⟨⟨by lia,px⟩,by lia,py⟩)]
  have N1:1<=N:=by
   refine Nat.one_le_iff_ne_zero.mpr λz=>he ?_;subst z;have b1:r<=1:=bd.2.2.1;have b2:b<=1:=bd.2.2.2;obtain⟨rfl,rfl,rfl,rfl⟩:l=0/\t=0/\r=1/\b=1:=by lia
   exact X7 rfl
  obtain⟨M,rfl⟩:∃M,N=M+1:=⟨N-1,by lia⟩
  refine xw3 rfl rfl rfl ⟨(by show 3<=sizeLine;decide),λtk htk=>?_⟩;have s2:=Ak (o:=.tup [.int i,.int o,.ref tp]) htk;have h2:upd H1 tk (.tup [.int i,.int o,.ref tp]) tk=some (.tup [.int i,.int o,.ref tp]):=Ag;show(VF _ _) _ _ (upd H1 tk (.tup [.int i,.int o,.ref tp]));generalize upd H1 tk (.tup [.int i,.int o,.ref tp])=H2 at s2 h2⊢;have s12:=s1.trans s2;have na2:=Bp.same s12 na;have fu2:=fu.same s12;have htp2:=s12 _ _ htp;have kat:∀{H':Hp},H' tk=some (.tup [.int i,.int o,.ref tp])->H' tp=some (.tup [.int l,.int t,.int r,.int b])->FP H' tk (kMx i o l t r b):=λz1 z2=>⟨_,z1,.cons rfl (.cons rfl (.cons ⟨tp,rfl,z2⟩ .nil))⟩
  refine xq1 rfl ⟨kn,rfl,⟨kvs,na2⟩,(xq1 rfl ⟨tk,kMx i o l t r b,kvs,rfl,na2,kat h2 htp2,rfl,?_⟩)⟩;cases ev:Bv kvs (kMx i o l t r b)with
  |some v =>
   obtain⟨n',i',o',l',t',r',b',m,en⟩:=kok.val _ (Vy ev);have e2:=en.e;injection e2 with e2 e3
   obtain⟨rfl,rfl,rfl,rfl,rfl,rfl⟩:=Qb e2;subst e3;have:n'=M+1:=K8 (en.pd.lo.uniq lo);subst this;exact xq1 rfl ⟨rfl,(xq1 rfl (AS (xq1 rfl (back s12 en.mx))))⟩
  |none =>
   refine xq1 rfl ⟨rfl,(xq1 rfl (Bq ?_))⟩;refine xw3 rfl rfl rfl (xq2 rfl rfl ⟨⟨by decide,by decide⟩,(xq1 rfl ?_)⟩);have e4:(2:Int)^(M+1)/2=2^M:=by rw[Y2,Int.mul_ediv_cancel _ A4]
   refine⟨g,G,c,kn,tk,tp,kvs,i,o,M,l,t,r,b,by rw[<-e4];rfl,fu2,na2,nk,h2,htp2,kok,clo,s8,pd,by lia,by lia,bd,sx hl,sy ht,few,λm G' kvs' H3 x3 fu3 na3 kok3 le3 go3 un3 mx3=>?_⟩;have no3:Bv kvs' (kMx i o l t r b)=none:=un3 i o l t r b (M+1) lo A0 ev;have l3:=kok3.len fu3.ok;have g3:=go3.few;refine xw3 rfl rfl rfl ⟨kn,tk,kMx i o l t r b,kvs',rfl,rfl,na3,kat (x3.tup h2) (x3.tup htp2),rfl,Bu A0,λH4 x4 na4=>?_⟩;obtain⟨kok4,len4⟩:=kok3.put ⟨rfl,pd.go go3,mx3,sx hl,sy ht⟩ no3;have x4':Fx (frM g kn) H3 H4:=λcc oo e z=>x4 cc oo e λy=>by
    subst y;obtain⟨xs,e9,_⟩:=na3.ex;rw[e9]at e;cases e;exact z (by simp[frM])
   have fu4:=fu3.fx (l:=[kn]) (λcc oo e z=>x4 cc oo e λy=>by
    subst y;obtain⟨xs,e9,_⟩:=na3.ex;rw[e9]at e;cases e;exact z A5) λy hy z=>nk (by rw[C4]at z;rw[<-z];exact hy)
   refine xq1 rfl (k m G' _ H4 (((Az.fx s12).trans x3).trans x4') fu4 na4 kok4 A0 (go3.mono A0) ?_ mx3);intro i' o' l' t' r' b' N' hN hlt z;rw[FR,X8]
   ·exact un3 i' o' l' t' r' b' N' hN A0 z
   ·intro q;obtain⟨_,rfl,_⟩:=Qb q;have:=K8 (hN.uniq lo);lia
end
theorem Cb.at4{G:Gv}{n i:Nat}{q:Sq}{a b c d:Nat}(h:Cb G n i q a b c d){k:Nat}(hk:k<4):(q.parts.map V.int)[k]?=some (.int (f4 a b c d k:Nat)):=by
 rw[h.ps]
 match k,hk with
 |0,_=>rfl
 |1,_=>rfl
 |2,_=>rfl
 |3,_=>rfl
section
variable{P:Program}{w:World}{K:PySem.W.Frag}{mg:Str->Option Value}{base:Heap}{a:Ad}
theorem ok_mq{n d:Nat}(hd:2<=d){f:Addr}{fd:FuncData}(F:Fun K "mixed_quarters" "mixed_quarters" CA f fd)(T:Top K mg a)(aG:Cal P w K mg base CX0 1 "split_stretch" CU Mh)(a7:Cw P w K mg base CX0 2 a.c_Grove "linked" BF (Jg a))(b9:Cal P w K mg base CX0 d "mixed" Gz (Op a P w n)):AC P w K mg base CX0 (d+1) f fd CD (spMQ a P w n):=by
 refine F.ok AG (λvs H Q E h=>?_) (λcdv A outer s H vs Q E hr h=>?_)
 ·obtain⟨g,G,c,kn,tk,tp,kvs,i,o,N,l,t,r,b,rfl,_⟩:=h;rfl
 ·obtain⟨g,G,c,kn,tk,tp,kvs,i,o,N,l,t,r,b,rfl,fu,na,nk,htk,htp,kok,clo,s8,pd,Nn,N47,bd,sx,sy,⟨few,few2⟩,k⟩:=h;refine⟨_,(Ab (Aj (i:=4) AG.nd rfl (Or.inl rfl) (Am AI (AT (pv 0) rfl) (Am Ax (pv 1) Af (λ_ _=>rfl)) (λ_ _=>rfl))) (Ab (Aj (i:=5) AG.nd rfl (Or.inl rfl) (Am AI (AT (pv 0) rfl) (Am Ax (pv 1) Af (λ_ _=>rfl)) (λ_ _=>rfl))) (Ab (Aj (i:=6) AG.nd rfl (Or.inl rfl) (Am Ax (pv 1) Af (λ_ _=>rfl))) (Ab (Aj (i:=7) AG.nd rfl (Or.inl rfl) (Aq aG (rm hr) rfl Ao (Aa (Am Ax (pv 6) Af (λ_ _=>rfl)) (Aa (Am Ax (pv 6) Af (λ_ _=>rfl)) (Aa (pv 2) Ac))))) (Ab (Aj (i:=8) AG.nd rfl (Or.inl rfl) (Aq aG (rm hr) rfl Ao (Aa (Am Ax (pv 6) Af (λ_ _=>rfl)) (Aa (Am Ax (pv 6) Af (λ_ _=>rfl)) (Aa (pv 2) Ac))))) (Ab (Aj (i:=9) AG.nd rfl (Or.inl rfl) (BP Ac)) (Ab (Cv A0d rfl (IF rfl T.b_range (AX Ac)) (AD (i:=10) AG.nd rfl (Or.inl rfl)) (Ab (Aj (i:=11) AG.nd rfl (Or.inl rfl) (Am Ax (pv 7) (AA BR (pv 10) Af) (λ_ _=>rfl))) (Ab (Aj (i:=12) AG.nd rfl (Or.inl rfl) (Am Ax (pv 8) (AA ED (pv 10) Af) (λ_ _=>rfl))) (Ab (Aj (i:=13) AG.nd rfl (Or.inl rfl) (Ck (Aa (Am Ax (pv 11) Af (λ_ _=>rfl)) (Aa (Am Ax (pv 12) Af (λ_ _=>rfl)) (Aa (Am Ax (pv 11) Af (λ_ _=>rfl)) (Aa (Am Ax (pv 12) Af (λ_ _=>rfl)) Ac)))))) (Ae (Be (BV K7 K9 A0a Bh (pv 9) (Aa (Aq b9 (rm hr) rfl Ao (Aa (pv 0) (Aa (Am Ax (pv 4) (pv 10) (λ_ _=>rfl)) (Aa (Am Ax (pv 5) (pv 10) (λ_ _=>rfl)) (Aa (pv 13) (Aa (pv 3) Ac)))))) Ac)))))))) (Ae (An (AE (pv 0) a7 (rm hr) Ao (Aa (EG Oa rfl T.b_tuple PyProof.Rows.boot_tuple (Aa (pv 9) Ac)) Ac))))))))))),?_⟩
  try dsimp only[cxK]
  have li:=pd.li;have lo:=pd.lo;obtain⟨qi,i0,i1,i2,i3,ni⟩:=AK fu.ok li;obtain⟨qo,o0,o1,o2,o3,no⟩:=AK fu.ok lo;obtain⟨ts,h3,h4⟩:=fu.at'.pt;obtain⟨ti,eti,hti⟩:=PairedM.get h4 ni.g;have hti:H ti=some (.tup (qi.parts.map V.int)):=hti;obtain⟨to',eto,hto⟩:=PairedM.get h4 no.g;have hto:H to'=some (.tup (qo.parts.map V.int)):=hto;refine xwf rfl rfl fu.at'.hp T.cl_Grove T.na_Grove_parts (Et g) (xwi rfl rfl rfl (SqT.of htk) (Ah (j:=0) rfl) (xq4 rfl rfl (SqL.of h3) (Ah (by rw[B7,eti];rfl)) ?_));refine xwf rfl rfl fu.at'.hp T.cl_Grove T.na_Grove_parts (Et g) (xwi rfl rfl rfl (SqT.of htk) (Ah (j:=1) rfl) (xq4 rfl rfl (SqL.of h3) (Ah (by rw[B7,eto];rfl)) ?_));refine xwi rfl rfl rfl (SqT.of htk) (Ah (j:=2) rfl) ?_;refine xwi rfl rfl rfl (SqT.of htp) (Ah (j:=0) rfl) (xwi rfl rfl rfl (SqT.of htp) (Ah (j:=2) rfl) (xq1 rfl ⟨l,r,2^N,rfl,λc0 c1 cc H1 s1 hcc hc0 hc1=>?_⟩));have htp1:=s1 _ _ htp;refine xwi rfl rfl rfl (SqT.of htp1) (Ah (j:=1) rfl) (xwi rfl rfl rfl (SqT.of htp1) (Ah (j:=3) rfl) (xq1 rfl ⟨t,b,2^N,rfl,λr0 r1 rr H2 s2 hrr hr0 hr1=>?_⟩));refine⟨(by show 0<=sizeLine;decide),λmd hmd=>?_⟩;have s3:=Ak (o:=.lst []) hmd;have hm3:upd H2 md (.lst []) md=some (.lst []):=Ag;show(VF _ _) _ _ (upd H2 md (.lst []));generalize upd H2 md (.lst [])=H3 at s3 hm3⊢;have s13:=(s1.trans s2).trans s3;have nmd:H md=none:=Az.noneOf (s1.trans s2) hmd;have col:∀{u:Nat},u<2->∃x,[V.ref c0,V.ref c1][u]?=some (.ref x)/\H3 x=some (.tup [.int (spl l r (2^N) u).1,.int (spl l r (2^N) u).2]):=λ{u} hu=>by
   match u,hu with
   |0,_=>exact⟨c0,rfl,s3 _ _ (s2 _ _ hc0)⟩
   |1,_=>exact⟨c1,rfl,s3 _ _ (s2 _ _ hc1)⟩
  have row:∀{u:Nat},u<2->∃x,[V.ref r0,V.ref r1][u]?=some (.ref x)/\H3 x=some (.tup [.int (spl t b (2^N) u).1,.int (spl t b (2^N) u).2]):=λ{u} hu=>by
   match u,hu with
   |0,_=>exact⟨r0,rfl,s3 _ _ hr0⟩
   |1,_=>exact⟨r1,rfl,s3 _ _ hr1⟩
  have hcc3:=s3 _ _ (s2 _ _ hcc);have hrr3:=s3 _ _ hrr;have hti3:=s13 _ _ hti;have hto3:=s13 _ _ hto;have fu3:=fu.same s13;have na3:=Bp.same s13 na;have gmd:md∉BM g:=λz=>by
   obtain⟨oo,e⟩:=(fu.same (s1.trans s2)).nw.s md z;rw[hmd]at e;cases e
  have kmd:md≠kn:=λz=>by
   obtain⟨xs,e,_⟩:=na.ex;rw[z]at nmd;rw[nmd]at e;cases e
  have mF:md∉frM g kn:=λz=>by
   simp only[frM,C2,L9,A3d]at z;rcases z with z|z|z|z
   ·exact gmd (by rw[z];simp[BM])
   ·exact gmd (by rw[z];simp[BM])
   ·exact gmd (by rw[z];simp[BM])
   ·exact kmd z
  clear htp1 hc0 hc1 hr0 hr1 hcc hrr s1 s2 s3;refine⟨4,rfl,by decide,by decide,?_⟩;refine FW (n:=4) (λj σ H4=>∃(G4:Gv)(kvs4:List (NK×V))(ms:Nat->Nat)(u10 u11 u12 u13:Option V),σ=[some (.ref g.p),some (.ref tk),some (.int (2^N)),some (.ref kn),some (.ref ti),some (.ref to'),some (.ref tp),some (.ref cc),some (.ref rr),some (.ref md),u10,u11,u12,u13]/\Fx (md::frM g kn) H3 H4/\H4 md=some (.lst ((List.range j).map λx=>V.int (ms x:Nat)))/\AF a H4 g G4/\Bp P w shM H4 kn kvs4/\KOk G4 c kvs4/\kvs.length<=kvs4.length/\AU G G4 (kvs4.length-kvs.length)/\Un G N kvs kvs4/\∀x,x<j->Fk G4 N (f4 i0 i1 i2 i3 x) (f4 o0 o1 o2 o3 x) (spl l r (2^N) (x%2)).1 (spl t b (2^N) (x/2)).1 (spl l r (2^N) (x%2)).2 (spl t b (2^N) (x/2)).2 (ms x)) ⟨G,kvs,λ_=>0,none,none,none,none,rfl,Fx.refl _ H3,hm3,fu3,na3,kok,B1 _,(AU.refl fu.ok).mono A0,Un.refl _ _ _,λx hx=>absurd hx (L6 _)⟩ ?_ ?_
  ·rintro j σ H4 hj ⟨G4,kvs4,ms,u10,u11,u12,u13,rfl,x4,hm4,fu4,na4,kok4,le4,go4,un4,mx4⟩;have u2:j%2<2:=J9 _ A4;have v2:j/2<2:=by lia
   obtain⟨cx,ecx,hcx⟩:=col u2;obtain⟨ry,ery,hry⟩:=row v2;have hcx4:=x4.tup hcx;have hry4:=x4.tup hry;have cm:(0+(j:Int))%2=((j%2:Nat):Int):=by lia
   have cd:(0+(j:Int))/2=((j/2:Nat):Int):=by lia
   refine xq1 rfl (xq1 rfl (xq2 rfl rfl ⟨A7,cc,_,_,.ref cx,rfl,rfl,SqT.of (x4.tup hcc3),?_,?_⟩))
   ·show atI [V.ref c0,V.ref c1] ((0+(j:Int))%2)=_;rw[cm];exact Ah ecx
   refine xq1 rfl (xq1 rfl (xq2 rfl rfl ⟨⟨by decide,by decide⟩,rr,_,_,.ref ry,rfl,rfl,SqT.of (x4.tup hrr3),?_,?_⟩))
   ·show atI [V.ref r0,V.ref r1] ((0+(j:Int))/2)=_;rw[cd];exact Ah ery
   refine xwi rfl rfl rfl (SqT.of hcx4) (Ah (j:=0) rfl) (xwi rfl rfl rfl (SqT.of hry4) (Ah (j:=0) rfl) (xwi rfl rfl rfl (SqT.of hcx4) (Ah (j:=1) rfl) (xwi rfl rfl rfl (SqT.of hry4) (Ah (j:=1) rfl) ⟨(by show 4<=sizeLine;decide),λqp hqp=>?_⟩)));have s5:=Ak (o:=.tup [.int (spl l r (2^N) (j%2)).1,.int (spl t b (2^N) (j/2)).1,.int (spl l r (2^N) (j%2)).2,.int (spl t b (2^N) (j/2)).2]) hqp;have h5:upd H4 qp (.tup [.int (spl l r (2^N) (j%2)).1,.int (spl t b (2^N) (j/2)).1,.int (spl l r (2^N) (j%2)).2,.int (spl t b (2^N) (j/2)).2]) qp=some (.tup [.int (spl l r (2^N) (j%2)).1,.int (spl t b (2^N) (j/2)).1,.int (spl l r (2^N) (j%2)).2,.int (spl t b (2^N) (j/2)).2]):=Ag;show ∃_,_;generalize upd H4 qp (.tup [.int (spl l r (2^N) (j%2)).1,.int (spl t b (2^N) (j/2)).1,.int (spl l r (2^N) (j%2)).2,.int (spl t b (2^N) (j/2)).2])=H5 at s5 h5⊢;have x5:=x4.trans (Az.fx s5);have hm5:=s5 _ _ hm4;have ai:atI (qi.parts.map V.int) (0+(j:Int))=some (.int (f4 i0 i1 i2 i3 j:Nat)):=by
    rw[Int.zero_add];exact Ah (ni.at4 hj)
   have ao:atI (qo.parts.map V.int) (0+(j:Int))=some (.int (f4 o0 o1 o2 o3 j:Nat)):=by
    rw[Int.zero_add];exact Ah (no.at4 hj)
   have pd4:Pd G4 c N (f4 i0 i1 i2 i3 j) (f4 o0 o1 o2 o3 j):=(pd.part fu.ok clo ni no hj).go go4;have pN:(0:Int)<2^N:=Gr N;have e2:(2:Int)^(N+1)=2^N+2^N:=by rw[Y2];lia
   rw[e2]at bd;have bds:∀{s0 e0:Int}{u:Nat},0<=s0->e0<=2^N+2^N->0<=(spl s0 e0 (2^N) u).1/\(spl s0 e0 (2^N) u).2<=2^N:=λ{s0 e0 u} a1 a2=>by
    unfold spl;split
    ·dsimp only;split<;>lia
    ·dsimp only;split<;>lia
   have bx:=bds (u:=j%2) bd.1 bd.2.2.1;have by':=bds (u:=j/2) bd.2.1 bd.2.2.2
   have g4:=go4.few;refine xq1 rfl ⟨.inl ⟨rfl,_,SqL.of hm5⟩,(xw3 rfl rfl rfl (xq4 rfl rfl (SqT.of (x5.tup hti3)) ai (xwj rfl rfl rfl rfl (SqT.of (x5.tup hto3)) ao (xw2 rfl rfl ?_))))⟩;refine⟨g,G4,c,kn,qp,kvs4,f4 i0 i1 i2 i3 j,f4 o0 o1 o2 o3 j,N,_,_,_,_,rfl,fu4.same s5,Bp.same s5 na4,nk,h5,kok4,clo.app go4,s8,pd4,Nn,by lia,⟨bx.1,by'.1,bx.2,by'.2⟩,λz=>sx.spl z,λz=>sy.spl z,⟨by lia,few2⟩,λm G6 kvs6 H6 x6 fu6 na6 kok6 le6 go6 un6 mx6=>?_⟩;have hm6:=x6.get mF hm5;refine⟨md,_,.int m,rfl,rfl,hm6,by rw[A9,O1];exact Bu A0,?_⟩;have x7:=fx_up (o':=.lst (((List.range j).map λx=>V.int (ms x:Nat))++[.int m])) hm6 (λz=>z);have le46:G.length<=G4.length:=go4.le;refine⟨G6,kvs6,λx=>if x=j then m else ms x,_,_,_,_,rfl,(x5.trans (x6.mono (by simp[frM]))).trans (x7.mono A5),?_,fu6.fx x7 λy hy z=>gmd (by rw[C4]at z;rw[<-z];exact hy),Bp.fx x7 (by simpa using A0c kmd) na6,kok6,by lia,(go4.trans go6).mono A0,un4.trans go4 un6,λx hx=>?_⟩
   ·rw[Ag,N3,C1];congr 3
    ·exact R8 λx hx=>by
      show V.int (ms x:Nat)=V.int ((if x=j then m else ms x:Nat):Int);rw[X8 (by have:=M0.mp hx;lia)]
    ·show [V.int m]=[V.int ((if j=j then m else ms j:Nat):Int)]
     rw[X9 rfl]
   ·dsimp only;by_cases z:x=j
    ·subst z;rw[X9 rfl];exact mx6
    ·rw[X8 z];have hx3:x<4:=by lia
     have l1:Al G4 (f4 o0 o1 o2 o3 x) (N:Int):=go4.lev (by
      match x,hx3 with
      |0,_=>exact no.hx
      |1,_=>exact no.hy
      |2,_=>exact no.hz
      |3,_=>exact no.hw)
     have l2:Al G4 (f4 i0 i1 i2 i3 x) (N:Int):=go4.lev (ni.nat hx3).2;exact(mx4 x A0).app fu4.ok go6 l2 l1
  ·rintro σ H4 ⟨G4,kvs4,ms,u10,u11,u12,u13,rfl,x4,hm4,fu4,na4,kok4,le4,go4,un4,mx4⟩;have g4:=go4.few;have l4:=kok4.len fu4.ok;refine xq1 rfl ⟨g.p,g.dx,(xq1 rfl ⟨fu4.at'.hp,Dh g,(xq1 rfl ⟨md,(xq1 rfl (.inl ⟨SqL.of hm4,λtl htl=>?_⟩))⟩)⟩)⟩;have s5:=Ak (o:=.tup [.int (ms 0:Nat),.int (ms 1:Nat),.int (ms 2:Nat),.int (ms 3:Nat)]) htl;refine⟨g,G4,tl,ms 0,ms 1,ms 2,ms 3,(N:Int),rfl,fu4.at'.same s5,fu4.ok,Ag,⟨(mx4 0 A4).lev,(mx4 1 A4).lev,(mx4 2 A4).lev,(mx4 3 A4).lev⟩,by lia,by lia,λm G6 H6 fr6 hg6 go6 e6=>?_⟩;have x6:=fr6.fx (fu4.at'.same s5);have fu6:=(fu4.same s5).fr fr6 hg6 go6;have x46:Fx (md::frM g kn) H3 H6:=(x4.trans (Az.fx s5)).trans (x6.mono (by simp[frM]));have kf:kn∉[g.lv,g.pt,g.nm]:=λz=>nk (by simp[BM]at *;lia);refine k m G6 kvs4 H6 (Fx.fresh s13 x46 nmd) fu6 (Bp.fx x6 kf (Bp.same s5 na4)) (kok4.go fu4.ok s8 go6) le4 (go4.trans go6) un4 ?_;exact Fk.join (ni.app (go4.trans go6)) (no.app (go4.trans go6)) (λx hx=>(mx4 x hx).app fu4.ok go6 (go4.lev (ni.nat hx).2) (go4.lev (by
    match x,hx with
    |0,_=>exact no.hx
    |1,_=>exact no.hy
    |2,_=>exact no.hz
    |3,_=>exact no.hw))) e6
theorem WC{f:Addr}{fd:FuncData}{f':Addr}{fd':FuncData}(F:Fun K "mixed" "mixed" Mj f fd)(F':Fun K "mixed_quarters" "mixed_quarters" CA f' fd')(T:Top K mg a)(hm:mg "mixed" = some (.ref f))(Bi:BN K fd Gz [])(hm':mg "mixed_quarters" = some (.ref f'))(Bi':BN K fd' CD [])(aG:Cal P w K mg base CX0 1 "split_stretch" CU Mh)(a7:Cw P w K mg base CX0 2 a.c_Grove "linked" BF (Jg a)):∀n,AC P w K mg base CX0 (2*n+2) f fd Gz (Op a P w n)
 |0=>by
  refine F.ok FU (λvs H Q E h=>?_) (λcdv A outer s H vs Q E hr h=>?_)
  ·obtain⟨g,G,c,kn,tp,kvs,i,o,N,l,t,r,b,rfl,_,_,_,_,_,_,_,_,h0,_⟩:=h;exact absurd h0 (L6 _)
  ·obtain⟨g,G,c,kn,tp,kvs,i,o,N,l,t,r,b,rfl,_,_,_,_,_,_,_,_,h0,_⟩:=h;exact absurd h0 (L6 _)
 |n+1=>ok_mixS F T ⟨f',fd',ok_mq (d:=2*n+2) A0 F' T aG a7 ⟨f,fd,WC F F' T hm Bi hm' Bi' aG a7 n,hm,F.kp,Bi⟩,hm',F'.kp,Bi'⟩
end
end J
namespace J
open PySem L2
theorem Fk.part{G:Gv}{n i o m:Nat}{l t r b:Int}{qi qo qm:Sq}{i0 i1 i2 i3 o0 o1 o2 o3 m0 m1 m2 m3:Nat}(ni:Cb G n i qi i0 i1 i2 i3)(no:Cb G n o qo o0 o1 o2 o3)(nm:Cb G n m qm m0 m1 m2 m3)(h:Fk G (n+1) i o l t r b m){k:Nat}(hk:k<4) :
  Fk G n (f4 i0 i1 i2 i3 k) (f4 o0 o1 o2 o3 k) (spl l r (2^n) (k%2)).1 (spl t b (2^n) (k/2)).1 (spl l r (2^n) (k%2)).2 (spl t b (2^n) (k/2)).2 (f4 m0 m1 m2 m3 k):=by
 refine⟨(nm.nat hk).2,λx y hx hy=>?_⟩;obtain⟨h1,h2,h3,h4,h5⟩:=DK hk hx hy;have c:=h.cell _ _ h1 h2;rw[AW nm h1 h2,AW ni h1 h2,AW no h1 h2,h3,h4,h5]at c;rw[c];have d1:(x+2^n*(k%2))/2^n=k%2:=by
  rw[U4 _ _ (Bc n),P9 hx,O4]
 have d2:(y+2^n*(k/2))/2^n=k/2:=by
  rw[U4 _ _ (Bc n),P9 hy,O4]
 have i1:=Mg (s:=l) (e:=r) h1 d1;have i2:=Mg (s:=t) (e:=b) h2 d2;rw[h4]at i1;rw[h5]at i2;by_cases z:(l<=((x+2^n*(k%2):Nat):Int)/\((x+2^n*(k%2):Nat):Int)<r)/\(t<=((y+2^n*(k/2):Nat):Int)/\((y+2^n*(k/2):Nat):Int)<b)
 ·rw[X9 z,X9 ⟨i1.mpr z.1,i2.mpr z.2⟩]
 ·rw[X8 z,X8 λq=>z ⟨i1.mp q.1,i2.mp q.2⟩]
theorem Fk.empty{G:Gv}(ok:GOk G){n i o m:Nat}{l t r b:Int}(h:Fk G n i o l t r b m)(lo:Al G o (n:Int))(e:r<=l\/b<=t):m=o:=by
 refine EJ ok h.lev lo λx y hx hy=>?_;rw[h.cell x y hx hy,X8 A0]
theorem Fk.one{G:Gv}(ok:GOk G){n i o m m':Nat}{l t r b:Int}(h:Fk G n i o l t r b m)(h':Fk G n i o l t r b m'):m=m':=EJ ok h.lev h'.lev λx y hx hy=>by rw[h.cell x y hx hy,h'.cell x y hx hy]
def Td(G:Gv)(c:Mc)(x:Nat):Prop:=∃(k:NK)(n i o:Nat)(l t r b:Int),Ent G c (k,.int x) n i o l t r b x
theorem WT{G:Gv}(ok:GOk G){c:Mc}{l:List Nat}(nd:l.Nodup)(h:∀x∈l,Td G c x):l.length<=16*c.S.length:=by
 classical
 let f:Nat->NK:=λx=>if z:Td G c x then Classical.choose z else [];have hf:∀x∈l,∃n i o l t r b,Ent G c (f x,.int x) n i o l t r b x:=λx hx=>by
  have z:=h x hx;show ∃n i o l t r b,Ent G c ((if z:Td G c x then Classical.choose z else []),.int x) n i o l t r b x;rw[dif_pos z];exact A5d z
 have k:KOk G c (l.map λx=>(f x,V.int (x:Int))):=by
  refine⟨?_,λp hp=>?_⟩
  ·rw[O5,F5,M7];refine A4f (λ{x y} hx hy hne z=>hne ?_) (F5.mp nd);have z:f x=f y:=z;obtain⟨n,i,o,l,t,r,b,e⟩:=hf x hx;obtain⟨n',i',o',l',t',r',b',e'⟩:=hf y hy;have q1:=A0e Prod.fst e.e;have q2:=A0e Prod.fst e'.e;have q1:f x=kMx i o l t r b:=q1;have q2:f y=kMx i' o' l' t' r' b':=q2;obtain⟨rfl,rfl,rfl,rfl,rfl,rfl⟩:=Qb (q1.symm.trans (z.trans q2));have:n=n':=K8 (e.pd.lo.uniq e'.pd.lo);subst this;exact e.mx.one ok e'.mx
  ·obtain⟨x,hx,rfl⟩:=D5.mp hp;obtain⟨n,i,o,l,t,r,b,e⟩:=hf x hx;exact⟨n,i,o,l,t,r,b,x,e⟩
 have:=k.len ok;rw[A9]at this;exact this
structure FS(G:Gv)(f B:Nat):Prop where
 ex:∃S:List Nat,f∈S/\(∀j,j<=48->bareN j∈S)/\Clo G S/\S.length<=B
theorem FS.app{G G':Gv}{k f B:Nat}(go:AU G G' k)(h:FS G f B):FS G' f B:=by
 obtain⟨S,h1,h2,h3,h4⟩:=h.ex;exact⟨S,h1,h2,h3.app go,h4⟩
theorem FS.mono{G:Gv}{f B C:Nat}(h:FS G f B)(e:B<=C):FS G f C:=by
 obtain⟨S,h1,h2,h3,h4⟩:=h.ex;exact⟨S,h1,h2,h3,by lia⟩
theorem Clo.cons{G:Gv}{S:List Nat}(h:Clo G S){n x a b c d:Nat}{q:Sq}(nd:Cb G n x q a b c d)(m:a∈S/\b∈S/\c∈S/\d∈S):Clo G (x::S):=λo ho=>by
 rcases C2.mp ho with rfl|ho
 ·exact .inr ⟨n,q,a,b,c,d,nd,B9 _ m.1,B9 _ m.2.1,B9 _ m.2.2.1,B9 _ m.2.2.2⟩
 ·rcases h o ho with z|⟨n',q',a',b',c',d',nd',m'⟩
  ·exact .inl z
  ·exact .inr ⟨n',q',a',b',c',d',nd',B9 _ m'.1,B9 _ m'.2.1,B9 _ m'.2.2.1,B9 _ m'.2.2.2⟩
theorem Ql{G r:Gv}(e0:G=G0++r)(ok:GOk G){j:Nat}(h:j<=48):FS G (bareN j) 49:=by
 refine⟨(List.range 49).map bareN,D5.mpr ⟨j,M0.mpr A0,rfl⟩,λi hi=>D5.mpr ⟨i,M0.mpr A0,rfl⟩,λo ho=>?_,by rw[A9,O1];exact B1 _⟩;obtain⟨i,hi,rfl⟩:=D5.mp ho;have hi:=M0.mp hi;cases i with
 |zero=>exact .inl A4
 |succ i =>
  have m:bareN i∈(List.range 49).map bareN:=D5.mpr ⟨i,M0.mpr A0,rfl⟩;have lb:=Dy e0 (n:=i) A0;have g:G[bareN (i+1)]?=some ⟨[(bareN i:Int),(bareN i:Int),(bareN i:Int),(bareN i:Int)],(i:Int)+1⟩:=by
   have:=Qh e0 i A0;exact this
  exact .inr ⟨i,_,bareN i,bareN i,bareN i,bareN i,⟨g,rfl,rfl,lb,lb,lb,lb⟩,m,m,m,m⟩
theorem FS.wid{G r:Gv}(e0:G=G0++r)(ok:GOk G){n f w B:Nat}(hn:n<=46)(h:FS G f B)(wd:Wid G n f w):FS G w (B+5):=by
 obtain⟨S,h1,h2,h3,h4⟩:=h.ex;obtain⟨q,x,y,z,v,a,b,c,d,nd,ea,eb,ec,ed,ew⟩:=wd.ex;obtain⟨m1,m2,m3,m4⟩:=h3.get ok h1 nd;have lb:=Dy e0 (n:=n) A0;have mb:=h2 n A0;have na:Cb G n a _ (bareN n) (bareN n) (bareN n) x:=⟨ea,rfl,rfl,lb,lb,lb,nd.hx⟩
 have nb:Cb G n b _ (bareN n) (bareN n) y (bareN n):=⟨eb,rfl,rfl,lb,lb,nd.hy,lb⟩
 have nc:Cb G n c _ (bareN n) z (bareN n) (bareN n):=⟨ec,rfl,rfl,lb,nd.hz,lb,lb⟩
 have nD:Cb G n d _ v (bareN n) (bareN n) (bareN n):=⟨ed,rfl,rfl,nd.hw,lb,lb,lb⟩
 have la:Al G a ((n+1:Nat):Int):=⟨_,ea,by show(n:Int)+1=_;lia⟩
 have lb':Al G b ((n+1:Nat):Int):=⟨_,eb,by show(n:Int)+1=_;lia⟩
 have lc:Al G c ((n+1:Nat):Int):=⟨_,ec,by show(n:Int)+1=_;lia⟩
 have ld:Al G d ((n+1:Nat):Int):=⟨_,ed,by show(n:Int)+1=_;lia⟩
 have nw:Cb G (n+1) w _ a b c d:=⟨ew,rfl,by show(n:Int)+2=((n+1:Nat):Int)+1;lia,la,lb',lc,ld⟩
 refine⟨w::a::b::c::d::S,by simp,λj hj=>by simp[h2 j hj],?_,by simp only[D1];lia⟩;refine Clo.cons (Clo.cons (Clo.cons (Clo.cons (Clo.cons h3 nD ⟨m4,mb,mb,mb⟩) nc ?_) nb ?_) na ?_) nw ?_
 ·exact⟨B9 _ mb,B9 _ m3,B9 _ mb,B9 _ mb⟩
 ·simp[mb,m2]
 ·simp[mb,m1]
 ·simp
theorem FS.widN{G r:Gv}(e0:G=G0++r)(ok:GOk G){n f B:Nat}(h:FS G f B):∀{k w:Nat},n+k<=46->NC G n f k w->FS G w (B+5*k)
 |0,w,_,e=>by
  have e:w=f:=e;subst e;exact h
 |k+1,w,hn,e=>by
  obtain⟨u,e1,e2⟩:=e;exact((FS.widN e0 ok h (k:=k) A0 e1).wid e0 ok A0 e2).mono A0
theorem FS.trim{G:Gv}(ok:GOk G):∀{n f r B:Nat},FS G f B->LO G n f r->FS G r (B+n)
 |0,_,_,_,_,t=>absurd t (by intro z;exact z)
 |1,f,r,B,h,t=>by
  have t:r=f:=t;subst t;exact h.mono A0
 |n+2,f,r,B,h,t=>by
  obtain⟨qs,ps,dp,t⟩:=t;rcases t with ⟨_,rfl⟩|⟨_,m,em,t⟩
  ·exact h.mono A0
  ·obtain⟨S,h1,h2,h3,h4⟩:=h.ex;obtain⟨q,nd⟩:=dp.node;obtain⟨m0,m1,m2,m3⟩:=h3.get ok h1 nd;have sub:∀k,k<4->qs k∈S:=λk hk=>by
    match k,hk with
    |0,_=>exact m0
    |1,_=>exact m1
    |2,_=>exact m2
    |3,_=>exact m3
   have sub2:∀k j,k<4->j<4->ps k j∈S/\Al G (ps k j) (n:Int):=λk j hk hj=>by
    obtain⟨q',nd'⟩:=dp.sub k hk;obtain⟨a0,a1,a2,a3⟩:=h3.get ok (sub k hk) nd'
    match j,hj with
    |0,_=>exact⟨a0,nd'.hx⟩
    |1,_=>exact⟨a1,nd'.hy⟩
    |2,_=>exact⟨a2,nd'.hz⟩
    |3,_=>exact⟨a3,nd'.hw⟩
   have p0:=sub2 0 3 A4 A4;have p1:=sub2 1 2 A4 A4;have p2:=sub2 2 1 A4 A4;have p3:=sub2 3 0 A4 A4;have nm:Cb G n m _ (ps 0 3) (ps 1 2) (ps 2 1) (ps 3 0):=⟨em,rfl,rfl,p0.2,p1.2,p2.2,p3.2⟩
   have:FS G m (B+1):=⟨m::S,by simp,λj hj=>by simp[h2 j hj],Clo.cons h3 nm ⟨p0.1,p1.1,p2.1,p3.1⟩,by simp only[D1];lia⟩
   exact(FS.trim ok this t).mono A0
theorem fs_mix{G:Gv}(ok:GOk G){c:Mc}(clo:Clo G c.S)(hb:∀j,j<=48->bareN j∈c.S){m:Nat}(h:Td G c m)(s8:c.s<8)(bo:c.ro=true->∀{n o:Nat},Al G o (n:Int)->Sol G c.s n o->o∈c.S):FS G m (17*c.S.length):=by
 classical
 let L:=(List.range G.length).filter λx=>decide (Td G c x);have inL:∀{x:Nat},Td G c x->x∈L:=λ{x} hx=>U8.mpr ⟨M0.mpr (by
  obtain⟨k,n,i,o,l,t,r,b,e⟩:=hx;exact e.mx.lev.lt),X7 hx⟩
 have len:L.length<=16*c.S.length:=WT ok (List.Pairwise.filter _ List.nodup_range) λx hx=>A0f (U8.mp hx).2;refine⟨c.S++L,C7.mpr (.inr (inL h)),λj hj=>C7.mpr (.inl (hb j hj)),λx hx=>?_,by rw[B0];lia⟩;rcases C7.mp hx with hx|hx
 ·rcases clo x hx with z|⟨n,q,a,b,c',d,nd,m1,m2,m3,m4⟩
  ·exact .inl z
  ·exact .inr ⟨n,q,a,b,c',d,nd,C7.mpr (.inl m1),C7.mpr (.inl m2),C7.mpr (.inl m3),C7.mpr (.inl m4)⟩
 ·obtain⟨k,n,i,o,l,t,r,b,e⟩:=A0f (U8.mp hx).2;cases n with
  |zero=>exact .inl (PZ ok e.mx.lev)
  |succ n =>
   obtain⟨qm,m0,m1,m2,m3,nm⟩:=AK ok e.mx.lev;obtain⟨qo,o0,o1,o2,o3,no⟩:=AK ok e.pd.lo;obtain⟨qi,i0,i1,i2,i3,ni⟩:=AK ok e.pd.li;have all:∀k',k'<4->f4 m0 m1 m2 m3 k'∈c.S++L:=λk' hk=>by
    have mp:=e.mx.part ni no nm hk;have pd':=e.pd.part ok clo ni no hk;by_cases z:(spl l r (2^n) (k'%2)).1<(spl l r (2^n) (k'%2)).2/\(spl t b (2^n) (k'/2)).1<(spl t b (2^n) (k'/2)).2
    ·exact C7.mpr (.inr (inL ⟨_,n,_,_,_,_,_,_,⟨rfl,pd',mp,e.sx.spl z.1,e.sy.spl z.2⟩⟩))
    ·rw[mp.empty ok pd'.lo A0];refine C7.mpr (.inl ?_);have q1:=pd'.mo;have q2:=pd'.so;unfold EE at q1;unfold UL at q2;by_cases y:c.ro=true
     ·rw[X9 y]at q2;exact bo y pd'.lo q2
     ·rw[X8 y]at q1;exact q1
   exact .inr ⟨n,qm,m0,m1,m2,m3,nm,all 0 A4,all 1 A4,all 2 A4,all 3 A4⟩
seal L2.PA L2.PE L2.PS L2.PSs L2.PT L2.PW
theorem RG{G:Gv}(ok:GOk G){s:Nat}(hs:s<8):∀{n i x y:Nat},Sol G s n i->x<2^n->y<2^n->cellF G n i x y=s
 |0,i,x,y,h,_,_=>h
 |n+1,i,x,y,h,hx,hy=>by
  obtain⟨m,h1,e⟩:=h;have lm:=Sol.lev ok hs h1;have nd:Cb G n i _ m m m m:=⟨e,rfl,rfl,lm,lm,lm,lm⟩
  rw[AW nd hx hy];have:f4 m m m m (quad n x y)=m:=by unfold f4;split<;>rfl
  rw[this];exact RG ok hs h1 (J9 _ (Bc n)) (J9 _ (Bc n))
def InB(x y wd ht u v:Int):Prop:=(x<=u/\u<x+wd)/\(y<=v/\v<y+ht)
instance(x y wd ht u v:Int):Decidable (InB x y wd ht u v):=by unfold InB;infer_instance
theorem UW{G:Gv}(ok:GOk G){n s i o m:Nat}{x y wd ht:Int}(s8:s<8)(so:Sol G s (n+1) i)(li:CO x y wd ht (2^n))(h:Fk G (n+1) i o (x+2^n) (y+2^n) (x+2^n+wd) (y+2^n+ht) m)(u v:Int):fieldF G n m u v=if InB x y wd ht u v then s else fieldF G n o u v:=by
 unfold fieldF;by_cases z:-(2^n)<=u/\u<2^n/\-(2^n)<=v/\v<2^n
 ·rw[X9 z,X9 z];have h1:=DA z.1 z.2.1;have h2:=DA z.2.2.1 z.2.2.2;rw[h.cell _ _ h1 h2,RG ok s8 so h1 h2];have e1:((u+2^n).toNat:Int)=u+2^n:=N2 A0;have e2:((v+2^n).toNat:Int)=v+2^n:=N2 A0;rw[e1,e2];by_cases q:InB x y wd ht u v
  ·rw[X9 q,X9 (by unfold InB at q;lia)]
  ·rw[X8 q,X8 (by unfold InB at q;lia)]
 ·rw[X8 z,X8 z,X8];unfold InB;unfold CO at li;lia
def clL(v:Int):Int:=if 0 > v then 0 else v
def clR(n:Nat)(v:Int):Int:=if 2*2^n<v then 2*2^n else v
theorem Yy{v:Int}(h:0<=v):clL v=v:=by unfold clL;rw[X8 A0]
theorem Yx{n:Nat}{v:Int}(h:v<=2*2^n):clR n v=v:=by unfold clR;rw[X8 A0]
section
variable{P:Program}{w:World}{K:PySem.W.Frag}{mg:Str->Option Value}{base:Heap}{a:Ad}
inductive SpChB(vs:List V)(H:Hp)(Q:VK):Prop
 |mk (t:Addr) (x y wd ht:Int) (_:vs=[.ref t]) (_:H t=some (.tup [.int x,.int y,.int wd,.int ht])) (_:0<=wd) (_:0<=ht) (_:Q .non H):SpChB vs H Q
def Tw:Sp:=λvs H Q _=>SpChB vs H Q
theorem ok_chb{f:Addr}{fd:FuncData}(F:Fun K "check_box" "check_box" Ic f fd)(T:Top K mg a):AC P w K mg base CX0 1 f fd Ft Tw:=by
 refine F.ok Pp (λvs H Q E h=>?_) (λcdv A outer s H vs Q E hr h=>?_)
 ·obtain⟨t,x,y,wd,ht,rfl,_⟩:=h;rfl
 ·obtain⟨t,x,y,wd,ht,rfl,hb,w0,h0,k⟩:=h;refine⟨_,(Ae (AB (PW.pt (EX (Ar Ja (Am Ax (pv 0) Af (λ_ _=>rfl)) Af (Av _)) (DH (Ar Ja (Am Ax (pv 0) Af (λ_ _=>rfl)) Af (Av _))))) (Ae AZ) Au)),?_⟩
  try dsimp only[cxK]
  refine xwi rfl rfl rfl (SqT.of hb) (Ah (j:=2) rfl) (xq2 rfl rfl (xq1 rfl ?_));rw[X6 (by lia:¬wd<0)];refine AS (xwi rfl rfl rfl (SqT.of hb) (Ah (j:=3) rfl) (xq2 rfl rfl (xq1 rfl ?_)));rw[X6 (by lia:¬ht<0)];exact AS k
inductive SpPI(a:Ad)(vs:List V)(H:Hp)(Q:VK):Prop
 |mk (g:GA) (G:Gv) (f n:Nat) (t:Addr) (x y wd ht:Int) (_:vs=[.ref g.p,.int f,.ref t]) (_:AF a H g G) (_:Al G f ((n+1:Nat):Int)) (_:n<48) (_:H t=some (.tup [.int x,.int y,.int wd,.int ht])) (_:∀(t':Addr)(H':Hp),Az H H'->H' t'=some (.tup [.int (clL (x+2^n)),.int (clL (y+2^n)),.int (clR n (x+2^n+wd)),.int (clR n (y+2^n+ht))])->Q (.ref t') H'):SpPI a vs H Q
def spPI(a:Ad):Sp:=λvs H Q _=>SpPI a vs H Q
theorem ok_pi{f:Addr}{fd:FuncData}(F:Fun K "part_in" "part_in" Lb f fd)(T:Top K mg a)(a9:Cal P w K mg base CX0 4 "reach_of" CY (Ge a)):AC P w K mg base CX0 5 f fd II (spPI a):=by
 refine F.ok EM (λvs H Q E h=>?_) (λcdv A outer s H vs Q E hr h=>?_)
 ·obtain⟨g,G,f',n,t,x,y,wd,ht,rfl,_⟩:=h;rfl
 ·obtain⟨g,G,f',n,t,x,y,wd,ht,rfl,fu,lf,n48,hb,k⟩:=h;refine⟨_,(Ab (Aj (i:=3) EM.nd rfl (Or.inl rfl) (Aq a9 (rm hr) rfl Ao (Aa (pv 0) (Aa (pv 1) Ac)))) (Ab (Aj (i:=4) EM.nd rfl (Or.inl rfl) (AA AV (Am Ax (pv 2) Af (λ_ _=>rfl)) (pv 3))) (Ab (Aj (i:=5) EM.nd rfl (Or.inl rfl) (AA AV (Am Ax (pv 2) Af (λ_ _=>rfl)) (pv 3))) (Ab (Aj (i:=6) EM.nd rfl (Or.inl rfl) (AA Es Af (pv 3))) (Ae (An (Ck (Aa (Aw (IP rfl) rfl T.b_max A2g (Aa (pv 4) (AX Ac))) (Aa (Aw (IP rfl) rfl T.b_max A2g (Aa (pv 5) (AX Ac))) (Aa (Aw (Ga rfl) rfl T.b_min A1b (BH AV (pv 4) (Am Ax (pv 2) Af (λ_ _=>rfl)) (Aa (pv 6) Ac))) (Aa (Aw (Ga rfl) rfl T.b_min A1b (BH AV (pv 5) (Am Ax (pv 2) Af (λ_ _=>rfl)) (Aa (pv 6) Ac))) Ac))))))))))),?_⟩
  try dsimp only[cxK]
  refine xw2 rfl rfl ⟨g,G,f',n,rfl,fu.at',lf,n48,?_⟩;refine xwi rfl rfl rfl (SqT.of hb) (Ah (j:=0) rfl) (xwb rfl rfl rfl ?_);refine xwi rfl rfl rfl (SqT.of hb) (Ah (j:=1) rfl) (xwb rfl rfl rfl ?_);refine xwb rfl rfl rfl ⟨.inl ⟨by decide,by decide⟩,?_⟩;refine xq1 rfl ⟨_,_,rfl,(xq1 rfl ⟨_,_,rfl,(xwj rfl rfl rfl rfl (SqT.of hb) (Ah (j:=2) rfl) (xq2 rfl rfl (xq1 rfl ⟨_,_,rfl,(xwj rfl rfl rfl rfl (SqT.of hb) (Ah (j:=3) rfl) (xq2 rfl rfl (xq1 rfl ⟨_,_,rfl,(by show 4<=sizeLine;decide),λt' ht'=>?_⟩)))⟩)))⟩)⟩;exact k t' _ (Ak ht') Ag
end
end J
namespace J
open PySem L2
theorem Clo.un{G:Gv}{U:List Nat}(h:∀o∈U,∃S,Clo G S/\o∈S/\∀x∈S,x∈U):Clo G U:=λo ho=>by
 obtain⟨S,c,m,sub⟩:=h o ho;rcases c o m with z|⟨n,q,a,b,d,e,nd,m1,m2,m3,m4⟩
 ·exact .inl z
 ·exact .inr ⟨n,q,a,b,d,e,nd,sub _ m1,sub _ m2,sub _ m3,sub _ m4⟩
theorem spl_w{l r h:Int}(l0:0<=l):((spl l r h 0).2-(spl l r h 0).1).toNat+((spl l r h 1).2-(spl l r h 1).1).toNat=(r-l).toNat:=by
 show((if h<r then h else r)-l).toNat+(r-h-(if l-h<0 then 0 else l-h)).toNat=(r-l).toNat;split<;>split<;>lia
theorem VJ{l r h:Int}(l0:0<=l)(k:Nat):0<=(spl l r h k).1:=by
 match k with
 |0=>exact l0
 |k+1=>show 0<=(if l-h<0 then 0 else l-h);split<;>lia
theorem area4(a b c d:Nat):a*c+b*c+a*d+b*d=(a+b)*(c+d):=by
 rw[Nat.add_mul,Nat.mul_add,Nat.mul_add];lia
theorem Ui{G:Gv}(ok:GOk G){S:List Nat}(clo:Clo G S):∀{n i o m:Nat}{l t r b:Int},Al G i (n:Int)->Al G o (n:Int)->o∈S->Fk G n i o l t r b m->0<=l->0<=t->∃T:List Nat,T.length<=(r-l).toNat*(b-t).toNat*(n+1)/\m∈T++S/\Clo G (T++S)
 |n,i,o,m,l,t,r,b,li,lo,mo,mx,l0,t0=>by
  by_cases em:r<=l\/b<=t
  ·refine⟨[],G9 _,?_,clo⟩;rw[mx.empty ok lo em];exact mo
  have p1:1<=(r-l).toNat:=by lia
  have p2:1<=(b-t).toNat:=by lia
  have pa:1<=(r-l).toNat*(b-t).toNat:=Nat.mul_pos p1 p2;cases n with
  |zero =>
   refine⟨[m],by show 1<=_;lia,by simp,λx hx=>?_⟩;rcases C2.mp hx with rfl|hx
   ·exact .inl (PZ ok mx.lev)
   ·rcases clo x hx with z|⟨n,q,a,b,d,e,nd,m1,m2,m3,m4⟩
    ·exact .inl z
    ·exact .inr ⟨n,q,a,b,d,e,nd,B9 _ m1,B9 _ m2,B9 _ m3,B9 _ m4⟩
  |succ n =>
   obtain⟨qm,m0,m1,m2,m3,nm⟩:=AK ok mx.lev;obtain⟨qo,o0,o1,o2,o3,no⟩:=AK ok lo;obtain⟨qi,i0,i1,i2,i3,ni⟩:=AK ok li;have oS:∀k,k<4->f4 o0 o1 o2 o3 k∈S:=λk hk=>by
    obtain⟨a0,a1,a2,a3⟩:=clo.get ok mo no
    match k,hk with
    |0,_=>exact a0
    |1,_=>exact a1
    |2,_=>exact a2
    |3,_=>exact a3
   have all:∀k,k<4->∃T:List Nat,T.length<=((spl l r (2^n) (k%2)).2-(spl l r (2^n) (k%2)).1).toNat*((spl t b (2^n) (k/2)).2-(spl t b (2^n) (k/2)).1).toNat*(n+1)/\f4 m0 m1 m2 m3 k∈T++S/\Clo G (T++S):=λk hk=>Ui ok clo (ni.nat hk).2 (no.nat hk).2 (oS k hk) (mx.part ni no nm hk) (VJ l0 _) (VJ t0 _);obtain⟨T0,l0',h0,c0⟩:=all 0 A4;obtain⟨T1,l1',h1,c1⟩:=all 1 A4;obtain⟨T2,l2',h2,c2⟩:=all 2 A4;obtain⟨T3,l3',h3,c3⟩:=all 3 A4;have wx:=spl_w (l:=l) (r:=r) (h:=2^n) l0;have wy:=spl_w (l:=t) (r:=b) (h:=2^n) t0;have e0:(0%2:Nat)=0:=rfl;rw[show(0%2:Nat)=0 from rfl,show(0/2:Nat)=0 from rfl]at l0';rw[show(1%2:Nat)=1 from rfl,show(1/2:Nat)=0 from rfl]at l1';rw[show(2%2:Nat)=0 from rfl,show(2/2:Nat)=1 from rfl]at l2';rw[show(3%2:Nat)=1 from rfl,show(3/2:Nat)=1 from rfl]at l3';generalize ((spl l r (2^n) 0).2-(spl l r (2^n) 0).1).toNat=a at *
   generalize ((spl l r (2^n) 1).2-(spl l r (2^n) 1).1).toNat=b' at *
   generalize ((spl t b (2^n) 0).2-(spl t b (2^n) 0).1).toNat=c at *
   generalize ((spl t b (2^n) 1).2-(spl t b (2^n) 1).1).toNat=d at *
   have ar:=area4 a b' c d;rw[wx,wy]at ar;generalize (r-l).toNat*(b-t).toNat=A at *
   have sum:a*c*(n+1)+b'*c*(n+1)+a*d*(n+1)+b'*d*(n+1)=A*(n+1):=by rw[<-ar,Nat.add_mul,Nat.add_mul,Nat.add_mul]
   have up:A*(n+1+1)=A*(n+1)+A:=Nat.mul_succ _ _;have cu:Clo G (T0++(T1++(T2++T3))++S):=Clo.un λx hx=>by
    simp only[C7]at hx;rcases hx with (hx|hx|hx|hx)|hx
    ·exact⟨_,c0,by simp[hx],λy hy=>by simp only[C7]at hy⊢;rcases hy with hy|hy<;>simp[hy]⟩
    ·exact⟨_,c1,by simp[hx],λy hy=>by simp only[C7]at hy⊢;rcases hy with hy|hy<;>simp[hy]⟩
    ·exact⟨_,c2,by simp[hx],λy hy=>by simp only[C7]at hy⊢;rcases hy with hy|hy<;>simp[hy]⟩
    ·exact⟨_,c3,by simp[hx],λy hy=>by simp only[C7]at hy⊢;rcases hy with hy|hy<;>simp[hy]⟩
    ·exact⟨_,clo,hx,λy hy=>by simp[hy]⟩
   have g0:m0∈T0++S:=h0;have g1:m1∈T1++S:=h1;have g2:m2∈T2++S:=h2;have g3:m3∈T3++S:=h3;simp only[C7]at g0 g1 g2 g3;refine⟨m::(T0++(T1++(T2++T3))),by simp only[D1,B0];lia,by simp,Clo.cons cu nm ⟨?_,?_,?_,?_⟩⟩
   ·simp only[C7];rcases g0 with z|z<;>simp[z]
   ·simp only[C7];rcases g1 with z|z<;>simp[z]
   ·simp only[C7];rcases g2 with z|z<;>simp[z]
   ·simp only[C7];rcases g3 with z|z<;>simp[z]
theorem fs_area{G:Gv}(ok:GOk G){S:List Nat}(clo:Clo G S)(hb:∀j,j<=48->bareN j∈S){n i o m A:Nat}{l t r b:Int}(li:Al G i (n:Int))(lo:Al G o (n:Int))(mo:o∈S)(mx:Fk G n i o l t r b m)(l0:0<=l)(t0:0<=t)(hn:n<=49)(ha:(r-l).toNat*(b-t).toNat<=A):FS G m (S.length+A*50):=by
 obtain⟨T,h1,h2,h3⟩:=Ui ok clo li lo mo mx l0 t0;refine⟨T++S,h2,λj hj=>C7.mpr (.inr (hb j hj)),h3,?_⟩;rw[B0];have:(r-l).toNat*(b-t).toNat*(n+1)<=A*50:=Nat.mul_le_mul ha A0;lia
seal L2.PA L2.PE L2.PS L2.PSs L2.PT L2.PW
theorem Vt{G r:Gv}(e0:G=G0++r)(ok:GOk G){n j w:Nat}(hn:n+j<=46)(lb:Al G (bareN (n+1)) ((n+1:Nat):Int))(wi:NC G n (bareN (n+1)) j w)(lw:Al G w ((n+j+1:Nat):Int)):w=bareN (n+j+1):=by
 refine EJ ok lw (Dy e0 A0) λx y hx hy=>?_;rw[DO e0 ok A0 hx hy];have c:=Fp (n+j);have s:=MK (n+j);have e:=Jf e0 ok A0 wi ((x:Int)-2^(n+j)) ((y:Int)-2^(n+j));unfold fieldF at e;rw[X9 ⟨by lia,by lia,by lia,by lia⟩,show((x:Int)-2^(n+j)+2^(n+j)).toNat=x by lia,show((y:Int)-2^(n+j)+2^(n+j)).toNat=y by lia]at e;rw[e];split
 ·rename_i z;exact DO e0 ok A0 (DA z.1 z.2.1) (DA z.2.2.1 z.2.2.2)
 ·rfl
section
variable{P:Program}{w:World}{K:PySem.W.Frag}{mg:Str->Option Value}{base:Heap}{a:Ad}
inductive YQ(a:Ad)(vs:List V)(H:Hp)(Q:VK):Prop
 |mk (g:GA) (G:Gv) (f n:Nat) (t:Addr) (x y wd ht:Int) (s B C:Nat) (_:vs=[.ref g.p,.int f,.ref t,.int s]) (_:AF a H g G) (_:Al G f ((n+1:Nat):Int)) (_:n<=40) (_:LB G n f) (_:H t=some (.tup [.int x,.int y,.int wd,.int ht])) (_:0<=wd) (_:0<=ht) (_:(0<wd->0<ht->CO x y wd ht (2^40))) (_:s<8) (_:FS G f B) (_:(f=bareN (n+1)/\900<=C)\/17*B+4000<=C\/wd.toNat*ht.toNat*50+B+300<=C) (_:B<=200000) (_:G.length+16*B<7500000) (_:∀(r m:Nat)(G':Gv)(H':Hp),Fr g H H'->AF a H' g G'->AU G G' (16*B+4000)->Al G' r ((m+1:Nat):Int)->m<=40->LB G' m r->(∀u v,fieldF G' m r u v=if InB x y wd ht u v then s else fieldF G n f u v)->FS G' r C->Q (.int r) H'):YQ a vs H Q
def Mz(a:Ad):Sp:=λvs H Q _=>YQ a vs H Q
theorem TK{f:Addr}{fd:FuncData}(F:Fun K "filled" "filled" Jz f fd)(T:Top K mg a)(aO:Cal P w K mg base CX0 1 "check_box" Ft Tw)(aC:Cal P w K mg base CX0 1 "lies_within" CM QC)(aJ:Cal P w K mg base CX0 2 "is_state" Fb VT)(aH:Cal P w K mg base CX0 5 "widened_over" Du (spWO a))(aB:Cw P w K mg base CX0 4 a.c_Grove "solid" CN (Jt a))(a6:Cw P w K mg base CX0 3 a.c_Grove "level_of" AR (IT a))(aW:Cal P w K mg base CX0 5 "part_in" II (spPI a))(b9:Cal P w K mg base CX0 102 "mixed" Gz (Op a P w 50))(aV:Cal P w K mg base CX0 4 "trimmed" IH (Pi a)):AC P w K mg base CX0 103 f fd Ik (Mz a):=by
 refine F.ok De (λvs H Q E h=>?_) (λcdv A outer s H vs Q E hr h=>?_)
 ·obtain⟨g,G,f',n,t,x,y,wd,ht,st,B,C,rfl,_⟩:=h;rfl
 ·obtain⟨g,G,f',n,t,x,y,wd,ht,st,B,C,rfl,fu,lf,n40,tr,hb,w0,h0,far,s8,fs,hC,B2,few,k⟩:=h;refine⟨_,(Ab (Be (Aq aO (rm hr) rfl Ao (Aa (pv 2) Ac))) (Ab (Aj (i:=4) De.nd rfl (Or.inl rfl) (FF (BY Dg (Am Ax (pv 2) Af (λ_ _=>rfl)) Af (Av _)) (Jn (BY Dg (Am Ax (pv 2) Af (λ_ _=>rfl)) Af (Av _))))) (Ab (AB (PW.pt (MG (BK (pv 4)) (JB (Cj (BK (Aq aC (rm hr) rfl Ao (Aa (pv 2) (Aa (BO rfl T.k_LIMIT) Ac)))))))) (Ae AZ) Au) (Ab (AB (Cj (BK (Aq aJ (rm hr) rfl Ao (Aa (pv 3) Ac)))) (Ae AZ) Au) (Ab (AB (Cj (BK (pv 4))) (Ae (An (pv 1))) Au) (Ab (Aj (i:=5) De.nd rfl (Or.inl rfl) (Aq aH (rm hr) rfl Ao (Aa (pv 0) (Aa (pv 1) (Aa (pv 2) Ac))))) (Ab (Aj (i:=6) De.nd rfl (Or.inl rfl) (AE (pv 0) aB (rm hr) Ao (Aa (AE (pv 0) a6 (rm hr) Ao (Aa (pv 5) Ac)) (Aa (pv 3) Ac)))) (Ae (An (Aq aV (rm hr) rfl Ao (Aa (pv 0) (Aa (Aq b9 (rm hr) rfl Ao (Aa (pv 0) (Aa (pv 6) (Aa (pv 5) (Aa (Aq aW (rm hr) rfl Ao (Aa (pv 0) (Aa (pv 5) (Aa (pv 2) Ac)))) (Aa (QT (sh:=[false,false,true])) Ac)))))) Ac)))))))))))),?_⟩
  try dsimp only[cxK]
  refine xq1 rfl ⟨t,x,y,wd,ht,rfl,hb,w0,h0,?_⟩;refine ev_val (t:=tAndV (tOp (rI0 λi j=>V.bl (decide (j<i))) (tOp (Pt K) (Pf 2) (tC (V.int 2))) (tC (V.int 0))) (tOp (rI0 λi j=>V.bl (decide (j<i))) (tOp (Pt K) (Pf 2) (tC (V.int 3))) (tC (V.int 0)))) (λv H1=>v=.bl (decide (0<wd) && decide (0<ht))/\H=H1) (λQ' q'=>?_) ?_
  ·refine xwi rfl rfl rfl (SqT.of hb) (Ah (j:=2) rfl) (xq2 rfl rfl (xq1 rfl ?_));revert q';generalize decide ((0:Int)<wd)=b1;cases b1
   ·intro q';exact AS (q' _ _ ⟨rfl,rfl⟩)
   ·intro q';exact Bq (xwi rfl rfl rfl (SqT.of hb) (Ah (j:=3) rfl) (xq2 rfl rfl (q' _ _ ⟨rfl,rfl⟩)))
  rintro v H1 ⟨rfl,rfl⟩;by_cases hp:0<wd/\0<ht
  ·have li:=far hp.1 hp.2;rw[X7 hp.1,X7 hp.2];refine xq1 rfl ⟨true,rfl,Bq (xq1 rfl ⟨t,x,y,wd,ht,2^40,rfl,hb,(xq1 rfl ?_)⟩)⟩;rw[X7 li];refine AS (xq1 rfl ⟨(st:Int),rfl,by lia,by lia,true,rfl,AS (xq1 rfl ⟨true,rfl,AS ?_⟩)⟩);refine xw3 rfl rfl rfl ⟨g,G,f',n,t,x,y,wd,ht,rfl,fu,lf,n40,hb,li,by lia,λj w' G1 H1 fr1 fu1 go1 nk wi lw liw _=>?_⟩;have g1:=go1.few;have ft1:H1 t=some (.tup [.int x,.int y,.int wd,.int ht]):=fr1.tup fu.at' hb;obtain⟨qw,ew,elw⟩:=id lw;refine xq1 rfl ⟨g.p,g.dx,(xq1 rfl ⟨fu1.at'.hp,QV g,(xq1 rfl ⟨g.p,g.dx,(xq1 rfl ⟨fu1.at'.hp,Db g,(xq1 rfl ⟨g,G1,w',qw,rfl,fu1.at',ew,(xq1 rfl ?_)⟩)⟩)⟩)⟩)⟩;refine⟨g,G1,n+j+1,st,by rw[elw];rfl,fu1.at',fu1.ok,by lia,s8,by lia,λi G2 H2 fr2 hg2 go2 so2=>?_⟩;have fu2:=fu1.fr fr2 hg2 go2;have g2:=go2.few;have ft2:H2 t=some (.tup [.int x,.int y,.int wd,.int ht]):=fr2.tup fu1.at' ft1;have lw2:=go2.lev lw;refine xw3 rfl rfl rfl (xw3 rfl rfl rfl (xq1 rfl ⟨g,G2,w',n+j,t,x,y,wd,ht,rfl,fu2,lw2,by lia,ft2,λtp H3 s3 htp=>?_⟩));rw[Yy (by unfold CO at liw;lia),Yy (by unfold CO at liw;lia),Yx (by unfold CO at liw;lia),Yx (by unfold CO at liw;lia)]at htp;intro kn H4 hkn s4 na;have fu4:=(fu2.same s3).same s4;have htp4:=s4 _ _ htp;have nkn:H kn=none:=by
    cases e:H kn with
    |none=>rfl
    |some oo =>
     have z:kn=g.lv\/kn=g.pt\/kn=g.nm:=by
      refine A1e λz=>?_;have q1:=fr1 _ _ e (λq=>z (.inl q)) (λq=>z (.inr (.inl q))) (λq=>z (.inr (.inr q)));have q2:=fr2 _ _ q1 (λq=>z (.inl q)) (λq=>z (.inr (.inl q))) (λq=>z (.inr (.inr q)));rw[s3 _ _ q2]at hkn;cases hkn
     have w3:=(fu2.same s3).nw;obtain⟨o1,e1⟩:=w3.s kn (by simp[BM];lia);rw[hkn]at e1;cases e1
   have kg:kn∉BM g:=λz=>by
    obtain⟨o1,e1⟩:=(fu2.same s3).nw.s kn z;rw[hkn]at e1;cases e1
   obtain⟨r0,e0⟩:=fu4.g0;obtain⟨S,m1,m2,clo,lS,lC⟩:∃S:List Nat,w'∈S/\(∀j,j<=48->bareN j∈S)/\Clo G2 S/\S.length<=B+200/\(17*S.length+50<=C\/wd.toNat*ht.toNat*50+S.length+50<=C):=by
    rcases hC with ⟨rfl,hC⟩|hC
    ·have e1:=A5d fu1.g0;have eb:=Vt e1 fu1.ok A0 (Dy e1 (n:=n+1) A0) wi lw;obtain⟨S,h1,h2,h3,h4⟩:=((Ql e1 fu1.ok (j:=n+j+1) A0).app go2).ex;obtain⟨S0,q1,q2,q3,q4⟩:=fs.ex;exact⟨S,by rw[eb];exact h1,h2,h3,by lia,.inl A0⟩
    ·obtain⟨S,h1,h2,h3,h4⟩:=(((FS.widN (n:=n) (B:=B) (f:=f') (A5d fu1.g0) fu1.ok (fs.app go1) A0 wi)).app go2).ex;exact⟨S,h1,h2,h3,by lia,hC.imp (λz=>by lia) (λz=>by lia)⟩
   have p2:=Gr (n+j);have e2:(2:Int)^(n+j+1)=2^(n+j)+2^(n+j):=by rw[Y2];lia
   have liw':=liw;unfold CO at liw';have sx:IS (x+2^(n+j)) (x+2^(n+j)+wd) (n+j+1) (x+2^(n+j)) (x+2^(n+j)+wd):=IS.top A0 A0 A0;have sy:IS (y+2^(n+j)) (y+2^(n+j)+ht) (n+j+1) (y+2^(n+j)) (y+2^(n+j)+ht):=IS.top A0 A0 A0;refine⟨g,G2,⟨st,S,x+2^(n+j),x+2^(n+j)+wd,y+2^(n+j),y+2^(n+j)+ht,false⟩,kn,tp,[],i,w',n+j+1,x+2^(n+j),y+2^(n+j),x+2^(n+j)+wd,y+2^(n+j)+ht,rfl,fu4,na,kg,htp4,kok0 _ _,clo,s8,⟨Sol.lev fu2.ok s8 so2,lw2,so2,m1⟩,by lia,by lia,⟨by lia,by lia,by lia,by lia⟩,λ_=>sx,λ_=>sy,⟨by show G2.length+16*S.length<8000000+0;lia,by show 16*S.length<4000000;lia⟩,λm G5 kvs5 H5 x5 fu5 na5 kok5 le5 go5 un5 mx5=>?_⟩;have l5:=kok5.len fu5.ok;have l5:kvs5.length<=16*S.length:=l5;have g5:=go5.few;have g5:G5.length<=G2.length+(kvs5.length-0):=g5;refine⟨g,G5,m,n+j,rfl,fu5,mx5.lev,by lia,λr G6 H6 fr6 fu6 go6 tr6=>?_⟩;have g6:=go6.few;obtain⟨r6,e6⟩:=fu6.g0;obtain⟨m6,hm6,lm6,tm6,em6⟩:=Mt e6 fu6.ok A0 (go6.lev mx5.lev) tr6;have go26:AU G2 G6 (kvs5.length-0+48):=go5.trans go6;have goA:AU G G6 (16*B+4000):=((go1.trans go2).trans go26).mono A0;have md:Td G5 ⟨st,S,x+2^(n+j),x+2^(n+j)+wd,y+2^(n+j),y+2^(n+j)+ht,false⟩ m:=⟨_,n+j+1,i,w',_,_,_,_,⟨rfl,⟨go5.lev (Sol.lev fu2.ok s8 so2),go5.lev lw2,Sol.goes go5 so2,m1⟩,mx5,sx,sy⟩⟩
   have fs5:=fs_mix fu5.ok (clo.app go5) m2 md s8 (λz=>nomatch z);have fs5:FS G5 m (C-50):=by
    rcases lC with lC|lC
    ·exact FS.mono fs5 (show 17*S.length<=C-50 by lia)
    ·exact(fs_area fu5.ok (clo.app go5) m2 (go5.lev (Sol.lev fu2.ok s8 so2)) (go5.lev lw2) m1 mx5 A0 A0 A0 (A:=wd.toNat*ht.toNat) (by rw[show x+2^(n+j)+wd-(x+2^(n+j))=wd by lia,show y+2^(n+j)+ht-(y+2^(n+j))=ht by lia];exact B1 _)).mono A0
   refine k r m6 G6 H6 ?_ fu6 goA lm6 A0 tm6 (λu v=>?_) (((fs5.app go6).trim fu6.ok tr6).mono A0)
   ·intro bb oo e n1 n2 n3;have q1:=fr2 _ _ (fr1 _ _ e n1 n2 n3) n1 n2 n3;have q2:=s4 _ _ (s3 _ _ q1);have q3:=x5.get (b:=bb) (by
     simp only[frM,C2,L9,A3d,not_or];exact⟨n1,n2,n3,λz=>by rw[z,nkn]at e;cases e⟩) q2
    exact fr6 _ _ q3 n1 n2 n3
   ·obtain⟨ra,ea⟩:=fu1.g0;rw[em6 u v,FY fu5.ok go6 mx5.lev,UW fu5.ok s8 (Sol.goes go5 so2) liw mx5,FY fu2.ok go5 lw2,FY fu1.ok go2 lw,Jf ea fu1.ok A0 wi,FY fu.ok go1 lf]
  ·have e:(decide (0<wd) && decide (0<ht))=false:=by
    by_cases z:0<wd
    ·rw[X6 (λq=>hp ⟨z,q⟩),Bool.and_false]
    ·rw[X6 z,Bool.false_and]
   rw[e];refine xq1 rfl ⟨false,rfl,AS (AS (xq1 rfl ⟨(st:Int),rfl,by lia,by lia,true,rfl,AS (xq1 rfl ⟨false,rfl,Bq (xq1 rfl ?_)⟩)⟩))⟩;have fsC:FS G f' C:=by
    rcases hC with ⟨rfl,hC⟩|hC
    ·exact(Ql (A5d fu.g0) fu.ok A0).mono A0
    ·exact fs.mono (by rcases hC with hC|hC<;>lia)
   refine k f' n G H (Fr.refl g H) fu ((AU.refl fu.ok).mono A0) lf n40 tr (λu v=>?_) fsC;rw[X8];unfold InB;lia
end
section
variable{P:Program}{w:World}{K:PySem.W.Frag}{mg:Str->Option Value}{base:Heap}{a:Ad}
inductive SpWhI(vs:List V)(H:Hp)(Q:VK):Prop
 |mk (i:Int) (_:vs=[.int i]) (_:Q (.bl true) H):SpWhI vs H Q
def VM:Sp:=λvs H Q _=>SpWhI vs H Q
theorem ok_whi{f:Addr}{fd:FuncData}(F:Fun K "_law_whole" "_law_whole" Gk f fd)(T:Top K mg a):AC P w K mg base CX0 1 f fd GD VM:=by
 refine F.ok NJ (λvs H Q E h=>?_) (λcdv A outer s H vs Q E hr h=>?_)
 ·obtain⟨i,rfl,_⟩:=h;rfl
 ·obtain⟨i,rfl,k⟩:=h;refine⟨_,(Ae (An (FF (Aw Ba rfl T.b_isinstance K1 (Aa (pv 0) (Aa (EB (v:=.ty "int") rfl T.b_int A2f rfl) Ac))) (Jn (Wk (Aw Ba rfl T.b_isinstance K1 (Aa (pv 0) (Aa (EB (v:=.ty "bool") rfl T.b_bool PyProof.Rows.boot_bool rfl) Ac)))))))),?_⟩
  try dsimp only[cxK]
  exact xq1 rfl ⟨_,_,_,.type "int",true,rfl,rfl,.of (.int i),(TW K).1,true,rfl,Bq (xq1 rfl ⟨_,_,_,.type "int",false,rfl,rfl,.of (.int i),(TW K).2,false,rfl,k⟩)⟩
inductive YN(vs:List V)(H:Hp)(Q:VK):Prop
 |mk (c k:Int) (_:vs=[.int c,.int k]) (_:0<=k) (_:k<=1000) (_:∀v:Int,Q (.int v) H):YN vs H Q
def Mx:Sp:=λvs H Q _=>YN vs H Q
theorem ok_lmix{f:Addr}{fd:FuncData}(F:Fun K "_law_mix" "_law_mix" Jl f fd)(T:Top K mg a):AC P w K mg base CX0 1 f fd Fe Mx:=by
 refine F.ok GZ (λvs H Q E h=>?_) (λcdv A outer s H vs Q E hr h=>?_)
 ·obtain⟨c,k,rfl,_⟩:=h;rfl
 ·obtain⟨c,k,rfl,k0,k1,q⟩:=h;refine⟨_,(Ab (Aj (i:=2) GZ.nd rfl (Or.inl rfl) (AA AV (AA AV (AA BR (pv 0) Af) (AA Es Af (pv 1))) Af)) (Ab (Aj (i:=2) GZ.nd rfl (Or.inl rfl) (AA BR (AA Es (pv 2) (AA AV Af (AA Es Af (pv 1)))) Af)) (Ae (An (AA BR (AA Es (AA AV (AA ED (pv 2) Af) (AA Es (pv 2) Af)) Af) Af))))),?_⟩
  try dsimp only[cxK]
  refine xwb rfl rfl rfl ⟨A8,(xwb rfl rfl rfl ⟨.inl ⟨by decide,by decide⟩,(xq2 rfl rfl (xq2 rfl rfl ?_))⟩)⟩;refine xw2 rfl rfl (xq2 rfl rfl ⟨.inl ⟨by decide,by decide⟩,(xq2 rfl rfl (xq2 rfl rfl ⟨.inr ⟨by lia,by lia⟩,(xq2 rfl rfl ⟨A8,?_⟩)⟩))⟩);exact xwb rfl rfl rfl ⟨⟨by decide,by decide⟩,(xwb rfl rfl rfl ⟨.inr ⟨by decide,by decide⟩,(xq2 rfl rfl (xq2 rfl rfl ⟨.inr ⟨by decide,by decide⟩,(xq2 rfl rfl ⟨A8,q _⟩)⟩))⟩)⟩
inductive YS(vs:List V)(H:Hp)(Q:VK):Prop
 |mk (c:Int) (_:vs=[.int c]) (_:∀b:Nat,b<=40->Q (.int (b:Int)) H):YS vs H Q
def Se:Sp:=λvs H Q _=>YS vs H Q
theorem ok_bits{f:Addr}{fd:FuncData}(F:Fun K "_law_bits" "_law_bits" Ie f fd)(T:Top K mg a):AC P w K mg base CX0 1 f fd Il Se:=by
 refine F.ok Pq (λvs H Q E h=>?_) (λcdv A outer s H vs Q E hr h=>?_)
 ·obtain⟨c,rfl,_⟩:=h;rfl
 ·obtain⟨c,rfl,q⟩:=h;refine⟨_,(Ab (AB (Ar BS (AA BR (pv 0) Af) Af (Av _)) (Ae (An (AA BR (AA ED (pv 0) Af) Af))) Au) (Ae (An (AA BR (AA ED (pv 0) Af) Af)))),?_⟩
  try dsimp only[cxK]
  have nat:∀{v:Int},0<=v->v<=40->Q (.int v) H:=λ{v} h0 h1=>by
   obtain⟨n,rfl⟩:=W8 h0;exact q n A0
  refine xwb rfl rfl rfl ⟨A7,rfl,(xq1 rfl ?_)⟩;refine Ls (λ_=>?_) (λ_=>?_)
  ·exact xwb rfl rfl rfl ⟨⟨by decide,by decide⟩,(xq2 rfl rfl ⟨(by show(0:Int)<5;decide),nat (by show 0<=c/2%5;lia) (by show c/2%5<=40;lia)⟩)⟩
  ·exact xwb rfl rfl rfl ⟨⟨by decide,by decide⟩,(xq2 rfl rfl ⟨(by show(0:Int)<41;decide),nat (by show 0<=c/2%41;lia) (by show c/2%41<=40;lia)⟩)⟩
inductive SpPl(vs:List V)(H:Hp)(Q:VK):Prop
 |mk (c k:Int) (b:Nat) (_:vs=[.int c,.int k,.int (b:Int)]) (_:0<=k) (_:k<=1000) (_:b<=40) (_:∀p:Int,-(2^b)<=p->p<2^b->Q (.int p) H):SpPl vs H Q
def spPl:Sp:=λvs H Q _=>SpPl vs H Q
theorem ok_pl{f:Addr}{fd:FuncData}(F:Fun K "_law_place" "_law_place" Gm f fd)(T:Top K mg a)(aI:Cal P w K mg base CX0 1 "_law_mix" Fe Mx):AC P w K mg base CX0 2 f fd GE spPl:=by
 refine F.ok NL (λvs H Q E h=>?_) (λcdv A outer s H vs Q E hr h=>?_)
 ·obtain⟨c,k,b,rfl,_⟩:=h;rfl
 ·obtain⟨c,k,b,rfl,k0,k1,b40,q⟩:=h;have p:=Gr b;have e1:(2:Int)*2^((b:Int)).toNat=2^b+2^b:=by rw[L8];lia
  have e2:(1:Int)*2^((b:Int)).toNat=2^b:=by rw[L8];lia
  refine⟨_,(Ae (An (AA CZ (AA BR (Aq aI (rm hr) rfl Ao (Aa (pv 0) (Aa (pv 1) Ac))) (AA FM Af (pv 2))) (AA FM Af (pv 2))))),?_⟩
  try dsimp only[cxK]
  refine xw2 rfl rfl ⟨c,k,rfl,k0,k1,λv=>?_⟩;refine xwb rfl rfl rfl ⟨⟨by lia,by lia,by decide⟩,(xq2 rfl rfl ⟨(by show(0:Int)<2*2^((b:Int)).toNat;lia),(xwb rfl rfl rfl ⟨⟨by lia,by lia,by decide⟩,(xq2 rfl rfl ?_)⟩)⟩)⟩;show Q (.int (v%(2*2^((b:Int)).toNat)-1*2^((b:Int)).toNat)) H;rw[e1,e2];have m1:=U9 v (show(2:Int)^b+2^b≠0 by lia);have m2:=S6 v (show(0:Int)<2^b+2^b by lia);exact q _ A0 A0
end
end J
namespace J
open PySem L2
structure Vl(G:Gv)(f:Nat)(φ:Int->Int->Nat)(B:Nat):Prop where
 ex:∃n:Nat,(Al G f ((n+1:Nat):Int)/\LB G n f/\n<=40)/\∀u v,fieldF G n f u v=φ u v
 fs:FS G f B
theorem Vl.app{G G':Gv}{k f B:Nat}{φ:Int->Int->Nat}(ok:GOk G)(go:AU G G' k)(h:Vl G f φ B):Vl G' f φ B:=by
 obtain⟨n,⟨h1,h2,h3⟩,h4⟩:=h.ex;exact⟨⟨n,⟨go.lev h1,h2.app go,h3⟩,λu v=>by rw[FY ok go h1];exact h4 u v⟩,h.fs.app go⟩
theorem Vl.eq{G r:Gv}(e0:G=G0++r)(ok:GOk G){f f' B B':Nat}{φ ψ:Int->Int->Nat}(h:Vl G f φ B)(h':Vl G f' ψ B')(e:∀u v,φ u v=ψ u v):f=f':=by
 obtain⟨n,⟨h1,h2,h3⟩,h4⟩:=h.ex;obtain⟨m,⟨g1,g2,g3⟩,g4⟩:=h'.ex;exact(SS e0 ok A0 A0 h1 g1 h2 g2 λu v=>by rw[h4,g4,e]).2
structure Bo where
 x:Int
 y:Int
 wd:Int
 ht:Int
def BoAt(H:Hp)(t:Addr)(q:Bo):Prop:=H t=some (.tup [.int q.x,.int q.y,.int q.wd,.int q.ht])
def NZ(q:Bo)(s:Nat)(φ:Int->Int->Nat)(u v:Int):Nat:=if InB q.x q.y q.wd q.ht u v then s else φ u v
section
variable{P:Program}{w:World}{K:PySem.W.Frag}{mg:Str->Option Value}{base:Heap}{a:Ad}
theorem Yr{g:GA}{G:Gv}{H:Hp}{Q:VK}{E:XK}{f s B C:Nat}{φ:Int->Int->Nat}{t:Addr}{q:Bo}(fu:AF a H g G)(h:Vl G f φ B)(hb:BoAt H t q)(w0:0<=q.wd)(h0:0<=q.ht)(far:0<q.wd->0<q.ht->CO q.x q.y q.wd q.ht (2^40))(s8:s<8)(hC:∀n:Nat,Al G f ((n+1:Nat):Int)->(f=bareN (n+1)/\900<=C)\/17*B+4000<=C)(hB:B<=200000)(few:G.length+16*B<7500000)(k:∀(r:Nat)(G':Gv)(H':Hp),Fr g H H'->AF a H' g G'->AU G G' (16*B+4000)->Vl G' r (NZ q s φ) C->Q (.int r) H'):Mz a [.ref g.p,.int f,.ref t,.int s] H Q E:=by
 obtain⟨n,⟨h1,h2,h3⟩,h4⟩:=h.ex;refine⟨g,G,f,n,t,q.x,q.y,q.wd,q.ht,s,B,C,rfl,fu,h1,h3,h2,hb,w0,h0,far,s8,h.fs,(hC n h1).imp id Or.inl,hB,few,λr m G' H' fr fu' go lr m40 tr e fs=>k r G' H' fr fu' go ⟨⟨m,⟨lr,tr,m40⟩,λu v=>?_⟩,fs⟩⟩;rw[e u v];unfold NZ;split
 ·rfl
 ·exact h4 u v
end
def FrD(g:GA)(d:Addr)(H H':Hp):Prop:=∀b o,H b=some o->b≠g.lv->b≠g.pt->b≠g.nm->b≠d->H' b=some o
structure OutD(a:Ad)(H:Hp)(g:GA)(d:Addr):Prop where
 am:d≠g.am
 bx:d≠g.bx
theorem AF.frD{a:Ad}{H H':Hp}{g:GA}{G G':Gv}{m:Nat}{d:Addr}{ks:List (Key×V)}(h:AF a H g G)(hd:H d=some (.dK ks))(od:OutD a H g d)(f:FrD g d H H')(at2:AL a H' g G')(go:AU G G' m):AF a H' g G':=by
 obtain⟨at',ok,⟨r,g0⟩,br,⟨ks,h1,h2⟩,⟨ks',h3,h4⟩,n1,n2,n3⟩:=h;obtain⟨us,hp,_⟩:=at'.pt;have keep:∀{b:Addr}{o:HO},H b=some o->(∀l,o≠.lst l)->(∀l,o≠.dT l)->b≠d->H' b=some o:=λ{b o} e z1 z2 z3=>f _ _ e (AM e at'.lv (z1 _)) (AM e hp (z1 _)) (AM e at'.nm (z2 _)) z3;obtain⟨t,et⟩:=go.pre;refine⟨at2,go.ok,⟨r++t,by rw[et,g0,M3]⟩,f _ _ br n1 n2 (AM br at'.nm A3) (AM br hd A3),⟨ks,keep h1 (by intro l z;cases z) (by intro l z;cases z) (A0c od.am),h2.app ok go⟩,⟨ks',keep h3 (by intro l z;cases z) (by intro l z;cases z) (A0c od.bx),h4.keys.app go.le,λi v e=>?_⟩,n1,n2,n3⟩;obtain⟨l,b,t,e1,e2,e3,e4⟩:=h4.val i v e;exact⟨l,b,t,go.lev e1,by rw[Gb ok go l i e1];exact e2,e3,keep e4 (by intro l z;cases z) (by intro l z;cases z) (AM e4 hd A3)⟩
section
variable{P:Program}{w:World}{K:PySem.W.Frag}{mg:Str->Option Value}{base:Heap}{a:Ad}
end
section
variable{P:Program}{w:World}{K:PySem.W.Frag}{mg:Str->Option Value}{base:Heap}{a:Ad}
end
seal L2.PA L2.PE L2.PS L2.PSs L2.PT L2.PW
def FrO(d:Addr)(H H':Hp):Prop:=∀b o,H b=some o->b≠d->H' b=some o
theorem FrO.refl(d:Addr)(H:Hp):FrO d H H:=λ_ _ e _=>e
theorem FrO.trans{d:Addr}{H1 H2 H3:Hp}(h:FrO d H1 H2)(h2:FrO d H2 H3):FrO d H1 H3:=λb o e n=>h2 b o (h b o e n) n
theorem Az.frO{d:Addr}{H1 H2:Hp}(h:Az H1 H2):FrO d H1 H2:=λb o e _=>h b o e
theorem FrO.up{d:Addr}{H:Hp}{o:HO}:FrO d H (upd H d o):=λb u e n=>by rw[At n];exact e
theorem AF.frO{a:Ad}{H H':Hp}{g:GA}{G:Gv}{d:Addr}{ks:List (Key×V)}(h:AF a H g G)(hd:H d=some (.dK ks))(od:OutD a H g d)(f:FrO d H H'):AF a H' g G:=by
 obtain⟨us,hp,hps⟩:=h.at'.pt;have nd:∀{b:Addr}{o:HO},H b=some o->(∀l,o≠.dK l)->H' b=some o:=λ{b o} e z=>f _ _ e (AM e hd (z _));refine h.frD hd od (λb u e n1 n2 n3 n4=>f b u e n4) ⟨nd h.at'.hp (by intro l z;cases z),nd h.at'.lv (by intro l z;cases z),⟨us,nd hp (by intro l z;cases z),PairedM.imp (λt q e=>nd e (by intro l z;cases z)) hps⟩,nd h.at'.nm (by intro l z;cases z),h.at'.ne⟩ (AU.refl h.ok)
structure Oe(G:Gv)(ks:List (Key×V)):Prop where
 keys:Fl G ks
 val:∀(i:Nat) v,Bv ks (Sum.inl (i:Int))=some v->∃l:Nat,Al G i (l:Int)/\v=.int (Bf G l i)
theorem Oe.put{G:Gv}{ks:List (Key×V)}(h:Oe G ks){i l:Nat}(hl:Al G i (l:Int)):Oe G (CK ks (Sum.inl (i:Int)) (.int (Bf G l i))):=⟨h.keys.put hl.lt _,λj v e=>by
 rw[FR]at e;split at e
 ·rename_i hj;cases e;injection hj with hj
  have:j=i:=by lia
  subst this;exact⟨l,hl,rfl⟩
 ·exact h.val j v e⟩
theorem Oe.nil{G:Gv}:Oe G []:=⟨⟨by simp,λk hk=>by simp at hk⟩,λi v e=>by cases e⟩
section
variable{P:Program}{w:World}{K:PySem.W.Frag}{mg:Str->Option Value}{base:Heap}{a:Ad}
inductive SpLC(a:Ad)(n:Nat)(vs:List V)(H:Hp)(Q:VK):Prop
 |mk (g:GA) (G:Gv) (i l:Nat) (d:Addr) (ks:List (Key×V)) (_:vs=[.ref g.p,.int i,.ref d]) (_:AF a H g G) (_:Al G i (l:Int)) (_:l<n) (_:H d=some (.dK ks)) (_:OutD a H g d) (_:Oe G ks) (_:G.length<9000000) (_:∀(ks':List (Key×V))(H':Hp),FrO d H H'->AF a H' g G->H' d=some (.dK ks')->Oe G ks'->Q (.int (Bf G l i)) H'):SpLC a n vs H Q
def spLC(a:Ad)(n:Nat):Sp:=λvs H Q _=>SpLC a n vs H Q
theorem ok_lc{f:Addr}{fd:FuncData}(F:Fun K "_law_count" "_law_count" Ey f fd)(T:Top K mg a)(hm:mg "_law_count" = some (.ref f))(Bi:BN K fd Dv [])(a6:Cw P w K mg base CX0 3 a.c_Grove "level_of" AR (IT a))(aA:Cw P w K mg base CX0 4 a.c_Grove "state_of" CF (Ts a))
  (aP:Cw P w K mg base CX0 4 a.c_Grove "quarters" DJ (VP a)):∀n,AC P w K mg base CX0 (n+5) f fd Dv (spLC a n)
 |0=>by
  refine F.ok IV (λvs H Q E h=>?_) (λcdv A outer s H vs Q E hr h=>?_)
  ·obtain⟨g,G,i,l,d,ks,rfl,_,_,h0,_⟩:=h;exact absurd h0 (L6 _)
  ·obtain⟨g,G,i,l,d,ks,rfl,_,_,h0,_⟩:=h;exact absurd h0 (L6 _)
 |n+1=>by
  have aU:Cal P w K mg base CX0 (n+5) "_law_count" Dv (spLC a n):=⟨f,fd,ok_lc F T hm Bi a6 aA aP n,hm,F.kp,Bi⟩
  refine F.ok IV (λvs H Q E h=>?_) (λcdv A outer s H vs Q E hr h=>?_)
  ·obtain⟨g,G,i,l,d,ks,rfl,_⟩:=h;rfl
  ·obtain⟨g,G,i,l,d,ks,rfl,fu,hl,ln,hd,od,co,few,k⟩:=h;obtain⟨q0,eq0,l0⟩:=id hl;refine⟨_,(Ab (AB (pt_cmp (UJ (Iu hr) (pv 1) (pv 2))) (Ae (AB (Ar BS (AE (pv 0) a6 (rm hr) Ao (Aa (pv 1) Ac)) Af (Av _)) (Ae (IC (Iu hr) (pv 2) (pv 1) (EG OR rfl T.b_int A2f (Aa (BY Dg (AE (pv 0) aA (rm hr) Ao (Aa (pv 1) Ac)) Af (Av _)) Ac)) rfl)) (Ae (IC (Iu hr) (pv 2) (pv 1) (Aw (Nv rfl) rfl T.b_sum A7c (Aa (Dt rfl (Cd.of (So:=Ai Ey) (No:=JI) (N:=["_law_one","_law_grove","_law_known"]) (k:=1) (cs:=[0,2]) rfl rfl A1) (Sm (AE (pv 0) aP (rm hr) Ao (Aa (pv 1) Ac))) (λ_ _ _=>(Cf (i:=0) A1 rfl rfl)) (λ_ _ _=>CS) (λ_ _ _=>(Aq aU (rm hr) rfl Ao (Aa (pv 1) (Aa (pv 0) (Aa (pv 2) Ac)))))) Ac)) rfl)))) Au) (Ae (An (pe_dget (Iu hr) (pv 2) (pv 1) (λ_ _=>rfl))))),?_⟩
   try dsimp only[cxK]
   refine xw2 rfl rfl ⟨d,(xq1 rfl ⟨GX.k (k:=Sum.inl (i:Int)) hd,?_⟩)⟩;cases ev:Bv ks (Sum.inl (i:Int))with
   |some v =>
    obtain⟨l',hl',rfl⟩:=co.val i v ev;have el:l'=l:=K8 (hl'.uniq hl);subst el;refine xq1 rfl (AS (xw2 rfl rfl ⟨d,(xq1 rfl ⟨by rw[<-ev];exact GX.k (k:=Sum.inl (i:Int)) hd,k ks H (FrO.refl d H) fu hd co⟩)⟩))
   |none =>
    refine xq1 rfl (Bq (xq1 rfl ⟨g.p,g.dx,(xq1 rfl ⟨fu.at'.hp,Db g,(xq1 rfl ⟨g,G,i,q0,rfl,fu.at',eq0,rfl,(xq1 rfl ?_)⟩)⟩)⟩));have klen:=co.keys.len;have fin:∀(ks2:List (Key×V))(H2:Hp),FrO d H H2->H2 d=some (.dK ks2)->Oe G ks2->∃(a1:Addr)(v:V),V.ref d=.ref a1/\GX (upd H2 d (.dK (CK ks2 (Sum.inl (i:Int)) (.int (Bf G l i))))) a1 (.int (i:Int)) (some v)/\Q v (upd H2 d (.dK (CK ks2 (Sum.inl (i:Int)) (.int (Bf G l i))))):=by
     intro ks2 H2 fr hd2 co2;have fr3:FrO d H (upd H2 d (.dK (CK ks2 (Sum.inl (i:Int)) (.int (Bf G l i))))):=fr.trans FrO.up;refine⟨d,(xq1 rfl ⟨?_,k _ _ fr3 (fu.frO hd od fr3) Ag (co2.put hl)⟩)⟩;have:=GX.k (H:=upd H2 d (.dK (CK ks2 (Sum.inl (i:Int)) (.int (Bf G l i))))) (k:=Sum.inl (i:Int)) Ag;rw[FR,X9 rfl]at this;exact this
    cases l with
    |zero =>
     rw[X7 (by rw[l0];rfl)];refine Bq (xq1 rfl ⟨g.p,g.dx,(xq1 rfl ⟨fu.at'.hp,MR g,(xq1 rfl ⟨g,G,i,q0,rfl,fu.at',eq0,l0,(xq2 rfl rfl (.inr (xq1 rfl ?_)))⟩)⟩)⟩);have e:(if decide ((0:Int)<(i:Int))=true then(1:Int)else 0)=Bf G 0 i:=by
      show _=if i=0 then(0:Int)else 1;by_cases z:i=0
      ·subst z;rfl
      ·rw[X8 z,X9 (X7 A0)]
     rw[e];exact xw2 rfl rfl ⟨d,(xq1 rfl ⟨Md.k (k:=Sum.inl (i:Int)) hd (Bu A0),(xw2 rfl rfl (fin ks H (FrO.refl d H) hd co))⟩)⟩
    |succ m =>
     rw[X6 (by rw[l0];intro z;injection z with z;lia)];obtain⟨q,x,y,z,w',nd⟩:=AK fu.ok hl;have eq:q0=q:=K3 (eq0.symm.trans nd.g);subst eq;refine AS (xq1 rfl ⟨g.p,g.dx,(xq1 rfl ⟨fu.at'.hp,QW g,(xq1 rfl ⟨g,G,i,q0,rfl,fu.at',eq0,by lia,λt ht=>⟨t,rfl,⟨_,SqT.of ht⟩,?_⟩⟩)⟩)⟩);refine Qr (xs:=q0.parts.map V.int) (λj acc H2=>∃ks2,FrO d H H2/\H2 d=some (.dK ks2)/\Oe G ks2/\acc=((q0.parts.take j).map λ(p:Int)=>Bf G m p.toNat).map V.int) ⟨ks,FrO.refl d H,hd,co,rfl⟩ (λj acc H2 _ z=>SqT.of (by obtain⟨_,fr,_⟩:=z;exact fr _ _ ht (AM ht hd A3))) ?_ ?_
     ·rintro j v acc H2 ev2 ⟨ks2,fr,hd2,co2,rfl⟩;obtain⟨k',rfl,hk,ek⟩:=nd.mem ev2;refine⟨⟨[some (.int k')],rfl,rfl⟩,by rw[A9,A9,L5,nd.ps];exact Bu (by show min j 4<10000000;lia),LQ (xw3 rfl rfl rfl ?_)⟩;refine⟨g,G,k',m,d,ks2,rfl,fu.frO hd od fr,hk,by lia,hd2,⟨od.am,od.bx⟩,co2,few,λks3 H3 fr3 fu3 hd3 co3=>⟨ks3,fr.trans fr3,hd3,co3,?_⟩⟩;rw[D3,ek,C1,C1];rfl
     ·rintro acc H2 ⟨ks2,fr,hd2,co2,rfl⟩ qd hq;rw[A9,F2]at *
      have s3:=Ak (o:=.lst ((q0.parts.map λ(p:Int)=>Bf G m p.toNat).map V.int)) hq;refine⟨qd,q0.parts.map λ(p:Int)=>Bf G m p.toNat,rfl,SqL.of Ag,?_⟩;generalize upd H2 qd (.lst ((q0.parts.map λ(p:Int)=>Bf G m p.toNat).map V.int))=H3 at s3⊢;have es:(q0.parts.map λ(p:Int)=>Bf G m p.toNat).sum=Bf G (m+1) i:=by
       rw[DM nd,nd.ps];rfl
      rw[es];have klen2:=co2.keys.len;exact xw2 rfl rfl ⟨d,(xq1 rfl ⟨Md.k (k:=Sum.inl (i:Int)) (s3 _ _ hd2) (Bu A0),(xw2 rfl rfl (fin ks2 H3 (fr.trans (Az.frO s3)) (s3 _ _ hd2) co2))⟩)⟩
end
end J
namespace J
open PySem L2
def DN(G:Gv):Nat->Nat->Int->Int->List (List Int)
 |0,i,x,y=>if i=0 then []else [[y,x,(i:Int)]]
 |n+1,i,x,y=>match G[i]? with
  |some q=>(List.range 4).flatMap λk=>DN G n (q.parts.getD k 0).toNat (x+((k%2:Nat):Int)*2^n) (y+((k/2:Nat):Int)*2^n)
  |none=>[]
def FE(G:Gv)(n:Nat)(f:Nat->Nat)(x y:Int)(k:Nat):List (List Int):=DN G n (f k) (x+((k%2:Nat):Int)*2^n) (y+((k/2:Nat):Int)*2^n)
theorem Nm{α β:Type}{f g:α->List β}:∀{l:List α},(∀x∈l,f x=g x)->l.flatMap f=l.flatMap g
 |[],_=>rfl
 |x::l,h=>by rw[X3,X3,h x (D7 ..),Nm λy hy=>h y (B9 _ hy)]
theorem GN{G:Gv}{n i:Nat}{q:Sq}{a b c d:Nat}(h:Cb G n i q a b c d)(x y:Int):DN G (n+1) i x y=(List.range 4).flatMap (FE G n (f4 a b c d) x y):=by
 rw[show DN G (n+1) i x y=(match G[i]? with|some q=>(List.range 4).flatMap λk=>DN G n (q.parts.getD k 0).toNat (x+((k%2:Nat):Int)*2^n) (y+((k/2:Nat):Int)*2^n)|none=>[])from rfl,h.g];refine Nm λk hk=>?_;have:=(h.nat (by simpa using hk)).1;unfold FE;rw[C0,this];rfl
theorem Di{G:Gv}(ok:GOk G):∀{n i:Nat}{x y:Int},Al G i (n:Int)->((DN G n i x y).length:Int)=Bf G n i
 |0,i,x,y,_=>by
  show(((if i=0 then []else [[y,x,(i:Int)]]:List (List Int)).length:Nat):Int)=if i=0 then 0 else 1;split<;>rfl
 |n+1,i,x,y,h=>by
  obtain⟨q,a,b,c,d,nd⟩:=AK ok h;rw[GN nd,DM nd];show(((FE G n (f4 a b c d) x y 0++(FE G n (f4 a b c d) x y 1++(FE G n (f4 a b c d) x y 2++(FE G n (f4 a b c d) x y 3++[])))).length:Nat):Int)=Bf G n a+(Bf G n b+(Bf G n c+(Bf G n d+0)))
  have e0:=Di ok (x:=x+((0%2:Nat):Int)*2^n) (y:=y+((0/2:Nat):Int)*2^n) nd.hx;have e1:=Di ok (x:=x+((1%2:Nat):Int)*2^n) (y:=y+((1/2:Nat):Int)*2^n) nd.hy;have e2:=Di ok (x:=x+((2%2:Nat):Int)*2^n) (y:=y+((2/2:Nat):Int)*2^n) nd.hz;have e3:=Di ok (x:=x+((3%2:Nat):Int)*2^n) (y:=y+((3/2:Nat):Int)*2^n) nd.hw;rw[<-e0,<-e1,<-e2,<-e3];simp only[B0,List.length_nil,S3];rfl
theorem dm_c(v h:Nat):(v:Int)=((v/h:Nat):Int)*(h:Int)+((v%h:Nat):Int):=by
 have:=P1 v h;rw[<-Q7,<-S3,Z9,this]
theorem EH{G:Gv}(ok:GOk G):∀{n i:Nat}{x y:Int}{r:List Int},Al G i (n:Int)->(r∈DN G n i x y ↔ ∃u v:Nat,u<2^n/\v<2^n/\cellF G n i u v≠0/\r=[y+v,x+u,(cellF G n i u v:Int)])
 |0,i,x,y,r,_=>by
  show r∈(if i=0 then []else [[y,x,(i:Int)]]:List (List Int))↔_;constructor
  ·intro h;by_cases z:i=0
   ·rw[X9 z]at h;cases h
   ·rw[X8 z]at h;refine⟨0,0,by decide,by decide,z,?_⟩;rw[C4.mp h];show [y,x,(i:Int)]=[y+0,x+0,(i:Int)]
    rw[Y3,Y3]
  ·rintro⟨u,v,hu,hv,ne,rfl⟩;have hu:u=0:=Nat.lt_one_iff.mp hu;have hv:v=0:=Nat.lt_one_iff.mp hv;subst hu hv;have ne:i≠0:=ne;rw[X8 ne];show [y+0,x+0,(i:Int)]∈_;rw[Y3,Y3];exact C4.mpr rfl
 |n+1,i,x,y,r,h=>by
  obtain⟨q,a,b,c,d,nd⟩:=AK ok h;have cc:=Fp n;rw[GN nd,List.mem_flatMap];constructor
  ·rintro⟨k,hk,hr⟩;have hk:k<4:=by simpa using hk
   obtain⟨u,v,hu,hv,ne,rfl⟩:=(EH ok (nd.nat hk).2).mp hr;obtain⟨h1,h2,h3,h4,h5⟩:=DK hk hu hv;have e:=AW nd h1 h2;rw[h3,h4,h5]at e;refine⟨_,_,h1,h2,by rw[e];exact ne,?_⟩;rw[e,<-cc,S3,Q7,S3,Q7,X4 ((k/2:Nat):Int),X4 ((k%2:Nat):Int),Z2,Z2,Int.add_comm (v:Int),Int.add_comm (u:Int)]
  ·rintro⟨u,v,hu,hv,ne,rfl⟩;rw[AW nd hu hv]at ne⊢;have qk:=Ez hu hv;refine⟨quad n u v,by simpa using qk,(EH ok (nd.nat qk).2).mpr ⟨u%2^n,v%2^n,J9 _ (Bc n),J9 _ (Bc n),ne,?_⟩⟩;have q1:quad n u v/2=v/2^n:=by
    have:=EF hu;unfold quad;generalize u/2^n=A at *
    generalize v/2^n=B at *
    lia
   have q2:quad n u v%2=u/2^n:=by
    have:=EF hu;unfold quad;generalize u/2^n=A at *
    generalize v/2^n=B at *
    lia
   rw[q1,q2,<-cc,Z2,Z2,<-dm_c,<-dm_c]
theorem LH{G:Gv}(ok:GOk G):∀{n i:Nat}{x y:Int},Al G i (n:Int)->(DN G n i x y).Nodup
 |0,i,x,y,_=>by
  show(if i=0 then []else [[y,x,(i:Int)]]:List (List Int)).Nodup;split
  ·exact V4
  ·simp
 |n+1,i,x,y,h=>by
  obtain⟨q,a,b,c,d,nd⟩:=AK ok h;rw[GN nd,F5,List.pairwise_flatMap];refine⟨λk hk=>?_,?_⟩
  ·have hk:k<4:=by simpa using hk
   exact F5.mp (LH ok (nd.nat hk).2)
  ·refine A4f (λ{k j} hk hj kj r hr r' hr' e=>kj ?_) (F5.mp (List.nodup_range (n:=4)));subst e;have hk:k<4:=by simpa using hk
   have hj:j<4:=by simpa using hj
   obtain⟨u,v,hu,hv,ne,e1⟩:=(EH ok (nd.nat hk).2).mp hr;obtain⟨u',v',hu',hv',ne',e2⟩:=(EH ok (nd.nat hj).2).mp hr';rw[e1]at e2;injection e2 with f1 e2
   injection e2 with f2 e2
   have cc:=Fp n;rw[<-cc]at f1 f2;have side:∀{A B h u u':Nat},A<2->B<2->u<h->u'<h->(A:Int)*(h:Int)+u=(B:Int)*(h:Int)+u'->A=B:=by
    intro A B h u u' hA hB hu hu' e;have hA:A=0\/A=1:=by lia
    have hB:B=0\/B=1:=by lia
    rcases hA with rfl|rfl<;>rcases hB with rfl|rfl<;>simp at e<;>first|rfl|lia
   have g1:=side (A:=k/2) (B:=j/2) A0 A0 hv hv' A0;have g2:=side (A:=k%2) (B:=j%2) A0 A0 hu hu' A0;lia
section
variable{P:Program}{w:World}{K:PySem.W.Frag}{mg:Str->Option Value}{base:Heap}{a:Ad}
end
seal L2.PA L2.PE L2.PS L2.PSs L2.PT L2.PW
structure KiW(K:PySem.W.Frag)(a:Ad)(c:Addr)(j:Nat):Prop where
 ec:GW K c
 ef:RT K c
 mr:mroIn K c (.ref a.x_FieldError)=some true
 kv:kitOne K (.ref c) (.type "ValueError")=some true
 jl:j<13
 k0:kitOne K (.ref c) (.ref a.x_NoNumber)=some (decide (j=0))
 k1:kitOne K (.ref c) (.ref a.x_NoRule)=some (decide (j=1))
 k2:kitOne K (.ref c) (.ref a.x_Restless)=some (decide (j=2))
 k3:kitOne K (.ref c) (.ref a.x_NoSquare)=some (decide (j=3))
 k4:kitOne K (.ref c) (.ref a.x_NoLevel)=some (decide (j=4))
 k5:kitOne K (.ref c) (.ref a.x_NoState)=some (decide (j=5))
 k6:kitOne K (.ref c) (.ref a.x_NoBox)=some (decide (j=6))
 k7:kitOne K (.ref c) (.ref a.x_TooFar)=some (decide (j=7))
 k8:kitOne K (.ref c) (.ref a.x_TooMany)=some (decide (j=8))
 k9:kitOne K (.ref c) (.ref a.x_NoSteps)=some (decide (j=9))
 k10:kitOne K (.ref c) (.ref a.x_NoPattern)=some (decide (j=10))
 k11:kitOne K (.ref c) (.ref a.x_NoName)=some (decide (j=11))
 k12:kitOne K (.ref c) (.ref a.x_NoRow)=some (decide (j=12))
def OZ:List Str:=["number","rule","restless","square","level","state","box","far","many","steps","pattern","name","row"]
def Og(j:Nat):Str:=OZ.getD j ""
def Jq(j:Nat):List Bool:=(List.range 13).map λi=>decide (j=i)
theorem Vc{j:Nat}(h:j<13):(Jq j).countP id=1:=by
 have:∀j<13,(Jq j).countP id=1:=by decide
 exact this j h
section
variable{P:Program}{w:World}{K:PySem.W.Frag}{mg:Str->Option Value}{base:Heap}{a:Ad}
theorem kiw_far(T:Top K mg a):KiW K a a.x_TooFar 7:=⟨T.ec_TooFar,T.ef_TooFar,T.mr_TooFar,T.kv_TooFar,by decide,T.ki_TooFar_NoNumber,T.ki_TooFar_NoRule,T.ki_TooFar_Restless,T.ki_TooFar_NoSquare,T.ki_TooFar_NoLevel,T.ki_TooFar_NoState,T.ki_TooFar_NoBox,T.ki_TooFar_TooFar,T.ki_TooFar_TooMany,T.ki_TooFar_NoSteps,T.ki_TooFar_NoPattern,T.ki_TooFar_NoName,T.ki_TooFar_NoRow⟩
end
theorem word_at{j:Nat}(h:j<13):(OZ.map V.str)[j]?=some (.str (Og j)):=by
 rw[B7];unfold Og;rw[C0,C3 (show j<OZ.length from h)];rfl
theorem Rp{j i:Nat}(hi:i<13):(Jq j)[i]?=some (decide (j=i)):=by
 unfold Jq;rw[B7,P7 hi];rfl
section
variable{P:Program}{w:World}{K:PySem.W.Frag}{mg:Str->Option Value}{base:Heap}{a:Ad}
inductive SpWd(K:PySem.W.Frag)(a:Ad)(vs:List V)(H:Hp)(Q:VK):Prop
 |mk (e c:Addr) (j:Nat) (_:vs=[.ref e]) (_:H e=some (JM e c)) (_:KiW K a c j) (_:∀H',Az H H'->Q (.str (Og j)) H'):SpWd K a vs H Q
def spWd(K:PySem.W.Frag)(a:Ad):Sp:=λvs H Q _=>SpWd K a vs H Q
theorem ok_wd{f:Addr}{fd:FuncData}(F:Fun K "_law_word" "_law_word" Id f fd)(T:Top K mg a):Uv P w K mg base 1 f fd DV (spWd K a):=by
 refine F.okH BX (λvs H Q E h=>?_) (λcdv A outer s H vs Q hr h=>?_)
 ·obtain⟨e,c,j,rfl,_⟩:=h;rfl
 ·obtain⟨e,c,j,rfl,he,ki,k⟩:=h;refine⟨_,(Ab (Aj (i:=1) BX.nd rfl (Or.inl rfl) (BP (Aa (Aw Ba rfl T.b_isinstance K1 (Aa (pv 0) (Aa (Cn rfl T.mx_NoNumber) Ac))) (Aa (Aw Ba rfl T.b_isinstance K1 (Aa (pv 0) (Aa (Cn rfl T.mx_NoRule) Ac))) (Aa (Aw Ba rfl T.b_isinstance K1 (Aa (pv 0) (Aa (Cn rfl T.mx_Restless) Ac))) (Aa (Aw Ba rfl T.b_isinstance K1 (Aa (pv 0) (Aa (Cn rfl T.mx_NoSquare) Ac))) Ac)))))) (Ab (Aj (i:=1) BX.nd rfl (Or.inl rfl) (AA Py (pv 1) (BP (Aa (Aw Ba rfl T.b_isinstance K1 (Aa (pv 0) (Aa (Cn rfl T.mx_NoLevel) Ac))) (Aa (Aw Ba rfl T.b_isinstance K1 (Aa (pv 0) (Aa (Cn rfl T.mx_NoState) Ac))) (Aa (Aw Ba rfl T.b_isinstance K1 (Aa (pv 0) (Aa (Cn rfl T.mx_NoBox) Ac))) Ac)))))) (Ab (Aj (i:=1) BX.nd rfl (Or.inl rfl) (AA Py (pv 1) (BP (Aa (Aw Ba rfl T.b_isinstance K1 (Aa (pv 0) (Aa (Cn rfl T.mx_TooFar) Ac))) (Aa (Aw Ba rfl T.b_isinstance K1 (Aa (pv 0) (Aa (Cn rfl T.mx_TooMany) Ac))) (Aa (Aw Ba rfl T.b_isinstance K1 (Aa (pv 0) (Aa (Cn rfl T.mx_NoSteps) Ac))) Ac)))))) (Ab (Aj (i:=1) BX.nd rfl (Or.inl rfl) (AA Py (pv 1) (BP (Aa (Aw Ba rfl T.b_isinstance K1 (Aa (pv 0) (Aa (Cn rfl T.mx_NoPattern) Ac))) (Aa (Aw Ba rfl T.b_isinstance K1 (Aa (pv 0) (Aa (Cn rfl T.mx_NoName) Ac))) (Aa (Aw Ba rfl T.b_isinstance K1 (Aa (pv 0) (Aa (Cn rfl T.mx_NoRow) Ac))) Ac)))))) (Ab (AB (PW.pt (EX (Cj (BK (Aw Ba rfl T.b_isinstance K1 (Aa (pv 0) (Aa (EB (v:=.ty "ValueError") rfl T.b_ValueError PyProof.Rows.Boot.«ValueError» rfl) Ac))))) (DH (Ar JD (BV K7 PySem.F.slot_list_count PySem.F.type_list_count UV (pv 1) (Aa IZ Ac)) Af (Av _))))) (Ae (An Bn)) Au) (Ab (Aj (i:=2) BX.nd rfl (Or.inl rfl) (BP (BL (BL (BL (BL (BL (BL (BL Ac))))))))) (Ab (Aj (i:=2) BX.nd rfl (Or.inl rfl) (AA Py (pv 2) (BP (BL (BL (BL (BL (BL (BL Ac))))))))) (Ae (An (Am AI (pv 2) (BV K7 PySem.F.slot_list_index PySem.F.type_list_index UU (pv 1) (Aa IZ Ac)) (λ_ _=>rfl))))))))))),?_⟩
  try dsimp only[cxK]
  have ty:∀{H2:Hp},Az H H2->TyX K H2 (.ref e) (.ref c):=λs=>.exc (s _ _ he) ki.ef;have s0:=Az.refl H;refine xq1 rfl ⟨_,_,_,(xq2 rfl rfl ⟨ty s0,ki.k0,(xq1 rfl ⟨_,_,_,(xq2 rfl rfl ⟨ty s0,ki.k1,(xq1 rfl ⟨_,_,_,(xq2 rfl rfl ⟨ty s0,ki.k2,(xq1 rfl ⟨_,_,_,(xq2 rfl rfl ⟨ty s0,ki.k3,by show 4<=sizeLine;decide,λp1 hp1=>?_⟩)⟩)⟩)⟩)⟩)⟩)⟩)⟩;have s1:=Ak (o:=.lst [.bl (decide (j=0)),.bl (decide (j=1)),.bl (decide (j=2)),.bl (decide (j=3))]) hp1;have h1:upd H p1 (.lst [.bl (decide (j=0)),.bl (decide (j=1)),.bl (decide (j=2)),.bl (decide (j=3))]) p1=some _:=Ag;generalize upd H p1 (.lst [.bl (decide (j=0)),.bl (decide (j=1)),.bl (decide (j=2)),.bl (decide (j=3))])=H1 at s1 h1⊢;refine xw2 rfl rfl ⟨_,_,_,(xq2 rfl rfl ⟨ty s1,ki.k4,(xq1 rfl ⟨_,_,_,(xq2 rfl rfl ⟨ty s1,ki.k5,(xq1 rfl ⟨_,_,_,(xq2 rfl rfl ⟨ty s1,ki.k6,by show 3<=sizeLine;decide,λp2 hp2=>?_⟩)⟩)⟩)⟩)⟩)⟩;refine⟨p1,p2,(xq2 rfl rfl ⟨(Ak hp2 _ _ h1),Ag,(by show 4+3<=sizeLine;decide),λp3 hp3=>?_⟩)⟩;obtain⟨H3,s3,h3,eH3⟩:∃H3,Az H1 H3/\H3 p3=some (.lst [.bl (decide (j=0)),.bl (decide (j=1)),.bl (decide (j=2)),.bl (decide (j=3)),.bl (decide (j=4)),.bl (decide (j=5)),.bl (decide (j=6))])/\upd (upd H1 p2 (.lst [.bl (decide (j=4)),.bl (decide (j=5)),.bl (decide (j=6))])) p3 (.lst ([.bl (decide (j=0)),.bl (decide (j=1)),.bl (decide (j=2)),.bl (decide (j=3))]++[.bl (decide (j=4)),.bl (decide (j=5)),.bl (decide (j=6))]))=H3:=⟨_,(Ak hp2).trans (Ak hp3),Ag,rfl⟩
  rw[eH3];have s3:=s1.trans s3;clear eH3;refine xw2 rfl rfl ⟨_,_,_,(xq2 rfl rfl ⟨ty s3,ki.k7,(xq1 rfl ⟨_,_,_,(xq2 rfl rfl ⟨ty s3,ki.k8,(xq1 rfl ⟨_,_,_,(xq2 rfl rfl ⟨ty s3,ki.k9,by show 3<=sizeLine;decide,λp4 hp4=>?_⟩)⟩)⟩)⟩)⟩)⟩;refine⟨p3,p4,(xq2 rfl rfl ⟨(Ak hp4 _ _ h3),Ag,(by show 7+3<=sizeLine;decide),λp5 hp5=>?_⟩)⟩;obtain⟨H5,s5,h5,eH5⟩:∃H5,Az H3 H5/\H5 p5=some (.lst [.bl (decide (j=0)),.bl (decide (j=1)),.bl (decide (j=2)),.bl (decide (j=3)),.bl (decide (j=4)),.bl (decide (j=5)),.bl (decide (j=6)),.bl (decide (j=7)),.bl (decide (j=8)),.bl (decide (j=9))])/\upd (upd H3 p4 (.lst [.bl (decide (j=7)),.bl (decide (j=8)),.bl (decide (j=9))])) p5 (.lst ([.bl (decide (j=0)),.bl (decide (j=1)),.bl (decide (j=2)),.bl (decide (j=3)),.bl (decide (j=4)),.bl (decide (j=5)),.bl (decide (j=6))]++[.bl (decide (j=7)),.bl (decide (j=8)),.bl (decide (j=9))]))=H5:=⟨_,(Ak hp4).trans (Ak hp5),Ag,rfl⟩
  rw[eH5];have s5:=s3.trans s5;clear eH5;refine xw2 rfl rfl ⟨_,_,_,(xq2 rfl rfl ⟨ty s5,ki.k10,(xq1 rfl ⟨_,_,_,(xq2 rfl rfl ⟨ty s5,ki.k11,(xq1 rfl ⟨_,_,_,(xq2 rfl rfl ⟨ty s5,ki.k12,by show 3<=sizeLine;decide,λp6 hp6=>?_⟩)⟩)⟩)⟩)⟩)⟩;refine⟨p5,p6,(xq2 rfl rfl ⟨(Ak hp6 _ _ h5),Ag,(by show 10+3<=sizeLine;decide),λp7 hp7=>?_⟩)⟩;obtain⟨H7,s7,h7,eH7⟩:∃H7,Az H5 H7/\H7 p7=some (.lst [.bl (decide (j=0)),.bl (decide (j=1)),.bl (decide (j=2)),.bl (decide (j=3)),.bl (decide (j=4)),.bl (decide (j=5)),.bl (decide (j=6)),.bl (decide (j=7)),.bl (decide (j=8)),.bl (decide (j=9)),.bl (decide (j=10)),.bl (decide (j=11)),.bl (decide (j=12))])/\upd (upd H5 p6 (.lst [.bl (decide (j=10)),.bl (decide (j=11)),.bl (decide (j=12))])) p7 (.lst ([.bl (decide (j=0)),.bl (decide (j=1)),.bl (decide (j=2)),.bl (decide (j=3)),.bl (decide (j=4)),.bl (decide (j=5)),.bl (decide (j=6)),.bl (decide (j=7)),.bl (decide (j=8)),.bl (decide (j=9))]++[.bl (decide (j=10)),.bl (decide (j=11)),.bl (decide (j=12))]))=H7:=⟨_,(Ak hp6).trans (Ak hp7),Ag,rfl⟩
  rw[eH7];have s7:=s5.trans s7;clear eH7;have h7:H7 p7=some (.lst ((Jq j).map V.bl)):=h7;refine xq1 rfl ⟨_,_,_,(xq2 rfl rfl ⟨ty s7,ki.kv,true,rfl,AS ?_⟩)⟩;refine xq1 rfl ⟨.inl ⟨rfl,_,SqL.of h7⟩,p7,Jq j,rfl,rfl,h7,?_⟩;rw[Vc ki.jl];refine⟨rfl,(xq1 rfl (Ua rfl ?_))⟩;refine⟨by show 7<=sizeLine;decide,λp8 hp8=>?_⟩;refine xq1 rfl ⟨by show 6<=sizeLine;decide,λp9 hp9=>?_⟩;refine⟨p8,p9,(xq2 rfl rfl ⟨(Ak hp9 _ _ Ag),Ag,(by show 7+6<=sizeLine;decide),λp10 hp10=>?_⟩)⟩;have s10:Az H7 _:=((Ak hp8).trans (Ak hp9)).trans (Ak (o:=.lst (OZ.map V.str)) hp10);refine xw2 rfl rfl ⟨.inl ⟨rfl,_,SqL.of (s10 _ _ h7)⟩,p7,Jq j,j,rfl,rfl,s10 _ _ h7,by show 13<1000;decide,by rw[Rp ki.jl,X7 rfl],λm hm=>by rw[Rp (S9 hm ki.jl),X6 A0],?_⟩;exact xq4 rfl rfl (SqL.of Ag) (Ah (word_at ki.jl)) (k _ (s7.trans s10))
end
theorem SJ(K:PySem.W.Frag):kitOne K (.type "str") (.type "str")=some true:=by kernel_rfl
structure Rn where
 a:Nat
 c:Nat
def GV(a:Nat):List Nat:=if a=1 then []else Tn.dg a
def wd(r:Rn):List Nat:=GV r.a++[r.c]
def sg:List Nat:=[46,65,66,67,68,69,70,71,47]
def Dl(H:Hp)(t:Addr)(r:Rn):Prop:=H t=some (.tup [.int r.a,.str ⟨#[r.c]⟩])
structure Oc(r:Rn):Prop where
 a1:1<=r.a
 a2:r.a<10^13
 c:r.c∈sg
def txt(rs:List Rn):List Nat:=(rs.map wd).flatten
abbrev runS:Str:=Str.ofString ".ABCDEFG/"
theorem sg_in:∀c∈sg,(!(Builtin.Str.occurrences runS ⟨#[c]⟩ 0 runS.length 1).isEmpty)=true:=by decide +kernel
theorem sg_dig:∀c∈sg,Nu.dig c=false:=by decide
theorem str_e{z:Str}(h:z.cps.toList=[]):z=Str.ofString "" := Nu.ext (by rw[h];decide +kernel)
theorem txt_at{rs:List Rn}{k:Nat}{r:Rn}(h:rs[k]?=some r){p:Nat}(hp:p<(wd r).length):(txt rs)[(txt (rs.take k)).length+p]?=(wd r)[p]?:=by
 have hk:=(B3.mp h).1;have e:txt rs=txt (rs.take k)++(wd r++txt (rs.drop (k+1))):=by
  have:rs=rs.take k++(r::rs.drop (k+1)):=by
   rw[<-(B3.mp h).2,<-R7 hk,P0]
  unfold txt
  conv=>lhs;rw[this]
  rw[C1,Z1,C9,X2]
 rw[e,F1 A6,S8,F7 hp]
theorem Qz{rs:List Rn}{k:Nat}{r:Rn}(h:rs[k]?=some r):(txt (rs.take (k+1))).length=(txt (rs.take k)).length+(wd r).length:=by
 unfold txt;rw[D3,h,Z3,C1,Z1,B0];simp
section
variable{P:Program}{w:World}{K:PySem.W.Frag}{mg:Str->Option Value}{base:Heap}{a:Ad}
def VX:Sp:=λvs H Q _=>∃(z:Str)(n:Nat),vs=[.str z]/\z.cps.toList=GV n/\1<=n/\n<10^13/\Q (.int n) H
theorem ok_amt{f:Addr}{fd:FuncData}(F:Fun K "read_amount" "read_amount" Fw f fd)(T:Top K mg a):AC P w K mg base CX0 1 f fd FG VX:=by
 refine F.ok MB (λvs H Q E h=>?_) (λcdv A outer s H vs Q E hr h=>?_)
 ·obtain⟨z,n,rfl,_⟩:=h;rfl
 ·obtain⟨z,n,rfl,hz,n1,n2,k⟩:=h;refine⟨_,(Ab (AB (Ar BS (pv 0) Bn (Av _)) (Ae (An Af)) Au) (Ab (AB (PW.pt (EX (Ar Dg (Aw GO rfl T.b_len A3b (Aa (pv 0) Ac)) (BO rfl T.k_MOST_AMOUNT_FIGURES) (Av _)) (EX (Ar BS (Am Qe (pv 0) Af (λ_ _=>rfl)) Bn (Av _)) (DH (Ar BS (pv 0) Bn (Av _)))))) (Ae AZ) Au) (Ae (An (EG Jc rfl T.b_int A2f (Aa (pv 0) Ac)))))),?_⟩
  try dsimp only[cxK]
  refine xq1 rfl ⟨rfl,(xq1 rfl ?_)⟩;by_cases e1:n=1
  ·subst e1;rw[show z=Str.ofString "" from str_e hz,X7 rfl];exact Bq k
  ·have hz':z.cps.toList=Tn.dg n:=by rw[hz];exact X8 e1
   obtain⟨c,r,ec,nc,_⟩:=Tn.IO n n1;have len:z.length=(Tn.dg n).length:=by rw[Nu.len,hz']
   have l13:=Tn.GM 12 n n2;have l1:1<=z.length:=by rw[len,ec];exact P8 (G9 _)
   rw[X6 (by
    intro q;injection q with q
    rw[q]at hz';rw[ec]at hz';exact absurd hz' (by rw[show(Str.ofString "").cps.toList=[] by decide +kernel];intro z;cases z))]
   refine AS (xq1 rfl ⟨z,rfl,LK A6,(xq2 rfl rfl (xq1 rfl ?_))⟩);rw[X6 (by omega:¬(13:Int)<(z.length:Int))];refine AS (xq1 rfl ⟨z,0,c,rfl,rfl,LK A6,Ah (j:=0) (by rw[hz',ec];rfl),rfl,(xq1 rfl ?_)⟩);rw[X6 (by
    intro q;injection q with q
    have:[c]=[48]:=by
     have:=A0e (λs:Str=>s.cps.toList) q;rw[show(Str.ofString "0").cps.toList=[48] by decide +kernel]at this;exact this
    injection this with this
    exact nc this)]
   refine AS (xq1 rfl ⟨rfl,(xq1 rfl ?_)⟩);rw[X6 (by
    intro q;injection q with q
    rw[q,show(Str.ofString "1").cps.toList=Tn.dg 1 by decide +kernel]at hz';exact e1 (Tn.dg_inj hz'.symm))]
   exact AS (xq1 rfl ⟨z,n,rfl,Nu.Yk (by rw[hz'];exact Tn.dg_due n1 n2),by omega,k⟩)
def Sc:Sp:=λvs H Q _=>∃(x:Str)(rs:List Rn),vs=[.str x]/\x.cps.toList=txt rs/\(∀r∈rs,Oc r)/\rs.length<=1000/\∀(L:Addr)(ts:List Addr)(H':Hp),H L=none->Az H H'->H' L=some (.lst (ts.map V.ref))->Paired (Dl H') ts rs->Q (.ref L) H'
theorem ok_read{f:Addr}{fd:FuncData}(F:Fun K "read_runs" "read_runs" Ib f fd)(T:Top K mg a)(bF:Cal P w K mg base CX0 1 "read_amount" FG VX):AC P w K mg base CX0 2 f fd Ii Sc:=by
 refine F.ok Cy (λvs H Q E h=>?_) (λcdv A outer s H vs Q E hr h=>?_)
 ·obtain⟨x,rs,rfl,_⟩:=h;rfl
 ·obtain⟨x,rs,rfl,hx,oks,lrs,k⟩:=h;refine⟨_,(Ab (AB (Cj (BK (Aw Ba rfl T.b_isinstance K1 (Aa (pv 0) (Aa (EB (v:=.ty "str") rfl T.b_str A3g rfl) Ac))))) (Ae AZ) Au) (Ab (Aj (i:=1) Cy.nd rfl (Or.inl rfl) (BP Ac)) (Ab (Aj (i:=2) Cy.nd rfl (Or.inl rfl) Bn) (Ab (Cv A0d rfl (Wg (pv 0)) (AD (i:=3) Cy.nd rfl (Or.inl rfl)) (Ae (AB (Ar Li (pv 3) (EA rfl T.k_FIGURES) rfl) (Ae (Aj (i:=2) Cy.nd rfl (Or.inl rfl) (AA Jo (pv 2) (pv 3)))) (Ae (AB (Ar Li (pv 3) (EA rfl T.k_RUN_SIGNS) rfl) (Ab (Be (BV K7 K9 A0a Bh (pv 1) (BE (Aa (Aq bF (rm hr) rfl Ao (Aa (pv 2) Ac)) (Aa (pv 3) Ac)) Ac))) (Ae (Aj (i:=2) Cy.nd rfl (Or.inl rfl) Bn))) (Ae AZ)))))) (Ab (AB (Ar JD (pv 2) Bn (Av _)) (Ae AZ) Au) (Ae (An (pv 1)))))))),?_⟩
  try dsimp only[cxK]
  refine xq1 rfl ⟨_,_,_,.type "str",true,rfl,rfl,.of (.str x),SJ K,true,rfl,AS ⟨(by show 0<=sizeLine;decide),λL hL=>?_⟩⟩;have s1:=Ak (o:=.lst []) hL;have hL1:upd H L (.lst []) L=some (.lst []):=Ag;generalize upd H L (.lst [])=H1 at s1 hL1⊢;refine xq1 rfl ⟨x,rfl,?_⟩;refine for_str (x:=x) (λi σ H2=>∃(kk p:Nat)(z:Str)(ts:List Addr)(u3:Option V),σ=[some (.str x),some (.ref L),some (.str z),u3]/\i=(txt (rs.take kk)).length+p/\(∀r,rs[kk]?=some r->p<=(GV r.a).length/\z.cps.toList=(GV r.a).take p)/\(rs[kk]?=none->p=0/\z.cps.toList=[])/\kk<=rs.length/\Az H H2/\H2 L=some (.lst (ts.map V.ref))/\Paired (Dl H2) ts (rs.take kk)) ⟨0,0,Str.ofString "",[],none,rfl,rfl,λr _=>⟨G9 _,by rw[List.take_zero];decide +kernel⟩,λ_=>⟨rfl,by decide +kernel⟩,G9 _,s1,hL1,.nil⟩ ?_ ?_
  ·rintro i c σ H2 ec ⟨kk,p,z,ts,u3,rfl,rfl,hz,hz0,lk,sm,hL2,pr⟩;have ec':(txt rs)[(txt (rs.take kk)).length+p]?=some c:=by
    rw[<-hx,G7];exact ec
   have lts:=A0b pr;rw[L5]at lts;cases er:rs[kk]? with
   |none =>
    obtain⟨rfl,_⟩:=hz0 er;have hk:rs.length<=kk:=V7.mp er;rw[Y1 hk,N5 A6]at ec';cases ec'
   |some r =>
    obtain⟨pl,zt⟩:=hz r er;have rok:=oks r (D9 er);have hk:kk<rs.length:=(B3.mp er).1;have f13:(GV r.a).length<=13:=by
     unfold GV;split
     ·exact G9 _
     ·exact Tn.GM 12 r.a rok.a2
    have wl:(wd r).length=(GV r.a).length+1:=by unfold wd;rw[B0];rfl
    rw[txt_at er A6]at ec';have zl:z.length=p:=by rw[Nu.len,zt,L5];omega
    refine xwb rfl rfl rfl (xq1 rfl ?_);rw[Nu.OG c];by_cases hp:p<(GV r.a).length
    ·have ec2:(GV r.a)[p]?=some c:=by
      unfold wd at ec';rw[F7 hp]at ec';exact ec'
     have hd:Nu.dig c=true:=by
      have:=D9 ec2;unfold GV at this;split at this
      ·simp at this
      ·exact N7.mp (Tn.Lx r.a) c this
     rw[hd];refine Bq (xw2 rfl rfl (xq2 rfl rfl ⟨by rw[zl];exact LK (by show p+1<=10000000;omega),?_⟩));refine⟨kk,p+1,_,ts,(xq1 rfl ⟨by omega,λr' er'=>?_,λen=>(by rw[er]at en;cases en),lk,sm,hL2,pr⟩)⟩;rw[er]at er';cases er';refine⟨hp,?_⟩;rw[Tx.AJ,zt,D3,ec2];rfl
    ·have hp':p=(GV r.a).length:=by omega
     subst hp';have ec2:c=r.c:=by
      unfold wd at ec';rw[F1 (B1 _),V1]at ec';exact(K3 ec').symm
     subst ec2;rw[sg_dig _ rok.c];refine AS (xwb rfl rfl rfl (xq1 rfl ?_));rw[sg_in _ rok.c];refine Bq (xq1 rfl ⟨.inl ⟨rfl,_,SqL.of hL2⟩,(xq1 rfl ⟨z,r.a,rfl,by rw[zt,F2],rok.a1,rok.a2,(xq1 rfl ⟨(by show 2<=sizeLine;decide),λt ht=>?_⟩)⟩)⟩);have s3:=Ak (o:=.tup [.int r.a,.str ⟨#[r.c]⟩]) ht;have ht3:Dl (upd H2 t (.tup [.int r.a,.str ⟨#[r.c]⟩])) t r:=Ag;generalize upd H2 t (.tup [.int r.a,.str ⟨#[r.c]⟩])=H3 at s3 ht3⊢;have hL3:=s3 _ _ hL2;refine⟨L,(xq2 rfl rfl ⟨hL3,by rw[A9];exact Bu A6,?_⟩)⟩;have tp:∀{b:Addr}{ys:List V},H3 b=some (.tup ys)->upd H3 L (.lst (ts.map V.ref++[.ref t])) b=some (.tup ys):=λ{b ys} e=>by rw[At (AM e hL3 A3)];exact e
     refine⟨kk+1,0,Str.ofString "",ts++[t],(xq1 rfl ⟨by rw[Qz er];omega,λr' _=>⟨G9 _,by rw[List.take_zero];decide +kernel⟩,λ_=>⟨rfl,by decide +kernel⟩,by omega,λb o e=>?_,by rw[Ag,C1];rfl,?_⟩)⟩
     ·rw[At (As e hL)];exact s3 _ _ (sm _ _ e)
     ·rw[D3,er];exact A2h (PairedM.imp (λb c z=>tp (s3 _ _ z)) pr) (show Dl _ t r from tp ht3)
  ·rintro σ H2 ⟨kk,p,z,ts,u3,rfl,ei,hz,hz0,lk,sm,hL2,pr⟩;have ei:(txt rs).length=(txt (rs.take kk)).length+p:=by
    rw[<-ei,<-hx,C5]
   have ek:kk=rs.length:=by
    refine Nat.le_antisymm lk (R6 λh=>?_);obtain⟨r,er⟩:∃r,rs[kk]?=some r:=⟨_,C3 h⟩
    obtain⟨pl,_⟩:=hz r er;have h1:=Qz er;have h2:(txt (rs.take (kk+1))).length<=(txt rs).length:=by
     have:txt rs=txt (rs.take (kk+1))++txt (rs.drop (kk+1)):=by
      unfold txt;rw[<-Z1,<-C1,P0]
     rw[this,B0];omega
    have wl:(wd r).length=(GV r.a).length+1:=by unfold wd;rw[B0];rfl
    omega
   subst ek;obtain⟨_,ze⟩:=hz0 (N5 (B1 _));rw[F2]at pr;obtain rfl:=str_e ze;exact xq1 rfl ⟨rfl,(xq1 rfl (Ua rfl (xq1 rfl (k L ts H2 hL sm hL2 pr))))⟩
end
def Da(n:Int):List Nat:=if n<0 then 45::Tn.dg n.natAbs else Tn.dg n.toNat
theorem DW(n:Int):(Str.ofString (toString n)).cps.toList=Da n:=by
 unfold Da
 match n with
 |.ofNat m=>rw[X8 (by show ¬(m:Int)<0;lia)];exact Tn.VC m
 |.negSucc m =>
  rw[X9 (Int.negSucc_lt_zero m)];have e:toString (Int.negSucc m)="-" ++ toString ((m+1:Nat):Int):=rfl;have e2:(Str.ofString ("-" ++ toString ((m+1:Nat):Int))).cps.toList=45::(Str.ofString (toString ((m+1:Nat):Int))).cps.toList:=by
   rw[PyProof.Rows.signs_ofString,PyProof.Rows.signs_ofString,String.toList_append,C1];rfl
  rw[e,e2,Tn.VC];rfl
theorem Uw:Da 0=[48]:=by decide +kernel
theorem TL{n:Int}(h:n≠0):Nu.fig (Da n)=Tn.dg n.natAbs/\(Nu.neg (Da n)=true↔n<0):=by
 obtain⟨c,r,ec,_,c45⟩:=Tn.IO n.natAbs A0;unfold Da;split
 ·rename_i z;exact⟨rfl,λ_=>z,λ_=>rfl⟩
 ·rename_i z;have e:n.toNat=n.natAbs:=by lia
  rw[e];have nn:Nu.neg (Tn.dg n.natAbs)=false:=by
   rw[ec];cases q:Nu.neg (c::r)with
   |false=>rfl
   |true =>
    have:=(Nu.PH _).mp q;simp at this;exact absurd this c45
  exact⟨Nu.GL nn,λq=>(by rw[nn]at q;cases q),λq=>absurd q z⟩
theorem num_due{n:Int}(h:n≠0)(h2:n.natAbs<10^13):Nu.due (Da n)=some n:=by
 obtain⟨f,g⟩:=TL h;obtain⟨c,r,ec,c48,c45⟩:=Tn.IO n.natAbs A0;have l13:=Tn.GM 12 n.natAbs h2;unfold Nu.due;rw[f,X8,X9 (Tn.Lx _),Tn.Qo]
 ·by_cases z:n<0
  ·rw[X9 (g.mpr z)];congr 1;lia
  ·rw[X8 λq=>z (g.mp q)];congr 1;lia
 ·intro q;rcases q with q|q|q
  ·rw[ec]at q;cases q
  ·lia
  ·rw[ec]at q;exact c48 (K3 q.1)
theorem GI{n:Int}(h2:n.natAbs<10^13):(Da n).length<=14:=by
 have l13:=Tn.GM 12 n.natAbs h2;unfold Da;split
 ·rw[D1];lia
 ·rename_i z;rw[show n.toNat=n.natAbs by lia];lia
theorem WJ{n:Int}{c:Nat}(h:c∈Da n):c=45\/Nu.dig c=true:=by
 unfold Da at h;split at h
 ·rcases C2.mp h with z|z
  ·exact .inl z
  ·exact .inr (N7.mp (Tn.Lx _) c z)
 ·exact .inr (N7.mp (Tn.Lx _) c h)
section
variable{P:Program}{w:World}{K:PySem.W.Frag}{mg:Str->Option Value}{base:Heap}{a:Ad}
inductive SpMin(vs:List V)(H:Hp)(Q:VK):Prop
 |mk (x:Str) (_:vs=[.str x]) (_:x.length<=1000) (_:∀y:Str,y.cps.toList=Nu.fig x.cps.toList->Q (.str y) H):SpMin vs H Q
def VQ:Sp:=λvs H Q _=>SpMin vs H Q
theorem ok_min{f:Addr}{fd:FuncData}(F:Fun K "without_minus" "without_minus" Ed f fd)(T:Top K mg a):AC P w K mg base CX0 1 f fd Em VQ:=by
 refine F.ok JV (λvs H Q E h=>?_) (λcdv A outer s H vs Q E hr h=>?_)
 ·obtain⟨x,rfl,_⟩:=h;rfl
 ·obtain⟨x,rfl,hx,k⟩:=h;refine⟨_,(Ab (AB (BK (BV A1d PySem.F.slot_str_startswith PySem.F.type_str_startswith NY (pv 0) (BL Ac))) (Ae (An (Wj sl_str (pv 0) (po_some Af) po_none))) Au) (Ae (An (pv 0)))),?_⟩
  try dsimp only[cxK]
  refine xq1 rfl ⟨rfl,(xq2 rfl rfl (xq1 rfl ?_))⟩;show if Txt.startswith x (Str.ofString "-")=true then _ else _;rw[Nu.starts];refine Ls (λhn=>?_) (λhn=>?_)
  ·refine xw2 rfl rfl ⟨x,rfl,C6 hx A4,?_⟩;exact k _ (by rw[Nu.cut1',(Nu.Np hn).1])
  ·exact xq1 rfl (k x (Nu.GL (by simpa using hn)).symm)
inductive SpFig(vs:List V)(H:Hp)(Q:VK):Prop
 |mk (x:Str) (m:Nat) (_:vs=[.str x]) (_:x.cps.toList=Tn.dg m) (_:1<=m) (_:m<10^13) (_:∀H',Az H H'->Q (.bl true) H'):SpFig vs H Q
def VW:Sp:=λvs H Q _=>SpFig vs H Q
theorem ok_fig{f:Addr}{fd:FuncData}(F:Fun K "are_figures" "are_figures" DR f fd)(T:Top K mg a):AC P w K mg base CX0 1 f fd FH VW:=by
 refine F.ok MD (λvs H Q E h=>?_) (λcdv A outer s H vs Q E hr h=>?_)
 ·obtain⟨x,m,rfl,_⟩:=h;rfl
 ·obtain⟨x,m,rfl,hx,m1,m2,k⟩:=h;obtain⟨c,r,ec,c48,c45⟩:=Tn.IO m m1;have l13:=Tn.GM 12 m m2;have hl:=Nu.len x;rw[hx]at hl;have l1:1<=(Tn.dg m).length:=by rw[ec];exact P8 (G9 _)
  refine⟨_,(Ab (AB (PW.pt (EX (Ar Ja (Aw GO rfl T.b_len A3b (Aa (pv 0) Ac)) Af (Av _)) (EX (Ar Dg (Aw GO rfl T.b_len A3b (Aa (pv 0) Ac)) (BO rfl T.k_MOST_FIGURES) (Av _)) (DH (Ar BS (Am Qe (pv 0) Af (λ_ _=>rfl)) Bn (Av _)))))) (Ae (An IZ)) Au) (Ae (An (Aw (YA rfl) rfl T.b_all PyProof.Rows.boot_all (Aa (Dt rfl (Cd.of (So:=Ai DR) (No:=Jb) (N:=["sign"]) (k:=1) (cs:=[]) rfl rfl A1) (Wg (pv 0)) (λ_ _ _=>(Cf (i:=0) A1 rfl rfl)) (λ_ _ _=>CS) (λ_ _ _=>(BY Li (pv 0) (EA rfl T.k_FIGURES) rfl))) Ac))))),?_⟩
  try dsimp only[cxK]
  refine xq1 rfl ⟨x,rfl,LK A0,(xq2 rfl rfl (xq1 rfl ?_))⟩;rw[X6 (by lia:¬(x.length:Int)<1)];refine AS (xq1 rfl ⟨x,rfl,LK A0,(xq2 rfl rfl (xq1 rfl ?_))⟩);rw[X6 (by lia:¬(30:Int)<(x.length:Int))];refine AS (xq1 rfl ⟨x,0,c,rfl,rfl,LK A0,Ah (j:=0) (by rw[hx,ec];rfl),rfl,(xq1 rfl ?_)⟩);rw[X6 (by
   intro q;injection q with q
   have:[c]=[48]:=by
    have:=A0e (λs:Str=>s.cps.toList) q;rw[show(Str.ofString "0").cps.toList=[48] by decide +kernel]at this;exact this
   injection this with this
   exact c48 this)]
  refine AS (xq1 rfl ⟨x,rfl,?_⟩);refine blk_str (λi acc H2=>H2=H/\acc=(List.replicate i true).map V.bl) ⟨rfl,rfl⟩ ?_ ?_
  ·rintro i ch acc H2 hch ⟨rfl,rfl⟩;have hi:i<(Tn.dg m).length:=by rw[hx]at hch;exact(B3.mp hch).1
   refine⟨⟨[some (.str ⟨#[ch]⟩)],rfl,rfl⟩,by rw[A9,N4];exact Bu A0,LQ (xwb rfl rfl rfl ⟨rfl,?_⟩)⟩;rw[Nu.OG,N7.mp (Tn.Lx m) ch (by rw[<-hx];exact D9 hch),List.replicate_succ',C1];rfl
  ·rintro acc H2 ⟨rfl,rfl⟩ q nq;refine⟨q,(xq1 rfl ⟨SqL.of Ag,?_⟩)⟩;rw[List.all_replicate,show(if x.cps.toList.length=0 then true else id true)=true by split<;>rfl];exact k _ (Ak nq)
inductive SpRW(vs:List V)(H:Hp)(Q:VK):Prop
 |mk (x:Str) (n:Int) (_:vs=[.str x]) (_:x.cps.toList=Da n) (_:n.natAbs<10^13) (_:∀H',Az H H'->Q (.int n) H'):SpRW vs H Q
def spRW:Sp:=λvs H Q _=>SpRW vs H Q
theorem ok_rw{f:Addr}{fd:FuncData}(F:Fun K "read_whole" "read_whole" Gg f fd)(T:Top K mg a)(aZ:Cal P w K mg base CX0 1 "without_minus" Em VQ)(bG:Cal P w K mg base CX0 1 "are_figures" FH VW):AC P w K mg base CX0 2 f fd Gw spRW:=by
 refine F.ok NH (λvs H Q E h=>?_) (λcdv A outer s H vs Q E hr h=>?_)
 ·obtain⟨x,n,rfl,_⟩:=h;rfl
 ·obtain⟨x,n,rfl,hx,n2,k⟩:=h;have hl:=Nu.len x;rw[hx]at hl;have l14:=GI n2;refine⟨_,(Ab (AB (Cj (BK (Aw Ba rfl T.b_isinstance K1 (Aa (pv 0) (Aa (EB (v:=.ty "str") rfl T.b_str A3g rfl) Ac))))) (Ae AZ) Au) (Ab (AB (Ar BS (pv 0) Bn (Av _)) (Ae (An Af)) Au) (Ab (AB (Cj (BK (Aq bG (rm hr) rfl Ao (Aa (Aq aZ (rm hr) rfl Ao (Aa (pv 0) Ac)) Ac)))) (Ae AZ) Au) (Ae (An (EG Jc rfl T.b_int A2f (Aa (pv 0) Ac))))))),?_⟩
  try dsimp only[cxK]
  refine xq1 rfl ⟨_,_,_,.type "str",true,rfl,rfl,.of (.str x),SJ K,true,rfl,AS (xq1 rfl ⟨rfl,(xq1 rfl ?_)⟩)⟩;by_cases z:n=0
  ·subst z;rw[X7 (A0e V.str (Nu.ext (by rw[hx,Uw];decide +kernel)))];exact Bq (k H (Az.refl H))
  ·obtain⟨f1,f2⟩:=TL z;obtain⟨c,r,ec,c48,c45⟩:=Tn.IO n.natAbs A0;rw[X6 (by
    intro q;injection q with q
    have:Da n=[48]:=by rw[<-hx,q];decide +kernel
    rw[this]at f1;have f1:[48]=Tn.dg n.natAbs:=f1;rw[ec]at f1;injection f1 with f1
    exact c48 f1.symm)]
   refine AS (xq1 rfl ⟨x,rfl,by lia,λy hy=>⟨y,n.natAbs,rfl,by rw[hy,hx,f1],by lia,n2,λH' s1=>⟨true,rfl,AS (xq1 rfl ⟨x,n,rfl,Nu.Yk (by rw[hx];exact num_due z n2),by lia,k H' s1⟩)⟩⟩⟩)
inductive SpRP(vs:List V)(H:Hp)(Q:VK):Prop
 |mk (x:Str) (n:Int) (_:vs=[.str x]) (_:x.cps.toList=Da n) (_:n.natAbs<10^13) (_:∀H',Az H H'->Q (.int n) H'):SpRP vs H Q
def spRP:Sp:=λvs H Q _=>SpRP vs H Q
theorem ok_rp{f:Addr}{fd:FuncData}(F:Fun K "read_place" "read_place" Gh f fd)(T:Top K mg a)(bN:Cal P w K mg base CX0 2 "read_whole" Gw spRW):AC P w K mg base CX0 3 f fd Gy spRP:=by
 refine F.ok IU (λvs H Q E h=>?_) (λcdv A outer s H vs Q E hr h=>?_)
 ·obtain⟨x,n,rfl,_⟩:=h;rfl
 ·obtain⟨x,n,rfl,hx,n2,k⟩:=h;refine⟨_,(Ab (ps_try (S:=λ_=>True) rfl rfl rfl rfl rfl T.mx_NoNumber T.ec_NoNumber (λxe pn E1 pass=>(Ae (Aj (i:=1) IU.nd rfl (Or.inl rfl) (Aq bN (rm hr) rfl Ao (Aa (pv 0) Ac))))) (λea=>(Ae AZ))) (Ab (AB (Ar Dg (Aw YB rfl T.b_abs PyProof.Rows.boot_abs (Aa (pv 1) Ac)) (BO rfl T.k_MOST_PLACE) (Av _)) (Ae AZ) Au) (Ae (An (pv 1))))),?_⟩
  try dsimp only[cxK]
  refine xq1 rfl ⟨x,n,rfl,hx,n2,λH' s1=>?_⟩;refine xw2 rfl rfl (xq2 rfl rfl (xq1 rfl ?_));rw[X6 A0];exact AS (xq1 rfl (k H' s1))
end
end J
namespace J
open PySem L2
structure WS where
 r:Int
 d:Int
 φ:Int->Int->Nat
 cs:List (List Int)
 far:Prop
def rowR(r d:Int)(q:Nat×Nat):List (List Int):=(List.range q.1).map λk=>[d,r+((k:Nat):Int),((q.2:Nat):Int)]
def stp(x0:Int)(s:WS)(q:Nat×Nat):WS :=
 if q.2=8 then⟨x0,s.d+q.1,s.φ,s.cs,s.far⟩
 else if q.2=0 then⟨s.r+q.1,s.d,s.φ,s.cs,s.far⟩
 else⟨s.r+q.1,s.d,NZ ⟨s.r,s.d,q.1,1⟩ q.2 s.φ,s.cs++rowR s.r s.d q,s.far\/¬CO s.r s.d q.1 1 (2^40)⟩
def wk(x0 y0:Int)(l:List (Nat×Nat)):WS:=l.foldl (stp x0) ⟨x0,y0,λ_ _=>0,[],False⟩
theorem Tf(x0 y0:Int){l:List (Nat×Nat)}{j:Nat}{q:Nat×Nat}(h:l[j]?=some q):wk x0 y0 (l.take (j+1))=stp x0 (wk x0 y0 (l.take j)) q:=by
 unfold wk;rw[D3,h,L7];rfl
def rowC(c:Cl):List Int:=[c.y,c.x,(c.s:Int)]
structure Of(G:Gv)(n f:Nat)(ds:List Cl):Prop where
 nd:(ds.map λc=>(c.x,c.y)).Nodup
 mem:∀c:Cl,c∈ds↔(1<=c.s/\fieldF G n f c.x c.y=c.s)
theorem UX{G:Gv}(ok:GOk G){n f:Nat}(l:Al G f ((n+1:Nat):Int)){r:List Int}:r∈DN G (n+1) f (-(2^n)) (-(2^n)) ↔ ∃x y:Int,fieldF G n f x y≠0/\r=[y,x,(fieldF G n f x y:Int)]:=by
 have c:=Fp n;have e:=MK n;rw[EH ok l];constructor
 ·rintro⟨u,v,hu,hv,ne,rfl⟩;have ef:fieldF G n f (-(2^n)+u) (-(2^n)+v)=cellF G (n+1) f u v:=by
   unfold fieldF;rw[X9 ⟨by lia,by lia,by lia,by lia⟩];congr 1<;>lia
  refine⟨-(2^n)+u,-(2^n)+v,by rw[ef];exact ne,by rw[ef]⟩
 ·rintro⟨x,y,ne,rfl⟩;have ne':=ne;unfold fieldF at ne';split at ne'
  ·rename_i z;obtain⟨z1,z2,z3,z4⟩:=z;refine⟨(x+2^n).toNat,(y+2^n).toNat,DA z1 z2,DA z3 z4,ne',?_⟩;unfold fieldF;rw[X9 ⟨z1,z2,z3,z4⟩,show -(2^n)+(((y+2^n).toNat:Nat):Int)=y by lia,show -(2^n)+(((x+2^n).toNat:Nat):Int)=x by lia]
  ·exact absurd rfl ne'
theorem Of.perm{G:Gv}(ok:GOk G){n f:Nat}(l:Al G f ((n+1:Nat):Int)){ds:List Cl}(h:Of G n f ds):(DN G (n+1) f (-(2^n)) (-(2^n))).Perm (ds.map rowC):=by
 refine(List.perm_ext_iff_of_nodup (LH ok l) ?_).mpr λr=>?_
 ·rw[F5,M7];have nd:=h.nd;rw[F5,M7]at nd;refine nd.imp λ{c d} hne e=>hne ?_;injection e with e1 e
  injection e with e2 e
  rw[e1,e2]
 ·rw[UX ok l,D5];constructor
  ·rintro⟨x,y,ne,rfl⟩;exact⟨⟨x,y,fieldF G n f x y⟩,(h.mem _).mpr ⟨Z5 ne,rfl⟩,rfl⟩
  ·rintro⟨c,hc,rfl⟩;obtain⟨h1,h2⟩:=(h.mem c).mp hc;exact⟨c.x,c.y,by lia,by rw[h2];rfl⟩
theorem Of.cnt{G:Gv}(ok:GOk G){n f:Nat}(l:Al G f ((n+1:Nat):Int)){ds:List Cl}(h:Of G n f ds):Bf G (n+1) f=(ds.length:Int):=by
 rw[<-Di ok (x:=-(2^n)) (y:=-(2^n)) l,(h.perm ok l).length_eq,A9]
theorem QL:∀{l m:List (List Int)},l.Pairwise (λp q=>Ca q p=false)->m.Pairwise (λp q=>Ca q p=false)->l.Perm m->l=m
 |[],m,_,_,h=>(List.nil_perm.mp h).symm
 |a::l,[],_,_,h=>absurd h.length_eq A5
 |a::l,b::m,h1,h2,h=>by
  rw[List.pairwise_cons]at h1 h2;have e:a=b:=by
   have ha:a∈b::m:=h.mem_iff.mp (D7 ..);have hb:b∈a::l:=h.mem_iff.mpr (D7 ..);rcases C2.mp ha with z|z
   ·exact z
   ·rcases C2.mp hb with y|y
    ·exact y.symm
    ·exact Rm (h2.1 a z) (h1.1 b y)
  subst e;rw[QL h1.2 h2.2 h.cons_inv]
structure DsOk(ds:List Cl)(φ:Int->Int->Nat):Prop where
 nd:(ds.map λc=>(c.x,c.y)).Nodup
 mem:∀c:Cl,c∈ds↔(1<=c.s/\φ c.x c.y=c.s)
structure Vf(G:Gv)(f:Nat)(φ:Int->Int->Nat):Prop where
 ex:∃n,n<=40/\Al G f ((n+1:Nat):Int)/\LB G n f/\∀u v,fieldF G n f u v=φ u v
seal L2.PA L2.PE L2.PS L2.PSs L2.PT L2.PW
def Wc(q:It3):List Int:=q.y::q.x::q.r
theorem len_pre{α:Type}{f:Nat->List α}{j:Nat}(hj:j<=4):((List.range j).flatMap f).length<=((List.range 4).flatMap f).length:=by
 match j,hj with
 |0,_=>simp
 |1,_=>simp[N3]
 |2,_=>simp[N3]
 |3,_=>simp[N3]
 |4,_=>exact B1 _
section
variable{P:Program}{w:World}{K:PySem.W.Frag}{mg:Str->Option Value}{base:Heap}{a:Ad}
theorem ok_row{f:Addr}{fd:FuncData}(F:Fun K "by_rows" "by_rows" Lc f fd)(T:Top K mg a):AC P w K mg base CX0 1 f fd IJ LF:=by
 refine F.ok Sh (λvs H Q E h=>?_) (λcdv A outer s H vs Q E hr h=>?_)
 ·obtain⟨t,x,y,r,rfl,_⟩:=h;rfl
 ·obtain⟨t,x,y,r,rfl,ht,k⟩:=h;refine⟨_,(Ae (An (Ck (Aa (Am Ax (pv 0) Af (λ_ _=>rfl)) (Aa (Am Ax (pv 0) Af (λ_ _=>rfl)) Ac))))),?_⟩
  try dsimp only[cxK]
  exact⟨_,rfl,t,_,1,.int y,rfl,rfl,SqT.of ht,Ah (j:=1) rfl,_,rfl,t,_,0,.int x,rfl,rfl,SqT.of ht,Ah (j:=0) rfl,(by show 2<=sizeLine;decide),λu hu=>k u hu⟩
inductive SpGa(a:Ad)(n:Nat)(vs:List V)(H:Hp)(Q:VK):Prop
 |mk (g:GA) (G:Gv) (i l:Nat) (x y:Int) (L:Addr) (it0:List It3) (_:vs=[.ref g.p,.int i,.int x,.int y,.ref L]) (_:AF a H g G) (_:Al G i (l:Int)) (_:l<n) (_:H L=some (.lst (it0.map λq=>V.ref q.a))) (_:L∉BM g) (_:(it0.length:Int)+Bf G l i<=5000) (_:∀(items:List It3)(H':Hp),Fx [L] H H'->H' L=some (.lst ((it0++items).map λq=>V.ref q.a))->(∀q∈items,H' q.a=some (.tup (q.ns.map V.int)))->items.map Wc=DN G l i x y->Q .non H'):SpGa a n vs H Q
def VU(a:Ad)(n:Nat):Sp:=λvs H Q _=>SpGa a n vs H Q
theorem ok_ga{f:Addr}{fd:FuncData}(F:Fun K "gather_cells" "gather_cells" ET f fd)(T:Top K mg a)(hm:mg "gather_cells" = some (.ref f))(Bi:BN K fd BQ [])(aA:Cw P w K mg base CX0 4 a.c_Grove "state_of" CF (Ts a)):∀n,AC P w K mg base CX0 (n+5) f fd BQ (VU a n)
 |0=>by
  refine F.ok BI (λvs H Q E h=>?_) (λcdv A outer s H vs Q E hr h=>?_)
  ·obtain⟨g,G,i,l,x,y,L,it0,rfl,_,_,h0,_⟩:=h;exact absurd h0 (L6 _)
  ·obtain⟨g,G,i,l,x,y,L,it0,rfl,_,_,h0,_⟩:=h;exact absurd h0 (L6 _)
 |n+1=>by
  have aF:Cal P w K mg base CX0 (n+5) "gather_cells" BQ (VU a n):=⟨f,fd,ok_ga F T hm Bi aA n,hm,F.kp,Bi⟩
  refine F.ok BI (λvs H Q E h=>?_) (λcdv A outer s H vs Q E hr h=>?_)
  ·obtain⟨g,G,i,l,x,y,L,it0,rfl,_⟩:=h;rfl
  ·obtain⟨g,G,i,l,x,y,L,it0,rfl,fu,hl,ln,hL,nL,cn,k⟩:=h;obtain⟨q0,eq0,l0⟩:=id hl;have l48:l<=48:=by have:=(fu.ok.lev eq0).2;lia
   obtain⟨r0,e0⟩:=fu.g0;have nLg:∀z∈BM g,z∉[L]:=λz hz m=>nL (by rw[C4]at m;rw[<-m];exact hz);refine⟨_,(Ab (Aj (i:=5) BI.nd rfl (Or.inl rfl) (Am AI (AT (pv 0) rfl) (pv 1) (λ_ _=>rfl))) (Ab (AB (Ar BS (pv 1) (Am AI (AT (pv 0) rfl) (pv 5) (λ_ _=>rfl)) (Av _)) (Ae TF) Au) (Ab (AB (Ar BS (pv 5) Af (Av _)) (Ab (Be (BV K7 K9 A0a Bh (pv 4) (BE (Aa (pv 2) (Aa (pv 3) (Aa (AE (pv 0) aA (rm hr) Ao (Aa (pv 1) Ac)) Ac))) Ac))) (Ae TF)) Au) (Ab (Aj (i:=6) BI.nd rfl (Or.inl rfl) (AA FM Af (AA CZ (pv 5) Af))) (Ae (Cv A0d rfl (Ml true rfl T.b_enumerate (Aa (Am AI (AT (pv 0) rfl) (pv 1) (λ_ _=>rfl)) Ac)) (El rfl (AH (AD (i:=7) BI.nd rfl (Or.inl rfl)) (AH (AD (i:=8) BI.nd rfl (Or.inl rfl)) CT))) (Ae (Be (Aq aF (rm hr) rfl Ao (Aa (pv 0) (Aa (pv 8) (BH AV (pv 2) (AA Es (pv 6) (AA BR (pv 7) Af)) (BH AV (pv 3) (AA Es (pv 6) (AA ED (pv 7) Af)) (Aa (pv 4) Ac)))))))))))))),?_⟩
   try dsimp only[cxK]
   refine⟨_,rfl,g.p,_,g.dx,_,_,rfl,fu.at'.hp,T.cl_Grove,T.na_Grove_levels,Fh g,_,rfl,g.lv,_,(i:Int),.int q0.lev,rfl,rfl,SqL.of fu.at'.lv,Ah (by rw[B7,eq0];rfl),?_⟩;refine⟨_,rfl,_,rfl,g.p,_,g.dx,_,_,rfl,fu.at'.hp,T.cl_Grove,T.na_Grove_bares,Js g,_,rfl,g.br,_,q0.lev,.int (bareN l:Int),rfl,rfl,SqL.of fu.br,by rw[l0];exact Ah (bareL_at' A0),rfl,_,rfl,?_⟩;by_cases z:i=bareN l
   ·rw[X7 (by rw[z])];refine Bq (k [] H (Fx.refl _ _) (by rw[M2];exact hL) (λq hq=>nomatch hq) ?_);refine(List.eq_nil_iff_forall_not_mem.mpr λr hr=>?_).symm;obtain⟨u,v,hu,hv,ne,_⟩:=(EH fu.ok hl).mp hr;rw[z]at ne;exact ne (DO e0 fu.ok l48 hu hv)
   rw[X6 (by intro e;injection e with e;exact z A0)];refine AS ⟨_,rfl,rfl,_,rfl,?_⟩;cases l with
   |zero =>
    rw[X7 (by rw[l0];rfl)];have i0:i≠0:=λq=>z (by rw[q];rfl);have c0:=DU G 0 i;refine Bq ⟨_,rfl,.inl ⟨rfl,_,SqL.of hL⟩,_,rfl,_,rfl,_,rfl,g.p,g.dx,_,rfl,fu.at'.hp,MR g,_,rfl,g,G,i,q0,rfl,fu.at',eq0,l0,(by show 3<=sizeLine;decide),λt ht=>?_⟩;have s1:=Ak (o:=.tup [.int x,.int y,.int i]) ht;have hL1:=s1 _ _ hL;refine⟨L,_,.ref t,rfl,rfl,hL1,Bu (by rw[A9];lia),k [⟨t,x,y,[(i:Int)]⟩] _ ((Az.fx s1).trans (fx_up hL1 (λz=>z))) ?_ (λq hq=>?_) ?_⟩
    ·rw[C1];exact Ag
    ·rw[C4.mp hq,At (AM Ag hL1 A3)];exact Ag
    ·show _=if i=0 then []else [[y,x,(i:Int)]];rw[X8 i0];rfl
   |succ m =>
    rw[X6 (by rw[l0];intro z;injection z with z;lia)];obtain⟨q,c0,c1,c2,c3,nd⟩:=AK fu.ok hl;have eq:q0=q:=K3 (eq0.symm.trans nd.g);subst eq;obtain⟨ts,t,h3,et,ht⟩:=Fq fu.at' nd;have lpos:=Gr m;have lt64:=pow2_lt (l:=m) A0;refine AS ⟨_,rfl,_,_,rfl,rfl,_,_,rfl,rfl,⟨by lia,by lia,by decide⟩,?_⟩;rw[show(λ(i j:Int)=>V.int (i*2^j.toNat)) 1 (q0.lev-1)=V.int (2^m)from A0e V.int (by show(1:Int)*2^(q0.lev-1).toNat=2^m;rw[show(q0.lev-1).toNat=m by lia];lia)];refine⟨_,rfl,g.p,_,g.dx,_,_,rfl,fu.at'.hp,T.cl_Grove,T.na_Grove_parts,Et g,_,rfl,g.pt,_,(i:Int),.ref t,rfl,rfl,SqL.of h3,Ah et,t,rfl,⟨_,SqT.of ht⟩,?_⟩;have whole:=GN nd x y;have lenW:=Di fu.ok (x:=x) (y:=y) hl;rw[whole]at lenW;refine JP (b:=true) (xs:=[.int (c0:Int),.int (c1:Int),.int (c2:Int),.int (c3:Int)]) (λj σ H3=>∃(items:List It3)(u7 u8:Option V),σ=[some (.ref g.p),some (.int i),some (.int x),some (.int y),some (.ref L),some (.int q0.lev),some (.int (2^m)),u7,u8]/\Fx [L] H H3/\H3 L=some (.lst ((it0++items).map λq=>V.ref q.a))/\(∀q∈items,H3 q.a=some (.tup (q.ns.map V.int)))/\items.map Wc=(List.range j).flatMap (FE G m (f4 c0 c1 c2 c3) x y)) ⟨[],none,none,rfl,Fx.refl _ _,(by rw[M2];exact hL),(λq hq=>nomatch hq),rfl⟩ (λj σ H3 _ z=>SqT.of (by obtain⟨_,_,_,_,fx,_⟩:=z;exact fx.tup ht)) ?_ ?_
    ·rintro j v σ H3 T' ev ⟨items,u7,u8,rfl,fx3,hL3,hi3,ei⟩ nT;have hj:j<4:=(B3.mp ev).1;have ev':v=.int (f4 c0 c1 c2 c3 j:Int):=by
      match j,hj,ev with
      |0,_,ev=>cases ev;rfl
      |1,_,ev=>cases ev;rfl
      |2,_,ev=>cases ev;rfl
      |3,_,ev=>cases ev;rfl
     subst ev';have s4:=Ak (o:=.tup [.int j,.int (f4 c0 c1 c2 c3 j)]) nT;refine Iv Ag ?_;generalize upd H3 T' (.tup [.int j,.int (f4 c0 c1 c2 c3 j)])=H4 at s4⊢;have fx4:=fx3.trans (Az.fx s4);have fu4:=fu.fx fx4 nLg;have lj:=(nd.nat hj).2;have next:(List.range (j+1)).flatMap (FE G m (f4 c0 c1 c2 c3) x y)=(List.range j).flatMap (FE G m (f4 c0 c1 c2 c3) x y)++DN G m (f4 c0 c1 c2 c3 j) (x+((j%2:Nat):Int)*2^m) (y+((j/2:Nat):Int)*2^m):=by
      rw[N3,List.flatMap_append];simp only[X3,List.flatMap_nil,M2];rfl
     have bd:=len_pre (f:=FE G m (f4 c0 c1 c2 c3) x y) (j:=j+1) hj;rw[next,B0,<-ei,A9]at bd;have lc:=Di fu.ok (x:=x+((j%2:Nat):Int)*2^m) (y:=y+((j/2:Nat):Int)*2^m) lj;have ex:x+2^m*((j:Int)%2)=x+((j%2:Nat):Int)*2^m:=by rw[X4];rfl
     have ey:y+2^m*((j:Int)/2)=y+((j/2:Nat):Int)*2^m:=by rw[X4];rfl
     refine⟨_,rfl,_,rfl,_,rfl,_,rfl,_,rfl,_,_,rfl,rfl,A7,_,_,rfl,rfl,.inl ⟨by lia,by lia⟩,_,_,rfl,rfl,?_⟩;refine⟨_,rfl,_,rfl,_,rfl,_,_,rfl,rfl,⟨by decide,by decide⟩,_,_,rfl,rfl,.inl ⟨by lia,by lia⟩,_,_,rfl,rfl,_,rfl,?_⟩;refine⟨g,G,f4 c0 c1 c2 c3 j,m,x+2^m*((j:Int)%2),y+2^m*((j:Int)/2),L,it0++items,rfl,fu4,lj,by lia,s4 _ _ hL3,nL,by rw[B0];lia,λitems5 H5 fx5 hL5 hi5 ei5=>?_⟩;refine⟨items++items5,_,_,rfl,fx4.trans fx5,by rw[<-M3];exact hL5,λq hq=>?_,?_⟩
     ·rcases C7.mp hq with hq|hq
      ·exact fx5.tup (s4 _ _ (hi3 q hq))
      ·exact hi5 q hq
     ·rw[ex,ey]at ei5;rw[next,C1,ei,ei5]
    ·rintro σ H3 ⟨items,u7,u8,rfl,fx3,hL3,hi3,ei⟩;exact k items H3 fx3 hL3 hi3 (by rw[ei,whole];rfl)
theorem Tj {out:List It3} (h:ND out) (nd:(out.map λq=>(q.x,q.y)).Nodup):(out.map Wc).Pairwise (λp q=>Ca q p=false):=by
 rw[F5,M7]at nd;rw[M7];refine(h.and nd).imp λ{p q} ⟨h1,h2⟩=>?_;show(if q.y=p.y then(if q.x=p.x then Ca q.r p.r else decide (q.x<p.x))else decide (q.y<p.y))=false;have h1:(if q.y=p.y then(if q.x=p.x then Ca [] []else decide (q.x<p.x))else decide (q.y<p.y))=false:=h1;by_cases e1:q.y=p.y
 ·rw[X9 e1]at h1⊢;by_cases e2:q.x=p.x
  ·exact absurd (by rw[e1,e2]) h2
  ·rw[X8 e2]at h1⊢;exact h1
 ·rw[X8 e1]at h1⊢;exact h1
def frL(g:GA):List Addr:=[g.am,g.bx]
inductive SpCo(a:Ad)(vs:List V)(H:Hp)(Q:VK):Prop
 |mk (g:GA) (G:Gv) (f n:Nat) (_:vs=[.ref g.p,.int f]) (_:AF a H g G) (_:Al G f ((n+1:Nat):Int)) (_:n<48) (_:G.length<9000000) (_:Bf G (n+1) f<=4096) (_:∀(L:Addr)(out:List It3)(H':Hp),Fx (frL g) H H'->AF a H' g G->H L=none->H' L=some (.lst (out.map λq=>V.ref q.a))->(∀q∈out,H' q.a=some (.tup (q.ns.map V.int)))->(out.map Wc).Perm (DN G (n+1) f (-(2^n)) (-(2^n)))->ND out->Q (.ref L) H'):SpCo a vs H Q
def spCo(a:Ad):Sp:=λvs H Q _=>SpCo a vs H Q
theorem ok_co{f:Addr}{fd:FuncData}(F:Fun K "cells_of" "cells_of" Gi f fd)(T:Top K mg a)(aK:Cw P w K mg base CX0 51 a.c_Grove "living" Dw (Tt a))(a9:Cal P w K mg base CX0 4 "reach_of" CY (Ge a))(aF:Cal P w K mg base CX0 55 "gather_cells" BQ (VU a 50))(bB:Cal P w K mg base CX0 1 "by_rows" IJ LF):AC P w K mg base CX0 56 f fd GB (spCo a):=by
 refine F.ok Df (λvs H Q E h=>?_) (λcdv A outer s H vs Q E hr h=>?_)
 ·obtain⟨g,G,f,n,rfl,_⟩:=h;rfl
 ·obtain⟨g,G,f,n,rfl,fu,lf,n48,few,cn,k⟩:=h;refine⟨_,(Ab (AB (Ar Dg (AE (pv 0) aK (rm hr) Ao (Aa (pv 1) Ac)) (BO rfl T.k_MOST_CELLS) (Av _)) (Ae AZ) Au) (Ab (Aj (i:=2) Df.nd rfl (Or.inl rfl) (Aq a9 (rm hr) rfl Ao (Aa (pv 0) (Aa (pv 1) Ac)))) (Ab (Aj (i:=3) Df.nd rfl (Or.inl rfl) (BP Ac)) (Ab (Be (Aq aF (rm hr) rfl Ao (Aa (pv 0) (Aa (pv 1) (Aa (FV DB (pv 2)) (Aa (FV DB (pv 2)) (Aa (pv 3) Ac))))))) (Ae (An (ML bB (rm hr) rfl T.b_sorted rfl (Aa (pv 3) Ac)))))))),?_⟩
  try dsimp only[cxK]
  refine⟨_,rfl,g.p,g.dx,_,rfl,fu.at'.hp,Ox g,_,rfl,g,G,f,n+1,rfl,fu,lf,few,λH1 fr1 fu1=>?_⟩;refine⟨_,_,rfl,rfl,_,rfl,?_⟩;rw[X6 A0];refine AS ⟨_,rfl,_,rfl,g,G,f,n,rfl,fu1.at',lf,n48,(by show 0<=sizeLine;decide),λL hL=>?_⟩;have s2:=Ak (o:=.lst []) hL;have hL2:upd H1 L (.lst []) L=some (.lst (([]:List It3).map λq=>V.ref q.a)):=Ag;generalize upd H1 L (.lst [])=H2 at s2 hL2⊢;have fu2:=fu1.same s2;have nL:L∉BM g:=λz=>by
   obtain⟨o,e⟩:=fu1.nw.s L z;rw[hL]at e;cases e
  have x1:=FrQ.fx fr1 fu;refine⟨_,rfl,_,rfl,_,rfl,_,rfl,_,rfl,_,rfl,_,rfl,g,G,f,n+1,-(2^n),-(2^n),L,[],rfl,fu2,lf,by lia,hL2,nL,(by show(0:Int)+_<=5000;lia),λitems H3 fx3 hL3 hi3 ei=>?_⟩;have x3:Fx (frL g) H1 H3:=Fx.fresh s2 (fx3.mono A5) hL;have fu3:=fu2.fx fx3 λz hz m=>nL (by rw[C4]at m;rw[<-m];exact hz);have li:items.length<=4096:=by
   have:=Di fu.ok (x:=-(2^n)) (y:=-(2^n)) lf;rw[<-ei,A9]at this;lia
  refine⟨_,rfl,L,items,rfl,SqL.of (by rw[List.nil_append]at hL3;exact hL3),by lia,hi3,λL' out H4 s4 nL' pm ru=>?_⟩;have s5:=Ak (o:=.lst (out.map λq=>V.ref q.a)) nL';have s45:Az H3 (upd H4 L' (.lst (out.map λq=>V.ref q.a))):=Az.trans s4 s5;refine k L' out _ ((x1.trans x3).trans (Az.fx s45)) (fu3.same s45) ?_ Ag (λq hq=>s45 _ _ (hi3 q (pm.mem_iff.mp hq))) (by rw[<-ei];exact pm.map _) ru;cases e:H L' with
  |none=>rfl
  |some o =>
   exfalso;by_cases m:L'∈BM g
   ·obtain⟨o2,e2⟩:=fu3.nw.s L' m;have:=s4 _ _ e2;rw[nL']at this;cases this
   ·have:=s4 _ _ ((x1.trans x3).get (λz=>m (by simp[frL,BM]at *;lia)) e);rw[nL']at this;cases this
end
end J
namespace J
open PySem L2
structure OY(L:Int->Int->Prop)(b:Bx):Prop where
 inn:∀u v,L u v->b.l<=u/\u<b.l+b.w/\b.t<=v/\v<b.t+b.h
 le:∃v,L b.l v
 to:∃u,L u b.t
 ri:∃v,L (b.l+b.w-1) v
 bo:∃u,L u (b.t+b.h-1)
theorem Rh{l:List Int}(h:l≠[]):mnL l∈l/\∀x∈l,mnL l<=x:=by
 unfold mnL;cases e:l.min? with
 |none=>exact absurd (List.min?_eq_none_iff.mp e) h
 |some m=>exact List.min?_eq_some_iff.mp e
theorem Rg{l:List Int}(h:l≠[]):mxL l∈l/\∀x∈l,x<=mxL l:=by
 unfold mxL;cases e:l.max? with
 |none=>exact absurd (List.max?_eq_none_iff.mp e) h
 |some m=>exact List.max?_eq_some_iff.mp e
theorem UB{L:Int->Int->Prop}{bs:List Bx}(ne:bs≠[])(h1:∀b∈bs,∃M:Int->Int->Prop,OY M b/\∀u v,M u v->L u v)(h2:∀u v,L u v->∃b∈bs,b.l<=u/\u<b.l+b.w/\b.t<=v/\v<b.t+b.h):OY L (Nh bs):=by
 have n1:bs.map (·.l)≠[]:=λz=>ne (P6.mp z);have n2:bs.map (·.t)≠[]:=λz=>ne (P6.mp z);have n3:(bs.map λb=>b.l+b.w)≠[]:=λz=>ne (P6.mp z);have n4:(bs.map λb=>b.t+b.h)≠[]:=λz=>ne (P6.mp z);obtain⟨m1,a1⟩:=Rh n1;obtain⟨m2,a2⟩:=Rh n2;obtain⟨m3,a3⟩:=Rg n3;obtain⟨m4,a4⟩:=Rg n4;obtain⟨b1,hb1,e1⟩:=D5.mp m1;obtain⟨b2,hb2,e2⟩:=D5.mp m2;obtain⟨b3,hb3,e3⟩:=D5.mp m3;obtain⟨b4,hb4,e4⟩:=D5.mp m4;unfold Nh;refine⟨λu v q=>?_,?_,?_,?_,?_⟩
 ·obtain⟨b,hb,q1,q2,q3,q4⟩:=h2 u v q;have c1:=a1 _ (D5.mpr ⟨b,hb,rfl⟩);have c2:=a2 _ (D5.mpr ⟨b,hb,rfl⟩);have c3:=a3 _ (D5.mpr ⟨b,hb,rfl⟩);have c4:=a4 _ (D5.mpr ⟨b,hb,rfl⟩);dsimp only at c1 c2 c3 c4⊢;lia
 ·obtain⟨M,t,s⟩:=h1 b1 hb1;obtain⟨v,x⟩:=t.le;exact⟨v,by rw[e1]at x;exact s _ _ x⟩
 ·obtain⟨M,t,s⟩:=h1 b2 hb2;obtain⟨v,x⟩:=t.to;exact⟨v,by rw[e2]at x;exact s _ _ x⟩
 ·obtain⟨M,t,s⟩:=h1 b3 hb3;obtain⟨v,x⟩:=t.ri;refine⟨v,?_⟩;dsimp only at e3⊢;rw[e3]at x;have:=s _ _ x;rw[show mnL (bs.map (·.l))+(mxL (bs.map λb=>b.l+b.w)-mnL (bs.map (·.l)))-1=mxL (bs.map λb=>b.l+b.w)-1 by lia];exact this
 ·obtain⟨M,t,s⟩:=h1 b4 hb4;obtain⟨v,x⟩:=t.bo;refine⟨v,?_⟩;dsimp only at e4⊢;rw[e4]at x;have:=s _ _ x;rw[show mnL (bs.map (·.t))+(mxL (bs.map λb=>b.t+b.h)-mnL (bs.map (·.t)))-1=mxL (bs.map λb=>b.t+b.h)-1 by lia];exact this
theorem Nd{half:Int}{b:Bx}:∀{obs:List (Option Bx)}{k:Nat},b∈Dm half k obs ↔ ∃(j:Nat)(c:Bx),obs[j]?=some (some c)/\b=shB half (k+j) c
 |[],k=>⟨(λh=>by cases h),(λh=>by obtain⟨j,c,h,_⟩:=h;simp at h)⟩
 |none::r,k=>by
  rw[show Dm half k (none::r)=Dm half (k+1) r from rfl,Nd];constructor
  ·rintro⟨j,c,h,e⟩;exact⟨j+1,c,by simpa using h,by rw[e,show k+1+j=k+(j+1) by lia]⟩
  ·rintro⟨j,c,h,e⟩;cases j with
   |zero=>simp at h
   |succ j=>exact⟨j,c,by simpa using h,by rw[e,show k+1+j=k+(j+1) by lia]⟩
 |some d::r,k=>by
  rw[show Dm half k (some d::r)=shB half k d::Dm half (k+1) r from rfl,C2,Nd];constructor
  ·rintro(h|⟨j,c,h,e⟩)
   ·exact⟨0,d,rfl,h⟩
   ·exact⟨j+1,c,by simpa using h,by rw[e,show k+1+j=k+(j+1) by lia]⟩
  ·rintro⟨j,c,h,e⟩;cases j with
   |zero =>
    have h:d=c:=by simpa using h
    subst h;exact .inl e
   |succ j=>exact .inr ⟨j,c,by simpa using h,by rw[e,show k+1+j=k+(j+1) by lia]⟩
def Lv(G:Gv)(n i:Nat)(u v:Int):Prop:=∃a b:Nat,u=a/\v=b/\a<2^n/\b<2^n/\cellF G n i a b≠0
theorem TQ{G:Gv}{n i:Nat}{q:Sq}{a b c d:Nat}(nd:Cb G n i q a b c d)(u v:Int):Lv G (n+1) i u v ↔ ∃k,k<4/\Lv G n (f4 a b c d k) (u-2^n*((k:Int)%2)) (v-2^n*((k:Int)/2)):=by
 have cc:=Fp n;constructor
 ·rintro⟨x,y,rfl,rfl,hx,hy,ne⟩;rw[AW nd hx hy]at ne;have x2:=EF hx;have y2:=EF hy;refine⟨quad n x y,Ez hx hy,x%2^n,y%2^n,?_,?_,J9 _ (Bc n),J9 _ (Bc n),ne⟩
  ·have e:=P1 x (2^n);have q2:((quad n x y:Nat):Int)%2=((x/2^n:Nat):Int):=by
    unfold quad;generalize x/2^n=A at *
    generalize y/2^n=B at *
    lia
   rw[q2,<-cc,<-Q7];lia
  ·have e:=P1 y (2^n);have q2:((quad n x y:Nat):Int)/2=((y/2^n:Nat):Int):=by
    unfold quad;generalize x/2^n=A at *
    generalize y/2^n=B at *
    lia
   rw[q2,<-cc,<-Q7];lia
 ·rintro⟨k,hk,x,y,ex,ey,hx,hy,ne⟩;obtain⟨h1,h2,h3,h4,h5⟩:=DK hk hx hy;refine⟨x+2^n*(k%2),y+2^n*(k/2),?_,?_,h1,h2,?_⟩
  ·rw[S3,Q7,cc,show((k%2:Nat):Int)=(k:Int)%2 from rfl];lia
  ·rw[S3,Q7,cc,show((k/2:Nat):Int)=(k:Int)/2 from rfl];lia
  ·rw[AW nd h1 h2,h3,h4,h5];exact ne
theorem Oq{L:Int->Int->Prop}{b:Bx}{half:Int}{k:Nat}(h:OY L b):OY (λu v=>L (u-half*((k:Int)%2)) (v-half*((k:Int)/2))) (shB half k b):=by
 obtain⟨v1,a1⟩:=h.le;obtain⟨v2,a2⟩:=h.to;obtain⟨v3,a3⟩:=h.ri;obtain⟨v4,a4⟩:=h.bo;unfold shB;generalize half*((k:Int)%2)=p;generalize half*((k:Int)/2)=q;refine⟨λu v m=>?_,⟨v1+q,?_⟩,⟨v2+p,?_⟩,⟨v3+q,?_⟩,⟨v4+p,?_⟩⟩
 ·have:=h.inn _ _ m;dsimp only;lia
 ·show L (b.l+p-p) (v1+q-q);rw[Q4,Q4];exact a1
 ·show L (v2+p-p) (b.t+q-q);rw[Q4,Q4];exact a2
 ·show L (b.l+p+b.w-1-p) (v3+q-q);rw[Q4,show b.l+p+b.w-1-p=b.l+b.w-1 by lia];exact a3
 ·show L (v4+p-p) (b.t+q+b.h-1-q);rw[Q4,show b.t+q+b.h-1-q=b.t+b.h-1 by lia];exact a4
theorem IQ{G:Gv}(ok:GOk G):∀{n i:Nat}{b:Bx},Al G i (n:Int)->BB G n i=some b->OY (Lv G n i) b
 |0,i,b,_,h=>by
  have h:(if i=0 then none else some (⟨0,0,1,1⟩:Bx))=some b:=h;by_cases z:i=0
  ·rw[X9 z]at h;cases h
  ·rw[X8 z]at h;cases h;have l0:Lv G 0 i 0 0:=⟨0,0,rfl,rfl,by decide,by decide,z⟩
   refine⟨λu v m=>?_,⟨0,l0⟩,⟨0,l0⟩,⟨0,l0⟩,⟨0,l0⟩⟩;obtain⟨x,y,rfl,rfl,hx,hy,_⟩:=m;have hx:x<1:=hx;have hy:y<1:=hy;dsimp only;lia
 |n+1,i,b,l,h=>by
  obtain⟨q,a,b',c,d,nd⟩:=AK ok l;rw[EK nd]at h;have obs:∀k,k<4->[BB G n a,BB G n b',BB G n c,BB G n d][k]?=some (BB G n (f4 a b' c d k)):=λk hk=>by
   match k,hk with
   |0,_=>rfl
   |1,_=>rfl
   |2,_=>rfl
   |3,_=>rfl
  have key:∀e,e∈Dm (2^n) 0 [BB G n a,BB G n b',BB G n c,BB G n d] ↔ ∃k e',k<4/\BB G n (f4 a b' c d k)=some e'/\e=shB (2^n) k e':=λe=>by
   rw[Nd];constructor
   ·rintro⟨j,c',hj,rfl⟩;have j4:j<4:=(B3.mp hj).1;rw[obs j j4]at hj;exact⟨j,c',j4,K3 hj,by rw[O4]⟩
   ·rintro⟨k,e',hk,h1,rfl⟩;exact⟨k,e',by rw[obs k hk,h1],by rw[O4]⟩
  unfold NO at h;cases hg:Dm (2^n) 0 [BB G n a,BB G n b',BB G n c,BB G n d]with
  |nil=>rw[hg]at h;cases h
  |cons e0 es =>
   rw[hg]at h;have h:=K3 h;rw[hg]at key;subst h;refine UB A5 (λe he=>?_) λu v m=>?_
   ·obtain⟨k,e',hk,h1,rfl⟩:=(key e).mp he;refine⟨_,Oq (IQ ok (nd.nat hk).2 h1),λu v m=>(TQ nd u v).mpr ⟨k,hk,m⟩⟩
   ·obtain⟨k,hk,m⟩:=(TQ nd u v).mp m;cases hb:BB G n (f4 a b' c d k)with
    |none =>
     have c0:=(IR ok n _ (nd.nat hk).2).mp hb;obtain⟨x,y,_,_,hx,hy,ne⟩:=m;exact absurd (cell_none ok (nd.nat hk).2 c0 hx hy) ne
    |some e' =>
     have t:=Oq (half:=2^n) (k:=k) (IQ ok (nd.nat hk).2 hb);exact⟨_,(key _).mpr ⟨k,e',hk,hb,rfl⟩,t.inn u v m⟩
where cell_none {G:Gv} (ok:GOk G):∀{n i x y:Nat},Al G i (n:Int)->Bf G n i=0->x<2^n->y<2^n->cellF G n i x y=0
 |0,i,x,y,_,h,_,_=>by
  have h:(if i=0 then(0:Int)else 1)=0:=h;show i=0;by_cases z:i=0
  ·exact z
  ·rw[X8 z]at h;lia
 |n+1,i,x,y,l,h,hx,hy=>by
  obtain⟨q,a,b,c,d,nd⟩:=AK ok l;have e:=DM nd;have e:Bf G (n+1) i=Bf G n a+(Bf G n b+(Bf G n c+(Bf G n d+0))):=e;have ea:=DU G n a;have eb:=DU G n b;have ec:=DU G n c;have ed:=DU G n d;have qk:=Ez hx hy;rw[AW nd hx hy];refine cell_none ok (nd.nat qk).2 ?_ (J9 _ (Bc n)) (J9 _ (Bc n));generalize quad n x y=k at qk
  match k,qk with
  |0,_=>show Bf G n a=0;lia
  |1,_=>show Bf G n b=0;lia
  |2,_=>show Bf G n c=0;lia
  |3,_=>show Bf G n d=0;lia
seal L2.PA L2.PE L2.PS L2.PSs L2.PT L2.PW
theorem Rl{G:Gv}{n f:Nat}(x y:Int):Lv G (n+1) f (x+2^n) (y+2^n)↔fieldF G n f x y≠0:=by
 have c:=Fp n;have e:=MK n;constructor
 ·rintro⟨u,v,eu,ev,hu,hv,ne⟩;unfold fieldF;rw[X9 ⟨by lia,by lia,by lia,by lia⟩,show(x+2^n).toNat=u by lia,show(y+2^n).toNat=v by lia];exact ne
 ·intro ne;unfold fieldF at ne;split at ne
  ·rename_i z;obtain⟨z1,z2,z3,z4⟩:=z;exact⟨(x+2^n).toNat,(y+2^n).toNat,by lia,by lia,DA z1 z2,DA z3 z4,ne⟩
  ·exact absurd rfl ne
def mvB(r:Int)(b:Bx):Bx:=⟨b.l+-r,b.t+-r,b.w,b.h⟩
theorem QB{G:Gv}(ok:GOk G){n f:Nat}(l:Al G f ((n+1:Nat):Int)){b:Bx}(h:BB G (n+1) f=some b):OY (λx y=>fieldF G n f x y≠0) (mvB (2^n) b):=by
 have t:=IQ ok l h;obtain⟨v1,a1⟩:=t.le;obtain⟨v2,a2⟩:=t.to;obtain⟨v3,a3⟩:=t.ri;obtain⟨v4,a4⟩:=t.bo;have go:∀{u v:Int},Lv G (n+1) f u v->fieldF G n f (u+-(2^n)) (v+-(2^n))≠0:=λ{u v} m=>(Rl _ _).mp (by rw[show u+-(2^n)+2^n=u by lia,show v+-(2^n)+2^n=v by lia];exact m);unfold mvB;refine⟨λx y m=>?_,⟨_,go a1⟩,⟨_,go a2⟩,⟨v3+-(2^n),?_⟩,⟨v4+-(2^n),?_⟩⟩
 ·have:=t.inn _ _ ((Rl x y).mpr m);dsimp only;lia
 ·have:=go a3;rw[show b.l+b.w-1+-(2^n)=b.l+-(2^n)+b.w-1 by lia]at this;exact this
 ·have:=go a4;rw[show b.t+b.h-1+-(2^n)=b.t+-(2^n)+b.h-1 by lia]at this;exact this
theorem Sn{G:Gv}(ok:GOk G){n f:Nat}(l:Al G f ((n+1:Nat):Int))(h:BB G (n+1) f=none)(x y:Int):fieldF G n f x y=0:=by
 have c:=(IR ok _ _ l).mp h;unfold fieldF;split
 ·rename_i z;exact IQ.cell_none ok l c (DA z.1 z.2.1) (DA z.2.2.1 z.2.2.2)
 ·rfl
section
variable{P:Program}{w:World}{K:PySem.W.Frag}{mg:Str->Option Value}{base:Heap}{a:Ad}
inductive Ut(a:Ad)(vs:List V)(H:Hp)(Q:VK):Prop
 |mk (g:GA) (G:Gv) (f n:Nat) (_:vs=[.ref g.p,.int f]) (_:AF a H g G) (_:Al G f ((n+1:Nat):Int)) (_:n<48) (_:G.length<8000000) (_:(BB G (n+1) f=none->∀H',FrQ g H H'->AF a H' g G->Q .non H')) (_:∀b,BB G (n+1) f=some b->∀t H',FrQ g H H'->AF a H' g G->LD H' t (mvB (2^n) b)->Q (.ref t) H'):Ut a vs H Q
def Pl(a:Ad):Sp:=λvs H Q _=>Ut a vs H Q
theorem WG{f:Addr}{fd:FuncData}(F:Fun K "box_of" "box_of" ME f fd)(T:Top K mg a)(bK:Cw P w K mg base CX0 101 a.c_Grove "span" GF (RY a))(a9:Cal P w K mg base CX0 4 "reach_of" CY (Ge a))(aE:Cal P w K mg base CX0 1 "shifted_box" CL Ju):AC P w K mg base CX0 102 f fd MO (Pl a):=by
 refine F.ok JX (λvs H Q E h=>?_) (λcdv A outer s H vs Q E hr h=>?_)
 ·obtain⟨g,G,f',n,rfl,_⟩:=h;rfl
 ·obtain⟨g,G,f',n,rfl,fu,lf,n48,few,k0,k1⟩:=h;refine⟨_,(Ab (Aj (i:=2) JX.nd rfl (Or.inl rfl) (AE (pv 0) bK (rm hr) Ao (Aa (pv 1) Ac))) (Ab (AB (Ar MP (pv 2) Ig (Av _)) (Ae (An Ig)) Au) (Ab (Aj (i:=3) JX.nd rfl (Or.inl rfl) (Aq a9 (rm hr) rfl Ao (Aa (pv 0) (Aa (pv 1) Ac)))) (Ae (An (Aq aE (rm hr) rfl Ao (Aa (pv 2) (Aa (FV DB (pv 3)) (Aa (FV DB (pv 3)) Ac))))))))),?_⟩
  try dsimp only[cxK]
  refine xq1 rfl ⟨g.p,g.dx,(xq1 rfl ⟨fu.at'.hp,no_span g,(xq1 rfl ⟨g,G,f',n+1,rfl,fu,lf,by lia,λhn H1 fr1 fu1=>?_,λb hb t H1 fr1 fu1 ht=>?_⟩)⟩)⟩
  ·exact xq1 rfl ⟨rfl,(xq1 rfl (Bq (k0 hn H1 fr1 fu1)))⟩
  ·refine xq1 rfl ⟨rfl,(xq1 rfl (AS ?_))⟩;refine xw2 rfl rfl ⟨g,G,f',n,rfl,fu1.at',lf,n48,?_⟩;refine xw3 rfl rfl rfl (xw2 rfl rfl ⟨t,b,_,_,rfl,ht,λt' ht'=>?_⟩);have s2:=Ak (o:=.tup [.int (b.l+-(2^n)),.int (b.t+-(2^n)),.int b.w,.int b.h]) ht';exact k1 b hb t' _ (fr1.trans (Az.frq s2)) (fu1.same s2) Ag
end
def BD(acc:List Rn)(r:Rn):List Rn:=match acc.getLast? with
 |some l=>if l.c=r.c then acc.dropLast++[⟨l.a+r.a,r.c⟩]else acc++[r]
 |none=>acc++[r]
def tog(rs:List Rn):List Rn:=rs.foldl BD []
theorem RW(r:Rn):BD [] r=[r]:=rfl
theorem Dd(acc:List Rn)(l r:Rn):BD (acc++[l]) r=if l.c=r.c then acc++[⟨l.a+r.a,r.c⟩]else acc++[l]++[r]:=by
 unfold BD;rw[List.getLast?_concat,List.dropLast_concat]
theorem RX(acc:List Rn)(r:Rn):(BD acc r).length<=acc.length+1:=by
 rcases T8 acc with rfl|⟨b,l,rfl⟩
 ·exact B1 _
 ·rw[T9,Dd];split
  ·rw[B0,B0];exact P3 _
  ·rw[B0];exact B1 _
theorem Mu(rs:List Rn){j:Nat}{r:Rn}(h:rs[j]?=some r):(rs.take (j+1)).foldl BD []=BD ((rs.take j).foldl BD []) r:=by
 rw[D3,h,L7];rfl
theorem Mf(rs:List Rn):∀j,((rs.take j).foldl BD []).length<=j
 |0=>B1 _
 |j+1=>by
  cases h:rs[j]? with
  |none =>
   rw[D3,h];show(List.foldl BD [] (List.take j rs++[])).length<=_;rw[M2];exact R1 (Mf rs j)
  |some r=>rw[Mu rs h];exact C6 (RX _ _) (P8 (Mf rs j))
theorem WZ:∀{l:List Nat}{x:Nat},x∈l->x<=l.sum
 |[],_,h=>by simp at h
 |y::r,x,h=>by
  rw[U3];rcases C2.mp h with rfl|h
  ·omega
  ·have:=WZ h;omega
theorem QG{α:Type}(y:α):∀(xs:List α)(x:α),(xs++[x]).set xs.length y=xs++[y]
 |[],x=>rfl
 |z::r,x=>by
  show z::(r++[x]).set r.length y=z::(r++[y]);rw[QG y r x]
theorem tog_sum(rs:List Rn):∀r∈tog rs,r.a<=(rs.map (·.a)).sum:=by
 have key:∀(l acc:List Rn)(m:Nat),(acc.map (·.a)).sum<=m->∀r∈l.foldl BD acc,r.a<=m+(l.map (·.a)).sum:=by
  intro l;induction l with
  |nil =>
   intro acc m h r hr;have:r.a<=(acc.map (·.a)).sum:=WZ (List.mem_map_of_mem hr);show r.a<=m+0;omega
  |cons x t ih =>
   intro acc m h r hr;have h2:((BD acc x).map (·.a)).sum<=m+x.a:=by
    rcases T8 acc with rfl|⟨b,y,rfl⟩
    ·rw[RW];show x.a+0<=_;omega
    ·rw[T9]at h⊢;rw[Dd];rw[C1,U7]at h;have h:(b.map (·.a)).sum+(y.a+0)<=m:=h;split
     ·rw[C1,U7];show(b.map (·.a)).sum+(y.a+x.a+0)<=_;omega
     ·rw[C1,U7,C1,U7];show(b.map (·.a)).sum+(y.a+0)+(x.a+0)<=_;omega
   have:=ih (BD acc x) (m+x.a) h2 r hr;rw[C9,U3];omega
 intro r hr;have:=key rs [] 0 (B1 _) r hr;omega
theorem RJ{xs:List V}{x:V}:atI (xs++[x]) (-1)=some x:=by
 unfold atI ixN;rw[X8 A4,X9 (by rw[B0,D8];omega)];show(xs++[x])[((-1:Int)+((xs++[x]).length:Nat)).toNat]?=some x;rw[B0,D8,show((-1:Int)+((xs.length+1:Nat):Int)).toNat=xs.length by omega,F1 (B1 _),V1];rfl
theorem Yi(n:Nat):ixN (n+1) (-1)=some n:=by
 unfold ixN;rw[X8 A4,X9 A6,show((-1:Int)+((n+1:Nat):Int)).toNat=n by omega]
theorem unsnoc{α β:Type}{F:α->β->Prop}:∀{us:List α}{acc:List β}{l:β},Paired F us (acc++[l])->∃vs t,us=vs++[t]/\Paired F vs acc/\F t l:=by
 intro us acc;induction acc generalizing us with
 |nil =>
  intro l h;cases h with
  |cons r t=>cases t;exact⟨[],_,rfl,.nil,r⟩
 |cons x r ih =>
  intro l h;cases h with
  |cons q t =>
   obtain⟨vs,t',e,h1,h2⟩:=ih t;exact⟨_::vs,t',by rw[e];rfl,.cons q h1,h2⟩
def wS(r:Rn):Str:=⟨(wd r).toArray⟩
theorem Ms(r:Rn):(wS r).cps.toList=wd r:=by unfold wS;simp
theorem wS_of{r:Rn}{z:Str}(h:z.cps.toList=wd r):z=wS r:=Nu.ext (by rw[h,Ms])
theorem Pa{r:Rn}(h:r.a<10^30):(wd r).length<=31:=by
 unfold wd GV;rw[B0];split
 ·show 0+1<=31;omega
 ·have:=Tn.GM 29 r.a h;show _+1<=31;omega
theorem joinT(rs:List Rn):(Str.join (Str.ofString "") (rs.map wS)).cps.toList=txt rs:=by
 rw[Tx.JR,show(Str.ofString "").cps.toList=[] by decide +kernel,Tx.Qd,O5];unfold txt;exact A0e List.flatten (R8 λr _=>Ms r)
theorem joinOk{rs:List Rn}(h:∀r∈rs,r.a<10^30)(l:rs.length<=1000):JoinOk (Str.ofString "") (rs.map wS)=true:=by
 refine Tx.Qc 31 (λt ht=>?_) ?_
 ·obtain⟨r,hr,rfl⟩:=D5.mp ht;rw[Nu.len,Ms];exact Pa (h r hr)
 ·rw[A9,show(Str.ofString "").length=0 by decide +kernel];omega
theorem sum_le{rs:List Rn}(h:∀r∈rs,Oc r):(rs.map (·.a)).sum<=rs.length*10^13:=by
 induction rs with
 |nil=>exact B1 _
 |cons r t ih =>
  have:=ih λx hx=>h x (B9 _ hx);have h1:=(h r D7).a2;rw[C9,U3,D1,Nat.succ_mul];omega
section
variable{P:Program}{w:World}{K:PySem.W.Frag}{mg:Str->Option Value}{base:Heap}{a:Ad}
inductive SpTog(vs:List V)(H:Hp)(Q:VK):Prop
 |mk (R:Addr) (ts:List Addr) (rs:List Rn) (_:vs=[.ref R]) (_:H R=some (.lst (ts.map V.ref))) (_:Paired (Dl H) ts rs) (_:rs.length<=12300) (_:∀(L:Addr)(us:List Addr)(H':Hp),H L=none->Az H H'->H' L=some (.lst (us.map V.ref))->Paired (Dl H') us (tog rs)->Q (.ref L) H'):SpTog vs H Q
def VN:Sp:=λvs H Q _=>SpTog vs H Q
theorem ok_put{f:Addr}{fd:FuncData}(F:Fun K "put_together" "put_together" ES f fd)(T:Top K mg a):AC P w K mg base CX0 1 f fd EZ VN:=by
 refine F.ok CP (λvs H Q E h=>?_) (λcdv A outer s H vs Q E hr h=>?_)
 ·obtain⟨R,ts,rs,rfl,_⟩:=h;rfl
 ·obtain⟨R,ts,rs,rfl,hR,pr,lrs,k⟩:=h;have lts:=A0b pr;refine⟨_,(Ab (Aj (i:=1) CP.nd rfl (Or.inl rfl) (BP Ac)) (Ab (Cv A0d rfl (Cm (pv 0)) (El rfl (AH (AD (i:=2) CP.nd rfl (Or.inl rfl)) (AH (AD (i:=3) CP.nd rfl (Or.inl rfl)) CT))) (Ae (AB (PW.pt (MG (Ar Dg (Aw Dx rfl T.b_len A3b (Aa (pv 1) Ac)) Af (Av _)) (JB (Ar BS (Am Ax (Am AI (pv 1) (FV DB Af) (λ_ _=>rfl)) Af (λ_ _=>rfl)) (pv 3) (Av _))))) (Ae (Sl (Ck (BH AV (Am Ax (Am AI (pv 1) (FV DB Af) (λ_ _=>rfl)) Af (λ_ _=>rfl)) (pv 2) (Aa (pv 3) Ac))) (pg_sub (pv 1) (FV DB Af) VY))) (Ae (Be (BV K7 K9 A0a Bh (pv 1) (BE (Aa (pv 2) (Aa (pv 3) Ac)) Ac))))))) (Ae (An (pv 1))))),?_⟩
  try dsimp only[cxK]
  refine⟨(by show 0<=sizeLine;decide),λL hL=>?_⟩;have s1:=Ak (o:=.lst []) hL;have hL1:upd H L (.lst []) L=some (.lst []):=Ag;generalize upd H L (.lst [])=H1 at s1 hL1⊢;refine xq1 rfl ⟨R,rfl,⟨_,SqL.of (s1 _ _ hR)⟩,?_⟩;refine FX (xs:=ts.map V.ref) (λj σ H2=>∃(us:List Addr)(u2 u3:Option V),σ=[some (.ref R),some (.ref L),u2,u3]/\Az H H2/\H2 L=some (.lst (us.map V.ref))/\Paired (Dl H2) us ((rs.take j).foldl BD [])) ⟨[],none,none,rfl,s1,hL1,.nil⟩ (λj σ H2 _ ⟨_,_,_,_,sm,_⟩=>SqL.of (sm _ _ hR)) ?_ ?_
  ·rintro j v σ H2 ev ⟨us,u2,u3,rfl,sm,hL2,pu⟩;rw[B7]at ev;obtain⟨t,et,rfl⟩:=F0.mp ev;obtain⟨r,er,ht⟩:=PairedM.getL pr et;have hj:j<rs.length:=(B3.mp er).1;have ht2:Dl H2 t r:=sm _ _ ht;have la:=Mf rs j;have lus:=A0b pu;refine Iv ht2 ?_;have new:∀{D:St->Hp->Prop},(∀(t':Addr)(H4:Hp),Az H2 H4->H4 t'=some (.tup [.int r.a,.str ⟨#[r.c]⟩])->H4 L=some (.lst (us.map V.ref))->True)->True:=λ_=>trivial;have app:∀(t':Addr),H2 t'=none->(∀acc,acc=(rs.take j).foldl BD []->BD acc r=acc++[r])->Az H (upd (upd H2 t' (.tup [.int r.a,.str ⟨#[r.c]⟩])) L (.lst (us.map V.ref++[.ref t'])))/\upd (upd H2 t' (.tup [.int r.a,.str ⟨#[r.c]⟩])) L (.lst (us.map V.ref++[.ref t'])) L=some (.lst ((us++[t']).map V.ref))/\Paired (Dl (upd (upd H2 t' (.tup [.int r.a,.str ⟨#[r.c]⟩])) L (.lst (us.map V.ref++[.ref t'])))) (us++[t']) ((rs.take (j+1)).foldl BD []):=λt' nt hst=>by
    have s3:=Ak (o:=.tup [.int r.a,.str ⟨#[r.c]⟩]) nt;have ht3:Dl (upd H2 t' (.tup [.int r.a,.str ⟨#[r.c]⟩])) t' r:=Ag;generalize upd H2 t' (.tup [.int r.a,.str ⟨#[r.c]⟩])=H3 at s3 ht3⊢;have hL3:=s3 _ _ hL2;have tp:∀{b:Addr}{ys:List V}{o:HO},H3 b=some (.tup ys)->upd H3 L o b=some (.tup ys):=λ{b ys o} e=>by rw[At (AM e hL3 A3)];exact e
    refine⟨λb o e=>?_,by rw[Ag,C1];rfl,?_⟩
    ·rw[At (As e hL)];exact s3 _ _ (sm _ _ e)
    ·rw[Mu rs er,hst _ rfl];exact A2h (PairedM.imp (λb c z=>tp (s3 _ _ z)) pu) (show Dl _ t' r from tp ht3)
   refine xq1 rfl ⟨L,(xq1 rfl ⟨.inl (SqL.of hL2),(xq2 rfl rfl (xq1 rfl ?_))⟩)⟩;generalize hacc:(rs.take j).foldl BD []=acc at pu la lus app;rcases T8 acc with rfl|⟨b,l,rfl⟩
   ·cases pu;refine AS (AS (xq1 rfl ⟨.inl ⟨rfl,_,SqL.of hL2⟩,(xw2 rfl rfl ⟨(by show 2<=sizeLine;decide),λt' nt=>?_⟩)⟩));obtain⟨a1,a2,a3⟩:=app t' nt λacc e=>by subst e;rfl
    refine⟨L,(xq2 rfl rfl ⟨Ak nt _ _ hL2,(by show 0<sizeLine;decide),⟨_,_,_,rfl,a1,a2,a3⟩⟩)⟩
   ·rw[T9]at hacc pu la lus app;obtain⟨vs,tl,rfl,pv,htl⟩:=unsnoc pu;rw[C1]at hL2;have hL2:H2 L=some (.lst (vs.map V.ref++[.ref tl])):=hL2;have pos:(0:Int)<(((vs++[tl]).map V.ref).length:Int):=by rw[A9,B0,D8];omega
    rw[X7 pos];refine Bq (xwj rfl rfl rfl rfl (SqL.of hL2) RJ (xq4 rfl rfl (SqT.of htl) (Ah (j:=1) rfl) (xq1 rfl ⟨rfl,(xq1 rfl ?_)⟩)));by_cases ec:l.c=r.c
    ·rw[ec,X7 rfl];refine Bq (xwj rfl rfl rfl rfl (SqL.of hL2) RJ (xq4 rfl rfl (SqT.of htl) (Ah (j:=0) rfl) (xwb rfl rfl rfl (xq1 rfl ⟨(by show 2<=sizeLine;decide),λt' nt=>?_⟩))));have s3:=Ak (o:=.tup [.int ((l.a:Int)+(r.a:Int)),.str ⟨#[r.c]⟩]) nt;have ht3:Dl (upd H2 t' (.tup [.int ((l.a:Int)+(r.a:Int)),.str ⟨#[r.c]⟩])) t' ⟨l.a+r.a,r.c⟩:=Ag;generalize upd H2 t' (.tup [.int ((l.a:Int)+(r.a:Int)),.str ⟨#[r.c]⟩])=H3 at s3 ht3⊢;have hL3:=s3 _ _ hL2;have tp:∀{b:Addr}{ys:List V}{o:HO},H3 b=some (.tup ys)->upd H3 L o b=some (.tup ys):=λ{b ys o} e=>by rw[At (AM e hL3 A3)];exact e
     refine xw2 rfl rfl ⟨L,_,-1,vs.length,rfl,rfl,hL3,by rw[B0,A9];exact Yi _,?_⟩;have es:(vs.map V.ref++[V.ref tl]).set vs.length (.ref t')=(vs++[t']).map V.ref:=by
      have:=QG (V.ref t') (vs.map V.ref) (.ref tl);rw[A9]at this;rw[this,C1];rfl
     rw[es];refine⟨vs++[t'],_,_,rfl,λb o e=>?_,Ag,?_⟩
     ·rw[At (As e hL)];exact s3 _ _ (sm _ _ e)
     ·rw[Mu rs er,hacc,Dd,X9 ec];exact A2h (PairedM.imp (λb c z=>tp (s3 _ _ z)) pv) (show Dl _ t' ⟨l.a+r.a,r.c⟩from tp ht3)
    ·rw[X6 (by
      intro q;injection q with q
      have:[l.c]=[r.c]:=A0e (λs:Str=>s.cps.toList) q;injection this with this
      exact ec this)]
     refine AS (xq1 rfl ⟨.inl ⟨rfl,_,SqL.of hL2⟩,(xw2 rfl rfl ⟨(by show 2<=sizeLine;decide),λt' nt=>?_⟩)⟩);obtain⟨a1,a2,a3⟩:=app t' nt λacc e=>by rw[e,Dd,X8 ec]
     have hL2':H2 L=some (.lst ((vs++[tl]).map V.ref)):=by rw[C1];exact hL2
     refine⟨L,(xq2 rfl rfl ⟨Ak nt _ _ hL2',by rw[A9,lus];exact Bu A6,⟨_,_,_,rfl,a1,a2,a3⟩⟩)⟩
  ·rintro σ H2 ⟨us,u2,u3,rfl,sm,hL2,pu⟩;rw[A9,lts,F2]at pu;exact xq1 rfl (k L us H2 hL sm hL2 pu)
inductive YK(vs:List V)(H:Hp)(Q:VK):Prop
 |mk (r:Rn) (_:vs=[.int r.a,.str ⟨#[r.c]⟩]) (_:r.a<10^30) (_:∀z:Str,z.cps.toList=wd r->Q (.str z) H):YK vs H Q
def RZ:Sp:=λvs H Q _=>YK vs H Q
theorem ok_show{f:Addr}{fd:FuncData}(F:Fun K "shown_run" "shown_run" Ia f fd)(T:Top K mg a):AC P w K mg base CX0 1 f fd Ih RZ:=by
 refine F.ok Po (λvs H Q E h=>?_) (λcdv A outer s H vs Q E hr h=>?_)
 ·obtain⟨r,rfl,_⟩:=h;rfl
 ·obtain⟨r,rfl,ra,k⟩:=h;refine⟨_,(Ab (AB (Ar BS (pv 0) Af (Av _)) (Ae (An (pv 1))) Au) (Ae (An (Wn (pv 0) (pv 1))))),?_⟩
  try dsimp only[cxK]
  refine xq1 rfl ⟨rfl,(xq1 rfl ?_)⟩;by_cases e1:r.a=1
  ·rw[e1,X7 (by rfl)];refine Bq (xq1 rfl (k _ ?_));unfold wd GV;rw[X9 e1];rfl
  ·rw[X6 (by intro q;injection q with q;omega)];refine AS (xq1 rfl ⟨(r.a:Int),rfl,Tn.OA ra,(xq1 rfl ⟨⟨#[r.c]⟩,rfl,(by show 1<=100000;decide),k _ ?_⟩)⟩);rw[Tx.AJ,Tn.VC];unfold wd GV;rw[X8 e1]
inductive SpShR(vs:List V)(H:Hp)(Q:VK):Prop
 |mk (R:Addr) (ts:List Addr) (rs:List Rn) (_:vs=[.ref R]) (_:H R=some (.lst (ts.map V.ref))) (_:Paired (Dl H) ts rs) (_:(∀r∈rs,Oc r)) (_:rs.length<=12300) (_:(tog rs).length<=1000) (_:∀(z:Str)(H':Hp),Az H H'->z.cps.toList=txt (tog rs)->Q (.str z) H'):SpShR vs H Q
def VO:Sp:=λvs H Q _=>SpShR vs H Q
theorem Ol{rs:List Rn}(oks:∀r∈rs,Oc r)(l:rs.length<=12300):∀r∈tog rs,r.a<10^30:=λr hr=>by
 have h1:=tog_sum rs r hr;have h2:=sum_le oks;have h3:rs.length*10^13<=12300*10^13:=Nat.mul_le_mul_right _ l;exact V3 (C6 h1 (C6 h2 h3)) A4
theorem tog_few(rs:List Rn):(tog rs).length<=rs.length:=by
 have:=Mf rs rs.length;rw[F2]at this;exact this
theorem ok_shR{f:Addr}{fd:FuncData}(F:Fun K "shown_runs" "shown_runs" Ex f fd)(T:Top K mg a)(bC:Cal P w K mg base CX0 1 "put_together" EZ VN)(bQ:Cal P w K mg base CX0 1 "shown_run" Ih RZ):AC P w K mg base CX0 2 f fd Gu VO:=by
 refine F.ok NG (λvs H Q E h=>?_) (λcdv A outer s H vs Q E hr h=>?_)
 ·obtain⟨R,ts,rs,rfl,_⟩:=h;rfl
 ·obtain⟨R,ts,rs,rfl,hR,pr,oks,lrs,lg,k⟩:=h;have few:=tog_few rs;have sml:=Ol oks lrs;refine⟨_,(Ae (An (BV A1d A7d A7e PX Bn (Aa (Dt rfl (Cd.of (So:=Ai Ex) (No:=JH) (N:=["run"]) (k:=1) (cs:=[]) rfl rfl A1) (Cm (Aq bC (rm hr) rfl Ao (Aa (pv 0) Ac))) (λ_ _ _=>(Cf (i:=0) A1 rfl rfl)) (λ_ _ _=>CS) (λ_ _ _=>(Aq bQ (rm hr) rfl Ao (Aa (Am (DT (K:=K) rfl) (pv 0) Af (λ_ _=>rfl)) (Aa (Am (DT (K:=K) rfl) (pv 0) Af (λ_ _=>rfl)) Ac))))) Ac)))),?_⟩
  try dsimp only[cxK]
  refine⟨rfl,(xq1 rfl ⟨R,ts,rs,rfl,hR,pr,lrs,λL us H1 nL s1 hL1 pu=>⟨L,rfl,⟨_,SqL.of hL1⟩,?_⟩⟩)⟩;generalize tog rs=gs at pu few sml lg k;have lus:=A0b pu;refine IA (xs:=us.map V.ref) (λj acc H2=>H1=H2/\acc=((gs.take j).map wS).map V.str) ⟨rfl,rfl⟩ (λj acc H2 _ z=>z.1▸SqL.of hL1) ?_ ?_
  ·rintro j v acc H2 ev ⟨rfl,rfl⟩;rw[B7]at ev;obtain⟨t,et,rfl⟩:=F0.mp ev;obtain⟨r,er,ht⟩:=PairedM.getL pu et;refine⟨⟨[some (.ref t)],rfl,rfl⟩,by rw[A9,A9,L5];exact Bu A6,LQ (xwi rfl rfl rfl (SqT.of ht) (Ah (j:=0) rfl) (xwi rfl rfl rfl (SqT.of ht) (Ah (j:=1) rfl) ⟨r,rfl,sml r (D9 er),λz hz=>⟨rfl,?_⟩⟩))⟩;rw[wS_of hz,D3,er,C1,C1];rfl
  ·rintro acc H2 ⟨rfl,rfl⟩ p hp;rw[A9,lus,F2];exact⟨Str.ofString "",p,gs.map wS,rfl,rfl,SqL.of Ag,joinOk sml lg,k _ _ (s1.trans (Ak hp)) (joinT gs)⟩
end
structure RS where
 r:Int
 d:Int
 rs:List Rn
def CI(left:Int)(s:RS)(c:Cl):RS:=if s.d<c.y then⟨left,c.y,s.rs++[⟨(c.y-s.d).toNat,47⟩]⟩else s
def Ds(s:RS)(c:Cl):RS:=if s.r<c.x then⟨s.r,s.d,s.rs++[⟨(c.x-s.r).toNat,46⟩]⟩else s
def TC(s:RS)(c:Cl):RS:=⟨c.x+1,s.d,s.rs++[⟨1,sg.getD c.s 0⟩]⟩
def Ek(left:Int)(s:RS)(c:Cl):RS:=TC (Ds (CI left s c) c) c
def rcs(left top:Int)(cs:List Cl):RS:=cs.foldl (Ek left) ⟨left,top,[]⟩
theorem QN(left top:Int){cs:List Cl}{j:Nat}{c:Cl}(h:cs[j]?=some c):rcs left top (cs.take (j+1))=Ek left (rcs left top (cs.take j)) c:=by
 unfold rcs;rw[D3,h,L7];rfl
theorem Os(left:Int)(s:RS)(c:Cl):(CI left s c).rs.length<=s.rs.length+1:=by
 unfold CI;split
 ·rw[B0];exact B1 _
 ·exact P3 _
theorem Ot(s:RS)(c:Cl):(Ds s c).rs.length<=s.rs.length+1:=by
 unfold Ds;split
 ·rw[B0];exact B1 _
 ·exact P3 _
theorem Ps(left top:Int)(cs:List Cl):∀j,(rcs left top (cs.take j)).rs.length<=3*j
 |0=>B1 _
 |j+1=>by
  have ih:=Ps left top cs j;cases e:cs[j]? with
  |none =>
   rw[D3,e,Z4,M2];lia
  |some c =>
   rw[QN left top e];show((Ds (CI left (rcs left top (cs.take j)) c) c).rs++[(⟨1,sg.getD c.s 0⟩:Rn)]).length<=_;rw[B0,D8];have h1:=Os left (rcs left top (cs.take j)) c;have h2:=Ot (CI left (rcs left top (cs.take j)) c) c;lia
section
variable{P:Program}{w:World}{K:PySem.W.Frag}{mg:Str->Option Value}{base:Heap}{a:Ad}
inductive SpRc(vs:List V)(H:Hp)(Q:VK):Prop
 |mk (L:Addr) (ts:List Addr) (cs:List Cl) (left top:Int) (_:vs=[.ref L,.int left,.int top]) (_:H L=some (.lst (ts.map V.ref))) (_:Paired (ClAt H) ts cs) (_:∀c∈cs,c.s<8) (_:cs.length<=4096) (_:∀(R:Addr)(us:List Addr)(H':Hp),H R=none->Az H H'->H' R=some (.lst (us.map V.ref))->Paired (Dl H') us (rcs left top cs).rs->Q (.ref R) H'):SpRc vs H Q
def spRc:Sp:=λvs H Q _=>SpRc vs H Q
theorem meetR{T:St->Hp->Prop}{C:Prop}(P:St->Hp->Prop)(h:(∀σ H,P σ H->T σ H)->C)(k:∀σ H,P σ H->T σ H):C:=h k
structure RA(H H2:Hp)(R:Addr)(us:List Addr)(rs:List Rn):Prop where
 sm:Az H H2
 hR:H2 R=some (.lst (us.map V.ref))
 pr:Paired (Dl H2) us rs
theorem RA.add{H H2 H3:Hp}{R t:Addr}{us:List Addr}{rs:List Rn}{r:Rn}(h:RA H H2 R us rs)(nR:H R=none)(nt:H2 t=none)(e:upd H2 t (.tup [.int r.a,.str ⟨#[r.c]⟩])=H3):RA H (upd H3 R (.lst (us.map V.ref++[.ref t]))) R (us++[t]) (rs++[r])/\H3 R=some (.lst (us.map V.ref)):=by
 have s3:Az H2 H3:=e▸Ak nt;have ht:H3 t=some (.tup [.int r.a,.str ⟨#[r.c]⟩]):=e▸Ag;have hR3:=s3 _ _ h.hR;have tp:∀{b:Addr}{ys:List V}{o:HO},H3 b=some (.tup ys)->upd H3 R o b=some (.tup ys):=λ{b ys o} e=>by rw[At (AM e hR3 A3)];exact e
 refine⟨⟨λb o e=>?_,by rw[Ag,C1];rfl,A2h (PairedM.imp (λb c z=>(tp (s3 _ _ z):Dl _ b c)) h.pr) (tp ht:Dl _ t r)⟩,hR3⟩;rw[At (As e nR)];exact s3 _ _ (h.sm _ _ e)
theorem sg_str:(Str.ofString ".ABCDEFG").cps.toList=sg.take 8:=by decide +kernel
theorem c47:Str.ofString "/" = ⟨#[47]⟩:=by decide +kernel
theorem c46:Str.ofString "." = ⟨#[46]⟩:=by decide +kernel
theorem ok_rcs{f:Addr}{fd:FuncData}(F:Fun K "runs_of_cells" "runs_of_cells" Eg f fd)(T:Top K mg a):AC P w K mg base CX0 1 f fd Eo spRc:=by
 refine F.ok AO (λvs H Q E h=>?_) (λcdv A outer s H vs Q E hr h=>?_)
 ·obtain⟨L,ts,cs,left,top,rfl,_⟩:=h;rfl
 ·obtain⟨L,ts,cs,left,top,rfl,hL,pr,s8,l4,k⟩:=h;have lts:=A0b pr;refine⟨_,(Ab (Aj (i:=3) AO.nd rfl (Or.inl rfl) (BP Ac)) (Ab (Aj (i:=4) AO.nd rfl (Or.inl rfl) (pv 1)) (Ab (Aj (i:=5) AO.nd rfl (Or.inl rfl) (pv 2)) (Ab (Cv A0d rfl (Cm (pv 0)) (El rfl (AH (AD (i:=6) AO.nd rfl (Or.inl rfl)) (AH (AD (i:=7) AO.nd rfl (Or.inl rfl)) (AH (AD (i:=8) AO.nd rfl (Or.inl rfl)) CT)))) (Ab (AB (Ar Dg (pv 7) (pv 5) (Av _)) (Ab (Be (BV K7 K9 A0a Bh (pv 3) (BE (BH CZ (pv 7) (pv 5) (Aa (EA rfl T.k_ROW_SIGN) Ac)) Ac))) (Ab (Aj (i:=4) AO.nd rfl (Or.inl rfl) (pv 1)) (Ae (Aj (i:=5) AO.nd rfl (Or.inl rfl) (pv 7))))) Au) (Ab (AB (Ar Dg (pv 6) (pv 4) (Av _)) (Ae (Be (BV K7 K9 A0a Bh (pv 3) (BE (BH CZ (pv 6) (pv 4) (Aa (EA rfl T.k_BLANK_SIGN) Ac)) Ac)))) Au) (Ab (Be (BV K7 K9 A0a Bh (pv 3) (BE (AX (Aa (Am Qe (EA rfl T.k_STATE_SIGNS) (pv 8) (λ_ _=>rfl)) Ac)) Ac))) (Ae (Aj (i:=4) AO.nd rfl (Or.inl rfl) (AA AV (pv 6) Af))))))) (Ae (An (pv 3))))))),?_⟩
  try dsimp only[cxK]
  refine⟨(by show 0<=sizeLine;decide),λR nR=>?_⟩;generalize e1:upd H R _=H1;have ra1:RA H H1 R [] []:=e1▸⟨Ak nR,Ag,.nil⟩;refine xw3 rfl rfl rfl ⟨L,rfl,⟨_,SqL.of (ra1.sm _ _ hL)⟩,?_⟩;refine FX (xs:=ts.map V.ref) (λj σ H2=>∃(us:List Addr)(u6 u7 u8:Option V),σ=[some (.ref L),some (.int left),some (.int top),some (.ref R),some (.int (rcs left top (cs.take j)).r),some (.int (rcs left top (cs.take j)).d),u6,u7,u8]/\RA H H2 R us (rcs left top (cs.take j)).rs) ⟨[],none,none,none,rfl,ra1⟩ (λj σ H2 _ z=>SqL.of (by obtain⟨_,_,_,_,_,ra⟩:=z;exact ra.sm _ _ hL)) ?_ ?_
  ·rintro j v σ H2 ev ⟨us,u6,u7,u8,rfl,ra⟩;rw[B7]at ev;obtain⟨t,et,rfl⟩:=F0.mp ev;obtain⟨c,ec,ht⟩:=PairedM.getL pr et;have hj:j<cs.length:=(B3.mp ec).1;have ht2:H2 t=some (.tup [.int c.x,.int c.y,.int (c.s:Int)]):=ra.sm _ _ ht;have c8:=s8 c (D9 ec);have ln:=Ps left top cs j;rw[QN left top ec];unfold Ek;generalize rcs left top (cs.take j)=S at ra ln⊢;refine⟨t,(xq1 rfl ⟨SqT.of ht2,rfl,_,_,rfl,_,_,rfl,(xq2 rfl rfl ?_)⟩)⟩;refine Bw ?_;intro r1 s1 k1 hk1 E1;have l1:=Os left S c;have l2:=Ot (CI left S c) c;apply meetR (T:=k1) (fun σ H'=>∃us,σ=[some (.ref L),some (.int left),some (.int top),some (.ref R),some (.int (CI left S c).r),some (.int (CI left S c).d),some (.int c.x),some (.int c.y),some (.int (c.s:Int))]/\RA H H' R us (CI left S c).rs)
   ·intro rest;refine xw2 rfl rfl (xq2 rfl rfl (xq1 rfl ?_));by_cases z:S.d<c.y
    ·have er:CI left S c=⟨left,c.y,S.rs++[⟨(c.y-S.d).toNat,47⟩]⟩:=X9 z;rw[X7 z];refine Bq (xq1 rfl ⟨.inl ⟨rfl,_,SqL.of ra.hR⟩,(xw2 rfl rfl (xq2 rfl rfl ⟨(by show 2<=sizeLine;decide),λt1 ht1=>?_⟩))⟩);generalize e2:upd H2 t1 _=H3;have e2:upd H2 t1 (.tup [.int (((c.y-S.d).toNat:Nat):Int),.str ⟨#[47]⟩])=H3:=by
      rw[<-e2,c47,N2 A0]
     obtain⟨ra3,h3⟩:=ra.add (r:=⟨(c.y-S.d).toNat,47⟩) nR ht1 e2;refine⟨R,(xq2 rfl rfl ⟨h3,Bu (by rw[A9,A0b ra.pr];lia),?_⟩)⟩;refine xw2 rfl rfl (rest _ _ ⟨us++[t1],?_,?_⟩)
     ·rw[er];rfl
     ·rw[er];exact ra3
    ·have er:CI left S c=S:=X8 z;rw[X6 z];refine AS (rest _ _ ⟨us,?_,?_⟩)
     ·rw[er];rfl
     ·rw[er];exact ra
   clear ra;generalize h1S:CI left S c=S1 at l1 l2⊢;rintro σ H3 ⟨us1,rfl,ra⟩;refine hk1 ?_;refine Bw ?_;intro r2 s2 k2 hk2 E2;apply meetR (T:=k2) (fun σ H'=>∃us,σ=[some (.ref L),some (.int left),some (.int top),some (.ref R),some (.int (Ds S1 c).r),some (.int (Ds S1 c).d),some (.int c.x),some (.int c.y),some (.int (c.s:Int))]/\RA H H' R us (Ds S1 c).rs)
   ·intro rest;refine xw2 rfl rfl (xq2 rfl rfl (xq1 rfl ?_));by_cases z:S1.r<c.x
    ·have er:Ds S1 c=⟨S1.r,S1.d,S1.rs++[⟨(c.x-S1.r).toNat,46⟩]⟩:=X9 z;rw[X7 z];refine Bq (xq1 rfl ⟨.inl ⟨rfl,_,SqL.of ra.hR⟩,(xw2 rfl rfl (xq2 rfl rfl ⟨(by show 2<=sizeLine;decide),λt1 ht1=>?_⟩))⟩);generalize e2:upd H3 t1 _=H4;have e2:upd H3 t1 (.tup [.int (((c.x-S1.r).toNat:Nat):Int),.str ⟨#[46]⟩])=H4:=by
      rw[<-e2,c46,N2 A0]
     obtain⟨ra3,h3⟩:=ra.add (r:=⟨(c.x-S1.r).toNat,46⟩) nR ht1 e2;refine⟨R,(xq2 rfl rfl ⟨h3,Bu (by rw[A9,A0b ra.pr];lia),?_⟩)⟩;refine rest _ _ ⟨us1++[t1],?_,?_⟩
     ·rw[er]
     ·rw[er];exact ra3
    ·have er:Ds S1 c=S1:=X8 z;rw[X6 z];refine AS (rest _ _ ⟨us1,?_,?_⟩)
     ·rw[er]
     ·rw[er];exact ra
   clear ra;rintro σ H4 ⟨us2,rfl,ra⟩;show E2.nx _ _;generalize h2S:Ds S1 c=S2 at l2 ra⊢;refine hk2 ?_;refine Bw ?_;intro r3 s3 k3 hk3 E3;have at2:atI (Str.ofString ".ABCDEFG").cps.toList (c.s:Int)=some (sg.getD c.s 0):=by
    refine Ah ?_;rw[sg_str,List.getElem?_take_of_lt c8,C0,C3 (show c.s<sg.length from S9 c8 A4)];rfl
   refine xq1 rfl ⟨.inl ⟨rfl,_,SqL.of ra.hR⟩,(xq1 rfl ⟨_,_,sg.getD c.s 0,rfl,rfl,by decide +kernel,at2,(by show 2<=sizeLine;decide),λt1 ht1=>?_⟩)⟩;generalize e2:upd H4 t1 _=H5;obtain⟨ra3,h3⟩:=ra.add (r:=⟨1,sg.getD c.s 0⟩) nR ht1 e2;refine⟨R,(xq2 rfl rfl ⟨h3,Bu (by rw[A9,A0b ra.pr];lia),?_⟩)⟩;refine hk3 ?_;refine xwb rfl rfl rfl ?_;refine⟨us2++[t1],some (.int c.x),some (.int c.y),some (.int (c.s:Int)),?_,?_⟩
   ·rw[h1S,h2S];rfl
   ·rw[h1S,h2S];exact ra3
  ·rintro σ H2 ⟨us,u6,u7,u8,rfl,ra⟩;rw[A9,lts,F2]at ra;exact xq1 rfl (k R us H2 nR ra.sm ra.hR ra.pr)
end
def ByC(es:List Cl):Prop:=es.Pairwise λp q=>Ca [q.y,q.x] [p.y,p.x]=false
def frA(g:GA):List Addr:=[g.lv,g.pt,g.nm,g.am,g.bx]
theorem Uj{H:Hp}:∀{out:List It3}{es:List Cl},out.map Wc=es.map rowC->(∀q∈out,H q.a=some (.tup (q.ns.map V.int)))->Paired (ClAt H) (out.map (·.a)) es
 |[],[],_,_=>.nil
 |[],_::_,e,_=>by cases e
 |_::_,[],e,_=>by cases e
 |q::out,c::es,e,h=>by
  rw[C9,C9]at e;injection e with e1 e2
  refine .cons ?_ (Uj e2 λp hp=>h p (B9 _ hp));have hq:=h q (D7 ..);have e1:q.y::q.x::q.r=[c.y,c.x,(c.s:Int)]:=e1;injection e1 with y1 e1
  injection e1 with x1 r1
  have:q.ns=[c.x,c.y,(c.s:Int)]:=by
   show q.x::q.y::q.r=_;rw[y1,x1,r1]
  rw[this]at hq;exact hq
def itC(c:Cl):It3:=⟨0,c.x,c.y,[(c.s:Int)]⟩
theorem by_rows {es:List Cl} (h:ByC es) (nd:(es.map λc=>(c.x,c.y)).Nodup):(es.map rowC).Pairwise (λp q=>Ca q p=false):=by
 have:=Tj (out:=es.map itC) (M7.mpr h) (by rw[O5];exact nd);rw[O5]at this;exact this
theorem frA_all{g:GA}{b:Addr}(hb:b∈frA g):b∈BM g:=by
 simp only[frA,C2,L9,A3d]at hb;simp only[BM,C2,L9,A3d];lia
theorem FrQ.gx{a:Ad}{g:GA}{G:Gv}{H H':Hp}(h:FrQ g H H')(fu:AF a H g G):Fx (frA g) H H':=(h.fx fu).mono λx hx=>by
 simp only[C2,L9,A3d]at hx;rcases hx with rfl|rfl<;>simp[frA]
theorem IM{i:Int}(h:i.natAbs<10^13):i.natAbs.log2<1920:=by
 by_cases z:i.natAbs=0
 ·rw[z];decide
 ·exact S9 ((Nat.log2_lt z).mpr (F4 h (by decide:10^13<=2^44))) A4
theorem Tk:∀{rs:List Rn},(∀r∈rs,r.a<10^30)->(txt rs).length<=31*rs.length
 |[],_=>B1 _
 |r::rs,h=>by
  have h1:=Pa (h r (D7 ..));have h2:=Tk λx hx=>h x (B9 r hx);show(wd r++txt rs).length<=_;rw[B0,D1];lia
section
variable{P:Program}{w:World}{K:PySem.W.Frag}{mg:Str->Option Value}{base:Heap}{a:Ad}
inductive SpCoX(a:Ad)(vs:List V)(H:Hp)(E:XK):Prop
 |mk (g:GA) (G:Gv) (f n:Nat) (_:vs=[.ref g.p,.int f]) (_:AF a H g G) (_:Al G f (n:Int)) (_:G.length<9000000) (_:4096<Bf G n f) (_:∀H',FrQ g H H'->AF a H' g G->E (.ref a.x_TooMany) none H'):SpCoX a vs H E
def spCoX(a:Ad):Sp:=λvs H _ E=>SpCoX a vs H E
theorem ok_cox{f:Addr}{fd:FuncData}(F:Fun K "cells_of" "cells_of" Gi f fd)(T:Top K mg a)(aK:Cw P w K mg base CX0 51 a.c_Grove "living" Dw (Tt a))(a9:Cal P w K mg base CX0 4 "reach_of" CY (Ge a))(aF:Cal P w K mg base CX0 55 "gather_cells" BQ (VU a 50))(bB:Cal P w K mg base CX0 1 "by_rows" IJ LF):AC P w K mg base (CXE P w) 56 f fd GB (spCoX a):=by
 refine F.okE Df (λvs H Q E h=>?_) (λcdv A outer s H vs Q E hr h=>?_)
 ·obtain⟨g,G,f',n,rfl,_⟩:=h;rfl
 ·obtain⟨g,G,f',n,rfl,fu,lf,few,many,ke⟩:=h;refine⟨_,(Ab (AB (Ar Dg (AE (pv 0) aK (rm hr) Ao (Aa (pv 1) Ac)) (BO rfl T.k_MOST_CELLS) (Av _)) (Ae (QR TD rfl rfl T.mx_TooMany T.ec_TooMany (BL Ac))) Au) (Ab (Aj (i:=2) Df.nd rfl (Or.inl rfl) (Aq a9 (rm hr) rfl Ao (Aa (pv 0) (Aa (pv 1) Ac)))) (Ab (Aj (i:=3) Df.nd rfl (Or.inl rfl) (BP Ac)) (Ab (Be (Aq aF (rm hr) rfl Ao (Aa (pv 0) (Aa (pv 1) (Aa (FV DB (pv 2)) (Aa (FV DB (pv 2)) (Aa (pv 3) Ac))))))) (Ae (An (ML bB (rm hr) rfl T.b_sorted rfl (Aa (pv 3) Ac)))))))),?_⟩
  try dsimp only[cxK]
  refine xwn rfl rfl fu.at'.hp (Ox g) rfl ⟨g,G,f',n,rfl,fu,lf,few,λH1 fr1 fu1=>?_⟩;refine xq2 rfl rfl (xq1 rfl ?_);rw[X7 (show(4096:Int)<Bf G n f' from many)];exact Bq ⟨by show 1<=100;decide,ke H1 fr1 fu1⟩
theorem co_at{g:GA}{G:Gv}{H:Hp}{Q:VK}{f:Nat}{es:List Cl}{φ:Int->Int->Nat}(fu:AF a H g G)(v:Vf G f φ)(dk:DsOk es φ)(bc:ByC es)(l84:es.length<=4096)(few:G.length<9000000)(k:∀(L:Addr)(ts:List Addr)(H':Hp),Fx (frA g) H H'->AF a H' g G->H L=none->H' L=some (.lst (ts.map V.ref))->Paired (ClAt H') ts es->Q (.ref L) H'):SpCo a [.ref g.p,.int f] H Q:=by
 obtain⟨n,n40,lf,tr,e⟩:=v.ex;have o:Of G n f es:=⟨dk.nd,λc=>by rw[e];exact dk.mem c⟩
 refine⟨g,G,f,n,rfl,fu,lf,by lia,few,by rw[o.cnt fu.ok lf];lia,λL out H' x fu' nL hL ho pm ru=>?_⟩;have pm2:=pm.trans (o.perm fu.ok lf);have nd:(out.map λq=>(q.x,q.y)).Nodup:=by
  have p3:=pm2.map λr=>(r.getD 1 0,r.getD 0 0)
  rw[O5,O5]at p3;exact p3.nodup_iff.mpr dk.nd
 have eq:=QL (Tj ru nd) (by_rows bc dk.nd) pm2;refine k L (out.map (·.a)) H' (x.mono (by simp[frL,frA])) fu' nL ?_ (Uj eq ho);rw[O5];exact hL
def shT(left top:Int)(es:List Cl):List Nat:=Da left++44::(Da top++58::txt (tog (rcs left top es).rs))
structure ShOk(es:List Cl)(φ:Int->Int->Nat)(left top:Int):Prop where
 dk:DsOk es φ
 bc:ByC es
 ne:es≠[]
 le:es.length<=4096
 s8:∀c∈es,c.s<8
 l1:∃c∈es,c.x=left
 l2:∀c∈es,left<=c.x
 t1:∃c∈es,c.y=top
 t2:∀c∈es,top<=c.y
 few:(tog (rcs left top es).rs).length<=1000
 ok:∀r∈(rcs left top es).rs,Oc r
 lb:left.natAbs<10^13
 tb:top.natAbs<10^13
inductive SpShP(a:Ad)(vs:List V)(H:Hp)(Q:VK)(E:XK):Prop
 |mk (g:GA) (G:Gv) (f n:Nat) (φ:Int->Int->Nat) (_:vs=[.ref g.p,.int f]) (_:AF a H g G) (_:Al G f ((n+1:Nat):Int)) (_:n<=40) (_:LB G n f) (_:∀u v,fieldF G n f u v=φ u v) (_:G.length<8000000) (_:(4096<Bf G (n+1) f/\∀H',FrQ g H H'->AF a H' g G->E (.ref a.x_TooMany) none H')\/(∃(es:List Cl)(left top:Int),ShOk es φ left top/\∀(z:Str)(H':Hp),Fx (frA g) H H'->AF a H' g G->z.cps.toList=shT left top es->Q (.str z) H')):SpShP a vs H Q E
def spShP(a:Ad):Sp:=λvs H Q E=>SpShP a vs H Q E
theorem ok_shp {f:Addr} {fd:FuncData} (F:Fun K "shown_pattern" "shown_pattern" Ef f fd) (T:Top K mg a) (cG:Cal P w K mg base (CXE P w) 56 "cells_of" GB (λvs H Q E=>spCo a vs H Q E\/spCoX a vs H Q E)) (cD:Cal P w K mg base CX0 102 "box_of" MO (Pl a)) (bM:Cal P w K mg base CX0 2 "shown_runs" Gu VO) (b6:Cal P w K mg base CX0 1 "runs_of_cells" Eo spRc):AC P w K mg base (CXE P w) 103 f fd En (spShP a):=by
 refine F.okE Bz (λvs H Q E h=>?_) (λcdv A outer s H vs Q E hr h=>?_)
 ·obtain⟨g,G,f',n,φ,rfl,_⟩:=h;rfl
 ·obtain⟨g,G,f',n,φ,rfl,fu,lf,n40,tr,ef,few,h⟩:=h;refine⟨_,(Ab (Aj (i:=2) Bz.nd rfl (Or.inl rfl) (Aq cG (rm hr) rfl Ww (Aa (pv 0) (Aa (pv 1) Ac)))) (Ab (AB (Ar BS (Aw Dx rfl T.b_len A3b (Aa (pv 2) Ac)) Af (Av _)) (Ae (An Bn)) Au) (Ab (Aj (i:=3) Bz.nd rfl (Or.inl rfl) (Aq cD (rm hr) rfl Ao (Aa (pv 0) (Aa (pv 1) Ac)))) (Ab (Aj (i:=4) Bz.nd rfl (Or.inl rfl) (Am Ax (pv 3) Af (λ_ _=>rfl))) (Ab (Aj (i:=5) Bz.nd rfl (Or.inl rfl) (Am Ax (pv 3) Af (λ_ _=>rfl))) (Ab (Aj (i:=6) Bz.nd rfl (Or.inl rfl) (Aq bM (rm hr) rfl Ao (Aa (Aq b6 (rm hr) rfl Ao (Aa (pv 2) (Aa (pv 4) (Aa (pv 5) Ac)))) Ac))) (Ae (An (Wm (pv 4) Bn (pv 5) Bn (pv 6)))))))))),?_⟩
  try dsimp only[cxK]
  refine Bw ?_;intro r1 s1 k1 hk1 E1;rcases h with ⟨many,ke⟩|⟨es,left,top,sh,k⟩
  ·exact xw2 rfl rfl (.inr ⟨g,G,f',n+1,rfl,fu,lf,by lia,many,ke⟩)
  refine xw2 rfl rfl (.inl (co_at fu ⟨n,n40,lf,tr,ef⟩ sh.dk sh.bc sh.le A0 λL ts H1 x1 fu1 nL hL pr=>?_));refine hk1 ?_;have lts:=A0b pr;refine Bw ?_;intro r2 s2 k2 hk2 E2;refine xq1 rfl ⟨L,(xq1 rfl ⟨.inl (SqL.of hL),rfl,(xq1 rfl ?_)⟩)⟩;rw[X6 (by
   intro z;injection z with z
   rw[A9,lts]at z;exact sh.ne (List.eq_nil_of_length_eq_zero A0))]
  refine AS ?_;refine hk2 ?_;refine Bw ?_;intro r3 s3 k3 hk3 E3;refine xw2 rfl rfl ⟨g,G,f',n,rfl,fu1,lf,by lia,few,λz=>?_,λb eb t H2 fq2 fu2 hb=>?_⟩
  ·obtain⟨c,hc,_⟩:=sh.l1;have:=(sh.dk.mem c).mp hc;rw[<-ef,Sn fu1.ok lf z]at this;lia
  have tg:=QB fu1.ok lf eb;have el:(mvB (2^n) b).l=left:=by
   obtain⟨v,hv⟩:=tg.le;have hv:fieldF G n f' (mvB (2^n) b).l v≠0:=hv;have m:(⟨(mvB (2^n) b).l,v,fieldF G n f' (mvB (2^n) b).l v⟩:Cl)∈es:=(sh.dk.mem _).mpr ⟨Z5 hv,(ef _ _).symm⟩;have h1:=sh.l2 _ m;obtain⟨c,hc,e⟩:=sh.l1;have hc:=(sh.dk.mem c).mp hc;have h2:=(tg.inn c.x c.y (by show fieldF G n f' c.x c.y≠0;rw[ef,hc.2];lia)).1;have h1:left<=(mvB (2^n) b).l:=h1;lia
  have et:(mvB (2^n) b).t=top:=by
   obtain⟨u,hu⟩:=tg.to;have hu:fieldF G n f' u (mvB (2^n) b).t≠0:=hu;have m:(⟨u,(mvB (2^n) b).t,fieldF G n f' u (mvB (2^n) b).t⟩:Cl)∈es:=(sh.dk.mem _).mpr ⟨Z5 hu,(ef _ _).symm⟩;have h1:=sh.t2 _ m;obtain⟨c,hc,e⟩:=sh.t1;have hc:=(sh.dk.mem c).mp hc;have h2:=(tg.inn c.x c.y (by show fieldF G n f' c.x c.y≠0;rw[ef,hc.2];lia)).2.2.1;have h1:top<=(mvB (2^n) b).t:=h1;lia
  have x2:=fq2.gx fu1;have nLg:L∉frA g:=λm=>by
   obtain⟨o,e⟩:=fu.nw.s L (frA_all m);rw[nL]at e;cases e
  have hL2:=x2.get nLg hL;have pr2:=PairedM.imp (λt c z=>(x2.tup z:ClAt H2 t c)) pr;have x02:=x1.trans x2;refine hk3 ?_;have hb:H2 t=some (.tup [.int left,.int top,.int (mvB (2^n) b).w,.int (mvB (2^n) b).h]):=by
   rw[<-el,<-et];exact hb
  clear el et tg eb nL hL pr x1 x2 fq2 fu1;refine Bw ?_;intro r4 s4 k4 hk4 E4;refine xwi rfl rfl rfl (SqT.of hb) (Ah (j:=0) rfl) ?_;refine hk4 ?_;refine Bw ?_;intro r5 s5 k5 hk5 E5;refine xwi rfl rfl rfl (SqT.of hb) (Ah (j:=1) rfl) ?_;refine hk5 ?_;refine Bw ?_;intro r6 s6 k6 hk6 E6;have rl:=Ps left top es es.length;rw[F2]at rl;have le:=sh.le;refine xw3 rfl rfl rfl ⟨L,ts,es,left,top,rfl,hL2,pr2,sh.s8,sh.le,λR us H3 nR s3' hR pr3=>⟨R,us,_,rfl,hR,pr3,sh.ok,?_,sh.few,λz H4 s4' hz=>?_⟩⟩
  ·lia
  have s24:=s3'.trans s4';refine hk6 ?_;have zl:z.length<=100000:=by
   rw[Nu.len,hz];have h1:=Tk (Ol sh.ok A0);have h2:=sh.few;lia
  refine⟨_,rfl,left,rfl,IM sh.lb,Str.ofString ",",rfl,by decide +kernel,_,rfl,top,rfl,IM sh.tb,Str.ofString ":",rfl,by decide +kernel,_,rfl,z,rfl,zl,k _ H4 (x02.trans (Az.fx s24)) (fu2.same s24) ?_⟩;rw[Tx.AJ,Tx.AJ,Tx.AJ,Tx.AJ,DW,DW,hz];have c1:(Str.ofString ",").cps.toList=[44]:=by decide +kernel
  have c2:(Str.ofString ":").cps.toList=[58]:=by decide +kernel
  rw[c1,c2];unfold shT;simp
end
section
variable{P:Program}{w:World}{K:PySem.W.Frag}{mg:Str->Option Value}{base:Heap}{a:Ad}
inductive YR(K:PySem.W.Frag)(a:Ad)(vs:List V)(H:Hp)(E:XK):Prop
 |mk (g:GA) (f:Int) (t:Addr) (x y wd ht:Int) (v:V) (_:vs=[.ref g.p,.int f,.ref t,v]) (_:H t=some (.tup [.int x,.int y,.int wd,.int ht])) (_:0<wd) (_:0<ht) (_:¬CO x y wd ht (2^40)) (_:∀c,KiW K a c 7->E (.ref c) none H):YR K a vs H E
def VV(K:PySem.W.Frag)(a:Ad):Sp:=λvs H _ E=>YR K a vs H E
theorem ok_filF{f:Addr}{fd:FuncData}(F:Fun K "filled" "filled" Jz f fd)(T:Top K mg a)(aO:Cal P w K mg base CX0 1 "check_box" Ft Tw)(aC:Cal P w K mg base CX0 1 "lies_within" CM QC)(aJ:Cal P w K mg base CX0 2 "is_state" Fb VT)(aH:Cal P w K mg base CX0 5 "widened_over" Du (spWO a))(aB:Cw P w K mg base CX0 4 a.c_Grove "solid" CN (Jt a))(a6:Cw P w K mg base CX0 3 a.c_Grove "level_of" AR (IT a))(aW:Cal P w K mg base CX0 5 "part_in" II (spPI a))(b9:Cal P w K mg base CX0 102 "mixed" Gz (Op a P w 50))(aV:Cal P w K mg base CX0 4 "trimmed" IH (Pi a)):AC P w K mg base (CXE P w) 103 f fd Ik (VV K a):=by
 refine F.okE De (λvs H Q E h=>?_) (λcdv A outer s H vs Q E hr h=>?_)
 ·obtain⟨g,f',t,x,y,wd,ht,v,rfl,_⟩:=h;rfl
 ·obtain⟨g,f',t,x,y,wd,ht,v,rfl,hb,w0,h0,li,k⟩:=h;refine⟨_,(Ab (Be (Aq aO (rm hr) rfl Ao (Aa (pv 2) Ac))) (Ab (Aj (i:=4) De.nd rfl (Or.inl rfl) (FF (BY Dg (Am Ax (pv 2) Af (λ_ _=>rfl)) Af (Av _)) (Jn (BY Dg (Am Ax (pv 2) Af (λ_ _=>rfl)) Af (Av _))))) (Ab (AB (PW.pt (MG (BK (pv 4)) (JB (Cj (BK (Aq aC (rm hr) rfl Ao (Aa (pv 2) (Aa (BO rfl T.k_LIMIT) Ac)))))))) (Ae (QR TD rfl rfl T.mx_TooFar T.ec_TooFar (BL Ac))) Au) (Ab (AB (Cj (BK (Aq aJ (rm hr) rfl Ao (Aa (pv 3) Ac)))) (Ae AZ) Au) (Ab (AB (Cj (BK (pv 4))) (Ae (An (pv 1))) Au) (Ab (Aj (i:=5) De.nd rfl (Or.inl rfl) (Aq aH (rm hr) rfl Ao (Aa (pv 0) (Aa (pv 1) (Aa (pv 2) Ac))))) (Ab (Aj (i:=6) De.nd rfl (Or.inl rfl) (AE (pv 0) aB (rm hr) Ao (Aa (AE (pv 0) a6 (rm hr) Ao (Aa (pv 5) Ac)) (Aa (pv 3) Ac)))) (Ae (An (Aq aV (rm hr) rfl Ao (Aa (pv 0) (Aa (Aq b9 (rm hr) rfl Ao (Aa (pv 0) (Aa (pv 6) (Aa (pv 5) (Aa (Aq aW (rm hr) rfl Ao (Aa (pv 0) (Aa (pv 5) (Aa (pv 2) Ac)))) (Aa (QT (sh:=[false,false,true])) Ac)))))) Ac)))))))))))),?_⟩
  try dsimp only[cxK]
  refine xq1 rfl ⟨t,x,y,wd,ht,rfl,hb,by lia,by lia,?_⟩;refine xwi rfl rfl rfl (SqT.of hb) (Ah (j:=2) rfl) (xq2 rfl rfl (xq1 rfl ?_));rw[X7 w0];refine Bq (xwi rfl rfl rfl (SqT.of hb) (Ah (j:=3) rfl) (xq2 rfl rfl ?_));rw[show((λ(i j:Int)=>V.bl (decide (j<i))) ht 0)=V.bl true from A0e V.bl (X7 h0)];refine xq1 rfl ⟨true,rfl,Bq (xq1 rfl ⟨t,x,y,wd,ht,2^40,rfl,hb,(xq1 rfl ?_)⟩)⟩;rw[X6 li];exact Bq ⟨by show 1<=100;decide,k _ (kiw_far T)⟩
theorem Th{G r:Gv}(e0:G=G0++r)(ok:GOk G):Vl G (bareN 1) (λ_ _=>0) 49:=by
 refine⟨⟨0,⟨Dy e0 (n:=1) A4,.inl rfl,by decide⟩,λu v=>?_⟩,Ql e0 ok A4⟩;unfold fieldF;split
 ·rename_i z;exact DO e0 ok A4 (DA z.1 z.2.1) (DA z.2.2.1 z.2.2.2)
 ·rfl
structure QOw(q:Nat×Nat):Prop where
 a1:1<=q.1
 a2:q.1<10^13
 s8:q.2<=8
def isL(q:Nat×Nat):Bool:=decide (q.2≠0/\q.2≠8)
def GU(l:List (Nat×Nat)):Nat:=l.countP isL
theorem UZ{l:List (Nat×Nat)}{j:Nat}{q:Nat×Nat}(h:l[j]?=some q):GU (l.take (j+1))=GU (l.take j)+if isL q=true then 1 else 0:=by
 unfold GU;rw[D3,h,V5,Z3,Q9]
theorem TU(l:List (Nat×Nat))(j:Nat):GU (l.take j)<=GU l:=List.Sublist.countP_le (List.take_sublist j l)
def bb:Nat->Nat
 |0=>49
 |1=>4833
 |2=>86161
 |_=>1468737
def gb:Nat->Nat
 |0=>0
 |1=>4784
 |2=>86112
 |_=>1468688
theorem bg:∀k,k<3->17*bb k+4000<=bb (k+1)/\gb k+(16*bb k+4000)<=gb (k+1)/\bb k<=200000/\gb k<=86112:=by decide
theorem gb_le:∀k,k<=3->gb k<=1468688:=by decide
theorem sg_row:∀s,s<=8->(sg.getD s 0=47↔s=8)/\(sg.getD s 0=46↔s=0):=by decide
theorem sg_at:∀s,s<8->(Builtin.Str.occurrences (Str.ofString ".ABCDEFG") ⟨#[sg.getD s 0]⟩ 0 (Str.ofString ".ABCDEFG").length 1).head?=some s:=by decide +kernel
theorem sg_ix{s:Nat}(h:s<8):∃r,Builtin.Str.occurrences (Str.ofString ".ABCDEFG") ⟨#[sg.getD s 0]⟩ 0 (Str.ofString ".ABCDEFG").length 1=s::r:=by
 have e:=sg_at s h;generalize Builtin.Str.occurrences (Str.ofString ".ABCDEFG") ⟨#[sg.getD s 0]⟩ 0 (Str.ofString ".ABCDEFG").length 1=o at e;cases o with
 |nil=>cases e
 |cons a r=>cases e;exact⟨r,rfl⟩
theorem Tz{c d:Nat}{z:Str}(hz:z.cps.toList=[d]):decide (V.str ⟨#[c]⟩=V.str z)=decide (c=d):=by
 by_cases e:c=d
 ·rw[X7 e];exact X7 (A0e V.str (Nu.ext (by rw[hz,e])))
 ·rw[X6 e];refine X6 λq=>e ?_;injection q with q
  have:=A0e (λs:Str=>s.cps.toList) q;rw[hz]at this;injection this
theorem stp_far{x0:Int}{s:WS}{q:Nat×Nat}(h:s.far):(stp x0 s q).far:=by
 unfold stp;split
 ·exact h
 ·split
  ·exact h
  ·exact .inl h
theorem Rt{x0:Int}:∀{l:List (Nat×Nat)}{s:WS},s.far->(l.foldl (stp x0) s).far
 |[],_,h=>h
 |q::l,_,h=>Rt (l:=l) (stp_far h)
theorem far_on(x y:Int){l:List (Nat×Nat)}{j:Nat}(h:(wk x y (l.take j)).far):(wk x y l).far:=by
 have:wk x y l=(l.drop j).foldl (stp x) (wk x y (l.take j)):=by
  unfold wk;rw[<-L7,P0]
 rw[this];exact Rt h
def rnQ(q:Nat×Nat):Rn:=⟨q.1,sg.getD q.2 0⟩
inductive SpFR(K:PySem.W.Frag)(a:Ad)(vs:List V)(H:Hp)(Q:VK)(E:XK):Prop
 |mk (g:GA) (G:Gv) (x y:Int) (R:Addr) (ts:List Addr) (l:List (Nat×Nat)) (_:vs=[.ref g.p,.int x,.int y,.ref R]) (_:AF a H g G) (_:H R=some (.lst (ts.map V.ref))) (_:R∉BM g) (_:Paired (Dl H) ts (l.map rnQ)) (_:∀q∈l,QOw q) (_:GU l<=3) (_:G.length<3900000) (_:¬(wk x y l).far->∀(r:Nat)(G':Gv)(H':Hp)(B:Nat),Fr g H H'->AF a H' g G'->AU G G' 1468688->Vl G' r (wk x y l).φ B->Q (.int r) H') (_:(wk x y l).far->∀(c:Addr)(G':Gv)(H':Hp),KiW K a c 7->Fr g H H'->AF a H' g G'->AU G G' 1468688->E (.ref c) none H'):SpFR K a vs H Q E
def spFR(K:PySem.W.Frag)(a:Ad):Sp:=λvs H Q E=>SpFR K a vs H Q E
theorem ok_fr {f:Addr} {fd:FuncData} (F:Fun K "field_of_runs" "field_of_runs" Eh f fd) (T:Top K mg a) (bO:Cal P w K mg base CX0 1 "bare_field" GC (Pm a)) (bT:Cal P w K mg base (CXE P w) 103 "filled" Ik (λvs H Q E=>Mz a vs H Q E\/VV K a vs H Q E)):AC P w K mg base (CXE P w) 104 f fd Ep (spFR K a):=by
 refine F.okE AQ (λvs H Q E h=>?_) (λcdv A outer s H vs Q E hr h=>?_)
 ·obtain⟨g,G,x,y,R,ts,l,rfl,_⟩:=h;rfl
 ·obtain⟨g,G,x,y,R,ts,l,rfl,fu,hR,nR,pr,ok,l23,few,k1,k2⟩:=h;have lts:=A0b pr;rw[A9]at lts;refine⟨_,(Ab (Aj (i:=4) AQ.nd rfl (Or.inl rfl) (Aq bO (rm hr) rfl Ao (Aa (pv 0) Ac))) (Ab (Aj (i:=5) AQ.nd rfl (Or.inl rfl) (pv 1)) (Ab (Aj (i:=6) AQ.nd rfl (Or.inl rfl) (pv 2)) (Ab (Cv PassesOwn.leaving rfl (Cm (pv 3)) (El rfl (AH (AD (i:=7) AQ.nd rfl (Or.inl rfl)) (AH (AD (i:=8) AQ.nd rfl (Or.inl rfl)) CT))) (Ae (AB (Ar BS (pv 8) (EA rfl T.k_ROW_SIGN) (Av _)) (Ab (Aj (i:=5) AQ.nd rfl (Or.inl rfl) (pv 1)) (Ae (Aj (i:=6) AQ.nd rfl (Or.inl rfl) (AA AV (pv 6) (pv 7))))) (Ab (AB (Ar JD (pv 8) (EA rfl T.k_BLANK_SIGN) (Av _)) (Ae (Aj (i:=4) AQ.nd rfl (Or.inl rfl) (Aq bT (rm hr) rfl Ww (Aa (pv 0) (Aa (pv 4) (BE (Aa (pv 5) (Aa (pv 6) (Aa (pv 7) (AX Ac)))) (Aa (BV A1d PySem.F.slot_str_index PySem.F.type_str_index WQ (EA rfl T.k_STATE_SIGNS) (Aa (pv 8) Ac)) Ac))))))) Au) (Ae (Aj (i:=5) AQ.nd rfl (Or.inl rfl) (AA AV (pv 5) (pv 7)))))))) (Ae (An (pv 4))))))),?_⟩
  try dsimp only[cxK]
  obtain⟨r0,e0⟩:=fu.g0;have vl0:Vl G (bareN 1) (λ_ _=>0) 49:=Th e0 fu.ok;refine xq1 rfl ⟨g,G,rfl,fu,(xw3 rfl rfl rfl ⟨R,rfl,⟨_,SqL.of hR⟩,?_⟩)⟩;have hRx:∀{H2:Hp},Fr g H H2->H2 R=some (.lst (ts.map V.ref)):=λ{H2} fr=>fr _ _ hR (λz=>nR (by simp[BM,z])) (λz=>nR (by simp[BM,z])) (λz=>nR (by simp[BM,z]));refine FX (xs:=ts.map V.ref) (λj σ H2=>∃(G2:Gv)(f2:Nat)(u7 u8:Option V),σ=[some (.ref g.p),some (.int x),some (.int y),some (.ref R),some (.int f2),some (.int (wk x y (l.take j)).r),some (.int (wk x y (l.take j)).d),u7,u8]/\Fr g H H2/\AF a H2 g G2/\AU G G2 (gb (GU (l.take j)))/\Vl G2 f2 (wk x y (l.take j)).φ (bb (GU (l.take j)))/\¬(wk x y (l.take j)).far) ⟨G,bareN 1,none,none,rfl,Fr.refl g H,fu,AU.refl fu.ok,vl0,λz=>z⟩ (λj σ H2 _ z=>SqL.of (by obtain⟨_,_,_,_,_,fr,_⟩:=z;exact hRx fr)) ?_ ?_
  ·rintro j v σ H2 ev ⟨G2,f2,u7,u8,rfl,fr,fu2,go,vl,nf⟩;rw[B7]at ev;obtain⟨t,et,rfl⟩:=F0.mp ev;obtain⟨r,er,ht⟩:=PairedM.getL pr et;rw[B7]at er;obtain⟨q,eq,rfl⟩:=F0.mp er;have qk:=ok q (D9 eq);have hj:j<l.length:=(B3.mp eq).1;have ht2:Dl H2 t (rnQ q):=fr.tup fu.at' ht;obtain⟨row8,row0⟩:=sg_row q.2 qk.s8;have en:=Tf x y eq;have ln:=UZ eq;have lj:=C6 (TU l j) l23;have lj1:=C6 (TU l (j+1)) l23;have rc:(rnQ q).c=sg.getD q.2 0:=rfl;generalize hlt:GU (l.take j)=c at ln lj go vl;refine Iv ht2 ?_;generalize wk x y (l.take j)=S at *
   refine xq1 rfl ⟨rfl,(xq1 rfl ?_)⟩;rw[Tz (d:=47) A1,rc];by_cases z8:q.2=8
   ·have e8:stp x S q=⟨x,S.d+q.1,S.φ,S.cs,S.far⟩:=X9 z8;rw[e8]at en;rw[X7 (row8.mpr z8)];refine Bq (xw3 rfl rfl rfl (xq2 rfl rfl ?_));rw[en];rw[ln,show isL q=false from X6 (λz=>by lia)];exact⟨G2,f2,_,_,rfl,fr,fu2,go,vl,nf⟩
   rw[X6 (λz=>z8 (row8.mp z))];refine AS ?_;refine xq1 rfl ⟨rfl,(xq1 rfl ?_)⟩;rw[Tz (d:=46) A1];by_cases z0:q.2=0
   ·have e8:stp x S q=⟨S.r+q.1,S.d,S.φ,S.cs,S.far⟩:=by unfold stp;rw[X8 z8,X9 z0]
    rw[e8]at en;rw[X7 (row0.mpr z0)];refine AS (xw2 rfl rfl (xq2 rfl rfl ?_));rw[en];rw[ln,show isL q=false from X6 (λz=>by lia)];exact⟨G2,f2,_,_,rfl,fr,fu2,go,vl,nf⟩
   rw[X6 (λz=>z0 (row0.mp z))];obtain⟨rr,ho⟩:=sg_ix (s:=q.2) (by have:=qk.s8;lia);refine Bq (xw3 rfl rfl rfl (xw2 rfl rfl ⟨(by show 4<=sizeLine;decide),λt4 nt4=>⟨rfl,(xq1 rfl ⟨_,_,q.2,rr,rfl,rfl,ho,?_⟩)⟩⟩));have s4:=Ak (o:=.tup [.int S.r,.int S.d,.int ((rnQ q).a:Int),.int 1]) nt4;have h4:upd H2 t4 (.tup [.int S.r,.int S.d,.int ((rnQ q).a:Int),.int 1]) t4=some (.tup [.int S.r,.int S.d,.int (q.1:Int),.int 1]):=Ag;have fu4:=fu2.same s4;show(_:Prop)\/_;generalize upd H2 t4 (.tup [.int S.r,.int S.d,.int ((rnQ q).a:Int),.int 1])=H4 at s4 h4 fu4⊢;have a1:=qk.a1;have c3:c<3:=by
    rw[ln,show isL q=true from X7 ⟨z0,z8⟩,X9 rfl]at lj1;lia
   obtain⟨b1,b2,b3,b4⟩:=bg c c3;have gf:=go.few;have frn:Fr g H H4:=λb o e n1 n2 n3=>s4 _ _ (fr b o e n1 n2 n3);by_cases li:CO S.r S.d q.1 1 (2^40)
   ·have e8:stp x S q=⟨S.r+q.1,S.d,NZ ⟨S.r,S.d,q.1,1⟩ q.2 S.φ,S.cs++rowR S.r S.d q,S.far\/¬CO S.r S.d q.1 1 (2^40)⟩:=by unfold stp;rw[X8 z8,X8 z0]
    rw[e8]at en;refine .inl (Yr (q:=⟨S.r,S.d,q.1,1⟩) (C:=bb (c+1)) fu4 vl h4 (by show(0:Int)<=(q.1:Int);lia) (by show(0:Int)<=1;decide) (λ_ _=>li) (by have:=qk.s8;lia) (λ_ _=>.inr b1) b3 A0 λr G5 H5 fr5 fu5 go5 vl5=>?_)
    ·refine xw2 rfl rfl (xq2 rfl rfl ?_);rw[en,ln,show isL q=true from X7 ⟨z0,z8⟩,X9 rfl];exact⟨G5,r,_,_,rfl,frn.trans fr5,fu5,(go.trans go5).mono A0,vl5,λz=>z.elim nf λz=>z li⟩
   ·refine .inr ⟨g,f2,t4,S.r,S.d,q.1,1,.int q.2,rfl,h4,by lia,by decide,li,λc ki=>?_⟩;refine k2 ?_ c G2 H4 ki frn fu4 (go.mono A0);have e8:(stp x S q).far:=by unfold stp;rw[X8 z8,X8 z0];exact .inr li
    rw[<-en]at e8;exact far_on x y e8
  ·rintro σ H2 ⟨G2,f2,u7,u8,rfl,fr,fu2,go,vl,nf⟩;rw[A9,lts,F2]at *
   exact xq1 rfl (k1 nf f2 G2 H2 _ fr fu2 (go.mono (gb_le _ l23)) vl)
end
section
variable{P:Program}{w:World}{K:PySem.W.Frag}{mg:Str->Option Value}{base:Heap}{a:Ad}
def Wv(x y:Int)(l:List (Nat×Nat)):List Nat:=Da x++44::(Da y++58::txt (l.map rnQ))
theorem UK{z:Str}{x y:Int}{l:List (Nat×Nat)}(h:z.cps.toList=Wv x y l):∃X Y B:Str,X.cps.toList=Da x/\Y.cps.toList=Da y/\B.cps.toList=txt (l.map rnQ)/\Txt.partition z ⟨#[58]⟩=(X++⟨#[44]⟩++Y,⟨#[58]⟩,B)/\Txt.partition (X++⟨#[44]⟩++Y) ⟨#[44]⟩=(X,⟨#[44]⟩,Y):=by
 have free:∀{n:Int}{c:Nat},c≠45->Nu.dig c=false->c∉Da n:=λh1 h2 m=>by
  rcases WJ m with q|q
  ·exact h1 q
  ·rw[h2]at q;cases q
 refine⟨⟨(Da x).toArray⟩,⟨(Da y).toArray⟩,⟨(txt (l.map rnQ)).toArray⟩,rfl,rfl,rfl,?_,Tx.Fq 44 _ _ (free A4 A4)⟩;have e:z=(⟨(Da x).toArray⟩++⟨#[44]⟩++⟨(Da y).toArray⟩)++⟨#[58]⟩++⟨(txt (l.map rnQ)).toArray⟩:=Nu.ext (by
  rw[h,Tx.AJ,Tx.AJ,Tx.AJ,Tx.AJ];unfold Wv;simp)
 rw[e];refine Tx.Fq 58 _ _ ?_;rw[Tx.AJ,Tx.AJ];intro m;rcases C7.mp m with m|m
 ·rcases C7.mp m with m|m
  ·exact free A4 A4 m
  ·simp at m
 ·exact free A4 A4 m
inductive SpPat(K:PySem.W.Frag)(a:Ad)(vs:List V)(H:Hp)(Q:VK)(E:XK):Prop
 |mk (g:GA) (G:Gv) (x y:Int) (z:Str) (l:List (Nat×Nat)) (_:vs=[.ref g.p,.str z]) (_:AF a H g G) (_:z.cps.toList=Wv x y l) (_:z.length<=1000) (_:x.natAbs<9999999999999) (_:y.natAbs<9999999999999) (_:∀q∈l,QOw q) (_:l.length<=23) (_:GU l<=3) (_:G.length<3900000) (_:¬(wk x y l).far->∀(r:Nat)(G':Gv)(H':Hp)(B:Nat),Fr g H H'->AF a H' g G'->AU G G' 1468688->Vl G' r (wk x y l).φ B->Q (.int r) H') (_:(wk x y l).far->∀(c:Addr)(G':Gv)(H':Hp),KiW K a c 7->Fr g H H'->AF a H' g G'->AU G G' 1468688->E (.ref c) none H'):SpPat K a vs H Q E
def spPat(K:PySem.W.Frag)(a:Ad):Sp:=λvs H Q E=>SpPat K a vs H Q E
theorem ok_pat{f:Addr}{fd:FuncData}(F:Fun K "read_pattern" "read_pattern" EQ f fd)(T:Top K mg a)(b8:Cal P w K mg base CX0 3 "read_place" Gy spRP)(bR:Cal P w K mg base CX0 2 "read_runs" Ii Sc)(cA:Cal P w K mg base (CXE P w) 104 "field_of_runs" Ep (spFR K a)):AC P w K mg base (CXE P w) 105 f fd EY (spPat K a):=by
 refine F.okE Ce (λvs H Q E h=>?_) (λcdv A outer s H vs Q E hr h=>?_)
 ·obtain⟨g,G,x,y,z,l,rfl,_⟩:=h;rfl
 ·obtain⟨g,G,x,y,z,l,rfl,fu,hz,zl,x13,y13,ok,l23,l3,few,k1,k2⟩:=h;obtain⟨X,Y,B,eX,eY,eB,p1,p2⟩:=UK hz;refine⟨_,(Ab (AB (Cj (BK (Aw Ba rfl T.b_isinstance K1 (Aa (pv 1) (Aa (EB (v:=.ty "str") rfl T.b_str A3g rfl) Ac))))) (Ae AZ) Au) (Ab (Aj (i:=2) Ce.nd rfl (Or.inl rfl) (BV A1d PySem.F.slot_str_partition PySem.F.type_str_partition JJ (pv 1) (BL Ac))) (Ab (Aj (i:=3) Ce.nd rfl (Or.inl rfl) (BV A1d PySem.F.slot_str_partition PySem.F.type_str_partition JJ (Am Ax (pv 2) Af (λ_ _=>rfl)) (BL Ac))) (Ab (AB (PW.pt (EX (Ar BS (Am Ax (pv 2) Af (λ_ _=>rfl)) Bn (Av _)) (DH (Ar BS (Am Ax (pv 3) Af (λ_ _=>rfl)) Bn (Av _))))) (Ae AZ) Au) (Ab (Aj (i:=4) Ce.nd rfl (Or.inl rfl) (Aq b8 (rm hr) rfl Ao (Aa (Am Ax (pv 3) Af (λ_ _=>rfl)) Ac))) (Ab (Aj (i:=5) Ce.nd rfl (Or.inl rfl) (Aq b8 (rm hr) rfl Ao (Aa (Am Ax (pv 3) Af (λ_ _=>rfl)) Ac))) (Ae (An (Aq cA (rm hr) rfl Ww (Aa (pv 0) (Aa (pv 4) (Aa (pv 5) (Aa (Aq bR (rm hr) rfl Ao (Aa (Am Ax (pv 2) Af (λ_ _=>rfl)) Ac)) Ac))))))))))))),?_⟩
  try dsimp only[cxK]
  refine xq1 rfl ⟨_,_,_,.type "str",true,rfl,rfl,.of (.str z),SJ K,true,rfl,AS ?_⟩;have c58:Str.ofString ":" = ⟨#[58]⟩:=by decide +kernel
  have c44:Str.ofString "," = ⟨#[44]⟩:=by decide +kernel
  have al:(X++⟨#[44]⟩++Y).length<=100000:=by
   have h1:=GI (n:=x) A0;have h2:=GI (n:=y) A0;rw[<-eX,<-Nu.len]at h1;rw[<-eY,<-Nu.len]at h2;rw[Tx.Qt,Tx.Qt];have:(⟨#[44]⟩:Str).length=1:=rfl;lia
  refine xq1 rfl ⟨rfl,z,(xq1 rfl ⟨rfl,rfl,by lia,λp hp=>?_⟩)⟩;rw[c58,p1];have s1:=Ak (o:=.tup [.str (X++⟨#[44]⟩++Y),.str ⟨#[58]⟩,.str B]) hp;have h1:upd H p (.tup [.str (X++⟨#[44]⟩++Y),.str ⟨#[58]⟩,.str B]) p=some (.tup [.str (X++⟨#[44]⟩++Y),.str ⟨#[58]⟩,.str B]):=Ag;generalize upd H p (.tup [.str (X++⟨#[44]⟩++Y),.str ⟨#[58]⟩,.str B])=H1 at s1 h1⊢;refine xwi rfl rfl rfl (SqT.of h1) (Ah (j:=0) rfl) ⟨rfl,(xq2 rfl rfl ⟨rfl,al,λp' hp'=>?_⟩)⟩;rw[c44,p2];have s2:=Ak (o:=.tup [.str X,.str ⟨#[44]⟩,.str Y]) hp';have h2:upd H1 p' (.tup [.str X,.str ⟨#[44]⟩,.str Y]) p'=some (.tup [.str X,.str ⟨#[44]⟩,.str Y]):=Ag;generalize upd H1 p' (.tup [.str X,.str ⟨#[44]⟩,.str Y])=H2 at s2 h2⊢;have h1':=s2 _ _ h1;refine xwi rfl rfl rfl (SqT.of h1') (Ah (j:=1) rfl) ⟨rfl,(xq1 rfl ?_)⟩;rw[show decide (V.str ⟨#[58]⟩=V.str (Str.ofString ""))=false from X6 (λq=>by injection q with q;exact absurd (A0e (λs:Str=>s.cps.toList) q) A1)];refine AS (xwi rfl rfl rfl (SqT.of h2) (Ah (j:=1) rfl) ⟨rfl,(xq1 rfl ?_)⟩);rw[show decide (V.str ⟨#[44]⟩=V.str (Str.ofString ""))=false from X6 (λq=>by injection q with q;exact absurd (A0e (λs:Str=>s.cps.toList) q) A1)];refine AS (xwi rfl rfl rfl (SqT.of h2) (Ah (j:=0) rfl) ⟨X,x,rfl,eX,by lia,λH3 s3=>?_⟩);refine xwi rfl rfl rfl (SqT.of (s3 _ _ h2)) (Ah (j:=2) rfl) ⟨Y,y,rfl,eY,by lia,λH4 s4=>?_⟩;have s14:Az H H4:=((s1.trans s2).trans s3).trans s4;have fu4:=fu.same s14;refine xw3 rfl rfl rfl (xwi rfl rfl rfl (SqT.of (s4 _ _ (s3 _ _ h1'))) (Ah (j:=2) rfl) ⟨B,l.map rnQ,rfl,eB,λr hr'=>?_,by rw[A9];lia,λL ts H5 nL s5 hL pr=>?_⟩)
  ·obtain⟨q,hq,rfl⟩:=D5.mp hr';have qk:=ok q hq;refine⟨qk.a1,qk.a2,?_⟩;have:∀s,s<=8->sg.getD s 0∈sg:=by decide
   exact this _ qk.s8
  ·have nR:L∉BM g:=λz=>by
    obtain⟨o1,e1⟩:=fu4.nw.s L z;rw[nL]at e1;cases e1
   have s15:=s14.trans s5;have frn:∀{H6:Hp},Fr g H5 H6->Fr g H H6:=λ{H6} fr b o e n1 n2 n3=>fr b o (s15 _ _ e) n1 n2 n3;exact⟨g,G,x,y,L,ts,l,rfl,fu.same s15,hL,nR,pr,ok,l3,few,λnf r G6 H6 B6 fr6 fu6 go6 vl6=>k1 nf r G6 H6 B6 (frn fr6) fu6 go6 vl6,λfar c G6 H6 ki fr6 fu6 go6=>k2 far c G6 H6 ki (frn fr6) fu6 go6⟩
end
def Od(H:Hp)(t:Addr)(q:Nat×Nat):Prop:=H t=some (.tup [.int q.1,.int q.2])
structure Tb(q:Nat×Nat):Prop where
 a1:1<=q.1
 a2:q.1<=2^40
 s1:1<=q.2
 s7:q.2<=7
structure Vv(q:Nat×Nat):Prop where
 a1:1<=q.1
 a2:q.1<=2^40
 s:q.2=0\/q.2=8
theorem Tb.w{q:Nat×Nat}(h:Tb q):QOw q:=⟨h.a1,V3 h.a2 A4,by have:=h.s7;lia⟩
theorem Vv.w{q:Nat×Nat}(h:Vv q):QOw q:=⟨h.a1,V3 h.a2 A4,by have:=h.s;lia⟩
theorem Oz{T:St->Hp->Prop}{C:Prop}(P:St->Hp->Prop)(h:(∀σ H,P σ H->T σ H)->C)(k:∀σ H,P σ H->T σ H):C:=h k
section
variable{P:Program}{w:World}{K:PySem.W.Frag}{mg:Str->Option Value}{base:Heap}{a:Ad}
theorem ix08{i:Int}(h:i=0\/i=1):atI [V.int 0,V.int 8] i=some (.int (if i=0 then 0 else 8)):=by
 rcases h with rfl|rfl<;>rfl
inductive SpGy(vs:List V)(H:Hp)(Q:VK):Prop
 |mk (c k:Int) (_:vs=[.int c,.int k]) (_:0<=k) (_:k<=100) (_:∀(q:Nat×Nat)(t:Addr)(H':Hp),Vv q->Az H H'->Od H' t q->Q (.ref t) H'):SpGy vs H Q
def spGy:Sp:=λvs H Q _=>SpGy vs H Q
theorem ok_gy{f:Addr}{fd:FuncData}(F:Fun K "_law_gap_by" "_law_gap_by" FC f fd)(T:Top K mg a)(aI:Cal P w K mg base CX0 1 "_law_mix" Fe Mx):AC P w K mg base CX0 2 f fd FL spGy:=by
 refine F.ok EN (λvs H Q E h=>?_) (λcdv A outer s H vs Q E hr h=>?_)
 ·obtain⟨c,k,rfl,_⟩:=h;rfl
 ·obtain⟨c,k,rfl,k0,k1,fin⟩:=h;refine⟨_,(Ab (Aj (i:=2) EN.nd rfl (Or.inl rfl) Af) (Ab (AB (Ar BS (AA BR (pv 0) Af) Af (Av _)) (Ae (Aj (i:=2) EN.nd rfl (Or.inl rfl) Af)) Au) (Ae (An (Ck (BH AV Af (AA BR (Aq aI (rm hr) rfl Ao (Aa (pv 0) (Aa (pv 1) Ac))) (AA FM Af (pv 2))) (Aa (Am AI (BP (AX (AX Ac))) (AA BR (AA ED (pv 0) Af) Af) (λ_ _=>rfl)) Ac))))))),?_⟩
  try dsimp only[cxK]
  refine Bw ?_;intro r0 s0 kk0 hk0 E0_;refine hk0 ?_;refine Bw ?_;intro r1 s1 kk1 hk1 E1;apply Oz (T:=kk1) (fun σ H'=>H'=H/\∃b:Nat,b<=40/\σ=[some (.int c),some (.int k),some (.int (b:Int))])
  ·intro rest;refine xwb rfl rfl rfl ⟨(by show(0:Int)<3;decide),rfl,(xq1 rfl (Ls (λ_=>rest _ _ ⟨rfl,40,by decide,rfl⟩) (λ_=>rest _ _ ⟨rfl,20,by decide,rfl⟩)))⟩
  rintro σ H' ⟨rfl,b,hb,rfl⟩;refine hk1 ?_;refine xw2 rfl rfl ⟨c,k,rfl,k0,by lia,λv=>?_⟩;refine xwb rfl rfl rfl ⟨⟨by lia,by lia,by decide⟩,?_⟩;have pb:(1:Int)*2^(b:Int).toNat=((2^b:Nat):Int):=by rw[Int.one_mul,L8];exact(Y7 2 b).symm
  have p0:0<2^b:=Nat.pow_pos A4;have p1:2^b<=2^40:=Y8 A4 hb;refine xq2 rfl rfl ⟨by show(0:Int)<1*2^(b:Int).toNat;rw[pb];lia,(xq2 rfl rfl ⟨(by show 2<=sizeLine;decide),λp hp=>?_⟩)⟩;have v0:0<=v%(1*2^(b:Int).toNat):=by rw[pb];exact U9 _ A0
  have v1:v%(1*2^(b:Int).toNat)<((2^b:Nat):Int):=by rw[pb];exact S6 _ A0
  refine xwb rfl rfl rfl ⟨⟨by decide,by decide⟩,(xq2 rfl rfl ⟨A7,(xq4 rfl rfl (SqL.of Ag) (ix08 A0) ⟨(by show 2<=sizeLine;decide),λt ht=>?_⟩)⟩)⟩;generalize v%(1*2^(b:Int).toNat)=U at v0 v1 ht⊢;refine fin ((1+U).toNat,if c/3%2=0 then 0 else 8) t _ ⟨by show 1<=(1+U).toNat;lia,by show(1+U).toNat<=2^40;lia,by show(if c/3%2=0 then 0 else 8)=0\/(if c/3%2=0 then 0 else 8)=8;split<;>simp⟩ ((Ak hp).trans (Ak ht)) ?_;show upd _ _ _ _=some (.tup [.int (((1+U).toNat:Nat):Int),.int (((if c/3%2=0 then 0 else 8:Nat)):Int)]);rw[Ag,show(((1+U).toNat:Nat):Int)=1+U by lia];rcases(by lia:c/3%2=0\/c/3%2=1)with cc|cc<;>rw[cc]<;>rfl
inductive SpRy(vs:List V)(H:Hp)(Q:VK):Prop
 |mk (c k:Int) (_:vs=[.int c,.int k]) (_:0<=k) (_:k<=100) (_:∀(q:Nat×Nat)(t:Addr)(H':Hp),Tb q->Az H H'->Od H' t q->Q (.ref t) H'):SpRy vs H Q
def spRy:Sp:=λvs H Q _=>SpRy vs H Q
theorem ok_ry{f:Addr}{fd:FuncData}(F:Fun K "_law_run_by" "_law_run_by" FA f fd)(T:Top K mg a)(aI:Cal P w K mg base CX0 1 "_law_mix" Fe Mx):AC P w K mg base CX0 2 f fd FJ spRy:=by
 refine F.ok Do (λvs H Q E h=>?_) (λcdv A outer s H vs Q E hr h=>?_)
 ·obtain⟨c,k,rfl,_⟩:=h;rfl
 ·obtain⟨c,k,rfl,k0,k1,fin⟩:=h;refine⟨_,(Ab (Aj (i:=2) Do.nd rfl (Or.inl rfl) (AA AV Af (AA BR (Aq aI (rm hr) rfl Ao (Aa (pv 0) (Aa (pv 1) Ac))) Af))) (Ab (AB (Ar UM (AA BR (pv 0) Af) (Ck (AX (AX (AX Ac)))) rfl) (Ae (Aj (i:=2) Do.nd rfl (Or.inl rfl) (AA AV Af (AA BR (Aq aI (rm hr) rfl Ao (Aa (pv 0) (Aa (pv 1) Ac))) (AA FM Af Af))))) Au) (Ab (AB (Ar BS (AA BR (pv 0) Af) Af (Av _)) (Ae (Aj (i:=2) Do.nd rfl (Or.inl rfl) (AA AV Af (AA BR (Aq aI (rm hr) rfl Ao (Aa (pv 0) (Aa (pv 1) Ac))) Af)))) Au) (Ae (An (Ck (Aa (pv 2) (BH AV Af (AA BR (AA ED (pv 0) Af) Af) Ac)))))))),?_⟩
  try dsimp only[cxK]
  refine Bw ?_;intro r0 s0 kk0 hk0 E0_;refine xw2 rfl rfl ⟨c,k,rfl,k0,by lia,λv=>?_⟩;refine xq2 rfl rfl ⟨(by show(0:Int)<20;decide),(xq2 rfl rfl ?_)⟩;show kk0 [some (.int c),some (.int k),some (.int (1+v%20))] H;obtain⟨am,ea,am1,am2⟩:∃am:Nat,1+v%20=(am:Int)/\1<=am/\am<=2^40:=⟨(1+v%20).toNat,by lia,by lia,by lia⟩
  rw[ea];refine hk0 ?_;refine Bw ?_;intro r1 s1 kk1 hk1 E1;apply Oz (T:=kk1) (fun σ H'=>Az H H'/\∃am:Nat,1<=am/\am<=2^40/\σ=[some (.int c),some (.int k),some (.int (am:Int))])
  ·intro rest;refine xwb rfl rfl rfl ⟨(by show(0:Int)<8;decide),(by show 3<=sizeLine;decide),λp hp=>?_⟩;refine⟨p,(xq1 rfl ⟨.inr (SqT.of Ag),rfl,rfl,(xq1 rfl (Ls (λ_=>?_) (λ_=>rest _ _ ⟨Ak hp,am,am1,am2,rfl⟩)))⟩)⟩;refine xw2 rfl rfl ⟨c,k,rfl,k0,by lia,λv2=>?_⟩;refine xq2 rfl rfl ⟨⟨by decide,by decide,by decide⟩,(xq2 rfl rfl ⟨(by show(0:Int)<1*2^(40:Int).toNat;decide),(xq2 rfl rfl (rest _ _ ⟨Ak hp,(1+v2%(1*2^(40:Int).toNat)).toNat,?_,?_,?_⟩))⟩)⟩
   ·rw[show(1:Int)*2^(40:Int).toNat=1099511627776 by decide];lia
   ·rw[show(1:Int)*2^(40:Int).toNat=1099511627776 by decide,show 2^40=1099511627776 by decide];lia
   ·show [some (V.int c),some (.int k),some (.int (1+v2%(1*2^(40:Int).toNat)))]=_;rw[show(1:Int)*2^(40:Int).toNat=1099511627776 by decide,show(((1+v2%1099511627776).toNat:Nat):Int)=1+v2%1099511627776 by lia]
  rintro σ H1 ⟨sm1,am,am1,am2,rfl⟩;refine hk1 ?_;refine Bw ?_;intro r2 s2 kk2 hk2 E2;apply Oz (T:=kk2) (fun σ H'=>H'=H1/\∃am:Nat,1<=am/\am<=2^40/\σ=[some (.int c),some (.int k),some (.int (am:Int))])
  ·intro rest;refine xwb rfl rfl rfl ⟨(by show(0:Int)<8;decide),rfl,(xq1 rfl (Ls (λ_=>?_) (λ_=>rest _ _ ⟨rfl,am,am1,am2,rfl⟩)))⟩;refine xw2 rfl rfl ⟨c,k,rfl,k0,by lia,λv2=>?_⟩;refine xq2 rfl rfl ⟨(by show(0:Int)<4;decide),(xq2 rfl rfl (rest _ _ ⟨rfl,(4094+v2%4).toNat,by lia,by lia,?_⟩))⟩;show [some (V.int c),some (.int k),some (.int (4094+v2%4))]=_;rw[show(((4094+v2%4).toNat:Nat):Int)=4094+v2%4 by lia]
  rintro σ H2 ⟨rfl,am,am1,am2,rfl⟩;refine hk2 ?_;refine xw2 rfl rfl (xq2 rfl rfl ⟨⟨by decide,by decide⟩,(xq2 rfl rfl ⟨(by show(0:Int)<7;decide),(xq2 rfl rfl ⟨(by show 2<=sizeLine;decide),λt ht=>?_⟩)⟩)⟩);refine fin (am,(1+c/8%7).toNat) t _ ⟨am1,am2,by show 1<=(1+c/8%7).toNat;lia,by show(1+c/8%7).toNat<=7;lia⟩ (sm1.trans (Ak ht)) ?_;show upd _ _ _ _=some (.tup [.int (am:Int),.int (((1+c/8%7).toNat:Nat):Int)]);rw[Ag,show(((1+c/8%7).toNat:Nat):Int)=1+c/8%7 by lia]
inductive SpRt(vs:List V)(H:Hp)(Q:VK):Prop
 |mk (t:Addr) (q:Nat×Nat) (_:vs=[.ref t]) (_:Od H t q) (_:QOw q) (_:∀z:Str,z.cps.toList=wd (rnQ q)->Q (.str z) H):SpRt vs H Q
def spRt:Sp:=λvs H Q _=>SpRt vs H Q
theorem ok_rt{f:Addr}{fd:FuncData}(F:Fun K "_law_run_text" "_law_run_text" Ej f fd)(T:Top K mg a):AC P w K mg base CX0 1 f fd CV spRt:=by
 refine F.ok JY (λvs H Q E h=>?_) (λcdv A outer s H vs Q E hr h=>?_)
 ·obtain⟨t,q,rfl,_⟩:=h;rfl
 ·obtain⟨t,q,rfl,ht,qk,k⟩:=h;refine⟨_,(Ae (An (AA Jo (AA op_mulS (EG Qq rfl T.b_str A3g (Aa (Am Ax (pv 0) Af (λ_ _=>rfl)) Ac)) (EG OR rfl T.b_int A2f (Aa (BY Dg (Am Ax (pv 0) Af (λ_ _=>rfl)) Af (Av _)) Ac))) (Am Qe Bn (Am Ax (pv 0) Af (λ_ _=>rfl)) (λ_ _=>rfl))))),?_⟩
  try dsimp only[cxK]
  have es:(Str.ofString ".ABCDEFG/").cps.toList=sg:=by decide +kernel
  have at2:atI (Str.ofString ".ABCDEFG/").cps.toList (q.2:Int)=some (sg.getD q.2 0):=by
   refine Ah ?_;rw[es,C0,C3 (show q.2<sg.length from Nat.lt_succ_of_le qk.s8)];rfl
  have a2:=qk.a2;have a1:=qk.a1;have sl:(Str.ofString (toString (q.1:Int))).length<=13:=by rw[Nu.len,Tn.VC];exact Tn.GM 12 q.1 a2
  refine xwi rfl rfl rfl (SqT.of ht) (Ah (j:=0) rfl) ⟨(q.1:Int),rfl,Tn.OA (S9 a2 A4),?_⟩;refine xwi rfl rfl rfl (SqT.of ht) (Ah (j:=0) rfl) (xq2 rfl rfl (.inr (xq1 rfl ?_)));have e0:(Str.empty).cps.toList=[]:=rfl;have fin:∀(y:Str),y.length<=13->y.cps.toList=GV q.1->∀{Hx:Hp},Hx=H->(tOp rIxS (tC (V.str (Str.ofString ".ABCDEFG/"))) (tOp (Pt K) (Pf 0) (tC (V.int 1)))) (L2.Fn GR [V.ref t]) Hx λy' H2=>(λx y H Q=>∃i j,x=V.str i/\y=V.str j/\i.length+j.length<=sizeLine/\Q (V.str (i++j)) H) (.str y) y' H2 Q:=λy yl ey Hx eH=>by
   subst eH;refine xwi rfl rfl rfl (SqT.of ht) (Ah (j:=1) rfl) ⟨_,_,sg.getD q.2 0,rfl,rfl,by decide +kernel,at2,(xq2 rfl rfl ⟨LK (by show y.length+1<=10000000;lia),k _ ?_⟩)⟩;rw[Tx.AJ,ey];rfl
  by_cases e1:q.1=1
  ·refine⟨_,0,rfl,?_,.inl rfl,?_⟩
   ·rw[X6 A0];rfl
   ·rw[X8 A4];exact fin _ A4 (by rw[e0];unfold GV;rw[X9 e1]) rfl
  ·refine⟨_,1,rfl,?_,.inr rfl,?_⟩
   ·rw[X7 A0];rfl
   ·rw[X9 rfl];exact fin _ sl (by rw[Tn.VC];unfold GV;rw[X8 e1]) rfl
end
structure S4 where
 x:Int
 y:Int
 n:Nat
 s:Nat
def RM(H:Hp)(t:Addr)(c:S4):Prop:=H t=some (.tup [.int c.x,.int c.y,.int (c.n:Int),.int (c.s:Int)])
structure SW where
 r:Int
 d:Int
 l:List S4
def Cr(x0:Int)(S:SW)(q:Nat×Nat):SW:=if q.2=8 then⟨x0,S.d+q.1,S.l⟩else if q.2=0 then⟨S.r+q.1,S.d,S.l⟩else⟨S.r+q.1,S.d,S.l++[⟨S.r,S.d,q.1,q.2⟩]⟩
def sw(x0 y0:Int)(l:List (Nat×Nat)):SW:=l.foldl (Cr x0) ⟨x0,y0,[]⟩
theorem Ph(x0 y0:Int){l:List (Nat×Nat)}{j:Nat}{q:Nat×Nat}(h:l[j]?=some q):sw x0 y0 (l.take (j+1))=Cr x0 (sw x0 y0 (l.take j)) q:=by
 unfold sw;rw[D3,h,L7];rfl
theorem VI(x0 y0:Int)(l:List (Nat×Nat)):∀j,(sw x0 y0 (l.take j)).l.length<=j
 |0=>B1 _
 |j+1=>by
  have ih:=VI x0 y0 l j;cases e:l[j]? with
  |none =>
   rw[D3,e,Z4,M2];lia
  |some q =>
   rw[Ph x0 y0 e];unfold Cr;split
   ·exact R1 ih
   ·split
    ·exact R1 ih
    ·rw[B0,D8];lia
section
variable{P:Program}{w:World}{K:PySem.W.Frag}{mg:Str->Option Value}{base:Heap}{a:Ad}
inductive SpSt(vs:List V)(H:Hp)(Q:VK):Prop
 |mk (x y:Int) (R:Addr) (ts:List Addr) (l:List (Nat×Nat)) (_:vs=[.int x,.int y,.ref R]) (_:H R=some (.lst (ts.map V.ref))) (_:Paired (Od H) ts l) (_:l.length<=23) (_:∀(L:Addr)(us:List Addr)(H':Hp),H L=none->Az H H'->H' L=some (.lst (us.map V.ref))->Paired (RM H') us (sw x y l).l->Q (.ref L) H'):SpSt vs H Q
def spSt:Sp:=λvs H Q _=>SpSt vs H Q
theorem ok_st{f:Addr}{fd:FuncData}(F:Fun K "_law_strips" "_law_strips" Fz f fd)(T:Top K mg a):AC P w K mg base CX0 1 f fd FI spSt:=by
 refine F.ok Bj (λvs H Q E h=>?_) (λcdv A outer s H vs Q E hr h=>?_)
 ·obtain⟨x,y,R,ts,l,rfl,_⟩:=h;rfl
 ·obtain⟨x,y,R,ts,l,rfl,hR,pr,l23,k⟩:=h;have lts:=A0b pr;refine⟨_,(Ab (Aj (i:=3) Bj.nd rfl (Or.inl rfl) (BP Ac)) (Ab (Aj (i:=4) Bj.nd rfl (Or.inl rfl) (pv 0)) (Ab (Aj (i:=5) Bj.nd rfl (Or.inl rfl) (pv 1)) (Ab (Cv A0d rfl (Cm (pv 2)) (El rfl (AH (AD (i:=6) Bj.nd rfl (Or.inl rfl)) (AH (AD (i:=7) Bj.nd rfl (Or.inl rfl)) CT))) (Ae (AB (Ar BS (pv 7) Af (Av _)) (Ab (Aj (i:=4) Bj.nd rfl (Or.inl rfl) (pv 0)) (Ae (Aj (i:=5) Bj.nd rfl (Or.inl rfl) (AA AV (pv 5) (pv 6))))) (Ab (AB (Ar Dg (pv 7) Af (Av _)) (Ae (Be (BV K7 K9 A0a Bh (pv 3) (BE (Aa (pv 4) (Aa (pv 5) (Aa (pv 6) (Aa (pv 7) Ac)))) Ac)))) Au) (Ae (Aj (i:=4) Bj.nd rfl (Or.inl rfl) (AA AV (pv 4) (pv 6)))))))) (Ae (An (pv 3))))))),?_⟩
  try dsimp only[cxK]
  refine⟨(by show 0<=sizeLine;decide),λD nD=>?_⟩;generalize e1:upd H D _=H1;have s1:Az H H1:=e1▸Ak nD;have h1:H1 D=some (.lst []):=e1▸Ag;refine xw3 rfl rfl rfl ⟨R,rfl,⟨_,SqL.of (s1 _ _ hR)⟩,?_⟩;refine FX (xs:=ts.map V.ref) (λj σ H2=>∃(us:List Addr)(u6 u7:Option V),σ=[some (.int x),some (.int y),some (.ref R),some (.ref D),some (.int (sw x y (l.take j)).r),some (.int (sw x y (l.take j)).d),u6,u7]/\Az H H2/\H2 D=some (.lst (us.map V.ref))/\Paired (RM H2) us (sw x y (l.take j)).l) ⟨[],none,none,rfl,s1,h1,.nil⟩ (λj σ H2 _ z=>SqL.of (by obtain⟨_,_,_,_,sm,_⟩:=z;exact sm _ _ hR)) ?_ ?_
  ·rintro j v σ H2 ev ⟨us,u6,u7,rfl,sm,hD,pu⟩;rw[B7]at ev;obtain⟨t,et,rfl⟩:=F0.mp ev;obtain⟨q,eq,ht⟩:=PairedM.getL pr et;have hj:j<l.length:=(B3.mp eq).1;have ht2:H2 t=some (.tup [.int q.1,.int q.2]):=sm _ _ ht;have en:=Ph x y eq;have ln:=VI x y l j;refine Iv ht2 ?_;generalize sw x y (l.take j)=S at *
   have lu:=A0b pu;refine xq1 rfl ⟨rfl,(xq1 rfl ?_)⟩;by_cases z8:q.2=8
   ·have e8:Cr x S q=⟨x,S.d+q.1,S.l⟩:=X9 z8;rw[e8]at en;rw[X7 (by rw[z8];rfl)];refine Bq (xw3 rfl rfl rfl (xq2 rfl rfl ?_));rw[en];exact⟨us,_,_,rfl,sm,hD,pu⟩
   rw[X6 (by intro z;injection z with z;lia)];refine AS (xwb rfl rfl rfl (xq1 rfl ?_));by_cases z0:q.2=0
   ·have e8:Cr x S q=⟨S.r+q.1,S.d,S.l⟩:=by unfold Cr;rw[X8 z8,X9 z0]
    rw[e8]at en;rw[X6 (by lia:¬(0:Int)<(q.2:Int))];refine AS (xw2 rfl rfl (xq2 rfl rfl ?_));rw[en];exact⟨us,_,_,rfl,sm,hD,pu⟩
   have e8:Cr x S q=⟨S.r+q.1,S.d,S.l++[⟨S.r,S.d,q.1,q.2⟩]⟩:=by unfold Cr;rw[X8 z8,X8 z0]
   rw[e8]at en;rw[X7 (by lia:(0:Int)<(q.2:Int))];refine Bq (xq1 rfl ⟨.inl ⟨rfl,_,SqL.of hD⟩,(xw3 rfl rfl rfl (xq1 rfl ⟨(by show 4<=sizeLine;decide),λt3 nt3=>?_⟩))⟩);generalize e3:upd H2 t3 _=H3;have s3:Az H2 H3:=e3▸Ak nt3;have h3:RM H3 t3 ⟨S.r,S.d,q.1,q.2⟩:=e3▸Ag;have hD3:=s3 _ _ hD;have tp:∀{b:Addr}{ys:List V}{o:HO},H3 b=some (.tup ys)->upd H3 D o b=some (.tup ys):=λ{b ys o} e=>by rw[At (AM e hD3 A3)];exact e
   refine⟨D,(xq2 rfl rfl ⟨hD3,Bu (by rw[A9,lu];lia),?_⟩)⟩;refine xw2 rfl rfl (xq2 rfl rfl ?_);rw[en];refine⟨us++[t3],_,_,rfl,λb o e=>?_,by rw[Ag,C1];rfl,A2h (PairedM.imp (λb c z=>(tp (s3 _ _ z):RM _ b c)) pu) (tp h3:RM _ t3 _)⟩;rw[At (As e nD)];exact s3 _ _ (sm _ _ e)
  ·rintro σ H2 ⟨us,u6,u7,rfl,sm,hD,pu⟩;rw[A9,lts,F2]at pu;exact xq1 rfl (k D us H2 nD sm hD pu)
inductive SpLe(vs:List V)(H:Hp)(Q:VK):Prop
 |mk (L:Addr) (us:List Addr) (ss:List S4) (_:vs=[.ref L]) (_:H L=some (.lst (us.map V.ref))) (_:Paired (RM H) us ss) (_:∀b:Bool,(b=true ↔ ∃c∈ss,¬CO c.x c.y c.n 1 (2^40))->Q (.bl b) H):SpLe vs H Q
def spLe:Sp:=λvs H Q _=>SpLe vs H Q
theorem ok_le{f:Addr}{fd:FuncData}(F:Fun K "_law_leaves" "_law_leaves" FB f fd)(T:Top K mg a):AC P w K mg base CX0 1 f fd FK spLe:=by
 refine F.ok Cs (λvs H Q E h=>?_) (λcdv A outer s H vs Q E hr h=>?_)
 ·obtain⟨L,us,ss,rfl,_⟩:=h;rfl
 ·obtain⟨L,us,ss,rfl,hL,pu,k⟩:=h;have lu:=A0b pu;refine⟨_,(Ab (Cv A0d rfl (Cm (pv 0)) (El rfl (AH (AD (i:=1) Cs.nd rfl (Or.inl rfl)) (AH (AD (i:=2) Cs.nd rfl (Or.inl rfl)) (AH (AD (i:=3) Cs.nd rfl (Or.inl rfl)) (AH (AD (i:=4) Cs.nd rfl (Or.inl rfl)) CT))))) (Ae (AB (PW.pt (EX (Ar Ja (Aw (Ga rfl) rfl T.b_min A1b (Aa (pv 1) (Aa (pv 2) Ac))) (FV DB (AA FM Af Af)) (Av _)) (DH (Ar Dg (Aw (IP rfl) rfl T.b_max A2g (BH AV (pv 1) (pv 3) (BH AV (pv 2) Af Ac))) (AA FM Af Af) (Av _))))) (Ae (An IZ)) Au))) (Ae (An IZ))),?_⟩
  try dsimp only[cxK]
  refine xq1 rfl ⟨L,rfl,⟨_,SqL.of hL⟩,?_⟩;refine FX (xs:=us.map V.ref) (λj σ H2=>H=H2/\∃(u1 u2 u3 u4:Option V),σ=[some (.ref L),u1,u2,u3,u4]/\∀c∈ss.take j,CO c.x c.y c.n 1 (2^40)) ⟨rfl,none,none,none,none,rfl,λr hr=>(by simp at hr)⟩ (λj σ H2 _ z=>SqL.of (by rw[<-z.1];exact hL)) ?_ ?_
  ·rintro j v σ H2 ev ⟨rfl,u1,u2,u3,u4,rfl,al⟩;rw[B7]at ev;obtain⟨t,et,rfl⟩:=F0.mp ev;obtain⟨c,ec,ht⟩:=PairedM.getL pu et;have ht:H t=some (.tup [.int c.x,.int c.y,.int (c.n:Int),.int (c.s:Int)]):=ht;refine⟨t,(xq1 rfl ⟨SqT.of ht,rfl,_,_,rfl,_,_,rfl,_,_,rfl,(xq2 rfl rfl ?_)⟩)⟩;have pw:(1:Int)*2^(40:Int).toNat=1099511627776:=by decide
   have pw2:(2:Int)^40=1099511627776:=by decide
   have out:¬CO c.x c.y c.n 1 (2^40)->Q (.bl true) H:=λno=>k true ⟨λ_=>⟨c,D9 ec,no⟩,λ_=>rfl⟩;refine xw2 rfl rfl ⟨_,_,rfl,(xq2 rfl rfl ⟨⟨by decide,by decide,by decide⟩,(xwb rfl rfl rfl (xq1 rfl ?_))⟩)⟩;by_cases b1:(if c.y<c.x then c.y else c.x) < -(1*2^(40:Int).toNat)
   ·rw[X7 b1];refine Bq (Bq (out λ⟨h1,h2,_,_⟩=>?_));rw[pw]at b1;rw[pw2]at h1 h2;split at b1<;>lia
   rw[X6 b1];refine AS (xw2 rfl rfl (xq2 rfl rfl (xwb rfl rfl rfl ⟨_,_,rfl,(xq2 rfl rfl ⟨⟨by decide,by decide,by decide⟩,(xq2 rfl rfl (xq1 rfl ?_))⟩)⟩)));by_cases b2:1*2^(40:Int).toNat<(if c.y+1 > c.x+(c.n:Int)then c.y+1 else c.x+(c.n:Int))
   ·rw[X7 b2];refine Bq (out λ⟨_,_,h3,h4⟩=>?_);rw[pw]at b2;rw[pw2]at h3 h4;split at b2<;>lia
   rw[X6 b2];refine AS ⟨rfl,_,_,_,_,rfl,λd hd=>?_⟩;rw[D3,ec]at hd;rcases C7.mp hd with hd|hd
   ·exact al d hd
   ·have hd:d=c:=by simpa using hd
    subst hd;rw[pw]at b1 b2;show -(2^40)<=d.x/\-(2^40)<=d.y/\d.x+(d.n:Int)<=2^40/\d.y+1<=2^40;rw[pw2];split at b1<;>split at b2<;>lia
  ·rintro σ H2 ⟨rfl,u1,u2,u3,u4,rfl,al⟩;rw[A9,lu,F2]at al;exact k false ⟨(λz=>by cases z),λ⟨c,hc,no⟩=>absurd (al c hc) no⟩
end
structure WW where
 y:Int
 x:Int
 rs:List Rn
def BU(left:Int)(W:WW)(c:S4):WW:=if W.y<c.y then⟨c.y,left,W.rs++[⟨(c.y-W.y).toNat,47⟩]⟩else W
def Cp(W:WW)(c:S4):WW:=if W.x<c.x then⟨W.y,W.x,W.rs++[⟨(c.x-W.x).toNat,46⟩]⟩else W
def Vw(W:WW)(c:S4):WW:=⟨W.y,c.x+c.n,W.rs++[⟨c.n,sg.getD c.s 0⟩]⟩
def Je(left:Int)(W:WW)(c:S4):WW:=Vw (Cp (BU left W c) c) c
def ww(left top:Int)(ss:List S4):WW:=ss.foldl (Je left) ⟨top,left,[]⟩
theorem ww_next(left top:Int){ss:List S4}{j:Nat}{c:S4}(h:ss[j]?=some c):ww left top (ss.take (j+1))=Je left (ww left top (ss.take j)) c:=by
 unfold ww;rw[D3,h,L7];rfl
structure Bd(W:WW)(n:Nat):Prop where
 y1:-(2^40)<=W.y
 y2:W.y<=2^40
 x1:-(2^40)<=W.x
 x2:W.x<=2^40
 n:W.rs.length<=n
 a:∀r∈W.rs,r.a<10^30
structure Ta(c:S4):Prop where
 li:CO c.x c.y c.n 1 (2^40)
 n1:1<=c.n
 s1:1<=c.s
 s7:c.s<=7
theorem Ta.n2{c:S4}(h:Ta c):c.n<10^13:=by
 obtain⟨h1,h2,h3,h4⟩:=h.li;have e:(2:Int)^40=1099511627776:=by decide
 rw[e]at h1 h3;have e3:10^13=10000000000000:=by decide
 rw[e3];lia
theorem Sf{rs:List Rn}{r:Rn}(h:∀q∈rs,q.a<10^30)(h2:r.a<10^30):∀q∈rs++[r],q.a<10^30:=λq hq=>by
 rcases C7.mp hq with hq|hq
 ·exact h q hq
 ·rw[C4.mp hq];exact h2
theorem Ty{u v:Int}(h1:-(2^40)<=u)(h2:v<=2^40):(v-u).toNat<10^30:=by
 rw[show(2:Int)^40=1099511627776 by decide]at h1 h2;rw[show 10^30=1000000000000000000000000000000 by decide];lia
theorem Bd.row{left:Int}{W:WW}{n:Nat}(h:Bd W n){c:S4}(k:Ta c)(l1:-(2^40)<=left)(l2:left<=2^40):Bd (BU left W c) (n+1):=by
 obtain⟨_,h2,_,h4⟩:=k.li;unfold BU;split
 ·exact⟨h2,by show c.y<=2^40;lia,l1,l2,by rw[B0,D8];exact P8 h.n,Sf h.a (Ty h.y1 A0)⟩
 ·exact⟨h.y1,h.y2,h.x1,h.x2,R1 h.n,h.a⟩
theorem Bd.gap{W:WW}{n:Nat}(h:Bd W n){c:S4}(k:Ta c):Bd (Cp W c) (n+1):=by
 obtain⟨_,_,h3,_⟩:=k.li;unfold Cp;split
 ·exact⟨h.y1,h.y2,h.x1,h.x2,by rw[B0,D8];exact P8 h.n,Sf h.a (Ty h.x1 A0)⟩
 ·exact⟨h.y1,h.y2,h.x1,h.x2,R1 h.n,h.a⟩
theorem Bd.put{W:WW}{n:Nat}(h:Bd W n){c:S4}(k:Ta c):Bd (Vw W c) (n+1):=by
 obtain⟨h1,_,h3,_⟩:=k.li;exact⟨h.y1,h.y2,by show -(2^40)<=c.x+(c.n:Int);lia,h3,by show(W.rs++[_]).length<=_;rw[B0,D8];exact P8 h.n,Sf h.a (S9 k.n2 (by show 10^13<10^30;decide))⟩
structure WA(H H2:Hp)(D:Addr)(pre:Str)(rs:List Rn):Prop where
 sm:Az H H2
 hD:H2 D=some (.lst ((pre::rs.map wS).map V.str))
theorem WA.add{H H2 H3:Hp}{D:Addr}{pre z:Str}{rs:List Rn}{r:Rn}(h:WA H H2 D pre rs)(nD:H D=none)(s3:Az H2 H3)(hz:z.cps.toList=wd r):WA H (upd H3 D (.lst ((pre::rs.map wS).map V.str++[.str z]))) D pre (rs++[r]):=by
 refine⟨λb o e=>?_,?_⟩
 ·rw[At (As e nD)];exact s3 _ _ (h.sm _ _ e)
 ·rw[Ag,wS_of hz];simp
section
variable{P:Program}{w:World}{K:PySem.W.Frag}{mg:Str->Option Value}{base:Heap}{a:Ad}
inductive SpWr(vs:List V)(H:Hp)(Q:VK):Prop
 |mk (L:Addr) (us:List Addr) (ss:List S4) (left top:Int) (_:vs=[.ref L]) (_:H L=some (.lst (us.map V.ref))) (_:Paired (RM H) us ss) (_:ss.length<=23) (_:∀c∈ss,Ta c) (_:∃c,ss[0]?=some c/\c.x=left/\c.y=top) (_:∀c∈ss,left<=c.x) (_:∀(z:Str)(H':Hp),Az H H'->z.cps.toList=Da left++44::(Da top++58::txt (ww left top ss).rs)->Q (.str z) H'):SpWr vs H Q
def spWr:Sp:=λvs H Q _=>SpWr vs H Q
theorem ok_wr{f:Addr}{fd:FuncData}(F:Fun K "_law_written" "_law_written" Dr f fd)(T:Top K mg a)(aD:Cal P w K mg base CX0 1 "_law_run_text" CV spRt):AC P w K mg base CX0 2 f fd Fc spWr:=by
 refine F.ok Bg (λvs H Q E h=>?_) (λcdv A outer s H vs Q E hr h=>?_)
 ·obtain⟨L,us,ss,left,top,rfl,_⟩:=h;rfl
 ·obtain⟨L,us,ss,left,top,rfl,hL,pu,l23,oks,⟨c0,ec0,ex0,ey0⟩,lmin,k⟩:=h;have lu:=A0b pu;refine⟨_,(Ab (Aj (i:=1) Bg.nd rfl (Or.inl rfl) (Aw (Lz rfl) rfl T.b_min A1b (Aa (Dt rfl (Cd.of (So:=Ai Dr) (No:=Im) (N:=["_law_strip"]) (k:=1) (cs:=[]) rfl rfl A1) (Cm (pv 0)) (λ_ _ _=>(Cf (i:=0) A1 rfl rfl)) (λ_ _ _=>CS) (λ_ _ _=>(Am (DT (K:=K) rfl) (pv 0) Af (λ_ _=>rfl)))) Ac))) (Ab (Aj (i:=2) Bg.nd rfl (Or.inl rfl) (Am Ax (Am AI (pv 0) Af (λ_ _=>rfl)) Af (λ_ _=>rfl))) (Ab (Aj (i:=3) Bg.nd rfl (Or.inl rfl) (pv 1)) (Ab (Aj (i:=4) Bg.nd rfl (Or.inl rfl) (BP (Aa (QS (pv 1) Bn (pv 2) Bn) Ac))) (Ab (Cv A0d rfl (Cm (pv 0)) (AD (i:=5) Bg.nd rfl (Or.inl rfl)) (Ab (AB (Ar Dg (Am Ax (pv 5) Af (λ_ _=>rfl)) (pv 2) (Av _)) (Ab (Be (BV K7 K9 A0a Bh (pv 4) (Aa (Aq aD (rm hr) rfl Ao (BE (BH CZ (Am Ax (pv 5) Af (λ_ _=>rfl)) (pv 2) (AX Ac)) Ac)) Ac))) (Ab (Aj (i:=2) Bg.nd rfl (Or.inl rfl) (Am Ax (pv 5) Af (λ_ _=>rfl))) (Ae (Aj (i:=3) Bg.nd rfl (Or.inl rfl) (pv 1))))) Au) (Ab (AB (Ar Dg (Am Ax (pv 5) Af (λ_ _=>rfl)) (pv 3) (Av _)) (Ae (Be (BV K7 K9 A0a Bh (pv 4) (Aa (Aq aD (rm hr) rfl Ao (BE (BH CZ (Am Ax (pv 5) Af (λ_ _=>rfl)) (pv 3) (AX Ac)) Ac)) Ac)))) Au) (Ab (Be (BV K7 K9 A0a Bh (pv 4) (Aa (Aq aD (rm hr) rfl Ao (BE (Aa (Am Ax (pv 5) Af (λ_ _=>rfl)) (Aa (Am Ax (pv 5) Af (λ_ _=>rfl)) Ac)) Ac)) Ac))) (Ae (Aj (i:=3) Bg.nd rfl (Or.inl rfl) (AA AV (Am Ax (pv 5) Af (λ_ _=>rfl)) (Am Ax (pv 5) Af (λ_ _=>rfl))))))))) (Ae (An (BV A1d A7d A7e PX Bn (Aa (pv 4) Ac))))))))),?_⟩
  try dsimp only[cxK]
  refine Bw ?_;intro r0 s0 k0 hk0 E0_;refine xq1 rfl ⟨L,rfl,⟨_,SqL.of hL⟩,?_⟩;refine IA (xs:=us.map V.ref) (λi acc H5=>H=H5/\acc=((ss.take i).map λc=>c.x).map V.int) ⟨rfl,rfl⟩ (λi acc H5 _ z=>SqL.of (by rw[<-z.1];exact hL)) ?_ ?_
  ·rintro i v acc H5 ev ⟨rfl,rfl⟩;rw[B7]at ev;obtain⟨t,et,rfl⟩:=F0.mp ev;obtain⟨c,ec,hc⟩:=PairedM.getL pu et;have hi:i<ss.length:=(B3.mp ec).1;have hc:H t=some (.tup [.int c.x,.int c.y,.int (c.n:Int),.int (c.s:Int)]):=hc;refine⟨⟨[some (.ref t)],rfl,rfl⟩,Bu (by rw[A9,A9,L5];lia),LQ (xwi rfl rfl rfl (SqT.of hc) (Ah (j:=0) rfl) ⟨rfl,?_⟩)⟩;rw[D3,ec,C1,C1];rfl
  rintro acc H5 ⟨rfl,rfl⟩ M hM;rw[A9,lu,F2];generalize e1:upd H M _=H1;have s1:Az H H1:=e1▸Ak hM;have h1:H1 M=some (.lst ((ss.map λc=>c.x).map V.int)):=e1▸Ag;have m0:c0∈ss:=D9 ec0;refine⟨M,ss.map λc=>c.x,rfl,SqL.of h1,λz=>?_,λm hm mm=>?_⟩
  ·rw[P6.mp z]at m0;cases m0
  have em:m=left:=by
   obtain⟨c,hc,rfl⟩:=D5.mp hm;have h1:=lmin c hc;have h2:=mm c0.x (D5.mpr ⟨c0,m0,rfl⟩);lia
  subst em;obtain⟨t0,et0,ht0⟩:∃t0,us[0]?=some t0/\RM H t0 c0:=by
   obtain⟨t0,et0,ht0⟩:=PairedM.get pu ec0;exact⟨t0,et0,ht0⟩
  have ht0:H1 t0=some (.tup [.int c0.x,.int c0.y,.int (c0.n:Int),.int (c0.s:Int)]):=s1 _ _ ht0;have hL1:=s1 _ _ hL;refine hk0 ?_;refine Bw ?_;intro r1 s1_ k1 hk1 E1;refine xwi rfl rfl rfl (SqL.of hL1) (Ah (j:=0) (by rw[B7,et0];rfl)) (xq4 rfl rfl (SqT.of ht0) (Ah (j:=1) rfl) ?_);show k1 [some (.ref L),some (.int m),some (.int c0.y),none,none,none] H1;rw[ey0];refine hk1 ?_;refine Bw ?_;intro r2 s2_ k2 hk2 E2;refine xq1 rfl ?_;refine hk2 ?_;refine Bw ?_;intro r3 s3_ k3 hk3 E3;obtain⟨g1,g2,g3,g4⟩:=(oks c0 m0).li;have e40:(2:Int)^40=1099511627776:=by decide
  have e13:10^13=10000000000000:=by decide
  have lb:m.natAbs<10^13:=by rw[e40]at g1 g3;rw[e13];lia
  have tb:top.natAbs<10^13:=by rw[e40]at g2 g4;rw[e13];lia
  refine⟨_,rfl,m,rfl,IM lb,Str.ofString ",",rfl,by decide +kernel,_,rfl,top,rfl,IM tb,Str.ofString ":",rfl,by decide +kernel,(by show 1<=sizeLine;decide),λD nD=>?_⟩;generalize hpre:Str.ofString (toString m)++Str.ofString "," ++ Str.ofString (toString top)++Str.ofString ":" = pre;generalize e2:upd H1 D _=H2;have nD0:H D=none:=by
   cases e:H D with
   |none=>rfl
   |some o=>rw[s1 _ _ e]at nD;cases nD
  have wa2:WA H H2 D pre []:=⟨s1.trans (e2▸Ak nD),e2▸Ag⟩
  refine hk3 ?_;refine Bw ?_;intro r4 s4_ k4 hk4 E4;have bd0:Bd ⟨top,m,[]⟩ 0:=⟨by rw[<-ey0];exact g2,by rw[<-ey0];lia,by rw[<-ex0];exact g1,by rw[<-ex0];lia,B1 _,λr hr=>by cases hr⟩
  refine xq1 rfl ⟨L,rfl,⟨_,SqL.of (wa2.sm _ _ hL)⟩,?_⟩;refine FX (xs:=us.map V.ref) (λj σ Hx=>∃(u5:Option V),σ=[some (.ref L),some (.int m),some (.int (ww m top (ss.take j)).y),some (.int (ww m top (ss.take j)).x),some (.ref D),u5]/\WA H Hx D pre (ww m top (ss.take j)).rs/\Bd (ww m top (ss.take j)) (3*j)) (xq1 rfl ⟨wa2,bd0⟩) (λj σ Hx _ z=>SqL.of (by obtain⟨_,_,wa,_⟩:=z;exact wa.sm _ _ hL)) ?_ ?_
  ·rintro j v σ Hx ev ⟨u5,rfl,wa,bd⟩;rw[B7]at ev;obtain⟨t,et,rfl⟩:=F0.mp ev;obtain⟨c,ec,hc⟩:=PairedM.getL pu et;have hj:j<ss.length:=(B3.mp ec).1;have ck:=oks c (D9 ec);have hc:H t=some (.tup [.int c.x,.int c.y,.int (c.n:Int),.int (c.s:Int)]):=hc;have ht:=wa.sm _ _ hc;have n2:=ck.n2;obtain⟨q1,q2,q3,q4⟩:=ck.li;rw[e40]at q1 q2 q3 q4;have en:=ww_next m top ec;unfold Je at en;generalize ww m top (ss.take j)=W at wa bd en⊢;have bd1:=bd.row ck (left:=m) (by rw[<-ex0];exact g1) (by rw[<-ex0];lia);have bd2:=bd1.gap ck;refine Bw ?_;intro ra sa ka hka Ea;apply Oz (T:=ka) (fun σ H'=>σ=[some (.ref L),some (.int m),some (.int (BU m W c).y),some (.int (BU m W c).x),some (.ref D),some (.ref t)]/\WA H H' D pre (BU m W c).rs)
   ·intro rest;refine xwi rfl rfl rfl (SqT.of ht) (Ah (j:=1) rfl) (xwb rfl rfl rfl (xq1 rfl ?_));by_cases z:W.y<c.y
    ·have er:BU m W c=⟨c.y,m,W.rs++[⟨(c.y-W.y).toNat,47⟩]⟩:=X9 z;rw[X7 z];refine Bq (xq1 rfl ⟨.inl ⟨rfl,_,SqL.of wa.hD⟩,?_⟩);refine xwi rfl rfl rfl (SqT.of ht) (Ah (j:=1) rfl) (xwb rfl rfl rfl ⟨(by show 2<=sizeLine;decide),λt1 ht1=>?_⟩);generalize e3:upd Hx t1 _=H3;have s3:Az Hx H3:=e3▸Ak ht1;have y1:=bd.y1;have y2:=bd.y2;rw[e40]at y1 y2;have h3:Od H3 t1 ((c.y-W.y).toNat,8):=by
      show H3 t1=some (.tup [.int (((c.y-W.y).toNat:Nat):Int),.int ((8:Nat):Int)]);rw[<-e3,Ag,N2 A0];rfl
     refine⟨t1,((c.y-W.y).toNat,8),rfl,h3,⟨by show 1<=(c.y-W.y).toNat;lia,by show(c.y-W.y).toNat<10^13;rw[e13];lia,by show 8<=8;decide⟩,λz' hz'=>?_⟩;refine⟨D,(xq2 rfl rfl ⟨s3 _ _ wa.hD,Bu (by rw[A9,D1,A9];have:=bd.n;lia),?_⟩)⟩;have wa3:=wa.add (r:=⟨(c.y-W.y).toNat,47⟩) nD0 s3 hz';refine xwi rfl rfl rfl (SqT.of (wa3.sm _ _ hc)) (Ah (j:=1) rfl) (xq1 rfl (rest _ _ ⟨?_,?_⟩))
     ·rw[er];rfl
     ·rw[er];exact wa3
    ·have er:BU m W c=W:=X8 z;rw[X6 z];refine AS (rest _ _ ⟨?_,?_⟩)
     ·rw[er];rfl
     ·rw[er];exact wa
   clear wa;generalize h1W:BU m W c=W1 at bd1 bd2 en⊢;rintro σ H3 ⟨rfl,wa⟩;refine hka ?_;refine Bw ?_;intro rb sb kb hkb Eb;have ht:=wa.sm _ _ hc;apply Oz (T:=kb) (fun σ H'=>σ=[some (.ref L),some (.int m),some (.int (Cp W1 c).y),some (.int (Cp W1 c).x),some (.ref D),some (.ref t)]/\WA H H' D pre (Cp W1 c).rs)
   ·intro rest;refine xwi rfl rfl rfl (SqT.of ht) (Ah (j:=0) rfl) (xwb rfl rfl rfl (xq1 rfl ?_));by_cases z:W1.x<c.x
    ·have er:Cp W1 c=⟨W1.y,W1.x,W1.rs++[⟨(c.x-W1.x).toNat,46⟩]⟩:=X9 z;rw[X7 z];refine Bq (xq1 rfl ⟨.inl ⟨rfl,_,SqL.of wa.hD⟩,?_⟩);refine xwi rfl rfl rfl (SqT.of ht) (Ah (j:=0) rfl) (xwb rfl rfl rfl ⟨(by show 2<=sizeLine;decide),λt1 ht1=>?_⟩);generalize e3:upd H3 t1 _=H4;have s3:Az H3 H4:=e3▸Ak ht1;have x1:=bd1.x1;have x2:=bd1.x2;rw[e40]at x1 x2;have h3:Od H4 t1 ((c.x-W1.x).toNat,0):=by
      show H4 t1=some (.tup [.int (((c.x-W1.x).toNat:Nat):Int),.int ((0:Nat):Int)]);rw[<-e3,Ag,N2 A0];rfl
     refine⟨t1,((c.x-W1.x).toNat,0),rfl,h3,⟨by show 1<=(c.x-W1.x).toNat;lia,by show(c.x-W1.x).toNat<10^13;rw[e13];lia,by show 0<=8;decide⟩,λz' hz'=>?_⟩;refine⟨D,(xq2 rfl rfl ⟨s3 _ _ wa.hD,Bu (by rw[A9,D1,A9];have:=bd1.n;lia),?_⟩)⟩;have wa3:=wa.add (r:=⟨(c.x-W1.x).toNat,46⟩) nD0 s3 hz';refine rest _ _ ⟨?_,?_⟩
     ·rw[er]
     ·rw[er];exact wa3
    ·have er:Cp W1 c=W1:=X8 z;rw[X6 z];refine AS (rest _ _ ⟨?_,?_⟩)
     ·rw[er]
     ·rw[er];exact wa
   clear wa ht;generalize h2W:Cp W1 c=W2 at bd2 en⊢;rintro σ H4 ⟨rfl,wa⟩;refine hkb ?_;refine Bw ?_;intro rc sc kc hkc Ec;have ht:=wa.sm _ _ hc;refine xq1 rfl ⟨.inl ⟨rfl,_,SqL.of wa.hD⟩,?_⟩;refine xwi rfl rfl rfl (SqT.of ht) (Ah (j:=2) rfl) (xwi rfl rfl rfl (SqT.of ht) (Ah (j:=3) rfl) ⟨(by show 2<=sizeLine;decide),λt1 ht1=>?_⟩);generalize e3:upd H4 t1 _=H5;have s3:Az H4 H5:=e3▸Ak ht1;have h3:Od H5 t1 (c.n,c.s):=e3▸Ag;have s7:=ck.s7;refine⟨t1,(c.n,c.s),rfl,h3,⟨ck.n1,n2,by show c.s<=8;lia⟩,λz' hz'=>?_⟩;refine⟨D,(xq2 rfl rfl ⟨s3 _ _ wa.hD,Bu (by rw[A9,D1,A9];have:=bd2.n;lia),?_⟩)⟩;have wa3:=wa.add (r:=⟨c.n,sg.getD c.s 0⟩) nD0 s3 hz';refine hkc ?_;refine xwi rfl rfl rfl (SqT.of (wa3.sm _ _ hc)) (Ah (j:=0) rfl) (xwi rfl rfl rfl (SqT.of (wa3.sm _ _ hc)) (Ah (j:=2) rfl) (xq2 rfl rfl ?_));refine⟨some (.ref t),?_,?_,?_⟩
   ·rw[en];rfl
   ·rw[en];exact wa3
   ·rw[en];exact bd2.put ck
  rintro σ Hx ⟨u5,rfl,wa,bd⟩;rw[A9,lu,F2]at wa bd;refine hk4 ?_;have c1:(Str.ofString ",").cps.toList=[44]:=by decide +kernel
  have c2:(Str.ofString ":").cps.toList=[58]:=by decide +kernel
  have ep:pre.cps.toList=Da m++[44]++Da top++[58]:=by rw[<-hpre,Tx.AJ,Tx.AJ,Tx.AJ,DW,DW,c1,c2]
  have small:=bd.a;refine⟨rfl,(xq1 rfl ⟨Str.ofString "",D,pre::(ww m top ss).rs.map wS,rfl,rfl,SqL.of wa.hD,?_,k _ Hx wa.sm ?_⟩)⟩
  ·refine Tx.Qc 31 (λt ht=>?_) ?_
   ·rcases C2.mp ht with rfl|ht
    ·rw[Nu.len,ep];have h1:=GI lb;have h2:=GI tb;rw[B0,B0,B0,D8,D8];lia
    ·obtain⟨r,hr,rfl⟩:=D5.mp ht;rw[Nu.len,Ms];exact Pa (small r hr)
   ·rw[D1,A9,show(Str.ofString "").length=0 by decide +kernel];have:=bd.n;lia
  ·rw[Tx.JR,show(Str.ofString "").cps.toList=[] by decide +kernel,Tx.Qd,C9,X2,ep,O5];have e:((ww m top ss).rs.map ((λs:Str=>s.cps.toList) ∘ wS)).flatten=txt (ww m top ss).rs:=by
    unfold txt;exact A0e List.flatten (R8 λr _=>Ms r)
   rw[e];simp
end
section
variable{P:Program}{w:World}{K:PySem.W.Frag}{mg:Str->Option Value}{base:Heap}{a:Ad}
theorem Ye(T:Top K mg a):KiW K a a.x_TooMany 8:=⟨T.ec_TooMany,T.ef_TooMany,T.mr_TooMany,T.kv_TooMany,by decide,T.ki_TooMany_NoNumber,T.ki_TooMany_NoRule,T.ki_TooMany_Restless,T.ki_TooMany_NoSquare,T.ki_TooMany_NoLevel,T.ki_TooMany_NoState,T.ki_TooMany_NoBox,T.ki_TooMany_TooFar,T.ki_TooMany_TooMany,T.ki_TooMany_NoSteps,T.ki_TooMany_NoPattern,T.ki_TooMany_NoName,T.ki_TooMany_NoRow⟩
inductive SpT2(K:PySem.W.Frag)(a:Ad)(w0:V)(sp:Sp)(vs:List V)(H:Hp)(Q:VK):Prop
 |mk (OK:V->Hp->Prop) (ER:Nat->Hp->Prop) (_:vs.length=2) (_:∀(Q':VK)(E':XK),(∀v H',OK v H'->Q' v H')->(∀c j H',KiW K a c j->ER j H'->E' (.ref c) none H')->sp vs H Q' E') (_:∀v H' t H'',OK v H'->Az H' H''->H'' t=some (.tup [.str "",v])->Q (.ref t) H'') (_:∀j H' t H'',ER j H'->Az H' H''->H'' t=some (.tup [.str (Og j),w0])->Q (.ref t) H''):SpT2 K a w0 sp vs H Q
def UC(K:PySem.W.Frag)(a:Ad)(w0:V)(sp:Sp):Sp:=λvs H Q _=>SpT2 K a w0 sp vs H Q
def S4s(σ:St):Prop:=∃x1 x2 x3 x4,σ=[x1,x2,x3,x4]
theorem len2{vs:List V}(h:vs.length=2):∃x1 x2,vs=[x1,x2]:=by
 match vs,h with
 |[x1,x2],_=>exact⟨x1,x2,rfl⟩
theorem ok_lrb{sp:Sp}{d:Nat}{f:Addr}{fd:FuncData}(F:Fun K "_law_read_by" "_law_read_by" EU f fd)(T:Top K mg a)(hd:1<=d)(cC:Cal P w K mg base (CXE P w) d "read_pattern" EY sp)(aS:CalH P w K mg base 1 "_law_word" DV (spWd K a)):AC P w K mg base CX0 (d+1) f fd Fd (UC K a (.int 0) sp):=by
 refine F.ok DZ (λvs H Q E h=>?_) (λcdv A outer s H vs Q E hr h=>?_)
 ·obtain⟨_,_,h,_⟩:=h;exact h
 ·obtain⟨OK,ER,hl,h,k1,k2⟩:=h;obtain⟨x1,x2,rfl⟩:=len2 hl;refine⟨_,(Ab (Ou (i:=3) (S:=S4s) rfl rfl rfl rfl rfl T.mx_FieldError T.ec_FieldError DZ.nd rfl rfl (λxe pn E1 pass=>(Ae (Aj (i:=2) DZ.nd rfl (Or.inl rfl) (TH cC (rm hr) rfl pass (Aa (pv 0) (Aa (pv 1) Ac)))))) (λea=>(Ae (An (Ck (Aa (TJ aS ((rm hr).marked _) rfl (Aa (pv 3) Ac)) (AX Ac))))))) (Ae (An (Ck (BL (Aa (pv 2) Ac)))))),?_⟩
  try dsimp only[cxK]
  refine⟨⟨_,_,_,_,rfl⟩,(xw2 rfl rfl (h _ _ (λv H' q=>?_) λc j H' ki q=>?_))⟩
  ·refine xq1 rfl ⟨(by show 2<=sizeLine;decide),λt ht=>?_⟩;exact k1 v H' t _ q (Ak ht) Ag
  ·refine⟨c,rfl,ki.ec,ki.mr,fun σ' e hS he=>?_⟩;obtain⟨y1,y2,y3,y4,rfl⟩:=hS;have s1:=Ak (o:=JM e c) he;refine xq1 rfl ⟨e,c,j,rfl,Ag,ki,λH2 s2=>?_⟩;refine⟨(by show 2<=sizeLine;decide),λt ht=>?_⟩;exact k2 j H' t _ q ((s1.trans s2).trans (Ak ht)) Ag
theorem ok_lsb{sp:Sp}{d:Nat}{f:Addr}{fd:FuncData}(F:Fun K "_law_shown_by" "_law_shown_by" Ei f fd)(T:Top K mg a)(hd:1<=d)(c9:Cal P w K mg base (CXE P w) d "shown_pattern" En sp)(aS:CalH P w K mg base 1 "_law_word" DV (spWd K a)):AC P w K mg base CX0 (d+1) f fd Er (UC K a (.str "") sp):=by
 refine F.ok DC (λvs H Q E h=>?_) (λcdv A outer s H vs Q E hr h=>?_)
 ·obtain⟨_,_,h,_⟩:=h;exact h
 ·obtain⟨OK,ER,hl,h,k1,k2⟩:=h;obtain⟨x1,x2,rfl⟩:=len2 hl;refine⟨_,(Ab (Ou (i:=3) (S:=S4s) rfl rfl rfl rfl rfl T.mx_FieldError T.ec_FieldError DC.nd rfl rfl (λxe pn E1 pass=>(Ae (Aj (i:=2) DC.nd rfl (Or.inl rfl) (TH c9 (rm hr) rfl pass (Aa (pv 0) (Aa (pv 1) Ac)))))) (λea=>(Ae (An (Ck (Aa (TJ aS ((rm hr).marked _) rfl (Aa (pv 3) Ac)) (BL Ac))))))) (Ae (An (Ck (BL (Aa (pv 2) Ac)))))),?_⟩
  try dsimp only[cxK]
  refine⟨⟨_,_,_,_,rfl⟩,(xw2 rfl rfl (h _ _ (λv H' q=>?_) λc j H' ki q=>?_))⟩
  ·refine xq1 rfl ⟨(by show 2<=sizeLine;decide),λt ht=>?_⟩;exact k1 v H' t _ q (Ak ht) Ag
  ·refine⟨c,rfl,ki.ec,ki.mr,fun σ' e hS he=>?_⟩;obtain⟨y1,y2,y3,y4,rfl⟩:=hS;have s1:=Ak (o:=JM e c) he;refine xq1 rfl ⟨e,c,j,rfl,Ag,ki,λH2 s2=>?_⟩;refine⟨(by show 2<=sizeLine;decide),λt ht=>?_⟩;exact k2 j H' t _ q ((s1.trans s2).trans (Ak ht)) Ag
end
end J
namespace J
open PySem L2
theorem FT{α:Type}{p:List α->Prop}(h0:p [])(hs:∀l a,p l->p (l++[a]))(l:List α):p l:=by
 have h:∀m:List α,p m.reverse:=by
  intro m;induction m with
  |nil=>exact h0
  |cons a m ih =>
   rw[List.reverse_cons];exact hs _ _ ih
 have:=h l.reverse;rw[List.reverse_reverse]at this;exact this
def bxS(c:S4):Bo:=⟨c.x,c.y,c.n,1⟩
def InS(c:S4)(u v:Int):Prop:=c.x<=u/\u<c.x+c.n/\v=c.y
theorem Ub(c:S4)(u v:Int):InB (bxS c).x (bxS c).y (bxS c).wd (bxS c).ht u v↔InS c u v:=by
 unfold InB InS bxS;constructor
 ·rintro⟨⟨h1,h2⟩,h3,h4⟩;exact⟨h1,h2,by lia⟩
 ·rintro⟨h1,h2,h3⟩;exact⟨⟨h1,h2⟩,by show c.y<=v;lia,by show v<c.y+1;lia⟩
def Gs(ss:List S4):Int->Int->Nat:=ss.foldl (fun φ c=>NZ (bxS c) c.s φ) (λ_ _=>0)
theorem IG(ss:List S4)(c:S4):Gs (ss++[c])=NZ (bxS c) c.s (Gs ss):=by
 unfold Gs;rw[L7];rfl
theorem filF_in{c:S4}{φ:Int->Int->Nat}{u v:Int}(h:InS c u v):NZ (bxS c) c.s φ u v=c.s:=X9 ((Ub c u v).mpr h)
theorem Ru{c:S4}{φ:Int->Int->Nat}{u v:Int}(h:¬InS c u v):NZ (bxS c) c.s φ u v=φ u v:=X8 λz=>h ((Ub c u v).mp z)
def Dis(ss:List S4):Prop:=ss.Pairwise λa b=>∀u v,InS a u v->¬InS b u v
theorem Dis.rev{ss:List S4}(h:Dis ss):Dis ss.reverse:=by
 unfold Dis;rw[List.pairwise_reverse];exact A8e (λ{a b} k u v hb ha=>k u v ha hb) h
theorem Pu{ss:List S4}:∀{u v:Int},(∀c∈ss,¬InS c u v)->Gs ss u v=0:=by
 refine FT (p:=λss=>∀{u v:Int},(∀c∈ss,¬InS c u v)->Gs ss u v=0) (λ_=>rfl) (λss c ih u v h=>?_) ss;rw[IG,Ru (h c A5)];exact ih λd hd=>h d (by simp[hd])
theorem Pw{ss:List S4}:Dis ss->∀{c:S4}{u v:Int},c∈ss->InS c u v->Gs ss u v=c.s:=by
 refine FT (p:=λss=>Dis ss->∀{c:S4}{u v:Int},c∈ss->InS c u v->Gs ss u v=c.s) (λ_ {c u v} hc=>by cases hc) (λss d ih dis c u v hc hi=>?_) ss;obtain⟨d1,_,d3⟩:=N9.mp dis;rw[IG];rcases C7.mp hc with hc|hc
 ·rw[Ru (d3 c hc d (C4.mpr rfl) u v hi)];exact ih d1 hc hi
 ·rw[C4.mp hc]at hi⊢;exact filF_in hi
theorem phi_rev{ss:List S4}(h:Dis ss)(u v:Int):Gs ss.reverse u v=Gs ss u v:=by
 by_cases z:∃c∈ss,InS c u v
 ·obtain⟨c,hc,hi⟩:=z;rw[Pw h hc hi,Pw h.rev (List.mem_reverse.mpr hc) hi]
 ·rw[Pu λc hc hi=>z ⟨c,hc,hi⟩,Pu λc hc hi=>z ⟨c,List.mem_reverse.mp hc,hi⟩]
theorem wk_sw(x y:Int)(l:List (Nat×Nat)):∀j,(wk x y (l.take j)).r=(sw x y (l.take j)).r/\(wk x y (l.take j)).d=(sw x y (l.take j)).d/\(wk x y (l.take j)).φ=Gs (sw x y (l.take j)).l/\((wk x y (l.take j)).far ↔ ∃c∈(sw x y (l.take j)).l,¬CO c.x c.y c.n 1 (2^40))
 |0=>⟨rfl,rfl,rfl,⟨λz=>z.elim,λ⟨c,hc,_⟩=>by cases hc⟩⟩
 |j+1=>by
  have ih:=wk_sw x y l j;cases e:l[j]? with
  |none =>
   rw[D3,e,Z4,M2];exact ih
  |some q =>
   rw[Tf x y e,Ph x y e];obtain⟨h1,h2,h3,h4⟩:=ih;generalize wk x y (l.take j)=S at h1 h2 h3 h4⊢;generalize sw x y (l.take j)=T at h1 h2 h3 h4⊢;unfold stp Cr;by_cases z8:q.2=8
   ·rw[X9 z8,X9 z8];exact⟨rfl,by show S.d+_=T.d+_;rw[h2],h3,h4⟩
   rw[X8 z8,X8 z8];by_cases z0:q.2=0
   ·rw[X9 z0,X9 z0];exact⟨by show S.r+_=T.r+_;rw[h1],h2,h3,h4⟩
   rw[X8 z0,X8 z0];refine⟨by show S.r+_=T.r+_;rw[h1],h2,?_,?_⟩
   ·show NZ ⟨S.r,S.d,q.1,1⟩ q.2 S.φ=Gs (T.l++[⟨T.r,T.d,q.1,q.2⟩]);rw[IG,h1,h2,h3];rfl
   ·show(S.far\/¬CO S.r S.d q.1 1 (2^40))↔_;rw[h4,h1,h2];constructor
    ·rintro(⟨c,hc,no⟩|no)
     ·exact⟨c,O0 _ hc,no⟩
     ·exact⟨⟨T.r,T.d,q.1,q.2⟩,F9 _ (C4.mpr rfl),no⟩
    ·rintro⟨c,hc,no⟩;rcases C7.mp hc with hc|hc
     ·exact .inl ⟨c,hc,no⟩
     ·rw[C4.mp hc]at no;exact .inr no
def Ahead(a b:S4):Prop:=a.y<b.y\/(a.y=b.y/\a.x+a.n<b.x)
def Ord(ss:List S4):Prop:=ss.Pairwise Ahead
theorem Ord.dis{ss:List S4}(h:Ord ss):Dis ss:=A8e (λ{a b} k u v ha hb=>by
 obtain⟨a1,a2,a3⟩:=ha;obtain⟨b1,b2,b3⟩:=hb;rcases k with k|⟨k1,k2⟩<;>lia) h
inductive Alt:List (Nat×Nat)->Prop
 |one (q:Nat×Nat) (h:Tb q):Alt [q]
 |more {l:List (Nat×Nat)} (g q:Nat×Nat) (h:Alt l) (hg:Vv g) (hq:Tb q):Alt (l++[g]++[q])
theorem Pg(x y:Int)(l:List (Nat×Nat))(q:Nat×Nat):sw x y (l++[q])=Cr x (sw x y l) q:=by
 unfold sw;rw[L7];rfl
structure AltS(x y:Int)(S:SW):Prop where
 ord:Ord S.l
 las:∀c∈S.l,c.y<S.d\/(c.y=S.d/\c.x+c.n<=S.r)
 le:∀c∈S.l,x<=c.x/\y<=c.y
 rl:x<=S.r/\y<=S.d
 hd:∃c,S.l[0]?=some c/\c.x=x/\c.y=y
 ok:∀c∈S.l,1<=c.n/\1<=c.s/\c.s<=7
theorem alt_s(x y:Int){l:List (Nat×Nat)}(h:Alt l):AltS x y (sw x y l):=by
 induction h with
 |one q h =>
  have e:sw x y [q]=⟨x+q.1,y,[⟨x,y,q.1,q.2⟩]⟩:=by
   show Cr x ⟨x,y,[]⟩ q=_;unfold Cr;have:=h.s1;have:=h.s7;rw[X8 A0,X8 A0];rfl
  rw[e];refine⟨by unfold Ord;simp,λc hc=>?_,λc hc=>?_,⟨by show x<=x+(q.1:Int);lia,P4 _⟩,(xq1 rfl ⟨rfl,rfl⟩),λc hc=>?_⟩
  ·rw[C4.mp hc];exact .inr ⟨rfl,P4 _⟩
  ·rw[C4.mp hc];exact⟨P4 _,P4 _⟩
  ·rw[C4.mp hc];exact⟨h.a1,h.s1,h.s7⟩
 |more g q h hg hq ih =>
  rename_i l;rw[Pg,Pg];generalize sw x y l=S at ih;have g1:=hg.a1;have q1:=hq.a1;have s1:=hq.s1;have s7:=hq.s7;obtain⟨T,eT,eTl,tr,ta⟩:∃T,Cr x S g=T/\T.l=S.l/\(x<=T.r/\y<=T.d)/\∀c∈S.l,c.y<T.d\/(c.y=T.d/\c.x+c.n<T.r):=by
   refine xq1 rfl ?_;unfold Cr;rcases hg.s with z|z
   ·rw[X8 A0,X9 z];refine⟨rfl,⟨by show x<=S.r+(g.1:Int);have:=ih.rl.1;lia,ih.rl.2⟩,λc hc=>?_⟩;rcases ih.las c hc with k|⟨k1,k2⟩
    ·exact .inl k
    ·exact .inr ⟨k1,by show c.x+(c.n:Int)<S.r+(g.1:Int);lia⟩
   ·rw[X9 z];refine⟨rfl,⟨P4 _,by show y<=S.d+(g.1:Int);have:=ih.rl.2;lia⟩,λc hc=>.inl ?_⟩;show c.y<S.d+(g.1:Int)
    rcases ih.las c hc with k|⟨k1,k2⟩<;>lia
  rw[eT];have e:Cr x T q=⟨T.r+q.1,T.d,S.l++[⟨T.r,T.d,q.1,q.2⟩]⟩:=by
   unfold Cr;rw[X8 A0,X8 A0,eTl]
  rw[e];refine⟨?_,λc hc=>?_,λc hc=>?_,⟨by show x<=T.r+(q.1:Int);have:=tr.1;lia,tr.2⟩,?_,λc hc=>?_⟩
  ·refine N9.mpr ⟨ih.ord,by simp,λc hc d hd=>?_⟩;rw[C4.mp hd];exact ta c hc
  ·rcases C7.mp hc with hc|hc
   ·rcases ta c hc with k|⟨k1,k2⟩
    ·exact .inl k
    ·exact .inr ⟨k1,by show c.x+(c.n:Int)<=T.r+(q.1:Int);lia⟩
   ·rw[C4.mp hc];exact .inr ⟨rfl,P4 _⟩
  ·rcases C7.mp hc with hc|hc
   ·exact ih.le c hc
   ·rw[C4.mp hc];exact tr
  ·obtain⟨c,ec,h1,h2⟩:=ih.hd;exact⟨c,by rw[F7 (B3.mp ec).1];exact ec,h1,h2⟩
  ·rcases C7.mp hc with hc|hc
   ·exact ih.ok c hc
   ·rw[C4.mp hc];exact⟨q1,s1,s7⟩
def FZ(c:S4):List Cl:=(List.range c.n).map λk=>⟨c.x+((k:Nat):Int),c.y,c.s⟩
def BG(ss:List S4):List Cl:=ss.flatMap FZ
theorem IK{c:S4}{d:Cl}:d∈FZ c↔InS c d.x d.y/\d.s=c.s:=by
 unfold FZ;rw[D5];constructor
 ·rintro⟨k,hk,rfl⟩;have hk:=M0.mp hk;exact⟨⟨by show c.x<=c.x+(k:Int);lia,by show c.x+(k:Int)<c.x+(c.n:Int);lia,rfl⟩,rfl⟩
 ·rintro⟨⟨h1,h2,h3⟩,h4⟩;refine⟨(d.x-c.x).toNat,M0.mpr A0,?_⟩;cases d with
  |mk dx dy ds =>
   have h3:dy=c.y:=h3;have h4:ds=c.s:=h4;subst h3;subst h4;congr 1;have h1:c.x<=dx:=h1;show c.x+(((dx-c.x).toNat:Nat):Int)=dx;lia
theorem Jp{ss:List S4}{d:Cl}:d∈BG ss ↔ ∃c∈ss,InS c d.x d.y/\d.s=c.s:=by
 unfold BG;rw[List.mem_flatMap];constructor
 ·rintro⟨c,hc,h⟩;exact⟨c,hc,IK.mp h⟩
 ·rintro⟨c,hc,h⟩;exact⟨c,hc,IK.mpr h⟩
theorem SY(ss:List S4):(BG ss).length=(ss.map λc=>c.n).sum:=by
 unfold BG;rw[List.length_flatMap];congr 1;refine R8 λc _=>?_;unfold FZ;rw[A9,O1]
theorem YC(c:S4):(FZ c).Pairwise λp q=>p.y=q.y/\p.x<q.x:=by
 unfold FZ;rw[M7];exact List.pairwise_lt_range.imp λ{i j} h=>⟨rfl,by show c.x+(i:Int)<c.x+(j:Int);lia⟩
theorem RD{ss:List S4}(h:Ord ss):(BG ss).Pairwise λp q=>p.y<q.y\/(p.y=q.y/\p.x<q.x):=by
 unfold BG;rw[List.pairwise_flatMap];refine⟨λc _=>(YC c).imp λh=>.inr h,A8e (λ{a b} k p hp q hq=>?_) h⟩;obtain⟨⟨a1,a2,a3⟩,_⟩:=IK.mp hp;obtain⟨⟨b1,b2,b3⟩,_⟩:=IK.mp hq;rcases k with k|⟨k1,k2⟩
 ·exact .inl A0
 ·exact .inr ⟨by lia,by lia⟩
theorem Yz{ss:List S4}(h:Ord ss):ByC (BG ss):=(RD h).imp λ{p q} k=>by
 show(if q.y=p.y then(if q.x=p.x then Ca [] []else decide (q.x<p.x))else decide (q.y<p.y))=false;rcases k with k|⟨k1,k2⟩
 ·rw[X8 A0];exact X6 A0
 ·rw[X9 k1.symm,X8 A0];exact X6 A0
theorem RE{ss:List S4}(h:Ord ss)(ok:∀c∈ss,1<=c.s):DsOk (BG ss) (Gs ss):=by
 refine⟨?_,λd=>?_⟩
 ·rw[F5,M7];refine(RD h).imp λ{p q} k e=>?_;injection e with e1 e2
  lia
 ·rw[Jp];constructor
  ·rintro⟨c,hc,hi,e⟩;rw[e];exact⟨ok c hc,Pw h.dis hc hi⟩
  ·rintro⟨d1,e⟩;by_cases z:∃c∈ss,InS c d.x d.y
   ·obtain⟨c,hc,hi⟩:=z;rw[Pw h.dis hc hi]at e;exact⟨c,hc,hi,e.symm⟩
   ·rw[Pu λc hc hi=>z ⟨c,hc,hi⟩]at e;lia
theorem Mv(rs:List Rn)(r:Rn):tog (rs++[r])=BD (tog rs) r:=by
 unfold tog;rw[L7];rfl
def Ev(rs:List Rn)(p:Nat->Prop):Prop:=rs=[]\/∃b l,rs=b++[l]/\p l.c
theorem Pe {rs:List Rn} {r:Rn} (h:Ev rs λc=>c≠r.c):BD rs r=rs++[r]:=by
 rcases h with rfl|⟨b,l,rfl,h⟩
 ·rfl
 ·rw[Dd,X8 h]
theorem To (acc:List Rn) (c:Nat) (h:Ev acc λd=>d≠c):∀n:Nat,(List.replicate (n+1) (⟨1,c⟩:Rn)).foldl BD acc=acc++[⟨n+1,c⟩]
 |0=>Pe h
 |n+1=>by
  rw[List.replicate_succ',L7,To acc c h n];show BD (acc++[⟨n+1,c⟩]) ⟨1,c⟩=_;rw[Dd,X9 rfl]
theorem QO(left:Int)(c:S4)(S:RS)(hd:¬S.d<c.y):∀n:Nat,S.r=c.x->((List.range n).map λk=>(⟨c.x+((k:Nat):Int),c.y,c.s⟩:Cl)).foldl (Ek left) S=⟨c.x+n,S.d,S.rs++List.replicate n ⟨1,sg.getD c.s 0⟩⟩
 |0,hr=>by
  cases S;cases hr;simp
 |n+1,hr=>by
  rw[N3,C1,L7,QO left c S hd n hr];show Ek left ⟨c.x+n,S.d,S.rs++List.replicate n ⟨1,sg.getD c.s 0⟩⟩ ⟨c.x+(n:Int),c.y,c.s⟩=_;unfold Ek CI;rw[X8 hd];unfold Ds;rw[X8 (R9 _)];unfold TC;rw[List.replicate_succ',M3];congr 1;show c.x+(n:Int)+1=c.x+((n+1:Nat):Int)
  lia
theorem sgl:∀s,s<=7->1<=s->sg.getD s 0≠46/\sg.getD s 0≠47/\sg.getD s 0∈sg:=by decide
structure Rel(S:RS)(W:WW):Prop where
 r:S.r=W.x
 d:S.d=W.y
 t:tog S.rs=W.rs
 la:Ev W.rs λc=>c≠46/\c≠47
theorem Ev.imp{rs:List Rn}{p q:Nat->Prop}(h:Ev rs p)(k:∀c,p c->q c):Ev rs q:=by
 rcases h with h|⟨b,l,e,h⟩
 ·exact .inl h
 ·exact .inr ⟨b,l,e,k _ h⟩
theorem Ev.snoc{rs:List Rn}{r:Rn}{p:Nat->Prop}(h:p r.c):Ev (rs++[r]) p:=.inr ⟨rs,r,rfl,h⟩
theorem We{left:Int}{S:RS}{W:WW}{c:S4}(h:Rel S W)(n1:1<=c.n)(s1:1<=c.s)(s7:c.s<=7)(k:(W.y<c.y/\left<=c.x)\/(W.y=c.y/\(W.x<c.x\/(W.rs=[]/\W.x=c.x)))):Rel ((FZ c).foldl (Ek left) S) (Je left W c):=by
 obtain⟨g6,g7,_⟩:=sgl c.s s7 s1;obtain⟨n,en⟩:∃n,c.n=n+1:=⟨c.n-1,by lia⟩
 obtain⟨S1,e1,d1,x1,t1,l1⟩:∃S1,Ds (CI left S ⟨c.x,c.y,c.s⟩) ⟨c.x,c.y,c.s⟩=S1/\S1.d=c.y/\(Cp (BU left W c) c).y=c.y/\tog S1.rs=(Cp (BU left W c) c).rs/\Ev (Cp (BU left W c) c).rs λd=>d≠sg.getD c.s 0:=by
  refine⟨_,rfl,?_⟩;have la7:Ev (tog S.rs) λd=>d≠47:=by rw[h.t];exact h.la.imp λ_ z=>z.2
  have la6:Ev (tog S.rs) λd=>d≠46:=by rw[h.t];exact h.la.imp λ_ z=>z.1
  rcases k with ⟨k1,k2⟩|⟨k1,k2⟩
  ·have er:CI left S ⟨c.x,c.y,c.s⟩=⟨left,c.y,S.rs++[⟨(c.y-S.d).toNat,47⟩]⟩:=X9 (by rw[h.d];exact k1);have ew:BU left W c=⟨c.y,left,W.rs++[⟨(c.y-W.y).toNat,47⟩]⟩:=X9 k1;have tr:tog (S.rs++[⟨(c.y-S.d).toNat,47⟩])=W.rs++[⟨(c.y-W.y).toNat,47⟩]:=by rw[Mv,Pe la7,h.t,h.d]
   rw[er,ew];unfold Ds Cp;by_cases z:left<c.x
   ·rw[X9 z,X9 z];refine⟨rfl,rfl,?_,Ev.snoc (λz=>g6 z.symm)⟩;show tog (S.rs++[⟨(c.y-S.d).toNat,47⟩]++[⟨(c.x-left).toNat,46⟩])=_;rw[Mv,tr,Pe (Ev.snoc (show(47:Nat)≠46 by decide))]
   ·rw[X8 z,X8 z];exact⟨rfl,rfl,tr,Ev.snoc (λz=>g7 z.symm)⟩
  ·have er:CI left S ⟨c.x,c.y,c.s⟩=S:=X8 (by rw[h.d,k1];exact R9 _);have ew:BU left W c=W:=X8 (by rw[k1];exact R9 _);rw[er,ew];unfold Ds Cp;rcases k2 with k2|⟨k2,k3⟩
   ·rw[X9 (by rw[h.r];exact k2),X9 k2];refine⟨h.d.trans k1,k1,?_,Ev.snoc (λz=>g6 z.symm)⟩;show tog (S.rs++[⟨(c.x-S.r).toNat,46⟩])=W.rs++[⟨(c.x-W.x).toNat,46⟩]
    rw[Mv,Pe la6,h.t,h.r]
   ·rw[X8 (by rw[h.r,k3];exact R9 _),X8 (by rw[k3];exact R9 _)];exact⟨h.d.trans k1,k1,h.t,.inl k2⟩
 have nd:¬(⟨c.x,S1.d,S1.rs⟩:RS).d<c.y:=by show ¬S1.d<c.y;rw[d1];exact R9 _
 have e2:(FZ c).foldl (Ek left) S=(FZ c).foldl (Ek left) ⟨c.x,S1.d,S1.rs⟩:=by
  unfold FZ;rw[en,List.range_succ_eq_map,C9,Q6,Q6];congr 1;have ex:(⟨c.x+((0:Nat):Int),c.y,c.s⟩:Cl)=⟨c.x,c.y,c.s⟩:=by
   congr 1;show c.x+0=c.x;lia
  rw[ex];show TC (Ds (CI left S _) _) _=TC (Ds (CI left ⟨c.x,S1.d,S1.rs⟩ _) _) _;rw[e1];have er:CI left ⟨c.x,S1.d,S1.rs⟩ ⟨c.x,c.y,c.s⟩=⟨c.x,S1.d,S1.rs⟩:=X8 nd;rw[er];unfold Ds;rw[X8 (R9 _)];rfl
 have e3:=QO left c ⟨c.x,S1.d,S1.rs⟩ nd c.n rfl;rw[e2];show Rel ((FZ c).foldl (Ek left) ⟨c.x,S1.d,S1.rs⟩) (Vw (Cp (BU left W c) c) c);unfold FZ;rw[e3];refine⟨rfl,?_,?_,Ev.snoc ⟨g6,g7⟩⟩
 ·show S1.d=(Cp (BU left W c) c).y;rw[d1,x1]
 ·show tog (S1.rs++List.replicate c.n ⟨1,sg.getD c.s 0⟩)=(Cp (BU left W c) c).rs++[⟨c.n,sg.getD c.s 0⟩]
  have:tog (S1.rs++List.replicate c.n ⟨1,sg.getD c.s 0⟩)=(List.replicate c.n (⟨1,sg.getD c.s 0⟩:Rn)).foldl BD (tog S1.rs):=by
   unfold tog;rw[L7]
  rw[this,t1,en];exact To _ _ l1 n
theorem ww_end{left:Int}{W:WW}{c:S4}(k:W.y<c.y\/W.y=c.y):(Je left W c).y=c.y/\(Je left W c).x=c.x+c.n:=by
 refine⟨?_,rfl⟩;show(Cp (BU left W c) c).y=c.y;have e:(Cp (BU left W c) c).y=(BU left W c).y:=by
  unfold Cp;split<;>rfl
 rw[e];unfold BU;split
 ·rfl
 ·lia
theorem RF(ss:List S4)(c:S4):BG (ss++[c])=BG ss++FZ c:=by
 unfold BG;rw[List.flatMap_append];simp
theorem Te(left top:Int)(ss:List S4)(c:S4):ww left top (ss++[c])=Je left (ww left top ss) c:=by
 unfold ww;rw[L7];rfl
theorem TB(left top:Int)(cs ds:List Cl):rcs left top (cs++ds)=ds.foldl (Ek left) (rcs left top cs):=by
 unfold rcs;rw[L7]
theorem rel_all{left top:Int}{ss:List S4}:Ord ss->(∀c∈ss,left<=c.x/\1<=c.n/\1<=c.s/\c.s<=7)->(∀c,ss[0]?=some c->c.x=left/\c.y=top)->Rel (rcs left top (BG ss)) (ww left top ss)/\∀a l,ss=l++[a]->(ww left top ss).y=a.y/\(ww left top ss).x=a.x+a.n:=by
 refine FT (p:=λss=>Ord ss->(∀c∈ss,left<=c.x/\1<=c.n/\1<=c.s/\c.s<=7)->(∀c,ss[0]?=some c->c.x=left/\c.y=top)->Rel (rcs left top (BG ss)) (ww left top ss)/\∀a l,ss=l++[a]->(ww left top ss).y=a.y/\(ww left top ss).x=a.x+a.n) ?_ ?_ ss
 ·intro _ _ _;exact⟨⟨rfl,rfl,rfl,.inl rfl⟩,λa l e=>by simp at e⟩
 ·intro ss c ih od ok hd;obtain⟨d1,_,d3⟩:=N9.mp od;obtain⟨lc,n1,s1,s7⟩:=ok c A5;obtain⟨rel,en⟩:=ih d1 (λd hd=>ok d (by simp[hd])) (λd ed=>hd d (by
   rw[F7 (B3.mp ed).1];exact ed))
  have k:((ww left top ss).y<c.y/\left<=c.x)\/((ww left top ss).y=c.y/\((ww left top ss).x<c.x\/((ww left top ss).rs=[]/\(ww left top ss).x=c.x))):=by
   rcases T8 ss with rfl|⟨l,b,rfl⟩
   ·obtain⟨h1,h2⟩:=hd c rfl;exact .inr ⟨h2.symm,.inr ⟨rfl,h1.symm⟩⟩
   ·rw[T9]at en d3⊢;obtain⟨y1,x1⟩:=en b l rfl;rw[y1,x1];rcases d3 b A5 c (C4.mpr rfl)with h|⟨h1,h2⟩
    ·exact .inl ⟨h,lc⟩
    ·exact .inr ⟨h1,.inl h2⟩
  rw[RF,Te,TB];refine⟨We rel n1 s1 s7 k,λa l e=>?_⟩;have ea:c=a:=by
   have:=A0e List.getLast? e
   simpa using this
  rw[<-ea];exact ww_end (k.imp (λz=>z.1) λz=>z.1)
structure RB(S:RS):Prop where
 r1:-(2^40)<=S.r
 r2:S.r<=2^40
 d1:-(2^40)<=S.d
 d2:S.d<=2^40
 ok:∀r∈S.rs,Oc r
structure CB(c:Cl):Prop where
 x1:-(2^40)<=c.x
 x2:c.x<2^40
 y1:-(2^40)<=c.y
 y2:c.y<2^40
 s1:1<=c.s
 s7:c.s<=7
theorem VZ{u v:Int}{c:Nat}(h:u<v)(h1:-(2^40)<=u)(h2:v<=2^40)(hc:c∈sg):Oc ⟨(v-u).toNat,c⟩:=by
 rw[show(2:Int)^40=1099511627776 by decide]at h1 h2;refine⟨by show 1<=(v-u).toNat;lia,?_,hc⟩;show(v-u).toNat<10^13;rw[show 10^13=10000000000000 by decide];lia
theorem Pn{rs:List Rn}{r:Rn}(h:∀q∈rs,Oc q)(h2:Oc r):∀q∈rs++[r],Oc q:=λq hq=>by
 rcases C7.mp hq with hq|hq
 ·exact h q hq
 ·rw[C4.mp hq];exact h2
theorem RB.step{left:Int}(l1:-(2^40)<=left)(l2:left<=2^40){S:RS}(h:RB S){c:Cl}(k:CB c):RB (Ek left S c):=by
 have h1:RB (CI left S c):=by
  unfold CI;split
  ·rename_i z;exact⟨l1,l2,k.y1,Int.le_of_lt k.y2,Pn h.ok (VZ z h.d1 (Int.le_of_lt k.y2) A4)⟩
  ·exact h
 have h2:RB (Ds (CI left S c) c):=by
  unfold Ds;split
  ·rename_i z;exact⟨h1.r1,h1.r2,h1.d1,h1.d2,Pn h1.ok (VZ z h1.r1 (Int.le_of_lt k.x2) A4)⟩
  ·exact h1
 have:=k.x1;have:=k.x2;exact⟨by show -(2^40)<=c.x+1;lia,by show c.x+1<=2^40;lia,h2.d1,h2.d2,Pn h2.ok ⟨B1 _,by show 1<10^13;decide,(sgl c.s k.s7 k.s1).2.2⟩⟩
theorem rcs_ok{left top:Int}(l1:-(2^40)<=left)(l2:left<=2^40)(t1:-(2^40)<=top)(t2:top<=2^40){cs:List Cl}:(∀c∈cs,CB c)->RB (rcs left top cs):=by
 refine FT (p:=λcs=>(∀c∈cs,CB c)->RB (rcs left top cs)) (λ_=>⟨l1,l2,t1,t2,λr hr=>by cases hr⟩) (λcs c ih h=>?_) cs;rw[TB];exact RB.step l1 l2 (ih λd hd=>h d (by simp[hd])) (h c A5)
theorem ww_len(left top:Int){ss:List S4}:(ww left top ss).rs.length<=3*ss.length:=by
 refine FT (p:=λss=>(ww left top ss).rs.length<=3*ss.length) (B1 _) (λss c ih=>?_) ss;rw[Te,B0,D8];generalize ww left top ss=W at ih;have h1:(BU left W c).rs.length<=W.rs.length+1:=by
  unfold BU;split
  ·rw[B0];exact B1 _
  ·exact P3 _
 have h2:(Cp (BU left W c) c).rs.length<=(BU left W c).rs.length+1:=by
  unfold Cp;split
  ·rw[B0];exact B1 _
  ·exact P3 _
 show((Cp (BU left W c) c).rs++[_]).length<=_;rw[B0,D8];lia
structure Stp(x y:Int)(ss:List S4):Prop where
 ord:Ord ss
 ok:∀c∈ss,Ta c
 le:∀c∈ss,x<=c.x/\y<=c.y
 hd:∃c,ss[0]?=some c/\c.x=x/\c.y=y
 few:ss.length<=3
theorem Stp.t{x y:Int}{ss:List S4}(h:Stp x y ss):tog (rcs x y (BG ss)).rs=(ww x y ss).rs:=by
 obtain⟨c,ec,h1,h2⟩:=h.hd;exact(rel_all h.ord (λd hd=>⟨(h.le d hd).1,(h.ok d hd).n1,(h.ok d hd).s1,(h.ok d hd).s7⟩) λd ed=>by
  rw[ec]at ed;cases ed;exact⟨h1,h2⟩).1.t
theorem Stp.sh{x y:Int}{ss:List S4}(h:Stp x y ss)(le:(BG ss).length<=4096):ShOk (BG ss) (Gs ss) x y:=by
 obtain⟨c0,e0,ex,ey⟩:=h.hd;have m0:c0∈ss:=D9 e0;have k0:=h.ok c0 m0;obtain⟨a1,a2,a3,a4⟩:=k0.li;have n0:=k0.n1;have i0:(⟨c0.x,c0.y,c0.s⟩:Cl)∈BG ss:=Jp.mpr ⟨c0,m0,⟨P4 _,by show c0.x<c0.x+(c0.n:Int);lia,rfl⟩,rfl⟩;have cb:∀d∈BG ss,CB d/\x<=d.x/\y<=d.y:=λd hd=>by
  obtain⟨c,hc,⟨i1,i2,i3⟩,e⟩:=Jp.mp hd;have k:=h.ok c hc;obtain⟨b1,b2,b3,b4⟩:=k.li;have l:=h.le c hc;exact⟨⟨by lia,by lia,by lia,by lia,by rw[e];exact k.s1,by rw[e];exact k.s7⟩,by lia,by lia⟩
 have e40:(2:Int)^40=1099511627776:=by decide
 have e13:10^13=10000000000000:=by decide
 have ww3:=ww_len x y (ss:=ss);have f3:=h.few;refine⟨RE h.ord λc hc=>(h.ok c hc).s1,Yz h.ord,λz=>(by rw[z]at i0;cases i0),le,λc hc=>Nat.lt_succ_of_le (cb c hc).1.s7,⟨_,i0,ex⟩,λc hc=>(cb c hc).2.1,⟨_,i0,ey⟩,λc hc=>(cb c hc).2.2,?_,(rcs_ok (by rw[<-ex];exact a1) (by rw[<-ex];lia) (by rw[<-ey];exact a2) (by rw[<-ey];lia) λc hc=>(cb c hc).1).ok,?_,?_⟩
 ·rw[h.t];lia
 ·rw[e40]at a1 a3;rw[e13];lia
 ·rw[e40]at a2 a4;rw[e13];lia
theorem Stp.shT{x y:Int}{ss:List S4}(h:Stp x y ss):shT x y (BG ss)=Da x++44::(Da y++58::txt (ww x y ss).rs):=by
 unfold J.shT;rw[h.t]
theorem Alt.w{l:List (Nat×Nat)}(h:Alt l):∀q∈l,QOw q:=by
 induction h with
 |one q h =>
  intro p hp;rw[C4.mp hp];exact h.w
 |more g q h hg hq ih =>
  intro p hp;rcases C7.mp hp with hp|hp
  ·rcases C7.mp hp with hp|hp
   ·exact ih p hp
   ·rw[C4.mp hp];exact hg.w
  ·rw[C4.mp hp];exact hq.w
theorem Tb.l{q:Nat×Nat}(h:Tb q):isL q=true:=X7 ⟨by have:=h.s1;lia,by have:=h.s7;lia⟩
theorem Vv.l{q:Nat×Nat}(h:Vv q):isL q=false:=X6 λz=>by have:=h.s;lia
theorem Alt.lets{l:List (Nat×Nat)}(h:Alt l):2*GU l=l.length+1:=by
 induction h with
 |one q h =>
  show 2*List.countP isL [q]=1+1;rw[Q9,X9 h.l]
 |more g q h hg hq ih =>
  unfold J.GU at ih⊢;rw[V5,V5,Q9,Q9,X9 hq.l,hg.l,B0,B0,D8,D8];show 2*(_+0+1)=_;lia
theorem sw_lets(x y:Int)(l:List (Nat×Nat)):(sw x y l).l.length=GU l:=by
 refine FT (p:=λl=>(sw x y l).l.length=GU l) rfl (λl q ih=>?_) l;rw[Pg];unfold GU at ih⊢;rw[V5,Q9,<-ih];unfold Cr isL;by_cases z8:q.2=8
 ·rw[X9 z8,X6 (λz=>z.2 z8)];rfl
 rw[X8 z8];by_cases z0:q.2=0
 ·rw[X9 z0,X6 (λz=>z.1 z0)];rfl
 rw[X8 z0,X7 ⟨z0,z8⟩,X9 rfl];show(_++[_]).length=_;rw[B0,D8]
theorem stp_of{x y:Int}{l:List (Nat×Nat)}(h:Alt l)(l5:l.length<=5)(li:¬ ∃c∈(sw x y l).l,¬CO c.x c.y c.n 1 (2^40)):Stp x y (sw x y l).l:=by
 have s:=alt_s x y h;have e:=h.lets;refine⟨s.ord,λc hc=>⟨?_,(s.ok c hc).1,(s.ok c hc).2.1,(s.ok c hc).2.2⟩,s.le,s.hd,by rw[sw_lets];lia⟩;by_cases z:CO c.x c.y c.n 1 (2^40)
 ·exact z
 ·exact absurd ⟨c,hc,z⟩ li
theorem wk_all(x y:Int)(l:List (Nat×Nat)):(wk x y l).φ=Gs (sw x y l).l/\((wk x y l).far ↔ ∃c∈(sw x y l).l,¬CO c.x c.y c.n 1 (2^40)):=by
 have h:=wk_sw x y l l.length;rw[F2]at h;exact h.2.2
theorem Wh{ss:List S4}{j:Nat}{c:S4}(h:ss[j]?=some c):Gs (ss.take (j+1))=NZ (bxS c) c.s (Gs (ss.take j)):=by
 rw[D3,h];exact IG _ _
def TN(ss:List S4):Int:=(ss.map λc=>(c.n:Int)).sum
theorem Rk(ss:List S4):TN ss=((BG ss).length:Int):=by
 rw[SY];unfold TN;induction ss with
 |nil=>rfl
 |cons c ss ih =>
  rw[C9,C9,U3,U3,ih];lia
theorem SU{G:Gv}(ok:GOk G){n f:Nat}(l:Al G f ((n+1:Nat):Int)){ss:List S4}(h:Ord ss)(h1:∀c∈ss,1<=c.s)(e:∀u v,fieldF G n f u v=Gs ss u v):Bf G (n+1) f=TN ss:=by
 have d:=RE h h1;rw[Rk];exact Of.cnt ok l ⟨d.nd,λc=>by rw[d.mem c,e]⟩
theorem NA{G r:Gv}(e:G=G0++r):∀{n:Nat},n<=48->Sol G 0 n (bareN n)
 |0,_=>rfl
 |n+1,h=>⟨bareN n,NA e A0,Qh e n A0⟩
theorem Mn{g:GA}{H0 H H':Hp}(ng:∀y∈BM g,H0 y=none)(s:Az H0 H)(f:Fr g H H'):Az H0 H':=λb o e=>f b o (s _ _ e) (λq=>by subst q;rw[ng _ (by simp[BM])]at e;cases e) (λq=>by subst q;rw[ng _ (by simp[BM])]at e;cases e) (λq=>by subst q;rw[ng _ (by simp[BM])]at e;cases e)
theorem keep_fx{g:GA}{H0 H H':Hp}(ng:∀y∈BM g,H0 y=none)(s:Az H0 H)(f:Fx (frA g) H H'):Az H0 H':=λb o e=>f b o (s _ _ e) λm=>by
 rw[ng b (by simp[BM,frA]at *;lia)]at e;cases e
theorem keep_q{g:GA}{H0 H H':Hp}(ng:∀y∈BM g,H0 y=none)(s:Az H0 H)(f:FrQ g H H'):Az H0 H':=λb o e=>f b o (s _ _ e) (λq=>by subst q;rw[ng _ (by simp[BM])]at e;cases e) (λq=>by subst q;rw[ng _ (by simp[BM])]at e;cases e)
theorem keep_o{d:Addr}{H0 H H':Hp}(nd:H0 d=none)(s:Az H0 H)(f:FrO d H H'):Az H0 H':=λb o e=>f b o (s _ _ e) (As e nd)
theorem kit_str(K:PySem.W.Frag):kitOne K (.type "str") (.type "str")=some true:=by kernel_rfl
theorem Wu {x y:Int} {l:List (Nat×Nat)} (ok:∀q∈l,QOw q) (l5:l.length<=5) (xb:x.natAbs<10^13) (yb:y.natAbs<10^13) {zs:List Str} (ez:(zs.map λz=>z.cps.toList)=(l.map rnQ).map wd) :
  JoinOk (Str.ofString "") zs=true/\(Str.ofString (toString x)++Str.ofString "," ++ Str.ofString (toString y)++Str.ofString ":").length+(Str.join (Str.ofString "") zs).length<=1000/\(Str.ofString (toString x)++Str.ofString "," ++ Str.ofString (toString y)++Str.ofString ":" ++ Str.join (Str.ofString "") zs).cps.toList=Wv x y l:=by
 have ej:(Str.join (Str.ofString "") zs).cps.toList=txt (l.map rnQ):=by
  rw[Tx.JR,show(Str.ofString "").cps.toList=[] by decide +kernel,Tx.Qd,ez];rfl
 have zl:zs.length=l.length:=by
  have:=A0e List.length ez;rw[A9,A9,A9]at this;exact this
 have wl:∀q∈l,(wd (rnQ q)).length<=31:=λq hq=>Pa (S9 (ok q hq).a2 (by show 10^13<10^30;decide));have zm:∀t∈zs,t.length<=31:=λt ht=>by
  have:t.cps.toList∈(l.map rnQ).map wd:=by rw[<-ez];exact D5.mpr ⟨t,ht,rfl⟩
  obtain⟨r,hr1,hr2⟩:=D5.mp this;obtain⟨q,hq,rfl⟩:=D5.mp hr1;rw[Nu.len,<-hr2];exact wl q hq
 have tl:∀{m:List (Nat×Nat)},(∀q∈m,(wd (rnQ q)).length<=31)->(txt (m.map rnQ)).length<=31*m.length:=by
  intro m;induction m with
  |nil=>exact λ_=>B1 _
  |cons q m ih =>
   intro h;have h1:=h q (D7 ..);have h2:=ih λq hq=>h q (B9 _ hq);unfold txt at *
   rw[C9,C9,X2,B0,D1];lia
 have c1:(Str.ofString ",").cps.toList=[44]:=by decide +kernel
 have c2:(Str.ofString ":").cps.toList=[58]:=by decide +kernel
 refine⟨Tx.Qc 31 zm ?_,?_,?_⟩
 ·rw[zl,show(Str.ofString "").length=0 by decide +kernel];lia
 ·have h1:=tl wl;have h2:=GI xb;have h3:=GI yb;rw[Nu.len,Nu.len,ej,Tx.AJ,Tx.AJ,Tx.AJ,DW,DW,c1,c2];simp only[B0,D1,List.length_nil];lia
 ·rw[Tx.AJ,Tx.AJ,Tx.AJ,Tx.AJ,DW,DW,ej,c1,c2];unfold Wv;simp
seal L2.PA L2.PE L2.PS L2.PSs L2.PT L2.PW
section
variable{P:Program}{w:World}{K:PySem.W.Frag}{mg:Str->Option Value}{base:Heap}{a:Ad}
theorem ok_law{f:Addr}{fd:FuncData}(F:Fun K "law" "law" QK f fd)(T:Top K mg a)(cE:CalC P w K mg base CX0 2 "Grove" a.c_Grove GH (Pk a))(aB:Cw P w K mg base CX0 4 a.c_Grove "solid" CN (Jt a))(bT:Cal P w K mg base CX0 103 "filled" Ik (Mz a))(aQ:Cal P w K mg base CX0 1 "_law_at" Lh (spAt K))(bP:Cal P w K mg base CX0 1 "_law_whole" GD VM)(bU:Cal P w K mg base CX0 1 "_law_bits" Il Se)(bA:Cal P w K mg base CX0 2 "_law_place" GE spPl)(aU:Cal P w K mg base CX0 55 "_law_count" Dv (spLC a 50))(bJ:Cal P w K mg base CX0 2 "_law_gap_by" FL spGy)(aY:Cal P w K mg base CX0 2 "_law_run_by" FJ spRy)(aD:Cal P w K mg base CX0 1 "_law_run_text" CV spRt)(bH:Cal P w K mg base CX0 1 "_law_strips" FI spSt)(bI:Cal P w K mg base CX0 1 "_law_leaves" FK spLe)(bD:Cal P w K mg base CX0 2 "_law_written" Fc spWr)(bE:Cal P w K mg base CX0 106 "_law_read_by" Fd (UC K a (.int 0) (spPat K a)))(b7:Cal P w K mg base CX0 104 "_law_shown_by" Er (UC K a (.str "") (spShP a))):AC P w K mg base CX0 107 f fd p_law (Tu K):=by
 refine F.ok BW (λvs H Q E h=>?_) (λcdv A outer s H vs Q E hr h=>?_)
 ·obtain⟨l,ns,rfl,_⟩:=h;rfl
 ·obtain⟨l,ns,rfl,hS,hlen,kq⟩:=h;refine⟨_,(Ab (Aj (i:=1) BW.nd rfl (Or.inl rfl) (Aq bU (rm hr) rfl Ao (Aa (Aq aQ (rm hr) rfl Ao (Aa (pv 0) (AX Ac))) Ac))) (Ab (Aj (i:=2) BW.nd rfl (Or.inl rfl) (Aq bA (rm hr) rfl Ao (Aa (Aq aQ (rm hr) rfl Ao (Aa (pv 0) (AX Ac))) (AX (Aa (pv 1) Ac))))) (Ab (Aj (i:=3) BW.nd rfl (Or.inl rfl) (Aq bA (rm hr) rfl Ao (Aa (Aq aQ (rm hr) rfl Ao (Aa (pv 0) (AX Ac))) (AX (Aa (pv 1) Ac))))) (Ab (Aj (i:=4) BW.nd rfl (Or.inl rfl) (BP (Aa (Aq aY (rm hr) rfl Ao (Aa (Aq aQ (rm hr) rfl Ao (Aa (pv 0) (AX Ac))) (AX Ac))) Ac))) (Ab (Cv A0d rfl (IF rfl T.b_range (BH BR (Aq aQ (rm hr) rfl Ao (Aa (pv 0) (AX Ac))) Af Ac)) (AD (i:=5) BW.nd rfl (Or.inl rfl)) (Ab (Be (BV K7 K9 A0a Bh (pv 4) (Aa (Aq bJ (rm hr) rfl Ao (Aa (Aq aQ (rm hr) rfl Ao (Aa (pv 0) (BH AV Af (AA Es Af (pv 5)) Ac))) (BH AV Af (pv 5) Ac))) Ac))) (Ae (Be (BV K7 K9 A0a Bh (pv 4) (Aa (Aq aY (rm hr) rfl Ao (Aa (Aq aQ (rm hr) rfl Ao (Aa (pv 0) (BH AV Af (AA Es Af (pv 5)) Ac))) (BH AV Af (pv 5) Ac))) Ac)))))) (Ab (Aj (i:=6) BW.nd rfl (Or.inl rfl) (Aq bH (rm hr) rfl Ao (Aa (pv 2) (Aa (pv 3) (Aa (pv 4) Ac))))) (Ab (Aj (i:=7) BW.nd rfl (Or.inl rfl) (Wt cE (rm hr) rfl Ao)) (Ab (Sl (Aq bE (rm hr) rfl Ao (Aa (pv 7) (BH Jo (QS (pv 2) Bn (pv 3) Bn) (BV A1d A7d A7e PX Bn (Aa (Dt rfl (Cd.of (So:=Ai QK) (No:=WK) (N:=["_law_run"]) (k:=1) (cs:=[]) rfl rfl A1) (Cm (pv 4)) (λ_ _ _=>(Cf (i:=0) A1 rfl rfl)) (λ_ _ _=>CS) (λ_ _ _=>(Aq aD (rm hr) rfl Ao (Aa (pv 0) Ac)))) Ac)) Ac))) (El rfl (AH (AD (i:=8) BW.nd rfl (Or.inl rfl)) (AH (AD (i:=9) BW.nd rfl (Or.inl rfl)) CT)))) (Ab (AB (BK (Aq bI (rm hr) rfl Ao (Aa (pv 6) Ac))) (Ae (An (BY BS (pv 8) Bn (Av _)))) Au) (Ab (AB (PW.pt (EX (Ar JD (pv 8) Bn (Av _)) (DH (Cj (BK (Aq bP (rm hr) rfl Ao (Aa (pv 9) Ac))))))) (Ae (An IZ)) Au) (Ab (Aj (i:=10) BW.nd rfl (Or.inl rfl) (AE (pv 7) aB (rm hr) Ao (AX (AX Ac)))) (Ab (Cv A0d rfl (pi_rev rfl T.b_reversed (Aa (pv 6) Ac)) (El rfl (AH (AD (i:=11) BW.nd rfl (Or.inl rfl)) (AH (AD (i:=12) BW.nd rfl (Or.inl rfl)) (AH (AD (i:=13) BW.nd rfl (Or.inl rfl)) (AH (AD (i:=14) BW.nd rfl (Or.inl rfl)) CT))))) (Ae (Aj (i:=10) BW.nd rfl (Or.inl rfl) (Aq bT (rm hr) rfl Ao (Aa (pv 7) (Aa (pv 10) (BE (Aa (pv 11) (Aa (pv 12) (Aa (pv 13) (AX Ac)))) (Aa (pv 14) Ac)))))))) (Ab (Aj (i:=15) BW.nd rfl (Or.inl rfl) (Aw (Nv rfl) rfl T.b_sum A7c (Aa (Dt rfl (Cd.of (So:=Ai QK) (No:=WK) (N:=["_law_strip"]) (k:=1) (cs:=[]) rfl rfl A1) (Cm (pv 6)) (λ_ _ _=>(Cf (i:=0) A1 rfl rfl)) (λ_ _ _=>CS) (λ_ _ _=>(Am (DT (K:=K) rfl) (pv 0) Af (λ_ _=>rfl)))) Ac))) (Ab (AB (PW.pt (EX (Ar JD (pv 9) (pv 10) (Av _)) (DH (Ar JD (Aq aU (rm hr) rfl Ao (Aa (pv 7) (Aa (pv 9) (Aa MM Ac)))) (pv 15) (Av _))))) (Ae (An IZ)) Au) (Ab (AB (MJ Ja JE Af (pv 15) Af) (Ae (An IZ)) Au) (Ab (Sl (Aq b7 (rm hr) rfl Ao (Aa (pv 7) (Aa (pv 9) Ac))) (El rfl (AH (AD (i:=8) BW.nd rfl (Or.inl rfl)) (AH (AD (i:=16) BW.nd rfl (Or.inl rfl)) CT)))) (Ab (AB (Ar Dg (pv 15) Af (Av _)) (Ae (An (BY BS (pv 8) Bn (Av _)))) Au) (Ae (An (FF (BY BS (pv 8) Bn (Av _)) (FF (Aw Ba rfl T.b_isinstance K1 (Aa (pv 16) (Aa (EB (v:=.ty "str") rfl T.b_str A3g rfl) Ac))) (Jn (BY BS (pv 16) (Aq bD (rm hr) rfl Ao (Aa (pv 6) Ac)) (Av _)))))))))))))))))))))))),?_⟩
  try dsimp only[cxK]
  refine Bw ?_;intro r0 s0 k0 hk0 E0_;refine xq1 rfl ⟨l,ns,0,rfl,hS,by decide,_,rfl,λb b40=>?_⟩;refine hk0 ?_;refine Bw ?_;intro r1 s1_ k1 hk1 E1;refine xq1 rfl ⟨l,ns,1,rfl,hS,by decide,(xq1 rfl ⟨_,_,b,rfl,by decide,by decide,b40,λx x1 x2=>?_⟩)⟩;refine hk1 ?_;refine Bw ?_;intro r2 s2_ k2 hk2 E2;refine xq1 rfl ⟨l,ns,2,rfl,hS,by decide,(xq1 rfl ⟨_,_,b,rfl,by decide,by decide,b40,λy y1 y2=>?_⟩)⟩;refine hk2 ?_;refine Bw ?_;intro r3 s3_ k3 hk3 E3;refine xq1 rfl ⟨l,ns,3,rfl,hS,by decide,_,3,rfl,by decide,by decide,λq t H1 qk s1 ht=>?_⟩;refine⟨(by show 1<=sizeLine;decide),λR nR=>?_⟩;have nR0:H R=none:=by
   cases e:H R with
   |none=>rfl
   |some o=>rw[s1 _ _ e]at nR;cases nR
  generalize e2:upd H1 R _=H2;have sH2:Az H H2:=s1.trans (e2▸Ak nR);have hR2:H2 R=some (.lst ([t].map V.ref)):=e2▸Ag;have pr2:Paired (Od H2) [t] [q]:=.cons ((e2▸Ak nR:Az H1 H2) _ _ ht) .nil;refine hk3 ?_;refine Bw ?_;intro r4 s4_ k4 hk4 E4;obtain⟨m,hm⟩:=W8 (show 0<=atN ns 4%3 by lia);refine xq1 rfl ⟨l,ns,4,rfl,sH2.seq hS,by decide,(xq2 rfl rfl ⟨(by show(0:Int)<3;decide),(xq1 rfl ⟨by lia,by lia,?_⟩)⟩)⟩;rw[hm,L8];refine FW (n:=m) (λj σ H4=>∃(ts:List Addr)(lr:List (Nat×Nat))(u5:Option V),σ=[some (.ref l),some (.int b),some (.int x),some (.int y),some (.ref R),u5,none,none,none,none,none,none,none,none,none,none,none]/\Az H H4/\H4 R=some (.lst (ts.map V.ref))/\Paired (Od H4) ts lr/\Alt lr/\lr.length=2*j+1) ⟨[t],[q],none,rfl,sH2,hR2,pr2,.one q qk,rfl⟩ ?_ ?_
  ·rintro j σ H4 hj ⟨ts,lr,u5,rfl,s4,hR4,pr4,alt,li⟩;have lt:=A0b pr4;refine Bw ?_;intro ra sa ka hka Ea;refine xq1 rfl ⟨.inl ⟨rfl,_,SqL.of hR4⟩,?_⟩;refine xq1 rfl (xq1 rfl (xq2 rfl rfl ⟨.inl ⟨by decide,by decide⟩,_,_,rfl,rfl,l,ns,_,rfl,s4.seq hS,(by show 0<=5+2*(0+(j:Int));lia),?_⟩));refine xq1 rfl (xq2 rfl rfl ⟨_,5+(0+(j:Int)),rfl,by lia,by lia,λg t H5 gk s5 ht=>?_⟩);have hR5:=s5 _ _ hR4;refine⟨R,(xq2 rfl rfl ⟨hR5,by rw[A9];exact Bu A0,?_⟩)⟩;generalize e6:upd H5 R _=H6;have tp:∀{b:Addr}{ys:List V},H5 b=some (.tup ys)->H6 b=some (.tup ys):=λ{b ys} e=>by rw[<-e6,At (AM e hR5 A3)];exact e
   have s6:Az H H6:=λb' o e=>by rw[<-e6,At (As e nR0)];exact s5 _ _ (s4 _ _ e)
   have hR6:H6 R=some (.lst ((ts++[t]).map V.ref)):=by rw[<-e6,Ag,C1];rfl
   have pr6:Paired (Od H6) (ts++[t]) (lr++[g]):=A2h (PairedM.imp (λb c z=>tp (s5 _ _ z)) pr4) (tp ht);clear tp hR5 s5 e6 s4 hR4 pr4 ht;refine hka ?_;refine xq1 rfl ⟨.inl ⟨rfl,_,SqL.of hR6⟩,?_⟩;refine xq1 rfl (xq1 rfl (xq2 rfl rfl ⟨.inl ⟨by decide,by decide⟩,_,_,rfl,rfl,l,ns,_,rfl,s6.seq hS,(by show 0<=6+2*(0+(j:Int));lia),?_⟩));refine xq1 rfl (xq2 rfl rfl ⟨_,15+(0+(j:Int)),rfl,by lia,by lia,λq t2 H7 qk s7 ht=>?_⟩);have hR7:=s7 _ _ hR6;refine⟨R,(xq2 rfl rfl ⟨hR7,by rw[A9,B0];exact Bu (by show _+1<_;lia),?_⟩)⟩;generalize e8:upd H7 R _=H8;have tp:∀{b:Addr}{ys:List V},H7 b=some (.tup ys)->H8 b=some (.tup ys):=λ{b ys} e=>by rw[<-e8,At (AM e hR7 A3)];exact e
   refine⟨ts++[t]++[t2],lr++[g]++[q],(xq1 rfl ⟨λb' o e=>?_,?_,A2h (PairedM.imp (λb c z=>tp (s7 _ _ z)) pr6) (tp ht),.more g q alt gk qk,?_⟩)⟩
   ·rw[<-e8,At (As e nR0)];exact s7 _ _ (s6 _ _ e)
   ·rw[<-e8,Ag,C1 (l₁:=ts++[t])];rfl
   ·rw[B0,B0,li];rfl
  clear hR2 pr2 sH2 e2 nR ht qk s1;rintro σ H4 ⟨ts,lr,u5,rfl,s4,hR4,pr4,alt,li⟩;have lr5:lr.length<=5:=by lia
  have lt:=A0b pr4;clear li hm;refine hk4 ?_;refine Bw ?_;intro r5 s5_ k5 hk5 E5;refine xw3 rfl rfl rfl ⟨x,y,R,ts,lr,rfl,hR4,pr4,by lia,λL us H5 nL s5 hL pu=>?_⟩;have pr5:=PairedM.imp (λb c z=>s5 _ _ z) pr4;have hR5:=s5 _ _ hR4;have sH5:=s4.trans s5;clear hR4 pr4 s4 s5 nL;refine hk5 ?_;refine Bw ?_;intro r6 s6_ k6 hk6 E6;intro gx dx' nx ndx nex;refine⟨gx,dx',rfl,Ag,λg H6 gp N=>⟨rfl,?_⟩⟩;have s6:Az H5 H6:=λb o e=>N.kp b o (by rw[At (As e nx),At (As e ndx)];exact e) (gp▸As e nx);subst gp;have fu:=AF.new N;have ng:=N.none;clear N nx ndx nex;refine hk6 ?_;refine Bw ?_;intro r7 s7_ k7 hk7 E7;have p40:(2:Int)^b<=2^40:=by
   have:=Y8 (show 0<2 by decide) b40
   exact_mod_cast this
  have e40:(2:Int)^40=1099511627776:=by decide
  have e13:10^13=10000000000000:=by decide
  have xb:x.natAbs<9999999999999:=by rw[e40]at p40;lia
  have yb:y.natAbs<9999999999999:=by rw[e40]at p40;lia
  have xb3:x.natAbs<10^13:=by rw[e13];lia
  have yb3:y.natAbs<10^13:=by rw[e13];lia
  refine⟨_,rfl,_,rfl,x,rfl,IM xb3,Str.ofString ",",rfl,by decide +kernel,_,rfl,y,rfl,IM yb3,Str.ofString ":",rfl,by decide +kernel,rfl,_,rfl,R,rfl,⟨_,SqL.of (s6 _ _ hR5)⟩,?_⟩;refine IA (xs:=ts.map V.ref) (λi acc Hx=>H6=Hx/\∃zs:List Str,acc=zs.map V.str/\(zs.map λz=>z.cps.toList)=((lr.take i).map rnQ).map wd) ⟨rfl,[],rfl,rfl⟩ (λi acc Hx _ z=>SqL.of (by rw[<-z.1];exact s6 _ _ hR5)) ?_ ?_
  ·rintro i v acc Hx ev ⟨rfl,zs,rfl,ez⟩;rw[B7]at ev;obtain⟨t,et,rfl⟩:=F0.mp ev;obtain⟨q,eq,ht⟩:=PairedM.getL pr5 et;have hi:i<lr.length:=(B3.mp eq).1;have lz:zs.length<=i:=by
    have:=A0e List.length ez;rw[A9,A9,A9,L5]at this;lia
   refine⟨⟨[some (.ref t)],rfl,rfl⟩,by rw[A9];exact Bu A0,LQ (xq1 rfl ⟨t,q,rfl,s6 _ _ ht,alt.w q (D9 eq),λz hz=>⟨rfl,zs++[z],by rw[C1];rfl,?_⟩⟩)⟩;rw[C1,ez,D3,eq];show _++[z.cps.toList]=List.map wd (List.map rnQ (lr.take i++[q]));rw[hz,C1,C1];rfl
  rintro acc Hx ⟨rfl,zs,rfl,ez⟩ p7 np7;rw[A9,lt,F2]at ez;generalize e7:upd H6 p7 _=H7;have s7:Az H6 H7:=e7▸Ak np7;have h7:H7 p7=some (.lst (zs.map V.str)):=e7▸Ag;obtain⟨jo,le,ep⟩:=Wu alt.w lr5 xb3 yb3 ez;refine⟨_,p7,zs,rfl,rfl,SqL.of h7,jo,(xq2 rfl rfl ⟨LK A0,?_⟩)⟩;rw[<-Tx.Qt]at le;generalize Str.ofString (toString x)++Str.ofString "," ++ Str.ofString (toString y)++Str.ofString ":" ++ Str.join (Str.ofString "") zs=z at ep le⊢;have fu7:=fu.same s7;have sH7:=s6.trans s7;clear ez jo h7 e7 np7 hR5 pr5 fu s7;obtain⟨ewk,efar⟩:=wk_all x y lr;have elet:=alt.lets;refine⟨λv H8=>¬(wk x y lr).far/\∃(r B:Nat)(G8:Gv),v=.int r/\Az H5 H8/\AF a H8 g G8/\AU G0 G8 1468688/\Vl G8 r (wk x y lr).φ B,λj H8=>j=7/\(wk x y lr).far/\Az H5 H8,rfl,λQ' E' k1 k2=>⟨g,G0,x,y,z,lr,rfl,fu7,ep,le,xb,yb,alt.w,by lia,by lia,by rw[Qi];decide,λnf r G8 H8 B8 fr8 fu8 go8 vl8=>k1 _ _ ⟨nf,r,B8,G8,rfl,Mn ng sH7 fr8,fu8,go8,vl8⟩,λfr c G8 H8 ki fr8 _ _=>k2 c 7 H8 ki ⟨rfl,fr,Mn ng sH7 fr8⟩⟩,?_,?_⟩
  rotate_left
  ·rintro j H8 t8 H9 ⟨rfl,far,s8⟩ s9 ht8;refine Iv ht8 ?_;refine hk7 ?_;have s09:=s8.trans s9;refine Bw ?_;intro r8 s8_ k8 hk8 E8;refine xq1 rfl ⟨L,us,(sw x y lr).l,rfl,s09 _ _ hL,PairedM.imp (λb c z=>s09 _ _ z) pu,λbb hb=>⟨bb,rfl,?_⟩⟩;obtain rfl:bb=true:=hb.mpr (efar.mp far);refine Bq ?_;refine xq1 rfl ⟨rfl,?_⟩;rw[show decide (V.str (Og 7)=V.str (Str.ofString "far"))=true by decide +kernel];exact kq _
  rintro v H8 t8 H9 ⟨nf,r,B8,G8,rfl,s8,fu8,go8,vl8⟩ s9 ht8;refine Iv ht8 ?_;have s09:=s8.trans s9;have fu9:=fu8.same s9;clear fu7 sH7 s6 fu8 s8 s9 ht8 ep le;refine hk7 ?_;refine Bw ?_;intro r8 s8_ k8 hk8 E8;refine xq1 rfl ⟨L,us,(sw x y lr).l,rfl,s09 _ _ hL,PairedM.imp (λb c z=>s09 _ _ z) pu,λbb hb=>⟨bb,rfl,?_⟩⟩;obtain rfl:bb=false:=by
   cases bb with
   |false=>rfl
   |true=>exact absurd (efar.mpr (hb.mp rfl)) nf
  refine AS ?_;have st:=stp_of alt lr5 λz=>nf (efar.mpr z);rw[ewk]at vl8;refine hk8 ?_;refine Bw ?_;intro r9 s9_ k9 hk9 E9;have ce:(!decide (V.str "" = V.str (Str.ofString "")))=false:=by decide +kernel
  refine xq1 rfl ⟨rfl,(xq1 rfl ?_)⟩;rw[ce];refine AS ⟨_,rfl,_,rfl,_,rfl,AS ?_⟩;refine hk9 ?_;refine Bw ?_;intro r10 s10_ k10 hk10 E10;have g8:=go8.few;rw[Qi]at g8;refine xq1 rfl ⟨g.p,g.dx,(xq1 rfl ⟨fu9.at'.hp,QV g,g,G8,1,0,rfl,fu9.at',fu9.ok,by decide,by decide,by lia,λi G10 H10 fr10 hg10 go10 so10=>?_⟩)⟩;have fu10:=fu9.fr fr10 hg10 go10;have g10:=go10.few;obtain⟨q10,e10⟩:=fu10.g0;have ei:i=bareN 1:=Sol.uniq fu10.ok so10 (NA e10 A4);subst ei;have vb:=Th e10 fu10.ok;have s10:=Mn ng s09 fr10;have vl10:=vl8.app fu9.ok go10;clear fu9 s09 fr10 hg10 so10 go8 vl8;refine hk10 ?_;refine Bw ?_;intro r11 s11_ k11 hk11 E11;generalize hss:(sw x y lr).l=ss at st pu vl10 hb efar ewk;have lu:=A0b pu;have f3:=st.few;refine xq1 rfl ⟨L,us.map V.ref,rfl,SqL.of (s10 _ _ hL),?_⟩;refine for_rev (xs:=us.map V.ref) (λi σ Hx=>∃(d:Nat)(Gx:Gv)(u5 u11 u12 u13 u14:Option V),σ=[some (.ref l),some (.int b),some (.int x),some (.int y),some (.ref R),u5,some (.ref L),some (.ref g.p),some (.str ""),some (.int r),some (.int d),u11,u12,u13,u14,none,none]/\Az H5 Hx/\AF a Hx g Gx/\AU G10 Gx (gb i)/\Vl Gx d (Gs (ss.reverse.take i)) (bb i)) ⟨bareN 1,G10,u5,none,none,none,none,rfl,s10,fu10,AU.refl fu10.ok,vb⟩ (λi σ Hx _ z=>SqL.of (by obtain⟨_,_,_,_,_,_,_,_,sm,_⟩:=z;exact sm _ _ hL)) ?_ ?_
  ·rintro i v σ Hx hi ev ⟨d,Gx,u5,u11,u12,u13,u14,rfl,sm,fux,gox,vlx⟩;rw[A9]at hi ev;rw[B7]at ev;obtain⟨t,et,rfl⟩:=F0.mp ev;obtain⟨c,ec,ht⟩:=PairedM.getL pu et;have ht:H5 t=some (.tup [.int c.x,.int c.y,.int (c.n:Int),.int (c.s:Int)]):=ht;have ht2:=sm _ _ ht;have er:ss.reverse[i]?=some c:=by
    rw[List.getElem?_reverse A0,<-lu];exact ec
   have ck:=st.ok c (D9 ec);obtain⟨b1,b2,b3,b4⟩:=bg i A0;have gx:=gox.few;refine⟨t,(xq1 rfl ⟨SqT.of ht2,rfl,_,_,rfl,_,_,rfl,_,_,rfl,(xq2 rfl rfl ?_)⟩)⟩;refine xw3 rfl rfl rfl (xw2 rfl rfl ⟨(by show 4<=sizeLine;decide),λt4 nt4=>?_⟩);generalize e4:upd Hx t4 _=Hy;have s4:Az Hx Hy:=e4▸Ak nt4;have h4:Hy t4=some (.tup [.int c.x,.int c.y,.int (c.n:Int),.int 1]):=e4▸Ag;refine xq1 rfl ?_;have c7:=ck.s7;have li:=ck.li;refine Yr (E:=E0) (q:=bxS c) (C:=bb (i+1)) (fux.same s4) vlx h4 (by show(0:Int)<=(c.n:Int);lia) (by show(0:Int)<=1;decide) (λ_ _=>li) A0 (λ_ _=>.inr b1) b3 A0 λd2 G5 H12 fr5 fu5 go5 vl5=>?_;refine⟨d2,G5,_,_,_,_,_,rfl,Mn ng (sm.trans s4) fr5,fu5,(gox.trans go5).mono A0,?_⟩;rw[Wh er];exact vl5
  rintro σ H11 ⟨d,G11,u5,u11,u12,u13,u14,rfl,s11,fu11,go11,vl11⟩;rw[A9,lu,Y1 (by rw[List.length_reverse];exact B1 _)]at vl11;have gl:=gb_le us.length A0;rw[A9]at go11;have g11:=go11.few;have vr11:=vl10.app fu10.ok go11;clear fu10 go11 s10 vl10 go10 e10 vb;obtain⟨q11,e11⟩:=fu11.g0;obtain rfl:r=d:=Vl.eq e11 fu11.ok vr11 vl11 λu v=>(phi_rev st.ord.dis u v).symm;clear vl11;refine hk11 ?_;refine Bw ?_;intro r12 s12_ k12 hk12 E12;refine xq1 rfl ⟨L,rfl,⟨_,SqL.of (s11 _ _ hL)⟩,?_⟩;refine IA (xs:=us.map V.ref) (λi acc Hx=>H11=Hx/\acc=((ss.take i).map λc=>(c.n:Int)).map V.int) ⟨rfl,rfl⟩ (λi acc Hx _ z=>SqL.of (by rw[<-z.1];exact s11 _ _ hL)) ?_ ?_
  ·rintro i v acc Hx ev ⟨rfl,rfl⟩;rw[B7]at ev;obtain⟨t,et,rfl⟩:=F0.mp ev;obtain⟨c,ec,hc⟩:=PairedM.getL pu et;have hi:i<ss.length:=(B3.mp ec).1;have hc:H5 t=some (.tup [.int c.x,.int c.y,.int (c.n:Int),.int (c.s:Int)]):=hc;refine⟨⟨[some (.ref t)],rfl,rfl⟩,Bu (by rw[A9,A9,L5];lia),LQ (xwi rfl rfl rfl (SqT.of (s11 _ _ hc)) (Ah (j:=2) rfl) ⟨rfl,?_⟩)⟩;rw[D3,ec,C1,C1];rfl
  rintro acc Hx ⟨rfl,rfl⟩ M hM;rw[A9,lu,F2];generalize e13h:upd H11 M _=H13;have s13:Az H11 H13:=e13h▸Ak hM;have h13:H13 M=some (.lst ((ss.map λc=>(c.n:Int)).map V.int)):=e13h▸Ag;refine⟨M,ss.map λc=>(c.n:Int),rfl,SqL.of h13,?_⟩;have fu13:=fu11.same s13;have s013:=s11.trans s13;clear fu11 s11 s13 h13 e13h hM;generalize hmn:(ss.map λc=>(c.n:Int)).sum=mn;have emn:TN ss=mn:=hmn;have lmn:mn=((BG ss).length:Int):=by rw[<-emn];exact Rk ss
  refine hk12 ?_;refine Bw ?_;intro r13 s13_ k13 hk13 E13;obtain⟨n,⟨ln,tn,n40⟩,en⟩:=vr11.ex;have cn:=SU fu13.ok ln st.ord (λc hc=>(st.ok c hc).s1) en;rw[emn]at cn;refine xw2 rfl rfl ⟨rfl,(xq1 rfl (Ua rfl ?_))⟩;refine xw2 rfl rfl (λD hD=>?_);generalize e14:upd H13 D _=H14;have s14:Az H13 H14:=e14▸Ak hD;have h14:H14 D=some (.dK []):=e14▸Ag;have nD5:H5 D=none:=by
   cases e:H5 D with
   |none=>rfl
   |some o=>rw[s013 _ _ e]at hD;cases hD
  obtain⟨_,am1,_⟩:=fu13.am;obtain⟨_,bx1,_⟩:=fu13.bx;refine⟨g,G11,r,n+1,D,[],rfl,fu13.same s14,ln,by lia,h14,⟨A0c (As am1 hD),A0c (As bx1 hD)⟩,Oe.nil,by lia,λks' H15 fr15 fu15 hd15 _=>?_⟩;rw[cn];have s15:=keep_o nD5 (s013.trans s14) fr15;clear fu13 s013 s14 h14 e14 am1 bx1 fr15 hd15 hD;refine xq1 rfl ⟨rfl,(xq1 rfl ?_)⟩;rw[X7 rfl];refine AS ?_;refine hk13 ?_;refine Bw ?_;intro r14 s14_ k14 hk14 E14;apply Oz (T:=k14) (fun σ H'=>σ=s14_/\H'=H15)
  ·intro rest;refine xwb rfl rfl rfl (xq1 rfl (Ls (λ_=>(xq2 rfl rfl (xq1 rfl (Ls (λ_=>kq _) (λ_=>rest _ _ ⟨rfl,rfl⟩))))) (λ_=>(xq1 rfl (AS (rest _ _ ⟨rfl,rfl⟩))))))
  rintro σ H' ⟨rfl,rfl⟩;refine hk14 ?_;refine Bw ?_;intro r15 s15_ k15 hk15 E15;refine xw2 rfl rfl ?_;refine⟨λv H8=>¬4096<mn/\∃z:Str,v=.str z/\Az H5 H8/\z.cps.toList=shT x y (BG ss),λj H8=>j=8/\4096<mn/\Az H5 H8,rfl,λQ' E' k1 k2=>⟨g,G11,r,n,Gs ss,rfl,fu15,ln,n40,tn,en,by lia,?_⟩,?_,?_⟩
  ·by_cases z:4096<mn
   ·exact .inl ⟨by rw[cn];exact z,λH' fq fu'=>k2 _ 8 H' (Ye T) ⟨rfl,z,keep_q ng s15 fq⟩⟩
   ·exact .inr ⟨BG ss,x,y,st.sh A0,λzz H' fx fu' ez=>k1 _ _ ⟨z,zz,rfl,keep_fx ng s15 fx,ez⟩⟩
  ·rintro v H8 t8 H9 ⟨nm,z,rfl,s8,ez⟩ s9 ht8;refine Iv ht8 ?_;have s09:=s8.trans s9;refine hk15 ?_;refine Bw ?_;intro r16 s16_ k16 hk16 E16;refine xwb rfl rfl rfl (xq1 rfl ?_);rw[X6 (show ¬(4096:Int)<mn from nm)];refine AS ?_;refine hk16 ?_;refine xq1 rfl ⟨rfl,?_⟩;refine xq1 rfl ?_;rw[X7 rfl];refine Bq ?_;refine xq1 rfl ⟨_,_,_,(xq2 rfl rfl ⟨.of (.str z),kit_str K,(xq1 rfl (Bq ?_))⟩)⟩;refine xw2 rfl rfl ⟨L,us,ss,x,y,rfl,s09 _ _ hL,PairedM.imp (λb c z=>s09 _ _ z) pu,by lia,st.ok,st.hd,λc hc=>(st.le c hc).1,λz2 H10 s10 ez2=>?_⟩;refine⟨rfl,?_⟩;rw[st.shT]at ez;have:z=z2:=Nu.ext (ez.trans ez2.symm);rw[this,X7 rfl];exact kq _
  ·rintro j H8 t8 H9 ⟨rfl,many,s8⟩ s9 ht8;refine Iv ht8 ?_;refine hk15 ?_;refine Bw ?_;intro r16 s16_ k16 hk16 E16;refine xwb rfl rfl rfl (xq1 rfl ?_);rw[X7 (show(4096:Int)<mn from many)];refine Bq ?_;refine xq1 rfl ⟨rfl,?_⟩;rw[show decide (V.str (Og 8)=V.str (Str.ofString "many"))=true by decide +kernel];exact kq _
end
end J
namespace J
open PySem L2
theorem ar1{α:Type}:∀us:List α,us.length=1->∃a0,us=[a0]
 |[a0],_=>⟨a0,rfl⟩
theorem ar2{α:Type}:∀us:List α,us.length=2->∃a0 a1,us=[a0,a1]
 |[a0,a1],_=>⟨a0,a1,rfl⟩
theorem ar3{α:Type}:∀us:List α,us.length=3->∃a0 a1 a2,us=[a0,a1,a2]
 |[a0,a1,a2],_=>⟨a0,a1,a2,rfl⟩
theorem ar4{α:Type}:∀us:List α,us.length=4->∃a0 a1 a2 a3,us=[a0,a1,a2,a3]
 |[a0,a1,a2,a3],_=>⟨a0,a1,a2,a3,rfl⟩
theorem ar5{α:Type}:∀us:List α,us.length=5->∃a0 a1 a2 a3 a4,us=[a0,a1,a2,a3,a4]
 |[a0,a1,a2,a3,a4],_=>⟨a0,a1,a2,a3,a4,rfl⟩
structure Fg(K:PySem.W.Frag)(x:Str)(st:Stmt)(f:Addr)(fd:FuncData):Prop where
 at_:PySem.W.nsIn K mainGlobals x=some (some (.ref f))
 fn:Fun K x x st f fd
structure Fm(K:PySem.W.Frag)(C:Addr)(m q:Str)(st:Stmt)(f:Addr)(fd:FuncData):Prop where
 me:RQ K C m f
 fn:Fun K m q st f fd
structure Fi(K:PySem.W.Frag)(C:Addr)(q:Str)(st:Stmt)(f:Addr)(fd:FuncData):Prop where
 mk_:Mk K C f
 fn:Fun K "__init__" q st f fd
theorem bnd{K:PySem.W.Frag}{x q:Str}{st:Stmt}{f:Addr}{fd:FuncData}{ps:List Str}(F:Fun K x q st f fd)(h:∀(kV doc pm:Value)(an:Option Addr)(cdv ct:Value)(us:List Value),us.length=ps.length->bindArgs (PySem.W.fnOf x q (JQ st) (Fu st) (Ai st) .none kV doc pm an cdv ct) ⟨us,[]⟩=pure (ps.zip us):=by intro _ _ _ _ _ _ us hl;first|(obtain⟨x0,rfl⟩:=ar1 us hl;exact rfl)|(obtain⟨x0,x1,rfl⟩:=ar2 us hl;exact rfl)|(obtain⟨x0,x1,x2,rfl⟩:=ar3 us hl;exact rfl)|(obtain⟨x0,x1,x2,x3,rfl⟩:=ar4 us hl;exact rfl)|(obtain⟨x0,x1,x2,x3,x4,rfl⟩:=ar5 us hl;exact rfl)):BN K fd ps []:=F.binds h
theorem fin{l:PySem.W.OpenLaw}{w:World}{K:PySem.W.Frag}{h:Heap}{mg:Str->Option Value}{fa:Addr}(X:K.In h)(G:h.Ns mainGlobals mg)(hfa:mg "law" = some (.ref fa))
  {c_Grove:Addr} {f0:Addr} {d0:FuncData} {f1:Addr} {d1:FuncData} {f2:Addr} {d2:FuncData} {f3:Addr} {d3:FuncData} {f4:Addr} {d4:FuncData} {f5:Addr} {d5:FuncData} {f6:Addr} {d6:FuncData} {f7:Addr} {d7:FuncData} {f8:Addr} {d8:FuncData} {f9:Addr} {d9:FuncData} {f10:Addr} {d10:FuncData} {f11:Addr} {d11:FuncData} {f12:Addr} {d12:FuncData} {f13:Addr} {d13:FuncData} {f14:Addr} {d14:FuncData} {f15:Addr} {d15:FuncData} {f16:Addr} {d16:FuncData} {f17:Addr} {d17:FuncData} {f18:Addr} {d18:FuncData} {f19:Addr} {d19:FuncData} {f20:Addr} {d20:FuncData} {f21:Addr} {d21:FuncData} {f22:Addr} {d22:FuncData} {f23:Addr} {d23:FuncData} {f24:Addr} {d24:FuncData} {f25:Addr} {d25:FuncData} {f26:Addr} {d26:FuncData} {f27:Addr} {d27:FuncData} {f28:Addr} {d28:FuncData} {f29:Addr} {d29:FuncData} {f30:Addr} {d30:FuncData} {f31:Addr} {d31:FuncData} {f32:Addr} {d32:FuncData} {f33:Addr} {d33:FuncData} {f34:Addr} {d34:FuncData} {f35:Addr} {d35:FuncData} {f36:Addr} {d36:FuncData} {f37:Addr} {d37:FuncData} {f38:Addr} {d38:FuncData} {f39:Addr} {d39:FuncData} {f40:Addr} {d40:FuncData} {f41:Addr} {d41:FuncData} {f42:Addr} {d42:FuncData} {f43:Addr} {d43:FuncData} {f44:Addr} {d44:FuncData} {f45:Addr} {d45:FuncData} {f46:Addr} {d46:FuncData} {f47:Addr} {d47:FuncData} {f48:Addr} {d48:FuncData} {f49:Addr} {d49:FuncData} {f50:Addr} {d50:FuncData} {f52:Addr} {d52:FuncData} {f53:Addr} {d53:FuncData} {f54:Addr} {d54:FuncData} {f55:Addr} {d55:FuncData} {f56:Addr} {d56:FuncData} {f57:Addr} {d57:FuncData} {f58:Addr} {d58:FuncData} {f59:Addr} {d59:FuncData} {f60:Addr} {d60:FuncData} {f61:Addr} {d61:FuncData} {f62:Addr} {d62:FuncData} {f63:Addr} {d63:FuncData} {f64:Addr} {d64:FuncData} {f51:Addr} {d51:FuncData} {t_FIGURES:Tok} {x_FIGURES:Str} {t_MOST_FIGURES:Tok} {t_STATES:Tok} {t_TOP_LEVEL:Tok} {t_LIMIT:Tok} {t_LEAST_LEVEL:Tok} {t_MOST_CELLS:Tok} {t_BLANK_SIGN:Tok} {x_BLANK_SIGN:Str} {t_ROW_SIGN:Tok} {x_ROW_SIGN:Str} {t_STATE_SIGNS:Tok} {x_STATE_SIGNS:Str} {t_RUN_SIGNS:Tok} {x_RUN_SIGNS:Str} {t_MOST_AMOUNT_FIGURES:Tok} {t_MOST_PLACE:Tok} {x_FieldError:Addr} {x_NoNumber:Addr} {x_NoRule:Addr} {x_Restless:Addr} {x_NoSquare:Addr} {x_NoLevel:Addr} {x_NoState:Addr} {x_NoBox:Addr} {x_TooFar:Addr} {x_TooMany:Addr} {x_NoSteps:Addr} {x_NoPattern:Addr} {x_NoName:Addr} {x_NoRow:Addr}
  (cH:PySem.W.nsIn K mainGlobals "Grove" = some (some (.ref c_Grove)))
  (q_Grove:Cls K c_Grove)
  (na_Grove_levels:findIn K (.ref c_Grove) "levels" = some none)
  (na_Grove_parts:findIn K (.ref c_Grove) "parts" = some none)
  (na_Grove_numbers:findIn K (.ref c_Grove) "numbers" = some none)
  (na_Grove_bares:findIn K (.ref c_Grove) "bares" = some none)
  (na_Grove_amounts:findIn K (.ref c_Grove) "amounts" = some none)
  (na_Grove_boxes:findIn K (.ref c_Grove) "boxes" = some none)
  (g0:Fg K "is_whole" Jj f0 d0)
  (g1:Fg K "read_whole" Gg f1 d1)
  (g2:Fg K "without_minus" Ed f2 d2)
  (g3:Fg K "are_figures" DR f3 d3)
  (g4:Fg K "is_state" Jk f4 d4)
  (g5:Fg K "shifted_box" Fv f5 d5)
  (g6:Fg K "least_box" Ct f6 d6)
  (g7:Fg K "lies_within" Fy f7 d7)
  (g8:Fg K "reach_of" Ji f8 d8)
  (g9:Fg K "bare_field" Gj f9 d9)
  (g10:Fg K "widened" JZ f10 d10)
  (g11:Fg K "trimmed" La f11 d11)
  (g12:Fg K "middle_of" Fo f12 d12)
  (g13:Fg K "is_bare_around" DD f13 d13)
  (g14:Fg K "widened_over" EO f14 d14)
  (g15:Fg K "filled" Jz f15 d15)
  (g16:Fg K "check_box" Ic f16 d16)
  (g17:Fg K "part_in" Lb f17 d17)
  (g18:Fg K "mixed" Mj f18 d18)
  (g19:Fg K "mixed_quarters" CA f19 d19)
  (g20:Fg K "split_stretch" Ee f20 d20)
  (g21:Fg K "by_rows" Lc f21 d21)
  (g22:Fg K "cells_of" Gi f22 d22)
  (g23:Fg K "gather_cells" ET f23 d23)
  (g24:Fg K "box_of" ME f24 d24)
  (g25:Fg K "read_runs" Ib f25 d25)
  (g26:Fg K "read_amount" Fw f26 d26)
  (g27:Fg K "shown_runs" Ex f27 d27)
  (g28:Fg K "put_together" ES f28 d28)
  (g29:Fg K "shown_run" Ia f29 d29)
  (g30:Fg K "read_pattern" EQ f30 d30)
  (g31:Fg K "read_place" Gh f31 d31)
  (g32:Fg K "field_of_runs" Eh f32 d32)
  (g33:Fg K "shown_pattern" Ef f33 d33)
  (g34:Fg K "runs_of_cells" Eg f34 d34)
  (g35:Fg K "_law_at" Ld f35 d35)
  (g36:Fg K "_law_whole" Gk f36 d36)
  (g37:Fg K "_law_mix" Jl f37 d37)
  (g38:Fg K "_law_bits" Ie f38 d38)
  (g39:Fg K "_law_place" Gm f39 d39)
  (g40:Fg K "_law_count" Ey f40 d40)
  (g41:Fg K "_law_gap_by" FC f41 d41)
  (g42:Fg K "_law_run_by" FA f42 d42)
  (g43:Fg K "_law_run_text" Ej f43 d43)
  (g44:Fg K "_law_strips" Fz f44 d44)
  (g45:Fg K "_law_leaves" FB f45 d45)
  (g46:Fg K "_law_written" Dr f46 d46)
  (g47:Fg K "_law_word" Id f47 d47)
  (g48:Fg K "_law_read_by" EU f48 d48)
  (g49:Fg K "_law_shown_by" Ei f49 d49)
  (g50:Fg K "law" QK f50 d50)
  (g52:Fm K c_Grove "kept" "Grove.kept" Gp f52 d52)
  (g53:Fm K c_Grove "linked" "Grove.linked" EW f53 d53)
  (g54:Fm K c_Grove "check_square" "Grove.check_square" Cu f54 d54)
  (g55:Fm K c_Grove "leaf" "Grove.leaf" Go f55 d55)
  (g56:Fm K c_Grove "solid" "Grove.solid" FD f56 d56)
  (g57:Fm K c_Grove "level_of" "Grove.level_of" DG f57 d57)
  (g58:Fm K c_Grove "quarters" "Grove.quarters" DF f58 d58)
  (g59:Fm K c_Grove "state_of" "Grove.state_of" DE f59 d59)
  (g60:Fm K c_Grove "living" "Grove.living" EV f60 d60)
  (g61:Fm K c_Grove "counted" "Grove.counted" CQ f61 d61)
  (g62:Fm K c_Grove "span" "Grove.span" Gn f62 d62)
  (g63:Fm K c_Grove "boxed" "Grove.boxed" DS f63 d63)
  (g64:Fm K c_Grove "measured" "Grove.measured" CC f64 d64)
  (g51:Fi K c_Grove "Grove.__init__" Gq f51 d51)
  (z_abs:PySem.W.nsIn K mainGlobals "abs" = some none)
  (z_all:PySem.W.nsIn K mainGlobals "all" = some none)
  (z_bool:PySem.W.nsIn K mainGlobals "bool" = some none)
  (z_enumerate:PySem.W.nsIn K mainGlobals "enumerate" = some none)
  (z_int:PySem.W.nsIn K mainGlobals "int" = some none)
  (z_isinstance:PySem.W.nsIn K mainGlobals "isinstance" = some none)
  (z_len:PySem.W.nsIn K mainGlobals "len" = some none)
  (z_max:PySem.W.nsIn K mainGlobals "max" = some none)
  (z_min:PySem.W.nsIn K mainGlobals "min" = some none)
  (z_range:PySem.W.nsIn K mainGlobals "range" = some none)
  (z_reversed:PySem.W.nsIn K mainGlobals "reversed" = some none)
  (z_sorted:PySem.W.nsIn K mainGlobals "sorted" = some none)
  (z_str:PySem.W.nsIn K mainGlobals "str" = some none)
  (z_sum:PySem.W.nsIn K mainGlobals "sum" = some none)
  (z_tuple:PySem.W.nsIn K mainGlobals "tuple" = some none)
  (g_FIGURES:PySem.W.nsIn K mainGlobals "FIGURES" = some (some (.str x_FIGURES t_FIGURES)))
  (gx_FIGURES:x_FIGURES=Str.ofString "0123456789")
  (g_MOST_FIGURES:PySem.W.nsIn K mainGlobals "MOST_FIGURES" = some (some (.int 30 t_MOST_FIGURES)))
  (g_STATES:PySem.W.nsIn K mainGlobals "STATES" = some (some (.int 8 t_STATES)))
  (g_TOP_LEVEL:PySem.W.nsIn K mainGlobals "TOP_LEVEL" = some (some (.int 48 t_TOP_LEVEL)))
  (g_LIMIT:PySem.W.nsIn K mainGlobals "LIMIT" = some (some (.int 1099511627776 t_LIMIT)))
  (g_LEAST_LEVEL:PySem.W.nsIn K mainGlobals "LEAST_LEVEL" = some (some (.int 1 t_LEAST_LEVEL)))
  (g_MOST_CELLS:PySem.W.nsIn K mainGlobals "MOST_CELLS" = some (some (.int 4096 t_MOST_CELLS)))
  (g_BLANK_SIGN:PySem.W.nsIn K mainGlobals "BLANK_SIGN" = some (some (.str x_BLANK_SIGN t_BLANK_SIGN)))
  (gx_BLANK_SIGN:x_BLANK_SIGN=Str.ofString ".")
  (g_ROW_SIGN:PySem.W.nsIn K mainGlobals "ROW_SIGN" = some (some (.str x_ROW_SIGN t_ROW_SIGN)))
  (gx_ROW_SIGN:x_ROW_SIGN=Str.ofString "/")
  (g_STATE_SIGNS:PySem.W.nsIn K mainGlobals "STATE_SIGNS" = some (some (.str x_STATE_SIGNS t_STATE_SIGNS)))
  (gx_STATE_SIGNS:x_STATE_SIGNS=Str.ofString ".ABCDEFG")
  (g_RUN_SIGNS:PySem.W.nsIn K mainGlobals "RUN_SIGNS" = some (some (.str x_RUN_SIGNS t_RUN_SIGNS)))
  (gx_RUN_SIGNS:x_RUN_SIGNS=Str.ofString ".ABCDEFG/")
  (g_MOST_AMOUNT_FIGURES:PySem.W.nsIn K mainGlobals "MOST_AMOUNT_FIGURES" = some (some (.int 13 t_MOST_AMOUNT_FIGURES)))
  (g_MOST_PLACE:PySem.W.nsIn K mainGlobals "MOST_PLACE" = some (some (.int 9999999999999 t_MOST_PLACE)))
  (z_ValueError:PySem.W.nsIn K mainGlobals "ValueError" = some none)
  (nx_FieldError:PySem.W.nsIn K mainGlobals "FieldError" = some (some (.ref x_FieldError)))
  (nx_NoNumber:PySem.W.nsIn K mainGlobals "NoNumber" = some (some (.ref x_NoNumber)))
  (nx_NoRule:PySem.W.nsIn K mainGlobals "NoRule" = some (some (.ref x_NoRule)))
  (nx_Restless:PySem.W.nsIn K mainGlobals "Restless" = some (some (.ref x_Restless)))
  (nx_NoSquare:PySem.W.nsIn K mainGlobals "NoSquare" = some (some (.ref x_NoSquare)))
  (nx_NoLevel:PySem.W.nsIn K mainGlobals "NoLevel" = some (some (.ref x_NoLevel)))
  (nx_NoState:PySem.W.nsIn K mainGlobals "NoState" = some (some (.ref x_NoState)))
  (nx_NoBox:PySem.W.nsIn K mainGlobals "NoBox" = some (some (.ref x_NoBox)))
  (nx_TooFar:PySem.W.nsIn K mainGlobals "TooFar" = some (some (.ref x_TooFar)))
  (nx_TooMany:PySem.W.nsIn K mainGlobals "TooMany" = some (some (.ref x_TooMany)))
  (nx_NoSteps:PySem.W.nsIn K mainGlobals "NoSteps" = some (some (.ref x_NoSteps)))
  (nx_NoPattern:PySem.W.nsIn K mainGlobals "NoPattern" = some (some (.ref x_NoPattern)))
  (nx_NoName:PySem.W.nsIn K mainGlobals "NoName" = some (some (.ref x_NoName)))
  (nx_NoRow:PySem.W.nsIn K mainGlobals "NoRow" = some (some (.ref x_NoRow)))
  (ec_TooFar:GW K x_TooFar)
  (ec_TooMany:GW K x_TooMany)
  (ec_NoNumber:GW K x_NoNumber)
  (ec_FieldError:GW K x_FieldError)
  (xf_TooFar_0:hasDictIn K x_TooFar=true)
  (xf_TooFar_1:findIn K (.ref x_TooFar) "__getattribute__" = some (some (.builtin "BaseException.__getattribute__")))
  (xf_TooFar_2:findIn K (.ref x_TooFar) "__getattr__" = some none)
  (xf_TooFar_3:findIn K (.ref x_TooFar) "__class__" = some (some (.builtin "object.__class__")))
  (xf_4:specialIn K (.builtin "object.__class__") "__get__" = some (some (.builtin "getset_descriptor.__get__")))
  (xf_5:takesIn K (.builtin "object.__class__")=some true)
  (xf_TooFar_6:mroIn K x_TooFar (.type "object")=some true)
  (xf_TooFar_7:mroIn K x_TooFar (.type "BaseException")=some true)
  (mr_TooFar:mroIn K x_TooFar (.ref x_FieldError)=some true)
  (kv_TooFar:kitOne K (.ref x_TooFar) (.type "ValueError")=some true)
  (ki_TooFar_NoNumber:kitOne K (.ref x_TooFar) (.ref x_NoNumber)=some false)
  (ki_TooFar_NoRule:kitOne K (.ref x_TooFar) (.ref x_NoRule)=some false)
  (ki_TooFar_Restless:kitOne K (.ref x_TooFar) (.ref x_Restless)=some false)
  (ki_TooFar_NoSquare:kitOne K (.ref x_TooFar) (.ref x_NoSquare)=some false)
  (ki_TooFar_NoLevel:kitOne K (.ref x_TooFar) (.ref x_NoLevel)=some false)
  (ki_TooFar_NoState:kitOne K (.ref x_TooFar) (.ref x_NoState)=some false)
  (ki_TooFar_NoBox:kitOne K (.ref x_TooFar) (.ref x_NoBox)=some false)
  (ki_TooFar_TooFar:kitOne K (.ref x_TooFar) (.ref x_TooFar)=some true)
  (ki_TooFar_TooMany:kitOne K (.ref x_TooFar) (.ref x_TooMany)=some false)
  (ki_TooFar_NoSteps:kitOne K (.ref x_TooFar) (.ref x_NoSteps)=some false)
  (ki_TooFar_NoPattern:kitOne K (.ref x_TooFar) (.ref x_NoPattern)=some false)
  (ki_TooFar_NoName:kitOne K (.ref x_TooFar) (.ref x_NoName)=some false)
  (ki_TooFar_NoRow:kitOne K (.ref x_TooFar) (.ref x_NoRow)=some false)
  (xf_TooMany_0:hasDictIn K x_TooMany=true)
  (xf_TooMany_1:findIn K (.ref x_TooMany) "__getattribute__" = some (some (.builtin "BaseException.__getattribute__")))
  (xf_TooMany_2:findIn K (.ref x_TooMany) "__getattr__" = some none)
  (xf_TooMany_3:findIn K (.ref x_TooMany) "__class__" = some (some (.builtin "object.__class__")))
  (xf_TooMany_6:mroIn K x_TooMany (.type "object")=some true)
  (xf_TooMany_7:mroIn K x_TooMany (.type "BaseException")=some true)
  (mr_TooMany:mroIn K x_TooMany (.ref x_FieldError)=some true)
  (kv_TooMany:kitOne K (.ref x_TooMany) (.type "ValueError")=some true)
  (ki_TooMany_NoNumber:kitOne K (.ref x_TooMany) (.ref x_NoNumber)=some false)
  (ki_TooMany_NoRule:kitOne K (.ref x_TooMany) (.ref x_NoRule)=some false)
  (ki_TooMany_Restless:kitOne K (.ref x_TooMany) (.ref x_Restless)=some false)
  (ki_TooMany_NoSquare:kitOne K (.ref x_TooMany) (.ref x_NoSquare)=some false)
  (ki_TooMany_NoLevel:kitOne K (.ref x_TooMany) (.ref x_NoLevel)=some false)
  (ki_TooMany_NoState:kitOne K (.ref x_TooMany) (.ref x_NoState)=some false)
  (ki_TooMany_NoBox:kitOne K (.ref x_TooMany) (.ref x_NoBox)=some false)
  (ki_TooMany_TooFar:kitOne K (.ref x_TooMany) (.ref x_TooFar)=some false)
  (ki_TooMany_TooMany:kitOne K (.ref x_TooMany) (.ref x_TooMany)=some true)
  (ki_TooMany_NoSteps:kitOne K (.ref x_TooMany) (.ref x_NoSteps)=some false)
  (ki_TooMany_NoPattern:kitOne K (.ref x_TooMany) (.ref x_NoPattern)=some false)
  (ki_TooMany_NoName:kitOne K (.ref x_TooMany) (.ref x_NoName)=some false)
  (ki_TooMany_NoRow:kitOne K (.ref x_TooMany) (.ref x_NoRow)=some false)
  : ∃fd:FuncData,(∀(s:Shared)(v:Value),BindsTo s fd ⟨[v],[]⟩ [("_law_script",v)])/\∀base:Heap,K.In base->base.Ns mainGlobals mg->AC l.prog w K mg base CX0 107 fa fd ["_law_script"] (Tu K):=by
 have e:=hfa.symm.trans (K6 X G g50.at_);cases e;have no:∀{x:Str},PySem.W.nsIn K mainGlobals x=some none->mg x=none:=λz=>PySem.W.mg_none_of X G z;subst gx_RUN_SIGNS;subst gx_STATE_SIGNS;subst gx_ROW_SIGN;subst gx_BLANK_SIGN;subst gx_FIGURES;have T:Top K mg (⟨c_Grove,x_FieldError,x_NoNumber,x_NoRule,x_Restless,x_NoSquare,x_NoLevel,x_NoState,x_NoBox,x_TooFar,x_TooMany,x_NoSteps,x_NoPattern,x_NoName,x_NoRow⟩:Ad):=⟨no z_abs,no z_all,no z_bool,no z_enumerate,no z_int,no z_isinstance,no z_len,no z_max,no z_min,no z_range,no z_reversed,no z_sorted,no z_str,no z_sum,no z_tuple,⟨t_FIGURES,K6 X G g_FIGURES⟩,⟨t_MOST_FIGURES,K6 X G g_MOST_FIGURES⟩,⟨t_STATES,K6 X G g_STATES⟩,⟨t_TOP_LEVEL,K6 X G g_TOP_LEVEL⟩,⟨t_LIMIT,K6 X G g_LIMIT⟩,⟨t_LEAST_LEVEL,K6 X G g_LEAST_LEVEL⟩,⟨t_MOST_CELLS,K6 X G g_MOST_CELLS⟩,⟨t_BLANK_SIGN,K6 X G g_BLANK_SIGN⟩,⟨t_ROW_SIGN,K6 X G g_ROW_SIGN⟩,⟨t_STATE_SIGNS,K6 X G g_STATE_SIGNS⟩,⟨t_RUN_SIGNS,K6 X G g_RUN_SIGNS⟩,⟨t_MOST_AMOUNT_FIGURES,K6 X G g_MOST_AMOUNT_FIGURES⟩,⟨t_MOST_PLACE,K6 X G g_MOST_PLACE⟩,K6 X G cH,q_Grove,na_Grove_levels,na_Grove_parts,na_Grove_numbers,na_Grove_bares,na_Grove_amounts,na_Grove_boxes,no z_ValueError,K6 X G nx_FieldError,K6 X G nx_NoNumber,K6 X G nx_NoRule,K6 X G nx_Restless,K6 X G nx_NoSquare,K6 X G nx_NoLevel,K6 X G nx_NoState,K6 X G nx_NoBox,K6 X G nx_TooFar,K6 X G nx_TooMany,K6 X G nx_NoSteps,K6 X G nx_NoPattern,K6 X G nx_NoName,K6 X G nx_NoRow,ec_TooFar,ec_TooMany,ec_NoNumber,ec_FieldError,⟨xf_TooFar_0,xf_TooFar_1,xf_TooFar_2,xf_TooFar_3,xf_4,xf_5,xf_TooFar_6,xf_TooFar_7⟩,mr_TooFar,kv_TooFar,ki_TooFar_NoNumber,ki_TooFar_NoRule,ki_TooFar_Restless,ki_TooFar_NoSquare,ki_TooFar_NoLevel,ki_TooFar_NoState,ki_TooFar_NoBox,ki_TooFar_TooFar,ki_TooFar_TooMany,ki_TooFar_NoSteps,ki_TooFar_NoPattern,ki_TooFar_NoName,ki_TooFar_NoRow,⟨xf_TooMany_0,xf_TooMany_1,xf_TooMany_2,xf_TooMany_3,xf_4,xf_5,xf_TooMany_6,xf_TooMany_7⟩,mr_TooMany,kv_TooMany,ki_TooMany_NoNumber,ki_TooMany_NoRule,ki_TooMany_Restless,ki_TooMany_NoSquare,ki_TooMany_NoLevel,ki_TooMany_NoState,ki_TooMany_NoBox,ki_TooMany_TooFar,ki_TooMany_TooMany,ki_TooMany_NoSteps,ki_TooMany_NoPattern,ki_TooMany_NoName,ki_TooMany_NoRow⟩
 refine⟨d50,λs v=>(by obtain⟨_,_,_,_,_,_,_,_,_,rfl,_⟩:=g50.fn.ex;exact .of_eq rfl),λbase _ _=>?_⟩;have cal:∀{CX:CXT}{k:Nat}{x:Str}{st:Stmt}{f:Addr}{fd:FuncData}{ps:List Str}{sp:Sp},Fg K x st f fd->AC l.prog w K mg base CX k f fd ps sp->BN K fd ps []->Cal l.prog w K mg base CX k x ps sp:=λF o b=>⟨_,_,o,K6 X G F.at_,F.fn.kp,b⟩
 have calm:∀{CX:CXT}{k:Nat}{C:Addr}{x q:Str}{st:Stmt}{f:Addr}{fd:FuncData}{ps:List Str}{sp:Sp},Fm K C x q st f fd->Cls K C->AC l.prog w K mg base CX k f fd ps sp->BN K fd ps []->Cw l.prog w K mg base CX k C x ps sp:=λF c o b=>⟨⟨_,_,o,F.me,b⟩,c⟩
 have calc':∀{CX:CXT}{k:Nat}{C:Addr}{x q:Str}{st:Stmt}{f:Addr}{fd:FuncData}{ps:List Str}{sp:Sp},Fi K C q st f fd->mg x=some (.ref C)->AC l.prog w K mg base CX k f fd ps sp->BN K fd ps []->CalC l.prog w K mg base CX k x C ps sp:=λF m o b=>⟨_,_,o,F.mk_,m,b⟩
 have aM:=cal (k:=1) (sp:=VS) g0 (ok_iw g0.fn T) (bnd g0.fn);have aJ:=cal (k:=2) (sp:=VT) g4 (ok_is g4.fn T aM) (bnd g4.fn);have aL:=calm (k:=1) (sp:=(Pj _)) g52 q_Grove (ok_kept g52.fn T) (bnd g52.fn);have cE:=calc' (k:=2) (sp:=(Pk _)) g51 T.m_Grove (WE g51.fn T aL) (bnd g51.fn)
 have a7:=calm (k:=2) (sp:=(Jg _)) g53 q_Grove (ok_link g53.fn T aL) (bnd g53.fn);have a8:=calm (k:=2) (sp:=(QD _)) g54 q_Grove (ok_chk g54.fn T aM) (bnd g54.fn);have bL:=calm (k:=3) (sp:=(Sd _)) g55 q_Grove (ok_leaf g55.fn T aJ) (bnd g55.fn);have a6:=calm (k:=3) (sp:=(IT _)) g57 q_Grove (ok_lev g57.fn T a8) (bnd g57.fn);have aB:=calm (k:=4) (sp:=(Jt _)) g56 q_Grove (Wy g56.fn T aM bL a7) (bnd g56.fn);have aA:=calm (k:=4) (sp:=(Ts _)) g59 q_Grove (ok_sta g59.fn T a6) (bnd g59.fn);have aP:=calm (k:=4) (sp:=(VP _)) g58 q_Grove (ok_qua g58.fn T a6) (bnd g58.fn);have aN:=calm (k:=50) (sp:=(Tv _ 49)) g61 q_Grove (WF g61.fn T g61.me (bnd g61.fn) 49) (bnd g61.fn);have aK:=calm (k:=51) (sp:=(Tt _)) g60 q_Grove (ok_liv g60.fn T a8 aN) (bnd g60.fn);have aE:=cal (k:=1) (sp:=Ju) g5 (Wz g5.fn T) (bnd g5.fn);have aT:=cal (k:=1) (sp:=Mi) g6 (WD g6.fn T) (bnd g6.fn);have aR:=calm (k:=100) (sp:=(QE _ 49)) g63 q_Grove (WH g63.fn g64.fn T g63.me (bnd g63.fn) g64.me (bnd g64.fn) aE aT 49) (bnd g63.fn);have bK:=calm (k:=101) (sp:=(RY _)) g62 q_Grove (ok_span g62.fn T a8 aR) (bnd g62.fn);have aC:=cal (k:=1) (sp:=QC) g7 (ok_lie g7.fn T) (bnd g7.fn);have a9:=cal (k:=4) (sp:=(Ge _)) g8 (WB g8.fn T a6) (bnd g8.fn);have bW:=cal (k:=4) (sp:=(VL _)) g10 (ok_wid g10.fn T a6 a7) (bnd g10.fn);have bS:=cal (k:=3) (sp:=(VR _)) g12 (ok_mid g12.fn T a7) (bnd g12.fn);have aX:=cal (k:=1) (sp:=(spBA _)) g13 (ok_ba g13.fn T) (bnd g13.fn);have aV:=cal (k:=4) (sp:=(Pi _)) g11 (ok_trim g11.fn T a6 aX bS) (bnd g11.fn);have aH:=cal (k:=5) (sp:=(spWO _)) g14 (ok_wo g14.fn T aC a9 bW) (bnd g14.fn);have bO:=cal (k:=1) (sp:=(Pm _)) g9 (WI g9.fn T) (bnd g9.fn);have aO:=cal (k:=1) (sp:=Tw) g16 (ok_chb g16.fn T) (bnd g16.fn);have aW:=cal (k:=5) (sp:=(spPI _)) g17 (ok_pi g17.fn T a9) (bnd g17.fn);have aG:=cal (k:=1) (sp:=Mh) g20 (Wx g20.fn T) (bnd g20.fn);have b9:=cal (k:=102) (sp:=(Op _ _ _ 50)) g18 (WC g18.fn g19.fn T (K6 X G g18.at_) (bnd g18.fn) (K6 X G g19.at_) (bnd g19.fn) aG a7 50) (bnd g18.fn);have bB:=cal (k:=1) (sp:=LF) g21 (ok_row g21.fn T) (bnd g21.fn);have aF:=cal (k:=55) (sp:=(VU _ 50)) g23 (ok_ga g23.fn T (K6 X G g23.at_) (bnd g23.fn) aA 50) (bnd g23.fn);have cD:=cal (k:=102) (sp:=(Pl _)) g24 (WG g24.fn T bK a9 aE) (bnd g24.fn);have bC:=cal (k:=1) (sp:=VN) g28 (ok_put g28.fn T) (bnd g28.fn);have bQ:=cal (k:=1) (sp:=RZ) g29 (ok_show g29.fn T) (bnd g29.fn);have bM:=cal (k:=2) (sp:=VO) g27 (ok_shR g27.fn T bC bQ) (bnd g27.fn);have b6:=cal (k:=1) (sp:=spRc) g34 (ok_rcs g34.fn T) (bnd g34.fn);have aQ:=cal (k:=1) (sp:=(spAt K)) g35 (ok_at g35.fn T) (bnd g35.fn);have bP:=cal (k:=1) (sp:=VM) g36 (ok_whi g36.fn T) (bnd g36.fn);have aI:=cal (k:=1) (sp:=Mx) g37 (ok_lmix g37.fn T) (bnd g37.fn);have bU:=cal (k:=1) (sp:=Se) g38 (ok_bits g38.fn T) (bnd g38.fn);have bA:=cal (k:=2) (sp:=spPl) g39 (ok_pl g39.fn T aI) (bnd g39.fn);have aU:=cal (k:=55) (sp:=(spLC _ 50)) g40 (ok_lc g40.fn T (K6 X G g40.at_) (bnd g40.fn) a6 aA aP 50) (bnd g40.fn);have aZ:=cal (k:=1) (sp:=VQ) g2 (ok_min g2.fn T) (bnd g2.fn);have bG:=cal (k:=1) (sp:=VW) g3 (ok_fig g3.fn T) (bnd g3.fn);have bN:=cal (k:=2) (sp:=spRW) g1 (ok_rw g1.fn T aZ bG) (bnd g1.fn);have b8:=cal (k:=3) (sp:=spRP) g31 (ok_rp g31.fn T bN) (bnd g31.fn);have bF:=cal (k:=1) (sp:=VX) g26 (ok_amt g26.fn T) (bnd g26.fn);have bR:=cal (k:=2) (sp:=Sc) g25 (ok_read g25.fn T bF) (bnd g25.fn);have bT:=cal (k:=103) (sp:=(Mz _)) g15 (TK g15.fn T aO aC aJ aH aB a6 aW b9 aV) (bnd g15.fn);have f1:=ok_filF (w:=w) (base:=base) g15.fn T aO aC aJ aH aB a6 aW b9 aV;have f2:=TK (w:=w) (base:=base) g15.fn T aO aC aJ aH aB a6 aW b9 aV;have cJ:=Cal.mk ⟨_,_,AC.or (AC.up f2) f1,(K6 X G g15.at_),g15.fn.kp,(bnd g15.fn)⟩;have f3:=ok_fr (w:=w) (base:=base) g32.fn T bO cJ;have bZ:=Cal.mk ⟨_,_,f3,(K6 X G g32.at_),g32.fn.kp,(bnd g32.fn)⟩;have f4:=ok_pat (w:=w) (base:=base) g30.fn T b8 bR bZ;have cB:=Cal.mk ⟨_,_,f4,(K6 X G g30.at_),g30.fn.kp,(bnd g30.fn)⟩;have f5:=ok_cox (w:=w) (base:=base) g22.fn T aK a9 aF bB;have f6:=ok_co (w:=w) (base:=base) g22.fn T aK a9 aF bB;have cF:=Cal.mk ⟨_,_,AC.or (AC.up f6) f5,(K6 X G g22.at_),g22.fn.kp,(bnd g22.fn)⟩;have f7:=ok_shp (w:=w) (base:=base) g33.fn T cF cD bM b6;have bY:=Cal.mk ⟨_,_,f7,(K6 X G g33.at_),g33.fn.kp,(bnd g33.fn)⟩;have aS:CalH l.prog w K mg base 1 "_law_word" DV (spWd K _):=⟨_,_,ok_wd g47.fn T,K6 X G g47.at_,g47.fn.kp,bnd g47.fn⟩
 have bE:=cal (k:=106) (sp:=(UC K _ _ _)) g48 (ok_lrb g48.fn T A4 cB aS) (bnd g48.fn);have b7:=cal (k:=104) (sp:=(UC K _ _ _)) g49 (ok_lsb g49.fn T A4 bY aS) (bnd g49.fn);have bJ:=cal (k:=2) (sp:=spGy) g41 (ok_gy g41.fn T aI) (bnd g41.fn);have aY:=cal (k:=2) (sp:=spRy) g42 (ok_ry g42.fn T aI) (bnd g42.fn);have aD:=cal (k:=1) (sp:=spRt) g43 (ok_rt g43.fn T) (bnd g43.fn);have bH:=cal (k:=1) (sp:=spSt) g44 (ok_st g44.fn T) (bnd g44.fn);have bI:=cal (k:=1) (sp:=spLe) g45 (ok_le g45.fn T) (bnd g45.fn);have bD:=cal (k:=2) (sp:=spWr) g46 (ok_wr g46.fn T aD) (bnd g46.fn);exact ok_law g50.fn T cE aB bT aQ bP bU bA aU bJ aY aD bH bI bD bE b7
theorem walk{l:PySem.W.OpenLaw}{q:Program}{loose:List Str}{XP:(Str->Option Value)->Heap->Prop}{YP:World->Heap->Prop}{d:DefRec}{K:Params->PySem.W.Frag}(hn:l.most=some 63)(hdf:d.params.defaults=[])
  (hY:∀(w:World)(h:Heap),YP w h->(K w.params).In h)
  (F:∀(w:World)(mg:Str->Option Value)(fa:Addr)(h:Heap),(K w.params).In h->h.Ns mainGlobals mg->mg d.name=some (.ref fa) ->
   ∃fd:FuncData,(∀(s:Shared)(u:Value),BindsTo s fd ⟨[u],[]⟩ [("_law_script",u)])/\∀base:Heap,(K w.params).In base->base.Ns mainGlobals mg->AC l.prog w (K w.params) mg base CX0 107 fa fd ["_law_script"] (Tu (K w.params))) :
  PySem.W.WalkO q loose XP YP l.row.toRowW d [] (λf vs=>PySem.call f vs) :=
 L2.Tg (n:=63) (k:=107) (x:="_law_script") (CX:=λ_=>CX0) (sp:=λw=>Tu (K w.params)) hn A4 hdf ⟨rfl,by decide,by decide⟩ hY F (λ_ _ a ns hl _ hS=>⟨a,ns,rfl,hS,hl,λ_=>rfl⟩) λ_ _ _ _ _ z=>z
end J
structure PySem.W.Fast:Prop where(tw6507955198131865952 tw9589541187643869791 tw17519635225107419723 tw15149735750171190132 tw9213045423039547935 tw7915712940842144890 tw3091001623723470779 tw10140713354158785111 tw1025710981040962857 tw2142702181876711146 tw3704615517654628724 tw4634241230877820203 tw739926083833683564 tw15369786168525199436 tw7719990127195498062 tw17211941271638895758 tw3678936242208828687 tw3171068320228149279 tw2021860493168780251 tw704866527774105662 tw13613561275741742274 tw14221732672609038545 tw9779129752571635011 tw13914347947846886315 tw3859132712240004188 tw2720464856025654445 tw2628781911889414860 tw6824908595165069649 tw732812303973619822 tw5851693650715959399 tw1906431981020062730 tw898024007499252421 tw14802737103511503557 tw1157360705123101167 tw7616189586880277434 tw16612127617501753964 tw17858042543680116707 tw1982783286722683237 tw2452975232772915926 tw11261751112961000075 tw3903393491506449969 tw3141952391077115592 tw1514461177012336440 tw560226687617785921 tw18130048490717019100 tw4873035566788795055 tw17842547200893115865 tw8424049036718109711 tw20239353515441443 tw5905999985719076386 tw10829985559663675867 tw10198419572304031062 tw323814589764589509 tw14284260955331872218 tw3194098540495323508 tw7318753850972806170 tw3847272926991404306 tw141635645987262064 tw3171958260074710398 tw7743086135525364131 tw17435732968144298593 tw11623297500926277608 tw4653853033692091586 tw11874284544531573641 tw10984870546060413463 tw6892117294032862328 tw220880655306086081 tw7872486441909617362 tw16272997253703587173 tw7572385448426222745 tw10158758375369872347 tw5695772012250343153 tw11325241388867454158 tw16484936736138174509 tw18363764638758597062 tw6825149675416216876 tw5880645716010737100 tw1097249316401629291 tw16915051348612751817 tw17218289591921553057 tw14676842241683660885 tw4208734260218828835 tw5270005014869331968 tw4070391748138860206 tw3516944513283644106 tw14532764080429797308 tw14217373970718031273 tw8189249359048081655 tw14786158418951582968 tw11948641769840917023 tw17129022738966166555 tw17884555544124586753 tw16328761290782736734 tw8523066793900293988 tw12810171882284532549 tw8888408920838667915 tw15148604320685283309 tw2586891735464020071 tw16556362095081522404 tw2198181890562584449 tw4432310786551447852 tw16259142444526769640 tw10672452619484232069 tw6326601965491403330 tw7481445165794744534 tw11406489024833246648 tw3222738156095893507 tw6782983720742651690 tw17831786964337533143 tw17224833021205791653 tw4919890463342395698 tw11515990444046429665 tw1401260570223142608 tw8699985943096552280 tw14555888438942050149 tw18218948625977079153 tw5930764018042668894 tw5067238324809442917 tw7076615164715621247 tw13189806177338399787 tw16984603981795767948 tw17211905340281202300 tw5042774342073582019 tw3468687816307871134 tw7998995581071227507 tw11317620780862667686 tw14653343524292790200 tw15184273783751997054 tw11461647005730439193 tw11175097353836528276 tw6562482192848969475 tw10159143519512366367 tw11572991785670169492 tw571379640128965245 tw2163631565358832339 tw8046626906020837872 tw6479561265785510212 tw11018721541602113482 tw14818162818365487380 tw9777277336924792798 tw8818782065083291564 tw15690253683985477371 tw7090465355940026103 tw2717611842115385114 tw9120299782664957146 tw2651771227354096993 tw16274742422876431357 tw2838814954543987587 tw3760090771361045885 tw7418936861704462337 tw6539570466417191735 tw810046226061331923 tw11254031506942410003 tw8564204287422130988 tw6975816712318826130 tw15260541483119632762 tw6173562914028619386 tw15173034356462361892 tw3578169398584207064 tw11834880041416628435 tw172786502321042300 tw6647849252103496790 tw5542286766644356820 tw9192204072497106720 tw11972906238676356764 tw7766496747468943286 tw895576550531318082 tw18111948919154718473 tw14273145812131659658 tw4315335001831394839 tw15791340044538292552 tw1674042158475415413 tw15474631783697714315 tw7234168043763162310 tw11135977011750173189 tw648318441396778253 tw14260624951389471672 tw54214699240555416 tw17839316035279068910 tw13121759577969956281 tw4302309600127229941 tw13063467811500064092 tw3292536755693958719 tw18087140380494396775 tw13133624901449803381 tw465198728750418300 tw11525249971564921811 tw5574056889925999799 tw8813590939114748232 tw321154979949418947 tw3514652645158619650 tw6635588411214479103 tw7335426764322382981 tw14761852169748777337 tw5499648579675146464 tw16703591832402466408 tw6457857975023457939 tw6984345275999070617 tw8986677862035273600 tw12175117426643599988 tw1568069100844119796 tw5352696572853218771 tw15527055116083986250 tw8730073670058103702 tw15210240412934406767 tw13977983099999927500 tw10027581459209352734 tw17717773148940116068 tw6808072391358918211 tw9218621041857071642 tw6298920568050435636 tw6506868062613257322 tw1638158608207728990 tw9199995294952098644 tw754961659122058282 tw5882786201024324708 tw4737155618715170938 tw10954602898519899962 tw2640417059549937006 tw6675239088269759423 tw10017854447069256475 tw4398981872677134961 tw16682571225813083439 tw8708168085254760075 tw15277303172666293447 tw695055407936363530 tw18350535741028546925 tw426384943306393910 tw8025513720457690953 tw10577911437016440650 tw9510377531359627028 tw2381645939050851296 tw11088442434124694149 tw11636389275344879292 tw16265647145809774556 tw383004379691829823 tw755184745441725827 tw3736521061520075100 tw11064798246219344339 tw588339496311583154 tw849228444277962302 tw1293512254856350497 tw17655424539553373852 tw17757391885560481118 tw1462719753798107725 tw17013603858546432007 tw2865097318035212884 tw11103247303921840642 tw1509217365019846342 tw17405949920073791793 tw3287063105745480652 tw13897554511331057820 tw5805152617735602073 tw17349036572152007851 tw225796401352933169 tw14732937955617090887 tw5714007441005428716 tw16152932023452456714 tw11828250983009850800 tw7411822853386292253 tw7541675716752043389 tw16052283138872689913 tw15140220711593989690 tw17823502304618285267 tw17746770022212869136 tw5617344882049729113 tw13278134521180716864 tw8882499787408728147 tw1320077432261970611 tw17081246494963646410 tw1304343535518860475 tw8802691524929084908 tw15441928483209089557 tw12878336676890764301 tw13685992545399654653 tw4859933278123207243 tw5491978671051386916 tw254842765564092034 tw13520014436224427736 tw12205590689685654673 tw14928383580721382563 tw1202691243935762692 tw8048464540041548685 tw15621286717195981067 tw9910266957283995579 tw14960186541602901714 tw15303564989006974317 tw1794687523544443366 tw8391342327453615916 tw15882752345717713278 tw12395495120898133759 tw5789745433922090287 tw12115136508655844807 tw16714389208876518282 tw10358278850621664293 tw6041539675715235828 tw5198382662152395740 tw7466228118954204228 tw7433704836068956042 tw4264818133025611713 tw6144574092781257207 tw1746042279613157490 tw14418560967081166361 tw10495420016094877922 tw5539952872340901309 tw5901609353907521929 tw2726408282571913465 tw9106317868195717542 tw16416788189879683833 tw8933162767778617088 tw9677408546067613371 tw17652807578059513936 tw2769887225581782480 tw16100437187016289716 tw7632889019617389271 tw8075369467392158008 tw16296565126340443805 tw1139297941127357924 tw13839610384305802048 tw11251408625754402014 tw4246457530099411270 tw18414373144313982354 tw16462382320886049133 tw14452280101408948762 tw2957840145043557425 tw7752568373802731572 tw10013424558254641734 tw6479792114941248453 tw942095903478227517 tw14816545068358204122 tw7230622547787888150 tw11388503977768938719 tw9261631989578490954 tw6704155256140298689 tw2820995206523902527 tw10855182042502672569 tw4006251531214306066 tw14082366230866571379 tw10328085396405614121 tw4081900727716888182 tw8971501865642388814 tw2963464458045729481 tw7219684126264808608 tw1076449849694286127 tw15692726159243122424 tw4773671252491301817 tw7094077467073300790 tw11422071136612244588 tw5664165980580395677 tw12262478610902489355 tw4192494983799039086 tw7997203402836238640 tw70621710563141709 tw71932905548436675 tw16474570076250794591 tw11484238092952053806 tw1106963843096016501 tw3854418801012353460 tw8350038456307837278 tw5623526993378897739 tw11238478216815519703 tw2934888735069990324 tw15281643549408628742 tw9253145934022943384 tw10895269878347789277 tw13271928557166020752 tw8778469233064089394 tw17039392890104287813 tw5925657505864813432 tw2696754809309498397 tw5490507371535663855 tw145014639444958146 tw13838206881786739437 tw370201170186657924 tw9169881751004680056 tw6916987403335120509 tw4813753184981809300 tw11920026645203752063 tw1171039713902316996 tw17289148408064039389 tw4901986979778509318 tw15233401491580884371 tw10266729339478361629 tw11935538177844789400 tw11717004237875914482 tw15631384564167667367 tw15668295895933046686 tw6222431624607418365 tw6446674080322592792 tw8044306852393353363 tw9128483142586457224 tw1250460816824020713 tw11460533679614651274 tw14442877349702572724 tw1082998132638654758 tw2945802384095522749 tw14312870570424033095 tw14508127452530664895 tw10381920370128275615 tw7410708222014131347 tw2126684312023672957 tw17603662115733048387 tw16167258083419001505 tw8769975710428170828 tw962605527581711940 tw15782335298214731403 tw9736241793152588874 tw7184411753012552482 tw1824828241698896047 tw6704297699401100566 tw2617121041903460341 tw9151774836038494755 tw10801938390325096343 tw5073788183191529450 tw5090501018006717988 tw11038756970214132830 tw13844102645382429250 tw16053746455267595239 tw17953720662989857587 tw5808864741167444810 tw12535389711680129225 tw8259661739719898942 tw5989426553114406427 tw17110098168543582354 tw1290125022475390980 tw9694617329518978283 tw12852788225152418703 tw347753387934734571 tw11159371394072359435 tw12983901868571836589 tw7489755424279425847 tw6062479209833700676 tw10566547248807385865 tw3440862478806295693 tw8516267267987451466 tw4464120638040859374 tw9729005690882702708 tw6554444466291080841 tw10190663353723451514 tw4611441807521955455 tw14783435186517693914 tw11341467373577254390 tw5756885171517779411 tw6374727091951066715 tw15348946078607168958 tw6132401047453298678 tw18132848344183312146 tw14520475802967037069 tw1412829258850687894 tw2742247960539941041 tw10976833561346805128 tw13822140557446212941 tw16418207828013571503 tw3284583336192807441 tw16086700874770826335 tw16755209601244516437 tw5704713377015653829 tw58029906262643243 tw10103589814422313673 tw17881691461582977935 tw1476718156316012805 tw2010360058690657624 tw3195626890325945706 tw5168425833025752123 tw8850710755410443230 tw8260068439897547560 tw17637764768442818919 tw16030572499964473395 tw12781232295674042513 tw11718615294493180476 tw2371236803078915434 tw7531125836460722149 tw5835457224494561563 tw6819530851049820949 tw14445306469799656845 tw7128837196708514831 tw11392413016815731789 tw148405342781284125 tw13125030422157576656 tw7128924321751155250 tw13360575626633036818 tw3422214959760026075 tw828930251075726532 tw2769682633841157162 tw12143893919488661892:True)
open PySem PySem.W PyProof.Rows
set_option maxRecDepth 100000 in
set_option maxHeartbeats 0 in
theorem PySem.Challenge.cw_jumpfield_k85_far_runs_holds : PySem.Challenge.rw_jumpfield_k85_far_runs.Holds := by
 w_on; o_law; k_head; (case hw=>w_witness2)
 k_fill
 refine J.walk (l:=PySem.Challenge.rw_jumpfield_k85_far_runs) rfl rfl (fun w h Y=>PySem.W.kIn_of Y) ?F
 case F =>
  intro w mg fa h KX G hmg;refine' J.fin KX G hmg ?h0 ?h1 ?h2 ?h3 ?h4 ?h5 ?h6 ?h7 ?h8 ?h9 ?h10 ?h11 ?h12 ?h13 ?h14 ?h15 ?h16 ?h17 ?h18 ?h19 ?h20 ?h21 ?h22 ?h23 ?h24 ?h25 ?h26 ?h27 ?h28 ?h29 ?h30 ?h31 ?h32 ?h33 ?h34 ?h35 ?h36 ?h37 ?h38 ?h39 ?h40 ?h41 ?h42 ?h43 ?h44 ?h45 ?h46 ?h47 ?h48 ?h49 ?h50 ?h51 ?h52 ?h53 ?h54 ?h55 ?h56 ?h57 ?h58 ?h59 ?h60 ?h61 ?h62 ?h63 ?h64 ?h65 ?h66 ?h67 ?h68 ?h69 ?h70 ?h71 ?h72 ?h73 ?h74 ?h75 ?h76 ?h77 ?h78 ?h79 ?h80 ?h81 ?h82 ?h83 ?h84 ?h85 ?h86 ?h87 ?h88 ?h89 ?h90 ?h91 ?h92 ?h93 ?h94 ?h95 ?h96 ?h97 ?h98 ?h99 ?h100 ?h101 ?h102 ?h103 ?h104 ?h105 ?h106 ?h107 ?h108 ?h109 ?h110 ?h111 ?h112 ?h113 ?h114 ?h115 ?h116 ?h117 ?h118 ?h119 ?h120 ?h121 ?h122 ?h123 ?h124 ?h125 ?h126 ?h127 ?h128 ?h129 ?h130 ?h131 ?h132 ?h133 ?h134 ?h135 ?h136 ?h137 ?h138 ?h139 ?h140 ?h141 ?h142 ?h143 ?h144 ?h145 ?h146 ?h147 ?h148 ?h149 ?h150 ?h151 ?h152 ?h153 ?h154 ?h155 ?h156 ?h157 ?h158 ?h159 ?h160 ?h161 ?h162 ?h163 ?h164 ?h165 ?h166 ?h167 ?h168
  (case h0=>k_is)
  (case h1=>(refine' ⟨?_,?_,?_,?_⟩<;>k_is))
  (case h2 | h3 | h4 | h5 | h6 | h7=>k_is)
  (case h8 | h9 | h10 | h11 | h12 | h13 | h14 | h15 | h16 | h17 | h18 | h19 | h20 | h21 | h22 | h23 | h24 | h25 | h26 | h27 | h28 | h29 | h30 | h31 | h32 | h33 | h34 | h35 | h36 | h37 | h38 | h39 | h40 | h41 | h42 | h43 | h44 | h45 | h46 | h47 | h48 | h49 | h50 | h51 | h52 | h53 | h54 | h55 | h56 | h57 | h58=>(apply J.Fg.mk; k_is; apply L2.SO<;>k_is))
  (case h59 | h60 | h61 | h62 | h63 | h64 | h65 | h66 | h67 | h68 | h69 | h70 | h71=>(apply J.Fm.mk; (apply L2.RQ.mk<;>k_is); apply L2.SO<;>k_is))
  (case h72=>(apply J.Fi.mk; (apply L2.Mk.mk<;>k_is); apply L2.SO<;>k_is))
  (case h73 | h74 | h75 | h76 | h77 | h78 | h79 | h80 | h81 | h82 | h83 | h84 | h85 | h86 | h87 | h88=>k_is)
  (case h89=>decide +kernel)
  (case h90 | h91 | h92 | h93 | h94 | h95 | h96=>k_is)
  (case h97=>decide +kernel)
  (case h98=>k_is)
  (case h99=>decide +kernel)
  (case h100=>k_is)
  (case h101=>decide +kernel)
  (case h102=>k_is)
  (case h103=>decide +kernel)
  (case h104 | h105 | h106 | h107 | h108 | h109 | h110 | h111 | h112 | h113 | h114 | h115 | h116 | h117 | h118 | h119 | h120=>k_is)
  (case h121 | h122 | h123 | h124=>(show PySem.W.excIn _ _ _ _=true; k_exc))
  (case h125 | h126 | h127 | h128 | h129 | h130 | h131 | h132 | h133=>k_is)
  (case h134 | h135 | h136 | h137 | h138 | h139 | h140 | h141 | h142 | h143 | h144 | h145 | h146 | h147=>kit_is)
  (case h148 | h149 | h150 | h151 | h152 | h153 | h154=>k_is)
  (case h155 | h156 | h157 | h158 | h159 | h160 | h161 | h162 | h163 | h164 | h165 | h166 | h167 | h168=>kit_is)
