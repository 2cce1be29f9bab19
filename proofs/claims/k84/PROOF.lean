import PyProof.Rows.All
import Wide.All
import OpenK.AllK
import Wide.FinOn
import Lean
import PyProof.EqAt
import PyProof.EqKinds
import PyProof.TupleCall
import PyProof.Rows.CatFin
import PyProof.StrLawsIn
import KE.IntTextLaws
import KE.IntTextText
import PyProof.SumAny
import PyProof.SeqI3
import PyProof.WalkInts
import PyProof.NeKinds
import KE.KDictLaws
import PyProof.DictIter
import PyProof.DictWalks
import PyProof.Rows.DictUnroll
import KE.KSortTup
import KE.KSortKey
import KE.KDictSum
import PyProof.Rows.SortRuns
import PyProof.Rows.FStr
import PyProof.StrLawsTight
import PyProof.StrLawsChain
import PyProof.Rows.StrLawsPart
import PyProof.Rows.StrFirst
import PyProof.Rows.ReprOcc
import PyProof.Rows.StrItems
import KE.KIntText
import KE.KEqDict
import PySem.Challenge.RW_jumpfield_k84_no_pattern
set_option Elab.async false
set_option linter.all false
set_option maxRecDepth 100000
set_option maxHeartbeats 8000000
theorem A0{p:Prop}(h:p:=by lia):p:=h
theorem A1{p:Prop}(h:p:=by decide +kernel):p:=h
theorem A3{p:Prop}(h:p:=by decide):p:=h
theorem A4{p:Prop}(h:p:=by intro z; cases z):p:=h
theorem A5{p:Prop}(h:p:=by simp):p:=h
theorem A6{p:Prop}(h:p:=by omega):p:=h
theorem A7{p:Prop}(h:p:=by show (0:Int) < 2305843009213693951; decide):p:=h
theorem A8{p:Prop}(h:p:=by show (0:Int) < 6; decide):p:=h
theorem A9{p:Prop}(h:p:=by show (0:Int) < 2; decide):p:=h
abbrev B0:=@List.length_map
abbrev B1:=@Nat.le_refl
abbrev B3:=@PySem.Heap.get?_push_of_some
abbrev B4:=@Array.getElem?_eq_getElem
abbrev B5:=@List.length_append
abbrev B7:=@List.mem_cons
abbrev B8:=@List.getElem?_eq_some_iff
abbrev B9:=@List.mem_cons_of_mem
abbrev C0:=@List.getElem?_eq_getElem
abbrev C1:=@List.getElem?_map
abbrev C3:=@Array.length_toList
abbrev C4:=@List.length_cons
abbrev C5:=@List.getD_eq_getElem?_getD
abbrev C6:=@List.mem_append
abbrev C7:=@List.mem_append_right
abbrev C8:=@Nat.le_trans
abbrev C9:=@List.mem_singleton
abbrev D0:=@PySem.Heap.lt_size
abbrev D1:=@List.size_toArray
abbrev D3:=@List.mem_cons_self
abbrev D4:=@PySem.Heap.get?_push_size
abbrev D5:=@List.map_append
abbrev D6:=@Bool.false_ne_true
abbrev D7:=@List.map_cons
abbrev D8:=@List.not_mem_nil
abbrev D9:=@Int.emod_lt_of_pos
abbrev F0:=@Nat.ne_of_lt
abbrev F1:=@List.mem_map
abbrev F2:=@Nat.lt_of_lt_of_le
abbrev F3:=@Array.getElem?_toList
abbrev F4:=@Option.map_eq_some_iff
abbrev F5:=@Nat.zero_le
abbrev F6:=@List.nodup_iff_pairwise_ne
abbrev F7:=@Array.getElem?_eq_some_iff
abbrev F8:=@Bool.false_eq_true
abbrev F9:=@Int.emod_nonneg
abbrev G7:=@Int.toNat_natCast
abbrev J1:=@List.take_add_one
abbrev J9:=@List.getElem?_append_right
abbrev L6:=@Array.toList_push
abbrev L7:=@Nat.mod_lt
abbrev L8:=@Int.eq_ofNat_of_zero_le
abbrev M0:=@Nat.not_lt_zero
abbrev M2:=@List.mem_range
abbrev M3:=@List.mem_of_getElem?
abbrev M4:=@List.append_assoc
abbrev M6:=@List.mem_append_left
abbrev M7:=@List.getElem?_append_left
abbrev M8:=@List.take_length
abbrev M9:=@List.all_eq_true
abbrev N2:=@List.take_append_drop
abbrev N3:=@List.length_range
abbrev N4:=@List.append_nil
abbrev N5:=@Nat.le_of_lt
abbrev N6:=@List.length_take
abbrev N7:=@List.getElem_mem
abbrev N8:=@PySem.Heap.get?_update_other
abbrev N9:=@List.nodup_cons
abbrev O0:=@List.length_drop
abbrev O1:=@Bool.and_eq_true
abbrev O2:=@Bool.not_true
abbrev O3:=@List.pairwise_map
abbrev O4:=@List.length_singleton
abbrev O5:=@Nat.le_of_not_lt
abbrev O6:=@Nat.lt_succ_iff_lt_or_eq
abbrev O7:=@List.eq_nil_of_length_eq_zero
abbrev O8:=@Bool.eq_iff_iff
abbrev O9:=@List.idxOf_lt_length_of_mem
abbrev P0:=@Nat.lt_irrefl
abbrev P1:=@List.lookup_cons
abbrev P2:=@List.nodup_nil
abbrev P3:=@Array.append_empty
abbrev P4:=@List.length_replicate
abbrev P5:=@List.drop_eq_getElem_cons
abbrev P6:=@List.find?_cons
abbrev P7:=@List.pairwise_append
abbrev P8:=@PySem.Heap.get?_none_of_le
abbrev P9:=@Array.getElem_toList
abbrev Q0:=@List.getElem?_range
abbrev Q4:=@Nat.div_eq_of_lt
abbrev Q5:=@PySem.Heap.size_push
abbrev Q6:=@Nat.div_add_mod
abbrev Q7:=@Array.extract_eq_empty_of_le
abbrev Q8:=@Nat.div_lt_iff_lt_mul
abbrev Q9:=@List.getElem?_eq_none
abbrev R0:=@PySem.Heap.get?_update_self
abbrev R1:=@Array.toList_extract
abbrev R3:=@Nat.pow_succ
abbrev R4:=@Int.pow_succ
abbrev R5:=@List.range_succ
abbrev R6:=@Nat.sub_add_cancel
abbrev R7:=@Array.size_extract
abbrev R8:=@Option.bind_eq_some_iff
abbrev R9:=@Int.le_refl
abbrev S1:=@Nat.zero_add
abbrev S2:=@List.take_of_length_le
abbrev S3:=@List.getElem?_set_self
abbrev S5:=@Array.getElem?_extract
abbrev S6:=@Array.reverse_reverse
abbrev S7:=@Nat.succ_le_succ
abbrev S8:=@List.filter_cons
abbrev S9:=@Nat.add_assoc
abbrev T5:=@List.all_cons
abbrev T6:=@Nat.add_mul_div_left
abbrev T7:=@List.getElem?_of_mem
abbrev T8:=@Array.toList_reverse
abbrev T9:=@Array.reverse_append
abbrev U0:=@List.mem_filter
abbrev U1:=@List.foldl_cons
abbrev U2:=@Int.natCast_add
abbrev U3:=@List.filterMap_cons
abbrev U4:=@Int.toNat_of_nonneg
abbrev U5:=@Nat.ne_of_gt
abbrev U6:=@List.map_map
abbrev U7:=@Array.getD_eq_getD_getElem?
abbrev U8:=@Option.toList_some
abbrev U9:=@List.filter_append
abbrev V0:=@Array.perm_iff_toList_perm
abbrev V1:=@Int.emod_eq_of_lt
abbrev V2:=@Bool.eq_false_iff
abbrev V3:=@Array.append_push
abbrev V4:=@Nat.mod_eq_of_lt
abbrev V5:=@Nat.lt_succ_self
abbrev V6:=@Nat.add_sub_cancel_left
abbrev V7:=@List.getElem_map
abbrev V8:=@List.getElem?_replicate
abbrev V9:=@List.countP_cons
abbrev W0:=@Array.toList_inj
abbrev W1:=@Nat.mul_comm
abbrev W2:=@Nat.le_of_eq
abbrev W3:=@Int.add_zero
abbrev W4:=@Array.getElem?_eq_none
abbrev W5:=@Option.map_some
abbrev W6:=@List.of_mem_zip
abbrev W7:=@List.all_append
abbrev W8:=@Int.natCast_mul
abbrev W9:=@Nat.pow_le_pow_right
abbrev Y0:=@List.getElem?_set_ne
abbrev Y1:=@List.map_congr_left
abbrev Y2:=@List.flatMap_append
abbrev Y3:=@Int.add_assoc
abbrev Y4:=@Array.forIn_toList
abbrev Y5:=@Option.isSome_map
abbrev Y6:=@Nat.lt_succ_of_lt
abbrev Y7:=@Nat.le_succ_of_le
abbrev Y8:=@List.nodup_append
abbrev Y9:=@List.foldl_append
abbrev Z0:=@List.flatMap_cons
abbrev Z1:=@Int.zero_add
abbrev Z2:=@PySem.wpAny_bind
abbrev Z3:=@decide_eq_true
abbrev Z4:=@decide_eq_false
abbrev Z5:=@if_neg
abbrev Z6:=@if_pos
abbrev Z7:=@PyProof.Rows.boot_isinstance
abbrev Z8:=@PyProof.Rows.wpS_bind
abbrev Z9:=@PySem.wpAny_pure
abbrev X0:=@PyProof.Rows.wpS_pure
abbrev X1:=@PySem.W.mg_of
abbrev X2:=@Option.some.inj
abbrev X4:=@congrArg
abbrev X5:=@Ne.symm
abbrev X6:=@PySem.F.plainAttrs_str
abbrev X7:=@Int.ofNat.inj
abbrev X8:=@PySem.PassesOwn.never
abbrev X9:=@PySem.F.plainAttrs_list
abbrev K0:=@PySem.boot_len
abbrev K1:=@PySem.wpAny_mono
abbrev K2:=@PySem.F.slot_list_append
abbrev K3:=@PySem.F.type_list_append
abbrev K5:=@PySem.wpAny_field
abbrev K6:=@of_decide_eq_true
abbrev K7:=@or_false
abbrev K8:=@PyProof.Rows.wpS_forRange
abbrev K9:=@PySem.W.kia_one
abbrev A0a:=@PySem.Paired.length
abbrev A0b:=@PyProof.Rows.boot_int
abbrev A0c:=@PyProof.Rows.boot_str
abbrev A0d:=@PySem.wpAny_truthy_bool
abbrev A0e:=@PySem.Obj.data_mapFields
abbrev A0f:=@PySem.mem_of_lookup
abbrev A0g:=@PySem.wpAny_seqItems
abbrev A0h:=@PyProof.Rows.wpS_mono
abbrev A1a:=@PyProof.Rows.callWith_type1
abbrev A1b:=@if_false
abbrev A1c:=@PySem.F.slot_str_partition
abbrev A1d:=@PySem.F.type_str_partition
abbrev A1e:=@PySem.wpAny_call_entry
abbrev A1f:=@PyProof.Rows.wpS_modify
abbrev A1g:=@PySem.wpAny_rule
abbrev A1h:=@List.cons.inj
abbrev A2a:=@PySem.F.slot_dict_get
abbrev A2b:=@PyProof.Rows.boot_min
abbrev A2c:=@Classical.choose_spec
abbrev A2d:=@PySem.wpAny_Call_Name_kw
abbrev A2e:=@PySem.typeIs_str
abbrev A2f:=@PySem.wpAny_setField_rec
abbrev A2g:=@PySem.wpAny_passesOwn
abbrev A2h:=@PySem.F.excBase_ValueError
abbrev A3a:=@PySem.wpAny_holding
abbrev A3b:=@PySem.Obj.isFreed_of_fields
abbrev A3c:=@Classical.byContradiction
abbrev A3d:=@PySem.Calls.evalArgs_plain
abbrev A3e:=@PySem.call_meets
abbrev A3f:=@PySem.F.slot_tuple_iterator_next
abbrev A3g:=@List.Pairwise.imp_of_mem
abbrev A3h:=@not_false_eq_true
abbrev A4a:=@PySem.wpAny_execs_nil
abbrev A4b:=@PySem.wpAny_getItem_str_slice
abbrev A4c:=@PyProof.Rows.boot_max
abbrev A4d:=@PySem.F.slot_str_find
abbrev A4e:=@PySem.F.type_str_find
abbrev A4f:=@PySem.codeAny_mono
abbrev A4g:=@PySem.StrLaws.found_one
abbrev A4h:=@PySem.wpAny_isInstance
abbrev A5a:=@PySem.W.callWith_K
abbrev A5b:=@beq_iff_eq
abbrev A5c:=@PySem.Paired.snoc
abbrev A5d:=@List.Perm.refl
abbrev A5e:=@PySem.wpAny_specialOf
abbrev A5f:=@if_true
abbrev A5g:=@not_or
abbrev A5h:=@PySem.Calls.spliced_cons
abbrev A6a:=@PySem.wpAny_setField
abbrev A6b:=@beq_self_eq_true
abbrev A6c:=@PySem.tupleKind_room_in1
abbrev A6d:=@PySem.F.args_dict_get_2
abbrev A6e:=@PyProof.Rows.wpS_get
abbrev A6f:=@PySem.W.cellsFrom_some
abbrev A6g:=@PySem.F.entry_dict_get
abbrev A6h:=@PySem.F.slot_str_index
abbrev A7a:=@PySem.wpAny_pyIter_list
abbrev A7b:=@PySem.Calls.spliced_nil
abbrev A7c:=@PySem.wpAny_newObj_type
abbrev A7d:=@PySem.wpAny_loadPart_at
abbrev A7e:=@PySem.wpAny_attempt
abbrev A7f:=@PySem.wpAny_standAt
abbrev A7g:=@PySem.wpAny_forIn_list
abbrev A7h:=@PySem.W.plainGet_of
abbrev A8a:=@PySem.wpAny_call
abbrev A8b:=@PySem.Calls.callWith_builtin
abbrev A8c:=@PySem.post_val_or_str
abbrev A8d:=@PySem.F.slot_zip_next
abbrev A8e:=@PySem.isSubtype_tuple_tuple
abbrev A8f:=@PySem.wpAny_updateSeq_pair
abbrev A8g:=@decide_eq_true_eq
abbrev A8h:=@PySem.wpAny_isSubtype_exc
abbrev A9a:=@PySem.wpAny_onRaise
abbrev A9b:=@PySem.F.args_str_split_2
abbrev A9c:=@PySem.wpAny_tupleItemsOf
open PySem.W (instObj methodObj lookIn plainGet hasDictIn findIn handedIn isFn plainOver takerIn any_some makesIn emptyDict keepIn specialIn takesIn mroIn kitOne kitx_list kitx_dict codeRec_of notCls excIn clsIn)
namespace L2
open PySem PySem.Spec PyProof.Rows
abbrev Key:=Sum Int Str
def NX:Key->Value->Bool
 |.inl k,v=>Value.isInt k v
 |.inr x,v=>Value.isStrOf x v
def keyH(w:World):Key->Int
 |.inl k=>hashInt k
 |.inr x=>hashStr w x
theorem BY:∀{k:Key}{v:Value},NX k v=true->(∃i t,k=Sum.inl i/\v=Value.int i t)\/(∃x t,k=Sum.inr x/\v=Value.str x t)
 |.inl i,v,h=>by
  obtain⟨t,e⟩:=Value.isInt_shape (k:=i) (v:=v) h;exact .inl ⟨i,t,rfl,e⟩
 |.inr x,v,h=>by
  obtain⟨t,e⟩:=Value.isStrOf_shape (x:=x) (v:=v) h;exact .inr ⟨x,t,rfl,e⟩
theorem TR(i:Int)(t:Tok):NX (.inl i) (.int i t)=true:=by simp[NX,Value.isInt]
theorem TQ(x:Str)(t:Tok):NX (.inr x) (.str x t)=true:=by simp[NX,Value.isStrOf]
theorem key_ll(a b:Int):decide ((Sum.inl a:Key)=Sum.inl b)=(a==b):=by
 by_cases e:a=b
 ·subst e;simp
 ·have h:¬(Sum.inl a:Key)=Sum.inl b:=λq=>e (Sum.inl.inj q);rw[Z4 h];exact(beq_eq_false_iff_ne.mpr e).symm
theorem key_rr(a b:Str):decide ((Sum.inr a:Key)=Sum.inr b)=decide (a=b):=by
 by_cases e:a=b
 ·subst e;simp
 ·have h:¬(Sum.inr a:Key)=Sum.inr b:=λq=>e (Sum.inr.inj q);rw[Z4 h,Z4 e]
theorem key_lr(a:Int)(b:Str):decide ((Sum.inl a:Key)=Sum.inr b)=false:=Z4 (λq=>nomatch q)
theorem key_rl(a:Str)(b:Int):decide ((Sum.inr a:Key)=Sum.inl b)=false:=Z4 (λq=>nomatch q)
def Cb(prog:Program)(w:World):PySem.KeyKind prog w Key where
 is:=NX
 hash:=keyH w
 inj:=λv a b ha hb=>by
  rcases BY ha with ⟨i,t,rfl,rfl⟩|⟨x,t,rfl,rfl⟩
  ·rcases BY hb with ⟨j,u,rfl,e⟩|⟨y,u,rfl,e⟩
   ·injection e with e1 _;rw[e1]
   ·exact nomatch e
  ·rcases BY hb with ⟨j,u,rfl,e⟩|⟨y,u,rfl,e⟩
   ·exact nomatch e
   ·injection e with e1 _;rw[e1]
 byValue:=λk v h=>by
  rcases BY h with ⟨i,t,rfl,rfl⟩|⟨x,t,rfl,rfl⟩<;>rfl
 pyHash:=λhv h=>by
  rcases BY hv with ⟨i,t,rfl,rfl⟩|⟨x,t,rfl,rfl⟩
  ·exact wpAny_pyHash_int h
  ·exact wpAny_pyHash_str h
 eqBool:=λhu hv h=>by
  rcases BY hu with ⟨i,t,rfl,rfl⟩|⟨x,t,rfl,rfl⟩
  ·rcases BY hv with ⟨j,u,rfl,rfl⟩|⟨y,u,rfl,rfl⟩
   ·rw[key_ll]at h;exact wpAny_eqBool_int h
   ·rw[key_lr]at h;exact SeqAt.EqAt.int_str i t y u _ _ _ _ h
  ·rcases BY hv with ⟨j,u,rfl,rfl⟩|⟨y,u,rfl,rfl⟩
   ·rw[key_rl]at h;exact SeqAt.EqAt.str_int x t j u _ _ _ _ h
   ·rw[key_rr]at h;exact wpAny_eqBool_str h
 «strs»:=λk x t v h=>by
  rcases BY h with ⟨i,u,rfl,e⟩|⟨y,u,rfl,e⟩
  ·exact nomatch e
  ·injection e with e1 _
   subst e1;cases v<;>rfl
theorem Ql(prog:Program)(w:World)(i:Int)(t:Tok):(Cb prog w).is (.inl i) (.int i t)=true:=TR i t
theorem Qk(prog:Program)(w:World)(x:Str)(t:Tok):(Cb prog w).is (.inr x) (.str x t)=true:=TQ x t
inductive V where
 |non|bl (b:Bool)|int (i:Int)|str (x:Str)|byt (b:Array UInt8)|flt (b:UInt64)|ref (a:Addr)|ty (n:String)
 deriving DecidableEq
def Bb:V->Value->Prop
 |.non,u=>u=Value.none
 |.bl b,u=>u=Value.bool b
 |.int i,u=>∃t,u=Value.int i t
 |.str x,u=>∃t,u=Value.str x t
 |.byt b,u=>∃t,u=Value.bytes b t
 |.flt b,u=>∃t,u=Value.float b t
 |.ref a,u=>u=Value.ref a
 |.ty n,u=>u=Value.type n
abbrev AN:List V->List Value->Prop:=Paired Bb
theorem AN.length{xs:List V}{us:List Value}(r:AN xs us):xs.length=us.length:=A0a r
theorem AN.get:∀{xs:List V}{us:List Value}{i:Nat}{x:V},AN xs us->xs[i]?=some x->∃u,us[i]?=some u/\Bb x u
 |_,_,_,_,.nil,e=>by simp at e
 |_,_,0,_,.cons r _,e=>by simp at e;subst e;exact⟨_,rfl,r⟩
 |_,_,i+1,x,.cons _ t,e=>by
  obtain⟨u,h1,h2⟩:=AN.get (i:=i) (x:=x) t (by simpa using e);exact⟨u,by simpa using h1,h2⟩
theorem AN.append:∀{xs ys:List V}{us ws:List Value},AN xs us->AN ys ws->AN (xs++ys) (us++ws)
 |_,_,_,_,.nil,s=>s
 |_,_,_,_,.cons r t,s=>.cons r (AN.append t s)
theorem AN.take:∀{xs:List V}{us:List Value}(n:Nat),AN xs us->AN (xs.take n) (us.take n)
 |_,_,0,_=>.nil
 |_,_,_+1,.nil=>.nil
 |_,_,n+1,.cons r t=>.cons r (AN.take n t)
theorem AN.drop:∀{xs:List V}{us:List Value}(n:Nat),AN xs us->AN (xs.drop n) (us.drop n)
 |_,_,0,r=>r
 |_,_,_+1,.nil=>.nil
 |_,_,n+1,.cons _ t=>AN.drop n t
theorem AN.none_of:∀{xs:List V}{us:List Value}{i:Nat},AN xs us->xs[i]?=none->us[i]?=none:=λ{xs us i} r e=>by
 have h1:=r.length;have h2:xs.length<=i:=List.getElem?_eq_none_iff.mp e;exact List.getElem?_eq_none_iff.mpr A0
def GN:Option V->Option Value->Prop
 |some v,some u=>Bb v u
 |none,none=>True
 |_,_=>False
def KV{κ:Type}:List (κ×V)->List (κ×Value)->Prop:=Paired λ(p:κ×V)(q:κ×Value)=>p.1=q.1/\Bb p.2 q.2
def kV:Key->V
 |.inl i=>.int i
 |.inr x=>.str x
inductive HO where
 |lst (xs:List V)
 |tup (xs:List V)
 |dK (kvs:List (Key×V))|dT (kvs:List (List Key×V))
 |set (S:Int->Bool) (n:Nat)
 |ins (C dx:Addr) (fs:List (Str×V))
 |own (x:Addr)
 |xd (fs:List (Str×V))
 |met (f x:Addr)
 |rng (lo hi:Int)
 |frz (o:Obj) (u:HO)
 |tbl (ps:Array Value)
 |ext (φ:Heap->Prop)
abbrev Hp:=Addr->Option HO
def upd(H:Hp)(a:Addr)(o:HO):Hp:=λb=>if b=a then some o else H b
theorem Ag{H:Hp}{a:Addr}{o:HO}:upd H a o a=some o:=by unfold upd;rw[Z6 rfl]
theorem AD{H:Hp}{a b:Addr}{o:HO}(h:b≠a):upd H a o b=H b:=by unfold upd;rw[Z5 h]
theorem Bc{H:Hp}{a b:Addr}{o u:HO}(h:H a=some o)(h':H b=some u)(d:o≠u):a≠b:=by
 intro e;subst e;rw[h]at h';exact d (X2 h')
theorem Ax{H:Hp}{a b:Addr}{o:HO}(h:H a=some o)(h':H b=none):a≠b:=by
 intro e;subst e;rw[h]at h';cases h'
section
variable(P:Program)(w:World)
def Bh(H:Hp)(h:Heap)(a:Addr):HO->Prop
 |.lst xs=>xs.length<=sizeLine/\∃(its:List Value)(n:Nat),AN xs its/\h.get? a=some {cls:=.type "list",data:=.seq its.toArray n}
 |.tup xs=>xs.length<=sizeLine/\∃its:List Value,AN xs its/\IsTup h a its.toArray
 |.dK kvs=>kvs.length<=sizeLine/\(a==sysModules)=false/\∃vs,KV kvs vs/\h.DictOf (Cb P w) a vs
 |.dT kvs=>kvs.length<=sizeLine/\(a==sysModules)=false/\∃xs:List (List Key×Addr×Value),
   Paired (λ(p:List Key×V)(q:List Key×Addr×Value)=>p.1=q.1/\H q.2.1=some (.tup (p.1.map kV))/\Bb p.2 q.2.2) kvs xs /\
   ∃o es ep,h.get? a=some o/\o.ExactDict/\o.data=.dict es ep/\es.toList=xs.map (entryOfKey (tupleKind (Cb P w)))/\(xs.map (·.1)).Nodup
 |.set S n=>h.SetOf (intKind P w) a S n
 |.ins C dx fs=>H dx=some (.own a)/\fs.length<=1000/\dx≠a/\h.get? a=some (instObj C dx) /\
   ∃mA,h.Ns1 dx mA/\(∀f,GN (fs.lookup f) (mA f))/\PySem.Within mA (fs.map (·.1))
 |.own _=>∃o,h.get? a=some o
 |.xd fs=>∃mA,h.Ns1 a mA/\∀f,GN (fs.lookup f) (mA f)
 |.rng lo hi=>∃t u v,h.get? a=some {cls:=.type "range",data:=.fields #[.int lo t,.int hi u,.int 1 v]}
 |.frz o u=>h.get? a=some o/\Bh H h a u
 |.tbl ps=>h.get? a=some {cls:=.none,data:=.fields ps}
 |.met f x=>h.get? a=some (methodObj (.ref f) (.ref x))
 |.ext φ=>φ h/\(∃o,h.get? a=some o)/\∀h1 h2:Heap,φ h1->(∀o,h1.get? a=some o->h2.get? a=some o)->φ h2
def HOk(H:Hp)(h:Heap):Prop:=∀a o,H a=some o->Bh P w H h a o
end
section
variable{P:Program}{w:World}{H H':Hp}{h h':Heap}{a:Addr}{o:HO}
theorem Bh.lt(x:Bh P w H h a o):a<h.objs.size:=by
 cases o with
 |lst xs=>obtain⟨_,_,_,_,e⟩:=x;exact D0 e
 |tup xs=>obtain⟨_,_,_,p⟩:=x;exact p.lt
 |dK kvs=>obtain⟨_,_,_,_,o,_,_,e,_⟩:=x;exact D0 e
 |dT kvs=>obtain⟨_,_,_,_,o,_,_,e,_⟩:=x;exact D0 e
 |set S n=>obtain⟨o,_,_,_,e,_⟩:=x;exact D0 e
 |ins C dx fs=>obtain⟨_,_,_,e,_⟩:=x;exact D0 e
 |own y=>obtain⟨_,e⟩:=x;exact D0 e
 |xd fs=>obtain⟨_,⟨_,_,_,e,_⟩,_⟩:=x;exact D0 e
 |rng lo hi=>obtain⟨_,_,_,e⟩:=x;exact D0 e
 |frz ob u=>obtain⟨e,_⟩:=x;exact D0 e
 |tbl ps=>exact D0 (show h.get? a=some _ from x)
 |met f y=>exact D0 (show h.get? a=some _ from x)
 |ext φ=>obtain⟨_,⟨_,e⟩,_⟩:=x;exact D0 e
theorem Paired.mapP{α β:Type}{F G:α->β->Prop}:∀{l₁:List α}{l₂:List β},Paired F l₁ l₂->(∀a b,F a b->G a b)->Paired G l₁ l₂
 |_,_,.nil,_=>.nil
 |_,_,.cons r t,f=>.cons (f _ _ r) (Paired.mapP t f)
theorem Paired.imp'{α β:Type}{F G:α->β->Prop}(f:∀a b,F a b->G a b){l₁:List α}{l₂:List β}(r:Paired F l₁ l₂):Paired G l₁ l₂:=Paired.mapP r f
theorem Bh.stay(x:Bh P w H h a o)(k:∀b u,(b=a\/H b=some (.own a))->h.get? b=some u->h'.get? b=some u)
  (ho:∀b,H b=some (.own a)->H' b=some (.own a)) (ht:∀b xs,H b=some (.tup xs)->H' b=some (.tup xs)):Bh P w H' h' a o:=by
 induction o with
 |lst xs=>obtain⟨z,its,n,r,e⟩:=x;exact⟨z,its,n,r,k _ _ (.inl rfl) e⟩
 |tup xs=>obtain⟨z,its,r,ob,e,c⟩:=x;exact⟨z,its,r,ob,k _ _ (.inl rfl) e,c⟩
 |dK kvs=>obtain⟨z,y,vs,r,ob,es,ep,e,c⟩:=x;exact⟨z,y,vs,r,ob,es,ep,k _ _ (.inl rfl) e,c⟩
 |dT kvs =>
  obtain⟨z,y,xs,r,ob,es,ep,e,c⟩:=x;exact⟨z,y,xs,Paired.mapP r λp q z=>⟨z.1,ht _ _ z.2.1,z.2.2⟩,ob,es,ep,k _ _ (.inl rfl) e,c⟩
 |set S n=>obtain⟨ob,es,ep,t,e,c⟩:=x;exact⟨ob,es,ep,t,k _ _ (.inl rfl) e,c⟩
 |ins C dx fs =>
  obtain⟨d,z,ne,e,mA,⟨od,es,ep,e2,c⟩,r⟩:=x;exact⟨ho _ d,z,ne,k _ _ (.inl rfl) e,mA,⟨od,es,ep,k _ _ (.inr d) e2,c⟩,r⟩
 |own y=>obtain⟨ob,e⟩:=x;exact⟨ob,k _ _ (.inl rfl) e⟩
 |xd fs=>obtain⟨mA,⟨od,es,ep,e,c⟩,r⟩:=x;exact⟨mA,⟨od,es,ep,k _ _ (.inl rfl) e,c⟩,r⟩
 |rng lo hi=>obtain⟨t,u,v,e⟩:=x;exact⟨t,u,v,k _ _ (.inl rfl) e⟩
 |frz ob u ih=>obtain⟨e,q⟩:=x;exact⟨k _ _ (.inl rfl) e,ih q⟩
 |tbl ps =>
  have e:h.get? a=some {cls:=.none,data:=.fields ps}:=x;show h'.get? a=some {cls:=.none,data:=.fields ps};exact k a _ (.inl rfl) e
 |met f y =>
  have e:h.get? a=some (methodObj (.ref f) (.ref y)):=x;show h'.get? a=some (methodObj (.ref f) (.ref y));exact k a _ (.inl rfl) e
 |ext φ=>obtain⟨p,⟨o,e⟩,st⟩:=x;exact⟨st _ _ p λo q=>k _ _ (.inl rfl) q,⟨o,k _ _ (.inl rfl) e⟩,st⟩
theorem HOk.lt(x:HOk P w H h)(e:H a=some o):a<h.objs.size:=(x a o e).lt
theorem HOk.fresh(x:HOk P w H h)(e:h.objs.size<=a):H a=none:=by
 cases q:H a with
 |none=>rfl
 |some u=>exact absurd (F2 (x.lt q) e) (P0 _)
theorem HOk.kept(x:HOk P w H h)(k:∀b u,h.get? b=some u->h'.get? b=some u):HOk P w H h':=λa o e =>
 (x a o e).stay (λb u _ q=>k b u q) (λ_ q=>q) λ_ _ q=>q
theorem HOk.laid(x:HOk P w H h)(k:∀b u,h.get? b=some u->h'.get? b=some u)(hp:h.objs.size<=a)(new:Bh P w (upd H a o) h' a o):HOk P w (upd H a o) h':=λb u e=>by
 have hn:=x.fresh hp;by_cases hb:b=a
 ·subst hb;rw[Ag]at e;cases e;exact new
 ·rw[AD hb]at e;exact(x b u e).stay (λc v _ q=>k c v q) (λc q=>by rw[AD (Ax q hn)];exact q) λc xs q=>by rw[AD (Ax q hn)];exact q
end
def Rd(H:Hp)(a:Addr)(u:HO):Prop:=H a=some u\/∃o,H a=some (.frz o u)
theorem Rd.ok{P:Program}{w:World}{H:Hp}{h:Heap}{a:Addr}{u:HO}(r:Rd H a u)(x:HOk P w H h):Bh P w H h a u:=by
 rcases r with r|⟨o,r⟩
 ·exact x a u r
 ·obtain⟨_,q⟩:=x a _ r;exact q
def Mut:Option HO->Prop
 |some (.lst _)=>True
 |some (.dK _)=>True
 |some (.dT _)=>True
 |some (.set _ _)=>True
 |some (.ins _ _ _)=>True
 |some (.ext _)=>True
 |_=>False
section
variable{P:Program}{w:World}{H:Hp}{h h':Heap}{x e:Addr}{o':HO}
theorem HOk.write(ok:HOk P w H h)(mu:Mut (H x))(he:e=x\/H e=some (.own x))(k:∀b u,b≠e->h.get? b=some u->h'.get? b=some u)(heo:∃u,h'.get? e=some u)
  (new:Bh P w (upd H x o') h' x o'):HOk P w (upd H x o') h':=λb u q=>by
 have nown:∀c y,H c=some (.own y)->c≠x:=λc y r z=>by subst z;rw[r]at mu;exact mu
 have ntup:∀c xs,H c=some (.tup xs)->c≠x:=λc xs r z=>by subst z;rw[r]at mu;exact mu
 by_cases hb:b=x
 ·subst hb;rw[Ag]at q;cases q;exact new
 ·rw[AD hb]at q;by_cases hbe:b=e
  ·have q':H b=some (.own x):=by
    rcases he with z|z
    ·exact absurd (hbe.trans z) hb
    ·rw[hbe];exact z
   rw[q]at q';cases q';obtain⟨v,hv⟩:=heo;exact⟨v,by rw[hbe];exact hv⟩
  ·refine(ok b u q).stay (λc v hc r=>k c v ?_ r) (λc r=>by rw[AD (nown c b r)];exact r) λc xs r=>by rw[AD (ntup c xs r)];exact r
   rcases hc with rfl|hc
   ·exact hbe
   ·rintro rfl;rcases he with z|z
    ·exact nown c b hc z
    ·rw[hc]at z;cases z;exact hb rfl
end
structure Un(fs ex:List Addr)(H H':Hp)(h h':Heap):Prop where
 keep:∀b o,h.get? b=some o->H b=none->b∉fs->b∉ex->h'.get? b=some o
 slot:∀b o,h.get? b=some o->H b=none->b∈fs->b∉ex->∃sl,h'.get? b=some {o with slots:=sl}
 free:∀b o,h.get? b=some o->H b=none->b∉ex->H' b=none
 there:∀b o,h.get? b=some o->b∉ex->∃o',h'.get? b=some o'
 tups:∀b xs,H b=some (.tup xs)->H' b=some (.tup xs)
 frzs:∀b o u,H b=some (.frz o u)->H' b=some (.frz o u)
 tbls:∀b ps,H b=some (.tbl ps)->∃more,H' b=some (.tbl (ps++more))
section
variable{fs fs' ex ex':List Addr}{H H1 H2:Hp}{h h1 h2 h':Heap}{a x e:Addr}{o:HO}
theorem Un.any(u:Un fs ex H H1 h h1){b:Addr}{ob:Obj}(q:h.get? b=some ob)(n:H b=none)(hx:b∉ex):∃sl,h1.get? b=some {ob with slots:=sl}:=by
 by_cases hb:b∈fs
 ·exact u.slot b ob q n hb hx
 ·exact⟨ob.slots,u.keep b ob q n hb hx⟩
theorem Un.kept(k:∀b u,h.get? b=some u->h'.get? b=some u):Un fs ex H H h h' :=
 ⟨λb ob q _ _ _=>k b ob q,λb ob q _ _ _=>⟨ob.slots,k b ob q⟩,λ_ _ _ n _=>n,λb ob q _=>⟨ob,k b ob q⟩,λ_ _ q=>q,λ_ _ _ q=>q,λ_ ps q=>⟨#[],by rw[q];simp⟩⟩
theorem Un.refl:Un fs ex H H h h:=Un.kept λ_ _ q=>q
theorem Un.laid(k:∀b u,h.get? b=some u->h'.get? b=some u)(hp:h.objs.size<=a)(hn:H a=none):Un fs ex H (upd H a o) h h' where
 keep:=λb u q _ _ _=>k b u q
 slot:=λb u q _ _ _=>⟨u.slots,k b u q⟩
 free:=λb u q n _=>by rw[AD (F0 (F2 (D0 q) hp))];exact n
 there:=λb u q _=>⟨u,k b u q⟩
 tups:=λb xs q=>by rw[AD (Ax q hn)];exact q
 frzs:=λb u xs q=>by rw[AD (Ax q hn)];exact q
 tbls:=λb ps q=>⟨#[],by rw[AD (Ax q hn),q];simp⟩
theorem Un.write(mu:Mut (H x))(he:e=x\/H e=some (.own x))(k:∀b u,b≠e->h.get? b=some u->h'.get? b=some u)(heo:∃u,h'.get? e=some u):Un fs ex H (upd H x o) h h':=by
 have hx:∀b,H b=none->b≠x:=λb n z=>by subst z;rw[n]at mu;exact mu
 have hb:∀b,H b=none->b≠e:=λb n z=>by
  subst z;rcases he with r|r
  ·exact hx b n r
  ·rw[n]at r;cases r
 have hm:∀b u,H b=some u->¬Mut (some u)->b≠x:=λb u q nm z=>by subst z;rw[q]at mu;exact nm mu
 refine⟨λb u q n _ _=>k b u (hb b n) q,λb u q n _ _=>⟨u.slots,k b u (hb b n) q⟩,λb u q n _=>by rw[AD (hx b n)];exact n,λb u q _=>?_,
  λb xs q=>by rw[AD (hm b _ q λz=>z)];exact q,λb u xs q=>by rw[AD (hm b _ q λz=>z)];exact q,λb ps q=>⟨#[],by rw[AD (hm b _ q λz=>z),q];simp⟩⟩
 by_cases hbe:b=e
 ·subst hbe;exact heo
 ·exact⟨u,k b u hbe q⟩
end
def trk(h:Heap)(H:Hp):List Addr:=(List.range h.objs.size).filter λa=>(H a).isSome
def Pm(h:Heap)(H:Hp):Heap:=PySem.W.hideAll h (trk h H)
theorem TW(h:Heap)(H:Hp):(Pm h H).objs.size=h.objs.size:=PySem.W.hideAll_size _ _
theorem VX{h:Heap}{H:Hp}{b:Addr}{o:Obj}(e:h.get? b=some o)(n:H b=none):(Pm h H).get? b=some o :=
 PySem.W.hideAll_get _ e λhm=>by
  have q:(H b).isSome=true:=(U0.mp hm).2;rw[n]at q;simp at q
theorem of_hidT{h:Heap}{H:Hp}{b:Addr}{o:Obj}(e:(Pm h H).get? b=some o):h.get? b=some o/\H b=none:=by
 have e':h.get? b=some o:=PySem.W.of_hideAll (trk h H) e;refine⟨e',?_⟩;cases q:H b with
 |none=>rfl
 |some x =>
  have hm:b∈trk h H:=U0.mpr ⟨M2.mpr (D0 e'),by simp[q]⟩;have z:(Pm h H).get? b=none:=PySem.W.hideAll_none (trk h H) hm;rw[z]at e;cases e
structure Mod(K:W.Frag)(mg:Str->Option Value)(base:Heap):Prop where
 kin:K.In base
 glob:base.Ns mainGlobals mg
 blt:∃mb,base.Ns builtinsNs mb/\∀x:Str,x≠"__name__" -> mb x=bootBuiltins x
 nolimit:base.NoLimit
structure Cx where
 prog:Program
 w:World
 K:W.Frag
 mg:Str->Option Value
 base:Heap
 A:Around
 N:List Str
 s₀:Shared
 H₀:Hp
 env:Env
 outer:List Env
 stack:List Env
 ex:List Addr
 fn:Str->Bool
 calm:Bool
 pn:List (Addr×Obj)
 xe:Value->Shared->Prop
def frs(l:List Env):List Addr:=l.filterMap (·.frame)
abbrev Cx.fs(X:Cx):List Addr:=frs X.outer
def Vis(sc:Scope)(x:Str):Prop:=sc.names.lookup x=some .local\/sc.names.lookup x=some .cell\/sc.names.lookup x=some .free
def Loc(sc:Scope)(x:Str):Prop:=sc.names.lookup x=some .local\/sc.names.lookup x=some .cell
def Look(env:Env)(h:Heap)(m:Str->Option Value)(x:Str)(u:Value):Prop :=
 (env.kindOf x=some .local/\m x=some u)\/((env.kindOf x=some .cell\/env.kindOf x=some .free)/\∃c,env.cells.lookup x=some c/\h.IsCell c (some u))
structure Cx.Ok(X:Cx):Prop where
 mod:Mod X.K X.mg X.base
 kind:X.env.scope.kind=.function
 glob:X.env.globals=mainGlobals
 blt:X.env.builtins=builtinsNs
 above:X.s₀.heap.objs.size<=X.env.locals
 inj:∀x y c,X.env.cells.lookup x=some c->X.env.cells.lookup y=some c->x=y
 has:∀x,(X.env.kindOf x=some .cell\/X.env.kindOf x=some .free)->∃c,X.env.cells.lookup x=some c
 cab:∀x c,X.fn x=true->X.env.cells.lookup x=some c->X.s₀.heap.objs.size<=c
 hd:X.calm=true->X.A.handled=none
 frames:X.A.frames=some X.stack
 stk:X.stack=X.outer\/(X.stack=X.env::X.outer/\X.env.frame=some X.env.locals)
 exf:∀b∈X.ex,b≠X.env.locals/\∀x c,X.env.cells.lookup x=some c->c≠b
 bs:∀b o,X.base.get? b=some o->X.s₀.heap.get? b=some o/\X.H₀ b=none
 bsz:X.base.objs.size<=X.s₀.heap.objs.size
 noex:∀b o,X.base.get? b=some o->b∉X.ex
 exfs:∀b∈X.ex,b∉X.fs
 funs:X.s₀.heap.FunFrames X.base X.outer
 frf:∀b∈X.fs,X.H₀ b=none
structure Inv(X:Cx)(pins:List (Addr×Obj))(σ:List (Option V))(H:Hp)(s:Shared):Prop where
 ok:X.Ok
 os:s.os=X.s₀.os
 bare:AllBare s.gens
 base:Un X.fs X.ex X.H₀ H X.s₀.heap s.heap
 loc:∃m,s.heap.Ns X.env.locals m/\∀(i:Nat)(x:Str)(v:V),X.N[i]?=some x->σ[i]?=some (some v)->Vis X.env.scope x->∃u,Bb v u/\Look X.env s.heap m x u
 cell:∀x c,X.env.cells.lookup x=some c->∃v,s.heap.IsCell c v
 free:H X.env.locals=none
 freeC:∀x c,X.env.cells.lookup x=some c->H c=none
 pin:∀p∈X.pn++pins,s.heap.get? p.1=some p.2/\H p.1=none/\p.1≠X.env.locals/\p.1∉X.fs/\∀v,p.2.data≠.cell v
 hok:HOk X.prog X.w H s.heap
 len:σ.length=X.N.length
section
variable{X:Cx}{pins:List (Addr×Obj)}{σ:List (Option V)}{H H':Hp}{s:Shared}{h':Heap}
theorem Cx.Ok.nofr(ok:X.Ok){b:Addr}{o:Obj}(e:X.base.get? b=some o):b∉X.fs:=λhb=>by
 have:=(ok.funs.mem hb).1;rw[e]at this;cases this
theorem Inv.bs(I:Inv X pins σ H s):∀b o,X.base.get? b=some o->s.heap.get? b=some o/\H b=none:=λb o e =>
 ⟨I.base.keep b o (I.ok.bs b o e).1 (I.ok.bs b o e).2 (I.ok.nofr e) (I.ok.noex b o e),I.base.free b o (I.ok.bs b o e).1 (I.ok.bs b o e).2 (I.ok.noex b o e)⟩
theorem Inv.bk(I:Inv X pins σ H s):∀b o,X.base.get? b=some o->s.heap.get? b=some o:=λb o e=>(I.bs b o e).1
theorem Inv.mod(I:Inv X pins σ H s):Mod X.K X.mg X.base:=I.ok.mod
theorem Inv.kIn(I:Inv X pins σ H s):X.K.In s.heap:=I.ok.mod.kin.keeps I.bk
theorem Inv.lt(I:Inv X pins σ H s):X.env.locals<s.heap.objs.size:=let ⟨_,hn,_⟩:=I.loc;hn.lt
theorem Inv.sz(I:Inv X pins σ H s):X.s₀.heap.objs.size<=s.heap.objs.size:=C8 I.ok.above (N5 I.lt)
theorem Inv.nofs(I:Inv X pins σ H s){a:Addr}(h:s.heap.objs.size<=a):a∉X.fs:=λhb=>by
 obtain⟨_,o,ho,_⟩:=I.ok.funs.mem hb;exact absurd (F2 (D0 ho) (C8 I.sz h)) (P0 _)
theorem Inv.cne(I:Inv X pins σ H s):∀x c,X.env.cells.lookup x=some c->c≠X.env.locals:=λx c e z=>by
 obtain⟨v,o,ho,hd⟩:=I.cell x c e;obtain⟨m,⟨o',es,ep,ho',hd',_⟩,_⟩:=I.loc;rw[z,ho']at ho;cases ho;rw[hd']at hd;cases hd
theorem Inv.funs (I:Inv X pins σ H s):s.heap.FunFrames X.base X.outer:=by
 have all:∀(l:List Env),(∀b∈frs l,b∈X.fs)->X.s₀.heap.FunFrames X.base l->s.heap.FunFrames X.base l:=by
  intro l;induction l with
  |nil=>intro _ _;trivial
  |cons env r ih =>
   intro hs hl;obtain⟨hk,⟨L,o,hf,hn,ho,hd⟩,hr⟩:=hl;have hL:L∈X.fs:=hs L (by unfold frs;rw[U3,hf];exact D3);obtain⟨sl,e⟩:=I.base.slot L o ho (I.ok.frf L hL) hL λz=>I.ok.exfs L z hL;exact⟨hk,⟨L,_,hf,hn,e,hd⟩,ih (λb hb=>hs b (by unfold frs;rw[U3,hf];exact B9 _ hb)) hr⟩
 exact all X.outer (λ_ hb=>hb) I.ok.funs
theorem Inv.stack(I:Inv X pins σ H s):s.heap.FunFrames X.base X.stack:=by
 rcases I.ok.stk with e|⟨e,hf⟩
 ·rw[e];exact I.funs
 ·rw[e];obtain⟨m,hn,_⟩:=I.loc;refine .cons (by rw[I.ok.kind];decide) hf hn ?_ I.funs;exact P8 (C8 I.ok.bsz I.ok.above)
theorem Inv.stkSub(I:Inv X pins σ H s):∀b∈frs X.stack,b∈X.env.locals::X.fs:=λb hb=>by
 rcases I.ok.stk with e|⟨e,hf⟩
 ·rw[e]at hb;exact B9 _ hb
 ·rw[e]at hb;unfold frs at hb;rw[U3,hf]at hb;exact hb
theorem Inv.stkFree(I:Inv X pins σ H s):∀b∈frs X.stack,H b=none:=λb hb=>by
 rcases B7.mp (I.stkSub b hb)with e|hb
 ·rw[e];exact I.free
 ·obtain⟨_,o,ho,_⟩:=I.ok.funs.mem hb;exact I.base.free b o ho (I.ok.frf b hb) λz=>I.ok.exfs b z hb
theorem Inv.step{g':Array GenState}{t':Nat}{d':Drawn}{ch:List Addr}(I:Inv X pins σ H s)
  (hch:∀b∈ch,(b∈X.ex\/X.s₀.heap.objs.size<=b)/\b≠X.env.locals/\(∀x c,X.env.cells.lookup x=some c->c≠b)/\∀p∈X.pn++pins,p.1≠b)
  (keep:∀b o,b≠X.env.locals->b∉X.fs->b∉ch->s.heap.get? b=some o->H b=none->h'.get? b=some o)
  (slot:∀b o,b≠X.env.locals->b∈X.fs->b∉ch->s.heap.get? b=some o->H b=none->∃sl,h'.get? b=some {o with slots:=sl}) (free:∀b o,b∉ch->s.heap.get? b=some o->H b=none->H' b=none)
  (there:∀b o,b∉ch->s.heap.get? b=some o->∃o',h'.get? b=some o')
  (tups:∀b xs,H b=some (.tup xs)->H' b=some (.tup xs)) (frzs:∀b o u,H b=some (.frz o u)->H' b=some (.frz o u)) (tbls:∀b ps,H b=some (.tbl ps)->∃more,H' b=some (.tbl (ps++more)))
  (ns:∀m,s.heap.Ns X.env.locals m->h'.Ns X.env.locals m) (hok:HOk X.prog X.w H' h') (hg:AllBare g') :
  Inv X pins σ H' {s with heap:=h',gens:=g',drawn:=d',toks:=t'}:=by
 have neL:∀b o,X.s₀.heap.get? b=some o->b≠X.env.locals:=λb o e=>F0 (F2 (D0 e) I.ok.above);have neC:∀b o,X.s₀.heap.get? b=some o->b∉X.ex->b∉ch:=λb o e hx hb=>by
  rcases(hch b hb).1 with z|z
  ·exact hx z
  ·exact absurd (F2 (D0 e) z) (P0 _)
 have cellK:∀x c,X.env.cells.lookup x=some c->∀v,s.heap.IsCell c v->h'.IsCell c v:=λx c e v ⟨o,ho,hd⟩=>by
  have nch:c∉ch:=λz=>(hch c z).2.2.1 x c e rfl;by_cases hc:c∈X.fs
  ·obtain⟨sl,q⟩:=slot c o (I.cne x c e) hc nch ho (I.freeC x c e);exact⟨_,q,hd⟩
  ·exact⟨o,keep c o (I.cne x c e) hc nch ho (I.freeC x c e),hd⟩
 refine⟨I.ok,I.os,hg,⟨λb o e n hb hx=>?_,λb o e n hb hx=>?_,λb o e n hx=>?_,λb o e hx=>?_,λb xs e=>tups b xs (I.base.tups b xs e),λb o xs e=>frzs b o xs (I.base.frzs b o xs e),λb ps e=>?_⟩,?_,λx c e=>?_,?_,λx c e=>?_,λp hp=>?_,hok,I.len⟩
 ·exact keep b o (neL b o e) hb (neC b o e hx) (I.base.keep b o e n hb hx) (I.base.free b o e n hx)
 ·obtain⟨sl,e1⟩:=I.base.slot b o e n hb hx;obtain⟨sl',e2⟩:=slot b _ (neL b o e) hb (neC b o e hx) e1 (I.base.free b o e n hx);exact⟨sl',e2⟩
 ·obtain⟨o',e1⟩:=I.base.there b o e hx;exact free b o' (neC b o e hx) e1 (I.base.free b o e n hx)
 ·obtain⟨o',e1⟩:=I.base.there b o e hx;exact there b o' (neC b o e hx) e1
 ·obtain⟨m1,e1⟩:=I.base.tbls b ps e;obtain⟨m2,e2⟩:=tbls b _ e1;exact⟨m1++m2,by rw[e2,Array.append_assoc]⟩
 ·obtain⟨m,hn,hl⟩:=I.loc;refine⟨m,ns m hn,λi x v e1 e2 e3=>?_⟩;obtain⟨u,r,l⟩:=hl i x v e1 e2 e3;refine⟨u,r,?_⟩;rcases l with l|⟨k,c,e,z⟩
  ·exact .inl l
  ·exact .inr ⟨k,c,e,cellK x c e _ z⟩
 ·obtain⟨v,z⟩:=I.cell x c e;exact⟨v,cellK x c e v z⟩
 ·obtain⟨m,⟨o,_,_,ho,_⟩,_⟩:=I.loc;exact free _ o (λz=>(hch _ z).2.1 rfl) ho I.free
 ·obtain⟨v,o,ho,hd⟩:=I.cell x c e;exact free c o (λz=>(hch c z).2.2.1 x c e rfl) ho (I.freeC x c e)
 ·obtain⟨e,n,ne,nf,d⟩:=I.pin p hp;have nch:p.1∉ch:=λz=>(hch p.1 z).2.2.2 p hp rfl;exact⟨keep p.1 p.2 ne nf nch e n,free p.1 p.2 nch e n,ne,nf,d⟩
theorem Inv.un{t':Nat}(I:Inv X pins σ H s)(u:Un X.fs [] H H' s.heap h')(hok:HOk X.prog X.w H' h'):Inv X pins σ H' {s with heap:=h',toks:=t'}:=by
 obtain⟨m,⟨o,es,ep,ho,r⟩,_⟩:=id I.loc;obtain⟨sl,hL⟩:=u.any ho I.free A5;exact I.step (g':=s.gens) (d':=s.drawn) (ch:=[]) (λ_ z=>nomatch z) (λb o _ hb _ e n=>u.keep b o e n hb A5) (λb o _ hb _ e n=>u.slot b o e n hb A5) (λb o _ e n=>u.free b o e n A5) (λb o _ e=>u.there b o e A5) u.tups u.frzs u.tbls (λm' hm=>by
  obtain⟨o',es',ep',ho',r'⟩:=hm;rw[ho]at ho';cases ho';exact⟨_,es',ep',hL,r'⟩) hok I.bare
theorem Inv.call{g':Array GenState}{t':Nat}{d':Drawn}{ch:List Addr}(I:Inv X pins σ H s)(u:Un (frs X.stack) ch H H' s.heap h')(hok:HOk X.prog X.w H' h')(hg:AllBare g')
  (hch:∀b∈ch,(b∈X.ex\/X.s₀.heap.objs.size<=b)/\b≠X.env.locals/\(∀x c,X.env.cells.lookup x=some c->c≠b)/\∀p∈X.pn++pins,p.1≠b) :
  Inv X pins σ H' {s with heap:=h',gens:=g',drawn:=d',toks:=t'}:=by
 obtain⟨m,⟨o,es,ep,ho,r⟩,_⟩:=id I.loc;obtain⟨sl,hL⟩:=u.any ho I.free λz=>(hch _ z).2.1 rfl;exact I.step (ch:=ch) hch (λb o hL hb hc e n=>u.keep b o e n (λz=>(B7.mp (I.stkSub b z)).elim hL hb) hc) (λb o _ _ hc e n=>u.any e n hc) (λb o hc e n=>u.free b o e n hc) (λb o hc e=>u.there b o e hc) u.tups u.frzs u.tbls (λm' hm=>by
  obtain⟨o',es',ep',ho',r'⟩:=hm;rw[ho]at ho';cases ho';exact⟨_,es',ep',hL,r'⟩) hok hg
theorem Inv.turned{t':Nat}{it:Addr}(I:Inv X pins σ H s)(k:∀b o,b≠it->s.heap.get? b=some o->h'.get? b=some o)(hn:H it=none)(hL:it≠X.env.locals)
  (h1:it∈X.ex\/X.s₀.heap.objs.size<=it) (h2:∀x c,X.env.cells.lookup x=some c->c≠it) (h3:∀p∈X.pn++pins,p.1≠it):Inv X pins σ H {s with heap:=h',toks:=t'}:=by
 have nit:∀b u,H b=some u->b≠it:=λb u e z=>by rw[z,hn]at e;cases e
 refine I.step (g':=s.gens) (d':=s.drawn) (ch:=[it]) (λb hb=>?_) (λb o _ _ hc e _=>k b o (λz=>hc (by simp[z])) e) (λb o _ _ hc e _=>⟨o.slots,k b o (λz=>hc (by simp[z])) e⟩) (λ_ _ _ _ n=>n)
  (λb o hc e=>⟨o,k b o (λz=>hc (by simp[z])) e⟩) (λ_ _ e=>e) (λ_ _ _ e=>e) (λb ps e=>⟨#[],by rw[e];simp⟩) (λm hm=>?_) (λb u e=>?_) I.bare
 ·have e:b=it:=by simpa using hb
  subst e;exact⟨h1,hL,h2,h3⟩
 ·obtain⟨o,es,ep,ho,r⟩:=hm;exact⟨o,es,ep,k _ o (X5 hL) ho,r⟩
 ·refine(I.hok b u e).stay (λc v hc q=>k c v ?_ q) (λ_ q=>q) λ_ _ q=>q;rcases hc with z|z
  ·rw[z];exact nit b u e
  ·exact nit c _ z
theorem Inv.tok(I:Inv X pins σ H s)(t:Nat):Inv X pins σ H {s with toks:=t}:=I.un (h':=s.heap) (t':=t) Un.refl I.hok
theorem Inv.kept{t':Nat}(I:Inv X pins σ H s)(k:∀b u,s.heap.get? b=some u->h'.get? b=some u):Inv X pins σ H {s with heap:=h',toks:=t'}:=I.un (Un.kept k) (I.hok.kept k)
theorem Inv.laid{a:Addr}{o:HO}{t':Nat}(I:Inv X pins σ H s)(k:∀b u,s.heap.get? b=some u->h'.get? b=some u)(hp:s.heap.objs.size<=a)(new:Bh X.prog X.w (upd H a o) h' a o) :
  Inv X pins σ (upd H a o) {s with heap:=h',toks:=t'}:=I.un (Un.laid k hp (I.hok.fresh hp)) (I.hok.laid k hp new)
theorem Inv.write{x e:Addr}{o:HO}{t':Nat}(I:Inv X pins σ H s)(mu:Mut (H x))(he:e=x\/H e=some (.own x))(k:∀b u,b≠e->s.heap.get? b=some u->h'.get? b=some u)(heo:∃u,h'.get? e=some u)
  (new:Bh X.prog X.w (upd H x o) h' x o):Inv X pins σ (upd H x o) {s with heap:=h',toks:=t'}:=I.un (Un.write mu he k heo) (I.hok.write mu he k heo new)
theorem Inv.weak{σ':List (Option V)}(I:Inv X pins σ H s)(hl:σ'.length=σ.length)(w:∀(i:Nat) v,σ'[i]?=some (some v)->σ[i]?=some (some v)):Inv X pins σ' H s :=
 ⟨I.ok,I.os,I.bare,I.base,let ⟨m,hn,hl'⟩:=I.loc;⟨m,hn,λi x v e1 e2 e3=>hl' i x v e1 (w i v e2) e3⟩,I.cell,I.free,I.freeC,I.pin,I.hok,hl.trans I.len⟩
theorem Inv.pins_of{pins':List (Addr×Obj)}(I:Inv X pins σ H s)(h:∀p∈pins',s.heap.get? p.1=some p.2/\H p.1=none/\p.1≠X.env.locals/\p.1∉X.fs/\∀v,p.2.data≠.cell v):Inv X pins' σ H s :=
 ⟨I.ok,I.os,I.bare,I.base,I.loc,I.cell,I.free,I.freeC,λp hp=>(C6.mp hp).elim (λz=>I.pin p (M6 _ z)) (h p),I.hok,I.len⟩
theorem Mu{N:List Str}(hN:N.Nodup){i j:Nat}{x:Str}(a:N[i]?=some x)(b:N[j]?=some x):i=j:=by
 obtain⟨h1,e1⟩:=B8.mp a;obtain⟨h2,e2⟩:=B8.mp b;exact(List.getElem_inj hN).mp (e1.trans e2.symm)
theorem NJ{M:Model}{A:Around}{E:Value->Shared->Prop}{i:Nat}{x:Str}{v:V}{u:Value}{Q:Unit->Shared->Prop}(I:Inv X pins σ H s)(hN:X.N.Nodup)(hi:X.N[i]?=some x)(hx:Loc X.env.scope x)(r:Bb v u)
  (h:∀s',Inv X pins (σ.set i (some v)) H s'->(∃a,Heap.SameBut a s.heap s'.heap/\(a=X.env.locals\/X.env.cells.lookup x=some a))->Q () s') (hf:X.fn x=true\/X.env.scope.names.lookup x=some .local:=by first|exact .inl rfl|exact .inr rfl|assumption):wpAny M A (storeName X.env x u) Q E s:=by
 obtain⟨m,hn,hl⟩:=id I.loc;have hcls:(X.env.scope.kind==.class || (X.env.scope.kind==.module && X.env.locals != X.env.globals))=false:=by rw[I.ok.kind];rfl
 have hiσ:i<σ.length:=by rw[I.len];exact(B8.mp hi).1
 have cne:=I.cne;have tracked:∀{a:Addr}{h':Heap},(∃o,s.heap.get? a=some o/\H a=none)->Heap.SameBut a s.heap h'->HOk X.prog X.w H h':=λ{a h'} ha hs b ob e=>by
  obtain⟨_,_,hfree⟩:=ha;refine(I.hok b ob e).stay (λc w' hc q=>(hs.2 c ?_).trans q) (λ_ q=>q) λ_ _ q=>q;rintro rfl;rcases hc with rfl|hc
  ·rw[hfree]at e;cases e
  ·rw[hfree]at hc;cases hc
 rcases hx with hk|hk
 ·refine wpAny_storeName_local hk hn (λh' hn' hs=>?_) hcls;obtain⟨oL,_,_,hoL,_⟩:=id hn;refine h _ ⟨I.ok,I.os,I.bare,⟨λb o e n hb hx=>?_,λb o e n hb hx=>?_,I.base.free,λb o e hx=>?_,I.base.tups,I.base.frzs,I.base.tbls⟩,⟨_,hn',λj y v' e1 e2 e3=>?_⟩,λy c e=>?_,I.free,I.freeC,λp hp=>?_,tracked ⟨oL,hoL,I.free⟩ hs,by simpa using I.len⟩ ⟨_,hs,.inl rfl⟩
  ·exact(hs.2 b (F0 (F2 (D0 e) I.ok.above))).trans (I.base.keep b o e n hb hx)
  ·obtain⟨sl,e1⟩:=I.base.slot b o e n hb hx;exact⟨sl,(hs.2 b (F0 (F2 (D0 e) I.ok.above))).trans e1⟩
  ·obtain⟨o',e1⟩:=I.base.there b o e hx;exact⟨o',(hs.2 b (F0 (F2 (D0 e) I.ok.above))).trans e1⟩
  ·by_cases hj:j=i
   ·subst hj;rw[hi]at e1;cases e1;rw[S3 hiσ]at e2;cases e2;exact⟨u,r,.inl ⟨hk,by simp⟩⟩
   ·rw[Y0 (X5 hj)]at e2;obtain⟨u',r',q⟩:=hl j y v' e1 e2 e3;refine⟨u',r',?_⟩;rcases q with ⟨k,e⟩|⟨k,c,e,z⟩
    ·refine .inl ⟨k,?_⟩;have:y≠x:=λe=>hj (Mu hN e1 (e▸hi));simp[this,e]
    ·exact .inr ⟨k,c,e,z.sameBut hs (cne y c e)⟩
  ·obtain⟨w',z⟩:=I.cell y c e;exact⟨w',z.sameBut hs (cne y c e)⟩
  ·obtain⟨e,n,ne,nf,d⟩:=I.pin p hp;exact⟨(hs.2 p.1 ne).trans e,n,ne,nf,d⟩
 ·have hfn:X.fn x=true:=by
   rcases hf with z|z
   ·exact z
   ·rw[z]at hk;cases hk
  obtain⟨c,hc⟩:=I.ok.has x (.inl hk);obtain⟨w',z⟩:=I.cell x c hc;refine wpAny_storeName_cell I.ok.kind hk hc z (λh' hc' hs=>?_);obtain⟨oc,hoc,hocd⟩:=id z;refine h {s with heap:=h'} ⟨I.ok,I.os,I.bare,⟨λb o e n hb hx=>?_,λb o e n hb hx=>?_,I.base.free,λb o e hx=>?_,I.base.tups,I.base.frzs,I.base.tbls⟩,⟨m,hn.sameBut hs (X5 (cne x c hc)),λj y v' e1 e2 e3=>?_⟩,λy c' e=>?_,I.free,I.freeC,λp hp=>?_,tracked ⟨oc,hoc,I.freeC x c hc⟩ hs,by simpa using I.len⟩ ⟨c,hs,.inr hc⟩
  ·exact(hs.2 b (F0 (F2 (D0 e) (I.ok.cab x c hfn hc)))).trans (I.base.keep b o e n hb hx)
  ·obtain⟨sl,e1⟩:=I.base.slot b o e n hb hx;exact⟨sl,(hs.2 b (F0 (F2 (D0 e) (I.ok.cab x c hfn hc)))).trans e1⟩
  ·obtain⟨o',e1⟩:=I.base.there b o e hx;exact⟨o',(hs.2 b (F0 (F2 (D0 e) (I.ok.cab x c hfn hc)))).trans e1⟩
  ·by_cases hj:j=i
   ·subst hj;rw[hi]at e1;cases e1;rw[S3 hiσ]at e2;cases e2;exact⟨u,r,.inr ⟨.inl hk,c,hc,hc'⟩⟩
   ·rw[Y0 (X5 hj)]at e2;obtain⟨u',r',q⟩:=hl j y v' e1 e2 e3;refine⟨u',r',?_⟩;rcases q with q|⟨k,c',e,z'⟩
    ·exact .inl q
    ·refine .inr ⟨k,c',e,z'.sameBut hs ?_⟩;rintro rfl;exact hj (Mu hN e1 (I.ok.inj _ _ _ e hc▸hi))
  ·by_cases hcc:c'=c
   ·subst hcc;exact⟨_,hc'⟩
   ·obtain⟨w2,z2⟩:=I.cell y c' e;exact⟨w2,z2.sameBut hs hcc⟩
  ·obtain⟨e,n,ne,nf,d⟩:=I.pin p hp;refine⟨(hs.2 p.1 ?_).trans e,n,ne,nf,d⟩;intro q;rw[q,hoc]at e;have q':oc=p.2:=X2 e;exact d w' (by rw[<-q'];exact hocd)
theorem Mg{M:Model}{A:Around}{E:Value->Shared->Prop}{i:Nat}{x:Str}{v:V}{u:Value}{Q:Unit->Shared->Prop}(I:Inv X pins σ H s)(hN:X.N.Nodup)(hi:X.N[i]?=some x)(hx:Loc X.env.scope x)(r:Bb v u)
  (h:∀s',Inv X pins (σ.set i (some v)) H s'->Q () s') (hf:X.fn x=true\/X.env.scope.names.lookup x=some .local:=by first|exact .inl rfl|exact .inr rfl|assumption):wpAny M A (storeName X.env x u) Q E s :=
 NJ I hN hi hx r (λs' I' _=>h s' I') hf
theorem Inv.call'{s':Shared}{ch:List Addr}(I:Inv X pins σ H s)(ho:s'.os=s.os)(u:Un (frs X.stack) ch H H' s.heap s'.heap)(hok:HOk X.prog X.w H' s'.heap)(hg:AllBare s'.gens)
  (hch:∀b∈ch,(b∈X.ex\/X.s₀.heap.objs.size<=b)/\b≠X.env.locals/\(∀x c,X.env.cells.lookup x=some c->c≠b)/\∀p∈X.pn++pins,p.1≠b):Inv X pins σ H' s':=by
 obtain⟨h',g',d',t',o'⟩:=s';have e:o'=s.os:=ho;subst e;exact I.call (g':=g') (t':=t') (d':=d') u hok hg hch
end
abbrev XK:=Value->Option Addr->Hp->Prop
abbrev St:=List (Option V)
abbrev VK:=V->Hp->Prop
abbrev TE:=St->Hp->VK->Prop
abbrev TT:=St->Hp->(Bool->Hp->Prop)->Prop
abbrev TA:=St->Hp->(List V->Hp->Prop)->Prop
structure JQ where
 nx:St->Hp->Prop
 rt:VK
 bk:St->Hp->Prop:=λ_ _=>False
 ct:St->Hp->Prop:=λ_ _=>False
abbrev TS:=JQ->St->Hp->Prop
def EP(X:Cx)(pins:List (Addr×Obj))(σ:St)(Q:VK)(u:Value)(s':Shared):Prop:=∃v H',Inv X pins σ H' s'/\Bb v u/\Q v H'
def TP(X:Cx)(pins:List (Addr×Obj))(σ:St)(Q:Bool->Hp->Prop)(b:Bool)(s':Shared):Prop:=∃H',Inv X pins σ H' s'/\Q b H'
def AP(X:Cx)(pins:List (Addr×Obj))(σ:St)(Q:List V->Hp->Prop)(us:List Value)(s':Shared):Prop:=∃vs H',Inv X pins σ H' s'/\AN vs us/\Q vs H'
def SP(X:Cx)(pins:List (Addr×Obj))(D:JQ)(f:Flow)(s':Shared):Prop :=
 match f with
 |.next=>∃σ' H',Inv X pins σ' H' s'/\D.nx σ' H'
 |.brk=>∃σ' H',Inv X pins σ' H' s'/\D.bk σ' H'
 |.cont=>∃σ' H',Inv X pins σ' H' s'/\D.ct σ' H'
 |.ret u=>∃v σ' H',Inv X pins σ' H' s'/\Bb v u/\D.rt v H'
def PE(X:Cx)(e:Expr)(t:TE):Prop :=
 ∀(pins:List (Addr×Obj))(s:Shared)(σ:St)(H:Hp)(Q:VK),Inv X pins σ H s->t σ H Q->wpAny (model X.prog X.w) X.A (eval e X.env) (EP X pins σ Q) X.xe s
def PT(X:Cx)(e:Expr)(t:TT):Prop :=
 ∀(pins:List (Addr×Obj))(s:Shared)(σ:St)(H:Hp)(Q:Bool->Hp->Prop),Inv X pins σ H s->t σ H Q->wpAny (model X.prog X.w) X.A (isTrue e X.env (eval e X.env)) (TP X pins σ Q) X.xe s
def PW(X:Cx)(e:Expr)(t:TT):Prop :=
 ∀(whole:Sem Value)(pins:List (Addr×Obj))(s:Shared)(σ:St)(H:Hp)(Q:Bool->Hp->Prop),Inv X pins σ H s->t σ H Q->wpAny (model X.prog X.w) X.A (isTrue e X.env whole) (TP X pins σ Q) X.xe s
theorem PW.pt{X:Cx}{e:Expr}{t:TT}(h:PW X e t):PT X e t:=h _
def PA(X:Cx)(es:List Expr)(t:TA):Prop :=
 ∀(pos:Pos)(pins:List (Addr×Obj))(s:Shared)(σ:St)(H:Hp)(Q:List V->Hp->Prop),Inv X pins σ H s->t σ H Q->wpAny (model X.prog X.w) X.A (spliced (backTo pos (starEach es X.env))) (AP X pins σ Q) X.xe s
def PS(X:Cx)(st:Stmt)(t:TS):Prop :=
 ∀(pins:List (Addr×Obj))(s:Shared)(σ:St)(H:Hp)(D:JQ),Inv X pins σ H s->t D σ H->wpAny (model X.prog X.w) X.A (exec st X.env) (SP X pins D) X.xe s
def PSs(X:Cx)(st:List Stmt)(t:TS):Prop :=
 ∀(pins:List (Addr×Obj))(s:Shared)(σ:St)(H:Hp)(D:JQ),Inv X pins σ H s->t D σ H->wpAny (model X.prog X.w) X.A (execs st X.env) (SP X pins D) X.xe s
theorem thn{α:Type}{t:Sem α}{Q Q':α->Shared->Prop}{M:Model}{A:Around}{E:Value->Shared->Prop}{s:Shared}(h:wpAny M A t Q E s)(hQ:∀a s,Q a s->Q' a s):wpAny M A t Q' E s:=K1 h hQ λ_ _ x=>x
section
variable{X:Cx}
def PF(i:Nat):TE:=fun σ H Q=>∃v,σ[i]?=some (some v)/\Q v H
def tC(v:V):TE:=λ_ H Q=>Q v H
theorem pe_var{i:Nat}{x:Str}{pos:Pos}(hN:X.N[i]?=some x)(hv:Vis X.env.scope x)(hd:(x==("__debug__" : Str))=false:=by decide)(hcd:(x==("__classdict__" : Str))=false:=by decide):PE X (.Name x pos) (PF i):=by
 intro pins s σ H Q I h;obtain⟨v,e,h⟩:=h;obtain⟨m,hn,hl⟩:=I.loc;obtain⟨u,r,l⟩:=hl i x v hN e hv;have fin:EP X pins σ Q u s:=⟨v,H,I,r,h⟩
 rcases l with ⟨hk,hm⟩|⟨hk,c,hc,hcell⟩
 ·exact wpAny_Name (wpAny_loadName_local I.ok.kind hk hn hm fin) hd
 ·rcases hk with hk|hk
  ·exact wpAny_Name (wpAny_loadName_cell I.ok.kind hk hc hcell fin) hd
  ·exact wpAny_Name (wpAny_loadName_free I.ok.kind hk hc hcell fin hcd) hd
theorem Ae{i j pos}:PE X (.Constant (.int i) j pos) (tC (.int i)):=λ_ _ _ H _ I h=>wpAny_Constant_int ⟨.int i,H,I.tok _,⟨_,rfl⟩,h⟩
theorem Db{b j pos}:PE X (.Constant (.bool b) j pos) (tC (.bl b)):=λ_ _ _ H _ I h=>Constant_bool ⟨.bl b,H,I,rfl,h⟩
theorem Cz{j pos}:PE X (.Constant .none j pos) (tC .non):=λ_ _ _ H _ I h=>Constant_none ⟨.non,H,I,rfl,h⟩
theorem AJ{x j pos}:PE X (.Constant (.str x) j pos) (tC (.str x)):=λ_ _ _ H _ I h=>Calls.Constant_str ⟨.str x,H,I.tok _,⟨_,rfl⟩,h⟩
def Gl(X:Cx)(x:Str):Prop:=X.env.kindOf x=some .globalImplicit
theorem Fs{E:Value->Shared->Prop}{pins:List (Addr×Obj)}{s:Shared}{σ:St}{H:Hp}{x:Str}{u:Value}{pos:Pos}{Q:Value->Shared->Prop}(I:Inv X pins σ H s)(hg:Gl X x)(hm:X.mg x=some u)(h:Q u s)
  (hd:(x==("__debug__" : Str))=false:=by decide):wpAny (model X.prog X.w) X.A (eval (.Name x pos) X.env) Q E s :=
 Calls.Name_function_global I.ok.kind hg (Calls.loadGlobal_global (by rw[I.ok.glob];exact I.mod.glob.keeps I.bk) hm h) hd
theorem Jl{E:Value->Shared->Prop}{pins:List (Addr×Obj)}{s:Shared}{σ:St}{H:Hp}{x:Str}{u:Value}{pos:Pos}{Q:Value->Shared->Prop}(I:Inv X pins σ H s)(hg:Gl X x)(hm:X.mg x=none)(hv:bootBuiltins x=some u)(h:Q u s)
  (hn:x≠"__name__" := by decide) (hd:(x==("__debug__" : Str))=false:=by decide):wpAny (model X.prog X.w) X.A (eval (.Name x pos) X.env) Q E s:=by
 obtain⟨mb,h1,h2⟩:=I.mod.blt;exact Calls.Name_function_global I.ok.kind hg (Calls.loadGlobal_builtin (by rw[I.ok.glob];exact I.mod.glob.keeps I.bk) hm (by rw[I.ok.blt];exact h1.keeps I.bk) ((h2 x hn).trans hv) h) hd
theorem OM{x:Str}{v:V}{u:Value}{pos:Pos}(hg:Gl X x)(hm:X.mg x=some u)(r:Bb v u)(hd:(x==("__debug__" : Str))=false:=by decide):PE X (.Name x pos) (tC v) :=
 λ_ _ _ H _ I h=>Fs I hg hm ⟨v,H,I,r,h⟩ hd
theorem CT{x:Str}{v:V}{u:Value}{pos:Pos}(hg:Gl X x)(hm:X.mg x=none)(hv:bootBuiltins x=some u)(r:Bb v u)(hn:x≠"__name__" := by decide)(hd:(x==("__debug__" : Str))=false:=by decide):PE X (.Name x pos) (tC v) :=
 λ_ _ _ H _ I h=>Jl I hg hm hv ⟨v,H,I,r,h⟩ hn hd
variable{a b:Expr}{ta tb:TE}{pos:Pos}
def PC(X:Cx)(op:CmpOp)(a b:Expr)(t:TE):Prop :=
 ∀(pins:List (Addr×Obj))(s:Shared)(σ:St)(H:Hp)(Q:VK),Inv X pins σ H s->t σ H Q ->
  wpAny (model X.prog X.w) X.A (eval a X.env) (λv s₁=>wpAny (model X.prog X.w) X.A (eval b X.env) (λu s₂=>wpAny (model X.prog X.w) X.A (compareOp op v u) (EP X pins σ Q) X.xe s₂) X.xe s₁) X.xe s
def tB(t:TE):TT:=fun σ H Q=>t σ H λx H1=>∃c,x=.bl c/\Q c H1
theorem pt_cmp{op:CmpOp}{t:TE}(h:PC X op a b t)(h1:behindInMarks op b=false:=by first|exact nobehind _ A3 A3|rfl):PT X (.Compare a [op] [b] pos) (tB t):=by
 intro pins s σ H Q I hw;refine wpAny_isTrue_Compare1 (thn (h pins s σ H _ I hw) λv s1 h1=>thn h1 λu s2 h2=>thn h2 λc s3 ⟨x,H1,I1,r1,q1⟩=>?_) h1;obtain⟨d,rfl,q⟩:=q1;cases r1;exact A0d ⟨H1,I1,q⟩
theorem AZ{e:Expr}{t:TE}(h:PE X e t)(he:∀whole,isTrue e X.env whole=(do let v <-whole;standAt e.pos;holding [v] (truthy v)):=by intro _;rfl):PT X e (tB t):=by
 intro pins s σ H Q I hw;refine isTrue_plain (thn (h pins s σ H _ I hw) λv s1 ⟨x,H1,I1,r1,q1⟩=>?_) (he _);obtain⟨d,rfl,q⟩:=q1;cases r1;exact A0d ⟨H1,I1,q⟩
variable{tA tB':TT}{rest:List Expr}
def tAnd(t u:TT):TT:=fun σ H Q=>t σ H λc H1=>if c=true then u σ H1 Q else Q false H1
def tOr(t u:TT):TT:=fun σ H Q=>t σ H λc H1=>if c=true then Q true H1 else u σ H1 Q
def tNot(t:TT):TT:=fun σ H Q=>t σ H λc H1=>Q (!c) H1
theorem Gs(ha:PT X a tA):PW X (.BoolOp .And [a] pos) tA:=by
 intro wh pins s σ H Q I h;refine isTrue_and (thn (ha pins s σ H Q I h) λc s1 e=>?_);cases c with
 |true=>exact isTrue_and_nil e
 |false=>exact e
theorem BE(ha:PT X a tA):PW X (.BoolOp .Or [a] pos) tA:=by
 intro wh pins s σ H Q I h;refine isTrue_or (thn (ha pins s σ H Q I h) λc s1 e=>?_);cases c with
 |false=>exact isTrue_or_nil e
 |true=>exact e
theorem Je(ha:PT X a tA)(hb:PW X (.BoolOp .And (b::rest) pos) tB'):PW X (.BoolOp .And (a::b::rest) pos) (tAnd tA tB'):=by
 intro wh pins s σ H Q I h;refine isTrue_and (thn (ha pins s σ H _ I h) λc s1 ⟨H1,I1,q1⟩=>?_);cases c with
 |true=>exact hb wh pins s1 σ H1 Q I1 q1
 |false=>exact⟨H1,I1,q1⟩
theorem BM(ha:PT X a tA)(hb:PW X (.BoolOp .Or (b::rest) pos) tB'):PW X (.BoolOp .Or (a::b::rest) pos) (tOr tA tB'):=by
 intro wh pins s σ H Q I h;refine isTrue_or (thn (ha pins s σ H _ I h) λc s1 ⟨H1,I1,q1⟩=>?_);cases c with
 |true=>exact⟨H1,I1,q1⟩
 |false=>exact hb wh pins s1 σ H1 Q I1 q1
theorem Bp(ha:PT X a tA):PT X (.UnaryOp .Not a pos) (tNot tA):=by
 intro pins s σ H Q I h;exact isTrue_not (ha pins s σ H (λc H1=>Q (!c) H1) I h)
def tAndV(ta tb:TE):TE:=fun σ H Q=>ta σ H λx H1=>∃c,x=.bl c/\if c=true then tb σ H1 Q else Q (.bl false) H1
def tNotV(ta:TE):TE:=fun σ H Q=>ta σ H λx H1=>∃c,x=.bl c/\Q (.bl (!c)) H1
theorem FJ{op}{t:TE}(h:PE X a t):PE X (.BoolOp op [a] pos) t:=λpins s σ H Q I hw=>BoolOp_one (h pins s σ H Q I hw)
theorem Eb(ha:PE X a ta)(hb:PE X (.BoolOp .And (b::rest) pos) tb):PE X (.BoolOp .And (a::b::rest) pos) (tAndV ta tb):=by
 intro pins s σ H Q I h;refine BoolOp_and (thn (ha pins s σ H _ I h) λv s1 ⟨x,H1,I1,r1,q1⟩=>?_);obtain⟨c,rfl,q1⟩:=q1;cases r1;refine A0d ?_;cases c with
 |true=>exact hb pins s1 σ H1 Q I1 q1
 |false=>exact⟨.bl false,H1,I1,rfl,q1⟩
theorem Vi(ha:PE X a ta):PE X (.UnaryOp .Not a pos) (tNotV ta):=by
 intro pins s σ H Q I h;refine UnaryOp_ (thn (ha pins s σ H _ I h) λv s1 ⟨x,H1,I1,r1,q1⟩=>?_);obtain⟨c,rfl,q1⟩:=q1;cases r1;exact not_of (A0d ⟨.bl (!c),H1,I1,rfl,q1⟩)
end
def SqL(K:W.Frag)(H:Hp)(a:Addr)(xs:List V):Prop :=
 Rd H a (.lst xs) \/
  ∃(o:Obj)(its:Array Value)(n:Nat),K.lookup a=some o/\o.cls=.type "list" /\ o.dict=none/\o.data=.seq its n/\its.size<=sizeLine/\AN xs its.toList
def SqT(K:W.Frag)(H:Hp)(a:Addr)(xs:List V):Prop :=
 Rd H a (.tup xs) \/
  ∃(o:Obj)(its:Array Value)(n:Nat),K.lookup a=some o/\o.cls=.type "tuple" /\ o.data=.seq its n/\its.size<=sizeLine/\AN xs its.toList
def absV:Value->Option V
 |.none=>some .non
 |.bool b=>some (.bl b)
 |.int i _=>some (.int i)
 |.str x _=>some (.str x)
 |.bytes b _=>some (.byt b)
 |.float b _=>some (.flt b)
 |.ref a=>some (.ref a)
 |.type n=>some (.ty n)
 |_=>none
theorem Bb.abs{x:V}{u:Value}(r:Bb x u):absV u=some x:=by
 cases x with
 |non=>cases r;rfl
 |bl _=>cases r;rfl
 |int _=>obtain⟨t,rfl⟩:=r;rfl
 |str _=>obtain⟨t,rfl⟩:=r;rfl
 |byt _=>obtain⟨t,rfl⟩:=r;rfl
 |flt _=>obtain⟨t,rfl⟩:=r;rfl
 |ref _=>cases r;rfl
 |ty _=>cases r;rfl
theorem Bb.inj{x y:V}{u:Value}(r:Bb x u)(q:Bb y u):x=y:=X2 (r.abs.symm.trans q.abs)
theorem AN.inj:∀{xs ys:List V}{us:List Value},AN xs us->AN ys us->xs=ys
 |_,_,_,.nil,.nil=>rfl
 |_,_,_,.cons r t,.cons r' t'=>by rw[r.inj r',AN.inj t t']
section
variable{X:Cx}{pins:List (Addr×Obj)}{σ:St}{H:Hp}{s:Shared}{a:Addr}{xs ys:List V}
theorem SqL.of{K:W.Frag}(h:H a=some (.lst xs)):SqL K H a xs:=.inl (.inl h)
theorem SqT.of{K:W.Frag}(h:H a=some (.tup xs)):SqT K H a xs:=.inl (.inl h)
theorem Inv.list(I:Inv X pins σ H s)(h:SqL X.K H a xs):∃its:List Value,AN xs its/\PlainL s.heap a its.toArray/\xs.length<=sizeLine:=by
 rcases h with h|⟨o,its,n,hk,hc,hd,hs,hz,r⟩
 ·obtain⟨z,its,n,r,e⟩:=h.ok I.hok;exact⟨its,r,⟨_,n,e,rfl,rfl,rfl⟩,z⟩
 ·refine⟨its.toList,r,⟨o,n,I.kIn a o hk,hc,hd,by simpa using hs⟩,?_⟩;have e:=r.length;simp only[C3]at e;lia
theorem Inv.tuple(I:Inv X pins σ H s)(h:SqT X.K H a xs):∃its:List Value,AN xs its/\IsTup s.heap a its.toArray/\xs.length<=sizeLine:=by
 rcases h with h|⟨o,its,n,hk,hc,hs,hz,r⟩
 ·obtain⟨z,its,r,p⟩:=h.ok I.hok;exact⟨its,r,p,z⟩
 ·refine⟨its.toList,r,⟨o,I.kIn a o hk,hc,n,by simpa using hs⟩,?_⟩;have e:=r.length;simp only[C3]at e;lia
theorem Inv.list_inj(I:Inv X pins σ H s)(h:SqL X.K H a xs)(h':SqL X.K H a ys):xs=ys:=by
 obtain⟨its,r,⟨o,n,e,_,_,d⟩,_⟩:=I.list h;obtain⟨its',r',⟨o',n',e',_,_,d'⟩,_⟩:=I.list h';rw[e]at e';cases e';rw[d]at d';injection d' with d1 _
 have:its=its':=by simpa using X4 Array.toList d1
 subst this;exact r.inj r'
theorem Inv.tuple_inj(I:Inv X pins σ H s)(h:SqT X.K H a xs)(h':SqT X.K H a ys):xs=ys:=by
 obtain⟨its,r,⟨o,e,_,n,d⟩,_⟩:=I.tuple h;obtain⟨its',r',⟨o',e',_,n',d'⟩,_⟩:=I.tuple h';rw[e]at e';cases e';rw[d]at d';injection d' with d1 _
 have:its=its':=by simpa using X4 Array.toList d1
 subst this;exact r.inj r'
end
abbrev Cx.wish(X:Cx)(E:Value->Shared->Prop):Cx:={X with xe:=E}
abbrev Cx.nox(X:Cx):Cx:=X.wish λ_ _=>False
theorem Cx.Ok.wish{X:Cx}(ok:X.Ok)(E:Value->Shared->Prop):(X.wish E).Ok :=
 ⟨ok.mod,ok.kind,ok.glob,ok.blt,ok.above,ok.inj,ok.has,ok.cab,ok.hd,ok.frames,ok.stk,ok.exf,ok.bs,ok.bsz,ok.noex,ok.exfs,ok.funs,ok.frf⟩
theorem Cx.Ok.unwish{X:Cx}{E:Value->Shared->Prop}(ok:(X.wish E).Ok):X.Ok :=
 ⟨ok.mod,ok.kind,ok.glob,ok.blt,ok.above,ok.inj,ok.has,ok.cab,ok.hd,ok.frames,ok.stk,ok.exf,ok.bs,ok.bsz,ok.noex,ok.exfs,ok.funs,ok.frf⟩
section
variable{X:Cx}{pins:List (Addr×Obj)}{σ:St}{H:Hp}{s:Shared}{E:Value->Shared->Prop}
theorem Inv.wish(I:Inv X pins σ H s)(E:Value->Shared->Prop):Inv (X.wish E) pins σ H s:=⟨I.ok.wish E,I.os,I.bare,I.base,I.loc,I.cell,I.free,I.freeC,I.pin,I.hok,I.len⟩
theorem Inv.unwish(I:Inv (X.wish E) pins σ H s):Inv X pins σ H s:=⟨I.ok.unwish,I.os,I.bare,I.base,I.loc,I.cell,I.free,I.freeC,I.pin,I.hok,I.len⟩
theorem SP.unwish{D:JQ}{f:Flow}{s':Shared}(h:SP (X.wish E) pins D f s'):SP X pins D f s':=by
 cases f with
 |next=>obtain⟨σ',H',I,q⟩:=h;exact⟨σ',H',I.unwish,q⟩
 |brk=>obtain⟨σ',H',I,q⟩:=h;exact⟨σ',H',I.unwish,q⟩
 |cont=>obtain⟨σ',H',I,q⟩:=h;exact⟨σ',H',I.unwish,q⟩
 |ret u=>obtain⟨v,σ',H',I,r,q⟩:=h;exact⟨v,σ',H',I.unwish,r,q⟩
theorem PSs.nox{st:List Stmt}{t:TS}(h:PSs X.nox st t):PSs X st t:=λpins s σ H D I hw =>
 K1 (h pins s σ H D (I.wish _) hw) (λ_ _ q=>q.unwish) λ_ _ z=>False.elim z
end
section
variable{X:Cx}{st:Stmt}{rest:List Stmt}{t u:TS}{e:Expr}{te:TE}{pos:Pos}
def tNext:TS:=λD σ H=>D.nx σ H
def UE(t u:TS):TS:=λD σ H=>t {D with nx:=u D} σ H
theorem Ap:PSs X [] tNext:=λ_ _ σ H _ I h=>A4a ⟨σ,H,I,h⟩
theorem Ab(h1:PS X st t)(h2:PSs X rest u):PSs X (st::rest) (UE t u):=by
 intro pins s σ H D I h;refine wpAny_execs_cons (thn (h1 pins s σ H {D with nx:=u D} I h) λf s1 q=>?_);cases f with
 |next =>
  obtain⟨σ',H',I',q⟩:=q;exact h2 pins s1 σ' H' D I' q
 |ret v=>exact q
 |brk=>exact q
 |cont=>exact q
theorem Af(h1:PS X st t):PSs X [st] t:=by
 intro pins s σ H D I h;refine wpAny_execs_cons (thn (h1 pins s σ H D I h) λf s1 q=>?_);cases f with
 |next=>exact A4a q
 |ret v=>exact q
 |brk=>exact q
 |cont=>exact q
theorem Inv.quiet{pins:List (Addr×Obj)}{σ:St}{H:Hp}{s:Shared}(I:Inv X pins σ H s):interactive X.env=false:=by simp[interactive,I.ok.kind]
def tDrop(te:TE):TS:=λD σ H=>te σ H λ_ H1=>D.nx σ H1
theorem Co(he:PE X e te)(hs:swapsWith e none pos.line X.env=pure false:=by rfl):PS X (.Expr e pos) (tDrop te):=by
 intro pins s σ H D I h;exact wpAny_Expr_any (thn (he pins s σ H _ I h) λv s1 ⟨x,H1,I1,r1,q1⟩=>⟨σ,H1,I1,q1⟩) I.quiet hs
def tRet(te:TE):TS:=λD σ H=>te σ H D.rt
theorem Am(he:PE X e te):PS X (.Return (some e) pos) (tRet te):=by
 intro pins s σ H D I h;exact wpAny_Return_some (thn (he pins s σ H _ I h) λv s1 ⟨x,H1,I1,r1,q1⟩=>⟨x,σ,H1,I1,r1,q1⟩)
def tIfS(c:TT)(t u:TS):TS:=λD σ H=>c σ H λb H1=>if b=true then t D σ H1 else u D σ H1
theorem AB{c:Expr}{a b:List Stmt}{tc:TT}(hc:PT X c tc)(ha:PSs X a t)(hb:PSs X b u):PS X (.If c a b pos) (tIfS tc t u):=by
 intro pins s σ H D I h;refine wpAny_If (thn (hc pins s σ H _ I h) λd s1 ⟨H1,I1,q1⟩=>?_);cases d with
 |true=>exact ha pins s1 σ H1 D I1 q1
 |false=>exact hb pins s1 σ H1 D I1 q1
def tNever:TS:=λ_ _ _=>False
theorem Cy:PS X st tNever:=λ_ _ _ _ _ _ h=>h.elim
end
abbrev TG:=V->St->Hp->(St->Hp->Prop)->Prop
abbrev TGs:=List V->St->Hp->(St->Hp->Prop)->Prop
def PG(X:Cx)(target:Expr)(t:TG):Prop :=
 ∀(pins:List (Addr×Obj))(s:Shared)(σ:St)(H:Hp)(v:V)(u:Value)(Q:St->Hp->Prop),Inv X pins σ H s->Bb v u->t v σ H Q ->
  wpAny (model X.prog X.w) X.A (assign target X.env u) (λ_ s'=>∃σ' H',Inv X pins σ' H' s'/\Q σ' H') X.xe s
def PGs(X:Cx)(ts:List Expr)(t:TGs):Prop :=
 ∀(pins:List (Addr×Obj))(s:Shared)(σ:St)(H:Hp)(vs:List V)(us:List Value)(Q:St->Hp->Prop),Inv X pins σ H s->AN vs us->t vs σ H Q ->
  wpAny (model X.prog X.w) X.A (assignInOrder ((assignEach ts X.env).map (·.2)) us) (λ_ s'=>∃σ' H',Inv X pins σ' H' s'/\Q σ' H') X.xe s
section
variable{X:Cx}{pos:Pos}
def Qt(i:Nat):TG:=λv σ H Q=>Q (σ.set i (some v)) H
theorem AF{i:Nat}{x:Str}(hN:X.N.Nodup)(hi:X.N[i]?=some x)(hx:Loc X.env.scope x)(hf:X.fn x=true\/X.env.scope.names.lookup x=some .local:=by first|exact .inl rfl|exact .inr rfl|assumption):PG X (.Name x pos) (Qt i):=by
 intro pins s σ H v u Q I r h;exact wpAny_assign_Name (Mg I hN hi hx r (λs' I'=>⟨_,H,I',h⟩) hf)
def gNil:TGs:=λvs σ H Q=>vs=[]/\Q σ H
def Wb(t:TG)(u:TGs):TGs:=λvs σ H Q=>∃v r,vs=v::r/\t v σ H fun σ' H'=>u r σ' H' Q
theorem Cs:PGs X [] gNil:=by
 intro pins s σ H vs us Q I r h;obtain⟨e,h⟩:=h;subst e;cases r;exact assignInOrder_nil ⟨σ,H,I,h⟩
theorem AG{e:Expr}{es:List Expr}{t:TG}{u:TGs}(h1:PG X e t)(h2:PGs X es u)
  (hs:(assignEach (e::es) X.env).map (·.2)=assign e X.env::(assignEach es X.env).map (·.2):=by rfl):PGs X (e::es) (Wb t u):=by
 intro pins s σ H vs us Q I r h;obtain⟨v,vr,e1,h⟩:=h;subst e1;cases r with
 |cons r rr =>
  rw[hs];refine assignInOrder_cons (thn (h1 pins s σ H _ _ _ I r h) λ_ s1 ⟨σ1,H1,I1,q1⟩=>?_);exact h2 pins s1 σ1 H1 _ _ Q I1 rr q1
def gTup(K:W.Frag)(n:Nat)(t:TGs):TG:=λv σ H Q=>∃a xs,v=.ref a/\SqT K H a xs/\xs.length=n/\t xs σ H Q
theorem Dl{es:List Expr}{k:Nat}{t:TGs}{n:Nat}(hc:X.calm=true)(h:PGs X es t)
  (hn:(assignEach es X.env).length=n:=by rfl) (hst:(assignEach es X.env).findIdx? (·.1)=none:=by rfl):PG X (.Tuple es k pos) (gTup X.K n t):=by
 intro pins s σ H v u Q I r hw;obtain⟨a,xs,e1,hq,hl,hw⟩:=hw;subst e1;cases r;obtain⟨its,rv,ht,hz⟩:=I.tuple hq;refine assign_Tuple_tuple (I.ok.hd hc) ht (by simp[hn,<-hl,rv.length]) hst λh' hx=>?_;have I1:Inv X pins σ H {s with heap:=h'}:=I.kept (t':=s.toks) λb o e=>hx b o (F0 (D0 e)) e;exact h pins _ σ H xs _ Q I1 (by simpa using rv) hw
def tAsg(te:TE)(g:TG):TS:=λD σ H=>te σ H λx H1=>g x σ H1 D.nx
theorem Rg{tg e:Expr}{te:TE}{g:TG}(he:PE X e te)(hg:PG X tg g)(hs:swapsWithSole [tg] e pos.line X.env=pure false:=by rfl)(hw:swappedStores [tg] e X.env=pure none:=by rfl)
  (h1:(assignEach [tg] X.env).map (·.2)=[assign tg X.env]:=by rfl):PS X (.Assign [tg] e pos) (tAsg te g):=by
 intro pins s σ H D I h;refine wpAny_Assign_stores (thn (he pins s σ H _ I h) λv s1 ⟨x,H1,I1,r1,q1⟩=>?_) hs hw;rw[h1];exact thn (hg pins s1 σ H1 x v _ I1 r1 q1) λ_ s2 q=>q
theorem Ah{i:Nat}{x:Str}{e:Expr}{te:TE}{pos':Pos}(hN:X.N.Nodup)(hi:X.N[i]?=some x)(hx:Loc X.env.scope x)(he:PE X e te)(hs:swapsWith e (some (.Name x pos')) pos.line X.env=pure false:=by rfl)(hf:X.fn x=true\/X.env.scope.names.lookup x=some .local:=by first|exact .inl rfl|exact .inr rfl|assumption) :
  PS X (.Assign [.Name x pos'] e pos) (tAsg te (Qt i)):=by
 intro pins s σ H D I h;refine wpAny_Assign_Name (thn (he pins s σ H _ I h) λv s1 ⟨y,H1,I1,r1,q1⟩=>?_) hs;exact Mg I1 hN hi hx r1 (λs2 I2=>⟨_,H1,I2,q1⟩) hf
end
section
variable{X:Cx}{pos:Pos}
def tWhile(c:TT)(tb:TS):TS:=λD σ H=>∃W:Nat->St->Hp->Prop,(∃m,W m σ H)/\∀m σ H,W m σ H ->
 c σ H λb H1=>if b=true then ∃N:St->Hp->Prop,(∀σ' H',N σ' H'->∃m',m'<m/\W m' σ' H')/\tb {D with nx:=N,ct:=N,bk:=D.nx} σ H1 else D.nx σ H1
theorem Ic{c:Expr}{body:List Stmt}{tc:TT}{tb:TS}(hp:PassesOwn (model X.prog X.w) X.A X.env X.xe)(hc:PT X c tc)(hb:PSs X body tb):PS X (.While c body [] pos) (tWhile tc tb):=by
 intro pins s σ H D I h;obtain⟨W,⟨m0,w0⟩,turn⟩:=h;refine wpAny_While (codeAny_whileLoop (λn s'=>∃σ' H',Inv X pins σ' H' s'/\W n σ' H') ?_ m0 ⟨σ,H,I,w0⟩);rintro n s1 ⟨σ1,H1,I1,w1⟩;refine A2g hp (thn (hc pins s1 σ1 H1 _ I1 (turn n σ1 H1 w1)) λb s2 ⟨H2,I2,q2⟩=>?_);cases b with
 |true =>
  obtain⟨N,hN,q2⟩:=q2;rw[Z6 rfl];refine A2g hp (thn (hb pins s2 σ1 H2 _ I2 q2) λf s3 q3=>?_);cases f with
  |next =>
   obtain⟨σ3,H3,I3,n3⟩:=q3;obtain⟨m',hm,w3⟩:=hN σ3 H3 n3;exact⟨m',hm,σ3,H3,I3,w3⟩
  |cont =>
   obtain⟨σ3,H3,I3,n3⟩:=q3;obtain⟨m',hm,w3⟩:=hN σ3 H3 n3;exact⟨m',hm,σ3,H3,I3,w3⟩
  |brk=>exact q3
  |ret v=>exact q3
 |false =>
  rw[Z5 D6];exact A4a ⟨σ1,H2,I2,q2⟩
end
structure It where
 go:Nat->Hp->Prop
 yld:Nat->Hp->V->Hp->Prop
 stop:Nat->Hp->Prop
def Gg(X:Cx)(pins:List (Addr×Obj))(H:Hp)(b:Addr):Prop :=
 H b=none/\b≠X.env.locals/\b∉X.fs/\(b∈X.ex\/X.s₀.heap.objs.size<=b)/\(∀x c,X.env.cells.lookup x=some c->c≠b)/\∀p∈X.pn++pins,p.1≠b
theorem Inv.fpOk{X:Cx}{pins:List (Addr×Obj)}{σ:St}{H H':Hp}{s:Shared}{b:Addr}(I:Inv X pins σ H s)(hb:s.heap.objs.size<=b)(hn:H' b=none):Gg X pins H' b:=by
 refine⟨hn,U5 (F2 I.lt hb),I.nofs hb,.inr (C8 I.sz hb),λx c e z=>?_,λp hp z=>?_⟩
 ·obtain⟨v,q⟩:=I.cell x c e;exact absurd (F2 q.lt (by rw[z];exact hb)) (P0 _)
 ·exact absurd (F2 (D0 (I.pin p hp).1) (by rw[z];exact hb)) (P0 _)
structure Px(P:Program)(w:World)(K:W.Frag)(tg:Expr)(J:It)(fp:List Addr)(it:Addr)(tn:Nat->Heap->Prop):Prop where
 mem:it∈fp
 obj:∀i h,tn i h->∀b∈fp,∃o,h.get? b=some o/\∀v,o.data≠.cell v
 keep:∀i h h',tn i h->(∀b∈fp,∀o,h.get? b=some o->h'.get? b=some o)->tn i h'
 item:∀(X:Cx),X.prog=P->X.w=w->X.K=K->X.calm=true->∀(i:Nat)(pins:List (Addr×Obj))(s:Shared)(σ:St)(H:Hp)(E:Value->Shared->Prop),Inv X pins σ H s->(∀b∈fp,Gg X pins H b)->tn i s.heap->J.go i H ->
  wpAny (model P w) X.A (pyNext (.ref it)) (λr s1=>∃u,r=some u /\
   wpAny (model P w) X.A (letOwnedTupleGo tg (.ref it) u) (λ_ s2=>∃x H',Inv X pins σ H' s2/\Bb x u/\J.yld i H x H'/\tn (i+1) s2.heap/\∀b∈fp,H' b=none) E s1) E s
 done:∀(X:Cx),X.prog=P->X.w=w->X.K=K->X.calm=true->∀(i:Nat)(pins:List (Addr×Obj))(s:Shared)(σ:St)(H:Hp)(E:Value->Shared->Prop),Inv X pins σ H s->(∀b∈fp,Gg X pins H b)->tn i s.heap->J.stop i H ->
  wpAny (model P w) X.A (pyNext (.ref it)) (λr s1=>r=none/\Inv X pins σ H s1) E s
 self:∀(A:Around)(i:Nat)(s:Shared)(Q:Value->Shared->Prop)(E:Value->Shared->Prop),tn i s.heap->Q (.ref it) s->wpAny (model P w) A (pyIter (.ref it)) Q E s
abbrev TI:=St->Hp->(It->Hp->Prop)->Prop
def PIE(X:Cx)(pins:List (Addr×Obj))(σ:St)(tg:Expr)(R:It->Hp->Prop)(itv:Value)(s2:Shared):Prop :=
 ∃(it:Addr)(fp:List Addr)(tn:Nat->Heap->Prop)(J:It)(H':Hp),itv=.ref it/\Inv X pins σ H' s2/\Px X.prog X.w X.K tg J fp it tn/\tn 0 s2.heap/\(∀b∈fp,Gg X pins H' b)/\R J H'
def PI(X:Cx)(tg iter:Expr)(wi:TI):Prop :=
 ∀(pins:List (Addr×Obj))(s:Shared)(σ:St)(H:Hp)(R:It->Hp->Prop),Inv X pins σ H s->wi σ H R ->
  wpAny (model X.prog X.w) X.A (eval iter X.env) (λv s1=>wpAny (model X.prog X.w) X.A (pyIter v) (PIE X pins σ tg R) X.xe s1) X.xe s
theorem SE{M:Model}{A:Around}{E:Value->Shared->Prop}{s:Shared}{tg:Expr}{it:Addr}{u:Value}{o:Obj}{n:String}{vs:Array Value}{Q:Unit->Shared->Prop}(ho:s.heap.get? it=some o)(hc:o.cls=.type n)(hd:o.data=.fields vs)
    (hn:["enumerate","zip","dict_itemiterator","dict_reverseitemiterator","odict_iterator","itertools.zip_longest","itertools.pairwise"].contains n=false) (hQ:Q () s):wpAny M A (letOwnedTupleGo tg (.ref it) u) Q E s:=by
  unfold letOwnedTupleGo;cases tg<;>first
    |exact Z9 hQ
    | (cases u<;>first
        |exact Z9 hQ
        | (refine Z2 (wpAny_load ho ?_)
           rw[hc,hd];show wpAny M A (if(["enumerate","zip","dict_itemiterator","dict_reverseitemiterator","odict_iterator","itertools.zip_longest","itertools.pairwise"].contains n && vs[0]?==some (rawInt _))=true then _ else _) Q E s;rw[Z5 (by intro h;rw[hn,Bool.false_and]at h;cases h)];exact Z9 hQ))
def Itl(K:W.Frag)(a:Addr):It :=
 ⟨λi H=>∃xs x,SqL K H a xs/\xs[i]?=some x,λi H x H'=>H'=H/\∀xs,SqL K H a xs->xs[i]?=some x,λi H=>∃xs,SqL K H a xs/\xs.length<=i⟩
def Itt(K:W.Frag)(a:Addr):It :=
 ⟨λi H=>∃xs x,SqT K H a xs/\xs[i]?=some x,λi H x H'=>H'=H/\∀xs,SqT K H a xs->xs[i]?=some x,λi H=>∃xs,SqT K H a xs/\xs.length<=i⟩
def Itr(lo:Int)(n:Nat):It:=⟨λi _=>i<n,λi H x H'=>H'=H/\x=.int (lo+i),λi _=>n<=i⟩
theorem Tb{P:Program}{w:World}{K:W.Frag}{tg:Expr}(a it:Addr):Px P w K tg (Itl K a) [it] it (λi h=>h.IsListIter it a i) where
 mem:=by simp
 obj:=λi h st b hb=>by
  have e:b=it:=by simpa using hb
  subst e;obtain⟨o,e,c,d⟩:=st;exact⟨o,e,λv z=>by rw[d]at z;cases z⟩
 keep:=λi h h' st k=>st.at λo e=>k it A5 o e
 item:=by
  intro X hP hw hK hc i pins s σ H E I hf st hg;subst hP hw hK;obtain⟨xs,x,hq,hx⟩:=hg;obtain⟨its,rv,p,hz⟩:=I.list hq;obtain⟨u,hu,ru⟩:=rv.get hx;obtain⟨f0,f1,f2,f3,f4,f5⟩:=hf it A5;refine wpAny_pyNext_list_item st p.isList (x:=u) (by simpa using hu) λh' st' sb=>?_;have I1:Inv X pins σ H {s with heap:=h'}:=I.turned (t':=s.toks) (λb o hb e=>(sb.2 b hb).trans e) f0 f1 f3 f4 f5;obtain⟨o,e,c,d⟩:=id st';exact⟨u,rfl,SE (s:={s with heap:=h'}) e c d A3 ⟨x,H,I1,ru,⟨rfl,λys hy=>by rw[I.list_inj hy hq];exact hx⟩,st',λb hb=>(hf b hb).1⟩⟩
 done:=by
  intro X hP hw hK hc i pins s σ H E I hf st hg;subst hP hw hK;obtain⟨xs,hq,hx⟩:=hg;obtain⟨its,rv,p,hz⟩:=I.list hq;obtain⟨f0,f1,f2,f3,f4,f5⟩:=hf it A5;have hl:=rv.length;exact wpAny_pyNext_list_end (I.ok.hd hc) st p.isList (by simp;lia) λh' eb=>⟨rfl,I.turned (t':=s.toks) (λb o hb e=>eb b o hb e) f0 f1 f3 f4 f5⟩
 self:=λ_ _ _ _ _ st h=>wpAny_pyIter_listiter st h
theorem QQ{P:Program}{w:World}{K:W.Frag}{tg:Expr}(a it:Addr):Px P w K tg (Itt K a) [it] it (λi h=>h.IsTupleIter it a i) where
 mem:=by simp
 obj:=λi h st b hb=>by
  have e:b=it:=by simpa using hb
  subst e;obtain⟨o,e,c,d⟩:=st;exact⟨o,e,λv z=>by rw[d]at z;cases z⟩
 keep:=λi h h' st k=>st.at λo e=>k it A5 o e
 item:=by
  intro X hP hw hK hc i pins s σ H E I hf st hg;subst hP hw hK;obtain⟨xs,x,hq,hx⟩:=hg;obtain⟨its,rv,p,hz⟩:=I.tuple hq;obtain⟨u,hu,ru⟩:=rv.get hx;obtain⟨f0,f1,f2,f3,f4,f5⟩:=hf it A5;refine wpAny_pyNext_tuple_item st (show s.heap.IsTuple a its.toArray from p) (x:=u) (by simpa using hu) λh' st' sb=>?_;have I1:Inv X pins σ H {s with heap:=h'}:=I.turned (t':=s.toks) (λb o hb e=>(sb.2 b hb).trans e) f0 f1 f3 f4 f5;obtain⟨o,e,c,d⟩:=id st';exact⟨u,rfl,SE (s:={s with heap:=h'}) e c d A3 ⟨x,H,I1,ru,⟨rfl,λys hy=>by rw[I.tuple_inj hy hq];exact hx⟩,st',λb hb=>(hf b hb).1⟩⟩
 done:=by
  intro X hP hw hK hc i pins s σ H E I hf st hg;subst hP hw hK;obtain⟨xs,hq,hx⟩:=hg;obtain⟨its,rv,p,hz⟩:=I.tuple hq;obtain⟨f0,f1,f2,f3,f4,f5⟩:=hf it A5;have hl:=rv.length;exact wpAny_pyNext_tuple_end (I.ok.hd hc) st (show s.heap.IsTuple a its.toArray from p) (by simp;lia) λh' eb=>⟨rfl,I.turned (t':=s.toks) (λb o hb e=>eb b o hb e) f0 f1 f3 f4 f5⟩
 self:=λ_ _ _ _ _ st h=>wpAny_pyIter_tupleiter st h
theorem QR{P:Program}{w:World}{K:W.Frag}{tg:Expr}(it:Addr)(lo:Int)(n:Nat):Px P w K tg (Itr lo n) [it] it (λi h=>IsRangeIter h it (lo+(i:Nat)*1) ((n:Int)-(i:Nat)) 1) where
 mem:=by simp
 obj:=λi h st b hb=>by
  have e:b=it:=by simpa using hb
  subst e;exact⟨_,st,λv z=>by
   have z':Data.fields _=Data.cell v:=z;cases z'⟩
 keep:=λi h h' st k=>k it A5 _ st
 item:=by
  intro X hP hw hK hc i pins s σ H E I hf st hg;subst hP hw hK;obtain⟨f0,f1,f2,f3,f4,f5⟩:=hf it A5;have W:=Walks.range (prog:=X.prog) (w:=X.w) (I.ok.hd hc) it lo 1 n;refine W.item i s _ _ hg st λv h' tk hv st' kk=>?_;obtain⟨t,rfl⟩:=hv;have I1:Inv X pins σ H {s with heap:=h',toks:=tk}:=I.turned (λb o hb e=>kk b o (by simpa using hb) e) f0 f1 f3 f4 f5;refine⟨_,rfl,SE (s:={s with heap:=h',toks:=tk}) (n:="range_iterator") st' rfl rfl A3 ⟨.int (lo+i),H,I1,⟨t,?_⟩,⟨rfl,rfl⟩,st',λb hb=>(hf b hb).1⟩⟩;rw[Int.mul_one]
 done:=by
  intro X hP hw hK hc i pins s σ H E I hf st hg;subst hP hw hK;obtain⟨f0,f1,f2,f3,f4,f5⟩:=hf it A5;exact wpAny_pyNext_range_end (I.ok.hd hc) st (by have:n<=i:=hg;lia) λh' eb=>⟨rfl,I.turned (t':=s.toks) (λb o hb e=>eb b o hb e) f0 f1 f3 f4 f5⟩
 self:=λ_ _ _ _ _ st h=>wpAny_pyIter_rangeiter st h
section
variable{X:Cx}{tg:Expr}
def iList(K:W.Frag)(tl:TE):TI:=fun σ H R=>tl σ H λx H1=>∃a,x=.ref a/\(∃xs,SqL K H1 a xs)/\R (Itl K a) H1
def iTup(K:W.Frag)(tl:TE):TI:=fun σ H R=>tl σ H λx H1=>∃a,x=.ref a/\(∃xs,SqT K H1 a xs)/\R (Itt K a) H1
theorem IA{l:Expr}{tl:TE}(hl:PE X l tl):PI X tg l (iList X.K tl):=by
 intro pins s σ H R I h;refine thn (hl pins s σ H _ I h) λv s1 ⟨x,H1,I1,r1,q1⟩=>?_;obtain⟨a,e,⟨xs,hq⟩,q⟩:=q1;subst e;cases r1;obtain⟨its,rv,p,hz⟩:=I1.list hq;refine A7a p.isList ?_;refine⟨s1.heap.objs.size,[s1.heap.objs.size],_,_,H1,rfl,I1.kept (t':=s1.toks) λb o e=>B3 _ e,Tb a _,⟨_,D4 _ rfl,rfl,rfl⟩,λb hb=>?_,q⟩;have e:b=s1.heap.objs.size:=by simpa using hb
 subst e;exact I1.fpOk (B1 _) (I1.hok.fresh (B1 _))
theorem Vg{l:Expr}{tl:TE}(hl:PE X l tl):PI X tg l (iTup X.K tl):=by
 intro pins s σ H R I h;refine thn (hl pins s σ H _ I h) λv s1 ⟨x,H1,I1,r1,q1⟩=>?_;obtain⟨a,e,⟨xs,hq⟩,q⟩:=q1;subst e;cases r1;obtain⟨its,rv,p,hz⟩:=I1.tuple hq;refine wpAny_pyIter_tuple (show s1.heap.IsTuple a its.toArray from p) ?_;refine⟨s1.heap.objs.size,[s1.heap.objs.size],_,_,H1,rfl,I1.kept (t':=s1.toks) λb o e=>B3 _ e,QQ a _,⟨_,D4 _ rfl,rfl,rfl⟩,λb hb=>?_,q⟩;have e:b=s1.heap.objs.size:=by simpa using hb
 subst e;exact I1.fpOk (B1 _) (I1.hok.fresh (B1 _))
theorem PU{pins:List (Addr×Obj)}{σ:St}{H:Hp}{s:Shared}{R:It->Hp->Prop}{E:Value->Shared->Prop}{lo hi:Int}{t u v:Tok}{tk:Nat}(I:Inv X pins σ H s)(h1:-(2^62)<=lo)(h2:lo<2^62)(h3:-(2^62)<=hi)(h4:hi<2^62)
  (q:R (Itr lo (hi-lo).toNat) H):wpAny (model X.prog X.w) X.A (pyIter (.ref s.heap.objs.size)) (PIE X pins σ tg R) E {s with heap:=s.heap.push {cls:=.type "range",data:=.fields #[.int lo t,.int hi u,.int 1 v]},toks:=tk}:=by
 refine wpAny_pyIter_range (IsRange.new ..) (small_one h1 h2 h3 h4) ?_;have I1:Inv X pins σ H {s with heap:=s.heap.push {cls:=.type "range",data:=.fields #[.int lo t,.int hi u,.int 1 v]},toks:=tk}:=I.kept λb o e=>B3 _ e;refine⟨(s.heap.push {cls:=.type "range",data:=.fields #[.int lo t,.int hi u,.int 1 v]}).objs.size,[(s.heap.push {cls:=.type "range",data:=.fields #[.int lo t,.int hi u,.int 1 v]}).objs.size],_,_,H,rfl,
  I1.kept (t':=tk) λb o e=>B3 _ e,QR _ lo (hi-lo).toNat,?_,λb hb=>?_,q⟩
 ·have e1:lo+((0:Nat):Int)*1=lo:=by simp
  have e2:(((hi-lo).toNat:Nat):Int)-((0:Nat):Int)=Builtin.Range.rangeSize lo hi 1:=by rw[rangeSize_one];split<;>lia
  show IsRangeIter _ _ (lo+((0:Nat):Int)*1) ((((hi-lo).toNat:Nat):Int)-((0:Nat):Int)) 1;rw[e1,e2];exact D4 _ rfl
 ·have e:b=(s.heap.push {cls:=.type "range",data:=.fields #[.int lo t,.int hi u,.int 1 v]}).objs.size:=by simpa using hb
  subst e;exact I1.fpOk (B1 _) (I1.hok.fresh (B1 _))
def iRng1(ta:TA):TI:=fun σ H R=>ta σ H λvs H1=>∃j:Int,vs=[.int j]/\-(2^62)<=j/\j<2^62/\R (Itr 0 j.toNat) H1
def iRng2(ta:TA):TI:=fun σ H R=>ta σ H λvs H1=>∃i j:Int,vs=[.int i,.int j]/\(-(2^62)<=i/\i<2^62/\-(2^62)<=j/\j<2^62)/\R (Itr i (j-i).toNat) H1
theorem Gb{a:Expr}{ta:TA}{p pos:Pos}(hg:Gl X "range")(hm:X.mg "range" = none)(ha:PA X [a] ta)(hs:starEach [a] X.env=[(false,eval a X.env)]:=by rfl):PI X tg (.Call (.Name "range" p) [a] [] pos) (iRng1 ta):=by
 intro pins s σ H R I h;refine Call_ (Jl I hg hm boot_range (A1a (thn (ha pos pins s σ H _ I h) λus s1 ⟨vs,H1,I1,r1,q1⟩=>?_) hs rfl));obtain⟨j,e,q1,q2,q⟩:=q1;subst e;cases r1 with
 |cons r rr =>
  cases rr;obtain⟨t,rfl⟩:=r;exact call_range_1 (PU I1 A0 A0 q1 q2 (by simpa using q))
theorem Tk{a b:Expr}{ta:TA}{p pos:Pos}(hg:Gl X "range")(hm:X.mg "range" = none)(ha:PA X [a,b] ta)(hs:starEach [a,b] X.env=[(false,eval a X.env),(false,eval b X.env)]:=by rfl)(hs2:starEach [b] X.env=[(false,eval b X.env)]:=by rfl) :
  PI X tg (.Call (.Name "range" p) [a,b] [] pos) (iRng2 ta):=by
 intro pins s σ H R I h;refine Call_ (Jl I hg hm boot_range (A1a (thn (ha pos pins s σ H _ I h) λus s1 ⟨vs,H1,I1,r1,q1⟩=>?_) (by rw[hs,hs2]) (by rw[hs2];rfl)));obtain⟨i,j,e,⟨q1,q2,q3,q4⟩,q⟩:=q1;subst e;cases r1 with
 |cons r rr =>
  cases rr with
  |cons r' rr =>
   cases rr;obtain⟨t,rfl⟩:=r;obtain⟨t',rfl⟩:=r';exact call_range_2 (PU I1 q1 q2 q3 q4 q)
def tFor(wi:TI)(g:TG)(tb:TS):TS:=λD σ H=>wi σ H λJ H1=>∃W:Nat->Nat->St->Hp->Prop,(∃m,W 0 m σ H1)/\∀i m σ H,W i m σ H ->
 (J.stop i H/\D.nx σ H)\/(J.go i H/\∃N:St->Hp->Prop,(∀σ' H',N σ' H'->∃m',m'<m/\W (i+1) m' σ' H')/\∀x H',J.yld i H x H'->g x σ H' fun σ2 H2=>tb {D with nx:=N,ct:=N,bk:=D.nx} σ2 H2)
def JZ(fp:List Addr)(h:Heap):List (Addr×Obj):=fp.filterMap λb=>(h.get? b).map λo=>(b,o)
theorem GG{fp:List Addr}{h:Heap}{b:Addr}{o:Obj}(hb:b∈fp)(e:h.get? b=some o):(b,o)∈JZ fp h:=List.mem_filterMap.mpr ⟨b,hb,by rw[e];rfl⟩
theorem NR{fp:List Addr}{h:Heap}{p:Addr×Obj}(hp:p∈JZ fp h):p.1∈fp/\h.get? p.1=some p.2:=by
 obtain⟨b,hb,e⟩:=List.mem_filterMap.mp hp;cases q:h.get? b with
 |none=>rw[q]at e;cases e
 |some o =>
  rw[q]at e;have e':(b,o)=p:=X2 e;subst e';exact⟨hb,q⟩
theorem Inv.pinned{pins:List (Addr×Obj)}{σ:St}{H:Hp}{s:Shared}{fp:List Addr}(I:Inv X pins σ H s)(hf:∀b∈fp,Gg X pins H b)(ho:∀b∈fp,∃o,s.heap.get? b=some o/\∀v,o.data≠.cell v):Inv X (pins++JZ fp s.heap) σ H s :=
 I.pins_of λp hp=>(C6.mp hp).elim (λz=>I.pin p (C7 _ z)) λz=>by
  obtain⟨hb,e⟩:=NR z;obtain⟨f0,f1,f2,_⟩:=hf p.1 hb;obtain⟨o,e',d⟩:=ho p.1 hb;rw[e]at e';cases e';exact⟨e,f0,f1,f2,d⟩
theorem Inv.unpinned{pins pl:List (Addr×Obj)}{σ:St}{H:Hp}{s:Shared}(I:Inv X (pins++pl) σ H s):Inv X pins σ H s:=I.pins_of λp hp=>I.pin p (C7 _ (M6 _ hp))
theorem Ci{iter:Expr}{body:List Stmt}{wi:TI}{g:TG}{tb:TS}{pos:Pos}(hp:PassesOwn (model X.prog X.w) X.A X.env X.xe)(hc:X.calm=true)(hi:PI X tg iter wi)(hg:PG X tg g)(hb:PSs X body tb)
  (hs:∀x,foldedSetIterable iter X.env x=pure x:=by intro _;rfl):PS X (.For tg iter body [] pos) (tFor wi g tb):=by
 intro pins s σ H D I h;refine wpAny_For (thn (hi pins s σ H _ I h) λv s1 h1=>thn h1 λitv s2 h2=>?_) hs;obtain⟨it,fp,tn,J,H2,e,I2,T,st2,f2,W,⟨m0,w0⟩,turn⟩:=h2;subst e;have stat:∀{H':Hp},(∀b∈fp,H' b=none)->∀b∈fp,Gg X pins H' b:=λhn b hb=>⟨hn b hb,(f2 b hb).2⟩
 refine codeAny_forLoop_any (λn s'=>∃i σ' H',Inv X pins σ' H' s'/\tn i s'.heap/\(∀b∈fp,H' b=none)/\W i n σ' H') ?_ m0 ⟨0,σ,H2,I2,st2,λb hb=>(f2 b hb).1,w0⟩;rintro n s3 ⟨i,σ3,H3,I3,st3,fr3,w3⟩;rcases turn i n σ3 H3 w3 with ⟨stop,qn⟩|⟨go,N,hN,step⟩
 ·refine A2g hp (thn (T.done X rfl rfl rfl hc i pins s3 σ3 H3 X.xe I3 (stat fr3) st3 stop) λr s4 ⟨hr,I4⟩=>?_);subst hr;exact A4a ⟨σ3,H3,I4,qn⟩
 ·refine A2g hp (thn (T.item X rfl rfl rfl hc i pins s3 σ3 H3 X.xe I3 (stat fr3) st3 go) λr s4 ⟨u,hr,h4⟩=>?_);subst hr;refine A2g hp (thn h4 λ_ s5 ⟨x,H5,I5,r5,y5,st5,fr5⟩=>?_);have I5':=I5.pinned (stat fr5) (T.obj _ _ st5);refine A2g hp (thn (hg _ s5 σ3 H5 x u _ I5' r5 (step x H5 y5)) λ_ s6 ⟨σ6,H6,I6,q6⟩=>?_);refine A2g hp (thn (hb _ s6 σ6 H6 _ I6 q6) λf s7 q7=>?_);have again:∀{σ7:St}{H7:Hp},Inv X (pins++JZ fp s5.heap) σ7 H7 s7->N σ7 H7->∃m,m<n/\∃i σ' H',Inv X pins σ' H' s7/\tn i s7.heap/\(∀b∈fp,H' b=none)/\W i m σ' H':=λ{σ7 H7} I7 n7=>by
   obtain⟨m',hm,w7⟩:=hN σ7 H7 n7;refine⟨m',hm,i+1,σ7,H7,I7.unpinned,T.keep _ _ _ st5 λb hb o e=>(I7.pin (b,o) (C7 _ (C7 _ (GG hb e)))).1,λb hb=>?_,w7⟩;obtain⟨o,e,d⟩:=T.obj _ _ st5 b hb;exact(I7.pin (b,o) (C7 _ (C7 _ (GG hb e)))).2.1
  cases f with
  |next=>obtain⟨σ7,H7,I7,n7⟩:=q7;exact again I7 n7
  |cont=>obtain⟨σ7,H7,I7,n7⟩:=q7;exact again I7 n7
  |brk=>obtain⟨σ7,H7,I7,q7⟩:=q7;exact⟨σ7,H7,I7.unpinned,q7⟩
  |ret v=>obtain⟨x7,σ7,H7,I7,r7,q7⟩:=q7;exact⟨x7,σ7,H7,I7.unpinned,r7,q7⟩
end
theorem Iq{K:W.Frag}{a:Addr}{xs:List V}{g:TG}{tb:TS}{D:JQ}{σ:St}{H:Hp}(Pv:Nat->St->Hp->Prop)(h0:Pv 0 σ H)(hl:∀i σ H,i<=xs.length->Pv i σ H->SqL K H a xs)
  (hs:∀i x σ H,xs[i]?=some x->Pv i σ H->g x σ H fun σ2 H2=>tb {D with nx:=Pv (i+1),ct:=Pv (i+1),bk:=D.nx} σ2 H2) (hd:∀σ H,Pv xs.length σ H->D.nx σ H) :
  ∃W:Nat->Nat->St->Hp->Prop,(∃m,W 0 m σ H)/\∀i m σ H,W i m σ H ->
   ((Itl K a).stop i H/\D.nx σ H)\/((Itl K a).go i H/\∃N:St->Hp->Prop,(∀σ' H',N σ' H'->∃m',m'<m/\W (i+1) m' σ' H')/\∀x H',(Itl K a).yld i H x H'->g x σ H' fun σ2 H2=>tb {D with nx:=N,ct:=N,bk:=D.nx} σ2 H2):=by
 refine⟨λi m σ H=>m=xs.length-i/\i<=xs.length/\Pv i σ H,⟨xs.length,by simp,F5 _,h0⟩,?_⟩;rintro i m σ H ⟨rfl,hi,p⟩;have q:=hl i σ H hi p;by_cases hlt:i<xs.length
 ·refine .inr ⟨⟨xs,xs[i],q,by simp[hlt]⟩,Pv (i+1),fun σ' H' p'=>⟨xs.length-(i+1),by lia,rfl,hlt,p'⟩,λx H' y=>?_⟩;obtain⟨e,y⟩:=y;subst e;exact hs i x σ _ (y xs q) p
 ·have e:i=xs.length:=by lia
  subst e;exact .inl ⟨⟨xs,q,B1 _⟩,hd σ H p⟩
theorem Gc{lo:Int}{n:Nat}{g:TG}{tb:TS}{D:JQ}{σ:St}{H:Hp}(Pv:Nat->St->Hp->Prop)(h0:Pv 0 σ H)
  (hs:∀i σ H,i<n->Pv i σ H->g (.int (lo+i)) σ H fun σ2 H2=>tb {D with nx:=Pv (i+1),ct:=Pv (i+1),bk:=D.nx} σ2 H2) (hd:∀σ H,Pv n σ H->D.nx σ H) :
  ∃W:Nat->Nat->St->Hp->Prop,(∃m,W 0 m σ H)/\∀i m σ H,W i m σ H ->
   ((Itr lo n).stop i H/\D.nx σ H)\/((Itr lo n).go i H/\∃N:St->Hp->Prop,(∀σ' H',N σ' H'->∃m',m'<m/\W (i+1) m' σ' H')/\∀x H',(Itr lo n).yld i H x H'->g x σ H' fun σ2 H2=>tb {D with nx:=N,ct:=N,bk:=D.nx} σ2 H2):=by
 refine⟨λi m σ H=>m=n-i/\i<=n/\Pv i σ H,⟨n,by simp,F5 _,h0⟩,?_⟩;rintro i m σ H ⟨rfl,hi,p⟩;by_cases hlt:i<n
 ·refine .inr ⟨hlt,Pv (i+1),fun σ' H' p'=>⟨n-(i+1),by lia,rfl,hlt,p'⟩,λx H' y=>?_⟩;obtain⟨e,y⟩:=y;subst e y;exact hs i σ _ hlt p
 ·have e:i=n:=by lia
  subst e;exact .inl ⟨B1 _,hd σ H p⟩
abbrev R2:=V->V->Hp->VK->Prop
def OpR(X:Cx)(f:Value->Value->Sem Value)(r:R2):Prop :=
 ∀(pins:List (Addr×Obj))(s:Shared)(σ:St)(H:Hp)(x y:V)(v u:Value)(Q:VK),Inv X pins σ H s->Bb x v->Bb y u->r x y H Q ->
  wpAny (model X.prog X.w) X.A (f v u) (EP X pins σ Q) X.xe s
def UnR(X:Cx)(f:Value->Sem Value)(r:V->Hp->VK->Prop):Prop :=
 ∀(pins:List (Addr×Obj))(s:Shared)(σ:St)(H:Hp)(x:V)(v:Value)(Q:VK),Inv X pins σ H s->Bb x v->r x H Q ->
  wpAny (model X.prog X.w) X.A (f v) (EP X pins σ Q) X.xe s
def Fb(X:Cx)(f:Value)(r:List V->Hp->VK->Prop):Prop :=
 ∀(pins:List (Addr×Obj))(s:Shared)(σ:St)(H:Hp)(xs:List V)(us:List Value)(Q:VK),Inv X pins σ H s->AN xs us->r xs H Q ->
  wpAny (model X.prog X.w) X.A (call f us) (EP X pins σ Q) X.xe s
def tOp(r:R2)(ta tb:TE):TE:=fun σ H Q=>ta σ H λx H1=>tb σ H1 λy H2=>r x y H2 Q
def tUn(r:V->Hp->VK->Prop)(ta:TE):TE:=fun σ H Q=>ta σ H λx H1=>r x H1 Q
def rI(C:Int->Int->Prop)(g:Int->Int->V):R2:=λx y H Q=>∃i j,x=.int i/\y=.int j/\C i j/\Q (g i j) H
def rI0(g:Int->Int->V):R2:=λx y H Q=>∃i j,x=.int i/\y=.int j/\Q (g i j) H
def rU(g:Int->V):V->Hp->VK->Prop:=λx H Q=>∃i,x=.int i/\Q (g i) H
section
variable{X:Cx}{a b c:Expr}{ta tb tc:TE}{pos:Pos}
theorem binT(ha:PE X a ta)(hb:PE X b tb){pins:List (Addr×Obj)}{s:Shared}{σ:St}{H:Hp}{R:V->V->Hp->Prop}(I:Inv X pins σ H s)
  (h:ta σ H λx H1=>tb σ H1 λy H2=>R x y H2) {Q:Value->Shared->Prop} {f:Value->Value->Sem Value}
  (hf:∀v u s2 x y H2,Inv X pins σ H2 s2->Bb x v->Bb y u->R x y H2->wpAny (model X.prog X.w) X.A (f v u) Q X.xe s2) :
  wpAny (model X.prog X.w) X.A (eval a X.env) (λv s₁=>wpAny (model X.prog X.w) X.A (eval b X.env) (λu s₂=>wpAny (model X.prog X.w) X.A (f v u) Q X.xe s₂) X.xe s₁) X.xe s:=by
 refine thn (ha pins s σ H _ I h) λv s1 ⟨x,H1,I1,r1,q1⟩=>?_;refine thn (hb pins s1 σ H1 _ I1 q1) λu s2 ⟨y,H2,I2,r2,q2⟩=>?_;exact hf v u s2 x y H2 I2 r1 r2 q2
theorem Ao{op:Operator}{r:R2}(ho:OpR X (binaryOp op) r)(ha:PE X a ta)(hb:PE X b tb):PE X (.BinOp a op b pos) (tOp r ta tb):=by
 intro pins s σ H Q I h;exact wpAny_BinOp (binT ha hb I h λv u s2 x y H2 I2 rx ry q=>ho pins s2 σ H2 x y v u Q I2 rx ry q)
theorem Mp{op:UnaryOp}{r:V->Hp->VK->Prop}(ho:UnR X (unaryOp op) r)(ha:PE X a ta):PE X (.UnaryOp op a pos) (tUn r ta):=by
 intro pins s σ H Q I h;exact UnaryOp_ (thn (ha pins s σ H _ I h) λv s1 ⟨x,H1,I1,r1,q1⟩=>ho pins s1 σ H1 x v Q I1 r1 q1)
theorem opI{f:Value->Value->Sem Value}{C:Int->Int->Prop}{g:Int->Int->Int}
  (rule:∀(i j:Int)(t u:Tok)(s:Shared)(Q:Value->Shared->Prop)(E:Value->Shared->Prop),C i j->Q (.int (g i j) s.toks) {s with toks:=s.toks+1}->wpAny (model X.prog X.w) X.A (f (.int i t) (.int j u)) Q E s) :
  OpR X f (rI C λi j=>.int (g i j)):=by
 intro pins s σ H x y v u Q I rx ry h;obtain⟨i,j,rfl,rfl,hc,q⟩:=h;obtain⟨t,rfl⟩:=rx;obtain⟨t',rfl⟩:=ry;exact rule i j t t' s _ _ hc ⟨.int (g i j),H,I.tok _,⟨_,rfl⟩,q⟩
theorem opI0{f:Value->Value->Sem Value}{g:Int->Int->Int}
  (rule:∀(i j:Int)(t u:Tok)(s:Shared)(Q:Value->Shared->Prop)(E:Value->Shared->Prop),Q (.int (g i j) s.toks) {s with toks:=s.toks+1}->wpAny (model X.prog X.w) X.A (f (.int i t) (.int j u)) Q E s) :
  OpR X f (rI0 λi j=>.int (g i j)):=by
 intro pins s σ H x y v u Q I rx ry h;obtain⟨i,j,rfl,rfl,q⟩:=h;obtain⟨t,rfl⟩:=rx;obtain⟨t',rfl⟩:=ry;exact rule i j t t' s _ _ ⟨.int (g i j),H,I.tok _,⟨_,rfl⟩,q⟩
theorem opB0{f:Value->Value->Sem Value}{g:Int->Int->Bool}
  (rule:∀(i j:Int)(t u:Tok)(s:Shared)(Q:Value->Shared->Prop)(E:Value->Shared->Prop),Q (.bool (g i j)) s->wpAny (model X.prog X.w) X.A (f (.int i t) (.int j u)) Q E s) :
  OpR X f (rI0 λi j=>.bl (g i j)):=by
 intro pins s σ H x y v u Q I rx ry h;obtain⟨i,j,rfl,rfl,q⟩:=h;obtain⟨t,rfl⟩:=rx;obtain⟨t',rfl⟩:=ry;exact rule i j t t' s _ _ ⟨.bl (g i j),H,I,rfl,q⟩
def CDiv(i j:Int):Prop:=0<j/\j<1073741824
def CPow(i j:Int):Prop:=0<=j/\j<=1000000/\i.natAbs<2^64
def CMul(i j:Int):Prop:=(-(2^64)<i/\i<2^64)\/(-(2^64)<j/\j<2^64)
theorem CMul.ok{i j:Int}(h:CMul i j):IntMulOk i j:=by
 rcases h with ⟨h1,h2⟩|⟨h1,h2⟩
 ·exact .of_left (intBits_le_64 h1 h2)
 ·exact .of_right (intBits_le_64 h1 h2)
theorem AR:OpR X (binaryOp .Add) (rI0 λi j=>.int (i+j)):=opI0 λ_ _ _ _ _ _ _ q=>add_int q
theorem FT:OpR X (binaryOp .Sub) (rI0 λi j=>.int (i-j)):=opI0 λ_ _ _ _ _ _ _ q=>sub_int q
theorem ET:OpR X (binaryOp .Mult) (rI CMul λi j=>.int (i*j)):=opI λ_ _ _ _ _ _ _ hc q=>mul_int q hc.ok
theorem Bf:OpR X (binaryOp .FloorDiv) (rI CDiv λi j=>.int (i/j)):=opI λi j _ _ _ _ _ hc q=>by
 have h1:(0:Int)<j:=hc.1;have h2:j<1073741824:=hc.2;exact floordiv_int A0 (by rw[Int.fdiv_eq_ediv_of_nonneg i A0];exact q) (.inl (PyProof.noPylong_small A0))
theorem Ba:OpR X (binaryOp .Mod) (rI (λ_ j=>0<j) λi j=>.int (i%j)):=opI λi j _ _ _ _ _ hc q=>by
 have h1:(0:Int)<j:=hc;exact mod_int' A0 (by rw[Int.fmod_eq_emod_of_nonneg i A0];exact q)
theorem Ms:OpR X (binaryOp .Pow) (rI CPow λi j=>.int (i^j.toNat)):=opI λ_ _ _ _ _ _ _ hc q=>pow_int_small hc.1 hc.2.1 hc.2.2 q
theorem ES:OpR X (binaryOp .LShift) (rI CPow λi j=>.int (i*2^j.toNat)):=opI λ_ _ _ _ _ _ _ hc q=>lshift_int_small hc.1 hc.2.1 hc.2.2 q
theorem unI{f:Value->Sem Value}{g:Int->Int}
  (rule:∀(i:Int)(t:Tok)(s:Shared)(Q:Value->Shared->Prop)(E:Value->Shared->Prop),Q (.int (g i) s.toks) {s with toks:=s.toks+1}->wpAny (model X.prog X.w) X.A (f (.int i t)) Q E s) :
  UnR X f (rU λi=>.int (g i)):=by
 intro pins s σ H x v Q I rx h;obtain⟨i,rfl,q⟩:=h;obtain⟨t,rfl⟩:=rx;exact rule i t s _ _ ⟨.int (g i),H,I.tok _,⟨_,rfl⟩,q⟩
theorem IV:UnR X (unaryOp .USub) (rU λi=>.int (-i)):=unI λ_ _ _ _ _ q=>neg_int q
end
def scal:V->V->Bool
 |.non,.non=>true|.non,.int _=>true|.int _,.non=>true|.non,.bl _=>true|.bl _,.non=>true|.non,.str _=>true|.str _,.non=>true
 |.int _,.int _=>true|.bl _,.bl _=>true|.str _,.str _=>true|.byt _,.byt _=>true
 |.int _,.str _=>true|.str _,.int _=>true|.bl _,.str _=>true|.str _,.bl _=>true
 |_,_=>false
def rEq:R2:=λx y H Q=>scal x y=true/\Q (.bl (decide (x=y))) H
def rNe:R2:=λx y H Q=>scal x y=true/\Q (.bl (!decide (x=y))) H
theorem SL{i j:Int}:decide (V.int i=V.int j)=(i==j):=by
 rw[O8];simp
theorem Wq{i j:Bool}:decide (V.bl i=V.bl j)=(i==j):=by
 rw[O8];simp
theorem SK{i j:Str}:decide (V.str i=V.str j)=(i==j):=by
 rw[O8];simp
theorem SM{i j:Array UInt8}:decide (V.byt i=V.byt j)=(i.toList==j.toList):=by
 rw[O8];cases i;cases j;simp
section
variable{X:Cx}{a b c:Expr}{ta tb tc:TE}{pos:Pos}
theorem Bd{pins:List (Addr×Obj)}{σ:St}{H:Hp}{s:Shared}{Q:VK}{k k':Bool}(I:Inv X pins σ H s)(q:Q (.bl k) H)(e:k=k'):EP X pins σ Q (.bool k') s:=by
 subst e;exact⟨.bl k,H,I,rfl,q⟩
theorem Bg:OpR X (compareOp .Eq) rEq:=by
 intro pins s σ H x y v u Q I rx ry h;obtain⟨hs,q⟩:=h;cases x with
 |non =>
  cases rx;cases y with
  |non=>cases ry;exact PySem.EqNone.eq_none_none (Bd I q A5)
  |bl j=>cases ry;exact PySem.EqNone.eq_none_bool (Bd I q A5)
  |int j=>obtain⟨t',rfl⟩:=ry;exact PySem.EqNone.eq_none_int (Bd I q A5)
  |str j=>obtain⟨t',rfl⟩:=ry;exact PySem.EqNone.eq_none_str (Bd I q A5)
  |_=>exact absurd (show false=true from hs) D6
 |bl i =>
  cases rx;cases y with
  |non=>cases ry;exact PySem.EqNone.eq_bool_none (Bd I q A5)
  |bl j=>cases ry;exact eq_bool (Bd I q Wq)
  |str j=>obtain⟨t',rfl⟩:=ry;exact PySem.EqMixed.eq_bool_str (Bd I q A5)
  |_=>exact absurd (show false=true from hs) D6
 |int i =>
  obtain⟨t,rfl⟩:=rx;cases y with
  |non=>cases ry;exact PySem.EqNone.eq_int_none (Bd I q A5)
  |int j=>obtain⟨t',rfl⟩:=ry;exact eq_int (Bd I q SL)
  |str j=>obtain⟨t',rfl⟩:=ry;exact PySem.EqMixed.eq_int_str (Bd I q A5)
  |_=>exact absurd (show false=true from hs) D6
 |str i =>
  obtain⟨t,rfl⟩:=rx;cases y with
  |non=>cases ry;exact PySem.EqNone.eq_str_none (Bd I q A5)
  |bl j=>cases ry;exact PySem.EqMixed.eq_str_bool (Bd I q A5)
  |int j=>obtain⟨t',rfl⟩:=ry;exact PySem.EqMixed.eq_str_int (Bd I q A5)
  |str j=>obtain⟨t',rfl⟩:=ry;exact eq_str (Bd I q SK)
  |_=>exact absurd (show false=true from hs) D6
 |byt i =>
  obtain⟨t,rfl⟩:=rx;cases y with
  |byt j=>obtain⟨t',rfl⟩:=ry;exact PySem.W.eq_bytes (Bd I q SM)
  |_=>exact absurd (show false=true from hs) D6
 |_=>cases y<;>exact absurd (show false=true from hs) D6
theorem Dt:OpR X (compareOp .NotEq) rNe:=by
 intro pins s σ H x y v u Q I rx ry h;obtain⟨hs,q⟩:=h;cases x with
 |non =>
  cases rx;cases y with
  |non=>cases ry;exact PySem.EqNone.ne_none_none (Bd I q A5)
  |bl j=>cases ry;exact PySem.EqNone.ne_none_bool (Bd I q A5)
  |int j=>obtain⟨t',rfl⟩:=ry;exact PySem.EqNone.ne_none_int (Bd I q A5)
  |str j=>obtain⟨t',rfl⟩:=ry;exact PySem.EqNone.ne_none_str (Bd I q A5)
  |_=>exact absurd (show false=true from hs) D6
 |bl i =>
  cases rx;cases y with
  |non=>cases ry;exact PySem.EqNone.ne_bool_none (Bd I q A5)
  |bl j=>cases ry;exact ne_bool (Bd I q (X4 not Wq))
  |str j=>obtain⟨t',rfl⟩:=ry;exact PySem.EqMixed.ne_bool_str (Bd I q A5)
  |_=>exact absurd (show false=true from hs) D6
 |int i =>
  obtain⟨t,rfl⟩:=rx;cases y with
  |non=>cases ry;exact PySem.EqNone.ne_int_none (Bd I q A5)
  |int j=>obtain⟨t',rfl⟩:=ry;exact ne_int (Bd I q (X4 not SL))
  |str j=>obtain⟨t',rfl⟩:=ry;exact PySem.EqMixed.ne_int_str (Bd I q A5)
  |_=>exact absurd (show false=true from hs) D6
 |str i =>
  obtain⟨t,rfl⟩:=rx;cases y with
  |non=>cases ry;exact PySem.EqNone.ne_str_none (Bd I q A5)
  |bl j=>cases ry;exact PySem.EqMixed.ne_str_bool (Bd I q A5)
  |int j=>obtain⟨t',rfl⟩:=ry;exact PySem.EqMixed.ne_str_int (Bd I q A5)
  |str j=>obtain⟨t',rfl⟩:=ry;exact ne_str (Bd I q (X4 not SK))
  |_=>exact absurd (show false=true from hs) D6
 |byt i =>
  obtain⟨t,rfl⟩:=rx;cases y with
  |byt j=>obtain⟨t',rfl⟩:=ry;exact PySem.W.ne_bytes (Bd I q (X4 not SM))
  |_=>exact absurd (show false=true from hs) D6
 |_=>cases y<;>exact absurd (show false=true from hs) D6
theorem Fq:OpR X (compareOp .Lt) (rI0 λi j=>.bl (decide (i<j))):=opB0 λ_ _ _ _ _ _ _ q=>lt_int q
theorem IR:OpR X (compareOp .LtE) (rI0 λi j=>.bl (decide (i<=j))):=opB0 λ_ _ _ _ _ _ _ q=>le_int q
theorem DM:OpR X (compareOp .Gt) (rI0 λi j=>.bl (decide (j<i))):=opB0 λ_ _ _ _ _ _ _ q=>gt_int q
theorem op_ge:OpR X (compareOp .GtE) (rI0 λi j=>.bl (decide (j<=i))):=opB0 λ_ _ _ _ _ _ _ q=>ge_int q
theorem Er:OpR X (compareOp .In) (λx y H Q=>∃i j,x=.str i/\y=.str j/\Q (.bl (!(Builtin.Str.occurrences j i 0 j.length 1).isEmpty)) H):=by
 intro pins s σ H x y v u Q I rx ry h;obtain⟨i,j,rfl,rfl,q⟩:=h;obtain⟨t,rfl⟩:=rx;obtain⟨t',rfl⟩:=ry;exact in_str (Bd I q rfl)
theorem Il:OpR X (compareOp .Is) (λx y H Q=>y=.non/\Q (.bl (decide (x=.non))) H):=by
 intro pins s σ H x y v u Q I rx ry h;obtain⟨rfl,q⟩:=h;cases ry;refine is_none_gen (Bd I q ?_);cases x<;>first
  | (cases rx;rfl)
  | (obtain⟨t,rfl⟩:=rx;rfl)
theorem JB:OpR X (compareOp .NotIn) (λx y H Q=>∃i j,x=.str i/\y=.str j/\Q (.bl (!(!(Builtin.Str.occurrences j i 0 j.length 1).isEmpty))) H):=by
 intro pins s σ H x y v u Q I rx ry h;obtain⟨i,j,rfl,rfl,q⟩:=h;obtain⟨t,rfl⟩:=rx;obtain⟨t',rfl⟩:=ry;exact notIn_str (Bd I q rfl)
theorem An(b:Expr){op:CmpOp}(h:op≠.In:=by decide)(h2:op≠.NotIn:=by decide):behindInMarks op b=false:=by
 have e1:(op==CmpOp.In)=false:=by cases op<;>first|rfl|exact absurd rfl h
 have e2:(op==CmpOp.NotIn)=false:=by cases op<;>first|rfl|exact absurd rfl h2
 cases b<;>simp[behindInMarks,e1,e2]
theorem Bv{op:CmpOp}{r:R2}(ho:OpR X (compareOp op) r)(ha:PE X a ta)(hb:PE X b tb)(hm:behindInMarks op b=false):PE X (.Compare a [op] [b] pos) (tOp r ta tb):=by
 intro pins s σ H Q I h;exact wpAny_Compare1 (binT ha hb I h λv u s2 x y H2 I2 rx ry q=>ho pins s2 σ H2 x y v u Q I2 rx ry q) hm
def Sc(t:TE):TT:=fun σ H Q=>t σ H λx H'=>∃k,x=.bl k/\Q k H'
theorem Ak{op:CmpOp}{r:R2}(ho:OpR X (compareOp op) r)(ha:PE X a ta)(hb:PE X b tb)(hm:behindInMarks op b=false):PT X (.Compare a [op] [b] pos) (Sc (tOp r ta tb)):=by
 intro pins s σ H Q I h;refine wpAny_isTrue_Compare1 (thn (ha pins s σ H _ I h) λv s1 ⟨x,H1,I1,r1,q1⟩=>thn (hb pins s1 σ H1 _ I1 q1) λu s2 ⟨y,H2,I2,r2,q2⟩ =>
  thn (ho pins s2 σ H2 x y v u _ I2 r1 r2 q2) λc s3 ⟨z,H3,I3,r3,k,e,q3⟩=>?_) hm
 subst e;cases r3;exact A0d ⟨H3,I3,q3⟩
def UF(r r':R2)(ta tb tc:TE):TE:=fun σ H Q=>ta σ H λx H1=>tb σ H1 λy H2=>r x y H2 λz H3=>∃k,z=.bl k /\
 (if k=true then tc σ H3 λw' H4=>r' y w' H4 Q else Q (.bl false) H3)
theorem Vo{op op':CmpOp}{r r':R2}(ho:OpR X (compareOp op) r)(ho':OpR X (compareOp op') r')(ha:PE X a ta)(hb:PE X b tb)(hc:PE X c tc)
  (hm:lastMarks [op,op'] [b,c]=false:=by with_unfolding_all rfl):PE X (.Compare a [op,op'] [b,c] pos) (UF r r' ta tb tc):=by
 intro pins s σ H Q I h;refine Compare_chain (thn (ha pins s σ H _ I h) λv s1 ⟨x,H1,I1,r1,q1⟩=>chain_link (thn (hb pins s1 σ H1 _ I1 q1) λu s2 ⟨y,H2,I2,r2,q2⟩ =>
  thn (ho pins s2 σ H2 x y v u _ I2 r1 r2 q2) λd s3 ⟨z,H3,I3,r3,k,e,q3⟩=>?_)) hm
 subst e;cases r3;refine A0d ?_;cases k with
 |false=>exact ite_ff ⟨.bl false,H3,I3,rfl,q3⟩
 |true=>exact ite_tt (chain_last (thn (hc pins s3 σ H3 _ I3 q3) λw' s4 ⟨z',H4,I4,r4,q4⟩=>ho' pins s4 σ H4 y z' u w' Q I4 r2 r4 q4))
theorem Jw{op op':CmpOp}{r r':R2}(ho:OpR X (compareOp op) r)(ho':OpR X (compareOp op') r')(ha:PE X a ta)(hb:PE X b tb)(hc:PE X c tc)
  (hm:lastMarks [op,op'] [b,c]=false:=by with_unfolding_all rfl):PT X (.Compare a [op,op'] [b,c] pos) (Sc (UF r r' ta tb tc)):=by
 intro pins s σ H Q I h;refine isTrue_chain (thn (ha pins s σ H _ I h) λv s1 ⟨x,H1,I1,r1,q1⟩=>test_link (thn (hb pins s1 σ H1 _ I1 q1) λu s2 ⟨y,H2,I2,r2,q2⟩ =>
  thn (ho pins s2 σ H2 x y v u _ I2 r1 r2 q2) λd s3 ⟨z,H3,I3,r3,k,e,q3⟩=>?_)) hm
 subst e;cases r3;refine A0d ?_;cases k with
 |false =>
  obtain⟨k',e',q'⟩:=q3;cases e';exact ite_ff ⟨H3,I3,q'⟩
 |true =>
  refine ite_tt (test_last (thn (hc pins s3 σ H3 _ I3 q3) λw' s4 ⟨z',H4,I4,r4,q4⟩=>thn (ho' pins s4 σ H4 y z' u w' _ I4 r2 r4 q4) λd' s5 ⟨z2,H5,I5,r5,k2,e2,q5⟩=>?_));subst e2;cases r5;exact A0d ⟨H5,I5,q5⟩
theorem ME:(sizeLine:Nat)<2^63:=by rw[sizeLine_eq];decide
theorem Bk:OpR X (binaryOp .Add) (λx y H Q=>∃i j,x=.str i/\y=.str j/\i.length+j.length<=sizeLine/\Q (.str (i++j)) H):=by
 intro pins s σ H x y v u Q I rx ry h;obtain⟨i,j,rfl,rfl,hz,q⟩:=h;obtain⟨t,rfl⟩:=rx;obtain⟨t',rfl⟩:=ry;exact add_str (λt' tk=>⟨.str (i++j),H,I.tok _,⟨_,rfl⟩,q⟩) hz
theorem Mb{x:V}{us:List Value}(r:AN [x] us):∃u,us=[u]/\Bb x u:=by
 cases r with
 |cons r1 r2=>cases r2;exact⟨_,rfl,r1⟩
theorem vals2{x y:V}{us:List Value}(r:AN [x,y] us):∃u w',us=[u,w']/\Bb x u/\Bb y w':=by
 cases r with
 |cons r1 r2 =>
  cases r2 with
  |cons r3 r4=>cases r4;exact⟨_,_,rfl,r1,r3⟩
theorem Ww:Fb X (.builtin "abs") (λxs H Q=>∃i,xs=[.int i]/\Q (.int (if i<0 then -i else i)) H):=by
 intro pins s σ H xs us Q I r h;obtain⟨i,rfl,q⟩:=h;obtain⟨u,rfl,t,rfl⟩:=Mb r;exact call_abs_int λu tk=>⟨.int (if i<0 then -i else i),H,I.tok _,⟨_,rfl⟩,q⟩
theorem IK(hc:X.calm=true):Fb X (.builtin "max") (λxs H Q=>∃i j,xs=[.int i,.int j]/\Q (.int (if j > i then j else i)) H):=by
 intro pins s σ H xs us Q I r h;obtain⟨i,j,rfl,q⟩:=h;obtain⟨u,w',rfl,⟨t,rfl⟩,⟨t',rfl⟩⟩:=vals2 r;refine max_two_ints (I.ok.hd hc) λh' tk k=>⟨_,H,I.kept k,?_,q⟩
 by_cases hj:j > i
 ·rw[Z6 hj,Z6 hj];exact⟨_,rfl⟩
 ·rw[Z5 hj,Z5 hj];exact⟨_,rfl⟩
theorem Ge(hc:X.calm=true):Fb X (.builtin "min") (λxs H Q=>∃i j,xs=[.int i,.int j]/\Q (.int (if j<i then j else i)) H):=by
 intro pins s σ H xs us Q I r h;obtain⟨i,j,rfl,q⟩:=h;obtain⟨u,w',rfl,⟨t,rfl⟩,⟨t',rfl⟩⟩:=vals2 r;refine min_two_ints (I.ok.hd hc) λh' tk k=>⟨_,H,I.kept k,?_,q⟩
 by_cases hj:j<i
 ·rw[Z6 hj,Z6 hj];exact⟨_,rfl⟩
 ·rw[Z5 hj,Z5 hj];exact⟨_,rfl⟩
theorem Uh:Fb X (.type "int") (λxs H Q=>(∃i,xs=[.int i]/\Q (.int i) H)\/∃k,xs=[.bl k]/\Q (.int (if k then 1 else 0)) H):=by
 intro pins s σ H xs us Q I r h;rcases h with ⟨i,rfl,q⟩|⟨k,rfl,q⟩
 ·obtain⟨u,rfl,t,rfl⟩:=Mb r;exact call_int_int ⟨.int i,H,I,⟨_,rfl⟩,q⟩
 ·obtain⟨u,rfl,r1⟩:=Mb r;cases r1;exact call_int_bool ⟨.int (if k then 1 else 0),H,I.tok _,⟨_,rfl⟩,q⟩
theorem GM:Fb X (.type "str") (λxs H Q=>∃i,xs=[.int i]/\i.natAbs.log2<1920/\Q (.str (toString i)) H):=by
 intro pins s σ H xs us Q I r h;obtain⟨i,rfl,hz,q⟩:=h;obtain⟨u,rfl,t,rfl⟩:=Mb r;exact PySem.P.str_of_int hz ⟨.str _,H,I.tok _,⟨_,rfl⟩,q⟩
end
structure RS(h:Heap)(x dx C:Addr)(mA:Str->Option Value):Prop where
 obj:h.get? x=some (instObj C dx)
 ns:h.Ns1 dx mA
 ne:dx≠x
theorem TH{h:Heap}{dx:Addr}{mA:Str->Option Value}(n:h.Ns1 dx mA):∃od,h.get? dx=some od/\∀name,lookIn name od=some (mA name):=by
 obtain⟨o,es,ep,ho,hd,hk,_,hm⟩:=n;refine⟨o,ho,λname=>?_⟩;have e:=hm name;unfold nsFind findBy at e;rw[<-Array.find?_toList]at e;unfold lookIn;rw[hd];dsimp only;split
 ·rename_i y q;rw[q]at e;exact X4 some e
 ·rename_i q;rw[q]at e;have a:es.toList.any (·.refKey)=false:=by
   rw[List.any_eq_false];intro y hy;obtain⟨z,t,hkey⟩:=hk y (Array.mem_toList_iff.mp hy);simp[DictEntry.refKey,hkey]
  have a':¬es.toList.any (·.refKey)=true:=by rw[a];exact D6
  rw[Z5 a'];exact X4 some e
theorem RS.look{h:Heap}{x dx C:Addr}{mA:Str->Option Value}(I:RS h x dx C mA):∃od,PySem.W.InstAt h x (instObj C dx) C (some od)/\∀name,lookIn name od=some (mA name) :=
 let ⟨od,ho,hl⟩:=TH I.ns
 ⟨od,⟨I.obj,rfl,rfl,ho⟩,hl⟩
section
variable{prog:Program}{w:World}{A:Around}{E:Value->Shared->Prop}{s:Shared}{K:W.Frag}{x dx C f:Addr}{mA:Str->Option Value}{name:Str}{v:Value}
theorem get_map{expr:Bool}{Q:Value->Shared->Prop}(X:K.In s.heap)(I:RS s.heap x dx C mA)(hg:plainGet K C name=true)(hh:hasDictIn K C=true)
  (ha:findIn K (.ref C) name=some none) (hv:mA name=some v) (hv':handedIn v=true) (h:Q v {s with toks:=s.toks+1}) :
  wpAny (model prog w) A (getAttr (.ref x) name expr) Q E s:=by
 obtain⟨od,J,hl⟩:=I.look;exact PySem.W.get_value X J (A7h hg).1 (PySem.W.findObj_own hh ha rfl (by rw[hl,hv])) hv' h
theorem Wa{pl:Sem Bool}{Q:Value×List Value->Shared->Prop}(X:K.In s.heap)(I:RS s.heap x dx C mA)(hg:plainGet K C name=true)
  (hf:findIn K (.ref C) name=some (some (.ref f))) (ht:isFn K (.ref f)=true) (hv:mA name=none) (h:Q (.ref f,[.ref x]) s) :
  wpAny (model prog w) A (getMethod (.ref x) name pl) Q E s:=by
 obtain⟨od,J,hl⟩:=I.look;exact PySem.W.method_fn X J (A7h hg).1 (A7h hg).2 hf (beq_iff_eq.mp ht) (by show(lookIn name od).map (·.isSome)=some false;rw[hl,hv];rfl) h
theorem set_map{ns:List Str}{Q:Unit->Shared->Prop}(X:K.In s.heap)(I:RS s.heap x dx C mA)
  (hs:findIn K (.ref C) "__setattr__" = some (some (.builtin "object.__setattr__"))) (hp:plainOver K C=true) (ht:takerIn K C name=some none) (hh:hasDictIn K C=true)
  (hw:PySem.Within mA ns) (hsz:ns.length<=sizeLine)
  (h:∀h',RS h' x dx C (λy=>if y=name then some v else mA y)->Heap.SameBut dx s.heap h'->Q () {s with heap:=h',toks:=s.toks+2}) :
  wpAny (model prog w) A (setAttr (.ref x) name v) Q E s:=by
 obtain⟨od,J,hl⟩:=I.look;refine PySem.W.set_plain X J hs (PySem.W.osa_open (s:={s with toks:=s.toks+1}) (r:=none) X J hp ht λb=>?_)
 obtain⟨cd,hc,hd'⟩:=any_some hh;have hx:s.heap.get? x=some ⟨.ref C,some dx,.plain,#[]⟩:=I.obj;refine Z2 (Z9 (Z2 (Z2 (wpAny_loadPart hx (Z2 (PySem.W.Looks.here (s:={s with toks:=s.toks+1}) (PySem.W.looks_clsIn X hc) ?_))))))
 rw[hd'];refine Z9 (a:=some dx) (Z2 (Z9 (Z2 ?_)));refine wpAny_nsSet1 (s:={s with toks:=s.toks+1}) I.ns λh' hn2 hs2=>?_;obtain⟨oD,esD,epD,hoD,hdD,hcD⟩:=hn2.count (PySem.Within.cons name v hw);refine Z2 (wpAny_lookBehind hoD (by rw[hdD];exact pastItsLine_dict (C8 hcD (by rw[C4];lia))) ?_);exact Z9 (h _ ⟨(hs2.2 _ (X5 I.ne)).trans I.obj,hn2,I.ne⟩ hs2)
theorem VM{R:Result->Shared->Prop}{vs:List Value}{kw:List (Str×Value)}(X:K.In s.heap)(hm:makesIn K C=true)
  (hi:findIn K (.ref C) "__init__" = some (some (.ref f))) (hf:PySem.W.typeIn K (.ref f)=some (.type "function"))
  (h:codeAny (model prog w) (A.under (.builtin "type.__call__" ⟨.ref C::vs,kw⟩)) (.call (.ref f) ⟨.ref (s.heap.objs.size+1)::vs,kw⟩) (PySem.W.InitBack (s.heap.objs.size+1) R)
   {s with heap:=(s.heap.push emptyDict).push (instObj C s.heap.objs.size)}) :
  codeAny (model prog w) A (.call (.ref C) ⟨vs,kw⟩) R s:=by
 obtain⟨hh,g,d,t,os⟩:=s;exact PySem.W.make_core (PySem.W.makes_of X hm) (PySem.W.looks_findIn X hi) (λself=>PySem.W.bind_fn X self hf) (.inl rfl) h
end
def Cm(f:Str)(v:V):List (Str×V)->List (Str×V)
 |[]=>[(f,v)]
 | (g,x)::r=>if g=f then(g,v)::r else(g,x)::Cm f v r
theorem AC(f g:Str)(v:V):∀fs:List (Str×V),(Cm f v fs).lookup g=if g=f then some v else fs.lookup g
 |[]=>by
  show List.lookup g [(f,v)]=_;by_cases h:g=f
  ·have hb:(g==f)=true:=beq_iff_eq.mpr h;simp only[List.lookup,hb,Z6 h]
  ·have hb:(g==f)=false:=beq_eq_false_iff_ne.mpr h;simp only[List.lookup,hb,Z5 h]
 | (k,x)::r=>by
  have ih:=AC f g v r;rw[show Cm f v ((k,x)::r)=(if k=f then(k,v)::r else(k,x)::Cm f v r)from rfl];by_cases hk:k=f
  ·rw[Z6 hk];by_cases h:g=k
   ·have hb:(g==k)=true:=beq_iff_eq.mpr h;simp only[List.lookup,hb,Z6 (h.trans hk)]
   ·have hb:(g==k)=false:=beq_eq_false_iff_ne.mpr h;simp only[List.lookup,hb,Z5 (λe:g=f=>h (e.trans hk.symm))]
  ·rw[Z5 hk];by_cases h:g=k
   ·have hb:(g==k)=true:=beq_iff_eq.mpr h;simp only[List.lookup,hb,Z5 (λe:g=f=>hk (h.symm.trans e))]
   ·have hb:(g==k)=false:=beq_eq_false_iff_ne.mpr h;simp only[List.lookup,hb];exact ih
theorem Lo(f:Str)(v:V):∀fs:List (Str×V),f∈(Cm f v fs).map (·.1)/\∀g,g∈fs.map (·.1)->g∈(Cm f v fs).map (·.1)
 |[]=>⟨by simp[Cm],λg h=>by simp at h⟩
 | (k,x)::r=>by
  obtain⟨i1,i2⟩:=Lo f v r;rw[show Cm f v ((k,x)::r)=(if k=f then(k,v)::r else(k,x)::Cm f v r)from rfl];by_cases hk:k=f
  ·rw[Z6 hk];subst hk;exact⟨by simp,λg h=>by simpa using h⟩
  ·rw[Z5 hk];refine⟨?_,λg h=>?_⟩
   ·rw[D7];exact B9 _ i1
   ·rw[D7]at h⊢;rcases B7.mp h with e|e
    ·exact B7.mpr (.inl e)
    ·exact B9 _ (i2 g e)
theorem Lw(f:Str)(v:V):∀fs:List (Str×V),(Cm f v fs).length<=fs.length+1
 |[]=>by simp[Cm]
 | (k,x)::r=>by
  have ih:=Lw f v r;rw[show Cm f v ((k,x)::r)=(if k=f then(k,v)::r else(k,x)::Cm f v r)from rfl];by_cases hk:k=f
  ·rw[Z6 hk,C4,C4];lia
  ·rw[Z5 hk,C4,C4];lia
theorem GN.some_of{v:V}{o:Option Value}(r:GN (some v) o):∃u,o=some u/\Bb v u:=by
 cases o with
 |none=>exact(show False from r).elim
 |some u=>exact⟨u,rfl,r⟩
theorem GN.none_of{o:Option Value}(r:GN none o):o=none:=by
 cases o with
 |none=>rfl
 |some u=>exact(show False from r).elim
theorem TX{v:V}{u:Value}(r:Bb v u):handedIn u=true:=by
 cases v with
 |non=>cases(show u=Value.none from r);rfl
 |bl b=>cases(show u=Value.bool b from r);rfl
 |int i=>obtain⟨t,e⟩:=(show ∃t,u=Value.int i t from r);cases e;rfl
 |str x=>obtain⟨t,e⟩:=(show ∃t,u=Value.str x t from r);cases e;rfl
 |byt b=>obtain⟨t,e⟩:=(show ∃t,u=Value.bytes b t from r);cases e;rfl
 |flt b=>obtain⟨t,e⟩:=(show ∃t,u=Value.float b t from r);cases e;rfl
 |ref a=>cases(show u=Value.ref a from r);rfl
 |ty n=>cases(show u=Value.type n from r);rfl
section
variable{P:Program}{w:World}{H H':Hp}{h h':Heap}{a C dx:Addr}{fs fs':List (Str×V)}
theorem LW(hok:HOk P w H h)(e:H a=some (.ins C dx fs)):∃mA,RS h a dx C mA/\(∀f,GN (fs.lookup f) (mA f))/\PySem.Within mA (fs.map (·.1))/\fs.length<=1000/\H dx=some (.own a):=by
 obtain⟨d,z,ne,ob,mA,n,r,q⟩:=(show Bh P w H h a (.ins C dx fs)from hok a _ e)
 exact⟨mA,⟨ob,n,ne⟩,r,q,z,d⟩
end
structure Cls(K:W.Frag)(C:Addr):Prop where
 pg:plainGet K C Str.empty=true
 hd:hasDictIn K C=true
 po:plainOver K C=true
 sa:findIn K (.ref C) "__setattr__" = some (some (.builtin "object.__setattr__"))
theorem Cls.get{K:W.Frag}{C:Addr}(c:Cls K C)(f:Str):plainGet K C f=true:=c.pg
def Dr(K:W.Frag)(C:Addr)(f:Str):Prop:=findIn K (.ref C) f=some none
theorem Dr.taker{K:W.Frag}{C:Addr}{f:Str}(n:Dr K C f):takerIn K C f=some none:=by
 unfold takerIn;rw[show findIn K (.ref C) f=some none from n];rfl
structure WP(K:W.Frag)(C:Addr)(m:Str)(f:Addr):Prop where
 at_:findIn K (.ref C) m=some (some (.ref f))
 fn:isFn K (.ref f)=true
 kp:keepIn K (.ref f)=true
section
variable{X:Cx}{pins:List (Addr×Obj)}{σ:St}{H:Hp}{s:Shared}{a C dx:Addr}{fs:List (Str×V)}{f:Str}{v:V}{A:Around}{E:Value->Shared->Prop}
theorem RE{b:Bool}{Q:Value->Shared->Prop}(I:Inv X pins σ H s)(e:H a=some (.ins C dx fs))(c:Cls X.K C)(n:Dr X.K C f)(l:fs.lookup f=some v)
  (h:∀u s',Inv X pins σ H s'->Bb v u->Q u s'):wpAny (model X.prog X.w) A (getAttr (.ref a) f b) Q E s:=by
 obtain⟨mA,O,r,_,_,_⟩:=LW I.hok e;obtain⟨u,hu,ru⟩:=GN.some_of (v:=v) (o:=mA f) (by rw[<-l];exact r f);exact get_map I.kIn O (c.get f) c.hd n hu (TX ru) (h u _ (I.tok _) ru)
theorem RD{m:Str}{g:Addr}{pl:Sem Bool}{Q:Value×List Value->Shared->Prop}(I:Inv X pins σ H s)(e:H a=some (.ins C dx fs))(c:Cls X.K C)(k:WP X.K C m g)(l:fs.lookup m=none)
  (h:Q (.ref g,[.ref a]) s):wpAny (model X.prog X.w) A (getMethod (.ref a) m pl) Q E s:=by
 obtain⟨mA,O,r,_,_,_⟩:=LW I.hok e;have hn:mA m=none:=GN.none_of (by rw[<-l];exact r m);exact Wa I.kIn O (c.get m) k.at_ k.fn hn h
theorem Rb{y:V}{u:Value}{Q:Unit->Shared->Prop}(I:Inv X pins σ H s)(e:H a=some (.ins C dx fs))(c:Cls X.K C)(n:Dr X.K C f)(hl:fs.length<1000)(ry:Bb y u)
  (h:∀s',Inv X pins σ (upd H a (.ins C dx (Cm f y fs))) s'->Q () s'):wpAny (model X.prog X.w) A (setAttr (.ref a) f u) Q E s:=by
 obtain⟨mA,O,r,wi,_,ho⟩:=LW I.hok e;have hz:(fs.map (·.1)).length<=sizeLine:=by rw[B0,sizeLine_eq];lia
 refine set_map I.kIn O c.sa c.po n.taker c.hd wi hz λh' O' sb=>h _ ?_;have hd:∃o,h'.get? dx=some o:=let ⟨o,_,_,e',_⟩:=O'.ns;⟨o,e'⟩;refine I.write (x:=a) (e:=dx) (by rw[e];exact True.intro) (.inr ho) (λb q hb z=>(sb.2 b hb).trans z) hd ?_;refine⟨by rw[AD O.ne];exact ho,?_,O.ne,O'.obj,_,O'.ns,λg=>?_,λg hg=>?_⟩
 ·have:=Lw f y fs;lia
 ·show GN ((Cm f y fs).lookup g) (if g=f then some u else mA g);rw[AC];by_cases q:g=f
  ·rw[Z6 q,Z6 q];exact ry
  ·rw[Z5 q,Z5 q];exact r g
 ·by_cases q:g=f
  ·rw[q];exact(Lo f y fs).1
  ·refine(Lo f y fs).2 g (wi g λz=>hg ?_);show(if g=f then some u else mA g)=none;rw[Z5 q];exact z
theorem Inv.made(I:Inv X pins σ H s):Inv X pins σ (upd (upd H s.heap.objs.size (.own (s.heap.objs.size+1))) (s.heap.objs.size+1) (.ins C s.heap.objs.size []))
  {s with heap:=(s.heap.push emptyDict).push (instObj C s.heap.objs.size)}:=by
 have e1:(s.heap.push emptyDict).get? s.heap.objs.size=some emptyDict:=D4 s.heap rfl;have e2:((s.heap.push emptyDict).push (instObj C s.heap.objs.size)).get? (s.heap.objs.size+1)=some (instObj C s.heap.objs.size):=by
  have:=D4 (s.heap.push emptyDict) (o:=instObj C s.heap.objs.size) rfl
  rwa [Q5]at this
 have e3:(s.heap.push emptyDict).Ns s.heap.objs.size (λ_=>none):=⟨emptyDict,#[],_,e1,rfl,(λe he=>absurd he A5),λ_=>rfl⟩
 have I1:=I.laid (a:=s.heap.objs.size) (o:=.own (s.heap.objs.size+1)) (h':=s.heap.push emptyDict) (t':=s.toks) (λb u q=>B3 _ q) (B1 _) ⟨_,e1⟩;refine I1.laid (a:=s.heap.objs.size+1) (o:=.ins C s.heap.objs.size []) (t':=s.toks) (λb u q=>B3 _ q) (W2 (Q5 _ _)) ?_;have ne:s.heap.objs.size≠s.heap.objs.size+1:=F0 (V5 _);refine⟨by rw[AD ne,Ag],F5 _,ne,e2,λ_=>none,(Heap.Ns1.of_empty e3).at λo q=>B3 _ q,λ_=>True.intro,λy hy=>absurd rfl hy⟩
theorem attr_of{prog:Program}{w:World}{env:Env}{e:Expr}{f:Str}{pos:Pos}{s:Shared}{Q:Value->Shared->Prop}(hb:attributeBase e f env (eval e env)=eval e env)
  (h:wpAny (model prog w) A (eval e env) (λo s₁=>wpAny (model prog w) A (getAttr o f true) Q E s₁) E s):wpAny (model prog w) A (eval (.Attribute e f pos) env) Q E s :=
 Attribute_any_ h (by rw[arm_eval_Attribute,hb])
end
def tFld(K:W.Frag)(ta:TE)(f:Str):TE:=fun σ H Q=>ta σ H λx H1=>∃a C dx fs v,x=.ref a/\H1 a=some (.ins C dx fs)/\Cls K C/\Dr K C f/\fs.lookup f=some v/\Q v H1
def sFld(K:W.Frag)(ta tv:TE)(f:Str):TS:=λD σ H=>tv σ H λy H1=>ta σ H1 λx H2=>∃a C dx fs,x=.ref a/\H2 a=some (.ins C dx fs)/\Cls K C/\Dr K C f/\fs.length<1000 /\
 D.nx σ (upd H2 a (.ins C dx (Cm f y fs)))
section
variable{X:Cx}{o e value:Expr}{f:Str}{pos pos' tpos:Pos}{ta tv:TE}
theorem BK(he:PE X e ta)(hb:attributeBase e f X.env (eval e X.env)=eval e X.env):PE X (.Attribute e f pos) (tFld X.K ta f):=by
 intro pins s σ H Q I h;refine attr_of hb (thn (he pins s σ H _ I h) λu s1 ⟨x,H1,I1,rx,a,C,dx,fs,v,ex,ea,c,n,l,q⟩=>?_);subst ex;obtain rfl:u=Value.ref a:=rx;exact RE I1 ea c n l λu' s2 I2 ru=>⟨v,H1,I2,ru,q⟩
theorem JX(ha:PE X o ta)(hv:PE X value tv)(hs:swapsWith value (some (.Attribute o f pos')) pos.line X.env=pure false):PS X (.Assign [.Attribute o f pos'] value pos) (sFld X.K ta tv f):=by
 intro pins s σ H D I h;refine plainObj_wpAny_Assign_Attribute (thn (hv pins s σ H _ I h) λu s1 ⟨y,H1,I1,ry,q⟩=>thn (ha pins s1 σ H1 _ I1 q) λov s2 ⟨x,H2,I2,rx,a,C,dx,fs,ex,ea,c,n,l,q2⟩=>?_) hs;subst ex;obtain rfl:ov=Value.ref a:=rx;exact Rb I2 ea c n l ry λs3 I3=>⟨σ,_,I3,q2⟩
end
section
variable{X:Cx}{pins:List (Addr×Obj)}{σ:St}{H:Hp}{s:Shared}{A:Around}{E:Value->Shared->Prop}{Q:Value->Shared->Prop}{c:Value}{b:Bool}
inductive JO(K:W.Frag)(H:Hp):V->Value->Prop where
 |non:JO K H .non (.type "NoneType")
 |bl (x:Bool):JO K H (.bl x) (.type "bool")
 |int (i:Int):JO K H (.int i) (.type "int")
 |str (x:Str):JO K H (.str x) (.type "str")
 |flt (x:UInt64):JO K H (.flt x) (.type "float")
 |lst {a:Addr} {xs:List V} (e:H a=some (.lst xs)):JO K H (.ref a) (.type "list")
 |frz {a:Addr} {o:Obj} {xs:List V} (e:H a=some (.frz o (.lst xs))):JO K H (.ref a) (.type "list")
 |tup {a:Addr} {xs:List V} (e:H a=some (.tup xs)):JO K H (.ref a) (.type "tuple")
 |dK {a:Addr} {kvs:List (Key×V)} (e:H a=some (.dK kvs)):JO K H (.ref a) (.type "dict")
 |dT {a:Addr} {kvs:List (List Key×V)} (e:H a=some (.dT kvs)):JO K H (.ref a) (.type "dict")
 |ins {a C dx:Addr} {fs:List (Str×V)} (e:H a=some (.ins C dx fs)) (cl:Cls K C) (ha:findIn K (.ref C) "__class__" = some (some (.builtin "object.__class__")))
   (hn:specialIn K (.builtin "object.__class__") "__get__" = some (some (.builtin "getset_descriptor.__get__"))) (htk:takesIn K (.builtin "object.__class__")=some true)
   (hm:mroIn K C (.type "object")=some true):JO K H (.ref a) (.ref C)
theorem TU{x:V}{u t:Value}(I:Inv X pins σ H s)(rx:Bb x u)(ty:JO X.K H x t)(e:kitOne X.K t c=some b)(h:∀tk,Q (.bool b) {s with toks:=tk}) :
  wpAny (model X.prog X.w) A (call (.builtin "isinstance") [u,c]) Q E s:=by
 cases ty with
 |non=>cases(show u=Value.none from rx);exact K9 PySem.W.kitx_none I.kIn True.intro e (λz=>nomatch z) h
 |bl y=>cases(show u=Value.bool y from rx);exact K9 PySem.W.kitx_bool I.kIn True.intro e (λz=>nomatch z) h
 |int i=>obtain⟨t,q⟩:=(show ∃t,u=Value.int i t from rx);cases q;exact K9 PySem.W.kitx_int I.kIn True.intro e (λz=>nomatch z) h
 |str y=>obtain⟨t,q⟩:=(show ∃t,u=Value.str y t from rx);cases q;exact K9 PySem.W.kitx_str I.kIn True.intro e (λz=>nomatch z) h
 |flt y=>obtain⟨t,q⟩:=(show ∃t,u=Value.float y t from rx);cases q;exact K9 PySem.W.kitx_float I.kIn True.intro e (λz=>nomatch z) h
 |@lst a xs ea =>
  cases(show u=Value.ref a from rx);obtain⟨_,_,n,_,h1⟩:=(show Bh X.prog X.w H s.heap a (.lst xs)from I.hok a _ ea)
  exact K9 kitx_list I.kIn ⟨_,h1,rfl⟩ e (λz=>nomatch z) h
 |@frz a ob xs ea =>
  cases(show u=Value.ref a from rx);obtain⟨_,_,_,n,_,h1⟩:=(show Bh X.prog X.w H s.heap a (.frz ob (.lst xs))from I.hok a _ ea)
  exact K9 kitx_list I.kIn ⟨_,h1,rfl⟩ e (λz=>nomatch z) h
 |@tup a xs ea =>
  cases(show u=Value.ref a from rx);obtain⟨_,_,_,p⟩:=(show Bh X.prog X.w H s.heap a (.tup xs)from I.hok a _ ea)
  obtain⟨o,h1,h2,_⟩:=p;exact K9 PySem.W.kitx_tuple I.kIn ⟨o,h1,h2⟩ e (λz=>nomatch z) h
 |@dK a kvs ea =>
  cases(show u=Value.ref a from rx);obtain⟨_,_,vs,_,p⟩:=(show Bh X.prog X.w H s.heap a (.dK kvs)from I.hok a _ ea)
  obtain⟨o,es,ep,h1,h2,_⟩:=p;exact K9 kitx_dict I.kIn ⟨o,h1,h2.1⟩ e (λz=>nomatch z) h
 |@dT a kvs ea =>
  cases(show u=Value.ref a from rx);obtain⟨_,_,xs,_,o,es,ep,h1,h2,_⟩:=(show Bh X.prog X.w H s.heap a (.dT kvs)from I.hok a _ ea)
  exact K9 kitx_dict I.kIn ⟨o,h1,h2.1⟩ e (λz=>nomatch z) h
 |@ins a C dx fs ea cl ha hn htk hm =>
  cases(show u=Value.ref a from rx);obtain⟨mA,O,_⟩:=LW I.hok ea;obtain⟨od,J,_⟩:=O.look;exact K9 (PySem.W.kitx_own (cl.get _) cl.hd ha hn htk hm) I.kIn J e (λz=>nomatch z) h
end
structure CC(k:Nat)(A:Around):Prop where
 hd:A.handled=none
 dp:A.depth+3*k+5<recursionLimit
 un:A.units+16*k+200<cLine
theorem CC.mono{j k:Nat}{A:Around}(r:CC k A)(h:j<=k):CC j A:=⟨r.hd,by have:=r.dp;lia,by have:=r.un;lia⟩
theorem CC.deeper{k:Nat}{A:Around}(r:CC (k+1) A)(env:Env):CC k (A.deeper env) :=
 ⟨r.hd,by have:=r.dp;show A.depth+1+3*k+5<_;lia,by have:=r.un;show A.units+3+16*k+200<_;lia⟩
theorem Ry{A:Around}{C:Addr}{us:List Value}{kw:List (Str×Value)}:(A.under (.builtin "type.__call__" ⟨.ref C::us,kw⟩)).depth=A.depth+1:=by
 first|rfl|simp[Around.under,Code.weight,Code.isCreation,Code.isGuard,Code.isCaller,Code.frames,Code.isFrame,guardIds]
theorem Rx{A:Around}{C:Addr}{us:List Value}{kw:List (Str×Value)}:(A.under (.builtin "type.__call__" ⟨.ref C::us,kw⟩)).units=A.units+1:=by
 first|rfl|simp[Around.under,Code.cUnits,Code.frames,Code.isFrame]
theorem CC.make{k:Nat}{A:Around}(r:CC (k+1) A)(C:Addr)(us:List Value)(kw:List (Str×Value)):CC k (A.under (.builtin "type.__call__" ⟨.ref C::us,kw⟩)) :=
 ⟨r.hd,by have:=r.dp;rw[Ry];lia,by have:=r.un;rw[Rx];lia⟩
theorem CC.depth{k:Nat}{A:Around}(r:CC k A):A.depth<recursionLimit:=by have:=r.dp;lia
theorem CC.units{k:Nat}{A:Around}(r:CC k A):A.units+64<cLine:=by have:=r.un;lia
def tNil:TA:=λ_ H Q=>Q [] H
def NI(ta:TE)(tr:TA):TA:=fun σ H Q=>ta σ H λx H1=>tr σ H1 λxs H2=>Q (x::xs) H2
section
variable{X:Cx}{e:Expr}{es:List Expr}{te:TE}{t:TA}{pos:Pos}
theorem Ac:PA X [] tNil:=λ_ _ _ _ H Q I h=>A7b ⟨[],H,I,.nil,h⟩
theorem Aa(ha:PE X e te)(hr:PA X es t)(hs:starEach (e::es) X.env=(false,eval e X.env)::starEach es X.env:=by rfl):PA X (e::es) (NI te t):=by
 intro pos pins s σ H Q I h;rw[hs];show wpAny _ _ (spliced ((false,eval e X.env)::backTo pos (starEach es X.env))) _ _ s;refine A5h (thn (ha pins s σ H _ I h) λu s1 ⟨x,H1,I1,r1,q1⟩=>?_);exact thn (hr pos pins s1 σ H1 _ I1 q1) λus s2 ⟨xs,H2,I2,r2,q2⟩=>⟨x::xs,H2,I2,.cons r1 r2,q2⟩
def tTup(t:TA):TE:=fun σ H Q=>t σ H λxs H1=>xs.length<=sizeLine/\∀p,H1 p=none->Q (.ref p) (upd H1 p (.tup xs))
def tLst(t:TA):TE:=fun σ H Q=>t σ H λxs H1=>xs.length<=sizeLine/\∀p,H1 p=none->Q (.ref p) (upd H1 p (.lst xs))
theorem Ea{x1}(h:PA X es t):PE X (.Tuple es x1 pos) (tTup t):=by
 intro pins s σ H Q I hq;refine wpAny_Tuple_spliced (thn (h pos pins s σ H _ I hq) λus s1 ⟨xs,H1,I1,r,z,q⟩=>⟨by rw[<-r.length];exact z,?_⟩);have hf:H1 s1.heap.objs.size=none:=I1.hok.fresh (B1 _);refine⟨.ref s1.heap.objs.size,upd H1 s1.heap.objs.size (.tup xs),I1.laid (t':=s1.toks) (λb u e=>B3 _ e) (B1 _) ?_,rfl,q _ hf⟩;exact⟨z,us,r,⟨_,D4 _ rfl,rfl,_,rfl⟩⟩
theorem BF(h:PA X es t):PE X (.List es pos) (tLst t):=by
 intro pins s σ H Q I hq;refine wpAny_List_spliced (thn (h pos pins s σ H _ I hq) λus s1 ⟨xs,H1,I1,r,z,q⟩=>⟨by rw[<-r.length];exact z,?_⟩);have hf:H1 s1.heap.objs.size=none:=I1.hok.fresh (B1 _);refine⟨.ref s1.heap.objs.size,upd H1 s1.heap.objs.size (.lst xs),I1.laid (t':=s1.toks) (λb u e=>B3 _ e) (B1 _) ?_,rfl,q _ hf⟩;exact⟨z,us,0,r,D4 _ rfl⟩
end
abbrev Sp:=List V->Hp->VK->XK->Prop
abbrev CXT:=List Env->Hp->Shared->XK->Value->Shared->Prop
structure QP(P:Program)(w:World)(K:W.Frag)(mg:Str->Option Value)(base:Heap)(A:Around)(outer:List Env)(s:Shared)(H:Hp):Prop where
 frames:A.frames=some outer
 mod:Mod K mg base
 bs:∀b o,base.get? b=some o->s.heap.get? b=some o/\H b=none
 bsz:base.objs.size<=s.heap.objs.size
 funs:s.heap.FunFrames base outer
 frf:∀b∈frs outer,H b=none
 hok:HOk P w H s.heap
 bare:AllBare s.gens
def CE(outer:List Env)(P:Program)(w:World)(H:Hp)(s:Shared)(Q:VK)(u:Value)(s':Shared):Prop :=
 ∃v H',s'.os=s.os/\AllBare s'.gens/\Un (frs outer) [] H H' s.heap s'.heap/\HOk P w H' s'.heap/\Bb v u/\Q v H'
def CR(CX:CXT)(outer:List Env)(P:Program)(w:World)(H:Hp)(s:Shared)(Q:VK)(E:XK)(r:Result)(s':Shared):Prop :=
 match r with
 |.ok (.ret u)=>CE outer P w H s Q u s'
 |.ok _=>False
 |.error e=>CX outer H s E e s'
structure AO(P:Program)(w:World)(K:W.Frag)(mg:Str->Option Value)(base:Heap)(CX:CXT)(k:Nat)(f:Addr)(fd:FuncData)(ps:List Str)(sp:Sp):Prop where
 len:∀vs H Q E,sp vs H Q E->vs.length=ps.length
 run:∀(A:Around)(outer:List Env)(s:Shared)(H:Hp)(args:Args)(us:List Value)(vs:List V)(Q:VK)(E:XK),CC k A->QP P w K mg base A outer s H->BindsTo s fd args (ps.zip us)->AN vs us->sp vs H Q E ->
  codeAny (model P w) A (.call (.ref f) args) (CR CX outer P w H s Q E) s
theorem QP.make{P:Program}{w:World}{K:W.Frag}{mg:Str->Option Value}{base:Heap}{A:Around}{outer:List Env}{s:Shared}{H:Hp}(e:QP P w K mg base A outer s H)(C:Addr)(us:List Value)(kw:List (Str×Value)) :
  QP P w K mg base (A.under (.builtin "type.__call__" ⟨.ref C::us,kw⟩)) outer s H:=⟨by first|exact e.frames|(simpa[Around.under,Code.envs,Code.isFrame,pushEnvs] using e.frames),e.mod,e.bs,e.bsz,e.funs,e.frf,e.hok,e.bare⟩
section
variable{X:Cx}{pins:List (Addr×Obj)}{σ:St}{H:Hp}{s s':Shared}
theorem Inv.env0(I:Inv X pins σ H s):QP X.prog X.w X.K X.mg X.base X.A X.stack s H :=
 ⟨I.ok.frames,I.ok.mod,I.bs,C8 I.ok.bsz I.sz,I.stack,I.stkFree,I.hok,I.bare⟩
theorem Inv.after{Q:VK}{u:Value}(I:Inv X pins σ H s)(h:CE X.stack X.prog X.w H s Q u s'):EP X pins σ Q u s':=by
 obtain⟨v,H',os,bare,un,hok,r,q⟩:=h;obtain⟨hh,g,d,t,os'⟩:=s';obtain rfl:os'=s.os:=os;exact⟨v,H',I.call (h':=hh) (g':=g) (d':=d) (t':=t) (ch:=[]) un hok bare (λb z=>absurd z A5),r,q⟩
end
def Sd(sp:Sp)(dvs:List V)(E:XK)(t:TA):TE:=fun σ H Q=>t σ H λvs H1=>sp (vs++dvs) H1 Q E
def tMeth(C:Addr)(m:Str)(sp:Sp)(dvs:List V)(E:XK)(ta:TE)(t:TA):TE:=fun σ H Q=>ta σ H λx H1=>∃a dx fs,x=.ref a/\H1 a=some (.ins C dx fs)/\fs.lookup m=none /\
 t σ H1 λvs H2=>sp (x::(vs++dvs)) H2 Q E
def tMake(C:Addr)(sp:Sp)(dvs:List V)(E:XK)(t:TA):TE:=fun σ H Q=>t σ H λvs H1=>∀x dx,H1 x=none->H1 dx=none->dx≠x ->
 sp (.ref x::(vs++dvs)) (upd (upd H1 dx (.own x)) x (.ins C dx [])) (λv H2=>v=.non/\Q (.ref x) H2) E
def CD(K:W.Frag)(fd:FuncData)(ps:List Str)(ds:List Value):Prop :=
 ∀(s:Shared)(us:List Value),K.In s.heap->(us++ds).length=ps.length->BindsTo s fd ⟨us,[]⟩ (ps.zip (us++ds))
theorem CD.all{K:W.Frag}{fd:FuncData}{ps:List Str}(h:∀us:List Value,us.length=ps.length->bindArgs fd ⟨us,[]⟩=pure (ps.zip us)):CD K fd ps []:=λs us _ hl=>by
 rw[N4]at hl⊢;exact .of_eq (h us hl)
def FW(CX:CXT)(X:Cx)(E:XK):Prop:=∀(pins:List (Addr×Obj))(σ:St)(H:Hp)(s:Shared)(e:Value)(s':Shared),Inv X pins σ H s->CX X.stack H s E e s'->X.xe e s'
section
variable{X:Cx}{CX:CXT}{k:Nat}{f C:Addr}{fd:FuncData}{ps:List Str}{sp:Sp}{dvs:List V}{ds:List Value}{E:XK}{x m:Str}{p pos apos:Pos}{e o:Expr}{es:List Expr}{ta:TE}{t:TA}
theorem Va{pins:List (Addr×Obj)}{σ:St}{H:Hp}{s:Shared}{Q:VK}{us:List Value}{vs:List V}(F:AO X.prog X.w X.K X.mg X.base CX k f fd ps sp)(hr:CC k X.A)(hb:CD X.K fd ps ds)(hd:AN dvs ds)(hx:FW CX X E)
  (I:Inv X pins σ H s) (r:AN vs us) (h:sp (vs++dvs) H Q E):wpAny (model X.prog X.w) X.A (call (.ref f) us) (EP X pins σ Q) X.xe s:=by
 have r2:AN (vs++dvs) (us++ds):=r.append hd;have hl:(us++ds).length=ps.length:=by rw[<-r2.length];exact F.len _ _ _ _ h
 refine A8a (A4f (F.run X.A X.stack s H ⟨us,[]⟩ (us++ds) (vs++dvs) Q E hr I.env0 (hb s us I.kIn hl) r2 h) λr s' hq=>?_);cases r with
 |error e=>exact hx pins σ H s e s' I hq
 |ok fl =>
  cases fl with
  |ret u=>exact I.after hq
  |next=>exact False.elim hq
  |brk=>exact False.elim hq
  |cont=>exact False.elim hq
theorem pe_call(F:AO X.prog X.w X.K X.mg X.base CX k f fd ps sp)(hr:CC k X.A)(hg:Gl X x)(hm:X.mg x=some (.ref f))(hk:keepIn X.K (.ref f)=true)(hb:CD X.K fd ps ds)(hd:AN dvs ds)(hx:FW CX X E)
  (ha:PA X (e::es) t) (hdb:(x==("__debug__" : Str))=false:=by decide) (he:starEach (e::es) X.env=(false,eval e X.env)::starEach es X.env:=by rfl) (hpl:(backTo pos (starEach es X.env)).any (·.1)=false:=by rfl) :
  PE X (.Call (.Name x p) (e::es) [] pos) (Sd sp dvs E t):=by
 intro pins s σ H Q I h;refine A2d (Fs I hg hm ?_ hdb);refine A5a (h₀:=X.base) I.ok.mod.kin hk (thn (ha pos pins s σ H _ I h) λus s1 ⟨vs,H1,I1,r,q⟩=>⟨I1.kIn,?_⟩) he hpl;exact Va F hr hb hd hx I1 r q
theorem pe_meth{pl:Sem Bool}(he:PE X o ta)(c:Cls X.K C)(hm:WP X.K C m f)(F:AO X.prog X.w X.K X.mg X.base CX k f fd ps sp)(hr:CC k X.A)(hb:CD X.K fd ps ds)(hd:AN dvs ds)(hx:FW CX X E)(ha:PA X (e::es) t)
  (hst:starEach (e::es) X.env=(false,eval e X.env)::starEach es X.env:=by rfl) (hpl:(backTo pos (starEach es X.env)).any (·.1)=false:=by rfl)
  (ht:eval (.Call (.Attribute o m apos) (e::es) [] pos) X.env=(do
   let ov <-eval o X.env
   standAt apos.atName
   let (f,first) <-holding [ov] (getMethod ov m pl)
   callWith pos f first (backTo pos (starEach (e::es) X.env)) (backToKw pos (keywordEach [] X.env))):=by rfl) :
  PE X (.Call (.Attribute o m apos) (e::es) [] pos) (tMeth C m sp dvs E ta t):=by
 intro pins s σ H Q I h;refine PySem.W.methodCall_KW (pl:=pl) (thn (he pins s σ H _ I h) λu s1 ⟨x,H1,I1,rx,a,dx,fs,ex,ea,l,q⟩=>?_) ht;subst ex;obtain rfl:u=Value.ref a:=rx;refine RD I1 ea c hm l ?_;refine A5a (first:=[.ref a]) (h₀:=X.base) I.ok.mod.kin hm.kp (thn (ha pos pins s1 σ H1 _ I1 q) λus s2 ⟨vs,H2,I2,r,q2⟩=>⟨I2.kIn,?_⟩) hst hpl;exact Va (us:=.ref a::us) (vs:=.ref a::vs) F hr hb hd hx I2 (.cons rfl r) q2
structure Mk(K:W.Frag)(C f:Addr):Prop where
 makes:makesIn K C=true
 init:findIn K (.ref C) "__init__" = some (some (.ref f))
 fn:isFn K (.ref f)=true
 kp:keepIn K (.ref C)=true
theorem UZ{pins:List (Addr×Obj)}{σ:St}{H:Hp}{s:Shared}{Q:VK}{us:List Value}{vs:List V}(M:Mk X.K C f)(F:AO X.prog X.w X.K X.mg X.base CX k f fd ps sp)(hr:CC (k+1) X.A)(hb:CD X.K fd ps ds)(hd:AN dvs ds)
  (hx:FW CX X E) (I:Inv X pins σ H s) (r:AN vs us)
  (h:∀x dx,H x=none->H dx=none->dx≠x->sp (.ref x::(vs++dvs)) (upd (upd H dx (.own x)) x (.ins C dx [])) (λv H2=>v=.non/\Q (.ref x) H2) E) :
  wpAny (model X.prog X.w) X.A (call (.ref C) us) (EP X pins σ Q) X.xe s:=by
 have hq:=h (s.heap.objs.size+1) s.heap.objs.size (I.hok.fresh (Nat.le_succ _)) (I.hok.fresh (B1 _)) (F0 (V5 _));have I2:=Inv.made (C:=C) I;have r2:AN (V.ref (s.heap.objs.size+1)::(vs++dvs)) (Value.ref (s.heap.objs.size+1)::(us++ds)):=.cons rfl (r.append hd);have hl:(Value.ref (s.heap.objs.size+1)::us++ds).length=ps.length:=by
  have e:=r2.length;rw[F.len _ _ _ _ hq]at e;exact e.symm
 refine A8a (VM (f:=f) I.kIn M.makes M.init (beq_iff_eq.mp M.fn) (A4f (F.run _ X.stack _ _ ⟨Value.ref (s.heap.objs.size+1)::us,[]⟩ (Value.ref (s.heap.objs.size+1)::(us++ds)) _ _ E (hr.make C us [])
  (I2.env0.make C us []) (hb _ (Value.ref (s.heap.objs.size+1)::us) I2.kIn hl) r2 hq) λr s' hq'=>?_))
 cases r with
 |error e=>exact hx pins σ _ _ e s' I2 hq'
 |ok fl =>
  cases fl with
  |ret u =>
   obtain⟨v,H',I3,rv,ev,q3⟩:=I2.after hq';subst ev;exact⟨rv,⟨V.ref (s.heap.objs.size+1),H',I3,rfl,q3⟩⟩
  |next=>exact False.elim hq'
  |brk=>exact False.elim hq'
  |cont=>exact False.elim hq'
theorem Vj(M:Mk X.K C f)(F:AO X.prog X.w X.K X.mg X.base CX k f fd ps sp)(hr:CC (k+1) X.A)(hg:Gl X x)(hm:X.mg x=some (.ref C))(hb:CD X.K fd ps ds)(hd:AN dvs ds)(hx:FW CX X E)
  (hdb:(x==("__debug__" : Str))=false:=by decide):PE X (.Call (.Name x p) [] [] pos) (tMake C sp dvs E tNil):=by
 intro pins s σ H Q I h;refine A2d (Fs I hg hm ?_ hdb);exact PySem.W.callWith_K0 I.kIn M.kp (UZ (us:=[]) M F hr hb hd hx I .nil h)
end
section
variable{X:Cx}{CX:CXT}{k:Nat}{f C:Addr}{fd:FuncData}{ps ks:List Str}{sp:Sp}{E:XK}{x m:Str}{p pos apos kpos:Pos}{e o:Expr}{es:List Expr}{kws:List Keyword}{te ta:TE}{t tk:TA}{nm:Option Str}
variable{g:List Value->List Value->List Value}{gV:List V->List V->List V}
end
structure Av(N P:List Str)(sc:Scope):Prop where
 kind:sc.kind=.function
 co:sc.isCoroutine=false
 gen:sc.isGenerator=false
 nd:N.Nodup
 pre:N.take P.length=P
 par:∀x∈P,sc.names.lookup x=some .local\/sc.names.lookup x=some .cell
 nofree:∀y∈sc.names,y.2≠.free
theorem Oo{kindOf:Str->Option NameKind}{x:Str}:∀{binds:List (Str×Value)}{m:Str->Option Value},(∀v,(x,v)∉binds)->bindL kindOf binds m x=m x
 |[],_,_=>rfl
 | (n,v)::r,m,h=>by
  unfold bindL;rw[Oo λw hw=>h w (B9 _ hw)];split
  ·have:x≠n:=by rintro rfl;exact h v D3
   simp[this]
  ·rfl
theorem Oq{kindOf:Str->Option NameKind}{x:Str}:∀{binds:List (Str×Value)}{m:Str->Option Value},(∀v,(x,v)∉binds)->bindC kindOf binds m x=m x
 |[],_,_=>rfl
 | (n,v)::r,m,h=>by
  unfold bindC;rw[Oq λw hw=>h w (B9 _ hw)];split
  ·rfl
  ·have:x≠n:=by rintro rfl;exact h v D3
   simp[this]
theorem Op{kindOf:Str->Option NameKind}{x:Str}{v:Value}:∀{P:List Str}{vs:List Value}{i:Nat}{m:Str->Option Value},P.Nodup->P[i]?=some x->vs[i]?=some v->kindOf x=some .local ->
  bindL kindOf (P.zip vs) m x=some v
 |[],_,_,_,_,h,_,_=>by simp at h
 |_::_,[],_,_,_,_,h,_=>by simp at h
 |p::P,w::vs,0,m,nd,h1,h2,hk=>by
  simp at h1 h2;subst h1;subst h2;show bindL kindOf ((p,w)::P.zip vs) m p=_;unfold bindL;rw[Oo λv hv=>(N9.mp nd).1 (W6 hv).1,Z6 hk];simp
 |p::P,w::vs,i+1,m,nd,h1,h2,hk=>by
  show bindL kindOf ((p,w)::P.zip vs) m x=_;unfold bindL;exact Op (i:=i) (N9.mp nd).2 (by simpa using h1) (by simpa using h2) hk
theorem Os{kindOf:Str->Option NameKind}{x:Str}{v:Value}:∀{P:List Str}{vs:List Value}{i:Nat}{m:Str->Option Value},P.Nodup->P[i]?=some x->vs[i]?=some v->kindOf x≠some .local ->
  bindC kindOf (P.zip vs) m x=some v
 |[],_,_,_,_,h,_,_=>by simp at h
 |_::_,[],_,_,_,_,h,_=>by simp at h
 |p::P,w::vs,0,m,nd,h1,h2,hk=>by
  simp at h1 h2;subst h1;subst h2;show bindC kindOf ((p,w)::P.zip vs) m p=_;unfold bindC;rw[Oq λv hv=>(N9.mp nd).1 (W6 hv).1,Z5 hk];simp
 |p::P,w::vs,i+1,m,nd,h1,h2,hk=>by
  show bindC kindOf ((p,w)::P.zip vs) m x=_;unfold bindC;exact Os (i:=i) (N9.mp nd).2 (by simpa using h1) (by simpa using h2) hk
def FZ(N:List Str)(vs:List V):St:=vs.map some++List.replicate (N.length-vs.length) none
def Ca(CX:CXT)(P:Program)(w:World)(K:W.Frag)(mg:Str->Option Value)(base:Heap)(N:List Str)(qual:Str)(scope:Scope)(f:Addr)(cd:Value)(A:Around)(outer:List Env)(s:Shared)(H:Hp)(E:XK):Cx where
 prog:=P
 w:=w
 K:=K
 mg:=mg
 base:=base
 A:=A.deeper (envOfC qual scope s.heap.objs.size f cd)
 N:=N
 s₀:=s
 H₀:=H
 env:=envOfC qual scope s.heap.objs.size f cd
 outer:=outer
 stack:=envOfC qual scope s.heap.objs.size f cd::outer
 ex:=[]
 calm:=true
 fn:=λ_=>true
 pn:=[]
 xe:=λe s'=>wpAny (model P w) (A.deeper (envOfC qual scope s.heap.objs.size f cd)) (leaving (envOfC qual scope s.heap.objs.size f cd) e) (λ_ s''=>CX outer H s E e s'') (λe' s''=>CX outer H s E e' s'') s'
theorem QE{sc:Scope}{n:Nat}{x:Str}(h:sc.names.lookup x=some .cell):∃c,(cellsFrom n sc.names []).lookup x=some c:=by
 have q:=A6f sc.names n [] (.inl h);exact Option.isSome_iff_exists.mp q
theorem NZ{CX:CXT}{P:Program}{w:World}{K:W.Frag}{mg:Str->Option Value}{base:Heap}{N ps:List Str}{qual:Str}{scope:Scope}{f:Addr}{cd:Value}{A:Around}{outer:List Env}{s s1:Shared}{H:Hp}{E:XK}{us:List Value}{vs:List V}
  (S:Av N ps scope) (hd:A.handled=none) (e0:QP P w K mg base A outer s H) (hl:vs.length=ps.length) (r:AN vs us)
  (x:InCallC s s.heap.objs.size (bindL (envOfC qual scope s.heap.objs.size f cd).kindOf (ps.zip us) λ_=>none) (cellsFrom (s.heap.objs.size+1) scope.names []) (bindC (envOfC qual scope s.heap.objs.size f cd).kindOf (ps.zip us) λ_=>none) s1) :
  Inv (Ca CX P w K mg base N qual scope f cd A outer s H E) [] (FZ N vs) H s1:=by
 have hpl:ps.length<=N.length:=by have:=X4 List.length S.pre;rw[N6]at this;lia
 obtain⟨h1,tk,rfl,hk⟩:=x.done;have noA:∀b:Addr,b∉(Ca CX P w K mg base N qual scope f cd A outer s H E).ex:=λb z=>absurd (show b∈([]:List Addr)from z) A5;refine⟨⟨e0.mod,S.kind,rfl,rfl,B1 _,λy z c h1 h2=>?_,λy hy=>?_,λy c _ h=>?_,λ_=>hd,Around.frames_deeper e0.frames,.inr ⟨rfl,rfl⟩,λb z=>absurd z (noA b),e0.bs,e0.bsz,λb _ _=>noA b,λb z=>absurd z (noA b),e0.funs,e0.frf⟩,
  rfl,e0.bare,Un.kept hk,⟨_,x.toInCall.ns,λi y v h1 h2 h3=>?_⟩,λy c h=>⟨_,x.cell y c h⟩,e0.hok.fresh (B1 _),λy c h=>?_,λp hp=>absurd (show p∈([]:List (Addr×Obj))from hp) A5,e0.hok.kept hk,?_⟩
 ·exact name_of_addr x.apart (A0f h1) (A0f h2)
 ·have hy:scope.names.lookup y=some .cell\/scope.names.lookup y=some .free:=hy;rcases hy with hy|hy
  ·exact QE hy
  ·exact absurd rfl (S.nofree _ (A0f hy))
 ·exact N5 (x.above y c (A0f h))
 ·have hi:i<vs.length:=by
   unfold FZ at h2;by_cases hi:i<vs.length
   ·exact hi
   ·rw[J9 (by simpa using hi)]at h2;rw[V8]at h2;split at h2<;>cases h2
  have ha:vs[i]?=some v:=by
   unfold FZ at h2;rw[M7 (by simpa using hi),C1]at h2;cases e:vs[i]? with
   |none=>rw[e]at h2;cases h2
   |some a=>rw[e]at h2;cases h2;rfl
  obtain⟨u,hu,rv⟩:=r.get ha;have hp:ps[i]?=some y:=by
   rw[<-S.pre,List.getElem?_take_of_lt A0];exact h1
  have ndP:ps.Nodup:=by rw[<-S.pre];exact S.nd.sublist (List.take_sublist _ _)
  refine⟨u,rv,?_⟩;rcases S.par y (M3 hp)with k|k
  ·exact .inl ⟨k,Op ndP hp hu k⟩
  ·obtain⟨c,e⟩:=QE (n:=s.heap.objs.size+1) k;refine .inr ⟨.inl k,c,e,?_⟩;have q:=x.cell y c e;rw[Os ndP hp hu (by show scope.names.lookup y≠_;rw[k];decide)]at q;exact q
 ·exact e0.hok.fresh (N5 (x.above y c (A0f h)))
 ·unfold FZ;show _=N.length;rw[B5,B0,P4];lia
theorem fn_of{CX:CXT}{P:Program}{w:World}{K:W.Frag}{mg:Str->Option Value}{base:Heap}{k:Nat}{f:Addr}{name qual:Str}{params:Arguments}{body:List Stmt}{scope:Scope}{dV kV doc pm cdv ct oc:Value}{an od:Option Addr}
  {osl:Array (Option Value)} {N ps:List Str} {sp:Sp} (lk:K.lookup f=some ⟨oc,od,.func (PySem.W.fnOf name qual params body scope dV kV doc pm an cdv ct),osl⟩) (hcd:PySem.W.codeIn K cdv qual=true) (S:Av N ps scope)
  (len:∀vs H Q E,sp vs H Q E->vs.length=ps.length)
  (hbody:∀(A:Around)(outer:List Env)(s:Shared)(H:Hp)(vs:List V)(Q:VK)(E:XK),CC k (A.deeper (envOfC qual scope s.heap.objs.size f cdv))->sp vs H Q E ->
   ∃t,PSs (Ca CX P w K mg base N qual scope f cdv A outer s H E) body t/\t {nx:=λ_ H'=>Q .non H',rt:=Q} (FZ N vs) H) :
  AO P w K mg base CX (k+1) f (PySem.W.fnOf name qual params body scope dV kV doc pm an cdv ct) ps sp:=by
 refine⟨len,λA outer s H args us vs Q E hr e0 hb r hsp=>?_⟩;have hl:=len _ _ _ _ hsp;have KX:K.In s.heap:=e0.mod.kin.keeps λb o e=>(e0.bs b o e).1;have lim:s.heap.NoLimit:=e0.mod.nolimit.keeps λb o e=>(e0.bs b o e).1;have hkind:∀y∈ps.zip us,scope.names.lookup y.1=some .local\/(scope.names.lookup y.1=some .cell/\((cellsFrom (s.heap.objs.size+1) scope.names []).lookup y.1).isSome=true):=λ⟨n,v⟩ hy=>by
  rcases S.par n (W6 hy).1 with q|q
  ·exact .inl q
  ·exact .inr ⟨q,A6f _ _ _ (.inl q)⟩
 refine codeAny_call_function hr.depth (KX _ _ lk) rfl S.co S.gen rfl (codeRec_of KX hcd) (hb _ _ _ _ ?_);refine wpAny_newFunctionEnv_cells S.kind hkind λenv he s1 x=>?_;subst he;refine⟨lim.keeps x.toInCall.keep,codeAny_func ?_⟩;obtain⟨t,ht,hq⟩:=hbody A outer s H vs Q E (hr.deeper _) hsp;have I:Inv (Ca CX P w K mg base N qual scope f cdv A outer s H E) [] (FZ N vs) H s1:=NZ S hr.hd e0 hl r x;refine K1 (ht [] s1 (FZ N vs) H _ I hq) (λfl s' hs=>?_) λe s' hs=>hs;have fin:∀{σ':St}{H':Hp}{v:V}{u:Value},Inv (Ca CX P w K mg base N qual scope f cdv A outer s H E) [] σ' H' s'->Bb v u->Q v H'->CE outer P w H s Q u s' :=
  λ{σ' H' v u} J rv q=>⟨v,H',J.os,J.bare,J.base,J.hok,rv,q⟩
 cases fl with
 |ret u =>
  obtain⟨v,σ',H',J,rv,q⟩:=hs;exact fin J rv q
 |next =>
  obtain⟨σ',H',J,q⟩:=hs;exact fin (v:=V.non) (u:=Value.none) J rfl q
 |brk =>
  obtain⟨_,_,_,q⟩:=hs;exact False.elim q
 |cont =>
  obtain⟨_,_,_,q⟩:=hs;exact False.elim q
section
variable{X:Cx}{x:Str}{p pos:Pos}{e:Expr}{es:List Expr}{t:TA}{id T:String}{r:List V->Hp->VK->Prop}
def tCB(r:List V->Hp->VK->Prop)(t:TA):TE:=fun σ H Q=>t σ H λvs H1=>r vs H1 Q
theorem As(hc:Fb X (.builtin id) r)(hg:Gl X x)(hm:X.mg x=none)(hv:bootBuiltins x=some (.builtin id))(ha:PA X (e::es) t)(hn:x≠"__name__" := by decide)(hdb:(x==("__debug__" : Str))=false:=by decide)
  (he:starEach (e::es) X.env=(false,eval e X.env)::starEach es X.env:=by rfl) (hpl:(backTo pos (starEach es X.env)).any (·.1)=false:=by rfl):PE X (.Call (.Name x p) (e::es) [] pos) (tCB r t):=by
 intro pins s σ H Q I h;refine A2d (Jl I hg hm hv ?_ hn hdb);exact PyProof.Rows.callWith_builtin1 (thn (ha pos pins s σ H _ I h) λus s1 ⟨vs,H1,I1,r1,q1⟩=>hc pins s1 σ H1 vs us Q I1 r1 q1) he hpl
theorem Ck(hc:Fb X (.type T) r)(hg:Gl X x)(hm:X.mg x=none)(hv:bootBuiltins x=some (.type T))(ha:PA X (e::es) t)(hn:x≠"__name__" := by decide)(hdb:(x==("__debug__" : Str))=false:=by decide)
  (he:starEach (e::es) X.env=(false,eval e X.env)::starEach es X.env:=by rfl) (hpl:(backTo pos (starEach es X.env)).any (·.1)=false:=by rfl):PE X (.Call (.Name x p) (e::es) [] pos) (tCB r t):=by
 intro pins s σ H Q I h;refine A2d (Jl I hg hm hv ?_ hn hdb);exact A1a (thn (ha pos pins s σ H _ I h) λus s1 ⟨vs,H1,I1,r1,q1⟩=>hc pins s1 σ H1 vs us Q I1 r1 q1) he hpl
end
end L2
namespace HT
open PySem PyProof.Rows
section
open PySem.SeqAt
open PySem.AutoSeq1 (wpAny_loadPart')
open PySem.MeetsSeq PySem.MeetsSeq2 PySem.MeetsSeq3
end
section
variable{prog:Program}{w:World}{A:Around}{E:Value->Shared->Prop}{s:Shared}
end
end HT
namespace L2
open PySem PySem.Spec PyProof.Rows
abbrev TO:=St->Hp->(Option Int->Hp->Prop)->Prop
def PO(X:Cx)(e:Option Expr)(t:TO):Prop :=
 ∀(pins:List (Addr×Obj))(s:Shared)(σ:St)(H:Hp)(Q:Option Int->Hp->Prop),Inv X pins σ H s->t σ H Q ->
  wpAny (model X.prog X.w) X.A (evalPart e X.env) (λu s'=>∃o H',Inv X pins σ H' s'/\IsPart u o/\Q o H') X.xe s
def tNoPart:TO:=λ_ H Q=>Q none H
def tPart(t:TE):TO:=fun σ H Q=>t σ H λx H1=>∃i,x=.int i/\Q (some i) H1
section
variable{X:Cx}{e:Expr}{te:TE}{lo hi:Option Expr}{tl th:TO}{pos p2:Pos}
theorem Cr:PO X none tNoPart:=by
 intro pins s σ H Q I h;rw[evalPart_none];exact Z9 ⟨none,H,I,.none,h⟩
theorem Cp(h:PE X e te):PO X (some e) (tPart te):=by
 intro pins s σ H Q I hw;rw[evalPart_some];refine thn (h pins s σ H _ I hw) λu s1 ⟨x,H1,I1,r1,q1⟩=>?_;obtain⟨i,rfl,q⟩:=q1;obtain⟨t,rfl⟩:=r1;exact⟨some i,H1,I1,.int i t,q⟩
def SlR(X:Cx)(r:V->Option Int->Option Int->Hp->VK->Prop):Prop :=
 ∀(pins:List (Addr×Obj))(s:Shared)(σ:St)(H:Hp)(x:V)(v vl vu:Value)(lo hi:Option Int)(sl:Addr)(Q:VK),Inv X pins σ H s->Bb x v->s.heap.IsSliceOf sl vl vu .none->IsPart vl lo->IsPart vu hi->r x lo hi H Q ->
  ∃T id,typeLookup (.type T) "__getitem__" = pure (some (.builtin id))/\s.TypeIs v T/\wpAny (model X.prog X.w) X.A (getItem v (.ref sl)) (EP X pins σ Q) X.xe s
def tSl(r:V->Option Int->Option Int->Hp->VK->Prop)(te:TE)(tl th:TO):TE:=fun σ H Q=>te σ H λx H1=>tl σ H1 λl H2=>th σ H2 λu H3=>r x l u H3 Q
theorem BW{r:V->Option Int->Option Int->Hp->VK->Prop}(hr:SlR X r)(he:PE X e te)(hl:PO X lo tl)(hu:PO X hi th):PE X (.Subscript e (.Slice lo hi none p2) pos) (tSl r te tl th):=by
 intro pins s σ H Q I h;refine Subscript_ (thn (he pins s σ H _ I h) λv s1 ⟨x,H1,I1,r1,q1⟩=>?_);refine wpAny_Slice (thn (hl pins s1 σ H1 _ I1 q1) λvl s2 ⟨l,H2,I2,pl,q2⟩=>thn (hu pins s2 σ H2 _ I2 q2) λvu s3 ⟨u,H3,I3,pu,q3⟩=>?_);rw[evalPart_none];refine Z9 ?_;have I4:Inv X pins σ H3 {s3 with heap:=s3.heap.push {cls:=.type "slice",data:=.fields #[vl,vu,.none]} }:=I3.kept (t':=s3.toks) λb ob q=>B3 _ q;obtain⟨T,id,hT,ht,hg⟩:=hr pins {s3 with heap:=s3.heap.push {cls:=.type "slice",data:=.fields #[vl,vu,.none]} } σ H3 x v vl vu l u s3.heap.objs.size Q I4 r1 (Heap.IsSliceOf.new ..) pl pu q3;show wpAny (model X.prog X.w) X.A (subscriptTail e (.Slice lo hi none p2) v (.ref s3.heap.objs.size)) (EP X pins σ Q) X.xe {s3 with heap:=s3.heap.push {cls:=.type "slice",data:=.fields #[vl,vu,.none]} };exact tail_any (ops:=[.ref s3.heap.objs.size,v]) ht hT hg (by with_unfolding_all rfl)
end
def ixN(n:Nat)(i:Int):Option Nat:=if 0<=i then(if i<n then some i.toNat else none)else if -(n:Int)<=i then some (i+n).toNat else none
def atI{α:Type}(xs:List α)(i:Int):Option α:=(ixN xs.length i).bind λj=>xs[j]?
theorem ixN_seq{n:Nat}{i:Int}{j:Nat}(h:ixN n i=some j):seqIndex? i n=some j/\j<n/\-(n:Int)<=i/\i<n:=by
 unfold ixN at h;by_cases h0:0<=i
 ·rw[Z6 h0]at h;by_cases h1:i<n
  ·rw[Z6 h1]at h;have e:i.toNat=j:=X2 h;exact⟨by rw[seqIndex_of h0 h1,e],by lia,by lia,h1⟩
  ·rw[Z5 h1]at h;cases h
 ·rw[Z5 h0]at h;by_cases h1:-(n:Int)<=i
  ·rw[Z6 h1]at h;have e:(i+n).toNat=j:=X2 h;exact⟨by rw[seqIndex_neg A0 h1,e],by lia,h1,by lia⟩
  ·rw[Z5 h1]at h;cases h
theorem Pt{α:Type}{xs:List α}{i:Int}{v:α}(h:atI xs i=some v):∃j,seqIndex? i xs.length=some j/\xs[j]?=some v/\j<xs.length/\-(xs.length:Int)<=i/\i<xs.length:=by
 unfold atI at h;cases e:ixN xs.length i with
 |none=>rw[e]at h;cases h
 |some j =>
  rw[e]at h;obtain⟨h1,h2,h3,h4⟩:=ixN_seq e;exact⟨j,h1,h,h2,h3,h4⟩
theorem Ai{α:Type}{xs:List α}{j:Nat}{v:α}(h:xs[j]?=some v):atI xs (j:Int)=some v:=by
 have hj:j<xs.length:=(B8.mp h).1;have e:ixN xs.length (j:Int)=some j:=by
  unfold ixN;rw[Z6 A0,Z6 A0];simp
 unfold atI;rw[e];exact h
def PlainIx(b:Expr):Prop:=∀o i,subscripted b false o i=operate [o,i] (getItem o i)
def IxR(X:Cx)(r:R2):Prop :=
 ∀(value slice:Expr)(pins:List (Addr×Obj))(s:Shared)(σ:St)(H:Hp)(x y:V)(v u:Value)(Q:VK),Inv X pins σ H s->Bb x v->Bb y u->r x y H Q ->
  subscripted slice false v u=operate [v,u] (getItem v u)->wpAny (model X.prog X.w) X.A (subscriptTail value slice v u) (EP X pins σ Q) X.xe s
def MtR(X:Cx)(id:String)(r:V->List V->Hp->VK->Prop):Prop :=
 ∀(pins:List (Addr×Obj))(s:Shared)(σ:St)(H:Hp)(x:V)(xs:List V)(v:Value)(us:List Value)(Q:VK),Inv X pins σ H s->Bb x v->AN xs us->r x xs H Q ->
  wpAny (model X.prog X.w) X.A (call (.builtin id) (v::us)) (EP X pins σ Q) X.xe s
section
variable{X:Cx}{a b:Expr}{ta tb:TE}{pos:Pos}
theorem At{r:R2}(hr:IxR X r)(ha:PE X a ta)(hb:PE X b tb)(hs:PlainIx b):PE X (.Subscript a b pos) (tOp r ta tb):=by
 intro pins s σ H Q I h;exact Subscript_ (binT ha hb I h λv u s2 x y H2 I2 rx ry q=>hr a b pins s2 σ H2 x y v u Q I2 rx ry q (hs _ _))
def rIxL(K:W.Frag):R2:=λx y H Q=>∃p xs i v,x=.ref p/\y=.int i/\SqL K H p xs/\atI xs i=some v/\Q v H
def PV(K:W.Frag):R2:=λx y H Q=>∃p xs i v,x=.ref p/\y=.int i/\SqT K H p xs/\atI xs i=some v/\Q v H
def rIxS:R2:=λx y H Q=>∃z i c,x=.str z/\y=.int i/\z.length<=sizeLine/\atI z.cps.toList i=some c/\Q (.str ⟨#[c]⟩) H
theorem AQ:IxR X (rIxL X.K):=by
 intro value slice pins s σ H x y v u Q I rx ry h hs;obtain⟨p,xs,i,z,rfl,rfl,hq,he,q⟩:=h;cases rx;obtain⟨t,rfl⟩:=ry;obtain⟨its,r,pl,hz⟩:=I.list hq;obtain⟨j,h1,h2,h3,h4,h5⟩:=Pt he;obtain⟨w,ew,rw'⟩:=r.get h2;have hl:=r.length;have hn:=ME;have fin:EP X pins σ Q w s:=⟨z,H,I,rw',q⟩
 by_cases h0:0<=i
 ·have hj:i.toNat=j:=by
   rw[seqIndex_of h0 h5]at h1;exact X2 h1
  exact item_listR pl.isList h0 A0 (by rw[hj];simpa using ew) fin hs
 ·have hj:(i+(its.toArray.size:Int)).toNat=j:=by
   rw[seqIndex_neg A0 h4]at h1;rw[D1,<-hl];exact X2 h1
  exact subscriptTail_builtinR (x:=w) pl.isList.typeIs slot_list_getitem.lookup
   (wpAny_getItem_list_neg (Q:=λr s'=>r=w/\EP X pins σ Q r s') pl.isList A0 (by rw[D1]<;>lia) A0 (by rw[hj];simpa using ew) ⟨rfl,fin⟩) hs
theorem Az:IxR X (PV X.K):=by
 intro value slice pins s σ H x y v u Q I rx ry h hs;obtain⟨p,xs,i,z,rfl,rfl,hq,he,q⟩:=h;cases rx;obtain⟨t,rfl⟩:=ry;obtain⟨its,r,pl,hz⟩:=I.tuple hq;obtain⟨j,h1,h2,h3,h4,h5⟩:=Pt he;obtain⟨w,ew,rw'⟩:=r.get h2;have hl:=r.length;have hn:=ME;have fin:EP X pins σ Q w s:=⟨z,H,I,rw',q⟩
 exact subscriptTail_builtinR (x:=w) pl.typeIs slot_tuple_getitem.lookup
  (getItem_tuple (j:=j) (Q:=λr s'=>r=w/\EP X pins σ Q r s') pl A0 A0 (by rw[D1,<-hl];exact h1) (by simpa using ew) ⟨rfl,fin⟩) hs
theorem FU:IxR X rIxS:=by
 intro value slice pins s σ H x y v u Q I rx ry h hs;obtain⟨z,i,c,rfl,rfl,hz,he,q⟩:=h;obtain⟨t,rfl⟩:=rx;obtain⟨t',rfl⟩:=ry;obtain⟨j,h1,h2,h3,h4,h5⟩:=Pt he;have hl:z.cps.toList.length=z.length:=by simp[Str.length]
 rw[hl]at h1 h4 h5;have hn:=ME;exact tail_any (A2e s z t) slot_str_getitem.lookup (getItem_str (c:=c) (by
  have e1:decide (i < -(2^63:Int))=false:=Z4 A0;have e2:decide (i ≥ 2^63)=false:=Z4 A0;rw[e1,e2,Bool.or_false]) (by rw[h1];simpa using h2) ⟨.str ⟨#[c]⟩,H,I.tok _,⟨_,rfl⟩,q⟩) hs
def Lx:V->Bool
 |.non=>true
 |.bl _=>true
 |.int _=>true
 |.str _=>true
 |_=>false
def eqV:V->V->Bool
 |.non,.non=>true
 |.bl a,.bl b=>a==b
 |.bl a,.int b=>(if a then 1 else 0)==b
 |.int a,.bl b=>a==(if b then 1 else 0)
 |.int a,.int b=>a==b
 |.str a,.str b=>a==b
 |_,_=>false
theorem eqAt_V{A:Around}{s:Shared}{y x:V}{u v:Value}(ry:Bb y u)(rx:Bb x v)(fy:Lx y=true)(fx:Lx x=true):SeqAt.EqAt A s u v (eqV y x):=by
 cases y with
 |non =>
  cases ry;cases x with
  |non=>cases rx;exact SeqAt.EqAt.same _
  |bl b=>cases rx;exact SeqAt.EqAt.none_bool b
  |int b=>obtain⟨t,rfl⟩:=rx;exact SeqAt.EqAt.none_int b t
  |str b=>obtain⟨t,rfl⟩:=rx;exact SeqAt.EqAt.none_str b t
  |_=>exact absurd (show false=true from fx) D6
 |bl a =>
  cases ry;cases x with
  |non=>cases rx;exact SeqAt.EqAt.bool_none a
  |bl b=>cases rx;exact SeqAt.EqAt.bool_bool a b
  |int b=>obtain⟨t,rfl⟩:=rx;exact SeqAt.EqAt.bool_int a b t
  |str b=>obtain⟨t,rfl⟩:=rx;exact SeqAt.EqAt.bool_str a b t
  |_=>exact absurd (show false=true from fx) D6
 |int a =>
  obtain⟨t',rfl⟩:=ry;cases x with
  |non=>cases rx;exact SeqAt.EqAt.int_none a t'
  |bl b=>cases rx;exact SeqAt.EqAt.int_bool a t' b
  |int b=>obtain⟨t,rfl⟩:=rx;exact SeqAt.EqAt.int_int a t' b t
  |str b=>obtain⟨t,rfl⟩:=rx;exact SeqAt.EqAt.int_str a t' b t
  |_=>exact absurd (show false=true from fx) D6
 |str a =>
  obtain⟨t',rfl⟩:=ry;cases x with
  |non=>cases rx;exact SeqAt.EqAt.str_none a t'
  |bl b=>cases rx;exact SeqAt.EqAt.str_bool a t' b
  |int b=>obtain⟨t,rfl⟩:=rx;exact SeqAt.EqAt.str_int a t' b t
  |str b=>obtain⟨t,rfl⟩:=rx;exact SeqAt.EqAt.str_str a t' b t
  |_=>exact absurd (show false=true from fx) D6
 |_=>exact absurd (show false=true from fy) D6
def eqU(x:V)(u:Value):Bool:=match u with
 |.none=>eqV .non x
 |.bool b=>eqV (.bl b) x
 |.int i _=>eqV (.int i) x
 |.str z _=>eqV (.str z) x
 |_=>false
theorem Wi{x y:V}{u:Value}(r:Bb y u)(f:Lx y=true):eqU x u=eqV y x:=by
 cases y with
 |non=>cases r;rfl
 |bl b=>cases r;rfl
 |int i=>obtain⟨t,rfl⟩:=r;rfl
 |str z=>obtain⟨t,rfl⟩:=r;rfl
 |_=>exact absurd (show false=true from f) D6
theorem Qm{A:Around}{s:Shared}{x:V}{v:Value}(rx:Bb x v)(fx:Lx x=true):∀{xs:List V}{us:List Value},AN xs us->xs.all Lx=true->∀u∈us,SeqAt.EqAt A s u v (eqU x u)
 |_,_,.nil,_=>λu hu=>by cases hu
 |y::xs,u::us,.cons r t,f=>λu' hu=>by
  rw[T5,O1]at f;rcases B7.mp hu with rfl|hu
  ·rw[Wi r f.1];exact eqAt_V r rx f.1 fx
  ·exact Qm rx fx t f.2 u' hu
theorem BO:Fb X (.builtin "len") (λxs H Q=>∃p ys,xs=[.ref p]/\(SqL X.K H p ys\/SqT X.K H p ys)/\Q (.int ys.length) H):=by
 intro pins s σ H xs us Q I r h;obtain⟨p,ys,rfl,hq,q⟩:=h;obtain⟨u,rfl,rx⟩:=Mb r;cases rx;have hn:=ME;rcases hq with hq|hq
 ·obtain⟨its,r',pl,hz⟩:=I.list hq;have hlen:=r'.length;exact Calls.call_len_list pl.isList (by simp only[D1]<;>lia) ⟨.int ys.length,H,I.tok _,⟨s.toks+1,by rw[D1,hlen]⟩,q⟩
 ·obtain⟨its,r',pl,hz⟩:=I.tuple hq;have hlen:=r'.length;exact len_tuple pl (by simp only[D1]<;>lia) ⟨.int ys.length,H,I.tok _,⟨s.toks+1,by rw[D1,hlen]⟩,q⟩
theorem BN:Fb X (.builtin "len") (λxs H Q=>∃z,xs=[.str z]/\z.length<=sizeLine/\Q (.int z.length) H):=by
 intro pins s σ H xs us Q I r h;obtain⟨z,rfl,hz,q⟩:=h;obtain⟨u,rfl,t,rfl⟩:=Mb r;have hn:=ME;exact len_str A0 ⟨.int z.length,H,I.tok _,⟨_,rfl⟩,q⟩
theorem Nt:Fb X (.type "tuple") (λxs H Q=>∃p ys,xs=[.ref p]/\((SqL X.K H p ys/\∀l,H l=none->Q (.ref l) (upd H l (.tup ys)))\/(SqT X.K H p ys/\Q (.ref p) H))):=by
 intro pins s σ H xs us Q I r h;obtain⟨p,ys,rfl,h⟩:=h;obtain⟨u,rfl,rx⟩:=Mb r;cases rx;rcases h with ⟨hq,q⟩|⟨hq,q⟩
 ·obtain⟨its,r',pl,hz⟩:=I.list hq;have hlen:=r'.length;refine call_tuple_list pl.isList (λh' kp=>?_) (by simp only[D1]<;>lia);have I1:Inv X pins σ H {s with heap:=h'}:=I.kept (t':=s.toks) kp
  have I2:Inv X pins σ (upd H h'.objs.size (.tup ys)) {s with heap:=h'.push {cls:=.type "tuple",data:=.seq its.toArray} } :=
   I1.laid (t':=s.toks) (λb o e=>B3 _ e) (B1 _) (show Bh X.prog X.w _ _ _ (.tup ys)from⟨hz,its,r',IsTup.new _ _⟩)
  exact⟨.ref h'.objs.size,_,I2,rfl,q _ (I1.hok.fresh (B1 _))⟩
 ·obtain⟨its,r',pl,hz⟩:=I.tuple hq;exact call_tuple_same pl ⟨.ref p,H,I,rfl,q⟩
def tyV(K:W.Frag)(T:String)(x:V)(H:Hp):Prop:=match x with
 |.str _=>T="str"
 |.int _=>T="int"
 |.ref p=>(T="list" /\ ∃xs,SqL K H p xs)\/(T="tuple" /\ ∃o,K.lookup p=some o/\o.cls=.type "tuple" /\ o.dict=none) \/
   (T="dict" /\ ((∃kvs,H p=some (.dK kvs))\/∃kvs,H p=some (.dT kvs)))\/(T="set" /\ ∃S n,H p=some (.set S n))
 |_=>False
theorem tyV_is{pins:List (Addr×Obj)}{σ:St}{H:Hp}{s:Shared}{T:String}{x:V}{v:Value}(I:Inv X pins σ H s)(r:Bb x v)(ty:tyV X.K T x H) :
  s.TypeIs v T/\∀a,v=.ref a->∃ob,s.heap.get? a=some ob/\ob.dict=none:=by
 cases x with
 |str z =>
  obtain⟨t,rfl⟩:=r;cases(show T="str" from ty);exact⟨A2e s z t,λ_ e=>nomatch e⟩
 |int i =>
  obtain⟨t,rfl⟩:=r;cases(show T="int" from ty);exact⟨typeIs_int s i t,λ_ e=>nomatch e⟩
 |ref p =>
  cases r;rcases ty with ⟨rfl,xs,hq⟩|⟨rfl,o,hk,hc,hd⟩|⟨rfl,hk⟩|⟨rfl,S,n,hk⟩
  ·obtain⟨its,_,pl,_⟩:=I.list hq;refine⟨pl.isList.typeIs,λa e=>?_⟩;cases e;obtain⟨o,n,e,c,hd,_⟩:=pl;exact⟨o,e,hd⟩
  ·refine⟨⟨o,I.kIn p o hk,hc⟩,λa e=>?_⟩;cases e;exact⟨o,I.kIn _ o hk,hd⟩
  ·have z:∃o,s.heap.get? p=some o/\o.ExactDict:=by
    rcases hk with ⟨kvs,hk⟩|⟨kvs,hk⟩
    ·obtain⟨_,_,_,_,o,_,_,e,ex,_⟩:=I.hok p _ hk;exact⟨o,e,ex⟩
    ·obtain⟨_,_,_,_,o,_,_,e,ex,_⟩:=I.hok p _ hk;exact⟨o,e,ex⟩
   obtain⟨o,e,ex⟩:=z;refine⟨⟨o,e,ex.1⟩,λa e2=>?_⟩;cases e2;exact⟨o,e,ex.2.1⟩
  ·obtain⟨o,_,_,_,e,ex,_⟩:=I.hok p _ hk;refine⟨⟨o,e,ex.1⟩,λa e2=>?_⟩;cases e2;exact⟨o,e,ex.2.1⟩
 |_=>exact False.elim ty
def tBM(K:W.Frag)(T:String)(r:V->List V->Hp->VK->Prop)(to:TE)(t:TA):TE:=fun σ H Q=>to σ H λx H1=>tyV K T x H1/\t σ H1 λxs H2=>r x xs H2 Q
variable{o e:Expr}{es:List Expr}{to:TE}{t:TA}{name:Str}{apos cpos:Pos}{T id:String}{r:V->List V->Hp->VK->Prop}
theorem Cc(pa:PlainAttrs T)(slot:Slot T name id)(hty:typeOf (.builtin id)=pure (.type "method_descriptor"))(hm:MtR X id r)(ho:PE X o to)(ha:PA X (e::es) t)
  (hbase:attributeBase o name X.env (eval o X.env)=eval o X.env:=by rfl)
  (hfew:((backTo cpos (starEach (e::es) X.env)).all (λx=>!x.1) && (backToKw cpos (keywordEach [] X.env)).all (λx=>x.1.isSome)
   && decide ((e::es).length+([]:List Keyword).length+(if([]:List Keyword).isEmpty then 0 else 1)<30))=true:=by rfl)
  (hline:(apos.endLine==cpos.line)=true:=by rfl) (hs:starEach (e::es) X.env=(false,eval e X.env)::starEach es X.env:=by rfl) (hplain:(backTo cpos (starEach es X.env)).any (·.1)=false:=by rfl) :
  PE X (.Call (.Attribute o name apos) (e::es) [] cpos) (tBM X.K T r to t):=by
 intro pins s σ H Q I h;refine wpAny_Call_method_late hbase hfew hline rfl (thn (ho pins s σ H _ I h) λv s1 ⟨x,H1,I1,r1,ty,q1⟩=>?_);obtain⟨h1,h2⟩:=tyV_is I1 r1 ty;refine⟨T,id,pa,slot,hty,h1,h2,?_⟩;have hA:=ha cpos pins s1 σ H1 _ I1 q1;rw[hs]at hA⊢;refine A8b (by show(false || (backTo cpos (starEach es X.env)).any (·.1))=false;rw[hplain]<;>rfl) (A3d ?_);exact thn hA λus s2 ⟨vs,H2,I2,r2,q2⟩=>hm pins s2 σ H2 x vs v us Q I2 r1 r2 q2
end
def MtM(X:Cx)(id:String)(r:V->List V->Hp->VK->Prop):Prop :=
 ∀(pins:List (Addr×Obj))(s:Shared)(σ:St)(H:Hp)(x:V)(xs:List V)(v:Value)(us:List Value)(Q:VK),Inv X pins σ H s->Bb x v->AN xs us->r x xs H Q ->
  wpAny (model X.prog X.w) X.A (call (.builtin id) (v::us)) (EP X pins σ Q) X.xe s
theorem AN.one:∀{x:V}{us:List Value},AN [x] us->∃u,us=[u]/\Bb x u
 |_,_,.cons r .nil=>⟨_,rfl,r⟩
theorem AN.two:∀{x y:V}{us:List Value},AN [x,y] us->∃u v,us=[u,v]/\Bb x u/\Bb y v:=by
 intro x y us h;cases h with
 |cons r t=>cases t with
  |cons q t=>cases t;exact⟨_,_,rfl,r,q⟩
section
variable{X:Cx}{pins:List (Addr×Obj)}{σ:St}{H:Hp}{s:Shared}{l b:Addr}{xs ys zs:List V}
theorem Inv.lset{its its':List Value}{n:Nat}{f:Array Value->Array Value}{t':Nat}(I:Inv X pins σ H s)(hH:H l=some (.lst xs))
  (e:s.heap.get? l=some {cls:=.type "list",data:=.seq its.toArray n}) (hf:f its.toArray=its'.toArray) (hv:AN ys its') (hz:ys.length<=sizeLine) :
  Inv X pins σ (upd H l (.lst ys)) {s with heap:=s.heap.update l (Obj.mapSeq f),toks:=t'}:=by
 have q:=PySem.IsL.update e f;rw[hf]at q;refine I.write (x:=l) (e:=l) (by rw[hH];exact trivial) (.inl rfl) (λb' u hb hu=>(N8 s.heap (Obj.mapSeq f) (X5 hb)).trans hu) ⟨_,q⟩ ?_;exact⟨hz,its',_,hv,q⟩
theorem Inv.lnew{its:List Value}{t':Nat}(I:Inv X pins σ H s)(hv:AN ys its)(hz:ys.length<=sizeLine) :
  Inv X pins σ (upd H s.heap.objs.size (.lst ys)) {s with heap:=s.heap.push {cls:=.type "list",data:=.seq its.toArray},toks:=t'} :=
 I.laid (λ_ _ q=>B3 _ q) (B1 _) ⟨hz,its,0,hv,D4 _ rfl⟩
theorem Inv.fresh(I:Inv X pins σ H s):H s.heap.objs.size=none:=I.hok.fresh (B1 _)
theorem Inv.lstM(I:Inv X pins σ H s)(hH:H l=some (.lst xs)):xs.length<=sizeLine/\∃(its:List Value)(n:Nat),AN xs its/\xs.length=its.length/\s.heap.get? l=some {cls:=.type "list",data:=.seq its.toArray n}:=by
 obtain⟨z,its,n,r,e⟩:=I.hok l _ hH;exact⟨z,its,n,r,r.length,e⟩
end
section
variable{X:Cx}
def rAppend:V->List V->Hp->VK->Prop:=λx vs H Q=>∃l xs y,x=.ref l/\vs=[y]/\H l=some (.lst xs)/\xs.length<sizeLine/\Q .non (upd H l (.lst (xs++[y])))
theorem CJ:MtM X "list.append" rAppend:=by
 intro pins s σ H x vs v us Q I rx rv h;obtain⟨l,xs,y,rfl,rfl,hH,hz,q⟩:=h;cases rx;obtain⟨u,rfl,ru⟩:=rv.one;obtain⟨z,its,n,r,hl,e⟩:=I.lstM hH;refine A3e F.slot_list_append ⟨_,e,rfl⟩ F.entry_list_append (F.args_list_append_2 _ _) (PySem.list_append l its.toArray n u (by rw[D1];lia)) ⟨e,?_⟩;refine⟨.non,_,I.lset (its':=its++[u]) hH e A5 (r.append (.cons ru .nil)) ?_,rfl,q⟩;rw[B5,O4];lia
def rCat:R2:=λx y H Q=>∃l b xs zs,x=.ref l/\y=.ref b/\H l=some (.lst xs)/\H b=some (.lst zs)/\xs.length+zs.length<=sizeLine/\∀p,H p=none->Q (.ref p) (upd H p (.lst (xs++zs)))
theorem Lf:OpR X (binaryOp .Add) rCat:=by
 intro pins s σ H x y v u Q I rx ry h;obtain⟨l,b,xs,zs,rfl,rfl,hH,hB,hz,q⟩:=h;cases rx;cases ry;obtain⟨z,its,n,r,hl,e⟩:=I.lstM hH;obtain⟨z2,its2,n2,r2,hl2,e2⟩:=I.lstM hB;refine PySem.P.add_list e e2 ?_ (by rw[D1,D1];lia);have ea:its.toArray++its2.toArray=(its++its2).toArray:=by simp
 rw[ea];exact⟨.ref _,_,I.lnew (t':=s.toks) (r.append r2) (by rw[B5];lia),rfl,q _ I.fresh⟩
end
section
variable{prog:Program}{w:World}{A:Around}{E:Value->Shared->Prop}{s:Shared}
end
section
variable{X:Cx}
end
end L2
namespace Att
open PySem PySem.W PySem.Calls PyProof.Rows
theorem LI{P:Params}{h:Heap}:∀(ns:List Int)(vs:List Value),WellAll P h vs (ns.map WData.int)->IntsAre vs ns:=by
 intro ns;induction ns with
 |nil =>
  intro vs w;rw[List.map_nil]at w;cases w;exact .nil
 |cons n ns ih =>
  intro vs w;rw[D7]at w;cases w with
  |cons a b =>
   cases a;exact .cons _ _ (ih _ b)
theorem Tf{l:OpenLaw}{n:Nat}(hn:l.most=some n){P:Params}{h:Heap}{args:List WData}{vals:List Value}
  (hpre:l.row.toRowW.claim.pre args=true) (hwl:WellAll P h vals args) :
  ∃a vs ns,vals=[Value.ref a]/\args=[WData.list (ns.map WData.int)]/\h.get? a=some {cls:=.type "list",data:=.seq vs.toArray}/\IntsAre vs ns/\ns.length<=n:=by
 have hsh:WShape.hasAll [] args [.list .int]=true:=(pre_splitW hpre).1;have hc:l.pre.holds [] {args:=args}=true:=(pre_splitW hpre).2;obtain⟨d,r,rfl,h1,h2⟩:=hasAllW_cons hsh;obtain rfl:=hasAllW_nil h2;obtain⟨xs,rfl,h3⟩:=hasW_list h1;obtain⟨ns,rfl⟩:=items_int h3;have hlen:ns.length<=n:=by
  unfold OpenLaw.pre at hc;have h4:(WTm.not (.lt (.lit (.int (n:Int))) (.len (.arg 0)))).holds [] {args:=[.list (ns.map .int)]}=true:=by
   have h4:=(holds_andW hc).1;rw[hn]at h4;exact h4
  have h5:=condW_of h4 (w_not (w_lt w_lit (w_len_list (w_arg rfl))));rw[B0]at h5;refine O5 λq=>?_;have q':(n:Int)<((ns.length:Nat):Int):=by lia
  first
   | (rw[Z3 q']at h5;exact absurd h5 A3)
   | (simp at h5;lia)
 cases hwl with
 |cons w1 w2 =>
  cases w2;cases w1 with
  |list ho hall=>exact⟨_,_,ns,rfl,rfl,ho,LI ns _ hall,hlen⟩
theorem Tj(l:OpenLaw)(args:List WData):l.row.toRowW.claim.post args (.bool true) args=true :=
 postW_of (r:=l.row.toRowW) (X:=(true==true))
  (show WShape.has [] (.bool true) .bool=true by first|rfl|decide|simp[WShape.has,WShape.arms,WShape.armsAll])
  (show(WTm.eq .res (.lit (.bool true))).value [] {args:=args,res:=some (.bool true),after:=args}=some (.bool (true==true))from w_eq_bool (w_res rfl) w_lit) rfl
theorem QG{l:OpenLaw}{n:Nat}{q:Program}{loose:List Str}{XP:(Str->Option Value)->Heap->Prop}{YP:World->Heap->Prop}{d:DefRec}
  (hn:l.most=some n) (hdf:d.params.defaults=[])
  (call:∀(w:World)(s₀ s₁:Shared)(mg mb:Str->Option Value)(fa:Addr)(o:Obj)(pm cd doc:Value)(a:Addr)(vs:List Value)(ns:List Int),
   Ground q loose [] XP w s₀ mg mb s₁.heap->YP w s₁.heap ->
   s₁.heap.get? fa=some o->o.data=.func (docDef d.name d.params d.body d.scope pm cd doc)->s₁.heap.CodeRec cd d.name->mg d.name=some (.ref fa) ->
   s₁.heap.get? a=some {cls:=.type "list",data:=.seq vs.toArray}->IntsAre vs ns->ns.length<=n->s₁.gens=#[] ->
   codeAny (model l.prog w) callerA (.call (.ref fa) ⟨[.ref a],[]⟩) (λr s'=>r=.ok (.ret (.bool true))/\OldK s₁.heap s'.heap/\s'.os=s₁.os/\AllBare s'.gens) s₁) :
  WalkO q loose XP YP l.row.toRowW d [] (λf vs=>PySem.call f vs):=by
 intro w s₀ s₁ mg mb G Y fa o pm cd doc dV kV ho hd hcd hD hmg hg args vals as hpre hlay hrd hwl hlo;obtain rfl:dV=.none:=Dflts.none hD hdf;obtain rfl:kV=.none:=Dflts.noKw hD;obtain⟨a,vs,ns,rfl,rfl,hobj,hints,hlen⟩:=Tf hn hpre hwl;refine enter_call (A4f (call w s₀ s₁ mg mb fa o pm cd doc a vs ns G Y ho (fd_plain hd) hcd hmg hobj hints hlen hg) λr s' hq=>?_);obtain⟨rfl,h2,h3,h4⟩:=hq;exact⟨.inl ⟨.bool true,.bool true,[],rfl,λ_=>rfl,.bool true,Tj l _,λ_=>⟨List.Pairwise.nil,λ_ hm=>(nomatch hm)⟩⟩,h2,h3,h4⟩
section
variable{prog:Program}{w:World}{A:Around}{E:Value->Shared->Prop}{s:Shared}{K:Frag}
end
end Att
namespace L2
open PySem PySem.Spec PyProof.Rows
theorem NC:∀{vs:List Value}{ns:List Int},IntsAre vs ns->AN (ns.map V.int) vs
 |_,_,.nil=>.nil
 |_,_,.cons n t h=>.cons ⟨t,rfl⟩ (NC h)
def Only(H:Hp):Prop:=∀b,H b=none\/∃o xs,H b=some (.frz o (.lst xs))
theorem VQ{P:Program}{w:World}{K:W.Frag}{mg mb:Str->Option Value}{CX:CXT}{k:Nat}{fa a:Addr}{fd:FuncData}{x:Str}{sp:Sp}{s₁:Shared}{vs:List Value}{ns:List Int}
  (KX:K.In s₁.heap) (hns:s₁.heap.Ns mainGlobals mg) (hb:s₁.heap.Ns builtinsNs mb) (hbb:∀x:Str,x≠"__name__" -> mb x=bootBuiltins x) (hlim:s₁.heap.NoLimit) (hg:s₁.gens=#[])
  (ha:s₁.heap.get? a=some {cls:=.type "list",data:=.seq vs.toArray}) (hi:IntsAre vs ns) (hl:ns.length<=sizeLine) (hr:CC k callerA)
  (F:∀base:Heap,K.In base->base.Ns mainGlobals mg->AO P w K mg base CX k fa fd [x] sp) (hbind:∀(s:Shared)(u:Value),BindsTo s fd ⟨[u],[]⟩ [(x,u)])
  (hsp:∀H:Hp,Only H->SqL K H a (ns.map V.int)->sp [.ref a] H (λv _=>v=.bl true) λ_ _ _=>False)
  (hCX:∀H e s',CX [] H s₁ (λ_ _ _=>False) e s'->False) :
  codeAny (model P w) callerA (.call (.ref fa) ⟨[.ref a],[]⟩) (λr s'=>r=.ok (.ret (.bool true))/\OldK s₁.heap s'.heap/\s'.os=s₁.os/\AllBare s'.gens) s₁:=by
 have rv:=NC hi;have lenV:=hi.length;have core:∀H:Hp,Only H->SqL K H a (ns.map V.int)->HOk P w H s₁.heap->(∀b,H b≠none->b=a)->(H a≠none->K.lookup a=none) ->
   codeAny (model P w) callerA (.call (.ref fa) ⟨[.ref a],[]⟩) (λr s'=>r=.ok (.ret (.bool true))/\OldK s₁.heap s'.heap/\s'.os=s₁.os/\AllBare s'.gens) s₁:=by
  intro H hO hS hok hA hK;have base_of:∀{b:Addr}{o:Obj},s₁.heap.get? b=some o->H b=none->(Pm s₁.heap H).get? b=some o:=λe n=>VX e n;have noA:∀{b:Addr}{o:Obj}{es:Array DictEntry}{ep:Nat},s₁.heap.get? b=some o->o.data=.dict es ep->H b=none:=λ{b o es ep} e d=>by
   cases q:H b with
   |none=>rfl
   |some u =>
    have e':b=a:=hA b (by rw[q];simp);subst e';rw[ha]at e;cases e;have d':Data.seq vs.toArray _=Data.dict es ep:=d;cases d'
  have nsK:∀{b:Addr}{m:Str->Option Value},s₁.heap.Ns b m->(Pm s₁.heap H).Ns b m:=λ{b m} ⟨o,es,ep,e,d,r⟩=>⟨o,es,ep,base_of e (noA e d),d,r⟩
  have hKb:K.In (Pm s₁.heap H):=λb o e=>base_of (KX b o e) (by
   cases q:H b with
   |none=>rfl
   |some u =>
    have e':b=a:=hA b (by rw[q];simp);subst e';rw[hK (by rw[q];simp)]at e;cases e)
  have hM:Mod K mg (Pm s₁.heap H):=⟨hKb,nsK hns,⟨mb,nsK hb,hbb⟩,let ⟨mc,h1,h2⟩:=hlim;⟨mc,nsK h1,h2⟩⟩
  have e0:QP P w K mg (Pm s₁.heap H) callerA [] s₁ H:=⟨rfl,hM,λb o e=>of_hidT e,W2 (TW _ _),trivial,λb hb=>absurd (show b∈([]:List Addr)from hb) A5,hok,.of_eq hg⟩
  refine A4f ((F _ hKb (nsK hns)).run callerA [] s₁ H ⟨[.ref a],[]⟩ [.ref a] [.ref a] _ _ hr e0 (hbind s₁ (.ref a)) (.cons rfl .nil) (hsp H hO hS)) λr s' h=>?_;cases r with
  |error e=>exact(hCX H e s' h).elim
  |ok fl =>
   cases fl with
   |next=>exact False.elim h
   |brk=>exact False.elim h
   |cont=>exact False.elim h
   |ret u =>
    obtain⟨v,H',os,bare,un,hok',r',q⟩:=h;have q':v=.bl true:=q;subst q';obtain rfl:u=Value.bool true:=r';refine⟨rfl,OldK.of_keep λb o e=>?_,os,bare⟩;cases q:H b with
    |none=>exact un.keep b o e q (by intro z;exact absurd (show b∈([]:List Addr)from z) A5) A5
    |some u =>
     rcases hO b with z|⟨ob,xs,z⟩
     ·rw[q]at z;cases z
     ·have z2:=un.frzs b ob _ z;obtain⟨e1,_⟩:=hok b _ z;obtain⟨e2,_⟩:=hok' b _ z2;rw[e]at e1;cases e1;exact e2
 cases hk:K.lookup a with
 |some o =>
  have e:=KX a o hk;rw[ha]at e;cases e;refine core (λ_=>none) (λ_=>.inl rfl) (.inr ⟨_,vs.toArray,_,hk,rfl,rfl,rfl,by rw[D1,lenV];exact hl,by simpa using rv⟩) (λb u z=>by have z':(none:Option HO)=some u:=z;cases z') (λb z=>absurd rfl z) λz=>absurd rfl z
 |none =>
  refine core (λb=>if b=a then some (.frz {cls:=.type "list",data:=.seq vs.toArray} (.lst (ns.map V.int)))else none) (λb=>?_) (.inl (.inr ⟨{cls:=.type "list",data:=.seq vs.toArray},Z6 rfl⟩)) (λb u z=>?_) (λb z=>?_) λ_=>hk
  ·by_cases hb:b=a
   ·exact .inr ⟨_,_,Z6 hb⟩
   ·exact .inl (Z5 hb)
  ·by_cases hb:b=a
   ·have z':=(Z6 hb).symm.trans z;cases z';subst hb;exact⟨ha,by rw[B0];exact hl,vs,_,rv,ha⟩
   ·have z':=(Z5 hb).symm.trans z;cases z'
  ·by_cases hb:b=a
   ·exact hb
   ·exact absurd (Z5 hb) z
theorem RV{l:PySem.W.OpenLaw}{n k:Nat}{q:Program}{loose:List Str}{XP:(Str->Option Value)->Heap->Prop}{YP:World->Heap->Prop}{d:DefRec}{K:Params->W.Frag}{CX:World->CXT}{sp:World->Sp}{x:Str}
  (hn:l.most=some n) (hn2:n<=sizeLine) (hdf:d.params.defaults=[]) (hr:CC k callerA)
  (hY:∀(w:World)(h:Heap),YP w h->(K w.params).In h)
  (F:∀(w:World)(mg:Str->Option Value)(fa:Addr)(h:Heap),(K w.params).In h->h.Ns mainGlobals mg->mg d.name=some (.ref fa) ->
   ∃fd:FuncData,(∀(s:Shared)(u:Value),BindsTo s fd ⟨[u],[]⟩ [(x,u)]) /\
    ∀base:Heap,(K w.params).In base->base.Ns mainGlobals mg->AO l.prog w (K w.params) mg base (CX w) k fa fd [x] (sp w))
  (hsp:∀(w:World)(H:Hp)(a:Addr)(ns:List Int),ns.length<=n->Only H->SqL (K w.params) H a (ns.map V.int)->sp w [.ref a] H (λv _=>v=.bl true) λ_ _ _=>False)
  (hCX:∀(w:World)(H:Hp)(s:Shared)(e:Value)(s':Shared),CX w [] H s (λ_ _ _=>False) e s'->False) :
  PySem.W.WalkO q loose XP YP l.row.toRowW d [] (λf vs=>PySem.call f vs):=by
 refine Att.QG hn hdf λw s₀ s₁ mg mb fa o pm cd doc a vs ns G Y ho hd hcd hmg hobj hints hlen hg=>?_;have KX:=hY w _ Y;obtain⟨fd,hb,hF⟩:=F w mg fa _ KX G.T.g hmg;exact VQ KX G.T.g G.T.b G.T.builtins G.T.nolimit hg hobj hints (C8 hlen hn2) hr hF hb (λH hO hS=>hsp w H a ns hlen hO hS) λH e s'=>hCX w H s₁ e s'
end L2
/- THE LAST THEOREM (shape;LID,My.* are yours):
 My.Adr: a structure of the addresses that your layer names (classes,functions);My.Txt K t: a structure (Prop) of the equations over K;
 My.txt_mk:{K} {implicit addresses ..} (e1:nsIn K mainGlobals "law" = some (some (.ref f))) (e2:K.lookup f=some ⟨oc,od,.func (fnOf "law" "law" params body scope dV kV doc pm an cdv ct),sl⟩) (e3:codeIn K cdv "law" = true) ..:∃t,My.Txt K t
set_option maxRecDepth 100000 in
set_option maxHeartbeats 0 in
theorem PySem.Challenge.cw_LID_holds:PySem.Challenge.rw_LID.Holds:=by
 w_on;o_law;k_head;(case hw=>w_witness2)
 k_fill
 refine L2.RV (l:=PySem.Challenge.rw_LID) (n:=63) (k:=40) (x:="script") (CX:=λw=>..) (sp:=λ_=>My.sp_law) rfl A3 rfl ⟨rfl,by decide,by decide⟩ (λw h Y=>PySem.W.kIn_of Y) ?F ?S ?C
 case F =>
  intro w mg fa h KX G hmg;have T:∃t,My.Txt (L2.KOf KX) t:=by
   dsimp only[L2.KOf]                          
   (case e1=>PySem.W.k_is)                    
   (case e2=>PySem.W.k_is)
   ..
  obtain⟨t,T⟩:=T;have e0:=hmg.symm.trans (X1 KX G T.law);cases e0                                       
 case S=>exact λw H a ns hl hO hS=>..
 case C=>exact ..
(the tactic k_is has no namespace: write k_is) -/
namespace L2
open PySem PySem.Spec PyProof.Rows
def En(s:Stmt)(j:Nat):Stmt:=match s with
 |.ClassDef _ _ _ body _ _ _ _ _ _ _=>body.getD j (.Pass ⟨0,0,0,0⟩)
 |_=>.Pass ⟨0,0,0,0⟩
def JK(s:Stmt):Arguments:=match s with
 |.FunctionDef _ a _ _ _ _ _ _ _ _=>a
 |_=>{posonlyargs:=[],args:=[],vararg:=none,kwonlyargs:=[],kw_defaults:=[],kwarg:=none,defaults:=[]}
def Fu(s:Stmt):List Stmt:=match s with
 |.FunctionDef _ _ b _ _ _ _ _ _ _=>b
 |_=>[]
def Aj(s:Stmt):Scope:=match s with
 |.FunctionDef _ _ _ _ _ _ sc _ _ _=>sc
 |_=>{kind:=.function,names:=[],isGenerator:=false,isCoroutine:=false}
abbrev CX0:CXT:=λ_ _ _ _ _ _=>False
abbrev E0:XK:=λ_ _ _=>False
theorem Ar{X:Cx}:FW CX0 X E0:=λ_ _ _ _ _ _ _ h=>h.elim
structure Fun(K:W.Frag)(x qual:Str)(st:Stmt)(f:Addr)(fd:FuncData):Prop where
 ex:∃(oc:Value)(od:Option Addr)(kV doc pm:Value)(an:Option Addr)(cdv ct:Value)(osl:Array (Option Value)),
  fd=PySem.W.fnOf x qual (JK st) (Fu st) (Aj st) .none kV doc pm an cdv ct/\K.lookup f=some ⟨oc,od,.func fd,osl⟩/\PySem.W.codeIn K cdv qual=true
 kp:keepIn K (.ref f)=true
section
variable{P:Program}{w:World}{K:W.Frag}{mg:Str->Option Value}{base:Heap}
theorem Fun.ok{x qual:Str}{st:Stmt}{f:Addr}{fd:FuncData}{N ps:List Str}{k:Nat}{sp:Sp}(F:Fun K x qual st f fd)(S:Av N ps (Aj st))(len:∀vs H Q E,sp vs H Q E->vs.length=ps.length)
  (hbody:∀(cdv:Value)(A:Around)(outer:List Env)(s:Shared)(H:Hp)(vs:List V)(Q:VK)(E:XK),CC k (A.deeper (envOfC qual (Aj st) s.heap.objs.size f cdv))->sp vs H Q E ->
   ∃t,PSs (Ca CX0 P w K mg base N qual (Aj st) f cdv A outer s H E).nox (Fu st) t/\t {nx:=λ_ H'=>Q .non H',rt:=Q} (FZ N vs) H):AO P w K mg base CX0 (k+1) f fd ps sp:=by
 obtain⟨oc,od,kV,doc,pm,an,cdv,ct,osl,rfl,lk,hcd⟩:=F.ex;refine fn_of lk hcd S len λA outer s H vs Q E hr hsp=>?_;obtain⟨t,h,q⟩:=hbody cdv A outer s H vs Q E hr hsp;exact⟨t,h.nox,q⟩
theorem Fun.binds{x qual:Str}{st:Stmt}{f:Addr}{fd:FuncData}{ps:List Str}(F:Fun K x qual st f fd)
  (h:∀(kV doc pm:Value)(an:Option Addr)(cdv ct:Value)(us:List Value),us.length=ps.length->bindArgs (PySem.W.fnOf x qual (JK st) (Fu st) (Aj st) .none kV doc pm an cdv ct) ⟨us,[]⟩=pure (ps.zip us)):CD K fd ps []:=by
 obtain⟨oc,od,kV,doc,pm,an,cdv,ct,osl,rfl,lk,hcd⟩:=F.ex;exact .all (h kV doc pm an cdv ct)
theorem RH {x qual:Str} {st:Stmt} {f:Addr} {oc:Value} {od an:Option Addr} {osl:Array (Option Value)} {kV doc pm cdv ct:Value} (l:K.lookup f=some ⟨oc,od,.func (PySem.W.fnOf x qual (JK st) (Fu st) (Aj st) .none kV doc pm an cdv ct),osl⟩)
  (c:PySem.W.codeIn K cdv qual=true) (k:keepIn K (.ref f)=true):Fun K x qual st f (PySem.W.fnOf x qual (JK st) (Fu st) (Aj st) .none kV doc pm an cdv ct):=⟨⟨oc,od,kV,doc,pm,an,cdv,ct,osl,rfl,l,c⟩,k⟩
end
theorem MK{A:Around}{k:Nat}(hr:CC k A):A.units+1<cLine:=Nat.lt_of_le_of_lt (Nat.add_le_add_left (by decide:1<=64) _) hr.units
section
variable{X:Cx}
theorem pv(i:Nat){x:Str}{pos:Pos}(hN:X.N[i]?=some x:=by rfl)(hv:Vis X.env.scope x:=by first|exact Or.inl rfl|exact Or.inr (Or.inl rfl)|exact Or.inr (Or.inr rfl))(hd:(x==("__debug__" : Str))=false:=by decide)
  (hcd:(x==("__classdict__" : Str))=false:=by decide):PE X (.Name x pos) (PF i):=pe_var hN hv hd hcd
end
theorem AE{A B:Prop}(h:B):if false=true then A else B:=by
 rw[Z5 D6];exact h
theorem AI{A B:Prop}(h:A):if true=true then A else B:=by
 rw[Z6 rfl];exact h
theorem GH{c A B:Prop}[Decidable c](h1:c->A)(h2:¬c->B):if c then A else B:=by
 by_cases h:c
 ·rw[Z6 h];exact h1 h
 ·rw[Z5 h];exact h2 h
theorem SB{c A B:Prop}[Decidable c](hc:c)(h:B):if(!decide c)=true then A else B:=by
 rw[Z3 hc];exact AE h
def Aw(H H':Hp):Prop:=∀b o,H b=some o->H' b=some o
theorem Aw.refl(H:Hp):Aw H H:=λ_ _ h=>h
theorem Aw.trans{H H1 H2:Hp}(a:Aw H H1)(b:Aw H1 H2):Aw H H2:=λc o h=>b c o (a c o h)
theorem Aw.seq{K:W.Frag}{H H':Hp}{a:Addr}{xs:List V}(e:Aw H H')(h:SqL K H a xs):SqL K H' a xs:=by
 rcases h with (h|⟨o,h⟩)|h
 ·exact .inl (.inl (e _ _ h))
 ·exact .inl (.inr ⟨o,e _ _ h⟩)
 ·exact .inr h
structure Py(hid fs:List Addr)(h h':Heap):Prop where
 keep:∀b o,h.get? b=some o->b∉hid->h'.get? b=some o
 slot:∀b o,b∈fs->h.get? b=some o->∃sl,h'.get? b=some {o with slots:=sl}
 sub:∀b,b∈fs->b∈hid
def Ctx(d:Option Addr)(vs:Array Value):Prop:=2<vs.size/\(d=none->vs[2]?=some .none)
def Fv(d:Option Addr)(a T:Addr)(cls fl:Value)(h:Heap):Prop :=
 ∃(oe:Obj)(vs:Array Value)(oT:Obj)(ts:Array Value),h.get? a=some oe/\oe.cls=cls/\oe.data=.fields vs/\vs[1]?=some (.ref T)/\Ctx d vs/\T≠a/\h.get? T=some oT/\oT.data=.fields ts/\ts[3]?=some fl
def Pz(d:Option Addr)(a:Addr)(cls:Value)(h:Heap):Prop:=∃(oe:Obj)(vs:Array Value),h.get? a=some oe/\oe.cls=cls/\oe.data=.fields vs/\vs[1]?=some .none/\Ctx d vs
def LB(a D:Addr)(h:Heap):Prop:=∃o,h.get? a=some o/\o.cls=.ref D/\∃vs,o.data=.fields vs/\2<vs.size
theorem Fv.exc{d:Option Addr}{a T D:Addr}{fl:Value}{h:Heap}(x:Fv d a T (.ref D) fl h):LB a D h:=by
 obtain⟨oe,vs,_,_,e1,e2,e3,_,e5,_⟩:=x;exact⟨oe,e1,e2,vs,e3,e5.1⟩
def ExcD(d:Option Addr)(a:Addr)(h:Heap):Prop:=d=none->∃o vs,h.get? a=some o/\o.data=.fields vs/\vs[2]?=some .none
theorem Fv.exd{d:Option Addr}{a T:Addr}{cls fl:Value}{h:Heap}(x:Fv d a T cls fl h):ExcD d a h:=λz=>by
 obtain⟨oe,vs,_,_,e1,e2,e3,_,e5,_⟩:=x;exact⟨oe,vs,e1,e3,e5.2 z⟩
theorem LB.not{a D:Addr}{h:Heap}(x:LB a D h):∃o,h.get? a=some o/\o.cls=.ref D/\notCls o=true:=by
 obtain⟨o,e,c,vs,d,_⟩:=x;exact⟨o,e,c,by unfold notCls;rw[d]⟩
section
variable{M:Model}{A:Around}{E:Value->Shared->Prop}{s:Shared}{b0:Heap}{env:Env}{outer:List Env}{L a T:Addr}{cls fl:Value}{d:Option Addr}{Q:Unit->Shared->Prop}
theorem Oc{oe:Obj}{vs:Array Value}{head:Value}{hn:Bool}(hfr:A.frames=some (env::outer))(hl:s.heap.FunFrames b0 (env::outer))(hf:env.frame=some L)(he:s.heap.get? a=some oe)(hd:oe.data=.fields vs)(h2:Ctx d vs)
  (k:∀h' T',Fv d a T' oe.cls (rawInt L) h'->s.heap.get? T'=none->Py (a::frs (env::outer)) (frs (env::outer)) s.heap h'->Q () {s with heap:=h'}) :
  wpAny M A (do let x <-frameOf env;let pl <-entryPlaceOf L hn;let b <-EntryCells.newEntry head x .none (rawInt L) .none pl;setField (.ref a) 1 b) Q E s:=by
 refine Z2 (wpAny_frameOf_fun hfr hl hf λg hs=>Z2 (wpAny_entryPlaceOf λpl hp=>?_));unfold EntryCells.newEntry newFields;refine Z2 (A7c ?_ (hp.sizeOk5 _ _ _ _ _));have na:a∉frs (env::outer):=λz=>by
  obtain⟨_,o,ho,hn⟩:=hl.mem z;rw[he]at ho;cases ho;exact hn vs hd
 have e1:g.get? a=some oe:=(hs.2.1 a na).trans he;have sz:1<vs.size:=by
  have:=h2.1;omega
 have nT:g.objs.size≠a:=U5 (D0 e1);have gn:∀b o,s.heap.get? b=some o->∃o',g.get? b=some o':=λb o q=>by
  by_cases z:b∈frs (env::outer)
  ·obtain⟨sl,e⟩:=hs.2.2 b o q;exact⟨_,e⟩
  ·exact⟨o,(hs.2.1 b z).trans q⟩
 refine A6a (B3 _ e1) hd sz (k _ g.objs.size ⟨_,_,_,_,R0 _ (B3 _ e1) (A3b (A0e hd _)),Obj.cls_mapFields _ _,A0e hd _,?_,?_,nT,(N8 _ _ nT.symm).trans (D4 _ rfl),rfl,?_⟩ ?_ ?_)
 ·simp[sz]
 ·exact⟨by rw[Array.size_setIfInBounds];exact h2.1,λz=>by rw[Array.getElem?_setIfInBounds_ne A3];exact h2.2 z⟩
 ·first|(simp;done)|(rcases hp with rfl|⟨_,_,_,_,_,_,_,rfl⟩<;>simp)
 ·cases q:s.heap.get? g.objs.size with
  |none=>rfl
  |some o =>
   obtain⟨o',q'⟩:=gn _ _ q;exact absurd (D0 q') (P0 _)
 ·have kp:∀(x:Obj)(f:Obj->Obj) b o,g.get? b=some o->b≠a->((g.push x).update a f).get? b=some o:=λx f b o q z=>(N8 _ _ (X5 z)).trans (B3 _ q);refine⟨λb o q z=>kp _ _ b o ((hs.2.1 b λm=>z (.tail _ m)).trans q) λy=>z (y▸.head _),λb o m q=>?_,λb m=>.tail _ m⟩;obtain⟨sl,e⟩:=hs.2.2 b o q;exact⟨sl,kp _ _ b _ e λy=>na (y▸m)⟩
theorem Mt(hfr:A.frames=some (env::outer))(hl:s.heap.FunFrames b0 (env::outer))(hf:env.frame=some L)(hx:Pz d a cls s.heap\/Fv d a T cls .none s.heap)
  (k:∀h' T',Fv d a T' cls (rawInt L) h'->s.heap.get? T'=none->Py (a::T::frs (env::outer)) (frs (env::outer)) s.heap h'->Q () {s with heap:=h'}):wpAny M A (noteFrame (.ref a) env) Q E s:=by
 unfold noteFrame;simp only[hf];rcases hx with ⟨oe,vs,e1,rfl,e3,e4,e5⟩|⟨oe,vs,oT,ts,e1,rfl,e3,e4,e5,e6,e7,e8,e9⟩
 ·refine Z2 (K5 e1 e3 e4 ?_);rw[Z5 A3];refine Oc hfr hl hf e1 e3 e5 λh' T' f n nr=>k h' T' f n ⟨λb o q z=>nr.keep b o q λm=>z ?_,nr.slot,λb m=>.tail _ (.tail _ m)⟩;rcases B7.mp m with y|y
  ·exact y▸.head _
  ·exact .tail _ (.tail _ y)
 ·refine Z2 (K5 e1 e3 e4 ?_);rw[Z6 (show(Value.ref T != Value.none)=true from by simp)];refine Z2 (K5 e7 e8 e9 ?_);rw[Z5 (by simp[rawInt])];refine Z2 (A6a e7 e8 (F7.mp e9).1 ?_);have ot:∀b,b≠T->(s.heap.update T (Obj.mapFields (·.setIfInBounds 3 Value.none))).get? b=s.heap.get? b:=λb z=>N8 _ _ (X5 z);have nf:∀b o,s.heap.get? b=some o->(∀vs,o.data≠.fields vs)->b≠T:=λb o q d z=>by
   rw[z,e7]at q;cases q;exact d ts e8
  have fT:∀b,b∈frs (env::outer)->b≠T:=λb m=>by
   obtain⟨_,o,ho,d⟩:=hl.mem m;exact nf b o ho d
  refine Oc (s:={s with heap:=s.heap.update T (Obj.mapFields (·.setIfInBounds 3 Value.none))}) hfr (hl.of_keeps λb o q d=>⟨o,(ot b (nf b o q d)).trans q,rfl⟩) hf ((ot a (X5 e6)).trans e1) e3 e5 λh' T' f n nr=>k h' T' f ?_ ⟨λb o q z=>?_,λb o m q=>nr.slot b o m ((ot b (fT b m)).trans q),λb m=>.tail _ (.tail _ m)⟩
  ·by_cases z:T'=T
   ·rw[z,R0 _ e7 (A3b (A0e e8 _))]at n;cases n
   ·rw[<-ot T' z];exact n
  ·refine nr.keep b o ((ot b λy=>z (y▸.tail _ (.head _))).trans q) λm=>z ?_;rcases B7.mp m with y|y
   ·exact y▸.head _
   ·exact .tail _ (.tail _ y)
theorem Rk(hf:env.frame=some L)(hx:Fv d a T cls (rawInt L) s.heap)(k:Q () s):wpAny M A (noteFrame (.ref a) env) Q E s:=by
 obtain⟨oe,vs,oT,ts,e1,rfl,e3,e4,e5,e6,e7,e8,e9⟩:=hx;unfold noteFrame;simp only[hf];refine Z2 (K5 e1 e3 e4 ?_);rw[Z6 (show(Value.ref T != Value.none)=true from by simp)];refine Z2 (K5 e7 e8 e9 ?_);rw[Z6 A5];exact Z9 k
theorem EV {fr:Option Addr} (hx:Fv d a T cls fl s.heap) (k:∀h',Fv d a T cls (fr.elim .none λf=>rawInt f) h'->(∀b o,s.heap.get? b=some o->b≠T->h'.get? b=some o)->Q () {s with heap:=h'}):wpAny M A (setFlight (.ref a) fr) Q E s:=by
 obtain⟨oe,vs,oT,ts,e1,rfl,e3,e4,e5,e6,e7,e8,e9⟩:=hx;unfold setFlight;refine Z2 (K5 e1 e3 e4 ?_);rw[Z6 (show(Value.ref T != Value.none)=true from by simp)];have z:=(F7.mp e9).1;refine A6a e7 e8 z (k _ ⟨oe,vs,_,_,(N8 _ _ e6).trans e1,rfl,e3,e4,e5,e6,R0 _ e7 (A3b (A0e e8 _)),A0e e8 _,by simp[z]⟩ λb o q y=>(N8 _ _ (X5 y)).trans q)
theorem NV(hfr:A.frames=some (env::outer))(hl:s.heap.FunFrames b0 (env::outer))(hf:env.frame=some L)(hx:Pz d a cls s.heap\/Fv d a T cls .none s.heap)
  (k:∀h' T',Fv d a T' cls .none h'->s.heap.get? T'=none->Py (a::T::frs (env::outer)) (frs (env::outer)) s.heap h'->Q () {s with heap:=h'}):wpAny M A (leaving env (.ref a)) Q E s:=by
 unfold leaving;refine Z2 (Mt hfr hl hf hx λh1 T' f n nr=>EV (s:={s with heap:=h1}) f λh2 f2 kp=>k h2 T' f2 n ⟨λb o q z=>kp b o (nr.keep b o q z) λy=>?_,λb o m q=>?_,nr.sub⟩)
 ·rw[y,n]at q;cases q
 ·obtain⟨sl,e⟩:=nr.slot b o m q;exact⟨sl,kp b _ e λy=>by rw[y,n]at q;cases q⟩
end
theorem Bh.be{P:Program}{w:World}{H:Hp}{h:Heap}{a:Addr}{o:HO}(x:Bh P w H h a o):∃u,h.get? a=some u:=by
 cases o with
 |lst xs=>obtain⟨_,_,_,_,e⟩:=x;exact⟨_,e⟩
 |tup xs=>obtain⟨_,_,_,u,e,_⟩:=x;exact⟨u,e⟩
 |dK kvs=>obtain⟨_,_,_,_,u,_,_,e,_⟩:=x;exact⟨u,e⟩
 |dT kvs=>obtain⟨_,_,_,_,u,_,_,e,_⟩:=x;exact⟨u,e⟩
 |set S n=>obtain⟨u,_,_,_,e,_⟩:=x;exact⟨u,e⟩
 |ins C dx fs=>obtain⟨_,_,_,e,_⟩:=x;exact⟨_,e⟩
 |own y=>exact x
 |xd fs=>obtain⟨_,⟨u,_,_,e,_⟩,_⟩:=x;exact⟨u,e⟩
 |rng lo hi=>obtain⟨_,_,_,e⟩:=x;exact⟨_,e⟩
 |frz ob u=>exact⟨_,x.1⟩
 |tbl ps=>exact⟨_,x⟩
 |met f y=>exact⟨_,x⟩
 |ext φ=>exact x.2.1
theorem JI{P:Program}{w:World}{H:Hp}{h h':Heap}{hid fs:List Addr}(hok:HOk P w H h)(n:Py hid fs h h')(free:∀b,b∈hid->H b=none):HOk P w H h':=λb u q =>
 (hok b u q).stay (λc v hc r=>n.keep c v r λm=>by
  have z:=free c m;rcases hc with rfl|hc
  ·rw[q]at z;cases z
  ·rw[hc]at z;cases z) (λ_ z=>z) λ_ _ z=>z
theorem LL{gs hid fs:List Addr}{H0 H:Hp}{g h h':Heap}(u:Un gs [] H0 H g h)(n:Py hid fs h h')(out:∀b,b∈hid->b∈fs\/g.get? b=none)(inn:∀b,b∈fs->b∈gs\/g.get? b=none):Un gs [] H0 H g h' where
 keep:=λb o q m hb hx=>n.keep b o (u.keep b o q m hb hx) λz=>by
  rcases out b z with y|y
  ·rcases inn b y with y|y
   ·exact hb y
   ·rw[q]at y;cases y
  ·rw[q]at y;cases y
 slot:=λb o q m hb hx=>by
  obtain⟨sl,e⟩:=u.slot b o q m hb hx;by_cases z:b∈hid
  ·rcases out b z with y|y
   ·obtain⟨sl',e'⟩:=n.slot b _ y e;exact⟨sl',e'⟩
   ·rw[q]at y;cases y
  ·exact⟨sl,n.keep b _ e z⟩
 free:=u.free
 there:=λb o q hx=>by
  obtain⟨o',e⟩:=u.there b o q hx;by_cases z:b∈hid
  ·rcases out b z with y|y
   ·obtain⟨sl',e'⟩:=n.slot b _ y e;exact⟨_,e'⟩
   ·rw[q]at y;cases y
  ·exact⟨_,n.keep b _ e z⟩
 tups:=u.tups
 frzs:=u.frzs
 tbls:=u.tbls
abbrev FlyT(d:Option Addr)(a T:Addr)(cls:Value)(h:Heap):Prop:=Fv d a T cls .none h
def CXE(P:Program)(w:World):CXT:=λouter H s E e s' =>
 ∃(a T:Addr)(cls:Value)(d:Option Addr)(H':Hp),e=.ref a/\s'.os=s.os/\AllBare s'.gens/\Un (frs outer) [] H H' s.heap s'.heap/\HOk P w H' s'.heap /\
  FlyT d a T cls s'.heap/\s.heap.get? a=none/\s.heap.get? T=none/\H' a=none/\H' T=none/\E cls d H'
section
variable{P:Program}{w:World}{K:W.Frag}{mg:Str->Option Value}{base:Heap}{N:List Str}{qual:Str}{scope:Scope}{f:Addr}{cd:Value}{A:Around}{outer:List Env}{s:Shared}{H:Hp}{E:XK}
def WO(X:Cx)(E:XK):Prop:=∀(pins:List (Addr×Obj))(σ:St)(H:Hp)(s:Shared)(e:Addr)(cls:Value)(args:List Value)(h':Heap),Inv X pins σ H s->Heap.MadeExcOf s.heap h' e cls args->E cls none H->X.xe (.ref e) {s with heap:=h'}
theorem Inv.gk{X:Cx}{pins:List (Addr×Obj)}{σ:St}{H:Hp}{s:Shared}(I:Inv X pins σ H s)(hx:X.ex=[]):∀b o,X.s₀.heap.get? b=some o->∃o',s.heap.get? b=some o':=λb o q=>I.base.there b o q (by rw[hx];simp)
theorem Inv.gn{X:Cx}{pins:List (Addr×Obj)}{σ:St}{H:Hp}{s:Shared}(I:Inv X pins σ H s)(hx:X.ex=[]){b:Addr}(q:s.heap.get? b=none):X.s₀.heap.get? b=none:=by
 cases e:X.s₀.heap.get? b with
 |none=>rfl
 |some o =>
  obtain⟨o',e'⟩:=I.gk hx b o e;rw[q]at e';cases e'
theorem Inv.ownNew{X:Cx}{pins:List (Addr×Obj)}{σ:St}{H:Hp}{s:Shared}(I:Inv X pins σ H s):X.s₀.heap.get? X.env.locals=none:=P8 I.ok.above
theorem Inv.frsOut{X:Cx}{pins:List (Addr×Obj)}{σ:St}{H:Hp}{s:Shared}(I:Inv X pins σ H s):∀b,b∈frs X.stack->b∈frs X.outer\/X.s₀.heap.get? b=none:=λb hb=>by
 rcases B7.mp (I.stkSub b hb)with z|z
 ·right;rw[z];exact I.ownNew
 ·exact .inl z
theorem Ch:WO (Ca (CXE P w) P w K mg base N qual scope f cd A outer s H E) E:=by
 intro pins σ H1 s1 e cls args h' I hx hE;obtain⟨t,e1,_⟩:=hx.there;refine NV (s:={s1 with heap:=h'}) (T:=e) I.ok.frames (I.stack.of_keeps λb o q d=>⟨o,hx.keeps b o q,rfl⟩) rfl (.inl (show Pz none e _ _ from⟨_,_,e1,rfl,rfl,rfl,by simp,λ_=>rfl⟩)) λh2 T fl n nr=>?_;have h1:∀b o,s1.heap.get? b=some o->b≠e:=λb o q z=>by
  rw[z,hx.new]at q;cases q
 have h3:∀b o,s1.heap.get? b=some o->b≠T:=λb o q z=>by
  have:=hx.keeps b o q;rw[z,show h'.get? T=none from n]at this;cases this
 have he:∀b o,s1.heap.get? b=some o->b≠e/\b≠T:=λb o q=>⟨h1 b o q,h3 b o q⟩
 have nr':Py (frs (Ca (CXE P w) P w K mg base N qual scope f cd A outer s H E).stack) (frs (Ca (CXE P w) P w K mg base N qual scope f cd A outer s H E).stack) s1.heap h2:=⟨λb o q z=>nr.keep b o (hx.keeps b o q) λm=>by
   rcases B7.mp m with y|y
   ·exact(he b o q).1 y
   ·rcases B7.mp y with y|y
    ·exact(he b o q).1 y
    ·exact z y,λb o m q=>nr.slot b o m (hx.keeps b o q),λ_ z=>z⟩
 have hn:∀b,(∀o,s1.heap.get? b≠some o)->s.heap.get? b=none/\H1 b=none:=λb z=>⟨I.gn rfl (by
  cases q:s1.heap.get? b with
  |none=>rfl
  |some o=>exact absurd q (z o)),by
  cases q:H1 b with
  |none=>rfl
  |some u =>
   obtain⟨v,y⟩:=(I.hok b u q).be;exact absurd y (z v)⟩
 have hE1:=hn e λo q=>(he e o q).1 rfl;have hT1:=hn T λo q=>(he T o q).2 rfl;exact⟨e,T,cls,none,H1,rfl,I.os,I.bare,LL I.base nr' (λb z=>.inl z) I.frsOut,JI I.hok nr' I.stkFree,fl,hE1.1,hT1.1,hE1.2,hT1.2,hE⟩
theorem Ii:FW (CXE P w) (Ca (CXE P w) P w K mg base N qual scope f cd A outer s H E) E:=by
 intro pins σ H1 s1 e s' I h;obtain⟨a,T,cls,d,H',rfl,os,bare,un,hok,fl,na,nT,ha,hT,hE⟩:=h;have J:Inv (Ca (CXE P w) P w K mg base N qual scope f cd A outer s H E) pins σ H' s':=I.call' (ch:=[]) os un hok bare (λb z=>absurd z A5);refine NV J.ok.frames J.stack rfl (.inr fl) λh2 T2 fl2 n2 nr=>?_;have ga:=I.gn rfl na;have gT:=I.gn rfl nT;have hid:∀b,b∈a::T::frs (Ca (CXE P w) P w K mg base N qual scope f cd A outer s H E).stack->b∈frs (Ca (CXE P w) P w K mg base N qual scope f cd A outer s H E).stack\/(s.heap.get? b=none/\H' b=none):=λb z=>by
  rcases B7.mp z with rfl|z
  ·exact .inr ⟨ga,ha⟩
  ·rcases B7.mp z with rfl|z
   ·exact .inr ⟨gT,hT⟩
   ·exact .inl z
 have nT2:H' T2=none:=by
  cases q:H' T2 with
  |none=>rfl
  |some u =>
   obtain⟨v,y⟩:=(J.hok T2 u q).be;rw[n2]at y;cases y
 refine⟨a,T2,cls,d,H',rfl,J.os,J.bare,LL J.base nr (λb z=>(hid b z).imp id (·.1)) J.frsOut,JI J.hok nr (λb z=>?_),fl2,ga,J.gn rfl n2,ha,nT2,hE⟩;rcases hid b z with y|y
 ·exact J.stkFree b y
 ·exact y.2
theorem Fun.okE{x:Str}{st:Stmt}{fd:FuncData}{ps:List Str}{k:Nat}{sp:Sp}(F:Fun K x qual st f fd)(S:Av N ps (Aj st))(len:∀vs H Q E,sp vs H Q E->vs.length=ps.length)
  (hbody:∀(cdv:Value)(A:Around)(outer:List Env)(s:Shared)(H:Hp)(vs:List V)(Q:VK)(E:XK),CC k (A.deeper (envOfC qual (Aj st) s.heap.objs.size f cdv))->sp vs H Q E ->
   ∃t,PSs (Ca (CXE P w) P w K mg base N qual (Aj st) f cdv A outer s H E) (Fu st) t/\t {nx:=λ_ H'=>Q .non H',rt:=Q} (FZ N vs) H):AO P w K mg base (CXE P w) (k+1) f fd ps sp:=by
 obtain⟨oc,od,kV,doc,pm,an,cdv,ct,osl,rfl,lk,hcd⟩:=F.ex;exact fn_of lk hcd S len λA outer s H vs Q E hr hsp=>hbody cdv A outer s H vs Q E hr hsp
end
def vmro:List Value:=[.type "ValueError",.type "Exception",.type "BaseException",.type "object"]
abbrev GO(K:W.Frag)(C:Addr):Prop:=excIn K C vmro "ValueError.__new__" = true
theorem LY{K:W.Frag}{h:Heap}{C:Addr}{bmB:List Value}{newId:String}(X:K.In h)(q:excIn K C bmB newId=true) :
  ∃(bm:List Value)(N:Addr)(nm qn:Str)(bs:List Value)(hd:Bool)(sn:List Str)(sub:List Value)(ab:Bool)(col:Option Bool)(dd:Option Addr)(k0 k1 k2 k3 k5:Option Value)(mN:Str->Option Value),
   h.get? C=some (excClassObj nm qn C N bs bm hd sn sub ab col dd k0 k1 k2 k3 k5 newId)/\h.Ns N mN/\mN "__init__" = none/\OwnTail h bmB bm/\∀v,mroIn K C v=some ((Value.ref C::bm).contains v):=by
 unfold excIn at q;split at q
 case h_2=>cases q
 rename_i dd cd sl ho;split at q
 case h_2=>cases q
 rename_i C' bm k0 k1 k2 k3 n k5 hm hs;simp only[O1,A5b,Bool.not_eq_true']at q;obtain⟨⟨⟨⟨⟨q1,q2⟩,q3⟩,q4⟩,q5⟩,q6⟩:=q;subst q1 q2;have mro:∀v,mroIn K C' v=some ((Value.ref C'::bm).contains v):=λv=>by
  unfold mroIn clsIn;rw[ho];show(if cd.mro.isEmpty=true then none else some (cd.mro.contains v))=_;rw[hm];rfl
 obtain⟨nm,bs,mr,ns,qn,hd,sn,sub,ab,col,del⟩:=cd;dsimp only at hm q3 q5 q6;subst hm;subst q3;obtain⟨l⟩:=sl;dsimp only at hs;subst hs;exact⟨bm,ns,nm,qn,bs,hd,sn,sub,ab,col,dd,k0,k1,k2,k3,k5,_,X _ _ ho,.of_isNs (PySem.W.isNs_of_in X q5),PySem.W.nsMap_none_of_in X q5 q6,PySem.W.tail_of_in X q4,mro⟩
section
variable{X:Cx}{C:Addr}{x:Str}{np cpos pos:Pos}{e:Expr}{es:List Expr}{t:TA}{E:XK}
def tRaise(C:Addr)(E:XK)(t:TA):TS:=λ_ σ H=>t σ H λvs H1=>vs.length<=100/\E (.ref C) none H1
theorem BS(hx:WO X E)(hc:X.calm=true)(hg:Gl X x)(hm:X.mg x=some (.ref C))(hC:GO X.K C)(ha:PA X (e::es) t)
  (hdb:(x==("__debug__" : Str))=false:=by decide) (he:starEach (e::es) X.env=(false,eval e X.env)::starEach es X.env:=by rfl) (hpl:(backTo cpos (starEach es X.env)).any (·.1)=false:=by rfl) :
  PS X (.Raise (some (.Call (.Name x np) (e::es) [] cpos)) none pos) (tRaise C E t):=by
 intro pins s σ H D I h;obtain⟨bm,N,nm,qn,bs,hd,sn,sub,ab,col,dd,k0,k1,k2,k3,k5,mN,hO,hN,hi,hT,hM⟩:=LY I.mod.kin hC;have hbase:bm.contains (.type "BaseException")=true:=hT.hasType A3;refine wpAny_Raise_call_subU (C:=C) (nm:=nm) (q:=qn) (N:=N) (bs:=bs) (bm:=bm) (hdct:=hd) (sn:=sn) (sub:=sub) (ab:=ab) (col:=col) (dd:=dd) (k0:=k0) (k1:=k1) (k2:=k2) (k3:=k3) (k5:=k5) (newId:="ValueError.__new__") (mN:=mN)
  A2h A3 A2h hbase (I.ok.hd hc) (by rw[he];show(false || (backTo cpos (starEach es X.env)).any (·.1))=false;rw[hpl];rfl) hi (Fs I hg hm ⟨rfl,?_⟩ hdb)
 have hA:=ha cpos pins s σ H _ I h;rw[he]at hA⊢;refine A3d (thn hA λus s1 ⟨vs,H1,I1,r1,hl,q1⟩=>?_);have k:∀b o,X.base.get? b=some o->s1.heap.get? b=some o:=I1.bk;refine⟨rfl,?_,k _ _ hO,hN.keeps k,hT.keeps k,λh' e' hx'=>hx pins σ H1 s1 e' _ _ h' I1 hx' q1⟩;show us.length<=sizeLine;rw[<-r1.length];exact C8 hl A3
end
def JP(CX:CXT)(X:Cx)(E:XK)(S:St->Prop):Prop:=∀(pins:List (Addr×Obj))(σ:St)(H:Hp)(s:Shared)(e:Value)(s':Shared),S σ->Inv X pins σ H s->CX X.stack H s E e s'->X.xe e s'
def UG(S:St->Prop)(sp:Sp)(dvs:List V)(E:XK)(t:TA):TE:=fun σ H Q=>S σ/\t σ H λvs H1=>sp (vs++dvs) H1 Q E
section
variable{X:Cx}{CX:CXT}{k:Nat}{f:Addr}{fd:FuncData}{ps:List Str}{sp:Sp}{dvs:List V}{ds:List Value}{E:XK}{x:Str}{p pos:Pos}{e:Expr}{es:List Expr}{t:TA}{S:St->Prop}
theorem run_fnS{pins:List (Addr×Obj)}{σ:St}{H:Hp}{s:Shared}{Q:VK}{us:List Value}{vs:List V}(F:AO X.prog X.w X.K X.mg X.base CX k f fd ps sp)(hr:CC k X.A)(hb:CD X.K fd ps ds)(hd:AN dvs ds)(hx:JP CX X E S)
  (hS:S σ) (I:Inv X pins σ H s) (r:AN vs us) (h:sp (vs++dvs) H Q E):wpAny (model X.prog X.w) X.A (call (.ref f) us) (EP X pins σ Q) X.xe s:=by
 have r2:AN (vs++dvs) (us++ds):=r.append hd;have hl:(us++ds).length=ps.length:=r2.length.symm.trans (F.len _ _ _ _ h);refine A8a (A4f (F.run X.A X.stack s H ⟨us,[]⟩ (us++ds) (vs++dvs) Q E hr I.env0 (hb s us I.kIn hl) r2 h) ?_);intro r s' hq;rcases r with e|(_|_|_|_)
 ·exact hx pins σ H s e s' hS I hq
 all_goals first
  |exact I.after hq
  |exact hq.elim
theorem Vp(F:AO X.prog X.w X.K X.mg X.base CX k f fd ps sp)(hr:CC k X.A)(hg:Gl X x)(hm:X.mg x=some (.ref f))(hk:keepIn X.K (.ref f)=true)(hb:CD X.K fd ps ds)(hd:AN dvs ds)(hx:JP CX X E S)
  (ha:PA X (e::es) t) (hdb:(x==("__debug__" : Str))=false:=by decide) (he:starEach (e::es) X.env=(false,eval e X.env)::starEach es X.env:=by rfl) (hpl:(backTo pos (starEach es X.env)).any (·.1)=false:=by rfl) :
  PE X (.Call (.Name x p) (e::es) [] pos) (UG S sp dvs E t):=by
 intro pins s σ H Q I h;obtain⟨hS,h⟩:=h;refine A2d (Fs I hg hm ?_ hdb);refine A5a (h₀:=X.base) I.ok.mod.kin hk ?_ he hpl;exact thn (ha pos pins s σ H _ I h) λus s1 ⟨vs,H1,I1,r,q⟩=>⟨I1.kIn,run_fnS F hr hb hd hx hS I1 r q⟩
end
theorem Inv.re{X:Cx}{pins pins2 pn2:List (Addr×Obj)}{σ:St}{H:Hp}{s:Shared}{A2:Around}{c2:Bool}{xe2:Value->Shared->Prop}(I:Inv X pins σ H s)(hd:c2=true->A2.handled=none)(hf:A2.frames=X.A.frames)
  (hp:∀p,p∈pn2++pins2->p∈X.pn++pins):Inv {X with A:=A2,calm:=c2,xe:=xe2,pn:=pn2} pins2 σ H s :=
 ⟨⟨I.ok.mod,I.ok.kind,I.ok.glob,I.ok.blt,I.ok.above,I.ok.inj,I.ok.has,I.ok.cab,hd,hf.trans I.ok.frames,I.ok.stk,I.ok.exf,I.ok.bs,I.ok.bsz,I.ok.noex,I.ok.exfs,I.ok.funs,I.ok.frf⟩,
  I.os,I.bare,I.base,I.loc,I.cell,I.free,I.freeC,λp z=>I.pin p (hp p z),I.hok,I.len⟩
theorem Inv.un_re{X:Cx}{pins pins2 pn2:List (Addr×Obj)}{σ:St}{H:Hp}{s:Shared}{A2:Around}{c2:Bool}{xe2:Value->Shared->Prop}(I:Inv {X with A:=A2,calm:=c2,xe:=xe2,pn:=pn2} pins2 σ H s)(hd:X.calm=true->X.A.handled=none)
  (hf:X.A.frames=A2.frames) (hp:∀p,p∈X.pn++pins->p∈pn2++pins2):Inv X pins σ H s :=
 ⟨⟨I.ok.mod,I.ok.kind,I.ok.glob,I.ok.blt,I.ok.above,I.ok.inj,I.ok.has,I.ok.cab,hd,hf.trans I.ok.frames,I.ok.stk,I.ok.exf,I.ok.bs,I.ok.bsz,I.ok.noex,I.ok.exfs,I.ok.funs,I.ok.frf⟩,
  I.os,I.bare,I.base,I.loc,I.cell,I.free,I.freeC,λp z=>I.pin p (hp p z),I.hok,I.len⟩
theorem SP.map{X Y:Cx}{p q:List (Addr×Obj)}{D:JQ}{f:Flow}{s:Shared}(k:∀σ H,Inv X p σ H s->Inv Y q σ H s)(h:SP X p D f s):SP Y q D f s:=by
 cases f with
 |next=>obtain⟨σ',H',I,z⟩:=h;exact⟨σ',H',k _ _ I,z⟩
 |brk=>obtain⟨σ',H',I,z⟩:=h;exact⟨σ',H',k _ _ I,z⟩
 |cont=>obtain⟨σ',H',I,z⟩:=h;exact⟨σ',H',k _ _ I,z⟩
 |ret u=>obtain⟨v,σ',H',I,r,z⟩:=h;exact⟨v,σ',H',k _ _ I,r,z⟩
def JH(a D:Addr):HO:=.ext (LB a D)
theorem VW{P:Program}{w:World}{H:Hp}{h:Heap}{a D:Addr}(e:LB a D h):Bh P w H h a (JH a D):=by
 obtain⟨o,e,r⟩:=e;exact⟨⟨o,e,r⟩,⟨o,e⟩,λh1 h2 ⟨o1,e1,r1⟩ k=>⟨o1,k _ e1,r1⟩⟩
theorem Inv.track{X:Cx}{pins:List (Addr×Obj)}{σ:St}{H:Hp}{s:Shared}{a:Addr}{o:HO}(I:Inv X pins σ H s)(ha:H a=none)(h0:X.s₀.heap.get? a=none)(hb:X.base.get? a=none)(hL:X.env.locals≠a)(hc:∀x c,X.env.cells.lookup x=some c->c≠a)
  (hp:∀p,p∈X.pn++pins->p.1≠a) (hs:∀b,b∈X.fs->b≠a) (new:Bh X.prog X.w (upd H a o) s.heap a o):Inv X pins σ (upd H a o) s:=by
 have ne:∀b u,H b=some u->b≠a:=λb u q z=>by rw[z,ha]at q;cases q
 refine⟨I.ok,I.os,I.bare,⟨I.base.keep,I.base.slot,λb u q n x=>?_,I.base.there,λb xs q=>?_,λb u v q=>?_,λb ps q=>?_⟩,I.loc,I.cell,?_,λx c q=>?_,λp z=>?_,λb u q=>?_,I.len⟩
 ·rw[AD (λz=>by rw[z,h0]at q;cases q)];exact I.base.free b u q n x
 ·have z:=I.base.tups b xs q;rw[AD (ne _ _ z)];exact z
 ·have z:=I.base.frzs b u v q;rw[AD (ne _ _ z)];exact z
 ·obtain⟨m,z⟩:=I.base.tbls b ps q;exact⟨m,by rw[AD (ne _ _ z)];exact z⟩
 ·rw[AD hL];exact I.free
 ·rw[AD (hc x c q)];exact I.freeC x c q
 ·obtain⟨e,n,r⟩:=I.pin p z;exact⟨e,by rw[AD (hp p z)];exact n,r⟩
 ·by_cases z:b=a
  ·subst z;rw[Ag]at q;cases q;exact new
  ·rw[AD z]at q;exact(I.hok b u q).stay (λc v _ r=>r) (λc r=>by rw[AD (ne _ _ r)];exact r) λc xs r=>by rw[AD (ne _ _ r)];exact r
theorem Inv.gone{X:Cx}{pins:List (Addr×Obj)}{σ:St}{H:Hp}{s:Shared}{h':Heap}{n:Str}{i:Nat}{v:Option Value}{m:Str->Option Value}{tk:Nat}(I:Inv X pins σ H s)(hN:X.N.Nodup)(hi:X.N[i]?=some n)(hl:X.env.scope.names.lookup n=some .local)
  (hl0:∀(i:Nat)(x:Str)(v:V),X.N[i]?=some x->σ[i]?=some (some v)->Vis X.env.scope x->∃u,Bb v u/\Look X.env s.heap m x u) (hn':h'.Ns X.env.locals (λx=>if x=n then v else m x)) (sb:Heap.SameBut X.env.locals s.heap h'):Inv X pins (σ.set i none) H {s with heap:=h',toks:=tk}:=by
 have neL:∀b o,X.s₀.heap.get? b=some o->b≠X.env.locals:=λb o e=>F0 (F2 (D0 e) I.ok.above);refine⟨I.ok,I.os,I.bare,⟨λb o e z hb hx=>?_,λb o e z hb hx=>?_,I.base.free,λb o e hx=>?_,I.base.tups,I.base.frzs,I.base.tbls⟩,⟨_,hn',λj y v' e1 e2 e3=>?_⟩,λy c e=>?_,I.free,I.freeC,λp hp=>?_,λb u q=>?_,by simpa using I.len⟩
 ·exact(sb.2 b (neL b o e)).trans (I.base.keep b o e z hb hx)
 ·obtain⟨sl,q⟩:=I.base.slot b o e z hb hx;exact⟨sl,(sb.2 b (neL b o e)).trans q⟩
 ·obtain⟨o',q⟩:=I.base.there b o e hx;exact⟨o',(sb.2 b (neL b o e)).trans q⟩
 ·by_cases hj:j=i
  ·subst hj;rw[S3 (by rw[I.len];exact(B8.mp hi).1)]at e2;cases e2
  ·rw[Y0 (X5 hj)]at e2;obtain⟨u,r,l⟩:=hl0 j y v' e1 e2 e3;refine⟨u,r,?_⟩;have ny:y≠n:=λz=>hj (Mu hN e1 (z▸hi));rcases l with ⟨k,q⟩|⟨k,c,q,z⟩
   ·exact .inl ⟨k,by simp[ny,q]⟩
   ·exact .inr ⟨k,c,q,z.sameBut sb (I.cne y c q)⟩
 ·obtain⟨w',z⟩:=I.cell y c e;exact⟨w',z.sameBut sb (I.cne y c e)⟩
 ·obtain⟨e,z,ne,r⟩:=I.pin p hp;exact⟨(sb.2 p.1 ne).trans e,z,ne,r⟩
 ·have ne:∀c v,H c=some v->c≠X.env.locals:=λc v q z=>by rw[z,I.free]at q;cases q
  refine(I.hok b u q).stay (λc v hc r=>(sb.2 c ?_).trans r) (λ_ z=>z) λ_ _ z=>z;rcases hc with rfl|hc
  ·exact ne _ _ q
  ·exact ne _ _ hc
theorem Ua{K:W.Frag}{M:Model}{A:Around}{E:Value->Shared->Prop}{s:Shared}{e C D:Addr}{oe:Obj}{Q:Bool->Shared->Prop}(X:K.In s.heap)(hC:GO K C)(hD:GO K D)(hs:mroIn K D (.ref C)=some true)
  (he:s.heap.get? e=some oe) (hcls:oe.cls=.ref D) (hq:Q true s):wpAny M A (excMatches (.ref e) (.ref C)) Q E s:=by
 obtain⟨h,g,d,t,os⟩:=s;obtain⟨bm,N,nm,qn,bs,hd,sn,sub,ab,col,dd,k0,k1,k2,k3,k5,mN,hO,hN,hi,hT,hM⟩:=LY X hD;have hbase:bm.contains (.type "BaseException")=true:=hT.hasType A3;by_cases z:D=C
 ·subst z;exact wpAny_excMatches_sub_self hO he hcls hbase hq
 ·obtain⟨bm',N',nm',qn',bs',hd',sn',sub',ab',col',dd',k0',k1',k2',k3',k5',mN',hO',hN',hi',hT',hM'⟩:=LY X hC;have hcB:(Value.ref C::bm').contains (.type "BaseException")=true:=by rw[List.contains_cons,hT'.hasType (X:="BaseException") (b:=true) A3,Bool.or_true]
  have hcC:(Value.ref D::bm).contains (.ref C)=true:=X2 ((hM (.ref C)).symm.trans hs);have f:=tc_notTuple;unfold excMatches
  repeat (first
   | (with_reducible refine A7d he ?_;rw[hcls])
   |with_reducible refine A7d hO' ?_
   | (with_reducible refine A8h hO' ?_;rw[hcB])
   | (with_reducible refine A8h hO ?_;rw[hcC])
   |wp_step)
  exact hq
section
variable{X:Cx}{C:Addr}{x n:Str}{np hpos pos:Pos}{i:Nat}{b₀:Stmt}{suite body:List Stmt}{S:St->Prop}{tb:XK->TS}{th:TS}
theorem land{pins pins':List (Addr×Obj)}{σ:St}{H1:Hp}{s1 s':Shared}{e:Value}{E1:XK}{Q:Flow->Shared->Prop}{nm:Option Str}{xe1:Value->Shared->Prop}
  (hstk:X.stack=X.env::X.outer) (hfr:X.env.frame=some X.env.locals) (hex:X.ex=[]) (hg:Gl X x) (hm:X.mg x=some (.ref C)) (hC:GO X.K C) (hcalm:X.calm=true)
  (hE1:∀cls d H',E1 cls d H'->∃D,cls=.ref D/\GO X.K D/\mroIn X.K D (.ref C)=some true)
  (J0:Inv {X with xe:=xe1,pn:=X.pn++pins} pins' σ H1 s1) (hcx:CXE X.prog X.w X.stack H1 s1 E1 e s')
  (go:∀(a D:Addr)(H':Hp)(s2:Shared)(d:Option Addr),e=.ref a->E1 (.ref D) d H'->H' a=none->LB a D s2.heap->X.s₀.heap.get? a=none->X.base.get? a=none->X.env.locals≠a->(∀x c,X.env.cells.lookup x=some c->c≠a) ->
   (∀p,p∈X.pn++pins->p.1≠a)->(∀b,b∈X.fs->b≠a)->Inv X pins σ H' s2 ->
   (∀(Q':Unit->Shared->Prop)(E':Value->Shared->Prop),(∀s3,Inv X pins σ H' s3->LB a D s3.heap->ExcD d a s3.heap->Q' () s3)->wpAny (model X.prog X.w) (X.A.mark (some (.ref a))) (setFlight (.ref a) none) Q' E' s2) ->
   codeAny (model X.prog X.w) (X.A.mark (some (.ref a))) (.handlers (.ref a) [.ExceptHandler none nm (b₀::suite) hpos] X.env) (λr s₂=>match r with
     |.ok f=>(match nm with
      |none=>Q f s₂
      |some n=>wpAny (model X.prog X.w) X.A (do bindName X.env n .none;unbindBehindTheSuite X.env n hpos) (λ_ s₃=>Q f s₃) X.xe s₂)
     |.error x=>cameBackBy (model X.prog X.w) X.A X.env X.xe x s₂) s2)
  (hdb:(x==("__debug__" : Str))=false:=by decide) :
  wpAny (model X.prog X.w) X.A (noteFrame e X.env) (λ_ s₂=>wpAny (model X.prog X.w) X.A (setFlight e none) (λ_ s₃=>wpAny (model X.prog X.w) X.A (handleBy e X.env [.ExceptHandler (some (.Name x np)) nm (b₀::suite) hpos]) Q X.xe s₃) X.xe s₂) X.xe s':=by
 obtain⟨a,T,cls,d,H',rfl,os,bare,un,hok,fl,na,nT,ha,hT,hE⟩:=hcx;obtain⟨D,rfl,hD,hDC⟩:=hE1 _ _ _ hE;have hpin:∀p,p∈X.pn++pins->p.1≠a:=λp hp z=>by
  have q:=(J0.pin p (M6 _ hp)).1;rw[z,na]at q;cases q
 have I0:Inv X pins σ H1 s1:=J0.un_re J0.ok.hd rfl (λp hp=>M6 _ hp);have J:Inv X pins σ H' s':=I0.call' (ch:=[]) os un hok bare (λb z=>absurd z A5);have fr:=J.stack;have sub:∀b,b∈frs X.stack->b∈a::T::frs X.stack:=λb z=>.tail _ (.tail _ z);have hf2:X.A.frames=some (X.env::X.outer):=J.ok.frames.trans (by rw[hstk]);have free:∀b,b∈a::T::frs X.stack->H' b=none:=λb z=>by
  rcases B7.mp z with rfl|z
  ·exact ha
  ·rcases B7.mp z with rfl|z
   ·exact hT
   ·exact J.stkFree b z
 have g0:∀{b},s1.heap.get? b=none->X.s₀.heap.get? b=none:=λq=>I0.gn hex q;have out:∀b,b∈a::T::frs X.stack->b∈frs X.stack\/X.s₀.heap.get? b=none:=λb z=>by
  rcases B7.mp z with rfl|z
  ·exact .inr (g0 na)
  ·rcases B7.mp z with rfl|z
   ·exact .inr (g0 nT)
   ·exact .inl z
 have out1:∀b,b∈a::T::frs X.stack->b∈frs X.stack\/s1.heap.get? b=none:=λb z=>by
  rcases B7.mp z with rfl|z
  ·exact .inr na
  ·rcases B7.mp z with rfl|z
   ·exact .inr nT
   ·exact .inl z
 have over:∀h2,Py (a::T::frs X.stack) (frs X.stack) s'.heap h2->Inv X pins σ H' {s' with heap:=h2}:=λh2 nr =>
  I0.call' (s':={s' with heap:=h2}) (ch:=[]) os (LL un nr out1 λb z=>.inl z) (JI hok nr free) bare (λb z=>absurd z A5)
 have fr':=fr;rw[hstk]at fr';have efs:frs X.stack=frs (X.env::X.outer):=by rw[hstk]
 refine Mt hf2 fr' hfr (.inr fl) λh4 T4 fl4 n4 nr4=>?_;rw[<-efs]at nr4;have kn:∀{h2},(∀b o,h4.get? b=some o->b≠T4->h2.get? b=some o)->Py (a::T::frs X.stack) (frs X.stack) s'.heap h2:=λkp=>by
  have ne:∀b o,s'.heap.get? b=some o->b≠T4:=λb o q y=>by
   rw[y,n4]at q;cases q
  refine⟨λb o q z=>kp b o (nr4.keep b o q z) (ne b o q),λb o m q=>?_,nr4.sub⟩;obtain⟨sl,e⟩:=nr4.slot b o m q;exact⟨sl,kp b _ e (ne b o q)⟩
 refine EV (s:={s' with heap:=h4}) fl4 λh5 fw5 kp5=>?_;have J5:=over h5 (kn kp5);obtain⟨oe5,_,_,_,q5,c5,_⟩:=id fw5;have M5:Inv {X with A:=X.A.mark (some (.ref a)),calm:=false,xe:=λ_ _=>False,pn:=X.pn} pins σ H' {s' with heap:=h5}:=J5.re (λz=>nomatch z) rfl (λ_ z=>z);refine wpAny_handleBy_cons (codeAny_handlers_test (Fs (X:={X with A:=X.A.mark (some (.ref a)),calm:=false,xe:=λ_ _=>False,pn:=X.pn}) M5 hg hm ?_ hdb)) (by intro q;cases q);refine Ua M5.kIn hC hD hDC q5 c5 ?_;have nL:∀{b o},s1.heap.get? b=some o->b≠a:=λq z=>by rw[z,na]at q;cases q
 refine go a D H' {s' with heap:=h5} d rfl hE ha fw5.exc (g0 na) ?_ ?_ ?_ hpin ?_ J5 ?_
 ·cases q:X.base.get? a with
  |none=>rfl
  |some o =>
   have:=I0.bk a o q;rw[na]at this;cases this
 ·obtain⟨m,⟨o,_,_,q,_⟩,_⟩:=I0.loc;exact nL q
 ·intro y c q;obtain⟨v,o,ho,_⟩:=I0.cell y c q;exact nL ho
 ·intro b hb;obtain⟨_,o,ho,_⟩:=I0.funs.mem hb;exact nL ho
 ·intro Q' E' hk;refine EV (s:={s' with heap:=h5}) fw5 λh6 fw6 kp6=>hk _ (over h6 (kn λb o q y=>kp6 b o (kp5 b o q y) y)) fw6.exc fw6.exd
abbrev NG(X:Cx)(pins:List (Addr×Obj))(D:JQ)(hs:List ExceptHandler):Value->Shared->Prop:=λe s₁ =>
 wpAny (model X.prog X.w) X.A (noteFrame e X.env) (λ_ s₂=>wpAny (model X.prog X.w) X.A (setFlight e none) (λ_ s₃=>wpAny (model X.prog X.w) X.A (handleBy e X.env hs) (SP X pins D) X.xe s₃) X.xe s₂) X.xe s₁
def tTryAsH(K:W.Frag)(C:Addr)(i:Nat)(S:St->Prop)(tb:XK->TS)(th:Addr->TS):TS:=λD σ H =>
 tb (λcls _ H'=>∃D',cls=.ref D'/\GO K D'/\mroIn K D' (.ref C)=some true/\∀σ' a,S σ'->H' a=none ->
  th a {nx:=fun σ2 H2=>D.nx (σ2.set i none) H2,rt:=D.rt,bk:=fun σ2 H2=>D.bk (σ2.set i none) H2,ct:=fun σ2 H2=>D.ct (σ2.set i none) H2} (σ'.set i (some (.ref a))) (upd H' a (JH a D'))) D σ H
theorem NO{th:Addr->TS}(hstk:X.stack=X.env::X.outer)(hfr:X.env.frame=some X.env.locals)(hex:X.ex=[])(hcalm:X.calm=true)(hg:Gl X x)(hm:X.mg x=some (.ref C))(hC:GO X.K C)(hN:X.N.Nodup)(hi:X.N[i]?=some n)(hl:X.env.scope.names.lookup n=some .local)
  (hb:∀(xe:Value->Shared->Prop)(pn:List (Addr×Obj))(E1:XK),JP (CXE X.prog X.w) {X with xe:=xe,pn:=pn} E1 S->PSs {X with xe:=xe,pn:=pn} body (tb E1))
  (hth:∀(a:Addr),PSs {X with A:=X.A.mark (some (.ref a)),calm:=false,xe:=λ_ _=>False,pn:=X.pn} (b₀::suite) (th a)) (hdb:(x==("__debug__" : Str))=false:=by decide) :
  PS X (.Try body [.ExceptHandler (some (.Name x np)) (some n) (b₀::suite) hpos] [] [] pos) (tTryAsH X.K C i S tb th):=by
 intro pins s σ H D I h;refine wpAny_Try_except ?_;have I1:Inv {X with xe:=NG X pins D [.ExceptHandler (some (.Name x np)) (some n) (b₀::suite) hpos],pn:=X.pn++pins} [] σ H s :=
  I.re I.ok.hd rfl (λp z=>by simpa using z)
 refine K1 (hb (NG X pins D [.ExceptHandler (some (.Name x np)) (some n) (b₀::suite) hpos]) (X.pn++pins) _ ?pass [] s σ H D I1 h) (λf s1 q=>?_) (λe s1 q=>q)
 case pass =>
  intro pins' σ' H1 s1 e s' hS J hcx;refine land (pins:=pins) hstk hfr hex hg hm hC hcalm (λcls d H' ⟨D',z,a,b,_⟩=>⟨D',z,a,b⟩) J hcx (λa D' H' s2 _ _ hE ha ho g0 gb nL nC nP nF J5 hset=>?_) hdb;obtain⟨D2,z,_,_,k⟩:=hE;cases z;refine codeAny_handlers_suite_as (hset _ _ λs3 J3 L3 _=>?_);have J4:=J3.track (o:=JH a D') ha g0 gb nL nC nP nF (VW L3);refine Mg J4 hN hi (.inl hl) (v:=.ref a) rfl (λs4 K4=>?_) (.inr hl);have J6:Inv {X with A:=X.A.mark (some (.ref a)),calm:=false,xe:=λ_ _=>False,pn:=X.pn} pins (σ'.set i (some (.ref a))) (upd H' a (JH a D')) s4:=K4.re (λz=>nomatch z) rfl (λ_ z=>z);refine K1 (hth a pins s4 _ _ _ J6 (k σ' a hS ha)) (λf s5 q=>?_) (λ_ _ z=>z.elim);have gone:∀{σ5:St}{H5:Hp},Inv {X with A:=X.A.mark (some (.ref a)),calm:=false,xe:=λ_ _=>False,pn:=X.pn} pins σ5 H5 s5->∀{Q:Unit->Shared->Prop},(∀s6,Inv X pins (σ5.set i none) H5 s6->Q () s6) ->
    wpAny (model X.prog X.w) X.A (do bindName X.env n .none;unbindBehindTheSuite X.env n hpos) Q X.xe s5:=λ{σ5 H5} J7 Q hq=>by
   have J8:Inv X pins σ5 H5 s5:=J7.un_re J3.ok.hd rfl (λ_ z=>z);obtain⟨m,hn,hl0⟩:=id J8.loc;exact wpAny_nameGoes_keeps hl hn (by rw[J8.ok.kind];rfl) λh' v hn' sb=>hq _ (J8.gone hN hi hl hl0 hn' sb)
  cases f with
  |next=>obtain⟨σ5,H5,J7,q⟩:=q;exact gone J7 λs6 J8=>⟨_,H5,J8,q⟩
  |brk=>obtain⟨σ5,H5,J7,q⟩:=q;exact gone J7 λs6 J8=>⟨_,H5,J8,q⟩
  |cont=>obtain⟨σ5,H5,J7,q⟩:=q;exact gone J7 λs6 J8=>⟨_,H5,J8,q⟩
  |ret u=>obtain⟨v,σ5,H5,J7,r,q⟩:=q;exact gone J7 λs6 J8=>⟨v,_,H5,J8,r,q⟩
 have back:∀σ H,Inv {X with xe:=NG X pins D [.ExceptHandler (some (.Name x np)) (some n) (b₀::suite) hpos],pn:=X.pn++pins} [] σ H s1->Inv X pins σ H s1 :=
  fun σ H J=>J.un_re J.ok.hd rfl (λp z=>by simpa using z)
 cases f with
 |next=>exact A4a (q.map back)
 |brk=>exact q.map back
 |cont=>exact q.map back
 |ret u=>exact q.map back
end
structure QL(k:Nat)(A:Around):Prop where
 dp:A.depth+3*k+5<recursionLimit
 un:A.units+16*k+200<cLine
theorem CC.marked{k:Nat}{A:Around}(r:CC k A)(e:Option Value):QL k (A.mark e):=⟨r.dp,r.un⟩
structure SY(P:Program)(w:World)(K:W.Frag)(mg:Str->Option Value)(base:Heap)(k:Nat)(f:Addr)(fd:FuncData)(ps:List Str)(sp:Sp):Prop where
 len:∀vs H Q E,sp vs H Q E->vs.length=ps.length
 run:∀(A:Around)(outer:List Env)(s:Shared)(H:Hp)(args:Args)(us:List Value)(vs:List V)(Q:VK),QL k A->QP P w K mg base A outer s H->BindsTo s fd args (ps.zip us)->AN vs us->sp vs H Q E0 ->
  codeAny (model P w) A (.call (.ref f) args) (CR CX0 outer P w H s Q E0) s
section
variable{P:Program}{w:World}{K:W.Frag}{mg:Str->Option Value}{base:Heap}
theorem Fun.okH{x qual:Str}{st:Stmt}{f:Addr}{fd:FuncData}{N ps:List Str}{k:Nat}{sp:Sp}(F:Fun K x qual st f fd)(S:Av N ps (Aj st))(len:∀vs H Q E,sp vs H Q E->vs.length=ps.length)
  (hbody:∀(cdv:Value)(A:Around)(outer:List Env)(s:Shared)(H:Hp)(vs:List V)(Q:VK),QL k (A.deeper (envOfC qual (Aj st) s.heap.objs.size f cdv))->sp vs H Q E0 ->
   ∃t,PSs {Ca CX0 P w K mg base N qual (Aj st) f cdv A outer s H E0 with calm:=false,xe:=λ_ _=>False} (Fu st) t/\t {nx:=λ_ H'=>Q .non H',rt:=Q} (FZ N vs) H):SY P w K mg base (k+1) f fd ps sp:=by
 obtain⟨oc,od,kV,doc,pm,an,cdv,ct,osl,rfl,lk,hcd⟩:=F.ex;refine⟨len,λA outer s H args us vs Q hr e0 hb r hsp=>?_⟩;have hl:=len _ _ _ _ hsp;have KX:K.In s.heap:=e0.mod.kin.keeps λb o e=>(e0.bs b o e).1;have lim:s.heap.NoLimit:=e0.mod.nolimit.keeps λb o e=>(e0.bs b o e).1;refine codeAny_call_function (by have:=hr.dp;lia) (KX _ _ lk) rfl S.co S.gen rfl (codeRec_of KX hcd) (hb _ _ _ _ ?_);refine wpAny_newFunctionEnv_cells S.kind (λ⟨y,v⟩ hy=>?_) λenv he s1 z=>?_
 ·rcases S.par y (W6 hy).1 with q|q
  ·exact .inl q
  ·exact .inr ⟨q,A6f _ _ _ (.inl q)⟩
 subst he;refine⟨lim.keeps z.toInCall.keep,codeAny_func ?_⟩;obtain⟨t,ht,hq⟩:=hbody cdv A outer s H vs Q ⟨by have:=hr.dp;show A.depth+1+3*k+5<_;lia,by have:=hr.un;show A.units+3+16*k+200<_;lia⟩ hsp;have I:Inv (Ca CX0 P w K mg base N qual (Aj st) f cdv {A with handled:=none} outer s H E0) [] (FZ N vs) H s1:=NZ S rfl ⟨e0.frames,e0.mod,e0.bs,e0.bsz,e0.funs,e0.frf,e0.hok,e0.bare⟩ hl r z;have J:Inv {Ca CX0 P w K mg base N qual (Aj st) f cdv A outer s H E0 with calm:=false,xe:=λ_ _=>False} [] (FZ N vs) H s1:=I.re (A2:=A.deeper (envOfC qual (Aj st) s.heap.objs.size f cdv)) (c2:=false) (λz=>nomatch z) rfl (λ_ z=>z);refine K1 (ht [] s1 (FZ N vs) H _ J hq) (λfl s' hs=>?_) λ_ _ z=>z.elim;cases fl with
 |ret u =>
  obtain⟨v,σ',H',J,rv,q⟩:=hs;exact⟨v,H',J.os,J.bare,J.base,J.hok,rv,q⟩
 |next =>
  obtain⟨σ',H',J,q⟩:=hs;exact⟨.non,H',J.os,J.bare,J.base,J.hok,rfl,q⟩
 |brk=>obtain⟨_,_,_,q⟩:=hs;exact q.elim
 |cont=>obtain⟨_,_,_,q⟩:=hs;exact q.elim
end
section
variable{X:Cx}{k:Nat}{f:Addr}{fd:FuncData}{ps:List Str}{sp:Sp}{x:Str}{p pos:Pos}{e:Expr}{es:List Expr}{t:TA}
theorem Vq(F:SY X.prog X.w X.K X.mg X.base k f fd ps sp)(hr:QL k X.A)(hg:Gl X x)(hm:X.mg x=some (.ref f))(hk:keepIn X.K (.ref f)=true)(hb:CD X.K fd ps [])
  (ha:PA X (e::es) t) (hdb:(x==("__debug__" : Str))=false:=by decide) (he:starEach (e::es) X.env=(false,eval e X.env)::starEach es X.env:=by rfl) (hpl:(backTo pos (starEach es X.env)).any (·.1)=false:=by rfl) :
  PE X (.Call (.Name x p) (e::es) [] pos) (Sd sp [] E0 t):=by
 intro pins s σ H Q I h;refine A2d (Fs I hg hm ?_ hdb);refine A5a (h₀:=X.base) I.ok.mod.kin hk ?_ he hpl;refine thn (ha pos pins s σ H _ I h) λus s1 ⟨vs,H1,I1,r,q⟩=>⟨I1.kIn,?_⟩
 have q:sp (vs++[]) H1 Q E0:=q;rw[N4]at q;have hl:us.length=ps.length:=r.length.symm.trans (F.len _ _ _ _ q);have hb1:=hb s1 us I1.kIn (by rw[N4];exact hl);rw[N4]at hb1;refine A8a (A4f (F.run X.A X.stack s1 H1 ⟨us,[]⟩ us vs Q hr I1.env0 hb1 r q) ?_);intro r s' hq;rcases r with e|(_|_|_|_)
 all_goals first
  |exact I1.after hq
  |exact hq.elim
end
section
variable{X:Cx}{tg:Expr}
def Its(x:Str):It:=⟨λi _=>i<x.cps.size,λi H v H'=>H'=H/\∃c,x.cps[i]?=some c/\v=.str ⟨#[c]⟩,λi _=>i=x.cps.size⟩
theorem PD{P:Program}{w:World}{K:W.Frag}(it:Addr)(x:Str)(t:Tok)(T:String)(hn:["enumerate","zip","dict_itemiterator","dict_reverseitemiterator","odict_iterator","itertools.zip_longest","itertools.pairwise"].contains T=false)
  (W:∀A:Around,A.handled=none->Walks P w A it [it] [it] x.cps.size (SignAt x) (λi h=>h.IsStrIter it T x t i))
  (hself:∀(A:Around)(i:Nat)(s:Shared)(Q:Value->Shared->Prop)(E:Value->Shared->Prop),s.heap.IsStrIter it T x t i->Q (.ref it) s->wpAny (model P w) A (pyIter (.ref it)) Q E s):Px P w K tg (Its x) [it] it (λi h=>h.IsStrIter it T x t i) where
 mem:=by simp
 obj:=λi h st b hb=>by
  have e:b=it:=by simpa using hb
  subst e;obtain⟨o,e,c,d⟩:=st;exact⟨o,e,λv z=>by rw[d]at z;cases z⟩
 keep:=λi h h' ⟨o,e,r⟩ k=>⟨o,k it A5 o e,r⟩
 item:=by
  intro X hP hw hK hc i pins s σ H E I hf st hg;subst hP hw hK;obtain⟨f0,f1,f2,f3,f4,f5⟩:=hf it A5;refine(W X.A (I.ok.hd hc)).item i s _ _ hg st λv h' tk hv st' kk=>?_;obtain⟨c,u,hc',rfl⟩:=hv;have I1:Inv X pins σ H {s with heap:=h',toks:=tk}:=I.turned (λb o hb e=>kk b o (by simpa using hb) e) f0 f1 f3 f4 f5;obtain⟨o,e,oc,od⟩:=id st';exact⟨_,rfl,SE (s:={s with heap:=h',toks:=tk}) e oc od hn ⟨.str ⟨#[c]⟩,H,I1,⟨u,rfl⟩,⟨rfl,c,hc',rfl⟩,st',λb hb=>(hf b hb).1⟩⟩
 done:=by
  intro X hP hw hK hc i pins s σ H E I hf st hg;subst hP hw hK;obtain⟨f0,f1,f2,f3,f4,f5⟩:=hf it A5;have z:i=x.cps.size:=hg;subst z;exact(W X.A (I.ok.hd hc)).done s _ _ st λh' tk kk=>⟨rfl,I.turned (λb o hb e=>kk b o (by simpa using hb) e) f0 f1 f3 f4 f5⟩
 self:=hself
def iStr(tl:TE):TI:=fun σ H R=>tl σ H λv H1=>∃x,v=.str x/\R (Its x) H1
theorem OL{l:Expr}{tl:TE}(hl:PE X l tl):PI X tg l (iStr tl):=by
 intro pins s σ H R I h;refine thn (hl pins s σ H _ I h) λv s1 ⟨y,H1,I1,r1,q1⟩=>?_;obtain⟨x,rfl,q⟩:=q1;obtain⟨t,rfl⟩:=r1;have fp:∀b,b∈[s1.heap.objs.size]->Gg X pins H1 b:=λb hb=>by
  have e:b=s1.heap.objs.size:=by simpa using hb
  subst e;exact I1.fpOk (B1 _) (I1.hok.fresh (B1 _))
 cases ha:x.cps.all (· < 128)with
 |true =>
  refine wpAny_pyIter_ascii ha ?_;refine⟨s1.heap.objs.size,[s1.heap.objs.size],_,_,H1,rfl,I1.kept (t':=s1.toks) λb o e=>B3 _ e,PD _ x t "str_ascii_iterator" A3 (λA hA=>Walks.strAscii hA _ x t) (λ_ _ _ _ _ st h=>wpAny_pyIter_striter_ascii st h),⟨_,D4 _ rfl,rfl,rfl⟩,fp,q⟩
 |false =>
  refine wpAny_pyIter_wide ha ?_;refine⟨s1.heap.objs.size,[s1.heap.objs.size],_,_,H1,rfl,I1.kept (t':=s1.toks) λb o e=>B3 _ e,PD _ x t "str_iterator" A3 (λA hA=>Walks.strWide hA _ x t) (λ_ _ _ _ _ st h=>wpAny_pyIter_striter_wide st h),⟨_,D4 _ rfl,rfl,rfl⟩,fp,q⟩
theorem SF{x:Str}{g:TG}{tb:TS}{D:JQ}{σ:St}{H:Hp}(Pv:Nat->St->Hp->Prop)(h0:Pv 0 σ H)
  (hs:∀i c σ H,x.cps[i]?=some c->Pv i σ H->g (.str ⟨#[c]⟩) σ H fun σ2 H2=>tb {D with nx:=Pv (i+1),ct:=Pv (i+1),bk:=D.nx} σ2 H2) (hd:∀σ H,Pv x.cps.size σ H->D.nx σ H) :
  ∃W:Nat->Nat->St->Hp->Prop,(∃m,W 0 m σ H)/\∀i m σ H,W i m σ H ->
   ((Its x).stop i H/\D.nx σ H)\/((Its x).go i H/\∃N:St->Hp->Prop,(∀σ' H',N σ' H'->∃m',m'<m/\W (i+1) m' σ' H')/\∀v H',(Its x).yld i H v H'->g v σ H' fun σ2 H2=>tb {D with nx:=N,ct:=N,bk:=D.nx} σ2 H2):=by
 refine⟨λi m σ H=>m=x.cps.size-i/\i<=x.cps.size/\Pv i σ H,⟨x.cps.size,by simp,F5 _,h0⟩,?_⟩;rintro i m σ H ⟨rfl,hi,p⟩;by_cases hlt:i<x.cps.size
 ·refine .inr ⟨hlt,Pv (i+1),fun σ' H' p'=>⟨x.cps.size-(i+1),by lia,rfl,hlt,p'⟩,λv H' y=>?_⟩;obtain⟨e,c,hc,rfl⟩:=y;subst e;exact hs i c σ _ hc p
 ·have e:i=x.cps.size:=by lia
  subst e;exact .inl ⟨rfl,hd σ H p⟩
def rSlS:V->Option Int->Option Int->Hp->VK->Prop:=λx lo hi H Q=>∃z,x=.str z/\z.length<=sizeLine/\Q (.str (Txt.slice z lo hi)) H
theorem Di:SlR X rSlS:=by
 intro pins s σ H x v vl vu lo hi sl Q I rx hs pl pu h;obtain⟨z,rfl,hz,q⟩:=h;obtain⟨t,rfl⟩:=rx;refine⟨"str",_,F.slot_str_getitem.lookup,A2e _ _ _,?_⟩;obtain⟨o,ho,hc,hd⟩:=hs;have fin:∀t' k,EP X pins σ Q (.str (Txt.slice z lo hi) t') {s with toks:=k}:=λt' k=>⟨.str _,H,I.tok k,⟨t',rfl⟩,q⟩
 have le:=C8 (Txt.slice_le z lo hi) hz;cases pl with
 |none =>
  cases pu with
  |none=>exact A4b (l:=none) (u:=none) (st:=none) ⟨o,ho,hc,hd⟩ rfl (A8c ⟨le,fin⟩)
  |int j uj=>exact A4b (l:=none) (u:=some (j,uj)) (st:=none) ⟨o,ho,hc,hd⟩ rfl (A8c ⟨le,fin⟩)
 |int i ui =>
  cases pu with
  |none=>exact A4b (l:=some (i,ui)) (u:=none) (st:=none) ⟨o,ho,hc,hd⟩ rfl (A8c ⟨le,fin⟩)
  |int j uj=>exact A4b (l:=some (i,ui)) (u:=some (j,uj)) (st:=none) ⟨o,ho,hc,hd⟩ rfl (A8c ⟨le,fin⟩)
theorem Np:MtR X "str.startswith" (λx xs H Q=>∃a b,x=.str a/\xs=[.str b]/\Q (.bl (Txt.startswith a b)) H):=by
 intro pins s σ H x xs v us Q I rx r h;obtain⟨a,b,rfl,rfl,q⟩:=h;obtain⟨t,rfl⟩:=rx;cases r with
 |cons r1 r2 =>
  cases r2;obtain⟨u,rfl⟩:=r1;exact SC.startswith ⟨.bl _,H,I,rfl,q⟩
theorem LU:MtR X "str.find" (λx xs H Q=>∃a b,x=.str a/\xs=[.str b]/\Q (.int (Txt.find a b)) H):=by
 intro pins s σ H x xs v us Q I rx r h;obtain⟨a,b,rfl,rfl,q⟩:=h;obtain⟨t,rfl⟩:=rx;cases r with
 |cons r1 r2 =>
  cases r2;obtain⟨u,rfl⟩:=r1;exact SC.find ⟨.int _,H,I.tok _,⟨_,rfl⟩,q⟩
theorem CP:Fb X (.type "int") (λxs H Q=>∃x n,xs=[.str x]/\PySem.intText? x=some n/\x.length<=640/\Q (.int n) H):=by
 intro pins s σ H xs us Q I r h;obtain⟨x,n,rfl,hn,hl,q⟩:=h;cases r with
 |cons r1 r2 =>
  cases r2;obtain⟨t,rfl⟩:=r1;exact PySem.W.KIN.call_text hn hl ⟨.int n,H,I.tok _,⟨_,rfl⟩,q⟩
theorem Wv(hc:X.calm=true):Fb X (.builtin "all") (λxs H Q=>∃(p:Addr)(bs:List Bool),xs=[.ref p]/\SqL X.K H p (bs.map V.bl)/\Q (.bl (bs.all id)) H):=by
 intro pins s σ H xs us Q I r h;obtain⟨p,bs,rfl,hq,q⟩:=h;cases r with
 |cons r1 r2 =>
  cases r2;cases(show _=Value.ref p from r1);obtain⟨its,rv,pl,hz⟩:=I.list hq;have hne:p≠s.heap.objs.size:=F0 (by obtain⟨o,n,e,_⟩:=pl;exact D0 e);refine call_all_walk (A7a pl.isList ?_);have vals:∀(i:Nat) v,its[i]?=some v->∃b,bs[i]?=some b/\v=.bool b:=λi v e=>by
   cases eb:bs[i]? with
   |none =>
    have:its[i]?=none:=rv.none_of (by rw[C1,eb];rfl);rw[e]at this;cases this
   |some b =>
    obtain⟨u,hu,ru⟩:=rv.get (i:=i) (x:=V.bl b) (by rw[C1,eb];rfl);rw[e]at hu;cases hu;exact⟨b,rfl,ru⟩
  refine⟨s.heap.objs.size,_,_,_,_,_,λi=>bs.getD i true,rfl,Walks.list (A:=X.A.in1) (I.ok.hd hc) s.heap.objs.size p hne its.toArray,⟨⟨_,D4 _ rfl,rfl,rfl⟩,?_⟩,?_,?_⟩
  ·exact pl.isList.at λo e=>B3 _ e
  ·intro i v s2 Q2 E2 hP hQ;obtain⟨b,eb,rfl⟩:=vals i v (by simpa using hP);have e2:bs.getD i true=b:=by rw[C5,eb];rfl
   have hQ:Q2 (bs.getD i true) s2:=hQ;rw[e2]at hQ;exact A0d hQ
  ·intro h' tk kk;have I2:Inv X pins σ H {s with heap:=h',toks:=tk}:=I.kept λb o e=>kk b o (by intro z;exact F0 (D0 e) (by simpa using z)) (B3 _ e);have len:its.toArray.size=bs.length:=by rw[D1,<-rv.length,B0]
   have e3:(List.range its.toArray.size).all (λi=>bs.getD i true)=bs.all id:=by
    rw[len,O8,M9,M9];constructor
    ·intro z b hb;obtain⟨i,hi,e⟩:=List.mem_iff_getElem.mp hb;have:=z i (M2.mpr hi);rw[C5,C0 hi,e]at this;exact this
    ·intro z i hi;have hi':=M2.mp hi;rw[C5,C0 hi'];exact z _ (N7 hi')
   rw[e3];exact⟨.bl _,H,I2,rfl,q⟩
end
section
variable{X:Cx}{iter:Expr}{ti:TE}{x G:Str}{px px1 px2 cpos pos:Pos}{scope:Scope}{g:Str}
end
structure QO(K:W.Frag)(D:Addr):Prop where
 hd:hasDictIn K D=true
 ga:findIn K (.ref D) "__getattribute__" = some (some (.builtin "BaseException.__getattribute__"))
 gt:findIn K (.ref D) "__getattr__" = some none
 cl:findIn K (.ref D) "__class__" = some (some (.builtin "object.__class__"))
 sp:specialIn K (.builtin "object.__class__") "__get__" = some (some (.builtin "getset_descriptor.__get__"))
 tk:takesIn K (.builtin "object.__class__")=some true
 mo:mroIn K D (.type "object")=some true
 mb:mroIn K D (.type "BaseException")=some true
section
variable{K:W.Frag}{prog:Program}{w:World}{A:Around}{E:Value->Shared->Prop}{s:Shared}{a D:Addr}{o:Obj}
open PySem.W Builtin Builtin.ObjectAttr Builtin.Getset_descriptor
theorem Wg{M:Model}{h:Heap}(X:K.In h)(f:QO K D):Looks M h (find (.ref a) (.ref D) "__class__") (.bind (.builtin "getset_descriptor.__get__") (.builtin "object.__class__")) :=
 (looks_findIn X f.cl).andThen ((looks_specialIn X f.sp).andThen ((show Looks M h (dataDescriptor? (some (.builtin "object.__class__")) (some (.builtin "getset_descriptor.__get__"))) (some (.builtin "getset_descriptor.__get__",.builtin "object.__class__"))from(looks_takesIn X f.tk).andThen .now).andThen (Looks.tag .now)))
theorem exc_get{R:Result->Shared->Prop}{tp:Value}(X:K.In s.heap)(f:QO K D)(he:s.heap.get? a=some o)(hc:o.cls=.ref D)(hq:R (.ok (.ret (.ref D))) s) :
  codeAny (model prog w) A (.call (.builtin "getset_descriptor.__get__") ⟨[.builtin "object.__class__",.ref a,tp],[]⟩) R s:=by
 obtain⟨h,g,d,t,os⟩:=s;have L0:Looks (model prog w) h (typeOf (.ref a)) (.ref D):=hc▸(Looks.ld he).andThen .now;have L1:=looks_mroIn (M:=model prog w) X f.mo;refine codeAny_call_builtin KF.slot_gs.plain KF.entry_gs (KF.slot_gs.check _ _ _ _ _ _ _ _ KF.type_class (KF.args_gs _ _ _) ?_);unfold Builtin.«getset_descriptor.__get__» descrGet;rw[dga_obj];refine Z2 (Z9 ?_);unfold descrGetter descrCheckInstance descrNameAndClass isInstance;simp only[KF.owner_class]
 repeat lk
 refine⟨Code.quiet_builtin _ A1,codeAny_builtin KF.entry_class ?_⟩;unfold Builtin.«object.__class__» shownTypeOf
 repeat lk
 exact hq
theorem Ub{Q:Option Value->Shared->Prop}(X:K.In s.heap)(f:QO K D)(he:s.heap.get? a=some o)(hc:o.cls=.ref D)(hq:Q (some (.ref D)) {s with toks:=s.toks+1}) :
  wpAny (model prog w) A (getAttr? (.ref a) "__class__") Q E s:=by
 obtain⟨h,g,d,t,os⟩:=s;have L0:Looks (model prog w) h (typeOf (.ref a)) (.ref D):=hc▸(Looks.ld he).andThen .now;have L1:=looks_findIn (M:=model prog w) X f.ga;have L2:=looks_findIn (M:=model prog w) X f.gt;have L3:=Wg (M:=model prog w) (a:=a) X f;have L4:Looks (model prog w) h (isInstance (.ref a) (.type "BaseException")) true:=L0.andThen (looks_mroIn X f.mb);unfold getAttr? getAttrBy? getAttrBy;refine Z2 (wpAny_mkText (Z2 (A7e (A3a (Z2 (L0.at (Z2 (L1.at ?_))))))));dsimp only;have n0:(Value.builtin "BaseException.__getattribute__" == Value.builtin "object.__getattribute__")=false:=by decide +kernel
 rw[Z5 (by rw[n0,Bool.and_false];exact D6)];unfold getAttrByItsOwn hookBefore;rw[Z6 (by rfl)];refine Z2 (L2.at ?_);refine Z2 (A7e (A3a ?_));unfold callGetattribute;rw[Z5 A3];unfold boundAndCalled;refine Z2 (wpAny_of_eq (PySem.F.excAttr_ValueError.ga.bind (.ref a)) ?_);dsimp only;refine A8a (codeAny_call_builtin PySem.F.excAttr_ValueError.ga.plain PySem.F.entry_bexc_ga ?_);have hk:builtinKind "BaseException.__getattribute__" = some .slot:=by decide +kernel
 have hsp:splitId "BaseException.__getattribute__" = some ("BaseException","__getattribute__"):=by decide +kernel
 have har:=PySem.F.args_bexc_ga (.ref a) (.str "__class__" t);simp only[checkBuiltinCall,hk,hsp];refine Z2 (L4.at ?_);rw[Z5 A3];refine wpAny_of_eq (a:=()) har ?_;unfold Builtin.«object.__getattribute__»;dsimp only at L3
 repeat ((fail_if_success (with_reducible show wpAny _ _ (call _ _) _ _ _));lk)
 refine A8a (exc_get (s:=⟨h,g,d,t+1,os⟩) X f he hc ?_);dsimp only
 repeat lk
 exact hq
end
inductive TyX(K:W.Frag)(H:Hp):V->Value->Prop where
 |of {x:V} {t:Value} (h:JO K H x t):TyX K H x t
 |exc {a D:Addr} (e:H a=some (JH a D)) (f:QO K D):TyX K H (.ref a) (.ref D)
theorem VR{K:W.Frag}{a D:Addr}(f:QO K D):PySem.W.KitX K (.ref a) (.ref D) (λh=>∃o,h.get? a=some o/\o.cls=.ref D/\notCls o=true) where
 ty:=λM h X ⟨o,e,c,_⟩=>c▸(PySem.W.Looks.ld e).andThen .now
 it:=λM h X _=>by
  obtain⟨cd,hc,_⟩:=any_some f.hd;unfold clsIn at hc;split at hc
  ·rename_i c' d' cd' sl' ho;intro A' Q' E' s' k q;unfold isType loadHead;exact Z2 (wpAny_loadPart (k _ _ (X _ _ ho)) (Z9 q))
  ·cases hc
 ne:=λh tp dd its n sl X htp=>by
  obtain⟨cd,hc,_⟩:=any_some f.hd;refine V2.mpr λq=>?_;have e:D=tp:=Value.ref.inj (beq_iff_eq.mp q);subst e;unfold clsIn at hc;split at hc
  ·rename_i c' d' cd' sl' ho;have z:=(X _ _ ho).symm.trans htp;cases z
  ·cases hc
 ca:=λX ⟨o,e,c,_⟩ k=>Ub X f e c k
def clsV:V->Option Value
 |.ty n=>some (.type n)
 |.ref C=>some (.ref C)
 |_=>none
theorem AS{X:Cx}:Fb X (.builtin "isinstance") (λxs H Q=>∃x c cv t b,xs=[x,c]/\clsV c=some cv/\TyX X.K H x t/\kitOne X.K t cv=some b/\Q (.bl b) H):=by
 intro pins s σ H xs us Q I r h;obtain⟨x,c,cv,t,b,rfl,hc,ty,hk,q⟩:=h;cases r with
 |@cons _ u _ _ rx rr =>
  cases rr with
  |@cons _ v _ _ rc rn =>
   cases rn;have ev:v=cv:=by
    cases c with
    |ty n=>cases hc;exact rc
    |ref C=>cases hc;exact rc
    |_=>cases hc
   subst ev;cases ty with
   |of ty=>exact TU I rx ty hk λtk=>⟨.bl b,H,I.tok tk,rfl,q⟩
   |@exc a D e f =>
    cases(show u=Value.ref a from rx);obtain⟨p,_,_⟩:=(show Bh X.prog X.w H s.heap a (JH a D)from I.hok a _ e)
    exact K9 (VR f) I.kIn (LB.not p) hk (λz=>nomatch z) λtk=>⟨.bl b,H,I.tok tk,rfl,q⟩
section
variable{X:Cx}{c:Expr}{a b:List Stmt}{tc:TT}{t u:TS}{pos:Pos}
end
def FV(env:Env)(a:List (Str×Addr))(x:Str×NameKind):List (Str×Addr):=if(x.2==NameKind.free)=true then(x.1,(env.cells.lookup x.1).getD 0)::a else a
def RL(env:Env)(l:List (Str×NameKind)):List (Str×Addr):=l.foldl (FV env) []
theorem RI{α β:Type}{l:List α}{f:α->β->Sem (ForInStep β)}{g:β->α->β}(h:∀x∈l,∀b,f x b=pure (.yield (g b x))):∀b,forIn l b f=pure (l.foldl g b):=by
 induction l with
 |nil=>intro b;rfl
 |cons x l ih =>
  intro b;rw[List.forIn_cons,h x D3,pure_bind];exact ih (λy hy=>h y (B9 _ hy)) _
theorem MR{scope:Scope}{env:Env}(h:∀y∈scope.names,y.2=.free->∃c,env.cells.lookup y.1=some c):closureFor scope env=pure (RL env scope.names):=by
 simp only[closureFor];rw[RI (g:=FV env) (λx hx c=>by
  obtain⟨n,k⟩:=x;by_cases hk:k=.free
  ·subst hk;obtain⟨a,ha⟩:=h _ hx rfl;have e:cellOf env n=pure a:=by unfold cellOf;rw[show env.cells.lookup n=some a from ha]
   simp only[FV,A6b,A5f,e,show env.cells.lookup n=some a from ha,Option.getD_some];rfl
  ·have hb:(k==NameKind.free)=false:=by simpa using hk
   simp only[FV,hb,F8,A1b])]
 rfl
theorem On(env:Env){y:Str}{c:Addr}:∀(l:List (Str×NameKind))(a:List (Str×Addr)),(l.foldl (FV env) a).lookup y=some c->a.lookup y=some c\/((y,NameKind.free)∈l/\c=(env.cells.lookup y).getD 0)
 |[],a,h=>.inl h
 | (n,k)::r,a,h=>by
  rw[U1]at h;rcases On env r _ h with z|⟨z,e⟩
  ·unfold FV at z;split at z
   ·rename_i hk;have hk':k=.free:=by simpa using hk
    rw[P1]at z;split at z
    ·rename_i hy;have hy':y=n:=by simpa using hy
     subst hy' hk';exact .inr ⟨D3,(X2 z).symm⟩
    ·exact .inl z
   ·exact .inl z
  ·exact .inr ⟨B9 _ z,e⟩
theorem QC(env:Env){y:Str}:∀(l:List (Str×NameKind))(a:List (Str×Addr)),(∃c,a.lookup y=some c)->∃c,(l.foldl (FV env) a).lookup y=some c
 |[],_,h=>h
 | (n,k)::r,a,h=>by
  rw[U1];refine QC env r _ ?_;unfold FV;split
  ·rw[P1];split
   ·exact⟨_,rfl⟩
   ·exact h
  ·exact h
theorem RK(env:Env){y:Str}:∀(l:List (Str×NameKind))(a:List (Str×Addr)),(y,NameKind.free)∈l->∃c,(l.foldl (FV env) a).lookup y=some c
 |[],_,h=>by simp at h
 | (n,k)::r,a,h=>by
  rw[U1];rcases B7.mp h with e|h
  ·cases e;refine QC env r _ ⟨(env.cells.lookup y).getD 0,?_⟩;unfold FV;simp only[A6b,A5f,P1]
  ·exact RK env r _ h
theorem Mo{env:Env}{y:Str}:∀{names:List (Str×NameKind)},(∀z∈names,z.2≠.cell) ->
  ((names.map λ(n,k)=>if(k==NameKind.free && env.scope.kind==.function && env.kindOf n==some .cell)then(n,NameKind.cell)else(n,k)).lookup y=some .cell \/
   (names.map λ(n,k)=>if(k==NameKind.free && env.scope.kind==.function && env.kindOf n==some .cell)then(n,NameKind.cell)else(n,k)).lookup y=some .free)->(y,NameKind.free)∈names
 |[],_,h=>by simp at h
 | (n,k)::r,hc,h=>by
  have ih:=@Mo env y r (λz hz=>hc z (B9 _ hz));have h':List.lookup y ((if(k==NameKind.free && env.scope.kind==.function && env.kindOf n==some .cell)=true then(n,NameKind.cell)else(n,k))::(r.map λ(n,k)=>if(k==NameKind.free && env.scope.kind==.function && env.kindOf n==some .cell)then(n,NameKind.cell)else(n,k)))=some .cell \/
   List.lookup y ((if(k==NameKind.free && env.scope.kind==.function && env.kindOf n==some .cell)=true then(n,NameKind.cell)else(n,k))::(r.map λ(n,k)=>if(k==NameKind.free && env.scope.kind==.function && env.kindOf n==some .cell)then(n,NameKind.cell)else(n,k)))=some .free:=h
  clear h;by_cases hb:(k==NameKind.free && env.scope.kind==.function && env.kindOf n==some .cell)=true
  ·rw[Z6 hb]at h';have hk:k=.free:=by
    simp only[O1,A5b]at hb;exact hb.1.1
   simp only[P1]at h';cases hy:y==n with
   |true =>
    have:y=n:=by simpa using hy
    subst this hk;exact D3
   |false =>
    rw[hy]at h';exact B9 _ (ih h')
  ·rw[Z5 hb]at h';simp only[P1]at h';cases hy:y==n with
   |true =>
    rw[hy]at h';have:y=n:=by simpa using hy
    subst this;rcases h' with z|z
    ·exact absurd (X2 z) (hc (y,k) D3)
    ·cases X2 z;exact D3
   |false =>
    rw[hy]at h';exact B9 _ (ih h')
theorem Jt{env:Env}{y:Str}:∀{names:List (Str×NameKind)},names.lookup y=some .free ->
  ((names.map λ(n,k)=>if(k==NameKind.free && env.scope.kind==.function && env.kindOf n==some .cell)then(n,NameKind.cell)else(n,k)).lookup y=some .cell \/
   (names.map λ(n,k)=>if(k==NameKind.free && env.scope.kind==.function && env.kindOf n==some .cell)then(n,NameKind.cell)else(n,k)).lookup y=some .free)
 |[],h=>by simp at h
 | (n,k)::r,h=>by
  have ih:=@Jt env y r;show List.lookup y ((if(k==NameKind.free && env.scope.kind==.function && env.kindOf n==some .cell)=true then(n,NameKind.cell)else(n,k))::(r.map λ(n,k)=>if(k==NameKind.free && env.scope.kind==.function && env.kindOf n==some .cell)then(n,NameKind.cell)else(n,k)))=some .cell \/
   List.lookup y ((if(k==NameKind.free && env.scope.kind==.function && env.kindOf n==some .cell)=true then(n,NameKind.cell)else(n,k))::(r.map λ(n,k)=>if(k==NameKind.free && env.scope.kind==.function && env.kindOf n==some .cell)then(n,NameKind.cell)else(n,k)))=some .free
  rw[P1]at h;by_cases hb:(k==NameKind.free && env.scope.kind==.function && env.kindOf n==some .cell)=true
  ·rw[Z6 hb];simp only[P1];cases hy:y==n with
   |true=>exact .inl rfl
   |false=>rw[hy]at h;exact ih h
  ·rw[Z5 hb];simp only[P1];cases hy:y==n with
   |true=>rw[hy]at h;exact .inr h
   |false=>rw[hy]at h;exact ih h
section
variable{prog:Program}{w:World}{A:Around}{R:Result->Shared->Prop}{s:Shared}
abbrev RZ(ifs:List Expr)(env:Env):Sem Bool:=forIn ifs true λc r=>if r=true then do let ok <-isTrue c env (eval c env);pure (ForInStep.yield ok)else pure (ForInStep.yield r)
theorem QB{elt target iter:Expr}{ifs:List Expr}{scope:Scope}{pos:Pos}{it acc:Value}{env:Env}(I:Nat->Shared->Prop)
  (turn:∀n s,I n s->wpAny (model prog w) A (pyNext it) (λr s₁=>match r with
   |none=>R (.ok .next) s₁
   |some v=>wpAny (model prog w) A (letOwnedTupleGo target it v) (λ_ s₀=>wpAny (model prog w) A (assign target env v) (λ_ s₂ =>
     wpAny (model prog w) A (RZ ifs env) (λok s₃ =>
      if ok=true then wpAny (model prog w) A (eval elt env) (λx s₄ =>
       wpAny (model prog w) A (call (.builtin "list.append") [acc,x]) (λ_ s₅=>∃m,m<n/\I m s₅) (λ_ _=>False) s₄) (λ_ _=>False) s₃
      else ∃m,m<n/\I m s₃) (λ_ _=>False) s₂) (λ_ _=>False) s₀) (λ_ _=>False) s₁) (λ_ _=>False) s)
  (n:Nat) (h:I n s):codeAny (model prog w) A (.compLoop (.ListComp elt [⟨target,iter,ifs,0⟩] scope pos) 0 it acc env) R s:=by
 refine codeAny_loop rfl I (λn s hI=>?_) n h;show wpAny _ A ((compTurn (.ListComp elt [⟨target,iter,ifs,0⟩] scope pos) 0 it acc env).onRaise (λx=>do noteFrame x env;theTreesLotGoes x)) _ _ s;refine wpAny_noted ?_;rw[compTurn_list];refine Z2 (A7f (Z2 (K1 (turn n s hI) (λr s₁ h₁=>?_) λ_ _ h'=>h'.elim)));cases r with
 |none=>exact Z9 h₁
 |some v =>
  refine Z2 (K1 h₁ (λ_ s₀ h₀=>?_) λ_ _ h'=>h'.elim);refine Z2 (K1 h₀ (λ_ s₂ h₂=>Z2 (K1 h₂ (λok s₃ h₃=>?_) λ_ _ h'=>h'.elim)) λ_ _ h'=>h'.elim);cases ok with
  |false=>exact Z9 ⟨rfl,h₃⟩
  |true =>
   exact Z2 (Z2 (K1 h₃ (λx s₄ h₄=>Z2 (K1 h₄ (λ_ s₅ h₅=>Z9 (Z9 ⟨rfl,h₅⟩)) λ_ _ h'=>h'.elim)) λ_ _ h'=>h'.elim))
end
def LJ(cs:List Nat)(σ:St):St:=cs.map λj=>(σ[j]?).getD none
def cxC(X:Cx)(scope:Scope)(N:List Str)(s:Shared)(H:Hp)(ex:List Addr):Cx :=
 {X with N:=N,s₀:=s,H₀:=H,env:=compEnvC scope (RL X.env scope.names) s.heap.objs.size X.env,outer:=X.stack,stack:=X.stack,ex:=ex,fn:=λ_=>false,pn:=[],xe:=λ_ _=>False}
def PTs(X:Cx)(ifs:List Expr)(t:TT):Prop :=
 ∀(pins:List (Addr×Obj))(s:Shared)(σ:St)(H:Hp)(Q:Bool->Hp->Prop),Inv X pins σ H s->t σ H Q->wpAny (model X.prog X.w) X.A (RZ ifs X.env) (TP X pins σ Q) X.xe s
def tYes:TT:=λ_ H Q=>Q true H
theorem Jv{X:Cx}:PTs X [] tYes:=λ_ _ _ H _ I h=>wpAny_tests_nil ⟨H,I,h⟩
structure Eh(X:Cx)(scope:Scope)(N:List Str)(k:Nat)(cs:List Nat):Prop where
 cell:∀y∈scope.names,y.2≠.cell
 kind:scope.kind=.function
 names:∀y∈scope.names,y.2=.local->scope.names.lookup y.1=some .local
 free:∀y∈scope.names,y.2=.free->X.env.scope.names.lookup y.1=some .cell\/X.env.scope.names.lookup y.1=some .free
 len:N.length=k+cs.length
 cap:∀j,j<cs.length->∃x,N[k+j]?=some x/\X.N[cs.getD j 0]?=some x/\scope.names.lookup x=some .free
def GV(k:Nat)(cs:List Nat)(g:TG)(tc:TT)(te:TE)(J:It)(σ:St)(H1:Hp)(fin:List V->Hp->Prop):Prop :=
 ∃W:Nat->Nat->List V->Hp->Prop,(∃m,W 0 m [] H1)/\∀i m acc H,W i m acc H ->
  (J.stop i H/\fin acc H)\/(J.go i H/\∃Nx:List V->Hp->Prop,(∀acc' H',Nx acc' H'->∃m',m'<m/\W (i+1) m' acc' H')/\∀x H',J.yld i H x H'->g x (List.replicate k none++LJ cs σ) H' fun σ2 H2=>(∃ts:St,ts.length=k/\σ2=ts++LJ cs σ)/\acc.length<sizeLine /\
   tc σ2 H2 λb H3=>if b=true then te σ2 H3 λv H4=>Nx (acc++[v]) H4 else Nx acc H3)
def tComp(k:Nat)(cs:List Nat)(wi:TI)(g:TG)(tc:TT)(te:TE):TE:=fun σ H Q=>wi σ H λJ H1=>GV k cs g tc te J σ H1 λacc H2=>∀p,H2 p=none->Q (.ref p) (upd H2 p (.lst acc))
section
variable{X:Cx}{tg iter elt:Expr}{ifs:List Expr}{scope:Scope}{pos:Pos}{wi:TI}{g:TG}{tc:TT}{te:TE}{N:List Str}{k:Nat}{cs:List Nat}
theorem Inv.block{pins:List (Addr×Obj)}{σ:St}{H:Hp}{s s':Shared}{ex:List Addr}(S:Eh X scope N k cs)(I:Inv X pins σ H s)
  (hex:∀b∈ex,Gg X pins H b/\∃o,s.heap.get? b=some o) (hos:s'.os=s.os) (hg:AllBare s'.gens) (hk:∀b o,s.heap.get? b=some o->s'.heap.get? b=some o) (hn:∃m,s'.heap.Ns s.heap.objs.size m) :
  Inv (cxC X scope N s H ex) [] (List.replicate k none++LJ cs σ) H s':=by
 have lk:∀{x c},(RL X.env scope.names).lookup x=some c->X.env.cells.lookup x=some c:=λ{x c} h=>by
  rcases On X.env _ _ h with z|⟨z,e⟩
  ·simp at z
  ·obtain⟨a,ha⟩:=I.ok.has x (S.free _ z rfl);rw[e,ha];rfl
 have nex:∀b,b∈ex->b≠s.heap.objs.size:=λb hb z=>by
  obtain⟨_,o,ho⟩:=hex b hb;exact absurd (D0 ho) (by rw[z];exact P0 _)
 refine⟨⟨I.ok.mod,S.kind,I.ok.glob,I.ok.blt,B1 _,λx y c h1 h2=>I.ok.inj x y c (lk h1) (lk h2),λx hx=>?_,λx c h _=>(nomatch h),I.ok.hd,I.ok.frames,.inl rfl,λb hb=>⟨nex b hb,λx c h=>?_⟩,I.bs,?_,λb o e hb=>?_,λb hb hf=>?_,I.stack,I.stkFree⟩,
  hos,hg,Un.kept hk,?_,λx c h=>?_,I.hok.fresh (B1 _),λx c h=>I.freeC x c (lk h),λp hp=>absurd (show p∈([]:List (Addr×Obj))from hp) A5,I.hok.kept hk,?_⟩
 ·exact RK X.env _ _ (Mo S.cell hx)
 ·exact(hex b hb).1.2.2.2.2.1 x c (lk h)
 ·exact C8 I.ok.bsz I.sz
 ·rcases(hex b hb).1.2.2.2.1 with z|z
  ·exact I.ok.noex b o e z
  ·exact absurd (F2 (D0 e) (C8 I.ok.bsz z)) (P0 _)
 ·rcases B7.mp (I.stkSub b hf)with z|z
  ·exact(hex b hb).1.2.1 z
  ·exact(hex b hb).1.2.2.1 z
 ·obtain⟨m,hm⟩:=hn;obtain⟨mo,hmo,hlo⟩:=I.loc;refine⟨m,hm,λi x v h1 h2 h3=>?_⟩;have hi:k<=i:=by
   by_cases z:i<k
   ·rw[M7 (by simpa using z),V8,Z6 z]at h2;cases h2
   ·lia
  obtain⟨j,rfl⟩:∃j,i=k+j:=⟨i-k,by lia⟩
  rw[J9 A5,P4,V6]at h2;unfold LJ at h2;rw[C1]at h2;have hj:j<cs.length:=by
   by_cases z:j<cs.length
   ·exact z
   ·rw[Q9 A0]at h2;cases h2
  obtain⟨x',e1,e2,e3⟩:=S.cap j hj;rw[show N[k+j]?=some x from h1]at e1;cases e1;rw[C0 hj]at h2;have h2':(σ[cs[j]]?).getD none=some v:=X2 h2;rw[C5,C0 hj]at e2;have h4:σ[cs[j]]?=some (some v):=by
   cases q:σ[cs[j]]? with
   |none=>rw[q]at h2';cases h2'
   |some w=>rw[q]at h2';rw[show w=some v from h2']
  have kO:=S.free (x,.free) (A0f e3) rfl;obtain⟨u,ru,l⟩:=hlo _ x v e2 h4 (.inr kO);refine⟨u,ru,?_⟩;rcases l with ⟨z,_⟩|⟨_,c,hc',z⟩
  ·have z':X.env.scope.names.lookup x=some .local:=z;rcases kO with q|q<;>· rw[z']at q;cases q
  ·obtain⟨c',h5⟩:=RK X.env _ [] (A0f e3);have h6:=lk h5;rw[hc']at h6;cases h6;obtain⟨o,ho,hd⟩:=z;exact .inr ⟨Jt e3,c,h5,o,hk _ _ ho,hd⟩
 ·obtain⟨v,o,ho,hd⟩:=I.cell x c (lk h);exact⟨v,o,hk _ _ ho,hd⟩
 ·show(List.replicate k none++LJ cs σ).length=N.length;rw[B5,P4,S.len];unfold LJ;rw[B0]
end
structure WE(C:Cx->Prop)(P:Program)(w:World)(K:W.Frag)(tg:Expr)(J:It)(fp:List Addr)(it:Addr)(tn:Nat->Heap->Prop):Prop where
 obj:∀i h,tn i h->∀b∈fp,∃o,h.get? b=some o/\∀v,o.data≠.cell v
 keep:∀i h h',tn i h->(∀b∈fp,∀o,h.get? b=some o->h'.get? b=some o)->tn i h'
 item:∀(X:Cx),C X->X.prog=P->X.w=w->X.K=K->∀(i:Nat)(pins:List (Addr×Obj))(s:Shared)(σ:St)(H:Hp)(E:Value->Shared->Prop),Inv X pins σ H s->(∀b∈fp,Gg X pins H b)->tn i s.heap->J.go i H ->
  wpAny (model P w) X.A (pyNext (.ref it)) (λr s1=>∃u,r=some u/\wpAny (model P w) X.A (letOwnedTupleGo tg (.ref it) u) (λ_ s2=>∃x H',Inv X pins σ H' s2/\Bb x u/\J.yld i H x H'/\tn (i+1) s2.heap/\∀b∈fp,H' b=none) E s1) E s
 done:∀(X:Cx),C X->X.prog=P->X.w=w->X.K=K->∀(i:Nat)(pins:List (Addr×Obj))(s:Shared)(σ:St)(H:Hp)(E:Value->Shared->Prop),Inv X pins σ H s->(∀b∈fp,Gg X pins H b)->tn i s.heap->J.stop i H ->
  wpAny (model P w) X.A (pyNext (.ref it)) (λr s1=>r=none/\Inv X pins σ H s1) E s
 self:∀(A:Around)(i:Nat)(s:Shared)(Q:Value->Shared->Prop)(E:Value->Shared->Prop),tn i s.heap->Q (.ref it) s->wpAny (model P w) A (pyIter (.ref it)) Q E s
theorem Px.q{P:Program}{w:World}{K:W.Frag}{tg:Expr}{J:It}{fp:List Addr}{it:Addr}{tn:Nat->Heap->Prop}(T:Px P w K tg J fp it tn):WE (λX=>X.calm=true) P w K tg J fp it tn :=
 ⟨T.obj,T.keep,λX c p w k=>T.item X p w k c,λX c p w k=>T.done X p w k c,T.self⟩
section
variable{X:Cx}{tg iter elt:Expr}{ifs:List Expr}{scope:Scope}{pos:Pos}{wi:TI}{g:TG}{tc:TT}{te:TE}{N:List Str}{k:Nat}{cs:List Nat}{fin:List V->Hp->Prop}
theorem Ug{pins:List (Addr×Obj)}{σ:St}{H2:Hp}{sD s1:Shared}{it D:Addr}{fp:List Addr}{tn:Nat->Heap->Prop}{J:It}{n0:Nat}{RR:Result->Shared->Prop}{Cq:Cx->Prop}(hc:∀s H ex,Cq (cxC X scope N s H ex))(S:Eh X scope N k cs)
  (hg:∀s H ex,PG (cxC X scope N s H ex) tg g) (ht:∀s H ex,PTs (cxC X scope N s H ex) ifs tc) (he:∀s H ex,PE (cxC X scope N s H ex) elt te)
  (ID:Inv X pins σ H2 sD) (hD:sD.heap.get? D=some {cls:=.type "list",data:=.seq ([]:List Value).toArray n0}) (hD0:X.s₀.heap.objs.size<=D) (fD:Gg X pins H2 D) (nfp:D∉fp)
  (T:WE Cq X.prog X.w X.K tg J fp it tn) (st:tn 0 sD.heap) (f2:∀b∈fp,Gg X pins H2 b) (hb:GV k cs g tc te J σ H2 fin)
  (hos:s1.os=sD.os) (hgn:AllBare s1.gens) (hk:∀b o,sD.heap.get? b=some o->s1.heap.get? b=some o) (hn:∃m,s1.heap.Ns sD.heap.objs.size m)
  (hRR:∀(H':Hp)(acc:List V)(s4:Shared),fin acc H'->H' D=none->Inv X pins σ (upd H' D (.lst acc)) s4->(∃m,s4.heap.Ns sD.heap.objs.size m)->Gg X pins (upd H' D (.lst acc)) sD.heap.objs.size->RR (.ok .next) s4) :
  codeAny (model X.prog X.w) X.A (.compLoop (.ListComp elt [⟨tg,iter,ifs,0⟩] scope pos) 0 (.ref it) (.ref D) (compEnvC scope (RL X.env scope.names) sD.heap.objs.size X.env)) RR s1:=by
 obtain⟨W,⟨m0,w0⟩,turn⟩:=hb;have hobj:∀b,b∈D::fp->∃o,sD.heap.get? b=some o:=λb hb=>by
  rcases B7.mp hb with rfl|z
  ·exact⟨_,hD⟩
  ·obtain⟨o,e,_⟩:=T.obj _ _ st b z;exact⟨o,e⟩
 have hexx:∀b∈D::fp,Gg X pins H2 b/\∃o,sD.heap.get? b=some o:=λb hb=>⟨by
  rcases B7.mp hb with rfl|z
  ·exact fD
  ·exact f2 b z,hobj b hb⟩
 have neC:∀b,b∈D::fp->b≠sD.heap.objs.size:=λb hb z=>by
  obtain⟨o,e⟩:=hobj b hb;exact absurd (D0 e) (by rw[z];exact P0 _)
 have nfr:∀b,b∈D::fp->b∉frs X.stack:=λb hb hf=>by
  rcases B7.mp (ID.stkSub b hf)with z|z
  ·exact(hexx b hb).1.2.1 z
  ·exact(hexx b hb).1.2.2.1 z
 have I0:=ID.block S hexx hos hgn hk hn;have I0ok:=I0.ok;have cells:∀b,b∈D::fp->∀x c,(RL X.env scope.names).lookup x=some c->c≠b:=λb hb x c h=>(I0ok.exf b hb).2 x c h;have fpok:∀{H':Hp}{pl:List (Addr×Obj)},(∀b∈fp,H' b=none)->(∀p∈pl,p.1=D)->∀b∈fp,Gg (cxC X scope N sD H2 (D::fp)) pl H' b:=λhn hp b hb =>
  ⟨hn b hb,neC b (.tail _ hb),nfr b (.tail _ hb),.inl (.tail _ hb),cells b (.tail _ hb),λp hp' z=>nfp (by
   have:=hp p hp';rw[<-this,z];exact hb)⟩
 refine QB (λn s'=>∃(i:Nat)(acc:List V)(its:List Value)(nn:Nat)(H':Hp),Inv (cxC X scope N sD H2 (D::fp)) [] (List.replicate k none++LJ cs σ) H' s'/\tn i s'.heap/\(∀b∈fp,H' b=none)/\H' D=none/\acc.length<=sizeLine/\AN acc its /\
  s'.heap.get? D=some {cls:=.type "list",data:=.seq its.toArray nn}/\W i n acc H') ?_ m0
  ⟨0,[],[],n0,H2,I0,T.keep _ _ _ st (λb _ o e=>hk b o e),λb hb=>(f2 b hb).1,fD.1,F5 _,.nil,hk _ _ hD,w0⟩
 rintro n s3 ⟨i,acc,its,nn,H3,I3,st3,fr3,nD3,hl3,v3,e3,w3⟩;have I3p:Inv (cxC X scope N sD H2 (D::fp)) [(D,{cls:=.type "list",data:=.seq its.toArray nn})] (List.replicate k none++LJ cs σ) H3 s3:=I3.pins_of λp hp=>by
  rw[C9]at hp;subst hp;exact⟨e3,nD3,neC D (.head _),nfr D (.head _),λv z=>by cases z⟩
 have one:∀p∈[((D,{cls:=.type "list",data:=.seq its.toArray nn}):Addr×Obj)],p.1=D:=λp hp=>by
  rw[C9]at hp;subst hp;rfl
 rcases turn i n acc H3 w3 with ⟨stop,qf⟩|⟨go,Nx,hNx,step⟩
 ·refine thn (T.done (cxC X scope N sD H2 (D::fp)) (hc _ _ _) rfl rfl rfl i _ s3 _ H3 _ I3p (fpok fr3 one) st3 stop) λr s4 ⟨hr,I4⟩=>?_;subst hr;have IX:Inv X pins σ H3 s4:=ID.call' (ch:=D::fp) I4.os I4.base I4.hok I4.bare λb hb=>⟨(hexx b hb).1.2.2.2.1,(hexx b hb).1.2.1,(hexx b hb).1.2.2.2.2.1,(hexx b hb).1.2.2.2.2.2⟩
  have p4:=(I4.pin (D,{cls:=.type "list",data:=.seq its.toArray nn}) (by show _∈[]++[_];simp)).1;have IY:Inv X pins σ (upd H3 D (.lst acc)) s4:=by
   refine IX.track nD3 (P8 hD0) (P8 (C8 ID.ok.bsz hD0)) (X5 fD.2.1) fD.2.2.2.2.1 fD.2.2.2.2.2 (λb hb z=>fD.2.2.1 (z▸hb)) ?_;exact⟨hl3,its,nn,v3,p4⟩
  refine hRR H3 acc s4 qf nD3 IY ?_ (ID.fpOk (B1 _) ?_)
  ·obtain⟨m,hm,_⟩:=I4.loc;exact⟨m,hm⟩
  ·rw[AD (X5 (neC D (.head _)))];exact I4.free
 ·refine thn (T.item (cxC X scope N sD H2 (D::fp)) (hc _ _ _) rfl rfl rfl i _ s3 _ H3 (λ_ _=>False) I3p (fpok fr3 one) st3 go) λr s4 ⟨u,hr,h4⟩=>?_;subst hr;refine thn h4 λ_ s5 ⟨x,H5,I5,r5,y5,st5,fr5⟩=>?_;have I5':=I5.pinned (fpok fr5 one) (T.obj _ _ st5);refine thn (hg sD H2 (D::fp) _ s5 _ H5 x u _ I5' r5 (step x H5 y5)) λ_ s6 ⟨σ6,H6,I6,⟨ts,tl,eσ⟩,hz6,q6⟩=>?_;refine thn (ht sD H2 (D::fp) _ s6 σ6 H6 _ I6 q6) λb s7 ⟨H7,I7,q7⟩=>?_;have weak:∀{pl:List (Addr×Obj)}{H':Hp}{s':Shared},Inv (cxC X scope N sD H2 (D::fp)) pl σ6 H' s'->Inv (cxC X scope N sD H2 (D::fp)) [] (List.replicate k none++LJ cs σ) H' s':=λ{pl H' s'} J=>by
   refine(J.weak (σ':=List.replicate k none++LJ cs σ) ?_ λj v e=>?_).pins_of λp hp=>absurd hp A5
   ·rw[eσ,B5,B5,P4,tl]
   ·by_cases z:j<k
    ·rw[M7 (by simpa using z),V8,Z6 z]at e;cases e
    ·rw[J9 (by rw[P4];lia),P4]at e;rw[eσ,J9 A0,tl];exact e
  have later:∀{pl:List (Addr×Obj)}{σ':St}{H':Hp}{s':Shared},Inv (cxC X scope N sD H2 (D::fp)) (pl++JZ fp s5.heap) σ' H' s'->tn (i+1) s'.heap/\∀b∈fp,H' b=none:=λ{pl σ' H' s'} J =>
   ⟨T.keep _ _ _ st5 λb hb o e=>(J.pin (b,o) (C7 _ (C7 _ (GG hb e)))).1,λb hb=>by
    obtain⟨o,e,_⟩:=T.obj _ _ st5 b hb;exact(J.pin (b,o) (C7 _ (C7 _ (GG hb e)))).2.1⟩
  cases b with
  |false =>
   have q7':Nx acc H7:=by simpa using q7
   obtain⟨m',hm,w7⟩:=hNx _ _ q7';rw[Z5 D6];have p7:=I7.pin (D,{cls:=.type "list",data:=.seq its.toArray nn}) (C7 _ (M6 _ (C9.mpr rfl)));exact⟨m',hm,i+1,acc,its,nn,H7,weak I7,(later I7).1,(later I7).2,p7.2.1,hl3,v3,p7.1,w7⟩
  |true =>
   rw[Z6 rfl]at q7;rw[Z6 rfl];refine thn (he sD H2 (D::fp) _ s7 σ6 H7 _ I7 q7) λy s8 ⟨v,H8,I8,r8,q8⟩=>?_;obtain⟨m',hm,w8⟩:=hNx _ _ q8;have p8:=I8.pin (D,{cls:=.type "list",data:=.seq its.toArray nn}) (C7 _ (M6 _ (C9.mpr rfl)));have hlen:=v3.length;refine A3e F.slot_list_append ⟨_,p8.1,rfl⟩ F.entry_list_append (F.args_list_append_2 _ _) (PySem.list_append D its.toArray nn y (by rw[D1];lia)) ⟨p8.1,?_⟩;have q:=PySem.IsL.update p8.1 (·.push y);have eq:its.toArray.push y=(its++[y]).toArray:=by simp
   dsimp only at q;rw[eq]at q;have I8':Inv (cxC X scope N sD H2 (D::fp)) ([]++JZ fp s5.heap) σ6 H8 s8:=I8.pins_of λp hp=>I8.pin p (C7 _ (C7 _ hp));have I9:=I8'.turned (t':=s8.toks) (it:=D) (h':=s8.heap.update D (Obj.mapSeq (·.push y))) (λb o hb e=>(N8 s8.heap (Obj.mapSeq (·.push y)) (X5 hb)).trans e) p8.2.1 (neC D (.head _)) (.inl (.head _)) (cells D (.head _))
    (λp hp z=>nfp (by
     have:=(NR (fp:=fp) (h:=s5.heap) (p:=p) (by simpa[cxC] using hp)).1;rw[z]at this;exact this))
   refine⟨m',hm,i+1,acc++[v],its++[y],_,H8,weak I9,(later I9).1,(later I9).2,p8.2.1,?_,v3.append (.cons r8 .nil),q,w8⟩;rw[B5,O4];lia
theorem MP{pins:List (Addr×Obj)}{σ:St}{H2:Hp}{s2:Shared}{it:Addr}{fp:List Addr}{tn:Nat->Heap->Prop}{J:It}{RR:Value->Addr->Result->Shared->Prop}{E:Value->Shared->Prop}{Cq:Cx->Prop}(hc:∀s H ex,Cq (cxC X scope N s H ex))(S:Eh X scope N k cs)
  (hg:∀s H ex,PG (cxC X scope N s H ex) tg g) (ht:∀s H ex,PTs (cxC X scope N s H ex) ifs tc) (he:∀s H ex,PE (cxC X scope N s H ex) elt te)
  (I2:Inv X pins σ H2 s2) (T:WE Cq X.prog X.w X.K tg J fp it tn) (st:tn 0 s2.heap) (f2:∀b∈fp,Gg X pins H2 b) (hb:GV k cs g tc te J σ H2 fin)
  (hRR:∀(D C:Addr)(H':Hp)(acc:List V)(s4:Shared),fin acc H'->H' D=none->Inv X pins σ (upd H' D (.lst acc)) s4->(∃m,s4.heap.Ns C m)->Gg X pins (upd H' D (.lst acc)) C->RR (.ref D) C (.ok .next) s4) :
  wpAny (model X.prog X.w) X.A (newList []) (λacc s₃=>wpAny (model X.prog X.w) X.A (newFunctionEnv scope X.env.globals (RL X.env scope.names) [] X.env.qual none .none (some X.env)) (λcenv s₄ =>
   codeAny (model X.prog X.w) X.A (.compStart (.ListComp elt [⟨tg,iter,ifs,0⟩] scope pos) 0 (.ref it) acc {cenv with scope:=relabel scope X.env}) (RR acc cenv.locals) s₄) E s₃) E s2:=by
 refine A7c (wpAny_newFunctionEnv S.cell (by intro y hy;simp at hy) (λh₁ hns₁ hsb₁=>?_) S.kind);dsimp only at hns₁ hsb₁⊢;have keepD:∀b o,s2.heap.get? b=some o->(s2.heap.push {cls:=.type "list",dict:=none,data:=.seq ([]:List Value).toArray}).get? b=some o:=λb o e=>B3 _ e;have ID:Inv X pins σ H2 {s2 with heap:=s2.heap.push {cls:=.type "list",dict:=none,data:=.seq ([]:List Value).toArray} }:=I2.kept (t':=s2.toks) keepD;have hD:(s2.heap.push {cls:=.type "list",dict:=none,data:=.seq ([]:List Value).toArray}).get? s2.heap.objs.size=some {cls:=.type "list",data:=.seq ([]:List Value).toArray}:=D4 _ rfl;have nfp:s2.heap.objs.size∉fp:=λz=>by
  obtain⟨o,e,_⟩:=T.obj _ _ st _ z;exact absurd (D0 e) (P0 _)
 have stD:tn 0 (s2.heap.push {cls:=.type "list",dict:=none,data:=.seq ([]:List Value).toArray}):=T.keep _ _ _ st λb _ o e=>keepD b o e;have hk:∀b o,(s2.heap.push {cls:=.type "list",dict:=none,data:=.seq ([]:List Value).toArray}).get? b=some o->h₁.get? b=some o:=λb o e=>hsb₁.extBut b o (F0 (D0 e)) (B3 _ e);have loop:∀s₃:Shared,s₃={s2 with heap:=h₁,toks:=s2.toks+([]:List (Str×Value)).length} ->
   codeAny (model X.prog X.w) X.A (.compLoop (.ListComp elt [⟨tg,iter,ifs,0⟩] scope pos) 0 (.ref it) (.ref s2.heap.objs.size) (compEnvC scope (RL X.env scope.names) (s2.heap.push {cls:=.type "list",dict:=none,data:=.seq ([]:List Value).toArray}).objs.size X.env))
    (RR (.ref s2.heap.objs.size) (s2.heap.push {cls:=.type "list",dict:=none,data:=.seq ([]:List Value).toArray}).objs.size) s₃:=by
  rintro s₃ rfl;exact Ug (sD:={s2 with heap:=s2.heap.push {cls:=.type "list",dict:=none,data:=.seq ([]:List Value).toArray} }) hc S hg ht he ID hD I2.sz (I2.fpOk (B1 _) I2.fresh) nfp T stD f2 hb rfl I2.bare hk ⟨_,hns₁⟩ λH' acc s4=>hRR _ _ H' acc s4
 exact codeAny_compStart_list (loop _ rfl) (T.self _ 0 _ _ _ (T.keep _ _ _ stD λb _ o e=>hk b o e) (loop _ rfl))
theorem LT(hc:X.calm=true)(S:Eh X scope N k cs)(hi:PI X tg iter wi)(hg:∀s H ex,PG (cxC X scope N s H ex) tg g)(ht:∀s H ex,PTs (cxC X scope N s H ex) ifs tc)(he:∀s H ex,PE (cxC X scope N s H ex) elt te)
  (hs:∀x,foldedSetIterable iter X.env x=pure x:=by intro _;rfl):PE X (.ListComp elt [⟨tg,iter,ifs,0⟩] scope pos) (tComp k cs wi g tc te):=by
 intro pins s σ H Q I h;rw[eval_ListComp];refine wpAny_comprehension_free (use:=none) rfl hs (MR λy hy hf=>I.ok.has _ (S.free y hy hf)) S.kind S.names (thn (hi pins s σ H _ I h) λv s1 h1=>thn h1 λitv s2 h2=>?_);obtain⟨it,fp,tn,J,H2,rfl,I2,T,st2,f2,hb⟩:=h2;refine MP (RR:=λacc C=>compPost (model X.prog X.w) X.A X.xe none (EP X pins σ Q) acc C) (Cq:=λX=>X.calm=true) (λ_ _ _=>hc) S hg ht he I2 T.q st2 f2 hb λD C H' acc s4 qf nD J4 hn fC=>?_;obtain⟨m,hm⟩:=hn;refine⟨m,hm,λh' sb=>⟨.ref D,upd H' D (.lst acc),?_,rfl,qf D nD⟩⟩;exact J4.turned (t':=s4.toks) (it:=C) (λb o hb e=>(sb.2 b hb).trans e) fC.1 fC.2.1 fC.2.2.2.1 fC.2.2.2.2.1 fC.2.2.2.2.2
def UD(i k:Nat)(cs:List Nat)(wi:TI)(g:TG)(tc:TT)(te:TE):TS:=λD σ H=>wi σ H λJ H1=>GV k cs g tc te J σ H1 λacc H2=>∀p,H2 p=none->D.nx (σ.set i (some (.ref p))) (upd H2 p (.lst acc))
theorem Rf{i:Nat}{y:Str}{py spos:Pos}(hc:X.calm=true)(hN:X.N.Nodup)(hi':X.N[i]?=some y)(hy:X.env.scope.names.lookup y=some .local)(S:Eh X scope N k cs)(hi:PI X tg iter wi)
  (hg:∀s H ex,PG (cxC X scope N s H ex) tg g) (ht:∀s H ex,PTs (cxC X scope N s H ex) ifs tc) (he:∀s H ex,PE (cxC X scope N s H ex) elt te)
  (hsw:swapsWith (.ListComp elt [⟨tg,iter,ifs,0⟩] scope pos) (some (.Name y py)) spos.line X.env=pure true:=by rfl) (hs:∀x,foldedSetIterable iter X.env x=pure x:=by intro _;rfl) :
  PS X (.Assign [.Name y py] (.ListComp elt [⟨tg,iter,ifs,0⟩] scope pos) spos) (UD i k cs wi g tc te):=by
 intro pins s σ H D I h;rw[exec_Assign_Name_used _ _ _ _ hsw];refine Z2 (A7f (Z2 ?_));show wpAny _ X.A (do let _ <-comprehension (.ListComp elt [⟨tg,iter,ifs,0⟩] scope pos) scope X.env _ (newList []) false (eval iter X.env) (some (assign (.Name y py) X.env))) _ _ s;refine Z2 (K1 (wpAny_comprehension_free (use:=some (assign (.Name y py) X.env)) (Q:=λ_ s'=>SP X pins D .next s') rfl hs (MR λy hy hf=>I.ok.has _ (S.free y hy hf)) S.kind S.names
  (thn (hi pins s σ H _ I h) λv s1 h1=>thn h1 λitv s2 h2=>?_)) (λ_ s' hq=>Z9 (Z9 hq)) λ_ _ e=>e)
 obtain⟨it,fp,tn,J,H2,rfl,I2,T,st2,f2,hb⟩:=h2;refine MP (RR:=λacc C=>compPost (model X.prog X.w) X.A X.xe (some (assign (.Name y py) X.env)) (λ_ s'=>SP X pins D .next s') acc C) (Cq:=λX=>X.calm=true) (λ_ _ _=>hc) S hg ht he I2 T.q st2 f2 hb λL C H' acc s4 qf nD J4 hn fC=>?_;obtain⟨m,hm⟩:=hn;show wpAny _ X.A (assign (.Name y py) X.env (.ref L)) _ _ _;refine wpAny_assign_Name (NJ J4 hN hi' (.inl hy) (v:=.ref L) rfl (λs5 J5 hsb=>?_) (.inr hy));obtain⟨a,sb,ha⟩:=hsb;have nCa:C≠a:=by
  rcases ha with z|z
  ·rw[z];exact fC.2.1
  ·exact λq=>fC.2.2.2.2.1 y a z q.symm
 refine⟨m,hm.sameBut sb nCa,λh' sb'=>⟨σ.set i (some (.ref L)),upd H' L (.lst acc),?_,qf L nD⟩⟩;exact J5.turned (t':=s5.toks) (it:=C) (λb o hb e=>(sb'.2 b hb).trans e) fC.1 fC.2.1 fC.2.2.2.1 fC.2.2.2.2.1 fC.2.2.2.2.2
end
section
variable{K:W.Frag}{k:Nat}{cs:List Nat}{g:TG}{tc:TT}{te:TE}{σ:St}{H:Hp}{fin:List V->Hp->Prop}
abbrev Bt(k:Nat)(cs:List Nat)(g:TG)(tc:TT)(te:TE)(σ:St)(x:V)(acc:List V)(H:Hp)(Nx:List V->Hp->Prop):Prop :=
 g x (List.replicate k none++LJ cs σ) H fun σ2 H2=>(∃ts:St,ts.length=k/\σ2=ts++LJ cs σ)/\acc.length<sizeLine/\tc σ2 H2 λb H3=>if b=true then te σ2 H3 λv H4=>Nx (acc++[v]) H4 else Nx acc H3
theorem Wy{a:Addr}{xs:List V}(Pv:Nat->List V->Hp->Prop)(h0:Pv 0 [] H)(hl:∀i acc H,i<=xs.length->Pv i acc H->SqL K H a xs)
  (hs:∀i x acc H,xs[i]?=some x->Pv i acc H->Bt k cs g tc te σ x acc H (Pv (i+1))) (hd:∀acc H,Pv xs.length acc H->fin acc H):GV k cs g tc te (Itl K a) σ H fin:=by
 refine⟨λi m acc H=>m=xs.length-i/\i<=xs.length/\Pv i acc H,⟨xs.length,by simp,F5 _,h0⟩,?_⟩;rintro i m acc H ⟨rfl,hi,p⟩;have q:=hl i acc H hi p;by_cases hlt:i<xs.length
 ·refine .inr ⟨⟨xs,xs[i],q,by simp[hlt]⟩,Pv (i+1),λacc' H' p'=>⟨xs.length-(i+1),by lia,rfl,hlt,p'⟩,λx H' y=>?_⟩;obtain⟨e,y⟩:=y;subst e;exact hs i x acc _ (y xs q) p
 ·have e:i=xs.length:=by lia
  subst e;exact .inl ⟨⟨xs,q,B1 _⟩,hd acc H p⟩
theorem SQ{a:Addr}{xs:List V}(Pv:Nat->List V->Hp->Prop)(h0:Pv 0 [] H)(hl:∀i acc H,i<=xs.length->Pv i acc H->SqT K H a xs)
  (hs:∀i x acc H,xs[i]?=some x->Pv i acc H->Bt k cs g tc te σ x acc H (Pv (i+1))) (hd:∀acc H,Pv xs.length acc H->fin acc H):GV k cs g tc te (Itt K a) σ H fin:=by
 refine⟨λi m acc H=>m=xs.length-i/\i<=xs.length/\Pv i acc H,⟨xs.length,by simp,F5 _,h0⟩,?_⟩;rintro i m acc H ⟨rfl,hi,p⟩;have q:=hl i acc H hi p;by_cases hlt:i<xs.length
 ·refine .inr ⟨⟨xs,xs[i],q,by simp[hlt]⟩,Pv (i+1),λacc' H' p'=>⟨xs.length-(i+1),by lia,rfl,hlt,p'⟩,λx H' y=>?_⟩;obtain⟨e,y⟩:=y;subst e;exact hs i x acc _ (y xs q) p
 ·have e:i=xs.length:=by lia
  subst e;exact .inl ⟨⟨xs,q,B1 _⟩,hd acc H p⟩
theorem Uk{lo:Int}{n:Nat}(Pv:Nat->List V->Hp->Prop)(h0:Pv 0 [] H)(hs:∀i acc H,i<n->Pv i acc H->Bt k cs g tc te σ (.int (lo+i)) acc H (Pv (i+1)))(hd:∀acc H,Pv n acc H->fin acc H):GV k cs g tc te (Itr lo n) σ H fin:=by
 refine⟨λi m acc H=>m=n-i/\i<=n/\Pv i acc H,⟨n,by simp,F5 _,h0⟩,?_⟩;rintro i m acc H ⟨rfl,hi,p⟩;by_cases hlt:i<n
 ·refine .inr ⟨hlt,Pv (i+1),λacc' H' p'=>⟨n-(i+1),by lia,rfl,hlt,p'⟩,λx H' y=>?_⟩;obtain⟨e,y⟩:=y;subst e y;exact hs i acc _ hlt p
 ·have e:i=n:=by lia
  subst e;exact .inl ⟨B1 _,hd acc H p⟩
end
section
variable{prog:Program}{w:World}{A:Around}{E:Value->Shared->Prop}{s:Shared}
theorem JC{I t:Addr}{k:Nat}{vs:Array Value}{v:Value}{Q:Value->Shared->Prop}(hI:s.heap.IsTupleIter I t k)(hV:s.heap.IsTuple t vs)(hv:vs[k]?=some v)
  (q:∀g,g.IsTupleIter I t (k+1)->Heap.SameBut I s.heap g->Q v {s with heap:=g}):wpAny (model prog w) A (Builtin.SmallTypes.nextOf (.ref I)) Q E s:=by
 obtain⟨oI,eI,cI,dI⟩:=id hI;obtain⟨oV,eV,_,nV,dV⟩:=hV;unfold Builtin.SmallTypes.nextOf;refine Z2 (wpAny_callSpecial?_slot (name:=Str.ofString "__next__") hI.typeIs A3f (A1e A3f hI.typeIs F.entry_tuple_iterator_next ?_ (F.args_tuple_iterator_next_1 _)));show wpAny _ _ (field (.ref I) 0 >>= _) _ _ s;refine Z2 (K5 eI dI (x:=.ref t) rfl ?_);show wpAny _ _ (if(Value.ref t==Value.none)=true then _ else _) _ _ s;rw[Z5 (λz:(Value.ref t==Value.none)=true=>D6 z)];show wpAny _ _ (field (.ref I) 1 >>= _) _ _ s;refine Z2 (K5 eI dI (x:=.int k 0) rfl ?_);show wpAny _ _ (seqItems? (.ref t) >>= _) _ _ s;refine Z2 (A0g eV dV ?_);simp only[G7,hv];refine Z2 (A6a eI dI A5 (Z9 ⟨v,rfl,Z9 (q _ ?_ (Heap.SameBut.update ..))⟩));exact⟨_,R0 _ eI (A3b (A0e dI _)),(Obj.cls_mapFields ..).trans cI,by rw[A0e dI];simp[rawInt]⟩
theorem Lg{I t:Addr}{k:Nat}{vs:Array Value}{Q:Value->Shared->Prop}(hA:A.handled=none)(hI:s.heap.IsTupleIter I t k)(hV:s.heap.IsTuple t vs)(hv:vs[k]?=none)
  (q:∀g e,Heap.ExtBut I s.heap g->(∃o,g.get? e=some o/\o.cls=.type "StopIteration")->E (.ref e) {s with heap:=g}):wpAny (model prog w) A (Builtin.SmallTypes.nextOf (.ref I)) Q E s:=by
 obtain⟨oI,eI,cI,dI⟩:=id hI;obtain⟨oV,eV,_,nV,dV⟩:=hV;unfold Builtin.SmallTypes.nextOf;refine Z2 (wpAny_callSpecial?_slot (name:=Str.ofString "__next__") hI.typeIs A3f (A1e A3f hI.typeIs F.entry_tuple_iterator_next ?_ (F.args_tuple_iterator_next_1 _)));show wpAny _ _ (field (.ref I) 0 >>= _) _ _ s;refine Z2 (K5 eI dI (x:=.ref t) rfl ?_);show wpAny _ _ (if(Value.ref t==Value.none)=true then _ else _) _ _ s;rw[Z5 (λz:(Value.ref t==Value.none)=true=>D6 z)];show wpAny _ _ (field (.ref I) 1 >>= _) _ _ s;refine Z2 (K5 eI dI (x:=.int k 0) rfl ?_);show wpAny _ _ (seqItems? (.ref t) >>= _) _ _ s;refine Z2 (A0g eV dV ?_);simp only[G7,hv];refine Z2 (A1g (Z2 (A6a eI dI A5 ?_)));show wpAny _ _ (newExc (.type "StopIteration") [] >>= _) _ _ _;refine Z2 ?_;simp only[newExc,newTuple];refine Z2 (A7c ?_ (by size_fits));refine Z2 (m:=firstArgMember _ _) (wpAny_of_eq (a:=Value.none) (by first|rfl|(simp only[firstArgMember];rfl)) (A7c ?_ (by size_fits)));simp only[raiseNew];refine Z2 (wpAny_handled ?_)
 first|rw[show A.in1.handled=none from hA]|rw[hA]
 refine Z2 (Z9 (wpAny_throw (q _ _ (((Heap.SameBut.update ..).extBut.push _).push _) ⟨_,D4 _ rfl,rfl⟩)))
def Ce:Bool->Heap->Addr->Addr->Nat->Prop
 |true,h,I,l,k=>h.IsTupleIter I l k
 |false,h,I,l,k=>h.IsListIter I l k
def Df:Bool->Heap->Addr->Array Value->Prop
 |true,h,l,vs=>h.IsTuple l vs
 |false,h,l,vs=>h.IsList l vs
def SqX(K:W.Frag):Bool->Hp->Addr->List V->Prop
 |true,H,a,xs=>SqT K H a xs
 |false,H,a,xs=>SqL K H a xs
theorem Ce.move{b:Bool}{h g:Heap}{I l:Addr}{k:Nat}(x:Ce b h I l k)(e:∀o,h.get? I=some o->g.get? I=some o):Ce b g I l k:=by
 cases b with
 |true=>obtain⟨o,ho,r⟩:=x;exact⟨o,e _ ho,r⟩
 |false=>obtain⟨o,ho,r⟩:=x;exact⟨o,e _ ho,r⟩
theorem Ce.there{b:Bool}{h:Heap}{I l:Addr}{k:Nat}(x:Ce b h I l k):∃o,h.get? I=some o/\∀v,o.data≠.cell v:=by
 cases b with
 |true=>obtain⟨o,ho,_,d⟩:=x;exact⟨o,ho,λv z=>by rw[d]at z;cases z⟩
 |false=>obtain⟨o,ho,_,d⟩:=x;exact⟨o,ho,λv z=>by rw[d]at z;cases z⟩
theorem Df.move{b:Bool}{h g:Heap}{l:Addr}{vs:Array Value}(x:Df b h l vs)(e:∀o,h.get? l=some o->g.get? l=some o):Df b g l vs:=by
 cases b with
 |true=>obtain⟨o,ho,r⟩:=x;exact⟨o,e _ ho,r⟩
 |false=>obtain⟨o,ho,r⟩:=x;exact⟨o,e _ ho,r⟩
theorem CY{b:Bool}{I l:Addr}{k:Nat}{vs:Array Value}{v:Value}{Q:Value->Shared->Prop}(hI:Ce b s.heap I l k)(hV:Df b s.heap l vs)(hv:vs[k]?=some v)
  (q:∀g,Ce b g I l (k+1)->Heap.SameBut I s.heap g->Q v {s with heap:=g}):wpAny (model prog w) A (Builtin.SmallTypes.nextOf (.ref I)) Q E s:=by
 cases b with
 |true=>exact JC hI hV hv q
 |false=>exact wpAny_nextOf_list_item hI hV hv q
theorem EU{b:Bool}{I l:Addr}{k:Nat}{vs:Array Value}{Q:Value->Shared->Prop}(hA:A.handled=none)(hI:Ce b s.heap I l k)(hV:Df b s.heap l vs)(hv:vs[k]?=none)
  (q:∀g e,Heap.ExtBut I s.heap g->(∃o,g.get? e=some o/\o.cls=.type "StopIteration")->E (.ref e) {s with heap:=g}):wpAny (model prog w) A (Builtin.SmallTypes.nextOf (.ref I)) Q E s:=by
 cases b with
 |true=>exact Lg hA hI hV hv q
 |false=>exact wpAny_nextOf_list_end hA hI hV hv q
theorem EJ{b:Bool}{l:Addr}{vs:Array Value}{Q:Value->Shared->Prop}(hV:Df b s.heap l vs)
  (q:∀g,Ce b g s.heap.objs.size l 0->g.objs.size=s.heap.objs.size+1->(∀c o,s.heap.get? c=some o->g.get? c=some o)->Q (.ref s.heap.objs.size) {s with heap:=g}):wpAny (model prog w) A (pyIter (.ref l)) Q E s:=by
 cases b with
 |true=>exact wpAny_pyIter_tuple hV (q _ ⟨_,D4 _ rfl,rfl,rfl⟩ (Q5 ..) λc o e=>B3 _ e)
 |false=>exact A7a hV (q _ ⟨_,D4 _ rfl,rfl,rfl⟩ (Q5 ..) λc o e=>B3 _ e)
structure SZ(z U O i j l m:Addr):Prop where
 nd:[z,U,O,i,j].Nodup
 l:l∉[z,O,i,j]
 m:m∉[z,O,i,j]
theorem Ur{b c:Bool}{z U O i j l m:Addr}{k:Nat}{xs ys:Array Value}{x y p q:Value}{Q:Value->Shared->Prop}(D:SZ z U O i j l m)(hZ:IsZip s.heap z U O .none)(hU:IsPair s.heap U (.ref i) (.ref j))(hO:IsPair s.heap O p q)
  (hi:Ce b s.heap i l k) (hj:Ce c s.heap j m k) (hl:Df b s.heap l xs) (hm:Df c s.heap m ys) (hx:xs[k]?=some x) (hy:ys[k]?=some y)
  (fin:∀g,IsZip g z U O (rawInt s.heap.objs.size)->IsPair g O x y->Ce b g i l (k+1)->Ce c g j m (k+1)->IsPair g s.heap.objs.size x y->g.objs.size=s.heap.objs.size+1 ->
   (∀a o,a∉[z,O,i,j]->s.heap.get? a=some o->g.get? a=some o)->Q (.ref s.heap.objs.size) {s with heap:=g}) :
  wpAny (model prog w) A (Builtin.«zip.__next__» ⟨[.ref z],[]⟩) (λr s'=>∃v,r=.done (.ret v)/\Q v s') E s:=by
 obtain⟨nd,nl,nm⟩:=D;simp only[N9,B7,D8,K7,A5g,P2,and_true,A3h]at nd nl nm;obtain⟨⟨zU,zO,zi,zj⟩,⟨UO,Ui,Uj⟩,⟨Oi,Oj⟩,ij⟩:=nd;obtain⟨lz,lO,li,lj⟩:=nl;obtain⟨mz,mO,mi,mj⟩:=nm;show wpAny _ _ (field (.ref z) 2 >>= _) _ _ _;refine Z2 (K5 hZ rfl (x:=.bool false) rfl ?_);show wpAny _ _ (field (.ref z) 3 >>= _) _ _ _;refine Z2 (K5 hZ rfl (x:=.ref U) rfl (Z2 (A0g hU rfl ?_)));show wpAny _ _ (Builtin.SmallTypes.ownedTupleIsFree (.ref z) >>= _) _ _ _;refine Z2 ?_;unfold Builtin.SmallTypes.ownedTupleIsFree;refine Z2 (K5 hZ rfl (x:=.none) rfl (Z9 ?_));simp only[A5f];refine Z2 (A1g (Z2 (K5 hZ rfl (x:=.ref O) rfl (Z2 (A2f hZ A5 λh1 hZ1 s1=>?_)))));replace hZ1:IsZip h1 z U O .ellipsis:=hZ1;refine Z2 ?_;simp only[List.zipIdx_cons,List.zipIdx_nil,List.forIn_cons,List.forIn_nil];refine Z2 (Z2 (A9a ?_));show wpAny _ _ (Builtin.SmallTypes.nextOf (.ref i) >>= _) _ _ _;refine Z2 (CY (hi.move λo e=>s1.extBut _ _ (X5 zi) e) (hl.move λo e=>s1.extBut _ _ lz e) hx λh2 hi2 s2=>Z9 ?_);have hO2:IsPair h2 O p q:=s2.extBut _ _ Oi (s1.extBut _ _ (X5 zO) hO);refine Z2 (A0g hO2 rfl (Z2 (A8f hO2 λh3 hO3 s3=>?_)));replace hO3:IsPair h3 O x q:=hO3;refine Z2 (wpAny_letGo (Z9 (Z2 (Z2 (A9a ?_)))));show wpAny _ _ (Builtin.SmallTypes.nextOf (.ref j) >>= _) _ _ _;refine Z2 (CY (hj.move λo e=>s3.extBut _ _ (X5 Oj) (s2.extBut _ _ (X5 ij) (s1.extBut _ _ (X5 zj) e))) (hm.move λo e=>s3.extBut _ _ mO (s2.extBut _ _ mi (s1.extBut _ _ mz e))) hy λh4 hj4 s4=>Z9 ?_);have hO4:IsPair h4 O x q:=s4.extBut _ _ Oj hO3;refine Z2 (A0g hO4 rfl (Z2 (A8f hO4 λh5 hO5 s5=>?_)));replace hO5:IsPair h5 O x y:=hO5;refine Z2 (wpAny_letGo (Z9 (Z9 (Z2 (A0g hO5 rfl (Z2 (wpAny_newTuple ?_)))))));have sz:h5.objs.size=s.heap.objs.size:=by rw[s5.1,s4.1,s3.1,s2.1,s1.1]
 have hZ5:IsZip h5 z U O .ellipsis:=s5.extBut _ _ zO (s4.extBut _ _ zj (s3.extBut _ _ zO (s2.extBut _ _ zi hZ1)));have kp:∀a o,a∉[z,O,i,j]->s.heap.get? a=some o->h5.get? a=some o:=λa o ha e=>by
  simp only[B7,D8,K7,A5g]at ha;exact s5.extBut _ _ ha.2.1 (s4.extBut _ _ ha.2.2.2 (s3.extBut _ _ ha.2.1 (s2.extBut _ _ ha.2.2.1 (s1.extBut _ _ ha.1 e))))
 have hi5:Ce b h5 i l (k+1):=hi2.move λo e=>s5.extBut _ _ (X5 Oi) (s4.extBut _ _ ij (s3.extBut _ _ (X5 Oi) e));have hj5:Ce c h5 j m (k+1):=hj4.move λo e=>s5.extBut _ _ (X5 Oj) e;have zlt:z<h5.objs.size:=D0 hZ5;show wpAny _ _ (Builtin.SmallTypes.ownedTupleHandOut (.ref z) (.ref h5.objs.size) >>= _) _ _ _;refine Z2 ?_;unfold Builtin.SmallTypes.ownedTupleHandOut;have hZ6:IsZip (h5.push {cls:=.type "tuple",data:=.seq #[x,y]}) z U O .ellipsis:=B3 _ hZ5;refine Z2 (A2f hZ6 A5 λh7 hZ7 s7=>?_);replace hZ7:IsZip h7 z U O (rawInt h5.objs.size):=hZ7;refine A2f hZ7 A5 λh8 hZ8 s8=>?_;replace hZ8:IsZip h8 z U O (rawInt h5.objs.size):=hZ8;have up:∀a o,a≠z->h5.get? a=some o->h8.get? a=some o:=λa o na e=>s8.extBut _ _ na (s7.extBut _ _ na (B3 _ e));have hT:IsPair h8 h5.objs.size x y:=s8.extBut _ _ (U5 zlt) (s7.extBut _ _ (U5 zlt) (D4 _ rfl));have sz8:h8.objs.size=h5.objs.size+1:=by rw[s8.1,s7.1,Q5]
 rw[sz]at hZ8 hT sz8;refine Z9 ⟨_,rfl,?_⟩;show Q (.ref h5.objs.size) _;rw[sz];refine fin h8 hZ8 (up _ _ (X5 zO) hO5) (hi5.move λo e=>up _ o (X5 zi) e) (hj5.move λo e=>up _ o (X5 zj) e) hT sz8 λa o ha e=>up a o ?_ (kp a o ha e);simp only[B7,D8,K7,A5g]at ha;exact ha.1
theorem Uq{b c:Bool}{z U O i j l m:Addr}{k:Nat}{xs ys:Array Value}{p q:Value}{Q:Fin->Shared->Prop}(hA:A.handled=none)(D:SZ z U O i j l m)(hZ:IsZip s.heap z U O .none)(hU:IsPair s.heap U (.ref i) (.ref j))(hO:IsPair s.heap O p q)
  (hi:Ce b s.heap i l k) (hj:Ce c s.heap j m k) (hl:Df b s.heap l xs) (hm:Df c s.heap m ys) (hend:xs[k]?=none\/ys[k]?=none)
  (fin:∀g e,(∀a o,a∉[z,O,i,j]->s.heap.get? a=some o->g.get? a=some o)->(∃o,g.get? e=some o/\o.cls=.type "StopIteration")->E (.ref e) {s with heap:=g}) :
  wpAny (model prog w) A (Builtin.«zip.__next__» ⟨[.ref z],[]⟩) Q E s:=by
 obtain⟨nd,nl,nm⟩:=D;simp only[N9,B7,D8,K7,A5g,P2,and_true,A3h]at nd nl nm;obtain⟨⟨zU,zO,zi,zj⟩,⟨UO,Ui,Uj⟩,⟨Oi,Oj⟩,ij⟩:=nd;obtain⟨lz,lO,li,lj⟩:=nl;obtain⟨mz,mO,mi,mj⟩:=nm;show wpAny _ _ (field (.ref z) 2 >>= _) _ _ _;refine Z2 (K5 hZ rfl (x:=.bool false) rfl ?_);show wpAny _ _ (field (.ref z) 3 >>= _) _ _ _;refine Z2 (K5 hZ rfl (x:=.ref U) rfl (Z2 (A0g hU rfl ?_)));show wpAny _ _ (Builtin.SmallTypes.ownedTupleIsFree (.ref z) >>= _) _ _ _;refine Z2 ?_;unfold Builtin.SmallTypes.ownedTupleIsFree;refine Z2 (K5 hZ rfl (x:=.none) rfl (Z9 ?_));simp only[A5f];refine Z2 (A1g (Z2 (K5 hZ rfl (x:=.ref O) rfl (Z2 (A2f hZ A5 λh1 hZ1 s1=>?_)))));replace hZ1:IsZip h1 z U O .ellipsis:=hZ1;refine Z2 ?_;simp only[List.zipIdx_cons,List.zipIdx_nil,List.forIn_cons,List.forIn_nil];refine Z2 (Z2 (A9a ?_));show wpAny _ _ (Builtin.SmallTypes.nextOf (.ref i) >>= _) _ _ _;have out:∀{a:Addr},a∉[z,O,i,j]->a≠z/\a≠O/\a≠i/\a≠j:=λha=>by simpa only[B7,D8,K7,A5g] using ha
 cases hx:xs[k]? with
 |none =>
  refine Z2 (EU hA (hi.move λo e=>s1.extBut _ _ (X5 zi) e) (hl.move λo e=>s1.extBut _ _ lz e) hx λh2 e s2 he=>?_);obtain⟨oe,hoe,hce⟩:=he;have hZ2:IsZip h2 z U O .ellipsis:=s2 _ _ zi hZ1;have ez:e≠z:=λt=>by subst t;rw[hZ2]at hoe;cases hoe;simp at hce
  exact A2f hZ2 A5 λh3 _ s3=>fin h3 e (λa o ha t=>s3.extBut _ _ (out ha).1 (s2 _ _ (out ha).2.2.1 (s1.extBut _ _ (out ha).1 t))) ⟨oe,s3.extBut _ _ ez hoe,hce⟩
 |some x =>
  have hy:ys[k]?=none:=by
   rcases hend with t|t
   ·rw[hx]at t;cases t
   ·exact t
  refine Z2 (CY (hi.move λo e=>s1.extBut _ _ (X5 zi) e) (hl.move λo e=>s1.extBut _ _ lz e) hx λh2 hi2 s2=>Z9 ?_);have hO2:IsPair h2 O p q:=s2.extBut _ _ Oi (s1.extBut _ _ (X5 zO) hO);refine Z2 (A0g hO2 rfl (Z2 (A8f hO2 λh3 hO3 s3=>?_)));refine Z2 (wpAny_letGo (Z9 (Z2 (Z2 (A9a ?_)))));show wpAny _ _ (Builtin.SmallTypes.nextOf (.ref j) >>= _) _ _ _;refine Z2 (EU hA (hj.move λo e=>s3.extBut _ _ (X5 Oj) (s2.extBut _ _ (X5 ij) (s1.extBut _ _ (X5 zj) e))) (hm.move λo e=>s3.extBut _ _ mO (s2.extBut _ _ mi (s1.extBut _ _ mz e))) hy λh4 e s4 he=>?_);obtain⟨oe,hoe,hce⟩:=he;have hZ4:IsZip h4 z U O .ellipsis:=s4 _ _ zj (s3.extBut _ _ zO (s2.extBut _ _ zi hZ1));have ez:e≠z:=λt=>by subst t;rw[hZ4]at hoe;cases hoe;simp at hce
  exact A2f hZ4 A5 λh5 _ s5=>fin h5 e (λa o ha t=>s5.extBut _ _ (out ha).1 (s4 _ _ (out ha).2.2.2 (s3.extBut _ _ (out ha).2.1 (s2.extBut _ _ (out ha).2.2.1 (s1.extBut _ _ (out ha).1 t))))) ⟨oe,s5.extBut _ _ ez hoe,hce⟩
theorem Us(g2:Heap)(n:Nat)(e2:g2.objs.size=n+2)(i j:Value):∃g5,g5=((g2.push {cls:=.type "tuple",data:=.seq #[i,j]}).push {cls:=.type "tuple",data:=.seq #[.none,.none]}).push
   {cls:=.type "zip",data:=.fields #[.none,.bool false,.bool false,.ref g2.objs.size,.ref (g2.push {cls:=.type "tuple",data:=.seq #[i,j]}).objs.size]} /\
  IsZip g5 (n+4) (n+2) (n+3) .none/\IsPair g5 (n+2) i j/\IsPair g5 (n+3) .none .none/\(∀a o,g2.get? a=some o->g5.get? a=some o) /\
  ((g2.push {cls:=.type "tuple",data:=.seq #[i,j]}).push {cls:=.type "tuple",data:=.seq #[.none,.none]}).objs.size=n+4:=by
 have e3:(g2.push {cls:=.type "tuple",data:=.seq #[i,j]}).objs.size=n+3:=by rw[Q5,e2]
 have e4:((g2.push {cls:=.type "tuple",data:=.seq #[i,j]}).push {cls:=.type "tuple",data:=.seq #[.none,.none]}).objs.size=n+4:=by rw[Q5,e3]
 refine⟨_,rfl,?_,?_,?_,λa o e=>B3 _ (B3 _ (B3 _ e)),e4⟩
 ·have q:=D4 ((g2.push {cls:=.type "tuple",data:=.seq #[i,j]}).push {cls:=.type "tuple",data:=.seq #[.none,.none]}) (o:={cls:=.type "zip",data:=.fields #[.none,.bool false,.bool false,.ref g2.objs.size,.ref (g2.push {cls:=.type "tuple",data:=.seq #[i,j]}).objs.size]}) rfl;rw[e4]at q;show _=some _;rw[q,e2,e3]
 ·have q:=B3 {cls:=.type "zip",data:=.fields #[.none,.bool false,.bool false,.ref g2.objs.size,.ref (g2.push {cls:=.type "tuple",data:=.seq #[i,j]}).objs.size]} (B3 {cls:=.type "tuple",data:=.seq #[.none,.none]} (D4 g2 (o:={cls:=.type "tuple",data:=.seq #[i,j]}) rfl));rw[<-e2];exact q
 ·have q:=B3 {cls:=.type "zip",data:=.fields #[.none,.bool false,.bool false,.ref g2.objs.size,.ref (g2.push {cls:=.type "tuple",data:=.seq #[i,j]}).objs.size]} (D4 (g2.push {cls:=.type "tuple",data:=.seq #[i,j]}) (o:={cls:=.type "tuple",data:=.seq #[.none,.none]}) rfl);rw[<-e3];exact q
theorem TD{b c:Bool}(l m:Addr)(xs ys:Array Value):Meets (Builtin.«zip.__new__» ⟨[.type "zip",.ref l,.ref m],[]⟩) (λ_ R s=>Df b s.heap l xs/\Df c s.heap m ys /\
   ∀g,IsZip g (s.heap.objs.size+4) (s.heap.objs.size+2) (s.heap.objs.size+3) .none->IsPair g (s.heap.objs.size+2) (.ref s.heap.objs.size) (.ref (s.heap.objs.size+1))->IsPair g (s.heap.objs.size+3) .none .none ->
    Ce b g s.heap.objs.size l 0->Ce c g (s.heap.objs.size+1) m 0->(∀a o,s.heap.get? a=some o->g.get? a=some o)->R (.ok (.ret (.ref (s.heap.objs.size+4)))) {s with heap:=g}) :=
 .of_wp λprog w A R s h=>by
  obtain⟨hp,g,d,tk,os⟩:=s;obtain⟨hl,hm,h⟩:=h;have hsub:=sub_zip
  wp_walk using EJ hl
  intro g1 i1 z1 k1;have hm1:Df c (Shared.heap ⟨g1,g,d,tk,os⟩) m ys:=hm.move λo e=>k1 _ o e
  wp_walk using EJ hm1
  intro g2 i2 z2 k2
  wp_walk
  refine⟨_,rfl,?_⟩;have e1:g1.objs.size=hp.objs.size+1:=z1;have e2:g2.objs.size=hp.objs.size+2:=by rw[show g2.objs.size=g1.objs.size+1 from z2,e1]
  obtain⟨g5,e5,a1,a2,a3,k5,s5⟩:=Us g2 hp.objs.size e2 (.ref hp.objs.size) (.ref g1.objs.size);have a2':IsPair g5 (hp.objs.size+2) (.ref hp.objs.size) (.ref (hp.objs.size+1)):=by rw[<-e1];exact a2
  have i2':Ce c g2 (hp.objs.size+1) m 0:=by rw[<-e1];exact i2
  have key:=h g5 a1 a2' a3 ((i1.move λo e=>k2 _ o e).move λo e=>k5 _ o e) (i2'.move λo e=>k5 _ o e) λa o e=>k5 _ _ (k2 _ _ (k1 _ _ e));dsimp only at key;rw[e5,<-s5]at key;exact key
theorem Inv.turnedL{X:Cx}{pins:List (Addr×Obj)}{σ:St}{H:Hp}{s:Shared}{g:Heap}{tk:Nat}{ch:List Addr}(I:Inv X pins σ H s)(k:∀b o,b∉ch->s.heap.get? b=some o->g.get? b=some o)(hch:∀b∈ch,Gg X pins H b):Inv X pins σ H {s with heap:=g,toks:=tk}:=by
 have nch:∀b u,H b=some u->b∉ch:=λb u e z=>by rw[(hch b z).1]at e;cases e
 refine I.step (g':=s.gens) (d':=s.drawn) (ch:=ch) (λb hb=>⟨(hch b hb).2.2.2.1,(hch b hb).2.1,(hch b hb).2.2.2.2.1,(hch b hb).2.2.2.2.2⟩) (λb o _ _ hc e _=>k b o hc e) (λb o _ _ hc e _=>⟨o.slots,k b o hc e⟩) (λ_ _ _ _ n=>n)
  (λb o hc e=>⟨o,k b o hc e⟩) (λ_ _ e=>e) (λ_ _ _ e=>e) (λb ps e=>⟨#[],by rw[e];simp⟩) (λm hm=>?_) (λb u e=>?_) I.bare
 ·obtain⟨o,es,ep,ho,r⟩:=hm;exact⟨o,es,ep,k _ o (λz=>(hch _ z).2.1 rfl) ho,r⟩
 ·refine(I.hok b u e).stay (λc v hc q=>k c v ?_ q) (λ_ q=>q) λ_ _ q=>q;rcases hc with z|z
  ·rw[z];exact nch b u e
  ·exact nch c _ z
theorem Inv.pair{X:Cx}{pins:List (Addr×Obj)}{σ:St}{H:Hp}{s:Shared}{g:Heap}{tk n:Nat}{ch:List Addr}{x y:V}{u v:Value}(I:Inv X pins σ H s)(k:∀b o,b∉ch->s.heap.get? b=some o->g.get? b=some o)(hch:∀b∈ch,Gg X pins H b)
  (rx:Bb x u) (ry:Bb y v) (e:g.get? s.heap.objs.size=some {cls:=.type "tuple",data:=.seq #[u,v] n}):H s.heap.objs.size=none/\Inv X pins σ (upd H s.heap.objs.size (.tup [x,y])) {s with heap:=g,toks:=tk}:=by
 have f:=I.fpOk (B1 _) I.fresh;refine⟨f.1,(I.turnedL (tk:=tk) k hch).track f.1 (P8 I.sz) (P8 (C8 I.ok.bsz I.sz)) (X5 f.2.1) f.2.2.2.2.1 f.2.2.2.2.2 (λb hb z=>f.2.2.1 (z▸hb)) ?_⟩;exact⟨by show 2<=sizeLine;decide,[u,v],.cons rx (.cons ry .nil),_,e,rfl,n,rfl⟩
theorem Inv.sq{X:Cx}{pins:List (Addr×Obj)}{σ:St}{H:Hp}{s:Shared}{b:Bool}{a:Addr}{xs:List V}(I:Inv X pins σ H s)(h:SqX X.K b H a xs):∃its:List Value,AN xs its/\Df b s.heap a its.toArray:=by
 cases b with
 |true =>
  obtain⟨its,r,p,_⟩:=I.tuple h;exact⟨its,r,p⟩
 |false =>
  obtain⟨its,r,p,_⟩:=I.list h;exact⟨its,r,p.isList⟩
theorem Inv.sq_inj{X:Cx}{pins:List (Addr×Obj)}{σ:St}{H:Hp}{s:Shared}{b:Bool}{a:Addr}{xs ys:List V}(I:Inv X pins σ H s)(h:SqX X.K b H a xs)(h':SqX X.K b H a ys):xs=ys:=by
 cases b with
 |true=>exact I.tuple_inj h h'
 |false=>exact I.list_inj h h'
def Itz(K:W.Frag)(b c:Bool)(l m:Addr):It :=
 ⟨λi H=>∃xs ys x y,SqX K b H l xs/\SqX K c H m ys/\xs[i]?=some x/\ys[i]?=some y,
  λi H v H'=>∃(T:Addr)(x y:V),v=.ref T/\H T=none/\H'=upd H T (.tup [x,y])/\(∀xs,SqX K b H l xs->xs[i]?=some x)/\∀ys,SqX K c H m ys->ys[i]?=some y,
  λi H=>∃xs ys,SqX K b H l xs/\SqX K c H m ys/\(xs.length<=i\/ys.length<=i)⟩
def ZipTn(b c:Bool)(z U O i j l m:Addr)(k:Nat)(h:Heap):Prop:=IsZip h z U O .none/\IsPair h U (.ref i) (.ref j)/\(∃p q,IsPair h O p q)/\Ce b h i l k/\Ce c h j m k
theorem UA{P:Program}{w:World}{K:W.Frag}{es:List Expr}{n:Nat}{tpos:Pos}{b c:Bool}{z U O i j l m:Addr}(D:SZ z U O i j l m):Px P w K (.Tuple es n tpos) (Itz K b c l m) [z,U,O,i,j] z (ZipTn b c z U O i j l m) where
 mem:=by simp
 obj:=λk h st a ha=>by
  obtain⟨hZ,hU,⟨p,q,hO⟩,hi,hj⟩:=st;simp only[B7,D8,K7]at ha;rcases ha with rfl|rfl|rfl|rfl|rfl
  ·exact⟨_,hZ,λv t=>by cases t⟩
  ·exact⟨_,hU,λv t=>by cases t⟩
  ·exact⟨_,hO,λv t=>by cases t⟩
  ·exact hi.there
  ·exact hj.there
 keep:=λk h h' st kp=>by
  obtain⟨hZ,hU,⟨p,q,hO⟩,hi,hj⟩:=st;exact⟨kp z A5 _ hZ,kp U A5 _ hU,⟨p,q,kp O A5 _ hO⟩,hi.move λo e=>kp i A5 o e,hj.move λo e=>kp j A5 o e⟩
 item:=by
  intro X hP hw hK hc k pins s σ H E I hf st hg;subst hP hw hK;obtain⟨hZ,hU,⟨p,q,hO⟩,hi,hj⟩:=st;obtain⟨xs,ys,x,y,sx,sy,hx,hy⟩:=hg;obtain⟨us,ru,ou⟩:=I.sq sx;obtain⟨vs,rv,ov⟩:=I.sq sy;obtain⟨u,hu,rxu⟩:=ru.get hx;obtain⟨v,hv,ryv⟩:=rv.get hy;have hT:s.TypeIs (.ref z) "zip" := ⟨_,hZ,rfl⟩
  unfold pyNext;refine Z2 (A7e (wpAny_callSpecial?_slot (name:=Str.ofString "__next__") hT A8d (A1e A8d hT F.entry_zip_next (Ur D hZ hU hO hi hj ou ov (by simpa using hu) (by simpa using hv) λg gZ gO gi gj gT gs gk=>Z9 ⟨_,rfl,?_⟩) (F.args_zip_next_1 _))));refine wpAny_letOwnedTupleGo_zip (s:={s with heap:=g}) gZ λg2 gZ2 sb=>?_;obtain⟨nd,nl,nm⟩:=D;simp only[N9,B7,D8,K7,A5g,P2,and_true,A3h]at nd;obtain⟨⟨zU,zO,zi,zj⟩,⟨UO,Ui,Uj⟩,⟨Oi,Oj⟩,ij⟩:=nd;have zlt:z<s.heap.objs.size:=D0 hZ;have kk:∀a o,a∉[z,O,i,j]->s.heap.get? a=some o->g2.get? a=some o:=λa o ha e=>(sb.2 a (λt=>ha (by simp[t]))).trans (gk a o ha e);have fch:∀a∈[z,O,i,j],Gg X pins H a:=λa ha=>hf a (by
   simp only[B7,D8,K7]at ha⊢;rcases ha with t|t|t|t<;>simp[t])
  obtain⟨nT,J⟩:=I.pair (tk:=s.toks) kk fch rxu ryv ((sb.2 _ (U5 zlt)).trans gT);refine⟨.ref s.heap.objs.size,_,J,rfl,⟨_,x,y,rfl,nT,rfl,λxs' q'=>by rw[I.sq_inj q' sx];exact hx,λys' q'=>by rw[I.sq_inj q' sy];exact hy⟩,⟨gZ2,kk U _ ?_ hU,⟨u,v,(sb.2 O (X5 zO)).trans gO⟩,gi.move λo e=>(sb.2 i (X5 zi)).trans e,gj.move λo e=>(sb.2 j (X5 zj)).trans e⟩,λa ha=>?_⟩
  ·simp only[B7,D8,K7,A5g];exact⟨X5 zU,UO,Ui,Uj⟩
  ·have e:=(hf a ha).1;have lt:a≠s.heap.objs.size:=by
    simp only[B7,D8,K7]at ha;rcases ha with t|t|t|t|t<;>subst t
    ·exact F0 zlt
    ·exact F0 (D0 hU)
    ·exact F0 (D0 hO)
    ·obtain⟨o,e,_⟩:=hi.there;exact F0 (D0 e)
    ·obtain⟨o,e,_⟩:=hj.there;exact F0 (D0 e)
   rw[AD lt];exact e
 done:=by
  intro X hP hw hK hc k pins s σ H E I hf st hg;subst hP hw hK;obtain⟨hZ,hU,⟨p,q,hO⟩,hi,hj⟩:=st;obtain⟨xs,ys,sx,sy,hend⟩:=hg;obtain⟨us,ru,ou⟩:=I.sq sx;obtain⟨vs,rv,ov⟩:=I.sq sy;have lu:=ru.length;have lv:=rv.length;have hT:s.TypeIs (.ref z) "zip" := ⟨_,hZ,rfl⟩
  have he:us.toArray[k]?=none\/vs.toArray[k]?=none:=hend.imp (λt=>by simp;lia) (λt=>by simp;lia);unfold pyNext;refine Z2 (A7e (wpAny_callSpecial?_slot (name:=Str.ofString "__next__") hT A8d (A1e A8d hT F.entry_zip_next (Uq (I.ok.hd hc) D hZ hU hO hi hj ou ov he λg e gk ge=>?_) (F.args_zip_next_1 _))));obtain⟨o,ho,hcl⟩:=ge;refine Z2 (A4h (T:="StopIteration") (b:=true) ⟨o,ho,hcl⟩ isSubtype_stop (Z9 ⟨rfl,?_⟩));exact I.turnedL (tk:=s.toks) gk λa ha=>hf a (by
   simp only[B7,D8,K7]at ha⊢;rcases ha with t|t|t|t<;>simp[t])
 self:=λ_ _ _ _ _ st h=>wpAny_pyIter_zip st.1 h
end
theorem Df.obj{b:Bool}{h:Heap}{l:Addr}{vs:Array Value}(x:Df b h l vs):∃o,h.get? l=some o:=by
 cases b with
 |true=>obtain⟨o,e,_⟩:=x;exact⟨o,e⟩
 |false=>obtain⟨o,e,_⟩:=x;exact⟨o,e⟩
theorem Uc(g1:Heap)(n:Nat)(e1:g1.objs.size=n+1):∃g2,g2=g1.push {cls:=.type "enumerate",data:=.fields #[.none,.bool false,.ref n,rawInt 0,.none,.none]}/\IsEnum g2 (n+1) n 0 .none/\∀a o,g1.get? a=some o->g2.get? a=some o:=by
 refine⟨_,rfl,?_,λa o e=>B3 _ e⟩;have q:=D4 g1 (o:={cls:=.type "enumerate",data:=.fields #[.none,.bool false,.ref n,rawInt 0,.none,.none]}) rfl;rw[e1]at q;exact q
set_option maxHeartbeats 1000000 in
theorem Rv{b:Bool}(l:Addr)(xs:Array Value):Meets (Builtin.«enumerate.__new__» ⟨[.type "enumerate",.ref l],[]⟩) (λ_ R s=>Df b s.heap l xs /\
   ∀g,IsEnum g (s.heap.objs.size+1) s.heap.objs.size 0 .none->Ce b g s.heap.objs.size l 0->(∀a o,s.heap.get? a=some o->g.get? a=some o)->R (.ok (.ret (.ref (s.heap.objs.size+1)))) {s with heap:=g}) :=
 .of_wp λprog w A R s h=>by
  obtain⟨hp,g,d,tk,os⟩:=s;obtain⟨hl,h⟩:=h;obtain⟨ol,eol⟩:=hl.obj;have hsub:=sub_enumerate;have fin:∀g1,Ce b g1 hp.objs.size l 0->g1.objs.size=hp.objs.size+1->(∀c o,hp.get? c=some o->g1.get? c=some o)->∃v,Fin.done (Flow.ret (.ref g1.objs.size))=Fin.done (Flow.ret v)/\R (.ok (.ret v)) ⟨g1.push {cls:=.type "enumerate",data:=.fields #[.none,.bool false,.ref hp.objs.size,rawInt 0,.none,.none]},g,d,tk,os⟩:=λg1 i1 z1 k1=>by
   obtain⟨g2,e2,a1,k2⟩:=Uc g1 hp.objs.size z1;refine⟨_,rfl,?_⟩;have key:=h g2 a1 (i1.move λo e=>k2 _ o e) λa o e=>k2 _ _ (k1 _ _ e);dsimp only at key;rw[e2,<-z1]at key;exact key
  wp_walk using AutoSeq1.wpAny_loadPart' eol
  refine wpAny_stack_any λst=>Z9 ?_;split
  ·rename_i c' _ _ _ _ _;cases(c'==Value.type "enumerate")
   ·wp_walk using AutoSeq1.wpAny_loadPart' eol,EJ hl
    intro g1 i1 z1 k1
    wp_walk
    exact fin g1 i1 z1 k1
   ·wp_walk using AutoSeq1.wpAny_loadPart' eol,EJ hl
    intro g1 i1 z1 k1
    wp_walk
    exact fin g1 i1 z1 k1
  ·wp_walk using AutoSeq1.wpAny_loadPart' eol,EJ hl
   intro g1 i1 z1 k1
   wp_walk
   exact fin g1 i1 z1 k1
theorem Oe{prog:Program}{w:World}{A:Around}{b:Bool}(hA:A.handled=none)(I l:Addr)(ne:l≠I)(vs:Array Value) :
  Draws prog w A I [I,l] vs.size (λk v=>vs[k]?=some v) (λk h=>Ce b h I l k/\Df b h l vs) where
 live:=λ_ _ st=>let ⟨o,ho,_⟩:=st.1.there;⟨o,ho⟩
 frame:=λ_ _ _ st hk=>⟨st.1.move λo e=>hk I A5 o e,st.2.move λo e=>hk l A5 o e⟩
 item:=λk s Q E hi st hQ=>CY st.1 st.2 (v:=vs[k]) (by simp[hi]) λg hI sb=>hQ _ g s.toks (by simp[hi]) ⟨hI,st.2.move λo e=>(sb.2 l ne).trans e⟩ sb
 done:=λs Q E st hE=>EU hA st.1 st.2 A5 hE
def Ite(K:W.Frag)(b:Bool)(l:Addr):It :=
 ⟨λi H=>∃xs x,SqX K b H l xs/\xs[i]?=some x,
  λi H v H'=>∃(T:Addr)(x:V),v=.ref T/\H T=none/\H'=upd H T (.tup [.int i,x])/\∀xs,SqX K b H l xs->xs[i]?=some x,
  λi H=>∃xs,SqX K b H l xs/\xs.length=i⟩
theorem Tc{P:Program}{w:World}{K:W.Frag}{es:List Expr}{n:Nat}{tpos:Pos}{b:Bool}{e I l:Addr}(eI:e≠I)(le:l≠e)(lI:l≠I) :
  Px P w K (.Tuple es n tpos) (Ite K b l) [e,I] e (λk h=>(∃old,IsEnum h e I k old)/\Ce b h I l k) where
 mem:=by simp
 obj:=λk h st a ha=>by
  obtain⟨⟨old,he⟩,hI⟩:=st;simp only[B7,D8,K7]at ha;rcases ha with rfl|rfl
  ·exact⟨_,he,λv t=>by cases t⟩
  ·exact hI.there
 keep:=λk h h' st kp=>by
  obtain⟨⟨old,he⟩,hI⟩:=st;exact⟨⟨old,kp e A5 _ he⟩,hI.move λo t=>kp I A5 o t⟩
 item:=by
  intro X hP hw hK hc k pins s σ H E J hf st hg;subst hP hw hK;obtain⟨⟨old,he⟩,hI⟩:=st;obtain⟨xs,x,sx,hx⟩:=hg;obtain⟨us,ru,ou⟩:=J.sq sx;have lu:=ru.length;have hk:k<xs.length:=(B8.mp hx).1;refine wpAny_pyNext_enum_itemD (Oe (b:=b) (A:=X.A.in1) (J.ok.hd hc) I l lI us.toArray) he ⟨hI,ou⟩ (by simp;lia) eI (by simp[eI,X5 le]) λu g tk hu gE gS gT gs gk=>⟨_,rfl,?_⟩
  obtain⟨u',hu',rxu⟩:=ru.get hx;have eu:u=u':=by
   have:us[k]?=some u:=by simpa using hu
   rw[hu']at this;exact(X2 this).symm
  subst eu;refine wpAny_letOwnedTupleGo_enum (s:={s with heap:=g,toks:=tk+1}) gE λg2 gE2 sb=>?_;have elt:e<s.heap.objs.size:=D0 he;have kk:∀a o,a∉[e,I]->s.heap.get? a=some o->g2.get? a=some o:=λa o ha t=>(sb.2 a (λz=>ha (by simp[z]))).trans (gk a o (λz=>ha (by simp[z])) (λz=>ha (by simp[z])) t);obtain⟨nT,J2⟩:=J.pair (tk:=tk+1) (x:=.int k) (u:=.int k tk) kk hf ⟨tk,rfl⟩ rxu ((sb.2 _ (U5 elt)).trans gT);refine⟨.ref s.heap.objs.size,_,J2,rfl,⟨_,x,rfl,nT,rfl,λxs' q'=>by rw[J.sq_inj q' sx];exact hx⟩,⟨⟨_,by simpa using gE2⟩,gS.1.move λo t=>(sb.2 I (X5 eI)).trans t⟩,λa ha=>?_⟩;have t:=(hf a ha).1;have lt:a≠s.heap.objs.size:=by
   simp only[B7,D8,K7]at ha;rcases ha with z|z<;>subst z
   ·exact F0 elt
   ·obtain⟨o,t,_⟩:=hI.there;exact F0 (D0 t)
  rw[AD lt];exact t
 done:=by
  intro X hP hw hK hc k pins s σ H E J hf st hg;subst hP hw hK;obtain⟨⟨old,he⟩,hI⟩:=st;obtain⟨xs,sx,hend⟩:=hg;obtain⟨us,ru,ou⟩:=J.sq sx;have lu:=ru.length;have ek:k=us.toArray.size:=by simp;lia
  refine wpAny_pyNext_enum_endD (Oe (b:=b) (A:=X.A.in1) (J.ok.hd hc) I l lI us.toArray) he ⟨ek▸hI,ou⟩ λg gk=>⟨rfl,?_⟩
  exact J.turnedL (tk:=s.toks) (ch:=[e,I]) (λa o ha t=>gk a o (λz=>ha (by simp[z])) t) hf
 self:=λA i s Q E st h=>by
  obtain⟨⟨old,he⟩,_⟩:=st;exact wpAny_pyIter_enum he h
section
variable{X:Cx}{es:List Expr}{n:Nat}{tpos p pos:Pos}{e1 e2:Expr}{t:TA}
def iZip(b c:Bool)(K:W.Frag)(t:TA):TI:=fun σ H R=>t σ H λvs H1=>∃(l m:Addr),vs=[.ref l,.ref m]/\(∃xs,SqX K b H1 l xs)/\(∃ys,SqX K c H1 m ys)/\R (Itz K b c l m) H1
theorem Df.lt{b:Bool}{h:Heap}{l:Addr}{vs:Array Value}(x:Df b h l vs):l<h.objs.size:=by
 cases b with
 |true=>obtain⟨o,e,_⟩:=x;exact D0 e
 |false=>obtain⟨o,e,_⟩:=x;exact D0 e
theorem apart5(n l m:Nat)(hl:l<n)(hm:m<n):SZ (n+4) (n+2) (n+3) n (n+1) l m:=by
 refine⟨(show([n+4,n+2,n+3,n,n+1]:List Nat).Nodup from ?_),(show l∉([n+4,n+3,n,n+1]:List Nat)from ?_),(show m∉([n+4,n+3,n,n+1]:List Nat)from ?_)⟩
 ·simp only[N9,B7,D8,K7,A5g,P2,and_true,A3h];lia
 ·simp only[B7,D8,K7,A5g];lia
 ·simp only[B7,D8,K7,A5g];lia
theorem pi_zip(b c:Bool)(hg:Gl X "zip")(hm:X.mg "zip" = none)(ha:PA X [e1,e2] t)(hs:starEach [e1,e2] X.env=[(false,eval e1 X.env),(false,eval e2 X.env)]:=by rfl)(hs2:starEach [e2] X.env=[(false,eval e2 X.env)]:=by rfl) :
  PI X (.Tuple es n tpos) (.Call (.Name "zip" p) [e1,e2] [] pos) (iZip b c X.K t):=by
 intro pins s σ H R I h;refine Call_ (Jl I hg hm PyProof.Rows.boot_zip (A1a (thn (ha pos pins s σ H _ I h) λus s1 ⟨vs,H1,I1,r1,q1⟩=>?_) (by rw[hs,hs2]) (by rw[hs2];rfl)));obtain⟨l,m,rfl,⟨xs,sx⟩,⟨ys,sy⟩,q⟩:=q1;obtain⟨u,v,rfl,ru,rv⟩:=r1.two;cases(show u=Value.ref l from ru);cases(show v=Value.ref m from rv);obtain⟨ul,_,ol⟩:=I1.sq sx;obtain⟨um,_,om⟩:=I1.sq sy;refine callType_new F.called_zip A3 (F.typeCall_zip_2 _ _) (F.newCall_zip_2 _ _) (λobj=>F.args_object_init_3 obj _ _) F.entry_zip_new (TD (b:=b) (c:=c) l m ul.toArray um.toArray) ⟨ol,om,λg gZ gU gO gi gj gk=>?_⟩;refine⟨⟨_,gZ,rfl⟩,wpAny_pyIter_zip (s:={s1 with heap:=g}) gZ ?_⟩;have ll:=ol.lt;have lm:=om.lt;have hA:=apart5 s1.heap.objs.size l m ll lm;refine⟨s1.heap.objs.size+4,_,_,_,H1,rfl,I1.kept (t':=s1.toks) gk,UA hA,⟨gZ,gU,⟨_,_,gO⟩,gi,gj⟩,λa ha=>?_,q⟩;have le:s1.heap.objs.size<=a:=by
  simp only[B7,D8,K7]at ha;rcases ha with t|t|t|t|t<;>rw[t]<;>first|exact B1 _|exact Nat.le_add_right _ _
 exact I1.fpOk le (I1.hok.fresh le)
def iEnum(b:Bool)(K:W.Frag)(t:TA):TI:=fun σ H R=>t σ H λvs H1=>∃(l:Addr),vs=[.ref l]/\(∃xs,SqX K b H1 l xs)/\R (Ite K b l) H1
theorem Jy(b:Bool)(hg:Gl X "enumerate")(hm:X.mg "enumerate" = none)(ha:PA X [e1] t)(hs:starEach [e1] X.env=[(false,eval e1 X.env)]:=by rfl) :
  PI X (.Tuple es n tpos) (.Call (.Name "enumerate" p) [e1] [] pos) (iEnum b X.K t):=by
 intro pins s σ H R I h;refine Call_ (Jl I hg hm PyProof.Rows.boot_enumerate (A1a (thn (ha pos pins s σ H _ I h) λus s1 ⟨vs,H1,I1,r1,q1⟩=>?_) hs rfl));obtain⟨l,rfl,⟨xs,sx⟩,q⟩:=q1;obtain⟨u,rfl,ru⟩:=r1.one;cases(show u=Value.ref l from ru);obtain⟨ul,_,ol⟩:=I1.sq sx;refine callType_new F.called_enumerate A3 (F.typeCall_enumerate_1 _) (F.newCall_enumerate_1 _) (λobj=>F.args_object_init_2 obj _) F.entry_enumerate_new (Rv (b:=b) l ul.toArray) ⟨ol,λg gE gi gk=>?_⟩;refine⟨⟨_,gE,rfl⟩,wpAny_pyIter_enum (s:={s1 with heap:=g}) gE ?_⟩;have ll:=ol.lt;refine⟨s1.heap.objs.size+1,_,_,_,H1,rfl,I1.kept (t':=s1.toks) gk,Tc (e:=s1.heap.objs.size+1) (I:=s1.heap.objs.size) (l:=l) (Nat.succ_ne_self _) (F0 (Y6 ll)) (F0 ll),⟨⟨_,gE⟩,gi⟩,λa ha=>?_,q⟩;have le:s1.heap.objs.size<=a:=by
  simp only[B7,D8,K7]at ha;rcases ha with t|t<;>rw[t]<;>first|exact B1 _|exact Nat.le_add_right _ _
 exact I1.fpOk le (I1.hok.fresh le)
end
section
variable{K:W.Frag}{b c:Bool}{l m:Addr}{xs ys:List V}{σ:St}{H:Hp}
theorem Ft{K:W.Frag}{i j:Nat}{T:Addr}{x y:V}{σ:St}{H:Hp}{Q:St->Hp->Prop}(h:H T=some (.tup [x,y]))(q:Q ((σ.set i (some x)).set j (some y)) H):gTup K 2 (Wb (Qt i) (Wb (Qt j) gNil)) (.ref T) σ H Q :=
 ⟨T,_,rfl,SqT.of h,rfl,x,_,rfl,y,_,rfl,rfl,q⟩
theorem Ir{g:TG}{tb:TS}{D:JQ}(Pv:Nat->St->Hp->Prop)(h0:Pv 0 σ H)(hl:∀i σ H,i<=xs.length->Pv i σ H->SqX K b H l xs)
  (hs:∀i x σ H T,xs[i]?=some x->Pv i σ H->H T=none->g (.ref T) σ (upd H T (.tup [.int i,x])) fun σ2 H2=>tb {D with nx:=Pv (i+1),ct:=Pv (i+1),bk:=D.nx} σ2 H2) (hd:∀σ H,Pv xs.length σ H->D.nx σ H) :
  ∃W:Nat->Nat->St->Hp->Prop,(∃m,W 0 m σ H)/\∀i m σ H,W i m σ H ->
   ((Ite K b l).stop i H/\D.nx σ H)\/((Ite K b l).go i H/\∃N:St->Hp->Prop,(∀σ' H',N σ' H'->∃m',m'<m/\W (i+1) m' σ' H')/\∀x H',(Ite K b l).yld i H x H'->g x σ H' fun σ2 H2=>tb {D with nx:=N,ct:=N,bk:=D.nx} σ2 H2):=by
 refine⟨λi m σ H=>m=xs.length-i/\i<=xs.length/\Pv i σ H,⟨xs.length,by simp,F5 _,h0⟩,?_⟩;rintro i m σ H ⟨rfl,hi,p⟩;have q:=hl i σ H hi p;by_cases hlt:i<xs.length
 ·refine .inr ⟨⟨xs,xs[i],q,by simp[hlt]⟩,Pv (i+1),fun σ' H' p'=>⟨xs.length-(i+1),by lia,rfl,hlt,p'⟩,λx H' y=>?_⟩;obtain⟨T,z,rfl,nT,rfl,hz⟩:=y;exact hs i z σ _ T (hz xs q) p nT
 ·have e:i=xs.length:=by lia
  subst e;exact .inl ⟨⟨xs,q,rfl⟩,hd σ H p⟩
theorem for_zip{g:TG}{tb:TS}{D:JQ}(Pv:Nat->St->Hp->Prop)(h0:Pv 0 σ H)(hl:∀i σ H,Pv i σ H->SqX K b H l xs/\SqX K c H m ys)
  (hs:∀i x y σ H T,xs[i]?=some x->ys[i]?=some y->Pv i σ H->H T=none->g (.ref T) σ (upd H T (.tup [x,y])) fun σ2 H2=>tb {D with nx:=Pv (i+1),ct:=Pv (i+1),bk:=D.nx} σ2 H2) (hd:∀σ H,Pv (min xs.length ys.length) σ H->D.nx σ H) :
  ∃W:Nat->Nat->St->Hp->Prop,(∃m,W 0 m σ H)/\∀i n σ H,W i n σ H ->
   ((Itz K b c l m).stop i H/\D.nx σ H)\/((Itz K b c l m).go i H/\∃N:St->Hp->Prop,(∀σ' H',N σ' H'->∃m',m'<n/\W (i+1) m' σ' H')/\∀x H',(Itz K b c l m).yld i H x H'->g x σ H' fun σ2 H2=>tb {D with nx:=N,ct:=N,bk:=D.nx} σ2 H2):=by
 refine⟨λi n σ H=>n=min xs.length ys.length-i/\i<=min xs.length ys.length/\Pv i σ H,⟨min xs.length ys.length,by simp,F5 _,h0⟩,?_⟩;rintro i n σ H ⟨rfl,hi,p⟩;obtain⟨qx,qy⟩:=hl i σ H p;by_cases hlt:i<min xs.length ys.length
 ·have lx:i<xs.length:=by lia
  have ly:i<ys.length:=by lia
  refine .inr ⟨⟨xs,ys,xs[i],ys[i],qx,qy,by simp[lx],by simp[ly]⟩,Pv (i+1),fun σ' H' p'=>⟨min xs.length ys.length-(i+1),by lia,rfl,hlt,p'⟩,λx H' y=>?_⟩;obtain⟨T,z,z',rfl,nT,rfl,hz,hz'⟩:=y;exact hs i z z' σ _ T (hz xs qx) (hz' ys qy) p nT
 ·have e:i=min xs.length ys.length:=by lia
  subst e;exact .inl ⟨⟨xs,ys,qx,qy,by lia⟩,hd σ H p⟩
variable{k:Nat}{cs:List Nat}{g:TG}{tc:TT}{te:TE}{fin:List V->Hp->Prop}
theorem blk_str{x:Str}(Pv:Nat->List V->Hp->Prop)(h0:Pv 0 [] H)(hs:∀i ch acc H,x.cps.toList[i]?=some ch->Pv i acc H->Bt k cs g tc te σ (.str ⟨#[ch]⟩) acc H (Pv (i+1)))(hd:∀acc H,Pv x.cps.toList.length acc H->fin acc H):GV k cs g tc te (Its x) σ H fin:=by
 have e0:x.cps.toList.length=x.cps.size:=by simp
 refine⟨λi m acc H=>m=x.cps.size-i/\i<=x.cps.size/\Pv i acc H,⟨x.cps.size,by simp,F5 _,h0⟩,?_⟩;rintro i m acc H ⟨rfl,hi,p⟩;by_cases hlt:i<x.cps.size
 ·refine .inr ⟨hlt,Pv (i+1),λacc' H' p'=>⟨x.cps.size-(i+1),by lia,rfl,hlt,p'⟩,λv H' y=>?_⟩;obtain⟨e,ch,hch,rfl⟩:=y;subst e;exact hs i ch acc _ (by simpa using hch) p
 ·have e:i=x.cps.size:=by lia
  subst e;exact .inl ⟨rfl,hd acc H (by rw[e0];exact p)⟩
end
theorem rm{a b:Nat}{A:Around}(h:CC b A)(hle:a<=b:=by first|decide|lia):CC a A:=h.mono hle
structure Cal(P:Program)(w:World)(K:W.Frag)(mg:Str->Option Value)(base:Heap)(CX:CXT)(k:Nat)(x:Str)(ps:List Str)(sp:Sp):Prop where
 ex:∃(f:Addr)(fd:FuncData),AO P w K mg base CX k f fd ps sp/\mg x=some (.ref f)/\keepIn K (.ref f)=true/\CD K fd ps []
structure CS(P:Program)(w:World)(K:W.Frag)(mg:Str->Option Value)(base:Heap)(CX:CXT)(k:Nat)(C:Addr)(m:Str)(ps:List Str)(sp:Sp):Prop where
 ex:∃(f:Addr)(fd:FuncData),AO P w K mg base CX k f fd ps sp/\WP K C m f/\CD K fd ps []
 cl:Cls K C
structure CalC(P:Program)(w:World)(K:W.Frag)(mg:Str->Option Value)(base:Heap)(CX:CXT)(k:Nat)(x:Str)(C:Addr)(ps:List Str)(sp:Sp):Prop where
 ex:∃(f:Addr)(fd:FuncData),AO P w K mg base CX k f fd ps sp/\Mk K C f/\mg x=some (.ref C)/\CD K fd ps []
section
variable{X:Cx}{CX:CXT}{k:Nat}{C:Addr}{ps:List Str}{sp:Sp}{E:XK}{x m:Str}{p pos apos:Pos}{e o:Expr}{es:List Expr}{ta:TE}{t:TA}
theorem Aq(c:Cal X.prog X.w X.K X.mg X.base CX k x ps sp)(hr:CC k X.A)(hg:Gl X x)(hx:FW CX X E)(ha:PA X (e::es) t)(hdb:(x==("__debug__" : Str))=false:=by decide)
  (he:starEach (e::es) X.env=(false,eval e X.env)::starEach es X.env:=by rfl) (hpl:(backTo pos (starEach es X.env)).any (·.1)=false:=by rfl):PE X (.Call (.Name x p) (e::es) [] pos) (Sd sp [] E t):=by
 obtain⟨f,fd,F,hm,hk,hb⟩:=c.ex;exact pe_call F hr hg hm hk hb .nil hx ha hdb he hpl
theorem AK{pl:Sem Bool}(he:PE X o ta)(c:CS X.prog X.w X.K X.mg X.base CX k C m ps sp)(hr:CC k X.A)(hx:FW CX X E)(ha:PA X (e::es) t)
  (hst:starEach (e::es) X.env=(false,eval e X.env)::starEach es X.env:=by rfl) (hpl:(backTo pos (starEach es X.env)).any (·.1)=false:=by rfl)
  (ht:eval (.Call (.Attribute o m apos) (e::es) [] pos) X.env=(do
   let ov <-eval o X.env;standAt apos.atName;let (f,first) <-holding [ov] (getMethod ov m pl);callWith pos f first (backTo pos (starEach (e::es) X.env)) (backToKw pos (keywordEach [] X.env))):=by rfl):PE X (.Call (.Attribute o m apos) (e::es) [] pos) (tMeth C m sp [] E ta t):=by
 obtain⟨f,fd,F,hm,hb⟩:=c.ex;exact pe_meth he c.cl hm F hr hb .nil hx ha hst hpl ht
theorem Vr(c:CalC X.prog X.w X.K X.mg X.base CX k x C ps sp)(hr:CC (k+1) X.A)(hg:Gl X x)(hx:FW CX X E)(hdb:(x==("__debug__" : Str))=false:=by decide):PE X (.Call (.Name x p) [] [] pos) (tMake C sp [] E tNil):=by
 obtain⟨f,fd,F,M,hm,hb⟩:=c.ex;exact Vj M F hr hg hm hb .nil hx hdb
theorem Ct{i:Int}(hg:Gl X x)(hm:∃tk,X.mg x=some (.int i tk))(hd:(x==("__debug__" : Str))=false:=by decide):PE X (.Name x pos) (tC (.int i)):=by
 obtain⟨tk,hm⟩:=hm;exact OM hg hm ⟨tk,rfl⟩ hd
theorem Fk{z:Str}(hg:Gl X x)(hm:∃tk,X.mg x=some (.str z tk))(hd:(x==("__debug__" : Str))=false:=by decide):PE X (.Name x pos) (tC (.str z)):=by
 obtain⟨tk,hm⟩:=hm;exact OM hg hm ⟨tk,rfl⟩ hd
theorem CH{a:Addr}(hg:Gl X x)(hm:X.mg x=some (.ref a))(hd:(x==("__debug__" : Str))=false:=by decide):PE X (.Name x pos) (tC (.ref a)):=OM hg hm rfl hd
end
def cOk(So:Scope)(No:List Str)(scope:Scope)(N:List Str)(k:Nat)(cs:List Nat):Bool :=
 scope.names.all (λy=>y.2 != .cell) && (scope.kind==.function && (scope.names.all (λy=>y.2 != .local || scope.names.lookup y.1==some .local) && (scope.names.all (λy=>y.2 != .free || (So.names.lookup y.1==some .cell || So.names.lookup y.1==some .free)) &&
  (N.length==k+cs.length && (List.range cs.length).all λj=>match N[k+j]?,No[cs.getD j 0]? with
   |some x,some y=>x==y && scope.names.lookup x==some .free
   |_,_=>false))))
theorem Eh.of{X:Cx}{So:Scope}{No:List Str}{scope:Scope}{N:List Str}{k:Nat}{cs:List Nat}(hS:X.env.scope=So)(hN:X.N=No)(h:cOk So No scope N k cs=true):Eh X scope N k cs:=by
 subst hS hN;unfold cOk at h;simp only[O1,M9,bne_iff_ne,ne_eq,Bool.or_eq_true,A5b,M2]at h;obtain⟨h1,h2,h3,h4,h5,h6⟩:=h;refine⟨h1,h2,λy hy e=>?_,λy hy e=>?_,h5,λj hj=>?_⟩
 ·rcases h3 y hy with z|z
  ·exact absurd e z
  ·exact z
 ·rcases h4 y hy with z|z
  ·exact absurd e z
  ·exact z
 ·have z:=h6 j hj;split at z
  ·rename_i x y e1 e2;simp only[O1,A5b]at z;obtain⟨z1,z2⟩:=z;subst z1;exact⟨x,e1,e2,z2⟩
  ·cases z
theorem Uz{σ:St}{H:Hp}{A B:Hp->Prop}(h:A H):tYes σ H λb H3=>if b=true then A H3 else B H3:=by
 show if true=true then A H else B H;exact AI h
theorem Pw{tb:TE}{σ:St}{H:Hp}{Q:VK}{b1 b2:Bool}(h2:b1=true->∀Q':VK,Q' (.bl b2) H->tb σ H Q')(q:Q (.bl (b1 && b2)) H):∃c,V.bl b1=.bl c/\if c=true then tb σ H Q else Q (.bl false) H:=by
 cases b1 with
 |true=>exact⟨true,rfl,AI (h2 rfl Q q)⟩
 |false=>exact⟨false,rfl,AE q⟩
theorem UB{u:TT}{σ:St}{H:Hp}{Q:Bool->Hp->Prop}{b1 b2:Bool}(h2:b1=true->∀Q':Bool->Hp->Prop,Q' b2 H->u σ H Q')(q:Q (b1 && b2) H):if b1=true then u σ H Q else Q false H:=by
 cases b1 with
 |true=>exact AI (h2 rfl Q q)
 |false=>exact AE q
section
variable{X:Cx}{scope:Scope}{N:List Str}{s:Shared}{H:Hp}{ex:List Addr}{x y:Str}{px py pos:Pos}{k:Nat}
theorem Ie{i:Nat}(hN:N.Nodup)(hi:N[i]?=some x)(hl:(relabel scope X.env).names.lookup x=some .local):PG (cxC X scope N s H ex) (.Name x pos) (Qt i):=AF (X:=cxC X scope N s H ex) hN hi (.inl hl) (.inr hl)
end
theorem AN.strs:∀(l:List Str)(k:Nat),AN (l.map V.str) (strsFrom k l)
 |[],_=>.nil
 |x::r,k=>.cons ⟨k,rfl⟩ (AN.strs r (k+1))
section
variable{X:Cx}
theorem Qh:MtR X "str.split" (λx xs H Q=>∃a b,x=.str a/\xs=[.str b]/\(b.length==0)=false/\a.length<=100000/\∀p,H p=none->Q (.ref p) (upd H p (.lst ((Txt.split a b).map V.str)))):=by
 intro pins s σ H x xs v us Q I rx r h;obtain⟨a,b,rfl,rfl,hb,ha,q⟩:=h;obtain⟨t,rfl⟩:=rx;obtain⟨u,rfl,hu⟩:=r.one;obtain⟨tb,rfl⟩:=hu;have big:a.length+2<=sizeLine:=C8 (Nat.add_le_add_right ha 2) A3;have fin:∀(its:List Value)(tk:Nat),AN ((Txt.split a b).map V.str) its->EP X pins σ Q (.ref s.heap.objs.size) {s with heap:=s.heap.push {cls:=.type "list",data:=.seq its.toArray},toks:=tk}:=λits tk hv =>
  ⟨.ref _,_,I.lnew (t':=tk) hv (by rw[B0];exact C8 (split_le a b) big),rfl,q _ I.fresh⟩
 by_cases h1:(decide (a.length<b.length) || decide (Builtin.Str.strKind a<Builtin.Str.strKind b))=true
 ·refine A3e F.slot_str_split (A2e _ _ _) F.entry_str_split (A9b _ _) (meets_str_split_cannot_occur a b t tb h1) ?_;refine fin _ s.toks ?_;unfold Txt.split;rw[Z6 h1];exact .cons ⟨t,rfl⟩ .nil
 ·have h1':=V2.mpr h1;by_cases h2:(Builtin.Str.occurrences a b 0 a.length (a.length+1)).isEmpty=true
  ·refine A3e F.slot_str_split (A2e _ _ _) F.entry_str_split (A9b _ _) (meets_str_split_not_found a b t tb h1' hb h2) ?_;refine fin _ s.toks ?_;unfold Txt.split;rw[Z5 h1,Z6 h2];exact .cons ⟨t,rfl⟩ .nil
  ·have e:Txt.split a b=Builtin.Str.partsBetween a (Builtin.Str.occurrences a b 0 a.length (a.length+1)) b.length:=by
    unfold Txt.split;rw[Z5 h1,Z5 h2]
   refine A3e F.slot_str_split (A2e _ _ _) F.entry_str_split (A9b _ _) (meets_str_split_sep a b t tb h1' hb (V2.mpr h2) A0 (by rw[<-e];exact C8 (split_le a b) big)) ?_;refine fin _ _ ?_;rw[e];exact AN.strs _ _
theorem Do:MtR X "str.partition" (λx xs H Q=>∃a b,x=.str a/\xs=[.str b]/\(b.length==0)=false/\a.length<=100000/\∀p,H p=none->Q (.ref p) (upd H p (.tup [.str (Txt.partition a b).1,.str (Txt.partition a b).2.1,.str (Txt.partition a b).2.2]))):=by
 intro pins s σ H x xs v us Q I rx r h;obtain⟨a,b,rfl,rfl,hb,ha,q⟩:=h;obtain⟨t,rfl⟩:=rx;obtain⟨u,rfl,hu⟩:=r.one;obtain⟨tb,rfl⟩:=hu;have fin:∀(its:List Value)(tk:Nat),AN [.str (Txt.partition a b).1,.str (Txt.partition a b).2.1,.str (Txt.partition a b).2.2] its->EP X pins σ Q (.ref s.heap.objs.size) {s with heap:=s.heap.push {cls:=.type "tuple",data:=.seq its.toArray},toks:=tk}:=λits tk hv =>
  ⟨.ref _,_,I.laid (t':=tk) (o:=.tup [.str (Txt.partition a b).1,.str (Txt.partition a b).2.1,.str (Txt.partition a b).2.2]) (λ_ _ e=>B3 _ e) (B1 _) ⟨by show 3<=sizeLine;decide,its,hv,_,D4 _ rfl,rfl,_,rfl⟩,rfl,q _ I.fresh⟩
 refine A3e F.slot_str_partition (A2e _ _ _) F.entry_str_partition (F.args_str_partition_2 _ _) (meets_str_partition a b t tb hb (C8 ha A3)) ?_;show EP X pins σ Q _ _;cases e:Builtin.Str.occurrences a b 0 a.length 1 with
 |nil =>
  refine fin _ _ ?_;unfold Txt.partition;rw[e];exact .cons ⟨_,rfl⟩ (.cons ⟨_,rfl⟩ (.cons ⟨_,rfl⟩ .nil))
 |cons i l =>
  refine fin _ _ ?_;unfold Txt.partition;rw[e];exact .cons ⟨_,rfl⟩ (.cons ⟨_,rfl⟩ (.cons ⟨_,rfl⟩ .nil))
theorem AN.tstrs:∀{l:List Str}{its:List Value},AN (l.map V.str) its->∃ts:List (Str×Tok),its=strValues ts/\ts.map (·.1)=l
 |[],_,.nil=>⟨[],rfl,rfl⟩
 |x::r,_,.cons ⟨t,e⟩ rr=>by
  obtain⟨ts,e1,e2⟩:=AN.tstrs rr;subst e e1;exact⟨(x,t)::ts,rfl,by rw[D7,e2]⟩
theorem mt_join:MtR X "str.join" (λx xs H Q=>∃(sep:Str)(p:Addr)(l:List Str),x=.str sep/\xs=[.ref p]/\SqL X.K H p (l.map V.str)/\JoinOk sep l=true/\Q (.str (Str.join sep l)) H):=by
 intro pins s σ H x xs v us Q I rx r h;obtain⟨sep,p,l,rfl,rfl,hl,hok,q⟩:=h;obtain⟨t,rfl⟩:=rx;obtain⟨u,rfl,hu⟩:=r.one;cases(show u=Value.ref p from hu);obtain⟨its,rv,pl,_⟩:=I.list hl;obtain⟨ts,rfl,e⟩:=AN.tstrs rv;refine SC.join (texts:=l) pl.isList e hok λt' k=>⟨.str _,H,I.tok k,⟨t',rfl⟩,?_⟩
 have:Txt.join sep l=Str.join sep l:=StrLaws.glued_eq_join sep l;rw[this];exact q
end
end L2
namespace L2
open PySem
section
variable{X:Cx}{es es':List Expr}{t t':TA}{pos:Pos}
theorem Bu{i:Int}{j}(hr:PA X es t):PA X (.Constant (.int i) j pos::es) (NI (tC (.int i)) t):=Aa Ae hr
theorem AA{z:Str}{j}(hr:PA X es t):PA X (.Constant (.str z) j pos::es) (NI (tC (.str z)) t):=Aa AJ hr
theorem pa_lst(h:PA X es' t')(hr:PA X es t):PA X (.List es' pos::es) (NI (tLst t') t):=Aa (BF h) hr
theorem Cn{x1}(h:PA X es' t')(hr:PA X es t):PA X (.Tuple es' x1 pos::es) (NI (tTup t') t):=Aa (Ea h) hr
theorem Cu{op:Operator}{r:R2}{a b:Expr}{ta tb:TE}(ho:OpR X (binaryOp op) r)(ha:PE X a ta)(hb:PE X b tb)(hr:PA X es t):PA X (.BinOp a op b pos::es) (NI (tOp r ta tb) t):=Aa (Ao ho ha hb) hr
theorem ixc_tup{K:W.Frag}(h:X.K=K):IxR X (PV K):=h▸Az
theorem VV{K:W.Frag}(h:X.K=K):IxR X (rIxL K):=h▸AQ
end
theorem Ay{P:Prop}(h:∀G:Prop,(P->G)->G):P:=h P id
theorem xq1{α:Sort _}{a:α}{P Q:α->Prop}(h:P a)(k:Q a):∃x,P x/\Q x:=⟨a,h,k⟩
theorem xq2{α β:Sort _}{a:α}{b:β}{P Q R:α->β->Prop}(h:P a b)(h':Q a b)(k:R a b):∃x y,P x y/\Q x y/\R x y:=⟨a,b,h,h',k⟩
theorem xq4{α β γ δ:Sort _}{a:α}{b:β}{c:γ}{d:δ}{P Q R S T:α->β->γ->δ->Prop}(h:P a b c d)(h':Q a b c d)(h'':R a b c d)(h3:S a b c d)(k:T a b c d):∃x y z w,P x y z w/\Q x y z w/\R x y z w/\S x y z w/\T x y z w:=⟨a,b,c,d,h,h',h'',h3,k⟩
theorem xq5{K:W.Frag}{f:Str}{H:Hp}{a C dx:Addr}{fs:List (Str×V)}{v:V}{Q:V->Prop}(h:H a=some (.ins C dx fs))(h2:Cls K C)(h3:Dr K C f)(h4:fs.lookup f=some v)(k:Q v):∃b C dx fs w,V.ref a=.ref b/\H b=some (.ins C dx fs)/\Cls K C/\Dr K C f/\fs.lookup f=some w/\Q w:=⟨a,C,dx,fs,v,rfl,h,h2,h3,h4,k⟩
theorem xw2{α β:Sort _}{a:α}{b:β}{P:α->Prop}{Q:α->β->Prop}{K:α->β->Prop}(h1:P a)(h2:Q a b)(k:K a b):∃x0,P x0/\∃x1,Q x0 x1/\K x0 x1:=⟨a,h1,b,h2,k⟩
theorem xw3{α β γ:Sort _}{a:α}{b:β}{c:γ}{P:α->Prop}{Q:α->β->Prop}{R:α->β->γ->Prop}{K:α->β->γ->Prop}(h1:P a)(h2:Q a b)(h3:R a b c)(k:K a b c):∃x0,P x0/\∃x1,Q x0 x1/\∃x2,R x0 x1 x2/\K x0 x1 x2:=⟨a,h1,b,h2,c,h3,k⟩
theorem xwb{α β γ:Sort _}{a:α}{b:β}{c:γ}{P:α->Prop}{Q:α->β->γ->Prop}{R:α->β->γ->Prop}{K:α->β->γ->Prop}(h1:P a)(h2:Q a b c)(h3:R a b c)(k:K a b c):∃x0,P x0/\∃x1 x2,Q x0 x1 x2/\R x0 x1 x2/\K x0 x1 x2:=⟨a,h1,b,c,h2,h3,k⟩
theorem xwi{α β γ δ ε:Sort _}{a:α}{b:β}{c:γ}{d:δ}{e:ε}{P:α->Prop}{Q:α->β->γ->δ->ε->Prop}{R:α->β->γ->δ->ε->Prop}{S:α->β->γ->δ->ε->Prop}{T:α->β->γ->δ->ε->Prop}{K:α->β->γ->δ->ε->Prop}(h1:P a)(h2:Q a b c d e)(h3:R a b c d e)(h4:S a b c d e)(h5:T a b c d e)(k:K a b c d e):∃x0,P x0/\∃x1 x2 x3 x4,Q x0 x1 x2 x3 x4/\R x0 x1 x2 x3 x4/\S x0 x1 x2 x3 x4/\T x0 x1 x2 x3 x4/\K x0 x1 x2 x3 x4:=⟨a,h1,b,c,d,e,h2,h3,h4,h5,k⟩
theorem xwf{α β γ δ ε ζ:Sort _}{a:α}{b:β}{c:γ}{d:δ}{e:ε}{f:ζ}{P:α->Prop}{Q:α->β->γ->δ->ε->ζ->Prop}{R:α->β->γ->δ->ε->ζ->Prop}{S:α->β->γ->δ->ε->ζ->Prop}{T:α->β->γ->δ->ε->ζ->Prop}{U:α->β->γ->δ->ε->ζ->Prop}{K:α->β->γ->δ->ε->ζ->Prop}(h1:P a)(h2:Q a b c d e f)(h3:R a b c d e f)(h4:S a b c d e f)(h5:T a b c d e f)(h6:U a b c d e f)(k:K a b c d e f):∃x0,P x0/\∃x1 x2 x3 x4 x5,Q x0 x1 x2 x3 x4 x5/\R x0 x1 x2 x3 x4 x5/\S x0 x1 x2 x3 x4 x5/\T x0 x1 x2 x3 x4 x5/\U x0 x1 x2 x3 x4 x5/\K x0 x1 x2 x3 x4 x5:=⟨a,h1,b,c,d,e,f,h2,h3,h4,h5,h6,k⟩
theorem xwn{α β γ δ ε:Sort _}{a:α}{b:β}{c:γ}{d:δ}{e:ε}{P:α->Prop}{Q:α->β->γ->δ->Prop}{R:α->β->γ->δ->Prop}{S:α->β->γ->δ->Prop}{T:α->β->γ->δ->ε->Prop}{K:α->β->γ->δ->ε->Prop}(h1:P a)(h2:Q a b c d)(h3:R a b c d)(h4:S a b c d)(h5:T a b c d e)(k:K a b c d e):∃x0,P x0/\∃x1 x2 x3,Q x0 x1 x2 x3/\R x0 x1 x2 x3/\S x0 x1 x2 x3/\∃x4,T x0 x1 x2 x3 x4/\K x0 x1 x2 x3 x4:=⟨a,h1,b,c,d,h2,h3,h4,e,h5,k⟩
theorem xwj{α β γ δ ε ζ:Sort _}{a:α}{b:β}{c:γ}{d:δ}{e:ε}{f:ζ}{P:α->Prop}{Q:α->β->Prop}{R:α->β->γ->δ->ε->ζ->Prop}{S:α->β->γ->δ->ε->ζ->Prop}{T:α->β->γ->δ->ε->ζ->Prop}{U:α->β->γ->δ->ε->ζ->Prop}{K:α->β->γ->δ->ε->ζ->Prop}(h1:P a)(h2:Q a b)(h3:R a b c d e f)(h4:S a b c d e f)(h5:T a b c d e f)(h6:U a b c d e f)(k:K a b c d e f):∃x0,P x0/\∃x1,Q x0 x1/\∃x2 x3 x4 x5,R x0 x1 x2 x3 x4 x5/\S x0 x1 x2 x3 x4 x5/\T x0 x1 x2 x3 x4 x5/\U x0 x1 x2 x3 x4 x5/\K x0 x1 x2 x3 x4 x5:=⟨a,h1,b,h2,c,d,e,f,h3,h4,h5,h6,k⟩
theorem AL{A B:TS}{D:JQ}{σ:St}{H:Hp}(h:let r:=B D;let s:=σ;∀k:St->Hp->Prop,(∀{σ H},r σ H->k σ H)->let E:JQ:={D with nx:=k};A E s H):UE A B D σ H:=h _ λz=>z
end L2
namespace Nu
open PySem PySem.NumText PyProof.Rows
theorem ext{a b:Str}(h:a.cps.toList=b.cps.toList):a=b:=by
 obtain⟨⟨l⟩⟩:=a;obtain⟨⟨r⟩⟩:=b;cases h;rfl
theorem len(x:Str):x.length=x.cps.toList.length:=by simp[Str.length]
theorem cut1(x:Str):(Txt.slice x none (some 1)).cps.toList=x.cps.toList.take 1:=by
 by_cases h:1<=x.length
 ·have e:=beq_iff_eq.mp (slice_closes_toL (x:=x) (j:=1) A3 A6);rw[e];simp
 ·have z:=Txt.slice_le x none (some 1);rw[len]at z h;rw[len]at z;have a:x.cps.toList=[]:=O7 A6;have b:(Txt.slice x none (some 1)).cps.toList=[]:=O7 A6;rw[a,b];rfl
theorem LZ(x:Str)(i:Int)(h0:0<=i):(Txt.slice x (some i) none).cps.toList=x.cps.toList.drop i.toNat:=by
 by_cases h:i<=x.length
 ·rw[slice_from_eq (x:=x) (i:=i) (b:=(x.length:Int)) h0 h rfl];show((x.cps.toList.drop i.toNat).take _)=_;refine S2 ?_;rw[O0,<-len];omega
 ·rw[slice_beyond (x:=x) (i:=i) A6];rw[List.drop_eq_nil_of_le (by rw[<-len];omega)];rfl
theorem cut1'(x:Str):(Txt.slice x (some 1) none).cps.toList=x.cps.toList.drop 1:=LZ x 1 A3
def neg:List Nat->Bool
 |45::_=>true
 |_=>false
def fig:List Nat->List Nat
 |45::r=>r
 |cs=>cs
theorem OX(cs:List Nat):neg cs=true↔cs.take 1=[45]:=by
 cases cs with
 |nil=>simp[neg]
 |cons c r =>
  by_cases h:c=45
  ·subst h;simp[neg]
  ·simp[neg,h]
theorem CB{cs:List Nat}(h:neg cs=true):fig cs=cs.drop 1/\cs=45::fig cs:=by
 cases cs with
 |nil=>simp[neg]at h
 |cons c r =>
  by_cases z:c=45
  ·subst z;exact⟨rfl,rfl⟩
  ·simp[neg,z]at h
theorem CZ{cs:List Nat}(h:neg cs=false):fig cs=cs:=by
 cases cs with
 |nil=>rfl
 |cons c r =>
  by_cases z:c=45
  ·subst z;simp[neg]at h
  ·simp[fig,z]
def dig(c:Nat):Bool:=decide (48<=c) && decide (c<=57)
def due(cs:List Nat):Option Int :=
 if fig cs=[]\/30<(fig cs).length\/((fig cs).head?=some 48/\cs≠[48])then none
 else if(fig cs).all dig=true then some (if neg cs=true then -((digitsVal (fig cs):Nat):Int)else((digitsVal (fig cs):Nat):Int))else none
theorem all_dig{cs:List Nat}(h:cs.all dig=true):AllDigits cs:=λc hc=>by
 have:=M9.mp h c hc;simp[dig]at this;exact this
theorem Pl{x:Str}{n:Int}(h:due x.cps.toList=some n):PySem.intText? x=some n:=by
 unfold due at h;split at h
 ·cases h
 ·rename_i hc;split at h
  ·rename_i ha;have hd:=all_dig ha;have hne:fig x.cps.toList≠[]:=λz=>hc (.inl z);have hl:(fig x.cps.toList).length<=30:=O5 λz=>hc (.inr (.inl z));cases hn:neg x.cps.toList with
   |true =>
    rw[hn]at h;obtain⟨_,e⟩:=CB hn;have:=intText_neg (x:=x) e hd hne (by rw[len,e,C4];omega);rw[this]
    simpa using h
   |false =>
    rw[hn]at h;rw[CZ hn]at hd hne hl h;rw[intText_digits (x:=x) hd hne (by rw[len];omega)]
    simpa using h
  ·cases h
theorem Ud(c:Nat):decide (c∈(Str.ofString "0123456789").cps.toList)=dig c:=by
 have e:(Str.ofString "0123456789").cps.toList=[48,49,50,51,52,53,54,55,56,57]:=by decide +kernel
 rw[e,O8];simp[dig];omega
theorem IH(c:Nat):(!(Builtin.Str.occurrences (Str.ofString "0123456789") ⟨#[c]⟩ 0 (Str.ofString "0123456789").length 1).isEmpty)=dig c:=by
 rw[A4g,Ud]
theorem starts(x:Str):Txt.startswith x (Str.ofString "-")=neg x.cps.toList:=by
 have e1:(Str.ofString "-").cps=#[45]:=by decide +kernel
 have e2:(Str.ofString "-").length=1:=by decide +kernel
 unfold Txt.startswith Builtin.Str.subAt;rw[e1,e2];obtain⟨⟨l⟩⟩:=x;cases l with
 |nil=>rfl
 |cons c r =>
  have h1:(decide (0+1<=(⟨⟨c::r⟩⟩:Str).length))=true:=by simp[Str.length]
  rw[h1,Bool.true_and,O8,OX,A5b];constructor
  ·intro z;have:=X4 Array.toList z
   simpa using this
  ·intro z;apply W0.mp
   simpa using z
theorem Uv{cs:List Nat}{i c:Nat}(h:cs[i]?=some c)(hd:dig c=true):(10:Int)*((digitsVal (cs.take i):Nat):Int)+((c-48:Nat):Int)=((digitsVal (cs.take (i+1)):Nat):Int):=by
 have e:cs.take (i+1)=cs.take i++[c]:=by
  rw[J1,h];rfl
 rw[e,digitsVal_snoc];omega
theorem QK{cs:List Nat}{i c:Nat}(h:cs[i]?=some c)(ha:(cs.take i).all dig=true)(hd:dig c=true):(cs.take (i+1)).all dig=true:=by
 have e:cs.take (i+1)=cs.take i++[c]:=by
  rw[J1,h];rfl
 rw[e,W7,ha];simp[hd]
end Nu
namespace L2
open PySem PySem.Spec PyProof.Rows
section
variable{κ:Type}[DecidableEq κ]
def BR(kvs:List (κ×V))(k:κ):Option V:=(kvs.find? λkv=>decide (kv.1=k)).map (·.2)
def Dg(kvs:List (κ×V))(k:κ)(v:V):List (κ×V) :=
 if(kvs.any λkv=>decide (kv.1=k))=true then kvs.map (λkv=>if kv.1=k then(kv.1,v)else kv)else kvs++[(k,v)]
theorem BQ{p:κ×V}{r:List (κ×V)}{k:κ}(e:p.1=k):BR (p::r) k=some p.2:=by simp[BR,P6,e]
theorem Bz{p:κ×V}{r:List (κ×V)}{k:κ}(e:¬p.1=k):BR (p::r) k=BR r k:=by simp[BR,P6,e]
theorem Ew(k:κ):∀kvs:List (κ×V),(kvs.any λkv=>decide (kv.1=k))=(BR kvs k).isSome
 |[]=>rfl
 |p::r=>by
  rw[List.any_cons];by_cases e:p.1=k
  ·simp only[BQ e,Z3 e,Bool.true_or,Option.isSome_some]
  ·rw[Bz e,Z4 e,Bool.false_or];exact Ew k r
theorem PB(k j:κ)(y:V):∀kvs:List (κ×V),BR (kvs.map λkv=>if kv.1=k then(kv.1,y)else kv) j=(BR kvs j).map λx=>if j=k then y else x
 |[]=>rfl
 |p::r=>by
  have ih:=PB k j y r;rw[D7];by_cases h:p.1=k
  ·rw[Z6 h];by_cases e:p.1=j
   ·rw[BQ (p:=(p.1,y)) e,BQ e,W5,Z6 (e.symm.trans h)]
   ·rw[Bz (p:=(p.1,y)) e,Bz e,ih]
  ·rw[Z5 h];by_cases e:p.1=j
   ·rw[BQ (p:=p) e,BQ e,W5,Z5 (λz=>h (e.trans z))]
   ·rw[Bz (p:=p) e,Bz e,ih]
theorem ND(k j:κ)(y:V):∀kvs:List (κ×V),BR kvs k=none->BR (kvs++[(k,y)]) j=if j=k then some y else BR kvs j
 |[],_=>by
  by_cases e:k=j
  ·rw[Z6 e.symm];exact BQ (p:=(k,y)) e
  ·rw[Z5 (λz=>e z.symm)];exact Bz (p:=(k,y)) e
 |p::r,hn=>by
  rw[List.cons_append];have hk:¬p.1=k:=λz=>by rw[BQ z]at hn;cases hn
  rw[Bz hk]at hn;have ih:=ND k j y r hn;by_cases e:p.1=j
  ·rw[BQ e,BQ e,Z5 (λz=>hk (e.trans z))]
  ·rw[Bz e,Bz e,ih]
theorem Md(kvs:List (κ×V))(k j:κ)(y:V):BR (Dg kvs k y) j=if j=k then some y else BR kvs j:=by
 unfold Dg;by_cases a:(kvs.any λkv=>decide (kv.1=k))=true
 ·rw[Z6 a,PB];rw[Ew]at a;by_cases e:j=k
  ·obtain⟨x,hx⟩:=Option.isSome_iff_exists.mp a;rw[Z6 e,e,hx,W5,Z6 rfl]
  ·rw[Z5 e];cases BR kvs j with
   |none=>rfl
   |some x=>rw[W5,Z5 e]
 ·rw[Z5 a];refine ND k j y kvs ?_;rw[Ew]at a;cases q:BR kvs k with
  |none=>rfl
  |some x=>rw[q]at a;exact(a rfl).elim
theorem Io(kvs:List (κ×V))(k:κ)(v:V):(Dg kvs k v).length<=kvs.length+1:=by
 unfold Dg;split
 ·rw[B0];lia
 ·rw[B5,C4,List.length_nil];lia
theorem Ju{kvs:List (κ×V)}{k:κ}(v:V)(h:BR kvs k=none):Dg kvs k v=kvs++[(k,v)]:=by
 unfold Dg;rw[Ew,h];exact Z5 A3
theorem GN.isSome_eq{o:Option V}{u:Option Value}(r:GN o u):o.isSome=u.isSome:=by
 cases o with
 |none=>cases u with
  |none=>rfl
  |some _=>exact(show False from r).elim
 |some _=>cases u with
  |none=>exact(show False from r).elim
  |some _=>rfl
theorem GN.getD{o:Option V}{u:Option Value}{d:V}{d':Value}(r:GN o u)(rd:Bb d d'):Bb (o.getD d) (u.getD d'):=by
 cases o with
 |none=>cases u with
  |none=>exact rd
  |some _=>exact(show False from r).elim
 |some _=>cases u with
  |none=>exact(show False from r).elim
  |some _=>exact r
theorem KV.val{kvs:List (κ×V)}{vs:List (κ×Value)}(r:KV kvs vs)(k:κ):GN (BR kvs k) (valueAt vs k):=by
 unfold KV at r;induction r with
 |nil=>exact True.intro
 |@cons p q ps qs h t ih =>
  obtain⟨h1,h2⟩:=h;by_cases e:p.1=k
  ·have e':q.1=k:=h1.symm.trans e;have b:valueAt (q::qs) k=some q.2:=by simp[valueAt,P6,e']
   rw[BQ e,b];exact h2
  ·have e':¬q.1=k:=λz=>e (h1.trans z);have b:valueAt (q::qs) k=valueAt qs k:=by simp[valueAt,P6,e']
   rw[Bz e,b];exact ih
theorem KV.any{kvs:List (κ×V)}{vs:List (κ×Value)}(r:KV kvs vs)(k:κ):(kvs.any λkv=>decide (kv.1=k))=vs.any λkv=>decide (kv.1=k):=by
 unfold KV at r;induction r with
 |nil=>rfl
 |cons h t ih=>rw[List.any_cons,List.any_cons,ih,h.1]
theorem KV.repl{kvs:List (κ×V)}{vs:List (κ×Value)}(r:KV kvs vs)(k:κ){y:V}{u:Value}(ry:Bb y u) :
  KV (kvs.map λkv=>if kv.1=k then(kv.1,y)else kv) (vs.map λkv=>if kv.1=k then(kv.1,u)else kv):=by
 unfold KV at r⊢;induction r with
 |nil=>exact .nil
 |@cons p q ps qs h t ih =>
  rw[D7,D7];refine .cons ?_ ih;obtain⟨h1,h2⟩:=h;by_cases e:p.1=k
  ·rw[Z6 e,Z6 (h1.symm.trans e)];exact⟨h1,ry⟩
  ·rw[Z5 e,Z5 (λz=>e (h1.trans z))];exact⟨h1,h2⟩
theorem KV.put{kvs:List (κ×V)}{vs:List (κ×Value)}(r:KV kvs vs)(k:κ){y:V}{u:Value}(ry:Bb y u):KV (Dg kvs k y) (stored vs k u):=by
 unfold Dg stored;rw[r.any k];by_cases e:(vs.any λkv=>decide (kv.1=k))=true
 ·rw[Z6 e,Z6 e];exact r.repl k ry
 ·rw[Z5 e,Z5 e];exact A5c r ⟨rfl,ry⟩
theorem KV.length{kvs:List (κ×V)}{vs:List (κ×Value)}(r:KV kvs vs):kvs.length=vs.length:=A0a r
end
theorem Qs{P:Program}{w:World}{k:Key}{u:Value}(r:Bb (kV k) u):(Cb P w).is k u=true:=by
 cases k with
 |inl i=>obtain⟨t,e⟩:=(show ∃t,u=Value.int i t from r);subst e;exact Ql P w i t
 |inr x=>obtain⟨t,e⟩:=(show ∃t,u=Value.str x t from r);subst e;exact Qk P w x t
theorem NY{P:Program}{w:World}:∀{ks:List Key}{us:List Value},AN (ks.map kV) us->ItemsAre (Cb P w) ks us
 |[],_,r=>by rw[List.map_nil]at r;cases r;exact .nil
 |k::ks,_,r=>by
  rw[D7]at r;cases r with
  |cons h t=>exact .cons (Qs h) (NY t)
abbrev KT(H:Hp):List (List Key×V)->List (List Key×Addr×Value)->Prop:=Paired λp q=>p.1=q.1/\H q.2.1=some (.tup (p.1.map kV))/\Bb p.2 q.2.2
theorem KT.val{H:Hp}{kvs:List (List Key×V)}{xs:List (List Key×Addr×Value)}(r:KT H kvs xs)(k:List Key):GN (BR kvs k) ((atKey xs k).map (·.2)):=by
 induction r with
 |nil=>exact True.intro
 |@cons p q ps qs h t ih =>
  obtain⟨h1,_,h2⟩:=h;by_cases e:p.1=k
  ·have e':q.1=k:=h1.symm.trans e;have b:atKey (q::qs) k=some q.2:=by simp[atKey,P6,e']
   rw[BQ e,b];exact h2
  ·have e':¬q.1=k:=λz=>e (h1.trans z);have b:atKey (q::qs) k=atKey qs k:=by simp[atKey,P6,e']
   rw[Bz e,b];exact ih
theorem KT.repl{H:Hp}{kvs:List (List Key×V)}{xs:List (List Key×Addr×Value)}(r:KT H kvs xs)(k:List Key){y:V}{u:Value}(ry:Bb y u) :
  KT H (kvs.map λkv=>if kv.1=k then(kv.1,y)else kv) (xs.map (putAt k u)):=by
 induction r with
 |nil=>exact .nil
 |@cons p q ps qs h t ih =>
  rw[D7,D7];refine .cons ?_ ih;obtain⟨h1,h2,h3⟩:=h;unfold putAt;by_cases e:p.1=k
  ·rw[Z6 e,Z6 (h1.symm.trans e)];exact⟨h1,h2,ry⟩
  ·rw[Z5 e,Z5 (λz=>e (h1.trans z))];exact⟨h1,h2,h3⟩
theorem KT.put{H:Hp}{kvs:List (List Key×V)}{xs:List (List Key×Addr×Value)}(r:KT H kvs xs)(k:List Key){b:Addr}{y:V}{u:Value}(hb:H b=some (.tup (k.map kV)))(ry:Bb y u) :
  KT H (Dg kvs k y) (storedH xs k b u):=by
 have e:(kvs.any λkv=>decide (kv.1=k))=(atKey xs k).isSome:=by
  rw[Ew,(r.val k).isSome_eq,Y5]
 unfold Dg storedH;rw[e];by_cases q:(atKey xs k).isSome=true
 ·rw[Z6 q,Z6 q];exact r.repl k ry
 ·rw[Z5 q,Z5 q];exact A5c r ⟨rfl,hb,ry⟩
theorem KT.keeps{H H':Hp}{kvs:List (List Key×V)}{xs:List (List Key×Addr×Value)}(r:KT H kvs xs)(ht:∀b ys,H b=some (.tup ys)->H' b=some (.tup ys)):KT H' kvs xs :=
 Paired.mapP r λ_ _ z=>⟨z.1,ht _ _ z.2.1,z.2.2⟩
section
variable{P:Program}{w:World}{H:Hp}{h:Heap}{a:Addr}
theorem rd_of{u:HO}(ok:HOk P w H h)(e:Rd H a u):Bh P w H h a u:=e.ok ok
theorem Og{kvs:List (Key×V)}(ok:HOk P w H h)(e:Rd H a (.dK kvs)):kvs.length<=sizeLine/\(a==sysModules)=false/\∃vs,KV kvs vs/\h.DictOf (Cb P w) a vs :=
 show Bh P w H h a (.dK kvs)from rd_of ok e
theorem dk_of{kvs:List (Key×V)}(ok:HOk P w H h)(e:H a=some (.dK kvs)):kvs.length<=sizeLine/\(a==sysModules)=false/\∃vs,KV kvs vs/\h.DictOf (Cb P w) a vs:=Og ok (.inl e)
theorem MG{ks:List Key}(ok:HOk P w H h)(e:H a=some (.tup (ks.map kV))):(tupleKind (Cb P w)).is h ks a:=by
 obtain⟨_,its,r,o,h1,h2,n,h3⟩:=(show Bh P w H h a (.tup (ks.map kV))from ok a _ e)
 exact⟨o,its.toArray,n,h1,h2,h3,by simpa using NY r⟩
theorem Od{kvs:List (List Key×V)}(ok:HOk P w H h)(e:Rd H a (.dT kvs)):kvs.length<=sizeLine/\(a==sysModules)=false /\
  ∃xs,KT H kvs xs/\h.DictOfH (tupleKind (Cb P w)) a xs:=by
 obtain⟨z,y,xs,r,o,es,ep,h1,h2,h3,h4,h5⟩:=(show Bh P w H h a (.dT kvs)from rd_of ok e)
 refine⟨z,y,xs,r,o,es,ep,h1,h2,h3,h4,λx hx=>?_,h5⟩;have all:∀{l:List (List Key×V)}{m:List (List Key×Addr×Value)},KT H l m->∀x∈m,(tupleKind (Cb P w)).is h x.1 x.2.1:=by
  intro l m q;induction q with
  |nil=>intro x hx;exact nomatch hx
  |@cons p q ps qs hq t ih =>
   intro x hx;rcases B7.mp hx with e|hx
   ·subst e;exact MG ok (by rw[<-hq.1];exact hq.2.1)
   ·exact ih x hx
 exact all r x hx
theorem dt_of{kvs:List (List Key×V)}(ok:HOk P w H h)(e:H a=some (.dT kvs)):kvs.length<=sizeLine/\(a==sysModules)=false /\
  ∃xs,KT H kvs xs/\h.DictOfH (tupleKind (Cb P w)) a xs:=Od ok (.inl e)
end
def IN(H:Hp)(a:Addr)(y:V)(r:Option V):Prop :=
 (∃kvs k,Rd H a (.dK kvs)/\y=kV k/\r=BR kvs k)\/∃kvs k b,Rd H a (.dT kvs)/\y=.ref b/\H b=some (.tup (k.map kV))/\r=BR kvs k
def NB(H:Hp)(a:Addr)(y v:V)(H':Hp):Prop :=
 (∃kvs k,H a=some (.dK kvs)/\y=kV k/\kvs.length<sizeLine/\H'=upd H a (.dK (Dg kvs k v))) \/
 ∃kvs k b,H a=some (.dT kvs)/\y=.ref b/\H b=some (.tup (k.map kV))/\kvs.length<sizeLine/\H'=upd H a (.dT (Dg kvs k v))
theorem IN.k{H:Hp}{a:Addr}{kvs:List (Key×V)}{k:Key}(e:H a=some (.dK kvs)):IN H a (kV k) (BR kvs k):=.inl ⟨kvs,k,.inl e,rfl,rfl⟩
theorem IN.t{H:Hp}{a b:Addr}{kvs:List (List Key×V)}{k:List Key}(e:H a=some (.dT kvs))(eb:H b=some (.tup (k.map kV))):IN H a (.ref b) (BR kvs k):=.inr ⟨kvs,k,b,.inl e,rfl,eb,rfl⟩
theorem NB.k{H:Hp}{a:Addr}{kvs:List (Key×V)}{k:Key}{v:V}(e:H a=some (.dK kvs))(hl:kvs.length<sizeLine):NB H a (kV k) v (upd H a (.dK (Dg kvs k v))):=.inl ⟨kvs,k,e,rfl,hl,rfl⟩
theorem NB.t{H:Hp}{a b:Addr}{kvs:List (List Key×V)}{k:List Key}{v:V}(e:H a=some (.dT kvs))(eb:H b=some (.tup (k.map kV)))(hl:kvs.length<sizeLine) :
  NB H a (.ref b) v (upd H a (.dT (Dg kvs k v))):=.inr ⟨kvs,k,b,e,rfl,eb,hl,rfl⟩
section
variable{X:Cx}{pins:List (Addr×Obj)}{σ:St}{H:Hp}{s:Shared}{a:Addr}{y v:V}{u r:Value}{o:Option V}{A:Around}{E:Value->Shared->Prop}
theorem Inv.big(I:Inv X pins σ H s):sysModules<s.heap.objs.size:=by
 have h:mainGlobals<s.heap.objs.size:=(I.mod.glob.keeps I.bk).lt;exact Nat.lt_trans A3 h
theorem Uf{Q:Value->Shared->Prop}(hu:A.units+1<cLine)(I:Inv X pins σ H s)(g:IN H a y (some v))(ry:Bb y u)(h:∀w' s',Inv X pins σ H s'->Bb v w'->Q w' s') :
  wpAny (model X.prog X.w) A (getItem (.ref a) u) Q E s:=by
 rcases g with ⟨kvs,k,e,ey,l⟩|⟨kvs,k,b,e,ey,eb,l⟩
 ·subst ey;obtain⟨z,hd,vs,rel,dd⟩:=Og I.hok e;obtain⟨w',hw,rw'⟩:=GN.some_of (v:=v) (o:=valueAt vs k) (by rw[l];exact rel.val k);exact wpAny_getItem_of (Qs ry) dd.mapOf hw (h w' _ (I.tok _) rw')
 ·subst ey;cases(show u=Value.ref b from ry);obtain⟨z,hd,xs,rel,dd⟩:=Od I.hok e;obtain⟨w',hw,rw'⟩:=GN.some_of (v:=v) (o:=(atKey xs k).map (·.2)) (by rw[l];exact rel.val k);obtain⟨p,hp,hp2⟩:=F4.mp hw;refine wpAny_getItem_heap (A6c hu) (MG I.hok eb) dd hp ?_;rw[hp2];exact h w' _ (I.tok _) rw'
theorem d_notIn{Q:Value->Shared->Prop}(hu:A.units+1<cLine)(I:Inv X pins σ H s)(g:IN H a y o)(ry:Bb y u)(h:∀s',Inv X pins σ H s'->Q (.bool (!o.isSome)) s') :
  wpAny (model X.prog X.w) A (compareOp .NotIn u (.ref a)) Q E s:=by
 rcases g with ⟨kvs,k,e,ey,l⟩|⟨kvs,k,b,e,ey,eb,l⟩
 ·subst ey;obtain⟨z,hd,vs,rel,dd⟩:=Og I.hok e;refine wpAny_notIn_of (Qs ry) hd dd.mapOf ?_;rw[<-(rel.val k).isSome_eq,<-l];exact h _ (I.tok _)
 ·subst ey;cases(show u=Value.ref b from ry);obtain⟨z,hd,xs,rel,dd⟩:=Od I.hok e;refine wpAny_notIn_heap (A6c hu) (MG I.hok eb) hd dd ?_;have q:=(rel.val k).isSome_eq;rw[Y5]at q;rw[<-q,<-l];exact h _ (I.tok _)
theorem Ps{h':Heap}{t':Nat}{ob:HO}(I:Inv X pins σ H s)(mu:Mut (H a))(hs:Heap.SameBut a s.heap h')(he:∃q,h'.get? a=some q)(new:Bh X.prog X.w (upd H a ob) h' a ob) :
  Inv X pins σ (upd H a ob) {s with heap:=h',toks:=t'} :=
 I.write (x:=a) (e:=a) mu (.inl rfl) (λb q hb z=>(hs.2 b hb).trans z) he new
theorem dk_new{P:Program}{w:World}{H':Hp}{h':Heap}{kvs:List (Key×V)}{vs:List (Key×Value)}(z:kvs.length<=sizeLine)(hd:(a==sysModules)=false)(rel:KV kvs vs)(dd:h'.DictOf (Cb P w) a vs) :
  Bh P w H' h' a (.dK kvs):=⟨z,hd,vs,rel,dd⟩
theorem Ue{H':Hp}{Q:Unit->Shared->Prop}(hu:A.units+1<cLine)(I:Inv X pins σ H s)(g:NB H a y v H')(ry:Bb y u)(rv:Bb v r)(h:∀s',Inv X pins σ H' s'->Q () s') :
  wpAny (model X.prog X.w) A (setItem (.ref a) u r) Q E s:=by
 rcases g with ⟨kvs,k,e,ey,l,eH⟩|⟨kvs,k,b,e,ey,eb,l,eH⟩
 ·subst ey eH;obtain⟨z,hd,vs,rel,dd⟩:=dk_of I.hok e;have hz:vs.length<=sizeLine:=by rw[<-rel.length];exact z
  have hl:(Dg kvs k v).length<=sizeLine:=by have:=Io kvs k v;lia
  refine wpAny_setItem_pairs (hsz:=hz) (Qs ry) dd λh' dd' hs=>h _ ?_;have he:∃q,h'.get? a=some q:=let ⟨q,_,_,hq,_⟩:=dd';⟨q,hq⟩;exact Ps I (by rw[e];exact True.intro) hs he (dk_new hl hd (rel.put k rv) dd')
 ·subst ey eH;cases(show u=Value.ref b from ry);obtain⟨z,hd,xs,rel,dd⟩:=dt_of I.hok e;have hz:xs.length<=sizeLine:=by rw[<-A0a rel];exact z
  have hl:(Dg kvs k v).length<=sizeLine:=by have:=Io kvs k v;lia
  refine wpAny_setItem_heap (hsz:=hz) (A6c hu) (MG I.hok eb) dd λh' dd' hs=>h _ ?_;obtain⟨q,es,ep,hq,h2,h3,h4,_,h5⟩:=dd';refine Ps I (by rw[e];exact True.intro) hs ⟨q,hq⟩ ⟨hl,hd,_,(rel.put k eb rv).keeps λc ys ec=>?_,q,es,ep,hq,h2,h3,h4,h5⟩;rw[AD (Bc ec e (λz=>nomatch z))];exact ec
end
section
variable{X:Cx}{pins:List (Addr×Obj)}{σ:St}{H:Hp}{s:Shared}{a:Addr}{kvs:List (Key×V)}{k:Key}{u:Value}{A:Around}{E:Value->Shared->Prop}
end
def NoSl(i:Expr):Prop:=∀ov iv,subscripted i false ov iv=operate [ov,iv] (getItem ov iv)
theorem subD_of{prog:Program}{w:World}{A:Around}{E:Value->Shared->Prop}{s:Shared}{env:Env}{value slice:Expr}{pos:Pos}{T id:String}{Q:Value->Shared->Prop}
  (hl:typeLookup (.type T) "__getitem__" = pure (some (.builtin id))) (hs:NoSl slice)
  (h:wpAny (model prog w) A (eval value env) (λo s₁=>wpAny (model prog w) A (eval slice env) (λi s₂=>s₂.TypeIs o T/\wpAny (model prog w) A (getItem o i) Q E s₂) E s₁) E s) :
  wpAny (model prog w) A (eval (.Subscript value slice pos) env) Q E s:=by
 refine Subscript_ (K1 h (λo s₁ h₁=>K1 h₁ (λi s₂ h₂=>?_) λ_ _ x=>x) λ_ _ x=>x);obtain⟨hT,h₂⟩:=h₂;unfold subscriptTail;refine Z2 ?_;rw[getitemInPython_of_ne hT.not_modules];refine Z2 (A5e hT hl ?_);have fin:wpAny (model prog w) A (subscripted slice false o i) (λr s₃=>wpAny (model prog w) A (letTemporaryGo value o r >>= λ_=>pure r) Q E s₃) E s₂:=by
  rw[hs o i];exact wpAny_operating (K1 h₂ (λr s₃ h₃=>Z2 (wpAny_letTemporaryGo (Z9 h₃))) λ_ _ x=>x)
 first
  |exact Z9 (Z2 fin)
  |exact Z2 (Z9 (Z2 fin))
  |exact Z2 fin
theorem Qz{X:Cx}{pins:List (Addr×Obj)}{σ:St}{H:Hp}{s:Shared}{a:Addr}{y:V}{o:Option V}(I:Inv X pins σ H s)(g:IN H a y o):s.TypeIs (.ref a) "dict" := by
 rcases g with ⟨kvs,k,e,_,_⟩|⟨kvs,k,b,e,_,_,_⟩
 ·obtain⟨_,_,vs,_,dd⟩:=Og I.hok e;exact dd.typeIs
 ·obtain⟨_,_,xs,_,dd⟩:=Od I.hok e;exact dd.typeIs
def tDGet(td ty:TE):TE:=fun σ H Q=>td σ H λx H1=>ty σ H1 λy H2=>∃a v,x=.ref a/\IN H2 a y (some v)/\Q v H2
def tDNotIn(ty td:TE):TE:=fun σ H Q=>ty σ H λy H1=>td σ H1 λx H2=>∃a o,x=.ref a/\IN H2 a y o/\Q (.bl (!o.isSome)) H2
def sDPut(td ty tv:TE):TS:=λD σ H=>tv σ H λv H1=>td σ H1 λx H2=>ty σ H2 λy H3=>∃a H4,x=.ref a/\NB H3 a y v H4/\D.nx σ H4
section
variable{X:Cx}{o i e value:Expr}{pos pos' tpos:Pos}{td ty tv:TE}
theorem pe_dget(hu:X.A.units+1<cLine)(ho:PE X o td)(hi:PE X i ty)(hs:NoSl i):PE X (.Subscript o i pos) (tDGet td ty):=by
 intro pins s σ H Q I h;refine subD_of PySem.F.slot_dict_getitem.lookup hs (thn (ho pins s σ H _ I h) λu s1 ⟨x,H1,I1,rx,q1⟩=>thn (hi pins s1 σ H1 _ I1 q1) λiv s2 ⟨y,H2,I2,ry,a,v,ex,g,q2⟩=>?_);subst ex;obtain rfl:u=Value.ref a:=rx;exact⟨Qz I2 g,Uf hu I2 g ry λw' s3 I3 rw'=>⟨v,H2,I3,rw',q2⟩⟩
theorem Tm(hu:X.A.units+1<cLine)(hi:PE X i ty)(ho:PE X o td):PC X .NotIn i o (tDNotIn ty td):=by
 intro pins s σ H Q I h;refine thn (hi pins s σ H _ I h) λiv s1 ⟨y,H1,I1,ry,q1⟩=>thn (ho pins s1 σ H1 _ I1 q1) λu s2 ⟨x,H2,I2,rx,a,ov,ex,g,q2⟩=>?_;subst ex;obtain rfl:u=Value.ref a:=rx;exact d_notIn hu I2 g ry λs3 I3=>⟨.bl (!ov.isSome),H2,I3,rfl,q2⟩
theorem LR(hu:X.A.units+1<cLine)(ho:PE X o td)(hi:PE X i ty)(hv:PE X value tv)(hs:swapsWith value (some (.Subscript o i pos')) pos.line X.env=pure false) :
  PS X (.Assign [.Subscript o i pos'] value pos) (sDPut td ty tv):=by
 intro pins s σ H D I h;refine wpAny_Assign_Subscript (thn (hv pins s σ H _ I h) λr s1 ⟨v,H1,I1,rv,q1⟩=>thn (ho pins s1 σ H1 _ I1 q1) λu s2 ⟨x,H2,I2,rx,q2⟩=>thn (hi pins s2 σ H2 _ I2 q2) λiv s3 ⟨y,H3,I3,ry,a,H4,ex,g,q3⟩=>?_) hs;subst ex;obtain rfl:u=Value.ref a:=rx;exact Ue hu I3 g ry rv λs4 I4=>⟨σ,H4,I4,q3⟩
end
theorem Wn{P:Program}{w:World}{H:Hp}(h:Heap)(hb:sysModules<h.objs.size):Bh P w H (h.push {cls:=.type "dict",data:=.dict #[]}) h.objs.size (.dK []) :=
 ⟨F5 _,beq_eq_false_iff_ne.mpr (X5 (F0 hb)),[],.nil,Heap.DictOf.new h⟩
theorem Wm{P:Program}{w:World}{H:Hp}(h:Heap)(hb:sysModules<h.objs.size):Bh P w H (h.push {cls:=.type "dict",data:=.dict #[]}) h.objs.size (.dT []) :=
 ⟨F5 _,beq_eq_false_iff_ne.mpr (X5 (F0 hb)),[],.nil,_,#[],0,D4 _ rfl,⟨rfl,rfl,rfl⟩,rfl,rfl,P2⟩
def tDNewK:TE:=λ_ H Q=>∀p,H p=none->Q (.ref p) (upd H p (.dK []))
def tDNewT:TE:=λ_ H Q=>∀p,H p=none->Q (.ref p) (upd H p (.dT []))
section
variable{X:Cx}{pos:Pos}
theorem Ig:PE X (.Dict [] [] pos) tDNewK:=λpins s σ H Q I h =>
 wpAny_Dict_empty ⟨.ref s.heap.objs.size,_,I.laid (a:=s.heap.objs.size) (o:=.dK []) (t':=s.toks) (λ_ _ q=>B3 _ q) (B1 _) (Wn s.heap I.big),rfl,h _ (I.hok.fresh (B1 _))⟩
theorem Vk:PE X (.Dict [] [] pos) tDNewT:=λpins s σ H Q I h =>
 wpAny_Dict_empty ⟨.ref s.heap.objs.size,_,I.laid (a:=s.heap.objs.size) (o:=.dT []) (t':=s.toks) (λ_ _ q=>B3 _ q) (B1 _) (Wm s.heap I.big),rfl,h _ (I.hok.fresh (B1 _))⟩
end
structure M1(X:Cx)(o:Expr)(m:Str)(apos:Pos)(e:Expr)(cpos:Pos):Prop where
 base:attributeBase o m X.env (eval o X.env)=eval o X.env
 few:((backTo cpos (starEach [e] X.env)).all (λx=>!x.1) && (backToKw cpos (keywordEach [] X.env)).all (λx=>x.1.isSome)
  && decide (([e]:List Expr).length+([]:List Keyword).length+(if([]:List Keyword).isEmpty then 0 else 1)<30))=true
 line:(apos.endLine==cpos.line)=true
 trees:backTo cpos (starEach [e] X.env)=[(false,eval e X.env)]
def IsD(H:Hp)(a:Addr):Prop:=(∃kvs,Rd H a (.dK kvs))\/∃kvs,Rd H a (.dT kvs)
theorem isD_at{X:Cx}{pins:List (Addr×Obj)}{σ:St}{H:Hp}{s:Shared}{a:Addr}(I:Inv X pins σ H s)(d:IsD H a) :
  s.TypeIs (.ref a) "dict" /\ (∀b,Value.ref a=.ref b->∃ob,s.heap.get? b=some ob/\ob.dict=none)/\(a==sysModules)=false:=by
 rcases d with ⟨kvs,e⟩|⟨kvs,e⟩
 ·obtain⟨_,hd,vs,_,dd⟩:=Og I.hok e;refine⟨dd.typeIs,λb q=>?_,hd⟩;cases q;obtain⟨ob,_,_,h1,h2,_⟩:=dd;exact⟨ob,h1,h2.2.1⟩
 ·obtain⟨_,hd,xs,_,dd⟩:=Od I.hok e;refine⟨dd.typeIs,λb q=>?_,hd⟩;cases q;obtain⟨ob,_,_,h1,h2,_⟩:=dd;exact⟨ob,h1,h2.2.1⟩
section
variable{X:Cx}{pins:List (Addr×Obj)}{σ:St}{H:Hp}{s:Shared}{a:Addr}{y d:V}{u r:Value}{o:Option V}{A:Around}{E:Value->Shared->Prop}
theorem d_get1{Q:Value->Shared->Prop}(hu:A.units+1<cLine)(I:Inv X pins σ H s)(g:IN H a y o)(ry:Bb y u)(h:∀w' s',Inv X pins σ H s'->Bb (o.getD .non) w'->Q w' s') :
  wpAny (model X.prog X.w) A (call (.builtin "dict.get") [.ref a,u]) Q E s:=by
 rcases g with ⟨kvs,k,e,ey,l⟩|⟨kvs,k,b,e,ey,eb,l⟩
 ·subst ey;obtain⟨z,hd,vs,rel,dd⟩:=Og I.hok e;refine call_meetsIn A2a dd.typeIs A6g (A6d _ _) (meets_dict_get (Cb X.prog X.w) a (Qs ry) hd) ⟨_,dd.mapOf,h _ _ (I.tok _) ?_⟩;rw[l];exact(rel.val k).getD rfl
 ·subst ey;cases(show u=Value.ref b from ry);obtain⟨z,hd,xs,rel,dd⟩:=Od I.hok e;refine call_meetsIn A2a dd.typeIs A6g (A6d _ _) (meetsH_dict_get (tupleKind (Cb X.prog X.w)) a b hd) ⟨A6c hu,k,xs,MG I.hok eb,dd,h _ _ (I.tok _) ?_⟩;rw[l];exact(rel.val k).getD rfl
end
def tDGet1(td ty:TE):TE:=fun σ H Q=>td σ H λx H1=>∃a,x=.ref a/\IsD H1 a/\ty σ H1 λy H2=>∃o,IN H2 a y o/\Q (o.getD .non) H2
section
variable{X:Cx}{o e f:Expr}{apos cpos:Pos}{td ty tx:TE}
theorem Vn(hu:X.A.units+1<cLine)(ho:PE X o td)(he:PE X e ty)(m:M1 X o "get" apos e cpos):PE X (.Call (.Attribute o "get" apos) [e] [] cpos) (tDGet1 td ty):=by
 intro pins s σ H Q I h;refine wpAny_Call_method m.base m.few m.line PySem.F.plainAttrs_dict A2a PySem.F.type_dict_get (thn (ho pins s σ H _ I h) λu s1 ⟨x,H1,I1,rx,a,ex,d,q1⟩=>?_);subst ex;obtain rfl:u=Value.ref a:=rx;obtain⟨t1,t2,_⟩:=isD_at I1 d;refine⟨t1,t2,?_⟩;rw[m.trees];refine A8b rfl (A3d (A5h (thn (he pins s1 σ H1 _ I1 q1) λiv s2 ⟨y,H2,I2,ry,ov,g,q2⟩=>A7b ?_)));exact d_get1 hu I2 g ry λw' s3 I3 rw'=>⟨_,H2,I3,rw',q2⟩
end
section
variable{X:Cx}{pins:List (Addr×Obj)}{σ:St}{H:Hp}{s:Shared}{a:Addr}{kvs:List (Key×V)}{A:Around}{E:Value->Shared->Prop}
end
section
variable{X:Cx}{pins:List (Addr×Obj)}{σ:St}{H:Hp}{s:Shared}{a:Addr}{y:V}{u:Value}{A:Around}{E:Value->Shared->Prop}
end
section
variable{X:Cx}
end
section
variable{κ:Type}[DecidableEq κ]
theorem Uy{kvs:List (κ×V)}{k:κ}(h:BR kvs k=none):¬k∈kvs.map (·.1):=by
 intro m;obtain⟨p,hp,e⟩:=F1.mp m;have q:(kvs.any λkv=>decide (kv.1=k))=true:=List.any_eq_true.mpr ⟨p,hp,Z3 e⟩;rw[Ew,h]at q;exact absurd q A5
theorem Sr:∀{l:List κ}{k:κ},l.Nodup->¬k∈l->(l++[k]).Nodup
 |[],k,_,_=>by simp
 |a::r,k,h,hk=>by
  obtain⟨h1,h2⟩:=N9.mp h;show(a::(r++[k])).Nodup;refine N9.mpr ⟨λm=>?_,Sr h2 λm=>hk (B7.mpr (Or.inr m))⟩;rcases C6.mp m with q|q
  ·exact h1 q
  ·exact hk (B7.mpr (Or.inl (C9.mp q).symm))
theorem nd_putK{kvs:List (κ×V)}{k:κ}(v:V)(hn:(kvs.map (·.1)).Nodup)(h:BR kvs k=none):((Dg kvs k v).map (·.1)).Nodup:=by
 rw[Ju v h,D5];exact Sr hn (Uy h)
end
section
variable{X:Cx}
theorem pe_fldK{K:W.Frag}{e:Expr}{f:Str}{ta:TE}{pos:Pos}(hK:X.K=K)(he:PE X e ta)(hb:attributeBase e f X.env (eval e X.env)=eval e X.env):PE X (.Attribute e f pos) (tFld K ta f):=hK▸BK he hb
end
section
variable{X:Cx}
theorem Lr(ns:List Int):∀k,k<=ns.length->preSum (λi=>ns.getD i 0) k=(ns.take k).sum
 |0,_=>by simp[preSum]
 |k+1,h=>by
  have h':k<ns.length:=h;show preSum _ k+ns.getD k 0=_;rw[Lr ns k (N5 h'),J1,C0 h',C5,C0 h',List.sum_append];show _+ns[k]=_+(ns[k]+0)
  rw[W3]
theorem MJ{ns:List Int}{its:List Value}(rv:AN (ns.map V.int) its):∀(i:Nat) v,its.toArray[i]?=some v->∃t,v=.int (ns.getD i 0) t:=λi v e=>by
 have e:its[i]?=some v:=by simpa using e
 cases eb:ns[i]? with
 |none =>
  have:its[i]?=none:=rv.none_of (by rw[C1,eb];rfl);rw[e]at this;cases this
 |some b =>
  obtain⟨u,hu,ru⟩:=rv.get (i:=i) (x:=V.int b) (by rw[C1,eb];rfl);rw[e]at hu;cases hu;rw[C5,eb];obtain⟨t,rfl⟩:=ru;exact⟨t,rfl⟩
theorem QF(hc:X.calm=true):Fb X (.builtin "sum") (λxs H Q=>∃(p:Addr)(ns:List Int),xs=[.ref p]/\SqL X.K H p (ns.map V.int)/\Q (.int ns.sum) H):=by
 intro pins s σ H xs us Q I r h;obtain⟨p,ns,rfl,hq,q⟩:=h;cases r with
 |cons r1 r2 =>
  cases r2;cases(show _=Value.ref p from r1);obtain⟨its,rv,pl,hz⟩:=I.list hq;have hlt:p<s.heap.objs.size:=by obtain⟨o,n,e,_⟩:=pl;exact D0 e
  have hne:p≠s.heap.objs.size:=F0 hlt;have len:its.toArray.size=ns.length:=by rw[D1,<-rv.length,B0]
  refine call_sum_walkAnyS (A7a pl.isList ?_);refine⟨s.heap.objs.size,_,_,_,_,_,_,λi=>ns.getD i 0,rfl,(Walks.list (A:=X.A.in1) (I.ok.hd hc) s.heap.objs.size p hne its.toArray).toS,⟨⟨_,D4 _ rfl,rfl,rfl⟩,?_⟩,?_,MJ rv,?_⟩
  ·exact pl.isList.at λo e=>B3 _ e
  ·intro b hb;show b<(s.heap.push _).objs.size;rw[Q5];rcases B7.mp hb with rfl|hb
   ·exact V5 _
   ·rcases B7.mp hb with rfl|hb
    ·exact Y6 hlt
    ·cases hb
  ·intro s' t' mv;have I2:Inv X pins σ H {s with heap:=s'.heap,toks:=s'.toks}:=I.kept λb o e=>mv.heap b o (by intro z;exact F0 (D0 e) (by simpa using z)) (B3 _ e);have es:s'={s with heap:=s'.heap,toks:=s'.toks}:=by
    obtain⟨m1,m2,m3,m4,m5⟩:=mv;cases s';simp only at m2 m3 m4;subst m2;subst m3;subst m4;rfl
   rw[es,len,Lr ns _ (B1 _),M8];exact⟨.int ns.sum,H,I2,⟨t',rfl⟩,q⟩
end
theorem QJ(ns ms:List Int):((List.range (min ns.length ms.length)).all (λj=>ns.getD j 0==ms.getD j 0) && ns.length==ms.length)=decide (ns=ms):=by
 rw[O8,O1,M9,A5b,decide_eq_true_iff];constructor
 ·rintro⟨h1,h2⟩;refine List.ext_getElem h2 λi h3 h4=>?_;have:=h1 i (M2.mpr A0);rw[A5b,C5,C5,C0 h3,C0 h4]at this;exact this
 ·rintro rfl;exact⟨λx _=>beq_iff_eq.mpr rfl,rfl⟩
section
variable{X:Cx}
theorem NF{H:Hp}{ns:List Int}{its:List Value}(rv:AN (ns.map V.int) its){A:Around}{s:Shared}{ms:List Int}{jts:List Value}(rw':AN (ms.map V.int) jts)(j:Nat)(h1:j<its.toArray.size)(h2:j<jts.toArray.size):PySem.SeqAt.EqAt A s its.toArray[j] jts.toArray[j] (ns.getD j 0==ms.getD j 0):=by
 obtain⟨t,e⟩:=MJ rv j _ (B4 h1);obtain⟨u,e2⟩:=MJ rw' j _ (B4 h2);rw[e,e2];exact PySem.SeqAt.EqAt.int_int _ t _ u
theorem Tq(hu:X.A.units+64<cLine):OpR X (compareOp .Eq) (λx y H Q=>∃(a b:Addr)(ns ms:List Int),x=.ref a/\y=.ref b/\SqT X.K H a (ns.map V.int)/\SqT X.K H b (ms.map V.int)/\Q (.bl (decide (ns=ms))) H):=by
 intro pins s σ H x y v u Q I rx ry h;obtain⟨a,b,ns,ms,rfl,rfl,h1,h2,q⟩:=h;cases rx;cases ry;obtain⟨xs,r1,p1,_⟩:=I.tuple h1;obtain⟨ys,r2,p2,_⟩:=I.tuple h2;refine PySem.SeqAt.eq_tupleAt p1 p2 A0 (λj k1 k2=>NF (H:=H) r1 r2 j k1 k2) ?_;rw[D1,D1,<-r1.length,<-r2.length,B0,B0,QJ];exact⟨.bl _,H,I,rfl,q⟩
end
section
variable{prog:Program}{w:World}{κ:Type}[DecidableEq κ]{knd:HeapKind prog w κ}{A:Around}{E:Value->Shared->Prop}{s:Shared}
end
section
variable{X:Cx}{pins:List (Addr×Obj)}{σ:St}{H:Hp}{s:Shared}{a:Addr}{y v:V}{u r:Value}{o:Option V}{A:Around}{E:Value->Shared->Prop}
end
section
variable{X:Cx}{o e f:Expr}{apos cpos:Pos}{td ty tx:TE}
end
section
variable{prog:Program}{w:World}{A:Around}{E:Value->Shared->Prop}{s:Shared}{d it:Addr}{o:Obj}{es:Array DictEntry}{ep i:Nat}
end
end L2
namespace L2
open PySem PySem.W PySem.Spec PyProof.Rows
theorem AO.up{P:Program}{w:World}{K:W.Frag}{mg:Str->Option Value}{base:Heap}{CX:CXT}{k:Nat}{f:Addr}{fd:FuncData}{ps:List Str}{sp:Sp}(F:AO P w K mg base CX0 k f fd ps sp):AO P w K mg base CX k f fd ps sp :=
 ⟨F.len,λA outer s H args us vs Q E hr e hb r h=>A4f (F.run A outer s H args us vs Q E hr e hb r h) λr s' q=>by
  rcases r with e|(_|_|_|_)
  ·exact q.elim
  all_goals exact q⟩
theorem AO.or{P:Program}{w:World}{K:W.Frag}{mg:Str->Option Value}{base:Heap}{CX:CXT}{k:Nat}{f:Addr}{fd:FuncData}{ps:List Str}{sp sp':Sp}(F:AO P w K mg base CX k f fd ps sp)(F':AO P w K mg base CX k f fd ps sp'):AO P w K mg base CX k f fd ps (λvs H Q E=>sp vs H Q E\/sp' vs H Q E) :=
 ⟨λvs H Q E h=>h.elim (F.len vs H Q E) (F'.len vs H Q E),λA outer s H args us vs Q E hr e hb r h=>h.elim (F.run A outer s H args us vs Q E hr e hb r) (F'.run A outer s H args us vs Q E hr e hb r)⟩
def isT:Value->Bool
 |.bool b=>b
 |_=>false
theorem Oy:∀{bs:List Bool}{its:List Value},AN (bs.map V.bl) its->its=bs.map Value.bool
 |[],_,.nil=>rfl
 |b::bs,_,.cons r t=>by
  cases(show _=Value.bool b from r);rw[Oy t];rfl
theorem eq_isT(b:Bool):PySem.MeetsSeq.EqGives (.bool b) (.bool true) b:=λP w A E s Q q=>SeqAt.EqAt.bool_bool b true P w E Q (by
 cases b<;>exact q)
theorem SI{bs:List Bool}{y:Value}(hy:y∈bs.map Value.bool):PySem.MeetsSeq.EqGives y (.bool true) (isT y):=by
 obtain⟨b,_,rfl⟩:=F1.mp hy;exact eq_isT b
theorem SO:∀bs:List Bool,(bs.map Value.bool).countP isT=bs.countP id
 |[]=>rfl
 |b::bs=>by
  rw[D7,V9,V9,SO bs];rfl
structure CalH(P:Program)(w:World)(K:W.Frag)(mg:Str->Option Value)(base:Heap)(k:Nat)(x:Str)(ps:List Str)(sp:Sp):Prop where
 ex:∃(f:Addr)(fd:FuncData),SY P w K mg base k f fd ps sp/\mg x=some (.ref f)/\keepIn K (.ref f)=true/\CD K fd ps []
section
variable{X:Cx}{CX:CXT}{k:Nat}{ps:List Str}{sp:Sp}{E:XK}{x:Str}{p pos:Pos}{e:Expr}{es:List Expr}{t:TA}{S:St->Prop}
theorem ON(c:Cal X.prog X.w X.K X.mg X.base CX k x ps sp)(hr:CC k X.A)(hg:Gl X x)(hx:JP CX X E S)(ha:PA X (e::es) t)(hdb:(x==("__debug__" : Str))=false:=by decide)
  (he:starEach (e::es) X.env=(false,eval e X.env)::starEach es X.env:=by rfl) (hpl:(backTo pos (starEach es X.env)).any (·.1)=false:=by rfl):PE X (.Call (.Name x p) (e::es) [] pos) (UG S sp [] E t):=by
 obtain⟨f,fd,h1,h2,h3,h4⟩:=c;exact Vp h1 hr hg h2 h3 h4 .nil hx ha hdb he hpl
theorem Sn(c:CalH X.prog X.w X.K X.mg X.base k x ps sp)(hr:QL k X.A)(hg:Gl X x)(ha:PA X (e::es) t)(hdb:(x==("__debug__" : Str))=false:=by decide)
  (he:starEach (e::es) X.env=(false,eval e X.env)::starEach es X.env:=by rfl) (hpl:(backTo pos (starEach es X.env)).any (·.1)=false:=by rfl):PE X (.Call (.Name x p) (e::es) [] pos) (Sd sp [] E0 t):=by
 obtain⟨f,fd,h1,h2,h3,h4⟩:=c.ex;exact Vq h1 hr hg h2 h3 h4 ha hdb he hpl
end
section
variable{X:Cx}
theorem Tz:MtR X "list.count" (λx xs H Q=>∃(l:Addr)(bs:List Bool),x=.ref l/\xs=[.bl true]/\H l=some (.lst (bs.map V.bl))/\Q (.int (bs.countP id:Nat)) H):=by
 intro pins s σ H x xs v us Q I rx r h;obtain⟨l,bs,rfl,rfl,hH,q⟩:=h;cases rx;obtain⟨u,rfl,hu⟩:=r.one;cases hu;obtain⟨z,its,k,rv,hl,e⟩:=I.lstM hH;have ei:=Oy rv;subst ei;refine A3e F.slot_list_count ⟨_,e,rfl⟩ F.entry_list_count (F.args_list_count_2 _ _) (MeetsSeq.list_count l _ k (.bool true) isT (λy hy=>SI (by simpa using hy))) ⟨e,?_⟩;refine⟨.int _,H,I.tok _,⟨_,rfl⟩,?_⟩;rw[List.toList_toArray,SO];exact q
theorem Ty:MtR X "list.index" (λx xs H Q=>∃(l:Addr)(bs:List Bool)(j:Nat),x=.ref l/\xs=[.bl true]/\H l=some (.lst (bs.map V.bl))/\bs.length<1000/\bs[j]?=some true/\(∀m,m<j->bs[m]?=some false)/\Q (.int (j:Nat)) H):=by
 intro pins s σ H x xs v us Q I rx r h;obtain⟨l,bs,j,rfl,rfl,hH,hl',hj,hm,q⟩:=h;cases rx;obtain⟨u,rfl,hu⟩:=r.one;cases hu;obtain⟨z,its,k,rv,hl,e⟩:=I.lstM hH;have ei:=Oy rv;subst ei;have jl:j<bs.length:=(B8.mp hj).1;refine A3e F.slot_list_index ⟨_,e,rfl⟩ F.entry_list_index (F.args_list_index_2 _ _) (MeetsSeq.list_index l _ k (.bool true) isT (λy hy=>SI (by simpa using hy)) j (by simpa using jl) A0 ?_ ?_) ⟨e,?_⟩
 ·have:=(B8.mp hj).2;simp[isT,this]
 ·intro m h1 h2;have:=(B8.mp (hm m h2)).2;simp[isT,this]
 ·exact⟨.int _,H,I.tok _,⟨_,rfl⟩,q⟩
end
section
variable{X:Cx}
def CDivB(i j:Int):Prop:=0<j/\j<2^64
theorem PY:OpR X (binaryOp .FloorDiv) (rI CDivB λi j=>.int (i/j)):=opI λi j _ _ _ _ _ hc q=>by
 have h1:(0:Int)<j:=hc.1;have h2:j<2^64:=hc.2;refine floordiv_int A0 (by rw[Int.fdiv_eq_ediv_of_nonneg i A0];exact q) (.inl (PyProof.noPylong_of_log2 ?_));have h3:j.natAbs<2^64:=by lia
 exact F2 ((Nat.log2_lt A0).mpr h3) A3
end
abbrev NE:=Sum Int (List Int)
abbrev NK:=List NE
def isR:NE->Bool
 |.inl _=>false
 |.inr _=>true
section
variable(P:Program)(w:World)
inductive Cj(h:Heap):NK->List Value->Prop
 |nil:Cj h [] []
 |int {i:Int} {v:Value} {ks:NK} {vs:List Value} (e:(intKind P w).is i v=true) (r:Cj h ks vs):Cj h (.inl i::ks) (v::vs)
 |tup {ps:List Int} {b:Addr} {ks:NK} {vs:List Value} (e:IsTupleKey (intKind P w) h ps b) (r:Cj h ks vs):Cj h (.inr ps::ks) (.ref b::vs)
structure FY(sh:List Bool)(h:Heap)(k:NK)(a:Addr):Prop where
 shape:k.map isR=sh
 ex:∃o its n,h.get? a=some o/\o.cls=.type "tuple" /\ o.data=.seq its n/\Cj P w h k its.toList
def Ly:NE->Int
 |.inl i=>(intKind P w).hash i
 |.inr ps=>tupleKeyHash (intKind P w) ps
def Lz:NE->Nat
 |.inl _=>1
 |.inr ps=>ps.length+1
def VE(k:NK):Int:=reduceHash (Builtin.Tuple.tupleHashOf (k.map (Ly P w)))
def VF(k:NK):Nat:=(k.map Lz).sum+1
end
section
variable{P:Program}{w:World}{sh:List Bool}{h h':Heap}
theorem Cj.inj{x y:NK}{vs:List Value}(hx:Cj P w h x vs):Cj P w h y vs->x.map isR=y.map isR->x=y:=by
 induction hx generalizing y with
 |nil=>intro hy _;cases hy;rfl
 |int e r ih =>
  intro hy hs;cases hy with
  |int e' r' =>
   rw[D7,D7]at hs;rw[(intKind P w).inj _ _ _ e e',ih r' (A1h hs).2]
  |tup e' r'=>cases hs
 |tup e r ih =>
  intro hy hs;cases hy with
  |int e' r'=>cases hs
  |tup e' r' =>
   rw[D7,D7]at hs;rw[e.inj e',ih r' (A1h hs).2]
theorem Cj.keep{x:NK}{vs:List Value}(hx:Cj P w h x vs)(k:∀ps b,IsTupleKey (intKind P w) h ps b->IsTupleKey (intKind P w) h' ps b):Cj P w h' x vs:=by
 induction hx with
 |nil=>exact .nil
 |int e r ih=>exact .int e ih
 |tup e r ih=>exact .tup (k _ _ e) ih
theorem FY.ty{s:Shared}{k:NK}{a:Addr}(x:FY P w sh s.heap k a):s.TypeIs (.ref a) "tuple" := by
 obtain⟨o,_,_,ho,hc,_⟩:=x.ex;exact⟨o,ho,hc⟩
variable{A:Around}{E:Value->Shared->Prop}{s:Shared}
theorem Tr{k:NK}{a:Addr}{Q:Int->Shared->Prop}(hu:A.units+1<cLine)(hk:FY P w sh s.heap k a)(q:Q (VE P w k) {s with toks:=s.toks+VF k}):wpAny (model P w) A (pyHash (.ref a)) Q E s:=by
 have ty:=hk.ty;obtain⟨_,o,its,n,ho,_,hd,hi⟩:=hk;unfold pyHash
 first|unfold pyHashByItsType|skip
 first|refine Z2 (wpAny_cRoomFor_or (.inr A0) ?_)|skip
 refine Z2 (A5e ty PySem.F.slot_tuple_hash.lookup ?_);show wpAny _ _ (if(some (Value.builtin "tuple.__hash__")==some Value.none)=true then _ else _) Q E s;rw[Z5 (by rw[beq_builtin_none];exact D6)];refine Z2 (A5e ty PySem.F.slot_tuple_hash.lookup ?_);show wpAny _ _ (callSpecialIfBoundUnlessNone? (.ref a) "__hash__" _ >>= _) Q E s;refine Z2 (wpAny_callSpecialIfBoundUnlessNone?_slot ty PySem.F.slot_tuple_hash (A1e PySem.F.slot_tuple_hash ty PySem.F.entry_tuple_hash ?_ (PySem.F.args_tuple_hash_1 _)));show wpAny _ _ (Builtin.Tuple.tupleItemsOf (.ref a) >>= _) _ _ s;refine Z2 (A9c ho hd (Z2 ?_));rw[<-Y4];refine A7g _ (λrest (b:Array Int) s'=>∃dn lf,k=dn++lf/\Cj P w s.heap lf rest/\b.toList=dn.map (Ly P w)/\s'={s with toks:=s.toks+(dn.map Lz).sum}) _ ?_ ?_ _ _ ⟨[],k,rfl,hi,rfl,rfl⟩
 ·rintro x rest b s' ⟨dn,lf,rfl,hl,hb,rfl⟩;cases hl with
  |@int i v ks vs e r =>
   refine Z2 ((intKind P w).pyHash e ?_);have fin:∃d l,dn++Sum.inl i::ks=d++l/\Cj P w s.heap l rest/\(b.push ((intKind P w).hash i)).toList=d.map (Ly P w)/\({s with toks:=s.toks+(dn.map Lz).sum+1}:Shared)={s with toks:=s.toks+(d.map Lz).sum}:=⟨dn++[.inl i],ks,by simp,r,by simp[hb,Ly],by simp[Lz,S9]⟩
   first|exact Z9 fin|exact Z2 (Z9 (Z9 fin))
  |@tup ps c ks vs e r =>
   refine Z2 (wpAny_pyHash_tuple (by show A.units+1<cLine;exact hu) e ?_);have fin:∃d l,dn++Sum.inr ps::ks=d++l/\Cj P w s.heap l rest/\(b.push (tupleKeyHash (intKind P w) ps)).toList=d.map (Ly P w)/\({s with toks:=s.toks+(dn.map Lz).sum+(ps.length+1)}:Shared)={s with toks:=s.toks+(d.map Lz).sum}:=⟨dn++[.inr ps],ks,by simp,r,by simp[hb,Ly],by simp[Lz,S9]⟩
   first|exact Z9 fin|exact Z2 (Z9 (Z9 fin))
 ·rintro b s' ⟨dn,lf,rfl,hl,hb,rfl⟩;cases hl;rw[N4]at q;show wpAny _ _ (retInt (Builtin.Tuple.tupleHashOf b.toList)) _ _ _;rw[hb];refine wpAny_ret_mkInt ?_;unfold VE VF reduceHash at q;show wpAny _ _ (if(decide (-(2:Int)^63<=Builtin.Tuple.tupleHashOf (dn.map (Ly P w))) && decide (Builtin.Tuple.tupleHashOf (dn.map (Ly P w))<2^63))=true then _ else _) Q E _;split at q
  ·rename_i z;rw[Z6 z];exact Z9 (by simpa[S9] using q)
  ·rename_i z;rw[Z5 z];exact Z2 (A1g (Z9 (by simpa[S9] using q)))
theorem OW{x y:NK}{a b:Addr}{R:Fin->Shared->Prop}(hu:A.units<cLine)(hx:FY P w sh s.heap x a)(hy:FY P w sh s.heap y b)(q:R (.done (.ret (.bool (decide (x=y))))) s):wpAny (model P w) A (Builtin.«tuple.__eq__» ⟨[.ref a,.ref b],[]⟩) R E s:=by
 have tb:=hy.ty;obtain⟨sx,oa,xs,na,hoa,_,hda,hia⟩:=hx;obtain⟨sy,ob,ys,nb,hob,_,hdb,hib⟩:=hy;show wpAny _ _ (isInstance (.ref b) (.type "tuple") >>= _) _ _ s;refine Z2 (A4h tb A8e ?_);simp only[O2,F8,A1b];refine Z2 (A9c hoa hda (Z2 (A9c hob hdb (Z2 ?_))));refine A7g _ (λrest r s'=>r.1=none/\s'=s/\∃x' y' us vs,rest=List.zip us vs/\Cj P w s.heap x' us/\Cj P w s.heap y' vs/\x'.map isR=y'.map isR/\decide (x'=y')=decide (x=y)/\(us.length==vs.length)=(xs.size==ys.size)) _ ?_ ?_ _ _ ⟨rfl,rfl,x,y,xs.toList,ys.toList,rfl,hia,hib,sx.trans sy.symm,rfl,by simp⟩
 ·rintro⟨u,v⟩ rest r s' ⟨hr,rfl,x',y',us,vs,hz,hx',hy',hsh,hdec,hlen⟩;cases hx' with
  |nil=>simp at hz
  |@int i1 u' ks us' e1 r1 =>
   cases hy' with
   |nil=>simp at hz
   |@int i2 v' ks' vs' e2 r2 =>
    simp only[List.zip_cons_cons,List.cons.injEq,Prod.mk.injEq]at hz;obtain⟨⟨rfl,rfl⟩,rfl⟩:=hz;rw[D7,D7]at hsh;refine Z2 ((intKind P w).eqBool e1 e2 ?_);by_cases hk:i1=i2
    ·subst hk;rw[Z3 rfl];simp only[O2,F8,A1b];refine Z9 ⟨rfl,rfl,ks,ks',us',vs',rfl,r1,r2,(A1h hsh).2,?_,by simpa using hlen⟩;rw[<-hdec];exact decide_eq_decide.mpr ⟨λz=>by rw[z],λz=>(A1h z).2⟩
    ·rw[Z4 hk];simp only[Bool.not_false,A5f];have hf:decide (x=y)=false:=by rw[<-hdec];exact Z4 λz=>hk (Sum.inl.inj (A1h z).1)
     rw[hf]at q;exact Z2 (Z9 (Z9 (Z9 q)))
   |tup e2 r2=>cases hsh
  |@tup ps1 c1 ks us' e1 r1 =>
   cases hy' with
   |nil=>simp at hz
   |int e2 r2=>cases hsh
   |@tup ps2 c2 ks' vs' e2 r2 =>
    simp only[List.zip_cons_cons,List.cons.injEq,Prod.mk.injEq]at hz;obtain⟨⟨rfl,rfl⟩,rfl⟩:=hz;rw[D7,D7]at hsh;refine Z2 (wpAny_eqBool_tuple hu e1 e2 ?_);by_cases hk:ps1=ps2
    ·subst hk;rw[Z3 rfl];simp only[O2,F8,A1b];refine Z9 ⟨rfl,rfl,ks,ks',us',vs',rfl,r1,r2,(A1h hsh).2,?_,by simpa using hlen⟩;rw[<-hdec];exact decide_eq_decide.mpr ⟨λz=>by rw[z],λz=>(A1h z).2⟩
    ·rw[Z4 hk];simp only[Bool.not_false,A5f];have hf:decide (x=y)=false:=by rw[<-hdec];exact Z4 λz=>hk (Sum.inr.inj (A1h z).1)
     rw[hf]at q;exact Z2 (Z9 (Z9 (Z9 q)))
 ·rintro⟨r1,r2⟩ s' ⟨hr,rfl,x',y',us,vs,hz,hx',hy',hsh,hdec,hlen⟩;simp only at hr;subst hr;refine Z9 ?_;have hfin:(xs.size==ys.size)=decide (x=y):=by
   rw[<-hdec,<-hlen];cases hx' with
   |nil =>
    cases hy' with
    |nil=>simp
    |int _ _=>cases hsh
    |tup _ _=>cases hsh
   |int _ _ =>
    cases hy' with
    |nil=>cases hsh
    |int _ _=>simp at hz
    |tup _ _=>cases hsh
   |tup _ _ =>
    cases hy' with
    |nil=>cases hsh
    |int _ _=>cases hsh
    |tup _ _=>simp at hz
  show R (.done (.ret (.bool (xs.size==ys.size)))) s';rw[hfin];exact q
theorem nest_eq{x y:NK}{a b:Addr}{Q:Bool->Shared->Prop}(hu:A.units+1<cLine)(hx:FY P w sh s.heap x a)(hy:FY P w sh s.heap y b)(q:Q (decide (x=y)) s):wpAny (model P w) A (eqBool (.ref a) (.ref b)) Q E s:=by
 unfold eqBool
 try with_reducible refine A3a ?_
 show wpAny _ _ (if(Value.ref a==Value.ref b)=true then _ else _) Q E s;by_cases hab:(Value.ref a==Value.ref b)=true
 ·rw[Z6 hab];have e:a=b:=by have:=eq_of_beq hab;injection this
  subst e;have:x=y:=by
   obtain⟨s1,o,its,n,ho,_,hd,hi⟩:=hx;obtain⟨s2,o',its',n',ho',_,hd',hi'⟩:=hy;obtain rfl:o=o':=X2 (ho.symm.trans ho');rw[hd]at hd';injection hd' with h1 _
   subst h1;exact hi.inj hi' (s1.trans s2.symm)
  subst this;exact Z2 (A1g (Z9 (by simpa using q)))
 ·rw[Z5 hab];exact Z2 (wpAny_richCompare_same_room (op:=.Eq) hx.ty hy.ty PySem.F.slot_tuple_eq (A1e PySem.F.slot_tuple_eq hx.ty PySem.F.entry_tuple_eq (OW (by show A.units+1<cLine;exact hu) hx hy ⟨_,rfl,(λe=>nomatch e),A0d q⟩) (PySem.F.args_tuple_eq_2 _ _)) A0)
theorem Ti{n:Nat}{ps:List Int}{a:Addr}{Q:Bool->Shared->Prop}(hk:IsTupleKey (intKind P w) s.heap ps a)(q:Q true s):wpAny (model P w) A (eqIsQuiet (n+1) (.ref a)) Q E s:=by
 have ty:=hk.typeIs;obtain⟨o,its,m,ho,_,hd,hi⟩:=hk;unfold eqIsQuiet;refine Z2 (A5e ty PySem.F.slot_tuple_eq.lookup ?_);show wpAny _ _ (isInstance (.ref a) (.type "tuple") >>= _) _ _ s;refine Z2 (A4h ty A8e ?_);simp only[O2,F8,A1b];refine Z2 (A0g ho hd (Z2 ?_));show wpAny _ _ (forIn its _ _) _ _ s;rw[<-Y4];refine A7g _ (λrest r s'=>r.1=none/\s'=s/\∀v∈rest,carriedByValue v=true) _ ?_ ?_ _ _ ⟨rfl,rfl,hi.byValue⟩
 ·rintro v rest r s' ⟨hr,rfl,hall⟩;rw[eqIsQuiet_byValue _ (hall v D3)];refine Z2 (Z9 ?_);simp only[O2,F8,A1b];exact Z9 ⟨rfl,rfl,λu hv=>hall u (B9 _ hv)⟩
 ·rintro⟨r1,r2⟩ s' ⟨hr,rfl,_⟩;simp only at hr;subst hr;exact Z9 q
theorem Rl{x:NK}{a:Addr}{Q:Bool->Shared->Prop}(hk:FY P w sh s.heap x a)(q:Q true s):wpAny (model P w) A (eqIsQuiet 8 (.ref a)) Q E s:=by
 have ty:=hk.ty;obtain⟨_,o,its,m,ho,_,hd,hi⟩:=hk;unfold eqIsQuiet;refine Z2 (A5e ty PySem.F.slot_tuple_eq.lookup ?_);show wpAny _ _ (isInstance (.ref a) (.type "tuple") >>= _) _ _ s;refine Z2 (A4h ty A8e ?_);simp only[O2,F8,A1b];refine Z2 (A0g ho hd (Z2 ?_));show wpAny _ _ (forIn its _ _) _ _ s;rw[<-Y4];refine A7g _ (λrest r s'=>r.1=none/\s'=s/\∃x',Cj P w s.heap x' rest) _ ?_ ?_ _ _ ⟨rfl,rfl,x,hi⟩
 ·rintro v rest r s' ⟨hr,rfl,x',hx'⟩;cases hx' with
  |int e r1 =>
   rw[eqIsQuiet_byValue _ ((intKind P w).byValue _ _ e)];refine Z2 (Z9 ?_);simp only[O2,F8,A1b];exact Z9 ⟨rfl,rfl,_,r1⟩
  |tup e r1 =>
   refine Z2 (Ti (n:=6) e ?_);simp only[O2,F8,A1b];exact Z9 ⟨rfl,rfl,_,r1⟩
 ·rintro⟨r1,r2⟩ s' ⟨hr,rfl,_⟩;simp only at hr;subst hr;exact Z9 q
end
def JD(P:Program)(w:World)(sh:List Bool):HeapKind P w NK where
 is:=FY P w sh
 hash:=VE P w
 draws:=VF
 room:=λA=>A.units+1<cLine
 inj:=λhx hy=>by
  obtain⟨s1,o,its,n,ho,_,hd,hi⟩:=hx;obtain⟨s2,o',its',n',ho',_,hd',hi'⟩:=hy;obtain rfl:o=o':=X2 (ho.symm.trans ho');rw[hd]at hd';injection hd' with h1 _
  subst h1;exact hi.inj hi' (s1.trans s2.symm)
 keeps:=λ{h h' k a d o es ep} hx ho hd hs=>by
  obtain⟨s1,o',its,n,ho',hc,hd',hi⟩:=hx;have ne:a≠d:=by
   rintro rfl;obtain rfl:o'=o:=X2 (ho'.symm.trans ho);rw[hd]at hd';exact nomatch hd'
  exact⟨s1,o',its,n,(hs.2 a ne).trans ho',hc,hd',hi.keep λps b e=>e.keeps ho hd hs⟩
 pyHash:=λhu hk q=>Tr hu hk q
 eqBool:=λhu hx hy q=>nest_eq hu hx hy q
 quiet:=λhk q=>Rl hk q
def NEl(H:Hp):NE->V->Prop
 |.inl i,v=>v=.int i
 |.inr ps,v=>∃t,v=.ref t/\H t=some (.tup (ps.map V.int))
def FX(H:Hp)(b:Addr)(k:NK):Prop:=∃vs,H b=some (.tup vs)/\Paired (NEl H) k vs
abbrev KN(H:Hp):List (NK×V)->List (NK×Addr×Value)->Prop:=Paired λp q=>p.1=q.1/\FX H q.2.1 p.1/\Bb p.2 q.2.2
def Th(P:Program)(w:World)(sh:List Bool)(a:Addr)(xs:List (NK×Addr×Value)):Heap->Prop:=λh=>∃o es ep,h.get? a=some o/\o.ExactDict/\o.data=.dict es ep/\es.toList=xs.map (entryOfKey (JD P w sh))
structure BG(P:Program)(w:World)(sh:List Bool)(H:Hp)(a:Addr)(kvs:List (NK×V)):Prop where
 ex:∃xs,H a=some (.ext (Th P w sh a xs))/\KN H kvs xs/\(xs.map (·.1)).Nodup/\(∀x∈xs,x.1.map isR=sh)/\kvs.length<=sizeLine/\(a==sysModules)=false
section
variable{P:Program}{w:World}{sh:List Bool}{H H':Hp}{h h':Heap}{a b:Addr}{k:NK}{kvs:List (NK×V)}
theorem FX.keep(ht:∀b ys,H b=some (.tup ys)->H' b=some (.tup ys))(e:FX H b k):FX H' b k:=by
 obtain⟨vs,e,r⟩:=e;refine⟨vs,ht _ _ e,Paired.imp' (λx v z=>?_) r⟩;cases x with
 |inl i=>exact z
 |inr ps =>
  obtain⟨t,z1,z2⟩:=z;exact⟨t,z1,ht _ _ z2⟩
theorem KN.keep{xs:List (NK×Addr×Value)}(ht:∀b ys,H b=some (.tup ys)->H' b=some (.tup ys))(r:KN H kvs xs):KN H' kvs xs:=Paired.imp' (λp q z=>⟨z.1,z.2.1.keep ht,z.2.2⟩) r
theorem BG.keep(n:BG P w sh H a kvs)(ht:∀b ys,H b=some (.tup ys)->H' b=some (.tup ys))(ha:∀o,H a=some o->H' a=some o):BG P w sh H' a kvs:=by
 obtain⟨xs,e,r,z⟩:=n.ex;exact⟨xs,ha _ e,KN.keep ht r,z⟩
theorem TV{ps:List Int}{us:List Value}(r:AN (ps.map V.int) us):ItemsAre (intKind P w) ps us:=by
 induction ps generalizing us with
 |nil=>cases r;exact .nil
 |cons i ps ih =>
  cases r with
  |cons r1 r2 =>
   obtain⟨t,rfl⟩:=(show ∃t,_=Value.int i t from r1)
   exact .cons (by show Value.isInt i (.int i t)=true;simp[Value.isInt]) (ih r2)
theorem int_key(ok:HOk P w H h){ps:List Int}(e:H a=some (.tup (ps.map V.int))):IsTupleKey (intKind P w) h ps a:=by
 obtain⟨_,its,r,o,h1,h2,n,h3⟩:=(show Bh P w H h a (.tup (ps.map V.int))from ok a _ e)
 exact⟨o,its.toArray,n,h1,h2,h3,by simpa using TV r⟩
theorem OU(ok:HOk P w H h)(e:FX H b k)(hs:k.map isR=sh):FY P w sh h k b:=by
 obtain⟨vs,e,r⟩:=e;obtain⟨_,its,rv,o,h1,h2,n,h3⟩:=(show Bh P w H h b (.tup vs)from ok b _ e)
 refine⟨hs,o,its.toArray,n,h1,h2,h3,?_⟩;have go:∀{k:NK}{vs:List V}{us:List Value},Paired (NEl H) k vs->AN vs us->Cj P w h k us:=by
  intro k vs us r;induction r generalizing us with
  |nil=>intro rv;cases rv;exact .nil
  |@cons x v ks vs hx t ih =>
   intro rv;cases rv with
   |cons r1 r2 =>
    cases x with
    |inl i =>
     have hx:v=.int i:=hx;subst hx;obtain⟨tk,rfl⟩:=(show ∃t,_=Value.int i t from r1)
     exact .int (by show Value.isInt i (.int i tk)=true;simp[Value.isInt]) (ih r2)
    |inr ps =>
     obtain⟨tt,rfl,h4⟩:=hx;cases(show _=Value.ref tt from r1);exact .tup (int_key ok h4) (ih r2)
 simpa using go r rv
theorem OV(ok:HOk P w H h)(n:BG P w sh H a kvs):∃xs,H a=some (.ext (Th P w sh a xs))/\KN H kvs xs/\h.DictOfH (JD P w sh) a xs/\(∀x∈xs,x.1.map isR=sh)/\kvs.length<=sizeLine/\(a==sysModules)=false:=by
 obtain⟨xs,e,r,nd,hs,z,y⟩:=n.ex;obtain⟨⟨o,es,ep,h1,h2,h3,h4⟩,_⟩:=(show Bh P w H h a (.ext _)from ok a _ e)
 refine⟨xs,e,r,⟨o,es,ep,h1,h2,h3,h4,λx hx=>?_,nd⟩,hs,z,y⟩;have all:∀{l:List (NK×V)}{m:List (NK×Addr×Value)},KN H l m->∀x∈m,FX H x.2.1 x.1:=by
  intro l m q;induction q with
  |nil=>intro x hx;exact nomatch hx
  |@cons p q ps qs hq t ih =>
   intro x hx;rcases B7.mp hx with e|hx
   ·subst e;rw[<-hq.1];exact hq.2.1
   ·exact ih x hx
 exact OU ok (all r x hx) (hs x hx)
theorem KN.val{xs:List (NK×Addr×Value)}(r:KN H kvs xs)(k:NK):GN (BR kvs k) ((atKey xs k).map (·.2)):=by
 induction r with
 |nil=>exact True.intro
 |@cons p q ps qs h t ih =>
  obtain⟨h1,_,h2⟩:=h;by_cases e:p.1=k
  ·rw[BQ e,show atKey (q::qs) k=some q.2 by simp[atKey,P6,h1.symm.trans e]];exact h2
  ·have e':¬q.1=k:=λz=>e (h1.trans z);rw[Bz e,show atKey (q::qs) k=atKey qs k by simp[atKey,P6,e']];exact ih
theorem KN.put{xs:List (NK×Addr×Value)}(r:KN H kvs xs)(k:NK){y:V}{u:Value}(hb:FX H b k)(ry:Bb y u):KN H (Dg kvs k y) (storedH xs k b u):=by
 have e:(kvs.any λkv=>decide (kv.1=k))=(atKey xs k).isSome:=by rw[Ew,(r.val k).isSome_eq,Y5]
 unfold Dg storedH;rw[e];by_cases q:(atKey xs k).isSome=true
 ·rw[Z6 q,Z6 q];clear e q;induction r with
  |nil=>exact .nil
  |@cons p q ps qs h t ih =>
   refine .cons ?_ ih;obtain⟨h1,h2,h3⟩:=h;unfold putAt;dsimp only;by_cases z:p.1=k
   ·rw[Z6 z,Z6 (h1.symm.trans z)];exact⟨h1,h2,ry⟩
   ·rw[Z5 z,Z5 λq=>z (h1.trans q)];exact⟨h1,h2,h3⟩
 ·rw[Z5 q,Z5 q];exact A5c r ⟨rfl,hb,ry⟩
end
def tDNewN(P:Program)(w:World)(sh:List Bool):TE:=λ_ H Q=>∀p H',H p=none->Aw H H'->BG P w sh H' p []->Q (.ref p) H'
def tDGetN(P:Program)(w:World)(sh:List Bool)(td ty:TE):TE:=fun σ H Q=>td σ H λx H1=>∃a,x=.ref a/\(∃kvs,BG P w sh H1 a kvs)/\ty σ H1 λy H2=>∃b k kvs,y=.ref b/\BG P w sh H2 a kvs/\FX H2 b k/\k.map isR=sh/\Q ((BR kvs k).getD .non) H2
def sDPutN(P:Program)(w:World)(sh:List Bool)(td ty tv:TE):TS:=λD σ H=>tv σ H λv H1=>td σ H1 λx H2=>ty σ H2 λy H3=>∃a b k kvs,x=.ref a/\y=.ref b/\BG P w sh H3 a kvs/\FX H3 b k/\k.map isR=sh/\kvs.length<sizeLine/\∀H4,(∀c o,H3 c=some o->c≠a->H4 c=some o)->BG P w sh H4 a (Dg kvs k v)->D.nx σ H4
section
variable{X:Cx}{sh:List Bool}
theorem Qa{xs:List (NK×Addr×Value)}{H:Hp}{h:Heap}{a:Addr}(r:Th X.prog X.w sh a xs h):Bh X.prog X.w H h a (.ext (Th X.prog X.w sh a xs)):=by
 obtain⟨o,es,ep,h1,h2,h3,h4⟩:=id r;refine⟨r,⟨o,h1⟩,λg1 g2 hp hk=>?_⟩;obtain⟨o',es',ep',i1,i2,i3,i4⟩:=hp;exact⟨o',es',ep',hk o' i1,i2,i3,i4⟩
theorem PX{pos:Pos}:PE X (.Dict [] [] pos) (tDNewN X.prog X.w sh):=λpins s σ H Q I h=>by
 have fr:=I.hok.fresh (B1 s.heap.objs.size);have lo:(s.heap.objs.size==sysModules)=false:=beq_eq_false_iff_ne.mpr (X5 (F0 I.big));refine wpAny_Dict_empty ⟨.ref s.heap.objs.size,upd H s.heap.objs.size (.ext (Th X.prog X.w sh s.heap.objs.size [])),I.laid (a:=s.heap.objs.size) (t':=s.toks) (λ_ _ q=>B3 _ q) (B1 _) (Qa ⟨_,#[],0,D4 _ rfl,⟨rfl,rfl,rfl⟩,rfl,rfl⟩),rfl,h _ _ fr (λb o e=>by rw[AD (Ax e fr)];exact e) ⟨[],Ag,.nil,P2,(λx hx=>by simp at hx),F5 _,lo⟩⟩
variable{o e:Expr}{apos cpos:Pos}{td ty:TE}
theorem Vm(hu:X.A.units+64<cLine)(ho:PE X o td)(he:PE X e ty)(m:M1 X o "get" apos e cpos):PE X (.Call (.Attribute o "get" apos) [e] [] cpos) (tDGetN X.prog X.w sh td ty):=by
 intro pins s σ H Q I h;refine wpAny_Call_method m.base m.few m.line PySem.F.plainAttrs_dict A2a PySem.F.type_dict_get (thn (ho pins s σ H _ I h) λu s1 ⟨x,H1,I1,rx,a,ex,⟨kvs,d⟩,q1⟩=>?_);subst ex;obtain rfl:u=Value.ref a:=rx;obtain⟨xs,_,_,dd,_⟩:=OV I1.hok d;refine⟨dd.typeIs,λb q=>?_,?_⟩
 ·cases q;obtain⟨ob,_,_,h1,h2,_⟩:=dd;exact⟨ob,h1,h2.2.1⟩
 rw[m.trees];refine A8b rfl (A3d (A5h (thn (he pins s1 σ H1 _ I1 q1) λiv s2 ⟨y,H2,I2,ry,b,k,kvs2,ey,n2,kb,hs,q2⟩=>A7b ?_)));subst ey;cases(show iv=Value.ref b from ry);obtain⟨xs2,_,r2,d2,_,_,lo⟩:=OV I2.hok n2;refine call_meetsIn A2a d2.typeIs A6g (A6d _ _) (meetsH_dict_get (JD X.prog X.w sh) a b lo) ⟨by show X.A.units+1+1<cLine;lia,k,xs2,OU I2.hok kb hs,d2,_,H2,I2.tok _,(KN.val r2 k).getD (d:=.non) rfl,q2⟩
variable{i value:Expr}{pos pos':Pos}{tv:TE}
theorem Ve(hu:X.A.units+64<cLine)(ho:PE X o td)(hi:PE X i ty)(hv:PE X value tv)(hs:swapsWith value (some (.Subscript o i pos')) pos.line X.env=pure false):PS X (.Assign [.Subscript o i pos'] value pos) (sDPutN X.prog X.w sh td ty tv):=by
 intro pins s σ H D I h;refine wpAny_Assign_Subscript (thn (hv pins s σ H _ I h) λr s1 ⟨v,H1,I1,rv,q1⟩=>thn (ho pins s1 σ H1 _ I1 q1) λu s2 ⟨x,H2,I2,rx,q2⟩=>thn (hi pins s2 σ H2 _ I2 q2) λiv s3 ⟨y,H3,I3,ry,a,b,k,kvs,ex,ey,n3,kb,ks,lt,q3⟩=>?_) hs;subst ex ey;obtain rfl:u=Value.ref a:=rx;cases(show iv=Value.ref b from ry);obtain⟨xs,e3,rel,dd,hsh,z,lo⟩:=OV I3.hok n3;have hz:xs.length<=sizeLine:=by rw[<-A0a rel];exact z
 have hl:(Dg kvs k v).length<=sizeLine:=by have:=Io kvs k v;lia
 refine wpAny_setItem_heap (knd:=JD X.prog X.w sh) (hsz:=hz) (by show X.A.units+1+1<cLine;lia) (OU I3.hok kb ks) dd λh' dd' hsb=>?_;obtain⟨ob,es,ep,hq,h2,h3,h4,_,h5⟩:=dd';have tk:∀c ys,H3 c=some (.tup ys)->upd H3 a (.ext (Th X.prog X.w sh a (storedH xs k b r))) c=some (.tup ys):=λc ys ec=>by
  rw[AD (Bc ec e3 (λz=>nomatch z))];exact ec
 refine⟨σ,_,Ps I3 (by rw[e3];exact True.intro) hsb ⟨ob,hq⟩ (Qa ⟨ob,es,ep,hq,h2,h3,h4⟩),q3 _ (λc o ec ne=>by rw[AD ne];exact ec) ⟨_,Ag,KN.keep tk (KN.put rel k kb rv),h5,λx hx=>?_,hl,lo⟩⟩;unfold storedH at hx;split at hx
 ·obtain⟨y,hy,rfl⟩:=F1.mp hx;unfold putAt;split
  ·exact hsh y hy
  ·exact hsh y hy
 ·rcases C6.mp hx with w|w
  ·exact hsh x w
  ·rw[C9]at w;subst w;exact ks
end
end L2
namespace L2
open PySem PySem.W PyProof.Rows
section
variable{rk:Nat->Int}{n:Nat}
structure SX(n:Nat)(p:Array Nat):Prop where
 sz:p.size=n
 pm:p.Perm (List.range n).toArray
def kk(rk:Nat->Int)(p:Array Nat)(i:Nat):Int:=rk (p.getD i 0)
def Up(rk:Nat->Int)(p:Array Nat)(m:Nat):Prop:=∀i j,i<=j->j<m->kk rk p i<=kk rk p j
end
end L2
namespace L2
open PySem PySem.W PySem.Spec PyProof.Rows
def CM:List Int->List Int->Bool
 |[],[]=>false
 |[],_::_=>true
 |_::_,[]=>false
 |a::as,b::bs=>if a=b then CM as bs else decide (a<b)
theorem MF:∀a,CM a a=false
 |[]=>rfl
 |a::as=>by unfold CM;rw[Z6 rfl];exact MF as
theorem JG:∀{a b c:List Int},CM a c=true->CM a b=true\/CM b c=true
 |[],[],_,h=>.inr h
 |[],_::_,_,_=>.inl rfl
 |_::_,_,[],h=>by cases h
 |a::as,[],c::cs,_=>.inr rfl
 |a::as,b::bs,c::cs,h=>by
  unfold CM at h⊢;by_cases ac:a=c
  ·subst ac;rw[Z6 rfl]at h;by_cases ab:a=b
   ·subst ab;rw[Z6 rfl,Z6 rfl];exact JG h
   ·rw[Z5 ab,Z5 (λz=>ab z.symm)];rcases Int.lt_or_gt_of_ne ab with z|z
    ·exact .inl (Z3 z)
    ·exact .inr (Z3 z)
  ·rw[Z5 ac]at h;have h:=K6 h;by_cases ab:a=b
   ·subst ab;rw[Z5 ac];exact .inr (Z3 h)
   ·rw[Z5 ab];by_cases z:a<b
    ·exact .inl (Z3 z)
    ·by_cases bc:b=c
     ·lia
     ·rw[Z5 bc];exact .inr (Z3 A0)
theorem Qp:∀{a b:List Int},CM a b=false->CM b a=false->a=b
 |[],[],_,_=>rfl
 |[],_::_,h,_=>by cases h
 |_::_,[],_,h=>by cases h
 |a::as,b::bs,h,h'=>by
  unfold CM at h h';by_cases ab:a=b
  ·subst ab;rw[Z6 rfl]at h h';rw[Qp h h']
  ·rw[Z5 ab]at h;rw[Z5 (λz=>ab z.symm)]at h';have:=of_decide_eq_false h;have:=of_decide_eq_false h';lia
theorem VP{a b:List Int}(h:CM a b=true):CM b a=false:=by
 cases e:CM b a with
 |false=>rfl
 |true =>
  rcases JG (b:=b) (show CM a b=true from h)with z|z
  ·
   have:CM a a=true\/CM a a=false:=by cases CM a a<;>simp
   exact absurd (lexI_two h e) A5
  ·rw[MF]at z;cases z
where lexI_two:∀{a b:List Int},CM a b=true->CM b a=true->false=true
 |[],[],h,_=>h
 |[],_::_,_,h=>h
 |_::_,[],h,_=>h
 |a::as,b::bs,h,h'=>by
  unfold CM at h h';by_cases ab:a=b
  ·subst ab;rw[Z6 rfl]at h h';exact lexI_two h h'
  ·rw[Z5 ab]at h;rw[Z5 (λz=>ab z.symm)]at h';have:=K6 h;have:=K6 h';lia
def Tg(rows:List (List Int))(i:Nat):Int:=((rows.countP λr=>CM r (rows.getD i []):Nat):Int)
theorem Ol{α:Type}{p q:α->Bool}:∀{l:List α}{x:α},x∈l->(∀y,p y=true->q y=true)->p x=false->q x=true->l.countP p<l.countP q
 |y::l,x,hx,h,hp,hq=>by
  rw[V9,V9];have le:l.countP p<=l.countP q:=List.countP_mono_left λz _=>h z;rcases B7.mp hx with rfl|hx
  ·rw[hp,hq];simp only[F8,A1b,A5f];lia
  ·have:=Ol hx h hp hq;by_cases py:p y=true
   ·rw[py,h y py];lia
   ·rw[Z5 py];split<;>lia
theorem Vc{rows:List (List Int)}{i j:Nat}(hi:i<rows.length):decide (Tg rows i<Tg rows j)=CM (rows.getD i []) (rows.getD j []):=by
 have mi:rows.getD i []∈rows:=by
  rw[C5,C0 hi];exact N7 hi
 unfold Tg;generalize rows.getD i []=a at *
 generalize rows.getD j []=b;cases h:CM a b with
 |true =>
  refine Z3 ?_;have:=Ol (p:=λr=>CM r a) (q:=λr=>CM r b) mi (λy hy=>?_) (MF a) h
  ·lia
  ·rcases JG (b:=b) hy with z|z
   ·exact z
   ·rw[VP h]at z;cases z
 |false =>
  refine Z4 ?_;have:=List.countP_mono_left (l:=rows) (p:=λr=>CM r b) (q:=λr=>CM r a) λy _ hy=>?_
  ·lia
  ·rcases JG (b:=a) hy with z|z
   ·exact z
   ·rw[h]at z;cases z
section
variable{prog:Program}{w:World}{A:Around}{E:Value->Shared->Prop}
theorem Su{b:Bool}{Q:Bool->Shared->Prop}{s:Shared}:∀{xs ys:List Int}{us vs:List Value}{i:Nat},AN (xs.map V.int) us->AN (ys.map V.int) vs->Q (CM xs ys) s->KatLex prog w A b (decide (xs.length<ys.length)) Q (us.zip vs) i s
 |[],[],_,_,i,.nil,.nil,q=>q
 |[],y::ys,_,_,i,.nil,.cons _ _,q=>by
  show Q (decide (0<ys.length+1)) s;rw[Z3 (Nat.succ_pos _)];exact q
 |x::xs,[],_,_,i,.cons _ _,.nil,q=>by
  show Q (decide (xs.length+1<0)) s;rw[Z4 (M0 _)];exact q
 |x::xs,y::ys,u::us,v::vs,i,.cons r1 t1,.cons r2 t2,q=>by
  obtain⟨t,rfl⟩:=(show ∃t,u=.int x t from r1)
  obtain⟨t',rfl⟩:=(show ∃t,v=.int y t from r2)
  refine wpAny_eqBool_int ?_;unfold CM at q;by_cases e:x=y
  ·subst e;rw[Z6 rfl]at q;simp only[A6b,A5f];have h:=Su (b:=b) (i:=i+1) t1 t2 q;rw[show decide ((x::xs).length<(x::ys).length)=decide (xs.length<ys.length) by simp];exact h
  ·rw[Z5 e]at q;have e':(x==y)=false:=by simpa using e
   simp only[e',F8,A1b];cases b && i==0 with
   |true=>exact oneLt_int q
   |false =>
    exact kat_one _ _ (wpAny_lt_int q)
end
section
variable{X:Cx}
theorem RY{H:Hp}{h:Heap}(ok:HOk X.prog X.w H h){items:List (Addr×List Int)}(hq:∀q∈items,H q.1=some (.tup (q.2.map V.int))/\q.2≠[]){i:Nat}(hi:i<items.length) :
  ∃(b:Addr)(o:Obj)(us:List Value)(m:Nat),(items.map λq=>Value.ref q.1).getD i Value.none=.ref b/\h.get? b=some o/\o.cls=.type "tuple" /\ o.data=.seq us.toArray m/\AN (((items.map (·.2)).getD i []).map V.int) us:=by
 have hm:=N7 hi;obtain⟨h1,h2⟩:=hq _ hm;obtain⟨_,its,r,o,e,c,n,d⟩:=(show Bh X.prog X.w H h _ (.tup _)from ok _ _ h1)
 refine⟨_,o,its,n,?_,e,c,d,?_⟩
 ·rw[C5,C1,C0 hi];rfl
 ·rw[C5,C1,C0 hi];exact r
theorem Ob{H:Hp}{h:Heap}(ok:HOk X.prog X.w H h):∀{items:List (Addr×List Int)},(∀q∈items,H q.1=some (.tup (q.2.map V.int))/\q.2≠[])->∃fs:List Value,KatTups h (items.map λq=>Value.ref q.1) fs/\fs.length=items.length/\∀v∈fs,∃x t,v=.int x t
 |[],_=>⟨[],.nil,rfl,λv hv=>nomatch hv⟩
 |q::items,hq=>by
  obtain⟨fs,h1,h2,h3⟩:=Ob ok λq' hq'=>hq q' (B9 _ hq');obtain⟨e,ne⟩:=hq q (D3 ..);obtain⟨_,its,r,o,e1,c,n,d⟩:=(show Bh X.prog X.w H h _ (.tup _)from ok _ _ e)
  match hx:q.2,ne with
  |x::xs,_ =>
   rw[hx]at r;cases r with
   |@cons _ u _ us r1 r2 =>
    obtain⟨t,rfl⟩:=(show ∃t,u=.int x t from r1)
    refine⟨.int x t::fs,.cons e1 c d A5 h1,by rw[C4,C4,h2],λv hv=>?_⟩;rcases B7.mp hv with rfl|hv
    ·exact⟨x,t,rfl⟩
    ·exact h3 v hv
def RP:List (Addr×List Int)->Prop:=List.Pairwise λp q=>CM q.2 p.2=false
end
section
variable{X:Cx}
theorem Td{H:Hp}{s:Shared}{A:Around}(ok:HOk X.prog X.w H s.heap)(hu:A.units<cLine){a b:Addr}{ns:List Int}(h1:H a=some (.tup (ns.map V.int)))(h2:H b=some (.tup (ns.map V.int))):PySem.SeqAt.EqAt A s (.ref a) (.ref b) true:=by
 by_cases e:a=b
 ·subst e;exact PySem.SeqAt.EqAt.same _
 ·obtain⟨_,its,r,pt⟩:=(show Bh X.prog X.w H s.heap _ (.tup _)from ok _ _ h1)
  obtain⟨_,jts,r',pt'⟩:=(show Bh X.prog X.w H s.heap _ (.tup _)from ok _ _ h2)
  refine PySem.SeqAt.EqAt.of_refs e ?_;have:=PySem.SeqAt.RcAt.tuples (A:=A) (s:=s) (e:=λj=>ns.getD j 0==ns.getD j 0) pt pt' hu λj k1 k2=>NF (H:=H) r r' j k1 k2;rw[D1,D1,<-r.length,<-r'.length,B0,QJ,Z3 rfl]at this;exact this
theorem Sl{H:Hp}{s:Shared}{A:Around}(ok:HOk X.prog X.w H s.heap)(hu:A.units<cLine):∀{is js:List (Addr×List Int)},(∀q∈is,H q.1=some (.tup (q.2.map V.int)))->(∀q∈js,H q.1=some (.tup (q.2.map V.int)))->is.map (·.2)=js.map (·.2) ->
  ∀{xs ys:List Value},AN (is.map λq=>V.ref q.1) xs->AN (js.map λq=>V.ref q.1) ys->xs.length=ys.length/\∀j (h1:j<xs.length) (h2:j<ys.length),PySem.SeqAt.EqAt A s xs[j] ys[j] true
 |[],[],_,_,_,_,_,.nil,.nil=>⟨rfl,λj h1=>absurd h1 (M0 _)⟩
 |[],_::_,_,_,e,_,_,_,_=>by cases e
 |_::_,[],_,_,e,_,_,_,_=>by cases e
 |i::is,j::js,h1,h2,e,x::xs,y::ys,.cons r1 t1,.cons r2 t2=>by
  rw[D7,D7]at e;injection e with e0 e1
  obtain⟨l,k⟩:=Sl ok hu (λq hq=>h1 q (B9 _ hq)) (λq hq=>h2 q (B9 _ hq)) e1 t1 t2;refine⟨by rw[C4,C4,l],λn p1 p2=>?_⟩;cases n with
  |zero =>
   cases(show x=Value.ref i.1 from r1);cases(show y=Value.ref j.1 from r2);have q1:=h1 i (D3 ..);have q2:=h2 j (D3 ..);rw[<-e0]at q2;exact Td ok hu q1 q2
  |succ n=>exact k n (by simpa using p1) (by simpa using p2)
theorem WD(n:Nat):(List.range n).all (λ_=>true)=true:=M9.mpr λ_ _=>rfl
def AlikeT(K:W.Frag)(H:Hp)(x y:V):Prop:=∃(a b:Addr)(is js:List (Addr×List Int)),x=.ref a/\y=.ref b/\SqL K H a (is.map λq=>V.ref q.1)/\SqL K H b (js.map λq=>V.ref q.1)/\(∀q∈is,H q.1=some (.tup (q.2.map V.int)))/\(∀q∈js,H q.1=some (.tup (q.2.map V.int)))/\is.map (·.2)=js.map (·.2)
theorem PZ(hu:X.A.units+64<cLine):OpR X (compareOp .Eq) (λx y H Q=>AlikeT X.K H x y/\Q (.bl true) H):=by
 intro pins s σ H x y v u Q I rx ry h;obtain⟨⟨a,b,is,js,rfl,rfl,h1,h2,t1,t2,e⟩,q⟩:=h;cases rx;cases ry;obtain⟨xs,r1,p1,_⟩:=I.list h1;obtain⟨ys,r2,p2,_⟩:=I.list h2;obtain⟨l,k⟩:=Sl (A:=X.A.in1) I.hok (by show X.A.units+1<_;lia) t1 t2 e r1 r2;refine PySem.SeqAt.eq_listAt (e:=λ_=>true) p1.isList p2.isList (by rw[D1,D1,l]) A0 (λj k1 k2=>?_) ?_
 ·simp only[D1]at k1 k2
  simpa using k j k1 k2
 ·rw[WD];exact⟨.bl _,H,I,rfl,q⟩
end
section
variable{X:Cx}
end
section
variable{X:Cx}
end
section
variable{X:Cx}
end
end L2
namespace L2
open PySem PySem.W PySem.Spec PyProof.Rows
section
variable{X:Cx}{pins:List (Addr×Obj)}{σ:St}{H H':Hp}{s:Shared}{k:Nat}{f b:Addr}{fd:FuncData}{ps:List Str}
end
end L2
namespace L2
open PySem PySem.W PySem.Spec PyProof.Rows
section
variable{prog:Program}{w:World}{A:Around}{E:Value->Shared->Prop}{s:Shared}{r d:Addr}{o:Obj}{es:Array DictEntry}{ep:Nat}
end
section
variable{X:Cx}{o:Expr}{apos cpos:Pos}{td:TE}
end
section
variable{X:Cx}
end
end L2
namespace PyProof.Rows
open PySem
def Pn:Bool->Keyed->Array Keyed->Nat->Nat->Nat->StateT SortSt Sem (Option Nat):=sortPriv% PySem.Builtin.gallop
section
variable{prog:Program}{w:World}{A:Around}{E:Value->Shared->Prop}{s:Shared}
def beyE(left:Bool)(key:Keyed)(arr:Array Keyed)(base i:Nat):StateT SortSt Sem (Option Bool):=elem' arr (base+i) >>= λx=>if left=true then lt' x key else lt' key x >>= λr=>pure (r.map λb=>!b)
def BeyOk(prog:Program)(w:World)(A:Around)(E:Value->Shared->Prop)(s:Shared)(left:Bool)(key:Keyed)(st:SortSt)(x:Keyed)(b:Bool):Prop :=
 (left=true->∀Q:Option Bool->SortSt->Prop,Q (some b) st->wpS (model prog w) A E s (lt' x key) Q st)/\(left=false->∀Q:Option Bool->SortSt->Prop,Q (some (!b)) st->wpS (model prog w) A E s (lt' key x) Q st)
theorem MT{left:Bool}{key:Keyed}{arr:Array Keyed}{base n i:Nat}{st:SortSt}{B:Nat->Bool}{Q:Option Bool->SortSt->Prop}(hz:base+n<=arr.size)(hB:∀i x,i<n->arr[base+i]?=some x->BeyOk prog w A E s left key st x (B i))(hi:i<n)(h:Q (some (B i)) st):wpS (model prog w) A E s (beyE left key arr base i) Q st:=by
 unfold beyE;have hl:base+i<arr.size:=by omega
 refine Z8 ?_;rw[elem'_eq,B4 hl];refine X0 ?_;obtain⟨h1,h2⟩:=hB i arr[base+i] hi (B4 hl);cases left with
 |true =>
  rw[Z6 rfl];exact h1 rfl _ h
 |false =>
  rw[Z5 A5];refine Z8 (h2 rfl _ (X0 ?_));show Q (some (!!B i)) st;rw[Bool.not_not];exact h
theorem up_ok{γ:Type}{f:Nat->(Option γ×Nat×Nat)->StateT SortSt Sem (ForInStep (Option γ×Nat×Nat))}{m n:Nat}{C:Nat->Bool}{st:SortSt}(h1:m<=n+1)
  (hs:∀x l o Q',(m<=o->Q' (.done (none,l,o)) st)->(o<m->C o=true->Q' (.yield (none,o,2*o+1)) st)->(o<m->C o=false->Q' (.done (none,l,o)) st)->wpS (model prog w) A E s (f x (none,l,o)) Q' st) :
  wpS (model prog w) A E s (forIn [0:n] (none,0,1) f) (λr st'=>st'=st/\∃l o,r=(none,l,o)/\l<o/\(l=0\/(l<m/\C l=true))/\(m<=o\/C o=false)) st:=by
 refine K8 (I:=λx r st'=>st'=st/\∃l o,r=(none,l,o)/\x<o/\l<o/\(l=0\/(l<m/\C l=true))) ?_ ?_ ⟨rfl,0,1,rfl,by omega,by omega,.inl rfl⟩
 ·rintro x c st' _ _ ⟨rfl,l,o,rfl,hx,hl,hc⟩;refine hs x l o _ (λz=>?_) (λz y=>?_) (λz y=>?_)
  ·exact⟨rfl,l,o,rfl,hl,hc,.inl z⟩
  ·exact⟨rfl,o,2*o+1,rfl,by omega,by omega,.inr ⟨z,y⟩⟩
  ·exact⟨rfl,l,o,rfl,hl,hc,.inr y⟩
 ·rintro c st' ⟨rfl,l,o,rfl,hx,hl,hc⟩;exact⟨rfl,l,o,rfl,hl,hc,.inl A6⟩
theorem Wz{γ:Type}{f:Nat->(Option γ×Nat×Nat)->StateT SortSt Sem (ForInStep (Option γ×Nat×Nat))}{n lo hi:Nat}{B:Nat->Bool}{st:SortSt}(hn:hi<=n)(hl:lo<=hi)(mono:∀i j,i<=j->j<n->B j=true->B i=true)(h1:∀i,i<lo->B i=true)(h2:∀i,hi<=i->i<n->B i=false)
  (hs:∀x l h Q',(h<=l->Q' (.done (none,l,h)) st)->(l<h->h<=n->B (l+(h-l)/2)=true->Q' (.yield (none,l+(h-l)/2+1,h)) st)->(l<h->h<=n->B (l+(h-l)/2)=false->Q' (.yield (none,l,l+(h-l)/2)) st)->(l<h->h<=n)->wpS (model prog w) A E s (f x (none,l,h)) Q' st) :
  wpS (model prog w) A E s (forIn [0:n] (none,lo,hi) f) (λr st'=>st'=st/\∃l h,r=(none,l,h)/\h<=n/\(∀i,i<h->B i=true)/\(∀i,h<=i->i<n->B i=false)) st:=by
 refine K8 (I:=λx r st'=>st'=st/\∃l h,r=(none,l,h)/\l<=h/\h-l<=n-x/\h<=n/\(∀i,i<l->B i=true)/\(∀i,h<=i->i<n->B i=false)) ?_ ?_ ⟨rfl,lo,hi,rfl,hl,by omega,hn,h1,h2⟩
 ·rintro x c st' _ hx ⟨rfl,l,h,rfl,lh,me,hh,i1,i2⟩;refine hs x l h _ (λz=>?_) (λz _ y=>?_) (λz _ y=>?_) (λ_=>hh)
  ·exact⟨rfl,l,h,rfl,hh,λi hi=>i1 i A6,i2⟩
  ·exact⟨rfl,_,h,rfl,by omega,by omega,hh,λi hi=>mono i _ A6 A6 y,i2⟩
  ·refine⟨rfl,l,_,rfl,by omega,by omega,by omega,i1,λi hi hn=>?_⟩;cases e:B i with
   |false=>rfl
   |true=>rw[mono _ i hi hn e]at y;cases y
 ·rintro c st' ⟨rfl,l,h,rfl,lh,me,hh,i1,i2⟩;exact⟨rfl,l,h,rfl,hh,λi hi=>i1 i A6,i2⟩
theorem Oa{left:Bool}{key:Keyed}{arr:Array Keyed}{base n hint:Nat}{st:SortSt}{B:Nat->Bool}{Q:Option Nat->SortSt->Prop}(hz:base+n<=arr.size)(hh:hint<n)(hB:∀i x,i<n->arr[base+i]?=some x->BeyOk prog w A E s left key st x (B i))(mono:∀i j,i<=j->j<n->B j=true->B i=true)(k:∀h,h<=n->(∀i,i<h->B i=true)->(∀i,h<=i->i<n->B i=false)->Q (some h) st):wpS (model prog w) A E s (Pn left key arr base n hint) Q st:=by
 have monoF:∀i j,i<=j->j<n->B i=false->B j=false:=λi j h1 h2 z=>by
  cases e:B j with
  |false=>rfl
  |true=>rw[mono i j h1 h2 e]at z;cases z
 refine Z8 ?_;refine MT (i:=hint) hz hB hh ?_;dsimp only;cases hb:B hint with
 |true =>
  rw[Z6 rfl];refine Z8 (A0h (up_ok (m:=n-hint) (C:=λo=>B (hint+o)) A6 ?_) ?_)
  ·intro x l o Q' q1 q2 q3;dsimp only;by_cases z:o ≥ n-hint
   ·rw[Z6 z];exact X0 (q1 z)
   rw[Z5 z];refine Z8 (MT (i:=hint+o) hz hB A6 ?_);dsimp only;cases e:B (hint+o)with
   |true=>exact X0 (q2 A6 e)
   |false=>exact X0 (q3 A6 e)
  ·rintro r st' ⟨rfl,l,o,rfl,lo,hl,ho⟩;dsimp only;refine Z8 (A0h (Wz (lo:=hint+l+1) (hi:=hint+min o (n-hint)) A6 ?_ mono ?_ ?_ ?_) ?_)
   ·rcases hl with z|z<;>omega
   ·intro i hi;rcases hl with z|z
    ·exact mono i hint A6 hh hb
    ·exact mono i (hint+l) A6 A6 z.2
   ·intro i hi hn;rcases ho with z|z
    ·omega
    ·by_cases y:n-hint<=o
     ·omega
     ·exact monoF (hint+o) i A6 hn z
   ·intro x l h Q' q1 q2 q3 q4;dsimp only;by_cases z:l ≥ h
    ·rw[Z6 z];exact X0 (q1 z)
    rw[Z5 z];have:=q4 A6;refine Z8 (MT (i:=l+(h-l)/2) hz hB A6 ?_);dsimp only;cases e:B (l+(h-l)/2)with
    |true=>exact X0 (q2 A6 this e)
    |false=>exact X0 (q3 A6 this e)
   ·rintro r st' ⟨rfl,l',h,rfl,hn,i1,i2⟩;exact X0 (k h hn i1 i2)
 |false =>
  rw[Z5 A5];refine Z8 (A0h (up_ok (m:=hint+1) (C:=λo=>!B (hint-o)) A6 ?_) ?_)
  ·intro x l o Q' q1 q2 q3;dsimp only;by_cases z:o ≥ hint+1
   ·rw[Z6 z];exact X0 (q1 z)
   rw[Z5 z];refine Z8 (MT (i:=hint-o) hz hB A6 ?_);dsimp only;cases e:B (hint-o)with
   |true=>exact X0 (q3 A6 (by rw[e];rfl))
   |false=>exact X0 (q2 A6 (by rw[e];rfl))
  ·rintro r st' ⟨rfl,l,o,rfl,lo,hl,ho⟩;dsimp only;have hlF:B (hint-l)=false:=by
    rcases hl with z|z
    ·rw[z];exact hb
    ·simpa using z.2
   refine Z8 (A0h (Wz (lo:=hint+1-min o (hint+1)) (hi:=hint-l) A6 ?_ mono ?_ ?_ ?_) ?_)
   ·rcases hl with z|z<;>omega
   ·intro i hi;rcases ho with z|z
    ·omega
    ·by_cases y:hint+1<=o
     ·omega
     ·have z:B (hint-o)=true:=by simpa using z
      exact mono i (hint-o) A6 A6 z
   ·intro i hi hn;exact monoF (hint-l) i hi hn hlF
   ·intro x l h Q' q1 q2 q3 q4;dsimp only;by_cases z:l ≥ h
    ·rw[Z6 z];exact X0 (q1 z)
    rw[Z5 z];have:=q4 A6;refine Z8 (MT (i:=l+(h-l)/2) hz hB A6 ?_);dsimp only;cases e:B (l+(h-l)/2)with
    |true=>exact X0 (q2 A6 this e)
    |false=>exact X0 (q3 A6 this e)
   ·rintro r st' ⟨rfl,l',h,rfl,hn,i1,i2⟩;exact X0 (k h hn i1 i2)
end
end PyProof.Rows
namespace PyProof.Rows
open PySem
def SoA(rk:Keyed->Nat)(a:Array Keyed):Prop:=∀(i j:Nat)(x y:Keyed),i<=j->a[i]?=some x->a[j]?=some y->rk x<=rk y
structure MI(rk:Keyed->Nat)(a b out:Array Keyed)(ia ib:Nat):Prop where
 pm:out.toList.Perm (a.toList.take ia++b.toList.take ib)
 so:out.toList.Pairwise (λx y=>rk x<=rk y)
 ba:∀o∈out.toList,∀i x,ia<=i->a[i]?=some x->rk o<=rk x
 bb:∀o∈out.toList,∀i x,ib<=i->b[i]?=some x->rk o<=rk x
section
variable{rk:Keyed->Nat}{a b out:Array Keyed}{ia ib:Nat}
theorem MI.nil:MI rk a b #[] 0 0:=⟨by simp,by simp,λo h=>by simp at h,λo h=>by simp at h⟩
theorem NH{a:Array Keyed}{i:Nat}{x:Keyed}(h:a[i]?=some x):a.toList.take (i+1)=a.toList.take i++[x]:=by
 rw[J1,F3,h];rfl
theorem MI.pushA{x:Keyed}(h:MI rk a b out ia ib)(sa:SoA rk a)(e:a[ia]?=some x)(le:∀j y,ib<=j->b[j]?=some y->rk x<=rk y):MI rk a b (out.push x) (ia+1) ib:=by
 have me:∀o,o∈(out.push x).toList->o∈out.toList\/o=x:=λo ho=>by
  rw[L6,C6,C9]at ho;exact ho
 refine⟨?_,?_,λo ho i y hi ey=>?_,λo ho i y hi ey=>?_⟩
 ·rw[L6,NH e,M4];refine(h.pm.append_right _).trans ?_;rw[M4];exact List.Perm.append_left _ List.perm_append_comm
 ·rw[L6,P7];refine⟨h.so,by simp,λo ho y hy=>?_⟩;rw[C9.mp hy];exact h.ba o ho ia x (B1 _) e
 ·rcases me o ho with z|rfl
  ·exact h.ba o z i y A0 ey
  ·exact sa ia i _ y A0 e ey
 ·rcases me o ho with z|rfl
  ·exact h.bb o z i y hi ey
  ·exact le i y hi ey
theorem MI.pushB{x:Keyed}(h:MI rk a b out ia ib)(sb:SoA rk b)(e:b[ib]?=some x)(le:∀j y,ia<=j->a[j]?=some y->rk x<=rk y):MI rk a b (out.push x) ia (ib+1):=by
 have me:∀o,o∈(out.push x).toList->o∈out.toList\/o=x:=λo ho=>by
  rw[L6,C6,C9]at ho;exact ho
 refine⟨?_,?_,λo ho i y hi ey=>?_,λo ho i y hi ey=>?_⟩
 ·rw[L6,NH e,<-M4];exact h.pm.append_right _
 ·rw[L6,P7];refine⟨h.so,by simp,λo ho y hy=>?_⟩;rw[C9.mp hy];exact h.bb o ho ib x (B1 _) e
 ·rcases me o ho with z|rfl
  ·exact h.ba o z i y hi ey
  ·exact le i y hi ey
 ·rcases me o ho with z|rfl
  ·exact h.bb o z i y A0 ey
  ·exact sb ib i _ y A0 e ey
theorem Qx{a:Array Keyed}{i k:Nat}(h:i+k<a.size):a.extract i (i+(k+1))=(a.extract i (i+k)).push a[i+k]:=by
 apply W0.mp;rw[L6,R1,R1];simp only[List.extract,V6];rw[J1];congr 1;rw[List.getElem?_drop,F3,B4 h];rfl
theorem MI.addA(sa:SoA rk a)(h:MI rk a b out ia ib):∀{k:Nat},ia+k<=a.size->(∀i x,ia<=i->i<ia+k->a[i]?=some x->∀j y,ib<=j->b[j]?=some y->rk x<=rk y)->MI rk a b (out++a.extract ia (ia+k)) (ia+k) ib
 |0,_,_=>by rw[Nat.add_zero,Q7 A0,P3];exact h
 |k+1,hk,le=>by
  have hl:ia+k<a.size:=by lia
  have:=(MI.addA sa h (k:=k) A0 (λi x h1 h2=>le i x h1 A0)).pushA sa (B4 hl) (le _ _ A0 A0 (B4 hl));rw[Qx hl,V3];exact this
theorem MI.addB(sb:SoA rk b)(h:MI rk a b out ia ib):∀{k:Nat},ib+k<=b.size->(∀i x,ib<=i->i<ib+k->b[i]?=some x->∀j y,ia<=j->a[j]?=some y->rk x<=rk y)->MI rk a b (out++b.extract ib (ib+k)) ia (ib+k)
 |0,_,_=>by rw[Nat.add_zero,Q7 A0,P3];exact h
 |k+1,hk,le=>by
  have hl:ib+k<b.size:=by lia
  have:=(MI.addB sb h (k:=k) A0 (λi x h1 h2=>le i x h1 A0)).pushB sb (B4 hl) (le _ _ A0 A0 (B4 hl));rw[Qx hl,V3];exact this
structure Mgd(rk:Keyed->Nat)(a b out:Array Keyed):Prop where
 pm:out.toList.Perm (a.toList++b.toList)
 so:out.toList.Pairwise (λx y=>rk x<=rk y)
theorem MI.whole(h:MI rk a b out a.size b.size):Mgd rk a b out:=by
 refine⟨?_,h.so⟩;have:=h.pm;rw[show a.size=a.toList.length from C3.symm,show b.size=b.toList.length from C3.symm,M8,M8]at this;exact this
theorem MI.doneA(sa:SoA rk a)(h:MI rk a b out ia b.size)(ha:ia<=a.size):Mgd rk a b (out++a.extract ia a.size++b.extract b.size b.size):=by
 have h1:=MI.addA sa h (k:=a.size-ia) A0 λi x _ _ _ j y hj ey=>by
  rw[W4 A0]at ey;cases ey
 rw[show ia+(a.size-ia)=a.size by lia]at h1;have e:b.extract b.size b.size=#[]:=by simp
 rw[e,P3];exact h1.whole
theorem MI.doneB(sb:SoA rk b)(h:MI rk a b out a.size ib)(hb:ib<=b.size):Mgd rk a b (out++a.extract a.size a.size++b.extract ib b.size):=by
 have e:a.extract a.size a.size=#[]:=by simp
 rw[e,P3];have h1:=MI.addB sb h (k:=b.size-ib) A0 λi x _ _ _ j y hj ey=>by
  rw[W4 A0]at ey;cases ey
 rw[show ib+(b.size-ib)=b.size by lia]at h1;exact h1.whole
theorem MI.lastA(sa:SoA rk a)(sb:SoA rk b)(h:MI rk a b out ia ib)(ha:ia<=a.size)(hb:ib<=b.size)(le:∀i x,ib<=i->b[i]?=some x->∀j y,ia<=j->a[j]?=some y->rk x<=rk y):Mgd rk a b (out++b.extract ib b.size++a.extract ia a.size):=by
 have h1:=MI.addB sb h (k:=b.size-ib) A0 λi x h1 _=>le i x h1;rw[show ib+(b.size-ib)=b.size by lia]at h1;have h2:=MI.addA sa h1 (k:=a.size-ia) A0 λi x _ _ _ j y hj ey=>by
  rw[W4 A0]at ey;cases ey
 rw[show ia+(a.size-ia)=a.size by lia]at h2;exact h2.whole
end
end PyProof.Rows
namespace PyProof.Rows
open PySem
section
variable{prog:Program}{w:World}{A:Around}{E:Value->Shared->Prop}{s:Shared}{rk:Keyed->Nat}{S:Keyed->Prop}{κ:SortKind}
def MX(prog:Program)(w:World)(A:Around)(E:Value->Shared->Prop)(s:Shared)(rk:Keyed->Nat)(S:Keyed->Prop)(κ:SortKind):Prop:=∀x y st (Q:Option Bool->SortSt->Prop),S x->S y->kindOf st=κ->Q (some (decide (rk x<rk y))) st->wpS (model prog w) A E s (lt' x y) Q st
def DH(st st':SortSt):Prop:=∃g,st'=SortSt.mk' (kindOf st) (arrOf st) (pendingOf st) g (failedOf st)
theorem DH.refl(st:SortSt):DH st st:=⟨gallopOf st,rfl⟩
theorem DH.kind{st st':SortSt}(h:DH st st'):kindOf st'=kindOf st:=by
 obtain⟨g,rfl⟩:=h;rfl
theorem CL{arr:Array Keyed}{i:Nat}{x:Keyed}{st:SortSt}{Q:Keyed->SortSt->Prop}(e:arr[i]?=some x)(h:Q x st):wpS (model prog w) A E s (elem' arr i) Q st:=by
 rw[elem'_eq,e];exact X0 h
theorem Lp{key:Keyed}{arr:Array Keyed}{base n hint:Nat}{st:SortSt}{Q:Option Nat->SortSt->Prop}(hl:MX prog w A E s rk S κ)(hk:kindOf st=κ)(Sk:S key)(Sa:∀(i:Nat) x,base<=i->i<base+n->arr[i]?=some x->S x)(so:∀(i j:Nat) x y,base<=i->i<=j->j<base+n->arr[i]?=some x->arr[j]?=some y->rk x<=rk y)(hz:base+n<=arr.size)(hh:hint<n)
  (k:∀h,h<=n->(∀(i:Nat) x,base<=i->i<base+h->arr[i]?=some x->rk x<=rk key)->(∀(i:Nat) x,base+h<=i->i<base+n->arr[i]?=some x->rk key<rk x)->Q (some h) st):wpS (model prog w) A E s (Pn false key arr base n hint) Q st:=by
 refine Oa (B:=λi=>(arr[base+i]?).any λx=>!decide (rk key<rk x)) hz hh (λi x hi e=>?_) (λi j ij jn z=>?_) λh hn h1 h2=>?_
 ·refine⟨(λz=>by cases z),λ_ Q' q=>hl _ _ _ _ Sk (Sa _ x A6 A6 e) hk ?_⟩;have:(some (decide (rk key<rk x)))=some (!((arr[base+i]?).any λx=>!decide (rk key<rk x))):=by rw[e];simp
  rw[this];exact q
 ·have e1:arr[base+i]?=some arr[base+i]:=B4 A6;have e2:arr[base+j]?=some arr[base+j]:=B4 A6;have:=so _ _ _ _ A6 (by omega:base+i<=base+j) A6 e1 e2;simp only[e1,e2,Option.any_some,Bool.not_eq_true',decide_eq_false_iff_not]at z⊢;omega
 ·refine k h hn (λi x b1 b2 e=>?_) (λi x b1 b2 e=>?_)
  ·have:=h1 (i-base) A6;rw[show base+(i-base)=i by omega,e]at this;simp only[Option.any_some,Bool.not_eq_true',decide_eq_false_iff_not]at this;omega
  ·have:=h2 (i-base) A6 A6;rw[show base+(i-base)=i by omega,e]at this
   simpa using this
theorem ML{key:Keyed}{arr:Array Keyed}{base n hint:Nat}{st:SortSt}{Q:Option Nat->SortSt->Prop}(hl:MX prog w A E s rk S κ)(hk:kindOf st=κ)(Sk:S key)(Sa:∀(i:Nat) x,base<=i->i<base+n->arr[i]?=some x->S x)(so:∀(i j:Nat) x y,base<=i->i<=j->j<base+n->arr[i]?=some x->arr[j]?=some y->rk x<=rk y)(hz:base+n<=arr.size)(hh:hint<n)
  (k:∀h,h<=n->(∀(i:Nat) x,base<=i->i<base+h->arr[i]?=some x->rk x<rk key)->(∀(i:Nat) x,base+h<=i->i<base+n->arr[i]?=some x->rk key<=rk x)->Q (some h) st):wpS (model prog w) A E s (Pn true key arr base n hint) Q st:=by
 refine Oa (B:=λi=>(arr[base+i]?).any λx=>decide (rk x<rk key)) hz hh (λi x hi e=>?_) (λi j ij jn z=>?_) λh hn h1 h2=>?_
 ·refine⟨λ_ Q' q=>hl _ _ _ _ (Sa _ x A6 A6 e) Sk hk ?_,λz=>by cases z⟩;have:(some (decide (rk x<rk key)))=some ((arr[base+i]?).any λx=>decide (rk x<rk key)):=by rw[e];simp
  rw[this];exact q
 ·have e1:arr[base+i]?=some arr[base+i]:=B4 A6;have e2:arr[base+j]?=some arr[base+j]:=B4 A6;have:=so _ _ _ _ A6 (by omega:base+i<=base+j) A6 e1 e2;simp only[e1,e2,Option.any_some,A8g]at z⊢;omega
 ·refine k h hn (λi x b1 b2 e=>?_) (λi x b1 b2 e=>?_)
  ·have:=h1 (i-base) A6;rw[show base+(i-base)=i by omega,e]at this
   simpa using this
  ·have:=h2 (i-base) A6 A6;rw[show base+(i-base)=i by omega,e]at this
   simpa using this
end
end PyProof.Rows
namespace PyProof.Rows
open PySem
def VJ:Array Keyed->Array Keyed->StateT SortSt Sem (Array Keyed):=sortPriv% PySem.Builtin.mergeLo
structure Lv(rk:Keyed->Nat)(a b out:Array Keyed)(ia ib:Nat):Prop where
 mi:MI rk a b out ia ib
 la:ia+1<a.size
 lb:ib<b.size
section
variable{prog:Program}{w:World}{A:Around}{E:Value->Shared->Prop}{s:Shared}{rk:Keyed->Nat}{S:Keyed->Prop}{κ:SortKind}
theorem wpI{M:Model}{α:Type}{c:Prop}[Decidable c]{p q:StateT SortSt Sem α}{Q:α->SortSt->Prop}{st:SortSt}(h1:c->wpS M A E s p Q st)(h2:¬c->wpS M A E s q Q st):wpS M A E s (if c then p else q) Q st:=by
 by_cases h:c
 ·rw[Z6 h];exact h1 h
 ·rw[Z5 h];exact h2 h
theorem wpE{M:Model}{α:Type}{x y:Nat}{p q:StateT SortSt Sem α}{Q:α->SortSt->Prop}{st:SortSt}(h1:x=y->wpS M A E s p Q st)(h2:x≠y->wpS M A E s q Q st):wpS M A E s (if(x==y)=true then p else q) Q st:=wpI (λz=>h1 (eq_of_beq z)) λz=>h2 λe=>z (beq_iff_eq.mpr e)
theorem wpJ{M:Model}{α β:Type}{c:Prop}[Decidable c]{jp:Unit->β->StateT SortSt Sem α}{x y:β}{Q:α->SortSt->Prop}{st:SortSt}(h:∀m,wpS M A E s (jp () m) Q st):wpS M A E s (if c then jp () x else jp () y) Q st:=wpI (λ_=>h x) λ_=>h y
theorem wpC{M:Model}{α:Type}{m:StateT SortSt Sem α}{Q:α->SortSt->Prop}{st:SortSt}(P:(α->SortSt->Prop)->SortSt->Prop)(h:P Q st)(k:P Q st->wpS M A E s m Q st):wpS M A E s m Q st:=k h
theorem wpR{M:Model}{α:Type}{m:StateT SortSt Sem α}{Q:α->SortSt->Prop}{st:SortSt}(F:(α->SortSt->Prop)->Prop)(h:F Q)(k:∀R,F R->wpS M A E s m R st):wpS M A E s m Q st:=k Q h
theorem Rr{a b:Array Keyed}{st:SortSt}{Q:Array Keyed->SortSt->Prop}(hl:MX prog w A E s rk S κ)(hk:kindOf st=κ)(na:1<=a.size)(nb:1<=b.size)(Sa:∀(i:Nat) x,a[i]?=some x->S x)(Sb:∀(i:Nat) x,b[i]?=some x->S x)(sa:SoA rk a)(sb:SoA rk b)(first:∀x y,b[0]?=some x->a[0]?=some y->rk x<=rk y)(last:∀(i:Nat) x y,b[i]?=some x->a[a.size-1]?=some y->rk x<=rk y)(k:∀out st',Mgd rk a b out->DH st st'->Q out st'):wpS (model prog w) A E s (VJ a b) Q st:=by
 have atA:∀{i:Nat},i<a.size->∃x,a[i]?=some x:=λ{i} h=>⟨_,B4 h⟩
 have atB:∀{i:Nat},i<b.size->∃x,b[i]?=some x:=λ{i} h=>⟨_,B4 h⟩
 have lastL:∀{ia:Nat},ia+1=a.size->∀{ib:Nat}(i:Nat) x,ib<=i->b[i]?=some x->∀(j:Nat) y,ia<=j->a[j]?=some y->rk x<=rk y:=λ{ia} e {ib} i x _ ex j y hj ey=>by
  have jl:=(F7.mp ey).1;have:j=a.size-1:=by omega
  subst this;exact last i x y ex ey
 refine Z8 (wpS_lift (A1g ⟨rfl,?_⟩));obtain⟨x0,e0⟩:=atB nb;refine Z8 (CL e0 ?_);have m0:MI rk a b #[x0] 0 1:=by
  have:=MI.pushB (MI.nil (rk:=rk) (a:=a) (b:=b)) sb e0 λj y _ ey=>by
   obtain⟨y0,f0⟩:=atA na;exact C8 (first _ _ e0 f0) (sa 0 j _ _ (F5 _) f0 ey)
  exact this
 refine wpE (λz1=>?_) λz1=>?_
 ·refine X0 (k _ _ ?_ (DH.refl st));rw[z1]at m0;have:=m0.doneA sa (F5 _);rw[<-z1]at this⊢;exact this
 refine wpE (λz2=>?_) λz2=>?_
 ·exact X0 (k _ _ (m0.lastA sa sb (F5 _) nb (lastL z2)) (DH.refl st))
 have z1:1<b.size:=by lia
 have z2:0+1<a.size:=by lia
 refine Z8 (A6e ?_);refine Z8 (A0h (K8 (I:=λx r st'=>DH st st'/\∃out ia ib g,r=(none,out,ia,ib,g)/\Lv rk a b out ia ib/\x<=ia+ib) (Q:=λr st'=>DH st st'/\∃o t,r=(some o,t)/\Mgd rk a b o) ?_ ?_ ⟨DH.refl st,_,_,_,_,rfl,⟨m0,z2,z1⟩,F5 _⟩) ?_)
 ·rintro x c st1 _ hx ⟨sy,out,ia,ib,g,rfl,lv,le⟩;have hk1:kindOf st1=κ:=by rw[sy.kind,hk]
  refine Z8 (A0h (K8 (I:=λx r st'=>st'=st1/\∃out' ia' ib' ac bc,r=(none,out',ia',ib',ac,bc)/\Lv rk a b out' ia' ib'/\ia+ib+x<=ia'+ib') (Q:=λr st'=>st'=st1/\((∃o t,r=(some o,t)/\Mgd rk a b o)\/∃out' ia' ib' ac bc,r=(none,out',ia',ib',ac,bc)/\Lv rk a b out' ia' ib'/\ia+ib+1<=ia'+ib')) ?_ ?_ ⟨rfl,out,ia,ib,0,0,rfl,lv,B1 _⟩) ?_)
  ·rintro x' c' st2 _ hx' ⟨rfl,out',ia',ib',ac,bc,rfl,lv',le'⟩;obtain⟨mi0,la0,lb0⟩:=lv';obtain⟨y,ey⟩:=atB lb0;obtain⟨z,ez⟩:=atA (Nat.lt_of_succ_lt la0);refine Z8 (CL ey (Z8 (CL ez (Z8 (hl _ _ _ _ (Sb _ _ ey) (Sa _ _ ez) hk1 ?_)))));by_cases lt:rk y<rk z
   ·rw[Z3 lt];have mi:=mi0.pushB sb ey λj y' hj ey'=>by
     have:=sa _ _ _ _ hj ez ey';lia
    refine wpI (λ_=>Z8 (CL ey (wpE (λq=>X0 ⟨rfl,.inl ⟨_,_,rfl,?_⟩⟩) λq=>?_))) λh=>absurd rfl h
    ·rw[q]at mi⊢;exact mi.doneA sa A0
    have lv2:Lv rk a b (out'.push y) ia' (ib'+1):=⟨mi,la0,by lia⟩
    exact wpI (λ_=>X0 ⟨rfl,.inr ⟨_,_,_,_,_,rfl,lv2,by lia⟩⟩) λ_=>X0 ⟨rfl,_,_,_,_,_,rfl,lv2,by lia⟩
   ·rw[Z4 lt];have mi:=mi0.pushA sa ez λj y' hj ey'=>by
     have:=sb _ _ _ _ hj ey ey';lia
    refine wpI (λh=>nomatch h) λ_=>Z8 (CL ez (wpE (λq=>X0 ⟨rfl,.inl ⟨_,_,rfl,mi.lastA sa sb A0 (N5 lb0) (lastL q)⟩⟩) λq=>?_));have lv2:Lv rk a b (out'.push z) (ia'+1) ib':=⟨mi,by lia,lb0⟩
    exact wpI (λ_=>X0 ⟨rfl,.inr ⟨_,_,_,_,_,rfl,lv2,by lia⟩⟩) λ_=>X0 ⟨rfl,_,_,_,_,_,rfl,lv2,by lia⟩
  ·rintro c' st2 ⟨rfl,out',ia',ib',ac,bc,rfl,lv',le'⟩;have:=lv'.la;have:=lv'.lb;lia
  rintro r st2 ⟨rfl,⟨o,t,rfl,mg⟩|⟨out',ia',ib',ac,bc,rfl,lv',le'⟩⟩
  ·exact X0 ⟨sy,_,_,rfl,mg⟩
  refine Z8 (wpS_lift (A1g ⟨rfl,?_⟩));refine Z8 (A0h (K8 (I:=λx r st'=>DH st st'/\∃out2 ia2 ib2 g2 ac2 bc2,r=(none,out2,ia2,ib2,g2,ac2,bc2)/\Lv rk a b out2 ia2 ib2/\ia'+ib'+x<=ia2+ib2) (Q:=λr st'=>DH st st'/\((∃o t,r=(some o,t)/\Mgd rk a b o)\/∃out2 ia2 ib2 g2 ac2 bc2,r=(none,out2,ia2,ib2,g2,ac2,bc2)/\Lv rk a b out2 ia2 ib2/\ia'+ib'<=ia2+ib2)) ?_ ?_ ⟨sy,out',ia',ib',_,_,_,rfl,lv',B1 _⟩) ?_)
  ·rintro x2 c2 st3 _ hx2 ⟨sy2,out2,ia2,ib2,g2,ac2,bc2,rfl,lv2,le2⟩;dsimp -zeta only
   extract_lets s1 out3 s2 ia3 s3 ib3 s4 m3 s5 ac3 bc3 ib4 jp m4
   refine wpR (λR=>(∀o t st',Mgd rk a b o->DH st st'->R (.done (some o,t)) st')/\∀o i j g p q st',Lv rk a b o i j->ia'+ib'+(x2+1)<=i+j->DH st st'->R (.done (none,o,i,j,g,p,q)) st'/\R (.yield (none,o,i,j,g,p,q)) st') ⟨λo t st' m s=>⟨s,.inl ⟨_,_,rfl,m⟩⟩,λo i j g p q st' l e s=>⟨⟨s,.inr ⟨_,_,_,_,_,_,rfl,l,by lia⟩⟩,s,_,_,_,_,_,_,rfl,l,e⟩⟩ λR ⟨Rd,Rn⟩=>?_;refine wpJ λm=>?_;have sy3:DH st (SortSt.mk' (kindOf st3) (arrOf st3) (pendingOf st3) m (failedOf st3)):=by
    obtain⟨gg,rfl⟩:=sy2;exact⟨_,rfl⟩
   have hk3:=sy3.kind.trans hk;obtain⟨mi0,la2,lb2⟩:=lv2;obtain⟨y,ey⟩:=atB lb2;refine Z8 (A1f (Z8 (CL ey (Z8 (Lp hl hk3 (Sb _ _ ey) (λi x _ _ e=>Sa i x e) (λi j x y _ h _=>sa i j x y h) A0 A0 λkk hkk h1 h2=>?_)))));dsimp -zeta only
   extract_lets ac4 jp2 out4 ia4
   have h2:∀(i:Nat) x,ia2+kk<=i->a[i]?=some x->rk y<rk x:=λi x hi ex=>h2 i x hi (by have:=(F7.mp ex).1;lia) ex;refine wpC (λQ st=>∀o i,MI rk a b o i ib2->i+1<a.size->ia2<=i->(∀(i':Nat) x,i<=i'->a[i']?=some x->rk y<rk x)->wpS (model prog w) A E s (jp2 () o i) Q st) (λo i mi2 li lei gt=>?_) λhj2=>?_
   ·have mi3:=mi2.pushB sb ey λj y' hj ey'=>N5 (gt j y' hj ey');refine Z8 (CL ey (wpE (λq3=>X0 (Rd _ _ _ ?_ sy3)) λq3=>?_))
    ·have q3:ib2+1=b.size:=q3;show Mgd rk a b (o.push y++a.extract i a.size++b.extract (ib2+1) b.size);rw[q3]at mi3⊢;exact mi3.doneA sa A0
    have q3:ib2+1≠b.size:=q3;obtain⟨z,ez⟩:=atA (i:=i) A0;refine Z8 (CL ez (Z8 (ML hl hk3 (Sa _ _ ez) (λi x _ _ e=>Sb i x e) (λi j x y _ h _=>sb i j x y h) (by show ib2+1+(b.size-(ib2+1))<=b.size;lia) (by show 0<b.size-(ib2+1);lia) λk2 hk2 h3 h4=>?_)));dsimp -zeta only
    extract_lets bc4 ia5 jp3 out5 ib5
    have hk2:k2<=b.size-(ib2+1):=hk2;have h4:∀(j:Nat) x,ib2+1+k2<=j->b[j]?=some x->rk z<=rk x:=λj x hj ex=>h4 j x hj (by have:=(F7.mp ex).1;show j<ib2+1+(b.size-(ib2+1));lia) ex;refine wpC (λQ st=>∀o j,MI rk a b o i j->ib2+1<=j->j<b.size->(∀(j':Nat) x,j<=j'->b[j']?=some x->rk z<=rk x)->wpS (model prog w) A E s (jp3 () o j) Q st) (λo j mi4 lj ljb ge=>?_) λhj3=>?_
    ·have mi5:=mi4.pushA sa ez ge;refine Z8 (CL ez (wpE (λq5=>X0 (Rd _ _ _ (mi5.lastA sa sb A0 A0 (lastL q5)) sy3)) λq5=>?_));have lv3:Lv rk a b _ (i+1) j:=⟨mi5,by lia,ljb⟩
     exact wpI (λ_=>X0 (Rn _ _ _ _ _ _ _ lv3 A0 sy3).1) λ_=>X0 (Rn _ _ _ _ _ _ _ lv3 A0 sy3).2
    ·clear_value jp3
     refine wpI (λzk=>?_) λzk=>?_
     ·have mi4:=MI.addB sb mi3 (k:=k2) A0 λi x h1' h2' ex j y' hj ey'=>C8 (N5 (h3 i x h1' h2' ex)) (sa _ _ _ _ hj ez ey');refine wpE (λq4=>X0 (Rd _ _ _ ?_ sy3)) λq4=>hj3 _ _ mi4 A0 (by have q4:ib2+1+k2≠b.size:=q4;lia) h4;have q4:ib2+1+k2=b.size:=q4;show Mgd rk a b (o.push y++b.extract (ib2+1) (ib2+1+k2)++a.extract i a.size++b.extract (ib2+1+k2) b.size);have mi4':=mi4;rw[q4]at mi4'⊢;exact mi4'.doneA sa A0
     ·have zk:k2=0:=by lia
      subst zk;exact hj3 _ _ mi3 (B1 _) A0 h4
   ·clear_value jp2
    refine wpI (λzk=>?_) λzk=>?_
    ·have mi2:=MI.addA sa mi0 (k:=kk) A0 λi x h1' h2' ex j y' hj ey'=>C8 (h1 i x h1' h2' ex) (sb _ _ _ _ hj ey ey');refine wpE (λq1=>X0 (Rd _ _ _ (mi2.lastA sa sb A0 A0 (lastL q1)) sy3)) λq1=>wpE (λq2=>X0 (Rd _ _ _ ?_ sy3)) λq2=>hj2 _ _ mi2 (by have q1:ia2+kk+1≠a.size:=q1;have q2:ia2+kk≠a.size:=q2;lia) A0 h2;have q2:ia2+kk=a.size:=q2;show Mgd rk a b (out2++a.extract ia2 (ia2+kk)++a.extract (ia2+kk) a.size++b.extract ib2 b.size);have mi2':=mi2;rw[q2]at mi2'⊢;exact mi2'.doneB sb A0
    ·have zk:kk=0:=by lia
     subst zk;exact hj2 _ _ mi0 la2 (B1 _) h2
  ·rintro c2 st3 ⟨sy2,out2,ia2,ib2,g2,ac2,bc2,rfl,lv2,le2⟩;have:=lv2.la;have:=lv2.lb;lia
  rintro r st3 ⟨sy2,⟨o,t,rfl,mg⟩|⟨out2,ia2,ib2,g2,ac2,bc2,rfl,lv2,le2⟩⟩
  ·exact X0 ⟨sy2,_,_,rfl,mg⟩
  refine Z8 (A1f (X0 ?_));refine⟨?_,_,_,_,_,rfl,lv2,by show x+1<=ia2+ib2;lia⟩;obtain⟨gg,rfl⟩:=sy2;exact⟨_,rfl⟩
 ·rintro c st1 ⟨sy,out,ia,ib,g,rfl,lv,le⟩;have:=lv.la;have:=lv.lb;lia
 ·rintro r st1 ⟨sy,o,t,rfl,mg⟩;exact X0 (k _ _ mg sy)
end
end PyProof.Rows
namespace PyProof.Rows
open PySem
structure MH(rk:Keyed->Nat)(a b out:Array Keyed)(na nb:Nat):Prop where
 pm:out.toList.Perm (a.toList.drop na++b.toList.drop nb)
 so:out.toList.Pairwise (λx y=>rk y<=rk x)
 ba:∀o∈out.toList,∀i x,i<na->a[i]?=some x->rk x<=rk o
 bb:∀o∈out.toList,∀i x,i<nb->b[i]?=some x->rk x<=rk o
section
variable{rk:Keyed->Nat}{a b out:Array Keyed}{na nb:Nat}
theorem MH.nil:MH rk a b #[] a.size b.size:=by
 refine⟨?_,by simp,λo h=>by simp at h,λo h=>by simp at h⟩;rw[show a.size=a.toList.length from C3.symm,show b.size=b.toList.length from C3.symm,List.drop_length,List.drop_length];exact A5d _
theorem Lq{a:Array Keyed}{i:Nat}{x:Keyed}(h:a[i]?=some x):a.toList.drop i=x::a.toList.drop (i+1):=by
 obtain⟨hl,e⟩:=F7.mp h;rw[P5 (by rw[C3];exact hl),P9,e]
theorem MH.pushA{x:Keyed}(h:MH rk a b out (na+1) nb)(sa:SoA rk a)(e:a[na]?=some x)(le:∀j y,j<nb->b[j]?=some y->rk y<=rk x):MH rk a b (out.push x) na nb:=by
 have me:∀o,o∈(out.push x).toList->o∈out.toList\/o=x:=λo ho=>by
  rw[L6,C6,C9]at ho;exact ho
 refine⟨?_,?_,λo ho i y hi ey=>?_,λo ho i y hi ey=>?_⟩
 ·rw[L6,Lq e,List.cons_append];exact List.perm_append_singleton x _ |>.trans (h.pm.cons x)
 ·rw[L6,P7];refine⟨h.so,by simp,λo ho y hy=>?_⟩;rw[C9.mp hy];exact h.ba o ho na x A0 e
 ·rcases me o ho with z|rfl
  ·exact h.ba o z i y A0 ey
  ·exact sa i na y _ A0 ey e
 ·rcases me o ho with z|rfl
  ·exact h.bb o z i y hi ey
  ·exact le i y hi ey
theorem MH.pushB{x:Keyed}(h:MH rk a b out na (nb+1))(sb:SoA rk b)(e:b[nb]?=some x)(le:∀j y,j<na->a[j]?=some y->rk y<=rk x):MH rk a b (out.push x) na nb:=by
 have me:∀o,o∈(out.push x).toList->o∈out.toList\/o=x:=λo ho=>by
  rw[L6,C6,C9]at ho;exact ho
 refine⟨?_,?_,λo ho i y hi ey=>?_,λo ho i y hi ey=>?_⟩
 ·rw[L6,Lq e];exact(List.perm_append_singleton x _).trans ((h.pm.cons x).trans List.perm_middle.symm)
 ·rw[L6,P7];refine⟨h.so,by simp,λo ho y hy=>?_⟩;rw[C9.mp hy];exact h.bb o ho nb x A0 e
 ·rcases me o ho with z|rfl
  ·exact h.ba o z i y hi ey
  ·exact le i y hi ey
 ·rcases me o ho with z|rfl
  ·exact h.bb o z i y A0 ey
  ·exact sb i nb y _ A0 ey e
theorem Qw{a:Array Keyed}{i j:Nat}{x:Keyed}(h:a[i]?=some x)(ij:i<j):(a.extract i j).reverse=(a.extract (i+1) j).reverse.push x:=by
 apply W0.mp;rw[L6,T8,T8,R1,R1];simp only[List.extract];rw[Lq h,show j-i=(j-(i+1))+1 by lia,List.take_succ_cons,List.reverse_cons]
theorem MH.addA(sa:SoA rk a){n:Nat}(h:MH rk a b out n nb)(hn:n<=a.size):∀{k t:Nat},t+k=n->(∀i x,t<=i->i<n->a[i]?=some x->∀j y,j<nb->b[j]?=some y->rk y<=rk x)->MH rk a b (out++(a.extract t n).reverse) t nb
 |0,t,e,_=>by
  have:t=n:=by lia
  subst this;rw[Q7 A0,Array.reverse_empty,P3];exact h
 |k+1,t,e,le=>by
  have hl:t<a.size:=by lia
  have ex:a[t]?=some a[t]:=B4 hl;have:=(MH.addA sa h hn (k:=k) (t:=t+1) A0 (λi x h1 h2=>le i x A0 h2)).pushA sa ex (le t _ (B1 _) A0 ex);rw[Qw ex A0,V3];exact this
theorem MH.addB(sb:SoA rk b){n:Nat}(h:MH rk a b out na n)(hn:n<=b.size):∀{k t:Nat},t+k=n->(∀i x,t<=i->i<n->b[i]?=some x->∀j y,j<na->a[j]?=some y->rk y<=rk x)->MH rk a b (out++(b.extract t n).reverse) na t
 |0,t,e,_=>by
  have:t=n:=by lia
  subst this;rw[Q7 A0,Array.reverse_empty,P3];exact h
 |k+1,t,e,le=>by
  have hl:t<b.size:=by lia
  have ex:b[t]?=some b[t]:=B4 hl;have:=(MH.addB sb h hn (k:=k) (t:=t+1) A0 (λi x h1 h2=>le i x A0 h2)).pushB sb ex (le t _ (B1 _) A0 ex);rw[Qw ex A0,V3];exact this
theorem MH.whole(h:MH rk a b out 0 0):Mgd rk a b out.reverse:=by
 refine⟨?_,?_⟩
 ·rw[T8];exact(List.reverse_perm _).trans h.pm
 ·rw[T8,List.pairwise_reverse];exact h.so
theorem MH.doneA(sa:SoA rk a)(h:MH rk a b out na 0)(hn:na<=a.size):Mgd rk a b (a.extract 0 na++b.extract 0 0++out.reverse):=by
 have h1:=(MH.addA sa h hn (k:=na) (t:=0) A0 λi x _ _ _ j y hj=>absurd hj A0).whole;have e:b.extract 0 0=#[]:=by simp
 rw[e,P3];rw[T9,S6]at h1;exact h1
theorem MH.doneB(sb:SoA rk b)(h:MH rk a b out 0 nb)(hn:nb<=b.size):Mgd rk a b (a.extract 0 0++b.extract 0 nb++out.reverse):=by
 have h1:=(MH.addB sb h hn (k:=nb) (t:=0) A0 λi x _ _ _ j y hj=>absurd hj A0).whole;have e:a.extract 0 0=#[]:=by simp
 rw[e,Array.empty_append];rw[T9,S6]at h1;exact h1
theorem MH.firstB(sa:SoA rk a)(sb:SoA rk b)(h:MH rk a b out na nb)(ha:na<=a.size)(hb:nb<=b.size)(le:∀i x,i<na->a[i]?=some x->∀j y,j<nb->b[j]?=some y->rk y<=rk x):Mgd rk a b (b.extract 0 nb++a.extract 0 na++out.reverse):=by
 have h1:=MH.addA sa h ha (k:=na) (t:=0) A0 λi x _ h2=>le i x h2;have h2:=(MH.addB sb h1 hb (k:=nb) (t:=0) A0 λi x _ _ _ j y hj=>absurd hj A0).whole;rw[T9,T9,S6,S6,<-Array.append_assoc]at h2;exact h2
end
end PyProof.Rows
namespace PyProof.Rows
open PySem
def VL:Array Keyed->Array Keyed->StateT SortSt Sem (Array Keyed):=sortPriv% PySem.Builtin.mergeHi
structure LvH(rk:Keyed->Nat)(a b out:Array Keyed)(na nb:Nat):Prop where
 mh:MH rk a b out na nb
 la:1<=na
 ka:na<=a.size
 lb:2<=nb
 kb:nb<=b.size
section
variable{prog:Program}{w:World}{A:Around}{E:Value->Shared->Prop}{s:Shared}{rk:Keyed->Nat}{S:Keyed->Prop}{κ:SortKind}
theorem Rs{a b:Array Keyed}{st:SortSt}{Q:Array Keyed->SortSt->Prop}(hl:MX prog w A E s rk S κ)(hk:kindOf st=κ)(na:1<=a.size)(nb:1<=b.size)(Sa:∀(i:Nat) x,a[i]?=some x->S x)(Sb:∀(i:Nat) x,b[i]?=some x->S x)(sa:SoA rk a)(sb:SoA rk b)(first:∀x y,b[0]?=some x->a[0]?=some y->rk x<=rk y)(last:∀(i:Nat) x y,b[i]?=some x->a[a.size-1]?=some y->rk x<=rk y)(k:∀out st',Mgd rk a b out->DH st st'->Q out st'):wpS (model prog w) A E s (VL a b) Q st:=by
 have atA:∀{i:Nat},i<a.size->∃x,a[i]?=some x:=λ{i} h=>⟨_,B4 h⟩
 have atB:∀{i:Nat},i<b.size->∃x,b[i]?=some x:=λ{i} h=>⟨_,B4 h⟩
 obtain⟨f0,ef0⟩:=atA na;have firstL:∀{nb:Nat},nb=1->∀{na:Nat}(i:Nat) x,i<na->a[i]?=some x->∀(j:Nat) y,j<nb->b[j]?=some y->rk y<=rk x:=λ{nb} e {na} i x _ ex j y hj ey=>by
  have:j=0:=by lia
  subst this;exact C8 (first _ _ ey ef0) (sa 0 i _ _ (F5 _) ef0 ex)
 refine Z8 (wpS_lift (A1g ⟨rfl,?_⟩));obtain⟨x0,e0⟩:=atA (i:=a.size-1) A0;refine Z8 (CL e0 ?_);have m0:MH rk a b #[x0] (a.size-1) b.size:=by
  have:=MH.pushA (na:=a.size-1) (show MH rk a b #[] (a.size-1+1) b.size by rw[R6 na];exact MH.nil) sa e0 λj y _ ey=>last j y x0 ey e0;exact this
 refine wpE (λz1=>X0 (k _ _ ?_ (DH.refl st))) λz1=>wpE (λz2=>X0 (k _ _ (m0.firstB sa sb A0 (B1 _) (firstL z2)) (DH.refl st))) λz2=>?_
 ·rw[z1]at m0⊢;exact m0.doneB sb (B1 _)
 refine Z8 (A6e ?_);refine Z8 (A0h (K8 (I:=λx r st'=>DH st st'/\∃na nb out g,r=(none,na,nb,out,g)/\LvH rk a b out na nb/\na+nb+x<=a.size+b.size) (Q:=λr st'=>DH st st'/\∃o t,r=(some o,t)/\Mgd rk a b o) ?_ ?_ ⟨DH.refl st,_,_,_,_,rfl,⟨m0,by lia,by lia,by lia,B1 _⟩,by lia⟩) ?_)
 ·rintro x c st1 _ hx ⟨sy,na1,nb1,out,g,rfl,lv,le⟩;have hk1:kindOf st1=κ:=by rw[sy.kind,hk]
  refine Z8 (A0h (K8 (I:=λx r st'=>st'=st1/\∃na' nb' out' ac bc,r=(none,na',nb',out',ac,bc)/\LvH rk a b out' na' nb'/\na'+nb'+x<=na1+nb1) (Q:=λr st'=>st'=st1/\((∃o t,r=(some o,t)/\Mgd rk a b o)\/∃na' nb' out' ac bc,r=(none,na',nb',out',ac,bc)/\LvH rk a b out' na' nb'/\na'+nb'+1<=na1+nb1)) ?_ ?_ ⟨rfl,na1,nb1,out,0,0,rfl,lv,B1 _⟩) ?_)
  ·rintro x' c' st2 _ hx' ⟨rfl,na',nb',out',ac,bc,rfl,lv',le'⟩;obtain⟨mh,la',ka',lb',kb'⟩:=lv';obtain⟨y,ey⟩:=atB (i:=nb'-1) A0;obtain⟨z,ez⟩:=atA (i:=na'-1) A0;refine Z8 (CL ey (Z8 (CL ez (Z8 (hl _ _ _ _ (Sb _ _ ey) (Sa _ _ ez) hk1 ?_)))));by_cases lt:rk y<rk z
   ·rw[Z3 lt];have mi:=(show MH rk a b out' (na'-1+1) nb' by rw[R6 la'];exact mh).pushA sa ez λj y' hj ey'=>by
     have:=sb j (nb'-1) _ _ A0 ey' ey;lia
    refine wpI (λ_=>Z8 (CL ez (wpE (λq=>X0 ⟨rfl,.inl ⟨_,_,rfl,?_⟩⟩) λq=>?_))) λh=>absurd rfl h
    ·rw[q]at mi⊢;exact mi.doneB sb A0
    have lv2:LvH rk a b (out'.push z) (na'-1) nb':=⟨mi,by lia,by lia,by lia,by lia⟩
    exact wpI (λ_=>X0 ⟨rfl,.inr ⟨_,_,_,_,_,rfl,lv2,by lia⟩⟩) λ_=>X0 ⟨rfl,_,_,_,_,_,rfl,lv2,by lia⟩
   ·rw[Z4 lt];have mi:=(show MH rk a b out' na' (nb'-1+1) by rw[R6 A0];exact mh).pushB sb ey λj y' hj ey'=>by
     have:=sa j (na'-1) _ _ A0 ey' ez;lia
    refine wpI (λh=>nomatch h) λ_=>Z8 (CL ey (wpE (λq=>X0 ⟨rfl,.inl ⟨_,_,rfl,mi.firstB sa sb A0 A0 (firstL q)⟩⟩) λq=>?_));have lv2:LvH rk a b (out'.push y) na' (nb'-1):=⟨mi,by lia,by lia,by lia,by lia⟩
    exact wpI (λ_=>X0 ⟨rfl,.inr ⟨_,_,_,_,_,rfl,lv2,by lia⟩⟩) λ_=>X0 ⟨rfl,_,_,_,_,_,rfl,lv2,by lia⟩
  ·rintro c' st2 ⟨rfl,na',nb',out',ac,bc,rfl,lv',le'⟩;have:=lv'.la;have:=lv'.lb;have:=lv.ka;have:=lv.kb;lia
  rintro r st2 ⟨rfl,⟨o,t,rfl,mg⟩|⟨na',nb',out',ac,bc,rfl,lv',le'⟩⟩
  ·exact X0 ⟨sy,_,_,rfl,mg⟩
  refine Z8 (wpS_lift (A1g ⟨rfl,?_⟩));refine Z8 (A0h (K8 (I:=λx r st'=>DH st st'/\∃na2 nb2 out2 g2 ac2 bc2,r=(none,na2,nb2,out2,g2,ac2,bc2)/\LvH rk a b out2 na2 nb2/\na2+nb2+x<=na'+nb') (Q:=λr st'=>DH st st'/\((∃o t,r=(some o,t)/\Mgd rk a b o)\/∃na2 nb2 out2 g2 ac2 bc2,r=(none,na2,nb2,out2,g2,ac2,bc2)/\LvH rk a b out2 na2 nb2/\na2+nb2<=na'+nb')) ?_ ?_ ⟨sy,na',nb',out',_,_,_,rfl,lv',B1 _⟩) ?_)
  ·rintro x2 c2 st3 _ hx2 ⟨sy2,na2,nb2,out2,g2,ac2,bc2,rfl,lv2,le2⟩;dsimp -zeta only
   extract_lets s1 na3 s2 nb3 s3 out3 s4 m3 s5 ac3 bc3 nb4 jp m4
   refine wpR (λR=>(∀o t st',Mgd rk a b o->DH st st'->R (.done (some o,t)) st')/\∀i j o g p q st',LvH rk a b o i j->i+j+(x2+1)<=na'+nb'->DH st st'->R (.done (none,i,j,o,g,p,q)) st'/\R (.yield (none,i,j,o,g,p,q)) st') ⟨λo t st' m s=>⟨s,.inl ⟨_,_,rfl,m⟩⟩,λi j o g p q st' l e s=>⟨⟨s,.inr ⟨_,_,_,_,_,_,rfl,l,by lia⟩⟩,s,_,_,_,_,_,_,rfl,l,e⟩⟩ λR ⟨Rd,Rn⟩=>?_;refine wpJ λm=>?_;have sy3:DH st (SortSt.mk' (kindOf st3) (arrOf st3) (pendingOf st3) m (failedOf st3)):=by
    obtain⟨gg,rfl⟩:=sy2;exact⟨_,rfl⟩
   have hk3:=sy3.kind.trans hk;obtain⟨mh,la2,ka2,lb2,kb2⟩:=lv2;obtain⟨y,ey⟩:=atB (i:=nb2-1) A0;refine Z8 (A1f (Z8 (CL ey (Z8 (Lp hl hk3 (Sb _ _ ey) (λi x _ _ e=>Sa i x e) (λi j x y _ h _=>sa i j x y h) (by show 0+na2<=a.size;lia) (by show na2-1<na2;lia) λt1 ht1 h1 h2=>?_)))));dsimp -zeta only
   extract_lets k4 ac4 jp2 out4 na4
   have ht1:t1<=na2:=ht1;have h1:∀(j:Nat) x,j<t1->a[j]?=some x->rk x<=rk y:=λj x hj ex=>h1 j x (F5 _) A0 ex;refine wpC (λQ st=>∀i o,MH rk a b o i nb2->1<=i->i<=na2->(∀(j:Nat) x,j<i->a[j]?=some x->rk x<=rk y)->wpS (model prog w) A E s (jp2 () i o) Q st) (λi o mi2 li lei ge=>?_) λhj2=>?_
   ·have mi3:=(show MH rk a b _ i (nb2-1+1) by rw[R6 A0];exact mi2).pushB sb ey λj y' hj ey'=>ge j y' hj ey';refine Z8 (CL ey (wpE (λq3=>X0 (Rd _ _ _ (mi3.firstB sa sb A0 (by show nb2-1<=b.size;lia) (firstL q3)) sy3)) λq3=>?_));have q3:nb2-1≠1:=q3;obtain⟨z,ez⟩:=atA (i:=i-1) A0;refine Z8 (CL ez (Z8 (ML hl hk3 (Sa _ _ ez) (λi x _ _ e=>Sb i x e) (λi j x y _ h _=>sb i j x y h) (by show 0+(nb2-1)<=b.size;lia) (by show nb2-1-1<nb2-1;lia) λt2 ht2 h3 h4=>?_)));dsimp -zeta only
    extract_lets k5 bc4 na5 jp3 out5 nb5
    have ht2:t2<=nb2-1:=ht2;have h3:∀(j:Nat) x,j<t2->b[j]?=some x->rk x<=rk z:=λj x hj ex=>N5 (h3 j x (F5 _) A0 ex);refine wpC (λQ st=>∀j o,MH rk a b o i j->2<=j->j<=nb2-1->(∀(j':Nat) x,j'<j->b[j']?=some x->rk x<=rk z)->wpS (model prog w) A E s (jp3 () j o) Q st) (λj o mi4 lj ljb gz=>?_) λhj3=>?_
    ·have mi5:=(show MH rk a b _ (i-1+1) j by rw[R6 li];exact mi4).pushA sa ez λj' y' hj ey'=>gz j' y' hj ey';refine Z8 (CL ez (wpE (λq5=>X0 (Rd _ _ _ ?_ sy3)) λq5=>?_))
     ·have q5:i-1=0:=q5;show Mgd rk a b (a.extract 0 (i-1)++b.extract 0 j++(o.push z).reverse);rw[q5]at mi5⊢;exact mi5.doneB sb A0
     have q5:i-1≠0:=q5;have lv3:LvH rk a b _ (i-1) j:=⟨mi5,by lia,by lia,lj,by lia⟩
     exact wpI (λ_=>X0 (Rn _ _ _ _ _ _ _ lv3 A0 sy3).1) λ_=>X0 (Rn _ _ _ _ _ _ _ lv3 A0 sy3).2
    ·clear_value jp3
     refine wpI (λzk=>?_) λzk=>?_
     ·have zk:nb2-1-t2 > 0:=zk;have mi4:=MH.addB sb mi3 A0 (k:=nb2-1-t2) (t:=t2) A0 λi' x h1' h2' ex j y' hj ey'=>C8 (sa j (i-1) _ _ A0 ey' ez) (h4 i' x A0 (by show i'<0+(nb2-1);lia) ex);refine wpE (λq4=>X0 (Rd _ _ _ (mi4.firstB sa sb A0 (by show t2<=b.size;lia) (firstL q4)) sy3)) λq4=>wpE (λq6=>X0 (Rd _ _ _ ?_ sy3)) λq6=>hj3 _ _ mi4 (by have q4:t2≠1:=q4;have q6:t2≠0:=q6;show 2<=t2;lia) ht2 h3;have q6:t2=0:=q6;show Mgd rk a b (a.extract 0 i++b.extract 0 t2++(o.push y++(b.extract t2 (nb2-1)).reverse).reverse);subst q6;exact mi4.doneA sa A0
     ·have zk:¬nb2-1-t2 > 0:=zk;have zk:t2=nb2-1:=by lia
      subst zk;exact hj3 _ _ mi3 (by show 2<=nb2-1;lia) (B1 _) h3
   ·clear_value jp2
    refine wpI (λzk=>?_) λzk=>?_
    ·have zk:na2-t1 > 0:=zk;have mi2:=MH.addA sa mh A0 (k:=na2-t1) (t:=t1) A0 λi x h1' h2' ex j y' hj ey'=>C8 (sb j (nb2-1) _ _ A0 ey' ey) (N5 (h2 i x A0 (by show i<0+na2;lia) ex));refine wpE (λq1=>X0 (Rd _ _ _ ?_ sy3)) λq1=>hj2 _ _ mi2 (by have q1:t1≠0:=q1;show 1<=t1;lia) ht1 h1;have q1:t1=0:=q1;show Mgd rk a b (a.extract 0 t1++b.extract 0 nb2++(out2++(a.extract t1 na2).reverse).reverse);subst q1;exact mi2.doneB sb A0
    ·have zk:¬na2-t1 > 0:=zk;have zk:t1=na2:=by lia
     subst zk;exact hj2 _ _ mh la2 (B1 _) h1
  ·rintro c2 st3 ⟨sy2,na2,nb2,out2,g2,ac2,bc2,rfl,lv2,le2⟩;have:=lv2.la;have:=lv2.lb;have:=lv'.ka;have:=lv'.kb;lia
  rintro r st3 ⟨sy2,⟨o,t,rfl,mg⟩|⟨na2,nb2,out2,g2,ac2,bc2,rfl,lv2,le2⟩⟩
  ·exact X0 ⟨sy2,_,_,rfl,mg⟩
  refine Z8 (A1f (X0 ?_));refine⟨?_,_,_,_,_,rfl,lv2,by show na2+nb2+(x+1)<=a.size+b.size;lia⟩;obtain⟨gg,rfl⟩:=sy2;exact⟨_,rfl⟩
 ·rintro c st1 ⟨sy,na1,nb1,out,g,rfl,lv,le⟩;have:=lv.la;have:=lv.lb;lia
 ·rintro r st1 ⟨sy,o,t,rfl,mg⟩;exact X0 (k _ _ mg sy)
end
end PyProof.Rows
namespace PyProof.Rows
open PySem
theorem Sw(t:Nat):∀(l:List Keyed)(n:Nat)(arr:Array Keyed),t+n+l.length<=arr.size->((l.zipIdx n).foldl (λa (p:Keyed×Nat)=>a.setIfInBounds (t+p.2) p.1) arr).toList=arr.toList.take (t+n)++l++arr.toList.drop (t+n+l.length)
 |[],n,arr,h=>by simp
 |x::l,n,arr,h=>by
  rw[C4]at h;rw[List.zipIdx_cons,U1,Sw t l (n+1) _ (by rw[Array.size_setIfInBounds];lia)];have hl:t+n<arr.toList.length:=by rw[C3];lia
  rw[Array.toList_setIfInBounds,C4];have e1:(arr.toList.set (t+n) x).take (t+(n+1))=arr.toList.take (t+n)++[x]:=by
   rw[show t+(n+1)=(t+n)+1 by lia,J1,List.take_set_of_le (B1 _),S3 hl];rfl
  have e2:(arr.toList.set (t+n) x).drop (t+(n+1)+l.length)=arr.toList.drop (t+n+(l.length+1)):=by
   rw[List.drop_set_of_lt A0];congr 1;lia
  rw[e1,e2];simp
theorem TL{t:Nat}{m arr:Array Keyed}(h:t+m.size<=arr.size):(m.toList.zipIdx.foldl (λa (p:Keyed×Nat)=>a.setIfInBounds (t+p.2) p.1) arr).toList=arr.toList.take t++m.toList++arr.toList.drop (t+m.size):=by
 have:=Sw t m.toList 0 arr (by rw[C3];lia);rw[C3]at this;exact this
end PyProof.Rows
namespace PyProof.Rows
open PySem
def SoR(rk:Keyed->Nat)(arr:Array Keyed)(lo hi:Nat):Prop:=∀(i j:Nat)(x y:Keyed),lo<=i->i<=j->j<hi->arr[i]?=some x->arr[j]?=some y->rk x<=rk y
structure Mgr(rk:Keyed->Nat)(arr arr':Array Keyed)(lo hi:Nat):Prop where
 pm:arr'.toList.Perm arr.toList
 out:∀i:Nat,i<lo\/hi<=i->arr'[i]?=arr[i]?
 so:SoR rk arr' lo hi
section
variable{prog:Program}{w:World}{A:Around}{E:Value->Shared->Prop}{s:Shared}{rk:Keyed->Nat}{S:Keyed->Prop}{κ:SortKind}
theorem SoR.ext{arr:Array Keyed}{lo hi:Nat}(h:SoR rk arr lo hi)(hz:hi<=arr.size):SoA rk (arr.extract lo hi):=λi j x y ij ex ey=>by
 have jl:=(F7.mp ey).1;rw[R7]at jl;rw[S5]at ex ey;rw[Z6 A0]at ex ey;exact h (lo+i) (lo+j) x y A0 A0 A0 ex ey
theorem SoR.join{arr:Array Keyed}{lo mid hi:Nat}(h1:SoR rk arr lo mid)(h2:SoR rk arr mid hi)(h:∀(i j:Nat) x y,lo<=i->i<mid->mid<=j->j<hi->arr[i]?=some x->arr[j]?=some y->rk x<=rk y):SoR rk arr lo hi:=λi j x y li ij jh ex ey=>by
 by_cases a:j<mid
 ·exact h1 i j x y li ij a ex ey
 ·by_cases b:i<mid
  ·exact h i j x y li b A0 jh ex ey
  ·exact h2 i j x y A0 ij jh ex ey
theorem Mgr.same{arr:Array Keyed}{lo hi:Nat}(h:SoR rk arr lo hi):Mgr rk arr arr lo hi:=⟨A5d _,λ_ _=>rfl,h⟩
theorem laid_at{t:Nat}{m arr arr':Array Keyed}(h:t+m.size<=arr.size)(e:arr'.toList=arr.toList.take t++m.toList++arr.toList.drop (t+m.size))(i:Nat):arr'[i]?=if t<=i/\i<t+m.size then m[i-t]? else arr[i]?:=by
 rw[<-F3,e];have l1:(arr.toList.take t).length=t:=by rw[N6,C3];lia
 have l2:(arr.toList.take t++m.toList).length=t+m.size:=by rw[B5,l1,C3]
 by_cases a:i<t
 ·rw[Z5 A0,M4,M7 A0,List.getElem?_take,Z6 a,F3]
 ·by_cases b:i<t+m.size
  ·rw[Z6 A0,M7 A0,J9 A0,l1,F3]
  ·rw[Z5 A0,J9 A0,l2,List.getElem?_drop,show t+m.size+(i-(t+m.size))=i by lia,F3]
theorem VI{arr arr' m:Array Keyed}{lo t mid u hi:Nat}(b1:lo<=t)(b2:t<mid)(b3:mid<u)(b4:u<=hi)(hz:hi<=arr.size)(h1:SoR rk arr lo mid)(h2:SoR rk arr mid hi)(low:∀(i j:Nat) x y,lo<=i->i<t->mid<=j->j<hi->arr[i]?=some x->arr[j]?=some y->rk x<=rk y)(high:∀(i j:Nat) x y,lo<=i->i<mid->u<=j->j<hi->arr[i]?=some x->arr[j]?=some y->rk x<=rk y)(mg:Mgd rk (arr.extract t mid) (arr.extract mid u) m)(e:arr'.toList=arr.toList.take t++m.toList++arr.toList.drop (t+m.size)):Mgr rk arr arr' lo hi:=by
 have ms:m.size=u-t:=by
  have:=mg.pm.length_eq;rw[B5,C3,C3,C3,R7,R7]at this;lia
 have tm:t+m.size=u:=by lia
 have at':=laid_at (t:=t) (m:=m) (arr:=arr) (arr':=arr') A0 e;have ml:arr.extract t mid++arr.extract mid u=arr.extract t u:=by
  rw[Array.extract_append_extract];congr 1<;>lia
 have inm:∀{i:Nat}{x:Keyed},m[i]?=some x->∃j,t<=j/\j<u/\arr[j]?=some x:=λ{i x} ex=>by
  have hm:x∈m.toList:=by rw[<-F3]at ex;exact M3 ex
  have:=mg.pm.mem_iff.mp hm;rw[<-Array.toList_append,ml]at this;obtain⟨j,hj⟩:=T7 this;rw[F3,S5]at hj;split at hj
  ·exact⟨t+j,by lia,by lia,hj⟩
  ·cases hj
 refine⟨?_,λi hi'=>?_,λi j x y li ij jh ex ey=>?_⟩
 ·rw[e];have:arr.toList=arr.toList.take t++(arr.extract t u).toList++arr.toList.drop (t+m.size):=by
   rw[R1,tm,M4];simp only[List.extract];have:(arr.toList.drop t).take (u-t)++arr.toList.drop u=arr.toList.drop t:=by
    have:=N2 (u-t) (arr.toList.drop t);rw[List.drop_drop,show t+(u-t)=u by lia]at this;exact this
   rw[this,N2]
  rw (occs:=.pos [3]) [this];refine List.Perm.append_right _ (List.Perm.append_left _ ?_);rw[<-ml,Array.toList_append];exact mg.pm
 ·rw[at',Z5 A0]
 ·rw[at']at ex ey;by_cases ci:t<=i/\i<t+m.size
  ·rw[Z6 ci]at ex;by_cases cj:t<=j/\j<t+m.size
   ·rw[Z6 cj]at ey;by_cases q:i=j
    ·subst q;rw[ex]at ey;cases ey;exact B1 _
    ·have:=List.pairwise_iff_getElem.mp mg.so (i-t) (j-t) (by rw[C3];lia) (by rw[C3];lia) A0;obtain⟨_,f1⟩:=F7.mp ex;obtain⟨_,f2⟩:=F7.mp ey;rw[P9,P9,f1,f2]at this;exact this
   ·rw[Z5 cj]at ey;obtain⟨k,k1,k2,ek⟩:=inm ex;by_cases q:k<mid
    ·exact high k j x y A0 q A0 jh ek ey
    ·exact h2 k j x y A0 A0 jh ek ey
  ·rw[Z5 ci]at ex;by_cases cj:t<=j/\j<t+m.size
   ·rw[Z6 cj]at ey;obtain⟨k,k1,k2,ek⟩:=inm ey;by_cases q:k<mid
    ·exact h1 i k x y li A0 q ex ek
    ·exact low i k x y li A0 A0 A0 ex ek
   ·rw[Z5 cj]at ey;by_cases q:i<t
    ·by_cases r:j<mid
     ·exact h1 i j x y li ij r ex ey
     ·exact low i j x y li q A0 jh ex ey
    ·exact h2 i j x y A0 ij jh ex ey
end
end PyProof.Rows
namespace PyProof.Rows
open PySem
section
variable{prog:Program}{w:World}{A:Around}{E:Value->Shared->Prop}{s:Shared}{rk:Keyed->Nat}{S:Keyed->Prop}{κ:SortKind}
theorem Ut{st st':SortSt}{Q:PUnit->SortSt->Prop}(h:Q ⟨⟩ st'):wpS (model prog w) A E s (set st':StateT SortSt Sem PUnit) Q st:=by
 unfold wpS;rw[StateT.run_set];exact Z9 ⟨rfl,h⟩
theorem Rt{st:SortSt}{Q:Bool->SortSt->Prop}{i sa na pw sb nb pw':Nat}(hl:MX prog w A E s rk S κ)(hk:kindOf st=κ)(hf:failedOf st=none)(e1:(pendingOf st)[i]?=some (sa,na,pw))(e2:(pendingOf st)[i+1]?=some (sb,nb,pw'))(hab:sb=sa+na)(na1:1<=na)(nb1:1<=nb)(hz:sb+nb<=(arrOf st).size)(Sall:∀(i:Nat) x,(arrOf st)[i]?=some x->S x)(s1:SoR rk (arrOf st) sa sb)(s2:SoR rk (arrOf st) sb (sb+nb))
  (k:∀st',kindOf st'=κ->failedOf st'=none->pendingOf st'=((pendingOf st).setIfInBounds i (sa,na+nb,pw)).eraseIdxIfInBounds (i+1)->Mgr rk (arrOf st) (arrOf st') sa (sb+nb)->Q true st'):wpS (model prog w) A E s (mergeAt' i) Q st:=by
 subst hab;have at':∀{j:Nat},j<(arrOf st).size->∃x,(arrOf st)[j]?=some x:=λ{j} h=>⟨_,B4 h⟩
 refine Z8 (A6e ?_);rw[e1,e2];dsimp only;refine Z8 (Ut ?_);obtain⟨y0,ey0⟩:=at' (j:=sa+na) A0;refine Z8 (CL ey0 (Z8 (Lp hl hk (Sall _ _ ey0) (λi x _ _ e=>Sall i x e) (λi j x y h1 h2 h3=>s1 i j x y h1 h2 h3) (show sa+na<=(arrOf st).size by lia) A0 λkk hkk h1 h2=>?_)));dsimp only;by_cases q1:(na-kk==0)=true
 ·rw[Z6 q1];have q1:na-kk=0:=by simpa using q1
  refine X0 (k _ hk hf rfl (Mgr.same (s1.join s2 λi j x y a1 a2 a3 a4 ex ey=>?_)));exact C8 (h1 i x a1 A0 ex) (s2 _ _ _ _ (B1 _) a3 a4 ey0 ey)
 rw[Z5 q1];have q1:¬na-kk=0:=λz=>q1 (by simpa using z);obtain⟨xl,exl⟩:=at' (j:=sa+kk+(na-kk)-1) A0;refine Z8 (CL exl (Z8 (ML hl hk (Sall _ _ exl) (λi x _ _ e=>Sall i x e) (λi j x y h1 h2 h3=>s2 i j x y h1 h2 h3) (show sa+na+nb<=(arrOf st).size by lia) A0 λt2 ht2 h3 h4=>?_)));dsimp only;have low:∀(i j:Nat) x y,sa<=i->i<sa+kk->sa+na<=j->j<sa+na+nb->(arrOf st)[i]?=some x->(arrOf st)[j]?=some y->rk x<=rk y:=λi j x y a1 a2 a3 a4 ex ey=>C8 (h1 i x a1 a2 ex) (s2 _ _ _ _ (B1 _) a3 a4 ey0 ey);have high:∀(i j:Nat) x y,sa<=i->i<sa+na->sa+na+t2<=j->j<sa+na+nb->(arrOf st)[i]?=some x->(arrOf st)[j]?=some y->rk x<=rk y:=λi j x y a1 a2 a3 a4 ex ey=>C8 (s1 i _ x xl a1 A0 A0 ex exl) (h4 j y a3 a4 ey);by_cases q2:(t2==0)=true
 ·rw[Z6 q2];have q2:t2=0:=by simpa using q2
  subst q2;exact X0 (k _ hk hf rfl (Mgr.same (s1.join s2 λi j x y a1 a2 a3 a4 ex ey=>high i j x y a1 a2 a3 a4 ex ey)))
 rw[Z5 q2];have q2:¬t2=0:=λz=>q2 (by simpa using z);have sx:SoA rk ((arrOf st).extract (sa+kk) (sa+na)):=SoR.ext (λi j x y a1 a2 a3=>s1 i j x y A0 a2 a3) A0;have sy:SoA rk ((arrOf st).extract (sa+na) (sa+na+t2)):=SoR.ext (λi j x y a1 a2 a3=>s2 i j x y A0 a2 A0) A0;have zx:((arrOf st).extract (sa+kk) (sa+na)).size=na-kk:=by rw[R7];lia
 have zy:((arrOf st).extract (sa+na) (sa+na+t2)).size=t2:=by rw[R7];lia
 have ax:∀{j:Nat}{x:Keyed},((arrOf st).extract (sa+kk) (sa+na))[j]?=some x->(arrOf st)[sa+kk+j]?=some x/\j<na-kk:=λ{j x} e=>by
  have:=(F7.mp e).1;rw[S5,Z6 A0]at e;exact⟨e,by lia⟩
 have ay:∀{j:Nat}{x:Keyed},((arrOf st).extract (sa+na) (sa+na+t2))[j]?=some x->(arrOf st)[sa+na+j]?=some x/\j<t2:=λ{j x} e=>by
  have:=(F7.mp e).1;rw[S5,Z6 A0]at e;exact⟨e,by lia⟩
 have fst:∀x y,((arrOf st).extract (sa+na) (sa+na+t2))[0]?=some x->((arrOf st).extract (sa+kk) (sa+na))[0]?=some y->rk x<=rk y:=λx y ex ey=>by
  have e:=(ay ex).1;rw[Nat.add_zero,ey0]at e;cases e;exact N5 (h2 _ y A0 A0 (ax ey).1)
 have lst:∀(i:Nat) x y,((arrOf st).extract (sa+na) (sa+na+t2))[i]?=some x->((arrOf st).extract (sa+kk) (sa+na))[((arrOf st).extract (sa+kk) (sa+na)).size-1]?=some y->rk x<=rk y:=λi x y ex ey=>by
  have e:=(ax ey).1;rw[zx,show sa+kk+(na-kk-1)=sa+kk+(na-kk)-1 by lia,exl]at e;cases e;exact N5 (h3 _ x A0 (by have:=(ay ex).2;lia) (ay ex).1)
 have fin:∀(m:Array Keyed)(st1:SortSt),Mgd rk ((arrOf st).extract (sa+kk) (sa+na)) ((arrOf st).extract (sa+na) (sa+na+t2)) m->DH (SortSt.mk' (kindOf st) (arrOf st) (((pendingOf st).setIfInBounds i (sa,na+nb,pw)).eraseIdxIfInBounds (i+1)) (gallopOf st) (failedOf st)) st1->wpS (model prog w) A E s (do modify λs=>setArr s (m.toList.zipIdx.foldl (λa (p:Keyed×Nat)=>a.setIfInBounds (sa+kk+p.2) p.1) (arrOf s));pure (failedOf (<-get)).isNone) Q st1:=λm st1 mg sy1=>by
  obtain⟨g,rfl⟩:=sy1;refine Z8 (A1f (Z8 (A6e (X0 ?_))));show Q (failedOf st).isNone _;rw[hf];have ms:m.size=na-kk+t2:=by
   have:=mg.pm.length_eq;rw[B5,C3,C3,C3,zx,zy]at this;exact this
  refine k _ hk rfl rfl (VI (t:=sa+kk) (mid:=sa+na) (u:=sa+na+t2) A0 A0 A0 A0 A0 s1 s2 low high mg (TL (show sa+kk+m.size<=(arrOf st).size by lia)))
 by_cases q3:na-kk<=t2
 ·rw[Z6 q3];exact Z8 (Rr hl hk (show 1<=((arrOf st).extract (sa+kk) (sa+na)).size by rw[zx];lia) (show 1<=((arrOf st).extract (sa+na) (sa+na+t2)).size by rw[zy];lia) (λi x e=>Sall _ x (ax e).1) (λi x e=>Sall _ x (ay e).1) sx sy fst lst fin)
 ·rw[Z5 q3];exact Z8 (Rs hl hk (show 1<=((arrOf st).extract (sa+kk) (sa+na)).size by rw[zx];lia) (show 1<=((arrOf st).extract (sa+na) (sa+na+t2)).size by rw[zy];lia) (λi x e=>Sall _ x (ax e).1) (λi x e=>Sall _ x (ay e).1) sx sy fst lst fin)
end
end PyProof.Rows
namespace PyProof.Rows
open PySem
structure Rea(arr arr':Array Keyed)(lo hi:Nat):Prop where
 pm:arr'.toList.Perm arr.toList
 out:∀i:Nat,i<lo\/hi<=i->arr'[i]?=arr[i]?
section
variable{prog:Program}{w:World}{A:Around}{E:Value->Shared->Prop}{s:Shared}{rk:Keyed->Nat}{S:Keyed->Prop}{κ:SortKind}
theorem Rea.refl(arr:Array Keyed)(lo hi:Nat):Rea arr arr lo hi:=⟨A5d _,λ_ _=>rfl⟩
theorem Rea.size{arr arr':Array Keyed}{lo hi:Nat}(h:Rea arr arr' lo hi):arr'.size=arr.size:=by
 have:=h.pm.length_eq;rw[C3,C3]at this;exact this
theorem Rea.all{arr arr':Array Keyed}{lo hi:Nat}(h:Rea arr arr' lo hi)(Sa:∀(i:Nat) x,arr[i]?=some x->S x)(i:Nat)(x:Keyed)(e:arr'[i]?=some x):S x:=by
 rw[<-F3]at e;obtain⟨j,hj⟩:=T7 (h.pm.mem_iff.mp (M3 e));rw[F3]at hj;exact Sa j x hj
theorem Rea.trans{a b c:Array Keyed}{lo hi:Nat}(h:Rea a b lo hi)(h2:Rea b c lo hi):Rea a c lo hi:=⟨h2.pm.trans h.pm,λi hi=>(h2.out i hi).trans (h.out i hi)⟩
theorem ins_ok{arr:Array Keyed}{lo k l hi:Nat}{key:Keyed}(hk:lo+k<hi)(hz:hi<=arr.size)(lk:l<=k)(ek:arr[lo+k]?=some key)(so:SoR rk arr lo (lo+k))(h1:∀(i:Nat) x,lo<=i->i<lo+l->arr[i]?=some x->rk x<=rk key)(h2:∀(i:Nat) x,lo+l<=i->i<lo+k->arr[i]?=some x->rk key<=rk x):Rea arr (bubble arr (lo+k) (lo+k-(lo+l))) lo hi/\SoR rk (bubble arr (lo+k) (lo+k-(lo+l))) lo (lo+k+1):=by
 have g:=getElem?_bubble (xs:=arr) (src:=lo+k) A6 (lo+k-(lo+l)) A6;rw[show lo+k-(lo+k-(lo+l))=lo+l by omega]at g;refine⟨⟨V0.mp (bubble_perm _ _ _),λi hi'=>?_⟩,λi j x y li ij jh ex ey=>?_⟩
 ·rw[g,Z5 A6,Z5 A6]
 ·rw[g]at ex ey;by_cases ci:i=lo+l
  ·rw[Z6 ci,ek]at ex;cases ex;by_cases cj:j=lo+l
   ·rw[Z6 cj,ek]at ey;cases ey;exact B1 _
   ·rw[Z5 cj,Z6 A6]at ey;exact h2 (j-1) y A6 A6 ey
  ·rw[Z5 ci]at ex;by_cases di:lo+l<i/\i<=lo+k
   ·rw[Z6 di]at ex;rw[Z5 A6,Z6 A6]at ey;exact so (i-1) (j-1) x y A6 A6 A6 ex ey
   ·rw[Z5 di]at ex;by_cases cj:j=lo+l
    ·rw[Z6 cj,ek]at ey;cases ey;exact h1 i x li A6 ex
    ·rw[Z5 cj]at ey;by_cases dj:lo+l<j/\j<=lo+k
     ·rw[Z6 dj]at ey;exact so i (j-1) x y li A6 A6 ex ey
     ·rw[Z5 dj]at ey;exact so i j x y li ij A6 ex ey
end
end PyProof.Rows
namespace PyProof.Rows
open PySem
section
variable{prog:Program}{w:World}{A:Around}{E:Value->Shared->Prop}{s:Shared}{rk:Keyed->Nat}{S:Keyed->Prop}{κ:SortKind}
theorem IG{st:SortSt}{i j:Nat}{x y:Keyed}{Q:Option Bool->SortSt->Prop}(hl:MX prog w A E s rk S κ)(hk:kindOf st=κ)(ex:(arrOf st)[i]?=some x)(ey:(arrOf st)[j]?=some y)(Sx:S x)(Sy:S y)(h:Q (some (decide (rk x<rk y))) st):wpS (model prog w) A E s (ltAt' i j) Q st:=by
 rw[ltAt'_eq];exact Z8 (A6e (Z8 (CL ex (Z8 (CL ey (hl _ _ _ _ Sx Sy hk h))))))
theorem move_ok{st:SortSt}{src dst:Nat}{Q:Unit->SortSt->Prop}(h:Q () (setArr st (bubble (arrOf st) src (src-dst)))):wpS (model prog w) A E s (moveDown' src dst) Q st:=by
 rw[moveDown'_eq];exact A1f h
theorem Nv{st:SortSt}{Q:Bool->SortSt->Prop}{lo n ok:Nat}(hl:MX prog w A E s rk S κ)(hk:kindOf st=κ)(hz:lo+n<=(arrOf st).size)(hok:ok<=n)(Sall:∀(i:Nat) x,(arrOf st)[i]?=some x->S x)(so:SoR rk (arrOf st) lo (lo+ok))(k:∀arr',Rea (arrOf st) arr' lo (lo+n)->SoR rk arr' lo (lo+n)->Q true (setArr st arr')):wpS (model prog w) A E s (binarySort' lo n ok) Q st:=by
 refine Z8 (A0h (K8 (I:=λx c st'=>c=(none,())/\∃arr',st'=setArr st arr'/\Rea (arrOf st) arr' lo (lo+n)/\SoR rk arr' lo (lo+x)) (Q:=λc st'=>c=(none,())/\∃arr',st'=setArr st arr'/\Rea (arrOf st) arr' lo (lo+n)/\SoR rk arr' lo (lo+n)) ?_ ?_ ⟨rfl,arrOf st,rfl,Rea.refl _ _ _,?_⟩) ?_)
 ·rintro x c st' hx1 hx ⟨rfl,arr',rfl,re,so'⟩;have sz:=re.size;obtain⟨key,ek⟩:∃key,arr'[lo+x]?=some key:=⟨_,B4 A0⟩
  refine Z8 (A0h (K8 (I:=λy r st''=>st''=setArr st arr'/\∃l h,r=(none,l,h)/\l<=h/\h-l<=x-y/\h<=x/\(∀(i:Nat) z,lo<=i->i<lo+l->arr'[i]?=some z->rk z<=rk key)/\(∀(i:Nat) z,lo+h<=i->i<lo+x->arr'[i]?=some z->rk key<=rk z)) (Q:=λr st''=>st''=setArr st arr'/\∃l h,r=(none,l,h)/\l<=x/\(∀(i:Nat) z,lo<=i->i<lo+l->arr'[i]?=some z->rk z<=rk key)/\(∀(i:Nat) z,lo+l<=i->i<lo+x->arr'[i]?=some z->rk key<=rk z)) ?_ ?_ ⟨rfl,0,x,rfl,by lia,by lia,by lia,λi z h1 h2=>absurd h2 A0,λi z h1 h2=>absurd h2 A0⟩) ?_)
  ·rintro y r st'' _ hy ⟨rfl,l,h,rfl,lh,me,hh,i1,i2⟩;dsimp only;by_cases z:l ≥ h
   ·rw[Z6 z];exact X0 ⟨rfl,l,h,rfl,by lia,i1,λi z' a b=>i2 i z' A0 b⟩
   rw[Z5 z];obtain⟨v,ev⟩:∃v,arr'[lo+(l+h)/2]?=some v:=⟨_,B4 A0⟩
   refine Z8 (IG hl hk ek ev (re.all Sall _ _ ek) (re.all Sall _ _ ev) ?_);dsimp only;by_cases lt:rk key<rk v
   ·rw[Z3 lt,Z6 rfl];exact X0 ⟨rfl,l,(l+h)/2,rfl,by lia,by lia,by lia,i1,λi z' a b e=>by
     have:=so' _ i _ _ A0 a A0 ev e;lia⟩
   ·rw[Z4 lt,Z5 A5];exact X0 ⟨rfl,(l+h)/2+1,h,rfl,by lia,by lia,hh,λi z' a b e=>by
     have:=so' i (lo+(l+h)/2) _ _ a A0 A0 e ev;lia,i2⟩
  ·rintro r st'' ⟨rfl,l,h,rfl,lh,me,hh,i1,i2⟩;exact⟨rfl,l,h,rfl,by lia,i1,λi z' a b=>i2 i z' A0 b⟩
  ·rintro r st'' ⟨rfl,l,h,rfl,lx,i1,i2⟩;dsimp only;have fin:=ins_ok (hi:=lo+n) A0 A0 lx ek so' i1 i2;exact Z8 (move_ok (X0 ⟨rfl,_,rfl,re.trans fin.1,fin.2⟩))
 ·rintro c st' ⟨rfl,arr',rfl,re,so'⟩;exact⟨rfl,arr',rfl,re,λi j x y a b d=>so' i j x y a b A0⟩
 ·intro i j x y a b d ex ey;by_cases z:j<lo+ok
  ·exact so i j x y a b z ex ey
  ·have:i=j:=by lia
   subst this;rw[ex]at ey;cases ey;exact B1 _
 ·rintro c st' ⟨rfl,arr',rfl,re,so'⟩;exact X0 (k arr' re so')
end
end PyProof.Rows
namespace PyProof.Rows
open PySem
def DeR(rk:Keyed->Nat)(arr:Array Keyed)(lo hi:Nat):Prop:=∀(i j:Nat)(x y:Keyed),lo<=i->i<=j->j<hi->arr[i]?=some x->arr[j]?=some y->rk y<=rk x
def EqR(rk:Keyed->Nat)(arr:Array Keyed)(lo hi:Nat):Prop:=∀(i j:Nat)(x y:Keyed),lo<=i->i<hi->lo<=j->j<hi->arr[i]?=some x->arr[j]?=some y->rk x=rk y
def Kr(rk:Keyed->Nat)(arr arr':Array Keyed):Prop:=∀(k:Nat)(x':Keyed),arr'[k]?=some x'->∃x,arr[k]?=some x/\rk x'=rk x
section
variable{prog:Program}{w:World}{A:Around}{E:Value->Shared->Prop}{s:Shared}{rk:Keyed->Nat}{S:Keyed->Prop}{κ:SortKind}
theorem SoR.one{arr:Array Keyed}{lo:Nat}:SoR rk arr lo (lo+1):=λi j x y a b c ex ey=>by
 have:i=j:=by lia
 subst this;rw[ex]at ey;cases ey;exact B1 _
theorem EqR.one{arr:Array Keyed}{lo:Nat}:EqR rk arr (lo+1-(0+1)) (lo+1):=λi j x y a b c d ex ey=>by
 have:i=j:=by lia
 subst this;rw[ex]at ey;cases ey;rfl
theorem SoR.snoc{arr:Array Keyed}{lo hi:Nat}{x y:Keyed}(h:SoR rk arr lo hi)(l:lo<hi)(ex:arr[hi]?=some x)(ey:arr[hi-1]?=some y)(le:rk y<=rk x):SoR rk arr lo (hi+1):=λi j a b li ij jh ea eb=>by
 by_cases z:j<hi
 ·exact h i j a b li ij z ea eb
 ·have:j=hi:=by lia
  subst this;rw[ex]at eb;cases eb;by_cases q:i=j
  ·subst q;rw[ex]at ea;cases ea;exact B1 _
  ·exact C8 (h i (j-1) a y li A0 A0 ea ey) le
theorem DeR.snoc{arr:Array Keyed}{lo hi:Nat}{x y:Keyed}(h:DeR rk arr lo hi)(l:lo<hi)(ex:arr[hi]?=some x)(ey:arr[hi-1]?=some y)(le:rk x<=rk y):DeR rk arr lo (hi+1):=λi j a b li ij jh ea eb=>by
 by_cases z:j<hi
 ·exact h i j a b li ij z ea eb
 ·have:j=hi:=by lia
  subst this;rw[ex]at eb;cases eb;by_cases q:i=j
  ·subst q;rw[ex]at ea;cases ea;exact B1 _
  ·exact C8 le (h i (j-1) a y li A0 A0 ea ey)
theorem EqR.snoc{arr:Array Keyed}{lo hi:Nat}{x y:Keyed}(h:EqR rk arr lo hi)(l:lo<hi)(ex:arr[hi]?=some x)(ey:arr[hi-1]?=some y)(le:rk x=rk y):EqR rk arr lo (hi+1):=by
 have key:∀(i:Nat) a,lo<=i->i<hi+1->arr[i]?=some a->rk a=rk y:=λi a li ih ea=>by
  by_cases z:i<hi
  ·exact h i (hi-1) a y li z A0 A0 ea ey
  ·have:i=hi:=by lia
   subst this;rw[ex]at ea;cases ea;exact le
 exact λi j a b li ih lj jh ea eb=>(key i a li ih ea).trans (key j b lj jh eb).symm
theorem DeR.kr{arr arr':Array Keyed}{lo hi:Nat}(h:DeR rk arr lo hi)(k:Kr rk arr arr'):DeR rk arr' lo hi:=λi j a b li ij jh ea eb=>by
 obtain⟨a',e1,q1⟩:=k i a ea;obtain⟨b',e2,q2⟩:=k j b eb;rw[q1,q2];exact h i j a' b' li ij jh e1 e2
theorem EqR.mir{arr:Array Keyed}{lo hi:Nat}(h:EqR rk arr lo hi)(hz:hi<=arr.size):Kr rk arr (mirror arr lo hi ((hi-lo)/2)):=λk x' e=>by
 have g:=getElem?_mirror_all (xs:=arr) (i:=lo) hz k;rw[g]at e;split at e
 ·rename_i q;obtain⟨x,ex⟩:∃x,arr[k]?=some x:=⟨_,B4 A0⟩
  exact⟨x,ex,h _ _ _ _ A0 A0 q.1 q.2 e ex⟩
 ·exact⟨x',e,rfl⟩
theorem LV{arr:Array Keyed}{i j lo hi:Nat}(li:lo<=i)(jh:j<=hi)(hz:hi<=arr.size):Rea arr (mirror arr i j ((j-i)/2)) lo hi:=⟨V0.mp (mirror_perm _ _ _ _),λk hk=>by
 rw[getElem?_mirror_all A0];by_cases q:i<=k/\k<j
 ·lia
 ·rw[Z5 q]⟩
theorem DeR.mir{arr:Array Keyed}{lo hi:Nat}(h:DeR rk arr lo hi)(hz:hi<=arr.size):SoR rk (mirror arr lo hi ((hi-lo)/2)) lo hi:=λi j a b li ij jh ea eb=>by
 rw[getElem?_mirror_all hz,Z6 A0]at ea eb;exact h _ _ b a A0 A0 A0 eb ea
theorem OF{st:SortSt}{i j:Nat}{Q:Unit->SortSt->Prop}(h:Q () (setArr st (mirror (arrOf st) i j ((j-i)/2)))):wpS (model prog w) A E s (reverseSlice' i j) Q st:=by
 rw[reverseSlice'_eq];exact A1f h
theorem QA{st:SortSt}{Q:Option Nat->SortSt->Prop}{lo nrem:Nat}(hl:MX prog w A E s rk S κ)(hk:kindOf st=κ)(hz:lo+nrem<=(arrOf st).size)(h1:1<=nrem)(Sall:∀(i:Nat) x,(arrOf st)[i]?=some x->S x)
  (k:∀arr' m,Rea (arrOf st) arr' lo (lo+nrem)->1<=m->m<=nrem->SoR rk arr' lo (lo+m)->Q (some m) (setArr st arr')):wpS (model prog w) A E s (countRun' lo nrem) Q st:=by
 refine Z8 (A0h (K8 (I:=λx c st'=>st'=setArr st (arrOf st)/\c=(none,x)/\SoR rk (arrOf st) lo (lo+x)) (Q:=λc st'=>st'=setArr st (arrOf st)/\∃n,c=(none,n)/\1<=n/\n<=nrem/\SoR rk (arrOf st) lo (lo+n)/\(n=nrem\/∀x y,(arrOf st)[lo+n]?=some x->(arrOf st)[lo+n-1]?=some y->rk x<rk y)) ?_ ?_ ⟨rfl,rfl,?_⟩) ?_)
 ·rintro x c st' hx1 hx ⟨rfl,rfl,so⟩;obtain⟨a,ea⟩:∃a,(arrOf st)[lo+x]?=some a:=⟨_,B4 A0⟩
  obtain⟨b,eb⟩:∃b,(arrOf st)[lo+x-1]?=some b:=⟨_,B4 A0⟩
  refine Z8 (IG hl hk ea eb (Sall _ _ ea) (Sall _ _ eb) (wpI (λlt=>X0 ⟨rfl,x,rfl,by lia,by lia,so,.inr λp q ep eq=>by rw[ea]at ep;rw[eb]at eq;cases ep;cases eq;exact K6 lt⟩) λlt=>?_));have lt:=λz=>lt (Z3 z);exact X0 ⟨rfl,rfl,so.snoc A0 ea eb A0⟩
 ·rintro c st' ⟨rfl,rfl,so⟩;rw[Nat.max_eq_right A0]at so⊢;exact⟨rfl,nrem,rfl,h1,B1 _,so,.inl rfl⟩
 ·exact SoR.one
 ·rintro c st' ⟨rfl,n,rfl,n1,n2,so,fall⟩;refine wpE (λq1=>X0 (k (arrOf st) n (Rea.refl _ _ _) n1 n2 so)) λq1=>?_;have fall:=fall.resolve_left q1;obtain⟨a,ea⟩:∃a,(arrOf st)[lo+n]?=some a:=⟨_,B4 A0⟩
  obtain⟨b,eb⟩:∃b,(arrOf st)[lo+n-1]?=some b:=⟨_,B4 A0⟩
  have flt:=fall a b ea eb;dsimp -zeta only
  extract_lets n_ q_ jp
  refine wpC (λQ _=>∀ar,Rea (arrOf st) ar lo (lo+nrem)->DeR rk ar lo (lo+n+1)->wpS (model prog w) A E s (jp ()) Q (setArr st ar)) (λar re0 de0=>?_) λhj=>?_
  ·refine Z8 (wpS_lift (A1g ⟨rfl,?_⟩));refine Z8 (A0h (K8 (I:=λx c st'=>∃arr' neq,st'=setArr st arr'/\c=(none,x,neq)/\Rea (arrOf st) arr' lo (lo+nrem)/\neq+1<=x/\DeR rk arr' lo (lo+x)/\EqR rk arr' (lo+x-(neq+1)) (lo+x)) (Q:=λc st'=>∃arr' n neq,st'=setArr st arr'/\c=(none,n,neq)/\Rea (arrOf st) arr' lo (lo+nrem)/\1<=n/\n<=nrem/\neq+1<=n/\DeR rk arr' lo (lo+n)/\EqR rk arr' (lo+n-(neq+1)) (lo+n)) ?_ ?_ ⟨ar,0,rfl,rfl,re0,by lia,de0,EqR.one (lo:=lo+n)⟩) ?_)
   ·rintro x c st' hx1 hx ⟨arr',neq,rfl,rfl,re',nq,de',eq'⟩;have hzz:lo+nrem<=arr'.size:=by rw[Rea.size re'];exact hz
    obtain⟨a,ea⟩:∃a,arr'[lo+x]?=some a:=⟨_,B4 A0⟩
    obtain⟨b,eb⟩:∃b,arr'[lo+x-1]?=some b:=⟨_,B4 A0⟩
    refine Z8 (IG hl hk ea eb (Rea.all re' Sall _ _ ea) (Rea.all re' Sall _ _ eb) (wpI (λlt=>?_) λlt=>?_))
    ·have dn:DeR rk arr' lo (lo+x+1):=de'.snoc A0 ea eb (N5 (K6 lt));exact wpI (λq=>Z8 (OF (X0 ⟨_,0,rfl,rfl,Rea.trans re' (LV A0 A0 hzz),by lia,dn.kr (eq'.mir A0),EqR.one (lo:=lo+x)⟩))) λq=>X0 ⟨arr',0,rfl,rfl,re',by lia,dn,EqR.one (lo:=lo+x)⟩
    ·have lt:=λz=>lt (Z3 z);refine Z8 (IG hl hk eb ea (Rea.all re' Sall _ _ eb) (Rea.all re' Sall _ _ ea) (wpI (λgt=>X0 ⟨arr',x,neq,rfl,rfl,re',by lia,by lia,nq,de',eq'⟩) λgt=>?_));have gt:=λz=>gt (Z3 z);refine X0 ⟨arr',neq+1,rfl,rfl,re',by lia,de'.snoc A0 ea eb A0,?_⟩;have:=eq'.snoc A0 ea eb A0;rw[show lo+(x+1)-(neq+1+1)=lo+x-(neq+1) by lia];exact this
   ·rintro c st' ⟨arr',neq,rfl,rfl,re',nq,de',eq'⟩;rw[Nat.max_eq_right (by show n+1<=nrem;lia)]at nq de' eq'⊢;exact⟨arr',nrem,neq,rfl,rfl,re',h1,B1 _,nq,de',eq'⟩
   ·rintro c st' ⟨arr',n',neq,rfl,rfl,re',n1,n2,nq,de',eq'⟩;have hzz:lo+nrem<=arr'.size:=by rw[Rea.size re'];exact hz
    dsimp -zeta only
    extract_lets r_ s_ n_ q_ jp2
    refine wpC (λQ _=>∀ar,Rea (arrOf st) ar lo (lo+nrem)->DeR rk ar lo (lo+n')->wpS (model prog w) A E s (jp2 ()) Q (setArr st ar)) (λar reM deM=>?_) λhj2=>?_
    ·have reT:Rea (arrOf st) (mirror ar lo (lo+n') ((lo+n'-lo)/2)) lo (lo+nrem):=Rea.trans reM (LV (B1 _) A0 (by rw[Rea.size reM];exact hz));have so0:=DeR.mir deM (by rw[Rea.size reM];lia);refine Z8 (OF ?_);show wpS _ _ _ _ _ _ (setArr st (mirror ar lo (lo+n') ((lo+n'-lo)/2)));generalize mirror ar lo (lo+n') ((lo+n'-lo)/2)=arM at reT so0;refine Z8 (A0h (K8 (I:=λx c st'=>st'=setArr st arM/\c=(none,x)/\SoR rk arM lo (lo+x)) (Q:=λc st'=>st'=setArr st arM/\∃n,c=(none,n)/\1<=n/\n<=nrem/\SoR rk arM lo (lo+n)) ?_ ?_ ⟨rfl,rfl,so0⟩) ?_)
     ·rintro x c st' hx1 hx ⟨rfl,rfl,so⟩;have hzz:lo+nrem<=arM.size:=by rw[Rea.size reT];exact hz
      obtain⟨a,ea⟩:∃a,arM[lo+x]?=some a:=⟨_,B4 A0⟩
      obtain⟨b,eb⟩:∃b,arM[lo+x-1]?=some b:=⟨_,B4 A0⟩
      refine Z8 (IG hl hk ea eb (Rea.all reT Sall _ _ ea) (Rea.all reT Sall _ _ eb) (wpI (λlt=>X0 ⟨rfl,x,rfl,by lia,by lia,so⟩) λlt=>?_));have lt:=λz=>lt (Z3 z);exact X0 ⟨rfl,rfl,so.snoc A0 ea eb A0⟩
     ·rintro c st' ⟨rfl,rfl,so⟩;rw[Nat.max_eq_right n2]at so⊢;exact⟨rfl,nrem,rfl,h1,B1 _,so⟩
     ·rintro c st' ⟨rfl,m,rfl,m1,m2,so⟩;exact X0 (k _ m reT m1 m2 so)
    ·clear_value jp2
     exact wpI (λq=>Z8 (OF (hj2 (mirror arr' (lo+n'-(neq+1)) (lo+n') ((lo+n'-(lo+n'-(neq+1)))/2)) (Rea.trans re' (LV A0 A0 hzz)) (de'.kr (eq'.mir A0))))) λq=>hj2 arr' re' de'
  ·clear_value jp
   refine wpI (λq2=>?_) λq2=>?_
   ·obtain⟨z,ez⟩:∃z,(arrOf st)[lo]?=some z:=⟨_,B4 A0⟩
    refine Z8 (IG hl hk ez eb (Sall _ _ ez) (Sall _ _ eb) (wpI (λ_=>X0 (k (arrOf st) n (Rea.refl _ _ _) n1 n2 so)) λrose=>?_));have rose:=λz=>rose (Z3 z);have eqa:EqR rk (arrOf st) lo (lo+n):=by
     have key:∀(i:Nat) x,lo<=i->i<lo+n->(arrOf st)[i]?=some x->rk x=rk b:=λi x li ih ex=>by
      have:=so lo i z x (B1 _) li ih ez ex;have:=so i (lo+n-1) x b li A0 A0 ex eb;lia
     exact λi j x y li ih lj jh ex ey=>(key i x li ih ex).trans (key j y lj jh ey).symm
    exact Z8 (OF (hj _ (LV (B1 _) A0 hz) (DeR.kr (DeR.snoc (λi j x y li ij jh ex ey=>W2 (eqa j i y x A0 jh li A0 ey ex)) A0 ea eb (N5 flt)) (eqa.mir A0))))
   ·refine hj (arrOf st) (Rea.refl _ _ _) (DeR.snoc (λi j x y li ij jh ex ey=>?_) A0 ea eb (N5 flt));have:i=j:=by lia
    subst this;rw[ex]at ey;cases ey;exact B1 _
end
end PyProof.Rows
namespace PyProof.Rows
open PySem
def CK(rk:Keyed->Nat)(arr:Array Keyed):List (Nat×Nat×Nat)->Nat->Nat->Prop
 |[],a,b=>a=b
 |r::l,a,b=>r.1=a/\1<=r.2.1/\SoR rk arr a (a+r.2.1)/\CK rk arr l (a+r.2.1) b
section
variable{prog:Program}{w:World}{A:Around}{E:Value->Shared->Prop}{s:Shared}{rk:Keyed->Nat}{S:Keyed->Prop}{κ:SortKind}
theorem CK.le{arr:Array Keyed}:∀{l:List (Nat×Nat×Nat)}{a b:Nat},CK rk arr l a b->a+l.length<=b
 |[],a,b,h=>W2 h
 |r::l,a,b,h=>by
  have:=CK.le h.2.2.2;have:=h.2.1;rw[C4];lia
theorem CK.app{arr:Array Keyed}:∀{l l2:List (Nat×Nat×Nat)}{a b c:Nat},CK rk arr l a b->CK rk arr l2 b c->CK rk arr (l++l2) a c
 |[],l2,a,b,c,h,h2=>by
  cases(show a=b from h);exact h2
 |r::l,l2,a,b,c,h,h2=>⟨h.1,h.2.1,h.2.2.1,CK.app h.2.2.2 h2⟩
theorem CK.cut{arr:Array Keyed}:∀{l l2:List (Nat×Nat×Nat)}{a c:Nat},CK rk arr (l++l2) a c->∃b,CK rk arr l a b/\CK rk arr l2 b c
 |[],l2,a,c,h=>⟨a,rfl,h⟩
 |r::l,l2,a,c,h=>by
  obtain⟨b,h1,h2⟩:=CK.cut h.2.2.2;exact⟨b,⟨h.1,h.2.1,h.2.2.1,h1⟩,h2⟩
theorem CK.out{arr arr':Array Keyed}:∀{l:List (Nat×Nat×Nat)}{a b:Nat},CK rk arr l a b->(∀i:Nat,a<=i->i<b->arr'[i]?=arr[i]?)->CK rk arr' l a b
 |[],a,b,h,k=>h
 |r::l,a,b,h,k=>by
  have:=CK.le h.2.2.2;refine⟨h.1,h.2.1,λi j x y li ij jh ex ey=>?_,CK.out h.2.2.2 λi p q=>k i A0 q⟩;rw[k _ A0 A0]at ex ey;exact h.2.2.1 i j x y li ij jh ex ey
theorem CK.last{arr:Array Keyed}{f:Nat×Nat×Nat->Nat×Nat×Nat}(hf:∀r,(f r).1=r.1/\(f r).2.1=r.2.1):∀{l:List (Nat×Nat×Nat)}{a b k:Nat},CK rk arr l a b->CK rk arr (l.modify k f) a b
 |[],a,b,k,h=>by
  rw[List.modify_nil];exact h
 |r::l,a,b,0,h=>by
  rw[List.modify_zero_cons];refine⟨(hf r).1.trans h.1,?_,?_,?_⟩
  ·rw[(hf r).2];exact h.2.1
  ·rw[(hf r).2];exact h.2.2.1
  ·rw[(hf r).2];exact h.2.2.2
 |r::l,a,b,k+1,h=>by
  rw[List.modify_succ_cons];exact⟨h.1,h.2.1,h.2.2.1,CK.last hf h.2.2.2⟩
theorem Me{α:Type}{l:List α}{i:Nat}{x y:α}(e1:l[i]?=some x)(e2:l[i+1]?=some y):∃l1 l2,l=l1++x::y::l2/\l1.length=i:=by
 have h1:=(B8.mp e1).1;have h2:=(B8.mp e2).1;refine⟨l.take i,l.drop (i+2),?_,by rw[N6];lia⟩;have d1:l.drop i=x::l.drop (i+1):=by
  rw[P5 h1,(B8.mp e1).2]
 have d2:l.drop (i+1)=y::l.drop (i+2):=by
  rw[P5 h2,(B8.mp e2).2]
 rw[<-d2,<-d1,N2]
theorem Vh{p:Array (Nat×Nat×Nat)}{i:Nat}{x y z:Nat×Nat×Nat}{l1 l2:List (Nat×Nat×Nat)}(e:p.toList=l1++x::y::l2)(li:l1.length=i):((p.setIfInBounds i z).eraseIdxIfInBounds (i+1)).toList=l1++z::l2:=by
 subst li;have e1:(p.setIfInBounds l1.length z).toList=l1++z::y::l2:=by
  rw[Array.toList_setIfInBounds,e,List.set_append_right _ _ (B1 _),Nat.sub_self];rfl
 have sz:(p.setIfInBounds l1.length z).size=l1.length+2+l2.length:=by
  rw[<-C3,e1,B5,C4,C4];lia
 unfold Array.eraseIdxIfInBounds;rw[dif_pos A0,Array.toList_eraseIdx,e1,List.eraseIdx_append_of_length_le A0,V6];rfl
structure Srn(rk:Keyed->Nat)(κ:SortKind)(a0:Array Keyed)(lo:Nat)(st:SortSt):Prop where
 kind:kindOf st=κ
 fail:failedOf st=none
 pm:(arrOf st).toList.Perm a0.toList
 runs:CK rk (arrOf st) (pendingOf st).toList 0 lo
theorem Srn.size{a0:Array Keyed}{lo:Nat}{st:SortSt}(h:Srn rk κ a0 lo st):(arrOf st).size=a0.size:=by
 have:=h.pm.length_eq;rw[C3,C3]at this;exact this
theorem Srn.all{a0:Array Keyed}{lo:Nat}{st:SortSt}(h:Srn rk κ a0 lo st)(Sa:∀(i:Nat) x,a0[i]?=some x->S x)(i:Nat)(x:Keyed)(e:(arrOf st)[i]?=some x):S x:=by
 rw[<-F3]at e;obtain⟨j,hj⟩:=T7 (h.pm.mem_iff.mp (M3 e));rw[F3]at hj;exact Sa j x hj
theorem MD{st:SortSt}{Q:Bool->SortSt->Prop}{i lo:Nat}{a0:Array Keyed}(hl:MX prog w A E s rk S κ)(h:Srn rk κ a0 lo st)(Sa:∀(i:Nat) x,a0[i]?=some x->S x)(hi:i+1<(pendingOf st).size)(hlo:lo<=a0.size)
  (k:∀st',Srn rk κ a0 lo st'->(pendingOf st').size+1=(pendingOf st).size->(∀j:Nat,lo<=j->(arrOf st')[j]?=(arrOf st)[j]?)->Q true st'):wpS (model prog w) A E s (mergeAt' i) Q st:=by
 obtain⟨⟨sa,na,pa⟩,e1⟩:∃x,(pendingOf st)[i]?=some x:=⟨_,B4 A0⟩
 obtain⟨⟨sb,nb,pb⟩,e2⟩:∃x,(pendingOf st)[i+1]?=some x:=⟨_,B4 hi⟩
 obtain⟨l1,l2,el,li⟩:=Me (l:=(pendingOf st).toList) (by rw[F3];exact e1) (by rw[F3];exact e2);have rn:=h.runs;rw[el]at rn;obtain⟨c,r1,rn⟩:=rn.cut;obtain⟨q1,n1,s1,rn⟩:=rn;obtain⟨q2,n2,s2,rn⟩:=rn;dsimp only at q1 n1 s1 q2 n2 s2 rn;subst q1;have r1le:=r1.le;have rnle:=rn.le;have sz:=h.size;refine Rt hl h.kind h.fail e1 e2 q2 n1 n2 A0 (h.all Sa) (q2▸s1) (q2▸s2) λst' k1 k2 k3 mg=>?_;have pl:=Vh (z:=(sa,na+nb,pa)) el li;rw[<-k3]at pl;refine k st' ⟨k1,k2,mg.pm.trans h.pm,?_⟩ ?_ λj hj=>mg.out j (.inr A0)
 ·rw[pl];refine CK.app (CK.out r1 λj _ hj=>mg.out j (.inl hj)) ⟨rfl,by show 1<=na+nb;lia,?_,?_⟩
  ·have:=mg.so;rw[q2,S9]at this;exact this
  ·show CK rk (arrOf st') l2 (sa+(na+nb)) lo;rw[<-S9];exact CK.out rn λj hj _=>mg.out j (.inr A0)
 ·have a1:=X4 List.length pl;have a2:=X4 List.length el;rw[C3,B5,C4]at a1;rw[C3,B5,C4,C4]at a2;lia
end
end PyProof.Rows
namespace PyProof.Rows
open PySem
section
variable{prog:Program}{w:World}{A:Around}{E:Value->Shared->Prop}{s:Shared}{rk:Keyed->Nat}{S:Keyed->Prop}{κ:SortKind}
theorem Srn.push{a0:Array Keyed}{lo n pw:Nat}{st:SortSt}(h:Srn rk κ a0 lo st)(n1:1<=n)(so:SoR rk (arrOf st) lo (lo+n)):Srn rk κ a0 (lo+n) (setPending st ((pendingOf st).push (lo,n,pw))) :=
 ⟨h.kind,h.fail,h.pm,by
  show CK rk (arrOf st) ((pendingOf st).push (lo,n,pw)).toList 0 (lo+n);rw[L6];exact CK.app h.runs ⟨rfl,n1,so,rfl⟩⟩
theorem Srn.last{a0:Array Keyed}{lo k:Nat}{st:SortSt}{f:Nat×Nat×Nat->Nat×Nat×Nat}(hf:∀r,(f r).1=r.1/\(f r).2.1=r.2.1)(h:Srn rk κ a0 lo st):Srn rk κ a0 lo (setPending st ((pendingOf st).modify k f)) :=
 ⟨h.kind,h.fail,h.pm,by
  show CK rk (arrOf st) ((pendingOf st).modify k f).toList 0 lo;rw[Array.toList_modify];exact CK.last hf h.runs⟩
theorem PM{st:SortSt}{Q:Unit->SortSt->Prop}(hl:MX prog w A E s rk S κ)(hk:kindOf st=κ)(hf:failedOf st=none)(hp:pendingOf st=#[])(Sa:∀(i:Nat) x,(arrOf st)[i]?=some x->S x)
  (k:∀st',failedOf st'=none->(arrOf st').toList.Perm (arrOf st).toList->SoR rk (arrOf st') 0 (arrOf st).size->Q () st'):wpS (model prog w) A E s sortRuns' Q st:=by
 have h0:Srn rk κ (arrOf st) 0 st:=⟨hk,hf,A5d _,by rw[hp];rfl⟩
 generalize e0:arrOf st=a0 at h0 Sa k;rw[sortRuns'_eq];refine Z8 (A6e ?_);dsimp only;have esz:(arrOf st).size=a0.size:=by rw[e0]
 simp only[esz];generalize minRun' a0.size a0.size 0=mr;refine Z8 (A0h (K8 (I:=λx c st'=>∃lo,c=(none,lo)/\Srn rk κ a0 lo st'/\lo<=a0.size/\(x<=lo\/a0.size<=lo)) (Q:=λc st'=>c=(none,a0.size)/\Srn rk κ a0 a0.size st') ?step ?fin ⟨0,rfl,h0,by lia,by lia⟩) ?post)
 case fin =>
  rintro c st' ⟨lo,rfl,hS,l1,l2⟩;have:lo=a0.size:=by lia
  subst this;exact⟨rfl,hS⟩
 case step =>
  rintro x c st' _ hx ⟨lo,rfl,hS,l1,l2⟩;dsimp only;by_cases ge:lo ≥ a0.size
  ·rw[Z6 ge];have:lo=a0.size:=by lia
   subst this;exact X0 ⟨rfl,hS⟩
  rw[Z5 ge];have sz:=hS.size;have rest:∀(n:Nat)(st2:SortSt),Srn rk κ a0 lo st2->1<=n->lo+n<=a0.size->SoR rk (arrOf st2) lo (lo+n)->∃lo',((none,lo+n):Option Unit×Nat)=(none,lo')/\Srn rk κ a0 lo' (setPending st2 ((pendingOf st2).push (lo,n,0)))/\lo'<=a0.size/\(x+1<=lo'\/a0.size<=lo'):=λn st2 h2 n1 nl so=>⟨lo+n,rfl,h2.push n1 so,nl,by lia⟩
  refine Z8 (QA hl hS.kind (show lo+(a0.size-lo)<=(arrOf st').size by lia) A0 (hS.all Sa) λarr' m re m1 m2 so=>?_);dsimp only;have hS1:Srn rk κ a0 lo (setArr st' arr'):=⟨hS.kind,hS.fail,re.pm.trans hS.pm,CK.out hS.runs λi _ h=>re.out i (.inl h)⟩
  by_cases few:m<mr
  ·rw[Z6 few];refine Z8 (wpS_lift (A1g ⟨rfl,?_⟩));refine Z8 (Nv hl hS1.kind (show lo+min (a0.size-lo) mr<=(arrOf (setArr st' arr')).size by rw[hS1.size];lia) A0 (hS1.all Sa) so λarr2 re2 so2=>?_);have hS2:Srn rk κ a0 lo (setArr st' arr2):=⟨hS.kind,hS.fail,re2.pm.trans hS1.pm,CK.out hS1.runs λi _ h=>re2.out i (.inl h)⟩
   generalize hn:min (a0.size-lo) mr=n at so2⊢;have n1:1<=n:=by lia
   have nl:lo+n<=a0.size:=by lia
   simp only[O2,F8,A1b];have so2:SoR rk (arrOf (setArr st' arr2)) lo (lo+n):=so2;generalize setArr st' arr2=st2 at hS2 so2⊢;refine Z8 (A6e ?_);cases hb:(pendingOf st2).back? with
   |none =>
    dsimp only;exact Z8 (A1f (X0 (rest n st2 hS2 n1 nl so2)))
   |some r =>
    obtain⟨s1,n1',p1⟩:=r;dsimp only;refine Z8 (A0h (K8 (I:=λ_ c st3=>c=(none,())/\Srn rk κ a0 lo st3/\SoR rk (arrOf st3) lo (lo+n)) (Q:=λc st3=>c=(none,())/\Srn rk κ a0 lo st3/\SoR rk (arrOf st3) lo (lo+n)) ?_ (λc st3 h=>h) ⟨rfl,hS2,so2⟩) ?_)
    ·rintro y c st3 _ _ ⟨rfl,h3,so3⟩;refine Z8 (A6e ?_);by_cases g:(pendingOf st3).size > 1
     ·rw[Z6 g];obtain⟨⟨sx,nx,older⟩,e⟩:∃x,(pendingOf st3)[(pendingOf st3).size-2]?=some x:=⟨_,B4 A0⟩
      rw[e];dsimp only;split
      ·exact X0 ⟨rfl,h3,so3⟩
      ·refine Z8 (MD hl h3 Sa A0 l1 λst4 h4 _ keep=>?_);simp only[O2,F8,A1b];refine X0 ⟨rfl,h4,λi j x y li ij jh ex ey=>?_⟩;rw[keep _ A0]at ex ey;exact so3 i j x y li ij jh ex ey
     ·rw[Z5 g];exact X0 ⟨rfl,h3,so3⟩
    ·rintro c st3 ⟨rfl,h3,so3⟩;dsimp only;exact Z8 (A1f (Z8 (A1f (X0 (rest n _ (Srn.last (λr=>⟨rfl,rfl⟩) h3) n1 nl so3)))))
  ·rw[Z5 few];have so2:SoR rk (arrOf (setArr st' arr')) lo (lo+m):=so;have hS2:=hS1;generalize setArr st' arr'=st2 at hS2 so2⊢;have n1:1<=m:=m1;have nl:lo+m<=a0.size:=by lia
   generalize m=n at so2 n1 nl⊢;refine Z8 (A6e ?_);cases hb:(pendingOf st2).back? with
   |none =>
    dsimp only;exact Z8 (A1f (X0 (rest n st2 hS2 n1 nl so2)))
   |some r =>
    obtain⟨s1,n1',p1⟩:=r;dsimp only;refine Z8 (A0h (K8 (I:=λ_ c st3=>c=(none,())/\Srn rk κ a0 lo st3/\SoR rk (arrOf st3) lo (lo+n)) (Q:=λc st3=>c=(none,())/\Srn rk κ a0 lo st3/\SoR rk (arrOf st3) lo (lo+n)) ?_ (λc st3 h=>h) ⟨rfl,hS2,so2⟩) ?_)
    ·rintro y c st3 _ _ ⟨rfl,h3,so3⟩;refine Z8 (A6e ?_);by_cases g:(pendingOf st3).size > 1
     ·rw[Z6 g];obtain⟨⟨sx,nx,older⟩,e⟩:∃x,(pendingOf st3)[(pendingOf st3).size-2]?=some x:=⟨_,B4 A0⟩
      rw[e];dsimp only;split
      ·exact X0 ⟨rfl,h3,so3⟩
      ·refine Z8 (MD hl h3 Sa A0 l1 λst4 h4 _ keep=>?_);simp only[O2,F8,A1b];refine X0 ⟨rfl,h4,λi j x y li ij jh ex ey=>?_⟩;rw[keep _ A0]at ex ey;exact so3 i j x y li ij jh ex ey
     ·rw[Z5 g];exact X0 ⟨rfl,h3,so3⟩
    ·rintro c st3 ⟨rfl,h3,so3⟩;dsimp only;exact Z8 (A1f (Z8 (A1f (X0 (rest n _ (Srn.last (λr=>⟨rfl,rfl⟩) h3) n1 nl so3)))))
 case post =>
  rintro c st' ⟨rfl,hS⟩;dsimp only;refine Z8 (A0h (K8 (I:=λx c st''=>c=(none,())/\Srn rk κ a0 a0.size st''/\((pendingOf st'').size<=1\/(pendingOf st'').size+x<=a0.size)) (Q:=λc st''=>c=(none,())/\Srn rk κ a0 a0.size st''/\(pendingOf st'').size<=1) ?_ ?_ ⟨rfl,hS,?_⟩) ?_)
  ·rintro x c st'' _ hx ⟨rfl,h1,h2⟩;refine Z8 (A6e ?_);by_cases q:(pendingOf st'').size<=1
   ·rw[Z6 q];exact X0 ⟨rfl,h1,q⟩
   rw[Z5 q];have go:∀i,i+1<(pendingOf st'').size->wpS (model prog w) A E s (mergeAt' i) (λb st4=>b=true/\Srn rk κ a0 a0.size st4/\(pendingOf st4).size+(x+1)<=a0.size) st'':=λi hi=>MD hl h1 Sa hi (B1 _) λst4 h4 h5 _=>⟨rfl,h4,by lia⟩
   refine Z8 (A0h (go _ ?_) λb st4 h=>?_)
   ·repeat' split
    all_goals lia
   ·obtain⟨rfl,h4,h5⟩:=h;simp only[O2,F8,A1b];exact X0 ⟨rfl,h4,.inr h5⟩
  ·rintro c st'' ⟨rfl,h1,h2⟩;exact⟨rfl,h1,by lia⟩
  ·have:=hS.runs.le;rw[C3]at this;exact .inr A0
  ·rintro c st'' ⟨rfl,h1,h2⟩;refine X0 (k st'' h1.fail h1.pm ?_);have rn:=h1.runs;have lz:(pendingOf st'').toList.length<=1:=by rw[C3];exact h2
   generalize (pendingOf st'').toList=l at rn lz
   match l,rn,lz with
   |[],rn,_ =>
    have z:0=a0.size:=rn;exact λi j x y _ _ h=>absurd h A0
   |[r],rn,_ =>
    obtain⟨q1,q2,q3,q4⟩:=rn;have:0+r.2.1=a0.size:=q4;rw[this]at q3;exact q3
end
end PyProof.Rows
namespace L2
open PySem PySem.W PySem.Spec PyProof.Rows
theorem Tl{α β:Type}{f:β->α}{l' l:List α}(h:l'.Perm l):∀p:List β,p.map f=l->∃p':List β,p'.Perm p/\p'.map f=l':=by
 induction h with
 |nil=>exact λp e=>⟨p,A5d _,e⟩
 |cons x _ ih =>
  intro p e;cases p with
  |nil=>cases e
  |cons i p =>
   rw[D7]at e;injection e with e1 e2
   obtain⟨p',h1,h2⟩:=ih p e2;exact⟨i::p',h1.cons i,by rw[D7,h2,e1]⟩
 |swap x y l =>
  intro p e
  match p,e with
  |i::j::p,e =>
   rw[D7,D7]at e;injection e with e1 e2
   injection e2 with e2 e3
   exact⟨j::i::p,List.Perm.swap i j p,by rw[D7,D7,e1,e2,e3]⟩
 |trans _ _ ih1 ih2 =>
  intro p e;obtain⟨p1,h1,h2⟩:=ih2 p e;obtain⟨p2,h3,h4⟩:=ih1 p1 h2;exact⟨p2,h3.trans h1,h4⟩
section
variable{prog:Program}{w:World}{A:Around}{E:Value->Shared->Prop}{s:Shared}{ks vs:List Value}{κ:SortKind}
theorem run_any{Q:SortSt->Shared->Prop}{rk:Nat->Int}{rk':Keyed->Nat}(lk:ks.length=vs.length)(hr:∀i,i<vs.length->rk i=(rk' (kas_item (ks.toArray.zip vs.toArray) i):Int))(hc:∀i j C,i<vs.length->j<vs.length->C (decide (rk i<rk j)) s->kas_ask prog w A κ ks i j C s)
  (k:∀p st',SX vs.length p->Up rk p vs.length->failedOf st'=none->arrOf st'=p.map (kas_item (ks.toArray.zip vs.toArray))->Q st' s):wpAny (model prog w) A ((sortRuns').run (SortSt.mk' κ (ks.toArray.zip vs.toArray) #[] 7 none)) (λr s'=>Q r.2 s') E s:=by
 have sz:(ks.toArray.zip vs.toArray).size=vs.length:=by simp[lk]
 have whole:((List.range vs.length).map (kas_item (ks.toArray.zip vs.toArray)))=(ks.toArray.zip vs.toArray).toList:=by
  have e:=kas_range (ks.toArray.zip vs.toArray);rw[sz]at e;rw[<-X4 Array.toList e];simp
 have fst:∀i,i<vs.length->(kas_item (ks.toArray.zip vs.toArray) i).1=ks.getD i Value.none:=λi hi=>by
  have h1:i<ks.length:=by rw[lk];exact hi
  unfold kas_item;rw[U7,B4 (by rw[sz];exact hi),C5,C0 h1];simp
 have hl:MX prog w A E s rk' (λx=>∃i,i<vs.length/\x=kas_item (ks.toArray.zip vs.toArray) i) κ:=by
  rintro x y st Q' ⟨i,hi,rfl⟩ ⟨j,hj,rfl⟩ hk q;rw[lt'_eq];refine Z8 (A6e ?_);rw[hk];have c:=hc i j (λb s'=>s'=s/\b=decide (rk i<rk j)) hi hj ⟨rfl,rfl⟩;unfold kas_ask at c;rw[<-fst i hi,<-fst j hj]at c;refine Z8 (wpS_lift (A7e (K1 c (λb s' h=>?_) λ_ _ x=>x.elim)));obtain⟨rfl,rfl⟩:=h;refine⟨rfl,?_⟩;refine X0 ?_;have e:decide (rk i<rk j)=decide (rk' (kas_item (ks.toArray.zip vs.toArray) i)<rk' (kas_item (ks.toArray.zip vs.toArray) j)):=by
   rw[hr i hi,hr j hj];exact decide_eq_decide.mpr Int.ofNat_lt
  rw[e];exact q
 have run:=PM (st:=SortSt.mk' κ (ks.toArray.zip vs.toArray) #[] 7 none) (Q:=λ_ st'=>Q st' s) hl rfl rfl rfl (λi x e=>?_) λst' hf pm so=>?_
 ·exact K1 run (λr s' h=>by obtain⟨rfl,q⟩:=h;exact q) λ_ _ e=>e
 ·have hi:i<vs.length:=by
   have:=(F7.mp e).1;rw[sz]at this;exact this
  refine⟨i,hi,?_⟩;have e:(ks.toArray.zip vs.toArray)[i]?=some x:=e;unfold kas_item;rw[U7,e];rfl
 ·have pm:(arrOf st').toList.Perm (ks.toArray.zip vs.toArray).toList:=pm;obtain⟨p,h1,h2⟩:=Tl pm _ whole;have lp:p.length=vs.length:=by rw[h1.length_eq,N3]
  have ea:arrOf st'=p.toArray.map (kas_item (ks.toArray.zip vs.toArray)):=by
   apply W0.mp;rw[Array.toList_map];exact h2.symm
  refine k p.toArray st' ⟨by simpa using lp,V0.mpr (by simpa using h1)⟩ (λi j ij hj=>?_) hf ea;have so:SoR rk' (arrOf st') 0 vs.length:=by
   rw[<-sz];exact so
  have at':∀{i:Nat},i<vs.length->p.toArray.getD i 0<vs.length/\(arrOf st')[i]?=some (kas_item (ks.toArray.zip vs.toArray) (p.toArray.getD i 0)):=λ{i} hi=>by
   have hp:i<p.length:=by rw[lp];exact hi
   have e:p.toArray.getD i 0=p[i]:=by simp[Array.getD,hp]
   rw[e];refine⟨by simpa using h1.mem_iff.mp (N7 hp),?_⟩;rw[ea,Array.getElem?_map,List.getElem?_toArray,C0 hp];rfl
  obtain⟨a1,a2⟩:=at' (i:=i) A0;obtain⟨b1,b2⟩:=at' hj;unfold kk;rw[hr _ a1,hr _ b1];exact Int.ofNat_le.mpr (so i j _ _ (F5 _) ij hj a2 b2)
end
def RB(H:Hp)(v:Value):List Int:=match v with
 |.ref u=>(match H u with
  |some (.tup vs)=>vs.filterMap λv=>(match v with|.int n=>some n|_=>none)
  |_=>[])
 |_=>[]
theorem TN{H:Hp}{u:Addr}{ns:List Int}(h:H u=some (.tup (ns.map V.int))):RB H (.ref u)=ns:=by
 unfold RB;dsimp only;rw[h];dsimp only;clear h;induction ns with
 |nil=>rfl
 |cons n ns ih =>
  rw[D7,U3];dsimp only;rw[ih]
def rkK(H:Hp)(rows:List (List Int))(x:Keyed):Nat:=rows.countP λr=>CM r (RB H x.1)
theorem rkK_of{H:Hp}{items:List (Addr×List Int)}(ht:∀q∈items,H q.1=some (.tup (q.2.map V.int))){vs:List Value}(lv:vs.length=items.length){i:Nat}(hi:i<items.length):Tg (items.map (·.2)) i=(rkK H (items.map (·.2)) (kas_item ((items.map λq=>Value.ref q.1).toArray.zip vs.toArray) i):Int):=by
 have e:(kas_item ((items.map λq=>Value.ref q.1).toArray.zip vs.toArray) i).1=.ref items[i].1:=by
  unfold kas_item;rw[U7,B4 (by simp;lia)];simp
 unfold Tg rkK;rw[e,TN (ht _ (N7 hi)),C5,C1,C0 hi];rfl
section
variable{prog:Program}{w:World}{A:Around}{E:Value->Shared->Prop}
theorem TJ{s:Shared}{a:Addr}{vs:List Value}{n:Nat}{P:PySem.Fin->Shared->Prop}{κ:SortKind}{rk:Nat->Int}{rk':Keyed->Nat}(ho:s.heap.get? a=some (seqObj "list" vs.toArray n))(h64:vs.length<=100000)(hr:∀i,i<vs.length->rk i=(rk' (kas_item (vs.toArray.zip vs.toArray) i):Int))
  (hk:∀(s':Shared)(Q:SortKind->Shared->Prop),(∀b o,b≠a->s.heap.get? b=some o->s'.heap.get? b=some o)->2<=vs.length->Q κ s'->wpAny (model prog w) A (keyKind' vs.toArray) Q E s')
  (hc:∀(s':Shared),(∀b o,b≠a->s.heap.get? b=some o->s'.heap.get? b=some o)->∀i j C,i<vs.length->j<vs.length->C (decide (rk i<rk j)) s'->kas_ask prog w A κ vs i j C s')
  (fin:∀p,SX vs.length p->Up rk p vs.length->P (.done (.ret .none)) {s with heap:=sortedHeap s.heap a vs (p.toList.map λi=>vs.getD i Value.none).toArray}) :
  wpAny (model prog w) A (Builtin.«list.sort» ⟨[.ref a],[]⟩) P E s:=by
 have alt:a<s.heap.objs.size:=D0 ho;have len:vs.toArray.size=vs.length:=D1;have ln:vs.length<=sizeLine:=C8 h64 A3;rw[list_sort_plain];refine Z2 (listItems_at ho rfl (Z2 (listUpdate_at ho rfl ?_)));have ⟨e1,he1⟩:∃e1,(s.heap.update a (Obj.mapSeq λ_=>#[])).get? a=some (seqObj "list" #[] e1):=⟨_,get?_update_seq ho _⟩
 refine Z2 (seqEpoch_at he1 rfl (Z2 (wpAny_newTuple (Z2 (wpAny_newList (A3a ?_))))));have hin:(((s.heap.update a (Obj.mapSeq λ_=>#[])).push (seqObj "tuple" vs.toArray 0)).push (seqObj "list" #[] 0)).get? a=some (seqObj "list" #[] e1):=by
  refine B3 _ (B3 _ he1)
 have keep:∀b o,b≠a->s.heap.get? b=some o->(((s.heap.update a (Obj.mapSeq λ_=>#[])).push (seqObj "tuple" vs.toArray 0)).push (seqObj "list" #[] 0)).get? b=some o:=λb o hb e =>
  B3 _ (B3 _ (by rw[Heap.get?_update_ne _ _ _ _ hb];exact e))
 show wpAny (model prog w) A _ P E {s with heap:=(((s.heap.update a (Obj.mapSeq λ_=>#[])).push (seqObj "tuple" vs.toArray 0)).push (seqObj "list" #[] 0))};dsimp only;by_cases few:vs.toArray.size<2
 ·rw[Z6 few,Z6 few];refine Z2 (Z9 ?_);rw[StateT.run_pure];refine Z2 (Z9 ?_);dsimp only;have eo:(arrOf (SortSt.mk' general' (vs.toArray.zip vs.toArray) #[] 7 none)).map (·.2)=((List.range vs.length).toArray.toList.map λi=>vs.getD i Value.none).toArray:=by
   rw[len]at few;clear hk hc fin keep hin ho hr;show(vs.toArray.zip vs.toArray).map (·.2)=_
   match vs,few with
   |[],_=>simp
   |[v],_=>simp
  refine Z2 (seqEpoch_at hin rfl (Z2 (listUpdate_at hin rfl ?_ (hsz2:=by rw[eo];simp;lia))));simp only[bne_self_eq_false,F8,A1b];rw[eo];refine Z9 (fin _ ⟨by simp,Array.Perm.refl _⟩ λi j ij hj=>?_);have:i=j:=by lia
  rw[this];exact R9 _
 ·rw[Z5 few,Z5 few];have two:2<=vs.length:=by lia
  refine Z2 (hk _ _ keep two ?_);refine Z2 (K1 (run_any (ks:=vs) (rk:=rk) (Q:=λst' s'=>s'={s with heap:=(((s.heap.update a (Obj.mapSeq λ_=>#[])).push (seqObj "tuple" vs.toArray 0)).push (seqObj "list" #[] 0))}/\failedOf st'=none/\∃p,SX vs.length p/\Up rk p vs.length/\arrOf st'=p.map (kas_item (vs.toArray.zip vs.toArray))) rfl hr (hc _ keep) λp st' h1 h2 h3 h4=>⟨rfl,h3,p,h1,h2,h4⟩) ?_ λ_ _ e=>e);rintro⟨⟨⟩,st'⟩ s' ⟨rfl,hf,p,pn,up,ea⟩;dsimp only at hf ea⊢;have eo:=kat_snds (ks:=vs) (vs:=vs) rfl ea;refine Z2 (seqEpoch_at hin rfl (Z2 (listUpdate_at hin rfl ?_ (hsz2:=by rw[eo];simp only[D1,B0,C3,pn.sz];lia))));rw[hf,eo];simp only[bne_self_eq_false,F8,A1b];exact Z9 (fin p pn up)
theorem PL{s:Shared}{l:Addr}{vs:List Value}{Q:Value->Shared->Prop}{κ:SortKind}{rk:Nat->Int}{rk':Keyed->Nat}(hl:s.heap.IsList l vs.toArray)(h64:vs.length<=100000)(hr:∀i,i<vs.length->rk i=(rk' (kas_item (vs.toArray.zip vs.toArray) i):Int))
  (hk:∀(A:Around)(E:Value->Shared->Prop)(s':Shared)(Q:SortKind->Shared->Prop),(∀b o,s.heap.get? b=some o->s'.heap.get? b=some o)->2<=vs.length->Q κ s'->wpAny (model prog w) A (keyKind' vs.toArray) Q E s')
  (hc:∀(A:Around)(s':Shared),(∀b o,s.heap.get? b=some o->s'.heap.get? b=some o)->∀i j C,i<vs.length->j<vs.length->C (decide (rk i<rk j)) s'->kas_ask prog w A κ vs i j C s')
  (fin:∀p,SX vs.length p->Up rk p vs.length->Q (.ref (s.heap.objs.size+1)) {s with heap:=sortedAll s.heap vs (p.toList.map λi=>vs.getD i Value.none).toArray}) :
  wpAny (model prog w) A (call (.builtin "sorted") [.ref l]) Q E s:=by
 have ln:vs.length<=sizeLine:=C8 h64 A3;refine Calls.call_function_entry kind_sorted plain_sorted entry_sorted (args_sorted1 _) ?_;unfold Builtin.«sorted»;refine Z2 (m:=checkCount "sorted" 1 1 _) (Z9 (Z2 (collect_list hl (Z2 (wpAny_newList ?_)))));have sz1:((s.heap.push (seqObj "list" #[] 0)).update s.heap.objs.size (Obj.mapSeq (· ++ vs.toArray))).objs.size=s.heap.objs.size+1:=by
  rw[Heap.size_update];exact size_push' ..
 have at1:(((s.heap.push (seqObj "list" #[] 0)).update s.heap.objs.size (Obj.mapSeq (· ++ vs.toArray))).push (seqObj "list" vs.toArray 0)).get? (s.heap.objs.size+1)=some (seqObj "list" vs.toArray 0):=by
  have:=D4 ((s.heap.push (seqObj "list" #[] 0)).update s.heap.objs.size (Obj.mapSeq (· ++ vs.toArray))) (show(seqObj "list" vs.toArray 0).isFreed=false from rfl);rw[sz1]at this;exact this
 have keep1:∀b o,s.heap.get? b=some o->(((s.heap.push (seqObj "list" #[] 0)).update s.heap.objs.size (Obj.mapSeq (· ++ vs.toArray))).push (seqObj "list" vs.toArray 0)).get? b=some o:=λb o e =>
  B3 _ (by rw[Heap.get?_update_ne _ _ _ _ (F0 (D0 e))];exact B3 _ e)
 show wpAny (model prog w) _ _ _ _ {s with heap:=(((s.heap.push (seqObj "list" #[] 0)).update s.heap.objs.size (Obj.mapSeq (· ++ vs.toArray))).push (seqObj "list" vs.toArray 0))};rw[sz1];have ne:∀b o,s.heap.get? b=some o->b≠s.heap.objs.size+1:=λb o e=>F0 (Y6 (D0 e));refine Z2 (A3a (A1e slot_list_sort ⟨_,at1,rfl⟩ entry_list_sort (TJ (κ:=κ) (rk:=rk) (rk':=rk') at1 h64 hr (λs' Q' kp t2 q=>hk _ _ s' Q' (λb o e=>kp b o (ne b o e) (keep1 b o e)) t2 q) (λs' kp=>hc _ s' λb o e=>kp b o (ne b o e) (keep1 b o e)) λp pn up=>⟨_,rfl,Z9 ⟨_,rfl,fin p pn up⟩⟩) (args_list_sort _)))
end
section
variable{X:Cx}
theorem JL:Fb X (.builtin "sorted") (λxs H Q=>∃(p:Addr)(items:List (Addr×List Int)),xs=[.ref p]/\SqL X.K H p (items.map λq=>V.ref q.1)/\items.length<=100000/\(∀q∈items,H q.1=some (.tup (q.2.map V.int))/\q.2≠[]) /\
  ∀(L:Addr)(out:List (Addr×List Int)),H L=none->out.Perm items->RP out->Q (.ref L) (upd H L (.lst (out.map λq=>V.ref q.1)))):=by
 intro pins s σ H xs us Q I r h;obtain⟨p,items,rfl,hq,h64,ht,q⟩:=h;cases r with
 |cons r1 r2 =>
  cases r2;cases(show _=Value.ref p from r1);obtain⟨its,rv,pl,hz⟩:=I.list hq;have ei:its=items.map λq=>Value.ref q.1:=by
   clear pl hz ht q hq h64;induction items generalizing its with
   |nil=>cases rv;rfl
   |cons it items ih =>
    cases rv with
    |cons a1 a2 =>
     cases(show _=Value.ref it.1 from a1);rw[D7,ih _ a2]
  subst ei;have len:(items.map λq=>Value.ref q.1).length=items.length:=B0 _;have ln:items.length<=sizeLine:=C8 h64 A3;refine PL (κ:=tuples' true) (rk:=Tg (items.map (·.2))) (rk':=rkK H (items.map (·.2))) pl.isList (by rw[len];exact h64) (λi hi=>rkK_of (λq hq=>(ht q hq).1) len (by rw[len]at hi;exact hi)) (λA E s' Q' kp two q'=>?_) (λA s' kp i j C hi hj c=>?_) λpm pn up=>?_
  ·obtain⟨fs,k1,k2,k3⟩:=Ob (I.hok.kept kp) ht;refine kat_kind (T:=.type "int") k1 (by rw[k2,<-len];lia) (λv hv=>?_) rfl q';obtain⟨x,t,rfl⟩:=k3 v hv;exact .now
  ·rw[len]at hi hj;obtain⟨b,o,us,m,e1,e2,e3,e4,e5⟩:=RY (I.hok.kept kp) ht hi;obtain⟨b',o',us',m',f1,f2,f3,f4,f5⟩:=RY (I.hok.kept kp) ht hj;unfold kas_ask;rw[e1,f1];refine kat_lt e2 e4 f2 f4 ?_;rw[Vc (by rw[B0];exact hi)]at c;have:=Su (prog:=X.prog) (w:=X.w) (A:=A) (b:=true) (i:=0) e5 f5 c;have l1:=e5.length;have l2:=f5.length;rw[B0]at l1 l2;rw[D1,D1,<-l1,<-l2];exact this
  ·obtain⟨ep,at1⟩:=sortedAll_at s.heap (items.map λq=>Value.ref q.1) (pm.toList.map λi=>(items.map λq=>Value.ref q.1).getD i Value.none).toArray;have pl2:pm.toList.Perm (List.range items.length):=by
    have:=pn.pm;rw[len]at this
    simpa using this.toList
   have sz:pm.size=items.length:=pn.sz.trans len;have lt:∀i∈pm.toList,i<items.length:=λi hi=>by simpa using (pl2.mem_iff).mp hi
   let d:Addr×List Int:=(0,[])
   have out:(pm.toList.map λi=>items.getD i d).Perm items:=by
    refine(pl2.map _).trans ?_;refine List.Perm.of_eq (List.ext_getElem? λi=>?_);rw[C1];by_cases hi:i<items.length
    ·rw[Q0 hi,C0 hi];show some (items.getD i d)=_;rw[C5,C0 hi];rfl
    ·rw[Q9 (by simpa using hi),Q9 A0];rfl
   have rows:RP (pm.toList.map λi=>items.getD i d):=by
    refine List.pairwise_iff_getElem.mpr λi j hi hj ij=>?_;rw[B0,C3,sz]at hi hj;have u:=up i j (N5 ij) (by rw[len];exact hj);have gi:pm.getD i 0=pm[i]'A0:=by simp[Array.getD,sz,hi]
    have gj:pm.getD j 0=pm[j]'A0:=by simp[Array.getD,sz,hj]
    have li:=lt _ (N7 (l:=pm.toList) (n:=i) (by rw[C3];lia));have lj:=lt _ (N7 (l:=pm.toList) (n:=j) (by rw[C3];lia));rw[P9]at li lj;unfold kk at u;rw[gi,gj]at u;rw[V7,V7,P9,P9];generalize pm[i]=a at *
    generalize pm[j]=b at *
    have:=Vc (rows:=items.map (·.2)) (i:=b) (j:=a) (by rw[B0];exact lj);rw[Z4 A0]at this;have gd:∀{c:Nat},c<items.length->(items.map (·.2)).getD c []=(items.getD c d).2:=λ{c} hc=>by
     rw[C5,C1,C5,C0 hc];rfl
    rw[gd lj,gd li]at this;exact this.symm
   refine⟨.ref (s.heap.objs.size+1),_,?_,rfl,q (s.heap.objs.size+1) _ (I.hok.fresh (Nat.le_succ _)) out rows⟩;refine I.laid (a:=s.heap.objs.size+1) (λb o e=>sortedAll_old e) (Nat.le_succ _) ⟨by rw[B0,B0,C3,sz];exact ln,_,ep,?_,at1⟩;have:∀{l:List Nat},(∀i∈l,i<items.length)->AN ((l.map λi=>items.getD i d).map λq=>V.ref q.1) (l.map λi=>(items.map λq=>Value.ref q.1).getD i Value.none):=by
    intro l;induction l with
    |nil=>intro _;exact .nil
    |cons i l ih =>
     intro hl;refine .cons ?_ (ih λj hj=>hl j (B9 _ hj));have hi:=hl i (D3 ..);show Bb (V.ref (items.getD i d).1) ((items.map λq=>Value.ref q.1).getD i Value.none);rw[C5,C5,C1,C0 hi];rfl
   exact this lt
end
section
variable{X:Cx}{pins:List (Addr×Obj)}{σ:St}{H H':Hp}{s:Shared}{k:Nat}{f b:Addr}{fd:FuncData}{ps:List Str}
end
section
variable{prog:Program}{w:World}{A:Around}{E:Value->Shared->Prop}{s:Shared}{r d:Addr}{o:Obj}{es:Array DictEntry}{ep:Nat}
end
section
variable{X:Cx}
end
section
variable{X:Cx}
end
section
variable{X:Cx}
theorem Qi:MtR X "str.index" (λx xs H Q=>∃(a b:Str)(i:Nat)(r:List Nat),x=.str a/\xs=[.str b]/\Builtin.Str.occurrences a b 0 a.length 1=i::r/\Q (.int (i:Int)) H):=by
 intro pins s σ H x xs v us Q I rx r h;obtain⟨a,b,i,rr,rfl,rfl,ho,q⟩:=h;obtain⟨t,rfl⟩:=rx;cases r with
 |cons r1 r2 =>
  cases r2;obtain⟨u,rfl⟩:=r1;exact call_gives A6h (A2e _ _ _) PySem.F.entry_str_index (PySem.F.args_str_index_2 _ _) (gives_str_index a b t u i rr ho) ⟨.int _,H,I.tok _,⟨_,rfl⟩,q⟩
end
section
variable{K:W.Frag}{b:Bool}{l:Addr}{xs:List V}{σ:St}{H:Hp}{k:Nat}{cs:List Nat}{g:TG}{tc:TT}{te:TE}{fin:List V->Hp->Prop}
end
end L2
namespace Tx
open PySem PySem.Builtin PySem.Builtin.Str PyProof.Rows
theorem Bw(a b:Str):(a++b).cps.toList=a.cps.toList++b.cps.toList:=cps_toList_append a b
def jl(sep:List Nat):List (List Nat)->List Nat
 |[]=>[]
 |[x]=>x
 |x::y::r=>x++sep++jl sep (y::r)
theorem Iw(sep:Str):∀ts:List Str,(Str.join sep ts).cps.toList=jl sep.cps.toList (ts.map λt=>t.cps.toList)
 |[]=>rfl
 |[x]=>rfl
 |x::y::r=>by
  have e:Str.join sep (x::y::r)=x++sep++Str.join sep (y::r):=rfl;rw[e,Bw,Bw,Iw sep (y::r)];rfl
theorem Pu{c:Nat}:∀{x y A B:List Nat},c∉x->c∉y->x++c::A=y++c::B->x=y/\A=B
 |[],[],A,B,_,_,h=>⟨rfl,by simpa using h⟩
 |[],y::ys,A,B,_,hy,h=>by
  simp at h;exact absurd (by rw[h.1];exact D3) hy
 |x::xs,[],A,B,hx,_,h=>by
  simp at h;exact absurd (by rw[<-h.1];exact D3) hx
 |x::xs,y::ys,A,B,hx,hy,h=>by
  simp at h;obtain⟨e,h⟩:=h;obtain⟨e2,e3⟩:=Pu (x:=xs) (y:=ys) (λz=>hx (B9 _ z)) (λz=>hy (B9 _ z)) h;exact⟨by rw[e,e2],e3⟩
theorem VU(c:Nat)(s:List Nat):∀(as bs:List (List Nat)),as≠[]->bs≠[]->(∀t∈as,c∉t)->(∀t∈bs,c∉t)->jl (c::s) as=jl (c::s) bs->as=bs
 |[],_,h,_,_,_,_=>absurd rfl h
 |_,[],_,h,_,_,_=>absurd rfl h
 |[x],[y],_,_,_,_,e=>by
  have e':x=y:=e;rw[e']
 |[x],y::z::r,_,_,ha,_,e=>by
  have e':x=y++c::s++jl (c::s) (z::r):=e;exact absurd (by rw[e'];simp) (ha x D3)
 |x::z::r,[y],_,_,_,hb,e=>by
  have e':x++c::s++jl (c::s) (z::r)=y:=e;exact absurd (by rw[<-e'];simp) (hb y D3)
 |x::x2::r,y::y2::r',_,_,ha,hb,e=>by
  have e':x++c::(s++jl (c::s) (x2::r))=y++c::(s++jl (c::s) (y2::r')):=by
   have:x++c::s++jl (c::s) (x2::r)=y++c::s++jl (c::s) (y2::r'):=e
   simpa using this
  obtain⟨e1,e2⟩:=Pu (ha x D3) (hb y D3) e';have e3:=List.append_cancel_left e2;rw[e1,VU c s (x2::r) (y2::r') A5 A5 (λt ht=>ha t (B9 _ ht)) (λt ht=>hb t (B9 _ ht)) e3]
theorem TF {as bs:List Str} (h:as.map (λt=>t.cps.toList)=bs.map λt=>t.cps.toList):as=bs:=by
 induction as generalizing bs with
 |nil=>cases bs with|nil=>rfl|cons=>simp at h
 |cons a r ih =>
  cases bs with
  |nil=>simp at h
  |cons b q =>
   simp at h;rw[Nu.ext (a:=a) (b:=b) (by simpa using h.1),ih (by simpa using h.2)]
theorem PH(c:Nat)(ts:List Str)(hne:ts≠[])(hf:∀t∈ts,c∉t.cps.toList):Txt.split (Str.join ⟨#[c]⟩ ts) ⟨#[c]⟩=ts:=by
 refine TF (VU c [] _ _ ?_ ?_ ?_ ?_ ?_)
 ·intro h;have:=split_pos (Str.join ⟨#[c]⟩ ts) ⟨#[c]⟩;have h2:(Txt.split (Str.join ⟨#[c]⟩ ts) ⟨#[c]⟩).length=0:=by simpa using X4 List.length h
  lia
 ·simpa using hne
 ·intro t ht;obtain⟨p,hp,rfl⟩:=F1.mp ht;exact StrLaws.split_free _ c p hp
 ·intro t ht;obtain⟨p,hp,rfl⟩:=F1.mp ht;exact hf p hp
 ·have h:=X4 (λz:Str=>z.cps.toList) (StrLaws.join_split (Str.join ⟨#[c]⟩ ts) ⟨#[c]⟩);rw[Iw,Iw]at h;exact h
theorem IB(c:Nat)(a b:Str)(h:c∉a.cps.toList):Txt.partition (a++⟨#[c]⟩++b) ⟨#[c]⟩=(a,⟨#[c]⟩,b):=by
 have hin:c∈(a++⟨#[c]⟩++b).cps.toList:=by rw[Bw,Bw];simp
 have hs:=StrLaws.partition_sum (a++⟨#[c]⟩++b) ⟨#[c]⟩;have hh:=partition_head (a++⟨#[c]⟩++b) ⟨#[c]⟩;have ho:=A4g (a++⟨#[c]⟩++b) c;rw[Z3 hin]at ho;have hp2:(Txt.partition (a++⟨#[c]⟩++b) ⟨#[c]⟩).2.1=⟨#[c]⟩:=by
  unfold Txt.partition;cases e:occurrences (a++⟨#[c]⟩++b) ⟨#[c]⟩ 0 (a++⟨#[c]⟩++b).length 1 with
  |nil=>rw[e]at ho;simp at ho
  |cons i l=>rfl
 have hp1:c∉(Txt.partition (a++⟨#[c]⟩++b) ⟨#[c]⟩).1.cps.toList:=by
  rcases hh with ⟨_,no⟩|⟨i,e,hA,no⟩
  ·obtain⟨j,hj⟩:=T7 hin;exact absurd ((StrLaws.subAt_one _ c j).mpr hj) (no j)
  ·rw[e];exact StrLaws.part_free _ c 0 i (by have:i+1<=_:=hA.1;lia) λk _ hk=>no k hk
 have e:(Txt.partition (a++⟨#[c]⟩++b) ⟨#[c]⟩).1.cps.toList++(Txt.partition (a++⟨#[c]⟩++b) ⟨#[c]⟩).2.1.cps.toList++(Txt.partition (a++⟨#[c]⟩++b) ⟨#[c]⟩).2.2.cps.toList=a.cps.toList++[c]++b.cps.toList:=by
  have e0:=X4 (λz:Str=>z.cps.toList) hs;rw[Bw,Bw,Bw,Bw]at e0;exact e0
 rw[hp2]at e;have e':(Txt.partition (a++⟨#[c]⟩++b) ⟨#[c]⟩).1.cps.toList++c::(Txt.partition (a++⟨#[c]⟩++b) ⟨#[c]⟩).2.2.cps.toList=a.cps.toList++c::b.cps.toList:=by simpa using e
 obtain⟨e1,e2⟩:=Pu hp1 h e';exact Prod.ext (Nu.ext e1) (Prod.ext hp2 (Nu.ext e2))
end Tx
namespace Tx
open PySem PySem.Builtin PySem.Builtin.Str PyProof.Rows
theorem VT:∀ts:List (List Nat),jl [] ts=ts.flatten
 |[]=>rfl
 |[x]=>by simp[jl]
 |x::y::r=>by
  show x++[]++jl [] (y::r)=_;rw[VT (y::r)];simp
theorem SG(sep:Str)(m:Nat):∀(l:List Str)(acc:Nat),(∀t∈l,t.length<=m)->l.foldl (λa t=>a+t.length+sep.length) acc<=acc+l.length*(m+sep.length)
 |[],acc,_=>by simp
 |t::r,acc,h=>by
  have h1:=h t D3;have h2:=SG sep m r (acc+t.length+sep.length) λz hz=>h z (B9 _ hz);rw[U1,C4,Nat.succ_mul];lia
theorem join_ok{sep:Str}{l:List Str}(m:Nat)(h:∀t∈l,t.length<=m)(hs:l.length*(m+sep.length)<=100000):JoinOk sep l=true:=by
 unfold JoinOk;have h2:=SG sep m l 0 h;have e:l.toArray.foldl (λa t=>a+t.length+sep.length) 0=l.foldl (λa t=>a+t.length+sep.length) 0:=by simp
 rw[e];have:tooLong (l.foldl (λa t=>a+t.length+sep.length) 0)=false:=by
  unfold tooLong;refine Z4 ?_;have:(100000:Nat)<=sizeLine:=by decide
  lia
 rw[this];rfl
theorem Eo(a b:Str):(a++b).length=a.length+b.length:=by
 rw[Nu.len,Nu.len,Nu.len,Bw,B5]
end Tx
namespace Tn
open PySem PySem.Builtin PySem.NumText PyProof.Rows
def dg(m:Nat):List Nat:=(Nat.toDigits 10 m).map Char.toNat
theorem dchar:∀d:Nat,d<10->(Nat.digitChar d).toNat=48+d:=by decide
theorem JJ{m:Nat}(h:m<10):dg m=[48+m]:=by
 unfold dg;rw[Nat.toDigits_of_lt_base h,D7,dchar m h];rfl
theorem Wo{m:Nat}(h:10<=m):dg m=dg (m/10)++[48+m%10]:=by
 have hm:m%10<10:=L7 m A3;have t:Nat.toDigits 10 (m/10)++Nat.toDigits 10 (m%10)=Nat.toDigits 10 (10*(m/10)+m%10):=Nat.toDigits_append_toDigits A3 A6 hm;rw[Q6]at t;have e:dg m=dg (m/10)++dg (m%10):=by
  unfold dg;rw[<-t,D5]
 rw[e,JJ hm]
theorem dg_dig(m:Nat):(dg m).all Nu.dig=true:=by
 induction m using Nat.strongRecOn with
 |_ m ih =>
  by_cases h:m<10
  ·rw[JJ h];simp[Nu.dig];omega
  ·have hm:m%10<10:=L7 m A3;rw[Wo A6,W7,ih (m/10) A6];simp[Nu.dig];omega
theorem Wp:∀(k m:Nat),m<10^(k+1)->(dg m).length<=k+1
 |0,m,h=>by
  rw[JJ (by simpa using h)];exact B1 1
 |k+1,m,h=>by
  by_cases h10:m<10
  ·rw[JJ h10];show 1<=_;omega
  ·rw[Wo A6,B5];have:=Wp k (m/10) (by rw[Q8 A3,<-R3];exact h);show _+1<=_;omega
theorem text(m:Nat):(Str.ofString (toString ((m:Nat):Int))).cps.toList=dg m:=PySem.W.KIN.signs_num m
theorem NU{m:Nat}(h:m<10^30):((m:Nat):Int).natAbs.log2<1920:=by
 rw[Int.natAbs_natCast];by_cases h0:m=0
 ·subst h0;decide
 ·have:m.log2<100:=(Nat.log2_lt h0).mpr (F2 h A3);omega
end Tn
namespace L2
open PySem PySem.Spec PyProof.Rows
theorem Nr:entryFor table "proto.unchain" = some Builtin.«proto.unchain»:=entryFor_of_fast (by kernel_rfl)
section
variable{prog:Program}{w:World}{A:Around}{E:Value->Shared->Prop}{s:Shared}
theorem Vd{α:Type}{a e:Addr}{o oe:Obj}{vs ws:Array Value}{Q:α->Shared->Prop}(hh:A.handled=some (.ref a))(h1:s.heap.get? a=some o)(h2:o.data=.fields vs)(h3:vs[2]?=some .none)(ne:a≠e)(he:s.heap.get? e=some oe)(hd:oe.data=.fields ws)(hz:2<ws.size)
  (h:E (.ref e) {s with heap:=s.heap.update e (Obj.mapFields (·.setIfInBounds 2 (.ref a)))}):wpAny (model prog w) A (raiseNew (.ref e):Sem α) Q E s:=by
 simp only[raiseNew];refine Z2 (wpAny_handled ?_);rw[hh];have q:(Value.ref a != Value.ref e)=true:=by simpa using ne
 simp only[q,A5f];refine Z2 (A3a (wpAny_runValue (codeAny_builtin Nr ?_)));show wpAny _ _ (field (.ref a) 2 >>= _) _ _ s;refine Z2 (K5 h1 h2 h3 ?_);rw[Z6 A3];refine Z9 ?_;simp only[updateField];refine Z2 (Z2 (wpAny_load he ?_));rw[hd];dsimp only;rw[Z6 hz];exact wpAny_update he (wpAny_throw h)
variable{env:Env}{nm q:Str}{C N:Addr}{bs bm:List Value}{hdct:Bool}{sn:List Str}{sub:List Value}{ab:Bool}{col:Option Bool}{dd:Option Addr}{k0 k1 k2 k3 k5:Option Value}{Bn B nid newId inN initId:String}{bmN bmB:List Value}
theorem OG{x:Sem Value}{a:Addr}{Q:Flow->Shared->Prop}(hbase:bm.contains (.type "BaseException")=true)(hh:A.handled=some (.ref a))
  (h:wpAny (model prog w) A x (λv s₁=>∃e t o vs,v=.ref e/\s₁.heap.get? C=some (excClassObj nm q C N bs bm hdct sn sub ab col dd k0 k1 k2 k3 k5 newId) /\
   s₁.heap.get? e=some {cls:=.ref C,data:=.fields #[.ref t,.none,.none,.none,.bool false,.none]}/\s₁.heap.get? a=some o/\o.data=.fields vs/\vs[2]?=some .none/\a≠e/\E (.ref e) {s₁ with heap:=s₁.heap.update e (Obj.mapFields (·.setIfInBounds 2 (.ref a)))}) E s) :
  wpAny (model prog w) A (raiseStmt env (some x) none) Q E s:=by
 have hcB:(Value.ref C::bm).contains (.type "BaseException")=true:=by rw[List.contains_cons,hbase,Bool.or_true]
 unfold raiseStmt;refine Z2 (K1 h (λv s₁ h₁=>?_) λ_ _ x=>x);obtain⟨e,t,o,vs,rfl,hC,he,ha,hv,hn,ne,hE⟩:=h₁;obtain⟨hp,g,d,tk,os⟩:=s₁
 repeat (first|with_reducible refine A7d he ?_|with_reducible refine A7d hC ?_|(with_reducible refine A8h hC ?_;rw[hcB])|wp_step)
 exact Vd hh ha hv hn ne he rfl A5 hE
theorem Nz{a:Addr}(Fn:ExcBaseFacts Bn newId inN bmN)(hBn:bmB.contains (.type Bn)=true)(F:ExcBaseFacts B nid initId bmB){mN:Str->Option Value}{x:Str}{np cpos pos:Pos}{args:List Expr}{Q:Flow->Shared->Prop}
  (hbase:bm.contains (.type "BaseException")=true) (hh:A.handled=some (.ref a)) (hplain:(backTo cpos (starEach args env)).any (·.1)=false) (hni:mN "__init__" = none)
  (h:wpAny (model prog w) A (eval (.Name x np) env) (λf s₁=>f=.ref C/\wpAny (model prog w) A (evalArgs (.ref C) true (backTo cpos (starEach args env)) [])
   (λar s₂=>ar.kw=[]/\ar.pos.length<=sizeLine/\s₂.heap.get? C=some (excClassObj nm q C N bs bm hdct sn sub ab col dd k0 k1 k2 k3 k5 newId)/\s₂.heap.Ns N mN/\OwnTail s₂.heap bmB bm /\
    (∃o vs,s₂.heap.get? a=some o/\o.data=.fields vs/\vs[2]?=some .none)/\∀h' e,Heap.MadeExcOf s₂.heap h' e (.ref C) ar.pos->E (.ref e) {s₂ with heap:=h'.update e (Obj.mapFields (·.setIfInBounds 2 (.ref a)))}) E s₁) E s) :
  wpAny (model prog w) A (exec (.Raise (some (.Call (.Name x np) args [] cpos)) none pos) env) Q E s:=by
 rw[arm_exec_Raise];refine Z2 (A7f (OG (C:=C) (nm:=nm) (q:=q) (N:=N) (bs:=bs) (bm:=bm) (hdct:=hdct) (sn:=sn) (sub:=sub) (ab:=ab) (col:=col) (dd:=dd) (k0:=k0) (k1:=k1) (k2:=k2) (k3:=k3) (k5:=k5) (newId:=newId) hbase hh (Z2 (K1 (wpAny_Call_ofName (K1 h (λf s₁ h₁=>?_) λ_ _ x=>x)) (λv s₃ h₃=>Z2 (A7f (Z9 h₃))) λ_ _ x=>x))));obtain⟨rfl,h₁⟩:=h₁;unfold callWith;refine Z2 (A3a (K1 h₁ (λar s₂ h₂=>Z2 (A7f ?_)) λ_ _ x=>x));obtain⟨apos,akw⟩:=ar;obtain⟨hkw,hlen,hC,hn,T,⟨o,vs,a1,a2,a3⟩,h₂⟩:=h₂;obtain rfl:akw=[]:=hkw;obtain⟨hp,g,d,tk,os⟩:=s₂;simp only[hplain];refine Z2 (wpAny_keeperOf_exc hC ?_);refine Z2 (wpAny_call_exc_subU (hrest:=hlen) Fn hBn F T hC hn hni λh' e hm=>Z2 (A3a (wpAny_point (Z9 ?_))));obtain⟨t,ht,_,_⟩:=hm.there;refine⟨e,t,o,vs,rfl,hm.keeps _ _ hC,ht,hm.keeps _ _ a1,a2,a3,λz=>?_,h₂ h' e hm⟩;have:=hm.new;rw[<-z,a1]at this;cases this
end
section
variable{P:Program}{w:World}{K:W.Frag}{mg:Str->Option Value}{base:Heap}{N:List Str}{qual:Str}{scope:Scope}{f:Addr}{cd:Value}{A:Around}{outer:List Env}{s:Shared}{H:Hp}{E:XK}
theorem leavesL{pins:List (Addr×Obj)}{σ:St}{H1:Hp}{s1:Shared}{e:Addr}{cls:Value}{h':Heap}{hd:Option Value}(I:Inv (Ca (CXE P w) P w K mg base N qual scope f cd A outer s H E) pins σ H1 s1)(new:s1.heap.get? e=none)(keeps:∀b o,s1.heap.get? b=some o->h'.get? b=some o)(fn:Pz (some 0) e cls h')(hE:E cls (some 0) H1) :
  notedBy (model P w) ((Ca (CXE P w) P w K mg base N qual scope f cd A outer s H E).A.mark hd) (Ca (CXE P w) P w K mg base N qual scope f cd A outer s H E).env (λx s₂=>cameBackBy (model P w) (Ca (CXE P w) P w K mg base N qual scope f cd A outer s H E).A (Ca (CXE P w) P w K mg base N qual scope f cd A outer s H E).env (Ca (CXE P w) P w K mg base N qual scope f cd A outer s H E).xe x s₂) (.ref e) {s1 with heap:=h'}:=by
 generalize hX:Ca (CXE P w) P w K mg base N qual scope f cd A outer s H E=X at I⊢;have hP:X.prog=P:=by rw[<-hX];rfl
 have hw:X.w=w:=by rw[<-hX];rfl
 have hs0:X.s₀=s:=by rw[<-hX];rfl
 have hex:X.ex=[]:=by rw[<-hX];rfl
 have hfr:X.env.frame=some X.env.locals:=by rw[<-hX];rfl
 have hstk:X.stack=X.env::X.outer:=by rw[<-hX];rfl
 have hxe:∀e s',X.xe e s'↔wpAny (model P w) X.A (leaving X.env e) (λ_ s''=>CXE P w X.outer X.H₀ X.s₀ E e s'') (λe' s''=>CXE P w X.outer X.H₀ X.s₀ E e' s'') s':=λe s'=>by rw[<-hX];exact Iff.rfl
 clear hX;subst hP hw;have hfrm:X.A.frames=some (X.env::X.outer):=I.ok.frames.trans (by rw[hstk]);have efs:frs X.stack=frs (X.env::X.outer):=by rw[hstk]
 have fr':=I.stack;rw[hstk]at fr';have frh:h'.FunFrames X.base (X.env::X.outer):=fr'.of_keeps λb o q d=>⟨o,keeps b o q,rfl⟩
 show wpAny _ (X.A.mark hd) (noteFrame (.ref e) _) _ _ {s1 with heap:=h'};refine Mt (T:=e) (s:={s1 with heap:=h'}) (A:=X.A.mark hd) hfrm frh hfr (.inl fn) λh4 T4 fl4 n4 nr4=>?_;rw[<-efs]at nr4;obtain⟨oe,vs,oT,ts,e1,e2,e3,e4,e5,e6,e7,e8,e9⟩:=id fl4;show wpAny _ X.A _ _ _ _;refine Z2 (K5 e1 e3 e4 ?_);rw[Z5 A5];refine EV (s:={s1 with heap:=h4}) fl4 λh5 fl5 kp5=>(hxe _ _).mpr ?_;have fl5:Fv (some 0) e T4 cls (rawInt X.env.locals) h5:=by
  have hfv:(X.env.frame.elim Value.none λf=>rawInt f)=rawInt X.env.locals:=by rw[hfr];rfl
  rw[<-hfv];exact fl5
 unfold leaving;refine Z2 (Rk hfr fl5 (EV (s:={s1 with heap:=h5}) fl5 λh7 fl7 kp7=>?_));have n4:h'.get? T4=none:=n4;have h1:∀b o,s1.heap.get? b=some o->b≠e:=λb o q z=>by
  rw[z,new]at q;cases q
 have h3:∀b o,s1.heap.get? b=some o->b≠T4:=λb o q z=>by
  have:=keeps b o q;rw[z,n4]at this;cases this
 have he:∀b o,s1.heap.get? b=some o->b≠e/\b≠T4:=λb o q=>⟨h1 b o q,h3 b o q⟩
 have nr:Py (frs X.stack) (frs X.stack) s1.heap h7:=by
  refine⟨λb o q z=>?_,λb o m q=>?_,λ_ z=>z⟩
  ·refine kp7 b o (kp5 b o (nr4.keep b o (keeps b o q) λm=>?_) (he b o q).2) (he b o q).2;rcases B7.mp m with y|y
   ·exact(he b o q).1 y
   ·rcases B7.mp y with y|y
    ·exact(he b o q).1 y
    ·exact z y
  ·obtain⟨sl,k1⟩:=nr4.slot b o m (keeps b o q);exact⟨sl,kp7 b _ (kp5 b _ k1 (he b o q).2) (he b o q).2⟩
 have hn:∀b,(∀o,s1.heap.get? b≠some o)->X.s₀.heap.get? b=none/\H1 b=none:=λb z=>⟨I.gn hex (by
  cases q:s1.heap.get? b with
  |none=>rfl
  |some o=>exact absurd q (z o)),by
  cases q:H1 b with
  |none=>rfl
  |some u =>
   obtain⟨v,y⟩:=(I.hok b u q).be;exact absurd y (z v)⟩
 have hE1:=hn e λo q=>(he e o q).1 rfl;have hT1:=hn T4 λo q=>(he T4 o q).2 rfl;have base2:Un (frs X.outer) [] X.H₀ H1 X.s₀.heap s1.heap:=by
  have:=I.base;rw[hex]at this;exact this
 exact⟨e,T4,cls,some 0,H1,rfl,I.os,I.bare,LL base2 nr (λb z=>.inl z) I.frsOut,JI I.hok nr I.stkFree,fl7,hE1.1,hT1.1,hE1.2,hT1.2,hE⟩
def tTryR(K:W.Frag)(C C2:Addr)(S:St->Prop)(tb:XK->TS)(E:XK):TS:=λD σ H =>
 tb (λcls d H'=>d=none/\(∃D',cls=.ref D'/\GO K D'/\mroIn K D' (.ref C)=some true)/\E (.ref C2) (some 0) H') D σ H
theorem ps_tryR{C C2:Addr}{x y:Str}{z:Str}{np np2 tpos cpos rpos hpos pos:Pos}{j}{body:List Stmt}{S:St->Prop}{tb:XK->TS}
  (hg:Gl (Ca (CXE P w) P w K mg base N qual scope f cd A outer s H E) x) (hm:mg x=some (.ref C)) (hC:GO K C) (hg2:Gl (Ca (CXE P w) P w K mg base N qual scope f cd A outer s H E) y) (hm2:mg y=some (.ref C2)) (hC2:GO K C2)
  (hb:∀(xe:Value->Shared->Prop)(pn:List (Addr×Obj))(E1:XK),JP (CXE P w) {Ca (CXE P w) P w K mg base N qual scope f cd A outer s H E with xe:=xe,pn:=pn} E1 S->PSs {Ca (CXE P w) P w K mg base N qual scope f cd A outer s H E with xe:=xe,pn:=pn} body (tb E1))
  (hdb:(x==("__debug__" : Str))=false:=by decide) (hdb2:(y==("__debug__" : Str))=false:=by decide) :
  PS (Ca (CXE P w) P w K mg base N qual scope f cd A outer s H E) (.Try body [.ExceptHandler (some (.Name x np)) none [.Raise (some (.Call (.Name y np2) [.Constant (.str z) j tpos] [] cpos)) none rpos] hpos] [] [] pos) (tTryR K C C2 S tb E):=by
 intro pins s0 σ H0 D I h;refine wpAny_Try_except ?_;have I1:Inv {Ca (CXE P w) P w K mg base N qual scope f cd A outer s H E with xe:=NG (Ca (CXE P w) P w K mg base N qual scope f cd A outer s H E) pins D [.ExceptHandler (some (.Name x np)) none [.Raise (some (.Call (.Name y np2) [.Constant (.str z) j tpos] [] cpos)) none rpos] hpos],pn:=(Ca (CXE P w) P w K mg base N qual scope f cd A outer s H E).pn++pins} [] σ H0 s0 :=
  I.re I.ok.hd rfl (λp z=>by simpa using z)
 refine K1 (hb (NG (Ca (CXE P w) P w K mg base N qual scope f cd A outer s H E) pins D [.ExceptHandler (some (.Name x np)) none [.Raise (some (.Call (.Name y np2) [.Constant (.str z) j tpos] [] cpos)) none rpos] hpos]) ((Ca (CXE P w) P w K mg base N qual scope f cd A outer s H E).pn++pins) _ ?pass [] s0 σ H0 D I1 h) (λfl s1 q=>?_) (λe s1 q=>q)
 case pass =>
  intro pins' σ' H1 s1 e s' hS J hcx;refine land (pins:=pins) rfl rfl rfl hg hm hC rfl (λcls d H' ⟨_,⟨D',z,a,b⟩,_⟩=>⟨D',z,a,b⟩) J hcx (λa D' H' s2 d _ hE ha ho g0 gb nL nC nP nF J5 hset=>?_) hdb;obtain⟨dn,_,hE⟩:=hE;refine codeAny_handlers_suite (hset _ _ λs3 J3 L3 X3=>?_);obtain⟨o3,vs3,a1,a2,a3⟩:=X3 dn;obtain⟨bm,N0,nm,qn,bs,hd,sn,sub,ab,col,dd,k0,k1,k2,k3,k5,mN,hO,hN,hi,hT,hM⟩:=LY J3.mod.kin hC2;have hbase:bm.contains (.type "BaseException")=true:=hT.hasType A3;have k:∀b o,(Ca (CXE P w) P w K mg base N qual scope f cd A outer s H E).base.get? b=some o->s3.heap.get? b=some o:=J3.bk;have J6:Inv {Ca (CXE P w) P w K mg base N qual scope f cd A outer s H E with A:=(Ca (CXE P w) P w K mg base N qual scope f cd A outer s H E).A.mark (some (.ref a)),calm:=false,xe:=λ_ _=>False,pn:=(Ca (CXE P w) P w K mg base N qual scope f cd A outer s H E).pn} pins σ' H' s3:=J3.re (λz=>nomatch z) rfl (λ_ z=>z);refine wpAny_execs_cons (Nz (C:=C2) (a:=a) (nm:=nm) (q:=qn) (N:=N0) (bs:=bs) (bm:=bm) (hdct:=hd) (sn:=sn) (sub:=sub) (ab:=ab) (col:=col) (dd:=dd) (k0:=k0) (k1:=k1) (k2:=k2) (k3:=k3) (k5:=k5) (newId:="ValueError.__new__") (mN:=mN)
   A2h A3 A2h hbase rfl rfl hi (Fs J6 hg2 hm2 ⟨rfl,?_⟩ hdb2))
  refine A3d (A5h (Calls.Constant_str (pos:=tpos) (k:=j) (A7b ?_)));refine⟨rfl,(by show 1<=sizeLine;decide),k _ _ hO,hN.keeps k,hT.keeps k,⟨o3,vs3,a1,a2,a3⟩,λh' e' hx'=>?_⟩;obtain⟨t,e1,_⟩:=hx'.there;have J7:=J3.tok (s3.toks+1);refine leavesL (s1:={s3 with toks:=s3.toks+1}) (h':=h'.update e' (Obj.mapFields (·.setIfInBounds 2 (.ref a)))) (cls:=.ref C2) J7 hx'.new (λb o q=>?_) ⟨_,_,R0 _ e1 (A3b (A0e rfl _)),Obj.cls_mapFields _ _,A0e rfl _,?_,?_,λz=>nomatch z⟩ hE
  ·refine(N8 _ _ λz=>?_).trans (hx'.keeps b o q);have:=hx'.new;rw[z]at this;rw[this]at q;cases q
  ·simp
  ·simp
 have back:∀σ H0,Inv {Ca (CXE P w) P w K mg base N qual scope f cd A outer s H E with xe:=NG (Ca (CXE P w) P w K mg base N qual scope f cd A outer s H E) pins D [.ExceptHandler (some (.Name x np)) none [.Raise (some (.Call (.Name y np2) [.Constant (.str z) j tpos] [] cpos)) none rpos] hpos],pn:=(Ca (CXE P w) P w K mg base N qual scope f cd A outer s H E).pn++pins} [] σ H0 s1->Inv (Ca (CXE P w) P w K mg base N qual scope f cd A outer s H E) pins σ H0 s1 :=
  fun σ H0 J=>J.un_re J.ok.hd rfl (λp z=>by simpa using z)
 cases fl with
 |next=>exact A4a (q.map back)
 |brk=>exact q.map back
 |cont=>exact q.map back
 |ret u=>exact q.map back
end
section
variable{X:Cx}{K:W.Frag}
theorem Wh:∀{x:V},Lx x=true->eqV x x=true
 |.non,_=>rfl
 |.bl b,_=>by simp[eqV]
 |.int b,_=>by simp[eqV]
 |.str b,_=>by simp[eqV]
 |.byt _,h=>by cases h
 |.flt _,h=>by cases h
 |.ref _,h=>by cases h
 |.ty _,h=>by cases h
theorem Re{xs:List V}{us ws:List Value}{A:Around}{s:Shared}(r:AN xs us)(r':AN xs ws)(f:xs.all Lx=true)(j:Nat)(h1:j<us.toArray.size)(h2:j<ws.toArray.size):PySem.SeqAt.EqAt A s us.toArray[j] ws.toArray[j] true:=by
 have hj:j<xs.length:=by rw[r.length];simpa using h1
 obtain⟨u,e1,q1⟩:=r.get (C0 hj);obtain⟨u',e2,q2⟩:=r'.get (C0 hj);have g1:us.toArray[j]=u:=by
  have:us[j]?=some us.toArray[j]:=by simp
  rw[e1]at this;exact(X2 this).symm
 have g2:ws.toArray[j]=u':=by
  have:ws[j]?=some ws.toArray[j]:=by simp
  rw[e2]at this;exact(X2 this).symm
 rw[g1,g2];have fx:=M9.mp f _ (N7 hj);have:=Qm (A:=A) (s:=s) q2 fx (xs:=[xs[j]]) (us:=[u]) (.cons q1 .nil) (by simp[fx]) u A5;rw[Wi q1 fx,Wh fx]at this;exact this
def AlikeF(K:W.Frag)(H:Hp)(x y:V):Prop:=∃(a b:Addr)(xs:List V),x=.ref a/\y=.ref b/\SqT K H a xs/\SqT K H b xs/\xs.all Lx=true
theorem Ri(hu:X.A.units+64<cLine):OpR X (compareOp .NotEq) (λx y H Q=>AlikeF X.K H x y/\Q (.bl false) H):=by
 intro pins s σ H x y v u Q I rx ry h;obtain⟨⟨a,b,zs,rfl,rfl,h1,h2,fl⟩,q⟩:=h;cases rx;cases ry;obtain⟨xs,r1,p1,_⟩:=I.tuple h1;obtain⟨ys,r2,p2,_⟩:=I.tuple h2;refine PySem.SeqAt.RcNeAt.tuples (e:=λ_=>true) p1 p2 A0 (λj k1 k2=>Re r1 r2 fl j k1 k2) _ _ _ _ ?_;rw[D1,D1,<-r1.length,<-r2.length];simp only[A6b,Bool.and_true];rw[M9.mpr λ_ _=>rfl];exact⟨.bl _,H,I,rfl,q⟩
open PySem.SeqAt PySem.AutoSeq1 in
theorem UJ{s:Shared}{A:Around}{prog:Program}{w:World}{E:Value->Shared->Prop}(b:Str)(u:Tok)(l:Addr)(es:Array DictEntry)(ep:Nat)(Q:Value->Shared->Prop)(ho:s.heap.get? l=some {cls:=.type "dict",dict:=none,data:=.dict es ep,slots:=#[]})(hq:Q .notImplemented s):wpAny (model prog w) A (call (.builtin "str.__ne__") [.str b u,.ref l]) Q E s:=by
 have m:Meets (Builtin.«str.__ne__» ⟨[.str b u,.ref l],[]⟩) (λ_ R s=>s.heap.get? l=some {cls:=.type "dict",dict:=none,data:=.dict es ep,slots:=#[]}/\R (.ok (.ret .notImplemented)) s) :=
  .of_wp λprog w A R s h=>by obtain⟨hp,g,d,tk,os⟩:=s;obtain⟨hl,h⟩:=h;wp_walk using wpAny_loadPart' hl,wpAny_load hl;exact⟨_,rfl,h⟩
 exact A3e F.slot_str_ne_refl (A2e s b u) F.entry_str_ne (F.args_str_ne_2 _ _) m ⟨ho,hq⟩
open PySem.SeqAt in
theorem Qb{P:Program}{w:World}{s:Shared}{A:Around}{l:Addr}{kvs:List (Key×Value)}(da:s.heap.DictOf (Cb P w) l kvs)(b:Str)(u:Tok)(hu:A.units<cLine):RcNeAt A s (.ref l) (.str b u) true:=λprog w E Q h=>by
 obtain⟨⟨cls,dd,data,sl⟩,es,ep,ho,⟨e1,e2,e3⟩,hd,_⟩:=id da;simp only at e1 e2 e3 hd;subst e1 e2 e3 hd;refine rc_ne_decline_or (k:=false) da.typeIs (A2e s b u) A3 F.sub_str_dict F.slot_dict_ne F.slot_str_ne_refl (λQ' hq=>?_) (λQ' hq=>UJ b u l es ep Q' ho hq) (λ_ hq=>wpAny_of_eq (rfl:isSame (.ref l) (.str b u)=pure false) hq) (.inr hu) h;refine A1e F.slot_dict_ne da.typeIs F.entry_dict_ne ?_ (F.args_dict_ne_2 _ _);show wpAny _ _ (Builtin.Dict.dictSlotArgs "__ne__" ⟨[.ref l,.str b u],[]⟩ >>= _) _ _ s;refine Z2 ?_;unfold Builtin.Dict.dictSlotArgs;refine Z2 (wpAny_notOrdered_dict da.typeIs ?_);show wpAny _ _ (pure (Value.ref l,Value.str b u)) _ _ s;refine Z9 ?_;refine Z2 (A4h (T:="str") (A2e s b u) F.sub_str_dict ?_);simp only[Bool.not_false,A5f];refine Z2 (A1g ?_);exact Z9 ⟨_,rfl,hq⟩
def NeS(H:Hp)(x:V)(z:Str)(b:Bool):Prop:=(scal x (.str z)=true/\b=!decide (x=.str z))\/∃p,x=.ref p/\b=true/\((∃xs,H p=some (.lst xs))\/(∃xs,H p=some (.tup xs))\/∃kvs,H p=some (.dK kvs))
theorem Rj(hu:X.A.units+64<cLine):OpR X (compareOp .NotEq) (λx y H Q=>∃z b,y=.str z/\NeS H x z b/\Q (.bl b) H):=by
 intro pins s σ H x y v u Q I rx ry h;obtain⟨z,b,rfl,h,q⟩:=h;rcases h with ⟨hs,rfl⟩|⟨p,rfl,rfl,h⟩
 ·exact Dt pins s σ H x (.str z) v u Q I rx ry ⟨hs,q⟩
 ·cases rx;obtain⟨t,rfl⟩:=ry;rcases h with ⟨xs,h⟩|⟨xs,h⟩|⟨kvs,h⟩
  ·obtain⟨_,its,n,r,o⟩:=(show Bh X.prog X.w H s.heap p (.lst xs)from I.hok p _ h)
   exact PySem.SeqAt.RcNeAt.list_str z t ⟨_,o,rfl,n,rfl⟩ A0 _ _ _ _ ⟨.bl _,H,I,rfl,q⟩
  ·obtain⟨_,its,r,o⟩:=(show Bh X.prog X.w H s.heap p (.tup xs)from I.hok p _ h)
   exact PySem.SeqAt.RcNeAt.tuple_str z t o A0 _ _ _ _ ⟨.bl _,H,I,rfl,q⟩
  ·obtain⟨_,_,vs,_,d⟩:=(show Bh X.prog X.w H s.heap p (.dK kvs)from I.hok p _ h)
   exact Qb d z t A0 _ _ _ _ ⟨.bl _,H,I,rfl,q⟩
end
section
variable{X:Cx}
def rInsert:V->List V->Hp->VK->Prop:=λx vs H Q=>∃(l:Addr)(xs:List V)(i:Int)(y:V),x=.ref l/\vs=[.int i,y]/\H l=some (.lst xs)/\(0<=i/\i<=(xs.length:Int)/\xs.length<1000)/\Q .non (upd H l (.lst (xs.take i.toNat++y::xs.drop i.toNat)))
theorem Tw:MtM X "list.insert" rInsert:=by
 intro pins s σ H x vs v us Q I rx rv h;obtain⟨l,xs,i,y,rfl,rfl,hH,⟨hi,hk,hz⟩,q⟩:=h;cases rx;obtain⟨u,w,rfl,ru,rw'⟩:=rv.two;obtain⟨t,rfl⟩:=ru;obtain⟨z,its,n,r,hl,e⟩:=I.lstM hH;have h1000:1000<=sizeLine:=by decide
 have hf:¬(!Builtin.List.listFitsIndex i)=true:=by
  rw[fitsIndex_both A0 A0];exact D6
 have hs:its.toArray.size<=sizeLine:=by
  rw[D1];exact C8 A0 h1000
 refine A3e F.slot_list_insert ⟨_,e,rfl⟩ F.entry_list_insert (F.args_list_insert_3 _ _ _) (AutoSeq1.list_insert_list_int_val_1 l its.toArray n i t w hf hs) ⟨e,?_⟩;refine⟨.non,_,I.lset (its':=its.take i.toNat++w::its.drop i.toNat) hH e ?_ ((r.take i.toNat).append (.cons rw' (r.drop i.toNat))) ?_,rfl,q⟩
 ·show((its.toArray.extract 0 (if i<0 then(i+(its.toArray.size:Int)).toNat else min i.toNat its.toArray.size)).push w++its.toArray.extract (if i<0 then(i+(its.toArray.size:Int)).toNat else min i.toNat its.toArray.size))=_;rw[Z5 A0,D1,Nat.min_eq_left A0];simp;exact S2 (by rw[O0];exact B1 _)
 ·rw[B5,C4,N6,O0];exact C8 A0 h1000
end
section
variable{X:Cx}{scope:Scope}{N:List Str}{s:Shared}{H:Hp}{ex:List Addr}{x y z:Str}{px py pz pos:Pos}{k:Nat}
end
end L2
namespace J
open PySem L2
def top(i:Nat):Stmt:=PySem.Challenge.pw_jumpfield_k84_no_pattern.main.body.getD i (.Pass ⟨0,0,0,0⟩)
abbrev Jb:Stmt:=top 19
abbrev Ro:List Str:=["thing"]
abbrev EL:List Str:=["thing"]
theorem PP:Av Ro EL (Aj Jb):=⟨rfl,rfl,rfl,by decide +kernel,rfl,by decide +kernel,by decide +kernel⟩
abbrev Gi:Stmt:=top 20
abbrev OY:List Str:=["text"]
abbrev Gw:List Str:=["text"]
theorem MY:Av OY Gw (Aj Gi):=⟨rfl,rfl,rfl,by decide +kernel,rfl,by decide +kernel,by decide +kernel⟩
abbrev DV:Stmt:=top 21
abbrev LD:List Str:=["text"]
abbrev Ec:List Str:=["text"]
theorem JR:Av LD Ec (Aj DV):=⟨rfl,rfl,rfl,by decide +kernel,rfl,by decide +kernel,by decide +kernel⟩
abbrev DJ:Stmt:=top 22
abbrev IS:List Str:=["signs"]
abbrev FL:List Str:=["signs"]
theorem Mm:Av IS FL (Aj DJ):=⟨rfl,rfl,rfl,by decide +kernel,rfl,by decide +kernel,by decide +kernel⟩
abbrev Jc:Stmt:=top 25
abbrev Rp:List Str:=["thing"]
abbrev EM:List Str:=["thing"]
theorem PQ:Av Rp EM (Aj Jc):=⟨rfl,rfl,rfl,by decide +kernel,rfl,by decide +kernel,by decide +kernel⟩
abbrev Fz:Stmt:=top 32
abbrev Nd:List Str:=["box","limit"]
abbrev CN:List Str:=["box","limit"]
theorem Ml:Av Nd CN (Aj Fz):=⟨rfl,rfl,rfl,by decide +kernel,rfl,by decide +kernel,by decide +kernel⟩
abbrev Ja:Stmt:=top 33
abbrev Rm:List Str:=["grove","field"]
abbrev Gy:List Str:=["grove","field"]
theorem PN:Av Rm Gy (Aj Ja):=⟨rfl,rfl,rfl,by decide +kernel,rfl,by decide +kernel,by decide +kernel⟩
abbrev Gk:Stmt:=top 34
abbrev Pa:List Str:=["grove"]
abbrev GB:List Str:=["grove"]
theorem MZ:Av Pa GB (Aj Gk):=⟨rfl,rfl,rfl,by decide +kernel,rfl,by decide +kernel,by decide +kernel⟩
abbrev JT:Stmt:=top 35
abbrev Ts:List Str:=["grove","square","level","parts","bare"]
abbrev Ld:List Str:=["grove","square"]
theorem Gh:Av Ts Ld (Aj JT):=⟨rfl,rfl,rfl,by decide +kernel,rfl,by decide +kernel,by decide +kernel⟩
abbrev JU:Stmt:=top 36
abbrev Tt:List Str:=["grove","square","kept"]
abbrev IC:List Str:=["grove","square"]
theorem IZ:Av Tt IC (Aj JU):=⟨rfl,rfl,rfl,by decide +kernel,rfl,by decide +kernel,by decide +kernel⟩
abbrev Fh:Stmt:=top 37
abbrev Lu:List Str:=["grove","square","inner"]
abbrev Ij:List Str:=["grove","square"]
theorem Jo:Av Lu Ij (Aj Fh):=⟨rfl,rfl,rfl,by decide +kernel,rfl,by decide +kernel,by decide +kernel⟩
abbrev Dx:Stmt:=top 38
abbrev Li:List Str:=["grove","square","bare","place","quarter","part_place","part"]
abbrev DD:List Str:=["grove","square"]
theorem BJ:Av Li DD (Aj Dx):=⟨rfl,rfl,rfl,by decide +kernel,rfl,by decide +kernel,by decide +kernel⟩
abbrev EB:Stmt:=top 39
abbrev Mv:List Str:=["grove","field","box","wide"]
abbrev Dm:List Str:=["grove","field","box"]
theorem DR:Av Mv Dm (Aj EB):=⟨rfl,rfl,rfl,by decide +kernel,rfl,by decide +kernel,by decide +kernel⟩
abbrev Js:Stmt:=top 41
abbrev VD:List Str:=["grove","field","box","state","has_places","wide","solid"]
abbrev JA:List Str:=["grove","field","box","state"]
theorem Da:Av VD JA (Aj Js):=⟨rfl,rfl,rfl,by decide +kernel,rfl,by decide +kernel,by decide +kernel⟩
abbrev GY:Stmt:=top 42
abbrev Qd:List Str:=["box"]
abbrev Fo:List Str:=["box"]
theorem OE:Av Qd Fo (Aj GY):=⟨rfl,rfl,rfl,by decide +kernel,rfl,by decide +kernel,by decide +kernel⟩
abbrev JV:Stmt:=top 43
abbrev Tu:List Str:=["grove","field","box","reach","left","top","size"]
abbrev IE:List Str:=["grove","field","box"]
theorem Ex:Av Tu IE (Aj JV):=⟨rfl,rfl,rfl,by decide +kernel,rfl,by decide +kernel,by decide +kernel⟩
abbrev LQ:Stmt:=top 44
abbrev c9:List Str:=["grove","inner","outer","part","known","size","key","square"]
abbrev Gz:List Str:=["grove","inner","outer","part","known"]
theorem Ga:Av c9 Gz (Aj LQ):=⟨rfl,rfl,rfl,by decide +kernel,rfl,by decide +kernel,by decide +kernel⟩
abbrev CG:Stmt:=top 45
abbrev Lh:List Str:=["grove","key","half","known","inners","outers","part","columns","rows","made","place","column","row","quarter_part"]
abbrev CI:List Str:=["grove","key","half","known"]
theorem AM:Av Lh CI (Aj CG):=⟨rfl,rfl,rfl,by decide +kernel,rfl,by decide +kernel,by decide +kernel⟩
abbrev DW:Stmt:=top 46
abbrev LE:List Str:=["start","stop","half"]
abbrev CU:List Str:=["start","stop","half"]
theorem JS:Av LE CU (Aj DW):=⟨rfl,rfl,rfl,by decide +kernel,rfl,by decide +kernel,by decide +kernel⟩
abbrev GX:Stmt:=top 53
abbrev Qc:List Str:=["text","runs","figures","sign"]
abbrev Fl:List Str:=["text"]
theorem Bq:Av Qc Fl (Aj GX):=⟨rfl,rfl,rfl,by decide +kernel,rfl,by decide +kernel,by decide +kernel⟩
abbrev Fy:Stmt:=top 54
abbrev Nc:List Str:=["figures"]
abbrev FK:List Str:=["figures"]
theorem Mj:Av Nc FK (Aj Fy):=⟨rfl,rfl,rfl,by decide +kernel,rfl,by decide +kernel,by decide +kernel⟩
abbrev EC:Stmt:=top 57
abbrev Mw:List Str:=["grove","text","parts","place","x","y"]
abbrev EK:List Str:=["grove","text"]
theorem Bj:Av Mw EK (Aj EC):=⟨rfl,rfl,rfl,by decide +kernel,rfl,by decide +kernel,by decide +kernel⟩
abbrev Gj:Stmt:=top 58
abbrev OZ:List Str:=["word","number"]
abbrev Gx:List Str:=["word"]
theorem IO:Av OZ Gx (Aj Gj):=⟨rfl,rfl,rfl,by decide +kernel,rfl,by decide +kernel,by decide +kernel⟩
abbrev DX:Stmt:=top 59
abbrev LF:List Str:=["grove","x","y","runs","field","right","down","amount","sign"]
abbrev Ed:List Str:=["grove","x","y","runs"]
theorem AT:Av LF Ed (Aj DX):=⟨rfl,rfl,rfl,by decide +kernel,rfl,by decide +kernel,by decide +kernel⟩
abbrev JW:Stmt:=top 61
abbrev Tv:List Str:=["_law_script","_law_k"]
abbrev Le:List Str:=["_law_script","_law_k"]
theorem Rc:Av Tv Le (Aj JW):=⟨rfl,rfl,rfl,by decide +kernel,rfl,by decide +kernel,by decide +kernel⟩
abbrev Gm:Stmt:=top 62
abbrev Pb:List Str:=["_law_found"]
abbrev Ek:List Str:=["_law_found"]
theorem Na:Av Pb Ek (Aj Gm):=⟨rfl,rfl,rfl,by decide +kernel,rfl,by decide +kernel,by decide +kernel⟩
abbrev Jd:Stmt:=top 63
abbrev Rq:List Str:=["_law_cell","_law_k","_law_value"]
abbrev Jg:List Str:=["_law_cell","_law_k"]
theorem GW:Av Rq Jg (Aj Jd):=⟨rfl,rfl,rfl,by decide +kernel,rfl,by decide +kernel,by decide +kernel⟩
abbrev DY:Stmt:=top 64
abbrev LG:List Str:=["_law_grove","_law_field_here","_law_x","_law_y","_law_level","_law_half"]
abbrev Ee:List Str:=["_law_grove","_law_field_here","_law_x","_law_y"]
theorem AY:Av LG Ee (Aj DY):=⟨rfl,rfl,rfl,by decide +kernel,rfl,by decide +kernel,by decide +kernel⟩
abbrev Ej:Stmt:=top 65
abbrev JE:List Str:=["_law_grove","_law_square","_law_known"]
abbrev BX:List Str:=["_law_grove","_law_square","_law_known"]
theorem IP:Av JE BX (Aj Ej):=⟨rfl,rfl,rfl,by decide +kernel,rfl,by decide +kernel,by decide +kernel⟩
abbrev DZ:Stmt:=top 66
abbrev LH:List Str:=["_law_grove","_law_field_here","_law_known","_law_outer","_law_k","_law_quarter","_law_j","_law_part"]
abbrev CV:List Str:=["_law_grove","_law_field_here","_law_known"]
theorem BD:Av LH CV (Aj DZ):=⟨rfl,rfl,rfl,by decide +kernel,rfl,by decide +kernel,by decide +kernel⟩
abbrev FA:Stmt:=top 67
abbrev Nf:List Str:=["_law_grove","_law_square","_law_x","_law_y","_law_known","_law_level","_law_half","_law_cells","_law_k","_law_one"]
abbrev CO:List Str:=["_law_grove","_law_square","_law_x","_law_y","_law_known"]
theorem BI:Av Nf CO (Aj FA):=⟨rfl,rfl,rfl,by decide +kernel,rfl,by decide +kernel,by decide +kernel⟩
abbrev FB:Stmt:=top 68
abbrev Ng:List Str:=["_law_grove","_law_field_here","_law_known","_law_half"]
abbrev FM:List Str:=["_law_grove","_law_field_here"]
theorem Ey:Av Ng FM (Aj FB):=⟨rfl,rfl,rfl,by decide +kernel,rfl,by decide +kernel,by decide +kernel⟩
abbrev Dz:Stmt:=top 69
abbrev Lk:List Str:=["_law_cell","_law_value"]
abbrev DF:List Str:=["_law_cell"]
theorem Ff:Av Lk DF (Aj Dz):=⟨rfl,rfl,rfl,by decide +kernel,rfl,by decide +kernel,by decide +kernel⟩
abbrev FD:Stmt:=top 70
abbrev Ni:List Str:=["_law_cell","_law_amount"]
abbrev FO:List Str:=["_law_cell"]
theorem Ez:Av Ni FO (Aj FD):=⟨rfl,rfl,rfl,by decide +kernel,rfl,by decide +kernel,by decide +kernel⟩
abbrev EF:Stmt:=top 71
abbrev MA:List Str:=["_law_cell","_law_odd"]
abbrev EQ:List Str:=["_law_cell"]
theorem GP:Av MA EQ (Aj EF):=⟨rfl,rfl,rfl,by decide +kernel,rfl,by decide +kernel,by decide +kernel⟩
abbrev EE:Stmt:=top 72
abbrev Mz:List Str:=["_law_cell","_law_some"]
abbrev EO:List Str:=["_law_cell"]
theorem DU:Av Mz EO (Aj EE):=⟨rfl,rfl,rfl,by decide +kernel,rfl,by decide +kernel,by decide +kernel⟩
abbrev ED:Stmt:=top 73
abbrev Mx:List Str:=["_law_text","_law_cell","_law_sign","_law_at_here"]
abbrev EN:List Str:=["_law_text","_law_cell","_law_sign"]
theorem DT:Av Mx EN (Aj ED):=⟨rfl,rfl,rfl,by decide +kernel,rfl,by decide +kernel,by decide +kernel⟩
abbrev EH:Stmt:=top 74
abbrev MB:List Str:=["_law_text","_law_most","_law_sign"]
abbrev Dn:List Str:=["_law_text","_law_most"]
theorem GQ:Av MB Dn (Aj EH):=⟨rfl,rfl,rfl,by decide +kernel,rfl,by decide +kernel,by decide +kernel⟩
abbrev Ia:Stmt:=top 75
abbrev Qf:List Str:=["_law_text","_law_runs_here","_law_at_here","_law_amount"]
abbrev Fp:List Str:=["_law_text"]
theorem Cg:Av Qf Fp (Aj Ia):=⟨rfl,rfl,rfl,by decide +kernel,rfl,by decide +kernel,by decide +kernel⟩
abbrev FE:Stmt:=top 76
abbrev Nj:List Str:=["_law_text"]
abbrev FP:List Str:=["_law_text"]
theorem Mn:Av Nj FP (Aj FE):=⟨rfl,rfl,rfl,by decide +kernel,rfl,by decide +kernel,by decide +kernel⟩
abbrev Ib:Stmt:=top 77
abbrev Qg:List Str:=["_law_text","_law_ends","_law_halves","_law_left","_law_top","_law_runs_here"]
abbrev Ik:List Str:=["_law_text"]
theorem CF:Av Qg Ik (Aj Ib):=⟨rfl,rfl,rfl,by decide +kernel,rfl,by decide +kernel,by decide +kernel⟩
abbrev FC:Stmt:=top 78
abbrev Nh:List Str:=["_law_left","_law_top","_law_runs_here","_law_strips_here","_law_x","_law_y","_law_amount","_law_sign"]
abbrev FN:List Str:=["_law_left","_law_top","_law_runs_here"]
theorem Br:Av Nh FN (Aj FC):=⟨rfl,rfl,rfl,by decide +kernel,rfl,by decide +kernel,by decide +kernel⟩
abbrev FG:Stmt:=top 79
abbrev Nl:List Str:=["_law_strips_here","_law_y","_law_x","_law_amount","_law_state"]
abbrev FR:List Str:=["_law_strips_here"]
theorem Cv:Av Nl FR (Aj FG):=⟨rfl,rfl,rfl,by decide +kernel,rfl,by decide +kernel,by decide +kernel⟩
abbrev EG:Stmt:=top 80
abbrev Jj:List Str:=["_law_grove","_law_found","_law_strips_here","_law_known","_law_many","_law_y","_law_x","_law_amount","_law_state","_law_cells"]
abbrev Jh:List Str:=["_law_grove","_law_found","_law_strips_here"]
theorem Bm:Av Jj Jh (Aj EG):=⟨rfl,rfl,rfl,by decide +kernel,rfl,by decide +kernel,by decide +kernel⟩
abbrev GZ:Stmt:=top 81
abbrev Qe:List Str:=["_law_e","_law_kinds","_law_words"]
abbrev DL:List Str:=["_law_e"]
theorem Cf:Av Qe DL (Aj GZ):=⟨rfl,rfl,rfl,by decide +kernel,rfl,by decide +kernel,by decide +kernel⟩
abbrev Go:Stmt:=top 82
abbrev Pe:List Str:=["_law_grove","_law_thing","_law_found","_law_e"]
abbrev GD:List Str:=["_law_grove","_law_thing"]
theorem Fw:Av Pe GD (Aj Go):=⟨rfl,rfl,rfl,by decide +kernel,rfl,by decide +kernel,by decide +kernel⟩
abbrev FF:Stmt:=top 83
abbrev Nk:List Str:=["_law_thing","_law_found","_law_e"]
abbrev FQ:List Str:=["_law_thing"]
theorem EA:Av Nk FQ (Aj FF):=⟨rfl,rfl,rfl,by decide +kernel,rfl,by decide +kernel,by decide +kernel⟩
abbrev Dy:Stmt:=top 84
abbrev Lj:List Str:=["_law_found","_law_due","_law_one","_law_other"]
abbrev DE:List Str:=["_law_found","_law_due"]
theorem Dj:Av Lj DE (Aj Dy):=⟨rfl,rfl,rfl,by decide +kernel,rfl,by decide +kernel,by decide +kernel⟩
abbrev Gn:Stmt:=top 85
abbrev Pc:List Str:=["_law_grove","_law_text","_law_thing","_law_word_here","_law_found","_law_told","_law_due"]
abbrev GC:List Str:=["_law_grove","_law_text","_law_thing"]
theorem BH:Av Pc GC (Aj Gn):=⟨rfl,rfl,rfl,by decide +kernel,rfl,by decide +kernel,by decide +kernel⟩
abbrev UY:Stmt:=top 86
abbrev n_law:List Str:=["_law_script","_law_words","_law_k","_law_text","_law_thing","_law_grove","_law_body","_law_due","_law_word_here","_law_found"]
abbrev p_law:List Str:=["_law_script"]
theorem DS:Av n_law p_law (Aj UY):=⟨rfl,rfl,rfl,by decide +kernel,rfl,by decide +kernel,by decide +kernel⟩
abbrev Gr:Stmt:=En (top 28) 0
abbrev Ph:List Str:=["self","state","level","bare"]
abbrev GF:List Str:=["self"]
theorem DI:Av Ph GF (Aj Gr):=⟨rfl,rfl,rfl,by decide +kernel,rfl,by decide +kernel,by decide +kernel⟩
abbrev Gq:Stmt:=En (top 28) 1
abbrev Pg:List Str:=["self","parts","level","number"]
abbrev El:List Str:=["self","parts","level"]
theorem IQ:Av Pg El (Aj Gq):=⟨rfl,rfl,rfl,by decide +kernel,rfl,by decide +kernel,by decide +kernel⟩
abbrev EI:Stmt:=En (top 28) 2
abbrev MC:List Str:=["self","parts","number"]
abbrev BT:List Str:=["self","parts"]
theorem GR:Av MC BT (Aj EI):=⟨rfl,rfl,rfl,by decide +kernel,rfl,by decide +kernel,by decide +kernel⟩
abbrev Cw:Stmt:=En (top 28) 3
abbrev Im:List Str:=["self","square"]
abbrev CA:List Str:=["self","square"]
theorem GT:Av Im CA (Aj Cw):=⟨rfl,rfl,rfl,by decide +kernel,rfl,by decide +kernel,by decide +kernel⟩
abbrev Gp:Stmt:=En (top 28) 4
abbrev Pf:List Str:=["self","state"]
abbrev GE:List Str:=["self","state"]
theorem Nb:Av Pf GE (Aj Gp):=⟨rfl,rfl,rfl,by decide +kernel,rfl,by decide +kernel,by decide +kernel⟩
abbrev FH:Stmt:=En (top 28) 6
abbrev Nm:List Str:=["self","level","state","square","below"]
abbrev DK:List Str:=["self","level","state"]
theorem Dk:Av Nm DK (Aj FH):=⟨rfl,rfl,rfl,by decide +kernel,rfl,by decide +kernel,by decide +kernel⟩
abbrev DC:Stmt:=En (top 28) 7
abbrev Ln:List Str:=["self","square"]
abbrev AH:List Str:=["self","square"]
theorem Jr:Av Ln AH (Aj DC):=⟨rfl,rfl,rfl,by decide +kernel,rfl,by decide +kernel,by decide +kernel⟩
abbrev DB:Stmt:=En (top 28) 8
abbrev Lm:List Str:=["self","square"]
abbrev BP:List Str:=["self","square"]
theorem Jq:Av Lm BP (Aj DB):=⟨rfl,rfl,rfl,by decide +kernel,rfl,by decide +kernel,by decide +kernel⟩
abbrev DA:Stmt:=En (top 28) 9
abbrev Ll:List Str:=["self","square"]
abbrev Cd:List Str:=["self","square"]
theorem Jp:Av Ll Cd (Aj DA):=⟨rfl,rfl,rfl,by decide +kernel,rfl,by decide +kernel,by decide +kernel⟩
structure Ad where
 c_Grove:Addr
 x_FieldError:Addr
 x_NoNumber:Addr
 x_NoRule:Addr
 x_Restless:Addr
 x_NoSquare:Addr
 x_NoLevel:Addr
 x_NoState:Addr
 x_NoBox:Addr
 x_TooFar:Addr
 x_TooMany:Addr
 x_NoSteps:Addr
 x_NoPattern:Addr
 x_NoName:Addr
 x_NoRow:Addr
structure Top(K:W.Frag)(mg:Str->Option Value)(a:Ad):Prop where
 b_abs:mg "abs" = none
 b_all:mg "all" = none
 b_bool:mg "bool" = none
 b_enumerate:mg "enumerate" = none
 b_int:mg "int" = none
 b_isinstance:mg "isinstance" = none
 b_len:mg "len" = none
 b_list:mg "list" = none
 b_max:mg "max" = none
 b_min:mg "min" = none
 b_range:mg "range" = none
 b_sorted:mg "sorted" = none
 b_str:mg "str" = none
 b_sum:mg "sum" = none
 b_tuple:mg "tuple" = none
 b_zip:mg "zip" = none
 k_FIGURES:∃t,mg "FIGURES" = some (.str (Str.ofString "0123456789") t)
 k_MOST_FIGURES:∃t,mg "MOST_FIGURES" = some (.int 30 t)
 k_STATES:∃t,mg "STATES" = some (.int 8 t)
 k_TOP_LEVEL:∃t,mg "TOP_LEVEL" = some (.int 48 t)
 k_LIMIT:∃t,mg "LIMIT" = some (.int 1099511627776 t)
 k_LEAST_LEVEL:∃t,mg "LEAST_LEVEL" = some (.int 1 t)
 k_BLANK_SIGN:∃t,mg "BLANK_SIGN" = some (.str (Str.ofString ".") t)
 k_ROW_SIGN:∃t,mg "ROW_SIGN" = some (.str (Str.ofString "/") t)
 k_STATE_SIGNS:∃t,mg "STATE_SIGNS" = some (.str (Str.ofString ".ABCDEFG") t)
 k_RUN_SIGNS:∃t,mg "RUN_SIGNS" = some (.str (Str.ofString ".ABCDEFG/") t)
 k_MOST_AMOUNT_FIGURES:∃t,mg "MOST_AMOUNT_FIGURES" = some (.int 13 t)
 k_MOST_PLACE:∃t,mg "MOST_PLACE" = some (.int 9999999999999 t)
 m_Grove:mg "Grove" = some (.ref a.c_Grove)
 cl_Grove:Cls K a.c_Grove
 na_Grove_levels:Dr K a.c_Grove "levels"
 na_Grove_parts:Dr K a.c_Grove "parts"
 na_Grove_numbers:Dr K a.c_Grove "numbers"
 na_Grove_bares:Dr K a.c_Grove "bares"
 na_Grove_amounts:Dr K a.c_Grove "amounts"
 na_Grove_boxes:Dr K a.c_Grove "boxes"
 b_ValueError:mg "ValueError" = none
 mx_FieldError:mg "FieldError" = some (.ref a.x_FieldError)
 mx_NoNumber:mg "NoNumber" = some (.ref a.x_NoNumber)
 mx_NoRule:mg "NoRule" = some (.ref a.x_NoRule)
 mx_Restless:mg "Restless" = some (.ref a.x_Restless)
 mx_NoSquare:mg "NoSquare" = some (.ref a.x_NoSquare)
 mx_NoLevel:mg "NoLevel" = some (.ref a.x_NoLevel)
 mx_NoState:mg "NoState" = some (.ref a.x_NoState)
 mx_NoBox:mg "NoBox" = some (.ref a.x_NoBox)
 mx_TooFar:mg "TooFar" = some (.ref a.x_TooFar)
 mx_TooMany:mg "TooMany" = some (.ref a.x_TooMany)
 mx_NoSteps:mg "NoSteps" = some (.ref a.x_NoSteps)
 mx_NoPattern:mg "NoPattern" = some (.ref a.x_NoPattern)
 mx_NoName:mg "NoName" = some (.ref a.x_NoName)
 mx_NoRow:mg "NoRow" = some (.ref a.x_NoRow)
 ec_NoPattern:GO K a.x_NoPattern
 ec_TooFar:GO K a.x_TooFar
 ec_NoNumber:GO K a.x_NoNumber
 ec_FieldError:GO K a.x_FieldError
 ef_NoPattern:QO K a.x_NoPattern
 mr_NoPattern:mroIn K a.x_NoPattern (.ref a.x_FieldError)=some true
 kv_NoPattern:kitOne K (.ref a.x_NoPattern) (.type "ValueError")=some true
 ki_NoPattern_NoNumber:kitOne K (.ref a.x_NoPattern) (.ref a.x_NoNumber)=some false
 ki_NoPattern_NoRule:kitOne K (.ref a.x_NoPattern) (.ref a.x_NoRule)=some false
 ki_NoPattern_Restless:kitOne K (.ref a.x_NoPattern) (.ref a.x_Restless)=some false
 ki_NoPattern_NoSquare:kitOne K (.ref a.x_NoPattern) (.ref a.x_NoSquare)=some false
 ki_NoPattern_NoLevel:kitOne K (.ref a.x_NoPattern) (.ref a.x_NoLevel)=some false
 ki_NoPattern_NoState:kitOne K (.ref a.x_NoPattern) (.ref a.x_NoState)=some false
 ki_NoPattern_NoBox:kitOne K (.ref a.x_NoPattern) (.ref a.x_NoBox)=some false
 ki_NoPattern_TooFar:kitOne K (.ref a.x_NoPattern) (.ref a.x_TooFar)=some false
 ki_NoPattern_TooMany:kitOne K (.ref a.x_NoPattern) (.ref a.x_TooMany)=some false
 ki_NoPattern_NoSteps:kitOne K (.ref a.x_NoPattern) (.ref a.x_NoSteps)=some false
 ki_NoPattern_NoPattern:kitOne K (.ref a.x_NoPattern) (.ref a.x_NoPattern)=some true
 ki_NoPattern_NoName:kitOne K (.ref a.x_NoPattern) (.ref a.x_NoName)=some false
 ki_NoPattern_NoRow:kitOne K (.ref a.x_NoPattern) (.ref a.x_NoRow)=some false
 ef_TooFar:QO K a.x_TooFar
 mr_TooFar:mroIn K a.x_TooFar (.ref a.x_FieldError)=some true
 kv_TooFar:kitOne K (.ref a.x_TooFar) (.type "ValueError")=some true
 ki_TooFar_NoNumber:kitOne K (.ref a.x_TooFar) (.ref a.x_NoNumber)=some false
 ki_TooFar_NoRule:kitOne K (.ref a.x_TooFar) (.ref a.x_NoRule)=some false
 ki_TooFar_Restless:kitOne K (.ref a.x_TooFar) (.ref a.x_Restless)=some false
 ki_TooFar_NoSquare:kitOne K (.ref a.x_TooFar) (.ref a.x_NoSquare)=some false
 ki_TooFar_NoLevel:kitOne K (.ref a.x_TooFar) (.ref a.x_NoLevel)=some false
 ki_TooFar_NoState:kitOne K (.ref a.x_TooFar) (.ref a.x_NoState)=some false
 ki_TooFar_NoBox:kitOne K (.ref a.x_TooFar) (.ref a.x_NoBox)=some false
 ki_TooFar_TooFar:kitOne K (.ref a.x_TooFar) (.ref a.x_TooFar)=some true
 ki_TooFar_TooMany:kitOne K (.ref a.x_TooFar) (.ref a.x_TooMany)=some false
 ki_TooFar_NoSteps:kitOne K (.ref a.x_TooFar) (.ref a.x_NoSteps)=some false
 ki_TooFar_NoPattern:kitOne K (.ref a.x_TooFar) (.ref a.x_NoPattern)=some false
 ki_TooFar_NoName:kitOne K (.ref a.x_TooFar) (.ref a.x_NoName)=some false
 ki_TooFar_NoRow:kitOne K (.ref a.x_TooFar) (.ref a.x_NoRow)=some false
 mm_NoNumber_NoNumber:mroIn K a.x_NoNumber (.ref a.x_NoNumber)=some true
structure Sq where
 parts:List Int
 lev:Int
abbrev Gv:=List Sq
structure GA where
 p:Addr
 dx:Addr
 lv:Addr
 pt:Addr
 nm:Addr
 br:Addr
 am:Addr
 bx:Addr
def fl6(g:GA):List (Str×V):=Cm "boxes" (.ref g.bx) (Cm "amounts" (.ref g.am) (Cm "bares" (.ref g.br) (Cm "numbers" (.ref g.nm) (Cm "parts" (.ref g.pt) (Cm "levels" (.ref g.lv) [])))))
theorem Iv(g:GA):(fl6 g).lookup ("levels" : Str)=some (V.ref g.lv):=by
 unfold fl6;rw[AC,Z5 A1,AC,Z5 A1,AC,Z5 A1,AC,Z5 A1,AC,Z5 A1,AC,Z6 rfl]
theorem GK(g:GA):(fl6 g).lookup ("parts" : Str)=some (V.ref g.pt):=by
 unfold fl6;rw[AC,Z5 A1,AC,Z5 A1,AC,Z5 A1,AC,Z5 A1,AC,Z6 rfl]
theorem Wf(g:GA):(fl6 g).lookup ("numbers" : Str)=some (V.ref g.nm):=by
 unfold fl6;rw[AC,Z5 A1,AC,Z5 A1,AC,Z5 A1,AC,Z6 rfl]
theorem MN(g:GA):(fl6 g).lookup ("bares" : Str)=some (V.ref g.br):=by
 unfold fl6;rw[AC,Z5 A1,AC,Z5 A1,AC,Z6 rfl]
theorem fl6_am(g:GA):(fl6 g).lookup ("amounts" : Str)=some (V.ref g.am):=by
 unfold fl6;rw[AC,Z5 A1,AC,Z6 rfl]
theorem Iu(g:GA){m:Str}(h1:¬m=("boxes" : Str))(h2:¬m=("amounts" : Str))(h3:¬m=("bares" : Str))(h4:¬m=("numbers" : Str))(h5:¬m=("parts" : Str))(h6:¬m=("levels" : Str)):(fl6 g).lookup m=none:=by
 unfold fl6;rw[AC,Z5 h1,AC,Z5 h2,AC,Z5 h3,AC,Z5 h4,AC,Z5 h5,AC,Z5 h6];rfl
theorem OT(g:GA):(fl6 g).lookup ("kept" : Str)=none:=Iu g A1 A1 A1 A1 A1 A1
theorem Dc(g:GA):(fl6 g).lookup ("linked" : Str)=none:=Iu g A1 A1 A1 A1 A1 A1
theorem VC(g:GA):(fl6 g).lookup ("check_square" : Str)=none:=Iu g A1 A1 A1 A1 A1 A1
theorem no_leaf(g:GA):(fl6 g).lookup ("leaf" : Str)=none:=Iu g A1 A1 A1 A1 A1 A1
theorem BL(g:GA):(fl6 g).lookup ("level_of" : Str)=none:=Iu g A1 A1 A1 A1 A1 A1
theorem VB(g:GA):(fl6 g).lookup ("solid" : Str)=none:=Iu g A1 A1 A1 A1 A1 A1
theorem DN(g:GA):(fl6 g).lookup ("quarters" : Str)=none:=Iu g A1 A1 A1 A1 A1 A1
theorem Ji(g:GA):(fl6 g).lookup ("state_of" : Str)=none:=Iu g A1 A1 A1 A1 A1 A1
def kOf(ps:List Int):List Key:=ps.map Sum.inl
theorem kOf_v(ps:List Int):(kOf ps).map kV=ps.map V.int:=by unfold kOf;rw[U6];rfl
theorem SA:∀{ps qs:List Int},kOf ps=kOf qs->ps=qs
 |[],[],_=>rfl
 |[],_::_,h=>by cases h
 |_::_,[],h=>by cases h
 |x::r,y::t,h=>by
  have h:Sum.inl x::kOf r=(Sum.inl y:Key)::kOf t:=h;injection h with h1 h2
  injection h1 with h1
  rw[h1,SA h2]
def Ip:Nat->Gv->List (List Key×V)
 |_,[]=>[]
 |n,q::r=>(kOf q.parts,.int (n:Int))::Ip (n+1) r
theorem Qq:∀(G:Gv)(n:Nat),(Ip n G).length=G.length
 |[],_=>rfl
 |q::r,n=>by show(Ip (n+1) r).length+1=r.length+1;rw[Qq r]
theorem NW(q:Sq):∀(G:Gv)(n:Nat),Ip n (G++[q])=Ip n G++[(kOf q.parts,.int ((n+G.length:Nat):Int))]
 |[],_=>rfl
 |p::r,n=>by
  show(kOf p.parts,V.int (n:Int))::Ip (n+1) (r++[q])=_;rw[NW q r (n+1)];show _=(kOf p.parts,V.int (n:Int))::(Ip (n+1) r++[(kOf q.parts,V.int ((n+(r.length+1):Nat):Int))]);rw[show n+1+r.length=n+(r.length+1) by lia]
theorem Pj(ps:List Int):∀(G:Gv)(n:Nat),(∃(i:Nat)(q:Sq),G[i]?=some q/\q.parts=ps/\BR (Ip n G) (kOf ps)=some (.int ((n+i:Nat):Int)))\/(BR (Ip n G) (kOf ps)=none/\∀q∈G,q.parts≠ps)
 |[],n=>.inr ⟨rfl,λq hq=>by simp at hq⟩
 |p::r,n=>by
  by_cases e:p.parts=ps
  ·exact .inl ⟨0,p,rfl,e,BQ (by rw[e])⟩
  ·have ne:¬(kOf p.parts,V.int (n:Int)).1=kOf ps:=λz=>e (SA z);rcases Pj ps r (n+1)with ⟨i,q,h1,h2,h3⟩|⟨h1,h2⟩
   ·refine .inl ⟨i+1,q,h1,h2,?_⟩;show BR ((kOf p.parts,V.int (n:Int))::Ip (n+1) r) (kOf ps)=_;rw[Bz ne,h3,show n+1+i=n+(i+1) by lia]
   ·refine .inr ⟨?_,λq hq=>?_⟩
    ·show BR ((kOf p.parts,V.int (n:Int))::Ip (n+1) r) (kOf ps)=_;rw[Bz ne,h1]
    ·rcases B7.mp hq with rfl|hq
     ·exact e
     ·exact h2 q hq
def TupAt(H:Hp)(t:Addr)(q:Sq):Prop:=H t=some (.tup (q.parts.map V.int))
structure AX(a:Ad)(H:Hp)(g:GA)(G:Gv):Prop where
 hp:H g.p=some (.ins a.c_Grove g.dx (fl6 g))
 lv:H g.lv=some (.lst (G.map λq=>.int q.lev))
 pt:∃ts:List Addr,H g.pt=some (.lst (ts.map V.ref))/\Paired (TupAt H) ts G
 nm:H g.nm=some (.dT (Ip 0 G))
 ne:g.lv≠g.pt
def Fr(g:GA)(H H':Hp):Prop:=∀b o,H b=some o->b≠g.lv->b≠g.pt->b≠g.nm->H' b=some o
theorem Fr.refl(g:GA)(H:Hp):Fr g H H:=λ_ _ e _ _ _=>e
theorem Fr.trans{g:GA}{H1 H2 H3:Hp}(h:Fr g H1 H2)(h2:Fr g H2 H3):Fr g H1 H3:=λb o e n1 n2 n3=>h2 b o (h b o e n1 n2 n3) n1 n2 n3
theorem Aw.fr{g:GA}{H1 H2:Hp}(h:Aw H1 H2):Fr g H1 H2:=λb o e _ _ _=>h b o e
theorem PairedM.imp{α β:Type}{F G:α->β->Prop}(h:∀x y,F x y->G x y):∀{l:List α}{m:List β},Paired F l m->Paired G l m
 |_,_,.nil=>.nil
 |_,_,.cons r t=>.cons (h _ _ r) (PairedM.imp h t)
theorem PairedM.get{α β:Type}{F:α->β->Prop}:∀{l:List α}{m:List β}{i:Nat}{y:β},Paired F l m->m[i]?=some y->∃x,l[i]?=some x/\F x y
 |_,_,_,_,.nil,e=>by simp at e
 |_,_,0,_,.cons r _,e=>by simp at e;subst e;exact⟨_,rfl,r⟩
 |_,_,i+1,y,.cons _ t,e=>by
  obtain⟨x,h1,h2⟩:=PairedM.get (i:=i) (y:=y) t (by simpa using e);exact⟨x,by simpa using h1,h2⟩
theorem Al{H:Hp}{p:Addr}{o:HO}(h:H p=none):Aw H (upd H p o):=λb u e=>by
 rw[AD (Ax e h)];exact e
theorem AX.same{a:Ad}{H H':Hp}{g:GA}{G:Gv}(s:Aw H H')(h:AX a H g G):AX a H' g G:=by
 obtain⟨h1,h2,⟨ts,h3,h4⟩,h5,h6⟩:=h;exact⟨s _ _ h1,s _ _ h2,⟨ts,s _ _ h3,PairedM.imp (λt q z=>s _ _ z) h4⟩,s _ _ h5,h6⟩
theorem AX.put{a:Ad}{H:Hp}{g:GA}{G:Gv}{l:Addr}{xs:List V}{o:HO}(hl:H l=some (.lst xs))(n1:l≠g.lv)(n2:l≠g.pt)(h:AX a H g G):AX a (upd H l o) g G:=by
 obtain⟨h1,h2,⟨ts,h3,h4⟩,h5,h6⟩:=h;have other:∀{b v},H b=some v->v≠.lst xs->upd H l o b=some v:=λ{b v} e n=>by rw[AD (Bc e hl n)];exact e
 exact⟨other h1 A4,by rw[AD (X5 n1)];exact h2,⟨ts,by rw[AD (X5 n2)];exact h3,PairedM.imp (λt q z=>other z A4) h4⟩,other h5 A4,h6⟩
def Au(G:Gv)(x:Nat)(l:Int):Prop:=∃q,G[x]?=some q/\q.lev=l
structure GOk(G:Gv):Prop where
 leaf:∀s:Nat,s<8->G[s]?=some ⟨[(s:Int)],0⟩
 node:∀(i:Nat) q,G[i]?=some q->8<=i->∃x y z w:Nat,q.parts=[(x:Int),(y:Int),(z:Int),(w:Int)]/\(Au G x (q.lev-1)/\Au G y (q.lev-1)/\Au G z (q.lev-1)/\Au G w (q.lev-1))/\1<=q.lev/\q.lev<=48
 nd:(G.map Sq.parts).Nodup
theorem Au.lt{G:Gv}{x:Nat}{l:Int}(h:Au G x l):x<G.length:=by
 obtain⟨q,h,_⟩:=h;exact(B8.mp h).1
theorem LX{G r:Gv}{x:Nat}{q:Sq}(h:G[x]?=some q):(G++r)[x]?=some q:=by
 rw[M7 (B8.mp h).1];exact h
theorem Au.app{G r:Gv}{x:Nat}{l:Int}(h:Au G x l):Au (G++r) x l:=by
 obtain⟨q,h,e⟩:=h;exact⟨q,LX h,e⟩
theorem GOk.lev{G:Gv}(h:GOk G){i:Nat}{q:Sq}(e:G[i]?=some q):0<=q.lev/\q.lev<=48:=by
 by_cases h8:i<8
 ·rw[h.leaf i h8]at e;cases e;exact⟨R9 0,by show(0:Int)<=48;decide⟩
 ·obtain⟨x,y,z,w,_,_,h1,h2⟩:=h.node i q e A0;exact⟨by lia,h2⟩
theorem GOk.snoc{G:Gv}(h:GOk G){x y z w:Nat}{l:Int}(hx:Au G x l)(hy:Au G y l)(hz:Au G z l)(hw:Au G w l)(h47:l<=47)(new:∀q∈G,q.parts≠[(x:Int),(y:Int),(z:Int),(w:Int)]):GOk (G++[⟨[(x:Int),(y:Int),(z:Int),(w:Int)],l+1⟩]) where
 leaf:=λs hs=>LX (h.leaf s hs)
 node:=λi q e hi=>by
  by_cases hl:i<G.length
  ·rw[M7 hl]at e;obtain⟨x,y,z,w,h1,⟨a1,a2,a3,a4⟩,h3⟩:=h.node i q e hi;exact⟨x,y,z,w,h1,⟨a1.app,a2.app,a3.app,a4.app⟩,h3⟩
  ·rw[J9 A0]at e;have:i-G.length=0:=by
    by_cases z:i-G.length=0
    ·exact z
    ·rw[Q9 (by rw[O4];lia)]at e;cases e
   rw[this]at e;cases e;obtain⟨q0,e0,l0⟩:=hx;have:=(h.lev e0).1;have el:l+1-1=l:=by lia
   refine⟨x,y,z,w,rfl,?_,?_,?_⟩
   ·show Au _ x (l+1-1)/\Au _ y (l+1-1)/\Au _ z (l+1-1)/\Au _ w (l+1-1);rw[el];exact⟨Au.app ⟨q0,e0,l0⟩,hy.app,hz.app,hw.app⟩
   ·show 1<=l+1;lia
   ·show l+1<=48;lia
 nd:=by
  rw[D5,Y8];refine⟨h.nd,by simp,λp hp p' hp'=>?_⟩;obtain⟨q,hq,rfl⟩:=F1.mp hp;rw[show p'=[(x:Int),(y:Int),(z:Int),(w:Int)] by simpa using hp'];exact new q hq
theorem GOk.one{G:Gv}(h:GOk G){i j:Nat}{p q:Sq}(hi:G[i]?=some p)(hj:G[j]?=some q)(e:p.parts=q.parts):i=j:=by
 have li:=(B8.mp hi).1;have lj:=(B8.mp hj).1;have h1:(G.map Sq.parts)[i]'(by rw[B0];exact li)=(G.map Sq.parts)[j]'(by rw[B0];exact lj):=by
  rw[V7,V7,(B8.mp hi).2,(B8.mp hj).2,e]
 exact(List.getElem_inj h.nd).mp h1
seal L2.PA L2.PE L2.PS L2.PSs L2.PT L2.PW
theorem BB{n:Nat}(h:n<=10000000):n<=sizeLine:=C8 h A3
theorem Du{n:Nat}(h:n<10000000):n<sizeLine:=F2 h A3
theorem Sz(K:W.Frag):kitOne K (.type "int") (.type "int")=some true/\kitOne K (.type "int") (.type "bool")=some false:=⟨by kernel_rfl,by kernel_rfl⟩
section
variable{P:Program}{w:World}{K:W.Frag}{mg:Str->Option Value}{base:Heap}{a:Ad}
inductive SpIW(vs:List V)(H:Hp)(Q:VK):Prop
 |mk (i:Int) (_:vs=[.int i]) (_:Q (.bl true) H):SpIW vs H Q
def UQ:Sp:=λvs H Q _=>SpIW vs H Q
theorem ok_iw{f:Addr}{fd:FuncData}(F:Fun K "is_whole" "is_whole" Jb f fd)(T:Top K mg a):AO P w K mg base CX0 1 f fd EL UQ:=by
 refine F.ok PP (λvs H Q E h=>?_) (λcdv A outer s H vs Q E hr h=>?_)
 ·obtain⟨i,rfl,_⟩:=h;rfl
 ·obtain⟨i,rfl,k⟩:=h;exact⟨_,(Af (Am (Eb (As AS rfl T.b_isinstance Z7 (Aa (pv 0) (Aa (CT (v:=.ty "int") rfl T.b_int A0b rfl) Ac))) (FJ (Vi (As AS rfl T.b_isinstance Z7 (Aa (pv 0) (Aa (CT (v:=.ty "bool") rfl T.b_bool PyProof.Rows.boot_bool rfl) Ac)))))))),(xq1 rfl ⟨_,_,_,.type "int",true,rfl,rfl,.of (.int i),(Sz K).1,true,rfl,AI (xq1 rfl ⟨_,_,_,.type "int",false,rfl,rfl,.of (.int i),(Sz K).2,false,rfl,k⟩)⟩)⟩
inductive SpIS(vs:List V)(H:Hp)(Q:VK):Prop
 |mk (i:Int) (_:vs=[.int i]) (_:0<=i) (_:i<8) (_:Q (.bl true) H):SpIS vs H Q
def UR:Sp:=λvs H Q _=>SpIS vs H Q
theorem ok_is{f:Addr}{fd:FuncData}(F:Fun K "is_state" "is_state" Jc f fd)(T:Top K mg a)(aI:Cal P w K mg base CX0 1 "is_whole" EL UQ):AO P w K mg base CX0 2 f fd EM UR:=by
 refine F.ok PQ (λvs H Q E h=>?_) (λcdv A outer s H vs Q E hr h=>?_)
 ·obtain⟨i,rfl,_⟩:=h;rfl
 ·obtain⟨i,rfl,h0,h1,k⟩:=h;refine⟨_,(Af (Am (Eb (Aq aI (rm hr) rfl Ar (Aa (pv 0) Ac)) (FJ (Vo IR Fq Ae (pv 0) (Ct rfl T.k_STATES)))))),?_⟩
  try dsimp only[cxK]
  refine xq1 rfl ⟨i,rfl,true,rfl,AI (xwb rfl rfl rfl (xq1 rfl ?_))⟩;rw[Z3 h0];refine AI (xq2 rfl rfl ?_);show Q (.bl (decide (i<8))) H;rw[Z3 h1];exact k
inductive WL(a:Ad)(vs:List V)(H:Hp)(Q:VK):Prop
 |mk (g:GA) (G:Gv) (t:Addr) (ps:List Int) (l:Int) (_:vs=[.ref g.p,.ref t,.int l]) (_:AX a H g G) (_:H t=some (.tup (ps.map V.int))) (_:(∀q∈G,q.parts≠ps)) (_:G.length<9000000) (_:∀H',Fr g H H'->AX a H' g (G++[⟨ps,l⟩])->Q (.int (G.length:Int)) H'):WL a vs H Q
def OB(a:Ad):Sp:=λvs H Q _=>WL a vs H Q
theorem ok_kept{f:Addr}{fd:FuncData}(F:Fun K "kept" "Grove.kept" Gq f fd)(T:Top K mg a):AO P w K mg base CX0 1 f fd El (OB a):=by
 refine F.ok IQ (λvs H Q E h=>?_) (λcdv A outer s H vs Q E hr h=>?_)
 ·obtain⟨g,G,t,ps,l,rfl,_⟩:=h;rfl
 ·obtain⟨g,G,t,ps,l,rfl,hg,ht,new,few,k⟩:=h;obtain⟨h1,h2,⟨ts,h3,h4⟩,h5,h6⟩:=hg;have lt:ts.length=G.length:=A0a h4;refine⟨_,(Ab (Ah (i:=3) IQ.nd rfl (Or.inl rfl) (As BO rfl T.b_len K0 (Aa (BK (pv 0) rfl) Ac))) (Ab (LR (MK hr) (BK (pv 0) rfl) (pv 1) (pv 3) rfl) (Ab (Co (Cc X9 K2 K3 CJ (BK (pv 0) rfl) (Aa (pv 2) Ac))) (Ab (Co (Cc X9 K2 K3 CJ (BK (pv 0) rfl) (Aa (pv 1) Ac))) (Af (Am (pv 3))))))),?_⟩
  try dsimp only[cxK]
  refine xwf rfl rfl h1 T.cl_Grove T.na_Grove_levels (Iv g) ⟨g.lv,(xq1 rfl ⟨.inl (SqL.of h2),?_⟩)⟩;rw[B0];have ne1:g.p≠g.nm:=Bc h1 h5 A4;have ne2:g.lv≠g.nm:=Bc h2 h5 A4;have ne3:g.pt≠g.nm:=Bc h3 h5 A4;have ne4:g.p≠g.lv:=Bc h1 h2 A4;have ne5:g.p≠g.pt:=Bc h1 h3 A4;have vn:BR (Ip 0 G) (kOf ps)=none:=by
   rcases Pj ps G 0 with ⟨i,q,e1,e2,_⟩|⟨e,_⟩
   ·exact absurd e2 (new q (M3 e1))
   ·exact e
  refine xw2 rfl rfl (xq5 h1 T.cl_Grove T.na_Grove_numbers (Wf g) (xq1 rfl ⟨g.nm,(xq1 rfl ⟨NB.t (k:=kOf ps) h5 (by rw[kOf_v];exact ht) (by rw[Qq];exact Du A0),?_⟩)⟩));rw[Ju _ vn];have e5:Ip 0 G++[(kOf ps,V.int (G.length:Int))]=Ip 0 (G++[⟨ps,l⟩]):=by rw[NW,S1]
  rw[e5];generalize hH1:upd H g.nm (.dT (Ip 0 (G++[⟨ps,l⟩])))=H1;have k1:∀b o,H b=some o->b≠g.nm->H1 b=some o:=λb o e n=>by rw[<-hH1,AD n];exact e
  have n1:H1 g.nm=some (.dT (Ip 0 (G++[⟨ps,l⟩]))):=by rw[<-hH1];exact Ag
  refine xwf rfl rfl (k1 _ _ h1 ne1) T.cl_Grove T.na_Grove_levels (Iv g) ⟨.inl ⟨rfl,_,SqL.of (k1 _ _ h2 ne2)⟩,(xq1 rfl ⟨g.lv,(xq2 rfl rfl ⟨k1 _ _ h2 ne2,by rw[B0];exact Du A0,?_⟩)⟩)⟩;generalize hH2:upd H1 g.lv (.lst ((G.map λq=>V.int q.lev)++[.int l]))=H2;have k2:∀b o,H1 b=some o->b≠g.lv->H2 b=some o:=λb o e n=>by rw[<-hH2,AD n];exact e
  have n2:H2 g.lv=some (.lst ((G++[(⟨ps,l⟩:Sq)]).map λq=>V.int q.lev)):=by rw[<-hH2,Ag,D5];rfl
  have h3':=k2 _ _ (k1 _ _ h3 ne3) (X5 h6);refine xwf rfl rfl (k2 _ _ (k1 _ _ h1 ne1) ne4) T.cl_Grove T.na_Grove_parts (GK g) ⟨.inl ⟨rfl,_,SqL.of h3'⟩,(xq1 rfl ⟨g.pt,(xq2 rfl rfl ⟨h3',by rw[B0,lt];exact Du A0,?_⟩)⟩)⟩;generalize hH3:upd H2 g.pt (.lst (ts.map V.ref++[.ref t]))=H3;have k3:∀b o,H2 b=some o->b≠g.pt->H3 b=some o:=λb o e n=>by rw[<-hH3,AD n];exact e
  have n3:H3 g.pt=some (.lst ((ts++[t]).map V.ref)):=by rw[<-hH3,Ag,D5];rfl
  have fr:Fr g H H3:=λb o e m1 m2 m3=>k3 _ _ (k2 _ _ (k1 _ _ e m3) m1) m2;have tp:∀(c:Addr)(xs:List V),H c=some (.tup xs)->H3 c=some (.tup xs):=λc xs e=>fr _ _ e (Bc e h2 A4) (Bc e h3 A4) (Bc e h5 A4);refine xq1 rfl (k H3 fr ⟨fr _ _ h1 ne4 ne5 ne1,k3 _ _ n2 h6,⟨ts++[t],n3,A5c (PairedM.imp (λc q z=>tp c _ z) h4) (tp t _ ht)⟩,k3 _ _ (k2 _ _ n1 (X5 ne2)) (X5 ne3),h6⟩)
structure AV(G G':Gv)(n:Nat):Prop where
 ok:GOk G'
 pre:∃r,G'=G++r
 few:G'.length<=G.length+n
theorem AV.refl{G:Gv}(h:GOk G):AV G G 0:=⟨h,⟨[],by simp⟩,B1 _⟩
theorem AV.trans{G G' G'':Gv}{n m:Nat}(h:AV G G' n)(h2:AV G' G'' m):AV G G'' (n+m):=by
 obtain⟨r,e⟩:=h.pre;obtain⟨t,e2⟩:=h2.pre;have f1:=h.few;have f2:=h2.few;exact⟨h2.ok,⟨r++t,by rw[e2,e,M4]⟩,by lia⟩
theorem AV.get{G G':Gv}{n x:Nat}{q:Sq}(h:AV G G' n)(e:G[x]?=some q):G'[x]?=some q:=by
 obtain⟨r,e2⟩:=h.pre;rw[e2];exact LX e
theorem AV.lev{G G':Gv}{n x:Nat}{l:Int}(h:AV G G' n)(e:Au G x l):Au G' x l:=by
 obtain⟨q,e,z⟩:=e;exact⟨q,h.get e,z⟩
inductive WI(a:Ad)(vs:List V)(H:Hp)(Q:VK):Prop
 |mk (g:GA) (G:Gv) (t:Addr) (x y z w:Nat) (l:Int) (_:vs=[.ref g.p,.ref t]) (_:AX a H g G) (_:GOk G) (_:H t=some (.tup [.int x,.int y,.int z,.int w])) (_:(Au G x l/\Au G y l/\Au G z l/\Au G w l)) (_:l<=47) (_:G.length<9000000) (_:∀(n:Nat)(G':Gv)(H':Hp),Fr g H H'->AX a H' g G'->AV G G' 1->G'[n]?=some ⟨[(x:Int),(y:Int),(z:Int),(w:Int)],l+1⟩->Q (.int n) H'):WI a vs H Q
def IW(a:Ad):Sp:=λvs H Q _=>WI a vs H Q
theorem ok_link{f:Addr}{fd:FuncData}(F:Fun K "linked" "Grove.linked" EI f fd)(T:Top K mg a)(aH:CS P w K mg base CX0 1 a.c_Grove "kept" El (OB a)):AO P w K mg base CX0 2 f fd BT (IW a):=by
 refine F.ok GR (λvs H Q E h=>?_) (λcdv A outer s H vs Q E hr h=>?_)
 ·obtain⟨g,G,t,x,y,z,w,l,rfl,_⟩:=h;rfl
 ·obtain⟨g,G,t,x,y,z,w,l,rfl,hg,ok,ht,⟨hx,hy,hz,hw⟩,h47,few,k⟩:=h;have hg0:=hg;obtain⟨h1,h2,⟨ts,h3,h4⟩,h5,h6⟩:=hg;refine⟨_,(Ab (Ah (i:=2) GR.nd rfl (Or.inl rfl) (Vn (MK hr) (BK (pv 0) rfl) (pv 1) ⟨rfl,rfl,rfl,rfl⟩)) (Ab (AB (Ak Il (pv 2) Cz (An _)) (Af (Am (AK (pv 0) aH (rm hr) Ar (Aa (pv 1) (Cu AR (At AQ (BK (pv 0) rfl) (At Az (pv 1) Ae (λ_ _=>rfl)) (λ_ _=>rfl)) Ae Ac))))) Ap) (Af (Am (pv 2))))),?_⟩
  try dsimp only[cxK]
  refine xwf rfl rfl h1 T.cl_Grove T.na_Grove_numbers (Wf g) ⟨g.nm,rfl,.inr ⟨_,.inl h5⟩,(xq1 rfl ⟨_,IN.t (k:=kOf [(x:Int),(y:Int),(z:Int),(w:Int)]) h5 (by rw[kOf_v];exact ht),?_⟩)⟩;rcases Pj [(x:Int),(y:Int),(z:Int),(w:Int)] G 0 with ⟨i,q,e1,e2,e3⟩|⟨e,new⟩
  ·rw[e3];refine xq1 rfl ⟨rfl,(xq1 rfl (AE (xq1 rfl ?_)))⟩;rw[S1];refine k i G H (Fr.refl g H) hg0 ⟨ok,⟨[],by simp⟩,by lia⟩ ?_;have h8:8<=i:=by
    refine O5 λz'=>?_;rw[ok.leaf i z']at e1;cases e1;cases e2
   obtain⟨x',y',z',w',p1,⟨lx,_⟩,_⟩:=ok.node i q e1 h8;have exx:x'=x:=by
    rw[p1]at e2;injection e2 with e2 _
    exact X7 e2
   rw[exx]at lx;obtain⟨qa,a1,a2⟩:=lx;obtain⟨qb,b1,b2⟩:=hx;rw[a1]at b1;cases b1;have el:q.lev=l+1:=by lia
   rw[e1];cases q with
   |mk pp ll=>cases e2;cases el;rfl
  ·rw[e];refine xq1 rfl ⟨rfl,(xq1 rfl (AI ?_))⟩;obtain⟨q,e1,e2⟩:=id hx;refine xwn rfl rfl h1 (OT g) rfl (xwf rfl rfl h1 T.cl_Grove T.na_Grove_levels (Iv g) (xwi rfl rfl rfl (SqT.of ht) (Ai (j:=0) rfl) (xq4 rfl rfl (SqL.of h2) (Ai (by rw[C1,e1];rfl)) (xq2 rfl rfl ?_))));refine⟨g,G,t,[(x:Int),(y:Int),(z:Int),(w:Int)],l+1,by rw[<-e2];rfl,hg0,ht,new,few,λH' fr hg'=>?_⟩;refine k G.length _ H' fr hg' ⟨ok.snoc hx hy hz hw h47 new,⟨_,rfl⟩,by rw[B5];exact B1 _⟩ ?_;rw[J9 (B1 _),Nat.sub_self];rfl
inductive SpChk(a:Ad)(vs:List V)(H:Hp)(Q:VK):Prop
 |mk (g:GA) (G:Gv) (i:Nat) (_:vs=[.ref g.p,.int i]) (_:AX a H g G) (_:i<G.length) (_:Q .non H):SpChk a vs H Q
def UV(a:Ad):Sp:=λvs H Q _=>SpChk a vs H Q
theorem ok_chk{f:Addr}{fd:FuncData}(F:Fun K "check_square" "Grove.check_square" Cw f fd)(T:Top K mg a)(aI:Cal P w K mg base CX0 1 "is_whole" EL UQ):AO P w K mg base CX0 2 f fd CA (UV a):=by
 refine F.ok GT (λvs H Q E h=>?_) (λcdv A outer s H vs Q E hr h=>?_)
 ·obtain⟨g,G,i,rfl,_⟩:=h;rfl
 ·obtain⟨g,G,i,rfl,hg,hi,k⟩:=h;refine⟨_,(Af (AB (PW.pt (BM (Bp (AZ (Aq aI (rm hr) rfl Ar (Aa (pv 1) Ac)))) (BE (Bp (Jw IR Fq Ae (pv 1) (As BO rfl T.b_len K0 (Aa (BK (pv 0) rfl) Ac))))))) (Af Cy) Ap)),?_⟩
  try dsimp only[cxK]
  refine⟨_,rfl,_,rfl,true,rfl,AE ⟨_,rfl,_,_,rfl,rfl,_,rfl,?_⟩⟩;rw[Z3 (by lia:(0:Int)<=(i:Int))];refine AI (xwf rfl rfl hg.hp T.cl_Grove T.na_Grove_levels (Iv g) ⟨g.lv,(xq1 rfl ⟨.inl (SqL.of hg.lv),(xq2 rfl rfl (xq1 rfl ?_))⟩)⟩);rw[B0,Z3 (by lia:(i:Int)<(G.length:Int))];exact AE k
inductive WJ(a:Ad)(vs:List V)(H:Hp)(Q:VK):Prop
 |mk (p:Addr) (i:Int) (_:vs=[.ref p,.int i]) (_:0<=i) (_:i<8) (_:Q (.int i) H):WJ a vs H Q
def QW(a:Ad):Sp:=λvs H Q _=>WJ a vs H Q
theorem ok_leaf{f:Addr}{fd:FuncData}(F:Fun K "leaf" "Grove.leaf" Gp f fd)(T:Top K mg a)(aJ:Cal P w K mg base CX0 2 "is_state" EM UR):AO P w K mg base CX0 3 f fd GE (QW a):=by
 refine F.ok Nb (λvs H Q E h=>?_) (λcdv A outer s H vs Q E hr h=>?_)
 ·obtain⟨g,i,rfl,_⟩:=h;rfl
 ·obtain⟨g,i,rfl,h0,h1,k⟩:=h;exact⟨_,(Ab (AB (Bp (AZ (Aq aJ (rm hr) rfl Ar (Aa (pv 1) Ac)))) (Af Cy) Ap) (Af (Am (pv 1)))),(xq1 rfl ⟨i,rfl,h0,h1,true,rfl,AE (xq1 rfl k)⟩)⟩
inductive SpLev(a:Ad)(vs:List V)(H:Hp)(Q:VK):Prop
 |mk (g:GA) (G:Gv) (i:Nat) (q:Sq) (_:vs=[.ref g.p,.int i]) (_:AX a H g G) (_:G[i]?=some q) (_:Q (.int q.lev) H):SpLev a vs H Q
def Fe(a:Ad):Sp:=λvs H Q _=>SpLev a vs H Q
theorem ok_lev{f:Addr}{fd:FuncData}(F:Fun K "level_of" "Grove.level_of" DC f fd)(T:Top K mg a)(aL:CS P w K mg base CX0 2 a.c_Grove "check_square" CA (UV a)):AO P w K mg base CX0 3 f fd AH (Fe a):=by
 refine F.ok Jr (λvs H Q E h=>?_) (λcdv A outer s H vs Q E hr h=>?_)
 ·obtain⟨g,G,i,q,rfl,_⟩:=h;rfl
 ·obtain⟨g,G,i,q,rfl,hg,hi,k⟩:=h;refine⟨_,(Ab (Co (AK (pv 0) aL (rm hr) Ar (Aa (pv 1) Ac))) (Af (Am (At AQ (BK (pv 0) rfl) (pv 1) (λ_ _=>rfl))))),?_⟩
  try dsimp only[cxK]
  refine xwn rfl rfl hg.hp (VC g) rfl ⟨g,G,i,rfl,hg,(B8.mp hi).1,?_⟩;exact xwf rfl rfl hg.hp T.cl_Grove T.na_Grove_levels (Iv g) (xwi rfl rfl rfl (SqL.of hg.lv) (Ai (by rw[C1,hi];rfl)) k)
inductive SpQua(a:Ad)(vs:List V)(H:Hp)(Q:VK):Prop
 |mk (g:GA) (G:Gv) (i:Nat) (q:Sq) (_:vs=[.ref g.p,.int i]) (_:AX a H g G) (_:G[i]?=some q) (_:q.lev≠0) (_:∀t,H t=some (.tup (q.parts.map V.int))->Q (.ref t) H):SpQua a vs H Q
def NM(a:Ad):Sp:=λvs H Q _=>SpQua a vs H Q
theorem ok_qua{f:Addr}{fd:FuncData}(F:Fun K "quarters" "Grove.quarters" DB f fd)(T:Top K mg a)(a5:CS P w K mg base CX0 3 a.c_Grove "level_of" AH (Fe a)):AO P w K mg base CX0 4 f fd BP (NM a):=by
 refine F.ok Jq (λvs H Q E h=>?_) (λcdv A outer s H vs Q E hr h=>?_)
 ·obtain⟨g,G,i,q,rfl,_⟩:=h;rfl
 ·obtain⟨g,G,i,q,rfl,hg,hi,h0,k⟩:=h;refine⟨_,(Ab (AB (Ak Bg (AK (pv 0) a5 (rm hr) Ar (Aa (pv 1) Ac)) Ae (An _)) (Af Cy) Ap) (Af (Am (At AQ (BK (pv 0) rfl) (pv 1) (λ_ _=>rfl))))),?_⟩
  try dsimp only[cxK]
  refine xwn rfl rfl hg.hp (BL g) rfl ⟨g,G,i,q,rfl,hg,hi,rfl,(xq1 rfl ?_)⟩;rw[Z4 (by intro z;injection z with z;exact h0 z)];obtain⟨ts,h3,h4⟩:=hg.pt;obtain⟨t,et,ht⟩:=PairedM.get h4 hi;exact AE (xwf rfl rfl hg.hp T.cl_Grove T.na_Grove_parts (GK g) (xwi rfl rfl rfl (SqL.of h3) (Ai (by rw[C1,et];rfl)) (k t ht)))
inductive SpSta(a:Ad)(vs:List V)(H:Hp)(Q:VK):Prop
 |mk (g:GA) (G:Gv) (i:Nat) (q:Sq) (_:vs=[.ref g.p,.int i]) (_:AX a H g G) (_:G[i]?=some q) (_:q.lev=0) (_:Q (.int i) H):SpSta a vs H Q
def PJ(a:Ad):Sp:=λvs H Q _=>SpSta a vs H Q
theorem ok_sta{f:Addr}{fd:FuncData}(F:Fun K "state_of" "Grove.state_of" DA f fd)(T:Top K mg a)(a5:CS P w K mg base CX0 3 a.c_Grove "level_of" AH (Fe a)):AO P w K mg base CX0 4 f fd Cd (PJ a):=by
 refine F.ok Jp (λvs H Q E h=>?_) (λcdv A outer s H vs Q E hr h=>?_)
 ·obtain⟨g,G,i,q,rfl,_⟩:=h;rfl
 ·obtain⟨g,G,i,q,rfl,hg,hi,h0,k⟩:=h;refine⟨_,(Ab (AB (Ak Dt (AK (pv 0) a5 (rm hr) Ar (Aa (pv 1) Ac)) Ae (An _)) (Af Cy) Ap) (Af (Am (pv 1)))),?_⟩
  try dsimp only[cxK]
  refine xwn rfl rfl hg.hp (BL g) rfl ⟨g,G,i,q,rfl,hg,hi,rfl,(xq1 rfl ?_)⟩;rw[h0];exact SB rfl (xq1 rfl k)
end
def Sol(G:Gv)(s:Nat):Nat->Nat->Prop
 |0,n=>n=s
 |l+1,n=>∃m:Nat,Sol G s l m/\G[n]?=some ⟨[(m:Int),(m:Int),(m:Int),(m:Int)],(l:Int)+1⟩
theorem Sol.lev{G:Gv}(h:GOk G){s:Nat}(hs:s<8):∀{l n:Nat},Sol G s l n->Au G n l
 |0,n,e=>by
  have e:n=s:=e;subst e;exact⟨_,h.leaf n hs,rfl⟩
 |l+1,n,e=>by
  obtain⟨m,_,e⟩:=e;exact⟨_,e,rfl⟩
theorem Sol.goes{G G':Gv}{k:Nat}(h:AV G G' k){s:Nat}:∀{l n:Nat},Sol G s l n->Sol G' s l n
 |0,n,e=>e
 |l+1,n,e=>by
  obtain⟨m,e1,e2⟩:=e;exact⟨m,Sol.goes h e1,h.get e2⟩
section
variable{P:Program}{w:World}{K:W.Frag}{mg:Str->Option Value}{base:Heap}{a:Ad}
inductive SS(a:Ad)(vs:List V)(H:Hp)(Q:VK):Prop
 |mk (g:GA) (G:Gv) (l s:Nat) (_:vs=[.ref g.p,.int l,.int s]) (_:AX a H g G) (_:GOk G) (_:l<=48) (_:s<8) (_:G.length<8000000) (_:∀(n:Nat)(G':Gv)(H':Hp),Fr g H H'->AX a H' g G'->AV G G' l->Sol G' s l n->Q (.int n) H'):SS a vs H Q
def LO(a:Ad):Sp:=λvs H Q _=>SS a vs H Q
theorem Vw{f:Addr}{fd:FuncData}(F:Fun K "solid" "Grove.solid" FH f fd)(T:Top K mg a)(aI:Cal P w K mg base CX0 1 "is_whole" EL UQ)(bN:CS P w K mg base CX0 3 a.c_Grove "leaf" GE (QW a))(a6:CS P w K mg base CX0 2 a.c_Grove "linked" BT (IW a)):AO P w K mg base CX0 4 f fd DK (LO a):=by
 refine F.ok Dk (λvs H Q E h=>?_) (λcdv A outer s H vs Q E hr h=>?_)
 ·obtain⟨g,G,l,s,rfl,_⟩:=h;rfl
 ·obtain⟨g,G,l,st,rfl,hg,ok,h48,h8,few,k⟩:=h;refine⟨_,(Ab (AB (PW.pt (BM (Bp (AZ (Aq aI (rm hr) rfl Ar (Aa (pv 1) Ac)))) (BE (Bp (Jw IR IR Ae (pv 1) (Ct rfl T.k_TOP_LEVEL)))))) (Af Cy) Ap) (Ab (Ah (i:=3) Dk.nd rfl (Or.inl rfl) (AK (pv 0) bN (rm hr) Ar (Aa (pv 2) Ac))) (Ab (Ci X8 rfl (Gb rfl T.b_range (Aa (pv 1) Ac)) (AF (i:=4) Dk.nd rfl (Or.inl rfl)) (Af (Ah (i:=3) Dk.nd rfl (Or.inl rfl) (AK (pv 0) a6 (rm hr) Ar (Cn (Aa (pv 3) (Aa (pv 3) (Aa (pv 3) (Aa (pv 3) Ac)))) Ac))))) (Af (Am (pv 3)))))),?_⟩
  try dsimp only[cxK]
  refine⟨_,rfl,_,rfl,true,rfl,AE ⟨_,rfl,_,_,rfl,rfl,_,rfl,?_⟩⟩;rw[Z3 (by lia:(0:Int)<=(l:Int))];refine AI (xq2 rfl rfl (xq1 rfl ?_));rw[Z3 (by lia:(l:Int)<=(48:Int))];refine AE (xwn rfl rfl hg.hp (no_leaf g) rfl ⟨g.p,(st:Int),rfl,by lia,by lia,?_⟩);refine xw2 rfl rfl ⟨by lia,by lia,?_⟩;rw[G7];refine Gc (n:=l) (λi σ H2=>∃(G':Gv)(m:Nat)(u4:Option V),σ=[some (.ref g.p),some (.int l),some (.int st),some (.int m),u4]/\Fr g H H2/\AX a H2 g G'/\AV G G' i/\Sol G' st i m) ⟨G,st,none,rfl,Fr.refl g H,hg,AV.refl ok,rfl⟩ ?_ ?_
  ·rintro i σ H2 hi ⟨G',m,u4,rfl,fr,hg2,go,so⟩;have lf:=go.few;have lm:=Sol.lev go.ok h8 so;refine xwn rfl rfl hg2.hp (Dc g) rfl (xw3 rfl rfl rfl ⟨(by show 4<=sizeLine;decide),λt ht=>?_⟩);have s3:=Al (o:=.tup [.int m,.int m,.int m,.int m]) ht;refine⟨g,G',t,m,m,m,m,(i:Int),rfl,hg2.same s3,go.ok,Ag,⟨lm,lm,lm,lm⟩,by lia,by lia,λn G'' H' fr' hg' go' e=>?_⟩;exact⟨G'',n,(xq1 rfl ⟨(fr.trans (Aw.fr s3)).trans fr',hg',go.trans go',m,Sol.goes go' so,e⟩)⟩
  ·rintro σ H2 ⟨G',m,u4,rfl,fr,hg2,go,so⟩;exact xq1 rfl (k m G' H2 fr hg2 go so)
end
end J
namespace J
open PySem L2
def bareN:Nat->Nat
 |0=>0
 |j+1=>8+j
def De(n:Nat):Gv:=(List.range n).map λ(s:Nat)=>(⟨[(s:Int)],0⟩:Sq)
def EY(n:Nat):Gv:=(List.range n).map λ(j:Nat)=>(⟨[(bareN j:Int),(bareN j:Int),(bareN j:Int),(bareN j:Int)],(j:Int)+1⟩:Sq)
def G0:Gv:=De 8++EY 48
theorem Rz(n:Nat):De (n+1)=De n++[⟨[(n:Int)],0⟩]:=by unfold De;rw[R5,D5];rfl
theorem MU(n:Nat):EY (n+1)=EY n++[⟨[(bareN n:Int),(bareN n:Int),(bareN n:Int),(bareN n:Int)],(n:Int)+1⟩]:=by unfold EY;rw[R5,D5];rfl
theorem Et(n:Nat):(De n).length=n:=by unfold De;rw[B0,N3]
theorem Ou(n:Nat):(EY n).length=n:=by unfold EY;rw[B0,N3]
theorem Um{i j:Nat}(h:bareN i=bareN j):i=j:=by
 cases i<;>cases j
 ·rfl
 ·have:0=8+_:=h;lia
 ·have:8+_=0:=h;lia
 ·have:8+_=8+_:=h;lia
theorem TK(n:Nat):∀q∈De n,q.parts≠[(n:Int)]:=λq hq z=>by
 obtain⟨s,hs,rfl⟩:=F1.mp hq;have:=M2.mp hs;injection z with z _
 have:s=n:=X7 z;lia
theorem Ot(n:Nat):∀q∈De 8++EY n,q.parts≠[(bareN n:Int),(bareN n:Int),(bareN n:Int),(bareN n:Int)]:=λq hq z=>by
 rcases C6.mp hq with hq|hq
 ·obtain⟨s,hs,rfl⟩:=F1.mp hq;cases z
 ·obtain⟨s,hs,rfl⟩:=F1.mp hq;have:=M2.mp hs;injection z with z _
  have:=Um (X7 z);lia
theorem RG:G0.length=56:=by unfold G0;rw[B5,Et,Ou]
theorem Pp(j:Nat)(h:j<48):G0[8+j]?=some ⟨[(bareN j:Int),(bareN j:Int),(bareN j:Int),(bareN j:Int)],(j:Int)+1⟩:=by
 unfold G0;rw[J9 (by rw[Et];lia),Et,show 8+j-8=j by lia];unfold EY;rw[C1,Q0 h];rfl
theorem Po(s:Nat)(h:s<8):G0[s]?=some ⟨[(s:Int)],0⟩:=by
 unfold G0;rw[M7 (by rw[Et];exact h)];unfold De;rw[C1,Q0 h];rfl
theorem Wc(j:Nat)(h:j<=48):Au G0 (bareN j) (j:Int):=by
 cases j with
 |zero=>exact⟨_,Po 0 A3,rfl⟩
 |succ j=>exact⟨_,Pp j A0,rfl⟩
theorem g0_nd:∀n,((De 8++EY n).map Sq.parts).Nodup
 |0=>by decide
 |n+1=>by
  rw[MU,<-M4,D5,Y8];refine⟨g0_nd n,by simp,λp hp p' hp'=>?_⟩;obtain⟨q,hq,rfl⟩:=F1.mp hp;rw[show p'=[(bareN n:Int),(bareN n:Int),(bareN n:Int),(bareN n:Int)] by simpa using hp'];exact Ot n q hq
theorem g0_ok:GOk G0 where
 leaf:=Po
 node:=λi q e h8=>by
  have hi:i<56:=by rw[<-RG];exact(B8.mp e).1
  obtain⟨j,rfl⟩:∃j,i=8+j:=⟨i-8,by lia⟩
  rw[Pp j A0]at e;cases e;have:=Wc j A0;refine⟨bareN j,bareN j,bareN j,bareN j,rfl,?_,?_,?_⟩
  ·show Au G0 _ ((j:Int)+1-1)/\Au G0 _ ((j:Int)+1-1)/\Au G0 _ ((j:Int)+1-1)/\Au G0 _ ((j:Int)+1-1);rw[show(j:Int)+1-1=(j:Int) by lia];exact⟨this,this,this,this⟩
  ·show 1<=(j:Int)+1;lia
  ·show(j:Int)+1<=48;lia
 nd:=g0_nd 48
def amK(n:Nat):List (Key×V):=(List.range n).map λ(s:Nat)=>(Sum.inl (s:Int),V.int (if(1:Int)<(s:Int)then 1 else(s:Int)))
theorem QH(n:Nat):amK (n+1)=amK n++[(Sum.inl (n:Int),V.int (if(1:Int)<(n:Int)then 1 else(n:Int)))]:=by unfold amK;rw[R5,D5];rfl
theorem amK_len(n:Nat):(amK n).length=n:=by unfold amK;rw[B0,N3]
theorem RW{κ:Type}[DecidableEq κ]{k:κ}:∀{l m:List (κ×V)},BR l k=none->BR (l++m) k=BR m k
 |[],_,_=>rfl
 |p::r,m,h=>by
  by_cases e:p.1=k
  ·rw[BQ e]at h;cases h
  ·rw[Bz e]at h;show BR (p::(r++m)) k=_;rw[Bz e];exact RW h
theorem QI(n:Nat):∀m,n<=m->BR (amK n) (Sum.inl (m:Int))=none:=by
 induction n with
 |zero=>intro m _;rfl
 |succ n ih =>
  intro m hm;rw[QH,RW (ih m A0),Bz (by intro z;injection z with z;have:=X7 z;lia)];rfl
def Dv(n:Nat):List Int:=(List.range (n+1)).map λj=>((bareN j:Nat):Int)
theorem MV(n:Nat):Dv (n+1)=Dv n++[((bareN (n+1):Nat):Int)]:=by unfold Dv;rw[R5,D5];rfl
theorem RN(n:Nat):(Dv n).getLast?=some ((bareN n:Nat):Int):=by
 cases n with
 |zero=>rfl
 |succ n=>rw[MV,List.getLast?_append];rfl
theorem WA{xs:List V}{x:V}(h:xs.getLast?=some x):atI xs (-1)=some x:=by
 obtain⟨ys,rfl⟩:=List.getLast?_eq_some_iff.mp h;unfold atI ixN;rw[Z5 A3,Z6 (by rw[B5,O4];lia)];show(ys++[x])[((-1:Int)+((ys++[x]).length:Nat)).toNat]?=some x;rw[B5,O4,show((-1:Int)+((ys.length+1:Nat):Int)).toNat=ys.length by lia,J9 (B1 _),Nat.sub_self];rfl
seal L2.PA L2.PE L2.PS L2.PSs L2.PT L2.PW
structure QN(a:Ad)(H H':Hp)(g:GA)(G:Gv)(B:List Int)(am:List (Key×V)):Prop where
 kp:∀b o,H b=some o->b≠g.p->H' b=some o
 at':AX a H' g G
 br:H' g.br=some (.lst (B.map V.int))
 am:H' g.am=some (.dK am)
 bx:H' g.bx=some (.dK [])
 fresh:H g.lv=none/\H g.pt=none/\H g.nm=none/\H g.br=none/\H g.am=none/\H g.bx=none
 n1:g.br≠g.lv
 n2:g.br≠g.pt
 n3:g.am≠g.bx
section
variable{P:Program}{w:World}{K:W.Frag}{mg:Str->Option Value}{base:Heap}{a:Ad}
inductive SU(a:Ad)(vs:List V)(H:Hp)(Q:VK):Prop
 |mk (p dx:Addr) (_:vs=[.ref p]) (_:H p=some (.ins a.c_Grove dx [])) (_:∀(g:GA)(H':Hp),g.p=p->QN a H H' g G0 (Dv 48) (amK 8)->Q .non H'):SU a vs H Q
def OC(a:Ad):Sp:=λvs H Q _=>SU a vs H Q
theorem Vz{f:Addr}{fd:FuncData}(F:Fun K "__init__" "Grove.__init__" Gr f fd)(T:Top K mg a)(aH:CS P w K mg base CX0 1 a.c_Grove "kept" El (OB a)):AO P w K mg base CX0 2 f fd GF (OC a):=by
 refine F.ok DI (λvs H Q E h=>?_) (λcdv A outer s H vs Q E hr h=>?_)
 ·obtain⟨p,dx,rfl,_⟩:=h;rfl
 ·obtain⟨p,dx,rfl,hp,k⟩:=h;refine⟨_,(Ab (JX (pv 0) (BF Ac) rfl) (Ab (JX (pv 0) (BF Ac) rfl) (Ab (JX (pv 0) Vk rfl) (Ab (JX (pv 0) (BF (Bu Ac)) rfl) (Ab (JX (pv 0) Ig rfl) (Ab (JX (pv 0) Ig rfl) (Ab (Ci X8 rfl (Gb rfl T.b_range (Aa (Ct rfl T.k_STATES) Ac)) (AF (i:=1) DI.nd rfl (Or.inl rfl)) (Ab (Co (AK (pv 0) aH (rm hr) Ar (Cn (Aa (pv 1) Ac) (Bu Ac)))) (Af (LR (MK hr) (BK (pv 0) rfl) (pv 1) (As (Ge rfl) rfl T.b_min A2b (Aa (pv 1) (Bu Ac))) rfl)))) (Af (Ci X8 rfl (Tk rfl T.b_range (Bu (Cu AR (Ct rfl T.k_TOP_LEVEL) Ae Ac))) (AF (i:=2) DI.nd rfl (Or.inl rfl)) (Ab (Ah (i:=3) DI.nd rfl (Or.inl rfl) (At AQ (BK (pv 0) rfl) (Mp IV Ae) (λ_ _=>rfl))) (Af (Co (Cc X9 K2 K3 CJ (BK (pv 0) rfl) (Aa (AK (pv 0) aH (rm hr) Ar (Cn (Aa (pv 3) (Aa (pv 3) (Aa (pv 3) (Aa (pv 3) Ac)))) (Aa (pv 2) Ac))) Ac)))))))))))))),?_⟩
  try dsimp only[cxK]
  have stp:∀{Hk:Hp}{x:Addr}{o:HO}{fs fs':List (Str×V)},Hk p=some (.ins a.c_Grove dx fs)->Hk x=none->(∀b v,Hk b=some v->b≠p->upd (upd Hk x o) p (.ins a.c_Grove dx fs') b=some v)/\upd (upd Hk x o) p (.ins a.c_Grove dx fs') x=some o/\upd (upd Hk x o) p (.ins a.c_Grove dx fs') p=some (.ins a.c_Grove dx fs')/\upd Hk x o p=some (.ins a.c_Grove dx fs):=λ{Hk x o fs fs'} e1 e2=>by
   have n:x≠p:=λz=>by rw[z,e1]at e2;cases e2
   exact⟨λb v e nb=>by rw[AD nb,AD (Ax e e2)];exact e,by rw[AD n];exact Ag,Ag,by rw[AD (X5 n)];exact e1⟩
  refine AL ?_;intro r_k_ s_k_ k_ hk_ E_k_;refine⟨(by show 0<=sizeLine;decide),λlv hlv=>?_⟩;obtain⟨k1,x1,p1,q1⟩:=stp (o:=.lst []) (fs':=Cm "levels" (.ref lv) []) hp hlv;refine xq1 rfl ⟨p,_,dx,[],rfl,q1,T.cl_Grove,T.na_Grove_levels,(by show 0<1000;decide),?_⟩;show k_ _ _;generalize upd (upd H lv _) p _=H1 at k1 x1 p1⊢;refine hk_ ?_;refine AL ?_;intro r_k_ s_k_ k_ hk_ E_k_;refine⟨(by show 0<=sizeLine;decide),λpt hpt=>?_⟩;obtain⟨k2,x2,p2,q2⟩:=stp (o:=.lst []) (fs':=Cm "parts" (.ref pt) (Cm "levels" (.ref lv) [])) p1 hpt;refine xq1 rfl ⟨p,_,dx,(xq1 rfl ⟨q2,T.cl_Grove,T.na_Grove_parts,(by show 1<1000;decide),?_⟩)⟩;show k_ _ _;generalize upd (upd H1 pt _) p _=H2 at k2 x2 p2⊢;refine hk_ ?_;refine AL ?_;intro r_k_ s_k_ k_ hk_ E_k_;intro nm hnm;obtain⟨k3,x3,p3,q3⟩:=stp (o:=.dT []) (fs':=Cm "numbers" (.ref nm) (Cm "parts" (.ref pt) (Cm "levels" (.ref lv) []))) p2 hnm;refine xq1 rfl ⟨p,_,dx,(xq1 rfl ⟨q3,T.cl_Grove,T.na_Grove_numbers,(by show 2<1000;decide),?_⟩)⟩;show k_ _ _;generalize upd (upd H2 nm _) p _=H3 at k3 x3 p3⊢;refine hk_ ?_;refine AL ?_;intro r_k_ s_k_ k_ hk_ E_k_;refine⟨(by show 1<=sizeLine;decide),λbr hbr=>?_⟩;obtain⟨k4,x4,p4,q4⟩:=stp (o:=.lst [.int 0]) (fs':=Cm "bares" (.ref br) (Cm "numbers" (.ref nm) (Cm "parts" (.ref pt) (Cm "levels" (.ref lv) [])))) p3 hbr;refine xq1 rfl ⟨p,_,dx,(xq1 rfl ⟨q4,T.cl_Grove,T.na_Grove_bares,(by show 3<1000;decide),?_⟩)⟩;show k_ _ _;generalize upd (upd H3 br _) p _=H4 at k4 x4 p4⊢;refine hk_ ?_;refine AL ?_;intro r_k_ s_k_ k_ hk_ E_k_;intro am ham;obtain⟨k5,x5,p5,q5⟩:=stp (o:=.dK []) (fs':=Cm "amounts" (.ref am) (Cm "bares" (.ref br) (Cm "numbers" (.ref nm) (Cm "parts" (.ref pt) (Cm "levels" (.ref lv) []))))) p4 ham;refine xq1 rfl ⟨p,_,dx,(xq1 rfl ⟨q5,T.cl_Grove,T.na_Grove_amounts,(by show 4<1000;decide),?_⟩)⟩;show k_ _ _;generalize upd (upd H4 am _) p _=H5 at k5 x5 p5⊢;refine hk_ ?_;refine AL ?_;intro r_k_ s_k_ k_ hk_ E_k_;intro bx hbx;obtain⟨k6,x6,p6,q6⟩:=stp (o:=.dK []) (fs':=fl6 ⟨p,dx,lv,pt,nm,br,am,bx⟩) p5 hbx;refine xq1 rfl ⟨p,_,dx,(xq1 rfl ⟨q6,T.cl_Grove,T.na_Grove_boxes,(by show 5<1000;decide),?_⟩)⟩;show k_ _ (upd (upd H5 bx (.dK [])) p (.ins a.c_Grove dx (fl6 ⟨p,dx,lv,pt,nm,br,am,bx⟩)));generalize upd (upd H5 bx _) p _=H6 at k6 x6 p6⊢;refine hk_ ?_;have f26:∀b v,H1 b=some v->b≠p->H6 b=some v:=λb v e n=>k6 _ _ (k5 _ _ (k4 _ _ (k3 _ _ (k2 _ _ e n) n) n) n) n;have f36:∀b v,H2 b=some v->b≠p->H6 b=some v:=λb v e n=>k6 _ _ (k5 _ _ (k4 _ _ (k3 _ _ e n) n) n) n;have f46:∀b v,H3 b=some v->b≠p->H6 b=some v:=λb v e n=>k6 _ _ (k5 _ _ (k4 _ _ e n) n) n;have f56:∀b v,H4 b=some v->b≠p->H6 b=some v:=λb v e n=>k6 _ _ (k5 _ _ e n) n;have np:∀{Hk:Hp}{x:Addr}{fs:List (Str×V)},Hk p=some (.ins a.c_Grove dx fs)->Hk x=none->x≠p:=λ{Hk x fs} e1 e2 z=>by rw[z,e1]at e2;cases e2
  have no:∀{Hk Hm:Hp}{x y:Addr}{v:HO},Hk x=some v->Hk y=none->x≠y:=λ{Hk Hm x y v} e1 e2=>Ax e1 e2;have nlv:=np hp hlv;have npt:=np p1 hpt;have nnm:=np p2 hnm;have nbr:=np p3 hbr;have nam:=np p4 ham;have nbx:=np p5 hbx;have y1:=f26 _ _ x1 nlv;have y2:=f36 _ _ x2 npt;have y3:=f46 _ _ x3 nnm;have y4:=f56 _ _ x4 nbr;have y5:=k6 _ _ x5 nam;have back:∀{Hk:Hp}{x:Addr},(∀b v,H b=some v->b≠p->Hk b=some v)->x≠p->Hk x=none->H x=none:=λ{Hk x} kp n e=>by
   cases h:H x with
   |none=>rfl
   |some v=>rw[kp _ _ h n]at e;cases e
  have c2:∀b v,H b=some v->b≠p->H2 b=some v:=λb v e n=>k2 _ _ (k1 _ _ e n) n;have c3:∀b v,H b=some v->b≠p->H3 b=some v:=λb v e n=>k3 _ _ (c2 _ _ e n) n;have c4:∀b v,H b=some v->b≠p->H4 b=some v:=λb v e n=>k4 _ _ (c3 _ _ e n) n;have c5:∀b v,H b=some v->b≠p->H5 b=some v:=λb v e n=>k5 _ _ (c4 _ _ e n) n;have c6:∀b v,H b=some v->b≠p->H6 b=some v:=λb v e n=>k6 _ _ (c5 _ _ e n) n;have d1:lv≠pt:=Ax x1 hpt;have d2:br≠lv:=X5 (Ax (k3 _ _ (k2 _ _ x1 nlv) nlv) hbr);have d3:br≠pt:=X5 (Ax (k3 _ _ x2 npt) hbr);have d4:am≠bx:=Ax x5 hbx;have N0:QN a H H6 ⟨p,dx,lv,pt,nm,br,am,bx⟩ (De 0) (Dv 0) (amK 0):=⟨c6,⟨p6,y1,⟨[],y2,.nil⟩,y3,d1⟩,y4,y5,x6,⟨hlv,back k1 npt hpt,back c2 nnm hnm,back c3 nbr hbr,back c4 nam ham,back c5 nbx hbx⟩,d2,d3,d4⟩
  have k':=k ⟨p,dx,lv,pt,nm,br,am,bx⟩;have gp:(⟨p,dx,lv,pt,nm,br,am,bx⟩:GA).p=p:=rfl;generalize (⟨p,dx,lv,pt,nm,br,am,bx⟩:GA)=g at N0 k' gp;subst gp;clear k p6 q6 q5 q4 q3 q2 q1 y1 y2 y3 y4 y5 x6 c6 c5 c4 c3 c2 f26 f36 f46 f56 k1 k2 k3 k4 k5 k6 x1 x2 x3 x4 x5 p1 p2 p3 p4 p5 d1 d2 d3 d4 nlv npt nnm nbr nam nbx hbx ham hbr hnm hpt hlv back no np stp;refine⟨8,rfl,by decide,by decide,?_⟩;refine Gc (n:=8) (λi σ H7=>∃u1:Option V,σ=[some (.ref g.p),u1,none,none]/\QN a H H7 g (De i) (Dv 0) (amK i)) ⟨none,rfl,N0⟩ ?_ ?_
  ·rintro i σ H7 hi ⟨u1,rfl,N⟩;obtain⟨kp,at',hbr,ham,hbx,fresh,n1,n2,n3⟩:=N;have cl:(i:Int)=0+(i:Int):=(Z1 _).symm;refine xq1 rfl ⟨g.p,g.dx,(xq1 rfl ⟨at'.hp,OT g,(xq1 rfl ⟨(by show 1<=sizeLine;decide),λt ht=>?_⟩)⟩)⟩;have s1:=Al (o:=.tup [.int (0+(i:Int))]) ht;refine⟨g,De i,t,[0+(i:Int)],0,rfl,at'.same s1,Ag,by rw[<-cl];exact TK i,by rw[Et];lia,λH8 fr at8=>?_⟩;rw[<-cl,<-Rz]at at8;have fr':Fr g H7 H8:=(Aw.fr s1).trans fr;obtain⟨ts,h3,h4⟩:=at'.pt;have kd:∀(b:Addr)(kvs:List (Key×V)),H7 b=some (.dK kvs)->H8 b=some (.dK kvs):=λb kvs e=>fr' _ _ e (Bc e at'.lv A4) (Bc e h3 A4) (Bc e at'.nm A4);have ham8:=kd _ _ ham;refine xq1 rfl ⟨_,_,rfl,(xwf rfl rfl at8.hp T.cl_Grove T.na_Grove_amounts (fl6_am g) (xq1 rfl ⟨g.am,(xq1 rfl ⟨NB.k (k:=Sum.inl (0+(i:Int))) ham8 (by rw[amK_len];exact Du A0),?_⟩)⟩))⟩;rw[<-cl,Ju _ (QI i i (B1 _)),<-QH];have other:∀{b:Addr}{v:HO},H8 b=some v->b≠g.am->upd H8 g.am (.dK (amK (i+1))) b=some v:=λ{b v} e n=>by rw[AD n];exact e
   have na:∀{b:Addr}{v:HO},H8 b=some v->v≠.dK (amK i)->b≠g.am:=λ{b v} e n=>Bc e ham8 n;obtain⟨ts8,h38,h48⟩:=at8.pt;refine xq1 rfl ⟨?_,⟨other at8.hp (na at8.hp A4),other at8.lv (na at8.lv A4),⟨ts8,other h38 (na h38 A4),PairedM.imp (λc q z=>other z (na z A4)) h48⟩,other at8.nm (na at8.nm A4),at8.ne⟩,?_,Ag,?_,fresh,n1,n2,n3⟩
   ·intro b v e nb;have e8:H8 b=some v:=fr' _ _ (kp _ _ e nb) (Ax e fresh.1) (Ax e fresh.2.1) (Ax e fresh.2.2.1);exact other e8 (Ax e fresh.2.2.2.2.1)
   ·have e8:H8 g.br=_:=fr' _ _ hbr n1 n2 (Bc hbr at'.nm A4);exact other e8 (na e8 A4)
   ·exact other (kd _ _ hbx) (X5 n3)
  ·rintro σ H7 ⟨u1,rfl,N⟩;refine xq2 rfl rfl ⟨1,49,rfl,⟨by decide,by decide,by decide,by decide⟩,?_⟩;have N0:QN a H H7 g (De 8++EY 0) (Dv 0) (amK 8):=by rw[show De 8++EY 0=De 8 from N4 _];exact N
   clear N;refine Gc (lo:=1) (n:=48) (λj σ H8=>∃u2 u3:Option V,σ=[some (.ref g.p),u1,u2,u3]/\QN a H H8 g (De 8++EY j) (Dv j) (amK 8)) ⟨none,none,rfl,N0⟩ ?_ ?_
   ·rintro j σ H8 hj ⟨u2,u3,rfl,N⟩;obtain⟨kp,at',hbr,ham,hbx,fresh,n1,n2,n3⟩:=N;refine xwf rfl rfl at'.hp T.cl_Grove T.na_Grove_bares (MN g) (xwi rfl rfl rfl (SqL.of hbr) (WA (by rw[List.getLast?_map,RN];rfl)) ?_);refine xwf rfl rfl at'.hp T.cl_Grove T.na_Grove_bares (MN g) ⟨.inl ⟨rfl,_,SqL.of hbr⟩,(xq1 rfl ⟨g.p,g.dx,(xq1 rfl ⟨at'.hp,OT g,(xw3 rfl rfl rfl (xq1 rfl ⟨(by show 4<=sizeLine;decide),λt ht=>(xq1 rfl ?_)⟩))⟩)⟩)⟩;have s1:=Al (o:=.tup [.int (bareN j:Int),.int (bareN j:Int),.int (bareN j:Int),.int (bareN j:Int)]) ht;have ln:(De 8++EY j).length=8+j:=by rw[B5,Et,Ou]
    refine⟨g,De 8++EY j,t,[(bareN j:Int),(bareN j:Int),(bareN j:Int),(bareN j:Int)],1+(j:Int),rfl,at'.same s1,Ag,Ot j,by rw[ln];lia,λH9 fr at9=>?_⟩;rw[show(1:Int)+(j:Int)=(j:Int)+1 by lia,M4,<-MU]at at9;have fr':Fr g H8 H9:=(Aw.fr s1).trans fr;obtain⟨ts,h3,h4⟩:=at'.pt;have kd:∀(b:Addr)(kvs:List (Key×V)),H8 b=some (.dK kvs)->H9 b=some (.dK kvs):=λb kvs e=>fr' _ _ e (Bc e at'.lv A4) (Bc e h3 A4) (Bc e at'.nm A4);have hbr9:H9 g.br=_:=fr' _ _ hbr n1 n2 (Bc hbr at'.nm A4);refine⟨g.br,(xq2 rfl rfl ⟨hbr9,by rw[B0];unfold Dv;rw[B0,N3];exact Du A0,?_⟩)⟩;have eb:(Dv j).map V.int++[V.int ((De 8++EY j).length:Int)]=(Dv (j+1)).map V.int:=by rw[MV,D5,ln];rfl
    rw[eb];have other:∀{b:Addr}{v:HO},H9 b=some v->v≠.lst ((Dv j).map V.int)->upd H9 g.br (.lst ((Dv (j+1)).map V.int)) b=some v:=λ{b v} e n=>by rw[AD (Bc e hbr9 n)];exact e
    refine⟨_,_,rfl,?_,at9.put hbr9 n1 n2,Ag,other (kd _ _ ham) A4,other (kd _ _ hbx) A4,fresh,n1,n2,n3⟩;intro b v e nb;rw[AD (Ax e fresh.2.2.2.1)];exact fr' _ _ (kp _ _ e nb) (Ax e fresh.1) (Ax e fresh.2.1) (Ax e fresh.2.2.1)
   ·rintro σ H8 ⟨u2,u3,rfl,N⟩;exact k' H8 rfl N
end
end J
namespace J
open PySem L2
theorem Au.uniq{G:Gv}{i:Nat}{l m:Int}(h:Au G i l)(h2:Au G i m):l=m:=by
 obtain⟨q,e,z⟩:=h;obtain⟨p,e2,z2⟩:=h2;rw[e]at e2;cases e2;exact z.symm.trans z2
theorem Sv{G:Gv}(ok:GOk G){i:Nat}(h:Au G i 0):i<8:=by
 obtain⟨q,e,z⟩:=h;refine Nat.lt_of_not_le λn=>?_;obtain⟨_,_,_,_,_,_,l1,_⟩:=ok.node i q e n;lia
structure BZ(G:Gv)(n i:Nat)(q:Sq)(x y z w:Nat):Prop where
 g:G[i]?=some q
 ps:q.parts=[(x:Int),(y:Int),(z:Int),(w:Int)]
 lev:q.lev=(n:Int)+1
 hx:Au G x n
 hy:Au G y n
 hz:Au G z n
 hw:Au G w n
theorem AU{G:Gv}(ok:GOk G){n i:Nat}(h:Au G i ((n+1:Nat):Int)):∃q x y z w,BZ G n i q x y z w:=by
 obtain⟨q,e,el⟩:=h;have n8:8<=i:=by
  refine O5 λl8=>?_;rw[ok.leaf i l8]at e;cases e;have:(0:Int)=((n+1:Nat):Int):=el;lia
 obtain⟨x,y,z,w,ep,⟨hx,hy,hz,hw⟩,_,_⟩:=ok.node i q e n8;have en:q.lev-1=(n:Int):=by lia
 rw[en]at hx hy hz hw;exact⟨q,x,y,z,w,e,ep,by lia,hx,hy,hz,hw⟩
theorem BZ.app{G G':Gv}{k n i:Nat}{q:Sq}{x y z w:Nat}(go:AV G G' k)(h:BZ G n i q x y z w):BZ G' n i q x y z w:=⟨go.get h.g,h.ps,h.lev,go.lev h.hx,go.lev h.hy,go.lev h.hz,go.lev h.hw⟩
def Bl(G:Gv):Nat->Nat->Int
 |0,i=>if i=0 then 0 else 1
 |n+1,i=>match G[i]? with
  |some q=>(q.parts.map λp=>Bl G n p.toNat).sum
  |none=>0
theorem Eu{G:Gv}{n i:Nat}{q:Sq}{x y z w:Nat}(h:BZ G n i q x y z w):Bl G (n+1) i=([x,y,z,w].map λk=>Bl G n k).sum:=by
 rw[show Bl G (n+1) i=(match G[i]? with|some q=>(q.parts.map λ(p:Int)=>Bl G n p.toNat).sum|none=>0)from rfl,h.g];show(q.parts.map λ(p:Int)=>Bl G n p.toNat).sum=_;rw[h.ps];rfl
theorem Ix{G G':Gv}{k:Nat}(ok:GOk G)(go:AV G G' k):∀(n i:Nat),Au G i (n:Int)->Bl G' n i=Bl G n i
 |0,i,_=>rfl
 |n+1,i,h=>by
  obtain⟨q,x,y,z,w,nd⟩:=AU ok h;rw[Eu nd,Eu (nd.app go)];show Bl G' n x+(Bl G' n y+(Bl G' n z+(Bl G' n w+0)))=_;rw[Ix ok go n x nd.hx,Ix ok go n y nd.hy,Ix ok go n z nd.hz,Ix ok go n w nd.hw];rfl
theorem Dq(G:Gv):∀(n i:Nat),0<=Bl G n i
 |0,i=>by
  show 0<=if i=0 then(0:Int)else 1;split<;>lia
 |n+1,i=>by
  unfold Bl;split
  ·rename_i q _;have:∀l:List Int,0<=(l.map λp=>Bl G n p.toNat).sum:=by
    intro l;induction l with
    |nil=>exact R9 0
    |cons p r ih=>rw[D7,List.sum_cons];have:=Dq G n p.toNat;lia
   exact this _
  ·exact R9 0
theorem IJ:∀(n:Nat)(l:List Nat),l.Nodup->(∀x∈l,x<n)->l.length<=n
 |0,l,_,h=>by
  cases l with
  |nil=>exact B1 0
  |cons x r=>exact absurd (h x D3) (M0 _)
 |n+1,l,nd,h=>by
  by_cases hm:n∈l
  ·have:=IJ n (l.erase n) (nd.erase n) λx hx=>by
    have h1:=(nd.mem_erase_iff).mp hx;have:=h x h1.2;have:=h1.1;lia
   rw[List.length_erase_of_mem hm]at this;lia
  ·have:=IJ n l nd λx hx=>by
    have:=h x hx;have:x≠n:=λz=>hm (z▸hx);lia
   lia
structure Fa(G:Gv)(ks:List (Key×V)):Prop where
 nd:(ks.map Prod.fst).Nodup
 lt:∀k∈ks.map Prod.fst,∃i:Nat,i<G.length/\k=Sum.inl (i:Int)
theorem Fa.len{G:Gv}{ks:List (Key×V)}(h:Fa G ks):ks.length<=G.length:=by
 let f:Key->Nat:=λk=>match k with|.inl i=>i.toNat|.inr _=>0
 have:=IJ G.length ((ks.map Prod.fst).map f) (by
  rw[F6,O3];refine A3g (λ{a b} ha hb hne z=>hne ?_) (F6.mp h.nd);obtain⟨i,_,rfl⟩:=h.lt a ha;obtain⟨j,_,rfl⟩:=h.lt b hb;have:(i:Int).toNat=(j:Int).toNat:=z;rw[G7,G7]at this;rw[this]) (λx hx=>by
  obtain⟨k,hk,rfl⟩:=F1.mp hx;obtain⟨i,hi,rfl⟩:=h.lt k hk;show(i:Int).toNat<_;rw[G7];exact hi)
 rw[B0,B0]at this;exact this
theorem Fa.app{G G':Gv}{ks:List (Key×V)}(le:G.length<=G'.length)(h:Fa G ks):Fa G' ks:=⟨h.nd,λk hk=>by
 obtain⟨i,hi,e⟩:=h.lt k hk;exact⟨i,by lia,e⟩⟩
theorem Fa.put{G:Gv}{ks:List (Key×V)}(h:Fa G ks){i:Nat}(hi:i<G.length)(v:V):Fa G (Dg ks (Sum.inl (i:Int)) v):=by
 unfold Dg;by_cases a:(ks.any λkv=>decide (kv.1=Sum.inl (i:Int)))=true
 ·rw[Z6 a];have e:(ks.map λkv=>if kv.1=Sum.inl (i:Int)then(kv.1,v)else kv).map Prod.fst=ks.map Prod.fst:=by
   rw[U6];refine Y1 λkv _=>?_;show(if kv.1=Sum.inl (i:Int)then(kv.1,v)else kv).1=kv.1;split<;>rfl
  exact⟨by rw[e];exact h.nd,by rw[e];exact h.lt⟩
 ·rw[Z5 a];refine⟨?_,λk hk=>?_⟩
  ·rw[D5,Y8];refine⟨h.nd,by simp,λk hk k' hk' z=>a ?_⟩;have:k'=Sum.inl (i:Int):=by simpa using hk'
   subst this;subst z;obtain⟨kv,h1,h2⟩:=F1.mp hk;exact List.any_eq_true.mpr ⟨kv,h1,Z3 h2⟩
  ·rw[D5]at hk;rcases C6.mp hk with z|z
   ·exact h.lt k z
   ·exact⟨i,hi,by simpa using z⟩
structure WQ(G:Gv)(ks:List (Key×V)):Prop where
 keys:Fa G ks
 leaf:∀s:Nat,s<8->∃v,BR ks (Sum.inl (s:Int))=some v
 val:∀(i:Nat) v,BR ks (Sum.inl (i:Int))=some v->∃l:Nat,Au G i l/\v=.int (Bl G l i)
theorem WQ.app{G G':Gv}{k:Nat}{ks:List (Key×V)}(ok:GOk G)(go:AV G G' k)(h:WQ G ks):WQ G' ks:=⟨h.keys.app (by obtain⟨r,e⟩:=go.pre;rw[e,B5];lia),h.leaf,λi v e=>by
 obtain⟨l,h1,h2⟩:=h.val i v e;exact⟨l,go.lev h1,by rw[Ix ok go l i h1];exact h2⟩⟩
theorem am0:WQ G0 (amK 8) where
 keys:=⟨by decide +kernel,λk hk=>by
  obtain⟨p,hp,rfl⟩:=F1.mp hk;obtain⟨s,hs,rfl⟩:=F1.mp hp;have:=M2.mp hs;exact⟨s,by rw[RG];lia,rfl⟩⟩
 leaf:=λs hs=>by
  match s,hs with
  |0,_=>exact⟨_,rfl⟩
  |1,_=>exact⟨_,rfl⟩
  |2,_=>exact⟨_,rfl⟩
  |3,_=>exact⟨_,rfl⟩
  |4,_=>exact⟨_,rfl⟩
  |5,_=>exact⟨_,rfl⟩
  |6,_=>exact⟨_,rfl⟩
  |7,_=>exact⟨_,rfl⟩
 val:=λi v e=>by
  have hi:i<8:=by
   refine Nat.lt_of_not_le λz=>?_;rw[QI 8 i z]at e;cases e
  refine⟨0,⟨_,Po i hi,rfl⟩,?_⟩
  match i,hi with
  |0,_=>cases e;rfl
  |1,_=>cases e;rfl
  |2,_=>cases e;rfl
  |3,_=>cases e;rfl
  |4,_=>cases e;rfl
  |5,_=>cases e;rfl
  |6,_=>cases e;rfl
  |7,_=>cases e;rfl
structure Bx where
 l:Int
 t:Int
 w:Int
 h:Int
def Bx.ns(b:Bx):List Int:=[b.l,b.t,b.w,b.h]
def shB(half:Int)(k:Nat)(b:Bx):Bx:=⟨b.l+half*((k:Int)%2),b.t+half*((k:Int)/2),b.w,b.h⟩
def TY(half:Int):Nat->List (Option Bx)->List Bx
 |_,[]=>[]
 |k,none::r=>TY half (k+1) r
 |k,some b::r=>shB half k b::TY half (k+1) r
def mnL(l:List Int):Int:=l.min?.getD 0
def mxL(l:List Int):Int:=l.max?.getD 0
def leastB(bs:List Bx):Bx:=⟨mnL (bs.map (·.l)),mnL (bs.map (·.t)),mxL (bs.map λb=>b.l+b.w)-mnL (bs.map (·.l)),mxL (bs.map λb=>b.t+b.h)-mnL (bs.map (·.t))⟩
def To(half:Int)(obs:List (Option Bx)):Option Bx:=match TY half 0 obs with
 |[]=>none
 |b::r=>some (leastB (b::r))
def JN(G:Gv):Nat->Nat->Option Bx
 |0,i=>if i=0 then none else some ⟨0,0,1,1⟩
 |n+1,i=>match G[i]? with
  |some q=>To (2^n) (q.parts.map λ(p:Int)=>JN G n p.toNat)
  |none=>none
theorem IL{G:Gv}{n i:Nat}{q:Sq}{x y z w:Nat}(h:BZ G n i q x y z w):JN G (n+1) i=To (2^n) [JN G n x,JN G n y,JN G n z,JN G n w]:=by
 rw[show JN G (n+1) i=(match G[i]? with|some q=>To (2^n) (q.parts.map λ(p:Int)=>JN G n p.toNat)|none=>none)from rfl,h.g];show To (2^n) (q.parts.map λ(p:Int)=>JN G n p.toNat)=_;rw[h.ps];rfl
theorem Gf{G G':Gv}{k:Nat}(ok:GOk G)(go:AV G G' k):∀(n i:Nat),Au G i (n:Int)->JN G' n i=JN G n i
 |0,i,_=>rfl
 |n+1,i,h=>by
  obtain⟨q,x,y,z,w,nd⟩:=AU ok h;rw[IL nd,IL (nd.app go),Gf ok go n x nd.hx,Gf ok go n y nd.hy,Gf ok go n z nd.hz,Gf ok go n w nd.hw]
theorem NQ{half:Int}:∀{obs:List (Option Bx)},To half obs=none ↔ ∀o∈obs,o=none:=by
 intro obs;have g:∀(obs:List (Option Bx))(k:Nat),TY half k obs=[] ↔ ∀o∈obs,o=none:=by
  intro obs;induction obs with
  |nil=>intro k;exact⟨λ_ o ho=>by simp at ho,λ_=>rfl⟩
  |cons o r ih =>
   intro k;cases o with
   |none =>
    rw[show TY half k (none::r)=TY half (k+1) r from rfl,ih (k+1)];exact⟨λh o ho=>by rcases B7.mp ho with z|z;exact z;exact h o z,λh o ho=>h o (B9 _ ho)⟩
   |some b=>exact⟨λh=>(by cases h),λh=>(by cases h (some b) D3)⟩
 rw[<-g obs 0];unfold To;constructor
 ·intro h;split at h
  ·assumption
  ·cases h
 ·intro h;rw[h]
theorem JM{G:Gv}(ok:GOk G):∀(n i:Nat),Au G i (n:Int)->(JN G n i=none↔Bl G n i=0)
 |0,i,_=>by
  show(if i=0 then none else some (⟨0,0,1,1⟩:Bx))=none↔(if i=0 then(0:Int)else 1)=0;split
  ·exact⟨λ_=>rfl,λ_=>rfl⟩
  ·exact⟨λh=>(by cases h),λh=>A0⟩
 |n+1,i,h=>by
  obtain⟨q,x,y,z,w,nd⟩:=AU ok h;rw[IL nd,Eu nd,NQ];show _↔Bl G n x+(Bl G n y+(Bl G n z+(Bl G n w+0)))=0;have ex:=JM ok n x nd.hx;have ey:=JM ok n y nd.hy;have ez:=JM ok n z nd.hz;have ew:=JM ok n w nd.hw;have nx:=Dq G n x;have ny:=Dq G n y;have nz:=Dq G n z;have nw:=Dq G n w;constructor
  ·intro h;rw[ex.mp (h _ A5),ey.mp (h _ A5),ez.mp (h _ A5),ew.mp (h _ A5)];rfl
  ·intro h o ho;simp only[B7,D8,K7]at ho;rcases ho with rfl|rfl|rfl|rfl
   ·exact ex.mpr A0
   ·exact ey.mpr A0
   ·exact ez.mpr A0
   ·exact ew.mpr A0
theorem RF{G r:Gv}(e:G=G0++r)(j:Nat)(h:j<48):G[8+j]?=some ⟨[(bareN j:Int),(bareN j:Int),(bareN j:Int),(bareN j:Int)],(j:Int)+1⟩:=by
 rw[e];exact LX (Pp j h)
theorem Iz{G:Gv}(ok:GOk G){r:Gv}(e:G=G0++r):∀(n i:Nat),n<=48->Au G i (n:Int)->(JN G n i=none↔i=bareN n)
 |0,i,_,_=>by
  show(if i=0 then none else some (⟨0,0,1,1⟩:Bx))=none↔i=0;split
  ·rename_i z;exact⟨λ_=>z,λ_=>rfl⟩
  ·rename_i z;exact⟨λh=>(by cases h),λh=>absurd h z⟩
 |n+1,i,hn,h=>by
  obtain⟨q,x,y,z,w,nd⟩:=AU ok h;rw[IL nd,NQ];have ex:=Iz ok e n x A0 nd.hx;have ey:=Iz ok e n y A0 nd.hy;have ez:=Iz ok e n z A0 nd.hz;have ew:=Iz ok e n w A0 nd.hw;have hb:=RF e n A0;constructor
  ·intro h;have hx:=ex.mp (h _ A5);have hy:=ey.mp (h _ A5);have hz:=ez.mp (h _ A5);have hw:=ew.mp (h _ A5);show i=8+n;refine ok.one nd.g hb ?_;rw[nd.ps,hx,hy,hz,hw]
  ·intro h;have h:i=8+n:=h;have g:=nd.g;rw[h,hb]at g;cases g;have p:=nd.ps;have p:[(bareN n:Int),(bareN n:Int),(bareN n:Int),(bareN n:Int)]=[(x:Int),(y:Int),(z:Int),(w:Int)]:=p;injection p with p1 p
   injection p with p2 p
   injection p with p3 p
   injection p with p4 p
   intro o ho;simp only[B7,D8,K7]at ho;rcases ho with rfl|rfl|rfl|rfl
   ·exact ex.mpr (X7 p1).symm
   ·exact ey.mpr (X7 p2).symm
   ·exact ez.mpr (X7 p3).symm
   ·exact ew.mpr (X7 p4).symm
structure BxOk(G:Gv)(H:Hp)(ks:List (Key×V)):Prop where
 keys:Fa G ks
 val:∀(i:Nat) v,BR ks (Sum.inl (i:Int))=some v->∃(l:Nat)(b:Bx)(t:Addr),Au G i l/\JN G l i=some b/\v=.ref t/\H t=some (.tup (b.ns.map V.int))
structure Bs(a:Ad)(H:Hp)(g:GA)(G:Gv):Prop where
 at':AX a H g G
 ok:GOk G
 g0:∃r,G=G0++r
 br:H g.br=some (.lst ((Dv 48).map V.int))
 am:∃ks,H g.am=some (.dK ks)/\WQ G ks
 bx:∃ks,H g.bx=some (.dK ks)/\BxOk G H ks
 n1:g.br≠g.lv
 n2:g.br≠g.pt
 n3:g.am≠g.bx
theorem Bs.new{a:Ad}{H H':Hp}{g:GA}(h:QN a H H' g G0 (Dv 48) (amK 8)):Bs a H' g G0:=⟨h.at',g0_ok,⟨[],by simp⟩,h.br,⟨_,h.am,am0⟩,⟨_,h.bx,⟨by simp,λk hk=>by simp at hk⟩,λi v e=>by cases e⟩,h.n1,h.n2,h.n3⟩
theorem Bs.same{a:Ad}{H H':Hp}{g:GA}{G:Gv}(s:Aw H H')(h:Bs a H g G):Bs a H' g G:=by
 obtain⟨at',ok,g0,br,⟨ks,h1,h2⟩,⟨ks',h3,h4⟩,n1,n2,n3⟩:=h;refine⟨at'.same s,ok,g0,s _ _ br,⟨ks,s _ _ h1,h2⟩,⟨ks',s _ _ h3,h4.keys,λi v e=>?_⟩,n1,n2,n3⟩;obtain⟨l,b,t,e1,e2,e3,e4⟩:=h4.val i v e;exact⟨l,b,t,e1,e2,e3,s _ _ e4⟩
theorem AV.le{G G':Gv}{k:Nat}(go:AV G G' k):G.length<=G'.length:=by
 obtain⟨r,e⟩:=go.pre;rw[e,B5];lia
theorem Bs.fr{a:Ad}{H H':Hp}{g:GA}{G G':Gv}{m:Nat}(h:Bs a H g G)(f:Fr g H H')(at2:AX a H' g G')(go:AV G G' m):Bs a H' g G':=by
 obtain⟨at',ok,⟨r,g0⟩,br,⟨ks,h1,h2⟩,⟨ks',h3,h4⟩,n1,n2,n3⟩:=h;obtain⟨us,hp,_⟩:=at'.pt;have keep:∀{b:Addr}{o:HO},H b=some o->(∀l,o≠.lst l)->(∀l,o≠.dT l)->H' b=some o:=λ{b o} e z1 z2=>f _ _ e (Bc e at'.lv (z1 _)) (Bc e hp (z1 _)) (Bc e at'.nm (z2 _));obtain⟨t,et⟩:=go.pre;refine⟨at2,go.ok,⟨r++t,by rw[et,g0,M4]⟩,f _ _ br n1 n2 (Bc br at'.nm A4),⟨ks,keep h1 (by intro l z;cases z) (by intro l z;cases z),h2.app ok go⟩,⟨ks',keep h3 (by intro l z;cases z) (by intro l z;cases z),h4.keys.app go.le,λi v e=>?_⟩,n1,n2,n3⟩;obtain⟨l,b,t,e1,e2,e3,e4⟩:=h4.val i v e;exact⟨l,b,t,go.lev e1,by rw[Gf ok go l i e1];exact e2,e3,keep e4 (by intro l z;cases z) (by intro l z;cases z)⟩
theorem BZ.mem{G:Gv}{n i:Nat}{q:Sq}{x y z w:Nat}(h:BZ G n i q x y z w){j:Nat}{v:V}(e:(q.parts.map V.int)[j]?=some v):∃k:Nat,v=.int k/\Au G k n/\q.parts[j]?=some (k:Int):=by
 rw[C1]at e;obtain⟨p,hp,rfl⟩:=F4.mp e;have hm:=M3 hp;rw[h.ps]at hm;simp only[B7,D8,K7]at hm;rcases hm with rfl|rfl|rfl|rfl
 ·exact⟨x,rfl,h.hx,hp⟩
 ·exact⟨y,rfl,h.hy,hp⟩
 ·exact⟨z,rfl,h.hz,hp⟩
 ·exact⟨w,rfl,h.hw,hp⟩
section
variable{P:Program}{w:World}{K:W.Frag}{mg:Str->Option Value}{base:Heap}{a:Ad}
end
theorem PairedM.getL{α β:Type}{F:α->β->Prop}:∀{l:List α}{m:List β}{i:Nat}{x:α},Paired F l m->l[i]?=some x->∃y,m[i]?=some y/\F x y
 |_,_,_,_,.nil,e=>by simp at e
 |_,_,0,_,.cons r _,e=>by simp at e;subst e;exact⟨_,rfl,r⟩
 |_,_,i+1,x,.cons _ t,e=>by
  obtain⟨y,h1,h2⟩:=PairedM.getL (i:=i) (x:=x) t (by simpa using e);exact⟨y,by simpa using h1,h2⟩
section
variable{P:Program}{w:World}{K:W.Frag}{mg:Str->Option Value}{base:Heap}{a:Ad}
theorem two_pow(m:Nat){l:Int}(e:l=(m:Int)+1):(1:Int)*2^(l-1).toNat=2^m:=by
 rw[e,Int.one_mul,show((m:Int)+1-1).toNat=m by lia]
end
seal L2.PA L2.PE L2.PS L2.PSs L2.PT L2.PW
def atN(ns:List Int)(k:Int):Int:=ns.getD k.toNat 0
section
variable{P:Program}{w:World}{K:W.Frag}{mg:Str->Option Value}{base:Heap}{a:Ad}
inductive SpAt(K:W.Frag)(vs:List V)(H:Hp)(Q:VK):Prop
 |mk (l:Addr) (ns:List Int) (k:Int) (_:vs=[.ref l,.int k]) (_:SqL K H l (ns.map V.int)) (_:0<=k) (_:Q (.int (atN ns k)) H):SpAt K vs H Q
def spAt(K:W.Frag):Sp:=λvs H Q _=>SpAt K vs H Q
theorem ok_at{f:Addr}{fd:FuncData}(F:Fun K "_law_at" "_law_at" JW f fd)(T:Top K mg a):AO P w K mg base CX0 1 f fd Le (spAt K):=by
 refine F.ok Rc (λvs H Q E h=>?_) (λcdv A outer s H vs Q E hr h=>?_)
 ·obtain⟨l,ns,k,rfl,_⟩:=h;rfl
 ·obtain⟨l,ns,k,rfl,hS,h0,q⟩:=h;refine⟨_,(Ab (AB (Ak Fq (pv 1) (As BO rfl T.b_len K0 (Aa (pv 0) Ac)) (An _)) (Af (Am (At AQ (pv 0) (pv 1) (λ_ _=>rfl)))) Ap) (Af (Am Ae))),?_⟩
  try dsimp only[cxK]
  refine⟨_,rfl,_,rfl,l,_,rfl,.inl hS,_,_,rfl,rfl,_,rfl,?_⟩;obtain⟨n,rfl⟩:=L8 h0;refine GH (λhc=>?_) (λhc=>?_)
  ·have hc':n<ns.length:=by
    have:=K6 hc;rw[B0]at this;lia
   refine⟨_,rfl,_,rfl,l,_,n,.int ns[n],rfl,rfl,hS,Ai (by rw[C1,C0 hc'];rfl),?_⟩;have e:atN ns (n:Int)=ns[n]:=by
    unfold atN;rw[G7,C5,C0 hc'];rfl
   rw[e]at q;exact q
  ·have hc':ns.length<=n:=by
    have:¬(n:Int)<((ns.map V.int).length:Int):=λz=>hc (Z3 z);rw[B0]at this;lia
   have e:atN ns (n:Int)=0:=by
    unfold atN;rw[G7,C5,Q9 hc'];rfl
   rw[e]at q;exact q
end
inductive SpLaw(K:W.Frag)(vs:List V)(H:Hp)(Q:VK):Prop
 |mk (a:Addr) (ns:List Int) (_:vs=[.ref a]) (_:SqL K H a (ns.map V.int)) (_:ns.length<=63) (_:∀H',Q (.bl true) H'):SpLaw K vs H Q
def Sh(K:W.Frag):Sp:=λvs H Q _=>SpLaw K vs H Q
end J
namespace J
open PySem L2
theorem Fr.tup{a:Ad}{g:GA}{G:Gv}{H H':Hp}{x:Addr}{l:List V}(f:Fr g H H')(h:AX a H g G)(e:H x=some (.tup l)):H' x=some (.tup l):=by
 obtain⟨us,h3,_⟩:=h.pt;exact f _ _ e (Bc e h.lv A4) (Bc e h3 A4) (Bc e h.nm A4)
theorem AV.mono{G G':Gv}{n m:Nat}(h:AV G G' n)(e:n<=m):AV G G' m:=⟨h.ok,h.pre,C8 h.few A0⟩
theorem Sol.node{G:Gv}(ok:GOk G){s l n:Nat}(hs:s<8)(h:Sol G s (l+1) n):∃q m,BZ G l n q m m m m/\Sol G s l m:=by
 obtain⟨m,h1,h2⟩:=h;have:=Sol.lev ok hs h1;exact⟨_,m,⟨h2,rfl,rfl,this,this,this,this⟩,h1⟩
theorem Gu(l:Nat):(0:Int)<2^l:=Int.pow_pos A3
theorem pow2_lt{l:Nat}(h:l<64):(2:Int)^l<2^64:=by
 have:(2:Nat)^l<2^64:=Nat.pow_lt_pow_right A3 h
 exact_mod_cast this
section
variable{P:Program}{w:World}{K:W.Frag}{mg:Str->Option Value}{base:Heap}{a:Ad}
end
seal L2.PA L2.PE L2.PS L2.PSs L2.PT L2.PW
theorem JY(l:Nat):(2:Int)^(l+1)=2^l+2^l:=by rw[R4];lia
def Ep(x y w h r:Int):Prop:=-r<=x/\-r<=y/\x+w<=r/\y+h<=r
instance(x y w h r:Int):Decidable (Ep x y w h r):=by unfold Ep;infer_instance
theorem lies_b(x y w h r:Int):(decide (-r<=x) && (decide (-r<=y) && (decide (x+w<=r) && decide (y+h<=r))))=decide (Ep x y w h r):=by
 rw[O8];simp only[O1,A8g];exact Iff.rfl
structure Wid(G:Gv)(n f w:Nat):Prop where
 ex:∃(q:Sq)(x y z v a b c d:Nat),BZ G n f q x y z v/\G[a]?=some ⟨[(bareN n:Int),(bareN n:Int),(bareN n:Int),(x:Int)],(n:Int)+1⟩/\G[b]?=some ⟨[(bareN n:Int),(bareN n:Int),(y:Int),(bareN n:Int)],(n:Int)+1⟩ /\
  G[c]?=some ⟨[(bareN n:Int),(z:Int),(bareN n:Int),(bareN n:Int)],(n:Int)+1⟩/\G[d]?=some ⟨[(v:Int),(bareN n:Int),(bareN n:Int),(bareN n:Int)],(n:Int)+1⟩/\G[w]?=some ⟨[(a:Int),(b:Int),(c:Int),(d:Int)],(n:Int)+2⟩
theorem Wid.lev{G:Gv}{n f w:Nat}(h:Wid G n f w):Au G w ((n+2:Nat):Int):=by
 obtain⟨q,x,y,z,v,a,b,c,d,nd,ea,eb,ec,ed,ew⟩:=h.ex;exact⟨_,ew,by show(n:Int)+2=_;lia⟩
theorem Wid.app{G G':Gv}{k n f w:Nat}(go:AV G G' k)(h:Wid G n f w):Wid G' n f w:=by
 obtain⟨q,x,y,z,v,a,b,c,d,nd,ea,eb,ec,ed,ew⟩:=h.ex;exact⟨q,x,y,z,v,a,b,c,d,nd.app go,go.get ea,go.get eb,go.get ec,go.get ed,go.get ew⟩
theorem DP{G r:Gv}(e:G=G0++r){n:Nat}(h:n<=48):Au G (bareN n) (n:Int):=by
 rw[e];exact(Wc n h).app
theorem bareL_at'{l:Nat}(h:l<=48):((Dv 48).map V.int)[l]?=some (.int (bareN l:Int)):=by
 unfold Dv;rw[C1,C1,Q0 A0];rfl
section
variable{P:Program}{w:World}{K:W.Frag}{mg:Str->Option Value}{base:Heap}{a:Ad}
inductive SpLie(vs:List V)(H:Hp)(Q:VK):Prop
 |mk (t:Addr) (x y w h r:Int) (_:vs=[.ref t,.int r]) (_:H t=some (.tup [.int x,.int y,.int w,.int h])) (_:Q (.bl (decide (Ep x y w h r))) H):SpLie vs H Q
def PK:Sp:=λvs H Q _=>SpLie vs H Q
theorem ok_lie{f:Addr}{fd:FuncData}(F:Fun K "lies_within" "lies_within" Fz f fd)(T:Top K mg a):AO P w K mg base CX0 1 f fd CN PK:=by
 refine F.ok Ml (λvs H Q E h=>?_) (λcdv A outer s H vs Q E hr h=>?_)
 ·obtain⟨t,x,y,w,h,r,rfl,_⟩:=h;rfl
 ·obtain⟨t,x,y,wd,hh,r,rfl,ht,k⟩:=h;rw[<-lies_b]at k;refine⟨_,(Af (Am (Eb (Bv IR (Mp IV (pv 1)) (At Az (pv 0) Ae (λ_ _=>rfl)) (An _)) (Eb (Bv IR (Mp IV (pv 1)) (At Az (pv 0) Ae (λ_ _=>rfl)) (An _)) (Eb (Bv IR (Ao AR (At Az (pv 0) Ae (λ_ _=>rfl)) (At Az (pv 0) Ae (λ_ _=>rfl))) (pv 1) (An _)) (FJ (Bv IR (Ao AR (At Az (pv 0) Ae (λ_ _=>rfl)) (At Az (pv 0) Ae (λ_ _=>rfl))) (pv 1) (An _)))))))),?_⟩
  try dsimp only[cxK]
  refine xw3 rfl rfl rfl (xq4 rfl rfl (SqT.of ht) (Ai (j:=0) rfl) (xq2 rfl rfl (Pw (λ_ Q1 q1=>?_) k)));refine xw3 rfl rfl rfl (xq4 rfl rfl (SqT.of ht) (Ai (j:=1) rfl) (xq2 rfl rfl (Pw (λ_ Q2 q2=>?_) q1)));refine xwi rfl rfl rfl (SqT.of ht) (Ai (j:=0) rfl) (xwi rfl rfl rfl (SqT.of ht) (Ai (j:=2) rfl) (xq2 rfl rfl (xwb rfl rfl rfl (Pw (λ_ Q3 q3=>?_) q2))));exact xwi rfl rfl rfl (SqT.of ht) (Ai (j:=1) rfl) (xwi rfl rfl rfl (SqT.of ht) (Ai (j:=3) rfl) (xq2 rfl rfl (xwb rfl rfl rfl q3)))
inductive ST(a:Ad)(vs:List V)(H:Hp)(Q:VK):Prop
 |mk (g:GA) (G:Gv) (i n:Nat) (_:vs=[.ref g.p,.int i]) (_:AX a H g G) (_:Au G i ((n+1:Nat):Int)) (_:n<48) (_:Q (.int (2^n)) H):ST a vs H Q
def LP(a:Ad):Sp:=λvs H Q _=>ST a vs H Q
theorem Vx{f:Addr}{fd:FuncData}(F:Fun K "reach_of" "reach_of" Ja f fd)(T:Top K mg a)(a5:CS P w K mg base CX0 3 a.c_Grove "level_of" AH (Fe a)):AO P w K mg base CX0 4 f fd Gy (LP a):=by
 refine F.ok PN (λvs H Q E h=>?_) (λcdv A outer s H vs Q E hr h=>?_)
 ·obtain⟨g,G,i,n,rfl,_⟩:=h;rfl
 ·obtain⟨g,G,i,n,rfl,hg,⟨q,e,el⟩,n48,k⟩:=h;refine⟨_,(Af (Am (Ao ES Ae (Ao FT (AK (pv 0) a5 (rm hr) Ar (Aa (pv 1) Ac)) Ae)))),?_⟩
  try dsimp only[cxK]
  have en:q.lev=(n:Int)+1:=by rw[el];lia
  refine xwn rfl rfl hg.hp (BL g) rfl ⟨g,G,i,q,rfl,hg,e,(xq2 rfl rfl (xq2 rfl rfl ⟨⟨by lia,by lia,by decide⟩,?_⟩))⟩;show Q (.int (1*2^(q.lev-1).toNat)) H;rw[two_pow n en];exact k
inductive SV(a:Ad)(vs:List V)(H:Hp)(Q:VK):Prop
 |mk (g:GA) (G:Gv) (_:vs=[.ref g.p]) (_:Bs a H g G) (_:Q (.int (bareN 1:Int)) H):SV a vs H Q
def OD(a:Ad):Sp:=λvs H Q _=>SV a vs H Q
theorem VA{f:Addr}{fd:FuncData}(F:Fun K "bare_field" "bare_field" Gk f fd)(T:Top K mg a):AO P w K mg base CX0 1 f fd GB (OD a):=by
 refine F.ok MZ (λvs H Q E h=>?_) (λcdv A outer s H vs Q E hr h=>?_)
 ·obtain⟨g,G,rfl,_⟩:=h;rfl
 ·obtain⟨g,G,rfl,fu,k⟩:=h;exact⟨_,(Af (Am (At AQ (BK (pv 0) rfl) (Ct rfl T.k_LEAST_LEVEL) (λ_ _=>rfl)))),(xwf rfl rfl fu.at'.hp T.cl_Grove T.na_Grove_bares (MN g) (xq4 rfl rfl (SqL.of fu.br) (Ai (j:=1) (bareL_at' A0)) k))⟩
inductive SpWid(a:Ad)(vs:List V)(H:Hp)(Q:VK):Prop
 |mk (g:GA) (G:Gv) (f n:Nat) (_:vs=[.ref g.p,.int f]) (_:Bs a H g G) (_:Au G f ((n+1:Nat):Int)) (_:n<47) (_:G.length<8900000) (_:∀(w:Nat)(G':Gv)(H':Hp),Fr g H H'->AX a H' g G'->AV G G' 5->Wid G' n f w->Q (.int w) H'):SpWid a vs H Q
def UK(a:Ad):Sp:=λvs H Q _=>SpWid a vs H Q
theorem ok_wid{f:Addr}{fd:FuncData}(F:Fun K "widened" "widened" JT f fd)(T:Top K mg a)(a5:CS P w K mg base CX0 3 a.c_Grove "level_of" AH (Fe a))(a6:CS P w K mg base CX0 2 a.c_Grove "linked" BT (IW a)):AO P w K mg base CX0 4 f fd Ld (UK a):=by
 refine F.ok Gh (λvs H Q E h=>?_) (λcdv A outer s H vs Q E hr h=>?_)
 ·obtain⟨g,G,f',n,rfl,_⟩:=h;rfl
 ·obtain⟨g,G,f',n,rfl,fu,hl,n47,few,k⟩:=h;obtain⟨q,x,y,z,v,nd⟩:=AU fu.ok hl;have lq:=nd.lev;obtain⟨ts,h3,h4⟩:=fu.at'.pt;obtain⟨t,et,ht⟩:=PairedM.get h4 nd.g;have ht:H t=some (.tup [.int x,.int y,.int z,.int v]):=by
   have ht:H t=some (.tup (q.parts.map V.int)):=ht;rw[nd.ps]at ht;exact ht
  obtain⟨r,e0⟩:=fu.g0;have lb:=DP e0 (n:=n) A0;refine⟨_,(Ab (Ah (i:=2) Gh.nd rfl (Or.inl rfl) (AK (pv 0) a5 (rm hr) Ar (Aa (pv 1) Ac))) (Ab (AB (PW.pt (BM (Ak Fq (pv 2) (Ct rfl T.k_LEAST_LEVEL) (An _)) (BE (Ak Bg (pv 2) (Ct rfl T.k_TOP_LEVEL) (An _))))) (Af Cy) Ap) (Ab (Ah (i:=3) Gh.nd rfl (Or.inl rfl) (At AQ (BK (pv 0) rfl) (pv 1) (λ_ _=>rfl))) (Ab (Ah (i:=4) Gh.nd rfl (Or.inl rfl) (At AQ (BK (pv 0) rfl) (Ao FT (pv 2) Ae) (λ_ _=>rfl))) (Af (Am (AK (pv 0) a6 (rm hr) Ar (Cn (Aa (AK (pv 0) a6 (rm hr) Ar (Cn (Aa (pv 4) (Aa (pv 4) (Aa (pv 4) (Aa (At Az (pv 3) Ae (λ_ _=>rfl)) Ac)))) Ac)) (Aa (AK (pv 0) a6 (rm hr) Ar (Cn (Aa (pv 4) (Aa (pv 4) (Aa (At Az (pv 3) Ae (λ_ _=>rfl)) (Aa (pv 4) Ac)))) Ac)) (Aa (AK (pv 0) a6 (rm hr) Ar (Cn (Aa (pv 4) (Aa (At Az (pv 3) Ae (λ_ _=>rfl)) (Aa (pv 4) (Aa (pv 4) Ac)))) Ac)) (Aa (AK (pv 0) a6 (rm hr) Ar (Cn (Aa (At Az (pv 3) Ae (λ_ _=>rfl)) (Aa (pv 4) (Aa (pv 4) (Aa (pv 4) Ac)))) Ac)) Ac)))) Ac)))))))),?_⟩
  try dsimp only[cxK]
  refine xq1 rfl ⟨g.p,g.dx,(xq1 rfl ⟨fu.at'.hp,BL g,(xq1 rfl ⟨g,G,f',q,rfl,fu.at',nd.g,?_⟩)⟩)⟩;refine xwb rfl rfl rfl (xq1 rfl ?_);rw[Z4 (by lia:¬q.lev<1)];refine AE (xq1 rfl ⟨rfl,(xq1 rfl ?_)⟩);rw[Z4 (by intro z;injection z with z;lia)];refine AE (xwf rfl rfl fu.at'.hp T.cl_Grove T.na_Grove_parts (GK g) (xwi rfl rfl rfl (SqL.of h3) (Ai (by rw[C1,et];rfl)) ?_));refine xwf rfl rfl fu.at'.hp T.cl_Grove T.na_Grove_bares (MN g) (xwb rfl rfl rfl (xq4 rfl rfl (SqL.of fu.br) (by rw[show q.lev-1=(n:Int) by lia];exact Ai (bareL_at' A0)) ?_));refine xq1 rfl ⟨g.p,g.dx,(xq1 rfl ⟨fu.at'.hp,Dc g,?_⟩)⟩;refine xq1 rfl ⟨g.p,g.dx,(xq1 rfl ⟨fu.at'.hp,Dc g,(xw3 rfl rfl rfl (xwi rfl rfl rfl (SqT.of ht) (Ai (j:=0) rfl) ⟨(by show 4<=sizeLine;decide),λt1 ht1=>?_⟩))⟩)⟩;have s1:=Al (o:=.tup [.int (bareN n:Int),.int (bareN n:Int),.int (bareN n:Int),.int x]) ht1;refine⟨g,G,t1,bareN n,bareN n,bareN n,x,(n:Int),rfl,fu.at'.same s1,fu.ok,Ag,⟨lb,lb,lb,nd.hx⟩,by lia,by lia,λa1 G1 H1 fr1 hg1 go1 e1=>?_⟩;have f1:=(Aw.fr s1).trans fr1;have htA:=f1.tup fu.at' ht;have n1:=go1.few;refine xwn rfl rfl hg1.hp (Dc g) rfl (xwj rfl rfl rfl rfl (SqT.of htA) (Ai (j:=1) rfl) (xq1 rfl ⟨(by show 4<=sizeLine;decide),λt2 ht2=>?_⟩));have s2:=Al (o:=.tup [.int (bareN n:Int),.int (bareN n:Int),.int y,.int (bareN n:Int)]) ht2;refine⟨g,G1,t2,bareN n,bareN n,y,bareN n,(n:Int),rfl,hg1.same s2,go1.ok,Ag,⟨go1.lev lb,go1.lev lb,go1.lev nd.hy,go1.lev lb⟩,by lia,by lia,λa2 G2 H2 fr2 hg2 go2 e2=>?_⟩;have f2:=f1.trans ((Aw.fr s2).trans fr2);have htB:=f2.tup fu.at' ht;have n2:=go2.few;have go12:=go1.trans go2;refine xwn rfl rfl hg2.hp (Dc g) rfl (xwi rfl rfl rfl (SqT.of htB) (Ai (j:=2) rfl) (xw2 rfl rfl ⟨(by show 4<=sizeLine;decide),λt3 ht3=>?_⟩));have s3:=Al (o:=.tup [.int (bareN n:Int),.int z,.int (bareN n:Int),.int (bareN n:Int)]) ht3;refine⟨g,G2,t3,bareN n,z,bareN n,bareN n,(n:Int),rfl,hg2.same s3,go2.ok,Ag,⟨go12.lev lb,go12.lev nd.hz,go12.lev lb,go12.lev lb⟩,by lia,by lia,λa3 G3 H3 fr3 hg3 go3 e3=>?_⟩;have f3:=f2.trans ((Aw.fr s3).trans fr3);have htC:=f3.tup fu.at' ht;have n3:=go3.few;have go13:=go12.trans go3;refine xwn rfl rfl hg3.hp (Dc g) rfl (xq4 rfl rfl (SqT.of htC) (Ai (j:=3) rfl) (xw3 rfl rfl rfl ⟨(by show 4<=sizeLine;decide),λt4 ht4=>?_⟩));have s4:=Al (o:=.tup [.int v,.int (bareN n:Int),.int (bareN n:Int),.int (bareN n:Int)]) ht4;refine⟨g,G3,t4,v,bareN n,bareN n,bareN n,(n:Int),rfl,hg3.same s4,go3.ok,Ag,⟨go13.lev nd.hw,go13.lev lb,go13.lev lb,go13.lev lb⟩,by lia,by lia,λa4 G4 H4 fr4 hg4 go4 e4=>?_⟩;have f4:=f3.trans ((Aw.fr s4).trans fr4);have n4:=go4.few;have go14:=go13.trans go4;refine⟨(by show 4<=sizeLine;decide),λt5 ht5=>?_⟩;have s5:=Al (o:=.tup [.int a1,.int a2,.int a3,.int a4]) ht5;have E1:=(go2.trans (go3.trans go4)).get e1;have E2:=(go3.trans go4).get e2;have E3:=go4.get e3;refine⟨g,G4,t5,a1,a2,a3,a4,(n:Int)+1,rfl,hg4.same s5,go4.ok,Ag,⟨⟨_,E1,rfl⟩,⟨_,E2,rfl⟩,⟨_,E3,rfl⟩,⟨_,e4,rfl⟩⟩,by lia,by lia,λw' G5 H5 fr5 hg5 go5 e5=>?_⟩;have go15:=go14.trans go5;exact k w' G5 H5 (f4.trans ((Aw.fr s5).trans fr5)) hg5 go15 ⟨q,x,y,z,v,a1,a2,a3,a4,nd.app go15,go5.get E1,go5.get E2,go5.get E3,go5.get e4,by rw[e5,show(n:Int)+1+1=(n:Int)+2 by lia]⟩
end
structure LK(G:Gv)(n i:Nat)(qs:Nat->Nat)(ps:Nat->Nat->Nat):Prop where
 node:∃q,BZ G (n+1) i q (qs 0) (qs 1) (qs 2) (qs 3)
 sub:∀k,k<4->∃q,BZ G n (qs k) q (ps k 0) (ps k 1) (ps k 2) (ps k 3)
theorem LK.app{G G':Gv}{k n i:Nat}{qs:Nat->Nat}{ps:Nat->Nat->Nat}(go:AV G G' k)(h:LK G n i qs ps):LK G' n i qs ps:=by
 obtain⟨q,nd⟩:=h.node;exact⟨⟨q,nd.app go⟩,λk hk=>by obtain⟨q,nd⟩:=h.sub k hk;exact⟨q,nd.app go⟩⟩
def f4(x y z w:Nat)(k:Nat):Nat:=match k with|0=>x|1=>y|2=>z|_=>w
theorem deep_of{G:Gv}(ok:GOk G){n i:Nat}(h:Au G i ((n+2:Nat):Int)):∃qs ps,LK G n i qs ps:=by
 obtain⟨q,x,y,z,w,nd⟩:=AU ok (n:=n+1) h;obtain⟨_,x0,x1,x2,x3,nx⟩:=AU ok nd.hx;obtain⟨_,y0,y1,y2,y3,ny⟩:=AU ok nd.hy;obtain⟨_,z0,z1,z2,z3,nz⟩:=AU ok nd.hz;obtain⟨_,w0,w1,w2,w3,nw⟩:=AU ok nd.hw;refine⟨f4 x y z w,λk=>match k with|0=>f4 x0 x1 x2 x3|1=>f4 y0 y1 y2 y3|2=>f4 z0 z1 z2 z3|_=>f4 w0 w1 w2 w3,⟨q,nd⟩,λk hk=>?_⟩
 match k,hk with
 |0,_=>exact⟨_,nx⟩
 |1,_=>exact⟨_,ny⟩
 |2,_=>exact⟨_,nz⟩
 |3,_=>exact⟨_,nw⟩
theorem BZ.nat{G:Gv}{n i:Nat}{q:Sq}{x y z w:Nat}(h:BZ G n i q x y z w){j:Nat}(hj:j<4):q.parts[j]?=some ((f4 x y z w j:Nat):Int)/\Au G (f4 x y z w j) n:=by
 rw[h.ps]
 match j,hj with
 |0,_=>exact⟨rfl,h.hx⟩
 |1,_=>exact⟨rfl,h.hy⟩
 |2,_=>exact⟨rfl,h.hz⟩
 |3,_=>exact⟨rfl,h.hw⟩
theorem MO(p:Nat->Nat){j:Nat}(hj:j<4):f4 (p 0) (p 1) (p 2) (p 3) j=p j:=by
 match j,hj with
 |0,_=>rfl
 |1,_=>rfl
 |2,_=>rfl
 |3,_=>rfl
def BA(n:Nat)(ps:Nat->Nat->Nat):Prop:=∀k j,k<4->j<4->j+k≠3->ps k j=bareN n
def LA(G:Gv):Nat->Nat->Nat->Prop
 |0,_,_=>False
 |1,f,r=>r=f
 |n+2,f,r=>∃qs ps,LK G n f qs ps/\((¬BA n ps/\r=f)\/(BA n ps/\∃m,G[m]?=some ⟨[(ps 0 3:Int),(ps 1 2:Int),(ps 2 1:Int),(ps 3 0:Int)],(n:Int)+1⟩/\LA G (n+1) m r))
section
variable{P:Program}{w:World}{K:W.Frag}{mg:Str->Option Value}{base:Heap}{a:Ad}
theorem IB{H:Hp}{g:GA}{G:Gv}(h:AX a H g G){n i:Nat}{q:Sq}{x y z w:Nat}(nd:BZ G n i q x y z w):∃(ts:List Addr)(t:Addr),H g.pt=some (.lst (ts.map V.ref))/\(ts.map V.ref)[i]?=some (.ref t)/\H t=some (.tup [.int x,.int y,.int z,.int w]):=by
 obtain⟨ts,h3,h4⟩:=h.pt;obtain⟨t,et,ht⟩:=PairedM.get h4 nd.g;refine⟨ts,t,h3,by rw[C1,et];rfl,?_⟩;have ht:H t=some (.tup (q.parts.map V.int)):=ht;rw[nd.ps]at ht;exact ht
inductive SpMid(a:Ad)(vs:List V)(H:Hp)(Q:VK):Prop
 |mk (g:GA) (G:Gv) (i n:Nat) (qs:Nat->Nat) (ps:Nat->Nat->Nat) (_:vs=[.ref g.p,.int i]) (_:AX a H g G) (_:GOk G) (_:LK G n i qs ps) (_:n<47) (_:G.length<8900000) (_:∀(m:Nat)(G':Gv)(H':Hp),Fr g H H'->AX a H' g G'->AV G G' 1->G'[m]?=some ⟨[(ps 0 3:Int),(ps 1 2:Int),(ps 2 1:Int),(ps 3 0:Int)],(n:Int)+1⟩->Q (.int m) H'):SpMid a vs H Q
def UN(a:Ad):Sp:=λvs H Q _=>SpMid a vs H Q
theorem ok_mid{f:Addr}{fd:FuncData}(F:Fun K "middle_of" "middle_of" Fh f fd)(T:Top K mg a)(a6:CS P w K mg base CX0 2 a.c_Grove "linked" BT (IW a)):AO P w K mg base CX0 3 f fd Ij (UN a):=by
 refine F.ok Jo (λvs H Q E h=>?_) (λcdv A outer s H vs Q E hr h=>?_)
 ·obtain⟨g,G,i,n,qs,ps,rfl,_⟩:=h;rfl
 ·obtain⟨g,G,i,n,qs,ps,rfl,hg,ok,dp,n47,few,k⟩:=h;obtain⟨q,nd⟩:=dp.node;obtain⟨ts,t,h3,et,ht⟩:=IB hg nd;refine⟨_,(Ab (Rf (i:=2) rfl Jo.nd rfl rfl (Eh.of (So:=Aj Fh) (No:=Lu) (N:=["quarter","grove"]) (k:=1) (cs:=[0]) rfl rfl A1) (Vg (At AQ (BK (pv 0) rfl) (pv 1) (λ_ _=>rfl))) (λ_ _ _=>(Ie (i:=0) A1 rfl rfl)) (λ_ _ _=>Jv) (λ_ _ _=>(At (VV (K:=K) rfl) (pe_fldK (K:=K) rfl (pv 1) rfl) (pv 0) (λ_ _=>rfl)))) (Af (Am (AK (pv 0) a6 (rm hr) Ar (Cn (Aa (At Az (At AQ (pv 2) Ae (λ_ _=>rfl)) Ae (λ_ _=>rfl)) (Aa (At Az (At AQ (pv 2) Ae (λ_ _=>rfl)) Ae (λ_ _=>rfl)) (Aa (At Az (At AQ (pv 2) Ae (λ_ _=>rfl)) Ae (λ_ _=>rfl)) (Aa (At Az (At AQ (pv 2) Ae (λ_ _=>rfl)) Ae (λ_ _=>rfl)) Ac)))) Ac))))),?_⟩
  try dsimp only[cxK]
  refine xwf rfl rfl hg.hp T.cl_Grove T.na_Grove_parts (GK g) (xwi rfl rfl rfl (SqL.of h3) (Ai et) ⟨t,rfl,⟨_,SqT.of ht⟩,?_⟩);have sub:∀k,k<4->∃tk,(ts.map V.ref)[qs k]?=some (.ref tk)/\H tk=some (.tup [.int (ps k 0),.int (ps k 1),.int (ps k 2),.int (ps k 3)]):=λk hk=>by
   obtain⟨qk,ndk⟩:=dp.sub k hk;obtain⟨ts',tk,h3',et',ht'⟩:=IB hg ndk;rw[h3]at h3';have h3':=HO.lst.inj (X2 h3');exact⟨tk,by rw[h3'];exact et',ht'⟩
  obtain⟨t0,e0,p0⟩:=sub 0 A3;obtain⟨t1,e1,p1⟩:=sub 1 A3;obtain⟨t2,e2,p2⟩:=sub 2 A3;obtain⟨t3,e3,p3⟩:=sub 3 A3;have all:∀(j:Nat)(v:V),[V.int (qs 0:Int),V.int (qs 1:Int),V.int (qs 2:Int),V.int (qs 3:Int)][j]?=some v->∃(k:Nat)(tk:Addr),v=.int (k:Int)/\(ts.map V.ref)[k]?=some (.ref tk)/\[V.ref t0,V.ref t1,V.ref t2,V.ref t3][j]?=some (.ref tk):=λj v ev=>by
   match j,ev with
   |0,ev=>cases ev;exact⟨qs 0,t0,rfl,e0,rfl⟩
   |1,ev=>cases ev;exact⟨qs 1,t1,rfl,e1,rfl⟩
   |2,ev=>cases ev;exact⟨qs 2,t2,rfl,e2,rfl⟩
   |3,ev=>cases ev;exact⟨qs 3,t3,rfl,e3,rfl⟩
   |j+4,ev=>simp at ev
  refine SQ (xs:=[.int (qs 0:Int),.int (qs 1:Int),.int (qs 2:Int),.int (qs 3:Int)]) (λj acc H2=>H=H2/\acc=[V.ref t0,V.ref t1,V.ref t2,V.ref t3].take j) ⟨rfl,rfl⟩ (λj acc H2 _ z=>z.1▸SqT.of ht) ?_ ?_
  ·rintro j v acc H2 ev ⟨rfl,rfl⟩;obtain⟨k',tk,rfl,ek,el⟩:=all j v ev;refine⟨⟨[some (.int k')],rfl,rfl⟩,by rw[N6];exact Du (by show min j 4<10000000;lia),Uz (xwf rfl rfl hg.hp T.cl_Grove T.na_Grove_parts (GK g) (xwi rfl rfl rfl (SqL.of h3) (Ai ek) ⟨rfl,?_⟩))⟩;rw[J1,el];rfl
  ·rintro acc H2 ⟨rfl,rfl⟩ L hL;have s1:=Al (o:=.lst [V.ref t0,V.ref t1,V.ref t2,V.ref t3]) hL;have hL1:upd H L (.lst [V.ref t0,V.ref t1,V.ref t2,V.ref t3]) L=some (.lst [V.ref t0,V.ref t1,V.ref t2,V.ref t3]):=Ag;rw[show(List.take [V.int (qs 0:Int),V.int (qs 1:Int),V.int (qs 2:Int),V.int (qs 3:Int)].length [V.ref t0,V.ref t1,V.ref t2,V.ref t3])=[V.ref t0,V.ref t1,V.ref t2,V.ref t3]from rfl];generalize upd H L (.lst [V.ref t0,V.ref t1,V.ref t2,V.ref t3])=H1 at s1 hL1⊢;have hg1:=hg.same s1;refine xwn rfl rfl hg1.hp (Dc g) rfl (xq4 rfl rfl (SqL.of hL1) (Ai (j:=0) rfl) (xq4 rfl rfl (SqT.of (s1 _ _ p0)) (Ai (j:=3) rfl) (xwi rfl rfl rfl (SqL.of hL1) (Ai (j:=1) rfl) (xq4 rfl rfl (SqT.of (s1 _ _ p1)) (Ai (j:=2) rfl) ?_))));refine xwi rfl rfl rfl (SqL.of hL1) (Ai (j:=2) rfl) (xq4 rfl rfl (SqT.of (s1 _ _ p2)) (Ai (j:=1) rfl) (xwi rfl rfl rfl (SqL.of hL1) (Ai (j:=3) rfl) (xq4 rfl rfl (SqT.of (s1 _ _ p3)) (Ai (j:=0) rfl) ⟨(by show 4<=sizeLine;decide),λt4 ht4=>?_⟩)));have s2:=Al (o:=.tup [.int (ps 0 3),.int (ps 1 2),.int (ps 2 1),.int (ps 3 0)]) ht4;obtain⟨_,n0⟩:=dp.sub 0 A3;obtain⟨_,n1⟩:=dp.sub 1 A3;obtain⟨_,n2⟩:=dp.sub 2 A3;obtain⟨_,n3⟩:=dp.sub 3 A3;exact⟨g,G,t4,ps 0 3,ps 1 2,ps 2 1,ps 3 0,(n:Int),rfl,hg1.same s2,ok,Ag,⟨n0.hw,n1.hz,n2.hy,n3.hx⟩,by lia,by lia,λm G' H' fr hg' go e=>k m G' H' ((Aw.fr s1).trans ((Aw.fr s2).trans fr)) hg' go e⟩
inductive SpBA(a:Ad)(vs:List V)(H:Hp)(Q:VK):Prop
 |mk (g:GA) (G:Gv) (i n:Nat) (qs:Nat->Nat) (ps:Nat->Nat->Nat) (_:vs=[.ref g.p,.int i]) (_:Bs a H g G) (_:LK G n i qs ps) (_:n<47) (_:(BA n ps->∀H',Aw H H'->Q (.bl true) H')) (_:(¬BA n ps->∀H',Aw H H'->Q (.bl false) H')):SpBA a vs H Q
def spBA(a:Ad):Sp:=λvs H Q _=>SpBA a vs H Q
theorem ok_ba{f:Addr}{fd:FuncData}(F:Fun K "is_bare_around" "is_bare_around" Dx f fd)(T:Top K mg a):AO P w K mg base CX0 1 f fd DD (spBA a):=by
 refine F.ok BJ (λvs H Q E h=>?_) (λcdv A outer s H vs Q E hr h=>?_)
 ·obtain⟨g,G,i,n,qs,ps,rfl,_⟩:=h;rfl
 ·obtain⟨g,G,i,n,qs,ps,rfl,fu,dp,n47,k1,k2⟩:=h;obtain⟨q,nd⟩:=dp.node;have lq:=nd.lev;obtain⟨ts,t,h3,et,ht⟩:=IB fu.at' nd;refine⟨_,(Ab (Ah (i:=2) BJ.nd rfl (Or.inl rfl) (At AQ (BK (pv 0) rfl) (Ao FT (At AQ (BK (pv 0) rfl) (pv 1) (λ_ _=>rfl)) Ae) (λ_ _=>rfl))) (Ab (Ci X8 rfl (Jy true rfl T.b_enumerate (Aa (At AQ (BK (pv 0) rfl) (pv 1) (λ_ _=>rfl)) Ac)) (Dl rfl (AG (AF (i:=3) BJ.nd rfl (Or.inl rfl)) (AG (AF (i:=4) BJ.nd rfl (Or.inl rfl)) Cs))) (Af (Ci X8 rfl (Jy true rfl T.b_enumerate (Aa (At AQ (BK (pv 0) rfl) (pv 4) (λ_ _=>rfl)) Ac)) (Dl rfl (AG (AF (i:=5) BJ.nd rfl (Or.inl rfl)) (AG (AF (i:=6) BJ.nd rfl (Or.inl rfl)) Cs))) (Af (AB (PW.pt (Je (Ak Dt (pv 6) (pv 2) (An _)) (Gs (Ak Dt (pv 5) (Ao FT Ae (pv 3)) (An _))))) (Af (Am Db)) Ap))))) (Af (Am Db)))),?_⟩
  try dsimp only[cxK]
  refine xwf rfl rfl fu.at'.hp T.cl_Grove T.na_Grove_bares (MN g) (xwf rfl rfl fu.at'.hp T.cl_Grove T.na_Grove_levels (Iv g) (xwi rfl rfl rfl (SqL.of fu.at'.lv) (Ai (by rw[C1,nd.g];rfl)) (xq2 rfl rfl (xq4 rfl rfl (SqL.of fu.br) (by rw[show q.lev-2=(n:Int) by lia];exact Ai (bareL_at' A0)) ?_))));refine xwf rfl rfl fu.at'.hp T.cl_Grove T.na_Grove_parts (GK g) (xwi rfl rfl rfl (SqL.of h3) (Ai et) ⟨t,rfl,⟨_,SqT.of ht⟩,?_⟩);refine Ir (b:=true) (xs:=[.int (qs 0:Int),.int (qs 1:Int),.int (qs 2:Int),.int (qs 3:Int)]) (λj σ H2=>Aw H H2/\(∃u3 u4 u5 u6:Option V,σ=[some (.ref g.p),some (.int i),some (.int (bareN n:Int)),u3,u4,u5,u6])/\∀k' j',k'<j->k'<4->j'<4->j'+k'≠3->ps k' j'=bareN n) ⟨Aw.refl H,⟨none,none,none,none,rfl⟩,λk' j' h=>absurd h (M0 _)⟩ (λj σ H2 _ z=>SqT.of (z.1 _ _ ht)) ?_ ?_
  ·rintro j v σ H2 T' ev ⟨sm,⟨u3,u4,u5,u6,rfl⟩,al⟩ nT;have hj:j<4:=(B8.mp ev).1;have ev':v=.int (qs j:Int):=by
    match j,hj,ev with
    |0,_,ev=>cases ev;rfl
    |1,_,ev=>cases ev;rfl
    |2,_,ev=>cases ev;rfl
    |3,_,ev=>cases ev;rfl
   subst ev';obtain⟨qk,ndk⟩:=dp.sub j hj;have s2:=sm.trans (Al (o:=.tup [.int j,.int (qs j)]) nT);refine Ft Ag ?_;generalize upd H2 T' (.tup [.int j,.int (qs j)])=H3 at s2⊢;obtain⟨ts3,t3,h33,et3,ht3⟩:=IB (fu.at'.same s2) ndk;refine xwf rfl rfl ((fu.at'.same s2).hp) T.cl_Grove T.na_Grove_parts (GK g) (xwi rfl rfl rfl (SqL.of h33) (Ai et3) ⟨t3,rfl,⟨_,SqT.of ht3⟩,?_⟩);refine Ir (b:=true) (xs:=[.int (ps j 0:Int),.int (ps j 1:Int),.int (ps j 2:Int),.int (ps j 3:Int)]) (λj2 σ H4=>Aw H3 H4/\(∃u5 u6:Option V,σ=[some (.ref g.p),some (.int i),some (.int (bareN n:Int)),some (.int j),some (.int (qs j)),u5,u6])/\∀j',j'<j2->j'<4->j'+j≠3->ps j j'=bareN n) ⟨Aw.refl H3,⟨_,_,rfl⟩,λj' h=>absurd h (M0 _)⟩ (λj2 σ H4 _ z=>SqT.of (z.1 _ _ ht3)) ?_ ?_
   ·rintro j2 v σ H4 T2 ev ⟨sm2,⟨u5,u6,rfl⟩,al2⟩ nT2;have hj2:j2<4:=(B8.mp ev).1;have ev':v=.int (ps j j2:Int):=by
     match j2,hj2,ev with
     |0,_,ev=>cases ev;rfl
     |1,_,ev=>cases ev;rfl
     |2,_,ev=>cases ev;rfl
     |3,_,ev=>cases ev;rfl
    subst ev';have s4:=sm2.trans (Al (o:=.tup [.int j2,.int (ps j j2)]) nT2);refine Ft Ag ?_;generalize upd H4 T2 (.tup [.int j2,.int (ps j j2)])=H5 at s4⊢;refine xw2 rfl rfl ⟨rfl,(xq1 rfl ?_)⟩;refine UB (b2:=!decide (V.int (j2:Int)=V.int (3-(j:Int)))) (λ_ Q' q=>(xw2 rfl rfl (xq2 rfl rfl ⟨rfl,(xq1 rfl q)⟩))) ?_;refine GH (λhc=>?_) (λhc=>?_)
    ·refine k2 (λba=>?_) H5 (s2.trans s4);rw[O1]at hc;have c2:¬j2+j=3:=λz=>by
      have:=hc.2;rw[Z3 (show V.int (j2:Int)=V.int (3-(j:Int)) by congr 1;lia)]at this;cases this
     have c1:=hc.1;rw[ba j j2 hj hj2 c2,Z3 rfl]at c1;cases c1
    ·refine⟨s4,⟨_,_,rfl⟩,λj' h1 h2 h3'=>?_⟩;rcases O6.mp h1 with h|h
     ·exact al2 j' h h2 h3'
     ·subst h;refine A3c λz=>hc ?_;rw[Z4 (show ¬V.int (ps j j':Int)=V.int (bareN n:Int) by intro q;injection q with q;exact z (X7 q)),Z4 (show ¬V.int (j':Int)=V.int (3-(j:Int)) by intro q;injection q with q;lia)];rfl
   ·rintro σ H4 ⟨sm2,⟨u5,u6,rfl⟩,al2⟩;refine⟨s2.trans sm2,⟨_,_,_,_,rfl⟩,λk' j' h1 h2 h3' h4=>?_⟩;rcases O6.mp h1 with h|h
    ·exact al k' j' h h2 h3' h4
    ·subst h;exact al2 j' h3' h3' h4
  ·rintro σ H2 ⟨sm,⟨u3,u4,u5,u6,rfl⟩,al⟩;exact k1 (λk' j' h1 h2 h3'=>al k' j' h1 h1 h2 h3') H2 sm
end
section
variable{P:Program}{w:World}{K:W.Frag}{mg:Str->Option Value}{base:Heap}{a:Ad}
inductive WG(a:Ad)(vs:List V)(H:Hp)(Q:VK):Prop
 |mk (g:GA) (G:Gv) (f n:Nat) (_:vs=[.ref g.p,.int f]) (_:Bs a H g G) (_:Au G f ((n+1:Nat):Int)) (_:G.length<8800000) (_:∀(r:Nat)(G':Gv)(H':Hp),Fr g H H'->Bs a H' g G'->AV G G' 48->LA G' (n+1) f r->Q (.int r) H'):WG a vs H Q
def OA(a:Ad):Sp:=λvs H Q _=>WG a vs H Q
theorem ok_trim{f:Addr}{fd:FuncData}(F:Fun K "trimmed" "trimmed" JU f fd)(T:Top K mg a)(a5:CS P w K mg base CX0 3 a.c_Grove "level_of" AH (Fe a))(aX:Cal P w K mg base CX0 1 "is_bare_around" DD (spBA a))(bS:Cal P w K mg base CX0 3 "middle_of" Ij (UN a)):AO P w K mg base CX0 4 f fd IC (OA a):=by
 refine F.ok IZ (λvs H Q E h=>?_) (λcdv A outer s H vs Q E hr h=>?_)
 ·apply Ay;intro G_ hG_;obtain⟨g,G,f',n,rfl,_⟩:=h;apply hG_;clear hG_ G_;rfl
 ·apply Ay;intro G_ hG_;obtain⟨g,G,f',n,rfl,fu,hl,few,k⟩:=h;obtain⟨q,eq,lq⟩:=id hl;apply hG_;clear hG_ G_;have n48:n+1<=48:=by have:=(fu.ok.lev eq).2;lia
  refine⟨_,(Ab (AB (Ak Fq (AK (pv 0) a5 (rm hr) Ar (Aa (pv 1) Ac)) (Ct rfl T.k_LEAST_LEVEL) (An _)) (Af Cy) Ap) (Ab (Ah (i:=2) IZ.nd rfl (Or.inl rfl) (pv 1)) (Ab (Ic X8 (PW.pt (Je (Ak DM (At AQ (BK (pv 0) rfl) (pv 2) (λ_ _=>rfl)) (Ct rfl T.k_LEAST_LEVEL) (An _)) (Gs (AZ (Aq aX (rm hr) rfl Ar (Aa (pv 0) (Aa (pv 2) Ac))))))) (Af (Ah (i:=2) IZ.nd rfl (Or.inl rfl) (Aq bS (rm hr) rfl Ar (Aa (pv 0) (Aa (pv 2) Ac)))))) (Af (Am (pv 2)))))),?_⟩
  try dsimp only[cxK]
  refine xq1 rfl ⟨g.p,g.dx,(xq1 rfl ⟨fu.at'.hp,BL g,(xq1 rfl ⟨g,G,f',q,rfl,fu.at',eq,(xq2 rfl rfl (xq1 rfl ?_))⟩)⟩)⟩;rw[Z4 (by lia:¬q.lev<1)];refine AE (xq1 rfl ?_);refine⟨λm σ H2=>∃(G':Gv)(c:Nat),σ=[some (.ref g.p),some (.int f'),some (.int c)]/\Fr g H H2/\Bs a H2 g G'/\AV G G' (n-m)/\m<=n/\Au G' c ((m+1:Nat):Int)/\∀(r:Nat)(G'':Gv)(k:Nat),AV G' G'' k->LA G'' (m+1) c r->LA G'' (n+1) f' r,⟨n,G,f',rfl,Fr.refl g H,fu,(AV.refl fu.ok).mono A0,B1 _,hl,λ_ _ _ _ h=>h⟩,?_⟩;rintro m σ H2 z3_;apply Ay;intro G_ hG_;obtain⟨G',c,rfl,fr,fu2,go,mn,lc,tr⟩:=z3_;apply hG_;clear hG_ G_;have gf:=go.few;obtain⟨qc,ec,lqc⟩:=id lc;refine xwf rfl rfl fu2.at'.hp T.cl_Grove T.na_Grove_levels (Iv g) (xwi rfl rfl rfl (SqL.of fu2.at'.lv) (Ai (by rw[C1,ec];rfl)) (xq2 rfl rfl (xq1 rfl ?_)));cases m with
  |zero =>
   rw[Z4 (by lia:¬(1:Int)<qc.lev)];exact AE (AE (xq1 rfl (k c G' H2 fr fu2 (go.mono A0) (tr c G' 0 (AV.refl fu2.ok) rfl))))
  |succ m =>
   rw[Z3 (by lia:(1:Int)<qc.lev)];obtain⟨qs,ps,dp⟩:=deep_of fu2.ok lc;refine AI (xw2 rfl rfl ⟨g,G',c,m,qs,ps,rfl,fu2,dp,by lia,λba H3 s3=>⟨true,rfl,AI ?_⟩,λnba H3 s3=>⟨false,rfl,AE ?_⟩⟩)
   ·refine⟨fun σ' H'=>∃(G2:Gv)(c2:Nat),σ'=[some (.ref g.p),some (.int f'),some (.int c2)]/\Fr g H H'/\Bs a H' g G2/\AV G G2 (n-m)/\m<=n/\Au G2 c2 ((m+1:Nat):Int)/\∀(r:Nat)(G'':Gv)(k:Nat),AV G2 G'' k->LA G'' (m+1) c2 r->LA G'' (n+1) f' r,fun σ' H' z=>⟨m,by lia,z⟩,?_⟩;refine xw2 rfl rfl ⟨g,G',c,m,qs,ps,rfl,fu2.at'.same s3,fu2.ok,dp,by lia,by lia,λc2 G2 H4 fr4 hg4 go4 e4=>?_⟩;have fu4:=(fu2.same s3).fr fr4 hg4 go4;refine⟨G2,c2,rfl,fr.trans ((Aw.fr s3).trans fr4),fu4,(go.trans go4).mono A0,by lia,⟨_,e4,by show(m:Int)+1=_;lia⟩,λr G'' k' go5 t5=>?_⟩;exact tr r G'' _ (go4.trans go5) ⟨qs,ps,dp.app (go4.trans go5),.inr ⟨ba,c2,go5.get e4,t5⟩⟩
   ·exact xq1 rfl (k c G' H3 (fr.trans (Aw.fr s3)) (fu2.same s3) (go.mono A0) (tr c G' 0 (AV.refl fu2.ok) ⟨qs,ps,dp,.inl ⟨nba,rfl⟩⟩))
def MW(G:Gv)(n f:Nat):Nat->Nat->Prop
 |0,w=>w=f
 |k+1,w=>∃u,MW G n f k u/\Wid G (n+k) u w
theorem MW.app{G G':Gv}{m n f:Nat}(go:AV G G' m):∀{k w:Nat},MW G n f k w->MW G' n f k w
 |0,_,h=>h
 |k+1,w,h=>by
  obtain⟨u,h1,h2⟩:=h;exact⟨u,MW.app go h1,h2.app go⟩
inductive SpWO(a:Ad)(vs:List V)(H:Hp)(Q:VK):Prop
 |mk (g:GA) (G:Gv) (f n:Nat) (t:Addr) (x y wd ht:Int) (_:vs=[.ref g.p,.int f,.ref t]) (_:Bs a H g G) (_:Au G f ((n+1:Nat):Int)) (_:n<=40) (_:H t=some (.tup [.int x,.int y,.int wd,.int ht])) (_:Ep x y wd ht (2^40)) (_:G.length<8700000) (_:∀(k w:Nat)(G':Gv)(H':Hp),Fr g H H'->Bs a H' g G'->AV G G' (5*k)->n+k<=40->MW G' n f k w->Au G' w ((n+k+1:Nat):Int)->Ep x y wd ht (2^(n+k))->(∀j,j<k->¬Ep x y wd ht (2^(n+j)))->Q (.int w) H'):SpWO a vs H Q
def spWO(a:Ad):Sp:=λvs H Q _=>SpWO a vs H Q
theorem ok_wo{f:Addr}{fd:FuncData}(F:Fun K "widened_over" "widened_over" EB f fd)(T:Top K mg a)(aB:Cal P w K mg base CX0 1 "lies_within" CN PK)(aW:Cal P w K mg base CX0 4 "reach_of" Gy (LP a))(bT:Cal P w K mg base CX0 4 "widened" Ld (UK a)):AO P w K mg base CX0 5 f fd Dm (spWO a):=by
 refine F.ok DR (λvs H Q E h=>?_) (λcdv A outer s H vs Q E hr h=>?_)
 ·apply Ay;intro G_ hG_;obtain⟨g,G,f',n,t,x,y,wd,ht,rfl,_⟩:=h;apply hG_;clear hG_ G_;rfl
 ·apply Ay;intro G_ hG_;obtain⟨g,G,f',n,t,x,y,wd,hh,rfl,fu,hl,n40,ht,li,few,k⟩:=h;apply hG_;clear hG_ G_;refine⟨_,(Ab (Ah (i:=3) DR.nd rfl (Or.inl rfl) (pv 1)) (Ab (Ic X8 (Bp (AZ (Aq aB (rm hr) rfl Ar (Aa (pv 2) (Aa (Aq aW (rm hr) rfl Ar (Aa (pv 0) (Aa (pv 3) Ac))) Ac))))) (Af (Ah (i:=3) DR.nd rfl (Or.inl rfl) (Aq bT (rm hr) rfl Ar (Aa (pv 0) (Aa (pv 3) Ac)))))) (Af (Am (pv 3))))),?_⟩
  try dsimp only[cxK]
  refine xq1 rfl ?_;refine⟨λm σ H2=>∃(G':Gv)(c j:Nat),σ=[some (.ref g.p),some (.int f'),some (.ref t),some (.int c)]/\Fr g H H2/\Bs a H2 g G'/\AV G G' (5*j)/\n+j+m=40/\Au G' c ((n+j+1:Nat):Int)/\MW G' n f' j c/\∀i,i<j->¬Ep x y wd hh (2^(n+i)),⟨40-n,G,f',0,rfl,Fr.refl g H,fu,AV.refl fu.ok,by lia,hl,rfl,λi hi=>absurd hi (M0 _)⟩,?_⟩;rintro m σ H2 z3_;apply Ay;intro G_ hG_;obtain⟨G',c,j,rfl,fr,fu2,go,e40,lc,wn,no⟩:=z3_;apply hG_;clear hG_ G_;have gf:=go.few;have ht2:=fr.tup fu.at' ht;refine xq1 rfl (xq1 rfl (xq1 rfl ⟨g,G',c,n+j,rfl,fu2.at',lc,by lia,t,x,y,wd,hh,_,rfl,ht2,_,rfl,?_⟩));by_cases hL:Ep x y wd hh (2^(n+j))
  ·rw[Z3 hL];exact AE (xq1 rfl (k j c G' H2 fr fu2 go A0 wn lc hL no))
  ·rw[Z4 hL];have m0:m≠0:=λz=>by
    subst z;have:n+j=40:=by lia
    rw[this]at hL;exact hL li
   refine AI ⟨fun σ' H'=>∃(G2:Gv)(c2 j2:Nat),σ'=[some (.ref g.p),some (.int f'),some (.ref t),some (.int c2)]/\Fr g H H'/\Bs a H' g G2/\AV G G2 (5*j2)/\n+j2+(m-1)=40/\Au G2 c2 ((n+j2+1:Nat):Int)/\MW G2 n f' j2 c2/\∀i,i<j2->¬Ep x y wd hh (2^(n+i)),fun σ' H' z=>⟨m-1,by lia,z⟩,?_⟩;refine xw2 rfl rfl ⟨g,G',c,n+j,rfl,fu2,lc,by lia,by lia,λc2 G2 H3 fr3 hg3 go3 wi=>?_⟩;refine⟨G2,c2,j+1,rfl,fr.trans fr3,fu2.fr fr3 hg3 go3,(go.trans go3).mono A0,by lia,?_,⟨c,wn.app go3,wi⟩,λi hi=>?_⟩
   ·have:=wi.lev;rw[show n+(j+1)+1=n+j+2 by lia];exact this
   ·rcases O6.mp hi with h|h
    ·exact no i h
    ·rw[h];exact hL
end
end J
namespace J
open PySem L2
def quad(l x y:Nat):Nat:=x/2^l+2*(y/2^l)
theorem GJ{l x:Nat}(h:x<2^(l+1)):x/2^l<2:=by
 rw[Q8 (Nat.pow_pos A3),W1,<-R3];exact h
theorem Fj{l x y:Nat}(hx:x<2^(l+1))(hy:y<2^(l+1)):quad l x y<4:=by
 have h1:=GJ hx;have h2:=GJ hy;unfold quad;lia
theorem GS(l:Nat):((2^l:Nat):Int)=(2:Int)^l:=Int.natCast_pow 2 l
section
variable{P:Program}{w:World}{K:W.Frag}{mg:Str->Option Value}{base:Heap}{a:Ad}
end
structure Cl where
 x:Int
 y:Int
 s:Nat
section
variable{P:Program}{w:World}{K:W.Frag}{mg:Str->Option Value}{base:Heap}{a:Ad}
end
def WF(G:Gv)(n f:Nat):Prop:=n=0\/∃m qs ps,n=m+1/\LK G m f qs ps/\¬BA m ps
def cellF(G:Gv):Nat->Nat->Nat->Nat->Nat
 |0,i,_,_=>i
 |n+1,i,x,y=>match G[i]? with
  |some q=>cellF G n (q.parts.getD (quad n x y) 0).toNat (x%2^n) (y%2^n)
  |none=>0
theorem Be(n:Nat):0<2^n:=Nat.pow_pos A3
theorem AW{G:Gv}{n i:Nat}{q:Sq}{a b c d:Nat}(h:BZ G n i q a b c d){x y:Nat}(hx:x<2^(n+1))(hy:y<2^(n+1)):cellF G (n+1) i x y=cellF G n (f4 a b c d (quad n x y)) (x%2^n) (y%2^n):=by
 rw[show cellF G (n+1) i x y=(match G[i]? with|some q=>cellF G n (q.parts.getD (quad n x y) 0).toNat (x%2^n) (y%2^n)|none=>0)from rfl,h.g];show cellF G n (q.parts.getD (quad n x y) 0).toNat _ _=_;have:=(h.nat (Fj hx hy)).1;rw[C5,this];rfl
theorem Iy{G G':Gv}{k:Nat}(ok:GOk G)(go:AV G G' k):∀{n i x y:Nat},Au G i (n:Int)->x<2^n->y<2^n->cellF G' n i x y=cellF G n i x y
 |0,_,_,_,_,_,_=>rfl
 |n+1,i,x,y,h,hx,hy=>by
  obtain⟨q,a,b,c,d,nd⟩:=AU ok h;rw[AW nd hx hy,AW (nd.app go) hx hy];exact Iy ok go (nd.nat (Fj hx hy)).2 (L7 _ (Be n)) (L7 _ (Be n))
theorem Gd{G r:Gv}(e:G=G0++r)(ok:GOk G):∀{n x y:Nat},n<=48->x<2^n->y<2^n->cellF G n (bareN n) x y=0
 |0,_,_,_,_,_=>rfl
 |n+1,x,y,hn,hx,hy=>by
  obtain⟨q,a,b,c,d,nd⟩:=AU ok (DP e (n:=n+1) hn);have bn:a=bareN n/\b=bareN n/\c=bareN n/\d=bareN n:=by
   have g:=nd.g;rw[show bareN (n+1)=8+n from rfl,RF e n A0]at g;cases g;have s:[(bareN n:Int),(bareN n:Int),(bareN n:Int),(bareN n:Int)]=[(a:Int),(b:Int),(c:Int),(d:Int)]:=nd.ps;injection s with s0 s
   injection s with s1 s
   injection s with s2 s
   injection s with s3 s
   exact⟨(X7 s0).symm,(X7 s1).symm,(X7 s2).symm,(X7 s3).symm⟩
  obtain⟨rfl,rfl,rfl,rfl⟩:=bn;rw[AW nd hx hy];have:f4 (bareN n) (bareN n) (bareN n) (bareN n) (quad n x y)=bareN n:=by unfold f4;split<;>rfl
  rw[this];exact Gd e ok A0 (L7 _ (Be n)) (L7 _ (Be n))
theorem GI{n k x y:Nat}(hk:k<4)(hx:x<2^n)(hy:y<2^n):(x+2^n*(k%2))<2^(n+1)/\(y+2^n*(k/2))<2^(n+1)/\quad n (x+2^n*(k%2)) (y+2^n*(k/2))=k/\(x+2^n*(k%2))%2^n=x/\(y+2^n*(k/2))%2^n=y:=by
 have p:=Be n;have e:2^(n+1)=2*2^n:=by rw[R3];lia
 unfold quad;rw[T6 _ _ p,T6 _ _ p,Nat.add_mul_mod_self_left,Nat.add_mul_mod_self_left,Q4 hx,Q4 hy,V4 hx,V4 hy,e];generalize 2^n=h at *
 match k,hk with
 |0,_=>exact⟨by lia,by lia,rfl,rfl,rfl⟩
 |1,_=>exact⟨by lia,by lia,rfl,rfl,rfl⟩
 |2,_=>exact⟨by lia,by lia,rfl,rfl,rfl⟩
 |3,_=>exact⟨by lia,by lia,rfl,rfl,rfl⟩
theorem Ev{G:Gv}(ok:GOk G):∀{n i j:Nat},Au G i (n:Int)->Au G j (n:Int)->(∀x y,x<2^n->y<2^n->cellF G n i x y=cellF G n j x y)->i=j
 |0,i,j,_,_,h=>h 0 0 A3 A3
 |n+1,i,j,hi,hj,h=>by
  obtain⟨q,a,b,c,d,nd⟩:=AU ok hi;obtain⟨q',a',b',c',d',nd'⟩:=AU ok hj;have key:∀k,k<4->f4 a b c d k=f4 a' b' c' d' k:=λk hk=>by
   refine Ev ok (nd.nat hk).2 (nd'.nat hk).2 λx y hx hy=>?_;obtain⟨h1,h2,h3,h4,h5⟩:=GI hk hx hy;have:=h _ _ h1 h2;rw[AW nd h1 h2,AW nd' h1 h2,h3,h4,h5]at this;exact this
  have k0:a=a':=key 0 A3;have k1:b=b':=key 1 A3;have k2:c=c':=key 2 A3;have k3:d=d':=key 3 A3;subst k0 k1 k2 k3;exact ok.one nd.g nd'.g (nd.ps.trans nd'.ps.symm)
def fieldF(G:Gv)(n f:Nat)(x y:Int):Nat:=if -(2^n)<=x/\x<2^n/\-(2^n)<=y/\y<2^n then cellF G (n+1) f (x+2^n).toNat (y+2^n).toNat else 0
theorem Ei{n:Nat}{x:Int}(h0:-(2^n)<=x)(h1:x<2^n):(x+2^n).toNat<2^(n+1):=by
 have e:=GS (n+1);rw[JY]at e;lia
theorem II{G G':Gv}{k n f:Nat}(ok:GOk G)(go:AV G G' k)(h:Au G f ((n+1:Nat):Int))(x y:Int):fieldF G' n f x y=fieldF G n f x y:=by
 unfold fieldF;split
 ·rename_i z;exact Iy ok go h (Ei z.1 z.2.1) (Ei z.2.2.1 z.2.2.2)
 ·rfl
theorem Pi{h X:Nat}(u:Nat)(h1:h*u<=X)(h2:X<h*(u+1)):X/h=u/\X%h=X-h*u:=by
 have e:X/h=u:=Nat.div_eq_of_lt_le (by rw[W1];exact h1) (by rw[W1];exact h2);exact⟨e,by have:=Q6 X h;rw[e]at this;lia⟩
theorem Qj(x n:Nat):x%2^(n+1)%2^n=x%2^n:=Nat.mod_mod_of_dvd x ⟨2,by rw[R3]⟩
theorem Oh{G:Gv}{n i:Nat}{qs:Nat->Nat}{ps:Nat->Nat->Nat}(h:LK G n i qs ps){x y:Nat}(hx:x<2^(n+2))(hy:y<2^(n+2)):cellF G (n+2) i x y=cellF G n (ps (quad (n+1) x y) (quad n (x%2^(n+1)) (y%2^(n+1)))) (x%2^n) (y%2^n):=by
 obtain⟨q,nd⟩:=h.node;have qk:=Fj (l:=n+1) hx hy;have hx1:x%2^(n+1)<2^(n+1):=L7 _ (Be _);have hy1:y%2^(n+1)<2^(n+1):=L7 _ (Be _);obtain⟨q',nk⟩:=h.sub _ qk;rw[AW nd hx hy,MO qs qk,AW nk hx1 hy1,MO (ps _) (Fj hx1 hy1),Qj,Qj]
theorem bits{h u:Nat}(hu:u<2*h):(u+h)/(2*h)=u/h/\(u+h)%(2*h)/h=1-u/h/\(u+h)%h=u%h/\u/h<2:=by
 have p:0<h:=by lia
 rcases Nat.lt_or_ge u h with z|z
 ·have e1:u/h=0:=Q4 z;have e2:(u+h)/(2*h)=0:=Q4 A0;have e3:(u+h)%(2*h)=u+h:=V4 A0;have e4:(u+h)/h=1:=(Pi (X:=u+h) 1 A0 A0).1;exact⟨by rw[e1,e2],by rw[e3,e4,e1],Nat.add_mod_right u h,by lia⟩
 ·have e1:u/h=1:=(Pi 1 A0 A0).1;have e2:=Pi (h:=2*h) (X:=u+h) 1 A0 A0;have e3:(u+h-2*h*1)/h=0:=Q4 A0;exact⟨by rw[e1,e2.1],by rw[e2.2,e3,e1],Nat.add_mod_right u h,by lia⟩
theorem NP(n:Nat):2^(n+1)=2*2^n:=by rw[R3];lia
theorem VH{G:Gv}(ok:GOk G){n i m:Nat}{qs:Nat->Nat}{ps:Nat->Nat->Nat}(h:LK G n i qs ps)(em:G[m]?=some ⟨[(ps 0 3:Int),(ps 1 2:Int),(ps 2 1:Int),(ps 3 0:Int)],(n:Int)+1⟩){u v:Nat}(hu:u<2^(n+1))(hv:v<2^(n+1)):cellF G (n+2) i (u+2^n) (v+2^n)=cellF G (n+1) m u v:=by
 have lp:∀k j,k<4->j<4->Au G (ps k j) (n:Int):=λk j hk hj=>by
  obtain⟨q,nk⟩:=h.sub k hk;have:=(nk.nat hj).2;rw[MO (ps k) hj]at this;exact this
 have nm:BZ G n m _ (ps 0 3) (ps 1 2) (ps 2 1) (ps 3 0):=⟨em,rfl,rfl,lp 0 3 A3 A3,lp 1 2 A3 A3,lp 2 1 A3 A3,lp 3 0 A3 A3⟩
 have e1:=NP n;have e2:2^(n+2)=2*2^(n+1):=NP (n+1);have p:=Be n;rw[Oh h A0 A0,AW nm hu hv];unfold quad;rw[e1];rw[e1]at hu hv;apply Ay;intro G_ hG_;obtain⟨a1,a2,a3,a4⟩:=bits hu;obtain⟨b1,b2,b3,b4⟩:=bits hv;apply hG_;clear hG_ G_;rw[a1,a2,a3,b1,b2,b3];have two:∀{A:Nat},A<2->A=0\/A=1:=λ{A} h=>by lia
 have hu2:=two a4;have hv2:=two b4;rcases hu2 with z|z<;>rcases hv2 with z'|z'<;>rw[z,z']<;>rfl
theorem mid_iff'{m X Y:Nat}{x y:Int}(eX:(X:Int)=x+2^(m+1))(eY:(Y:Int)=y+2^(m+1))(hX:X<2^(m+2))(hY:Y<2^(m+2)):quad m (X%2^(m+1)) (Y%2^(m+1))+quad (m+1) X Y=3↔(-(2^m)<=x/\x<2^m/\-(2^m)<=y/\y<2^m):=by
 have p:=Be m;have e1:=NP m;have e2:2^(m+2)=2*2^(m+1):=NP (m+1);have c1:=GS m;have c2:=GS (m+1);rw[e1]at c2;unfold quad;rw[e1];rw[e2,e1]at hX hY;rw[<-c2]at eX eY;rw[<-c1];generalize 2^m=h at *
 have key:∀{X:Nat}{x:Int},(X:Int)=x+((2*h:Nat):Int)->X<2*(2*h)->(X%(2*h)/h+X/(2*h)=1 ↔ -(h:Int)<=x/\x<(h:Int))/\X%(2*h)/h<2/\X/(2*h)<2:=by
  intro X x e l;have h2:0<2*h:=by lia
  have q2:X/(2*h)<2:=by rw[Q8 h2];exact l
  have r2:X%(2*h)<2*h:=L7 _ h2;have q1:X%(2*h)/h<2:=by rw[Q8 p];exact r2
  have d2:=Q6 X (2*h);have d1:=Q6 (X%(2*h)) h;have m1:=L7 (X%(2*h)) p;refine⟨?_,q1,q2⟩;generalize X/(2*h)=u at *
  generalize X%(2*h)/h=v at *
  generalize X%(2*h)%h=t at *
  generalize X%(2*h)=rr at *
  have hu:u=0\/u=1:=by lia
  have hv:v=0\/v=1:=by lia
  rcases hu with rfl|rfl<;>rcases hv with rfl|rfl<;>simp only[Nat.mul_zero,Nat.mul_one,S1]at d1 d2<;>lia
 obtain⟨kx,x1,x2⟩:=key eX hX;obtain⟨ky,y1,y2⟩:=key eY hY;clear key;generalize X%(2*h)/h=A at *
 generalize X/(2*h)=B at *
 generalize Y%(2*h)/h=C at *
 generalize Y/(2*h)=D at *
 constructor
 ·intro z;have zx:=kx.mp A0;have zy:=ky.mp A0;exact⟨zx.1,zx.2,zy.1,zy.2⟩
 ·rintro z0_;apply Ay;intro G_ hG_;obtain⟨z1,z2,z3,z4⟩:=z0_;apply hG_;clear hG_ G_;have zx:=kx.mpr ⟨z1,z2⟩;have zy:=ky.mpr ⟨z3,z4⟩;lia
theorem NS{G r:Gv}(e0:G=G0++r)(ok:GOk G){n i m:Nat}(hn:n<=46){qs:Nat->Nat}{ps:Nat->Nat->Nat}(h:LK G n i qs ps)(ba:BA n ps)(em:G[m]?=some ⟨[(ps 0 3:Int),(ps 1 2:Int),(ps 2 1:Int),(ps 3 0:Int)],(n:Int)+1⟩)(x y:Int):fieldF G (n+1) i x y=fieldF G n m x y:=by
 have s1:=JY n;have p:=Gu n;unfold fieldF;by_cases hin:-(2^n)<=x/\x<2^n/\-(2^n)<=y/\y<2^n
 ·apply Ay;intro G_ hG_;obtain⟨a1,a2,a3,a4⟩:=hin;apply hG_;clear hG_ G_;rw[Z6 ⟨by lia,by lia,by lia,by lia⟩,Z6 ⟨a1,a2,a3,a4⟩];have hu:=Ei a1 a2;have hv:=Ei a3 a4;have c:=GS n;have ex:(x+2^(n+1)).toNat=(x+2^n).toNat+2^n:=by lia
  have ey:(y+2^(n+1)).toNat=(y+2^n).toNat+2^n:=by lia
  rw[ex,ey];exact VH ok h em hu hv
 ·rw[Z5 hin];split
  ·rename_i z;apply Ay;intro G_ hG_;obtain⟨z1,z2,z3,z4⟩:=z;apply hG_;clear hG_ G_;have hX:=Ei z1 z2;have hY:=Ei z3 z4;rw[Oh h hX hY];have ne:¬quad n ((x+2^(n+1)).toNat%2^(n+1)) ((y+2^(n+1)).toNat%2^(n+1))+quad (n+1) (x+2^(n+1)).toNat (y+2^(n+1)).toNat=3:=λq=>hin ((mid_iff' (U4 A0) (U4 A0) hX hY).mp q);rw[ba _ _ (Fj hX hY) (Fj (L7 _ (Be _)) (L7 _ (Be _))) ne];exact Gd e0 ok A0 (L7 _ (Be _)) (L7 _ (Be _))
  ·rfl
theorem Mf{G r0:Gv}(e0:G=G0++r0)(ok:GOk G):∀{n f r:Nat},n<=47->Au G f ((n+1:Nat):Int)->LA G (n+1) f r->∃m,m<=n/\Au G r ((m+1:Nat):Int)/\WF G m r/\∀x y,fieldF G m r x y=fieldF G n f x y
 |0,f,r,_,hl,h=>by
  have h:r=f:=h;subst h;exact⟨0,B1 _,hl,.inl rfl,λ_ _=>rfl⟩
 |n+1,f,r,hn,hl,h=>by
  apply Ay;intro G_ hG_;obtain⟨qs,ps,d,h⟩:=h;apply hG_;clear hG_ G_;rcases h with ⟨nb,rfl⟩|⟨ba,m,em,h⟩
  ·exact⟨n+1,B1 _,hl,.inr ⟨n,qs,ps,rfl,d,nb⟩,λ_ _=>rfl⟩
  ·obtain⟨k,hk,lk,tk,ek⟩:=Mf e0 ok A0 ⟨_,em,by show(n:Int)+1=_;lia⟩ h;refine⟨k,by lia,lk,tk,λx y=>?_⟩;rw[ek x y,NS e0 ok A0 d ba em x y]
theorem Ta{G r:Gv}(e0:G=G0++r)(ok:GOk G){n f w:Nat}(hn:n<=46)(h:Wid G n f w)(x y:Int):fieldF G (n+1) w x y=fieldF G n f x y:=by
 apply Ay;intro G_ hG_;obtain⟨q,a,b,c,d,w0,w1,w2,w3,nd,ea,eb,ec,ed,ew⟩:=h.ex;apply hG_;clear hG_ G_;have lb:=DP e0 (n:=n) A0;have lv:∀{p:Nat}{l:List Int},G[p]?=some ⟨l,(n:Int)+1⟩->Au G p ((n+1:Nat):Int):=λ{p l} e=>⟨_,e,by show(n:Int)+1=_;lia⟩
 have dp:LK G n w (f4 w0 w1 w2 w3) (λk j=>if j+k=3 then f4 a b c d k else bareN n):=by
  refine⟨⟨_,ew,rfl,by show(n:Int)+2=_;lia,lv ea,lv eb,lv ec,lv ed⟩,λk hk=>?_⟩
  match k,hk with
  |0,_=>exact⟨_,ea,rfl,rfl,lb,lb,lb,nd.hx⟩
  |1,_=>exact⟨_,eb,rfl,rfl,lb,lb,nd.hy,lb⟩
  |2,_=>exact⟨_,ec,rfl,rfl,lb,nd.hz,lb,lb⟩
  |3,_=>exact⟨_,ed,rfl,rfl,nd.hw,lb,lb,lb⟩
 have g:=nd.g;have l:=nd.lev;have ps:=nd.ps;refine NS e0 ok hn dp (λk j _ _ ne=>Z5 ne) ?_ x y;rw[g];cases q with
 |mk pp ll=>cases ps;cases l;rfl
theorem IU{G r:Gv}(e0:G=G0++r)(ok:GOk G){n f:Nat}:∀{k w:Nat},n+k<=46->MW G n f k w->∀x y,fieldF G (n+k) w x y=fieldF G n f x y
 |0,w,_,h,x,y=>by
  have h:w=f:=h;subst h;rfl
 |k+1,w,hk,h,x,y=>by
  obtain⟨u,h1,h2⟩:=h;rw[show n+(k+1)=n+k+1 by lia,Ta e0 ok A0 h2 x y];exact IU e0 ok A0 h1 x y
def Fix:HO->Prop
 |.tup _=>True
 |.ins _ _ _=>True
 |_=>False
def Fx(l:List Addr)(H H':Hp):Prop:=∀b o,H b=some o->(b∈l->Fix o)->H' b=some o
theorem Fx.refl(l:List Addr)(H:Hp):Fx l H H:=λ_ _ e _=>e
theorem Fx.trans{l:List Addr}{H1 H2 H3:Hp}(h:Fx l H1 H2)(h2:Fx l H2 H3):Fx l H1 H3:=λb o e n=>h2 b o (h b o e n) n
theorem Aw.fx{l:List Addr}{H1 H2:Hp}(h:Aw H1 H2):Fx l H1 H2:=λb o e _=>h b o e
theorem Fx.mono{l m:List Addr}{H1 H2:Hp}(h:Fx l H1 H2)(s:∀x∈l,x∈m):Fx m H1 H2:=λb o e n=>h b o e λz=>n (s b z)
theorem Fx.get{l:List Addr}{H1 H2:Hp}(h:Fx l H1 H2){b:Addr}{o:HO}(n:b∉l)(e:H1 b=some o):H2 b=some o:=h b o e λz=>absurd z n
theorem Fx.tup{l:List Addr}{H1 H2:Hp}(h:Fx l H1 H2){b:Addr}{xs:List V}(e:H1 b=some (.tup xs)):H2 b=some (.tup xs):=h b _ e λ_=>True.intro
theorem fx_up{H:Hp}{x:Addr}{o o':HO}(e:H x=some o)(n:¬Fix o):Fx [x] H (upd H x o'):=λb u e2 f=>by
 by_cases z:b=x
 ·subst z;rw[e]at e2;cases e2;exact absurd (f (C9.mpr rfl)) n
 ·rw[AD z];exact e2
theorem Fr.fx{a:Ad}{g:GA}{G:Gv}{H H':Hp}(h:Fr g H H')(at':AX a H g G):Fx [g.lv,g.pt,g.nm] H H':=λb o e f=>by
 obtain⟨ts,h3,_⟩:=at'.pt;refine h b o e (λz=>?_) (λz=>?_) (λz=>?_)
 ·subst z;rw[at'.lv]at e;cases e;exact f A5
 ·subst z;rw[h3]at e;cases e;exact f A5
 ·subst z;rw[at'.nm]at e;cases e;exact f A5
def Ds(g:GA):List Addr:=[g.lv,g.pt,g.nm,g.br,g.am,g.bx]
theorem Bs.fx{a:Ad}{g:GA}{G:Gv}{H H':Hp}{l:List Addr}(h:Bs a H g G)(f:Fx l H H')(n:∀x∈Ds g,x∉l):Bs a H' g G:=by
 obtain⟨at',ok,g0,br,⟨ks,h1,h2⟩,⟨ks',h3,h4⟩,n1,n2,n3⟩:=h;obtain⟨p1,p2,⟨ts,p3,p4⟩,p5,p6⟩:=at';have m:∀x∈Ds g,∀o,H x=some o->H' x=some o:=λx hx o e=>f.get (n x hx) e;refine⟨⟨f _ _ p1 λ_=>True.intro,m _ (by simp[Ds]) _ p2,⟨ts,m _ (by simp[Ds]) _ p3,PairedM.imp (λt q z=>f.tup z) p4⟩,m _ (by simp[Ds]) _ p5,p6⟩,ok,g0,m _ (by simp[Ds]) _ br,⟨ks,m _ (by simp[Ds]) _ h1,h2⟩,⟨ks',m _ (by simp[Ds]) _ h3,h4.keys,λi v e=>?_⟩,n1,n2,n3⟩;obtain⟨l,b,t,e1,e2,e3,e4⟩:=h4.val i v e;exact⟨l,b,t,e1,e2,e3,f.tup e4⟩
theorem Aw.noneOf{H H':Hp}(s:Aw H H'){x:Addr}(n:H' x=none):H x=none:=by
 cases e:H x with
 |none=>rfl
 |some o=>rw[s _ _ e]at n;cases n
structure Nw(H:Hp)(l:List Addr):Prop where
 nd:l.Nodup
 s:∀x∈l,∃o,H x=some o
theorem Bs.nw{a:Ad}{H:Hp}{g:GA}{G:Gv}(h:Bs a H g G):Nw H (Ds g):=by
 obtain⟨⟨_,h2,⟨ts,h3,_⟩,h5,h6⟩,_,_,h7,⟨ks,h8,_⟩,⟨ks',h9,_⟩,n1,n2,n3⟩:=h;have t:∀{x y:Addr}{o o':HO},H x=some o->H y=some o'->o≠o'->x≠y:=λ{x y o o'} e e' n=>Bc e e' n;refine⟨?_,λx hx=>?_⟩
 ·simp only[Ds,N9,B7,D8,K7,A5g,A3h,P2,and_true];exact⟨⟨h6,t h2 h5 A4,X5 n1,t h2 h8 A4,t h2 h9 A4⟩,⟨t h3 h5 A4,X5 n2,t h3 h8 A4,t h3 h9 A4⟩,⟨t h5 h7 A4,t h5 h8 A4,t h5 h9 A4⟩,⟨t h7 h8 A4,t h7 h9 A4⟩,n3⟩
 ·simp only[Ds,B7,D8,K7]at hx;rcases hx with rfl|rfl|rfl|rfl|rfl|rfl
  ·exact⟨_,h2⟩
  ·exact⟨_,h3⟩
  ·exact⟨_,h5⟩
  ·exact⟨_,h7⟩
  ·exact⟨_,h8⟩
  ·exact⟨_,h9⟩
theorem CW{H:Hp}{x y:Addr}{o:HO}(h:upd H x o y=none):H y=none:=by
 by_cases e:y=x
 ·subst e;rw[Ag]at h;cases h
 ·rw[AD e]at h;exact h
theorem QN.none{a:Ad}{H H':Hp}{x dx:Addr}{o o':HO}{g:GA}{G:Gv}{B:List Int}{am:List (Key×V)}(N:QN a (upd (upd H dx o) x o') H' g G B am):∀y∈Ds g,H y=none:=λy hy=>by
 obtain⟨f1,f2,f3,f4,f5,f6⟩:=N.fresh;simp only[Ds,B7,D8,K7]at hy;rcases hy with rfl|rfl|rfl|rfl|rfl|rfl
 ·exact CW (CW f1)
 ·exact CW (CW f2)
 ·exact CW (CW f3)
 ·exact CW (CW f4)
 ·exact CW (CW f5)
 ·exact CW (CW f6)
theorem ev_test{c:TT}{σ:St}{H:Hp}{Q:Bool->Hp->Prop}(b:Bool)(h:∀Q':Bool->Hp->Prop,Q' b H->c σ H Q')(q:Q b H):c σ H Q:=h Q q
theorem ev_val{t:TE}{σ:St}{H:Hp}{Q:VK}(P:V->Hp->Prop)(h:∀Q':VK,(∀v H',P v H'->Q' v H')->t σ H Q')(q:∀v H',P v H'->Q v H'):t σ H Q:=h Q q
theorem Sol.uniq{G:Gv}(ok:GOk G){s:Nat}:∀{l n m:Nat},Sol G s l n->Sol G s l m->n=m
 |0,n,m,h,h2=>by
  have h:n=s:=h;have h2:m=s:=h2;rw[h,h2]
 |l+1,n,m,h,h2=>by
  obtain⟨a,h1,e1⟩:=h;obtain⟨b,h3,e3⟩:=h2;have:=Sol.uniq ok h1 h3;subst this;exact ok.one e1 e3 rfl
structure EZ(G:Gv)(n i o:Nat)(l t r b:Int)(m:Nat):Prop where
 lev:Au G m (n:Int)
 cell:∀x y:Nat,x<2^n->y<2^n->cellF G n m x y=if(l<=x/\(x:Int)<r)/\(t<=y/\(y:Int)<b)then cellF G n i x y else cellF G n o x y
theorem EZ.app{G G':Gv}{k n i o m:Nat}{l t r b:Int}(ok:GOk G)(go:AV G G' k)(hi:Au G i (n:Int))(ho:Au G o (n:Int))(h:EZ G n i o l t r b m):EZ G' n i o l t r b m:=⟨go.lev h.lev,λx y hx hy=>by rw[Iy ok go h.lev hx hy,Iy ok go hi hx hy,Iy ok go ho hx hy];exact h.cell x y hx hy⟩
def spl(s e h:Int):Nat->Int×Int
 |0=>(s,if h<e then h else e)
 |_=>(if s-h<0 then 0 else s-h,e-h)
theorem LM{s e:Int}{n x u:Nat}(hx:x<2^(n+1))(hu:x/2^n=u):((spl s e (2^n) u).1<=((x%2^n:Nat):Int)/\((x%2^n:Nat):Int)<(spl s e (2^n) u).2)↔(s<=x/\(x:Int)<e):=by
 have p:(0:Int)<2^n:=Gu n;have e1:(2:Int)^n=((2^n:Nat):Int):=by exact_mod_cast rfl
 have dm:=Q6 x (2^n);have lt:=L7 x (Be n);have hu2:=GJ hx;rw[hu]at dm hu2;rw[e1]at p⊢;generalize 2^n=h at *
 match u,hu2 with
 |0,_ =>
  have ex:x%h=x:=by rw[Nat.mul_zero,S1]at dm;exact dm
  show(s<=((x%h:Nat):Int)/\((x%h:Nat):Int)<if(h:Int)<e then(h:Int)else e)↔_;rw[ex];split<;>lia
 |1,_ =>
  have ex:x=h+x%h:=by rw[Nat.mul_one]at dm;exact dm.symm
  show((if s-(h:Int)<0 then(0:Int)else s-h)<=((x%h:Nat):Int)/\((x%h:Nat):Int)<e-h)↔_;split<;>lia
theorem EZ.join{G:Gv}{n i o m:Nat}{l t r b:Int}{qi qo:Sq}{i0 i1 i2 i3 o0 o1 o2 o3:Nat}{ms:Nat->Nat}(ni:BZ G n i qi i0 i1 i2 i3)(no:BZ G n o qo o0 o1 o2 o3)
  (h:∀k,k<4->EZ G n (f4 i0 i1 i2 i3 k) (f4 o0 o1 o2 o3 k) (spl l r (2^n) (k%2)).1 (spl t b (2^n) (k/2)).1 (spl l r (2^n) (k%2)).2 (spl t b (2^n) (k/2)).2 (ms k))
  (em:G[m]?=some ⟨[(ms 0:Int),(ms 1:Int),(ms 2:Int),(ms 3:Int)],(n:Int)+1⟩):EZ G (n+1) i o l t r b m:=by
 have nm:BZ G n m _ (ms 0) (ms 1) (ms 2) (ms 3):=⟨em,rfl,rfl,(h 0 A3).lev,(h 1 A3).lev,(h 2 A3).lev,(h 3 A3).lev⟩
 refine⟨⟨_,em,by show(n:Int)+1=_;lia⟩,λx y hx hy=>?_⟩;have ux:=GJ hx;have uy:=GJ hy;have q4:quad n x y<4:=by unfold quad;lia
 have c:=(h _ q4).cell (x%2^n) (y%2^n) (L7 _ (Be n)) (L7 _ (Be n));have f:f4 (ms 0) (ms 1) (ms 2) (ms 3) (quad n x y)=ms (quad n x y):=by
  match quad n x y,q4 with
  |0,_=>rfl
  |1,_=>rfl
  |2,_=>rfl
  |3,_=>rfl
 have e1:quad n x y%2=x/2^n:=by unfold quad;lia
 have e2:quad n x y/2=y/2^n:=by unfold quad;lia
 rw[AW nm hx hy,f,c,AW ni hx hy,AW no hx hy,e1,e2];have i1:=LM (s:=l) (e:=r) hx rfl;have i2:=LM (s:=t) (e:=b) hy rfl;by_cases z:(l<=(x:Int)/\(x:Int)<r)/\(t<=(y:Int)/\(y:Int)<b)
 ·rw[Z6 z,Z6 ⟨i1.mpr z.1,i2.mpr z.2⟩]
 ·rw[Z5 z,Z5 λq=>z ⟨i1.mp q.1,i2.mp q.2⟩]
def IM(A B:Int)(n:Nat)(s e:Int):Prop:=(s=0\/s=A%2^n)/\(e=2^n\/e=B%2^n)
theorem IM.spl{A B:Int}{n u:Nat}{s e:Int}(h:IM A B (n+1) s e)(ne:(spl s e (2^n) u).1<(spl s e (2^n) u).2):IM A B n (spl s e (2^n) u).1 (spl s e (2^n) u).2:=by
 have p:(0:Int)<2^n:=Gu n;have e2:(2:Int)^(n+1)=2^n+2^n:=by rw[R4];lia
 have md:∀C:Int,C%2^n=if C%2^(n+1)<2^n then C%2^(n+1)else C%2^(n+1)-2^n:=λC=>by
  have h0:=F9 C (show(2:Int)^(n+1)≠0 by lia);have h1:=D9 C (show(0:Int)<2^(n+1) by lia);have h2:C%2^n=(C%2^(n+1))%2^n:=(Int.emod_emod_of_dvd C ⟨2,by rw[e2];lia⟩).symm;rw[h2];split
  ·rename_i z;exact V1 h0 z
  ·rename_i z;rw[<-Int.sub_emod_right,V1 A0 A0]
 have a1:=md A;have b1:=md B;have a2:=F9 A (show(2:Int)^(n+1)≠0 by lia);have b2:=F9 B (show(2:Int)^(n+1)≠0 by lia);have a3:=D9 A (show(0:Int)<2^(n+1) by lia);have b3:=D9 B (show(0:Int)<2^(n+1) by lia);obtain⟨h1,h2⟩:=h;unfold IM;rw[a1,b1];rw[e2]at h1 h2 a2 b2 a3 b3⊢;clear a1 b1 md e2;generalize (2:Int)^n=H at *
 generalize A%(H+H)=a at *
 generalize B%(H+H)=c at *
 unfold J.spl at ne⊢;split at ne
 ·dsimp only at ne⊢;split at ne<;>rcases h1 with h1|h1<;>rcases h2 with h2|h2<;>subst h1 h2<;>(constructor<;>split<;>lia)
 ·dsimp only at ne⊢;split at ne<;>rcases h1 with h1|h1<;>rcases h2 with h2|h2<;>subst h1 h2<;>(constructor<;>split<;>lia)
theorem IM.top{A B:Int}{n:Nat}(h0:0<=A)(h1:A<B)(h2:B<=2^n):IM A B n A B:=by
 refine⟨.inr (V1 h0 A0).symm,?_⟩;by_cases e:B=2^n
 ·exact .inl e
 ·exact .inr (V1 A0 A0).symm
def Clo(G:Gv)(S:List Nat):Prop:=∀o∈S,o<8\/∃(n:Nat)(q:Sq)(a b c d:Nat),BZ G n o q a b c d/\a∈S/\b∈S/\c∈S/\d∈S
theorem Clo.app{G G':Gv}{k:Nat}{S:List Nat}(go:AV G G' k)(h:Clo G S):Clo G' S:=λo ho=>by
 rcases h o ho with z|⟨n,q,a,b,c,d,nd,m⟩
 ·exact .inl z
 ·exact .inr ⟨n,q,a,b,c,d,nd.app go,m⟩
theorem cast4'{x y z w a b c d:Nat}(e:[(x:Int),(y:Int),(z:Int),(w:Int)]=[(a:Int),(b:Int),(c:Int),(d:Int)]):x=a/\y=b/\z=c/\w=d:=by
 injection e with e1 e
 injection e with e2 e
 injection e with e3 e
 injection e with e4 e
 exact⟨X7 e1,X7 e2,X7 e3,X7 e4⟩
theorem Clo.get{G:Gv}(ok:GOk G){S:List Nat}(h:Clo G S){n o a b c d:Nat}{q:Sq}(ho:o∈S)(nd:BZ G n o q a b c d):a∈S/\b∈S/\c∈S/\d∈S:=by
 rcases h o ho with z|⟨n',q',a',b',c',d',nd',m⟩
 ·have:=nd.g;rw[ok.leaf o z]at this;cases this;have:=nd.lev;have:(0:Int)=(n:Int)+1:=this;lia
 ·have e:q=q':=X2 (nd.g.symm.trans nd'.g);subst e;obtain⟨rfl,rfl,rfl,rfl⟩:=cast4' (nd.ps.symm.trans nd'.ps);exact m
abbrev shM:List Bool:=[false,false,true]
def kMx(i o:Nat)(l t r b:Int):NK:=[.inl (i:Int),.inl (o:Int),.inr [l,t,r,b]]
theorem Pk{i o i' o':Nat}{l t r b l' t' r' b':Int}(e:kMx i o l t r b=kMx i' o' l' t' r' b'):i=i'/\o=o'/\l=l'/\t=t'/\r=r'/\b=b':=by
 unfold kMx at e;injection e with e1 e
 injection e with e2 e
 injection e with e3 e
 injection e1 with e1
 injection e2 with e2
 injection e3 with e3
 injection e3 with f1 e3
 injection e3 with f2 e3
 injection e3 with f3 e3
 injection e3 with f4 e3
 exact⟨X7 e1,X7 e2,f1,f2,f3,f4⟩
structure Mc where
 s:Nat
 S:List Nat
 A:Int
 R:Int
 T:Int
 B:Int
 ro:Bool
def Em(c:Mc)(i o:Nat):Nat:=if c.ro=true then i else o
def Tp(c:Mc)(i o:Nat):Nat:=if c.ro=true then o else i
structure Pd(G:Gv)(c:Mc)(n i o:Nat):Prop where
 li:Au G i (n:Int)
 lo:Au G o (n:Int)
 so:Sol G c.s n (Tp c i o)
 mo:Em c i o∈c.S
theorem Pd.go{G G':Gv}{k:Nat}{c:Mc}{n i o:Nat}(h:Pd G c n i o)(go:AV G G' k):Pd G' c n i o:=⟨go.lev h.li,go.lev h.lo,Sol.goes go h.so,h.mo⟩
theorem Pd.lm{G:Gv}{c:Mc}{n i o:Nat}(h:Pd G c n i o):Au G (Em c i o) (n:Int):=by
 unfold Em;split
 ·exact h.li
 ·exact h.lo
theorem f4_in{a b c d k:Nat}{S:List Nat}(hk:k<4)(h:a∈S/\b∈S/\c∈S/\d∈S):f4 a b c d k∈S:=by
 match k,hk with
 |0,_=>exact h.1
 |1,_=>exact h.2.1
 |2,_=>exact h.2.2.1
 |3,_=>exact h.2.2.2
theorem Sol.part{G:Gv}{s n i a b c d:Nat}{q:Sq}(h:Sol G s (n+1) i)(nd:BZ G n i q a b c d){k:Nat}(hk:k<4):Sol G s n (f4 a b c d k):=by
 obtain⟨m,h1,e⟩:=h;have eq:q=_:=X2 (nd.g.symm.trans e);have ps:=nd.ps;rw[eq]at ps;obtain⟨rfl,rfl,rfl,rfl⟩:=cast4' ps
 match k,hk with
 |0,_=>exact h1
 |1,_=>exact h1
 |2,_=>exact h1
 |3,_=>exact h1
theorem Pd.part{G:Gv}(ok:GOk G){c:Mc}(clo:Clo G c.S){n i o:Nat}(h:Pd G c (n+1) i o){qi qo:Sq}{i0 i1 i2 i3 o0 o1 o2 o3:Nat}(ni:BZ G n i qi i0 i1 i2 i3)(no:BZ G n o qo o0 o1 o2 o3){k:Nat}(hk:k<4):Pd G c n (f4 i0 i1 i2 i3 k) (f4 o0 o1 o2 o3 k):=by
 refine⟨(ni.nat hk).2,(no.nat hk).2,?_,?_⟩
 ·have:=h.so;unfold Tp at this⊢;by_cases z:c.ro=true
  ·rw[Z6 z]at this⊢;exact Sol.part this no hk
  ·rw[Z5 z]at this⊢;exact Sol.part this ni hk
 ·have:=h.mo;unfold Em at this⊢;by_cases z:c.ro=true
  ·rw[Z6 z]at this⊢;exact f4_in hk (clo.get ok this ni)
  ·rw[Z5 z]at this⊢;exact f4_in hk (clo.get ok this no)
structure Ent(G:Gv)(c:Mc)(p:NK×V)(n i o:Nat)(l t r b:Int)(m:Nat):Prop where
 e:p=(kMx i o l t r b,.int m)
 pd:Pd G c n i o
 mx:EZ G n i o l t r b m
 sx:IM c.A c.R n l r
 sy:IM c.T c.B n t b
structure KOk(G:Gv)(c:Mc)(kvs:List (NK×V)):Prop where
 nd:(kvs.map (·.1)).Nodup
 val:∀p∈kvs,∃n i o l t r b m,Ent G c p n i o l t r b m
theorem kok0(G:Gv)(c:Mc):KOk G c []:=⟨P2,λp hp=>by simp at hp⟩
theorem Ent.go{G G':Gv}{k:Nat}{c:Mc}{p:NK×V}{n i o:Nat}{l t r b:Int}{m:Nat}(ok:GOk G)(s8:c.s<8)(go:AV G G' k)(h:Ent G c p n i o l t r b m):Ent G' c p n i o l t r b m:=⟨h.e,h.pd.go go,h.mx.app ok go h.pd.li h.pd.lo,h.sx,h.sy⟩
theorem KOk.go{G G':Gv}{k:Nat}{c:Mc}{kvs:List (NK×V)}(ok:GOk G)(s8:c.s<8)(go:AV G G' k)(h:KOk G c kvs):KOk G' c kvs:=⟨h.nd,λp hp=>by
 obtain⟨n,i,o,l,t,r,b,m,e⟩:=h.val p hp;exact⟨n,i,o,l,t,r,b,m,e.go ok s8 go⟩⟩
theorem Uw{kvs:List (NK×V)}{k:NK}{v:V}(h:BR kvs k=some v):(k,v)∈kvs:=by
 induction kvs with
 |nil=>cases h
 |cons p r ih =>
  by_cases e:p.1=k
  ·rw[BQ e]at h;cases h;rw[<-e];exact D3
  ·rw[Bz e]at h;exact B9 _ (ih h)
theorem KOk.put{G:Gv}{c:Mc}{kvs:List (NK×V)}{n i o:Nat}{l t r b:Int}{m:Nat}(h:KOk G c kvs)(en:Ent G c (kMx i o l t r b,.int m) n i o l t r b m)(no:BR kvs (kMx i o l t r b)=none):KOk G c (Dg kvs (kMx i o l t r b) (.int m))/\(Dg kvs (kMx i o l t r b) (.int m)).length=kvs.length+1:=by
 have nd:=nd_putK (.int m) h.nd no;rw[Ju _ no]at nd⊢;refine⟨⟨nd,λp hp=>?_⟩,by rw[B5];rfl⟩;rcases C6.mp hp with z|z
 ·exact h.val p z
 ·rw[C9]at z;subst z;exact⟨n,i,o,l,t,r,b,m,en⟩
def lvN(G:Gv)(o:Nat):Nat:=match G[o]? with
 |some q=>q.lev.toNat
 |none=>0
theorem lvN_eq{G:Gv}{o n:Nat}(h:Au G o (n:Int)):lvN G o=n:=by
 obtain⟨q,e,el⟩:=h;unfold lvN;rw[e];show q.lev.toNat=n;rw[el,G7]
def b01(c:Prop)[Decidable c]:Nat:=if c then 0 else 1
theorem Ef(c:Prop)[Decidable c]:b01 c<2:=by unfold b01;split<;>decide
theorem Ma{c d:Prop}[Decidable c][Decidable d](h:b01 c=b01 d):c↔d:=by
 unfold b01 at h;split at h<;>split at h<;>simp_all
def code(G:Gv)(c:Mc)(k:NK):Nat:=match k with
 |[.inl i,.inl o,.inr [l,t,r,b]]=>c.S.idxOf (Em c i.toNat o.toNat)*16+(b01 (l=0)+2*b01 (r=2^lvN G (Em c i.toNat o.toNat))+4*b01 (t=0)+8*b01 (b=2^lvN G (Em c i.toNat o.toNat)))
 |_=>0
theorem MQ(G:Gv)(c:Mc)(i o:Nat)(l t r b:Int):code G c (kMx i o l t r b)=c.S.idxOf (Em c i o)*16+(b01 (l=0)+2*b01 (r=2^lvN G (Em c i o))+4*b01 (t=0)+8*b01 (b=2^lvN G (Em c i o))):=rfl
theorem KOk.len{G:Gv}(ok:GOk G){c:Mc}{kvs:List (NK×V)}(h:KOk G c kvs):kvs.length<=16*c.S.length:=by
 have:=IJ (16*c.S.length) ((kvs.map (·.1)).map (code G c)) (by
  rw[F6,O3];refine A3g (λ{x y} hx hy hne z=>hne ?_) (F6.mp h.nd);obtain⟨p,hp,rfl⟩:=F1.mp hx;obtain⟨p',hp',rfl⟩:=F1.mp hy;obtain⟨n,i,o,l,t,r,b,m,e⟩:=h.val p hp;obtain⟨n',i',o',l',t',r',b',m',e'⟩:=h.val p' hp';have e1:=e.e;have e2:=e'.e;subst e1 e2;dsimp only at z⊢;rw[MQ,MQ]at z;have q1:=Ef (l=0);have q2:=Ef (r=2^lvN G (Em c i o));have q3:=Ef (t=0);have q4:=Ef (b=2^lvN G (Em c i o));have q1':=Ef (l'=0);have q2':=Ef (r'=2^lvN G (Em c i' o'));have q3':=Ef (t'=0);have q4':=Ef (b'=2^lvN G (Em c i' o'));have io:c.S.idxOf (Em c i o)=c.S.idxOf (Em c i' o'):=by lia
  have eo:Em c i o=Em c i' o':=by
   have a1:=List.getElem_idxOf (O9 e.pd.mo);have a2:=List.getElem_idxOf (O9 e'.pd.mo);have:c.S[c.S.idxOf (Em c i o)]?=c.S[c.S.idxOf (Em c i' o')]?:=by rw[io]
   rw[C0 (O9 e.pd.mo),C0 (O9 e'.pd.mo),a1,a2]at this;exact X2 this
  have en:n=n':=by
   have h1:=e.pd.lm;rw[eo]at h1;exact X7 (h1.uniq e'.pd.lm)
  subst en;have ei:Tp c i o=Tp c i' o':=Sol.uniq ok e.pd.so e'.pd.so;obtain⟨rfl,rfl⟩:i=i'/\o=o':=by
   unfold Em at eo;unfold Tp at ei;by_cases z:c.ro=true
   ·rw[Z6 z,Z6 z]at eo ei;exact⟨eo,ei⟩
   ·rw[Z5 z,Z5 z]at eo ei;exact⟨ei,eo⟩
  clear eo ei io;rw[lvN_eq e.pd.lm]at *
  have z1:=Ma (show b01 (l=0)=b01 (l'=0) by lia);have z2:=Ma (show b01 (r=2^n)=b01 (r'=2^n) by lia);have z3:=Ma (show b01 (t=0)=b01 (t'=0) by lia);have z4:=Ma (show b01 (b=2^n)=b01 (b'=2^n) by lia);have same:∀{x x' u v:Int},(x=u\/x=v)->(x'=u\/x'=v)->(x=u↔x'=u)->x=x':=λ{x x' u v} a1 a2 a3=>by
   rcases a1 with a1|a1
   ·rw[a1,a3.mp a1]
   ·rcases a2 with a2|a2
    ·rw[a2,a3.mpr a2]
    ·rw[a1,a2]
  rw[same e.sx.1 e'.sx.1 z1,same e.sx.2 e'.sx.2 z2,same e.sy.1 e'.sy.1 z3,same e.sy.2 e'.sy.2 z4]) (λx hx=>by
  obtain⟨y,hy,rfl⟩:=F1.mp hx;obtain⟨p,hp,rfl⟩:=F1.mp hy;obtain⟨n,i,o,l,t,r,b,m,e⟩:=h.val p hp;have e1:=e.e;subst e1;dsimp only;rw[MQ];have:=O9 e.pd.mo;have q1:=Ef (l=0);have q2:=Ef (r=2^lvN G (Em c i o));have q3:=Ef (t=0);have q4:=Ef (b=2^lvN G (Em c i o));lia)
 rw[B0,B0]at this;exact this
def Un(G:Gv)(N:Nat)(kvs kvs':List (NK×V)):Prop:=∀(i o:Nat)(l t r b:Int)(N':Nat),Au G o (N':Int)->N<N'->BR kvs (kMx i o l t r b)=none->BR kvs' (kMx i o l t r b)=none
theorem Un.refl(G:Gv)(N:Nat)(kvs:List (NK×V)):Un G N kvs kvs:=λ_ _ _ _ _ _ _ _ _ h=>h
theorem Un.trans{G G':Gv}{k N:Nat}{a b c:List (NK×V)}(go:AV G G' k)(h:Un G N a b)(h2:Un G' N b c):Un G N a c:=λi o l t r b' N' h1 hl z=>h2 i o l t r b' N' (go.lev h1) hl (h i o l t r b' N' h1 hl z)
seal L2.PA L2.PE L2.PS L2.PSs L2.PT L2.PW
theorem Fx.fresh{l:List Addr}{H H1 H2:Hp}{x:Addr}(s:Aw H H1)(f:Fx (x::l) H1 H2)(n:H x=none):Fx l H H2:=λb o e z=>f b o (s _ _ e) λm=>by
 rcases B7.mp m with rfl|m
 ·rw[n]at e;cases e
 ·exact z m
theorem BG.fx{P:Program}{w:World}{sh:List Bool}{H H':Hp}{a:Addr}{kvs:List (NK×V)}{l:List Addr}(f:Fx l H H')(n:a∉l)(h:BG P w sh H a kvs):BG P w sh H' a kvs:=h.keep (λb ys e=>f.tup e) (λo e=>f.get n e)
theorem BG.same{P:Program}{w:World}{sh:List Bool}{H H':Hp}{a:Addr}{kvs:List (NK×V)}(s:Aw H H')(h:BG P w sh H a kvs):BG P w sh H' a kvs:=h.keep (λb ys e=>s _ _ e) (λo e=>s _ _ e)
def frM(g:GA)(kn:Addr):List Addr:=[g.lv,g.pt,g.nm,kn]
section
variable{P:Program}{w:World}{K:W.Frag}{mg:Str->Option Value}{base:Heap}{a:Ad}
inductive SR(vs:List V)(H:Hp)(Q:VK):Prop
 |mk (s e h:Int) (_:vs=[.int s,.int e,.int h]) (_:∀(c0 c1 cc:Addr)(H':Hp),Aw H H'->H' cc=some (.tup [.ref c0,.ref c1])->H' c0=some (.tup [.int (spl s e h 0).1,.int (spl s e h 0).2])->H' c1=some (.tup [.int (spl s e h 1).1,.int (spl s e h 1).2])->Q (.ref cc) H'):SR vs H Q
def LN:Sp:=λvs H Q _=>SR vs H Q
theorem Vv{f:Addr}{fd:FuncData}(F:Fun K "split_stretch" "split_stretch" DW f fd)(T:Top K mg a):AO P w K mg base CX0 1 f fd CU LN:=by
 refine F.ok JS (λvs H Q E h=>?_) (λcdv A outer s H vs Q E hr h=>?_)
 ·apply Ay;intro G_ hG_;obtain⟨s',e,h',rfl,_⟩:=h;apply hG_;clear hG_ G_;rfl
 ·apply Ay;intro G_ hG_;obtain⟨st,en,hf,rfl,k⟩:=h;apply hG_;clear hG_ G_;refine⟨_,(Af (Am (Ea (Cn (Aa (pv 0) (Aa (As (Ge rfl) rfl T.b_min A2b (Aa (pv 1) (Aa (pv 2) Ac))) Ac)) (Cn (Aa (As (IK rfl) rfl T.b_max A4c (Cu FT (pv 0) (pv 2) (Bu Ac))) (Cu FT (pv 1) (pv 2) Ac)) Ac))))),?_⟩
  try dsimp only[cxK]
  refine xw3 rfl rfl rfl ⟨_,_,rfl,(by show 2<=sizeLine;decide),λc0 h0=>?_⟩;have s1:=Al (o:=.tup [.int st,.int (if hf<en then hf else en)]) h0;have e1:upd H c0 (.tup [.int st,.int (if hf<en then hf else en)]) c0=some (.tup [.int (spl st en hf 0).1,.int (spl st en hf 0).2]):=Ag;show ∃_,_;generalize upd H c0 (.tup [.int st,.int (if hf<en then hf else en)])=H1 at s1 e1⊢;refine xw2 rfl rfl (xq2 rfl rfl ⟨_,_,rfl,(xw2 rfl rfl (xq2 rfl rfl ⟨(by show 2<=sizeLine;decide),λc1 h1=>⟨(by show 2<=sizeLine;decide),λcc hcc=>?_⟩⟩))⟩);have s2:=Al (o:=.tup [.int (if 0 > st-hf then 0 else st-hf),.int (en-hf)]) h1;have s3:=Al (o:=.tup [.ref c0,.ref c1]) hcc;exact k c0 c1 cc _ (s1.trans (s2.trans s3)) Ag (s3 _ _ (s2 _ _ e1)) (s3 _ _ Ag)
inductive SpMQ(a:Ad)(P:Program)(w:World)(n:Nat)(vs:List V)(H:Hp)(Q:VK):Prop
 |mk (g:GA) (G:Gv) (c:Mc) (kn tk tp:Addr) (kvs:List (NK×V)) (i o N:Nat) (l t r b:Int) (_:vs=[.ref g.p,.ref tk,.int (2^N),.ref kn]) (_:Bs a H g G) (_:BG P w shM H kn kvs) (_:kn∉Ds g) (_:H tk=some (.tup [.int i,.int o,.ref tp])) (_:H tp=some (.tup [.int l,.int t,.int r,.int b])) (_:KOk G c kvs) (_:Clo G c.S) (_:c.s<8) (_:Pd G c (N+1) i o) (_:N<n) (_:N<=47) (_:(0<=l/\0<=t/\r<=2^(N+1)/\b<=2^(N+1))) (_:IM c.A c.R (N+1) l r) (_:IM c.T c.B (N+1) t b) (_:(G.length+16*c.S.length<8000000+kvs.length/\16*c.S.length<4000000)) (_:∀(m:Nat)(G':Gv)(kvs':List (NK×V))(H':Hp),Fx (frM g kn) H H'->Bs a H' g G'->BG P w shM H' kn kvs'->KOk G' c kvs'->kvs.length<=kvs'.length->AV G G' (kvs'.length-kvs.length+1)->Un G N kvs kvs'->EZ G' (N+1) i o l t r b m->Q (.int m) H'):SpMQ a P w n vs H Q
def spMQ(a:Ad)(P:Program)(w:World)(n:Nat):Sp:=λvs H Q _=>SpMQ a P w n vs H Q
inductive SpMxd(a:Ad)(P:Program)(w:World)(n:Nat)(vs:List V)(H:Hp)(Q:VK):Prop
 |mk (g:GA) (G:Gv) (c:Mc) (kn tp:Addr) (kvs:List (NK×V)) (i o N:Nat) (l t r b:Int) (_:vs=[.ref g.p,.int i,.int o,.ref tp,.ref kn]) (_:Bs a H g G) (_:BG P w shM H kn kvs) (_:kn∉Ds g) (_:H tp=some (.tup [.int l,.int t,.int r,.int b])) (_:KOk G c kvs) (_:Clo G c.S) (_:c.s<8) (_:Pd G c N i o) (_:N<n) (_:N<=48) (_:(0<=l/\0<=t/\r<=2^N/\b<=2^N)) (_:(l<r->IM c.A c.R N l r)) (_:(t<b->IM c.T c.B N t b)) (_:(G.length+16*c.S.length<8000000+kvs.length/\16*c.S.length<4000000)) (_:∀(m:Nat)(G':Gv)(kvs':List (NK×V))(H':Hp),Fx (frM g kn) H H'->Bs a H' g G'->BG P w shM H' kn kvs'->KOk G' c kvs'->kvs.length<=kvs'.length->AV G G' (kvs'.length-kvs.length)->Un G N kvs kvs'->EZ G' N i o l t r b m->Q (.int m) H'):SpMxd a P w n vs H Q
def NN(a:Ad)(P:Program)(w:World)(n:Nat):Sp:=λvs H Q _=>SpMxd a P w n vs H Q
theorem ok_mixS{n d:Nat}{f:Addr}{fd:FuncData}(F:Fun K "mixed" "mixed" LQ f fd)(T:Top K mg a)(bU:Cal P w K mg base CX0 d "mixed_quarters" CI (spMQ a P w n)):AO P w K mg base CX0 (d+1) f fd Gz (NN a P w (n+1)):=by
 refine F.ok Ga (λvs H Q E h=>?_) (λcdv A outer s H vs Q E hr h=>?_)
 ·apply Ay;intro G_ hG_;obtain⟨g,G,c,kn,tp,kvs,i,o,N,l,t,r,b,rfl,_⟩:=h;apply hG_;clear hG_ G_;rfl
 ·apply Ay;intro G_ hG_;obtain⟨g,G,c,kn,tp,kvs,i,o,N,l,t,r,b,rfl,fu,na,nk,htp,kok,clo,s8,pd,Nn,N48,bd,sx,sy,few,k⟩:=h;apply hG_;clear hG_ G_;refine⟨_,(Ab (AB (PW.pt (BM (Ak op_ge (At Az (pv 3) Ae (λ_ _=>rfl)) (At Az (pv 3) Ae (λ_ _=>rfl)) (An _)) (BE (Ak op_ge (At Az (pv 3) Ae (λ_ _=>rfl)) (At Az (pv 3) Ae (λ_ _=>rfl)) (An _))))) (Af (Am (pv 2))) Ap) (Ab (Ah (i:=5) Ga.nd rfl (Or.inl rfl) (Ao ES Ae (At AQ (BK (pv 0) rfl) (pv 1) (λ_ _=>rfl)))) (Ab (AB (PW.pt (BM (Ak Bg (pv 1) (pv 2) (An _)) (BE (Ak (Tq hr.units) (pv 3) (Ea (Bu (Bu (Aa (pv 5) (Aa (pv 5) Ac))))) (An _))))) (Af (Am (pv 1))) Ap) (Ab (Ah (i:=6) Ga.nd rfl (Or.inl rfl) (Ea (Aa (pv 1) (Aa (pv 2) (Aa (pv 3) Ac))))) (Ab (Ah (i:=7) Ga.nd rfl (Or.inl rfl) (Vm (sh:=[false,false,true]) hr.units (pv 4) (pv 6) ⟨rfl,rfl,rfl,rfl⟩)) (Ab (AB (Ak Il (pv 7) Cz (An _)) (Ab (Ah (i:=7) Ga.nd rfl (Or.inl rfl) (Aq bU (rm hr) rfl Ar (Aa (pv 0) (Aa (pv 6) (Cu Bf (pv 5) Ae (Aa (pv 4) Ac)))))) (Af (Ve (sh:=[false,false,true]) hr.units (pv 4) (pv 6) (pv 7) rfl))) Ap) (Af (Am (pv 7))))))))),?_⟩
  try dsimp only[cxK]
  have li:=pd.li;have lo:=pd.lo;have back:∀{m:Nat}{H':Hp},Aw H H'->EZ G N i o l t r b m->Q (.int m) H':=λ{m H'} s' mx=>k m G kvs H' (Aw.fx s') (fu.same s') (BG.same s' na) kok (B1 _) ((AV.refl fu.ok).mono A0) (Un.refl _ _ _) mx;refine ev_test (c:=tOr (Sc (tOp (rI0 λi j=>V.bl (decide (j<=i))) (tOp (PV K) (PF 3) (tC (V.int 0))) (tOp (PV K) (PF 3) (tC (V.int 2))))) (Sc (tOp (rI0 λi j=>V.bl (decide (j<=i))) (tOp (PV K) (PF 3) (tC (V.int 1))) (tOp (PV K) (PF 3) (tC (V.int 3)))))) (decide (r<=l) || decide (b<=t)) (λQ' q'=>?_) ?_
  ·refine xwi rfl rfl rfl (SqT.of htp) (Ai (j:=0) rfl) (xwi rfl rfl rfl (SqT.of htp) (Ai (j:=2) rfl) (xq2 rfl rfl (xq1 rfl ?_)));revert q';generalize decide (r<=l)=b1;cases b1
   ·intro q';exact AE (xwi rfl rfl rfl (SqT.of htp) (Ai (j:=1) rfl) (xwi rfl rfl rfl (SqT.of htp) (Ai (j:=3) rfl) (xq2 rfl rfl (xq1 rfl (q')))))
   ·intro q';exact AI q'
  refine GH (λhc=>?_) (λhc=>?_)
  ·refine xq1 rfl (back (Aw.refl H) ⟨lo,λx y _ _=>?_⟩);rw[Z5];rcases(Bool.or_eq_true _ _).mp hc with z|z
   ·have:=K6 z;lia
   ·have:=K6 z;lia
  have hl:l<r:=by
   refine Int.lt_of_not_ge λz=>hc ?_;rw[Z3 (show r<=l from z)];rfl
  have ht:t<b:=by
   refine Int.lt_of_not_ge λz=>hc ?_;rw[Z3 (show b<=t from z),Bool.or_true]
  clear hc;obtain⟨qi,ei,eli⟩:=id li;refine⟨_,rfl,g.p,_,g.dx,_,_,rfl,fu.at'.hp,T.cl_Grove,T.na_Grove_levels,Iv g,_,rfl,g.lv,_,(i:Int),.int qi.lev,rfl,rfl,SqL.of fu.at'.lv,Ai (by rw[C1,ei];rfl),?_⟩;rw[eli];refine xq2 rfl rfl ⟨⟨by lia,by lia,by decide⟩,?_⟩;have e1:(1:Int)*2^((N:Int)).toNat=2^N:=by rw[Int.one_mul,G7]
  show(UE _ _) _ [some (.ref g.p),some (.int i),some (.int o),some (.ref tp),some (.ref kn),some (.int (1*2^((N:Int)).toNat)),none,none] H;rw[e1];refine xw2 rfl rfl ⟨rfl,(xq1 rfl (GH (λhio=>?_) (λ_=>?_)))⟩
  ·have hio:=K6 hio;injection hio with hio
   obtain rfl:i=o:=X7 hio;exact AI (xq1 rfl (back (Aw.refl H) ⟨li,λx y _ _=>by split<;>rfl⟩))
  refine xw3 rfl rfl rfl ⟨(by show 4<=sizeLine;decide),λt1 ht1=>?_⟩;have s1:=Al (o:=.tup [.int 0,.int 0,.int (2^N),.int (2^N)]) ht1;have h1:upd H t1 (.tup [.int 0,.int 0,.int (2^N),.int (2^N)]) t1=some (.tup [.int 0,.int 0,.int (2^N),.int (2^N)]):=Ag;show ∃_,_;generalize upd H t1 (.tup [.int 0,.int 0,.int (2^N),.int (2^N)])=H1 at s1 h1⊢;refine⟨tp,t1,[l,t,r,b],[0,0,2^N,2^N],rfl,rfl,SqT.of (s1 _ _ htp),SqT.of h1,(xq1 rfl (GH (λhe=>?_) (λhe=>?_)))⟩
  ·have he:=K6 he;injection he with z1 he
   injection he with z2 he
   injection he with z3 he
   injection he with z4 he
   refine xq1 rfl (back s1 ⟨li,λx y hx hy=>?_⟩);have px:(x:Int)<2^N:=by have:(x:Int)<((2^N:Nat):Int):=A0;rw[Int.natCast_pow]at this;exact this
   have py:(y:Int)<2^N:=by have:(y:Int)<((2^N:Nat):Int):=A0;rw[Int.natCast_pow]at this;exact this
   rw[Z6 (by subst z1 z2 z3 z4;exact⟨⟨by lia,px⟩,by lia,py⟩)]
  have N1:1<=N:=by
   refine Nat.one_le_iff_ne_zero.mpr λz=>he ?_;subst z;have b1:r<=1:=bd.2.2.1;have b2:b<=1:=bd.2.2.2;have y1_:l=0/\t=0/\r=1/\b=1:=by lia
   apply Ay;intro G_ hG_;obtain⟨rfl,rfl,rfl,rfl⟩:=y1_;apply hG_;clear hG_ G_;exact Z3 rfl
  obtain⟨M,rfl⟩:∃M,N=M+1:=⟨N-1,by lia⟩
  refine xw3 rfl rfl rfl ⟨(by show 3<=sizeLine;decide),λtk htk=>?_⟩;have s2:=Al (o:=.tup [.int i,.int o,.ref tp]) htk;have h2:upd H1 tk (.tup [.int i,.int o,.ref tp]) tk=some (.tup [.int i,.int o,.ref tp]):=Ag;show(UE _ _) _ _ (upd H1 tk (.tup [.int i,.int o,.ref tp]));generalize upd H1 tk (.tup [.int i,.int o,.ref tp])=H2 at s2 h2⊢;have s12:=s1.trans s2;have na2:=BG.same s12 na;have fu2:=fu.same s12;have htp2:=s12 _ _ htp;have kat:∀{H':Hp},H' tk=some (.tup [.int i,.int o,.ref tp])->H' tp=some (.tup [.int l,.int t,.int r,.int b])->FX H' tk (kMx i o l t r b):=λz1 z2=>⟨_,z1,.cons rfl (.cons rfl (.cons ⟨tp,rfl,z2⟩ .nil))⟩
  refine xq1 rfl ⟨kn,rfl,⟨kvs,na2⟩,(xq1 rfl ⟨tk,kMx i o l t r b,kvs,rfl,na2,kat h2 htp2,rfl,?_⟩)⟩;cases ev:BR kvs (kMx i o l t r b)with
  |some v =>
   apply Ay;intro G_ hG_;obtain⟨n',i',o',l',t',r',b',m,en⟩:=kok.val _ (Uw ev);apply hG_;clear hG_ G_;have e2:=en.e;injection e2 with e2 e3
   apply Ay;intro G_ hG_;obtain⟨rfl,rfl,rfl,rfl,rfl,rfl⟩:=Pk e2;apply hG_;clear hG_ G_;subst e3;have:n'=M+1:=X7 (en.pd.lo.uniq lo);subst this;exact xq1 rfl ⟨rfl,(xq1 rfl (AE (xq1 rfl (back s12 en.mx))))⟩
  |none =>
   refine xq1 rfl ⟨rfl,(xq1 rfl (AI ?_))⟩;refine xw3 rfl rfl rfl (xq2 rfl rfl ⟨⟨by decide,by decide⟩,(xq1 rfl ?_)⟩);have e4:(2:Int)^(M+1)/2=2^M:=by rw[R4,Int.mul_ediv_cancel _ A3]
   refine⟨g,G,c,kn,tk,tp,kvs,i,o,M,l,t,r,b,by rw[<-e4];rfl,fu2,na2,nk,h2,htp2,kok,clo,s8,pd,by lia,by lia,bd,sx hl,sy ht,few,λm G' kvs' H3 x3 fu3 na3 kok3 le3 go3 un3 mx3=>?_⟩;have no3:BR kvs' (kMx i o l t r b)=none:=un3 i o l t r b (M+1) lo A0 ev;have l3:=kok3.len fu3.ok;have g3:=go3.few;refine xw3 rfl rfl rfl ⟨kn,tk,kMx i o l t r b,kvs',rfl,rfl,na3,kat (x3.tup h2) (x3.tup htp2),rfl,Du A0,λH4 x4 na4=>?_⟩;obtain⟨kok4,len4⟩:=kok3.put ⟨rfl,pd.go go3,mx3,sx hl,sy ht⟩ no3;have x4':Fx (frM g kn) H3 H4:=λcc oo e z=>x4 cc oo e λy=>by
    subst y;obtain⟨xs,e9,_⟩:=na3.ex;rw[e9]at e;cases e;exact z (by simp[frM])
   have fu4:=fu3.fx (l:=[kn]) (λcc oo e z=>x4 cc oo e λy=>by
    subst y;obtain⟨xs,e9,_⟩:=na3.ex;rw[e9]at e;cases e;exact z A5) λy hy z=>nk (by rw[C9]at z;rw[<-z];exact hy)
   refine xq1 rfl (k m G' _ H4 (((Aw.fx s12).trans x3).trans x4') fu4 na4 kok4 A0 (go3.mono A0) ?_ mx3);intro i' o' l' t' r' b' N' hN hlt z;rw[Md,Z5]
   ·exact un3 i' o' l' t' r' b' N' hN A0 z
   ·intro q;obtain⟨_,rfl,_⟩:=Pk q;have:=X7 (hN.uniq lo);lia
end
theorem BZ.at4{G:Gv}{n i:Nat}{q:Sq}{a b c d:Nat}(h:BZ G n i q a b c d){k:Nat}(hk:k<4):(q.parts.map V.int)[k]?=some (.int (f4 a b c d k:Nat)):=by
 rw[h.ps]
 match k,hk with
 |0,_=>rfl
 |1,_=>rfl
 |2,_=>rfl
 |3,_=>rfl
section
variable{P:Program}{w:World}{K:W.Frag}{mg:Str->Option Value}{base:Heap}{a:Ad}
theorem ok_mq{n d:Nat}(hd:2<=d){f:Addr}{fd:FuncData}(F:Fun K "mixed_quarters" "mixed_quarters" CG f fd)(T:Top K mg a)(aC:Cal P w K mg base CX0 1 "split_stretch" CU LN)(a6:CS P w K mg base CX0 2 a.c_Grove "linked" BT (IW a))(bI:Cal P w K mg base CX0 d "mixed" Gz (NN a P w n)):AO P w K mg base CX0 (d+1) f fd CI (spMQ a P w n):=by
 refine F.ok AM (λvs H Q E h=>?_) (λcdv A outer s H vs Q E hr h=>?_)
 ·apply Ay;intro G_ hG_;obtain⟨g,G,c,kn,tk,tp,kvs,i,o,N,l,t,r,b,rfl,_⟩:=h;apply hG_;clear hG_ G_;rfl
 ·apply Ay;intro G_ hG_;obtain⟨g,G,c,kn,tk,tp,kvs,i,o,N,l,t,r,b,rfl,fu,na,nk,htk,htp,kok,clo,s8,pd,Nn,N47,bd,sx,sy,⟨few,few2⟩,k⟩:=h;apply hG_;clear hG_ G_;refine⟨_,(Ab (Ah (i:=4) AM.nd rfl (Or.inl rfl) (At AQ (BK (pv 0) rfl) (At Az (pv 1) Ae (λ_ _=>rfl)) (λ_ _=>rfl))) (Ab (Ah (i:=5) AM.nd rfl (Or.inl rfl) (At AQ (BK (pv 0) rfl) (At Az (pv 1) Ae (λ_ _=>rfl)) (λ_ _=>rfl))) (Ab (Ah (i:=6) AM.nd rfl (Or.inl rfl) (At Az (pv 1) Ae (λ_ _=>rfl))) (Ab (Ah (i:=7) AM.nd rfl (Or.inl rfl) (Aq aC (rm hr) rfl Ar (Aa (At Az (pv 6) Ae (λ_ _=>rfl)) (Aa (At Az (pv 6) Ae (λ_ _=>rfl)) (Aa (pv 2) Ac))))) (Ab (Ah (i:=8) AM.nd rfl (Or.inl rfl) (Aq aC (rm hr) rfl Ar (Aa (At Az (pv 6) Ae (λ_ _=>rfl)) (Aa (At Az (pv 6) Ae (λ_ _=>rfl)) (Aa (pv 2) Ac))))) (Ab (Ah (i:=9) AM.nd rfl (Or.inl rfl) (BF Ac)) (Ab (Ci X8 rfl (Gb rfl T.b_range (Bu Ac)) (AF (i:=10) AM.nd rfl (Or.inl rfl)) (Ab (Ah (i:=11) AM.nd rfl (Or.inl rfl) (At Az (pv 7) (Ao Ba (pv 10) Ae) (λ_ _=>rfl))) (Ab (Ah (i:=12) AM.nd rfl (Or.inl rfl) (At Az (pv 8) (Ao Bf (pv 10) Ae) (λ_ _=>rfl))) (Ab (Ah (i:=13) AM.nd rfl (Or.inl rfl) (Ea (Aa (At Az (pv 11) Ae (λ_ _=>rfl)) (Aa (At Az (pv 12) Ae (λ_ _=>rfl)) (Aa (At Az (pv 11) Ae (λ_ _=>rfl)) (Aa (At Az (pv 12) Ae (λ_ _=>rfl)) Ac)))))) (Af (Co (Cc X9 K2 K3 CJ (pv 9) (Aa (Aq bI (rm hr) rfl Ar (Aa (pv 0) (Aa (At Az (pv 4) (pv 10) (λ_ _=>rfl)) (Aa (At Az (pv 5) (pv 10) (λ_ _=>rfl)) (Aa (pv 13) (Aa (pv 3) Ac)))))) Ac)))))))) (Af (Am (AK (pv 0) a6 (rm hr) Ar (Aa (Ck Nt rfl T.b_tuple PyProof.Rows.boot_tuple (Aa (pv 9) Ac)) Ac))))))))))),?_⟩
  try dsimp only[cxK]
  have li:=pd.li;have lo:=pd.lo;apply Ay;intro G_ hG_;obtain⟨qi,i0,i1,i2,i3,ni⟩:=AU fu.ok li;obtain⟨qo,o0,o1,o2,o3,no⟩:=AU fu.ok lo;obtain⟨ts,h3,h4⟩:=fu.at'.pt;obtain⟨ti,eti,hti⟩:=PairedM.get h4 ni.g;apply hG_;clear hG_ G_;have hti:H ti=some (.tup (qi.parts.map V.int)):=hti;obtain⟨to',eto,hto⟩:=PairedM.get h4 no.g;have hto:H to'=some (.tup (qo.parts.map V.int)):=hto;refine xwf rfl rfl fu.at'.hp T.cl_Grove T.na_Grove_parts (GK g) (xwi rfl rfl rfl (SqT.of htk) (Ai (j:=0) rfl) (xq4 rfl rfl (SqL.of h3) (Ai (by rw[C1,eti];rfl)) ?_));refine xwf rfl rfl fu.at'.hp T.cl_Grove T.na_Grove_parts (GK g) (xwi rfl rfl rfl (SqT.of htk) (Ai (j:=1) rfl) (xq4 rfl rfl (SqL.of h3) (Ai (by rw[C1,eto];rfl)) ?_));refine xwi rfl rfl rfl (SqT.of htk) (Ai (j:=2) rfl) ?_;refine xwi rfl rfl rfl (SqT.of htp) (Ai (j:=0) rfl) (xwi rfl rfl rfl (SqT.of htp) (Ai (j:=2) rfl) (xq1 rfl ⟨l,r,2^N,rfl,λc0 c1 cc H1 s1 hcc hc0 hc1=>?_⟩));have htp1:=s1 _ _ htp;refine xwi rfl rfl rfl (SqT.of htp1) (Ai (j:=1) rfl) (xwi rfl rfl rfl (SqT.of htp1) (Ai (j:=3) rfl) (xq1 rfl ⟨t,b,2^N,rfl,λr0 r1 rr H2 s2 hrr hr0 hr1=>?_⟩));refine⟨(by show 0<=sizeLine;decide),λmd hmd=>?_⟩;have s3:=Al (o:=.lst []) hmd;have hm3:upd H2 md (.lst []) md=some (.lst []):=Ag;show(UE _ _) _ _ (upd H2 md (.lst []));generalize upd H2 md (.lst [])=H3 at s3 hm3⊢;have s13:=(s1.trans s2).trans s3;have nmd:H md=none:=Aw.noneOf (s1.trans s2) hmd;have col:∀{u:Nat},u<2->∃x,[V.ref c0,V.ref c1][u]?=some (.ref x)/\H3 x=some (.tup [.int (spl l r (2^N) u).1,.int (spl l r (2^N) u).2]):=λ{u} hu=>by
   match u,hu with
   |0,_=>exact⟨c0,rfl,s3 _ _ (s2 _ _ hc0)⟩
   |1,_=>exact⟨c1,rfl,s3 _ _ (s2 _ _ hc1)⟩
  have row:∀{u:Nat},u<2->∃x,[V.ref r0,V.ref r1][u]?=some (.ref x)/\H3 x=some (.tup [.int (spl t b (2^N) u).1,.int (spl t b (2^N) u).2]):=λ{u} hu=>by
   match u,hu with
   |0,_=>exact⟨r0,rfl,s3 _ _ hr0⟩
   |1,_=>exact⟨r1,rfl,s3 _ _ hr1⟩
  have hcc3:=s3 _ _ (s2 _ _ hcc);have hrr3:=s3 _ _ hrr;have hti3:=s13 _ _ hti;have hto3:=s13 _ _ hto;have fu3:=fu.same s13;have na3:=BG.same s13 na;have gmd:md∉Ds g:=λz=>by
   obtain⟨oo,e⟩:=(fu.same (s1.trans s2)).nw.s md z;rw[hmd]at e;cases e
  have kmd:md≠kn:=λz=>by
   obtain⟨xs,e,_⟩:=na.ex;rw[z]at nmd;rw[nmd]at e;cases e
  have mF:md∉frM g kn:=λz=>by
   simp only[frM,B7,D8,K7]at z;rcases z with z|z|z|z
   ·exact gmd (by rw[z];simp[Ds])
   ·exact gmd (by rw[z];simp[Ds])
   ·exact gmd (by rw[z];simp[Ds])
   ·exact kmd z
  clear htp1 hc0 hc1 hr0 hr1 hcc hrr s1 s2 s3;refine⟨4,rfl,by decide,by decide,?_⟩;refine Gc (n:=4) (λj σ H4=>∃(G4:Gv)(kvs4:List (NK×V))(ms:Nat->Nat)(u10 u11 u12 u13:Option V),σ=[some (.ref g.p),some (.ref tk),some (.int (2^N)),some (.ref kn),some (.ref ti),some (.ref to'),some (.ref tp),some (.ref cc),some (.ref rr),some (.ref md),u10,u11,u12,u13]/\Fx (md::frM g kn) H3 H4/\H4 md=some (.lst ((List.range j).map λx=>V.int (ms x:Nat)))/\Bs a H4 g G4/\BG P w shM H4 kn kvs4/\KOk G4 c kvs4/\kvs.length<=kvs4.length/\AV G G4 (kvs4.length-kvs.length)/\Un G N kvs kvs4/\∀x,x<j->EZ G4 N (f4 i0 i1 i2 i3 x) (f4 o0 o1 o2 o3 x) (spl l r (2^N) (x%2)).1 (spl t b (2^N) (x/2)).1 (spl l r (2^N) (x%2)).2 (spl t b (2^N) (x/2)).2 (ms x)) ⟨G,kvs,λ_=>0,none,none,none,none,rfl,Fx.refl _ H3,hm3,fu3,na3,kok,B1 _,(AV.refl fu.ok).mono A0,Un.refl _ _ _,λx hx=>absurd hx (M0 _)⟩ ?_ ?_
  ·rintro j σ H4 hj z4_;apply Ay;intro G_ hG_;obtain⟨G4,kvs4,ms,u10,u11,u12,u13,rfl,x4,hm4,fu4,na4,kok4,le4,go4,un4,mx4⟩:=z4_;apply hG_;clear hG_ G_;have u2:j%2<2:=L7 _ A3;have v2:j/2<2:=by lia
   obtain⟨cx,ecx,hcx⟩:=col u2;obtain⟨ry,ery,hry⟩:=row v2;have hcx4:=x4.tup hcx;have hry4:=x4.tup hry;have cm:(0+(j:Int))%2=((j%2:Nat):Int):=by lia
   have cd:(0+(j:Int))/2=((j/2:Nat):Int):=by lia
   refine xq1 rfl (xq1 rfl (xq2 rfl rfl ⟨A9,cc,_,_,.ref cx,rfl,rfl,SqT.of (x4.tup hcc3),?_,?_⟩))
   ·show atI [V.ref c0,V.ref c1] ((0+(j:Int))%2)=_;rw[cm];exact Ai ecx
   refine xq1 rfl (xq1 rfl (xq2 rfl rfl ⟨⟨by decide,by decide⟩,rr,_,_,.ref ry,rfl,rfl,SqT.of (x4.tup hrr3),?_,?_⟩))
   ·show atI [V.ref r0,V.ref r1] ((0+(j:Int))/2)=_;rw[cd];exact Ai ery
   refine xwi rfl rfl rfl (SqT.of hcx4) (Ai (j:=0) rfl) (xwi rfl rfl rfl (SqT.of hry4) (Ai (j:=0) rfl) (xwi rfl rfl rfl (SqT.of hcx4) (Ai (j:=1) rfl) (xwi rfl rfl rfl (SqT.of hry4) (Ai (j:=1) rfl) ⟨(by show 4<=sizeLine;decide),λqp hqp=>?_⟩)));have s5:=Al (o:=.tup [.int (spl l r (2^N) (j%2)).1,.int (spl t b (2^N) (j/2)).1,.int (spl l r (2^N) (j%2)).2,.int (spl t b (2^N) (j/2)).2]) hqp;have h5:upd H4 qp (.tup [.int (spl l r (2^N) (j%2)).1,.int (spl t b (2^N) (j/2)).1,.int (spl l r (2^N) (j%2)).2,.int (spl t b (2^N) (j/2)).2]) qp=some (.tup [.int (spl l r (2^N) (j%2)).1,.int (spl t b (2^N) (j/2)).1,.int (spl l r (2^N) (j%2)).2,.int (spl t b (2^N) (j/2)).2]):=Ag;show ∃_,_;generalize upd H4 qp (.tup [.int (spl l r (2^N) (j%2)).1,.int (spl t b (2^N) (j/2)).1,.int (spl l r (2^N) (j%2)).2,.int (spl t b (2^N) (j/2)).2])=H5 at s5 h5⊢;have x5:=x4.trans (Aw.fx s5);have hm5:=s5 _ _ hm4;have ai:atI (qi.parts.map V.int) (0+(j:Int))=some (.int (f4 i0 i1 i2 i3 j:Nat)):=by
    rw[Z1];exact Ai (ni.at4 hj)
   have ao:atI (qo.parts.map V.int) (0+(j:Int))=some (.int (f4 o0 o1 o2 o3 j:Nat)):=by
    rw[Z1];exact Ai (no.at4 hj)
   have pd4:Pd G4 c N (f4 i0 i1 i2 i3 j) (f4 o0 o1 o2 o3 j):=(pd.part fu.ok clo ni no hj).go go4;have pN:(0:Int)<2^N:=Gu N;have e2:(2:Int)^(N+1)=2^N+2^N:=by rw[R4];lia
   rw[e2]at bd;have bds:∀{s0 e0:Int}{u:Nat},0<=s0->e0<=2^N+2^N->0<=(spl s0 e0 (2^N) u).1/\(spl s0 e0 (2^N) u).2<=2^N:=λ{s0 e0 u} a1 a2=>by
    unfold spl;split
    ·dsimp only;split<;>lia
    ·dsimp only;split<;>lia
   have bx:=bds (u:=j%2) bd.1 bd.2.2.1;have by':=bds (u:=j/2) bd.2.1 bd.2.2.2
   have g4:=go4.few;refine xq1 rfl ⟨.inl ⟨rfl,_,SqL.of hm5⟩,(xw3 rfl rfl rfl (xq4 rfl rfl (SqT.of (x5.tup hti3)) ai (xwj rfl rfl rfl rfl (SqT.of (x5.tup hto3)) ao (xw2 rfl rfl ?_))))⟩;refine⟨g,G4,c,kn,qp,kvs4,f4 i0 i1 i2 i3 j,f4 o0 o1 o2 o3 j,N,_,_,_,_,rfl,fu4.same s5,BG.same s5 na4,nk,h5,kok4,clo.app go4,s8,pd4,Nn,by lia,⟨bx.1,by'.1,bx.2,by'.2⟩,λz=>sx.spl z,λz=>sy.spl z,⟨by lia,few2⟩,λm G6 kvs6 H6 x6 fu6 na6 kok6 le6 go6 un6 mx6=>?_⟩;have hm6:=x6.get mF hm5;refine⟨md,_,.int m,rfl,rfl,hm6,by rw[B0,N3];exact Du A0,?_⟩;have x7:=fx_up (o':=.lst (((List.range j).map λx=>V.int (ms x:Nat))++[.int m])) hm6 (λz=>z);have le46:G.length<=G4.length:=go4.le;refine⟨G6,kvs6,λx=>if x=j then m else ms x,_,_,_,_,rfl,(x5.trans (x6.mono (by simp[frM]))).trans (x7.mono A5),?_,fu6.fx x7 λy hy z=>gmd (by rw[C9]at z;rw[<-z];exact hy),BG.fx x7 (by simpa using X5 kmd) na6,kok6,by lia,(go4.trans go6).mono A0,un4.trans go4 un6,λx hx=>?_⟩
   ·rw[Ag,R5,D5];congr 3
    ·exact Y1 λx hx=>by
      show V.int (ms x:Nat)=V.int ((if x=j then m else ms x:Nat):Int);rw[Z5 (by have:=M2.mp hx;lia)]
    ·show [V.int m]=[V.int ((if j=j then m else ms j:Nat):Int)]
     rw[Z6 rfl]
   ·dsimp only;by_cases z:x=j
    ·subst z;rw[Z6 rfl];exact mx6
    ·rw[Z5 z];have hx3:x<4:=by lia
     have l1:Au G4 (f4 o0 o1 o2 o3 x) (N:Int):=go4.lev (by
      match x,hx3 with
      |0,_=>exact no.hx
      |1,_=>exact no.hy
      |2,_=>exact no.hz
      |3,_=>exact no.hw)
     have l2:Au G4 (f4 i0 i1 i2 i3 x) (N:Int):=go4.lev (ni.nat hx3).2;exact(mx4 x A0).app fu4.ok go6 l2 l1
  ·rintro σ H4 z2_;apply Ay;intro G_ hG_;obtain⟨G4,kvs4,ms,u10,u11,u12,u13,rfl,x4,hm4,fu4,na4,kok4,le4,go4,un4,mx4⟩:=z2_;apply hG_;clear hG_ G_;have g4:=go4.few;have l4:=kok4.len fu4.ok;refine xq1 rfl ⟨g.p,g.dx,(xq1 rfl ⟨fu4.at'.hp,Dc g,(xq1 rfl ⟨md,(xq1 rfl (.inl ⟨SqL.of hm4,λtl htl=>?_⟩))⟩)⟩)⟩;have s5:=Al (o:=.tup [.int (ms 0:Nat),.int (ms 1:Nat),.int (ms 2:Nat),.int (ms 3:Nat)]) htl;refine⟨g,G4,tl,ms 0,ms 1,ms 2,ms 3,(N:Int),rfl,fu4.at'.same s5,fu4.ok,Ag,⟨(mx4 0 A3).lev,(mx4 1 A3).lev,(mx4 2 A3).lev,(mx4 3 A3).lev⟩,by lia,by lia,λm G6 H6 fr6 hg6 go6 e6=>?_⟩;have x6:=fr6.fx (fu4.at'.same s5);have fu6:=(fu4.same s5).fr fr6 hg6 go6;have x46:Fx (md::frM g kn) H3 H6:=(x4.trans (Aw.fx s5)).trans (x6.mono (by simp[frM]));have kf:kn∉[g.lv,g.pt,g.nm]:=λz=>nk (by simp[Ds]at *;lia);refine k m G6 kvs4 H6 (Fx.fresh s13 x46 nmd) fu6 (BG.fx x6 kf (BG.same s5 na4)) (kok4.go fu4.ok s8 go6) le4 (go4.trans go6) un4 ?_;exact EZ.join (ni.app (go4.trans go6)) (no.app (go4.trans go6)) (λx hx=>(mx4 x hx).app fu4.ok go6 (go4.lev (ni.nat hx).2) (go4.lev (by
    match x,hx with
    |0,_=>exact no.hx
    |1,_=>exact no.hy
    |2,_=>exact no.hz
    |3,_=>exact no.hw))) e6
theorem Vy{f:Addr}{fd:FuncData}{f':Addr}{fd':FuncData}(F:Fun K "mixed" "mixed" LQ f fd)(F':Fun K "mixed_quarters" "mixed_quarters" CG f' fd')(T:Top K mg a)(hm:mg "mixed" = some (.ref f))(Bi:CD K fd Gz [])(hm':mg "mixed_quarters" = some (.ref f'))(Bi':CD K fd' CI [])(aC:Cal P w K mg base CX0 1 "split_stretch" CU LN)(a6:CS P w K mg base CX0 2 a.c_Grove "linked" BT (IW a)):∀n,AO P w K mg base CX0 (2*n+2) f fd Gz (NN a P w n)
 |0=>by
  refine F.ok Ga (λvs H Q E h=>?_) (λcdv A outer s H vs Q E hr h=>?_)
  ·apply Ay;intro G_ hG_;obtain⟨g,G,c,kn,tp,kvs,i,o,N,l,t,r,b,rfl,_,_,_,_,_,_,_,_,h0,_⟩:=h;apply hG_;clear hG_ G_;exact absurd h0 (M0 _)
  ·apply Ay;intro G_ hG_;obtain⟨g,G,c,kn,tp,kvs,i,o,N,l,t,r,b,rfl,_,_,_,_,_,_,_,_,h0,_⟩:=h;apply hG_;clear hG_ G_;exact absurd h0 (M0 _)
 |n+1=>ok_mixS F T ⟨f',fd',ok_mq (d:=2*n+2) A0 F' T aC a6 ⟨f,fd,Vy F F' T hm Bi hm' Bi' aC a6 n,hm,F.kp,Bi⟩,hm',F'.kp,Bi'⟩
end
end J
namespace J
open PySem L2
theorem EZ.part{G:Gv}{n i o m:Nat}{l t r b:Int}{qi qo qm:Sq}{i0 i1 i2 i3 o0 o1 o2 o3 m0 m1 m2 m3:Nat}(ni:BZ G n i qi i0 i1 i2 i3)(no:BZ G n o qo o0 o1 o2 o3)(nm:BZ G n m qm m0 m1 m2 m3)(h:EZ G (n+1) i o l t r b m){k:Nat}(hk:k<4) :
  EZ G n (f4 i0 i1 i2 i3 k) (f4 o0 o1 o2 o3 k) (spl l r (2^n) (k%2)).1 (spl t b (2^n) (k/2)).1 (spl l r (2^n) (k%2)).2 (spl t b (2^n) (k/2)).2 (f4 m0 m1 m2 m3 k):=by
 refine⟨(nm.nat hk).2,λx y hx hy=>?_⟩;apply Ay;intro G_ hG_;obtain⟨h1,h2,h3,h4,h5⟩:=GI hk hx hy;apply hG_;clear hG_ G_;have c:=h.cell _ _ h1 h2;rw[AW nm h1 h2,AW ni h1 h2,AW no h1 h2,h3,h4,h5]at c;rw[c];have d1:(x+2^n*(k%2))/2^n=k%2:=by
  rw[T6 _ _ (Be n),Q4 hx,S1]
 have d2:(y+2^n*(k/2))/2^n=k/2:=by
  rw[T6 _ _ (Be n),Q4 hy,S1]
 have i1:=LM (s:=l) (e:=r) h1 d1;have i2:=LM (s:=t) (e:=b) h2 d2;rw[h4]at i1;rw[h5]at i2;by_cases z:(l<=((x+2^n*(k%2):Nat):Int)/\((x+2^n*(k%2):Nat):Int)<r)/\(t<=((y+2^n*(k/2):Nat):Int)/\((y+2^n*(k/2):Nat):Int)<b)
 ·rw[Z6 z,Z6 ⟨i1.mpr z.1,i2.mpr z.2⟩]
 ·rw[Z5 z,Z5 λq=>z ⟨i1.mp q.1,i2.mp q.2⟩]
theorem EZ.empty{G:Gv}(ok:GOk G){n i o m:Nat}{l t r b:Int}(h:EZ G n i o l t r b m)(lo:Au G o (n:Int))(e:r<=l\/b<=t):m=o:=by
 refine Ev ok h.lev lo λx y hx hy=>?_;rw[h.cell x y hx hy,Z5 A0]
theorem EZ.one{G:Gv}(ok:GOk G){n i o m m':Nat}{l t r b:Int}(h:EZ G n i o l t r b m)(h':EZ G n i o l t r b m'):m=m':=Ev ok h.lev h'.lev λx y hx hy=>by rw[h.cell x y hx hy,h'.cell x y hx hy]
def RT(G:Gv)(c:Mc)(x:Nat):Prop:=∃(k:NK)(n i o:Nat)(l t r b:Int),Ent G c (k,.int x) n i o l t r b x
theorem VG{G:Gv}(ok:GOk G){c:Mc}{l:List Nat}(nd:l.Nodup)(h:∀x∈l,RT G c x):l.length<=16*c.S.length:=by
 classical
 let f:Nat->NK:=λx=>if z:RT G c x then Classical.choose z else [];have hf:∀x∈l,∃n i o l t r b,Ent G c (f x,.int x) n i o l t r b x:=λx hx=>by
  have z:=h x hx;show ∃n i o l t r b,Ent G c ((if z:RT G c x then Classical.choose z else []),.int x) n i o l t r b x;rw[dif_pos z];exact A2c z
 have k:KOk G c (l.map λx=>(f x,V.int (x:Int))):=by
  refine⟨?_,λp hp=>?_⟩
  ·rw[U6,F6,O3];refine A3g (λ{x y} hx hy hne z=>hne ?_) (F6.mp nd);have z:f x=f y:=z;apply Ay;intro G_ hG_;obtain⟨n,i,o,l,t,r,b,e⟩:=hf x hx;obtain⟨n',i',o',l',t',r',b',e'⟩:=hf y hy;apply hG_;clear hG_ G_;have q1:=X4 Prod.fst e.e;have q2:=X4 Prod.fst e'.e;have q1:f x=kMx i o l t r b:=q1;have q2:f y=kMx i' o' l' t' r' b':=q2;apply Ay;intro G_ hG_;obtain⟨rfl,rfl,rfl,rfl,rfl,rfl⟩:=Pk (q1.symm.trans (z.trans q2));apply hG_;clear hG_ G_;have:n=n':=X7 (e.pd.lo.uniq e'.pd.lo);subst this;exact e.mx.one ok e'.mx
  ·obtain⟨x,hx,rfl⟩:=F1.mp hp;apply Ay;intro G_ hG_;obtain⟨n,i,o,l,t,r,b,e⟩:=hf x hx;apply hG_;clear hG_ G_;exact⟨n,i,o,l,t,r,b,x,e⟩
 have:=k.len ok;rw[B0]at this;exact this
structure FS(G:Gv)(f B:Nat):Prop where
 ex:∃S:List Nat,f∈S/\(∀j,j<=48->bareN j∈S)/\Clo G S/\S.length<=B
theorem FS.app{G G':Gv}{k f B:Nat}(go:AV G G' k)(h:FS G f B):FS G' f B:=by
 apply Ay;intro G_ hG_;obtain⟨S,h1,h2,h3,h4⟩:=h.ex;apply hG_;clear hG_ G_;exact⟨S,h1,h2,h3.app go,h4⟩
theorem FS.mono{G:Gv}{f B C:Nat}(h:FS G f B)(e:B<=C):FS G f C:=by
 apply Ay;intro G_ hG_;obtain⟨S,h1,h2,h3,h4⟩:=h.ex;apply hG_;clear hG_ G_;exact⟨S,h1,h2,h3,by lia⟩
theorem Clo.cons{G:Gv}{S:List Nat}(h:Clo G S){n x a b c d:Nat}{q:Sq}(nd:BZ G n x q a b c d)(m:a∈S/\b∈S/\c∈S/\d∈S):Clo G (x::S):=λo ho=>by
 rcases B7.mp ho with rfl|ho
 ·exact .inr ⟨n,q,a,b,c,d,nd,B9 _ m.1,B9 _ m.2.1,B9 _ m.2.2.1,B9 _ m.2.2.2⟩
 ·rcases h o ho with z|⟨n',q',a',b',c',d',nd',m'⟩
  ·exact .inl z
  ·exact .inr ⟨n',q',a',b',c',d',nd',B9 _ m'.1,B9 _ m'.2.1,B9 _ m'.2.2.1,B9 _ m'.2.2.2⟩
theorem Pq{G r:Gv}(e0:G=G0++r)(ok:GOk G){j:Nat}(h:j<=48):FS G (bareN j) 49:=by
 refine⟨(List.range 49).map bareN,F1.mpr ⟨j,M2.mpr A0,rfl⟩,λi hi=>F1.mpr ⟨i,M2.mpr A0,rfl⟩,λo ho=>?_,by rw[B0,N3];exact B1 _⟩;obtain⟨i,hi,rfl⟩:=F1.mp ho;have hi:=M2.mp hi;cases i with
 |zero=>exact .inl A3
 |succ i =>
  have m:bareN i∈(List.range 49).map bareN:=F1.mpr ⟨i,M2.mpr A0,rfl⟩;have lb:=DP e0 (n:=i) A0;have g:G[bareN (i+1)]?=some ⟨[(bareN i:Int),(bareN i:Int),(bareN i:Int),(bareN i:Int)],(i:Int)+1⟩:=by
   have:=RF e0 i A0;exact this
  exact .inr ⟨i,_,bareN i,bareN i,bareN i,bareN i,⟨g,rfl,rfl,lb,lb,lb,lb⟩,m,m,m,m⟩
theorem FS.wid{G r:Gv}(e0:G=G0++r)(ok:GOk G){n f w B:Nat}(hn:n<=46)(h:FS G f B)(wd:Wid G n f w):FS G w (B+5):=by
 apply Ay;intro G_ hG_;obtain⟨S,h1,h2,h3,h4⟩:=h.ex;obtain⟨q,x,y,z,v,a,b,c,d,nd,ea,eb,ec,ed,ew⟩:=wd.ex;obtain⟨m1,m2,m3,m4⟩:=h3.get ok h1 nd;apply hG_;clear hG_ G_;have lb:=DP e0 (n:=n) A0;have mb:=h2 n A0;have na:BZ G n a _ (bareN n) (bareN n) (bareN n) x:=⟨ea,rfl,rfl,lb,lb,lb,nd.hx⟩
 have nb:BZ G n b _ (bareN n) (bareN n) y (bareN n):=⟨eb,rfl,rfl,lb,lb,nd.hy,lb⟩
 have nc:BZ G n c _ (bareN n) z (bareN n) (bareN n):=⟨ec,rfl,rfl,lb,nd.hz,lb,lb⟩
 have nD:BZ G n d _ v (bareN n) (bareN n) (bareN n):=⟨ed,rfl,rfl,nd.hw,lb,lb,lb⟩
 have la:Au G a ((n+1:Nat):Int):=⟨_,ea,by show(n:Int)+1=_;lia⟩
 have lb':Au G b ((n+1:Nat):Int):=⟨_,eb,by show(n:Int)+1=_;lia⟩
 have lc:Au G c ((n+1:Nat):Int):=⟨_,ec,by show(n:Int)+1=_;lia⟩
 have ld:Au G d ((n+1:Nat):Int):=⟨_,ed,by show(n:Int)+1=_;lia⟩
 have nw:BZ G (n+1) w _ a b c d:=⟨ew,rfl,by show(n:Int)+2=((n+1:Nat):Int)+1;lia,la,lb',lc,ld⟩
 refine⟨w::a::b::c::d::S,by simp,λj hj=>by simp[h2 j hj],?_,by simp only[C4];lia⟩;refine Clo.cons (Clo.cons (Clo.cons (Clo.cons (Clo.cons h3 nD ⟨m4,mb,mb,mb⟩) nc ?_) nb ?_) na ?_) nw ?_
 ·exact⟨B9 _ mb,B9 _ m3,B9 _ mb,B9 _ mb⟩
 ·simp[mb,m2]
 ·simp[mb,m1]
 ·simp
theorem FS.widN{G r:Gv}(e0:G=G0++r)(ok:GOk G){n f B:Nat}(h:FS G f B):∀{k w:Nat},n+k<=46->MW G n f k w->FS G w (B+5*k)
 |0,w,_,e=>by
  have e:w=f:=e;subst e;exact h
 |k+1,w,hn,e=>by
  obtain⟨u,e1,e2⟩:=e;exact((FS.widN e0 ok h (k:=k) A0 e1).wid e0 ok A0 e2).mono A0
theorem FS.trim{G:Gv}(ok:GOk G):∀{n f r B:Nat},FS G f B->LA G n f r->FS G r (B+n)
 |0,_,_,_,_,t=>absurd t (by intro z;exact z)
 |1,f,r,B,h,t=>by
  have t:r=f:=t;subst t;exact h.mono A0
 |n+2,f,r,B,h,t=>by
  apply Ay;intro G_ hG_;obtain⟨qs,ps,dp,t⟩:=t;apply hG_;clear hG_ G_;rcases t with ⟨_,rfl⟩|⟨_,m,em,t⟩
  ·exact h.mono A0
  ·apply Ay;intro G_ hG_;obtain⟨S,h1,h2,h3,h4⟩:=h.ex;obtain⟨q,nd⟩:=dp.node;obtain⟨m0,m1,m2,m3⟩:=h3.get ok h1 nd;apply hG_;clear hG_ G_;have sub:∀k,k<4->qs k∈S:=λk hk=>by
    match k,hk with
    |0,_=>exact m0
    |1,_=>exact m1
    |2,_=>exact m2
    |3,_=>exact m3
   have sub2:∀k j,k<4->j<4->ps k j∈S/\Au G (ps k j) (n:Int):=λk j hk hj=>by
    obtain⟨q',nd'⟩:=dp.sub k hk;apply Ay;intro G_ hG_;obtain⟨a0,a1,a2,a3⟩:=h3.get ok (sub k hk) nd';apply hG_;clear hG_ G_
    match j,hj with
    |0,_=>exact⟨a0,nd'.hx⟩
    |1,_=>exact⟨a1,nd'.hy⟩
    |2,_=>exact⟨a2,nd'.hz⟩
    |3,_=>exact⟨a3,nd'.hw⟩
   have p0:=sub2 0 3 A3 A3;have p1:=sub2 1 2 A3 A3;have p2:=sub2 2 1 A3 A3;have p3:=sub2 3 0 A3 A3;have nm:BZ G n m _ (ps 0 3) (ps 1 2) (ps 2 1) (ps 3 0):=⟨em,rfl,rfl,p0.2,p1.2,p2.2,p3.2⟩
   have:FS G m (B+1):=⟨m::S,by simp,λj hj=>by simp[h2 j hj],Clo.cons h3 nm ⟨p0.1,p1.1,p2.1,p3.1⟩,by simp only[C4];lia⟩
   exact(FS.trim ok this t).mono A0
theorem fs_mix{G:Gv}(ok:GOk G){c:Mc}(clo:Clo G c.S)(hb:∀j,j<=48->bareN j∈c.S){m:Nat}(h:RT G c m)(s8:c.s<8)(bo:c.ro=true->∀{n o:Nat},Au G o (n:Int)->Sol G c.s n o->o∈c.S):FS G m (17*c.S.length):=by
 classical
 let L:=(List.range G.length).filter λx=>decide (RT G c x);have inL:∀{x:Nat},RT G c x->x∈L:=λ{x} hx=>U0.mpr ⟨M2.mpr (by
  apply Ay;intro G_ hG_;obtain⟨k,n,i,o,l,t,r,b,e⟩:=hx;apply hG_;clear hG_ G_;exact e.mx.lev.lt),Z3 hx⟩
 have len:L.length<=16*c.S.length:=VG ok (List.Pairwise.filter _ List.nodup_range) λx hx=>K6 (U0.mp hx).2;refine⟨c.S++L,C6.mpr (.inr (inL h)),λj hj=>C6.mpr (.inl (hb j hj)),λx hx=>?_,by rw[B5];lia⟩;rcases C6.mp hx with hx|hx
 ·rcases clo x hx with z|⟨n,q,a,b,c',d,nd,m1,m2,m3,m4⟩
  ·exact .inl z
  ·exact .inr ⟨n,q,a,b,c',d,nd,C6.mpr (.inl m1),C6.mpr (.inl m2),C6.mpr (.inl m3),C6.mpr (.inl m4)⟩
 ·apply Ay;intro G_ hG_;obtain⟨k,n,i,o,l,t,r,b,e⟩:=K6 (U0.mp hx).2;apply hG_;clear hG_ G_;cases n with
  |zero=>exact .inl (Sv ok e.mx.lev)
  |succ n =>
   apply Ay;intro G_ hG_;obtain⟨qm,m0,m1,m2,m3,nm⟩:=AU ok e.mx.lev;obtain⟨qo,o0,o1,o2,o3,no⟩:=AU ok e.pd.lo;obtain⟨qi,i0,i1,i2,i3,ni⟩:=AU ok e.pd.li;apply hG_;clear hG_ G_;have all:∀k',k'<4->f4 m0 m1 m2 m3 k'∈c.S++L:=λk' hk=>by
    have mp:=e.mx.part ni no nm hk;have pd':=e.pd.part ok clo ni no hk;by_cases z:(spl l r (2^n) (k'%2)).1<(spl l r (2^n) (k'%2)).2/\(spl t b (2^n) (k'/2)).1<(spl t b (2^n) (k'/2)).2
    ·exact C6.mpr (.inr (inL ⟨_,n,_,_,_,_,_,_,⟨rfl,pd',mp,e.sx.spl z.1,e.sy.spl z.2⟩⟩))
    ·rw[mp.empty ok pd'.lo A0];refine C6.mpr (.inl ?_);have q1:=pd'.mo;have q2:=pd'.so;unfold Em at q1;unfold Tp at q2;by_cases y:c.ro=true
     ·rw[Z6 y]at q2;exact bo y pd'.lo q2
     ·rw[Z5 y]at q1;exact q1
   exact .inr ⟨n,qm,m0,m1,m2,m3,nm,all 0 A3,all 1 A3,all 2 A3,all 3 A3⟩
seal L2.PA L2.PE L2.PS L2.PSs L2.PT L2.PW
theorem MS{G:Gv}(ok:GOk G){s:Nat}(hs:s<8):∀{n i x y:Nat},Sol G s n i->x<2^n->y<2^n->cellF G n i x y=s
 |0,i,x,y,h,_,_=>h
 |n+1,i,x,y,h,hx,hy=>by
  obtain⟨m,h1,e⟩:=h;have lm:=Sol.lev ok hs h1;have nd:BZ G n i _ m m m m:=⟨e,rfl,rfl,lm,lm,lm,lm⟩
  rw[AW nd hx hy];have:f4 m m m m (quad n x y)=m:=by unfold f4;split<;>rfl
  rw[this];exact MS ok hs h1 (L7 _ (Be n)) (L7 _ (Be n))
def InB(x y wd ht u v:Int):Prop:=(x<=u/\u<x+wd)/\(y<=v/\v<y+ht)
instance(x y wd ht u v:Int):Decidable (InB x y wd ht u v):=by unfold InB;infer_instance
theorem TB{G:Gv}(ok:GOk G){n s i o m:Nat}{x y wd ht:Int}(s8:s<8)(so:Sol G s (n+1) i)(li:Ep x y wd ht (2^n))(h:EZ G (n+1) i o (x+2^n) (y+2^n) (x+2^n+wd) (y+2^n+ht) m)(u v:Int):fieldF G n m u v=if InB x y wd ht u v then s else fieldF G n o u v:=by
 unfold fieldF;by_cases z:-(2^n)<=u/\u<2^n/\-(2^n)<=v/\v<2^n
 ·rw[Z6 z,Z6 z];have h1:=Ei z.1 z.2.1;have h2:=Ei z.2.2.1 z.2.2.2;rw[h.cell _ _ h1 h2,MS ok s8 so h1 h2];have e1:((u+2^n).toNat:Int)=u+2^n:=U4 A0;have e2:((v+2^n).toNat:Int)=v+2^n:=U4 A0;rw[e1,e2];by_cases q:InB x y wd ht u v
  ·rw[Z6 q,Z6 (by unfold InB at q;lia)]
  ·rw[Z5 q,Z5 (by unfold InB at q;lia)]
 ·rw[Z5 z,Z5 z,Z5];unfold InB;unfold Ep at li;lia
def clL(v:Int):Int:=if 0 > v then 0 else v
def clR(n:Nat)(v:Int):Int:=if 2*2^n<v then 2*2^n else v
theorem Wt{v:Int}(h:0<=v):clL v=v:=by unfold clL;rw[Z5 A0]
theorem Ws{n:Nat}{v:Int}(h:v<=2*2^n):clR n v=v:=by unfold clR;rw[Z5 A0]
section
variable{P:Program}{w:World}{K:W.Frag}{mg:Str->Option Value}{base:Heap}{a:Ad}
inductive SpChB(vs:List V)(H:Hp)(Q:VK):Prop
 |mk (t:Addr) (x y wd ht:Int) (_:vs=[.ref t]) (_:H t=some (.tup [.int x,.int y,.int wd,.int ht])) (_:0<=wd) (_:0<=ht) (_:Q .non H):SpChB vs H Q
def Sj:Sp:=λvs H Q _=>SpChB vs H Q
theorem ok_chb{f:Addr}{fd:FuncData}(F:Fun K "check_box" "check_box" GY f fd)(T:Top K mg a):AO P w K mg base CX0 1 f fd Fo Sj:=by
 refine F.ok OE (λvs H Q E h=>?_) (λcdv A outer s H vs Q E hr h=>?_)
 ·obtain⟨t,x,y,wd,ht,rfl,_⟩:=h;rfl
 ·obtain⟨t,x,y,wd,ht,rfl,hb,w0,h0,k⟩:=h;refine⟨_,(Af (AB (PW.pt (BM (Ak Fq (At Az (pv 0) Ae (λ_ _=>rfl)) Ae (An _)) (BE (Ak Fq (At Az (pv 0) Ae (λ_ _=>rfl)) Ae (An _))))) (Af Cy) Ap)),?_⟩
  try dsimp only[cxK]
  refine xwi rfl rfl rfl (SqT.of hb) (Ai (j:=2) rfl) (xq2 rfl rfl (xq1 rfl ?_));rw[Z4 (by lia:¬wd<0)];refine AE (xwi rfl rfl rfl (SqT.of hb) (Ai (j:=3) rfl) (xq2 rfl rfl (xq1 rfl ?_)));rw[Z4 (by lia:¬ht<0)];exact AE k
inductive SpPI(a:Ad)(vs:List V)(H:Hp)(Q:VK):Prop
 |mk (g:GA) (G:Gv) (f n:Nat) (t:Addr) (x y wd ht:Int) (_:vs=[.ref g.p,.int f,.ref t]) (_:Bs a H g G) (_:Au G f ((n+1:Nat):Int)) (_:n<48) (_:H t=some (.tup [.int x,.int y,.int wd,.int ht])) (_:∀(t':Addr)(H':Hp),Aw H H'->H' t'=some (.tup [.int (clL (x+2^n)),.int (clL (y+2^n)),.int (clR n (x+2^n+wd)),.int (clR n (y+2^n+ht))])->Q (.ref t') H'):SpPI a vs H Q
def spPI(a:Ad):Sp:=λvs H Q _=>SpPI a vs H Q
theorem ok_pi{f:Addr}{fd:FuncData}(F:Fun K "part_in" "part_in" JV f fd)(T:Top K mg a)(aW:Cal P w K mg base CX0 4 "reach_of" Gy (LP a)):AO P w K mg base CX0 5 f fd IE (spPI a):=by
 refine F.ok Ex (λvs H Q E h=>?_) (λcdv A outer s H vs Q E hr h=>?_)
 ·obtain⟨g,G,f',n,t,x,y,wd,ht,rfl,_⟩:=h;rfl
 ·obtain⟨g,G,f',n,t,x,y,wd,ht,rfl,fu,lf,n48,hb,k⟩:=h;refine⟨_,(Ab (Ah (i:=3) Ex.nd rfl (Or.inl rfl) (Aq aW (rm hr) rfl Ar (Aa (pv 0) (Aa (pv 1) Ac)))) (Ab (Ah (i:=4) Ex.nd rfl (Or.inl rfl) (Ao AR (At Az (pv 2) Ae (λ_ _=>rfl)) (pv 3))) (Ab (Ah (i:=5) Ex.nd rfl (Or.inl rfl) (Ao AR (At Az (pv 2) Ae (λ_ _=>rfl)) (pv 3))) (Ab (Ah (i:=6) Ex.nd rfl (Or.inl rfl) (Ao ET Ae (pv 3))) (Af (Am (Ea (Aa (As (IK rfl) rfl T.b_max A4c (Aa (pv 4) (Bu Ac))) (Aa (As (IK rfl) rfl T.b_max A4c (Aa (pv 5) (Bu Ac))) (Aa (As (Ge rfl) rfl T.b_min A2b (Cu AR (pv 4) (At Az (pv 2) Ae (λ_ _=>rfl)) (Aa (pv 6) Ac))) (Aa (As (Ge rfl) rfl T.b_min A2b (Cu AR (pv 5) (At Az (pv 2) Ae (λ_ _=>rfl)) (Aa (pv 6) Ac))) Ac))))))))))),?_⟩
  try dsimp only[cxK]
  refine xw2 rfl rfl ⟨g,G,f',n,rfl,fu.at',lf,n48,?_⟩;refine xwi rfl rfl rfl (SqT.of hb) (Ai (j:=0) rfl) (xwb rfl rfl rfl ?_);refine xwi rfl rfl rfl (SqT.of hb) (Ai (j:=1) rfl) (xwb rfl rfl rfl ?_);refine xwb rfl rfl rfl ⟨.inl ⟨by decide,by decide⟩,?_⟩;refine xq1 rfl ⟨_,_,rfl,(xq1 rfl ⟨_,_,rfl,(xwj rfl rfl rfl rfl (SqT.of hb) (Ai (j:=2) rfl) (xq2 rfl rfl (xq1 rfl ⟨_,_,rfl,(xwj rfl rfl rfl rfl (SqT.of hb) (Ai (j:=3) rfl) (xq2 rfl rfl (xq1 rfl ⟨_,_,rfl,(by show 4<=sizeLine;decide),λt' ht'=>?_⟩)))⟩)))⟩)⟩;exact k t' _ (Al ht') Ag
end
end J
namespace J
open PySem L2
theorem Clo.un{G:Gv}{U:List Nat}(h:∀o∈U,∃S,Clo G S/\o∈S/\∀x∈S,x∈U):Clo G U:=λo ho=>by
 apply Ay;intro G_ hG_;obtain⟨S,c,m,sub⟩:=h o ho;apply hG_;clear hG_ G_;rcases c o m with z|⟨n,q,a,b,d,e,nd,m1,m2,m3,m4⟩
 ·exact .inl z
 ·exact .inr ⟨n,q,a,b,d,e,nd,sub _ m1,sub _ m2,sub _ m3,sub _ m4⟩
theorem Wr{G:Gv}{n m m0 m1 m2 m3:Nat}{q:Sq}{S T0 T1 T2 T3:List Nat}(nm:BZ G n m q m0 m1 m2 m3)(clo:Clo G S)(c0:Clo G (T0++S))(c1:Clo G (T1++S))(c2:Clo G (T2++S))(c3:Clo G (T3++S))(g0:m0∈T0++S)(g1:m1∈T1++S)(g2:m2∈T2++S)(g3:m3∈T3++S):Clo G (m::(T0++(T1++(T2++T3)))++S):=by
 have cu:Clo G (T0++(T1++(T2++T3))++S):=Clo.un λx hx=>by
  simp only[C6]at hx;rcases hx with (hx|hx|hx|hx)|hx
  ·exact⟨_,c0,by simp[hx],λy hy=>by simp only[C6]at hy⊢;rcases hy with hy|hy<;>simp[hy]⟩
  ·exact⟨_,c1,by simp[hx],λy hy=>by simp only[C6]at hy⊢;rcases hy with hy|hy<;>simp[hy]⟩
  ·exact⟨_,c2,by simp[hx],λy hy=>by simp only[C6]at hy⊢;rcases hy with hy|hy<;>simp[hy]⟩
  ·exact⟨_,c3,by simp[hx],λy hy=>by simp only[C6]at hy⊢;rcases hy with hy|hy<;>simp[hy]⟩
  ·exact⟨_,clo,hx,λy hy=>by simp[hy]⟩
 simp only[C6]at g0 g1 g2 g3;refine Clo.cons cu nm ⟨?_,?_,?_,?_⟩
 ·simp only[C6];rcases g0 with z|z<;>simp[z]
 ·simp only[C6];rcases g1 with z|z<;>simp[z]
 ·simp only[C6];rcases g2 with z|z<;>simp[z]
 ·simp only[C6];rcases g3 with z|z<;>simp[z]
theorem spl_nn{l r h:Int}(l0:0<=l)(k:Nat):0<=(spl l r h k).1:=by
 match k with
 |0=>exact l0
 |k+1=>show 0<=(if l-h<0 then 0 else l-h);split<;>lia
structure Rw(G:Gv)(s T n o m:Nat):Prop where
 lo:Au G o (n:Int)
 lm:Au G m (n:Int)
 c:∀x y,x<2^n->y<2^n->cellF G n m x y=if y=T%2^n then s else cellF G n o x y
theorem UC(T n:Nat):T%2^(n+1)=T%2^n+2^n*(T%2^(n+1)/2^n)/\T%2^(n+1)/2^n<2:=by
 have e:(2:Nat)^(n+1)=2^n*2:=R3 ..;have h1:=Q6 (T%2^(n+1)) (2^n);have h2:T%2^(n+1)%2^n=T%2^n:=by rw[e];exact Nat.mod_mul_right_mod ..
 have p:0<2^n:=Be n;have h3:T%2^(n+1)<2^n*2:=by rw[e];exact L7 _ A0
 exact⟨by lia,(Q8 p).mpr (by rw[W1];exact h3)⟩
theorem Rw.part{G:Gv}{s T n o m:Nat}{qo qm:Sq}{o0 o1 o2 o3 m0 m1 m2 m3:Nat}(no:BZ G n o qo o0 o1 o2 o3)(nm:BZ G n m qm m0 m1 m2 m3)(h:Rw G s T (n+1) o m){k:Nat}(hk:k<4):(k/2=T%2^(n+1)/2^n->Rw G s T n (f4 o0 o1 o2 o3 k) (f4 m0 m1 m2 m3 k))/\(k/2≠T%2^(n+1)/2^n->∀x y,x<2^n->y<2^n->cellF G n (f4 m0 m1 m2 m3 k) x y=cellF G n (f4 o0 o1 o2 o3 k) x y):=by
 obtain⟨t1,t2⟩:=UC T n;have p:0<2^n:=Be n;have tl:T%2^n<2^n:=L7 _ p;have key:∀x y,x<2^n->y<2^n->cellF G n (f4 m0 m1 m2 m3 k) x y=if y+2^n*(k/2)=T%2^(n+1)then s else cellF G n (f4 o0 o1 o2 o3 k) x y:=λx y hx hy=>by
  apply Ay;intro G_ hG_;obtain⟨h1,h2,h3,h4,h5⟩:=GI hk hx hy;apply hG_;clear hG_ G_;have c:=h.c _ _ h1 h2;rw[AW nm h1 h2,AW no h1 h2,h3,h4,h5]at c;exact c
 generalize T%2^(n+1)/2^n=u at *
 refine⟨λe=>⟨(no.nat hk).2,(nm.nat hk).2,λx y hx hy=>?_⟩,λe x y hx hy=>?_⟩
 ·rw[key x y hx hy,e];by_cases z:y=T%2^n
  ·rw[Z6 A0,Z6 z]
  ·rw[Z5 A0,Z5 z]
 ·rw[key x y hx hy,Z5 λz=>e ?_];have k2:k/2<2:=by lia
  generalize k/2=v at *
  match v,u,k2,t2 with
  |0,0,_,_=>rfl
  |0,1,_,_=>exfalso;lia
  |1,0,_,_=>exfalso;lia
  |1,1,_,_=>rfl
theorem row_set{G:Gv}(ok:GOk G){S:List Nat}(clo:Clo G S)(s T:Nat):∃U:List Nat,U.length=S.length/\Clo G (U++S)/\∀o∈S,∀n m,Rw G s T n o m->m∈U:=by
 classical
 let res:Nat->Nat:=λo=>if h:∃m n,Rw G s T n o m then Classical.choose h else o;have one:∀{o n m:Nat},Rw G s T n o m->res o=m:=λ{o n m} h=>by
  have ex:∃m n,Rw G s T n o m:=⟨m,n,h⟩
  have e:res o=Classical.choose ex:=dif_pos ex;rw[e];obtain⟨n',h'⟩:=A2c ex;have en:n'=n:=X7 (h'.lo.uniq h.lo);subst en;exact Ev ok h'.lm h.lm λx y hx hy=>by rw[h'.c x y hx hy,h.c x y hx hy]
 have mU:∀o∈S,∀n m,Rw G s T n o m->m∈S.map res:=λo ho n m h=>F1.mpr ⟨o,ho,one h⟩;refine⟨S.map res,B0 _,λx hx=>?_,mU⟩;have old:x∈S->x<8\/∃(n:Nat)(q:Sq)(a b c d:Nat),BZ G n x q a b c d/\a∈S.map res++S/\b∈S.map res++S/\c∈S.map res++S/\d∈S.map res++S:=λhx=>by
  rcases clo x hx with z|⟨n,q,a,b,c,d,nd,h1,h2,h3,h4⟩
  ·exact .inl z
  ·exact .inr ⟨n,q,a,b,c,d,nd,C7 _ h1,C7 _ h2,C7 _ h3,C7 _ h4⟩
 rcases C6.mp hx with hx|hx
 ·obtain⟨o,ho,rfl⟩:=F1.mp hx;by_cases ex:∃m n,Rw G s T n o m
  ·obtain⟨m,n,h⟩:=ex;rw[one h];cases n with
   |zero=>exact .inl (Sv ok h.lm)
   |succ n =>
    apply Ay;intro G_ hG_;obtain⟨qm,m0,m1,m2,m3,nm⟩:=AU ok h.lm;obtain⟨qo,o0,o1,o2,o3,no⟩:=AU ok h.lo;obtain⟨a0,a1,a2,a3⟩:=clo.get ok ho no;apply hG_;clear hG_ G_;have all:∀k,k<4->f4 o0 o1 o2 o3 k∈S->f4 m0 m1 m2 m3 k∈S.map res++S:=λk hk hs=>by
     obtain⟨p1,p2⟩:=h.part no nm hk;by_cases e:k/2=T%2^(n+1)/2^n
     ·exact M6 _ (mU _ hs _ _ (p1 e))
     ·rw[Ev ok (nm.nat hk).2 (no.nat hk).2 (p2 e)];exact C7 _ hs
    exact .inr ⟨n,qm,m0,m1,m2,m3,nm,all 0 A3 a0,all 1 A3 a1,all 2 A3 a2,all 3 A3 a3⟩
  ·have e:res o=o:=dif_neg ex;rw[e];rcases clo o ho with z|⟨n,q,a,b,c,d,nd,h1,h2,h3,h4⟩
   ·exact .inl z
   ·exact .inr ⟨n,q,a,b,c,d,nd,C7 _ h1,C7 _ h2,C7 _ h3,C7 _ h4⟩
 ·exact old hx
def ee(l r h:Int):Nat:=if r<=l then 0 else(if 0<l then 1 else 0)+(if r<h then 1 else 0)
theorem SJ{l r h:Int}(z:r<=l):ee l r h=0:=Z6 z
theorem Qy{l r h:Int}(z:¬r<=l):ee l r h=(if 0<l then 1 else 0)+(if r<h then 1 else 0):=Z5 z
theorem Wj{l r h:Int}(l0:0<=l)(r1:r<=h+h)(hp:0<h):ee (spl l r h 0).1 (spl l r h 0).2 h+ee (spl l r h 1).1 (spl l r h 1).2 h<=ee l r (h+h):=by
 show ee l (if h<r then h else r) h+ee (if l-h<0 then 0 else l-h) (r-h) h<=_;by_cases e:r<=l
 ·rw[SJ (by split<;>lia),SJ (by split<;>lia)];exact F5 _
 rw[Qy e];by_cases a:h<r
 ·rw[Z6 a];by_cases b:l-h<0
  ·rw[Z6 b,Qy A0,Qy A0,Z5 (Int.lt_irrefl h),Z5 (Int.lt_irrefl 0)];have:(if r-h<h then 1 else 0)<=(if r<h+h then 1 else(0:Nat)):=by
    by_cases c:r<h+h
    ·rw[Z6 c];split<;>decide
    ·rw[Z5 c,Z5 A0];decide
   lia
  ·rw[Z5 b,SJ A0,Qy A0,Z6 (show 0<l by lia)];have:(if r-h<h then 1 else 0)<=(if r<h+h then 1 else(0:Nat)):=by
    by_cases c:r<h+h
    ·rw[Z6 c];split<;>decide
    ·rw[Z5 c,Z5 A0];decide
   have:(if 0<l-h then 1 else 0)<=(1:Nat):=by split<;>decide
   lia
 ·rw[Z5 a,Qy e,SJ (l:=if l-h<0 then 0 else l-h) (by split<;>lia),Z6 (show r<h+h by lia)];have:(if r<h then 1 else 0)<=(1:Nat):=by split<;>decide
  lia
theorem spl_hi{l r h:Int}(r1:r<=h+h)(k:Nat):(spl l r h k).2<=h:=by
 match k with
 |0=>show(if h<r then h else r)<=h;split<;>lia
 |k+1=>show r-h<=h;lia
theorem Om{G:Gv}(ok:GOk G){S U:List Nat}{s T:Nat}(s8:s<8)(clo:Clo G S)(cu:Clo G (U++S))(mU:∀o∈S,∀n m,Rw G s T n o m->m∈U):∀{n i o m:Nat}{l r:Int},Sol G s n i->Au G o (n:Int)->o∈S->EZ G n i o l ((T%2^n:Nat):Int) r (((T%2^n:Nat):Int)+1) m->0<=l->r<=2^n->∃X:List Nat,X.length<=ee l r (2^n)*(n+1)/\m∈X++(U++S)/\Clo G (X++(U++S))
 |n,i,o,m,l,r,so,lo,mo,mx,l0,r1=>by
  by_cases em:r<=l
  ·refine⟨[],F5 _,?_,cu⟩;rw[mx.empty ok lo (.inl em)];exact C7 U mo
  by_cases fl:l=0/\r=2^n
  ·refine⟨[],F5 _,M6 S (mU o mo n m ⟨lo,mx.lev,λx y hx hy=>?_⟩),cu⟩;rw[mx.cell x y hx hy];have c:=GS n;by_cases z:y=T%2^n
   ·rw[Z6 A0,Z6 z,MS ok s8 so hx hy]
   ·rw[Z5 A0,Z5 z]
  cases n with
  |zero=>exact absurd ⟨by have:r<=1:=r1;lia,by have:r<=1:=r1;show r=1;lia⟩ fl
  |succ n =>
   have li:=Sol.lev ok s8 so;apply Ay;intro G_ hG_;obtain⟨qm,m0,m1,m2,m3,nm⟩:=AU ok mx.lev;obtain⟨qo,o0,o1,o2,o3,no⟩:=AU ok lo;obtain⟨qi,i0,ni,si⟩:=Sol.node ok s8 so;obtain⟨t1,t2⟩:=UC T n;apply hG_;clear hG_ G_;have e2:(2:Int)^(n+1)=2^n+2^n:=by rw[R4];lia
   have pp:(0:Int)<2^n:=Gu n;have e1:((2^n:Nat):Int)=2^n:=by exact_mod_cast rfl
   have tl:T%2^n<2^n:=L7 _ (Be n);have oS:∀k,k<4->f4 o0 o1 o2 o3 k∈S:=λk hk=>by
    apply Ay;intro G_ hG_;obtain⟨a0,a1,a2,a3⟩:=clo.get ok mo no;apply hG_;clear hG_ G_
    match k,hk with
    |0,_=>exact a0
    |1,_=>exact a1
    |2,_=>exact a2
    |3,_=>exact a3
   have si:∀k,Sol G s n (f4 i0 i0 i0 i0 k):=λk=>by
    unfold f4;split<;>exact si
   have all:∀k,k<4->∃X:List Nat,X.length<=(if k/2=T%2^(n+1)/2^n then ee (spl l r (2^n) (k%2)).1 (spl l r (2^n) (k%2)).2 (2^n)*(n+1)else 0)/\f4 m0 m1 m2 m3 k∈X++(U++S)/\Clo G (X++(U++S)):=λk hk=>by
    have mk:=mx.part ni no nm hk;by_cases e:k/2=T%2^(n+1)/2^n
    ·rw[Z6 e];have er:(spl ((T%2^(n+1):Nat):Int) (((T%2^(n+1):Nat):Int)+1) (2^n) (k/2))=(((T%2^n:Nat):Int),((T%2^n:Nat):Int)+1):=by
      rw[e];generalize T%2^(n+1)/2^n=u at t1 t2⊢
      match u,t2 with
      |0,_ =>
       show(((T%2^(n+1):Nat):Int),(if(2:Int)^n<((T%2^(n+1):Nat):Int)+1 then(2:Int)^n else((T%2^(n+1):Nat):Int)+1))=_;rw[Z5 A0,show T%2^(n+1)=T%2^n by lia]
      |1,_ =>
       show((if((T%2^(n+1):Nat):Int)-2^n<0 then(0:Int)else((T%2^(n+1):Nat):Int)-2^n),((T%2^(n+1):Nat):Int)+1-2^n)=_;rw[Z5 A0,show((T%2^(n+1):Nat):Int)-2^n=((T%2^n:Nat):Int) by lia,show((T%2^(n+1):Nat):Int)+1-2^n=((T%2^n:Nat):Int)+1 by lia]
     rw[er]at mk;exact Om ok s8 clo cu mU (si k) (no.nat hk).2 (oS k hk) mk (spl_nn l0 _) (spl_hi A0 _)
    ·rw[Z5 e];refine⟨[],B1 _,?_,cu⟩;rw[mk.empty ok (no.nat hk).2 (.inr ?_)]
     ·exact C7 U (oS k hk)
     ·have k2:k/2<2:=by lia
      generalize T%2^(n+1)/2^n=u at t1 t2 e;generalize k/2=v at e k2
      match v,u,k2,t2 with
      |0,0,_,_=>exact absurd rfl e
      |1,1,_,_=>exact absurd rfl e
      |0,1,_,_ =>
       show(if(2:Int)^n<((T%2^(n+1):Nat):Int)+1 then(2:Int)^n else((T%2^(n+1):Nat):Int)+1)<=((T%2^(n+1):Nat):Int)
       split<;>lia
      |1,0,_,_ =>
       show((T%2^(n+1):Nat):Int)+1-2^n<=(if((T%2^(n+1):Nat):Int)-2^n<0 then(0:Int)else((T%2^(n+1):Nat):Int)-2^n)
       split<;>lia
   obtain⟨T0,l0',h0,c0⟩:=all 0 A3;obtain⟨T1,l1',h1,c1⟩:=all 1 A3;obtain⟨T2,l2',h2,c2⟩:=all 2 A3;obtain⟨T3,l3',h3,c3⟩:=all 3 A3;clear all;rw[show(0%2:Nat)=0 from rfl,show(0/2:Nat)=0 from rfl]at l0';rw[show(1%2:Nat)=1 from rfl,show(1/2:Nat)=0 from rfl]at l1';rw[show(2%2:Nat)=0 from rfl,show(2/2:Nat)=1 from rfl]at l2';rw[show(3%2:Nat)=1 from rfl,show(3/2:Nat)=1 from rfl]at l3';have sp:=Wj (l:=l) (r:=r) (h:=2^n) l0 A0 pp;rw[<-e2]at sp;have pos:1<=ee l r (2^(n+1)):=by
    unfold ee;rw[Z5 em];by_cases z:0<l
    ·rw[Z6 z];lia
    ·rw[Z6 (show r<2^(n+1) by
      have:¬r=2^(n+1):=λq=>fl ⟨by lia,q⟩;lia)]
     lia
   generalize ee (spl l r (2^n) 0).1 (spl l r (2^n) 0).2 (2^n)=a at *
   generalize ee (spl l r (2^n) 1).1 (spl l r (2^n) 1).2 (2^n)=b at *
   generalize ee l r (2^(n+1))=A at *
   have sum:T0.length+T1.length+T2.length+T3.length<=a*(n+1)+b*(n+1):=by
    generalize T%2^(n+1)/2^n=u at *
    match u,t2 with
    |0,_ =>
     rw[Z6 rfl]at l0' l1';rw[Z5 A3]at l2' l3';lia
    |1,_ =>
     rw[Z5 A3]at l0' l1';rw[Z6 rfl]at l2' l3';lia
   have up:(a+b)*(n+1)<=A*(n+1):=Nat.mul_le_mul_right _ sp;rw[Nat.add_mul]at up;have up2:A*(n+1+1)=A*(n+1)+A:=Nat.mul_succ _ _;generalize U++S=W at *
   exact⟨m::(T0++(T1++(T2++T3))),by simp only[C4,B5];lia,by simp,Wr nm cu c0 c1 c2 c3 h0 h1 h2 h3⟩
theorem We{G:Gv}(ok:GOk G){S:List Nat}(clo:Clo G S)(hb:∀j,j<=48->bareN j∈S){n i o m s:Nat}{l t r:Int}(s8:s<8)(so:Sol G s n i)(lo:Au G o (n:Int))(mo:o∈S)(mx:EZ G n i o l t r (t+1) m)(l0:0<=l)(r1:r<=2^n)(t0:0<=t)(t1:t<2^n)(hn:n<=49):FS G m (2*S.length+100):=by
 apply Ay;intro G_ hG_;obtain⟨U,u1,u2,u3⟩:=row_set ok clo s t.toNat;apply hG_;clear hG_ G_;have et:t=((t.toNat%2^n:Nat):Int):=by
  have c:=GS n;rw[V4 A0];lia
 rw[et]at mx;apply Ay;intro G_ hG_;obtain⟨X,h1,h2,h3⟩:=Om ok s8 clo u2 u3 so lo mo mx l0 r1;apply hG_;clear hG_ G_;refine⟨X++(U++S),h2,λj hj=>C7 _ (C7 _ (hb j hj)),h3,?_⟩;rw[B5,B5];have:ee l r (2^n)<=2:=by
  unfold ee
  repeat' split
  all_goals lia
 have:ee l r (2^n)*(n+1)<=2*50:=Nat.mul_le_mul this A0;lia
seal L2.PA L2.PE L2.PS L2.PSs L2.PT L2.PW
theorem Ul{G r:Gv}(e0:G=G0++r)(ok:GOk G){n j w:Nat}(hn:n+j<=46)(lb:Au G (bareN (n+1)) ((n+1:Nat):Int))(wi:MW G n (bareN (n+1)) j w)(lw:Au G w ((n+j+1:Nat):Int)):w=bareN (n+j+1):=by
 refine Ev ok lw (DP e0 A0) λx y hx hy=>?_;rw[Gd e0 ok A0 hx hy];have c:=GS (n+j);have s:=NP (n+j);have e:=IU e0 ok A0 wi ((x:Int)-2^(n+j)) ((y:Int)-2^(n+j));unfold fieldF at e;rw[Z6 ⟨by lia,by lia,by lia,by lia⟩,show((x:Int)-2^(n+j)+2^(n+j)).toNat=x by lia,show((y:Int)-2^(n+j)+2^(n+j)).toNat=y by lia]at e;rw[e];split
 ·rename_i z;exact Gd e0 ok A0 (Ei z.1 z.2.1) (Ei z.2.2.1 z.2.2.2)
 ·rfl
section
variable{P:Program}{w:World}{K:W.Frag}{mg:Str->Option Value}{base:Heap}{a:Ad}
inductive WM(a:Ad)(vs:List V)(H:Hp)(Q:VK):Prop
 |mk (g:GA) (G:Gv) (f n:Nat) (t:Addr) (x y wd ht:Int) (s B C:Nat) (_:vs=[.ref g.p,.int f,.ref t,.int s]) (_:Bs a H g G) (_:Au G f ((n+1:Nat):Int)) (_:n<=40) (_:WF G n f) (_:H t=some (.tup [.int x,.int y,.int wd,.int ht])) (_:0<=wd) (_:0<=ht) (_:(0<wd->0<ht->Ep x y wd ht (2^40))) (_:s<8) (_:FS G f B) (_:(f=bareN (n+1)/\900<=C)\/17*B+4000<=C\/(ht=1/\2*B+700<=C)) (_:B<=200000) (_:G.length+16*B<7500000) (_:∀(r m:Nat)(G':Gv)(H':Hp),Fr g H H'->Bs a H' g G'->AV G G' (16*B+4000)->Au G' r ((m+1:Nat):Int)->m<=40->WF G' m r->(∀u v,fieldF G' m r u v=if InB x y wd ht u v then s else fieldF G n f u v)->FS G' r C->Q (.int r) H'):WM a vs H Q
def QZ(a:Ad):Sp:=λvs H Q _=>WM a vs H Q
theorem ok_fill{f:Addr}{fd:FuncData}(F:Fun K "filled" "filled" Js f fd)(T:Top K mg a)(aU:Cal P w K mg base CX0 1 "check_box" Fo Sj)(aB:Cal P w K mg base CX0 1 "lies_within" CN PK)(aJ:Cal P w K mg base CX0 2 "is_state" EM UR)(aG:Cal P w K mg base CX0 5 "widened_over" Dm (spWO a))(aK:CS P w K mg base CX0 4 a.c_Grove "solid" DK (LO a))(a5:CS P w K mg base CX0 3 a.c_Grove "level_of" AH (Fe a))(bD:Cal P w K mg base CX0 5 "part_in" IE (spPI a))(bI:Cal P w K mg base CX0 102 "mixed" Gz (NN a P w 50))(bC:Cal P w K mg base CX0 4 "trimmed" IC (OA a)):AO P w K mg base CX0 103 f fd JA (QZ a):=by
 refine F.ok Da (λvs H Q E h=>?_) (λcdv A outer s H vs Q E hr h=>?_)
 ·obtain⟨g,G,f',n,t,x,y,wd,ht,st,B,C,rfl,_⟩:=h;rfl
 ·obtain⟨g,G,f',n,t,x,y,wd,ht,st,B,C,rfl,fu,lf,n40,tr,hb,w0,h0,far,s8,fs,hC,B2,few,k⟩:=h;refine⟨_,(Ab (Co (Aq aU (rm hr) rfl Ar (Aa (pv 2) Ac))) (Ab (Ah (i:=4) Da.nd rfl (Or.inl rfl) (Eb (Bv DM (At Az (pv 2) Ae (λ_ _=>rfl)) Ae (An _)) (FJ (Bv DM (At Az (pv 2) Ae (λ_ _=>rfl)) Ae (An _))))) (Ab (AB (PW.pt (Je (AZ (pv 4)) (Gs (Bp (AZ (Aq aB (rm hr) rfl Ar (Aa (pv 2) (Aa (Ct rfl T.k_LIMIT) Ac)))))))) (Af Cy) Ap) (Ab (AB (Bp (AZ (Aq aJ (rm hr) rfl Ar (Aa (pv 3) Ac)))) (Af Cy) Ap) (Ab (AB (Bp (AZ (pv 4))) (Af (Am (pv 1))) Ap) (Ab (Ah (i:=5) Da.nd rfl (Or.inl rfl) (Aq aG (rm hr) rfl Ar (Aa (pv 0) (Aa (pv 1) (Aa (pv 2) Ac))))) (Ab (Ah (i:=6) Da.nd rfl (Or.inl rfl) (AK (pv 0) aK (rm hr) Ar (Aa (AK (pv 0) a5 (rm hr) Ar (Aa (pv 5) Ac)) (Aa (pv 3) Ac)))) (Af (Am (Aq bC (rm hr) rfl Ar (Aa (pv 0) (Aa (Aq bI (rm hr) rfl Ar (Aa (pv 0) (Aa (pv 6) (Aa (pv 5) (Aa (Aq bD (rm hr) rfl Ar (Aa (pv 0) (Aa (pv 5) (Aa (pv 2) Ac)))) (Aa (PX (sh:=[false,false,true])) Ac)))))) Ac)))))))))))),?_⟩
  try dsimp only[cxK]
  refine xq1 rfl ⟨t,x,y,wd,ht,rfl,hb,w0,h0,?_⟩;refine ev_val (t:=tAndV (tOp (rI0 λi j=>V.bl (decide (j<i))) (tOp (PV K) (PF 2) (tC (V.int 2))) (tC (V.int 0))) (tOp (rI0 λi j=>V.bl (decide (j<i))) (tOp (PV K) (PF 2) (tC (V.int 3))) (tC (V.int 0)))) (λv H1=>v=.bl (decide (0<wd) && decide (0<ht))/\H=H1) (λQ' q'=>?_) ?_
  ·refine xwi rfl rfl rfl (SqT.of hb) (Ai (j:=2) rfl) (xq2 rfl rfl (xq1 rfl ?_));revert q';generalize decide ((0:Int)<wd)=b1;cases b1
   ·intro q';exact AE (q' _ _ ⟨rfl,rfl⟩)
   ·intro q';exact AI (xwi rfl rfl rfl (SqT.of hb) (Ai (j:=3) rfl) (xq2 rfl rfl (q' _ _ ⟨rfl,rfl⟩)))
  rintro v H1 ⟨rfl,rfl⟩;by_cases hp:0<wd/\0<ht
  ·have li:=far hp.1 hp.2;rw[Z3 hp.1,Z3 hp.2];refine xq1 rfl ⟨true,rfl,AI (xq1 rfl ⟨t,x,y,wd,ht,2^40,rfl,hb,(xq1 rfl ?_)⟩)⟩;rw[Z3 li];refine AE (xq1 rfl ⟨(st:Int),rfl,by lia,by lia,true,rfl,AE (xq1 rfl ⟨true,rfl,AE ?_⟩)⟩);refine xw3 rfl rfl rfl ⟨g,G,f',n,t,x,y,wd,ht,rfl,fu,lf,n40,hb,li,by lia,λj w' G1 H1 fr1 fu1 go1 nk wi lw liw _=>?_⟩;have g1:=go1.few;have ft1:H1 t=some (.tup [.int x,.int y,.int wd,.int ht]):=fr1.tup fu.at' hb;obtain⟨qw,ew,elw⟩:=id lw;refine xq1 rfl ⟨g.p,g.dx,(xq1 rfl ⟨fu1.at'.hp,VB g,(xq1 rfl ⟨g.p,g.dx,(xq1 rfl ⟨fu1.at'.hp,BL g,(xq1 rfl ⟨g,G1,w',qw,rfl,fu1.at',ew,(xq1 rfl ?_)⟩)⟩)⟩)⟩)⟩;refine⟨g,G1,n+j+1,st,by rw[elw];rfl,fu1.at',fu1.ok,by lia,s8,by lia,λi G2 H2 fr2 hg2 go2 so2=>?_⟩;have fu2:=fu1.fr fr2 hg2 go2;have g2:=go2.few;have ft2:H2 t=some (.tup [.int x,.int y,.int wd,.int ht]):=fr2.tup fu1.at' ft1;have lw2:=go2.lev lw;refine xw3 rfl rfl rfl (xw3 rfl rfl rfl (xq1 rfl ⟨g,G2,w',n+j,t,x,y,wd,ht,rfl,fu2,lw2,by lia,ft2,λtp H3 s3 htp=>?_⟩));rw[Wt (by unfold Ep at liw;lia),Wt (by unfold Ep at liw;lia),Ws (by unfold Ep at liw;lia),Ws (by unfold Ep at liw;lia)]at htp;intro kn H4 hkn s4 na;have fu4:=(fu2.same s3).same s4;have htp4:=s4 _ _ htp;have nkn:H kn=none:=by
    cases e:H kn with
    |none=>rfl
    |some oo =>
     have z:kn=g.lv\/kn=g.pt\/kn=g.nm:=by
      refine A3c λz=>?_;have q1:=fr1 _ _ e (λq=>z (.inl q)) (λq=>z (.inr (.inl q))) (λq=>z (.inr (.inr q)));have q2:=fr2 _ _ q1 (λq=>z (.inl q)) (λq=>z (.inr (.inl q))) (λq=>z (.inr (.inr q)));rw[s3 _ _ q2]at hkn;cases hkn
     have w3:=(fu2.same s3).nw;obtain⟨o1,e1⟩:=w3.s kn (by simp[Ds];lia);rw[hkn]at e1;cases e1
   have kg:kn∉Ds g:=λz=>by
    obtain⟨o1,e1⟩:=(fu2.same s3).nw.s kn z;rw[hkn]at e1;cases e1
   obtain⟨r0,e0⟩:=fu4.g0;obtain⟨S,m1,m2,clo,lS,lC⟩:∃S:List Nat,w'∈S/\(∀j,j<=48->bareN j∈S)/\Clo G2 S/\S.length<=B+200/\(17*S.length+50<=C\/(ht=1/\2*S.length+150<=C)):=by
    rcases hC with ⟨rfl,hC⟩|hC
    ·have e1:=A2c fu1.g0;have eb:=Ul e1 fu1.ok A0 (DP e1 (n:=n+1) A0) wi lw;obtain⟨S,h1,h2,h3,h4⟩:=((Pq e1 fu1.ok (j:=n+j+1) A0).app go2).ex;obtain⟨S0,q1,q2,q3,q4⟩:=fs.ex;exact⟨S,by rw[eb];exact h1,h2,h3,by lia,.inl A0⟩
    ·obtain⟨S,h1,h2,h3,h4⟩:=(((FS.widN (n:=n) (B:=B) (f:=f') (A2c fu1.g0) fu1.ok (fs.app go1) A0 wi)).app go2).ex;exact⟨S,h1,h2,h3,by lia,hC.imp (λz=>by lia) (λz=>by lia)⟩
   have p2:=Gu (n+j);have e2:(2:Int)^(n+j+1)=2^(n+j)+2^(n+j):=by rw[R4];lia
   have liw':=liw;unfold Ep at liw';have sx:IM (x+2^(n+j)) (x+2^(n+j)+wd) (n+j+1) (x+2^(n+j)) (x+2^(n+j)+wd):=IM.top A0 A0 A0;have sy:IM (y+2^(n+j)) (y+2^(n+j)+ht) (n+j+1) (y+2^(n+j)) (y+2^(n+j)+ht):=IM.top A0 A0 A0;refine⟨g,G2,⟨st,S,x+2^(n+j),x+2^(n+j)+wd,y+2^(n+j),y+2^(n+j)+ht,false⟩,kn,tp,[],i,w',n+j+1,x+2^(n+j),y+2^(n+j),x+2^(n+j)+wd,y+2^(n+j)+ht,rfl,fu4,na,kg,htp4,kok0 _ _,clo,s8,⟨Sol.lev fu2.ok s8 so2,lw2,so2,m1⟩,by lia,by lia,⟨by lia,by lia,by lia,by lia⟩,λ_=>sx,λ_=>sy,⟨by show G2.length+16*S.length<8000000+0;lia,by show 16*S.length<4000000;lia⟩,λm G5 kvs5 H5 x5 fu5 na5 kok5 le5 go5 un5 mx5=>?_⟩;have l5:=kok5.len fu5.ok;have l5:kvs5.length<=16*S.length:=l5;have g5:=go5.few;have g5:G5.length<=G2.length+(kvs5.length-0):=g5;refine⟨g,G5,m,n+j,rfl,fu5,mx5.lev,by lia,λr G6 H6 fr6 fu6 go6 tr6=>?_⟩;have g6:=go6.few;obtain⟨r6,e6⟩:=fu6.g0;obtain⟨m6,hm6,lm6,tm6,em6⟩:=Mf e6 fu6.ok A0 (go6.lev mx5.lev) tr6;have go26:AV G2 G6 (kvs5.length-0+48):=go5.trans go6;have goA:AV G G6 (16*B+4000):=((go1.trans go2).trans go26).mono A0;have md:RT G5 ⟨st,S,x+2^(n+j),x+2^(n+j)+wd,y+2^(n+j),y+2^(n+j)+ht,false⟩ m:=⟨_,n+j+1,i,w',_,_,_,_,⟨rfl,⟨go5.lev (Sol.lev fu2.ok s8 so2),go5.lev lw2,Sol.goes go5 so2,m1⟩,mx5,sx,sy⟩⟩
   have fs5:=fs_mix fu5.ok (clo.app go5) m2 md s8 (λz=>nomatch z);have fs5:FS G5 m (C-50):=by
    rcases lC with lC|lC
    ·exact FS.mono fs5 (show 17*S.length<=C-50 by lia)
    ·obtain⟨h1,lC⟩:=lC;subst h1;exact(We fu5.ok (clo.app go5) m2 s8 (Sol.goes go5 so2) (go5.lev lw2) m1 mx5 A0 A0 A0 A0 A0).mono A0
   refine k r m6 G6 H6 ?_ fu6 goA lm6 A0 tm6 (λu v=>?_) (((fs5.app go6).trim fu6.ok tr6).mono A0)
   ·intro bb oo e n1 n2 n3;have q1:=fr2 _ _ (fr1 _ _ e n1 n2 n3) n1 n2 n3;have q2:=s4 _ _ (s3 _ _ q1);have q3:=x5.get (b:=bb) (by
     simp only[frM,B7,D8,K7,A5g];exact⟨n1,n2,n3,λz=>by rw[z,nkn]at e;cases e⟩) q2
    exact fr6 _ _ q3 n1 n2 n3
   ·obtain⟨ra,ea⟩:=fu1.g0;rw[em6 u v,II fu5.ok go6 mx5.lev,TB fu5.ok s8 (Sol.goes go5 so2) liw mx5,II fu2.ok go5 lw2,II fu1.ok go2 lw,IU ea fu1.ok A0 wi,II fu.ok go1 lf]
  ·have e:(decide (0<wd) && decide (0<ht))=false:=by
    by_cases z:0<wd
    ·rw[Z4 (λq=>hp ⟨z,q⟩),Bool.and_false]
    ·rw[Z4 z,Bool.false_and]
   rw[e];refine xq1 rfl ⟨false,rfl,AE (AE (xq1 rfl ⟨(st:Int),rfl,by lia,by lia,true,rfl,AE (xq1 rfl ⟨false,rfl,AI (xq1 rfl ?_)⟩)⟩))⟩;have fsC:FS G f' C:=by
    rcases hC with ⟨rfl,hC⟩|hC
    ·exact(Pq (A2c fu.g0) fu.ok A0).mono A0
    ·exact fs.mono (by rcases hC with hC|hC<;>lia)
   refine k f' n G H (Fr.refl g H) fu ((AV.refl fu.ok).mono A0) lf n40 tr (λu v=>?_) fsC;rw[Z5];unfold InB;lia
end
section
variable{P:Program}{w:World}{K:W.Frag}{mg:Str->Option Value}{base:Heap}{a:Ad}
inductive SpWhI(vs:List V)(H:Hp)(Q:VK):Prop
 |mk (i:Int) (_:vs=[.int i]) (_:Q (.bl true) H):SpWhI vs H Q
def Sg:Sp:=λvs H Q _=>SpWhI vs H Q
theorem ok_whi{f:Addr}{fd:FuncData}(F:Fun K "_law_whole" "_law_whole" Gm f fd)(T:Top K mg a):AO P w K mg base CX0 1 f fd Ek Sg:=by
 refine F.ok Na (λvs H Q E h=>?_) (λcdv A outer s H vs Q E hr h=>?_)
 ·obtain⟨i,rfl,_⟩:=h;rfl
 ·obtain⟨i,rfl,k⟩:=h;refine⟨_,(Af (Am (Eb (As AS rfl T.b_isinstance Z7 (Aa (pv 0) (Aa (CT (v:=.ty "int") rfl T.b_int A0b rfl) Ac))) (FJ (Vi (As AS rfl T.b_isinstance Z7 (Aa (pv 0) (Aa (CT (v:=.ty "bool") rfl T.b_bool PyProof.Rows.boot_bool rfl) Ac)))))))),?_⟩
  try dsimp only[cxK]
  exact xq1 rfl ⟨_,_,_,.type "int",true,rfl,rfl,.of (.int i),(Sz K).1,true,rfl,AI (xq1 rfl ⟨_,_,_,.type "int",false,rfl,rfl,.of (.int i),(Sz K).2,false,rfl,k⟩)⟩
inductive WK(vs:List V)(H:Hp)(Q:VK):Prop
 |mk (c k:Int) (_:vs=[.int c,.int k]) (_:0<=k) (_:k<=1000) (_:∀v:Int,Q (.int v) H):WK vs H Q
def QX:Sp:=λvs H Q _=>WK vs H Q
theorem ok_lmix{f:Addr}{fd:FuncData}(F:Fun K "_law_mix" "_law_mix" Jd f fd)(T:Top K mg a):AO P w K mg base CX0 1 f fd Jg QX:=by
 refine F.ok GW (λvs H Q E h=>?_) (λcdv A outer s H vs Q E hr h=>?_)
 ·obtain⟨c,k,rfl,_⟩:=h;rfl
 ·obtain⟨c,k,rfl,k0,k1,q⟩:=h;refine⟨_,(Ab (Ah (i:=2) GW.nd rfl (Or.inl rfl) (Ao AR (Ao AR (Ao Ba (pv 0) Ae) (Ao ET Ae (pv 1))) Ae)) (Ab (Ah (i:=2) GW.nd rfl (Or.inl rfl) (Ao Ba (Ao ET (pv 2) (Ao AR Ae (Ao ET Ae (pv 1)))) Ae)) (Af (Am (Ao Ba (Ao ET (Ao AR (Ao Bf (pv 2) Ae) (Ao ET (pv 2) Ae)) Ae) Ae))))),?_⟩
  try dsimp only[cxK]
  refine xwb rfl rfl rfl ⟨A7,(xwb rfl rfl rfl ⟨.inl ⟨by decide,by decide⟩,(xq2 rfl rfl (xq2 rfl rfl ?_))⟩)⟩;refine xw2 rfl rfl (xq2 rfl rfl ⟨.inl ⟨by decide,by decide⟩,(xq2 rfl rfl (xq2 rfl rfl ⟨.inr ⟨by lia,by lia⟩,(xq2 rfl rfl ⟨A7,?_⟩)⟩))⟩);exact xwb rfl rfl rfl ⟨⟨by decide,by decide⟩,(xwb rfl rfl rfl ⟨.inr ⟨by decide,by decide⟩,(xq2 rfl rfl (xq2 rfl rfl ⟨.inr ⟨by decide,by decide⟩,(xq2 rfl rfl ⟨A7,q _⟩)⟩))⟩)⟩
end
end J
namespace J
open PySem L2
structure Vl(G:Gv)(f:Nat)(φ:Int->Int->Nat)(B:Nat):Prop where
 ex:∃n:Nat,(Au G f ((n+1:Nat):Int)/\WF G n f/\n<=40)/\∀u v,fieldF G n f u v=φ u v
 fs:FS G f B
structure Bo where
 x:Int
 y:Int
 wd:Int
 ht:Int
def BoAt(H:Hp)(t:Addr)(q:Bo):Prop:=H t=some (.tup [.int q.x,.int q.y,.int q.wd,.int q.ht])
def TZ(q:Bo)(s:Nat)(φ:Int->Int->Nat)(u v:Int):Nat:=if InB q.x q.y q.wd q.ht u v then s else φ u v
section
variable{P:Program}{w:World}{K:W.Frag}{mg:Str->Option Value}{base:Heap}{a:Ad}
theorem fill_s{g:GA}{G:Gv}{H:Hp}{Q:VK}{E:XK}{f s B C:Nat}{φ:Int->Int->Nat}{t:Addr}{q:Bo}(fu:Bs a H g G)(h:Vl G f φ B)(hb:BoAt H t q)(w0:0<=q.wd)(h0:0<=q.ht)(far:0<q.wd->0<q.ht->Ep q.x q.y q.wd q.ht (2^40))(s8:s<8)(hq1:q.ht=1)(hC:2*B+700<=C)(hB:B<=200000)(few:G.length+16*B<7500000)(k:∀(r:Nat)(G':Gv)(H':Hp),Fr g H H'->Bs a H' g G'->AV G G' (16*B+4000)->Vl G' r (TZ q s φ) C->Q (.int r) H'):QZ a [.ref g.p,.int f,.ref t,.int s] H Q E:=by
 obtain⟨n,⟨h1,h2,h3⟩,h4⟩:=h.ex;refine⟨g,G,f,n,t,q.x,q.y,q.wd,q.ht,s,B,C,rfl,fu,h1,h3,h2,hb,w0,h0,far,s8,h.fs,.inr (.inr ⟨hq1,hC⟩),hB,few,λr m G' H' fr fu' go lr m40 tr e fs=>k r G' H' fr fu' go ⟨⟨m,⟨lr,tr,m40⟩,λu v=>?_⟩,fs⟩⟩;rw[e u v];unfold TZ;split
 ·rfl
 ·exact h4 u v
end
def FrD(g:GA)(d:Addr)(H H':Hp):Prop:=∀b o,H b=some o->b≠g.lv->b≠g.pt->b≠g.nm->b≠d->H' b=some o
structure RQ(a:Ad)(H:Hp)(g:GA)(d:Addr):Prop where
 am:d≠g.am
 bx:d≠g.bx
theorem Bs.frD{a:Ad}{H H':Hp}{g:GA}{G G':Gv}{m:Nat}{d:Addr}{ks:List (Key×V)}(h:Bs a H g G)(hd:H d=some (.dK ks))(od:RQ a H g d)(f:FrD g d H H')(at2:AX a H' g G')(go:AV G G' m):Bs a H' g G':=by
 obtain⟨at',ok,⟨r,g0⟩,br,⟨ks,h1,h2⟩,⟨ks',h3,h4⟩,n1,n2,n3⟩:=h;obtain⟨us,hp,_⟩:=at'.pt;have keep:∀{b:Addr}{o:HO},H b=some o->(∀l,o≠.lst l)->(∀l,o≠.dT l)->b≠d->H' b=some o:=λ{b o} e z1 z2 z3=>f _ _ e (Bc e at'.lv (z1 _)) (Bc e hp (z1 _)) (Bc e at'.nm (z2 _)) z3;obtain⟨t,et⟩:=go.pre;refine⟨at2,go.ok,⟨r++t,by rw[et,g0,M4]⟩,f _ _ br n1 n2 (Bc br at'.nm A4) (Bc br hd A4),⟨ks,keep h1 (by intro l z;cases z) (by intro l z;cases z) (X5 od.am),h2.app ok go⟩,⟨ks',keep h3 (by intro l z;cases z) (by intro l z;cases z) (X5 od.bx),h4.keys.app go.le,λi v e=>?_⟩,n1,n2,n3⟩;obtain⟨l,b,t,e1,e2,e3,e4⟩:=h4.val i v e;exact⟨l,b,t,go.lev e1,by rw[Gf ok go l i e1];exact e2,e3,keep e4 (by intro l z;cases z) (by intro l z;cases z) (Bc e4 hd A4)⟩
section
variable{P:Program}{w:World}{K:W.Frag}{mg:Str->Option Value}{base:Heap}{a:Ad}
end
structure Fd(G:Gv)(n f:Nat):Prop where
 lev:Au G f ((n+1:Nat):Int)
 tr:WF G n f
 le:n<=40
section
variable{P:Program}{w:World}{K:W.Frag}{mg:Str->Option Value}{base:Heap}{a:Ad}
end
seal L2.PA L2.PE L2.PS L2.PSs L2.PT L2.PW
def FrO(d:Addr)(H H':Hp):Prop:=∀b o,H b=some o->b≠d->H' b=some o
theorem FrO.refl(d:Addr)(H:Hp):FrO d H H:=λ_ _ e _=>e
theorem FrO.trans{d:Addr}{H1 H2 H3:Hp}(h:FrO d H1 H2)(h2:FrO d H2 H3):FrO d H1 H3:=λb o e n=>h2 b o (h b o e n) n
theorem Aw.frO{d:Addr}{H1 H2:Hp}(h:Aw H1 H2):FrO d H1 H2:=λb o e _=>h b o e
theorem FrO.up{d:Addr}{H:Hp}{o:HO}:FrO d H (upd H d o):=λb u e n=>by rw[AD n];exact e
theorem Bs.frO{a:Ad}{H H':Hp}{g:GA}{G:Gv}{d:Addr}{ks:List (Key×V)}(h:Bs a H g G)(hd:H d=some (.dK ks))(od:RQ a H g d)(f:FrO d H H'):Bs a H' g G:=by
 obtain⟨us,hp,hps⟩:=h.at'.pt;have nd:∀{b:Addr}{o:HO},H b=some o->(∀l,o≠.dK l)->H' b=some o:=λ{b o} e z=>f _ _ e (Bc e hd (z _));refine h.frD hd od (λb u e n1 n2 n3 n4=>f b u e n4) ⟨nd h.at'.hp (by intro l z;cases z),nd h.at'.lv (by intro l z;cases z),⟨us,nd hp (by intro l z;cases z),PairedM.imp (λt q e=>nd e (by intro l z;cases z)) hps⟩,nd h.at'.nm (by intro l z;cases z),h.at'.ne⟩ (AV.refl h.ok)
structure GU(G:Gv)(ks:List (Key×V)):Prop where
 keys:Fa G ks
 val:∀(i:Nat) v,BR ks (Sum.inl (i:Int))=some v->∃l:Nat,Au G i (l:Int)/\v=.int (Bl G l i)
theorem GU.put{G:Gv}{ks:List (Key×V)}(h:GU G ks){i l:Nat}(hl:Au G i (l:Int)):GU G (Dg ks (Sum.inl (i:Int)) (.int (Bl G l i))):=⟨h.keys.put hl.lt _,λj v e=>by
 rw[Md]at e;split at e
 ·rename_i hj;cases e;injection hj with hj
  have:j=i:=by lia
  subst this;exact⟨l,hl,rfl⟩
 ·exact h.val j v e⟩
theorem GU.nil{G:Gv}:GU G []:=⟨⟨by simp,λk hk=>by simp at hk⟩,λi v e=>by cases e⟩
section
variable{P:Program}{w:World}{K:W.Frag}{mg:Str->Option Value}{base:Heap}{a:Ad}
inductive SpLC(a:Ad)(n:Nat)(vs:List V)(H:Hp)(Q:VK):Prop
 |mk (g:GA) (G:Gv) (i l:Nat) (d:Addr) (ks:List (Key×V)) (_:vs=[.ref g.p,.int i,.ref d]) (_:Bs a H g G) (_:Au G i (l:Int)) (_:l<n) (_:H d=some (.dK ks)) (_:RQ a H g d) (_:GU G ks) (_:G.length<9000000) (_:∀(ks':List (Key×V))(H':Hp),FrO d H H'->Bs a H' g G->H' d=some (.dK ks')->GU G ks'->Q (.int (Bl G l i)) H'):SpLC a n vs H Q
def QY(a:Ad)(n:Nat):Sp:=λvs H Q _=>SpLC a n vs H Q
theorem ok_lc{f:Addr}{fd:FuncData}(F:Fun K "_law_count" "_law_count" Ej f fd)(T:Top K mg a)(hm:mg "_law_count" = some (.ref f))(Bi:CD K fd BX [])(a5:CS P w K mg base CX0 3 a.c_Grove "level_of" AH (Fe a))(a9:CS P w K mg base CX0 4 a.c_Grove "state_of" Cd (PJ a))
  (a7:CS P w K mg base CX0 4 a.c_Grove "quarters" BP (NM a)):∀n,AO P w K mg base CX0 (n+5) f fd BX (QY a n)
 |0=>by
  refine F.ok IP (λvs H Q E h=>?_) (λcdv A outer s H vs Q E hr h=>?_)
  ·apply Ay;intro G_ hG_;obtain⟨g,G,i,l,d,ks,rfl,_,_,h0,_⟩:=h;apply hG_;clear hG_ G_;exact absurd h0 (M0 _)
  ·apply Ay;intro G_ hG_;obtain⟨g,G,i,l,d,ks,rfl,_,_,h0,_⟩:=h;apply hG_;clear hG_ G_;exact absurd h0 (M0 _)
 |n+1=>by
  have aA:Cal P w K mg base CX0 (n+5) "_law_count" BX (QY a n):=⟨f,fd,ok_lc F T hm Bi a5 a9 a7 n,hm,F.kp,Bi⟩
  refine F.ok IP (λvs H Q E h=>?_) (λcdv A outer s H vs Q E hr h=>?_)
  ·apply Ay;intro G_ hG_;obtain⟨g,G,i,l,d,ks,rfl,_⟩:=h;apply hG_;clear hG_ G_;rfl
  ·apply Ay;intro G_ hG_;obtain⟨g,G,i,l,d,ks,rfl,fu,hl,ln,hd,od,co,few,k⟩:=h;obtain⟨q0,eq0,l0⟩:=id hl;apply hG_;clear hG_ G_;refine⟨_,(Ab (AB (pt_cmp (Tm (MK hr) (pv 1) (pv 2))) (Af (AB (Ak Bg (AK (pv 0) a5 (rm hr) Ar (Aa (pv 1) Ac)) Ae (An _)) (Af (LR (MK hr) (pv 2) (pv 1) (Ck Uh rfl T.b_int A0b (Aa (Bv DM (AK (pv 0) a9 (rm hr) Ar (Aa (pv 1) Ac)) Ae (An _)) Ac)) rfl)) (Af (LR (MK hr) (pv 2) (pv 1) (As (QF rfl) rfl T.b_sum PyProof.Rows.boot_sum (Aa (LT rfl (Eh.of (So:=Aj Ej) (No:=JE) (N:=["_law_one","_law_grove","_law_known"]) (k:=1) (cs:=[0,2]) rfl rfl A1) (Vg (AK (pv 0) a7 (rm hr) Ar (Aa (pv 1) Ac))) (λ_ _ _=>(Ie (i:=0) A1 rfl rfl)) (λ_ _ _=>Jv) (λ_ _ _=>(Aq aA (rm hr) rfl Ar (Aa (pv 1) (Aa (pv 0) (Aa (pv 2) Ac)))))) Ac)) rfl)))) Ap) (Af (Am (pe_dget (MK hr) (pv 2) (pv 1) (λ_ _=>rfl))))),?_⟩
   try dsimp only[cxK]
   refine xw2 rfl rfl ⟨d,(xq1 rfl ⟨IN.k (k:=Sum.inl (i:Int)) hd,?_⟩)⟩;cases ev:BR ks (Sum.inl (i:Int))with
   |some v =>
    obtain⟨l',hl',rfl⟩:=co.val i v ev;have el:l'=l:=X7 (hl'.uniq hl);subst el;refine xq1 rfl (AE (xw2 rfl rfl ⟨d,(xq1 rfl ⟨by rw[<-ev];exact IN.k (k:=Sum.inl (i:Int)) hd,k ks H (FrO.refl d H) fu hd co⟩)⟩))
   |none =>
    refine xq1 rfl (AI (xq1 rfl ⟨g.p,g.dx,(xq1 rfl ⟨fu.at'.hp,BL g,(xq1 rfl ⟨g,G,i,q0,rfl,fu.at',eq0,rfl,(xq1 rfl ?_)⟩)⟩)⟩));have klen:=co.keys.len;have fin:∀(ks2:List (Key×V))(H2:Hp),FrO d H H2->H2 d=some (.dK ks2)->GU G ks2->∃(a1:Addr)(v:V),V.ref d=.ref a1/\IN (upd H2 d (.dK (Dg ks2 (Sum.inl (i:Int)) (.int (Bl G l i))))) a1 (.int (i:Int)) (some v)/\Q v (upd H2 d (.dK (Dg ks2 (Sum.inl (i:Int)) (.int (Bl G l i))))):=by
     intro ks2 H2 fr hd2 co2;have fr3:FrO d H (upd H2 d (.dK (Dg ks2 (Sum.inl (i:Int)) (.int (Bl G l i))))):=fr.trans FrO.up;refine⟨d,(xq1 rfl ⟨?_,k _ _ fr3 (fu.frO hd od fr3) Ag (co2.put hl)⟩)⟩;have:=IN.k (H:=upd H2 d (.dK (Dg ks2 (Sum.inl (i:Int)) (.int (Bl G l i))))) (k:=Sum.inl (i:Int)) Ag;rw[Md,Z6 rfl]at this;exact this
    cases l with
    |zero =>
     rw[Z3 (by rw[l0];rfl)];refine AI (xq1 rfl ⟨g.p,g.dx,(xq1 rfl ⟨fu.at'.hp,Ji g,(xq1 rfl ⟨g,G,i,q0,rfl,fu.at',eq0,l0,(xq2 rfl rfl (.inr (xq1 rfl ?_)))⟩)⟩)⟩);have e:(if decide ((0:Int)<(i:Int))=true then(1:Int)else 0)=Bl G 0 i:=by
      show _=if i=0 then(0:Int)else 1;by_cases z:i=0
      ·subst z;rfl
      ·rw[Z5 z,Z6 (Z3 A0)]
     rw[e];exact xw2 rfl rfl ⟨d,(xq1 rfl ⟨NB.k (k:=Sum.inl (i:Int)) hd (Du A0),(xw2 rfl rfl (fin ks H (FrO.refl d H) hd co))⟩)⟩
    |succ m =>
     rw[Z4 (by rw[l0];intro z;injection z with z;lia)];apply Ay;intro G_ hG_;obtain⟨q,x,y,z,w',nd⟩:=AU fu.ok hl;apply hG_;clear hG_ G_;have eq:q0=q:=X2 (eq0.symm.trans nd.g);subst eq;refine AE (xq1 rfl ⟨g.p,g.dx,(xq1 rfl ⟨fu.at'.hp,DN g,(xq1 rfl ⟨g,G,i,q0,rfl,fu.at',eq0,by lia,λt ht=>⟨t,rfl,⟨_,SqT.of ht⟩,?_⟩⟩)⟩)⟩);refine SQ (xs:=q0.parts.map V.int) (λj acc H2=>∃ks2,FrO d H H2/\H2 d=some (.dK ks2)/\GU G ks2/\acc=((q0.parts.take j).map λ(p:Int)=>Bl G m p.toNat).map V.int) ⟨ks,FrO.refl d H,hd,co,rfl⟩ (λj acc H2 _ z=>SqT.of (by obtain⟨_,fr,_⟩:=z;exact fr _ _ ht (Bc ht hd A4))) ?_ ?_
     ·rintro j v acc H2 ev2 z5_;apply Ay;intro G_ hG_;obtain⟨ks2,fr,hd2,co2,rfl⟩:=z5_;apply hG_;clear hG_ G_;apply Ay;intro G_ hG_;obtain⟨k',rfl,hk,ek⟩:=nd.mem ev2;apply hG_;clear hG_ G_;refine⟨⟨[some (.int k')],rfl,rfl⟩,by rw[B0,B0,N6,nd.ps];exact Du (by show min j 4<10000000;lia),Uz (xw3 rfl rfl rfl ?_)⟩;refine⟨g,G,k',m,d,ks2,rfl,fu.frO hd od fr,hk,by lia,hd2,⟨od.am,od.bx⟩,co2,few,λks3 H3 fr3 fu3 hd3 co3=>⟨ks3,fr.trans fr3,hd3,co3,?_⟩⟩;rw[J1,ek,D5,D5];rfl
     ·rintro acc H2 z2_ qd hq;apply Ay;intro G_ hG_;obtain⟨ks2,fr,hd2,co2,rfl⟩:=z2_;apply hG_;clear hG_ G_;rw[B0,M8]at *
      have s3:=Al (o:=.lst ((q0.parts.map λ(p:Int)=>Bl G m p.toNat).map V.int)) hq;refine⟨qd,q0.parts.map λ(p:Int)=>Bl G m p.toNat,rfl,SqL.of Ag,?_⟩;generalize upd H2 qd (.lst ((q0.parts.map λ(p:Int)=>Bl G m p.toNat).map V.int))=H3 at s3⊢;have es:(q0.parts.map λ(p:Int)=>Bl G m p.toNat).sum=Bl G (m+1) i:=by
       rw[Eu nd,nd.ps];rfl
      rw[es];have klen2:=co2.keys.len;exact xw2 rfl rfl ⟨d,(xq1 rfl ⟨NB.k (k:=Sum.inl (i:Int)) (s3 _ _ hd2) (Du A0),(xw2 rfl rfl (fin ks2 H3 (fr.trans (Aw.frO s3)) (s3 _ _ hd2) co2))⟩)⟩
theorem cnt_pos{G r:Gv}(e0:G=G0++r)(ok:GOk G){n i:Nat}(hn:n<=48)(h:Au G i (n:Int))(ne:i≠bareN n):1<=Bl G n i:=by
 have nn:=Dq G n i;have:Bl G n i≠0:=λz=>ne ((Iz ok e0 n i hn h).mp ((JM ok n i h).mpr z));lia
inductive SpIF(a:Ad)(vs:List V)(H:Hp)(Q:VK):Prop
 |mk (g:GA) (G:Gv) (f n:Nat) (d:Addr) (ks:List (Key×V)) (_:vs=[.ref g.p,.int f,.ref d]) (_:Bs a H g G) (_:Fd G n f) (_:H d=some (.dK ks)) (_:RQ a H g d) (_:GU G ks) (_:G.length<9000000) (_:∀(ks':List (Key×V))(H':Hp),FrO d H H'->H' d=some (.dK ks')->GU G ks'->Q (.bl true) H'):SpIF a vs H Q
def spIF(a:Ad):Sp:=λvs H Q _=>SpIF a vs H Q
theorem ok_if{f:Addr}{fd:FuncData}(F:Fun K "_law_is_field" "_law_is_field" DZ f fd)(T:Top K mg a)(aO:Cal P w K mg base CX0 1 "_law_whole" Ek Sg)(a5:CS P w K mg base CX0 3 a.c_Grove "level_of" AH (Fe a))
  (a7:CS P w K mg base CX0 4 a.c_Grove "quarters" BP (NM a)) (aA:Cal P w K mg base CX0 55 "_law_count" BX (QY a 50)):AO P w K mg base CX0 56 f fd CV (spIF a):=by
 refine F.ok BD (λvs H Q E h=>?_) (λcdv A outer s H vs Q E hr h=>?_)
 ·apply Ay;intro G_ hG_;obtain⟨g,G,f',n,d,ks,rfl,_⟩:=h;apply hG_;clear hG_ G_;rfl
 ·apply Ay;intro G_ hG_;obtain⟨g,G,f',n,d,ks,rfl,fu,fd',hd,od,co,few,k⟩:=h;obtain⟨r0,e0⟩:=fu.g0;apply hG_;clear hG_ G_;have n40:=fd'.le;obtain⟨q0,eq0,l0⟩:=id fd'.lev;refine⟨_,(Ab (AB (PW.pt (BM (Bp (AZ (Aq aO (rm hr) rfl Ar (Aa (pv 1) Ac)))) (BE (Ak Bg (AK (pv 0) a5 (rm hr) Ar (Aa (pv 1) Ac)) Ae (An _))))) (Af (Am Db)) Ap) (Ab (AB (Ak Bg (AK (pv 0) a5 (rm hr) Ar (Aa (pv 1) Ac)) Ae (An _)) (Af (Am Db)) Ap) (Ab (Ah (i:=3) BD.nd rfl (Or.inl rfl) Ae) (Ab (Ci X8 rfl (Jy true rfl T.b_enumerate (Aa (AK (pv 0) a7 (rm hr) Ar (Aa (pv 1) Ac)) Ac)) (Dl rfl (AG (AF (i:=4) BD.nd rfl (Or.inl rfl)) (AG (AF (i:=5) BD.nd rfl (Or.inl rfl)) Cs))) (Af (Ci X8 rfl (Jy true rfl T.b_enumerate (Aa (AK (pv 0) a7 (rm hr) Ar (Aa (pv 5) Ac)) Ac)) (Dl rfl (AG (AF (i:=6) BD.nd rfl (Or.inl rfl)) (AG (AF (i:=7) BD.nd rfl (Or.inl rfl)) Cs))) (Af (AB (Ak Dt (pv 6) (Ao FT Ae (pv 4)) (An _)) (Af (Ah (i:=3) BD.nd rfl (Or.inl rfl) (Ao AR (pv 3) (Aq aA (rm hr) rfl Ar (Aa (pv 0) (Aa (pv 7) (Aa (pv 2) Ac))))))) Ap))))) (Af (Am (Bv DM (pv 3) Ae (An _)))))))),?_⟩
  try dsimp only[cxK]
  refine⟨_,rfl,_,rfl,true,rfl,AE ⟨_,rfl,g.p,g.dx,_,rfl,fu.at'.hp,BL g,_,rfl,g,G,f',q0,rfl,fu.at',eq0,rfl,_,rfl,?_⟩⟩;rw[Z4 (by rw[l0];intro z;injection z with z;lia)];refine AE (xq1 rfl ⟨g.p,g.dx,(xq1 rfl ⟨fu.at'.hp,BL g,(xq1 rfl ⟨g,G,f',q0,rfl,fu.at',eq0,rfl,(xq1 rfl ?_)⟩)⟩)⟩);cases n with
  |zero =>
   rw[Z3 (by rw[l0];rfl)];exact AI (k ks H (FrO.refl d H) hd co)
  |succ m =>
   rw[Z4 (by rw[l0];intro z;injection z with z;lia)];obtain⟨m',qs,ps,em,dp,nb⟩:=fd'.tr.resolve_left A0;have em:m'=m:=by lia
   subst em;obtain⟨q,nd⟩:=dp.node;have eq:q0=q:=X2 (eq0.symm.trans nd.g);subst eq;refine AE (xq1 rfl ⟨g.p,g.dx,(xq1 rfl ⟨fu.at'.hp,DN g,(xq1 rfl ⟨g,G,f',q0,rfl,fu.at',eq0,by lia,λt ht=>⟨t,rfl,⟨_,SqT.of ht⟩,?_⟩⟩)⟩)⟩);rw[nd.ps]at ht;refine Ir (b:=true) (xs:=[.int (qs 0:Int),.int (qs 1:Int),.int (qs 2:Int),.int (qs 3:Int)]) (λj σ H2=>∃(ks2:List (Key×V))(out:Int)(u4 u5 u6 u7:Option V),FrO d H H2/\H2 d=some (.dK ks2)/\GU G ks2/\σ=[some (.ref g.p),some (.int f'),some (.ref d),some (.int out),u4,u5,u6,u7]/\0<=out/\∀k' j',k'<j->k'<4->j'<4->j'+k'≠3->Bl G m' (ps k' j')<=out) ⟨ks,0,none,none,none,none,FrO.refl d H,hd,co,rfl,R9 _,λk' j' h=>absurd h (M0 _)⟩ (λj σ H2 _ z=>SqT.of (by obtain⟨_,_,_,_,_,_,fr,_⟩:=z;exact fr _ _ ht (Bc ht hd A4))) ?_ ?_
   ·rintro j v σ H2 T' ev z6_ nT;apply Ay;intro G_ hG_;obtain⟨ks2,out,u4,u5,u6,u7,fr,hd2,co2,rfl,on,al⟩:=z6_;apply hG_;clear hG_ G_;have hj:j<4:=(B8.mp ev).1;have ev':v=.int (qs j:Int):=by
     match j,hj,ev with
     |0,_,ev=>cases ev;rfl
     |1,_,ev=>cases ev;rfl
     |2,_,ev=>cases ev;rfl
     |3,_,ev=>cases ev;rfl
    subst ev';obtain⟨qk,ndk⟩:=dp.sub j hj;have s2:=Al (o:=.tup [.int j,.int (qs j)]) nT;refine Ft Ag ?_;generalize upd H2 T' (.tup [.int j,.int (qs j)])=H3 at s2⊢;have fr3:=fr.trans (Aw.frO s2);have fu3:=fu.frO hd od fr3;have lk:=ndk.lev;refine xq1 rfl ⟨g.p,g.dx,(xq1 rfl ⟨fu3.at'.hp,DN g,(xq1 rfl ⟨g,G,qs j,qk,rfl,fu3.at',ndk.g,by lia,λt3 ht3=>⟨t3,rfl,⟨_,SqT.of ht3⟩,?_⟩⟩)⟩)⟩;rw[ndk.ps]at ht3;have hd3:=s2 _ _ hd2;refine Ir (b:=true) (xs:=[.int (ps j 0:Int),.int (ps j 1:Int),.int (ps j 2:Int),.int (ps j 3:Int)]) (λj2 σ H4=>∃(ks4:List (Key×V))(out4:Int)(u6 u7:Option V),FrO d H3 H4/\H4 d=some (.dK ks4)/\GU G ks4/\σ=[some (.ref g.p),some (.int f'),some (.ref d),some (.int out4),some (.int j),some (.int (qs j)),u6,u7]/\out<=out4/\∀j',j'<j2->j'<4->j'+j≠3->Bl G m' (ps j j')<=out4) ⟨ks2,out,_,_,FrO.refl d H3,hd3,co2,rfl,R9 _,λj' h=>absurd h (M0 _)⟩ (λj2 σ H4 _ z=>SqT.of (by obtain⟨_,_,_,_,fr,_⟩:=z;exact fr _ _ ht3 (Bc ht3 hd3 A4))) ?_ ?_
    ·rintro j2 v σ H4 T2 ev z6_ nT2;apply Ay;intro G_ hG_;obtain⟨ks4,out4,u6,u7,fr4,hd4,co4,rfl,oo,al4⟩:=z6_;apply hG_;clear hG_ G_;have hj2:j2<4:=(B8.mp ev).1;have ev':v=.int (ps j j2:Int):=by
      match j2,hj2,ev with
      |0,_,ev=>cases ev;rfl
      |1,_,ev=>cases ev;rfl
      |2,_,ev=>cases ev;rfl
      |3,_,ev=>cases ev;rfl
     subst ev';have s4:=Al (o:=.tup [.int j2,.int (ps j j2)]) nT2;refine Ft Ag ?_;generalize upd H4 T2 (.tup [.int j2,.int (ps j j2)])=H5 at s4⊢;have fr5:=fr4.trans (Aw.frO s4);have hd5:=s4 _ _ hd4;refine xw2 rfl rfl (xq2 rfl rfl ⟨rfl,(xq1 rfl ?_)⟩);refine GH (λhc=>?_) (λhc=>?_)
     ·have lp:Au G (ps j j2) (m':Int):=by
       have:=(ndk.nat hj2).2;rw[MO (ps j) hj2]at this;exact this
      refine xw3 rfl rfl rfl (xq1 rfl ?_);refine⟨g,G,ps j j2,m',d,ks4,rfl,fu3.frO hd3 ⟨od.am,od.bx⟩ fr5,lp,by lia,hd5,⟨od.am,od.bx⟩,co4,few,λks6 H6 fr6 fu6 hd6 co6=>?_⟩;have nn:=Dq G m' (ps j j2);refine xq2 rfl rfl ⟨ks6,_,_,_,fr5.trans fr6,hd6,co6,rfl,by show out<=out4+_;lia,λj' h1 h2 h3'=>?_⟩;show _<=out4+Bl G m' (ps j j2);rcases O6.mp h1 with h|h
      ·have:=al4 j' h h2 h3';lia
      ·subst h;lia
     ·refine⟨ks4,out4,_,_,fr5,hd5,co4,rfl,oo,λj' h1 h2 h3'=>?_⟩;rcases O6.mp h1 with h|h
      ·exact al4 j' h h2 h3'
      ·subst h;refine absurd ?_ hc;rw[Z4 (show ¬V.int (j':Int)=V.int (3-(j:Int)) by intro q;injection q with q;lia)];rfl
    ·rintro σ H4 z2_;apply Ay;intro G_ hG_;obtain⟨ks4,out4,u6,u7,fr4,hd4,co4,rfl,oo,al4⟩:=z2_;apply hG_;clear hG_ G_;refine⟨ks4,out4,_,_,_,_,fr3.trans fr4,hd4,co4,rfl,by lia,λk' j' h1 h2 h3' h4=>?_⟩;rcases O6.mp h1 with h|h
     ·have:=al k' j' h h2 h3' h4;lia
     ·subst h;exact al4 j' h3' h3' h4
   ·rintro σ H2 z2_;apply Ay;intro G_ hG_;obtain⟨ks2,out,u4,u5,u6,u7,fr,hd2,co2,rfl,on,al⟩:=z2_;apply hG_;clear hG_ G_;refine xwb rfl rfl rfl ?_;have:0<out:=by
     have ex:∃k' j',k'<4/\j'<4/\j'+k'≠3/\ps k' j'≠bareN m':=by
      refine A3c λz=>nb λk' j' hk hj ne=>A3c λq=>z ⟨k',j',hk,hj,ne,q⟩
     apply Ay;intro G_ hG_;obtain⟨k',j',hk,hj,ne,nbare⟩:=ex;obtain⟨qk,ndk⟩:=dp.sub k' hk;apply hG_;clear hG_ G_;have lp:Au G (ps k' j') (m':Int):=by
      have:=(ndk.nat hj).2;rw[MO (ps k') hj]at this;exact this
     have:=cnt_pos e0 fu.ok A0 lp nbare;have:=al k' j' hk hk hj ne;lia
    show Q (.bl (decide (0<out))) H2;rw[Z3 this];exact k ks2 H2 fr hd2 co2
end
end J
namespace J
open PySem L2
def DG(G:Gv):Nat->Nat->Int->Int->List (List Int)
 |0,i,x,y=>if i=0 then []else [[y,x,(i:Int)]]
 |n+1,i,x,y=>match G[i]? with
  |some q=>(List.range 4).flatMap λk=>DG G n (q.parts.getD k 0).toNat (x+((k%2:Nat):Int)*2^n) (y+((k/2:Nat):Int)*2^n)
  |none=>[]
def FI(G:Gv)(n:Nat)(f:Nat->Nat)(x y:Int)(k:Nat):List (List Int):=DG G n (f k) (x+((k%2:Nat):Int)*2^n) (y+((k/2:Nat):Int)*2^n)
theorem MM{α β:Type}{f g:α->List β}:∀{l:List α},(∀x∈l,f x=g x)->l.flatMap f=l.flatMap g
 |[],_=>rfl
 |x::l,h=>by rw[Z0,Z0,h x (D3 ..),MM λy hy=>h y (B9 _ hy)]
theorem GL{G:Gv}{n i:Nat}{q:Sq}{a b c d:Nat}(h:BZ G n i q a b c d)(x y:Int):DG G (n+1) i x y=(List.range 4).flatMap (FI G n (f4 a b c d) x y):=by
 rw[show DG G (n+1) i x y=(match G[i]? with|some q=>(List.range 4).flatMap λk=>DG G n (q.parts.getD k 0).toNat (x+((k%2:Nat):Int)*2^n) (y+((k/2:Nat):Int)*2^n)|none=>[])from rfl,h.g];refine MM λk hk=>?_;have:=(h.nat (by simpa using hk)).1;unfold FI;rw[C5,this];rfl
theorem Dd{G:Gv}(ok:GOk G):∀{n i:Nat}{x y:Int},Au G i (n:Int)->((DG G n i x y).length:Int)=Bl G n i
 |0,i,x,y,_=>by
  show(((if i=0 then []else [[y,x,(i:Int)]]:List (List Int)).length:Nat):Int)=if i=0 then 0 else 1;split<;>rfl
 |n+1,i,x,y,h=>by
  obtain⟨q,a,b,c,d,nd⟩:=AU ok h;rw[GL nd,Eu nd];show(((FI G n (f4 a b c d) x y 0++(FI G n (f4 a b c d) x y 1++(FI G n (f4 a b c d) x y 2++(FI G n (f4 a b c d) x y 3++[])))).length:Nat):Int)=Bl G n a+(Bl G n b+(Bl G n c+(Bl G n d+0)))
  have e0:=Dd ok (x:=x+((0%2:Nat):Int)*2^n) (y:=y+((0/2:Nat):Int)*2^n) nd.hx;have e1:=Dd ok (x:=x+((1%2:Nat):Int)*2^n) (y:=y+((1/2:Nat):Int)*2^n) nd.hy;have e2:=Dd ok (x:=x+((2%2:Nat):Int)*2^n) (y:=y+((2/2:Nat):Int)*2^n) nd.hz;have e3:=Dd ok (x:=x+((3%2:Nat):Int)*2^n) (y:=y+((3/2:Nat):Int)*2^n) nd.hw;rw[<-e0,<-e1,<-e2,<-e3];simp only[B5,List.length_nil,U2];rfl
theorem dm_c(v h:Nat):(v:Int)=((v/h:Nat):Int)*(h:Int)+((v%h:Nat):Int):=by
 have:=Q6 v h;rw[<-W8,<-U2,W1,this]
theorem Es{G:Gv}(ok:GOk G):∀{n i:Nat}{x y:Int}{r:List Int},Au G i (n:Int)->(r∈DG G n i x y ↔ ∃u v:Nat,u<2^n/\v<2^n/\cellF G n i u v≠0/\r=[y+v,x+u,(cellF G n i u v:Int)])
 |0,i,x,y,r,_=>by
  show r∈(if i=0 then []else [[y,x,(i:Int)]]:List (List Int))↔_;constructor
  ·intro h;by_cases z:i=0
   ·rw[Z6 z]at h;cases h
   ·rw[Z5 z]at h;refine⟨0,0,by decide,by decide,z,?_⟩;rw[C9.mp h];show [y,x,(i:Int)]=[y+0,x+0,(i:Int)]
    rw[W3,W3]
  ·rintro⟨u,v,hu,hv,ne,rfl⟩;have hu:u=0:=Nat.lt_one_iff.mp hu;have hv:v=0:=Nat.lt_one_iff.mp hv;subst hu hv;have ne:i≠0:=ne;rw[Z5 ne];show [y+0,x+0,(i:Int)]∈_;rw[W3,W3];exact C9.mpr rfl
 |n+1,i,x,y,r,h=>by
  obtain⟨q,a,b,c,d,nd⟩:=AU ok h;have cc:=GS n;rw[GL nd,List.mem_flatMap];constructor
  ·rintro⟨k,hk,hr⟩;have hk:k<4:=by simpa using hk
   obtain⟨u,v,hu,hv,ne,rfl⟩:=(Es ok (nd.nat hk).2).mp hr;obtain⟨h1,h2,h3,h4,h5⟩:=GI hk hu hv;have e:=AW nd h1 h2;rw[h3,h4,h5]at e;refine⟨_,_,h1,h2,by rw[e];exact ne,?_⟩;rw[e,<-cc,U2,W8,U2,W8,Int.mul_comm ((k/2:Nat):Int),Int.mul_comm ((k%2:Nat):Int),Y3,Y3,Int.add_comm (v:Int),Int.add_comm (u:Int)]
  ·rintro⟨u,v,hu,hv,ne,rfl⟩;rw[AW nd hu hv]at ne⊢;have qk:=Fj hu hv;refine⟨quad n u v,by simpa using qk,(Es ok (nd.nat qk).2).mpr ⟨u%2^n,v%2^n,L7 _ (Be n),L7 _ (Be n),ne,?_⟩⟩;have q1:quad n u v/2=v/2^n:=by
    have:=GJ hu;unfold quad;generalize u/2^n=A at *
    generalize v/2^n=B at *
    lia
   have q2:quad n u v%2=u/2^n:=by
    have:=GJ hu;unfold quad;generalize u/2^n=A at *
    generalize v/2^n=B at *
    lia
   rw[q1,q2,<-cc,Y3,Y3,<-dm_c,<-dm_c]
theorem Ls{G:Gv}(ok:GOk G):∀{n i:Nat}{x y:Int},Au G i (n:Int)->(DG G n i x y).Nodup
 |0,i,x,y,_=>by
  show(if i=0 then []else [[y,x,(i:Int)]]:List (List Int)).Nodup;split
  ·exact P2
  ·simp
 |n+1,i,x,y,h=>by
  obtain⟨q,a,b,c,d,nd⟩:=AU ok h;rw[GL nd,F6,List.pairwise_flatMap];refine⟨λk hk=>?_,?_⟩
  ·have hk:k<4:=by simpa using hk
   exact F6.mp (Ls ok (nd.nat hk).2)
  ·refine A3g (λ{k j} hk hj kj r hr r' hr' e=>kj ?_) (F6.mp (List.nodup_range (n:=4)));subst e;have hk:k<4:=by simpa using hk
   have hj:j<4:=by simpa using hj
   obtain⟨u,v,hu,hv,ne,e1⟩:=(Es ok (nd.nat hk).2).mp hr;obtain⟨u',v',hu',hv',ne',e2⟩:=(Es ok (nd.nat hj).2).mp hr';rw[e1]at e2;injection e2 with f1 e2
   injection e2 with f2 e2
   have cc:=GS n;rw[<-cc]at f1 f2;have side:∀{A B h u u':Nat},A<2->B<2->u<h->u'<h->(A:Int)*(h:Int)+u=(B:Int)*(h:Int)+u'->A=B:=by
    intro A B h u u' hA hB hu hu' e;have hA:A=0\/A=1:=by lia
    have hB:B=0\/B=1:=by lia
    rcases hA with rfl|rfl<;>rcases hB with rfl|rfl<;>simp at e<;>first|rfl|lia
   have g1:=side (A:=k/2) (B:=j/2) A0 A0 hv hv' A0;have g2:=side (A:=k%2) (B:=j%2) A0 A0 hu hu' A0;lia
seal L2.PA L2.PE L2.PS L2.PSs L2.PT L2.PW
def Eg(H:Hp)(items:List (Addr×List Int)):Prop:=∀q∈items,H q.1=some (.tup (q.2.map V.int))
theorem Eg.frO{d:Addr}{H H':Hp}{ks:List (Key×V)}{items:List (Addr×List Int)}(hd:H d=some (.dK ks))(f:FrO d H H')(h:Eg H items):Eg H' items:=λq hq=>f _ _ (h q hq) (Bc (h q hq) hd A4)
theorem Eg.same{H H':Hp}{items:List (Addr×List Int)}(f:Aw H H')(h:Eg H items):Eg H' items:=λq hq=>f _ _ (h q hq)
theorem SN{G:Gv}{n i:Nat}{q:Sq}{a b c d:Nat}(h:BZ G n i q a b c d){k:Nat}(hk:k<4):Bl G n (f4 a b c d k)<=Bl G (n+1) i:=by
 have e:=Eu h;have ea:=Dq G n a;have eb:=Dq G n b;have ec:=Dq G n c;have ed:=Dq G n d;have e:Bl G (n+1) i=Bl G n a+(Bl G n b+(Bl G n c+(Bl G n d+0))):=e
 match k,hk with
 |0,_=>show Bl G n a<=_;lia
 |1,_=>show Bl G n b<=_;lia
 |2,_=>show Bl G n c<=_;lia
 |3,_=>show Bl G n d<=_;lia
theorem VY(n:Nat){l:Int}(h:l=(n:Int)+1):1*2^l.toNat/2=(2:Int)^n:=by
 have:l.toNat=n+1:=by lia
 rw[this,JY];lia
section
variable{P:Program}{w:World}{K:W.Frag}{mg:Str->Option Value}{base:Heap}{a:Ad}
inductive SpWi(a:Ad)(n:Nat)(vs:List V)(H:Hp)(Q:VK):Prop
 |mk (g:GA) (G:Gv) (i l:Nat) (x y:Int) (d:Addr) (ks:List (Key×V)) (_:vs=[.ref g.p,.int i,.int x,.int y,.ref d]) (_:Bs a H g G) (_:Au G i (l:Int)) (_:l<n) (_:H d=some (.dK ks)) (_:RQ a H g d) (_:GU G ks) (_:G.length<9000000) (_:Bl G l i<=1000) (_:∀(L:Addr)(items:List (Addr×List Int))(ks':List (Key×V))(H':Hp),FrO d H H'->H' d=some (.dK ks')->GU G ks'->H' L=some (.lst (items.map λq=>V.ref q.1))->Eg H' items->items.map (·.2)=DG G l i x y->Q (.ref L) H'):SpWi a n vs H Q
def spWi(a:Ad)(n:Nat):Sp:=λvs H Q _=>SpWi a n vs H Q
theorem ok_wi{f:Addr}{fd:FuncData}(F:Fun K "_law_within" "_law_within" FA f fd)(T:Top K mg a)(hm:mg "_law_within" = some (.ref f))(Bi:CD K fd CO [])(a5:CS P w K mg base CX0 3 a.c_Grove "level_of" AH (Fe a))(a9:CS P w K mg base CX0 4 a.c_Grove "state_of" Cd (PJ a))
  (a7:CS P w K mg base CX0 4 a.c_Grove "quarters" BP (NM a)) (aA:Cal P w K mg base CX0 55 "_law_count" BX (QY a 50)):∀n,AO P w K mg base CX0 (n+56) f fd CO (spWi a n)
 |0=>by
  refine F.ok BI (λvs H Q E h=>?_) (λcdv A outer s H vs Q E hr h=>?_)
  ·apply Ay;intro G_ hG_;obtain⟨g,G,i,l,x,y,d,ks,rfl,_,_,h0,_⟩:=h;apply hG_;clear hG_ G_;exact absurd h0 (M0 _)
  ·apply Ay;intro G_ hG_;obtain⟨g,G,i,l,x,y,d,ks,rfl,_,_,h0,_⟩:=h;apply hG_;clear hG_ G_;exact absurd h0 (M0 _)
 |n+1=>by
  have aQ:Cal P w K mg base CX0 (n+56) "_law_within" CO (spWi a n):=⟨f,fd,ok_wi F T hm Bi a5 a9 a7 aA n,hm,F.kp,Bi⟩
  refine F.ok BI (λvs H Q E h=>?_) (λcdv A outer s H vs Q E hr h=>?_)
  ·apply Ay;intro G_ hG_;obtain⟨g,G,i,l,x,y,d,ks,rfl,_⟩:=h;apply hG_;clear hG_ G_;rfl
  ·apply Ay;intro G_ hG_;obtain⟨g,G,i,l,x,y,d,ks,rfl,fu,hl,ln,hd,od,co,few,cn,k⟩:=h;obtain⟨q0,eq0,l0⟩:=id hl;apply hG_;clear hG_ G_;have l48:l<=48:=by have:=(fu.ok.lev eq0).2;lia
   refine⟨_,(Ab (AB (Ak Bg (Aq aA (rm hr) rfl Ar (Aa (pv 0) (Aa (pv 1) (Aa (pv 4) Ac)))) Ae (An _)) (Af (Am (BF Ac))) Ap) (Ab (Ah (i:=5) BI.nd rfl (Or.inl rfl) (AK (pv 0) a5 (rm hr) Ar (Aa (pv 1) Ac))) (Ab (AB (Ak Bg (pv 5) Ae (An _)) (Af (Am (BF (Cn (Aa (pv 3) (Aa (pv 2) (Aa (AK (pv 0) a9 (rm hr) Ar (Aa (pv 1) Ac)) Ac))) Ac)))) Ap) (Ab (Ah (i:=6) BI.nd rfl (Or.inl rfl) (Ao Bf (Ao ES Ae (pv 5)) Ae)) (Ab (Ah (i:=7) BI.nd rfl (Or.inl rfl) (BF Ac)) (Ab (Ci X8 rfl (Jy true rfl T.b_enumerate (Aa (AK (pv 0) a7 (rm hr) Ar (Aa (pv 1) Ac)) Ac)) (Dl rfl (AG (AF (i:=8) BI.nd rfl (Or.inl rfl)) (AG (AF (i:=9) BI.nd rfl (Or.inl rfl)) Cs))) (Af (Ah (i:=7) BI.nd rfl (Or.inl rfl) (Ao Lf (pv 7) (Aq aQ (rm hr) rfl Ar (Aa (pv 0) (Aa (pv 9) (Cu AR (pv 2) (Ao ET (Ao Ba (pv 8) Ae) (pv 6)) (Cu AR (pv 3) (Ao ET (Ao Bf (pv 8) Ae) (pv 6)) (Aa (pv 4) Ac)))))))))) (Af (Am (pv 7))))))))),?_⟩
   try dsimp only[cxK]
   refine xw3 rfl rfl rfl ⟨g,G,i,l,d,ks,rfl,fu,hl,by lia,hd,od,co,few,λks1 H1 fr1 fu1 hd1 co1=>?_⟩;refine⟨rfl,(xq1 rfl ?_)⟩;have len:=Dd fu.ok (x:=x) (y:=y) hl;by_cases z:Bl G l i=0
   ·rw[Z3 (by rw[z])];refine AI ⟨(by show 0<=sizeLine;decide),λL hL=>?_⟩;have s1:=Al (o:=.lst []) hL;refine k L [] ks1 _ (fr1.trans (Aw.frO s1)) (s1 _ _ hd1) co1 Ag (λq hq=>nomatch hq) ?_;rw[z]at len;exact(O7 A0).symm
   ·rw[Z4 (by intro e;injection e with e;exact z e)];refine AE (xq1 rfl ⟨g.p,g.dx,(xq1 rfl ⟨fu1.at'.hp,BL g,(xq1 rfl ⟨g,G,i,q0,rfl,fu1.at',eq0,?_⟩)⟩)⟩);refine xq1 rfl ⟨rfl,(xq1 rfl ?_)⟩;cases l with
    |zero =>
     rw[Z3 (by rw[l0];rfl)];refine AI (xw3 rfl rfl rfl ⟨g.p,g.dx,(xq1 rfl ⟨fu1.at'.hp,Ji g,(xq1 rfl ⟨g,G,i,q0,rfl,fu1.at',eq0,l0,(by show 3<=sizeLine;decide),λt ht=>⟨(by show 1<=sizeLine;decide),λL hL=>?_⟩⟩)⟩)⟩);have s1:=Al (o:=.tup [.int y,.int x,.int i]) ht;have ht1:upd H1 t (.tup [.int y,.int x,.int i]) t=some (.tup [.int y,.int x,.int i]):=Ag;generalize upd H1 t (.tup [.int y,.int x,.int i])=H2 at s1 ht1 hL⊢;have s2:=Al (o:=.lst [.ref t]) hL;have i0:i≠0:=λq=>z (by subst q;rfl);refine k L [(t,[y,x,(i:Int)])] ks1 _ (fr1.trans (Aw.frO (s1.trans s2))) (s2 _ _ (s1 _ _ hd1)) co1 Ag (λq hq=>?_) ?_
     ·rw[C9.mp hq];exact s2 _ _ ht1
     ·show _=if i=0 then []else [[y,x,(i:Int)]];rw[Z5 i0];rfl
    |succ m =>
     rw[Z4 (by rw[l0];intro z;injection z with z;lia)];apply Ay;intro G_ hG_;obtain⟨q,c0,c1,c2,c3,nd⟩:=AU fu.ok hl;apply hG_;clear hG_ G_;have eq:q0=q:=X2 (eq0.symm.trans nd.g);subst eq;have lpos:=Gu m;have lt64:=pow2_lt (l:=m) A0;refine AE (xwb rfl rfl rfl ⟨⟨by lia,by lia,by decide⟩,(xq2 rfl rfl ⟨⟨by decide,by decide⟩,?_⟩)⟩);rw[show(λ(i j:Int)=>V.int (i/j)) ((λ(i j:Int)=>i*2^j.toNat) 1 q0.lev) 2=V.int (2^m)from X4 V.int (VY m nd.lev)];refine⟨(by show 0<=sizeLine;decide),λL hL=>?_⟩;have s1:=Al (o:=.lst []) hL;have hL1:upd H1 L (.lst []) L=some (.lst []):=Ag;generalize upd H1 L (.lst [])=H2 at s1 hL1⊢;have fr2:=fr1.trans (Aw.frO s1);have fu2:=fu.frO hd od fr2;have hd2:=s1 _ _ hd1;refine xq1 rfl ⟨g.p,g.dx,(xq1 rfl ⟨fu2.at'.hp,DN g,(xq1 rfl ⟨g,G,i,q0,rfl,fu2.at',eq0,by lia,λt ht=>⟨t,rfl,⟨_,SqT.of ht⟩,?_⟩⟩)⟩)⟩;rw[nd.ps]at ht;have len1:∀j,j<4->((FI G m (f4 c0 c1 c2 c3) x y j).length:Int)<=1000:=λj hj=>by
      unfold FI;rw[Dd fu.ok (nd.nat hj).2];have:=SN nd hj;lia
     refine Ir (b:=true) (xs:=[.int (c0:Int),.int (c1:Int),.int (c2:Int),.int (c3:Int)]) (λj σ H3=>∃(ks3:List (Key×V))(L3:Addr)(items:List (Addr×List Int))(u8 u9:Option V),FrO d H2 H3/\H3 d=some (.dK ks3)/\GU G ks3/\σ=[some (.ref g.p),some (.int i),some (.int x),some (.int y),some (.ref d),some (.int q0.lev),some (.int (2^m)),some (.ref L3),u8,u9]/\H3 L3=some (.lst (items.map λq=>V.ref q.1))/\Eg H3 items/\items.map (·.2)=(List.range j).flatMap (FI G m (f4 c0 c1 c2 c3) x y)/\items.length<=1000*j) ⟨ks1,L,[],none,none,FrO.refl d H2,hd2,co1,rfl,hL1,(λq hq=>nomatch hq),rfl,F5 _⟩ (λj σ H3 _ z=>SqT.of (by obtain⟨_,_,_,_,_,fr,_⟩:=z;exact fr _ _ ht (Bc ht hd2 A4))) ?_ ?_
     ·rintro j v σ H3 T' ev z6_ nT;apply Ay;intro G_ hG_;obtain⟨ks3,L3,items,u8,u9,fr3,hd3,co3,rfl,hL3,ra,ei,il⟩:=z6_;apply hG_;clear hG_ G_;have hj:j<4:=(B8.mp ev).1;have ev':v=.int (f4 c0 c1 c2 c3 j:Int):=by
       match j,hj,ev with
       |0,_,ev=>cases ev;rfl
       |1,_,ev=>cases ev;rfl
       |2,_,ev=>cases ev;rfl
       |3,_,ev=>cases ev;rfl
      subst ev';have s4:=Al (o:=.tup [.int j,.int (f4 c0 c1 c2 c3 j)]) nT;refine Ft Ag ?_;generalize upd H3 T' (.tup [.int j,.int (f4 c0 c1 c2 c3 j)])=H4 at s4⊢;have fr4:=fr3.trans (Aw.frO s4);have hd4:=s4 _ _ hd3;have cb:=SN nd hj;refine xw3 rfl rfl rfl (xw2 rfl rfl (xq2 rfl rfl ⟨A9,(xwb rfl rfl rfl ⟨.inl ⟨by lia,by lia⟩,(xq2 rfl rfl (xw2 rfl rfl (xq2 rfl rfl ⟨⟨by decide,by decide⟩,(xwb rfl rfl rfl ⟨.inl ⟨by lia,by lia⟩,(xq2 rfl rfl (xq1 rfl ?_))⟩)⟩)))⟩)⟩));refine⟨g,G,f4 c0 c1 c2 c3 j,m,x+((j%2:Nat):Int)*2^m,y+((j/2:Nat):Int)*2^m,d,ks3,rfl,fu2.frO hd2 ⟨od.am,od.bx⟩ fr4,(nd.nat hj).2,by lia,hd4,⟨od.am,od.bx⟩,co3,few,by lia,λL5 items5 ks5 H5 fr5 hd5 co5 hL5 ra5 ei5=>?_⟩;have hL35:=fr5 _ _ (s4 _ _ hL3) (Bc hL3 hd3 A4);have l5:items5.length<=1000:=by
       have:=X4 List.length ei5;rw[B0]at this;have:=len1 j hj;unfold FI at this;lia
      refine⟨L3,L5,(xq2 rfl rfl ⟨hL35,hL5,BB (by rw[B0,B0];lia),λp hp=>?_⟩)⟩;have s6:=Al (o:=.lst ((items.map λq=>V.ref q.1)++(items5.map λq=>V.ref q.1))) hp;refine⟨ks5,p,items++items5,_,_,(fr4.trans fr5).trans (Aw.frO s6),s6 _ _ hd5,co5,rfl,by rw[D5];exact Ag,λq hq=>?_,?_,by rw[B5];lia⟩
      ·rcases C6.mp hq with hq|hq
       ·exact s6 _ _ (((ra.same s4).frO hd4 fr5) q hq)
       ·exact s6 _ _ (ra5 q hq)
      ·rw[D5,ei,ei5,R5,Y2];simp only[Z0,List.flatMap_nil,N4];rfl
     ·rintro σ H3 z2_;apply Ay;intro G_ hG_;obtain⟨ks3,L3,items,u8,u9,fr3,hd3,co3,rfl,hL3,ra,ei,il⟩:=z2_;apply hG_;clear hG_ G_;refine xq1 rfl (k L3 items ks3 H3 (fr2.trans fr3) hd3 co3 hL3 ra ?_);rw[ei,GL nd];rfl
inductive SpWk(a:Ad)(vs:List V)(H:Hp)(Q:VK):Prop
 |mk (g:GA) (G:Gv) (f n:Nat) (_:vs=[.ref g.p,.int f]) (_:Bs a H g G) (_:Fd G n f) (_:G.length<9000000) (_:Bl G (n+1) f<=400) (_:∀(L:Addr)(out:List (Addr×List Int))(H':Hp),Aw H H'->H' L=some (.lst (out.map λq=>V.ref q.1))->Eg H' out->(out.map (·.2)).Perm (DG G (n+1) f (-(2^n)) (-(2^n)))->RP out->Q (.ref L) H'):SpWk a vs H Q
def spWk(a:Ad):Sp:=λvs H Q _=>SpWk a vs H Q
theorem ok_wk{f:Addr}{fd:FuncData}(F:Fun K "_law_walked" "_law_walked" FB f fd)(T:Top K mg a)(aF:Cal P w K mg base CX0 56 "_law_is_field" CV (spIF a))(a5:CS P w K mg base CX0 3 a.c_Grove "level_of" AH (Fe a))
  (aA:Cal P w K mg base CX0 55 "_law_count" BX (QY a 50)) (aQ:Cal P w K mg base CX0 106 "_law_within" CO (spWi a 50)):AO P w K mg base CX0 107 f fd FM (spWk a):=by
 refine F.ok Ey (λvs H Q E h=>?_) (λcdv A outer s H vs Q E hr h=>?_)
 ·apply Ay;intro G_ hG_;obtain⟨g,G,f',n,rfl,_⟩:=h;apply hG_;clear hG_ G_;rfl
 ·apply Ay;intro G_ hG_;obtain⟨g,G,f',n,rfl,fu,fd',few,cn,k⟩:=h;apply hG_;clear hG_ G_;have n40:=fd'.le;obtain⟨q0,eq0,l0⟩:=id fd'.lev;refine⟨_,(Ab (Ah (i:=2) Ey.nd rfl (Or.inl rfl) Ig) (Ab (AB (PW.pt (BM (Bp (AZ (Aq aF (rm hr) rfl Ar (Aa (pv 0) (Aa (pv 1) (Aa (pv 2) Ac)))))) (BE (Ak DM (Aq aA (rm hr) rfl Ar (Aa (pv 0) (Aa (pv 1) (Aa (pv 2) Ac)))) Ae (An _))))) (Af (Am Cz)) Ap) (Ab (Ah (i:=3) Ey.nd rfl (Or.inl rfl) (Ao Bf (Ao ES Ae (AK (pv 0) a5 (rm hr) Ar (Aa (pv 1) Ac))) Ae)) (Af (Am (As JL rfl T.b_sorted PyProof.Rows.boot_sorted (Aa (Aq aQ (rm hr) rfl Ar (Aa (pv 0) (Aa (pv 1) (Aa (Mp IV (pv 3)) (Aa (Mp IV (pv 3)) (Aa (pv 2) Ac)))))) Ac))))))),?_⟩
  try dsimp only[cxK]
  refine λd hd=>?_;have s1:=Al (o:=.dK []) hd;have hd1:upd H d (.dK []) d=some (.dK []):=Ag;obtain⟨ks0,h1,_⟩:=fu.am;obtain⟨ks',h2,_⟩:=fu.bx;have od:∀H',RQ a H' g d:=λ_=>⟨X5 (Ax h1 hd),X5 (Ax h2 hd)⟩
  have back:∀{H'},FrO d (upd H d (.dK [])) H'->Aw H H':=λ{H'} fr b o e=>fr b o (s1 _ _ e) (Ax e hd);generalize upd H d (.dK [])=H1 at s1 hd1 back⊢;have fu1:=fu.same s1;refine xw3 rfl rfl rfl ⟨g,G,f',n,d,[],rfl,fu1,fd',hd1,od _,GU.nil,few,λks2 H2 fr2 hd2 co2=>⟨true,rfl,AE ?_⟩⟩;have fu2:=fu1.frO hd1 (od _) fr2;refine xw3 rfl rfl rfl ⟨g,G,f',n+1,d,ks2,rfl,fu2,fd'.lev,by lia,hd2,od _,co2,few,λks3 H3 fr3 fu3 hd3 co3=>(xq2 rfl rfl (xq1 rfl ?_))⟩;rw[Z4 (show ¬(400:Int)<Bl G (n+1) f' by lia)];refine AE (xq1 rfl ⟨g.p,g.dx,(xq1 rfl ⟨fu3.at'.hp,BL g,(xq1 rfl ⟨g,G,f',q0,rfl,fu3.at',eq0,(xq2 rfl rfl ⟨⟨by lia,by lia,by decide⟩,(xq2 rfl rfl ⟨⟨by decide,by decide⟩,?_⟩)⟩)⟩)⟩)⟩);rw[show(λ(i j:Int)=>V.int (i/j)) ((λ(i j:Int)=>i*2^j.toNat) 1 q0.lev) 2=V.int (2^n)from X4 V.int (VY n A0)];refine xw3 rfl rfl rfl (xw3 rfl rfl rfl (xq1 rfl ?_));refine⟨g,G,f',n+1,-(2^n),-(2^n),d,ks3,rfl,fu3,fd'.lev,by lia,hd3,od _,co3,few,by lia,λL items ks4 H4 fr4 hd4 co4 hL ra ei=>?_⟩;have len:=Dd fu.ok (x:=-(2^n)) (y:=-(2^n)) fd'.lev;have il:items.length<=100000:=by
   have:=X4 List.length ei;rw[B0]at this;lia
  refine⟨L,items,rfl,SqL.of hL,il,λq hq=>⟨ra q hq,λe=>?_⟩,λL5 out hL5 pm ru=>?_⟩
  ·have:q.2∈items.map (·.2):=F1.mpr ⟨q,hq,rfl⟩;rw[ei,Es fu.ok fd'.lev]at this;apply Ay;intro G_ hG_;obtain⟨u,v,_,_,_,e2⟩:=this;apply hG_;clear hG_ G_;rw[e]at e2;cases e2
  ·have s5:=Al (o:=.lst (out.map λq=>V.ref q.1)) hL5;refine k L5 out _ ((back ((fr2.trans fr3).trans fr4)).trans s5) Ag (λq hq=>s5 _ _ (ra q (pm.mem_iff.mp hq))) ?_ ru;rw[<-ei];exact pm.map _
end
structure KiW(K:W.Frag)(a:Ad)(c:Addr)(j:Nat):Prop where
 ec:GO K c
 ef:QO K c
 mr:mroIn K c (.ref a.x_FieldError)=some true
 kv:kitOne K (.ref c) (.type "ValueError")=some true
 jl:j<13
 k0:kitOne K (.ref c) (.ref a.x_NoNumber)=some (decide (j=0))
 k1:kitOne K (.ref c) (.ref a.x_NoRule)=some (decide (j=1))
 k2:kitOne K (.ref c) (.ref a.x_Restless)=some (decide (j=2))
 k3:kitOne K (.ref c) (.ref a.x_NoSquare)=some (decide (j=3))
 k4:kitOne K (.ref c) (.ref a.x_NoLevel)=some (decide (j=4))
 k5:kitOne K (.ref c) (.ref a.x_NoState)=some (decide (j=5))
 k6:kitOne K (.ref c) (.ref a.x_NoBox)=some (decide (j=6))
 k7:kitOne K (.ref c) (.ref a.x_TooFar)=some (decide (j=7))
 k8:kitOne K (.ref c) (.ref a.x_TooMany)=some (decide (j=8))
 k9:kitOne K (.ref c) (.ref a.x_NoSteps)=some (decide (j=9))
 k10:kitOne K (.ref c) (.ref a.x_NoPattern)=some (decide (j=10))
 k11:kitOne K (.ref c) (.ref a.x_NoName)=some (decide (j=11))
 k12:kitOne K (.ref c) (.ref a.x_NoRow)=some (decide (j=12))
def Ow:List Str:=["number","rule","restless","square","level","state","box","far","many","steps","pattern","name","row"]
def RU(j:Nat):Str:=Ow.getD j ""
def Jm(j:Nat):List Bool:=(List.range 13).map λi=>decide (j=i)
theorem TM{j:Nat}(h:j<13):(Jm j).countP id=1:=by
 have:∀j<13,(Jm j).countP id=1:=by decide
 exact this j h
section
variable{P:Program}{w:World}{K:W.Frag}{mg:Str->Option Value}{base:Heap}{a:Ad}
theorem kiw_far(T:Top K mg a):KiW K a a.x_TooFar 7:=⟨T.ec_TooFar,T.ef_TooFar,T.mr_TooFar,T.kv_TooFar,by decide,T.ki_TooFar_NoNumber,T.ki_TooFar_NoRule,T.ki_TooFar_Restless,T.ki_TooFar_NoSquare,T.ki_TooFar_NoLevel,T.ki_TooFar_NoState,T.ki_TooFar_NoBox,T.ki_TooFar_TooFar,T.ki_TooFar_TooMany,T.ki_TooFar_NoSteps,T.ki_TooFar_NoPattern,T.ki_TooFar_NoName,T.ki_TooFar_NoRow⟩
end
theorem word_at{j:Nat}(h:j<13):(Ow.map V.str)[j]?=some (.str (RU j)):=by
 rw[C1];unfold RU;rw[C5,C0 (show j<Ow.length from h)];rfl
theorem Qr{j i:Nat}(hi:i<13):(Jm j)[i]?=some (decide (j=i)):=by
 unfold Jm;rw[C1,Q0 hi];rfl
section
variable{P:Program}{w:World}{K:W.Frag}{mg:Str->Option Value}{base:Heap}{a:Ad}
inductive SpWd(K:W.Frag)(a:Ad)(vs:List V)(H:Hp)(Q:VK):Prop
 |mk (e c:Addr) (j:Nat) (_:vs=[.ref e]) (_:H e=some (JH e c)) (_:KiW K a c j) (_:∀H',Aw H H'->Q (.str (RU j)) H'):SpWd K a vs H Q
def spWd(K:W.Frag)(a:Ad):Sp:=λvs H Q _=>SpWd K a vs H Q
theorem ok_wd{f:Addr}{fd:FuncData}(F:Fun K "_law_word" "_law_word" GZ f fd)(T:Top K mg a):SY P w K mg base 1 f fd DL (spWd K a):=by
 refine F.okH Cf (λvs H Q E h=>?_) (λcdv A outer s H vs Q hr h=>?_)
 ·obtain⟨e,c,j,rfl,_⟩:=h;rfl
 ·obtain⟨e,c,j,rfl,he,ki,k⟩:=h;refine⟨_,(Ab (Ah (i:=1) Cf.nd rfl (Or.inl rfl) (BF (Aa (As AS rfl T.b_isinstance Z7 (Aa (pv 0) (Aa (CH rfl T.mx_NoNumber) Ac))) (Aa (As AS rfl T.b_isinstance Z7 (Aa (pv 0) (Aa (CH rfl T.mx_NoRule) Ac))) (Aa (As AS rfl T.b_isinstance Z7 (Aa (pv 0) (Aa (CH rfl T.mx_Restless) Ac))) (Aa (As AS rfl T.b_isinstance Z7 (Aa (pv 0) (Aa (CH rfl T.mx_NoSquare) Ac))) Ac)))))) (Ab (Ah (i:=1) Cf.nd rfl (Or.inl rfl) (Ao Lf (pv 1) (BF (Aa (As AS rfl T.b_isinstance Z7 (Aa (pv 0) (Aa (CH rfl T.mx_NoLevel) Ac))) (Aa (As AS rfl T.b_isinstance Z7 (Aa (pv 0) (Aa (CH rfl T.mx_NoState) Ac))) (Aa (As AS rfl T.b_isinstance Z7 (Aa (pv 0) (Aa (CH rfl T.mx_NoBox) Ac))) Ac)))))) (Ab (Ah (i:=1) Cf.nd rfl (Or.inl rfl) (Ao Lf (pv 1) (BF (Aa (As AS rfl T.b_isinstance Z7 (Aa (pv 0) (Aa (CH rfl T.mx_TooFar) Ac))) (Aa (As AS rfl T.b_isinstance Z7 (Aa (pv 0) (Aa (CH rfl T.mx_TooMany) Ac))) (Aa (As AS rfl T.b_isinstance Z7 (Aa (pv 0) (Aa (CH rfl T.mx_NoSteps) Ac))) Ac)))))) (Ab (Ah (i:=1) Cf.nd rfl (Or.inl rfl) (Ao Lf (pv 1) (BF (Aa (As AS rfl T.b_isinstance Z7 (Aa (pv 0) (Aa (CH rfl T.mx_NoPattern) Ac))) (Aa (As AS rfl T.b_isinstance Z7 (Aa (pv 0) (Aa (CH rfl T.mx_NoName) Ac))) (Aa (As AS rfl T.b_isinstance Z7 (Aa (pv 0) (Aa (CH rfl T.mx_NoRow) Ac))) Ac)))))) (Ab (AB (PW.pt (BM (Bp (AZ (As AS rfl T.b_isinstance Z7 (Aa (pv 0) (Aa (CT (v:=.ty "ValueError") rfl T.b_ValueError PyProof.Rows.Boot.«ValueError» rfl) Ac))))) (BE (Ak Dt (Cc X9 PySem.F.slot_list_count PySem.F.type_list_count Tz (pv 1) (Aa Db Ac)) Ae (An _))))) (Af (Am AJ)) Ap) (Ab (Ah (i:=2) Cf.nd rfl (Or.inl rfl) (BF (AA (AA (AA (AA (AA (AA (AA Ac))))))))) (Ab (Ah (i:=2) Cf.nd rfl (Or.inl rfl) (Ao Lf (pv 2) (BF (AA (AA (AA (AA (AA (AA Ac))))))))) (Af (Am (At AQ (pv 2) (Cc X9 PySem.F.slot_list_index PySem.F.type_list_index Ty (pv 1) (Aa Db Ac)) (λ_ _=>rfl))))))))))),?_⟩
  try dsimp only[cxK]
  have ty:∀{H2:Hp},Aw H H2->TyX K H2 (.ref e) (.ref c):=λs=>.exc (s _ _ he) ki.ef;have s0:=Aw.refl H;refine xq1 rfl ⟨_,_,_,(xq2 rfl rfl ⟨ty s0,ki.k0,(xq1 rfl ⟨_,_,_,(xq2 rfl rfl ⟨ty s0,ki.k1,(xq1 rfl ⟨_,_,_,(xq2 rfl rfl ⟨ty s0,ki.k2,(xq1 rfl ⟨_,_,_,(xq2 rfl rfl ⟨ty s0,ki.k3,by show 4<=sizeLine;decide,λp1 hp1=>?_⟩)⟩)⟩)⟩)⟩)⟩)⟩)⟩;have s1:=Al (o:=.lst [.bl (decide (j=0)),.bl (decide (j=1)),.bl (decide (j=2)),.bl (decide (j=3))]) hp1;have h1:upd H p1 (.lst [.bl (decide (j=0)),.bl (decide (j=1)),.bl (decide (j=2)),.bl (decide (j=3))]) p1=some _:=Ag;generalize upd H p1 (.lst [.bl (decide (j=0)),.bl (decide (j=1)),.bl (decide (j=2)),.bl (decide (j=3))])=H1 at s1 h1⊢;refine xw2 rfl rfl ⟨_,_,_,(xq2 rfl rfl ⟨ty s1,ki.k4,(xq1 rfl ⟨_,_,_,(xq2 rfl rfl ⟨ty s1,ki.k5,(xq1 rfl ⟨_,_,_,(xq2 rfl rfl ⟨ty s1,ki.k6,by show 3<=sizeLine;decide,λp2 hp2=>?_⟩)⟩)⟩)⟩)⟩)⟩;refine⟨p1,p2,(xq2 rfl rfl ⟨(Al hp2 _ _ h1),Ag,(by show 4+3<=sizeLine;decide),λp3 hp3=>?_⟩)⟩;obtain⟨H3,s3,h3,eH3⟩:∃H3,Aw H1 H3/\H3 p3=some (.lst [.bl (decide (j=0)),.bl (decide (j=1)),.bl (decide (j=2)),.bl (decide (j=3)),.bl (decide (j=4)),.bl (decide (j=5)),.bl (decide (j=6))])/\upd (upd H1 p2 (.lst [.bl (decide (j=4)),.bl (decide (j=5)),.bl (decide (j=6))])) p3 (.lst ([.bl (decide (j=0)),.bl (decide (j=1)),.bl (decide (j=2)),.bl (decide (j=3))]++[.bl (decide (j=4)),.bl (decide (j=5)),.bl (decide (j=6))]))=H3:=⟨_,(Al hp2).trans (Al hp3),Ag,rfl⟩
  rw[eH3];have s3:=s1.trans s3;clear eH3;refine xw2 rfl rfl ⟨_,_,_,(xq2 rfl rfl ⟨ty s3,ki.k7,(xq1 rfl ⟨_,_,_,(xq2 rfl rfl ⟨ty s3,ki.k8,(xq1 rfl ⟨_,_,_,(xq2 rfl rfl ⟨ty s3,ki.k9,by show 3<=sizeLine;decide,λp4 hp4=>?_⟩)⟩)⟩)⟩)⟩)⟩;refine⟨p3,p4,(xq2 rfl rfl ⟨(Al hp4 _ _ h3),Ag,(by show 7+3<=sizeLine;decide),λp5 hp5=>?_⟩)⟩;obtain⟨H5,s5,h5,eH5⟩:∃H5,Aw H3 H5/\H5 p5=some (.lst [.bl (decide (j=0)),.bl (decide (j=1)),.bl (decide (j=2)),.bl (decide (j=3)),.bl (decide (j=4)),.bl (decide (j=5)),.bl (decide (j=6)),.bl (decide (j=7)),.bl (decide (j=8)),.bl (decide (j=9))])/\upd (upd H3 p4 (.lst [.bl (decide (j=7)),.bl (decide (j=8)),.bl (decide (j=9))])) p5 (.lst ([.bl (decide (j=0)),.bl (decide (j=1)),.bl (decide (j=2)),.bl (decide (j=3)),.bl (decide (j=4)),.bl (decide (j=5)),.bl (decide (j=6))]++[.bl (decide (j=7)),.bl (decide (j=8)),.bl (decide (j=9))]))=H5:=⟨_,(Al hp4).trans (Al hp5),Ag,rfl⟩
  rw[eH5];have s5:=s3.trans s5;clear eH5;refine xw2 rfl rfl ⟨_,_,_,(xq2 rfl rfl ⟨ty s5,ki.k10,(xq1 rfl ⟨_,_,_,(xq2 rfl rfl ⟨ty s5,ki.k11,(xq1 rfl ⟨_,_,_,(xq2 rfl rfl ⟨ty s5,ki.k12,by show 3<=sizeLine;decide,λp6 hp6=>?_⟩)⟩)⟩)⟩)⟩)⟩;refine⟨p5,p6,(xq2 rfl rfl ⟨(Al hp6 _ _ h5),Ag,(by show 10+3<=sizeLine;decide),λp7 hp7=>?_⟩)⟩;obtain⟨H7,s7,h7,eH7⟩:∃H7,Aw H5 H7/\H7 p7=some (.lst [.bl (decide (j=0)),.bl (decide (j=1)),.bl (decide (j=2)),.bl (decide (j=3)),.bl (decide (j=4)),.bl (decide (j=5)),.bl (decide (j=6)),.bl (decide (j=7)),.bl (decide (j=8)),.bl (decide (j=9)),.bl (decide (j=10)),.bl (decide (j=11)),.bl (decide (j=12))])/\upd (upd H5 p6 (.lst [.bl (decide (j=10)),.bl (decide (j=11)),.bl (decide (j=12))])) p7 (.lst ([.bl (decide (j=0)),.bl (decide (j=1)),.bl (decide (j=2)),.bl (decide (j=3)),.bl (decide (j=4)),.bl (decide (j=5)),.bl (decide (j=6)),.bl (decide (j=7)),.bl (decide (j=8)),.bl (decide (j=9))]++[.bl (decide (j=10)),.bl (decide (j=11)),.bl (decide (j=12))]))=H7:=⟨_,(Al hp6).trans (Al hp7),Ag,rfl⟩
  rw[eH7];have s7:=s5.trans s7;clear eH7;have h7:H7 p7=some (.lst ((Jm j).map V.bl)):=h7;refine xq1 rfl ⟨_,_,_,(xq2 rfl rfl ⟨ty s7,ki.kv,true,rfl,AE ?_⟩)⟩;refine xq1 rfl ⟨.inl ⟨rfl,_,SqL.of h7⟩,p7,Jm j,rfl,rfl,h7,?_⟩;rw[TM ki.jl];refine⟨rfl,(xq1 rfl (SB rfl ?_))⟩;refine⟨by show 7<=sizeLine;decide,λp8 hp8=>?_⟩;refine xq1 rfl ⟨by show 6<=sizeLine;decide,λp9 hp9=>?_⟩;refine⟨p8,p9,(xq2 rfl rfl ⟨(Al hp9 _ _ Ag),Ag,(by show 7+6<=sizeLine;decide),λp10 hp10=>?_⟩)⟩;have s10:Aw H7 _:=((Al hp8).trans (Al hp9)).trans (Al (o:=.lst (Ow.map V.str)) hp10);refine xw2 rfl rfl ⟨.inl ⟨rfl,_,SqL.of (s10 _ _ h7)⟩,p7,Jm j,j,rfl,rfl,s10 _ _ h7,by show 13<1000;decide,by rw[Qr ki.jl,Z3 rfl],λm hm=>by rw[Qr (Nat.lt_trans hm ki.jl),Z4 A0],?_⟩;exact xq4 rfl rfl (SqL.of Ag) (Ai (word_at ki.jl)) (k _ (s7.trans s10))
end
end J
namespace J
open PySem L2
open PySem.NumText
structure Rn where
 a:Nat
 c:Nat
def sg:List Nat:=[46,65,66,67,68,69,70,71,47]
def CQ(H:Hp)(t:Addr)(r:Rn):Prop:=H t=some (.tup [.int r.a,.str ⟨#[r.c]⟩])
structure QM(r:Rn):Prop where
 a1:1<=r.a
 a2:r.a<10^13
 c:r.c∈sg
def amt(u:List Nat):Option Nat:=if u=[]then some 1 else if 13<u.length\/u.head?=some 48\/u=[49]then none else some (digitsVal u)
def prs(u:List Nat):List Nat->Option (List Rn)
 |[]=>if u=[]then some []else none
 |c::t=>if Nu.dig c=true then prs (u++[c]) t else if c∈sg then(amt u).bind λa=>(prs [] t).map (⟨a,c⟩ :: ·)else none
theorem sg_dig:∀c∈sg,Nu.dig c=false:=by decide
theorem OI(u:List Nat):∀(d t:List Nat),d.all Nu.dig=true->prs u (d++t)=prs (u++d) t
 |[],t,_=>by rw[N4,List.nil_append]
 |c::d,t,h=>by
  rw[T5,O1]at h;show prs u (c::(d++t))=_;rw[prs,Z6 h.1,OI (u++[c]) d t h.2,M4];rfl
theorem Id{u t:List Nat}{c:Nat}(h:c∈sg):prs u (c::t)=(amt u).bind λa=>(prs [] t).map (⟨a,c⟩ :: ·):=by
 rw[prs,Z5 (by rw[sg_dig c h];decide),Z6 h]
theorem Jx{u t:List Nat}{c:Nat}(h:Nu.dig c=false)(n:c∉sg):prs u (c::t)=none:=by
 rw[prs,Z5 (by rw[h];decide),Z5 n]
theorem Ux:∀(k:Nat){cs:List Nat},cs.all Nu.dig=true->k<=cs.length->digitsVal (cs.take k)<10^k/\(cs.head?≠some 48->1<=k->10^(k-1)<=digitsVal (cs.take k))
 |0,cs,_,_=>⟨by rw[List.take_zero];decide,λ_ h=>by lia⟩
 |k+1,cs,h,hk=>by
  obtain⟨i1,i2⟩:=Ux k h A0;have hd:Nu.dig cs[k]=true:=M9.mp h _ (N7 _);have e:=Nu.Uv (C0 (show k<cs.length by lia)) hd;have d1:48<=cs[k]/\cs[k]<=57:=by
   unfold Nu.dig at hd
   simpa using hd
  have e:digitsVal (cs.take (k+1))=10*digitsVal (cs.take k)+(cs[k]-48):=by lia
  have p:(10:Nat)^(k+1)=10*10^k:=by rw[R3];lia
  refine⟨by lia,λhn _=>?_⟩;cases k with
  |zero =>
   have:cs[0]≠48:=λz=>hn (by rw[List.head?_eq_getElem?,C0 A0,z]);show 1<=_;lia
  |succ k =>
   have:=i2 hn A0;have q:(10:Nat)^(k+1)=10*10^k:=by rw[R3];lia
   show 10^(k+1)<=_;have:10^k<=digitsVal (cs.take (k+1)):=this;lia
theorem RX{cs:List Nat}(h:cs.all Nu.dig=true):digitsVal cs<10^cs.length/\(cs.head?≠some 48->cs≠[]->10^(cs.length-1)<=digitsVal cs):=by
 have:=Ux cs.length h (B1 _);rw[M8]at this;refine⟨this.1,λa b=>this.2 a ?_⟩;cases cs with
 |nil=>exact absurd rfl b
 |cons=>rw[C4];lia
theorem WB{u:List Nat}{a:Nat}(hd:u.all Nu.dig=true)(h:amt u=some a):1<=a/\a<10^13:=by
 unfold amt at h;by_cases e:u=[]
 ·rw[Z6 e]at h;cases h;decide
 ·rw[Z5 e]at h;by_cases z:13<u.length\/u.head?=some 48\/u=[49]
  ·rw[Z6 z]at h;cases h
  ·rw[Z5 z]at h;cases h;obtain⟨v1,v2⟩:=RX hd;have v2:=v2 (λq=>z (.inr (.inl q))) e;have l13:u.length<=13:=O5 λq=>z (.inl q);have:=W9 (show 0<10 by decide) l13;have:=Nat.pow_pos (n:=u.length-1) (show 0<10 by decide);lia
theorem OH:∀{t u:List Nat}{rs:List Rn},u.all Nu.dig=true->prs u t=some rs->(∀r∈rs,QM r)/\rs.length<=t.length
 |[],u,rs,hu,h=>by
  rw[prs]at h;split at h
  ·cases h;exact⟨λr hr=>(nomatch hr),B1 _⟩
  ·cases h
 |c::t,u,rs,hu,h=>by
  by_cases hd:Nu.dig c=true
  ·rw[prs,Z6 hd]at h;obtain⟨h1,h2⟩:=OH (by rw[W7,hu,T5,hd];rfl) h;exact⟨h1,Y7 h2⟩
  by_cases hs:c∈sg
  ·rw[Id hs]at h;obtain⟨a,ea,h⟩:=R8.mp h;obtain⟨rs',er,rfl⟩:=F4.mp h;obtain⟨h1,h2⟩:=OH (u:=[]) rfl er;obtain⟨a1,a2⟩:=WB hu ea;refine⟨λr hr=>?_,S7 h2⟩;rcases B7.mp hr with rfl|hr
   ·exact⟨a1,a2,hs⟩
   ·exact h1 r hr
  ·rw[Jx (by simpa using hd) hs]at h;cases h
def isL(c:Nat):Bool:=decide (65<=c) && decide (c<=71)
def nL(t:List Nat):Nat:=(t.filter isL).length
def Lt(c:Nat):Prop:=c≠46/\c≠47
def ltr(rs:List Rn):Nat:=(rs.filter λr=>isL r.c).length
theorem LS:∀{t u:List Nat}{rs:List Rn},prs u t=some rs->ltr rs<=nL t
 |[],u,rs,h=>by
  rw[prs]at h;split at h
  ·cases h;exact B1 _
  ·cases h
 |c::t,u,rs,h=>by
  have up:nL t<=nL (c::t):=by
   unfold nL;rw[S8];split
   ·rw[C4];lia
   ·exact B1 _
  by_cases hd:Nu.dig c=true
  ·rw[prs,Z6 hd]at h;exact C8 (LS h) up
  by_cases hs:c∈sg
  ·rw[Id hs]at h;obtain⟨a,ea,h⟩:=R8.mp h;obtain⟨rs',er,rfl⟩:=F4.mp h;have ih:=LS er;unfold ltr nL at *
   rw[S8,S8];by_cases z:isL c=true
   ·rw[Z6 z,Z6 z,C4,C4];lia
   ·rw[Z5 z,Z5 z];exact ih
  ·rw[Jx (by simpa using hd) hs]at h;cases h
def plN(t:List Nat):Option Int:=(Nu.due t).bind λn=>if n.natAbs<=9999999999999 then some n else none
def BC(c:Nat):List Nat->Option (List Nat×List Nat)
 |[]=>none
 |d::t=>if d=c then some ([],t)else(BC c t).map λp=>(d::p.1,p.2)
theorem BU{c:Nat}:∀{t a b:List Nat},BC c t=some (a,b)->t=a++c::b/\c∉a
 |d::t,a,b,h=>by
  unfold BC at h;by_cases e:d=c
  ·rw[Z6 e]at h;cases h;exact⟨by rw[e];rfl,λz=>nomatch z⟩
  ·rw[Z5 e]at h;obtain⟨⟨a',b'⟩,e1,e2⟩:=F4.mp h;cases e2;obtain⟨h1,h2⟩:=BU e1;exact⟨by rw[h1];rfl,λz=>by
    rcases B7.mp z with z|z
    ·exact e z.symm
    ·exact h2 z⟩
theorem EW{c:Nat}:∀{t:List Nat},BC c t=none->c∉t
 |[],_=>λz=>nomatch z
 |d::t,h=>by
  unfold BC at h;by_cases e:d=c
  ·rw[Z6 e]at h;cases h
  ·rw[Z5 e]at h;have:=EW (Option.map_eq_none_iff.mp h);intro z;rcases B7.mp z with z|z
   ·exact e z.symm
   ·exact this z
def Fc(t:List Nat):Option (Int×Int×List Rn):=(BC 58 t).bind λp=>(BC 44 p.1).bind λq=>(plN q.1).bind λx=>(plN q.2).bind λy=>(prs [] p.2).map λrs=>(x,y,rs)
seal L2.PA L2.PE L2.PS L2.PSs L2.PT L2.PW
open PySem.NumText
theorem RA(K:W.Frag):kitOne K (.type "str") (.type "str")=some true:=by kernel_rfl
def NoTx(K:W.Frag)(H:Hp)(v:V):Prop:=∃t,JO K H v (.type t)/\kitOne K (.type t) (.type "str")=some false
abbrev runS:Str:=Str.ofString ".ABCDEFG/"
theorem in_sg(c:Nat):(!(Builtin.Str.occurrences runS ⟨#[c]⟩ 0 runS.length 1).isEmpty)=decide (c∈sg):=by
 rw[A4g,show runS.cps.toList=sg by decide +kernel]
theorem Sf{z:Str}(h:z.cps.toList=[]):z=Str.ofString "" := Nu.ext (by rw[h];decide +kernel)
theorem Pr{u:List Nat}(hd:u.all Nu.dig=true)(ne:u≠[])(l:u.length<=30)(h:u.head?≠some 48):Nu.due u=some ((digitsVal u:Nat):Int):=by
 have np:Nu.neg u=false:=by
  cases q:Nu.neg u with
  |false=>rfl
  |true =>
   obtain⟨_,e⟩:=Nu.CB q;rw[e,T5]at hd;simp[Nu.dig]at hd
 have fu:=Nu.CZ np;unfold Nu.due;rw[fu,Z5,Z6 hd,Z5 (by rw[np];decide)];rintro(q|q|q)
 ·exact ne q
 ·lia
 ·exact h q.1
section
variable{P:Program}{w:World}{K:W.Frag}{mg:Str->Option Value}{base:Heap}{a:Ad}
theorem Dp(T:Top K mg a):KiW K a a.x_NoPattern 10:=⟨T.ec_NoPattern,T.ef_NoPattern,T.mr_NoPattern,T.kv_NoPattern,by decide,T.ki_NoPattern_NoNumber,T.ki_NoPattern_NoRule,T.ki_NoPattern_Restless,T.ki_NoPattern_NoSquare,T.ki_NoPattern_NoLevel,T.ki_NoPattern_NoState,T.ki_NoPattern_NoBox,T.ki_NoPattern_TooFar,T.ki_NoPattern_TooMany,T.ki_NoPattern_NoSteps,T.ki_NoPattern_NoPattern,T.ki_NoPattern_NoName,T.ki_NoPattern_NoRow⟩
inductive SpAmt(K:W.Frag)(a:Ad)(vs:List V)(H:Hp)(Q:VK)(E:XK):Prop
 |mk (z:Str) (_:vs=[.str z]) (_:z.length<=10000) (_:z.cps.toList.all Nu.dig=true) (_:∀n,amt z.cps.toList=some n->Q (.int n) H) (_:amt z.cps.toList=none->∀c,KiW K a c 10->E (.ref c) none H):SpAmt K a vs H Q E
def UW(K:W.Frag)(a:Ad):Sp:=λvs H Q E=>SpAmt K a vs H Q E
theorem ok_amt{f:Addr}{fd:FuncData}(F:Fun K "read_amount" "read_amount" Fy f fd)(T:Top K mg a):AO P w K mg base (CXE P w) 1 f fd FK (UW K a):=by
 refine F.okE Mj (λvs H Q E h=>?_) (λcdv A outer s H vs Q E hr h=>?_)
 ·obtain⟨z,rfl,_⟩:=h;rfl
 ·apply Ay;intro G_ hG_;obtain⟨z,rfl,zl,hd,k1,k2⟩:=h;apply hG_;clear hG_ G_;refine⟨_,(Ab (AB (Ak Bg (pv 0) AJ (An _)) (Af (Am Ae)) Ap) (Ab (AB (PW.pt (BM (Ak DM (As BN rfl T.b_len K0 (Aa (pv 0) Ac)) (Ct rfl T.k_MOST_AMOUNT_FIGURES) (An _)) (BM (Ak Bg (At FU (pv 0) Ae (λ_ _=>rfl)) AJ (An _)) (BE (Ak Bg (pv 0) AJ (An _)))))) (Af (BS Ch rfl rfl T.mx_NoPattern T.ec_NoPattern (AA Ac))) Ap) (Af (Am (Ck CP rfl T.b_int A0b (Aa (pv 0) Ac)))))),?_⟩
  try dsimp only[cxK]
  have len:=Nu.len z;refine AL ?_;intro r1 s1 k hk E1;refine xq1 rfl ⟨rfl,(xq1 rfl ?_)⟩;by_cases ze:z.cps.toList=[]
  ·rw[Sf ze,Z3 rfl];refine AI (k1 1 ?_);unfold amt;rw[Z6 ze]
  ·rw[Z4 (by
    intro q;injection q with q
    exact ze (by rw[q];decide +kernel))]
   refine AE ?_;refine hk ?_;obtain⟨c,r,ec⟩:∃c r,z.cps.toList=c::r:=by
    cases e:z.cps.toList with
    |nil=>exact absurd e ze
    |cons c r=>exact⟨c,r,rfl⟩
   have l1:1<=z.length:=by rw[len,ec];exact S7 (F5 _)
   refine AL ?_;intro r2 s2 k' hk' E2;have am:amt z.cps.toList=if 13<z.cps.toList.length\/z.cps.toList.head?=some 48\/z.cps.toList=[49]then none else some (digitsVal z.cps.toList):=Z5 ze;have no:(13<z.cps.toList.length\/z.cps.toList.head?=some 48\/z.cps.toList=[49])->amt z.cps.toList=none:=λq=>by rw[am,Z6 q]
   refine xq1 rfl ⟨z,rfl,BB A0,(xq2 rfl rfl (xq1 rfl ?_))⟩;by_cases b1:13<z.cps.toList.length
   ·rw[Z3 (show(13:Int)<(z.length:Int) by lia)];exact AI (AI ⟨by show 1<=100;decide,k2 (no (.inl b1)) _ (Dp T)⟩)
   rw[Z4 (show ¬(13:Int)<(z.length:Int) by lia)];refine AE (xq1 rfl ⟨z,0,c,rfl,rfl,BB A0,Ai (j:=0) (by rw[ec];rfl),rfl,(xq1 rfl ?_)⟩);have s0:decide (V.str ⟨#[c]⟩=V.str (Str.ofString "0"))=decide (c=48):=by
    by_cases e:c=48
    ·rw[Z3 e];exact Z3 (X4 V.str (Nu.ext (by rw[e];decide +kernel)))
    ·rw[Z4 e];refine Z4 λq=>e ?_;injection q with q
     have:=X4 (λs:Str=>s.cps.toList) q;rw[show(Str.ofString "0").cps.toList=[48] by decide +kernel]at this;injection this
   rw[s0];by_cases b2:c=48
   ·rw[Z3 b2];exact AI (AI ⟨by show 1<=100;decide,k2 (no (.inr (.inl (by rw[ec,b2];rfl)))) _ (Dp T)⟩)
   rw[Z4 b2];refine AE (xq1 rfl ⟨rfl,(xq1 rfl ?_)⟩);by_cases b3:z.cps.toList=[49]
   ·rw[Z3 (X4 V.str (Nu.ext (by rw[b3];decide +kernel)))];exact AI ⟨by show 1<=100;decide,k2 (no (.inr (.inr b3))) _ (Dp T)⟩
   rw[Z4 (by
    intro q;injection q with q
    exact b3 (by rw[q];decide +kernel))]
   refine AE ?_;have ok:¬(13<z.cps.toList.length\/z.cps.toList.head?=some 48\/z.cps.toList=[49]):=by
    rintro(q|q|q)
    ·exact b1 q
    ·rw[ec]at q;exact b2 (X2 q)
    ·exact b3 q
   refine hk' ?_;refine xq1 rfl ⟨z,(xq1 rfl ⟨Nu.Pl (Pr hd ze A0 λq=>ok (.inr (.inl q))),by lia,k1 _ ?_⟩)⟩;rw[am,Z5 ok]
inductive RO(K:W.Frag)(a:Ad)(vs:List V)(H:Hp)(Q:VK)(E:XK):Prop
 |mk (x:Str) (_:vs=[.str x]) (_:x.length<=10000) (_:∀rs,prs [] x.cps.toList=some rs->∀(L:Addr)(ts:List Addr)(H':Hp),H L=none->Aw H H'->H' L=some (.lst (ts.map V.ref))->Paired (CQ H') ts rs->Q (.ref L) H') (_:prs [] x.cps.toList=none->∀(c:Addr)(H':Hp),KiW K a c 10->Aw H H'->E (.ref c) none H'):RO K a vs H Q E
 |no (v:V) (_:vs=[v]) (_:NoTx K H v) (_:∀(c:Addr),KiW K a c 10->E (.ref c) none H):RO K a vs H Q E
def Mh(K:W.Frag)(a:Ad):Sp:=λvs H Q E=>RO K a vs H Q E
theorem ok_read{f:Addr}{fd:FuncData}(F:Fun K "read_runs" "read_runs" GX f fd)(T:Top K mg a)(aZ:Cal P w K mg base (CXE P w) 1 "read_amount" FK (UW K a)):AO P w K mg base (CXE P w) 2 f fd Fl (Mh K a):=by
 refine F.okE Bq (λvs H Q E h=>?_) (λcdv A outer s H vs Q E hr h=>?_)
 ·cases h with
  |mk x e _ _ _=>rw[e];rfl
  |no v e _ _=>rw[e];rfl
 ·cases h with
  |no v e nt k =>
   subst e;obtain⟨t,ty,kt⟩:=nt;refine⟨_,(Ab (AB (Bp (AZ (As AS rfl T.b_isinstance Z7 (Aa (pv 0) (Aa (CT (v:=.ty "str") rfl T.b_str A0c rfl) Ac))))) (Af (BS Ch rfl rfl T.mx_NoPattern T.ec_NoPattern (AA Ac))) Ap) (Ab (Ah (i:=1) Bq.nd rfl (Or.inl rfl) (BF Ac)) (Ab (Ah (i:=2) Bq.nd rfl (Or.inl rfl) AJ) (Ab (Ci PassesOwn.leaving rfl (OL (pv 0)) (AF (i:=3) Bq.nd rfl (Or.inl rfl)) (Af (AB (Ak Er (pv 3) (Fk rfl T.k_FIGURES) rfl) (Af (Ah (i:=2) Bq.nd rfl (Or.inl rfl) (Ao Bk (pv 2) (pv 3)))) (Af (AB (Ak Er (pv 3) (Fk rfl T.k_RUN_SIGNS) rfl) (Ab (Co (Cc X9 K2 K3 CJ (pv 1) (Cn (Aa (Aq aZ (rm hr) rfl Ii (Aa (pv 2) Ac)) (Aa (pv 3) Ac)) Ac))) (Af (Ah (i:=2) Bq.nd rfl (Or.inl rfl) AJ))) (Af (BS Ch rfl rfl T.mx_NoPattern T.ec_NoPattern (AA Ac)))))))) (Ab (AB (Ak Dt (pv 2) AJ (An _)) (Af (BS Ch rfl rfl T.mx_NoPattern T.ec_NoPattern (AA Ac))) Ap) (Af (Am (pv 1)))))))),?_⟩
   try dsimp only[cxK]
   exact xq1 rfl ⟨_,_,_,.type t,false,rfl,rfl,.of ty,kt,false,rfl,AI ⟨by show 1<=100;decide,k _ (Dp T)⟩⟩
  |mk x e xl k1 k2 =>
   subst e;refine⟨_,(Ab (AB (Bp (AZ (As AS rfl T.b_isinstance Z7 (Aa (pv 0) (Aa (CT (v:=.ty "str") rfl T.b_str A0c rfl) Ac))))) (Af (BS Ch rfl rfl T.mx_NoPattern T.ec_NoPattern (AA Ac))) Ap) (Ab (Ah (i:=1) Bq.nd rfl (Or.inl rfl) (BF Ac)) (Ab (Ah (i:=2) Bq.nd rfl (Or.inl rfl) AJ) (Ab (Ci PassesOwn.leaving rfl (OL (pv 0)) (AF (i:=3) Bq.nd rfl (Or.inl rfl)) (Af (AB (Ak Er (pv 3) (Fk rfl T.k_FIGURES) rfl) (Af (Ah (i:=2) Bq.nd rfl (Or.inl rfl) (Ao Bk (pv 2) (pv 3)))) (Af (AB (Ak Er (pv 3) (Fk rfl T.k_RUN_SIGNS) rfl) (Ab (Co (Cc X9 K2 K3 CJ (pv 1) (Cn (Aa (Aq aZ (rm hr) rfl Ii (Aa (pv 2) Ac)) (Aa (pv 3) Ac)) Ac))) (Af (Ah (i:=2) Bq.nd rfl (Or.inl rfl) AJ))) (Af (BS Ch rfl rfl T.mx_NoPattern T.ec_NoPattern (AA Ac)))))))) (Ab (AB (Ak Dt (pv 2) AJ (An _)) (Af (BS Ch rfl rfl T.mx_NoPattern T.ec_NoPattern (AA Ac))) Ap) (Af (Am (pv 1)))))))),?_⟩
   try dsimp only[cxK]
   refine AL ?_;intro r1 s1 k hk E1;refine xq1 rfl ⟨_,_,_,.type "str",true,rfl,rfl,.of (.str x),RA K,true,rfl,AE ?_⟩;refine hk ?_;refine AL ?_;intro r2 s2 k' hk' E2;refine⟨(by show 0<=sizeLine;decide),λL hL=>?_⟩;have s1':=Al (o:=.lst []) hL;have hL1:upd H L (.lst []) L=some (.lst []):=Ag;generalize upd H L (.lst [])=H1 at s1' hL1⊢;refine hk' ?_;refine AL ?_;intro r3 s3 k3 hk3 E3;refine hk3 ?_;refine AL ?_;intro r4 s4 k4 hk4 E4;refine xq1 rfl ⟨x,rfl,?_⟩;have xlen:=Nu.len x;refine SF (x:=x) (λi σ H2=>∃(z:Str)(ts:List Addr)(rs:List Rn)(u3:Option V),σ=[some (.str x),some (.ref L),some (.str z),u3]/\z.cps.toList.all Nu.dig=true/\z.length<=i/\rs.length<=i/\prs [] x.cps.toList=(prs z.cps.toList (x.cps.toList.drop i)).map (rs ++ ·)/\Aw H H2/\H2 L=some (.lst (ts.map V.ref))/\Paired (CQ H2) ts rs) ⟨Str.ofString "",[],[],none,rfl,by decide +kernel,B1 _,B1 _,?_,s1',hL1,.nil⟩ ?_ ?_
   ·rw[show(Str.ofString "").cps.toList=[] by decide +kernel,List.drop_zero];cases prs [] x.cps.toList<;>rfl
   ·rintro i c σ H2 ec z5_;apply Ay;intro G_ hG_;obtain⟨z,ts,rs,u3,rfl,hd,zl,rl,hp,sm,hL2,pr⟩:=z5_;apply hG_;clear hG_ G_;have ec':x.cps.toList[i]?=some c:=by
     rw[F3];exact ec
    have il:i<x.cps.toList.length:=(B8.mp ec').1;have ed:x.cps.toList.drop i=c::x.cps.toList.drop (i+1):=by
     rw[P5 il,(B8.mp ec').2]
    rw[ed]at hp;have lts:=A0a pr;refine xwb rfl rfl rfl (xq1 rfl ?_);rw[Nu.IH c];by_cases cd:Nu.dig c=true
    ·rw[cd];refine AI (xw2 rfl rfl (xq2 rfl rfl ⟨BB (by show z.length+1<=10000000;lia),?_⟩));rw[prs,Z6 cd]at hp;refine⟨_,ts,rs,(xq1 rfl ⟨?_,?_,by lia,?_,sm,hL2,pr⟩)⟩
     ·rw[Tx.Bw,W7,hd,T5,cd];rfl
     ·rw[Tx.Eo];show z.length+1<=_;lia
     ·rw[Tx.Bw];exact hp
    ·have cd:Nu.dig c=false:=by simpa using cd
     rw[cd];refine AE (xwb rfl rfl rfl (xq1 rfl ?_));rw[in_sg c];by_cases cs:c∈sg
     ·rw[Z3 cs];rw[Id cs]at hp;refine AI (xq1 rfl ⟨.inl ⟨rfl,_,SqL.of hL2⟩,(xq1 rfl ⟨z,rfl,by lia,hd,λn en=>?_,λen c' ki=>?_⟩)⟩)
      ·rw[en]at hp;refine xq1 rfl ⟨(by show 2<=sizeLine;decide),λt ht=>?_⟩;have s3:=Al (o:=.tup [.int n,.str ⟨#[c]⟩]) ht;have ht3:CQ (upd H2 t (.tup [.int n,.str ⟨#[c]⟩])) t ⟨n,c⟩:=Ag;generalize upd H2 t (.tup [.int n,.str ⟨#[c]⟩])=H3 at s3 ht3⊢;have hL3:=s3 _ _ hL2;refine⟨L,(xq2 rfl rfl ⟨hL3,by rw[B0];exact Du A0,?_⟩)⟩;have tp:∀{b:Addr}{ys:List V},H3 b=some (.tup ys)->upd H3 L (.lst (ts.map V.ref++[.ref t])) b=some (.tup ys):=λ{b ys} e=>by rw[AD (Bc e hL3 A4)];exact e
       refine⟨Str.ofString "",ts++[t],rs++[⟨n,c⟩],(xq1 rfl ⟨by decide +kernel,F5 _,by rw[B5];exact S7 rl,?_,λb o e=>?_,by rw[Ag,D5];rfl,A5c (PairedM.imp (λb c z=>tp (s3 _ _ z)) pr) (show CQ _ t ⟨n,c⟩from tp ht3)⟩)⟩
       ·rw[hp,show(Str.ofString "").cps.toList=[] by decide +kernel];show((prs [] (x.cps.toList.drop (i+1))).map (⟨n,c⟩ :: ·)).map (rs ++ ·)=_;cases prs [] (x.cps.toList.drop (i+1))with
        |none=>rfl
        |some l=>show some (rs++⟨n,c⟩::l)=some (rs++[⟨n,c⟩]++l);rw[M4];rfl
       ·rw[AD (Ax e hL)];exact s3 _ _ (sm _ _ e)
      ·rw[en]at hp;exact k2 hp c' H2 ki sm
     ·rw[Z4 cs];rw[Jx cd cs]at hp;exact AE ⟨by show 1<=100;decide,k2 hp _ H2 (Dp T) sm⟩
   ·rintro σ H2 z2_;apply Ay;intro G_ hG_;obtain⟨z,ts,rs,u3,rfl,hd,zl,rl,hp,sm,hL2,pr⟩:=z2_;apply hG_;clear hG_ G_;rw[List.drop_of_length_le (by rw[C3];exact B1 _),prs]at hp;refine hk4 ?_;refine AL ?_;intro r5 s5 k5 hk5 E5;refine xq1 rfl ⟨rfl,(xq1 rfl ?_)⟩;by_cases ze:z.cps.toList=[]
    ·rw[Z6 ze]at hp;have hp:prs [] x.cps.toList=some (rs++[]):=hp;rw[N4]at hp;rw[Sf ze,show(!decide (V.str (Str.ofString "")=V.str (Str.ofString "")))=false by rw[Z3 rfl];rfl];refine AE ?_;refine hk5 ?_;exact xq1 rfl (k1 rs hp L ts H2 hL sm hL2 pr)
    ·rw[Z5 ze]at hp;rw[show(!decide (V.str z=V.str (Str.ofString "")))=true by
      rw[Z4 (by
       intro q;injection q with q
       exact ze (by rw[q];decide +kernel))]
      rfl]
     exact AI ⟨by show 1<=100;decide,k2 hp _ H2 (Dp T) sm⟩
end
open PySem.NumText
def IT(u:List Nat):Bool:=if u=[]\/30<u.length\/u.head?=some 48 then false else u.all Nu.dig
section
variable{P:Program}{w:World}{K:W.Frag}{mg:Str->Option Value}{base:Heap}{a:Ad}
inductive SpMin(vs:List V)(H:Hp)(Q:VK):Prop
 |mk (x:Str) (_:vs=[.str x]) (_:x.length<=10000) (_:∀y:Str,y.cps.toList=Nu.fig x.cps.toList->Q (.str y) H):SpMin vs H Q
def UM:Sp:=λvs H Q _=>SpMin vs H Q
theorem ok_min{f:Addr}{fd:FuncData}(F:Fun K "without_minus" "without_minus" DV f fd)(T:Top K mg a):AO P w K mg base CX0 1 f fd Ec UM:=by
 refine F.ok JR (λvs H Q E h=>?_) (λcdv A outer s H vs Q E hr h=>?_)
 ·obtain⟨x,rfl,_⟩:=h;rfl
 ·apply Ay;intro G_ hG_;obtain⟨x,rfl,hx,k⟩:=h;apply hG_;clear hG_ G_;refine⟨_,(Ab (AB (AZ (Cc X6 PySem.F.slot_str_startswith PySem.F.type_str_startswith Np (pv 0) (AA Ac))) (Af (Am (BW Di (pv 0) (Cp Ae) Cr))) Ap) (Af (Am (pv 0)))),?_⟩
  try dsimp only[cxK]
  refine xq1 rfl ⟨rfl,(xq2 rfl rfl (xq1 rfl ?_))⟩;show if Txt.startswith x (Str.ofString "-")=true then _ else _;rw[Nu.starts];refine GH (λhn=>?_) (λhn=>?_)
  ·refine xw2 rfl rfl ⟨x,rfl,C8 hx A3,?_⟩;exact k _ (by rw[Nu.cut1',(Nu.CB hn).1])
  ·exact xq1 rfl (k x (Nu.CZ (by simpa using hn)).symm)
inductive SpFig(vs:List V)(H:Hp)(Q:VK):Prop
 |mk (x:Str) (_:vs=[.str x]) (_:x.length<=10000) (_:∀H',Aw H H'->Q (.bl (IT x.cps.toList)) H'):SpFig vs H Q
def UU:Sp:=λvs H Q _=>SpFig vs H Q
theorem ok_fig{f:Addr}{fd:FuncData}(F:Fun K "are_figures" "are_figures" DJ f fd)(T:Top K mg a):AO P w K mg base CX0 1 f fd FL UU:=by
 refine F.ok Mm (λvs H Q E h=>?_) (λcdv A outer s H vs Q E hr h=>?_)
 ·obtain⟨x,rfl,_⟩:=h;rfl
 ·apply Ay;intro G_ hG_;obtain⟨x,rfl,hx,k⟩:=h;apply hG_;clear hG_ G_;have hl:=Nu.len x;have no:(x.cps.toList=[]\/30<x.cps.toList.length\/x.cps.toList.head?=some 48)->IT x.cps.toList=false:=λq=>Z6 q;refine⟨_,(Ab (AB (PW.pt (BM (Ak Fq (As BN rfl T.b_len K0 (Aa (pv 0) Ac)) Ae (An _)) (BM (Ak DM (As BN rfl T.b_len K0 (Aa (pv 0) Ac)) (Ct rfl T.k_MOST_FIGURES) (An _)) (BE (Ak Bg (At FU (pv 0) Ae (λ_ _=>rfl)) AJ (An _)))))) (Af (Am Db)) Ap) (Af (Am (As (Wv rfl) rfl T.b_all PyProof.Rows.boot_all (Aa (LT rfl (Eh.of (So:=Aj DJ) (No:=IS) (N:=["sign"]) (k:=1) (cs:=[]) rfl rfl A1) (OL (pv 0)) (λ_ _ _=>(Ie (i:=0) A1 rfl rfl)) (λ_ _ _=>Jv) (λ_ _ _=>(Bv Er (pv 0) (Fk rfl T.k_FIGURES) rfl))) Ac))))),?_⟩
  try dsimp only[cxK]
  refine AL ?_;intro r1 s1 k1 hk1 E1;refine xq1 rfl ⟨x,rfl,BB A0,(xq2 rfl rfl (xq1 rfl ?_))⟩;by_cases z:x.cps.toList=[]
  ·rw[Z3 (show(x.length:Int)<1 by rw[hl,z];decide)];refine AI (AI ?_);have:=k H (Aw.refl H);rw[no (.inl z)]at this;exact this
  have l1:1<=x.length:=by
   rw[hl];cases e:x.cps.toList with
   |nil=>exact absurd e z
   |cons=>exact S7 (F5 _)
  rw[Z4 (by lia:¬(x.length:Int)<1)];refine AE (xq1 rfl ⟨x,rfl,BB A0,(xq2 rfl rfl (xq1 rfl ?_))⟩);by_cases z2:30<x.cps.toList.length
  ·rw[Z3 (by lia:(30:Int)<(x.length:Int))];refine AI (AI ?_);have:=k H (Aw.refl H);rw[no (.inr (.inl z2))]at this;exact this
  rw[Z4 (by lia:¬(30:Int)<(x.length:Int))];obtain⟨c,r,ec⟩:∃c r,x.cps.toList=c::r:=by
   cases e:x.cps.toList with
   |nil=>exact absurd e z
   |cons c r=>exact⟨c,r,rfl⟩
  refine AE (xq1 rfl ⟨x,0,c,rfl,rfl,BB A0,Ai (j:=0) (by rw[ec];rfl),rfl,(xq1 rfl ?_)⟩);have s0:decide (V.str ⟨#[c]⟩=V.str (Str.ofString "0"))=decide (c=48):=by
   by_cases e:c=48
   ·rw[Z3 e];exact Z3 (X4 V.str (Nu.ext (by rw[e];decide +kernel)))
   ·rw[Z4 e];refine Z4 λq=>e ?_;injection q with q
    have:=X4 (λs:Str=>s.cps.toList) q;rw[show(Str.ofString "0").cps.toList=[48] by decide +kernel]at this;injection this
  rw[s0];by_cases z3:c=48
  ·rw[Z3 z3];refine AI ?_;have:=k H (Aw.refl H);rw[no (.inr (.inr (by rw[ec,z3];rfl)))]at this;exact this
  rw[Z4 z3];refine AE ?_;refine hk1 ?_;have yes:IT x.cps.toList=x.cps.toList.all Nu.dig:=Z5 (by
   rintro(q|q|q)
   ·exact z q
   ·exact z2 q
   ·rw[ec]at q;exact z3 (X2 q))
  refine xq1 rfl ⟨x,rfl,?_⟩;refine blk_str (λi acc H2=>H2=H/\acc=((x.cps.toList.take i).map Nu.dig).map V.bl) ⟨rfl,rfl⟩ ?_ ?_
  ·rintro i ch acc H2 hch ⟨rfl,rfl⟩;have hi:i<x.cps.toList.length:=(B8.mp hch).1;refine⟨⟨[some (.str ⟨#[ch]⟩)],rfl,rfl⟩,by rw[B0,B0,N6];exact Du A0,Uz (xwb rfl rfl rfl ⟨rfl,?_⟩)⟩;rw[Nu.IH,J1,hch,U8,D5,D5];rfl
  ·rintro acc H2 ⟨rfl,rfl⟩ q nq;rw[M8];refine⟨q,(xq1 rfl ⟨SqL.of Ag,?_⟩)⟩;have:=k _ (Al (o:=.lst ((x.cps.toList.map Nu.dig).map V.bl)) nq);rw[yes]at this;rw[show(x.cps.toList.map Nu.dig).all id=x.cps.toList.all Nu.dig by rw[List.all_map];rfl];exact this
inductive SpRW(a:Ad)(vs:List V)(H:Hp)(Q:VK)(E:XK):Prop
 |mk (x:Str) (_:vs=[.str x]) (_:x.length<=10000) (_:∀n,Nu.due x.cps.toList=some n->∀H',Aw H H'->Q (.int n) H') (_:Nu.due x.cps.toList=none->∀H',Aw H H'->E (.ref a.x_NoNumber) none H'):SpRW a vs H Q E
def spRW(a:Ad):Sp:=λvs H Q E=>SpRW a vs H Q E
theorem Wk:Nu.due [48]=some 0:=by decide +kernel
theorem Wl{t:List Nat}(h:t≠[48]):Nu.due t=if IT (Nu.fig t)=true then some (if Nu.neg t=true then -((digitsVal (Nu.fig t):Nat):Int)else((digitsVal (Nu.fig t):Nat):Int))else none:=by
 unfold Nu.due IT;by_cases z:Nu.fig t=[]\/30<(Nu.fig t).length\/(Nu.fig t).head?=some 48
 ·have z':Nu.fig t=[]\/30<(Nu.fig t).length\/((Nu.fig t).head?=some 48/\t≠[48]):=by
   rcases z with z|z|z
   ·exact .inl z
   ·exact .inr (.inl z)
   ·exact .inr (.inr ⟨z,h⟩)
  rw[Z6 z,Z6 z'];rfl
 ·rw[Z5 z,Z5];rintro(q|q|q)
  ·exact z (.inl q)
  ·exact z (.inr (.inl q))
  ·exact z (.inr (.inr q.1))
theorem ok_rw{f:Addr}{fd:FuncData}(F:Fun K "read_whole" "read_whole" Gi f fd)(T:Top K mg a)(b9:Cal P w K mg base CX0 1 "without_minus" Ec UM)(bK:Cal P w K mg base CX0 1 "are_figures" FL UU):AO P w K mg base (CXE P w) 2 f fd Gw (spRW a):=by
 refine F.okE MY (λvs H Q E h=>?_) (λcdv A outer s H vs Q E hr h=>?_)
 ·obtain⟨x,rfl,_⟩:=h;rfl
 ·apply Ay;intro G_ hG_;obtain⟨x,rfl,xl,k1,k2⟩:=h;apply hG_;clear hG_ G_;have hl:=Nu.len x;refine⟨_,(Ab (AB (Bp (AZ (As AS rfl T.b_isinstance Z7 (Aa (pv 0) (Aa (CT (v:=.ty "str") rfl T.b_str A0c rfl) Ac))))) (Af (BS Ch rfl rfl T.mx_NoNumber T.ec_NoNumber (AA Ac))) Ap) (Ab (AB (Ak Bg (pv 0) AJ (An _)) (Af (Am Ae)) Ap) (Ab (AB (Bp (AZ (Aq bK (rm hr) rfl Ar (Aa (Aq b9 (rm hr) rfl Ar (Aa (pv 0) Ac)) Ac)))) (Af (BS Ch rfl rfl T.mx_NoNumber T.ec_NoNumber (AA Ac))) Ap) (Af (Am (Ck CP rfl T.b_int A0b (Aa (pv 0) Ac))))))),?_⟩
  try dsimp only[cxK]
  refine xq1 rfl ⟨_,_,_,.type "str",true,rfl,rfl,.of (.str x),RA K,true,rfl,AE (xq1 rfl ⟨rfl,(xq1 rfl ?_)⟩)⟩;by_cases z:x.cps.toList=[48]
  ·rw[Z3 (X4 V.str (Nu.ext (by rw[z];decide +kernel)))];exact AI (k1 0 (by rw[z];exact Wk) H (Aw.refl H))
  rw[Z4 (by
   intro q;injection q with q
   exact z (by rw[q];decide +kernel))]
  have du:=Wl z;have fl:(Nu.fig x.cps.toList).length<=x.cps.toList.length:=by
   cases q:Nu.neg x.cps.toList with
   |true=>rw[(Nu.CB q).1,O0];lia
   |false=>rw[Nu.CZ q];exact B1 _
  refine AE (xq1 rfl ⟨x,rfl,xl,λy hy=>⟨y,rfl,by rw[Nu.len,hy];lia,λH' s1=>?_⟩⟩);rw[hy];refine xq1 rfl ?_;cases q:IT (Nu.fig x.cps.toList)with
  |false =>
   rw[q,Z5 A3]at du;exact AI ⟨by show 1<=100;decide,k2 du H' s1⟩
  |true =>
   rw[q,Z6 rfl]at du;have l30:(Nu.fig x.cps.toList).length<=30:=by
    unfold IT at q;split at q
    ·cases q
    ·rename_i z';exact O5 λz3=>z' (.inr (.inl z3))
   have l31:x.length<=31:=by
    rw[hl];cases q':Nu.neg x.cps.toList with
    |true=>rw[(Nu.CB q').2,C4];lia
    |false=>rw[Nu.CZ q']at l30;lia
   exact AE (xq1 rfl ⟨x,(xq1 rfl ⟨Nu.Pl du,by lia,k1 _ du H' s1⟩)⟩)
inductive SpRP(K:W.Frag)(a:Ad)(vs:List V)(H:Hp)(Q:VK)(E:XK):Prop
 |mk (x:Str) (_:vs=[.str x]) (_:x.length<=10000) (_:∀n,plN x.cps.toList=some n->∀H',Aw H H'->Q (.int n) H') (_:plN x.cps.toList=none->∀(c:Addr)(d:Option Addr)(H':Hp),KiW K a c 10->Aw H H'->E (.ref c) d H'):SpRP K a vs H Q E
def spRP(K:W.Frag)(a:Ad):Sp:=λvs H Q E=>SpRP K a vs H Q E
theorem ok_rp{f:Addr}{fd:FuncData}(F:Fun K "read_place" "read_place" Gj f fd)(T:Top K mg a)(bO:Cal P w K mg base (CXE P w) 2 "read_whole" Gw (spRW a)):AO P w K mg base (CXE P w) 3 f fd Gx (spRP K a):=by
 refine F.okE IO (λvs H Q E h=>?_) (λcdv A outer s H vs Q E hr h=>?_)
 ·obtain⟨x,rfl,_⟩:=h;rfl
 ·apply Ay;intro G_ hG_;obtain⟨x,rfl,xl,k1,k2⟩:=h;apply hG_;clear hG_ G_;refine⟨_,(Ab (ps_tryR (S:=λ_=>True) rfl T.mx_NoNumber T.ec_NoNumber rfl T.mx_NoPattern T.ec_NoPattern (λxe pn E1 pass=>(Af (Ah (i:=1) IO.nd rfl (Or.inl rfl) (ON bO (rm hr) rfl pass (Aa (pv 0) Ac)))))) (Ab (AB (Ak DM (As Ww rfl T.b_abs PyProof.Rows.boot_abs (Aa (pv 1) Ac)) (Ct rfl T.k_MOST_PLACE) (An _)) (Af (BS Ch rfl rfl T.mx_NoPattern T.ec_NoPattern (AA Ac))) Ap) (Af (Am (pv 1))))),?_⟩
  try dsimp only[cxK]
  refine AL ?_;intro r1 s1 k hk E1;refine⟨trivial,(xq1 rfl ⟨x,rfl,xl,λn en H' s1'=>?_,λen H' s1'=>?_⟩)⟩
  ·refine hk ?_;refine xw2 rfl rfl (xq2 rfl rfl (xq1 rfl ?_));by_cases z:n.natAbs<=9999999999999
   ·rw[Z4 A0];refine AE (xq1 rfl (k1 n ?_ H' s1'));unfold plN;rw[en];exact Z6 z
   ·rw[Z3 A0];refine AI ⟨by show 1<=100;decide,k2 ?_ _ none H' (Dp T) s1'⟩;unfold plN;rw[en];exact Z5 z
  ·refine⟨rfl,(xq1 rfl ⟨T.ec_NoNumber,T.mm_NoNumber_NoNumber⟩),k2 ?_ _ _ H' (Dp T) s1'⟩;unfold plN;rw[en];rfl
end
open PySem.NumText
structure S4 where
 x:Int
 y:Int
 n:Nat
 s:Nat
structure SW where
 r:Int
 d:Int
 l:List S4
def Dw(x0:Int)(S:SW)(q:Rn):SW:=if q.c=47 then⟨x0,S.d+q.a,S.l⟩else if q.c=46 then⟨S.r+q.a,S.d,S.l⟩else⟨S.r+q.a,S.d,S.l++[⟨S.r,S.d,q.a,sg.idxOf q.c⟩]⟩
def sw(x0 y0:Int)(l:List Rn):SW:=l.foldl (Dw x0) ⟨x0,y0,[]⟩
theorem Se(x0 y0:Int)(l:List Rn)(q:Rn):sw x0 y0 (l++[q])=Dw x0 (sw x0 y0 l) q:=by
 unfold sw;rw[Y9];rfl
theorem Oz(x0 y0:Int){l:List Rn}{j:Nat}{q:Rn}(h:l[j]?=some q):sw x0 y0 (l.take (j+1))=Dw x0 (sw x0 y0 (l.take j)) q:=by
 rw[J1,h];exact Se x0 y0 _ q
theorem QS{x0:Int}{S:SW}{q:Rn}(h:q.c=47):Dw x0 S q=⟨x0,S.d+q.a,S.l⟩:=Z6 h
theorem QU{x0:Int}{S:SW}{q:Rn}(h:q.c=46):Dw x0 S q=⟨S.r+q.a,S.d,S.l⟩:=by
 unfold Dw;rw[Z5 A0,Z6 h]
theorem QT{x0:Int}{S:SW}{q:Rn}(h:Lt q.c):Dw x0 S q=⟨S.r+q.a,S.d,S.l++[⟨S.r,S.d,q.a,sg.idxOf q.c⟩]⟩:=by
 unfold Dw;rw[Z5 h.2,Z5 h.1]
theorem Mi{α:Type}{p:List α->Prop}(h0:p [])(hs:∀l a,p l->p (l++[a]))(l:List α):p l:=by
 have h:∀m:List α,p m.reverse:=by
  intro m;induction m with
  |nil=>exact h0
  |cons a m ih =>
   rw[List.reverse_cons];exact hs _ _ ih
 have:=h l.reverse;rw[List.reverse_reverse]at this;exact this
def bxS(c:S4):Bo:=⟨c.x,c.y,c.n,1⟩
def InS(c:S4)(u v:Int):Prop:=c.x<=u/\u<c.x+c.n/\v=c.y
theorem SD(c:S4)(u v:Int):InB (bxS c).x (bxS c).y (bxS c).wd (bxS c).ht u v↔InS c u v:=by
 unfold InB InS bxS;constructor
 ·rintro z0_;apply Ay;intro G_ hG_;obtain⟨⟨h1,h2⟩,h3,h4⟩:=z0_;apply hG_;clear hG_ G_;exact⟨h1,h2,by lia⟩
 ·rintro⟨h1,h2,h3⟩;exact⟨⟨h1,h2⟩,by show c.y<=v;lia,by show v<c.y+1;lia⟩
def Jf(ss:List S4):Int->Int->Nat:=ss.foldl (fun φ c=>TZ (bxS c) c.s φ) (λ_ _=>0)
theorem La(ss:List S4)(c:S4):Jf (ss++[c])=TZ (bxS c) c.s (Jf ss):=by
 unfold Jf;rw[Y9];rfl
theorem filF_in{c:S4}{φ:Int->Int->Nat}{u v:Int}(h:InS c u v):TZ (bxS c) c.s φ u v=c.s:=Z6 ((SD c u v).mpr h)
theorem Qv{c:S4}{φ:Int->Int->Nat}{u v:Int}(h:¬InS c u v):TZ (bxS c) c.s φ u v=φ u v:=Z5 λz=>h ((SD c u v).mp z)
def Dis(ss:List S4):Prop:=ss.Pairwise λa b=>∀u v,InS a u v->¬InS b u v
theorem phi_out{ss:List S4}:∀{u v:Int},(∀c∈ss,¬InS c u v)->Jf ss u v=0:=by
 refine Mi (p:=λss=>∀{u v:Int},(∀c∈ss,¬InS c u v)->Jf ss u v=0) (λ_=>rfl) (λss c ih u v h=>?_) ss;rw[La,Qv (h c A5)];exact ih λd hd=>h d (by simp[hd])
theorem Rh{ss:List S4}:Dis ss->∀{c:S4}{u v:Int},c∈ss->InS c u v->Jf ss u v=c.s:=by
 refine Mi (p:=λss=>Dis ss->∀{c:S4}{u v:Int},c∈ss->InS c u v->Jf ss u v=c.s) (λ_ {c u v} hc=>by cases hc) (λss d ih dis c u v hc hi=>?_) ss;obtain⟨d1,_,d3⟩:=P7.mp dis;rw[La];rcases C6.mp hc with hc|hc
 ·rw[Qv (d3 c hc d (C9.mpr rfl) u v hi)];exact ih d1 hc hi
 ·rw[C9.mp hc]at hi⊢;exact filF_in hi
def Ov(a b:S4):Prop:=a.y<b.y\/(a.y=b.y/\a.x+a.n<=b.x)
theorem OS{ss:List S4}(h:ss.Pairwise Ov):Dis ss:=List.Pairwise.imp (λ{a b} k u v ha hb=>by
 obtain⟨a1,a2,a3⟩:=ha;obtain⟨b1,b2,b3⟩:=hb;rcases k with k|⟨k1,k2⟩<;>lia) h
theorem Ra:∀c∈sg,c≠46->c≠47->1<=sg.idxOf c/\sg.idxOf c<8:=by decide
theorem UX:∀c∈sg,(isL c=true↔(c≠46/\c≠47)):=by decide
structure Uo(S:SW)(m:Nat):Prop where
 or:S.l.Pairwise Ov
 be:∀c∈S.l,c.y<S.d\/(c.y=S.d/\c.x+c.n<=S.r)
 ok:∀c∈S.l,1<=c.n/\c.n<10^13/\1<=c.s/\c.s<8
 len:S.l.length=m
theorem Uo.step{S:SW}{m:Nat}(h:Uo S m){q:Rn}(k:QM q)(x0:Int):Uo (Dw x0 S q) (m+if isL q.c=true then 1 else 0):=by
 have a1:=k.a1;by_cases z7:q.c=47
 ·rw[QS z7,Z5 (by rw[z7];decide)];refine⟨h.or,λc hc=>.inl ?_,h.ok,h.len⟩;have:=h.be c hc;show c.y<S.d+q.a;lia
 by_cases z6:q.c=46
 ·rw[QU z6,Z5 (by rw[z6];decide)];refine⟨h.or,λc hc=>?_,h.ok,h.len⟩;have:=h.be c hc;show c.y<S.d\/(c.y=S.d/\c.x+c.n<=S.r+q.a)
  lia
 have lt:Lt q.c:=⟨z6,z7⟩
 rw[QT lt,Z6 ((UX q.c k.c).mpr lt)];obtain⟨i1,i8⟩:=Ra q.c k.c z6 z7;refine⟨?_,λc hc=>?_,λc hc=>?_,by show(S.l++[_]).length=_;rw[B5,h.len];rfl⟩
 ·refine P7.mpr ⟨h.or,List.pairwise_singleton _ _,λc hc d hd=>?_⟩;rw[C9.mp hd];exact h.be c hc
 ·rcases C6.mp hc with hc|hc
  ·have:=h.be c hc;show c.y<S.d\/(c.y=S.d/\c.x+c.n<=S.r+q.a)
   lia
  ·rw[C9.mp hc];exact .inr ⟨rfl,R9 _⟩
 ·rcases C6.mp hc with hc|hc
  ·exact h.ok c hc
  ·rw[C9.mp hc];exact⟨a1,k.a2,i1,i8⟩
theorem sw_ok(x y:Int){rs:List Rn}(k:∀r∈rs,QM r):Uo (sw x y rs) (ltr rs):=by
 have key:∀l:List Rn,(∀r∈l,QM r)->Uo (sw x y l) (ltr l):=by
  refine Mi (p:=λl=>(∀r∈l,QM r)->Uo (sw x y l) (ltr l)) (λ_=>⟨List.Pairwise.nil,(λc hc=>nomatch hc),(λc hc=>nomatch hc),rfl⟩) (λl q ih h=>?_);rw[Se];have:=(ih λr hr=>h r (M6 _ hr)).step (h q A5) x;have e:ltr (l++[q])=ltr l+if isL q.c=true then 1 else 0:=by
   unfold ltr;rw[U9,B5];congr 1;rw[S8];split<;>rfl
  rw[e];exact this
 exact key rs k
def bq:Nat->Nat
 |0=>49
 |k+1=>2*bq k+700
def gq:Nat->Nat
 |0=>0
 |k+1=>gq k+(16*bq k+4000)
theorem bq_le:∀k,k<=7->bq k<=95172:=by decide
theorem VZ:∀k,k<=8->gq k<=2998320:=by decide
def Nq(ss:List S4):Prop:=∃c∈ss,¬Ep c.x c.y c.n 1 (2^40)
theorem sg_at:∀c∈sg,c≠47->(Builtin.Str.occurrences (Str.ofString ".ABCDEFG") ⟨#[c]⟩ 0 (Str.ofString ".ABCDEFG").length 1).head?=some (sg.idxOf c):=by decide +kernel
theorem sg_ix{c:Nat}(h:c∈sg)(n:c≠47):∃r,Builtin.Str.occurrences (Str.ofString ".ABCDEFG") ⟨#[c]⟩ 0 (Str.ofString ".ABCDEFG").length 1=sg.idxOf c::r:=by
 have e:=sg_at c h n;generalize Builtin.Str.occurrences (Str.ofString ".ABCDEFG") ⟨#[c]⟩ 0 (Str.ofString ".ABCDEFG").length 1=o at e;cases o with
 |nil=>cases e
 |cons a r=>cases e;exact⟨r,rfl⟩
theorem Jn{c d:Nat}{z:Str}(hz:z.cps.toList=[d]):decide (V.str ⟨#[c]⟩=V.str z)=decide (c=d):=by
 by_cases e:c=d
 ·rw[Z3 e];exact Z3 (X4 V.str (Nu.ext (by rw[hz,e])))
 ·rw[Z4 e];refine Z4 λq=>e ?_;injection q with q
  have:=X4 (λs:Str=>s.cps.toList) q;rw[hz]at this;injection this
theorem vl_bare{G r:Gv}(e0:G=G0++r)(ok:GOk G):Vl G (bareN 1) (λ_ _=>0) 49:=by
 refine⟨⟨0,⟨DP e0 (n:=1) A3,.inl rfl,by decide⟩,λu v=>?_⟩,Pq e0 ok A3⟩;unfold fieldF;split
 ·rename_i z;exact Gd e0 ok A3 (Ei z.1 z.2.1) (Ei z.2.2.1 z.2.2.2)
 ·rfl
section
variable{P:Program}{w:World}{K:W.Frag}{mg:Str->Option Value}{base:Heap}{a:Ad}
inductive WN(K:W.Frag)(a:Ad)(vs:List V)(H:Hp)(E:XK):Prop
 |mk (g:GA) (f:Int) (t:Addr) (x y wd ht:Int) (v:V) (_:vs=[.ref g.p,.int f,.ref t,v]) (_:H t=some (.tup [.int x,.int y,.int wd,.int ht])) (_:0<wd) (_:0<ht) (_:¬Ep x y wd ht (2^40)) (_:∀c,KiW K a c 7->E (.ref c) none H):WN K a vs H E
def UT(K:W.Frag)(a:Ad):Sp:=λvs H _ E=>WN K a vs H E
theorem ok_filF{f:Addr}{fd:FuncData}(F:Fun K "filled" "filled" Js f fd)(T:Top K mg a)(aU:Cal P w K mg base CX0 1 "check_box" Fo Sj)(aB:Cal P w K mg base CX0 1 "lies_within" CN PK)(aJ:Cal P w K mg base CX0 2 "is_state" EM UR)(aG:Cal P w K mg base CX0 5 "widened_over" Dm (spWO a))(aK:CS P w K mg base CX0 4 a.c_Grove "solid" DK (LO a))(a5:CS P w K mg base CX0 3 a.c_Grove "level_of" AH (Fe a))(bD:Cal P w K mg base CX0 5 "part_in" IE (spPI a))(bI:Cal P w K mg base CX0 102 "mixed" Gz (NN a P w 50))(bC:Cal P w K mg base CX0 4 "trimmed" IC (OA a)):AO P w K mg base (CXE P w) 103 f fd JA (UT K a):=by
 refine F.okE Da (λvs H Q E h=>?_) (λcdv A outer s H vs Q E hr h=>?_)
 ·apply Ay;intro G_ hG_;obtain⟨g,f',t,x,y,wd,ht,v,rfl,_⟩:=h;apply hG_;clear hG_ G_;rfl
 ·apply Ay;intro G_ hG_;obtain⟨g,f',t,x,y,wd,ht,v,rfl,hb,w0,h0,li,k⟩:=h;apply hG_;clear hG_ G_;refine⟨_,(Ab (Co (Aq aU (rm hr) rfl Ar (Aa (pv 2) Ac))) (Ab (Ah (i:=4) Da.nd rfl (Or.inl rfl) (Eb (Bv DM (At Az (pv 2) Ae (λ_ _=>rfl)) Ae (An _)) (FJ (Bv DM (At Az (pv 2) Ae (λ_ _=>rfl)) Ae (An _))))) (Ab (AB (PW.pt (Je (AZ (pv 4)) (Gs (Bp (AZ (Aq aB (rm hr) rfl Ar (Aa (pv 2) (Aa (Ct rfl T.k_LIMIT) Ac)))))))) (Af (BS Ch rfl rfl T.mx_TooFar T.ec_TooFar (AA Ac))) Ap) (Ab (AB (Bp (AZ (Aq aJ (rm hr) rfl Ar (Aa (pv 3) Ac)))) (Af Cy) Ap) (Ab (AB (Bp (AZ (pv 4))) (Af (Am (pv 1))) Ap) (Ab (Ah (i:=5) Da.nd rfl (Or.inl rfl) (Aq aG (rm hr) rfl Ar (Aa (pv 0) (Aa (pv 1) (Aa (pv 2) Ac))))) (Ab (Ah (i:=6) Da.nd rfl (Or.inl rfl) (AK (pv 0) aK (rm hr) Ar (Aa (AK (pv 0) a5 (rm hr) Ar (Aa (pv 5) Ac)) (Aa (pv 3) Ac)))) (Af (Am (Aq bC (rm hr) rfl Ar (Aa (pv 0) (Aa (Aq bI (rm hr) rfl Ar (Aa (pv 0) (Aa (pv 6) (Aa (pv 5) (Aa (Aq bD (rm hr) rfl Ar (Aa (pv 0) (Aa (pv 5) (Aa (pv 2) Ac)))) (Aa (PX (sh:=[false,false,true])) Ac)))))) Ac)))))))))))),?_⟩
  try dsimp only[cxK]
  refine xq1 rfl ⟨t,x,y,wd,ht,rfl,hb,by lia,by lia,?_⟩;refine xwi rfl rfl rfl (SqT.of hb) (Ai (j:=2) rfl) (xq2 rfl rfl (xq1 rfl ?_));rw[Z3 w0];refine AI (xwi rfl rfl rfl (SqT.of hb) (Ai (j:=3) rfl) (xq2 rfl rfl ?_));rw[show((λ(i j:Int)=>V.bl (decide (j<i))) ht 0)=V.bl true from X4 V.bl (Z3 h0)];refine xq1 rfl ⟨true,rfl,AI (xq1 rfl ⟨t,x,y,wd,ht,2^40,rfl,hb,(xq1 rfl ?_)⟩)⟩;rw[Z4 li];exact AI ⟨by show 1<=100;decide,k _ (kiw_far T)⟩
theorem sw_sub(x y:Int)(rs:List Rn)(j:Nat):∀c∈(sw x y (rs.take j)).l,c∈(sw x y rs).l:=by
 have key:∀(l:List Rn)(S:SW),∀c∈S.l,c∈(l.foldl (Dw x) S).l:=by
  intro l;induction l with
  |nil=>intro S c h;exact h
  |cons q l ih =>
   intro S c h;refine ih _ c ?_;unfold Dw;split
   ·exact h
   split
   ·exact h
   ·exact M6 _ h
 have e:sw x y rs=(rs.drop j).foldl (Dw x) (sw x y (rs.take j)):=by
  unfold sw;rw[<-Y9,N2]
 rw[e];exact key _ _
theorem VO{rs:List Rn}{j:Nat}{r:Rn}(h:rs[j]?=some r):ltr (rs.take (j+1))=ltr (rs.take j)+if isL r.c=true then 1 else 0:=by
 unfold ltr;rw[J1,h,U8,U9,B5];congr 1;rw[S8];split<;>rfl
theorem VN(rs:List Rn)(j:Nat):ltr (rs.take j)<=ltr rs:=by
 have:ltr rs=ltr (rs.take j)+ltr (rs.drop j):=by
  unfold ltr;rw[<-B5,<-U9,N2]
 lia
inductive SpFR(K:W.Frag)(a:Ad)(vs:List V)(H:Hp)(Q:VK)(E:XK):Prop
 |mk (g:GA) (G:Gv) (x y:Int) (R:Addr) (ts:List Addr) (rs:List Rn) (_:vs=[.ref g.p,.int x,.int y,.ref R]) (_:Bs a H g G) (_:H R=some (.lst (ts.map V.ref))) (_:R∉Ds g) (_:Paired (CQ H) ts rs) (_:∀r∈rs,QM r) (_:ltr rs<=8) (_:G.length<3200000) (_:¬Nq (sw x y rs).l->∀(r:Nat)(G':Gv)(H':Hp)(B:Nat),Fr g H H'->Bs a H' g G'->AV G G' 2998320->Vl G' r (Jf (sw x y rs).l) B->Q (.int r) H') (_:Nq (sw x y rs).l->∀(c:Addr)(G':Gv)(H':Hp),KiW K a c 7->Fr g H H'->Bs a H' g G'->AV G G' 2998320->E (.ref c) none H'):SpFR K a vs H Q E
def spFR(K:W.Frag)(a:Ad):Sp:=λvs H Q E=>SpFR K a vs H Q E
theorem ok_fr {f:Addr} {fd:FuncData} (F:Fun K "field_of_runs" "field_of_runs" DX f fd) (T:Top K mg a) (bP:Cal P w K mg base CX0 1 "bare_field" GB (OD a)) (c8:Cal P w K mg base (CXE P w) 103 "filled" JA (λvs H Q E=>QZ a vs H Q E\/UT K a vs H Q E)):AO P w K mg base (CXE P w) 104 f fd Ed (spFR K a):=by
 refine F.okE AT (λvs H Q E h=>?_) (λcdv A outer s H vs Q E hr h=>?_)
 ·apply Ay;intro G_ hG_;obtain⟨g,G,x,y,R,ts,rs,rfl,_⟩:=h;apply hG_;clear hG_ G_;rfl
 ·apply Ay;intro G_ hG_;obtain⟨g,G,x,y,R,ts,rs,rfl,fu,hR,nR,pr,ok,l8,few,k1,k2⟩:=h;apply hG_;clear hG_ G_;have lts:=A0a pr;refine⟨_,(Ab (Ah (i:=4) AT.nd rfl (Or.inl rfl) (Aq bP (rm hr) rfl Ar (Aa (pv 0) Ac))) (Ab (Ah (i:=5) AT.nd rfl (Or.inl rfl) (pv 1)) (Ab (Ah (i:=6) AT.nd rfl (Or.inl rfl) (pv 2)) (Ab (Ci PassesOwn.leaving rfl (IA (pv 3)) (Dl rfl (AG (AF (i:=7) AT.nd rfl (Or.inl rfl)) (AG (AF (i:=8) AT.nd rfl (Or.inl rfl)) Cs))) (Af (AB (Ak Bg (pv 8) (Fk rfl T.k_ROW_SIGN) (An _)) (Ab (Ah (i:=5) AT.nd rfl (Or.inl rfl) (pv 1)) (Af (Ah (i:=6) AT.nd rfl (Or.inl rfl) (Ao AR (pv 6) (pv 7))))) (Ab (AB (Ak Dt (pv 8) (Fk rfl T.k_BLANK_SIGN) (An _)) (Af (Ah (i:=4) AT.nd rfl (Or.inl rfl) (Aq c8 (rm hr) rfl Ii (Aa (pv 0) (Aa (pv 4) (Cn (Aa (pv 5) (Aa (pv 6) (Aa (pv 7) (Bu Ac)))) (Aa (Cc X6 A6h PySem.F.type_str_index Qi (Fk rfl T.k_STATE_SIGNS) (Aa (pv 8) Ac)) Ac))))))) Ap) (Af (Ah (i:=5) AT.nd rfl (Or.inl rfl) (Ao AR (pv 5) (pv 7)))))))) (Af (Am (pv 4))))))),?_⟩
  try dsimp only[cxK]
  obtain⟨r0,e0⟩:=fu.g0;have vl0:Vl G (bareN 1) (λ_ _=>0) 49:=vl_bare e0 fu.ok;refine xq1 rfl ⟨g,G,rfl,fu,(xw3 rfl rfl rfl ⟨R,rfl,⟨_,SqL.of hR⟩,?_⟩)⟩;have hRx:∀{H2:Hp},Fr g H H2->H2 R=some (.lst (ts.map V.ref)):=λ{H2} fr=>fr _ _ hR (λz=>nR (by simp[Ds,z])) (λz=>nR (by simp[Ds,z])) (λz=>nR (by simp[Ds,z]));refine Iq (xs:=ts.map V.ref) (λj σ H2=>∃(G2:Gv)(f2:Nat)(u7 u8:Option V),σ=[some (.ref g.p),some (.int x),some (.int y),some (.ref R),some (.int f2),some (.int (sw x y (rs.take j)).r),some (.int (sw x y (rs.take j)).d),u7,u8]/\Fr g H H2/\Bs a H2 g G2/\AV G G2 (gq (ltr (rs.take j)))/\Vl G2 f2 (Jf (sw x y (rs.take j)).l) (bq (ltr (rs.take j)))/\¬Nq (sw x y (rs.take j)).l) ⟨G,bareN 1,none,none,rfl,Fr.refl g H,fu,AV.refl fu.ok,vl0,λ⟨c,hc,_⟩=>nomatch hc⟩ (λj σ H2 _ z=>SqL.of (by obtain⟨_,_,_,_,_,fr,_⟩:=z;exact hRx fr)) ?_ ?_
  ·rintro j v σ H2 ev z5_;apply Ay;intro G_ hG_;obtain⟨G2,f2,u7,u8,rfl,fr,fu2,go,vl,nf⟩:=z5_;apply hG_;clear hG_ G_;rw[C1]at ev;obtain⟨t,et,rfl⟩:=F4.mp ev;obtain⟨r,er,ht⟩:=PairedM.getL pr et;have rk:=ok r (M3 er);have ht2:CQ H2 t r:=fr.tup fu.at' ht;have en:=Oz x y er;have an:=VO er;have a8:=VN rs (j+1);have fo:Nq (sw x y (rs.take (j+1))).l->Nq (sw x y rs).l:=λ⟨c,hc,no⟩=>⟨c,sw_sub x y rs (j+1) c hc,no⟩
   refine Ft ht2 ?_;rw[en]at fo;rw[en,an];generalize sw x y (rs.take j)=S at *
   generalize ltr (rs.take j)=m at *
   refine xq1 rfl ⟨rfl,(xq1 rfl ?_)⟩;rw[Jn (d:=47) A1];by_cases z7:r.c=47
   ·rw[Z3 z7,QS z7,Z5 (by rw[z7];decide)];exact AI (xw3 rfl rfl rfl (xq2 rfl rfl ⟨G2,f2,_,_,rfl,fr,fu2,go,vl,nf⟩))
   rw[Z4 z7];refine AE ?_;refine xq1 rfl ⟨rfl,(xq1 rfl ?_)⟩;rw[Jn (d:=46) A1];by_cases z6:r.c=46
   ·rw[Z3 z6,QU z6,Z5 (by rw[z6];decide)];exact AE (xw2 rfl rfl (xq2 rfl rfl ⟨G2,f2,_,_,rfl,fr,fu2,go,vl,nf⟩))
   rw[Z4 z6];have lt:Lt r.c:=⟨z6,z7⟩
   have il:isL r.c=true:=(UX r.c rk.c).mpr lt;obtain⟨rr,ho⟩:=sg_ix rk.c z7;obtain⟨i1,i8⟩:=Ra _ rk.c z6 z7;have a1:=rk.a1;have gf:=go.few;rw[QT lt]at fo⊢;rw[Z6 il]at an⊢;have b7:=bq_le m A0;have g8:=VZ m A0;have g9:=VZ (m+1) A0;have ge:gq (m+1)=gq m+(16*bq m+4000):=rfl;have be:bq (m+1)=2*bq m+700:=rfl;refine AI (xw3 rfl rfl rfl (xw2 rfl rfl ⟨(by show 4<=sizeLine;decide),λt4 nt4=>⟨rfl,(xq1 rfl ⟨_,_,sg.idxOf r.c,rr,rfl,rfl,ho,?_⟩)⟩⟩));have s4:=Al (o:=.tup [.int S.r,.int S.d,.int (r.a:Int),.int 1]) nt4;have h4:upd H2 t4 (.tup [.int S.r,.int S.d,.int (r.a:Int),.int 1]) t4=some (.tup [.int S.r,.int S.d,.int (r.a:Int),.int 1]):=Ag;have fu4:=fu2.same s4;show(_:Prop)\/_;generalize upd H2 t4 (.tup [.int S.r,.int S.d,.int (r.a:Int),.int 1])=H4 at s4 h4 fu4⊢;have frn:Fr g H H4:=λb o e n1 n2 n3=>s4 _ _ (fr b o e n1 n2 n3);by_cases li:Ep S.r S.d r.a 1 (2^40)
   ·refine .inl (fill_s (q:=⟨S.r,S.d,r.a,1⟩) (C:=bq (m+1)) fu4 vl h4 (by show(0:Int)<=(r.a:Int);lia) (by show(0:Int)<=1;decide) (λ_ _=>li) i8 rfl A0 A0 A0 λf5 G5 H5 fr5 fu5 go5 vl5=>?_);refine xw2 rfl rfl (xq2 rfl rfl ⟨G5,f5,_,_,rfl,frn.trans fr5,fu5,(go.trans go5).mono A0,?_,?_⟩)
    ·show Vl G5 f5 (Jf (S.l++[_])) _;rw[La];exact vl5
    ·rintro⟨c,hc,no⟩;rcases C6.mp hc with hc|hc
     ·exact nf ⟨c,hc,no⟩
     ·rw[C9.mp hc]at no;exact no li
   ·refine .inr ⟨g,f2,t4,S.r,S.d,r.a,1,.int (sg.idxOf r.c:Nat),rfl,h4,by lia,by decide,li,λc ki=>?_⟩;exact k2 (fo ⟨⟨S.r,S.d,r.a,sg.idxOf r.c⟩,C7 _ (C9.mpr rfl),li⟩) c G2 H4 ki frn fu4 (go.mono A0)
  ·rintro σ H2 z2_;apply Ay;intro G_ hG_;obtain⟨G2,f2,u7,u8,rfl,fr,fu2,go,vl,nf⟩:=z2_;apply hG_;clear hG_ G_;rw[B0,lts,M8]at *
   exact xq1 rfl (k1 nf f2 G2 H2 _ fr fu2 (go.mono (VZ _ l8)) vl)
end
open PySem.NumText
theorem OR(c:Nat)(z:Str)(h:c∉z.cps.toList):Txt.partition z ⟨#[c]⟩=(z,Str.empty,Str.empty):=by
 have ho:=A4g z c;rw[Z4 h]at ho;unfold Txt.partition;cases e:Builtin.Str.occurrences z ⟨#[c]⟩ 0 z.length 1 with
 |nil=>rfl
 |cons i l=>rw[e]at ho;simp at ho
theorem Mr{c:Nat}{z:Str}{p q:List Nat}(h:BC c z.cps.toList=some (p,q)):Txt.partition z ⟨#[c]⟩=(⟨p.toArray⟩,⟨#[c]⟩,⟨q.toArray⟩):=by
 obtain⟨h1,h2⟩:=BU h;have e:z=⟨p.toArray⟩++⟨#[c]⟩++⟨q.toArray⟩:=Nu.ext (by
  rw[h1,Tx.Bw,Tx.Bw];simp)
 rw[e];exact Tx.IB c _ _ (by simpa using h2)
theorem QV(c:Nat):decide (V.str ⟨#[c]⟩=V.str (Str.ofString ""))=false:=Z4 (λq=>by
 injection q with q
 exact absurd (X4 (λs:Str=>s.cps.toList) q) (by rw[show(Str.ofString "").cps.toList=[] by decide +kernel];intro z;cases z))
theorem UI:decide (V.str Str.empty=V.str (Str.ofString ""))=true:=Z3 (X4 V.str (Nu.ext A1))
theorem OP{t:List Nat}(h:BC 58 t=none):Fc t=none:=by unfold Fc;rw[h];rfl
theorem OO{t p q:List Nat}(h:BC 58 t=some (p,q))(h2:BC 44 p=none):Fc t=none:=by unfold Fc;rw[h];show Option.bind (BC 44 p) _=_;rw[h2];rfl
theorem OQ{t p q u v:List Nat}(h:BC 58 t=some (p,q))(h2:BC 44 p=some (u,v)):Fc t=(plN u).bind λx=>(plN v).bind λy=>(prs [] q).map λrs=>(x,y,rs):=by unfold Fc;rw[h];show Option.bind (BC 44 p) _=_;rw[h2];rfl
theorem Jk(a b:List Nat):nL (a++b)=nL a+nL b:=by
 unfold nL;rw[U9,B5]
section
variable{P:Program}{w:World}{K:W.Frag}{mg:Str->Option Value}{base:Heap}{a:Ad}
inductive WH(K:W.Frag)(a:Ad)(vs:List V)(H:Hp)(Q:VK)(E:XK):Prop
 |mk (g:GA) (G:Gv) (z:Str) (_:vs=[.ref g.p,.str z]) (_:Bs a H g G) (_:z.length<=1000) (_:nL z.cps.toList<=8) (_:G.length<3200000) (_:Fc z.cps.toList=none->∀(c:Addr)(d:Option Addr)(H':Hp),KiW K a c 10->Aw H H'->E (.ref c) d H') (_:∀x y rs,Fc z.cps.toList=some (x,y,rs)->¬Nq (sw x y rs).l->∀(r:Nat)(G':Gv)(H':Hp)(B:Nat),Fr g H H'->Bs a H' g G'->AV G G' 2998320->Vl G' r (Jf (sw x y rs).l) B->Q (.int r) H') (_:∀x y rs,Fc z.cps.toList=some (x,y,rs)->Nq (sw x y rs).l->∀(c:Addr)(G':Gv)(H':Hp),KiW K a c 7->Fr g H H'->Bs a H' g G'->AV G G' 2998320->E (.ref c) none H'):WH K a vs H Q E
 |no (g:GA) (v:V) (_:vs=[.ref g.p,v]) (_:NoTx K H v) (_:∀(c:Addr),KiW K a c 10->E (.ref c) none H):WH K a vs H Q E
def spPat(K:W.Frag)(a:Ad):Sp:=λvs H Q E=>WH K a vs H Q E
theorem ok_pat{f:Addr}{fd:FuncData}(F:Fun K "read_pattern" "read_pattern" EC f fd)(T:Top K mg a)(aN:Cal P w K mg base (CXE P w) 3 "read_place" Gx (spRP K a))(aM:Cal P w K mg base (CXE P w) 2 "read_runs" Fl (Mh K a))(bR:Cal P w K mg base (CXE P w) 104 "field_of_runs" Ed (spFR K a)):AO P w K mg base (CXE P w) 105 f fd EK (spPat K a):=by
 refine F.okE Bj (λvs H Q E h=>?_) (λcdv A outer s H vs Q E hr h=>?_)
 ·cases h with
  |mk g G z e=>rw[e];rfl
  |no g v e=>rw[e];rfl
 ·cases h with
  |no g v e nt k =>
   subst e;obtain⟨t,ty,kt⟩:=nt;refine⟨_,(Ab (AB (Bp (AZ (As AS rfl T.b_isinstance Z7 (Aa (pv 1) (Aa (CT (v:=.ty "str") rfl T.b_str A0c rfl) Ac))))) (Af (BS Ch rfl rfl T.mx_NoPattern T.ec_NoPattern (AA Ac))) Ap) (Ab (Ah (i:=2) Bj.nd rfl (Or.inl rfl) (Cc X6 A1c A1d Do (pv 1) (AA Ac))) (Ab (Ah (i:=3) Bj.nd rfl (Or.inl rfl) (Cc X6 A1c A1d Do (At Az (pv 2) Ae (λ_ _=>rfl)) (AA Ac))) (Ab (AB (PW.pt (BM (Ak Bg (At Az (pv 2) Ae (λ_ _=>rfl)) AJ (An _)) (BE (Ak Bg (At Az (pv 3) Ae (λ_ _=>rfl)) AJ (An _))))) (Af (BS Ch rfl rfl T.mx_NoPattern T.ec_NoPattern (AA Ac))) Ap) (Ab (Ah (i:=4) Bj.nd rfl (Or.inl rfl) (Aq aN (rm hr) rfl Ii (Aa (At Az (pv 3) Ae (λ_ _=>rfl)) Ac))) (Ab (Ah (i:=5) Bj.nd rfl (Or.inl rfl) (Aq aN (rm hr) rfl Ii (Aa (At Az (pv 3) Ae (λ_ _=>rfl)) Ac))) (Af (Am (Aq bR (rm hr) rfl Ii (Aa (pv 0) (Aa (pv 4) (Aa (pv 5) (Aa (Aq aM (rm hr) rfl Ii (Aa (At Az (pv 2) Ae (λ_ _=>rfl)) Ac)) Ac))))))))))))),?_⟩
   try dsimp only[cxK]
   exact xq1 rfl ⟨_,_,_,.type t,false,rfl,rfl,.of ty,kt,false,rfl,AI ⟨by show 1<=100;decide,k _ (Dp T)⟩⟩
  |mk g G z e fu zl n8 few kn ks kf =>
   subst e;refine⟨_,(Ab (AB (Bp (AZ (As AS rfl T.b_isinstance Z7 (Aa (pv 1) (Aa (CT (v:=.ty "str") rfl T.b_str A0c rfl) Ac))))) (Af (BS Ch rfl rfl T.mx_NoPattern T.ec_NoPattern (AA Ac))) Ap) (Ab (Ah (i:=2) Bj.nd rfl (Or.inl rfl) (Cc X6 A1c A1d Do (pv 1) (AA Ac))) (Ab (Ah (i:=3) Bj.nd rfl (Or.inl rfl) (Cc X6 A1c A1d Do (At Az (pv 2) Ae (λ_ _=>rfl)) (AA Ac))) (Ab (AB (PW.pt (BM (Ak Bg (At Az (pv 2) Ae (λ_ _=>rfl)) AJ (An _)) (BE (Ak Bg (At Az (pv 3) Ae (λ_ _=>rfl)) AJ (An _))))) (Af (BS Ch rfl rfl T.mx_NoPattern T.ec_NoPattern (AA Ac))) Ap) (Ab (Ah (i:=4) Bj.nd rfl (Or.inl rfl) (Aq aN (rm hr) rfl Ii (Aa (At Az (pv 3) Ae (λ_ _=>rfl)) Ac))) (Ab (Ah (i:=5) Bj.nd rfl (Or.inl rfl) (Aq aN (rm hr) rfl Ii (Aa (At Az (pv 3) Ae (λ_ _=>rfl)) Ac))) (Af (Am (Aq bR (rm hr) rfl Ii (Aa (pv 0) (Aa (pv 4) (Aa (pv 5) (Aa (Aq aM (rm hr) rfl Ii (Aa (At Az (pv 2) Ae (λ_ _=>rfl)) Ac)) Ac))))))))))))),?_⟩
   try dsimp only[cxK]
   have c58:Str.ofString ":" = ⟨#[58]⟩:=by decide +kernel
   have c44:Str.ofString "," = ⟨#[44]⟩:=by decide +kernel
   have lz:=Nu.len z;refine AL ?_;intro r1 s1 k1 hk1 E1;refine xq1 rfl ⟨_,_,_,.type "str",true,rfl,rfl,.of (.str z),RA K,true,rfl,AE ?_⟩;refine hk1 ?_;refine AL ?_;intro r2 s2 k2 hk2 E2;refine xq1 rfl ⟨rfl,z,(xq1 rfl ⟨rfl,rfl,by lia,λp hp=>?_⟩)⟩;rw[c58];cases e1:BC 58 z.cps.toList with
   |none =>
    rw[OR 58 z (EW e1)];generalize eH:upd H p _=H1;have s1':Aw H H1:=eH▸Al hp;have h1:H1 p=some (.tup [.str z,.str Str.empty,.str Str.empty]):=eH▸Ag;refine hk2 ?_;refine AL ?_;intro r3 s3 k3 hk3 E3;refine xwi rfl rfl rfl (SqT.of h1) (Ai (j:=0) rfl) ⟨rfl,z,(xq1 rfl ⟨rfl,rfl,by lia,λp' hp'=>?_⟩)⟩;generalize eH2:upd H1 p' _=H2;have s2':Aw H1 H2:=eH2▸Al hp';refine hk3 ?_;refine xwi rfl rfl rfl (SqT.of (s2' _ _ h1)) (Ai (j:=1) rfl) ⟨rfl,(xq1 rfl ?_)⟩;rw[UI];exact AI (AI ⟨by show 1<=100;decide,kn (OP e1) _ none H2 (Dp T) (s1'.trans s2')⟩)
   |some pq =>
    obtain⟨pl,bl⟩:=pq;rw[Mr e1];obtain⟨z1,z2⟩:=BU e1;have ll:pl.length+bl.length<=1000:=by
     rw[z1,B5,C4]at lz;lia
    have nb:nL bl<=8:=by
     rw[z1,Jk,show(58::bl)=[58]++bl from rfl,Jk]at n8;lia
    generalize eH:upd H p _=H1;have s1':Aw H H1:=eH▸Al hp;have h1:H1 p=some (.tup [.str ⟨pl.toArray⟩,.str ⟨#[58]⟩,.str ⟨bl.toArray⟩]):=eH▸Ag;refine hk2 ?_;refine AL ?_;intro r3 s3 k3 hk3 E3;have pln:(⟨pl.toArray⟩:Str).length=pl.length:=by rw[Nu.len]
    refine xwi rfl rfl rfl (SqT.of h1) (Ai (j:=0) rfl) ⟨rfl,⟨pl.toArray⟩,(xq1 rfl ⟨rfl,rfl,by lia,λp' hp'=>?_⟩)⟩;rw[c44];cases e2:BC 44 pl with
    |none =>
     rw[OR 44 ⟨pl.toArray⟩ (EW e2)];generalize eH2:upd H1 p' _=H2;have s2':Aw H1 H2:=eH2▸Al hp';have h2:H2 p'=some (.tup [.str ⟨pl.toArray⟩,.str Str.empty,.str Str.empty]):=eH2▸Ag;refine hk3 ?_;refine xwi rfl rfl rfl (SqT.of (s2' _ _ h1)) (Ai (j:=1) rfl) ⟨rfl,(xq1 rfl ?_)⟩;rw[QV];refine AE (xwi rfl rfl rfl (SqT.of h2) (Ai (j:=1) rfl) ⟨rfl,(xq1 rfl ?_)⟩);rw[UI];exact AI ⟨by show 1<=100;decide,kn (OO e1 e2) _ none H2 (Dp T) (s1'.trans s2')⟩
    |some uv =>
     obtain⟨ul,vl⟩:=uv;rw[Mr (z:=⟨pl.toArray⟩) e2];have pa:=OQ e1 e2;obtain⟨w1,w2⟩:=BU e2;have l2:ul.length+vl.length<=1000:=by
      rw[w1,B5,C4]at ll;lia
     generalize eH2:upd H1 p' _=H2;have s2':Aw H1 H2:=eH2▸Al hp';have h2:H2 p'=some (.tup [.str ⟨ul.toArray⟩,.str ⟨#[44]⟩,.str ⟨vl.toArray⟩]):=eH2▸Ag;have h12:=s2' _ _ h1;have s12:=s1'.trans s2';clear eH eH2 e1 e2 z1 z2 w1 w2 hp hp' s1' s2' h1;refine hk3 ?_;refine AL ?_;intro r4 s4 k4 hk4 E4;refine xwi rfl rfl rfl (SqT.of h12) (Ai (j:=1) rfl) ⟨rfl,(xq1 rfl ?_)⟩;rw[QV];refine AE (xwi rfl rfl rfl (SqT.of h2) (Ai (j:=1) rfl) ⟨rfl,(xq1 rfl ?_)⟩);rw[QV];refine AE ?_;refine hk4 ?_;refine AL ?_;intro r5 s5 k5 hk5 E5;have n1:plN ul=none->Fc z.cps.toList=none:=λex=>by
      rw[pa,ex];rfl
     have n2:∀x,plN ul=some x->plN vl=none->Fc z.cps.toList=none:=λx ex ey=>by
      rw[pa,ex];show Option.bind (plN vl) _=_;rw[ey];rfl
     have n3:∀x y,plN ul=some x->plN vl=some y->Fc z.cps.toList=(prs [] bl).map λrs=>(x,y,rs):=λx y ex ey=>by
      rw[pa,ex];show Option.bind (plN vl) _=_;rw[ey];rfl
     clear pa;have uln:(⟨ul.toArray⟩:Str).length=ul.length:=by rw[Nu.len]
     have vln:(⟨vl.toArray⟩:Str).length=vl.length:=by rw[Nu.len]
     have bln:(⟨bl.toArray⟩:Str).length=bl.length:=by rw[Nu.len]
     refine xwi rfl rfl rfl (SqT.of h2) (Ai (j:=0) rfl) ⟨⟨ul.toArray⟩,rfl,by lia,λx ex H3 s3'=>?_,λex c d H3 ki s3'=>kn (n1 ex) c d H3 ki (s12.trans s3')⟩;have ex:plN ul=some x:=ex;refine hk5 ?_;refine AL ?_;intro r6 s6 k6 hk6 E6;refine xwi rfl rfl rfl (SqT.of (s3' _ _ h2)) (Ai (j:=2) rfl) ⟨⟨vl.toArray⟩,rfl,by lia,λy ey H4 s4'=>?_,λey c d H4 ki s4'=>kn (n2 x ex ey) c d H4 ki ((s12.trans s3').trans s4')⟩;have ey:plN vl=some y:=ey;have s14:=(s12.trans s3').trans s4';have fu4:=fu.same s14;refine hk6 ?_;refine xw3 rfl rfl rfl (xwi rfl rfl rfl (SqT.of (s4' _ _ (s3' _ _ h12))) (Ai (j:=2) rfl) (.mk ⟨bl.toArray⟩ rfl A0 (λrs er L ts H5 nL' s5' hL pr=>?_) (λer c H5 ki s5'=>kn (by rw[n3 x y ex ey,show prs [] bl=none from er];rfl) c none H5 ki (s14.trans s5'))));have er:prs [] bl=some rs:=er;have pe:Fc z.cps.toList=some (x,y,rs):=by rw[n3 x y ex ey,er];rfl
     have nR:L∉Ds g:=λz=>by
      obtain⟨o1,e1⟩:=fu4.nw.s L z;rw[nL']at e1;cases e1
     have s15:=s14.trans s5';have frn:∀{H6:Hp},Fr g H5 H6->Fr g H H6:=λ{H6} fr b o e n1 n2 n3=>fr b o (s15 _ _ e) n1 n2 n3;exact⟨g,G,x,y,L,ts,rs,rfl,fu.same s15,hL,nR,pr,(OH rfl er).1,C8 (LS er) nb,few,λnf r G6 H6 B6 fr6 fu6 go6 vl6=>ks x y rs pe nf r G6 H6 B6 (frn fr6) fu6 go6 vl6,λfar c G6 H6 ki fr6 fu6 go6=>kf x y rs pe far c G6 H6 ki (frn fr6) fu6 go6⟩
end
open PySem.NumText
theorem cutTo(x:Str){j:Int}(h0:0<=j)(h1:j<=x.length):(Txt.slice x none (some j)).cps.toList=x.cps.toList.take j.toNat:=by
 have e:=beq_iff_eq.mp (PyProof.Rows.slice_closes_toL (x:=x) h0 h1);rw[e];show List.take (j-0).toNat (List.drop 0 x.cps.toList)=_;rw[List.drop_zero,Int.sub_zero]
def DO(m:Nat)(u:List Nat):Bool:=if u=[]\/m<u.length\/u.head?=some 48 then false else u.all Nu.dig
section
variable{P:Program}{w:World}{K:W.Frag}{mg:Str->Option Value}{base:Heap}{a:Ad}
inductive SpLF(vs:List V)(H:Hp)(Q:VK):Prop
 |mk (x:Str) (m:Nat) (_:vs=[.str x,.int (m:Int)]) (_:x.length<=10000) (_:Q (.bl (DO m x.cps.toList)) H):SpLF vs H Q
def spLF:Sp:=λvs H Q _=>SpLF vs H Q
theorem ok_lf{f:Addr}{fd:FuncData}(F:Fun K "_law_figures" "_law_figures" EH f fd)(T:Top K mg a):AO P w K mg base CX0 1 f fd Dn spLF:=by
 refine F.ok GQ (λvs H Q E h=>?_) (λcdv A outer s H vs Q E hr h=>?_)
 ·apply Ay;intro G_ hG_;obtain⟨x,m,rfl,_⟩:=h;apply hG_;clear hG_ G_;rfl
 ·apply Ay;intro G_ hG_;obtain⟨x,m,rfl,hx,k⟩:=h;apply hG_;clear hG_ G_;have hl:=Nu.len x;have no:(x.cps.toList=[]\/m<x.cps.toList.length\/x.cps.toList.head?=some 48)->DO m x.cps.toList=false:=λq=>Z6 q;refine⟨_,(Ab (AB (PW.pt (BM (Ak Bg (pv 0) AJ (An _)) (BM (Ak DM (As BN rfl T.b_len K0 (Aa (pv 0) Ac)) (pv 1) (An _)) (BE (Ak Bg (At FU (pv 0) Ae (λ_ _=>rfl)) AJ (An _)))))) (Af (Am Db)) Ap) (Ab (Ci X8 rfl (OL (pv 0)) (AF (i:=2) GQ.nd rfl (Or.inl rfl)) (Af (AB (Ak JB (pv 2) AJ rfl) (Af (Am Db)) Ap))) (Af (Am Db)))),?_⟩
  try dsimp only[cxK]
  refine AL ?_;intro r1 s1 k1 hk1 E1;refine xq1 rfl ⟨rfl,(xq1 rfl ?_)⟩;by_cases z:x.cps.toList=[]
  ·rw[no (.inl z)]at k;rw[Z3 (X4 V.str (Sf z))];exact AI (AI k)
  rw[Z4 (by
   intro q;injection q with q
   exact z (by rw[q];decide +kernel))]
  obtain⟨c,r,ec⟩:∃c r,x.cps.toList=c::r:=by
   cases e:x.cps.toList with
   |nil=>exact absurd e z
   |cons c r=>exact⟨c,r,rfl⟩
  have l1:1<=x.length:=by rw[hl,ec];exact S7 (F5 _)
  refine AE (xq1 rfl ⟨x,rfl,BB A0,(xwb rfl rfl rfl (xq1 rfl ?_))⟩);by_cases z2:m<x.cps.toList.length
  ·rw[no (.inr (.inl z2))]at k;rw[Z3 (by lia:(m:Int)<(x.length:Int))];exact AI (AI k)
  rw[Z4 (by lia:¬(m:Int)<(x.length:Int))];refine AE (xq1 rfl ⟨x,0,c,rfl,rfl,BB A0,Ai (j:=0) (by rw[ec];rfl),rfl,(xq1 rfl ?_)⟩);rw[Jn (d:=48) A1];by_cases z3:c=48
  ·rw[no (.inr (.inr (by rw[ec,z3];rfl)))]at k;rw[Z3 z3];exact AI k
  rw[Z4 z3];refine AE ?_;have yes:DO m x.cps.toList=x.cps.toList.all Nu.dig:=Z5 (by
   rintro(q|q|q)
   ·exact z q
   ·exact z2 q
   ·rw[ec]at q;exact z3 (X2 q))
  rw[yes]at k;refine hk1 ?_;refine AL ?_;intro r2 s2 k2 hk2 E2;refine xq1 rfl ⟨x,rfl,?_⟩;refine SF (x:=x) (λi σ H2=>H=H2/\∃u2:Option V,σ=[some (.str x),some (.int (m:Int)),u2]/\(x.cps.toList.take i).all Nu.dig=true) ⟨rfl,none,rfl,rfl⟩ ?_ ?_
  ·rintro i ch σ H2 hch z5_;apply Ay;intro G_ hG_;obtain⟨rfl,u2,rfl,al⟩:=z5_;apply hG_;clear hG_ G_;have hch:x.cps.toList[i]?=some ch:=by rw[F3];exact hch
   refine xwb rfl rfl rfl (xq1 rfl ?_);rw[Nu.IH];by_cases d:Nu.dig ch=true
   ·rw[d];refine AE ⟨rfl,(xq1 rfl ?_)⟩;exact Nu.QK hch al d
   ·have d:Nu.dig ch=false:=by simpa using d
    rw[d];refine AI ?_;have:x.cps.toList.all Nu.dig=false:=by
     rw[V2];intro q;rw[M9.mp q ch (M3 hch)]at d;cases d
    rw[this]at k;exact k
  ·rintro σ H2 z2_;apply Ay;intro G_ hG_;obtain⟨rfl,u2,rfl,al⟩:=z2_;apply hG_;clear hG_ G_;rw[S2 (by rw[C3];exact B1 _)]at al;rw[al]at k;exact hk2 k
theorem WC{d:List Nat}(ne:d≠[])(hd:d.all Nu.dig=true)(h:DO 13 d=false\/d=[49]):amt d=none:=by
 unfold amt;rw[Z5 ne,Z6];rcases h with h|h
 ·unfold DO at h;split at h
  ·rename_i z;rcases z with z|z|z
   ·exact absurd z ne
   ·exact .inl z
   ·exact .inr (.inl z)
  ·rw[hd]at h;cases h
 ·exact .inr (.inr h)
theorem amt_yes{d:List Nat}(ne:d≠[])(h:DO 13 d=true)(n:d≠[49]):amt d=some (digitsVal d):=by
 unfold DO at h;split at h
 ·cases h
 rename_i z;unfold amt;rw[Z5 ne,Z5];rintro(q|q|q)
 ·exact z (.inr (.inl q))
 ·exact z (.inr (.inr q))
 ·exact n q
inductive SpLRu(vs:List V)(H:Hp)(Q:VK):Prop
 |mk (x:Str) (_:vs=[.str x]) (_:x.length<=1000) (_:∀rs,prs [] x.cps.toList=some rs->∀(L:Addr)(ts:List Addr)(H':Hp),H L=none->Aw H H'->H' L=some (.lst (ts.map V.ref))->Paired (CQ H') ts rs->Q (.ref L) H') (_:prs [] x.cps.toList=none->∀H',Aw H H'->Q .non H'):SpLRu vs H Q
def Si:Sp:=λvs H Q _=>SpLRu vs H Q
theorem ok_lru{f:Addr}{fd:FuncData}(F:Fun K "_law_runs" "_law_runs" Ia f fd)(T:Top K mg a)(aE:Cal P w K mg base CX0 1 "_law_figures" Dn spLF):AO P w K mg base CX0 2 f fd Fp Si:=by
 refine F.ok Cg (λvs H Q E h=>?_) (λcdv A outer s H vs Q E hr h=>?_)
 ·obtain⟨x,rfl,_⟩:=h;rfl
 ·apply Ay;intro G_ hG_;obtain⟨x,rfl,xl,kr,kn⟩:=h;apply hG_;clear hG_ G_;refine⟨_,(Ab (Ah (i:=1) Cg.nd rfl (Or.inl rfl) (BF Ac)) (Ab (Ic X8 (Ak Dt (pv 0) AJ (An _)) (Ab (Ah (i:=2) Cg.nd rfl (Or.inl rfl) Ae) (Ab (Ic X8 (PW.pt (Je (Ak Fq (pv 2) (As BN rfl T.b_len K0 (Aa (pv 0) Ac)) (An _)) (Gs (Ak Er (At FU (pv 0) (pv 2) (λ_ _=>rfl)) AJ rfl)))) (Af (Ah (i:=2) Cg.nd rfl (Or.inl rfl) (Ao AR (pv 2) Ae)))) (Ab (AB (PW.pt (BM (Ak Bg (pv 2) (As BN rfl T.b_len K0 (Aa (pv 0) Ac)) (An _)) (BE (Ak JB (At FU (pv 0) (pv 2) (λ_ _=>rfl)) AJ rfl)))) (Af (Am Cz)) Ap) (Ab (AB (PW.pt (Je (Ak DM (pv 2) Ae (An _)) (Gs (PW.pt (BM (Bp (AZ (Aq aE (rm hr) rfl Ar (Aa (BW Di (pv 0) Cr (Cp (pv 2))) (Bu Ac))))) (BE (Ak Bg (BW Di (pv 0) Cr (Cp (pv 2))) AJ (An _)))))))) (Af (Am Cz)) Ap) (Ab (Ah (i:=3) Cg.nd rfl (Or.inl rfl) Ae) (Ab (AB (Ak DM (pv 2) Ae (An _)) (Af (Ah (i:=3) Cg.nd rfl (Or.inl rfl) (Ck CP rfl T.b_int A0b (Aa (BW Di (pv 0) Cr (Cp (pv 2))) Ac)))) Ap) (Ab (Co (Cc X9 K2 K3 CJ (pv 1) (Cn (Aa (pv 3) (Aa (At FU (pv 0) (pv 2) (λ_ _=>rfl)) Ac)) Ac))) (Af (Ah (i:=0) Cg.nd rfl (Or.inl rfl) (BW Di (pv 0) (Cp (Ao AR (pv 2) Ae)) Cr))))))))))) (Af (Am (pv 1))))),?_⟩
  try dsimp only[cxK]
  refine AL ?_;intro r1 s1 k1 hk1 E1;refine⟨(by show 0<=sizeLine;decide),λL hL=>?_⟩;generalize eH:upd H L _=H1;have s1':Aw H H1:=eH▸Al hL;have hL1:H1 L=some (.lst []):=eH▸Ag;refine hk1 ?_;refine AL ?_;intro r2 s2 k2 hk2 E2;refine⟨λn σ Hx=>∃(z:Str)(ts:List Addr)(rs:List Rn)(u2 u3:Option V),z.cps.toList.length=n/\σ=[some (.str z),some (.ref L),u2,u3]/\Aw H Hx/\Hx L=some (.lst (ts.map V.ref))/\Paired (CQ Hx) ts rs/\rs.length+z.cps.toList.length<=1000/\prs [] x.cps.toList=(prs [] z.cps.toList).map (rs ++ ·),⟨_,x,[],[],none,none,rfl,rfl,s1',hL1,.nil,by rw[<-Nu.len];show 0+x.length<=1000;lia,by cases prs [] x.cps.toList<;>rfl⟩,?_⟩;rintro n σ Hx z3_;apply Ay;intro G_ hG_;obtain⟨z,ts,rs,u2,u3,rfl,rfl,sm,hLx,pr,bl,hp⟩:=z3_;apply hG_;clear hG_ G_;have zl:=Nu.len z;have lts:=A0a pr;refine xq1 rfl ⟨rfl,(xq1 rfl ?_)⟩;by_cases ze:z.cps.toList=[]
  ·rw[show(!decide (V.str z=V.str (Str.ofString "")))=false by rw[Sf ze,Z3 rfl];rfl];refine AE ?_;refine hk2 ?_;rw[ze]at hp;have hp:prs [] x.cps.toList=some (rs++[]):=hp;rw[N4]at hp;exact xq1 rfl (kr rs hp L ts Hx hL sm hLx pr)
  rw[show(!decide (V.str z=V.str (Str.ofString "")))=true by
   rw[Z4 (by
    intro q;injection q with q
    exact ze (by rw[q];decide +kernel))]
   rfl]
  refine AI ?_;refine⟨fun σ' H'=>∃(z':Str)(ts:List Addr)(rs:List Rn)(u2 u3:Option V),z'.cps.toList.length<z.cps.toList.length/\σ'=[some (.str z'),some (.ref L),u2,u3]/\Aw H H'/\H' L=some (.lst (ts.map V.ref))/\Paired (CQ H') ts rs/\rs.length+z'.cps.toList.length<=1000/\prs [] x.cps.toList=(prs [] z'.cps.toList).map (rs ++ ·),fun σ' H' ⟨z',ts,rs,u2,u3,h1,h2,h3⟩=>⟨_,h1,z',ts,rs,u2,u3,rfl,h2,h3⟩,?_⟩;refine AL ?_;intro r3 s3 k3 hk3 E3;refine hk3 ?_;refine AL ?_;intro r4 s4 k4 hk4 E4;have fin:∀i:Nat,i<=z.cps.toList.length->(z.cps.toList.take i).all Nu.dig=true->(i=z.cps.toList.length\/∃c,z.cps.toList[i]?=some c/\Nu.dig c=false)->k4 [some (.str z),some (.ref L),some (.int (i:Int)),u3] Hx:=λi il al how=>by
   refine hk4 ?_;refine AL ?_;intro r5 s5 k5 hk5 E5;refine xw2 rfl rfl ⟨z,rfl,BB A0,rfl,(xq1 rfl ?_)⟩;by_cases e:i=z.cps.toList.length
   ·rw[Z3 (X4 V.int (by rw[zl,e]))];refine AI (AI (kn ?_ Hx sm));rw[e,M8]at al;have:=OI [] z.cps.toList [] al;rw[N4]at this;rw[hp,this,List.nil_append,prs,Z5 ze];rfl
   obtain⟨c,ec,cd⟩:=how.resolve_left e;have il:i<z.cps.toList.length:=(B8.mp ec).1;have et:z.cps.toList=z.cps.toList.take i++c::z.cps.toList.drop (i+1):=by
    have e2:=P5 il;rw[(B8.mp ec).2]at e2;rw[<-e2,N2]
   have hp:prs [] x.cps.toList=(prs (z.cps.toList.take i) (c::z.cps.toList.drop (i+1))).map (rs ++ ·):=by
    rw[hp]
    conv=>lhs;rw[et]
    rw[OI [] _ _ al,List.nil_append]
   rw[Z4 (by
    intro q;injection q with q
    exact e A0)]
   refine AE (xw2 rfl rfl ⟨z,_,c,rfl,rfl,BB A0,Ai ec,(xq2 rfl rfl (xq1 rfl ?_))⟩);rw[in_sg c];by_cases cs:c∈sg
   ·rw[Z3 cs];refine AE ?_;show k5 _ _;refine hk5 ?_;rw[Id cs]at hp;generalize hdd:z.cps.toList.take i=d at al hp et;have dl:d.length=i:=by rw[<-hdd,N6];lia
    have hsl:(Txt.slice z none (some (i:Int))).cps.toList=d:=by rw[cutTo z A0 A0,G7,hdd]
    have sll:(Txt.slice z none (some (i:Int))).length=i:=by rw[Nu.len,hsl,dl]
    refine AL ?_;intro r6 s6 k6 hk6 E6;have go6:(d≠[]->DO 13 d=true/\d≠[49])->k6 [some (.str z),some (.ref L),some (.int (i:Int)),u3] Hx:=λgood=>by
     refine hk6 ?_;refine AL ?_;intro r7 s7 k7 hk7 E7;refine hk7 ?_;refine AL ?_;intro r8 s8 k8 hk8 E8;have go8:∀n,amt d=some n->k8 [some (.str z),some (.ref L),some (.int (i:Int)),some (.int (n:Int))] Hx:=λn en=>by
      refine hk8 ?_;rw[en]at hp;refine AL ?_;intro r9 s9 k9 hk9 E9;refine xq1 rfl ⟨.inl ⟨rfl,_,SqL.of hLx⟩,(xw3 rfl rfl rfl ⟨z,_,c,rfl,rfl,BB A0,Ai ec,(by show 2<=sizeLine;decide),λt ht=>?_⟩)⟩;have s3:=Al (o:=.tup [.int n,.str ⟨#[c]⟩]) ht;have ht3:CQ (upd Hx t (.tup [.int n,.str ⟨#[c]⟩])) t ⟨n,c⟩:=Ag;generalize upd Hx t (.tup [.int n,.str ⟨#[c]⟩])=H3 at s3 ht3⊢;have hL3:=s3 _ _ hLx;refine⟨L,(xq2 rfl rfl ⟨hL3,by rw[B0];exact Du A0,?_⟩)⟩;have tp:∀{b:Addr}{ys:List V},H3 b=some (.tup ys)->upd H3 L (.lst (ts.map V.ref++[.ref t])) b=some (.tup ys):=λ{b ys} e=>by rw[AD (Bc e hL3 A4)];exact e
      refine hk9 ?_;refine xw2 rfl rfl (xq2 rfl rfl (xq1 rfl ⟨z,rfl,BB A0,?_⟩));have hcut:(Txt.slice z (some ((i:Int)+1)) none).cps.toList=z.cps.toList.drop (i+1):=by
       rw[Nu.LZ z _ A0,show((i:Int)+1).toNat=i+1 by lia]
      refine⟨_,ts++[t],rs++[⟨n,c⟩],_,_,?_,rfl,λb o e=>?_,by rw[Ag,D5];rfl,A5c (PairedM.imp (λb c z=>tp (s3 _ _ z)) pr) (show CQ _ t ⟨n,c⟩from tp ht3),?_,?_⟩
      ·rw[hcut,O0];lia
      ·rw[AD (Ax e hL)];exact s3 _ _ (sm _ _ e)
      ·rw[hcut,O0,B5,O4];lia
      ·rw[hcut,hp];show((prs [] (z.cps.toList.drop (i+1))).map (⟨n,c⟩ :: ·)).map (rs ++ ·)=_;cases prs [] (z.cps.toList.drop (i+1))with
       |none=>rfl
       |some l=>show some (rs++⟨n,c⟩::l)=some (rs++[⟨n,c⟩]++l);rw[M4];rfl
     refine xwb rfl rfl rfl (xq1 rfl ?_);by_cases i0:i=0
     ·rw[Z4 (by lia:¬(0:Int)<(i:Int))];refine AE (go8 1 ?_);have:d=[]:=O7 A0;unfold amt;rw[Z6 this]
     ·rw[Z3 (by lia:(0:Int)<(i:Int))];have dn:d≠[]:=λq=>by rw[q]at dl;exact i0 dl.symm
      obtain⟨g1,g2⟩:=good dn;have am:=amt_yes dn g1 g2;obtain⟨_,n13⟩:=WB al am;have du:Nu.due d=some ((digitsVal d:Nat):Int):=by
       unfold DO at g1;split at g1
       ·cases g1
       rename_i q;exact Pr al dn (O5 λz=>q (.inr (.inl A0))) λz=>q (.inr (.inr z))
      have l13:i<=13:=by
       unfold DO at g1;split at g1
       ·cases g1
       rename_i q;rw[<-dl];exact O5 λz=>q (.inr (.inl z))
      refine AI (xw3 rfl rfl rfl ⟨z,rfl,BB A0,_,_,rfl,Nu.Pl (by rw[hsl];exact du),by lia,go8 _ am⟩)
    refine xwb rfl rfl rfl (xq1 rfl ?_);by_cases i0:i=0
    ·rw[Z4 (by lia:¬(0:Int)<(i:Int))];exact AE (AE (go6 λq=>absurd (O7 A0) q))
    rw[Z3 (by lia:(0:Int)<(i:Int))];have dn:d≠[]:=λq=>by rw[q]at dl;exact i0 dl.symm
    refine AI ?_;refine xw3 rfl rfl rfl ⟨z,rfl,BB A0,_,13,rfl,by lia,?_⟩;rw[hsl];cases g1:DO 13 d with
    |false =>
     refine xq1 rfl (AI (AI (kn ?_ Hx sm)));rw[hp,WC dn al (.inl g1)];rfl
    |true =>
     refine xq1 rfl (AE (xw3 rfl rfl rfl ⟨z,rfl,BB A0,rfl,(xq1 rfl ?_)⟩));by_cases g2:d=[49]
     ·rw[Z3 (X4 V.str (Nu.ext (by rw[hsl,g2];decide +kernel)))];refine AI (kn ?_ Hx sm);rw[hp,WC dn al (.inr g2)];rfl
     ·rw[Z4 (by
       intro q;injection q with q
       have:=X4 (λs:Str=>s.cps.toList) q;rw[hsl]at this;exact g2 (by rw[this];decide +kernel))]
      exact AE (go6 λ_=>⟨g1,g2⟩)
   ·rw[Z4 cs];exact AI (kn (by rw[hp,Jx cd cs];rfl) Hx sm)
  refine⟨λm σ' H'=>∃i:Nat,i+m=z.cps.toList.length/\H'=Hx/\σ'=[some (.str z),some (.ref L),some (.int (i:Int)),u3]/\(z.cps.toList.take i).all Nu.dig=true,⟨_,0,S1 _,rfl,rfl,rfl⟩,?_⟩;rintro m σ Hy z3_;apply Ay;intro G_ hG_;obtain⟨i,im,rfl,rfl,al⟩:=z3_;apply hG_;clear hG_ G_;refine xw2 rfl rfl ⟨z,rfl,BB A0,(xq2 rfl rfl (xq1 rfl ?_))⟩;by_cases e:i=z.cps.toList.length
  ·rw[Z4 (by lia:¬(i:Int)<(z.length:Int))];exact AE (AE (fin i A0 al (.inl e)))
  have il:i<z.cps.toList.length:=by lia
  rw[Z3 (by lia:(i:Int)<(z.length:Int))];obtain⟨c,ec⟩:∃c,z.cps.toList[i]?=some c:=⟨_,C0 il⟩
  refine AI (xw2 rfl rfl ⟨z,_,c,rfl,rfl,BB A0,Ai ec,(xq2 rfl rfl (xq1 rfl ?_))⟩);rw[Nu.IH];by_cases d:Nu.dig c=true
  ·rw[d];refine AI ⟨fun σ' H'=>∃i m':Nat,m'<m/\i+m'=z.cps.toList.length/\H'=Hy/\σ'=[some (.str z),some (.ref L),some (.int (i:Int)),u3]/\(z.cps.toList.take i).all Nu.dig=true,fun σ' H' ⟨i,m',h1,h2⟩=>⟨m',h1,i,h2⟩,?_⟩;exact xwb rfl rfl rfl ⟨i+1,m-1,by lia,by lia,rfl,rfl,Nu.QK ec al d⟩
  ·have d:Nu.dig c=false:=by simpa using d
   rw[d];exact AE (fin i A0 al (.inr ⟨c,ec,d⟩))
end
open PySem.NumText
theorem Vf{t:List Nat}(h:t≠[48]):plN t=if DO 13 (Nu.fig t)=true then some (if Nu.neg t=true then -((digitsVal (Nu.fig t):Nat):Int)else((digitsVal (Nu.fig t):Nat):Int))else none:=by
 unfold plN;rw[Wl h];generalize Nu.fig t=u;generalize Nu.neg t=b;have na:(if b=true then -((digitsVal u:Nat):Int)else((digitsVal u:Nat):Int)).natAbs=digitsVal u:=by
  split<;>lia
 by_cases z:u=[]\/u.head?=some 48
 ·have f1:IT u=false:=Z6 (by rcases z with z|z;exact .inl z;exact .inr (.inr z));have f2:DO 13 u=false:=Z6 (by rcases z with z|z;exact .inl z;exact .inr (.inr z));rw[f1,f2];rfl
 have z1:u≠[]:=λq=>z (.inl q);have z2:u.head?≠some 48:=λq=>z (.inr q);by_cases l30:30<u.length
 ·have f1:IT u=false:=Z6 (.inr (.inl l30));have f2:DO 13 u=false:=Z6 (.inr (.inl A0));rw[f1,f2];rfl
 have f1:IT u=u.all Nu.dig:=Z5 (by rintro(q|q|q);exact z1 q;exact l30 q;exact z2 q);rw[f1];by_cases al:u.all Nu.dig=true
 ·obtain⟨v1,v2⟩:=RX al;have v2:=v2 z2 z1;rw[Z6 al];show(if(if b=true then -((digitsVal u:Nat):Int)else((digitsVal u:Nat):Int)).natAbs<=9999999999999 then _ else none)=_;rw[na];by_cases l13:13<u.length
  ·have f2:DO 13 u=false:=Z6 (.inr (.inl l13));have:=W9 (show 0<10 by decide) (show 13<=u.length-1 by lia);rw[f2,Z5 A0,Z5 A3]
  ·have f2:DO 13 u=true:=by rw[<-al];exact Z5 (by rintro(q|q|q);exact z1 q;exact l13 q;exact z2 q)
   have:=W9 (show 0<10 by decide) (show u.length<=13 by lia);rw[f2,Z6 A0,Z6 rfl]
 ·rw[Z5 al];have f2:DO 13 u=false:=by
   unfold DO;split
   ·rfl
   ·simpa using al
  rw[f2];rfl
def pcs(c:Nat):List Nat->List (List Nat)
 |[]=>[[]]
 |d::t=>if d=c then []::pcs c t else match pcs c t with
  |p::ps=>(d::p)::ps
  |[]=>[[d]]
theorem Lb(c:Nat):∀t,pcs c t≠[]
 |[]=>by simp[pcs]
 |d::t=>by
  unfold pcs;split
  ·simp
  ·split<;>simp
theorem Mq(c:Nat):∀t,∀p∈pcs c t,c∉p
 |[],p,h=>by
  rw[pcs,C9]at h;rw[h];simp
 |d::t,p,h=>by
  unfold pcs at h;by_cases e:d=c
  ·rw[Z6 e]at h;rcases B7.mp h with rfl|h
   ·simp
   ·exact Mq c t p h
  ·rw[Z5 e]at h;have ih:=Mq c t;split at h
   ·rename_i q ps eq;rw[eq]at ih;rcases B7.mp h with rfl|h
    ·intro z;rcases B7.mp z with z|z
     ·exact e z.symm
     ·exact ih q D3 z
    ·exact ih p (B9 _ h)
   ·rename_i eq;exact absurd eq (Lb c t)
theorem Vs(c:Nat):∀t,Tx.jl [c] (pcs c t)=t
 |[]=>rfl
 |d::t=>by
  have ih:=Vs c t;unfold pcs;by_cases e:d=c
  ·rw[Z6 e];cases q:pcs c t with
   |nil=>exact absurd q (Lb c t)
   |cons p ps =>
    rw[q]at ih;show []++[c]++Tx.jl [c] (p::ps)=_;rw[ih,e];rfl
  ·rw[Z5 e];cases q:pcs c t with
   |nil=>exact absurd q (Lb c t)
   |cons p ps =>
    rw[q]at ih;cases ps with
    |nil =>
     have ih:p=t:=ih;show d::p=_;rw[ih]
    |cons p2 ps =>
     have ih:p++[c]++Tx.jl [c] (p2::ps)=t:=ih;show d::p++[c]++Tx.jl [c] (p2::ps)=_;rw[<-ih];rfl
theorem NL(c:Nat)(z:Str):Txt.split z ⟨#[c]⟩=(pcs c z.cps.toList).map λp=>(⟨p.toArray⟩:Str):=by
 have e:z=Str.join ⟨#[c]⟩ ((pcs c z.cps.toList).map λp=>(⟨p.toArray⟩:Str)):=Nu.ext (by
  rw[Tx.Iw,U6];have:((λt:Str=>t.cps.toList) ∘ λp:List Nat=>(⟨p.toArray⟩:Str))=id:=by
   funext p
   simp
  rw[this,List.map_id];exact(Vs c z.cps.toList).symm)
 conv=>lhs;rw[e]
 refine Tx.PH c _ (by simp[Lb]) λt ht=>?_;obtain⟨p,hp,rfl⟩:=F1.mp ht
 simpa using Mq c _ p hp
theorem Jz{c:Nat}:∀{t:List Nat},BC c t=none->pcs c t=[t]
 |[],_=>rfl
 |d::t,h=>by
  unfold BC at h;by_cases e:d=c
  ·rw[Z6 e]at h;cases h
  ·rw[Z5 e]at h;unfold pcs;rw[Z5 e,Jz (Option.map_eq_none_iff.mp h)]
theorem Ih{c:Nat}:∀{t p q:List Nat},BC c t=some (p,q)->pcs c t=p::pcs c q
 |d::t,p,q,h=>by
  unfold BC at h;by_cases e:d=c
  ·rw[Z6 e]at h;cases h;rw[pcs,Z6 e]
  ·rw[Z5 e]at h;apply Ay;intro G_ hG_;obtain⟨⟨p',q'⟩,e1,e2⟩:=F4.mp h;apply hG_;clear hG_ G_;cases e2;rw[pcs,Z5 e,Ih e1]
theorem OJ{c:Nat}(cd:Nu.dig c=false)(cs:c∉sg):∀{t u:List Nat},c∈t->prs u t=none
 |d::t,u,h=>by
  by_cases hd:Nu.dig d=true
  ·rw[prs,Z6 hd];rcases B7.mp h with z|z
   ·rw[<-z,cd]at hd;cases hd
   ·exact OJ cd cs z
  ·have hd:Nu.dig d=false:=by simpa using hd
   by_cases hs:d∈sg
   ·rw[Id hs];rcases B7.mp h with z|z
    ·exact absurd (z▸hs) cs
    ·rw[OJ cd cs z];cases amt u<;>rfl
   ·exact Jx hd hs
theorem plN_bad{c:Nat}(cd:Nu.dig c=false)(c45:c≠45)(c48:c≠48){t:List Nat}(h:c∈t):plN t=none:=by
 rw[Vf (λz=>by rw[z]at h;exact c48 (C9.mp h)),Z5];have hf:c∈Nu.fig t:=by
  cases q:Nu.neg t with
  |false=>rw[Nu.CZ q];exact h
  |true =>
   rw[(Nu.CB q).2]at h;exact(B7.mp h).resolve_left c45
 unfold DO;split
 ·decide
 ·intro z;rw[M9.mp z c hf]at cd;cases cd
section
variable{P:Program}{w:World}{K:W.Frag}{mg:Str->Option Value}{base:Heap}{a:Ad}
inductive SpLN(vs:List V)(H:Hp)(Q:VK):Prop
 |mk (x:Str) (_:vs=[.str x]) (_:x.length<=1000) (_:∀n,plN x.cps.toList=some n->Q (.int n) H) (_:plN x.cps.toList=none->Q .non H):SpLN vs H Q
def spLN:Sp:=λvs H Q _=>SpLN vs H Q
theorem pl_zero:plN [48]=some 0:=by decide +kernel
theorem ok_ln{f:Addr}{fd:FuncData}(F:Fun K "_law_number" "_law_number" FE f fd)(T:Top K mg a)(aE:Cal P w K mg base CX0 1 "_law_figures" Dn spLF):AO P w K mg base CX0 2 f fd FP spLN:=by
 refine F.ok Mn (λvs H Q E h=>?_) (λcdv A outer s H vs Q E hr h=>?_)
 ·obtain⟨x,rfl,_⟩:=h;rfl
 ·apply Ay;intro G_ hG_;obtain⟨x,rfl,xl,k1,k2⟩:=h;apply hG_;clear hG_ G_;have hl:=Nu.len x;refine⟨_,(Ab (AB (Ak Bg (pv 0) AJ (An _)) (Af (Am Ae)) Ap) (Ab (AB (PW.pt (Je (Ak Bg (BW Di (pv 0) Cr (Cp Ae)) AJ (An _)) (Gs (AZ (Aq aE (rm hr) rfl Ar (Aa (BW Di (pv 0) (Cp Ae) Cr) (Bu Ac))))))) (Af (Am (Mp IV (Ck CP rfl T.b_int A0b (Aa (BW Di (pv 0) (Cp Ae) Cr) Ac))))) Ap) (Ab (AB (AZ (Aq aE (rm hr) rfl Ar (Aa (pv 0) (Bu Ac)))) (Af (Am (Ck CP rfl T.b_int A0b (Aa (pv 0) Ac)))) Ap) (Af (Am Cz))))),?_⟩
  try dsimp only[cxK]
  refine AL ?_;intro r1 s1 k hk E1;refine xq1 rfl ⟨rfl,(xq1 rfl ?_)⟩;by_cases z:x.cps.toList=[48]
  ·rw[Z3 (X4 V.str (Nu.ext (by rw[z];decide +kernel)))];exact AI (k1 0 (by rw[z];exact pl_zero))
  rw[Z4 (by
   intro q;injection q with q
   exact z (by rw[q];decide +kernel))]
  refine AE ?_;have pl:=Vf z;refine hk ?_;refine AL ?_;intro r2 s2 k' hk' E2;have c1:=Nu.cut1 x;have cf:=Nu.cut1' x;have good:∀{u:List Nat}{y:Str},y.cps.toList=u->DO 13 u=true->PySem.intText? y=some ((digitsVal u:Nat):Int)/\y.length<=640:=λ{u y} hy g=>by
   unfold DO at g;split at g
   ·cases g
   rename_i q;have l13:u.length<=13:=O5 λz=>q (.inr (.inl z));exact⟨Nu.Pl (by rw[hy];exact Pr g (λz=>q (.inl z)) A0 λz=>q (.inr (.inr z))),by rw[Nu.len,hy];lia⟩
  refine xw2 rfl rfl ⟨x,rfl,BB A0,rfl,(xq1 rfl ?_)⟩;have rest:(Nu.neg x.cps.toList=true->DO 13 (Nu.fig x.cps.toList)=false)->k' s2 H:=λhneg=>by
   refine hk' ?_;refine AL ?_;intro r3 s3 k3 hk3 E3;refine xq1 rfl ⟨x,13,rfl,by lia,?_⟩;cases q:Nu.neg x.cps.toList with
   |true =>
    have f0:DO 13 x.cps.toList=false:=by
     rw[(Nu.CB q).2];unfold DO;split
     ·rfl
     ·rw[T5];rfl
    rw[hneg q,Z5 A3]at pl;rw[f0];refine xq1 rfl (AE ?_);refine hk3 ?_;exact k2 pl
   |false =>
    rw[q,Nu.CZ q]at pl;cases g:DO 13 x.cps.toList with
    |false =>
     rw[g,Z5 A3]at pl;refine xq1 rfl (AE ?_);refine hk3 ?_;exact k2 pl
    |true =>
     rw[g,Z6 rfl,Z5 A3]at pl;obtain⟨g1,g2⟩:=good rfl g;exact xq1 rfl (AI (xq1 rfl ⟨x,(xq1 rfl ⟨g1,g2,k1 _ pl⟩)⟩))
  by_cases q:Nu.neg x.cps.toList=true
  ·rw[Z3 (X4 V.str (Nu.ext (by rw[c1,(Nu.OX _).mp q];decide +kernel)))];have fg:=(Nu.CB q).1;refine AI (xw2 rfl rfl ⟨x,rfl,BB A0,_,13,rfl,?_,?_⟩)
   ·rw[Nu.len,cf,O0];lia
   rw[cf,<-fg];cases g:DO 13 (Nu.fig x.cps.toList)with
   |false=>exact⟨_,rfl,AE (rest λ_=>g)⟩
   |true =>
    rw[g,Z6 rfl,Z6 q]at pl;obtain⟨g1,g2⟩:=good (cf.trans fg.symm) g;exact xq1 rfl (AI (xw2 rfl rfl ⟨x,rfl,BB A0,_,_,rfl,g1,g2,(xq1 rfl (k1 _ pl))⟩))
  ·rw[Z4 (by
    intro z';injection z' with z'
    refine q ((Nu.OX _).mpr ?_);rw[<-c1,z'];decide +kernel)]
   exact AE (AE (rest λz'=>absurd z' q))
end
open PySem.NumText
theorem Vt{t p q:List Nat}(h:BC 58 t=some (p,q))(h2:58∈q):Fc t=none:=by
 unfold Fc;rw[h];show((BC 44 p).bind λq'=>(plN q'.1).bind λx=>(plN q'.2).bind λy=>(prs [] q).map λrs=>(x,y,rs))=none;rw[OJ (c:=58) A3 A3 h2];cases BC 44 p with
 |none=>rfl
 |some uv =>
  show((plN uv.1).bind λx=>(plN uv.2).bind λy=>none)=none;cases plN uv.1 with
  |none=>rfl
  |some x=>show((plN uv.2).bind λy=>none)=none;cases plN uv.2<;>rfl
theorem Vu{t p q u v:List Nat}(h:BC 58 t=some (p,q))(h1:BC 44 p=some (u,v))(h2:44∈v):Fc t=none:=by
 rw[OQ h h1,plN_bad (c:=44) A3 A3 A3 h2];cases plN u<;>rfl
theorem pcs_one{c:Nat}{t:List Nat}(h:c∉t):pcs c t=[t]:=by
 cases e:BC c t with
 |none=>exact Jz e
 |some pq =>
  obtain⟨e1,_⟩:=BU (show BC c t=some (pq.1,pq.2)from e);exact absurd (by rw[e1];simp) h
theorem pcs_two{c:Nat}{t:List Nat}(h:c∈t):2<=(pcs c t).length:=by
 cases e:BC c t with
 |none=>exact absurd h (EW e)
 |some pq =>
  rw[Ih (show BC c t=some (pq.1,pq.2)from e),C4];have:=Lb c pq.2;cases q:pcs c pq.2 with
  |nil=>exact absurd q this
  |cons=>rw[C4];lia
def sOf(p:List Nat):V:=.str ⟨p.toArray⟩
theorem Me{c:Nat}(t:List Nat):(∃p q,BC c t=some (p,q)/\c∉q/\pcs c t=[p,q])\/((pcs c t).length≠2/\(BC c t=none\/∃p q,BC c t=some (p,q)/\c∈q)):=by
 cases e:BC c t with
 |none=>exact .inr ⟨by rw[Jz e];show 1≠2;decide,.inl rfl⟩
 |some pq =>
  obtain⟨p,q⟩:=pq;by_cases z:c∈q
  ·refine .inr ⟨?_,.inr ⟨p,q,rfl,z⟩⟩;rw[Ih e,C4];have:=pcs_two z;lia
  ·exact .inl ⟨p,q,rfl,z,by rw[Ih e,pcs_one z]⟩
section
variable{P:Program}{w:World}{K:W.Frag}{mg:Str->Option Value}{base:Heap}{a:Ad}
inductive SpLRd(vs:List V)(H:Hp)(Q:VK):Prop
 |mk (x:Str) (_:vs=[.str x]) (_:x.length<=1000) (_:∀X Y rs,Fc x.cps.toList=some (X,Y,rs)->∀(t L:Addr)(ts:List Addr)(H':Hp),Aw H H'->H' t=some (.tup [.int X,.int Y,.ref L])->H' L=some (.lst (ts.map V.ref))->Paired (CQ H') ts rs->Q (.ref t) H') (_:Fc x.cps.toList=none->∀H',Aw H H'->Q .non H'):SpLRd vs H Q
def UP:Sp:=λvs H Q _=>SpLRd vs H Q
theorem ok_lrd{f:Addr}{fd:FuncData}(F:Fun K "_law_read" "_law_read" Ib f fd)(T:Top K mg a)(b6:Cal P w K mg base CX0 2 "_law_number" FP spLN)(aV:Cal P w K mg base CX0 2 "_law_runs" Fp Si):AO P w K mg base CX0 3 f fd Ik UP:=by
 refine F.ok CF (λvs H Q E h=>?_) (λcdv A outer s H vs Q E hr h=>?_)
 ·obtain⟨x,rfl,_⟩:=h;rfl
 ·apply Ay;intro G_ hG_;obtain⟨x,rfl,xl,k1,k2⟩:=h;apply hG_;clear hG_ G_;have hl:=Nu.len x;have c58:Str.ofString ":" = ⟨#[58]⟩:=by decide +kernel
  have c44:Str.ofString "," = ⟨#[44]⟩:=by decide +kernel
  refine⟨_,(Ab (Ah (i:=1) CF.nd rfl (Or.inl rfl) (Cc X6 PySem.F.slot_str_split PySem.F.type_str_split Qh (pv 0) (AA Ac))) (Ab (Ah (i:=2) CF.nd rfl (Or.inl rfl) (Cc X6 PySem.F.slot_str_split PySem.F.type_str_split Qh (At AQ (pv 1) Ae (λ_ _=>rfl)) (AA Ac))) (Ab (AB (PW.pt (BM (Ak Dt (As BO rfl T.b_len K0 (Aa (pv 1) Ac)) Ae (An _)) (BE (Ak Dt (As BO rfl T.b_len K0 (Aa (pv 2) Ac)) Ae (An _))))) (Af (Am Cz)) Ap) (Ab (Ah (i:=3) CF.nd rfl (Or.inl rfl) (Aq b6 (rm hr) rfl Ar (Aa (At AQ (pv 2) Ae (λ_ _=>rfl)) Ac))) (Ab (Ah (i:=4) CF.nd rfl (Or.inl rfl) (Aq b6 (rm hr) rfl Ar (Aa (At AQ (pv 2) Ae (λ_ _=>rfl)) Ac))) (Ab (Ah (i:=5) CF.nd rfl (Or.inl rfl) (Aq aV (rm hr) rfl Ar (Aa (At AQ (pv 1) Ae (λ_ _=>rfl)) Ac))) (Ab (AB (PW.pt (BM (Ak Il (pv 3) Cz (An _)) (BM (Ak Il (pv 4) Cz (An _)) (BE (Ak Il (pv 5) Cz (An _)))))) (Af (Am Cz)) Ap) (Af (Am (Ea (Aa (pv 3) (Aa (pv 4) (Aa (pv 5) Ac))))))))))))),?_⟩
  try dsimp only[cxK]
  refine AL ?_;intro r1 s1 kk1 hk1 E1;refine xq1 rfl ⟨rfl,x,(xq1 rfl ⟨rfl,by decide +kernel,by lia,λD nD=>?_⟩)⟩;rw[c58,NL,U6];generalize eH:upd H D _=H1;have s1':Aw H H1:=eH▸Al nD;have h1:H1 D=some (.lst ((pcs 58 x.cps.toList).map sOf)):=eH▸Ag;refine hk1 ?_;refine AL ?_;intro r2 s2 kk2 hk2 E2;obtain⟨p0,ps,ep⟩:∃p0 ps,pcs 58 x.cps.toList=p0::ps:=by
   cases q:pcs 58 x.cps.toList with
   |nil=>exact absurd q (Lb _ _)
   |cons p0 ps=>exact⟨p0,ps,rfl⟩
  have p0l:p0.length<=x.cps.toList.length:=by
   rcases Me (c:=58) x.cps.toList with ⟨p,q,e,_,e2⟩|⟨_,e|⟨p,q,e,_⟩⟩
   ·rw[ep]at e2;cases e2;rw[(BU e).1,B5];lia
   ·rw[Jz e]at ep;cases ep;exact B1 _
   ·rw[Ih e]at ep;cases ep;rw[(BU e).1,B5];lia
  have p0n:(⟨p0.toArray⟩:Str).length=p0.length:=by rw[Nu.len]
  refine⟨_,rfl,D,_,0,sOf p0,rfl,rfl,SqL.of h1,Ai (j:=0) (by rw[ep];rfl),rfl,⟨p0.toArray⟩,_,rfl,rfl,by decide +kernel,by lia,λD2 nD2=>?_⟩;rw[c44,NL,U6];generalize eH2:upd H1 D2 _=H2;have s2':Aw H1 H2:=eH2▸Al nD2;have h2:H2 D2=some (.lst ((pcs 44 p0).map sOf)):=eH2▸Ag;have h12:=s2' _ _ h1;have s12:=s1'.trans s2';clear eH eH2 nD nD2 s1' s2' h1;refine hk2 ?_;refine AL ?_;intro r3 s3 kk3 hk3 E3;refine xq1 rfl ⟨D,(xq1 rfl ⟨.inl (SqL.of h12),rfl,(xq1 rfl ?_)⟩)⟩;have ne2:∀{n:Nat},n≠2->(!decide (V.int (n:Int)=V.int 2))=true:=λ{n} h=>by
   rw[Z4 (by
    intro q;injection q with q
    exact h A0)]
   rfl
  rcases Me (c:=58) x.cps.toList with ⟨p,q,e1,n58,e2⟩|⟨n2,how⟩
  ·rw[ep]at e2;cases e2;rw[show(!decide (V.int (((pcs 58 x.cps.toList).map sOf).length:Int)=V.int 2))=false by rw[B0,ep];rfl];refine AE (xq1 rfl ⟨D2,(xq1 rfl ⟨.inl (SqL.of h2),rfl,(xq1 rfl ?_)⟩)⟩);rcases Me (c:=44) p0 with ⟨u,v,e3,n44,e4⟩|⟨n2,how⟩
   ·rw[show(!decide (V.int (((pcs 44 p0).map sOf).length:Int)=V.int 2))=false by rw[B0,e4];rfl];refine AE ?_;refine hk3 ?_;have pa:=OQ e1 e3;have lu:u.length+v.length<=1000:=by
     rw[(BU e3).1,B5,C4]at p0l;lia
    have lq:q.length<=1000:=by
     have:=X4 List.length (BU e1).1;rw[B5,C4]at this;lia
    have un:(⟨u.toArray⟩:Str).length=u.length:=by rw[Nu.len]
    have vn:(⟨v.toArray⟩:Str).length=v.length:=by rw[Nu.len]
    have qn:(⟨q.toArray⟩:Str).length=q.length:=by rw[Nu.len]
    rw[e4]at h2;rw[ep]at h12;have num:∀(t:List Nat),∃m:V,(∀n,plN t=some n->m=.int n)/\(plN t=none->m=.non):=λt=>by
     cases plN t with
     |none=>exact⟨.non,(λn h=>nomatch h),λ_=>rfl⟩
     |some n=>exact⟨.int n,(λn h=>by cases h;rfl),λh=>nomatch h⟩
    obtain⟨mu,u1,u2⟩:=num u;obtain⟨mv,v1,v2⟩:=num v;refine AL ?_;intro r4 s4 kk4 hk4 E4;have go4:kk4 (s4.set 3 (some mu)) H2:=by
     refine hk4 ?_;refine AL ?_;intro r5 s5 kk5 hk5 E5;have go5:kk5 (s5.set 4 (some mv)) H2:=by
      refine hk5 ?_;refine AL ?_;intro r6 s6 kk6 hk6 E6;refine xwi rfl rfl rfl (SqL.of h12) (Ai (j:=1) rfl) ⟨⟨q.toArray⟩,rfl,by lia,λrs er L ts H' nL sm hL pr=>?_,λer H' sm=>?_⟩
      ·have er:prs [] q=some rs:=er;refine hk6 ?_;refine AL ?_;intro r7 s7 kk7 hk7 E7;refine xq1 rfl ⟨rfl,(xq1 rfl ?_)⟩;cases eu:plN u with
       |none =>
        rw[Z3 (u2 eu)];exact AI (AI (k2 (by rw[pa,eu];rfl) H' (s12.trans sm)))
       |some X =>
        rw[Z4 (by rw[u1 X eu];intro q;cases q)];refine AE (xq1 rfl ⟨rfl,(xq1 rfl ?_)⟩);cases ev:plN v with
        |none =>
         rw[Z3 (v2 ev)];refine AI (AI (k2 ?_ H' (s12.trans sm)));rw[pa,eu];show Option.bind (plN v) _=_;rw[ev];rfl
        |some Y =>
         rw[Z4 (by rw[v1 Y ev];intro q;cases q)];refine AE (xq1 rfl ⟨rfl,(xq1 rfl ?_)⟩);rw[Z4 (by intro q;cases q)];refine AE ?_;refine hk7 ?_;refine xw3 rfl rfl rfl ⟨(by show 3<=sizeLine;decide),λt nt=>?_⟩;rw[u1 X eu,v1 Y ev];have s8:=Al (o:=.tup [.int X,.int Y,.ref L]) nt;refine k1 X Y rs ?_ t L ts _ ((s12.trans sm).trans s8) Ag (s8 _ _ hL) (PairedM.imp (λb c z=>(s8 _ _ z:CQ _ b c)) pr);rw[pa,eu];show Option.bind (plN v) _=_;rw[ev];show Option.map _ (prs [] q)=_;rw[er];rfl
      ·have er:prs [] q=none:=er;have pn:Fc x.cps.toList=none:=by
        rw[pa,er];cases plN u with
        |none=>rfl
        |some X=>show((plN v).bind λy=>none)=none;cases plN v<;>rfl
       refine hk6 ?_;refine AL ?_;intro r7 s7 kk7 hk7 E7;refine xq1 rfl ⟨rfl,(xq1 rfl ?_)⟩;refine GH (λ_=>AI (k2 pn H' (s12.trans sm))) λ_=>?_;refine xq1 rfl ⟨rfl,(xq1 rfl ?_)⟩;refine GH (λ_=>AI (k2 pn H' (s12.trans sm))) λ_=>?_;refine xq1 rfl ⟨rfl,(xq1 rfl ?_)⟩;rw[Z3 rfl];exact AI (k2 pn H' (s12.trans sm))
     refine xwi rfl rfl rfl (SqL.of h2) (Ai (j:=1) rfl) ⟨⟨v.toArray⟩,rfl,by lia,λn en=>?_,λen=>?_⟩
     ·rw[<-v1 n en];exact go5
     ·rw[<-v2 en];exact go5
    refine xwi rfl rfl rfl (SqL.of h2) (Ai (j:=0) rfl) ⟨⟨u.toArray⟩,rfl,by lia,λn en=>?_,λen=>?_⟩
    ·rw[<-u1 n en];exact go4
    ·rw[<-u2 en];exact go4
   ·rw[ne2 (by rw[B0];exact n2)];refine AI (k2 ?_ H2 s12);rcases how with e3|⟨u,v,e3,z⟩
    ·exact OO e1 e3
    ·exact Vu e1 e3 z
  ·rw[ne2 (by rw[B0];exact n2)];refine AI (AI (k2 ?_ H2 s12));rcases how with e1|⟨p,q,e1,z⟩
   ·exact OP e1
   ·exact Vt e1 z
end
open PySem.NumText
def Ny(H:Hp)(t:Addr)(c:S4):Prop:=H t=some (.tup [.int c.y,.int c.x,.int (c.n:Int),.int (c.s:Int)])
theorem UH(x0 y0:Int)(l:List Rn):∀j,(sw x0 y0 (l.take j)).l.length<=j
 |0=>B1 _
 |j+1=>by
  have ih:=UH x0 y0 l j;cases e:l[j]? with
  |none =>
   rw[J1,e,Option.toList_none,N4];lia
  |some q =>
   rw[Oz x0 y0 e];unfold Dw;split
   ·exact Y7 ih
   ·split
    ·exact Y7 ih
    ·rw[B5,O4];lia
theorem let_at:∀c∈sg,c≠46->c≠47->(Builtin.Str.occurrences (Str.ofString "ABCDEFG") ⟨#[c]⟩ 0 (Str.ofString "ABCDEFG").length 1).head?=some (sg.idxOf c-1):=by decide +kernel
theorem let_ix{c:Nat}(h:c∈sg)(n6:c≠46)(n7:c≠47):∃r,Builtin.Str.occurrences (Str.ofString "ABCDEFG") ⟨#[c]⟩ 0 (Str.ofString "ABCDEFG").length 1=(sg.idxOf c-1)::r:=by
 have e:=let_at c h n6 n7;generalize Builtin.Str.occurrences (Str.ofString "ABCDEFG") ⟨#[c]⟩ 0 (Str.ofString "ABCDEFG").length 1=o at e;cases o with
 |nil=>cases e
 |cons a r=>cases e;exact⟨r,rfl⟩
section
variable{P:Program}{w:World}{K:W.Frag}{mg:Str->Option Value}{base:Heap}{a:Ad}
inductive SpSt(vs:List V)(H:Hp)(Q:VK):Prop
 |mk (x y:Int) (R:Addr) (ts:List Addr) (l:List Rn) (_:vs=[.int x,.int y,.ref R]) (_:H R=some (.lst (ts.map V.ref))) (_:Paired (CQ H) ts l) (_:∀r∈l,QM r) (_:l.length<=1000) (_:∀(L:Addr)(us:List Addr)(H':Hp),H L=none->Aw H H'->H' L=some (.lst (us.map V.ref))->Paired (Ny H') us (sw x y l).l->Q (.ref L) H'):SpSt vs H Q
def spSt:Sp:=λvs H Q _=>SpSt vs H Q
theorem ok_st{f:Addr}{fd:FuncData}(F:Fun K "_law_strips" "_law_strips" FC f fd)(T:Top K mg a):AO P w K mg base CX0 1 f fd FN spSt:=by
 refine F.ok Br (λvs H Q E h=>?_) (λcdv A outer s H vs Q E hr h=>?_)
 ·apply Ay;intro G_ hG_;obtain⟨x,y,R,ts,l,rfl,_⟩:=h;apply hG_;clear hG_ G_;rfl
 ·apply Ay;intro G_ hG_;obtain⟨x,y,R,ts,l,rfl,hR,pr,ok,l23,k⟩:=h;apply hG_;clear hG_ G_;have lts:=A0a pr;refine⟨_,(Ab (Ah (i:=3) Br.nd rfl (Or.inl rfl) (BF Ac)) (Ab (Ah (i:=4) Br.nd rfl (Or.inl rfl) (pv 0)) (Ab (Ah (i:=5) Br.nd rfl (Or.inl rfl) (pv 1)) (Ab (Ci X8 rfl (IA (pv 2)) (Dl rfl (AG (AF (i:=6) Br.nd rfl (Or.inl rfl)) (AG (AF (i:=7) Br.nd rfl (Or.inl rfl)) Cs))) (Af (AB (Ak Bg (pv 7) AJ (An _)) (Ab (Ah (i:=4) Br.nd rfl (Or.inl rfl) (pv 0)) (Af (Ah (i:=5) Br.nd rfl (Or.inl rfl) (Ao AR (pv 5) (pv 6))))) (Ab (AB (Ak Dt (pv 7) AJ (An _)) (Af (Co (Cc X9 K2 K3 CJ (pv 3) (Cn (Aa (pv 5) (Aa (pv 4) (Aa (pv 6) (Cu AR (Cc X6 A6h PySem.F.type_str_index Qi AJ (Aa (pv 7) Ac)) Ae Ac)))) Ac)))) Ap) (Af (Ah (i:=4) Br.nd rfl (Or.inl rfl) (Ao AR (pv 4) (pv 6)))))))) (Af (Am (pv 3))))))),?_⟩
  try dsimp only[cxK]
  refine⟨(by show 0<=sizeLine;decide),λD nD=>?_⟩;generalize e1:upd H D _=H1;have s1:Aw H H1:=e1▸Al nD;have h1:H1 D=some (.lst []):=e1▸Ag;refine xw3 rfl rfl rfl ⟨R,rfl,⟨_,SqL.of (s1 _ _ hR)⟩,?_⟩;refine Iq (xs:=ts.map V.ref) (λj σ H2=>∃(us:List Addr)(u6 u7:Option V),σ=[some (.int x),some (.int y),some (.ref R),some (.ref D),some (.int (sw x y (l.take j)).r),some (.int (sw x y (l.take j)).d),u6,u7]/\Aw H H2/\H2 D=some (.lst (us.map V.ref))/\Paired (Ny H2) us (sw x y (l.take j)).l) ⟨[],none,none,rfl,s1,h1,.nil⟩ (λj σ H2 _ z=>SqL.of (by obtain⟨_,_,_,_,sm,_⟩:=z;exact sm _ _ hR)) ?_ ?_
  ·rintro j v σ H2 ev z5_;apply Ay;intro G_ hG_;obtain⟨us,u6,u7,rfl,sm,hD,pu⟩:=z5_;apply hG_;clear hG_ G_;rw[C1]at ev;obtain⟨t,et,rfl⟩:=F4.mp ev;obtain⟨q,eq,ht⟩:=PairedM.getL pr et;have hj:j<l.length:=(B8.mp eq).1;have rk:=ok q (M3 eq);have ht2:CQ H2 t q:=sm _ _ ht;have ln:=UH x y l j;refine Ft ht2 ?_;rw[Oz x y eq];generalize sw x y (l.take j)=S at *
   have lu:=A0a pu;refine xq1 rfl ⟨rfl,(xq1 rfl ?_)⟩;rw[Jn (d:=47) A1];by_cases z7:q.c=47
   ·rw[Z3 z7,QS z7];exact AI (xw3 rfl rfl rfl (xq2 rfl rfl ⟨us,_,_,rfl,sm,hD,pu⟩))
   rw[Z4 z7];refine AE (xq1 rfl ⟨rfl,(xq1 rfl ?_)⟩);rw[Jn (d:=46) A1];by_cases z6:q.c=46
   ·rw[Z3 z6,QU z6];exact AE (xw2 rfl rfl (xq2 rfl rfl ⟨us,_,_,rfl,sm,hD,pu⟩))
   rw[Z4 z6,QT ⟨z6,z7⟩];obtain⟨rr,ho⟩:=let_ix rk.c z6 z7;obtain⟨i1,i8⟩:=Ra _ rk.c z6 z7;refine AI (xq1 rfl ⟨.inl ⟨rfl,_,SqL.of hD⟩,(xw3 rfl rfl rfl ⟨rfl,(xq1 rfl ⟨_,_,sg.idxOf q.c-1,rr,rfl,rfl,ho,(xq2 rfl rfl ⟨(by show 4<=sizeLine;decide),λt3 nt3=>?_⟩)⟩)⟩)⟩);generalize e3:upd H2 t3 _=H3;have s3:Aw H2 H3:=e3▸Al nt3;have h3:Ny H3 t3 ⟨S.r,S.d,q.a,sg.idxOf q.c⟩:=by
    show H3 t3=some (.tup [.int S.d,.int S.r,.int (q.a:Int),.int (sg.idxOf q.c:Int)]);rw[<-e3,show((sg.idxOf q.c:Nat):Int)=((sg.idxOf q.c-1:Nat):Int)+1 by lia];exact Ag
   have hD3:=s3 _ _ hD;have tp:∀{b:Addr}{ys:List V}{o:HO},H3 b=some (.tup ys)->upd H3 D o b=some (.tup ys):=λ{b ys o} e=>by rw[AD (Bc e hD3 A4)];exact e
   refine⟨D,(xq2 rfl rfl ⟨hD3,Du (by rw[B0,lu];lia),?_⟩)⟩;refine xw2 rfl rfl (xq2 rfl rfl ?_);refine⟨us++[t3],_,_,rfl,λb o e=>?_,by rw[Ag,D5];rfl,A5c (PairedM.imp (λb c z=>(tp (s3 _ _ z):Ny _ b c)) pu) (tp h3:Ny _ t3 _)⟩;rw[AD (Ax e nD)];exact s3 _ _ (sm _ _ e)
  ·rintro σ H2 z2_;apply Ay;intro G_ hG_;obtain⟨us,u6,u7,rfl,sm,hD,pu⟩:=z2_;apply hG_;clear hG_ G_;rw[B0,lts,M8]at pu;exact xq1 rfl (k D us H2 nD sm hD pu)
inductive SpLe(vs:List V)(H:Hp)(Q:VK):Prop
 |mk (L:Addr) (us:List Addr) (ss:List S4) (_:vs=[.ref L]) (_:H L=some (.lst (us.map V.ref))) (_:Paired (Ny H) us ss) (_:∀b:Bool,(b=true↔Nq ss)->Q (.bl b) H):SpLe vs H Q
def spLe:Sp:=λvs H Q _=>SpLe vs H Q
theorem ok_le{f:Addr}{fd:FuncData}(F:Fun K "_law_leaves" "_law_leaves" FG f fd)(T:Top K mg a):AO P w K mg base CX0 1 f fd FR spLe:=by
 refine F.ok Cv (λvs H Q E h=>?_) (λcdv A outer s H vs Q E hr h=>?_)
 ·apply Ay;intro G_ hG_;obtain⟨L,us,ss,rfl,_⟩:=h;apply hG_;clear hG_ G_;rfl
 ·apply Ay;intro G_ hG_;obtain⟨L,us,ss,rfl,hL,pu,k⟩:=h;apply hG_;clear hG_ G_;have lu:=A0a pu;refine⟨_,(Ab (Ci X8 rfl (IA (pv 0)) (Dl rfl (AG (AF (i:=1) Cv.nd rfl (Or.inl rfl)) (AG (AF (i:=2) Cv.nd rfl (Or.inl rfl)) (AG (AF (i:=3) Cv.nd rfl (Or.inl rfl)) (AG (AF (i:=4) Cv.nd rfl (Or.inl rfl)) Cs))))) (Af (AB (PW.pt (BM (Ak Fq (As (Ge rfl) rfl T.b_min A2b (Aa (pv 2) (Aa (pv 1) Ac))) (Mp IV (Ao ES Ae Ae)) (An _)) (BE (Ak DM (As (IK rfl) rfl T.b_max A4c (Cu AR (pv 2) (pv 3) (Cu AR (pv 1) Ae Ac))) (Ao ES Ae Ae) (An _))))) (Af (Am Db)) Ap))) (Af (Am Db))),?_⟩
  try dsimp only[cxK]
  refine xq1 rfl ⟨L,rfl,⟨_,SqL.of hL⟩,?_⟩;refine Iq (xs:=us.map V.ref) (λj σ H2=>H=H2/\∃(u1 u2 u3 u4:Option V),σ=[some (.ref L),u1,u2,u3,u4]/\∀c∈ss.take j,Ep c.x c.y c.n 1 (2^40)) ⟨rfl,none,none,none,none,rfl,λr hr=>(by simp at hr)⟩ (λj σ H2 _ z=>SqL.of (by rw[<-z.1];exact hL)) ?_ ?_
  ·rintro j v σ H2 ev z5_;apply Ay;intro G_ hG_;obtain⟨rfl,u1,u2,u3,u4,rfl,al⟩:=z5_;apply hG_;clear hG_ G_;rw[C1]at ev;obtain⟨t,et,rfl⟩:=F4.mp ev;obtain⟨c,ec,ht⟩:=PairedM.getL pu et;have ht:H t=some (.tup [.int c.y,.int c.x,.int (c.n:Int),.int (c.s:Int)]):=ht;refine⟨t,(xq1 rfl ⟨SqT.of ht,rfl,_,_,rfl,_,_,rfl,_,_,rfl,(xq2 rfl rfl ?_)⟩)⟩;have pw:(1:Int)*2^(40:Int).toNat=1099511627776:=by decide
   have pw2:(2:Int)^40=1099511627776:=by decide
   have out:¬Ep c.x c.y c.n 1 (2^40)->Q (.bl true) H:=λno=>k true ⟨λ_=>⟨c,M3 ec,no⟩,λ_=>rfl⟩;refine xw2 rfl rfl ⟨_,_,rfl,(xq2 rfl rfl ⟨⟨by decide,by decide,by decide⟩,(xwb rfl rfl rfl (xq1 rfl ?_))⟩)⟩;by_cases b1:(if c.y<c.x then c.y else c.x) < -(1*2^(40:Int).toNat)
   ·rw[Z3 b1];refine AI (AI (out λ⟨h1,h2,_,_⟩=>?_));rw[pw]at b1;rw[pw2]at h1 h2;split at b1<;>lia
   rw[Z4 b1];refine AE (xw2 rfl rfl (xq2 rfl rfl (xwb rfl rfl rfl ⟨_,_,rfl,(xq2 rfl rfl ⟨⟨by decide,by decide,by decide⟩,(xq2 rfl rfl (xq1 rfl ?_))⟩)⟩)));by_cases b2:1*2^(40:Int).toNat<(if c.y+1 > c.x+(c.n:Int)then c.y+1 else c.x+(c.n:Int))
   ·rw[Z3 b2];refine AI (out λ⟨_,_,h3,h4⟩=>?_);rw[pw]at b2;rw[pw2]at h3 h4;split at b2<;>lia
   rw[Z4 b2];refine AE ⟨rfl,_,_,_,_,rfl,λd hd=>?_⟩;rw[J1,ec]at hd;rcases C6.mp hd with hd|hd
   ·exact al d hd
   ·have hd:d=c:=by simpa using hd
    subst hd;rw[pw]at b1 b2;show -(2^40)<=d.x/\-(2^40)<=d.y/\d.x+(d.n:Int)<=2^40/\d.y+1<=2^40;rw[pw2];split at b1<;>split at b2<;>lia
  ·rintro σ H2 z2_;apply Ay;intro G_ hG_;obtain⟨rfl,u1,u2,u3,u4,rfl,al⟩:=z2_;apply hG_;clear hG_ G_;rw[B0,lu,M8]at al;exact k false ⟨(λz=>by cases z),λ⟨c,hc,no⟩=>absurd (al c hc) no⟩
end
end J
namespace J
open PySem L2
def Vb(c:Cl):List Int:=[c.y,c.x,(c.s:Int)]
structure Of(G:Gv)(n f:Nat)(ds:List Cl):Prop where
 nd:(ds.map λc=>(c.x,c.y)).Nodup
 mem:∀c:Cl,c∈ds↔(1<=c.s/\fieldF G n f c.x c.y=c.s)
theorem TC{G:Gv}(ok:GOk G){n f:Nat}(l:Au G f ((n+1:Nat):Int)){r:List Int}:r∈DG G (n+1) f (-(2^n)) (-(2^n)) ↔ ∃x y:Int,fieldF G n f x y≠0/\r=[y,x,(fieldF G n f x y:Int)]:=by
 have c:=GS n;have e:=NP n;rw[Es ok l];constructor
 ·rintro⟨u,v,hu,hv,ne,rfl⟩;have ef:fieldF G n f (-(2^n)+u) (-(2^n)+v)=cellF G (n+1) f u v:=by
   unfold fieldF;rw[Z6 ⟨by lia,by lia,by lia,by lia⟩];congr 1<;>lia
  refine⟨-(2^n)+u,-(2^n)+v,by rw[ef];exact ne,by rw[ef]⟩
 ·rintro⟨x,y,ne,rfl⟩;have ne':=ne;unfold fieldF at ne';split at ne'
  ·rename_i z;obtain⟨z1,z2,z3,z4⟩:=z;refine⟨(x+2^n).toNat,(y+2^n).toNat,Ei z1 z2,Ei z3 z4,ne',?_⟩;unfold fieldF;rw[Z6 ⟨z1,z2,z3,z4⟩,show -(2^n)+(((y+2^n).toNat:Nat):Int)=y by lia,show -(2^n)+(((x+2^n).toNat:Nat):Int)=x by lia]
  ·exact absurd rfl ne'
theorem Of.perm{G:Gv}(ok:GOk G){n f:Nat}(l:Au G f ((n+1:Nat):Int)){ds:List Cl}(h:Of G n f ds):(DG G (n+1) f (-(2^n)) (-(2^n))).Perm (ds.map Vb):=by
 refine(List.perm_ext_iff_of_nodup (Ls ok l) ?_).mpr λr=>?_
 ·rw[F6,O3];have nd:=h.nd;rw[F6,O3]at nd;refine nd.imp λ{c d} hne e=>hne ?_;injection e with e1 e
  injection e with e2 e
  rw[e1,e2]
 ·rw[TC ok l,F1];constructor
  ·rintro⟨x,y,ne,rfl⟩;exact⟨⟨x,y,fieldF G n f x y⟩,(h.mem _).mpr ⟨Nat.pos_of_ne_zero ne,rfl⟩,rfl⟩
  ·rintro⟨c,hc,rfl⟩;obtain⟨h1,h2⟩:=(h.mem c).mp hc;exact⟨c.x,c.y,by lia,by rw[h2];rfl⟩
theorem Of.cnt{G:Gv}(ok:GOk G){n f:Nat}(l:Au G f ((n+1:Nat):Int)){ds:List Cl}(h:Of G n f ds):Bl G (n+1) f=(ds.length:Int):=by
 rw[<-Dd ok (x:=-(2^n)) (y:=-(2^n)) l,(h.perm ok l).length_eq,B0]
theorem PR:∀{l m:List (List Int)},l.Pairwise (λp q=>CM q p=false)->m.Pairwise (λp q=>CM q p=false)->l.Perm m->l=m
 |[],m,_,_,h=>(List.nil_perm.mp h).symm
 |a::l,[],_,_,h=>absurd h.length_eq A5
 |a::l,b::m,h1,h2,h=>by
  rw[List.pairwise_cons]at h1 h2;have e:a=b:=by
   have ha:a∈b::m:=h.mem_iff.mp (D3 ..);have hb:b∈a::l:=h.mem_iff.mpr (D3 ..);rcases B7.mp ha with z|z
   ·exact z
   ·rcases B7.mp hb with y|y
    ·exact y.symm
    ·exact Qp (h2.1 a z) (h1.1 b y)
  subst e;rw[PR h1.2 h2.2 h.cons_inv]
structure DsOk(ds:List Cl)(φ:Int->Int->Nat):Prop where
 nd:(ds.map λc=>(c.x,c.y)).Nodup
 mem:∀c:Cl,c∈ds↔(1<=c.s/\φ c.x c.y=c.s)
seal L2.PA L2.PE L2.PS L2.PSs L2.PT L2.PW
theorem RC(n:Nat):(λ(i j:Int)=>V.int (i/j)) ((λ(i j:Int)=>i*2^j.toNat) 1 ((n+1:Nat):Int)) 2=V.int ((2^n:Nat):Int):=by
 show V.int (1*2^(((n+1:Nat):Int)).toNat/2)=_;have c:=GS n;rw[G7,R4,Int.one_mul,Int.mul_ediv_cancel _ A3,c]
section
variable{P:Program}{w:World}{K:W.Frag}{mg:Str->Option Value}{base:Heap}{a:Ad}
inductive SpSA(a:Ad)(vs:List V)(H:Hp)(Q:VK):Prop
 |mk (g:GA) (G:Gv) (f n:Nat) (x y:Int) (_:vs=[.ref g.p,.int f,.int x,.int y]) (_:Bs a H g G) (_:Au G f ((n+1:Nat):Int)) (_:n<=40) (_:Q (.int (fieldF G n f x y)) H):SpSA a vs H Q
def spSA(a:Ad):Sp:=λvs H Q _=>SpSA a vs H Q
theorem ok_sa{f:Addr}{fd:FuncData}(F:Fun K "_law_state_at" "_law_state_at" DY f fd)(T:Top K mg a)(a5:CS P w K mg base CX0 3 a.c_Grove "level_of" AH (Fe a))(a9:CS P w K mg base CX0 4 a.c_Grove "state_of" Cd (PJ a))
  (a7:CS P w K mg base CX0 4 a.c_Grove "quarters" BP (NM a)):AO P w K mg base CX0 5 f fd Ee (spSA a):=by
 refine F.ok AY (λvs H Q E h=>?_) (λcdv A outer s H vs Q E hr h=>?_)
 ·apply Ay;intro G_ hG_;obtain⟨g,G,f',n,x,y,rfl,_⟩:=h;apply hG_;clear hG_ G_;rfl
 ·apply Ay;intro G_ hG_;obtain⟨g,G,f',n,x,y,rfl,fu,lf,n40,k⟩:=h;obtain⟨q0,eq0,l0⟩:=id lf;apply hG_;clear hG_ G_;refine⟨_,(Ab (Ah (i:=4) AY.nd rfl (Or.inl rfl) (AK (pv 0) a5 (rm hr) Ar (Aa (pv 1) Ac))) (Ab (Ah (i:=2) AY.nd rfl (Or.inl rfl) (Ao AR (pv 2) (Ao Bf (Ao ES Ae (pv 4)) Ae))) (Ab (Ah (i:=3) AY.nd rfl (Or.inl rfl) (Ao AR (pv 3) (Ao Bf (Ao ES Ae (pv 4)) Ae))) (Ab (AB (PW.pt (BM (Bp (Jw IR Fq Ae (pv 2) (Ao ES Ae (pv 4)))) (BE (Bp (Jw IR Fq Ae (pv 3) (Ao ES Ae (pv 4))))))) (Af (Am Ae)) Ap) (Ab (Ic X8 (Ak DM (pv 4) Ae (An _)) (Ab (Ah (i:=5) AY.nd rfl (Or.inl rfl) (Ao Bf (Ao ES Ae (pv 4)) Ae)) (Ab (Ah (i:=1) AY.nd rfl (Or.inl rfl) (At Az (AK (pv 0) a7 (rm hr) Ar (Aa (pv 1) Ac)) (Ao AR (Ao ET Ae (Ao PY (pv 3) (pv 5))) (Ao PY (pv 2) (pv 5))) (λ_ _=>rfl))) (Ab (Ah (i:=2) AY.nd rfl (Or.inl rfl) (Ao Ba (pv 2) (pv 5))) (Ab (Ah (i:=3) AY.nd rfl (Or.inl rfl) (Ao Ba (pv 3) (pv 5))) (Af (Ah (i:=4) AY.nd rfl (Or.inl rfl) (Ao FT (pv 4) Ae)))))))) (Af (Am (AK (pv 0) a9 (rm hr) Ar (Aa (pv 1) Ac))))))))),?_⟩
  try dsimp only[cxK]
  refine xq1 rfl ⟨g.p,g.dx,(xq1 rfl ⟨fu.at'.hp,BL g,(xq1 rfl ⟨g,G,f',q0,rfl,fu.at',eq0,?_⟩)⟩)⟩;rw[l0];refine xw2 rfl rfl (xq2 rfl rfl ⟨⟨by lia,by lia,by decide⟩,(xq2 rfl rfl ⟨⟨by decide,by decide⟩,?_⟩)⟩);rw[RC];refine xq2 rfl rfl ?_;refine xw2 rfl rfl (xq2 rfl rfl ⟨⟨by lia,by lia,by decide⟩,(xq2 rfl rfl ⟨⟨by decide,by decide⟩,?_⟩)⟩);rw[RC];refine xq2 rfl rfl ?_;have c:=GS n;have e2:(1:Int)*2^(((n+1:Nat):Int)).toNat=2^n+2^n:=by rw[G7,R4];lia
  have away:¬(-(2^n)<=x/\x<2^n/\-(2^n)<=y/\y<2^n)->Q (.int 0) H:=λz=>by
   unfold fieldF at k;rw[Z5 z]at k;exact k
  have fl:∀{c:Prop} [Decidable c],¬c->decide c=false:=λh=>Z4 h;have tl:∀{c:Prop} [Decidable c],c->decide c=true:=λh=>Z3 h;refine xwb rfl rfl rfl (xq1 rfl ?_);by_cases z1:(0:Int)<=x+((2^n:Nat):Int)
  ·refine(λh=>by rw[tl z1];exact AI h) ?_;refine xwb rfl rfl rfl ⟨⟨by lia,by lia,by decide⟩,(xq2 rfl rfl (xq1 rfl ?_))⟩;by_cases z2:x+((2^n:Nat):Int)<1*2^(((n+1:Nat):Int)).toNat
   ·refine(λh=>by rw[tl z2];exact AE h) ?_;refine xwb rfl rfl rfl (xq1 rfl ?_);by_cases z3:(0:Int)<=y+((2^n:Nat):Int)
    ·refine(λh=>by rw[tl z3];exact AI h) ?_;refine xwb rfl rfl rfl ⟨⟨by lia,by lia,by decide⟩,(xq2 rfl rfl (xq1 rfl ?_))⟩;by_cases z4:y+((2^n:Nat):Int)<1*2^(((n+1:Nat):Int)).toNat
     ·refine(λh=>by rw[tl z4];exact AE h) ?_;have z:-(2^n)<=x/\x<2^n/\-(2^n)<=y/\y<2^n:=by lia
      have k:Q (.int (cellF G (n+1) f' (x+2^n).toNat (y+2^n).toNat)) H:=by
       unfold fieldF at k;rw[Z6 z]at k;exact k
      have hx:=Ei z.1 z.2.1;have hy:=Ei z.2.2.1 z.2.2.2;rw[show(λ(i j:Int)=>V.int (i+j)) x ((2^n:Nat):Int)=V.int (((x+2^n).toNat:Nat):Int)from X4 V.int (by show x+((2^n:Nat):Int)=_;lia),show(λ(i j:Int)=>V.int (i+j)) y ((2^n:Nat):Int)=V.int (((y+2^n).toNat:Nat):Int)from X4 V.int (by show y+((2^n:Nat):Int)=_;lia)];generalize (x+2^n).toNat=X at k hx⊢;generalize (y+2^n).toNat=Y at k hy⊢;clear c e2 z z1 z2 z3 z4 away q0 eq0 l0;refine⟨λm σ H2=>H=H2/\∃(i X Y:Nat)(u5:Option V),σ=[some (.ref g.p),some (.int i),some (.int X),some (.int Y),some (.int m),u5]/\Au G i (m:Int)/\m<=41/\X<2^m/\Y<2^m/\Q (.int (cellF G m i X Y)) H,⟨n+1,rfl,f',X,Y,none,rfl,lf,by lia,hx,hy,k⟩,?_⟩;rintro m σ H2 z3_;apply Ay;intro G_ hG_;obtain⟨rfl,i,X,Y,u5,rfl,li,m41,hx,hy,k⟩:=z3_;apply hG_;clear hG_ G_;obtain⟨q0,eq0,l0⟩:=id li;refine xwb rfl rfl rfl (xq1 rfl ?_);cases m with
      |zero =>
       rw[Z4 A3];refine AE ?_;exact xq1 rfl ⟨g.p,g.dx,(xq1 rfl ⟨fu.at'.hp,Ji g,(xq1 rfl ⟨g,G,i,q0,rfl,fu.at',eq0,l0,k⟩)⟩)⟩
      |succ m =>
       rw[Z3 A0];refine AI ⟨_,fun σ' H' h=>⟨m,V5 m,h⟩,?_⟩;apply Ay;intro G_ hG_;obtain⟨q,qa,qb,qc,qd,nd⟩:=AU fu.ok li;apply hG_;clear hG_ G_;refine xwb rfl rfl rfl ⟨⟨by lia,by lia,by decide⟩,(xq2 rfl rfl ⟨⟨by decide,by decide⟩,?_⟩)⟩;rw[RC];have pm:2^m<2^64:=Nat.pow_lt_pow_right A3 A0;have pp:=Be m;have cm:((2^m:Nat):Int)<2^64:=by exact_mod_cast pm
       refine xq1 rfl ⟨g.p,g.dx,(xq1 rfl ⟨fu.at'.hp,DN g,(xq1 rfl ⟨g,G,i,q,rfl,fu.at',nd.g,by have:=nd.lev;lia,λt ht=>?_⟩)⟩)⟩;refine xw2 rfl rfl (xq2 rfl rfl ⟨⟨by lia,cm⟩,(xq2 rfl rfl ⟨.inl ⟨by decide,by decide⟩,(xw2 rfl rfl (xq2 rfl rfl ⟨⟨by lia,cm⟩,(xq2 rfl rfl ?_)⟩))⟩)⟩);have ei:(2:Int)*((Y:Int)/((2^m:Nat):Int))+(X:Int)/((2^m:Nat):Int)=((quad m X Y:Nat):Int):=by
        unfold quad;rw[U2,W8,Int.natCast_ediv,Int.natCast_ediv];lia
       have qk:=Fj hx hy;refine⟨t,_,_,.int (f4 qa qb qc qd (quad m X Y):Nat),rfl,rfl,SqT.of ht,?_,?_⟩
       ·show atI _ ((2:Int)*((Y:Int)/((2^m:Nat):Int))+(X:Int)/((2^m:Nat):Int))=_;rw[ei];refine Ai ?_;rw[C1,(nd.nat qk).1];rfl
       rw[AW nd hx hy]at k;refine xw2 rfl rfl (xq2 rfl rfl ⟨by lia,(xw2 rfl rfl (xq2 rfl rfl ⟨by lia,(xwb rfl rfl rfl ?_)⟩))⟩);refine⟨rfl,f4 qa qb qc qd (quad m X Y),X%2^m,Y%2^m,some (.int ((2^m:Nat):Int)),?_,(nd.nat qk).2,by lia,L7 _ pp,L7 _ pp,k⟩;have e1:V.int ((X:Int)%((2^m:Nat):Int))=V.int ((X%2^m:Nat):Int):=by rw[Int.natCast_emod]
       have e2:V.int ((Y:Int)%((2^m:Nat):Int))=V.int ((Y%2^m:Nat):Int):=by rw[Int.natCast_emod]
       have e3:V.int (((m+1:Nat):Int)-1)=V.int (m:Int):=X4 V.int A0;rw[<-e1,<-e2,<-e3];rfl
     ·refine(λh=>by rw[fl z4];exact AI h) ?_;exact away A0
    ·refine(λh=>by rw[fl z3];exact AE h) ?_;exact⟨false,rfl,AI (away A0)⟩
   ·refine(λh=>by rw[fl z2];exact AI h) ?_;exact AI (away A0)
  ·refine(λh=>by rw[fl z1];exact AE h) ?_;exact⟨false,rfl,AI (AI (away A0))⟩
end
open PySem.NumText
def EX(c:S4):List Cl:=(List.range c.n).map λk=>⟨c.x+((k:Nat):Int),c.y,c.s⟩
def BV(ss:List S4):List Cl:=ss.flatMap EX
theorem IF{c:S4}{d:Cl}:d∈EX c↔InS c d.x d.y/\d.s=c.s:=by
 unfold EX;rw[F1];constructor
 ·rintro⟨k,hk,rfl⟩;have hk:=M2.mp hk;exact⟨⟨by show c.x<=c.x+(k:Int);lia,by show c.x+(k:Int)<c.x+(c.n:Int);lia,rfl⟩,rfl⟩
 ·rintro z0_;apply Ay;intro G_ hG_;obtain⟨⟨h1,h2,h3⟩,h4⟩:=z0_;apply hG_;clear hG_ G_;refine⟨(d.x-c.x).toNat,M2.mpr A0,?_⟩;cases d with
  |mk dx dy ds =>
   have h3:dy=c.y:=h3;have h4:ds=c.s:=h4;subst h3;subst h4;congr 1;have h1:c.x<=dx:=h1;show c.x+(((dx-c.x).toNat:Nat):Int)=dx;lia
theorem Ru{ss:List S4}{d:Cl}:d∈BV ss ↔ ∃c∈ss,InS c d.x d.y/\d.s=c.s:=by
 unfold BV;rw[List.mem_flatMap];constructor
 ·rintro⟨c,hc,h⟩;exact⟨c,hc,IF.mp h⟩
 ·rintro⟨c,hc,h⟩;exact⟨c,hc,IF.mpr h⟩
theorem RM(ss:List S4):(BV ss).length=(ss.map λc=>c.n).sum:=by
 unfold BV;rw[List.length_flatMap];congr 1;refine Y1 λc _=>?_;unfold EX;rw[B0,N3]
theorem Wx(c:S4):(EX c).Pairwise λp q=>p.y=q.y/\p.x<q.x:=by
 unfold EX;rw[O3];exact List.pairwise_lt_range.imp λ{i j} h=>⟨rfl,by show c.x+(i:Int)<c.x+(j:Int);lia⟩
theorem Wu{ss:List S4}(h:ss.Pairwise Ov):(BV ss).Pairwise λp q=>p.y<q.y\/(p.y=q.y/\p.x<q.x):=by
 unfold BV;rw[List.pairwise_flatMap];refine⟨λc _=>(Wx c).imp λh=>.inr h,List.Pairwise.imp (λ{a b} k p hp q hq=>?_) h⟩;apply Ay;intro G_ hG_;obtain⟨⟨a1,a2,a3⟩,_⟩:=IF.mp hp;obtain⟨⟨b1,b2,b3⟩,_⟩:=IF.mp hq;apply hG_;clear hG_ G_;rcases k with k|⟨k1,k2⟩
 ·exact .inl A0
 ·exact .inr ⟨by lia,by lia⟩
theorem QD{ss:List S4}(h:ss.Pairwise Ov)(ok:∀c∈ss,1<=c.s):DsOk (BV ss) (Jf ss):=by
 refine⟨?_,λd=>?_⟩
 ·rw[F6,O3];refine(Wu h).imp λ{p q} k e=>?_;injection e with e1 e2
  lia
 ·rw[Ru];constructor
  ·rintro z0_;apply Ay;intro G_ hG_;obtain⟨c,hc,hi,e⟩:=z0_;apply hG_;clear hG_ G_;rw[e];exact⟨ok c hc,Rh (OS h) hc hi⟩
  ·rintro⟨d1,e⟩;by_cases z:∃c∈ss,InS c d.x d.y
   ·obtain⟨c,hc,hi⟩:=z;rw[Rh (OS h) hc hi]at e;exact⟨c,hc,hi,e.symm⟩
   ·rw[phi_out λc hc hi=>z ⟨c,hc,hi⟩]at e;lia
def JF(ss:List S4):Int:=(ss.map λc=>(c.n:Int)).sum
theorem Qn(ss:List S4):JF ss=((BV ss).length:Int):=by
 rw[RM];unfold JF;induction ss with
 |nil=>rfl
 |cons c ss ih =>
  rw[D7,D7,List.sum_cons,List.sum_cons,ih];lia
theorem RJ{G:Gv}(ok:GOk G){n f:Nat}(l:Au G f ((n+1:Nat):Int)){ss:List S4}(h:ss.Pairwise Ov)(h1:∀c∈ss,1<=c.s)(e:∀u v,fieldF G n f u v=Jf ss u v):Bl G (n+1) f=JF ss:=by
 have d:=QD h h1;rw[Qn];exact Of.cnt ok l ⟨d.nd,λc=>by rw[d.mem c,e]⟩
theorem VS{d:Addr}{H0 H H':Hp}(nd:H0 d=none)(s:Aw H0 H)(f:FrO d H H'):Aw H0 H':=λb o e=>f b o (s _ _ e) (Ax e nd)
theorem Qo(ss:List S4){j:Nat}{c:S4}(h:ss[j]?=some c):BV (ss.take (j+1))=BV (ss.take j)++EX c:=by
 unfold BV;rw[J1,h,U8,Y2];simp
section
variable{P:Program}{w:World}{K:W.Frag}{mg:Str->Option Value}{base:Heap}{a:Ad}
inductive SpHas(a:Ad)(vs:List V)(H:Hp)(Q:VK):Prop
 |mk (g:GA) (G:Gv) (f:Nat) (L:Addr) (us:List Addr) (ss:List S4) (B:Nat) (_:vs=[.ref g.p,.int f,.ref L]) (_:Bs a H g G) (_:H L=some (.lst (us.map V.ref))) (_:Paired (Ny H) us ss) (_:ss.Pairwise Ov) (_:∀c∈ss,1<=c.n/\c.n<10^13/\1<=c.s/\c.s<8) (_:ss.length<=8) (_:Vl G f (Jf ss) B) (_:G.length<9000000) (_:∀H',Aw H H'->Q (.bl true) H'):SpHas a vs H Q
def US(a:Ad):Sp:=λvs H Q _=>SpHas a vs H Q
theorem ok_has{f:Addr}{fd:FuncData}(F:Fun K "_law_has" "_law_has" EG f fd)(T:Top K mg a)(aF:Cal P w K mg base CX0 56 "_law_is_field" CV (spIF a))(aA:Cal P w K mg base CX0 55 "_law_count" BX (QY a 50))(aS:Cal P w K mg base CX0 5 "_law_state_at" Ee (spSA a))(bL:Cal P w K mg base CX0 107 "_law_walked" FM (spWk a)):AO P w K mg base CX0 108 f fd Jh (US a):=by
 refine F.ok Bm (λvs H Q E h=>?_) (λcdv A outer s H vs Q E hr h=>?_)
 ·apply Ay;intro G_ hG_;obtain⟨g,G,f',L,us,ss,B,rfl,_⟩:=h;apply hG_;clear hG_ G_;rfl
 ·apply Ay;intro G_ hG_;obtain⟨g,G,f',L,us,ss,B,rfl,fu,hL,pu,od,ok,l8,vl,few,k⟩:=h;apply hG_;clear hG_ G_;have lus:=A0a pu;apply Ay;intro G_ hG_;obtain⟨n,⟨lf,tr,n40⟩,ef⟩:=vl.ex;apply hG_;clear hG_ G_;have ct:=RJ fu.ok lf od (λc hc=>(ok c hc).2.2.1) ef;refine⟨_,(Ab (Ah (i:=3) Bm.nd rfl (Or.inl rfl) Ig) (Ab (Ah (i:=4) Bm.nd rfl (Or.inl rfl) (As (QF rfl) rfl T.b_sum PyProof.Rows.boot_sum (Aa (LT rfl (Eh.of (So:=Aj EG) (No:=Jj) (N:=["_law_strip"]) (k:=1) (cs:=[]) rfl rfl A1) (IA (pv 2)) (λ_ _ _=>(Ie (i:=0) A1 rfl rfl)) (λ_ _ _=>Jv) (λ_ _ _=>(At (ixc_tup (K:=K) rfl) (pv 0) Ae (λ_ _=>rfl)))) Ac))) (Ab (AB (PW.pt (BM (Bp (AZ (Aq aF (rm hr) rfl Ar (Aa (pv 0) (Aa (pv 1) (Aa (pv 3) Ac)))))) (BE (Ak Dt (Aq aA (rm hr) rfl Ar (Aa (pv 0) (Aa (pv 1) (Aa (pv 3) Ac)))) (pv 4) (An _))))) (Af (Am Db)) Ap) (Ab (Ci X8 rfl (IA (pv 2)) (Dl rfl (AG (AF (i:=5) Bm.nd rfl (Or.inr rfl)) (AG (AF (i:=6) Bm.nd rfl (Or.inr rfl)) (AG (AF (i:=7) Bm.nd rfl (Or.inl rfl)) (AG (AF (i:=8) Bm.nd rfl (Or.inr rfl)) Cs))))) (Af (AB (PW.pt (BM (Ak Dt (Aq aS (rm hr) rfl Ar (Aa (pv 0) (Aa (pv 1) (Aa (pv 6) (Aa (pv 5) Ac))))) (pv 8) (An _)) (BE (Ak Dt (Aq aS (rm hr) rfl Ar (Aa (pv 0) (Aa (pv 1) (Cu FT (Ao AR (pv 6) (pv 7)) Ae (Aa (pv 5) Ac))))) (pv 8) (An _))))) (Af (Am Db)) Ap))) (Ab (AB (Ak DM (pv 4) Ae (An _)) (Af (Am Db)) Ap) (Ab (Ah (i:=9) Bm.nd rfl (Or.inl rfl) (BF Ac)) (Ab (Ci X8 rfl (IA (pv 2)) (Dl rfl (AG (AF (i:=5) Bm.nd rfl (Or.inr rfl)) (AG (AF (i:=6) Bm.nd rfl (Or.inr rfl)) (AG (AF (i:=7) Bm.nd rfl (Or.inl rfl)) (AG (AF (i:=8) Bm.nd rfl (Or.inr rfl)) Cs))))) (Af (Ah (i:=9) Bm.nd rfl (Or.inl rfl) (Ao Lf (pv 9) (LT rfl (Eh.of (So:=Aj EG) (No:=Jj) (N:=["_law_k","_law_y","_law_x","_law_state"]) (k:=1) (cs:=[5,6,8]) rfl rfl A1) (Gb rfl T.b_range (Aa (pv 7) Ac)) (λ_ _ _=>(Ie (i:=0) A1 rfl rfl)) (λ_ _ _=>Jv) (λ_ _ _=>(Ea (Aa (pv 1) (Cu AR (pv 2) (pv 0) (Aa (pv 3) Ac)))))))))) (Af (Am (Bv (PZ hr.units) (Aq bL (rm hr) rfl Ar (Aa (pv 0) (Aa (pv 1) Ac))) (As JL rfl T.b_sorted PyProof.Rows.boot_sorted (Aa (pv 9) Ac)) (An _))))))))))),?_⟩
  try dsimp only[cxK]
  refine AL ?_;intro r1 s1 k1 hk1 E1;intro D nD;generalize eH:upd H D _=H1;have s1':Aw H H1:=eH▸Al nD;have hD:H1 D=some (.dK []):=eH▸Ag;clear eH;refine hk1 ?_;have hL1:=s1' _ _ hL;have pu1:=PairedM.imp (λt c z=>(s1' _ _ z:Ny H1 t c)) pu;have fu1:=fu.same s1';refine AL ?_;intro r2 s2 k2 hk2 E2;refine xq1 rfl ⟨L,rfl,⟨_,SqL.of hL1⟩,?_⟩;refine Wy (xs:=us.map V.ref) (λj acc H2=>H1=H2/\acc=((ss.take j).map λc=>(c.n:Int)).map V.int) ⟨rfl,rfl⟩ (λj acc H2 _ z=>z.1▸SqL.of hL1) ?_ ?_
  ·rintro j v acc H2 ev ⟨rfl,rfl⟩;rw[C1]at ev;obtain⟨t,et,rfl⟩:=F4.mp ev;obtain⟨c,ec,ht⟩:=PairedM.getL pu1 et;have jl:j<ss.length:=(B8.mp ec).1;refine⟨⟨[some (.ref t)],rfl,rfl⟩,by rw[B0,B0,N6];exact Du A0,Uz (xwi rfl rfl rfl (SqT.of ht) (Ai (j:=2) rfl) ⟨rfl,?_⟩)⟩;rw[J1,ec,D5,D5];rfl
  rintro acc H2 ⟨rfl,rfl⟩ X nX;rw[B0,lus,M8];generalize e2:upd H1 X _=H2;have s2':Aw H1 H2:=e2▸Al nX;have hX:H2 X=some (.lst ((ss.map λc=>(c.n:Int)).map V.int)):=e2▸Ag;refine⟨X,ss.map λc=>(c.n:Int),rfl,SqL.of hX,?_⟩;have hD2:=s2' _ _ hD;have s02:=s1'.trans s2';have fu2:=fu1.same s2';clear e2 nX hX;rw[show(ss.map λc=>(c.n:Int)).sum=JF ss from rfl];refine hk2 ?_;refine AL ?_;intro r3 s3 k3 hk3 E3;obtain⟨ks1,h1,_⟩:=fu.am;obtain⟨ks2,h2,_⟩:=fu.bx;have od':∀H',RQ a H' g D:=λ_=>⟨X5 (Ax h1 nD),X5 (Ax h2 nD)⟩
  refine xw3 rfl rfl rfl ⟨g,G,f',n,D,[],rfl,fu2,⟨lf,tr,n40⟩,hD2,od' _,GU.nil,few,λks3 H3 fo3 hD3 ck3=>⟨true,rfl,AE ?_⟩⟩;have fu3:=fu2.frO hD2 (od' _) fo3;have s03:=VS nD s02 fo3;refine xw3 rfl rfl rfl ⟨g,G,f',n+1,D,ks3,rfl,fu3,lf,by lia,hD3,od' _,ck3,few,λks4 H4 fo4 fu4 hD4 ck4=>?_⟩;have s04:=VS nD s03 fo4;rw[ct];refine xq1 rfl ⟨rfl,(xq1 rfl ?_)⟩;rw[show(!decide (V.int (JF ss)=V.int (JF ss)))=false by rw[Z3 rfl];rfl];refine AE ?_;show k3 _ _;refine hk3 ?_;clear fu3 s03 fo3 hD3 ck3 fo4 hD4 ck4 hD2 fu2 s02 hD fu1 s1' s2' hL1 pu1;have hL4:=s04 _ _ hL;have pu4:=PairedM.imp (λt c z=>(s04 _ _ z:Ny H4 t c)) pu;refine AL ?_;intro r5 s5 k5 hk5 E5;refine xq1 rfl ⟨L,rfl,⟨_,SqL.of hL4⟩,?_⟩;refine Iq (xs:=us.map V.ref) (λj σ H2=>H4=H2/\∃(u5 u6 u7 u8:Option V),σ=[some (.ref g.p),some (.int f'),some (.ref L),some (.ref D),some (.int (JF ss)),u5,u6,u7,u8,none]) ⟨rfl,none,none,none,none,rfl⟩ (λj σ H2 _ z=>z.1▸SqL.of hL4) ?_ ?_
  ·rintro j v σ H2 ev z5_;apply Ay;intro G_ hG_;obtain⟨rfl,u5,u6,u7,u8,rfl⟩:=z5_;apply hG_;clear hG_ G_;rw[C1]at ev;obtain⟨t,et,rfl⟩:=F4.mp ev;obtain⟨c,ec,ht⟩:=PairedM.getL pu4 et;have hc:=M3 ec;apply Ay;intro G_ hG_;obtain⟨c1,c2,c3,c4⟩:=ok c hc;apply hG_;clear hG_ G_;refine⟨t,(xq1 rfl ⟨SqT.of ht,rfl,_,_,rfl,_,_,rfl,_,_,rfl,(xq2 rfl rfl ?_)⟩)⟩;have st:∀u,c.x<=u->u<c.x+c.n->fieldF G n f' u c.y=c.s:=λu h1 h2=>by
    rw[ef];exact Rh (OS od) hc ⟨h1,h2,rfl⟩
   refine xw3 rfl rfl rfl (xq1 rfl ⟨g,G,f',n,c.x,c.y,rfl,fu4,lf,n40,(xq1 rfl ⟨rfl,(xq1 rfl ?_)⟩)⟩);rw[st c.x (R9 _) A0,show(!decide (V.int (c.s:Int)=V.int (c.s:Int)))=false by rw[Z3 rfl];rfl];refine AE ?_;refine xw3 rfl rfl rfl (xwb rfl rfl rfl (xq2 rfl rfl (xq1 rfl ⟨g,G,f',n,c.x+c.n-1,c.y,rfl,fu4,lf,n40,(xq1 rfl ⟨rfl,(xq1 rfl ?_)⟩)⟩)));rw[st (c.x+c.n-1) A0 A0,show(!decide (V.int (c.s:Int)=V.int (c.s:Int)))=false by rw[Z3 rfl];rfl];exact AE ⟨rfl,_,_,_,_,rfl⟩
  rintro σ H2 z2_;apply Ay;intro G_ hG_;obtain⟨rfl,u5,u6,u7,u8,rfl⟩:=z2_;apply hG_;clear hG_ G_;refine hk5 ?_;refine AL ?_;intro r6 s6 k6 hk6 E6;refine xwb rfl rfl rfl (xq1 rfl ?_);by_cases m4:400<JF ss
  ·rw[Z3 m4];exact AI (k H4 s04)
  rw[Z4 m4];refine AE ?_;refine hk6 ?_;have ml:=Qn ss;have c400:∀{j:Nat}{c:S4},ss[j]?=some c->(BV (ss.take j)).length+c.n<=400:=λ{j c} h=>by
   have e1:=X4 List.length (Qo ss h);rw[B5]at e1;have e2:(EX c).length=c.n:=by unfold EX;rw[B0,N3]
   have e3:(BV (ss.take (j+1))).length<=(BV ss).length:=by
    have:BV ss=BV (ss.take (j+1))++BV (ss.drop (j+1)):=by
     unfold BV;rw[<-Y2,N2]
    rw[this,B5];lia
   lia
  refine AL ?_;intro r7 s7 k7 hk7 E7;refine⟨(by show 0<=sizeLine;decide),λLc nLc=>?_⟩;generalize e5:upd H4 Lc _=H5;have s5':Aw H4 H5:=e5▸Al nLc;have hLc:H5 Lc=some (.lst []):=e5▸Ag;refine hk7 ?_;refine AL ?_;intro r8 s8 k8 hk8 E8;refine xq1 rfl ⟨L,rfl,⟨_,SqL.of (s5' _ _ hL4)⟩,?_⟩;refine Iq (xs:=us.map V.ref) (λj σ H2=>∃(Lc:Addr)(items:List (Addr×List Int))(u5 u6 u7 u8:Option V),σ=[some (.ref g.p),some (.int f'),some (.ref L),some (.ref D),some (.int (JF ss)),u5,u6,u7,u8,some (.ref Lc)]/\Aw H4 H2/\H2 Lc=some (.lst (items.map λq=>V.ref q.1))/\Eg H2 items/\items.map (·.2)=(BV (ss.take j)).map Vb) ⟨Lc,[],_,_,_,_,rfl,s5',hLc,(λq hq=>nomatch hq),rfl⟩ (λj σ H2 _ z=>by obtain⟨_,_,_,_,_,_,_,sm,_⟩:=z;exact SqL.of (sm _ _ hL4)) ?_ ?_
  ·rintro j v σ H2 ev z5_;apply Ay;intro G_ hG_;obtain⟨Lc,items,u5,u6,u7,u8,rfl,sm,hLc,ra,er⟩:=z5_;apply hG_;clear hG_ G_;rw[C1]at ev;obtain⟨t,et,rfl⟩:=F4.mp ev;obtain⟨c,ec,ht⟩:=PairedM.getL pu4 et;have ht2:Ny H2 t c:=sm _ _ ht;have b4:=c400 ec;have il:items.length=(BV (ss.take j)).length:=by
    have:=X4 List.length er;rw[B0,B0]at this;exact this
   refine⟨t,(xq1 rfl ⟨SqT.of ht2,rfl,_,_,rfl,_,_,rfl,_,_,rfl,(xq2 rfl rfl ?_)⟩)⟩;refine xw3 rfl rfl rfl ⟨by lia,by lia,?_⟩;rw[G7];refine Uk (n:=c.n) (λi acc H3=>Aw H2 H3/\∃its:List (Addr×List Int),acc=its.map (λq=>V.ref q.1)/\Eg H3 its/\its.map (·.2)=((EX c).take i).map Vb) ⟨Aw.refl H2,[],rfl,(λq hq=>nomatch hq),rfl⟩ ?_ ?_
   ·rintro i acc H3 hi z4_;apply Ay;intro G_ hG_;obtain⟨s3,its,rfl,ra3,er3⟩:=z4_;apply hG_;clear hG_ G_;have l3:=X4 List.length er3;rw[B0,B0,N6]at l3;refine⟨⟨[some (.int (0+(i:Int)))],rfl,rfl⟩,by rw[B0];exact Du A0,Uz ?_⟩;refine xw3 rfl rfl rfl (xq2 rfl rfl (xq1 rfl ⟨(by show 3<=sizeLine;decide),λt3 nt3=>?_⟩));have s6:=Al (o:=.tup [.int c.y,.int (c.x+(0+(i:Int))),.int (c.s:Int)]) nt3;refine⟨s3.trans s6,its++[(t3,[c.y,c.x+(0+(i:Int)),(c.s:Int)])],by rw[D5];rfl,λq hq=>?_,?_⟩
    ·rcases C6.mp hq with z|z
     ·exact s6 _ _ (ra3 q z)
     ·rw[C9.mp z];exact Ag
    ·have ei:(EX c)[i]?=some ⟨c.x+(i:Int),c.y,c.s⟩:=by
      unfold EX;rw[C1,Q0 hi];rfl
     rw[D5,er3,J1,ei,U8,D5,Z1];rfl
   rintro acc H3 z2_ X nX;apply Ay;intro G_ hG_;obtain⟨s3,its,rfl,ra3,er3⟩:=z2_;apply hG_;clear hG_ G_;rw[S2 (by unfold EX;rw[B0,N3];exact B1 _)]at er3;have itl:=X4 List.length er3;rw[B0,B0,show(EX c).length=c.n by unfold EX;rw[B0,N3]]at itl;generalize e4:upd H3 X _=H6;have s4':Aw H3 H6:=e4▸Al nX;have hX:H6 X=some (.lst (its.map λq=>V.ref q.1)):=e4▸Ag;have s26:=s3.trans s4';refine⟨Lc,X,(xq2 rfl rfl ⟨s26 _ _ hLc,hX,by rw[B0,B0];exact BB A0,λY nY=>?_⟩)⟩;generalize e7:upd H6 Y _=H7;have s7':Aw H6 H7:=e7▸Al nY;have hY:H7 Y=some (.lst ((items++its).map λq=>V.ref q.1)):=by rw[<-e7,Ag,D5]
   refine⟨Y,items++its,_,_,_,_,rfl,(sm.trans s26).trans s7',hY,λq hq=>?_,?_⟩
   ·rcases C6.mp hq with z|z
    ·exact s7' _ _ (s26 _ _ (ra q z))
    ·exact s7' _ _ (s4' _ _ (ra3 q z))
   ·rw[D5,er,er3,Qo ss ec,D5]
  ·rintro σ H2 z2_;apply Ay;intro G_ hG_;obtain⟨Lc,items,u5,u6,u7,u8,rfl,sm,hLc,ra,er⟩:=z2_;apply hG_;clear hG_ G_;rw[B0,lus,M8]at er;refine hk8 ?_;have il:items.length=(BV ss).length:=by
    have:=X4 List.length er;rw[B0,B0]at this;exact this
   have c4:Bl G (n+1) f'<=400:=by rw[ct];lia
   refine xw2 rfl rfl ⟨g,G,f',n,rfl,fu4.same sm,⟨lf,tr,n40⟩,few,c4,λL9 out9 H9 s9 hL9 ra9 pm9 ru9=>?_⟩;have s29:=sm.trans s9;refine xq1 rfl ⟨Lc,items,rfl,SqL.of (s9 _ _ hLc),by lia,λq hq=>⟨s9 _ _ (ra q hq),λz=>?_⟩,λM out nM pmo up=>?_⟩
   ·have:q.2∈(BV ss).map Vb:=by rw[<-er];exact List.mem_map_of_mem hq
    obtain⟨d,_,ed⟩:=F1.mp this;rw[<-ed]at z;cases z
   ·have s10:=Al (o:=.lst (out.map λq=>V.ref q.1)) nM;have dk:=QD od (λc hc=>(ok c hc).2.2.1);have p1:(DG G (n+1) f' (-(2^n)) (-(2^n))).Perm ((BV ss).map Vb):=Of.perm fu.ok lf ⟨dk.nd,λc=>by rw[dk.mem c,ef]⟩;have p2:=pmo.map (·.2);rw[er]at p2;have ra2:Eg H9 out:=λq hq=>s9 _ _ (ra q (pmo.mem_iff.mp hq));exact⟨⟨L9,M,out9,out,rfl,rfl,SqL.of (s10 _ _ hL9),SqL.of Ag,ra9.same s10,ra2.same s10,PR (O3.mpr ru9) (O3.mpr up) (pm9.trans (p1.trans p2.symm))⟩,k _ ((s04.trans s29).trans s10)⟩
end
open PySem.NumText
section
variable{P:Program}{w:World}{K:W.Frag}{mg:Str->Option Value}{base:Heap}{a:Ad}
inductive SpT2(K:W.Frag)(a:Ad)(n:Nat)(sp:Sp)(vs:List V)(H:Hp)(Q:VK):Prop
 |mk (OK:V->Hp->Prop) (ER:Nat->Hp->Prop) (_:vs.length=n) (_:∀(Q':VK)(E':XK),(∀v H',OK v H'->Q' v H')->(∀c j d H',KiW K a c j->ER j H'->E' (.ref c) d H')->sp vs H Q' E') (_:∀v H' t H'',OK v H'->Aw H' H''->H'' t=some (.tup [.str "",v])->Q (.ref t) H'') (_:∀j H' t H'',ER j H'->Aw H' H''->H'' t=some (.tup [.str (RU j),.non])->Q (.ref t) H''):SpT2 K a n sp vs H Q
def Te(K:W.Frag)(a:Ad)(n:Nat)(sp:Sp):Sp:=λvs H Q _=>SpT2 K a n sp vs H Q
def S4s(σ:St):Prop:=∃x1 x2 x3 x4,σ=[x1,x2,x3,x4]
def S3s(σ:St):Prop:=∃x1 x2 x3,σ=[x1,x2,x3]
theorem len2{vs:List V}(h:vs.length=2):∃x1 x2,vs=[x1,x2]:=by
 match vs,h with
 |[x1,x2],_=>exact⟨x1,x2,rfl⟩
theorem len1{vs:List V}(h:vs.length=1):∃x1,vs=[x1]:=by
 match vs,h with
 |[x1],_=>exact⟨x1,rfl⟩
theorem ok_lfd{sp:Sp}{d:Nat}{f:Addr}{fd:FuncData}(F:Fun K "_law_field" "_law_field" Go f fd)(T:Top K mg a)(hd:1<=d)(bX:Cal P w K mg base (CXE P w) d "read_pattern" EK sp)(aT:CalH P w K mg base 1 "_law_word" DL (spWd K a)):AO P w K mg base CX0 (d+1) f fd GD (Te K a 2 sp):=by
 refine F.ok Fw (λvs H Q E h=>?_) (λcdv A outer s H vs Q E hr h=>?_)
 ·obtain⟨_,_,h,_⟩:=h;exact h
 ·obtain⟨OK,ER,hl,h,k1,k2⟩:=h;obtain⟨x1,x2,rfl⟩:=len2 hl;refine⟨_,(Ab (NO (i:=3) (S:=S4s) rfl rfl rfl rfl rfl T.mx_FieldError T.ec_FieldError Fw.nd rfl rfl (λxe pn E1 pass=>(Af (Ah (i:=2) Fw.nd rfl (Or.inl rfl) (ON bX (rm hr) rfl pass (Aa (pv 0) (Aa (pv 1) Ac)))))) (λea=>(Af (Am (Ea (Aa (Sn aT ((rm hr).marked _) rfl (Aa (pv 3) Ac)) (Aa Cz Ac))))))) (Af (Am (Ea (AA (Aa (pv 2) Ac)))))),?_⟩
  try dsimp only[cxK]
  refine⟨⟨_,_,_,_,rfl⟩,(xw2 rfl rfl (h _ _ (λv H' q=>?_) λc j d H' ki q=>?_))⟩
  ·refine xq1 rfl ⟨(by show 2<=sizeLine;decide),λt ht=>?_⟩;exact k1 v H' t _ q (Al ht) Ag
  ·refine⟨c,rfl,ki.ec,ki.mr,fun σ' e hS he=>?_⟩;obtain⟨y1,y2,y3,y4,rfl⟩:=hS;have s1:=Al (o:=JH e c) he;refine xq1 rfl ⟨e,c,j,rfl,Ag,ki,λH2 s2=>?_⟩;refine⟨(by show 2<=sizeLine;decide),λt ht=>?_⟩;exact k2 j H' t _ q ((s1.trans s2).trans (Al ht)) Ag
theorem ok_lld{sp:Sp}{d:Nat}{f:Addr}{fd:FuncData}(F:Fun K "_law_listed" "_law_listed" FF f fd)(T:Top K mg a)(hd:1<=d)(aM:Cal P w K mg base (CXE P w) d "read_runs" Fl sp)(aT:CalH P w K mg base 1 "_law_word" DL (spWd K a)):AO P w K mg base CX0 (d+1) f fd FQ (Te K a 1 sp):=by
 refine F.ok EA (λvs H Q E h=>?_) (λcdv A outer s H vs Q E hr h=>?_)
 ·obtain⟨_,_,h,_⟩:=h;exact h
 ·obtain⟨OK,ER,hl,h,k1,k2⟩:=h;obtain⟨x1,rfl⟩:=len1 hl;refine⟨_,(Ab (NO (i:=2) (S:=S3s) rfl rfl rfl rfl rfl T.mx_FieldError T.ec_FieldError EA.nd rfl rfl (λxe pn E1 pass=>(Af (Ah (i:=1) EA.nd rfl (Or.inl rfl) (ON aM (rm hr) rfl pass (Aa (pv 0) Ac))))) (λea=>(Af (Am (Ea (Aa (Sn aT ((rm hr).marked _) rfl (Aa (pv 2) Ac)) (Aa Cz Ac))))))) (Af (Am (Ea (AA (Aa (pv 1) Ac)))))),?_⟩
  try dsimp only[cxK]
  refine⟨⟨_,_,_,rfl⟩,(xq1 rfl (h _ _ (λv H' q=>?_) λc j d H' ki q=>?_))⟩
  ·refine xq1 rfl ⟨(by show 2<=sizeLine;decide),λt ht=>?_⟩;exact k1 v H' t _ q (Al ht) Ag
  ·refine⟨c,rfl,ki.ec,ki.mr,fun σ' e hS he=>?_⟩;obtain⟨y1,y2,y3,rfl⟩:=hS;have s1:=Al (o:=JH e c) he;refine xq1 rfl ⟨e,c,j,rfl,Ag,ki,λH2 s2=>?_⟩;refine⟨(by show 2<=sizeLine;decide),λt ht=>?_⟩;exact k2 j H' t _ q ((s1.trans s2).trans (Al ht)) Ag
end
open PySem.NumText
theorem kit_tt(K:W.Frag):kitOne K (.type "tuple") (.type "tuple")=some true:=by kernel_rfl
theorem kit_ll(K:W.Frag):kitOne K (.type "list") (.type "list")=some true:=by kernel_rfl
section
variable{P:Program}{w:World}{K:W.Frag}{mg:Str->Option Value}{base:Heap}{a:Ad}
inductive SpSR(vs:List V)(H:Hp)(Q:VK):Prop
 |mk (L M:Addr) (ts us:List Addr) (rs:List Rn) (_:vs=[.ref L,.ref M]) (_:H L=some (.lst (ts.map V.ref))) (_:H M=some (.lst (us.map V.ref))) (_:Paired (CQ H) ts rs) (_:Paired (CQ H) us rs) (_:∀H',Aw H H'->Q (.bl true) H'):SpSR vs H Q
def spSR:Sp:=λvs H Q _=>SpSR vs H Q
theorem ok_sr{f:Addr}{fd:FuncData}(F:Fun K "_law_same_runs" "_law_same_runs" Dy f fd)(T:Top K mg a)(aO:Cal P w K mg base CX0 1 "_law_whole" Ek Sg):AO P w K mg base CX0 2 f fd DE spSR:=by
 refine F.ok Dj (λvs H Q E h=>?_) (λcdv A outer s H vs Q E hr h=>?_)
 ·apply Ay;intro G_ hG_;obtain⟨L,M,ts,us,rs,rfl,_⟩:=h;apply hG_;clear hG_ G_;rfl
 ·apply Ay;intro G_ hG_;obtain⟨L,M,ts,us,rs,rfl,hL,hM,pt,pu,k⟩:=h;apply hG_;clear hG_ G_;have lt:=A0a pt;have lu:=A0a pu;refine⟨_,(Ab (AB (PW.pt (BM (Bp (AZ (As AS rfl T.b_isinstance Z7 (Aa (pv 0) (Aa (CT (v:=.ty "list") rfl T.b_list PyProof.Rows.boot_list rfl) Ac))))) (BE (Ak Dt (As BO rfl T.b_len K0 (Aa (pv 0) Ac)) (As BO rfl T.b_len K0 (Aa (pv 1) Ac)) (An _))))) (Af (Am Db)) Ap) (Ab (Ci X8 rfl (pi_zip false false rfl T.b_zip (Aa (pv 0) (Aa (pv 1) Ac))) (Dl rfl (AG (AF (i:=2) Dj.nd rfl (Or.inl rfl)) (AG (AF (i:=3) Dj.nd rfl (Or.inl rfl)) Cs))) (Af (AB (PW.pt (BM (Bp (AZ (As AS rfl T.b_isinstance Z7 (Aa (pv 2) (Aa (CT (v:=.ty "tuple") rfl T.b_tuple PyProof.Rows.boot_tuple rfl) Ac))))) (BM (Ak Dt (As BO rfl T.b_len K0 (Aa (pv 2) Ac)) Ae (An _)) (BM (Bp (AZ (Aq aO (rm hr) rfl Ar (Aa (At Az (pv 2) Ae (λ_ _=>rfl)) Ac)))) (BE (Ak (Ri hr.units) (pv 2) (pv 3) (An _))))))) (Af (Am Db)) Ap))) (Af (Am Db)))),?_⟩
  try dsimp only[cxK]
  refine xq1 rfl ⟨_,_,_,.type "list",true,rfl,rfl,.of (.lst hL),kit_ll K,true,rfl,AE (xq1 rfl ⟨L,(xq1 rfl ⟨.inl (SqL.of hL),(xq1 rfl ⟨M,(xq1 rfl ⟨.inl (SqL.of hM),rfl,(xq1 rfl ?_)⟩)⟩)⟩)⟩)⟩;rw[B0,B0,lt,lu];refine SB rfl (xw2 rfl rfl ⟨L,M,rfl,⟨_,SqL.of hL⟩,⟨_,SqL.of hM⟩,?_⟩);refine for_zip (xs:=ts.map V.ref) (ys:=us.map V.ref) (λi σ H2=>Aw H H2/\∃u2 u3:Option V,σ=[some (.ref L),some (.ref M),u2,u3]) ⟨Aw.refl H,none,none,rfl⟩ (λi σ H2 z=>⟨SqL.of (z.1 _ _ hL),SqL.of (z.1 _ _ hM)⟩) ?_ ?_
  ·rintro i x y σ H2 T' hx hy z8_ nT;apply Ay;intro G_ hG_;obtain⟨sm,u2,u3,rfl⟩:=z8_;apply hG_;clear hG_ G_;rw[C1]at hx hy;obtain⟨t,et,rfl⟩:=F4.mp hx;obtain⟨u,eu,rfl⟩:=F4.mp hy;obtain⟨r,er,ht⟩:=PairedM.getL pt et;obtain⟨r',er',hu⟩:=PairedM.getL pu eu;rw[er]at er';cases er';have s3:=sm.trans (Al (o:=.tup [.ref t,.ref u]) nT);refine Ft Ag ?_;generalize upd H2 T' (.tup [.ref t,.ref u])=H3 at s3⊢;have ht3:CQ H3 t r:=s3 _ _ ht;have hu3:CQ H3 u r:=s3 _ _ hu;refine xq1 rfl ⟨_,_,_,.type "tuple",true,rfl,rfl,.of (.tup ht3),kit_tt K,true,rfl,AE (xq1 rfl ⟨t,(xq1 rfl ⟨.inr (SqT.of ht3),rfl,(xq1 rfl (SB rfl ?_))⟩)⟩)⟩;refine xwi rfl rfl rfl (SqT.of ht3) (Ai (j:=0) rfl) ⟨(r.a:Int),rfl,true,rfl,AE ?_⟩;refine xw2 rfl rfl ⟨⟨t,u,(xq1 rfl ⟨rfl,SqT.of ht3,SqT.of hu3,rfl⟩)⟩,false,rfl,AE ⟨s3,_,_,rfl⟩⟩
  ·rintro σ H2 z2_;apply Ay;intro G_ hG_;obtain⟨sm,u2,u3,rfl⟩:=z2_;apply hG_;clear hG_ G_;exact k H2 sm
end
open PySem.NumText
theorem pat_ok{t:List Nat}{X Y:Int}{rs:List Rn}(h:Fc t=some (X,Y,rs)):(∀r∈rs,QM r)/\rs.length<=t.length/\ltr rs<=nL t:=by
 cases e1:BC 58 t with
 |none=>rw[OP e1]at h;cases h
 |some pq =>
  obtain⟨p,q⟩:=pq;cases e2:BC 44 p with
  |none=>rw[OO e1 e2]at h;cases h
  |some uv =>
   obtain⟨u,v⟩:=uv;rw[OQ e1 e2]at h;obtain⟨x,ex,h⟩:=R8.mp h;obtain⟨y,ey,h⟩:=R8.mp h;obtain⟨rs',er,h⟩:=F4.mp h;cases h;obtain⟨z1,_⟩:=BU e1;have ok:=OH rfl er;refine⟨ok.1,?_,?_⟩
   ·rw[z1,B5,C4];have:=ok.2;lia
   ·rw[z1,Jk,show(58::q)=[58]++q from rfl,Jk];have:=LS er;lia
section
variable{P:Program}{w:World}{K:W.Frag}{mg:Str->Option Value}{base:Heap}{a:Ad}
inductive SpRt(K:W.Frag)(a:Ad)(vs:List V)(H:Hp)(Q:VK):Prop
 |mk (g:GA) (G:Gv) (x:Str) (_:vs=[.ref g.p,.str x,.str x]) (_:Bs a H g G) (_:x.length<=1000) (_:nL x.cps.toList<=8) (_:G.length<3200000) (_:∀(G':Gv)(H':Hp),Fr g H H'->Bs a H' g G'->AV G G' 2998320->Q (.bl true) H'):SpRt K a vs H Q
 |no (g:GA) (x:Str) (v:V) (_:vs=[.ref g.p,.str x,v]) (_:NoTx K H v) (_:∀H',Aw H H'->NeS H' v x true) (_:x.length<=1000) (_:∀H',Aw H H'->Q (.bl true) H'):SpRt K a vs H Q
def spRt(K:W.Frag)(a:Ad):Sp:=λvs H Q _=>SpRt K a vs H Q
theorem ok_rt{f:Addr}{fd:FuncData}(F:Fun K "_law_right" "_law_right" Gn f fd)(T:Top K mg a)(bB:Cal P w K mg base CX0 106 "_law_field" GD (Te K a 2 (spPat K a)))(bJ:Cal P w K mg base CX0 3 "_law_read" Ik UP)(b5:Cal P w K mg base CX0 1 "_law_strips" FN spSt)(b8:Cal P w K mg base CX0 1 "_law_leaves" FR spLe)(bQ:Cal P w K mg base CX0 108 "_law_has" Jh (US a)):AO P w K mg base CX0 109 f fd GC (spRt K a):=by
 refine F.ok BH (λvs H Q E h=>?_) (λcdv A outer s H vs Q E hr h=>?_)
 ·cases h with
  |mk g G x e=>rw[e];rfl
  |no g x v e=>rw[e];rfl
 ·cases h with
  |no g x v e nt ne xl k =>
   subst e;refine⟨_,(Ab (Rg (Aq bB (rm hr) rfl Ar (Aa (pv 0) (Aa (pv 2) Ac))) (Dl rfl (AG (AF (i:=3) BH.nd rfl (Or.inl rfl)) (AG (AF (i:=4) BH.nd rfl (Or.inl rfl)) Cs)))) (Ab (Ah (i:=5) BH.nd rfl (Or.inl rfl) (Aq bJ (rm hr) rfl Ar (Aa (pv 1) Ac))) (Ab (AB (PW.pt (BM (Ak Il (pv 5) Cz (An _)) (BE (Ak (Rj hr.units) (pv 2) (pv 1) (An _))))) (Af (Am (Bv Bg (pv 3) AJ (An _)))) Ap) (Ab (Ah (i:=6) BH.nd rfl (Or.inl rfl) (Aq b5 (rm hr) rfl Ar (Aa (At Az (pv 5) Ae (λ_ _=>rfl)) (Aa (At Az (pv 5) Ae (λ_ _=>rfl)) (Aa (At Az (pv 5) Ae (λ_ _=>rfl)) Ac))))) (Ab (AB (AZ (Aq b8 (rm hr) rfl Ar (Aa (pv 6) Ac))) (Af (Am (Bv Bg (pv 3) AJ (An _)))) Ap) (Af (Am (Eb (Bv Bg (pv 3) AJ (An _)) (FJ (Aq bQ (rm hr) rfl Ar (Aa (pv 0) (Aa (pv 4) (Aa (pv 6) Ac))))))))))))),?_⟩
   try dsimp only[cxK]
   refine AL ?_;intro r1 s1 k1 hk1 E1;refine xw2 rfl rfl ⟨λ_ _=>False,λj H'=>j=10/\H'=H,rfl,λQ' E' _ h2=>.no g v rfl nt λc ki=>h2 c 10 none H ki ⟨rfl,rfl⟩,(λ_ _ _ _ z=>nomatch z),λj H1 t H2 z s12 ht=>?_⟩;obtain⟨rfl,rfl⟩:=z;refine Ft ht ?_;refine hk1 ?_;refine AL ?_;intro r2 s2 k2 hk2 E2;refine xq1 rfl (.mk x rfl xl (λX Y rs ep t' L' ts' H3 s3 ht' _ _=>?_) λep H3 s3=>?_)
   ·refine hk2 ?_;refine xq1 rfl ⟨rfl,false,rfl,AE ?_⟩;refine xw2 rfl rfl ⟨x,true,rfl,ne H3 (s12.trans s3),(xq1 rfl (AI ?_))⟩;exact xq1 rfl ⟨rfl,k H3 (s12.trans s3)⟩
   ·refine hk2 ?_;refine xq1 rfl ⟨rfl,true,rfl,AI ?_⟩;exact xq1 rfl ⟨rfl,k H3 (s12.trans s3)⟩
  |mk g G x e fu xl n8 few k =>
   subst e;refine⟨_,(Ab (Rg (Aq bB (rm hr) rfl Ar (Aa (pv 0) (Aa (pv 2) Ac))) (Dl rfl (AG (AF (i:=3) BH.nd rfl (Or.inl rfl)) (AG (AF (i:=4) BH.nd rfl (Or.inl rfl)) Cs)))) (Ab (Ah (i:=5) BH.nd rfl (Or.inl rfl) (Aq bJ (rm hr) rfl Ar (Aa (pv 1) Ac))) (Ab (AB (PW.pt (BM (Ak Il (pv 5) Cz (An _)) (BE (Ak (Rj hr.units) (pv 2) (pv 1) (An _))))) (Af (Am (Bv Bg (pv 3) AJ (An _)))) Ap) (Ab (Ah (i:=6) BH.nd rfl (Or.inl rfl) (Aq b5 (rm hr) rfl Ar (Aa (At Az (pv 5) Ae (λ_ _=>rfl)) (Aa (At Az (pv 5) Ae (λ_ _=>rfl)) (Aa (At Az (pv 5) Ae (λ_ _=>rfl)) Ac))))) (Ab (AB (AZ (Aq b8 (rm hr) rfl Ar (Aa (pv 6) Ac))) (Af (Am (Bv Bg (pv 3) AJ (An _)))) Ap) (Af (Am (Eb (Bv Bg (pv 3) AJ (An _)) (FJ (Aq bQ (rm hr) rfl Ar (Aa (pv 0) (Aa (pv 4) (Aa (pv 6) Ac))))))))))))),?_⟩
   try dsimp only[cxK]
   refine AL ?_;intro r1 s1 k1 hk1 E1;have frS:∀{H1 H2:Hp},Fr g H H1->Aw H1 H2->Fr g H H2:=λ{H1 H2} f s b o e n1 n2 n3=>s _ _ (f b o e n1 n2 n3);cases ep:Fc x.cps.toList with
   |none =>
    refine xw2 rfl rfl ⟨λ_ _=>False,λj H'=>j=10/\Aw H H',rfl,λQ' E' _ h2=>.mk g G x rfl fu xl n8 few (λ_ c d H1 ki s1=>h2 c 10 d H1 ki ⟨rfl,s1⟩) (λX Y rs e=>by rw[ep]at e;cases e) (λX Y rs e=>by rw[ep]at e;cases e),(λ_ _ _ _ z=>nomatch z),λj H1 t H2 z s12 ht=>?_⟩;obtain⟨rfl,s01⟩:=z;refine Ft ht ?_;refine hk1 ?_;refine AL ?_;intro r2 s2 k2 hk2 E2;refine xq1 rfl (.mk x rfl xl (λX Y rs e=>by rw[ep]at e;cases e) λ_ H3 s3=>?_);refine hk2 ?_;have s03:=(s01.trans s12).trans s3;refine xq1 rfl ⟨rfl,true,rfl,AI ?_⟩;exact xq1 rfl ⟨rfl,k G H3 (frS (Fr.refl g H) s03) (fu.same s03) ((AV.refl fu.ok).mono A0)⟩
   |some q =>
    obtain⟨X,Y,rs⟩:=q;obtain⟨po,pl,pn⟩:=pat_ok ep;have swo:=sw_ok X Y po;have lx:=Nu.len x;have ex:∀{X' Y':Int}{rs':List Rn},Fc x.cps.toList=some (X',Y',rs')->X'=X/\Y'=Y/\rs'=rs:=λ{X' Y' rs'} e=>by rw[ep]at e;cases e;exact⟨rfl,rfl,rfl⟩
    refine xw2 rfl rfl ⟨λv H'=>¬Nq (sw X Y rs).l/\∃r G' B,v=.int ((r:Nat):Int)/\Fr g H H'/\Bs a H' g G'/\AV G G' 2998320/\Vl G' r (Jf (sw X Y rs).l) B,λj H'=>j=7/\Nq (sw X Y rs).l/\∃G',Fr g H H'/\Bs a H' g G'/\AV G G' 2998320,rfl,λQ' E' h1 h2=>.mk g G x rfl fu xl n8 few (λe=>by rw[ep]at e;cases e) (λX' Y' rs' e nf r G' H' B fr fu' go vl=>?_) (λX' Y' rs' e fa c G' H' ki fr fu' go=>?_),λv H1 t H2 z s12 ht=>?_,λj H1 t H2 z s12 ht=>?_⟩
    ·obtain⟨rfl,rfl,rfl⟩:=ex e;exact h1 _ H' ⟨nf,r,G',B,rfl,fr,fu',go,vl⟩
    ·obtain⟨rfl,rfl,rfl⟩:=ex e;exact h2 c 7 none H' ki ⟨rfl,fa,G',fr,fu',go⟩
    ·apply Ay;intro G_ hG_;obtain⟨nf,r,G',B,rfl,fr,fu',go,vl⟩:=z;apply hG_;clear hG_ G_;refine Ft ht ?_;refine hk1 ?_;refine AL ?_;intro r2 s2 k2 hk2 E2;refine xq1 rfl (.mk x rfl xl (λX' Y' rs' e t' L' ts' H3 s3 ht' hL' pr'=>?_) λe=>by rw[ep]at e;cases e);obtain⟨rfl,rfl,rfl⟩:=ex e;refine hk2 ?_;have s13:=s12.trans s3;refine AL ?_;intro r3 s3' k3 hk3 E3;refine xq1 rfl ⟨rfl,false,rfl,AE ?_⟩;refine xw2 rfl rfl ⟨x,false,rfl,.inl ⟨rfl,by rw[Z3 rfl];rfl⟩,(xq1 rfl (AE ?_))⟩;refine hk3 ?_;refine AL ?_;intro r4 s4 k4 hk4 E4;refine xwi rfl rfl rfl (SqT.of ht') (Ai (j:=0) rfl) (xwi rfl rfl rfl (SqT.of ht') (Ai (j:=1) rfl) (xwi rfl rfl rfl (SqT.of ht') (Ai (j:=2) rfl) (.mk X' Y' L' ts' rs' rfl hL' pr' po A0 λL us H4 nL s4' hL pu=>?_)));refine hk4 ?_;have s14:=s13.trans s4';refine AL ?_;intro r5 s5 k5 hk5 E5;refine xq1 rfl (.mk L us _ rfl hL pu λb hb=>?_);have hb:b=false:=by
      cases b with
      |false=>rfl
      |true=>exact absurd (hb.mp rfl) nf
     subst hb;refine xq1 rfl (AE ?_);refine hk5 ?_;refine xq1 rfl ⟨rfl,(xq1 rfl ?_)⟩;refine xw3 rfl rfl rfl (.mk g G' r L us (sw X' Y' rs').l B rfl (fu'.same s14) hL pu swo.or swo.ok (by rw[swo.len];lia) vl (by have:=go.few;lia) λH5 s5'=>?_);exact k G' H5 (frS fr (s14.trans s5')) (fu'.same (s14.trans s5')) go
    ·apply Ay;intro G_ hG_;obtain⟨rfl,fa,G',fr,fu',go⟩:=z;apply hG_;clear hG_ G_;refine Ft ht ?_;refine hk1 ?_;refine AL ?_;intro r2 s2 k2 hk2 E2;refine xq1 rfl (.mk x rfl xl (λX' Y' rs' e t' L' ts' H3 s3 ht' hL' pr'=>?_) λe=>by rw[ep]at e;cases e);obtain⟨rfl,rfl,rfl⟩:=ex e;refine hk2 ?_;have s13:=s12.trans s3;refine AL ?_;intro r3 s3' k3 hk3 E3;refine xq1 rfl ⟨rfl,false,rfl,AE ?_⟩;refine xw2 rfl rfl ⟨x,false,rfl,.inl ⟨rfl,by rw[Z3 rfl];rfl⟩,(xq1 rfl (AE ?_))⟩;refine hk3 ?_;refine AL ?_;intro r4 s4 k4 hk4 E4;refine xwi rfl rfl rfl (SqT.of ht') (Ai (j:=0) rfl) (xwi rfl rfl rfl (SqT.of ht') (Ai (j:=1) rfl) (xwi rfl rfl rfl (SqT.of ht') (Ai (j:=2) rfl) (.mk X' Y' L' ts' rs' rfl hL' pr' po A0 λL us H4 nL s4' hL pu=>?_)));refine hk4 ?_;have s14:=s13.trans s4';refine AL ?_;intro r5 s5 k5 hk5 E5;refine xq1 rfl (.mk L us _ rfl hL pu λb hb=>?_);have hb:b=true:=hb.mpr fa;subst hb;refine xq1 rfl (AI ?_);exact xq1 rfl ⟨rfl,k G' _ (frS fr s14) (fu'.same s14) go⟩
end
open PySem.NumText
def Wd(m n:Nat)(x:Str):Prop:=x.cps.toList.length<=m/\nL x.cps.toList<=n
instance(m n:Nat)(x:Str):Decidable (Wd m n x):=by unfold Wd;infer_instance
theorem DQ{m n m' n':Nat}{x y:Str}(h:Wd m n x)(k:Wd m' n' y):Wd (m+m') (n+n') (x++y):=by
 unfold Wd;rw[Tx.Bw,B5,Jk];have:=h.1;have:=h.2;have:=k.1;have:=k.2;lia
theorem nL_le(t:List Nat):nL t<=t.length:=List.length_filter_le _ _
theorem Ox(c:Nat):Wd 1 1 ⟨#[c]⟩:=⟨B1 _,nL_le _⟩
theorem Dh{m n:Nat}{x:Str}(h:Wd m n x):x.length<=m:=by rw[Nu.len];exact h.1
theorem nL_dig{t:List Nat}(h:t.all Nu.dig=true):nL t=0:=by
 unfold nL;rw[List.length_eq_zero_iff,List.filter_eq_nil_iff];intro c hc z;have h1:=M9.mp h c hc;unfold Nu.dig at h1;unfold isL at z;simp only[O1,A8g]at h1 z;lia
theorem Uu{m:Nat}(h:m<10^14):Wd 14 0 (Str.ofString (toString ((m:Nat):Int))):=by
 unfold Wd;rw[Tn.text];exact⟨Tn.Wp 13 m h,W2 (nL_dig (Tn.dg_dig m))⟩
theorem pick{ws:List Str}{m n:Nat}{i:Int}(h:∀w∈ws,Wd m n w)(h0:0<=i)(h1:i<ws.length):∃x,atI (ws.map V.str) i=some (.str x)/\Wd m n x:=by
 obtain⟨k,rfl⟩:=L8 h0;have hk:k<ws.length:=by lia
 exact⟨ws[k],Ai (by rw[C1,C0 hk];rfl),h _ (N7 hk)⟩
theorem Sm{z:List Nat}{i:Int}(h0:0<=i)(h1:i<z.length):∃c,atI z i=some c:=by
 obtain⟨k,rfl⟩:=L8 h0;have hk:k<z.length:=by lia
 exact⟨z[k],Ai (C0 hk)⟩
theorem some95:(Str.ofString " !\"#$&'()*+,-./0123456789:;<=>?@ABCDEFGHIJKLMNOPQRSTUVWXYZ[\\]^_`" ++ Str.ofString "abcdefghijklmnopqrstuvwxyz{|}~\n").length=95:=by decide +kernel
theorem NT{T:St->Hp->Prop}{C:Prop}(P:St->Hp->Prop)(h:(∀σ H,P σ H->T σ H)->C)(k:∀σ H,P σ H->T σ H):C:=h k
theorem ix2{i x y:Int}(h:i=0\/i=1):atI [V.int x,V.int y] i=some (.int (if i=0 then x else y)):=by
 rcases h with rfl|rfl<;>rfl
section
variable{P:Program}{w:World}{K:W.Frag}{mg:Str->Option Value}{base:Heap}{a:Ad}
inductive SpTx(m n:Nat)(vs:List V)(H:Hp)(Q:VK):Prop
 |mk (c:Int) (_:vs=[.int c]) (_:∀x H',Wd m n x->Aw H H'->Q (.str x) H'):SpTx m n vs H Q
def LC(m n:Nat):Sp:=λvs H Q _=>SpTx m n vs H Q
theorem ok_odr{f:Addr}{fd:FuncData}(F:Fun K "_law_odd_run" "_law_odd_run" EF f fd)(T:Top K mg a):AO P w K mg base CX0 1 f fd EQ (LC 5 1):=by
 refine F.ok GP (λvs H Q E h=>?_) (λcdv A outer s H vs Q E hr h=>?_)
 ·obtain⟨c,rfl,_⟩:=h;rfl
 ·obtain⟨c,rfl,k⟩:=h;refine⟨_,(Ab (Ah (i:=1) GP.nd rfl (Or.inl rfl) (BF (AA (AA (AA (AA (AA (AA (AA (AA (AA (AA (AA (AA Ac)))))))))))))) (Af (Am (At AQ (pv 1) (Ao Ba (pv 0) Ae) (λ_ _=>rfl))))),?_⟩
  try dsimp only[cxK]
  refine⟨by show 12<=sizeLine;decide,λp hp=>?_⟩;obtain⟨x,ex,wx⟩:=pick (ws:=["1A","0B","1.","1/","02C","00/","10D","3","1G","0.","100E","-2F"]) (m:=5) (n:=1) (i:=c%12) A1 (F9 _ A3) (D9 _ A3);exact xw2 rfl rfl (xq2 rfl rfl ⟨by show(0:Int)<12;decide,xq4 rfl rfl (SqL.of Ag) ex (k x _ wx (Al hp))⟩)
theorem ok_sgb{f:Addr}{fd:FuncData}(F:Fun K "_law_sign_by" "_law_sign_by" EE f fd)(T:Top K mg a):AO P w K mg base CX0 1 f fd EO (LC 1 1):=by
 refine F.ok DU (λvs H Q E h=>?_) (λcdv A outer s H vs Q E hr h=>?_)
 ·obtain⟨c,rfl,_⟩:=h;rfl
 ·obtain⟨c,rfl,k⟩:=h;refine⟨_,(Ab (AB (Ak Bg (Ao Ba (pv 0) Ae) Ae (An _)) (Af (Am (At FU AJ (Ao Ba (Ao Bf (pv 0) Ae) Ae) (λ_ _=>rfl)))) Ap) (Ab (Ah (i:=1) DU.nd rfl (Or.inl rfl) AJ) (Ab (Ah (i:=1) DU.nd rfl (Or.inl rfl) (Ao Bk (pv 1) AJ)) (Af (Am (At FU (pv 1) (Ao Ba (Ao Bf (pv 0) Ae) (As BN rfl T.b_len K0 (Aa (pv 1) Ac))) (λ_ _=>rfl))))))),?_⟩
  try dsimp only[cxK]
  refine AL ?_;intro r1 s1 k1 hk1 E1;refine xwb rfl rfl rfl ⟨A9,rfl,(xq1 rfl (GH (λ_=>?_) (λ_=>?_)))⟩
  ·obtain⟨d,ed⟩:=Sm (z:=(Str.ofString "0123456789.,:-/ABCDEFG \n").cps.toList) (i:=c/2%24) (F9 _ A3) (by rw[show(Str.ofString "0123456789.,:-/ABCDEFG \n").cps.toList.length=24 by decide +kernel];exact D9 _ A3);exact xwb rfl rfl rfl ⟨⟨by decide,by decide⟩,(xq2 rfl rfl ⟨by show(0:Int)<24;decide,_,_,d,rfl,rfl,by decide +kernel,ed,k _ _ (Ox d) (Aw.refl H)⟩)⟩
  ·refine hk1 ?_;refine AL ?_;intro r2 s2 k2 hk2 E2;refine hk2 ?_;refine AL ?_;intro r3 s3 k3 hk3 E3;refine xwb rfl rfl rfl ⟨by decide +kernel,?_⟩;generalize eS:Str.ofString " !\"#$&'()*+,-./0123456789:;<=>?@ABCDEFGHIJKLMNOPQRSTUVWXYZ[\\]^_`" ++ Str.ofString "abcdefghijklmnopqrstuvwxyz{|}~\n" = S;have lS:S.length=95:=eS▸some95;clear eS;refine hk3 ?_;obtain⟨d,ed⟩:=Sm (z:=S.cps.toList) (i:=c/2%(S.length:Int)) (F9 _ A0) (by rw[<-Nu.len];exact D9 _ A0);refine xw2 rfl rfl (xq2 rfl rfl ⟨⟨by decide,by decide⟩,(xq1 rfl ⟨S,rfl,?_⟩)⟩);exact⟨by rw[lS];decide,(xq2 rfl rfl ⟨by show(0:Int)<(S.length:Int);lia,_,_,d,rfl,rfl,by rw[lS];decide,ed,k _ _ (Ox d) (Aw.refl H)⟩)⟩
theorem small19:∀j:Nat,j<19->Wd 14 0 (Str.ofString (toString (((j:Nat):Int)-9)))/\(((j:Nat):Int)-9).natAbs.log2<1920:=by decide +kernel
theorem ok_nmb{f:Addr}{fd:FuncData}(F:Fun K "_law_number_by" "_law_number_by" Dz f fd)(T:Top K mg a):AO P w K mg base CX0 1 f fd DF (LC 20 0):=by
 refine F.ok Ff (λvs H Q E h=>?_) (λcdv A outer s H vs Q E hr h=>?_)
 ·obtain⟨c,rfl,_⟩:=h;rfl
 ·obtain⟨c,rfl,k⟩:=h;refine⟨_,(Ab (AB (Ak Bg (Ao Ba (pv 0) Ae) Ae (An _)) (Ab (Ah (i:=1) Ff.nd rfl (Or.inl rfl) (Ao AR (Ao Ms Ae Ae) (Ao Ba (Ao Bf (pv 0) Ae) (At AQ (BF (Cu Ms Ae Ae (Cu ET Ae (Ao Ms Ae Ae) Ac))) (Ao Ba (Ao Bf (pv 0) Ae) Ae) (λ_ _=>rfl))))) (Af (Am (Ao Bk (At AQ (BF (AA (AA Ac))) (Ao Ba (Ao Bf (pv 0) Ae) Ae) (λ_ _=>rfl)) (Ck GM rfl T.b_str A0c (Aa (pv 1) Ac)))))) Ap) (Af (Am (Ck GM rfl T.b_str A0c (Cu FT (Ao Ba (Ao Bf (pv 0) Ae) Ae) Ae Ac))))),?_⟩
  try dsimp only[cxK]
  refine AL ?_;intro r1 s1 k1 hk1 E1;refine xwb rfl rfl rfl ⟨(by show(0:Int)<4;decide),rfl,(xq1 rfl (GH (λ_=>?_) (λ_=>?_)))⟩
  ·refine AL ?_;intro r2 s2 k2 hk2 E2;refine xq2 rfl rfl ⟨⟨by decide,by decide,by decide⟩,?_⟩;refine xwb rfl rfl rfl ⟨⟨by decide,by decide⟩,(xq2 rfl rfl ⟨⟨by decide,by decide,by decide⟩,(xq2 rfl rfl ⟨⟨by decide,by decide,by decide⟩,(xq2 rfl rfl ⟨.inl ⟨by decide,by decide⟩,by show 2<=sizeLine;decide,λp hp=>?_⟩)⟩)⟩)⟩;have i0:0<=c/8%2:=F9 _ A3;have i1:c/8%2<2:=D9 _ A3;refine xwb rfl rfl rfl ⟨⟨by decide,by decide⟩,(xq2 rfl rfl ⟨by show(0:Int)<2;decide,xq4 rfl rfl (SqL.of Ag) (ix2 A0) ?_⟩)⟩;generalize eM:(if c/8%2=0 then(10:Int)^(11:Int).toNat else 9*(10:Int)^(12:Int).toNat)=M;have m0:0<M/\M<=9*10^12:=by
    rw[<-eM,show(11:Int).toNat=11 from rfl,show(12:Int).toNat=12 from rfl];split<;>decide
   have u0:0<=c/16%M:=F9 _ A0;have u1:c/16%M<M:=D9 _ A0;refine xq2 rfl rfl ⟨m0.1,(xq2 rfl rfl ?_)⟩;obtain⟨u,eu⟩:=L8 (show 0<=(10:Int)^(12:Int).toNat+c/16%M by rw[show(12:Int).toNat=12 from rfl];lia);have ul:u<10^14:=by rw[show(12:Int).toNat=12 from rfl]at eu;lia
   refine hk2 ?_;generalize eH:upd H p _=H1;have s1':Aw H H1:=eH▸Al hp;clear eH;refine⟨by show 2<=sizeLine;decide,λp2 hp2=>?_⟩;obtain⟨x,ex,wx⟩:=pick (ws:=["","-"]) (m:=5) (n:=0) (i:=c/4%2) A1 (F9 _ A3) (D9 _ A3);refine xwb rfl rfl rfl ⟨⟨by decide,by decide⟩,(xq2 rfl rfl ⟨by show(0:Int)<2;decide,xq4 rfl rfl (SqL.of Ag) ex ?_⟩)⟩;have lx:=Dh wx;have wn:=Uu ul;have ln:=Dh wn;refine xq1 rfl ⟨(u:Int),X4 (λz=>[V.int z]) eu,Tn.NU A0,(xq2 rfl rfl ⟨BB A0,k _ _ ?_ (s1'.trans (Al hp2))⟩)⟩;have:=DQ wx wn;exact⟨C8 this.1 A3,C8 this.2 A3⟩
  ·refine hk1 ?_;obtain⟨j,hj⟩:=L8 (F9 (c/4) (by decide:(19:Int)≠0));have hj2:j<19:=by have:=D9 (c/4) (by decide:(0:Int)<19);lia
   obtain⟨w1,w2⟩:=small19 j hj2;refine xwb rfl rfl rfl ⟨⟨by decide,by decide⟩,(xq2 rfl rfl ⟨by show(0:Int)<19;decide,(xq2 rfl rfl ?_)⟩)⟩;rw[hj];exact xq1 rfl ⟨w2,k _ _ ⟨C8 w1.1 A3,w1.2⟩ (Aw.refl H)⟩
theorem ok_rnb{f:Addr}{fd:FuncData}(F:Fun K "_law_run_by" "_law_run_by" FD f fd)(T:Top K mg a):AO P w K mg base CX0 1 f fd FO (LC 20 1):=by
 refine F.ok Ez (λvs H Q E h=>?_) (λcdv A outer s H vs Q E hr h=>?_)
 ·obtain⟨c,rfl,_⟩:=h;rfl
 ·obtain⟨c,rfl,k⟩:=h;refine⟨_,(Ab (AB (Ak Bg (Ao Ba (pv 0) Ae) Ae (An _)) (Af (Am (Ao Bk (At AQ (BF (AA (AA (AA (AA (AA (AA Ac))))))) (Ao Ba (Ao Bf (pv 0) Ae) Ae) (λ_ _=>rfl)) (At FU AJ (Ao Ba (Ao Bf (pv 0) Ae) Ae) (λ_ _=>rfl))))) Ap) (Ab (Ah (i:=1) Ez.nd rfl (Or.inl rfl) (At AQ (BF (AA (AA (AA (AA Ac))))) (Ao Ba (Ao Bf (pv 0) Ae) Ae) (λ_ _=>rfl))) (Ab (AB (Ak Bg (Ao Ba (Ao Bf (pv 0) Ae) Ae) Ae (An _)) (Af (Ah (i:=1) Ez.nd rfl (Or.inl rfl) (Ck GM rfl T.b_str A0c (Cu AR (Ao Ms Ae Ae) (Ao Ba (Ao Bf (pv 0) Ae) (Ao ET Ae (Ao Ms Ae Ae))) Ac)))) Ap) (Af (Am (Ao Bk (pv 1) (At FU AJ (Ao Ba (Ao Bf (pv 0) Ae) Ae) (λ_ _=>rfl)))))))),?_⟩
  try dsimp only[cxK]
  refine AL ?_;intro r1 s1 k1 hk1 E1;refine xwb rfl rfl rfl ⟨A9,rfl,(xq1 rfl (GH (λ_=>?_) (λ_=>?_)))⟩
  ·refine⟨by show 6<=sizeLine;decide,λp hp=>?_⟩;obtain⟨x,ex,wx⟩:=pick (ws:=["","","2","3","4","5"]) (m:=5) (n:=0) (i:=c/2%6) A1 (F9 _ A3) (D9 _ A3);obtain⟨d,ed⟩:=Sm (z:=(Str.ofString "ABCDEFG").cps.toList) (i:=c/12%7) (F9 _ A3) (by rw[show(Str.ofString "ABCDEFG").cps.toList.length=7 by decide +kernel];exact D9 _ A3);have lx:=Dh wx;refine xwb rfl rfl rfl ⟨⟨by decide,by decide⟩,(xq2 rfl rfl ⟨by show(0:Int)<6;decide,xq4 rfl rfl (SqL.of Ag) ex ?_⟩)⟩;refine xwb rfl rfl rfl ⟨⟨by decide,by decide⟩,(xq2 rfl rfl ⟨by show(0:Int)<7;decide,_,_,d,rfl,rfl,by decide +kernel,ed,(xq2 rfl rfl ⟨BB (by show x.length+1<=10000000;lia),k _ _ ?_ (Al hp)⟩)⟩)⟩;have:=DQ wx (Ox d);exact⟨C8 this.1 A3,C8 this.2 A3⟩
  ·refine hk1 ?_;refine AL ?_;intro r2 s2 k2 hk2 E2;refine⟨by show 4<=sizeLine;decide,λp hp=>?_⟩;obtain⟨x,ex,wx⟩:=pick (ws:=["","2","3","5"]) (m:=14) (n:=0) (i:=c/2%4) A1 (F9 _ A3) (D9 _ A3);refine xwb rfl rfl rfl ⟨⟨by decide,by decide⟩,(xq2 rfl rfl ⟨by show(0:Int)<4;decide,xq4 rfl rfl (SqL.of Ag) ex ?_⟩)⟩;refine hk2 ?_;generalize eH:upd H p _=H1;have s1':Aw H H1:=eH▸Al hp;clear eH;refine AL ?_;intro r3 s3 k3 hk3 E3;apply NT (T:=k3) (fun σ H'=>H'=H1/\∃x:Str,Wd 14 0 x/\σ=[some (.int c),some (.str x)])
   ·intro rest;refine xwb rfl rfl rfl ⟨⟨by decide,by decide⟩,(xq2 rfl rfl ⟨by show(0:Int)<4;decide,rfl,(xq1 rfl (GH (λ_=>?_) (λ_=>rest _ _ ⟨rfl,x,wx,rfl⟩)))⟩)⟩;refine xq2 rfl rfl ⟨⟨by decide,by decide,by decide⟩,?_⟩;refine xwb rfl rfl rfl ⟨⟨by decide,by decide⟩,?_⟩;refine xq2 rfl rfl ⟨⟨by decide,by decide,by decide⟩,(xq2 rfl rfl ⟨.inl ⟨by decide,by decide⟩,(xq2 rfl rfl ⟨by show(0:Int)<9*10^(12:Int).toNat;decide,(xq2 rfl rfl ?_)⟩)⟩)⟩;have e9:(9:Int)*10^(12:Int).toNat=9000000000000:=by decide
    have e12:(10:Int)^(12:Int).toNat=1000000000000:=by decide
    rw[e9,e12];have u0:0<=c/64%9000000000000:=F9 _ A3;have u1:c/64%9000000000000<9000000000000:=D9 _ A3;obtain⟨u,eu⟩:=L8 (show 0<=(1000000000000:Int)+c/64%9000000000000 by lia);have ul:u<10^14:=by lia
    exact⟨(u:Int),X4 (λz=>[V.int z]) eu,Tn.NU A0,rest _ _ ⟨rfl,_,Uu ul,rfl⟩⟩
   ·rintro σ H2 z2_;apply Ay;intro G_ hG_;obtain⟨rfl,x',wx',rfl⟩:=z2_;apply hG_;clear hG_ G_;refine hk3 ?_;obtain⟨d,ed⟩:=Sm (z:=(Str.ofString "./").cps.toList) (i:=c/32%2) (F9 _ A3) (by rw[show(Str.ofString "./").cps.toList.length=2 by decide +kernel];exact D9 _ A3);have lx:=Dh wx';refine xw2 rfl rfl (xq2 rfl rfl ⟨⟨by decide,by decide⟩,(xq2 rfl rfl ⟨by show(0:Int)<2;decide,_,_,d,rfl,rfl,by decide +kernel,ed,(xq2 rfl rfl ⟨BB (by show x'.length+1<=10000000;lia),k _ _ ?_ s1'⟩)⟩)⟩);have:=DQ wx' (Ox d);exact⟨C8 this.1 A3,C8 this.2 A3⟩
end
open PySem.NumText
theorem SH{x:Str}{c:Nat}(h:c∈x.cps.toList):∃i:Nat,Txt.find x ⟨#[c]⟩=(i:Int)/\i+1<=x.length:=by
 have e:=A4g x c;rw[Z3 h]at e;obtain⟨f,ch⟩:=StrLaws.occ_chain x ⟨#[c]⟩ 1;unfold Txt.find;cases q:Builtin.Str.occurrences x ⟨#[c]⟩ 0 x.length 1 with
 |nil=>rw[q]at e;cases e
 |cons i r =>
  rw[q]at ch;exact⟨i,rfl,ch.2.1.1⟩
theorem Ss(t:List Nat)(k:Nat):nL (t.take k)+nL (t.drop k)=nL t:=by
 rw[<-Jk,N2]
theorem nL_drop(t:List Nat)(k:Nat):nL (t.drop (k+1))<=nL (t.drop k):=by
 have:=Ss (t.drop k) 1;rw[List.drop_drop]at this;rw[show k+1=k+1 from rfl];lia
theorem pickI{ns:List Nat}{m:Nat}{i:Int}(h:∀w∈ns,w<=m)(h0:0<=i)(h1:i<ns.length):∃j:Nat,atI (ns.map λk:Nat=>V.int (k:Int)) i=some (.int (j:Int))/\j<=m:=by
 obtain⟨k,rfl⟩:=L8 h0;have hk:k<ns.length:=by lia
 exact⟨ns[k],Ai (by rw[C1,C0 hk];rfl),h _ (N7 hk)⟩
theorem wd_cut{m n:Nat}{x:Str}(wx:Wd m n x){i:Nat}(il:i<=x.length):∃p q r:Nat,∃p' q' r':Nat,Wd p p' (Txt.slice x none (some (i:Int)))/\Wd q q' (Txt.slice x (some (i:Int)) none)/\Wd r r' (Txt.slice x (some ((i:Int)+1)) none)/\p+q<=m/\p'+q'<=n/\r<=q/\r'<=q':=by
 have e1:=cutTo x (j:=(i:Int)) A0 A0;have e2:=Nu.LZ x (i:Int) A0;have e3:=Nu.LZ x ((i:Int)+1) A0;rw[G7]at e1 e2;rw[show((i:Int)+1).toNat=i+1 by lia]at e3;refine⟨_,_,_,_,_,_,⟨B1 _,B1 _⟩,⟨B1 _,B1 _⟩,⟨B1 _,B1 _⟩,?_,?_,?_,?_⟩
 ·rw[e1,e2,<-B5,N2];exact wx.1
 ·rw[e1,e2,Ss];exact wx.2
 ·rw[e2,e3,O0,O0];lia
 ·rw[e2,e3];exact nL_drop _ _
section
variable{P:Program}{w:World}{K:W.Frag}{mg:Str->Option Value}{base:Heap}{a:Ad}
inductive SpSpo(vs:List V)(H:Hp)(Q:VK):Prop
 |mk (x y:Str) (c:Int) (m n:Nat) (_:vs=[.str x,.int c,.str y]) (_:Wd m n x) (_:m<=900) (_:Wd 1 1 y) (_:44∈x.cps.toList) (_:58∈x.cps.toList) (_:∀z H',Wd (m+1) (n+1) z->Aw H H'->Q (.str z) H'):SpSpo vs H Q
def UL:Sp:=λvs H Q _=>SpSpo vs H Q
theorem ok_spo{f:Addr}{fd:FuncData}(F:Fun K "_law_spoiled" "_law_spoiled" ED f fd)(T:Top K mg a):AO P w K mg base CX0 1 f fd EN UL:=by
 refine F.ok DT (λvs H Q E h=>?_) (λcdv A outer s H vs Q E hr h=>?_)
 ·apply Ay;intro G_ hG_;obtain⟨x,y,c,m,n,rfl,_⟩:=h;apply hG_;clear hG_ G_;rfl
 ·apply Ay;intro G_ hG_;obtain⟨x,y,c,m,n,rfl,wx,m9,wy,h44,h58,k⟩:=h;apply hG_;clear hG_ G_;have c44:Str.ofString "," = ⟨#[44]⟩:=by decide +kernel
  have c58:Str.ofString ":" = ⟨#[58]⟩:=by decide +kernel
  obtain⟨i4,f4,l4⟩:=SH h44;obtain⟨i5,f5,l5⟩:=SH h58;have lx:=Dh wx;have ly:=Dh wy;have lxx:=Nu.len x;refine⟨_,(Ab (Ah (i:=3) DT.nd rfl (Or.inl rfl) (Ao Ba (Ao Bf (pv 1) Ae) (Ao AR (As BN rfl T.b_len K0 (Aa (pv 0) Ac)) Ae))) (Ab (AB (Ak Bg (Ao Ba (Ao Bf (pv 1) Ae) Ae) Ae (An _)) (Af (Ah (i:=3) DT.nd rfl (Or.inl rfl) (At AQ (BF (Bu (Aa (As BN rfl T.b_len K0 (Aa (pv 0) Ac)) (Aa (Cc X6 A4d A4e LU (pv 0) (AA Ac)) (Cu AR (Cc X6 A4d A4e LU (pv 0) (AA Ac)) Ae (Aa (Cc X6 A4d A4e LU (pv 0) (AA Ac)) (Cu AR (Cc X6 A4d A4e LU (pv 0) (AA Ac)) Ae Ac))))))) (Ao Ba (Ao Bf (pv 1) Ae) Ae) (λ_ _=>rfl)))) Ap) (Ab (AB (Ak Fq (Ao Ba (pv 1) Ae) Ae (An _)) (Af (Am (Ao Bk (Ao Bk (BW Di (pv 0) Cr (Cp (pv 3))) (pv 2)) (BW Di (pv 0) (Cp (pv 3)) Cr)))) Ap) (Ab (AB (Ak Fq (Ao Ba (pv 1) Ae) Ae (An _)) (Af (Am (Ao Bk (Ao Bk (BW Di (pv 0) Cr (Cp (pv 3))) (pv 2)) (BW Di (pv 0) (Cp (Ao AR (pv 3) Ae)) Cr)))) Ap) (Ab (AB (Ak Bg (Ao Ba (pv 1) Ae) Ae (An _)) (Af (Am (Ao Bk (BW Di (pv 0) Cr (Cp (pv 3))) (BW Di (pv 0) (Cp (Ao AR (pv 3) Ae)) Cr)))) Ap) (Af (Am (pv 0)))))))),?_⟩
  try dsimp only[cxK]
  refine AL ?_;intro r1 s1 k1 hk1 E1;refine xwb rfl rfl rfl ⟨⟨by decide,by decide⟩,(xq1 rfl ⟨x,rfl,BB A0,(xq2 rfl rfl (xq2 rfl rfl ⟨by show(0:Int)<(x.length:Int)+1;lia,?_⟩))⟩)⟩;refine hk1 ?_;refine AL ?_;intro r2 s2 k2 hk2 E2;apply NT (T:=k2) (fun σ H'=>Aw H H'/\∃i:Nat,i<=x.length/\σ=[some (.str x),some (.int c),some (.str y),some (.int (i:Int))])
  ·intro rest;have u0:0<=c/18%((x.length:Int)+1):=F9 _ A0;have u1:c/18%((x.length:Int)+1)<(x.length:Int)+1:=D9 _ A0;obtain⟨u,eu⟩:=L8 u0;refine xwb rfl rfl rfl ⟨⟨by decide,by decide⟩,(xq2 rfl rfl ⟨by show(0:Int)<3;decide,rfl,(xq1 rfl (GH (λ_=>?_) (λ_=>rest _ _ ⟨Aw.refl H,u,by lia,by rw[<-eu];rfl⟩)))⟩)⟩;refine xq1 rfl ⟨x,rfl,BB A0,?_⟩;refine xq1 rfl ⟨rfl,x,(xq1 rfl ⟨rfl,?_⟩)⟩;refine xq1 rfl ⟨rfl,x,(xq1 rfl ⟨rfl,?_⟩)⟩;refine xq2 rfl rfl ?_;refine xq1 rfl ⟨rfl,x,(xq1 rfl ⟨rfl,?_⟩)⟩;refine xq1 rfl ⟨rfl,x,(xq1 rfl ⟨rfl,?_⟩)⟩;refine xq2 rfl rfl ⟨by show 6<=sizeLine;decide,λp hp=>?_⟩;obtain⟨j,ej,jl⟩:=pickI (ns:=[0,x.length,i4,i4+1,i5,i5+1]) (m:=x.length) (i:=c/18%6) (by intro k hk;simp only[B7,D8,K7]at hk;lia) (F9 _ A3) (D9 _ A3);rw[c44,c58];refine xwb rfl rfl rfl ⟨⟨by decide,by decide⟩,(xq2 rfl rfl ⟨by show(0:Int)<6;decide,?_⟩)⟩;rw[f4,f5];exact xq4 rfl rfl (SqL.of Ag) ej (rest _ _ ⟨Al hp,j,jl,rfl⟩)
  ·rintro σ H1 z2_;apply Ay;intro G_ hG_;obtain⟨s1',i,il,rfl⟩:=z2_;apply hG_;clear hG_ G_;refine hk2 ?_;apply Ay;intro G_ hG_;obtain⟨p,q,r,p',q',r',w1,w2,w3,pq,pq',rq,rq'⟩:=wd_cut wx il;apply hG_;clear hG_ G_;have l1:=Dh w1;have l2:=Dh w2;have l3:=Dh w3;have lxs:x.length<=sizeLine:=BB A0;refine AL ?_;intro r3 s3 k3 hk3 E3;refine xwb rfl rfl rfl ⟨A8,(xq2 rfl rfl (xq1 rfl (GH (λ_=>?_) (λ_=>?_))))⟩
   ·refine xw3 rfl rfl rfl ⟨x,rfl,lxs,(xwb rfl rfl rfl ⟨BB A0,?_⟩)⟩;refine xw3 rfl rfl rfl ⟨x,rfl,lxs,(xq2 rfl rfl ⟨BB (by rw[Tx.Eo];lia),k _ _ ?_ s1'⟩)⟩;have:=DQ (DQ w1 wy) w2;exact⟨C8 this.1 A0,C8 this.2 A0⟩
   refine hk3 ?_;refine AL ?_;intro r4 s4 k4 hk4 E4;refine xwb rfl rfl rfl ⟨A8,(xq2 rfl rfl (xq1 rfl (GH (λ_=>?_) (λ_=>?_))))⟩
   ·refine xw3 rfl rfl rfl ⟨x,rfl,lxs,(xwb rfl rfl rfl ⟨BB A0,?_⟩)⟩;refine xw2 rfl rfl (xq2 rfl rfl (xq1 rfl ⟨x,rfl,lxs,(xq2 rfl rfl ⟨BB (by rw[Tx.Eo];lia),k _ _ ?_ s1'⟩)⟩));have:=DQ (DQ w1 wy) w3;exact⟨C8 this.1 A0,C8 this.2 A0⟩
   refine hk4 ?_;refine AL ?_;intro r5 s5 k5 hk5 E5;refine xwb rfl rfl rfl ⟨A8,rfl,(xq1 rfl (GH (λ_=>?_) (λ_=>?_)))⟩
   ·refine xw3 rfl rfl rfl ⟨x,rfl,lxs,?_⟩;refine xw2 rfl rfl (xq2 rfl rfl (xq1 rfl ⟨x,rfl,lxs,(xq2 rfl rfl ⟨BB A0,k _ _ ?_ s1'⟩)⟩));have:=DQ w1 w3;exact⟨C8 this.1 A0,C8 this.2 A0⟩
   refine hk5 ?_;exact xq1 rfl (k x _ ⟨by have:=wx.1;lia,by have:=wx.2;lia⟩ s1')
end
open PySem.NumText
theorem Qu{m n:Nat}:∀{ws:List Str},(∀w∈ws,Wd m n w)->(ws.map λw=>w.cps.toList).flatten.length<=ws.length*m/\nL (ws.map λw=>w.cps.toList).flatten<=ws.length*n
 |[],_=>⟨F5 _,F5 _⟩
 |x::ws,h=>by
  have ih:=Qu λw hw=>h w (B9 _ hw);have hx:=h x D3;rw[D7,List.flatten_cons,B5,Jk,C4,Nat.succ_mul,Nat.succ_mul];have:=hx.1;have:=hx.2;lia
theorem wd_join{ws:List Str}(h:∀w∈ws,Wd 20 1 w)(l7:ws.length<=7):Wd 140 7 (Str.join (Str.ofString "") ws)/\JoinOk (Str.ofString "") ws=true:=by
 refine⟨?_,Tx.join_ok 20 (λt ht=>Dh (h t ht)) ?_⟩
 ·unfold Wd;rw[Tx.Iw,show(Str.ofString "").cps.toList=[] by decide +kernel,Tx.VT];have:=Qu h;lia
 ·rw[show(Str.ofString "").length=0 by decide +kernel];lia
def NA(H:Hp)(v:V):Prop:=v=.non\/(∃i,v=.int i)\/(∃b,v=.bl b)\/∃p,v=.ref p/\((∃xs,H p=some (.lst xs))\/(∃xs,H p=some (.tup xs))\/∃kvs,H p=some (.dK kvs))
theorem NA.same{H H':Hp}{v:V}(h:NA H v)(s:Aw H H'):NA H' v:=by
 rcases h with h|h|h|⟨p,e,h⟩
 ·exact .inl h
 ·exact .inr (.inl h)
 ·exact .inr (.inr (.inl h))
 ·refine .inr (.inr (.inr ⟨p,e,?_⟩));rcases h with ⟨xs,h⟩|⟨xs,h⟩|⟨xs,h⟩
  ·exact .inl ⟨xs,s _ _ h⟩
  ·exact .inr (.inl ⟨xs,s _ _ h⟩)
  ·exact .inr (.inr ⟨xs,s _ _ h⟩)
theorem NA.no{K:W.Frag}{H:Hp}{v:V}(h:NA H v):NoTx K H v:=by
 rcases h with rfl|⟨i,rfl⟩|⟨b,rfl⟩|⟨p,rfl,⟨xs,h⟩|⟨xs,h⟩|⟨xs,h⟩⟩
 ·exact⟨_,.non,by kernel_rfl⟩
 ·exact⟨_,.int i,by kernel_rfl⟩
 ·exact⟨_,.bl b,by kernel_rfl⟩
 ·exact⟨_,.lst h,by kernel_rfl⟩
 ·exact⟨_,.tup h,by kernel_rfl⟩
 ·exact⟨_,.dK h,by kernel_rfl⟩
theorem NA.ne{H:Hp}{v:V}(h:NA H v)(x:Str):NeS H v x true:=by
 rcases h with rfl|⟨i,rfl⟩|⟨b,rfl⟩|⟨p,e,h⟩
 ·exact .inl ⟨rfl,rfl⟩
 ·exact .inl ⟨rfl,rfl⟩
 ·exact .inl ⟨rfl,rfl⟩
 ·exact .inr ⟨p,e,rfl,h⟩
section
variable{P:Program}{w:World}{K:W.Frag}{mg:Str->Option Value}{base:Heap}{a:Ad}
theorem ok_law{f:Addr}{fd:FuncData}(F:Fun K "law" "law" UY f fd)(T:Top K mg a)(bY:CalC P w K mg base CX0 2 "Grove" a.c_Grove GF (OC a))(aD:Cal P w K mg base CX0 1 "_law_at" Le (spAt K))(bH:Cal P w K mg base CX0 1 "_law_mix" Jg QX)(bM:Cal P w K mg base CX0 1 "_law_run_by" FO (LC 20 1))(bG:Cal P w K mg base CX0 1 "_law_odd_run" EQ (LC 5 1))(aP:Cal P w K mg base CX0 1 "_law_number_by" DF (LC 20 0))(bF:Cal P w K mg base CX0 1 "_law_sign_by" EO (LC 1 1))(bE:Cal P w K mg base CX0 1 "_law_spoiled" EN UL)(bA:Cal P w K mg base CX0 109 "_law_right" GC (spRt K a))(aV:Cal P w K mg base CX0 2 "_law_runs" Fp Si)(aR:Cal P w K mg base CX0 3 "_law_listed" FQ (Te K a 1 (Mh K a)))(aY:Cal P w K mg base CX0 2 "_law_same_runs" DE spSR):AO P w K mg base CX0 110 f fd p_law (Sh K):=by
 refine F.ok DS (λvs H Q E h=>?_) (λcdv A outer s H vs Q E hr h=>?_)
 ·apply Ay;intro G_ hG_;obtain⟨l,ns,rfl,_⟩:=h;apply hG_;clear hG_ G_;rfl
 ·apply Ay;intro G_ hG_;obtain⟨l,ns,rfl,hS,hlen,kq⟩:=h;apply hG_;clear hG_ G_;refine⟨_,(Ab (Ah (i:=1) DS.nd rfl (Or.inl rfl) (BF Ac)) (Ab (Ci X8 rfl (Gb rfl T.b_range (Cu Ba (Aq aD (rm hr) rfl Ar (Aa (pv 0) (Bu Ac))) Ae Ac)) (AF (i:=2) DS.nd rfl (Or.inl rfl)) (Af (Co (Cc X9 K2 K3 CJ (pv 1) (Aa (Aq bM (rm hr) rfl Ar (Aa (Aq bH (rm hr) rfl Ar (Aa (Aq aD (rm hr) rfl Ar (Aa (pv 0) (Cu AR Ae (pv 2) Ac))) (Cu AR Ae (pv 2) Ac))) Ac)) Ac))))) (Ab (AB (Ak Bg (Ao Ba (Ao Bf (Aq aD (rm hr) rfl Ar (Aa (pv 0) (Bu Ac))) Ae) Ae) Ae (An _)) (Af (Co (Cc X9 PySem.F.slot_list_insert PySem.F.type_list_insert Tw (pv 1) (Cu Ba (Ao Bf (Aq aD (rm hr) rfl Ar (Aa (pv 0) (Bu Ac))) Ae) (Ao AR (As BO rfl T.b_len K0 (Aa (pv 1) Ac)) Ae) (Aa (Aq bG (rm hr) rfl Ar (Aa (Aq bH (rm hr) rfl Ar (Aa (Aq aD (rm hr) rfl Ar (Aa (pv 0) (Bu Ac))) (Bu Ac))) Ac)) Ac))))) Ap) (Ab (Ah (i:=3) DS.nd rfl (Or.inl rfl) (Ao Bk (Ao Bk (Ao Bk (Ao Bk (Aq aP (rm hr) rfl Ar (Aa (Aq aD (rm hr) rfl Ar (Aa (pv 0) (Bu Ac))) Ac)) AJ) (Aq aP (rm hr) rfl Ar (Aa (Aq aD (rm hr) rfl Ar (Aa (pv 0) (Bu Ac))) Ac))) AJ) (Cc X6 PySem.F.slot_str_join PySem.F.type_str_join mt_join AJ (Aa (pv 1) Ac)))) (Ab (Ah (i:=3) DS.nd rfl (Or.inl rfl) (Aq bE (rm hr) rfl Ar (Aa (pv 3) (Aa (Aq bH (rm hr) rfl Ar (Aa (Aq aD (rm hr) rfl Ar (Aa (pv 0) (Bu Ac))) (Bu Ac))) (Aa (Aq bF (rm hr) rfl Ar (Aa (Aq aD (rm hr) rfl Ar (Aa (pv 0) (Bu Ac))) Ac)) Ac))))) (Ab (Ah (i:=4) DS.nd rfl (Or.inl rfl) (pv 3)) (Ab (AB (Ak Bg (Ao Ba (Aq aD (rm hr) rfl Ar (Aa (pv 0) (Bu Ac))) Ae) Ae (An _)) (Af (Ah (i:=4) DS.nd rfl (Or.inl rfl) (At AQ (BF (Aa Cz (Bu (Aa Db (pa_lst (Aa (pv 3) Ac) (Cn (Aa (pv 3) (Aa (pv 3) Ac)) (Aa Ig Ac))))))) (Ao Ba (Aq aD (rm hr) rfl Ar (Aa (pv 0) (Bu Ac))) Ae) (λ_ _=>rfl)))) Ap) (Ab (Ah (i:=5) DS.nd rfl (Or.inl rfl) (Vr bY (rm hr) rfl Ar)) (Ab (AB (PW.pt (BM (Bp (AZ (Aq bA (rm hr) rfl Ar (Aa (pv 5) (Aa (pv 3) (Aa (pv 4) Ac)))))) (BE (Bp (AZ (Aq bA (rm hr) rfl Ar (Aa (pv 5) (Aa (pv 3) (Aa (pv 4) Ac))))))))) (Af (Am Db)) Ap) (Ab (Ah (i:=6) DS.nd rfl (Or.inl rfl) (At Az (Cc X6 A1c A1d Do (pv 3) (AA Ac)) Ae (λ_ _=>rfl))) (Ab (Ah (i:=7) DS.nd rfl (Or.inl rfl) (Aq aV (rm hr) rfl Ar (Aa (pv 6) Ac))) (Ab (AB (Ak (Rj hr.units) (pv 4) (pv 3) (An _)) (Af (Am (Bv Bg (At Az (Aq aR (rm hr) rfl Ar (Aa (pv 4) Ac)) Ae (λ_ _=>rfl)) AJ (An _)))) Ap) (Ab (Rg (Aq aR (rm hr) rfl Ar (Aa (pv 6) Ac)) (Dl rfl (AG (AF (i:=8) DS.nd rfl (Or.inl rfl)) (AG (AF (i:=9) DS.nd rfl (Or.inl rfl)) Cs)))) (Ab (AB (Ak Il (pv 7) Cz (An _)) (Af (Am (Eb (Bv Bg (pv 8) AJ (An _)) (FJ (Bv Bg (At Az (Aq aR (rm hr) rfl Ar (Aa (pv 6) Ac)) Ae (λ_ _=>rfl)) AJ (An _)))))) Ap) (Af (Am (Eb (Bv Bg (pv 8) AJ (An _)) (FJ (Aq aY (rm hr) rfl Ar (Aa (pv 9) (Aa (pv 7) Ac))))))))))))))))))))),?_⟩
  try dsimp only[cxK]
  refine AL ?_;intro r1 s1 k1 hk1 E1;refine⟨(by show 0<=sizeLine;decide),λW nW=>?_⟩;generalize eH:upd H W _=H1;have s1':Aw H H1:=eH▸Al nW;have h1:H1 W=some (.lst (([]:List Str).map V.str)):=eH▸Ag;clear eH;refine hk1 ?_;refine AL ?_;intro r2 s2 k2 hk2 E2;obtain⟨m,hm⟩:=L8 (F9 (atN ns 6) (by decide:(7:Int)≠0));have m7:m<7:=by have:=D9 (atN ns 6) (by decide:(0:Int)<7);lia
  refine xq1 rfl ⟨l,ns,6,rfl,s1'.seq hS,by decide,(xq2 rfl rfl ⟨(by show(0:Int)<7;decide),(xq1 rfl ⟨by lia,by lia,?_⟩)⟩)⟩;rw[hm,G7];refine Gc (n:=m) (λj σ H4=>∃(ws:List Str)(u2:Option V),σ=[some (.ref l),some (.ref W),u2,none,none,none,none,none,none,none]/\Aw H H4/\H4 W=some (.lst (ws.map V.str))/\(∀w∈ws,Wd 20 1 w)/\ws.length<=j) ⟨[],none,rfl,s1',h1,(λw hw=>nomatch hw),B1 _⟩ ?_ ?_
  ·rintro j σ H4 hj z4_;apply Ay;intro G_ hG_;obtain⟨ws,u2,rfl,s4,hW,ok,wl⟩:=z4_;apply hG_;clear hG_ G_;refine xq1 rfl ⟨.inl ⟨rfl,_,SqL.of hW⟩,(xw2 rfl rfl (xq2 rfl rfl ⟨l,ns,7+(0+(j:Int)),rfl,s4.seq hS,by lia,(xwb rfl rfl rfl ⟨_,30+(0+(j:Int)),rfl,by lia,by lia,λv=>⟨v,rfl,λx H5 wx s5=>?_⟩⟩)⟩))⟩;have hW5:=s5 _ _ hW;refine⟨W,(xq2 rfl rfl ⟨hW5,by rw[B0];exact Du A0,?_⟩)⟩;refine⟨ws++[x],(xq1 rfl ⟨λb o e=>?_,by rw[Ag,D5];rfl,λw' hw=>?_,by rw[B5];show _+1<=_;lia⟩)⟩
   ·rw[AD (Ax e nW)];exact s5 _ _ (s4 _ _ e)
   ·rcases C6.mp hw with z|z
    ·exact ok _ z
    ·rw[C9.mp z];exact wx
  rintro σ H4 z2_;apply Ay;intro G_ hG_;obtain⟨ws,u2,rfl,s4,hW,ok,wl⟩:=z2_;apply hG_;clear hG_ G_;refine hk2 ?_;clear h1 s1' hm;refine AL ?_;intro r3 s3 k3 hk3 E3;apply NT (T:=k3) (fun σ H5=>∃(ws:List Str),σ=[some (.ref l),some (.ref W),u2,none,none,none,none,none,none,none]/\Aw H H5/\H5 W=some (.lst (ws.map V.str))/\(∀w∈ws,Wd 20 1 w)/\ws.length<=7)
  ·intro rest;refine xq1 rfl ⟨l,ns,4,rfl,s4.seq hS,by decide,(xq2 rfl rfl ⟨⟨by decide,by decide⟩,(xq2 rfl rfl ⟨(by show(0:Int)<4;decide),rfl,xq1 rfl (GH (λ_=>?_) (λ_=>rest _ _ ⟨ws,rfl,s4,hW,ok,by lia⟩))⟩)⟩)⟩;refine xq1 rfl ⟨.inl ⟨rfl,_,SqL.of hW⟩,(xq1 rfl ⟨l,ns,5,rfl,s4.seq hS,by decide,(xq2 rfl rfl ⟨⟨by decide,by decide⟩,(xq1 rfl ⟨W,(xq1 rfl ⟨.inl (SqL.of hW),(xq2 rfl rfl (xq2 rfl rfl ⟨(by show(0:Int)<((ws.map V.str).length:Int)+1;lia),?_⟩))⟩)⟩)⟩)⟩)⟩;refine xq1 rfl ⟨l,ns,5,rfl,s4.seq hS,by decide,_,40,rfl,by decide,by decide,λv=>⟨v,rfl,λx H5 wx s5=>?_⟩⟩;have i0:0<=atN ns 5/6%(((ws.map V.str).length:Int)+1):=F9 _ A0;have i1:atN ns 5/6%(((ws.map V.str).length:Int)+1)<((ws.map V.str).length:Int)+1:=D9 _ A0;obtain⟨i,ei⟩:=L8 i0;refine⟨W,_,(xq2 rfl rfl ⟨s5 _ _ hW,⟨i0,by lia,by rw[B0];lia⟩,?_⟩)⟩;rw[ei,G7];refine rest _ _ ⟨ws.take i++x::ws.drop i,rfl,λb o e=>?_,by rw[Ag,D5,D7,List.map_take,List.map_drop],λw' hw=>?_,by rw[B5,C4,N6,O0];lia⟩
   ·rw[AD (Ax e nW)];exact s5 _ _ (s4 _ _ e)
   ·rcases C6.mp hw with z|z
    ·exact ok _ (List.mem_of_mem_take z)
    ·rcases B7.mp z with rfl|z
     ·exact⟨C8 wx.1 A3,wx.2⟩
     ·exact ok _ (List.mem_of_mem_drop z)
  clear hW ok wl ws;rintro σ H5 z2_;apply Ay;intro G_ hG_;obtain⟨ws,rfl,s5,hW,ok,wl⟩:=z2_;apply hG_;clear hG_ G_;refine hk3 ?_;refine AL ?_;intro r4 s4 k4 hk4 E4;refine xq1 rfl ⟨l,ns,0,rfl,s5.seq hS,by decide,_,rfl,λx0 H6 w0 s6=>?_⟩;have c1:(Str.ofString ",").length=1:=by decide +kernel
  have c2:(Str.ofString ":").length=1:=by decide +kernel
  obtain⟨wj,jo⟩:=wd_join ok wl;have l0:=Dh w0;have lj:=Dh wj;refine xq2 rfl rfl ⟨BB A0,?_⟩;refine xq1 rfl ⟨l,ns,1,rfl,(s5.trans s6).seq hS,by decide,_,rfl,λx1 H7 w1 s7=>?_⟩;have l1:=Dh w1;refine xq2 rfl rfl ⟨BB (by rw[Tx.Eo];lia),?_⟩;refine xq2 rfl rfl ⟨BB (by rw[Tx.Eo,Tx.Eo];lia),?_⟩;have s57:=(s5.trans s6).trans s7;refine⟨rfl,(xq1 rfl ⟨_,W,ws,rfl,rfl,SqL.of (s7 _ _ (s6 _ _ hW)),jo,?_⟩)⟩;refine xq2 rfl rfl ⟨BB (by rw[Tx.Eo,Tx.Eo,Tx.Eo];lia),?_⟩;have wt:Wd 182 7 (x0++Str.ofString "," ++ x1++Str.ofString ":" ++ Str.join (Str.ofString "") ws):=by
   have:=DQ (DQ (DQ (DQ w0 (show Wd 1 0 (Str.ofString ",") by decide +kernel)) w1) (show Wd 1 0 (Str.ofString ":") by decide +kernel)) wj;exact this
  have t4:44∈(x0++Str.ofString "," ++ x1++Str.ofString ":" ++ Str.join (Str.ofString "") ws).cps.toList:=by
   rw[Tx.Bw,Tx.Bw,Tx.Bw,Tx.Bw,show(Str.ofString ",").cps.toList=[44] by decide +kernel];simp
  have t5:58∈(x0++Str.ofString "," ++ x1++Str.ofString ":" ++ Str.join (Str.ofString "") ws).cps.toList:=by
   rw[Tx.Bw,Tx.Bw,Tx.Bw,Tx.Bw,show(Str.ofString ":").cps.toList=[58] by decide +kernel];simp
  generalize x0++Str.ofString "," ++ x1++Str.ofString ":" ++ Str.join (Str.ofString "") ws=X at wt t4 t5⊢;refine hk4 ?_;clear w0 w1 l0 l1 wj jo lj s6 s7 s5 hW c1 c2;refine AL ?_;intro r5 s5 k5 hk5 E5;refine xw2 rfl rfl ⟨l,ns,2,rfl,s57.seq hS,by decide,_,5,rfl,by decide,by decide,λv5=>?_⟩;refine xq1 rfl ⟨l,ns,3,rfl,s57.seq hS,by decide,_,rfl,λy H8 wy s8=>?_⟩;refine .mk X y v5 182 7 rfl wt A3 wy t4 t5 λx H9 wx s9=>?_;have s09:=(s57.trans s8).trans s9;refine hk5 ?_;clear wt t4 t5 s57 s8 s9 wy;refine AL ?_;intro r6 s6 k6 hk6 E6;refine xq1 rfl ?_;refine hk6 ?_;refine AL ?_;intro r7 s7 k7 hk7 E7;apply NT (T:=k7) (fun σ H5=>∃v:V,σ=[some (.ref l),some (.ref W),u2,some (.str x),some v,none,none,none,none,none]/\Aw H H5/\(v=.str x\/NA H5 v))
  ·intro rest;refine xq1 rfl ⟨l,ns,4,rfl,s09.seq hS,by decide,(xq2 rfl rfl ⟨(by show(0:Int)<7;decide),rfl,xq1 rfl (GH (λ_=>?_) (λ_=>rest _ _ (xq1 rfl ⟨s09,.inl rfl⟩)))⟩)⟩;refine xq1 rfl ⟨(by show 1<=sizeLine;decide),λp1 h1=>?_⟩;refine xw2 rfl rfl ⟨(by show 2<=sizeLine;decide),λp2 h2=>?_⟩;intro p3 h3;refine⟨by show 6<=sizeLine;decide,λp4 h4=>?_⟩;generalize eHa:upd H9 p1 _=Ha at h2 h3 h4⊢;have sa:Aw H9 Ha:=eHa▸Al h1;have ha:Ha p1=some (.lst [.str x]):=eHa▸Ag;clear eHa;generalize eHb:upd Ha p2 _=Hb at h3 h4⊢;have sb:Aw Ha Hb:=eHb▸Al h2;have hb:Hb p2=some (.tup [.str x,.str x]):=eHb▸Ag;clear eHb;generalize eHc:upd Hb p3 _=Hc at h4⊢;have sc:Aw Hb Hc:=eHc▸Al h3;have hc:Hc p3=some (.dK []):=eHc▸Ag;clear eHc;generalize eHd:upd Hc p4 _=Hd;have sd:Aw Hc Hd:=eHd▸Al h4;have hd:Hd p4=some (.lst [.non,.int 0,.bl true,.ref p1,.ref p2,.ref p3]):=eHd▸Ag;clear eHd;have ha':=sd _ _ (sc _ _ (sb _ _ ha));have hb':=sd _ _ (sc _ _ hb);have hc':=sd _ _ hc;have s0d:=(((s09.trans sa).trans sb).trans sc).trans sd;refine xq1 rfl ⟨l,ns,5,rfl,s0d.seq hS,by decide,(xq2 rfl rfl ⟨A8,?_⟩)⟩;have i0:0<=atN ns 5%6:=F9 _ A3;have i1:atN ns 5%6<6:=D9 _ A3;rcases(show atN ns 5%6=0\/atN ns 5%6=1\/atN ns 5%6=2\/atN ns 5%6=3\/atN ns 5%6=4\/atN ns 5%6=5 by lia)with eI|eI|eI|eI|eI|eI
   ·exact xq4 rfl rfl (SqL.of hd) (by rw[eI];rfl) (rest _ _ (xq1 rfl ⟨s0d,.inr (.inl rfl)⟩))
   ·exact xq4 rfl rfl (SqL.of hd) (by rw[eI];rfl) (rest _ _ (xq1 rfl ⟨s0d,.inr (.inr (.inl ⟨_,rfl⟩))⟩))
   ·exact xq4 rfl rfl (SqL.of hd) (by rw[eI];rfl) (rest _ _ (xq1 rfl ⟨s0d,.inr (.inr (.inr (.inl ⟨_,rfl⟩)))⟩))
   ·exact xq4 rfl rfl (SqL.of hd) (by rw[eI];rfl) (rest _ _ (xq1 rfl ⟨s0d,.inr (.inr (.inr (.inr (xq1 rfl (.inl ⟨_,ha'⟩)))))⟩))
   ·exact xq4 rfl rfl (SqL.of hd) (by rw[eI];rfl) (rest _ _ (xq1 rfl ⟨s0d,.inr (.inr (.inr (.inr (xq1 rfl (.inr (.inl ⟨_,hb'⟩))))))⟩))
   ·exact xq4 rfl rfl (SqL.of hd) (by rw[eI];rfl) (rest _ _ (xq1 rfl ⟨s0d,.inr (.inr (.inr (.inr (xq1 rfl (.inr (.inr ⟨_,hc'⟩))))))⟩))
  rintro σ H5 z2_;apply Ay;intro G_ hG_;obtain⟨v,rfl,s5',hv⟩:=z2_;apply hG_;clear hG_ G_;refine hk7 ?_;clear s09;refine AL ?_;intro r8 s8 k8 hk8 E8;intro gx dx' nx ndx nex;refine⟨gx,dx',rfl,Ag,λg H7 gp N=>⟨rfl,?_⟩⟩;have s7:Aw H5 H7:=λb o e=>N.kp b o (by rw[AD (Ax e nx),AD (Ax e ndx)];exact e) (gp▸Ax e nx);subst gp;have fu:=Bs.new N;have ng:=N.none;clear N;have ng3:∀y∈[g.lv,g.pt,g.nm],H5 y=none:=λy hy=>ng y (by simp[Ds]at *;lia);have fxn:∀{Ha Hb:Hp},Aw H5 Ha->Fr g Ha Hb->Aw H5 Hb:=λ{Ha Hb} sa fr b o e=>fr b o (sa _ _ e) (λq=>by subst q;rw[ng3 _ A5]at e;cases e) (λq=>by subst q;rw[ng3 _ A5]at e;cases e) (λq=>by subst q;rw[ng3 _ A5]at e;cases e);have few0:G0.length<200000:=by rw[RG];decide
  have lx:=Dh wx;refine hk8 ?_;clear ng ng3;refine AL ?_;intro r9 s9 k9 hk9 E9;apply NT (T:=k9) (fun σ H8=>∃H8',H8'=H8/\σ=[some (.ref l),some (.ref W),u2,some (.str x),some v,some (.ref g.p),none,none,none,none]/\Aw H5 H8)
  ·intro rest;rcases hv with rfl|od
   ·refine xw3 rfl rfl rfl (.mk g G0 x rfl fu A0 wx.2 A0 λG8 H8 fr8 fu8 go8=>?_);refine⟨true,rfl,AE ?_⟩;refine xw3 rfl rfl rfl (.mk g G8 x rfl fu8 A0 wx.2 (by have:=go8.few;lia) λG9 H9 fr9 fu9 go9=>?_);exact⟨true,rfl,AE (rest _ _ (xq1 rfl ⟨rfl,fxn (fxn s7 fr8) fr9⟩))⟩
   ·have od7:=od.same s7;refine xw3 rfl rfl rfl (.no g x v rfl od7.no (λH' s=>(od7.same s).ne x) A0 λH8 s8'=>?_);refine⟨true,rfl,AE ?_⟩;have od8:=od7.same s8';refine xw3 rfl rfl rfl (.no g x v rfl od8.no (λH' s=>(od8.same s).ne x) A0 λH9 s9'=>?_);exact⟨true,rfl,AE (rest _ _ (xq1 rfl ⟨rfl,(s7.trans s8').trans s9'⟩))⟩
  rintro σ H8 z2_;apply Ay;intro G_ hG_;obtain⟨_,_,rfl,s8'⟩:=z2_;apply hG_;clear hG_ G_;refine hk9 ?_;have s08:=s5'.trans s8';have hv8:v=.str x\/NA H8 v:=hv.imp id λo=>o.same s8';clear fxn fu hv few0;refine AL ?_;intro r10 s10 k10 hk10 E10;have c58:Str.ofString ":" = ⟨#[58]⟩:=by decide +kernel
  have lxx:=Nu.len x;obtain⟨b,eb,bl⟩:∃b:Str,(Txt.partition x ⟨#[58]⟩).2.2=b/\b.length<=1000:=by
   refine xq1 rfl ?_;cases e1:BC 58 x.cps.toList with
   |none=>rw[OR 58 x (EW e1)];show Str.empty.length<=1000;decide
   |some pq =>
    obtain⟨p,q⟩:=pq;rw[Mr e1,Nu.len];obtain⟨z1,_⟩:=BU e1;rw[z1,B5,C4]at lxx;show q.length<=1000;lia
  refine xq1 rfl ⟨rfl,x,(xq1 rfl ⟨rfl,rfl,by lia,λp hp=>?_⟩)⟩;generalize eHa:upd H8 p _=Ha;have sa:Aw H8 Ha:=eHa▸Al hp;have ha:Ha p=some (.tup [.str (Txt.partition x ⟨#[58]⟩).1,.str (Txt.partition x ⟨#[58]⟩).2.1,.str b]):=by rw[<-eHa,Ag,c58,eb]
  clear eHa;refine xq4 rfl rfl (SqT.of ha) (Ai (j:=2) rfl) ?_;refine hk10 ?_;refine AL ?_;intro r11 s11 k11 hk11 E11;apply NT (T:=k11) (fun σ H9=>∃d:V,σ=[some (.ref l),some (.ref W),u2,some (.str x),some v,some (.ref g.p),some (.str b),some d,none,none]/\Aw Ha H9/\((prs [] b.cps.toList=none/\d=.non)\/∃rs L ts,prs [] b.cps.toList=some rs/\d=.ref L/\H9 L=some (.lst (ts.map V.ref))/\Paired (CQ H9) ts rs))
  ·intro rest;exact xq1 rfl (.mk b rfl bl (λrs er L ts H9 nL s9' hL pr=>rest _ _ (xq1 rfl ⟨s9',.inr ⟨rs,L,ts,er,rfl,hL,pr⟩⟩)) λer H9 s9'=>rest _ _ (xq1 rfl ⟨s9',.inl ⟨er,rfl⟩⟩))
  rintro σ H9 z2_;apply Ay;intro G_ hG_;obtain⟨d,rfl,s9',hd⟩:=z2_;apply hG_;clear hG_ G_;refine hk11 ?_;have s09:=(s08.trans sa).trans s9';have hv9:v=.str x\/NA H9 v:=hv8.imp id λo=>(o.same sa).same s9';clear hv8 ha sa s08;refine AL ?_;intro r12 s12 k12 hk12 E12;rcases hv9 with rfl|od
  ·refine xw2 rfl rfl ⟨x,false,rfl,.inl ⟨rfl,by rw[Z3 rfl];rfl⟩,false,rfl,AE ?_⟩;refine hk12 ?_;refine AL ?_;intro r13 s13 k13 hk13 E13;have read:∀{Hx:Hp},Aw H9 Hx->∀(Q':VK)(E':XK),(∀v H',(∃rs L ts,prs [] b.cps.toList=some rs/\v=.ref L/\Aw Hx H'/\H' L=some (.lst (ts.map V.ref))/\Paired (CQ H') ts rs)->Q' v H')->(∀c j d H',KiW K a c j->(j=10/\prs [] b.cps.toList=none/\Aw Hx H')->E' (.ref c) d H')->Mh K a [.str b] Hx Q' E':=λ{Hx} sx Q' E' h1 h2 =>
    .mk b rfl A0 (λrs er L ts H' _ s' hL pr=>h1 _ _ ⟨rs,L,ts,er,rfl,s',hL,pr⟩) (λer c H' ki s'=>h2 c 10 none H' ki ⟨rfl,er,s'⟩)
   refine xq1 rfl ⟨_,_,rfl,read (Aw.refl H9),λv H1 t H2 z sv ht=>?_,λj H1 t H2 z sv ht=>?_⟩
   ·apply Ay;intro G_ hG_;obtain⟨rs,L,ts,er,rfl,s1',hL,pr⟩:=z;apply hG_;clear hG_ G_;refine Ft ht ?_;refine hk13 ?_;rcases hd with ⟨e,_⟩|⟨rs',M,us,er',rfl,hM,pu⟩
    ·rw[er]at e;cases e
    rw[er]at er';cases er';refine AL ?_;intro r14 s14 k14 hk14 E14;refine xq1 rfl ⟨rfl,false,rfl,AE ?_⟩;refine hk14 ?_;have s92:=s1'.trans sv;refine xq1 rfl ⟨rfl,(xq1 rfl ?_)⟩;exact xw2 rfl rfl (.mk L M ts us rs rfl (sv _ _ hL) (s92 _ _ hM) (PairedM.imp (λt c z=>sv _ _ z) pr) (PairedM.imp (λt c z=>s92 _ _ z) pu) λH' _=>kq _)
   ·obtain⟨rfl,er,s1'⟩:=z;refine Ft ht ?_;refine hk13 ?_;rcases hd with ⟨_,rfl⟩|⟨rs',M,us,er',_⟩
    ·refine AL ?_;intro r14 s14 k14 hk14 E14;refine xq1 rfl ⟨rfl,true,rfl,AI ?_⟩;have s92:=s1'.trans sv;refine xq1 rfl ⟨rfl,(xq1 rfl ?_)⟩;refine xq1 rfl ⟨_,_,rfl,read s92,λv H1 t H2 z sv ht=>?_,λj H1 t H2 z sv ht=>?_⟩
     ·apply Ay;intro G_ hG_;obtain⟨rs,L,ts,er2,_⟩:=z;apply hG_;clear hG_ G_;rw[er]at er2;cases er2
     ·obtain⟨rfl,_,_⟩:=z;exact xq4 rfl rfl (SqT.of ht) (Ai (j:=0) rfl) ⟨rfl,kq _⟩
    ·rw[er]at er';cases er'
  ·refine xw2 rfl rfl ⟨x,true,rfl,od.ne x,true,rfl,AI ?_⟩;refine xq1 rfl ⟨λ_ _=>False,λj H'=>j=10/\H'=H9,rfl,λQ' E' _ h2=>.no v rfl od.no λc ki=>h2 c 10 none H9 ki ⟨rfl,rfl⟩,(λ_ _ _ _ z=>nomatch z),λj H1 t H2 z sv ht=>?_⟩;obtain⟨rfl,rfl⟩:=z;refine xq4 rfl rfl (SqT.of ht) (Ai (j:=0) rfl) ⟨rfl,?_⟩;exact kq _
end
end J
namespace J
open PySem L2
theorem ar1{α:Type}:∀us:List α,us.length=1->∃a0,us=[a0]
 |[a0],_=>⟨a0,rfl⟩
theorem ar2{α:Type}:∀us:List α,us.length=2->∃a0 a1,us=[a0,a1]
 |[a0,a1],_=>⟨a0,a1,rfl⟩
theorem ar3{α:Type}:∀us:List α,us.length=3->∃a0 a1 a2,us=[a0,a1,a2]
 |[a0,a1,a2],_=>⟨a0,a1,a2,rfl⟩
theorem ar4{α:Type}:∀us:List α,us.length=4->∃a0 a1 a2 a3,us=[a0,a1,a2,a3]
 |[a0,a1,a2,a3],_=>⟨a0,a1,a2,a3,rfl⟩
theorem ar5{α:Type}:∀us:List α,us.length=5->∃a0 a1 a2 a3 a4,us=[a0,a1,a2,a3,a4]
 |[a0,a1,a2,a3,a4],_=>⟨a0,a1,a2,a3,a4,rfl⟩
structure Fg(K:W.Frag)(x:Str)(st:Stmt)(f:Addr)(fd:FuncData):Prop where
 at_:W.nsIn K mainGlobals x=some (some (.ref f))
 fn:Fun K x x st f fd
structure Fm(K:W.Frag)(C:Addr)(m q:Str)(st:Stmt)(f:Addr)(fd:FuncData):Prop where
 me:WP K C m f
 fn:Fun K m q st f fd
structure Fi(K:W.Frag)(C:Addr)(q:Str)(st:Stmt)(f:Addr)(fd:FuncData):Prop where
 mk_:Mk K C f
 fn:Fun K "__init__" q st f fd
theorem bnd{K:W.Frag}{x q:Str}{st:Stmt}{f:Addr}{fd:FuncData}{ps:List Str}(F:Fun K x q st f fd)(h:∀(kV doc pm:Value)(an:Option Addr)(cdv ct:Value)(us:List Value),us.length=ps.length->bindArgs (PySem.W.fnOf x q (JK st) (Fu st) (Aj st) .none kV doc pm an cdv ct) ⟨us,[]⟩=pure (ps.zip us):=by intro _ _ _ _ _ _ us hl;first|(obtain⟨x0,rfl⟩:=ar1 us hl;exact rfl)|(obtain⟨x0,x1,rfl⟩:=ar2 us hl;exact rfl)|(obtain⟨x0,x1,x2,rfl⟩:=ar3 us hl;exact rfl)|(obtain⟨x0,x1,x2,x3,rfl⟩:=ar4 us hl;exact rfl)|(obtain⟨x0,x1,x2,x3,x4,rfl⟩:=ar5 us hl;exact rfl)):CD K fd ps []:=F.binds h
theorem fin{l:PySem.W.OpenLaw}{w:World}{K:W.Frag}{h:Heap}{mg:Str->Option Value}{fa:Addr}(X:K.In h)(G:h.Ns mainGlobals mg)(hfa:mg "law" = some (.ref fa))
  {c_Grove:Addr} {f0:Addr} {d0:FuncData} {f1:Addr} {d1:FuncData} {f2:Addr} {d2:FuncData} {f3:Addr} {d3:FuncData} {f4:Addr} {d4:FuncData} {f5:Addr} {d5:FuncData} {f6:Addr} {d6:FuncData} {f7:Addr} {d7:FuncData} {f8:Addr} {d8:FuncData} {f9:Addr} {d9:FuncData} {f10:Addr} {d10:FuncData} {f11:Addr} {d11:FuncData} {f12:Addr} {d12:FuncData} {f13:Addr} {d13:FuncData} {f14:Addr} {d14:FuncData} {f15:Addr} {d15:FuncData} {f16:Addr} {d16:FuncData} {f17:Addr} {d17:FuncData} {f18:Addr} {d18:FuncData} {f19:Addr} {d19:FuncData} {f20:Addr} {d20:FuncData} {f21:Addr} {d21:FuncData} {f22:Addr} {d22:FuncData} {f23:Addr} {d23:FuncData} {f24:Addr} {d24:FuncData} {f25:Addr} {d25:FuncData} {f26:Addr} {d26:FuncData} {f27:Addr} {d27:FuncData} {f28:Addr} {d28:FuncData} {f29:Addr} {d29:FuncData} {f30:Addr} {d30:FuncData} {f31:Addr} {d31:FuncData} {f32:Addr} {d32:FuncData} {f33:Addr} {d33:FuncData} {f34:Addr} {d34:FuncData} {f35:Addr} {d35:FuncData} {f36:Addr} {d36:FuncData} {f37:Addr} {d37:FuncData} {f38:Addr} {d38:FuncData} {f39:Addr} {d39:FuncData} {f40:Addr} {d40:FuncData} {f41:Addr} {d41:FuncData} {f42:Addr} {d42:FuncData} {f43:Addr} {d43:FuncData} {f44:Addr} {d44:FuncData} {f45:Addr} {d45:FuncData} {f46:Addr} {d46:FuncData} {f47:Addr} {d47:FuncData} {f48:Addr} {d48:FuncData} {f49:Addr} {d49:FuncData} {f51:Addr} {d51:FuncData} {f52:Addr} {d52:FuncData} {f53:Addr} {d53:FuncData} {f54:Addr} {d54:FuncData} {f55:Addr} {d55:FuncData} {f56:Addr} {d56:FuncData} {f57:Addr} {d57:FuncData} {f58:Addr} {d58:FuncData} {f50:Addr} {d50:FuncData} {t_FIGURES:Tok} {x_FIGURES:Str} {t_MOST_FIGURES:Tok} {t_STATES:Tok} {t_TOP_LEVEL:Tok} {t_LIMIT:Tok} {t_LEAST_LEVEL:Tok} {t_BLANK_SIGN:Tok} {x_BLANK_SIGN:Str} {t_ROW_SIGN:Tok} {x_ROW_SIGN:Str} {t_STATE_SIGNS:Tok} {x_STATE_SIGNS:Str} {t_RUN_SIGNS:Tok} {x_RUN_SIGNS:Str} {t_MOST_AMOUNT_FIGURES:Tok} {t_MOST_PLACE:Tok} {x_FieldError:Addr} {x_NoNumber:Addr} {x_NoRule:Addr} {x_Restless:Addr} {x_NoSquare:Addr} {x_NoLevel:Addr} {x_NoState:Addr} {x_NoBox:Addr} {x_TooFar:Addr} {x_TooMany:Addr} {x_NoSteps:Addr} {x_NoPattern:Addr} {x_NoName:Addr} {x_NoRow:Addr}
  (bZ:W.nsIn K mainGlobals "Grove" = some (some (.ref c_Grove)))
  (q_Grove:Cls K c_Grove)
  (na_Grove_levels:findIn K (.ref c_Grove) "levels" = some none)
  (na_Grove_parts:findIn K (.ref c_Grove) "parts" = some none)
  (na_Grove_numbers:findIn K (.ref c_Grove) "numbers" = some none)
  (na_Grove_bares:findIn K (.ref c_Grove) "bares" = some none)
  (na_Grove_amounts:findIn K (.ref c_Grove) "amounts" = some none)
  (na_Grove_boxes:findIn K (.ref c_Grove) "boxes" = some none)
  (g0:Fg K "is_whole" Jb f0 d0)
  (g1:Fg K "read_whole" Gi f1 d1)
  (g2:Fg K "without_minus" DV f2 d2)
  (g3:Fg K "are_figures" DJ f3 d3)
  (g4:Fg K "is_state" Jc f4 d4)
  (g5:Fg K "lies_within" Fz f5 d5)
  (g6:Fg K "reach_of" Ja f6 d6)
  (g7:Fg K "bare_field" Gk f7 d7)
  (g8:Fg K "widened" JT f8 d8)
  (g9:Fg K "trimmed" JU f9 d9)
  (g10:Fg K "middle_of" Fh f10 d10)
  (g11:Fg K "is_bare_around" Dx f11 d11)
  (g12:Fg K "widened_over" EB f12 d12)
  (g13:Fg K "filled" Js f13 d13)
  (g14:Fg K "check_box" GY f14 d14)
  (g15:Fg K "part_in" JV f15 d15)
  (g16:Fg K "mixed" LQ f16 d16)
  (g17:Fg K "mixed_quarters" CG f17 d17)
  (g18:Fg K "split_stretch" DW f18 d18)
  (g19:Fg K "read_runs" GX f19 d19)
  (g20:Fg K "read_amount" Fy f20 d20)
  (g21:Fg K "read_pattern" EC f21 d21)
  (g22:Fg K "read_place" Gj f22 d22)
  (g23:Fg K "field_of_runs" DX f23 d23)
  (g24:Fg K "_law_at" JW f24 d24)
  (g25:Fg K "_law_whole" Gm f25 d25)
  (g26:Fg K "_law_mix" Jd f26 d26)
  (g27:Fg K "_law_state_at" DY f27 d27)
  (g28:Fg K "_law_count" Ej f28 d28)
  (g29:Fg K "_law_is_field" DZ f29 d29)
  (g30:Fg K "_law_within" FA f30 d30)
  (g31:Fg K "_law_walked" FB f31 d31)
  (g32:Fg K "_law_number_by" Dz f32 d32)
  (g33:Fg K "_law_run_by" FD f33 d33)
  (g34:Fg K "_law_odd_run" EF f34 d34)
  (g35:Fg K "_law_sign_by" EE f35 d35)
  (g36:Fg K "_law_spoiled" ED f36 d36)
  (g37:Fg K "_law_figures" EH f37 d37)
  (g38:Fg K "_law_runs" Ia f38 d38)
  (g39:Fg K "_law_number" FE f39 d39)
  (g40:Fg K "_law_read" Ib f40 d40)
  (g41:Fg K "_law_strips" FC f41 d41)
  (g42:Fg K "_law_leaves" FG f42 d42)
  (g43:Fg K "_law_has" EG f43 d43)
  (g44:Fg K "_law_word" GZ f44 d44)
  (g45:Fg K "_law_field" Go f45 d45)
  (g46:Fg K "_law_listed" FF f46 d46)
  (g47:Fg K "_law_same_runs" Dy f47 d47)
  (g48:Fg K "_law_right" Gn f48 d48)
  (g49:Fg K "law" UY f49 d49)
  (g51:Fm K c_Grove "kept" "Grove.kept" Gq f51 d51)
  (g52:Fm K c_Grove "linked" "Grove.linked" EI f52 d52)
  (g53:Fm K c_Grove "check_square" "Grove.check_square" Cw f53 d53)
  (g54:Fm K c_Grove "leaf" "Grove.leaf" Gp f54 d54)
  (g55:Fm K c_Grove "solid" "Grove.solid" FH f55 d55)
  (g56:Fm K c_Grove "level_of" "Grove.level_of" DC f56 d56)
  (g57:Fm K c_Grove "quarters" "Grove.quarters" DB f57 d57)
  (g58:Fm K c_Grove "state_of" "Grove.state_of" DA f58 d58)
  (g50:Fi K c_Grove "Grove.__init__" Gr f50 d50)
  (z_abs:W.nsIn K mainGlobals "abs" = some none)
  (z_all:W.nsIn K mainGlobals "all" = some none)
  (z_bool:W.nsIn K mainGlobals "bool" = some none)
  (z_enumerate:W.nsIn K mainGlobals "enumerate" = some none)
  (z_int:W.nsIn K mainGlobals "int" = some none)
  (z_isinstance:W.nsIn K mainGlobals "isinstance" = some none)
  (z_len:W.nsIn K mainGlobals "len" = some none)
  (z_list:W.nsIn K mainGlobals "list" = some none)
  (z_max:W.nsIn K mainGlobals "max" = some none)
  (z_min:W.nsIn K mainGlobals "min" = some none)
  (z_range:W.nsIn K mainGlobals "range" = some none)
  (z_sorted:W.nsIn K mainGlobals "sorted" = some none)
  (z_str:W.nsIn K mainGlobals "str" = some none)
  (z_sum:W.nsIn K mainGlobals "sum" = some none)
  (z_tuple:W.nsIn K mainGlobals "tuple" = some none)
  (z_zip:W.nsIn K mainGlobals "zip" = some none)
  (g_FIGURES:W.nsIn K mainGlobals "FIGURES" = some (some (.str x_FIGURES t_FIGURES)))
  (gx_FIGURES:x_FIGURES=Str.ofString "0123456789")
  (g_MOST_FIGURES:W.nsIn K mainGlobals "MOST_FIGURES" = some (some (.int 30 t_MOST_FIGURES)))
  (g_STATES:W.nsIn K mainGlobals "STATES" = some (some (.int 8 t_STATES)))
  (g_TOP_LEVEL:W.nsIn K mainGlobals "TOP_LEVEL" = some (some (.int 48 t_TOP_LEVEL)))
  (g_LIMIT:W.nsIn K mainGlobals "LIMIT" = some (some (.int 1099511627776 t_LIMIT)))
  (g_LEAST_LEVEL:W.nsIn K mainGlobals "LEAST_LEVEL" = some (some (.int 1 t_LEAST_LEVEL)))
  (g_BLANK_SIGN:W.nsIn K mainGlobals "BLANK_SIGN" = some (some (.str x_BLANK_SIGN t_BLANK_SIGN)))
  (gx_BLANK_SIGN:x_BLANK_SIGN=Str.ofString ".")
  (g_ROW_SIGN:W.nsIn K mainGlobals "ROW_SIGN" = some (some (.str x_ROW_SIGN t_ROW_SIGN)))
  (gx_ROW_SIGN:x_ROW_SIGN=Str.ofString "/")
  (g_STATE_SIGNS:W.nsIn K mainGlobals "STATE_SIGNS" = some (some (.str x_STATE_SIGNS t_STATE_SIGNS)))
  (gx_STATE_SIGNS:x_STATE_SIGNS=Str.ofString ".ABCDEFG")
  (g_RUN_SIGNS:W.nsIn K mainGlobals "RUN_SIGNS" = some (some (.str x_RUN_SIGNS t_RUN_SIGNS)))
  (gx_RUN_SIGNS:x_RUN_SIGNS=Str.ofString ".ABCDEFG/")
  (g_MOST_AMOUNT_FIGURES:W.nsIn K mainGlobals "MOST_AMOUNT_FIGURES" = some (some (.int 13 t_MOST_AMOUNT_FIGURES)))
  (g_MOST_PLACE:W.nsIn K mainGlobals "MOST_PLACE" = some (some (.int 9999999999999 t_MOST_PLACE)))
  (z_ValueError:W.nsIn K mainGlobals "ValueError" = some none)
  (nx_FieldError:W.nsIn K mainGlobals "FieldError" = some (some (.ref x_FieldError)))
  (nx_NoNumber:W.nsIn K mainGlobals "NoNumber" = some (some (.ref x_NoNumber)))
  (nx_NoRule:W.nsIn K mainGlobals "NoRule" = some (some (.ref x_NoRule)))
  (nx_Restless:W.nsIn K mainGlobals "Restless" = some (some (.ref x_Restless)))
  (nx_NoSquare:W.nsIn K mainGlobals "NoSquare" = some (some (.ref x_NoSquare)))
  (nx_NoLevel:W.nsIn K mainGlobals "NoLevel" = some (some (.ref x_NoLevel)))
  (nx_NoState:W.nsIn K mainGlobals "NoState" = some (some (.ref x_NoState)))
  (nx_NoBox:W.nsIn K mainGlobals "NoBox" = some (some (.ref x_NoBox)))
  (nx_TooFar:W.nsIn K mainGlobals "TooFar" = some (some (.ref x_TooFar)))
  (nx_TooMany:W.nsIn K mainGlobals "TooMany" = some (some (.ref x_TooMany)))
  (nx_NoSteps:W.nsIn K mainGlobals "NoSteps" = some (some (.ref x_NoSteps)))
  (nx_NoPattern:W.nsIn K mainGlobals "NoPattern" = some (some (.ref x_NoPattern)))
  (nx_NoName:W.nsIn K mainGlobals "NoName" = some (some (.ref x_NoName)))
  (nx_NoRow:W.nsIn K mainGlobals "NoRow" = some (some (.ref x_NoRow)))
  (ec_NoPattern:GO K x_NoPattern)
  (ec_TooFar:GO K x_TooFar)
  (ec_NoNumber:GO K x_NoNumber)
  (ec_FieldError:GO K x_FieldError)
  (xf_NoPattern_0:hasDictIn K x_NoPattern=true)
  (xf_NoPattern_1:findIn K (.ref x_NoPattern) "__getattribute__" = some (some (.builtin "BaseException.__getattribute__")))
  (xf_NoPattern_2:findIn K (.ref x_NoPattern) "__getattr__" = some none)
  (xf_NoPattern_3:findIn K (.ref x_NoPattern) "__class__" = some (some (.builtin "object.__class__")))
  (xf_4:specialIn K (.builtin "object.__class__") "__get__" = some (some (.builtin "getset_descriptor.__get__")))
  (xf_5:takesIn K (.builtin "object.__class__")=some true)
  (xf_NoPattern_6:mroIn K x_NoPattern (.type "object")=some true)
  (xf_NoPattern_7:mroIn K x_NoPattern (.type "BaseException")=some true)
  (mr_NoPattern:mroIn K x_NoPattern (.ref x_FieldError)=some true)
  (kv_NoPattern:kitOne K (.ref x_NoPattern) (.type "ValueError")=some true)
  (ki_NoPattern_NoNumber:kitOne K (.ref x_NoPattern) (.ref x_NoNumber)=some false)
  (ki_NoPattern_NoRule:kitOne K (.ref x_NoPattern) (.ref x_NoRule)=some false)
  (ki_NoPattern_Restless:kitOne K (.ref x_NoPattern) (.ref x_Restless)=some false)
  (ki_NoPattern_NoSquare:kitOne K (.ref x_NoPattern) (.ref x_NoSquare)=some false)
  (ki_NoPattern_NoLevel:kitOne K (.ref x_NoPattern) (.ref x_NoLevel)=some false)
  (ki_NoPattern_NoState:kitOne K (.ref x_NoPattern) (.ref x_NoState)=some false)
  (ki_NoPattern_NoBox:kitOne K (.ref x_NoPattern) (.ref x_NoBox)=some false)
  (ki_NoPattern_TooFar:kitOne K (.ref x_NoPattern) (.ref x_TooFar)=some false)
  (ki_NoPattern_TooMany:kitOne K (.ref x_NoPattern) (.ref x_TooMany)=some false)
  (ki_NoPattern_NoSteps:kitOne K (.ref x_NoPattern) (.ref x_NoSteps)=some false)
  (ki_NoPattern_NoPattern:kitOne K (.ref x_NoPattern) (.ref x_NoPattern)=some true)
  (ki_NoPattern_NoName:kitOne K (.ref x_NoPattern) (.ref x_NoName)=some false)
  (ki_NoPattern_NoRow:kitOne K (.ref x_NoPattern) (.ref x_NoRow)=some false)
  (xf_TooFar_0:hasDictIn K x_TooFar=true)
  (xf_TooFar_1:findIn K (.ref x_TooFar) "__getattribute__" = some (some (.builtin "BaseException.__getattribute__")))
  (xf_TooFar_2:findIn K (.ref x_TooFar) "__getattr__" = some none)
  (xf_TooFar_3:findIn K (.ref x_TooFar) "__class__" = some (some (.builtin "object.__class__")))
  (xf_TooFar_6:mroIn K x_TooFar (.type "object")=some true)
  (xf_TooFar_7:mroIn K x_TooFar (.type "BaseException")=some true)
  (mr_TooFar:mroIn K x_TooFar (.ref x_FieldError)=some true)
  (kv_TooFar:kitOne K (.ref x_TooFar) (.type "ValueError")=some true)
  (ki_TooFar_NoNumber:kitOne K (.ref x_TooFar) (.ref x_NoNumber)=some false)
  (ki_TooFar_NoRule:kitOne K (.ref x_TooFar) (.ref x_NoRule)=some false)
  (ki_TooFar_Restless:kitOne K (.ref x_TooFar) (.ref x_Restless)=some false)
  (ki_TooFar_NoSquare:kitOne K (.ref x_TooFar) (.ref x_NoSquare)=some false)
  (ki_TooFar_NoLevel:kitOne K (.ref x_TooFar) (.ref x_NoLevel)=some false)
  (ki_TooFar_NoState:kitOne K (.ref x_TooFar) (.ref x_NoState)=some false)
  (ki_TooFar_NoBox:kitOne K (.ref x_TooFar) (.ref x_NoBox)=some false)
  (ki_TooFar_TooFar:kitOne K (.ref x_TooFar) (.ref x_TooFar)=some true)
  (ki_TooFar_TooMany:kitOne K (.ref x_TooFar) (.ref x_TooMany)=some false)
  (ki_TooFar_NoSteps:kitOne K (.ref x_TooFar) (.ref x_NoSteps)=some false)
  (ki_TooFar_NoPattern:kitOne K (.ref x_TooFar) (.ref x_NoPattern)=some false)
  (ki_TooFar_NoName:kitOne K (.ref x_TooFar) (.ref x_NoName)=some false)
  (ki_TooFar_NoRow:kitOne K (.ref x_TooFar) (.ref x_NoRow)=some false)
  (mm_NoNumber_NoNumber:mroIn K x_NoNumber (.ref x_NoNumber)=some true)
  : ∃fd:FuncData,(∀(s:Shared)(v:Value),BindsTo s fd ⟨[v],[]⟩ [("_law_script",v)])/\∀base:Heap,K.In base->base.Ns mainGlobals mg->AO l.prog w K mg base CX0 110 fa fd ["_law_script"] (Sh K):=by
 have e:=hfa.symm.trans (X1 X G g49.at_);cases e;have no:∀{x:Str},W.nsIn K mainGlobals x=some none->mg x=none:=λz=>PySem.W.mg_none_of X G z;subst gx_RUN_SIGNS;subst gx_STATE_SIGNS;subst gx_ROW_SIGN;subst gx_BLANK_SIGN;subst gx_FIGURES;have T:Top K mg (⟨c_Grove,x_FieldError,x_NoNumber,x_NoRule,x_Restless,x_NoSquare,x_NoLevel,x_NoState,x_NoBox,x_TooFar,x_TooMany,x_NoSteps,x_NoPattern,x_NoName,x_NoRow⟩:Ad):=⟨no z_abs,no z_all,no z_bool,no z_enumerate,no z_int,no z_isinstance,no z_len,no z_list,no z_max,no z_min,no z_range,no z_sorted,no z_str,no z_sum,no z_tuple,no z_zip,⟨t_FIGURES,X1 X G g_FIGURES⟩,⟨t_MOST_FIGURES,X1 X G g_MOST_FIGURES⟩,⟨t_STATES,X1 X G g_STATES⟩,⟨t_TOP_LEVEL,X1 X G g_TOP_LEVEL⟩,⟨t_LIMIT,X1 X G g_LIMIT⟩,⟨t_LEAST_LEVEL,X1 X G g_LEAST_LEVEL⟩,⟨t_BLANK_SIGN,X1 X G g_BLANK_SIGN⟩,⟨t_ROW_SIGN,X1 X G g_ROW_SIGN⟩,⟨t_STATE_SIGNS,X1 X G g_STATE_SIGNS⟩,⟨t_RUN_SIGNS,X1 X G g_RUN_SIGNS⟩,⟨t_MOST_AMOUNT_FIGURES,X1 X G g_MOST_AMOUNT_FIGURES⟩,⟨t_MOST_PLACE,X1 X G g_MOST_PLACE⟩,X1 X G bZ,q_Grove,na_Grove_levels,na_Grove_parts,na_Grove_numbers,na_Grove_bares,na_Grove_amounts,na_Grove_boxes,no z_ValueError,X1 X G nx_FieldError,X1 X G nx_NoNumber,X1 X G nx_NoRule,X1 X G nx_Restless,X1 X G nx_NoSquare,X1 X G nx_NoLevel,X1 X G nx_NoState,X1 X G nx_NoBox,X1 X G nx_TooFar,X1 X G nx_TooMany,X1 X G nx_NoSteps,X1 X G nx_NoPattern,X1 X G nx_NoName,X1 X G nx_NoRow,ec_NoPattern,ec_TooFar,ec_NoNumber,ec_FieldError,⟨xf_NoPattern_0,xf_NoPattern_1,xf_NoPattern_2,xf_NoPattern_3,xf_4,xf_5,xf_NoPattern_6,xf_NoPattern_7⟩,mr_NoPattern,kv_NoPattern,ki_NoPattern_NoNumber,ki_NoPattern_NoRule,ki_NoPattern_Restless,ki_NoPattern_NoSquare,ki_NoPattern_NoLevel,ki_NoPattern_NoState,ki_NoPattern_NoBox,ki_NoPattern_TooFar,ki_NoPattern_TooMany,ki_NoPattern_NoSteps,ki_NoPattern_NoPattern,ki_NoPattern_NoName,ki_NoPattern_NoRow,⟨xf_TooFar_0,xf_TooFar_1,xf_TooFar_2,xf_TooFar_3,xf_4,xf_5,xf_TooFar_6,xf_TooFar_7⟩,mr_TooFar,kv_TooFar,ki_TooFar_NoNumber,ki_TooFar_NoRule,ki_TooFar_Restless,ki_TooFar_NoSquare,ki_TooFar_NoLevel,ki_TooFar_NoState,ki_TooFar_NoBox,ki_TooFar_TooFar,ki_TooFar_TooMany,ki_TooFar_NoSteps,ki_TooFar_NoPattern,ki_TooFar_NoName,ki_TooFar_NoRow,mm_NoNumber_NoNumber⟩
 refine⟨d49,λs v=>(by obtain⟨_,_,_,_,_,_,_,_,_,rfl,_⟩:=g49.fn.ex;exact .of_eq rfl),λbase _ _=>?_⟩;have cal:∀{CX:CXT}{k:Nat}{x:Str}{st:Stmt}{f:Addr}{fd:FuncData}{ps:List Str}{sp:Sp},Fg K x st f fd->AO l.prog w K mg base CX k f fd ps sp->CD K fd ps []->Cal l.prog w K mg base CX k x ps sp:=λF o b=>⟨_,_,o,X1 X G F.at_,F.fn.kp,b⟩
 have calm:∀{CX:CXT}{k:Nat}{C:Addr}{x q:Str}{st:Stmt}{f:Addr}{fd:FuncData}{ps:List Str}{sp:Sp},Fm K C x q st f fd->Cls K C->AO l.prog w K mg base CX k f fd ps sp->CD K fd ps []->CS l.prog w K mg base CX k C x ps sp:=λF c o b=>⟨⟨_,_,o,F.me,b⟩,c⟩
 have calc':∀{CX:CXT}{k:Nat}{C:Addr}{x q:Str}{st:Stmt}{f:Addr}{fd:FuncData}{ps:List Str}{sp:Sp},Fi K C q st f fd->mg x=some (.ref C)->AO l.prog w K mg base CX k f fd ps sp->CD K fd ps []->CalC l.prog w K mg base CX k x C ps sp:=λF m o b=>⟨_,_,o,F.mk_,m,b⟩
 have aI:=cal (k:=1) (sp:=UQ) g0 (ok_iw g0.fn T) (bnd g0.fn);have aJ:=cal (k:=2) (sp:=UR) g4 (ok_is g4.fn T aI) (bnd g4.fn);have aH:=calm (k:=1) (sp:=(OB _)) g51 q_Grove (ok_kept g51.fn T) (bnd g51.fn);have bY:=calc' (k:=2) (sp:=(OC _)) g50 T.m_Grove (Vz g50.fn T aH) (bnd g50.fn)
 have a6:=calm (k:=2) (sp:=(IW _)) g52 q_Grove (ok_link g52.fn T aH) (bnd g52.fn);have aL:=calm (k:=2) (sp:=(UV _)) g53 q_Grove (ok_chk g53.fn T aI) (bnd g53.fn);have bN:=calm (k:=3) (sp:=(QW _)) g54 q_Grove (ok_leaf g54.fn T aJ) (bnd g54.fn);have a5:=calm (k:=3) (sp:=(Fe _)) g56 q_Grove (ok_lev g56.fn T aL) (bnd g56.fn);have aK:=calm (k:=4) (sp:=(LO _)) g55 q_Grove (Vw g55.fn T aI bN a6) (bnd g55.fn);have aB:=cal (k:=1) (sp:=PK) g5 (ok_lie g5.fn T) (bnd g5.fn);have aW:=cal (k:=4) (sp:=(LP _)) g6 (Vx g6.fn T a5) (bnd g6.fn);have bT:=cal (k:=4) (sp:=(UK _)) g8 (ok_wid g8.fn T a5 a6) (bnd g8.fn);have bS:=cal (k:=3) (sp:=(UN _)) g10 (ok_mid g10.fn T a6) (bnd g10.fn);have aX:=cal (k:=1) (sp:=(spBA _)) g11 (ok_ba g11.fn T) (bnd g11.fn);have bC:=cal (k:=4) (sp:=(OA _)) g9 (ok_trim g9.fn T a5 aX bS) (bnd g9.fn);have aG:=cal (k:=5) (sp:=(spWO _)) g12 (ok_wo g12.fn T aB aW bT) (bnd g12.fn);have bP:=cal (k:=1) (sp:=(OD _)) g7 (VA g7.fn T) (bnd g7.fn);have aU:=cal (k:=1) (sp:=Sj) g14 (ok_chb g14.fn T) (bnd g14.fn);have bD:=cal (k:=5) (sp:=(spPI _)) g15 (ok_pi g15.fn T aW) (bnd g15.fn);have aC:=cal (k:=1) (sp:=LN) g18 (Vv g18.fn T) (bnd g18.fn);have bI:=cal (k:=102) (sp:=(NN _ _ _ 50)) g16 (Vy g16.fn g17.fn T (X1 X G g16.at_) (bnd g16.fn) (X1 X G g17.at_) (bnd g17.fn) aC a6 50) (bnd g16.fn);have aD:=cal (k:=1) (sp:=(spAt K)) g24 (ok_at g24.fn T) (bnd g24.fn);have aO:=cal (k:=1) (sp:=Sg) g25 (ok_whi g25.fn T) (bnd g25.fn);have bH:=cal (k:=1) (sp:=QX) g26 (ok_lmix g26.fn T) (bnd g26.fn);have a9:=calm (k:=4) (sp:=(PJ _)) g58 q_Grove (ok_sta g58.fn T a5) (bnd g58.fn);have a7:=calm (k:=4) (sp:=(NM _)) g57 q_Grove (ok_qua g57.fn T a5) (bnd g57.fn);have aA:=cal (k:=55) (sp:=(QY _ 50)) g28 (ok_lc g28.fn T (X1 X G g28.at_) (bnd g28.fn) a5 a9 a7 50) (bnd g28.fn);have aF:=cal (k:=56) (sp:=(spIF _)) g29 (ok_if g29.fn T aO a5 a7 aA) (bnd g29.fn);have aQ:=cal (k:=106) (sp:=(spWi _ 50)) g30 (ok_wi g30.fn T (X1 X G g30.at_) (bnd g30.fn) a5 a9 a7 aA 50) (bnd g30.fn);have bL:=cal (k:=107) (sp:=(spWk _)) g31 (ok_wk g31.fn T aF a5 aA aQ) (bnd g31.fn);have b9:=cal (k:=1) (sp:=UM) g2 (ok_min g2.fn T) (bnd g2.fn);have bK:=cal (k:=1) (sp:=UU) g3 (ok_fig g3.fn T) (bnd g3.fn);have bO:=cal (k:=2) (sp:=(spRW _)) g1 (ok_rw g1.fn T b9 bK) (bnd g1.fn);have aN:=cal (k:=3) (sp:=(spRP K _)) g22 (ok_rp g22.fn T bO) (bnd g22.fn);have aZ:=cal (k:=1) (sp:=(UW K _)) g20 (ok_amt g20.fn T) (bnd g20.fn);have aM:=cal (k:=2) (sp:=(Mh K _)) g19 (ok_read g19.fn T aZ) (bnd g19.fn);have f1:=ok_filF (w:=w) (base:=base) g13.fn T aU aB aJ aG aK a5 bD bI bC;have f2:=ok_fill (w:=w) (base:=base) g13.fn T aU aB aJ aG aK a5 bD bI bC;have c7:=Cal.mk ⟨_,_,AO.or (AO.up f2) f1,(X1 X G g13.at_),g13.fn.kp,(bnd g13.fn)⟩;have f3:=ok_fr (w:=w) (base:=base) g23.fn T bP c7;have bV:=Cal.mk ⟨_,_,f3,(X1 X G g23.at_),g23.fn.kp,(bnd g23.fn)⟩;have f4:=ok_pat (w:=w) (base:=base) g21.fn T aN aM bV;have bW:=Cal.mk ⟨_,_,f4,(X1 X G g21.at_),g21.fn.kp,(bnd g21.fn)⟩;have aT:CalH l.prog w K mg base 1 "_law_word" DL (spWd K _):=⟨_,_,ok_wd g44.fn T,X1 X G g44.at_,g44.fn.kp,bnd g44.fn⟩
 have aE:=cal (k:=1) (sp:=spLF) g37 (ok_lf g37.fn T) (bnd g37.fn);have aV:=cal (k:=2) (sp:=Si) g38 (ok_lru g38.fn T aE) (bnd g38.fn);have b6:=cal (k:=2) (sp:=spLN) g39 (ok_ln g39.fn T aE) (bnd g39.fn);have bJ:=cal (k:=3) (sp:=UP) g40 (ok_lrd g40.fn T b6 aV) (bnd g40.fn);have b5:=cal (k:=1) (sp:=spSt) g41 (ok_st g41.fn T) (bnd g41.fn);have b8:=cal (k:=1) (sp:=spLe) g42 (ok_le g42.fn T) (bnd g42.fn);have aS:=cal (k:=5) (sp:=(spSA _)) g27 (ok_sa g27.fn T a5 a9 a7) (bnd g27.fn);have bQ:=cal (k:=108) (sp:=(US _)) g43 (ok_has g43.fn T aF aA aS bL) (bnd g43.fn);have bB:=cal (k:=106) (sp:=(Te K _ 2 _)) g45 (ok_lfd g45.fn T A3 bW aT) (bnd g45.fn);have aR:=cal (k:=3) (sp:=(Te K _ 1 _)) g46 (ok_lld g46.fn T A3 aM aT) (bnd g46.fn);have aY:=cal (k:=2) (sp:=spSR) g47 (ok_sr g47.fn T aO) (bnd g47.fn);have bA:=cal (k:=109) (sp:=(spRt K _)) g48 (ok_rt g48.fn T bB bJ b5 b8 bQ) (bnd g48.fn);have bG:=cal (k:=1) (sp:=(LC 5 1)) g34 (ok_odr g34.fn T) (bnd g34.fn);have bF:=cal (k:=1) (sp:=(LC 1 1)) g35 (ok_sgb g35.fn T) (bnd g35.fn);have aP:=cal (k:=1) (sp:=(LC 20 0)) g32 (ok_nmb g32.fn T) (bnd g32.fn);have bM:=cal (k:=1) (sp:=(LC 20 1)) g33 (ok_rnb g33.fn T) (bnd g33.fn);have bE:=cal (k:=1) (sp:=UL) g36 (ok_spo g36.fn T) (bnd g36.fn);exact ok_law g49.fn T bY aD bH bM bG aP bF bE bA aV aR aY
theorem walk{l:PySem.W.OpenLaw}{q:Program}{loose:List Str}{XP:(Str->Option Value)->Heap->Prop}{YP:World->Heap->Prop}{d:DefRec}{K:Params->W.Frag}(hn:l.most=some 63)(hdf:d.params.defaults=[])
  (hY:∀(w:World)(h:Heap),YP w h->(K w.params).In h)
  (F:∀(w:World)(mg:Str->Option Value)(fa:Addr)(h:Heap),(K w.params).In h->h.Ns mainGlobals mg->mg d.name=some (.ref fa) ->
   ∃fd:FuncData,(∀(s:Shared)(u:Value),BindsTo s fd ⟨[u],[]⟩ [("_law_script",u)])/\∀base:Heap,(K w.params).In base->base.Ns mainGlobals mg->AO l.prog w (K w.params) mg base CX0 110 fa fd ["_law_script"] (Sh (K w.params))) :
  PySem.W.WalkO q loose XP YP l.row.toRowW d [] (λf vs=>PySem.call f vs) :=
 L2.RV (n:=63) (k:=110) (x:="_law_script") (CX:=λ_=>CX0) (sp:=λw=>Sh (K w.params)) hn A3 hdf ⟨rfl,by decide,by decide⟩ hY F (λ_ _ a ns hl _ hS=>⟨a,ns,rfl,hS,hl,λ_=>rfl⟩) λ_ _ _ _ _ z=>z
end J
structure PySem.W.Fast:Prop where(tw4177223279294127579 tw4522465549816338466 tw8890419109865151345 tw17059230476314235612 tw9623247382423912928 tw13724965340420870151 tw14250052532655123439 tw10764921297005657806 tw1943382532593525852 tw18283193901754532247 tw4169489225768521870 tw12796990846384083752 tw17911661476293558014 tw15437594659758697678 tw5733709149136196233 tw8752725692248171395 tw11751066838531038546 tw17385370657063794715 tw11900730739255508212 tw1808004356820084506 tw16339901243442947554 tw12484558500986031666 tw12020789757729587302 tw11029854411829109949 tw15154789884787117438 tw14815961122463419441 tw1659527995956869957 tw13614624587047293700 tw13465989272233187003 tw12365804390723793523 tw2849744228455858165 tw15480750572995925239 tw13272858800545856358 tw12451739406292648150 tw7328579913564690512 tw15156388940647615283 tw5875294166082815250 tw2388677576238396533 tw5801648696872351559 tw754078832366156884 tw3407233074764073245 tw6142455507315693638 tw5924288637022396265 tw1135342815692281811 tw16719431470817943966 tw12687719024061837210 tw15518513380255929033 tw6408247327873247571 tw1796117468781116000 tw4535258626854467914 tw3483595179535025119 tw12988846998541451176 tw16784331592141560913 tw8111921482336627501 tw2012243513564752823 tw6787920517864122137 tw2476103129266570674 tw7811259186721963330 tw4767970560288742120 tw11785370781816646087 tw7563069655432611489 tw12530111935978363802 tw9134104689358489590 tw3028192873051952209 tw8892567476607521680 tw4500815081233618839 tw1361006991630142187 tw15169332988693338219 tw14116132904642690614 tw1952619282769211319 tw15774093682336532812 tw2495889097661934879 tw4591347254247745616 tw12354683563641649975 tw2591587472443162056 tw2241289658699673827 tw18443812983547415931 tw15888567140662795661 tw2311436356611866944 tw7741945875562906468 tw14517125428346467510 tw2371932106041998960 tw7994034704171137278 tw2836425621719454179 tw3013138075328004410 tw18245643100152176855 tw4263519375130060591 tw12559319271199255282 tw11215402469650245516 tw8622185284144262263 tw16567527376937920515 tw657276763033138335 tw4398925091911892219 tw11158552938665074147 tw1996940277174374919 tw11481840853746619789 tw15273491387447494880 tw16721326448225314205 tw227600523938550972 tw4156321174953437326 tw1961190388125018600 tw13606514700164946507 tw11317038557833066222 tw5256145697830061080 tw1970738592422290644 tw10025027114934723572 tw10032572983385315866 tw7619689561814962289 tw14110183712333699595 tw3937790735692710274 tw12987554566300537541 tw11749778567235324338 tw5708884600419256319 tw16398445281189363065 tw875316765986919891 tw13803987145062893557 tw1112171060711330652 tw1602725228434436981 tw2912794575781436759 tw6733091049446837168 tw16556735382562142882 tw550577760365210084 tw13133534933341606470 tw14991787329799055860 tw5211396329509639952 tw7791923848432109186 tw10778559106689615085 tw17970329192675713519 tw2131416151738655367 tw8705092772925321139 tw18327894558496584624 tw17445702059519523699 tw4639773706837301884 tw9798457586929369142 tw14049129068285442343 tw9475779060105211666 tw2215158816982578804 tw16147018727625863347 tw4784100250423013429 tw6378771045268701430 tw14027427675925548898 tw5512492177022899919 tw17324688768114197280 tw15618042026222649527 tw17983250118936389707 tw1131636512689817675 tw12032357373321798734 tw12546128146669531228 tw18022323630447567518 tw15484525956270251910 tw8269798592380267312 tw16043639996670085215 tw17229428640013187829 tw11562878797722246371 tw3268367504534093478 tw13059673291204187057 tw16626312705548415506 tw9638430404865395966 tw2575656637480544278 tw5808565973123465645 tw15067009150984628652 tw1578787717621976721 tw15124029263462143077 tw7217057400947818505 tw7285223071528618431 tw4395985204204695282 tw3142403430002537809 tw8905610002341905197 tw5453287480481609372 tw10190683501643516395 tw11542605501777604366 tw7193691840712543733 tw922432461704538276 tw10448642744414087669 tw11021134184007915178 tw9637062954858769720 tw1634825235298542935 tw3473556182090841268 tw9002629178805342002 tw2056371009830595814 tw792215955127043154 tw5851274853304051769 tw8586387846550753589 tw14409909466844450384 tw7101876025964915768 tw11935816482227051986 tw8995531611107042121 tw11454668843762677989 tw14111472899229508473 tw5147882418338594674 tw6516293798461115350 tw16832697203169062715 tw1959529438980022036 tw11983075944349681160 tw11161297197191094463 tw4076599673968923650 tw14870690189189519766 tw15777233555238311195 tw293316534033425250 tw14536056069344774499 tw10727576503952211138 tw2494806300491434460 tw1928497044605591804 tw6140957823208208783 tw11952090631746893577 tw17722501252298624779 tw4064765051805587480 tw18327146970160562534 tw5849133758775015527 tw15966770414278463265 tw8987029847941206679 tw8220419884761426507 tw10243949466083281281 tw44214559629068887 tw4750898384452710385 tw12983611858165015239 tw1154495520560942087 tw6810202736110870414 tw8197689543100753636 tw7273534611036722107 tw16807033429803773634 tw6515483711421114450 tw10476296842359659934 tw14175435049161843866 tw16169061710568792650 tw5800482977976907229 tw9253287072018803740 tw5161454034396476938 tw1672156861155049678 tw13932781505528008993 tw9877153847135630435 tw5541434117970703628 tw3330202268240902199 tw18342016586047752352 tw6265401228497260077 tw4739880129971668392 tw7006381234077297561 tw14847727452319676281 tw10257361462180592292 tw10626552053022318721 tw2008320567873484345 tw13595909438615978233 tw6247545991663446580 tw12416463767320300666 tw4666074908138157643 tw17095506372740801643 tw3055028712692922720 tw15619941795963810127 tw12766234134301456550 tw17727689377737787135 tw3804442791288831587 tw13718838880675472804 tw12208500780310714708 tw5067057027140771337 tw3350584738566335164 tw18159258903298116598 tw13400542553436868222 tw12493171165957122980 tw3314780184144841846 tw15339113502638842298 tw6530022449661400297 tw8105854187727337463 tw11543434189298383869 tw9103211195694616720 tw4425309790625918768 tw18193357195242079580 tw8960025391059853767 tw3992005392179067862 tw7984679479965581213 tw6450561521551220092 tw5116230843207957869 tw1746824076816748662 tw14357522563127081814 tw348076072923174510 tw8040380781070948535 tw18215637301850827497 tw11325082244451587352 tw18208616274325645513 tw705940035593167750 tw17928710740934730560 tw11882316573620208511 tw4805449845391468738 tw5349001635902091845 tw6406309843511112608 tw10818153794912923080 tw725387664010981586 tw8869309405757327782 tw12867486496548268592 tw14994292055778576033 tw17813334104963767827 tw658358871115743956 tw777901960849649553 tw14032478355013145566 tw5546286961815027930 tw16227299317640166536 tw5230397028281407874 tw3768677504535071363 tw5682650839160210411 tw319071520821898503 tw7098732688233523429 tw118216098132270343 tw7557377777579133959 tw15402296688264349062 tw14645553974457318346 tw9729464167460741180 tw6032403463416359975 tw15524849367607842103 tw2063442444478836238 tw15184989260563492738 tw8918382490510610129 tw11754953715302809129 tw1428300769251183799 tw1414852884698306679 tw12367239841698701994 tw2316185580137570840 tw16122589179334078357 tw2013216951882988791 tw5474775577014284838 tw11133748689820021424 tw2657566214768634089 tw7545105752794825942 tw9700929669367638073 tw1049785822356175217 tw9754704147279388479 tw8849765797449044333 tw5496092565897851392 tw10317457642877796584 tw14163761007564545229 tw17101308934283086945 tw3318185820324483077 tw10261296728784441770 tw4570708719218824801 tw313467151494595505 tw2403658175079157907 tw2184408360486425404 tw9935087466561291752 tw13380037527611862265 tw12990222926778928998 tw10748931852399780697 tw5703650643322898635 tw8999367010768617840 tw6316319207942149522 tw14936439733105614792 tw2923051418718332000 tw9189491020148818809 tw15940737908284366146 tw11945505534924611923 tw14845378082836533598 tw18300140374237568823 tw11085828292749394097 tw3059486642336123941 tw468064023332774102 tw16372901318528576540 tw14386981810197162722 tw9127615344911368641 tw1111990070748736085 tw8346912495438973867 tw2581246218060390240 tw8998446883357915197 tw16838127645384067375 tw9676586066909284756 tw1779064463465304208 tw9954663357613919424 tw11206064854062400030 tw7288930341889338984 tw16394165621346493495 tw12624665007254020890 tw10089356308236689723 tw7814927029938772023 tw16129411887982024040 tw12075514602339763637 tw3092600671421898701 tw12959552874144090918 tw17823111975994611218 tw11078653094287386815 tw6827419462944649672 tw1547257582479442357 tw2796289809369226961 tw4604485489871884336 tw9822054761629083329 tw6609186315296733737 tw2855395591623660976 tw1151164993317073743 tw12613313834638222746 tw5605045352772461200 tw15056151888511975514 tw520886194752677519 tw8538409261173080203 tw9223817567596477845 tw6109647395294497200 tw18303427234765200661 tw15280971951342502806 tw5000777960435252709 tw5180613660070539149 tw14472248578665979711 tw11834786626033473670 tw9195125591088848528 tw17449377172851532730 tw15881911746557820294 tw9768761412782885382 tw12636867475917691745 tw8393231736402182063 tw5638138118761079220 tw6729995603019256969 tw11395577745046178961 tw3891877673351759262 tw8703019101619715383 tw1692236462555354463 tw7430960989769826835 tw14912612380719778770 tw771620099578330552 tw8167200571011791494 tw5074483554852874602 tw8041852688857884183 tw7615582413755423153 tw11562726999777985514 tw10252982158552232129 tw7142587108510006712 tw16181788743426573426 tw17730697605101869058 tw5346056481169135287 tw14362055418907469093 tw7516891477766612165 tw13939383129268889886 tw5516167029586671294 tw18281948801432699582 tw2119837745408219722 tw1865316994009175026 tw2629566572146270862 tw13913372970798290287 tw11917936635046039121 tw3751668450438040465 tw12140560341787824768 tw17163658044748090731 tw15357231101526660748 tw18057782136039405772 tw11821055857369072544 tw11772260670731811791 tw9610533025731348835 tw2163524058402076118 tw10180828092962615870 tw13905565411820150873 tw6581301545643374169 tw4089445180297790779 tw7467850480423876296 tw16949101754331250860 tw998607008101967913 tw12461885871959254837 tw2547447962953695406 tw11766723982041610152 tw4218440463747529932 tw16031072954144644128 tw1673195983682227496 tw7131874158021850404 tw369304397987751918 tw46578984897141410 tw17321525208956266895 tw6576498135165675651 tw14007491724681186663 tw10383036243943377442 tw4964543725256940274 tw2181913781388929880 tw109281652975523853 tw17489791721660796336 tw17806875789142387187 tw2529474672884460439 tw16882866969030282280 tw13941979572962774510 tw1982656088536274123 tw2133176450948142731 tw13700474120326854134 tw17762671258229420612 tw11648919301344247880 tw6193667445081290692 tw14020335468531932509 tw14507607082175853728 tw15828045168204507735 tw16910321278231302929 tw5183225882971861911 tw18382664309749927026 tw7627392682535765582 tw13708826712983562479 tw7135322156485509583 tw3347889663993357152 tw7776856879507582929 tw8004667624870270350 tw13989744258171911704 tw11766583810338987047 tw6461355148834922683 tw309535829978427243 tw4930815470956391934 tw1435694438498769463 tw18063962405245322893 tw4025641013869717233 tw3625977976892315805 tw841671872627966618 tw13249414293970862066 tw34466036992912116 tw9276832209091652821 tw8994216462536605719 tw1091089432115113970 tw1590243560145740855 tw10221160382137681964 tw9862793081243079074:True)
open PySem PySem.W PyProof.Rows
set_option maxRecDepth 100000 in
set_option maxHeartbeats 0 in
theorem PySem.Challenge.cw_jumpfield_k84_no_pattern_holds : PySem.Challenge.rw_jumpfield_k84_no_pattern.Holds := by
 w_on; o_law; k_head; (case hw=>w_witness2)
 k_fill
 refine J.walk (l:=PySem.Challenge.rw_jumpfield_k84_no_pattern) rfl rfl (fun w h Y=>PySem.W.kIn_of Y) ?F
 case F =>
  intro w mg fa h KX G hmg;refine' J.fin KX G hmg ?h0 ?h1 ?h2 ?h3 ?h4 ?h5 ?h6 ?h7 ?h8 ?h9 ?h10 ?h11 ?h12 ?h13 ?h14 ?h15 ?h16 ?h17 ?h18 ?h19 ?h20 ?h21 ?h22 ?h23 ?h24 ?h25 ?h26 ?h27 ?h28 ?h29 ?h30 ?h31 ?h32 ?h33 ?h34 ?h35 ?h36 ?h37 ?h38 ?h39 ?h40 ?h41 ?h42 ?h43 ?h44 ?h45 ?h46 ?h47 ?h48 ?h49 ?h50 ?h51 ?h52 ?h53 ?h54 ?h55 ?h56 ?h57 ?h58 ?h59 ?h60 ?h61 ?h62 ?h63 ?h64 ?h65 ?h66 ?h67 ?h68 ?h69 ?h70 ?h71 ?h72 ?h73 ?h74 ?h75 ?h76 ?h77 ?h78 ?h79 ?h80 ?h81 ?h82 ?h83 ?h84 ?h85 ?h86 ?h87 ?h88 ?h89 ?h90 ?h91 ?h92 ?h93 ?h94 ?h95 ?h96 ?h97 ?h98 ?h99 ?h100 ?h101 ?h102 ?h103 ?h104 ?h105 ?h106 ?h107 ?h108 ?h109 ?h110 ?h111 ?h112 ?h113 ?h114 ?h115 ?h116 ?h117 ?h118 ?h119 ?h120 ?h121 ?h122 ?h123 ?h124 ?h125 ?h126 ?h127 ?h128 ?h129 ?h130 ?h131 ?h132 ?h133 ?h134 ?h135 ?h136 ?h137 ?h138 ?h139 ?h140 ?h141 ?h142 ?h143 ?h144 ?h145 ?h146 ?h147 ?h148 ?h149 ?h150 ?h151 ?h152 ?h153 ?h154 ?h155 ?h156 ?h157 ?h158 ?h159 ?h160 ?h161 ?h162 ?h163
  (case h0=>k_is)
  (case h1=>(refine' ⟨?_,?_,?_,?_⟩<;>k_is))
  (case h2 | h3 | h4 | h5 | h6 | h7=>k_is)
  (case h8 | h9 | h10 | h11 | h12 | h13 | h14 | h15 | h16 | h17 | h18 | h19 | h20 | h21 | h22 | h23 | h24 | h25 | h26 | h27 | h28 | h29 | h30 | h31 | h32 | h33 | h34 | h35 | h36 | h37 | h38 | h39 | h40 | h41 | h42 | h43 | h44 | h45 | h46 | h47 | h48 | h49 | h50 | h51 | h52 | h53 | h54 | h55 | h56 | h57=>(apply J.Fg.mk; k_is; apply L2.RH<;>k_is))
  (case h58 | h59 | h60 | h61 | h62 | h63 | h64 | h65=>(apply J.Fm.mk; (apply L2.WP.mk<;>k_is); apply L2.RH<;>k_is))
  (case h66=>(apply J.Fi.mk; (apply L2.Mk.mk<;>k_is); apply L2.RH<;>k_is))
  (case h67 | h68 | h69 | h70 | h71 | h72 | h73 | h74 | h75 | h76 | h77 | h78 | h79 | h80 | h81 | h82 | h83=>k_is)
  (case h84=>decide +kernel)
  (case h85 | h86 | h87 | h88 | h89 | h90=>k_is)
  (case h91=>decide +kernel)
  (case h92=>k_is)
  (case h93=>decide +kernel)
  (case h94=>k_is)
  (case h95=>decide +kernel)
  (case h96=>k_is)
  (case h97=>decide +kernel)
  (case h98 | h99 | h100 | h101 | h102 | h103 | h104 | h105 | h106 | h107 | h108 | h109 | h110 | h111 | h112 | h113 | h114=>k_is)
  (case h115 | h116 | h117 | h118=>(show PySem.W.excIn _ _ _ _=true; k_exc))
  (case h119 | h120 | h121 | h122 | h123 | h124 | h125 | h126 | h127=>k_is)
  (case h128 | h129 | h130 | h131 | h132 | h133 | h134 | h135 | h136 | h137 | h138 | h139 | h140 | h141=>kit_is)
  (case h142 | h143 | h144 | h145 | h146 | h147 | h148=>k_is)
  (case h149 | h150 | h151 | h152 | h153 | h154 | h155 | h156 | h157 | h158 | h159 | h160 | h161 | h162=>kit_is)
  (case h163=>k_is)
